/-
  A call whose two results go into two boxes that are made for them, in any order.
-/
import Derived.Test.YtjjdcnkbibkmkaaGreatDoorKitM
namespace Go.Proofs.YtjjdcnkbibkmkaaGreatDoor
open Go.Proofs.Tryz
open Go.ChangeShapes Go.WideShapes Go.ChangeAt Go.RowKit
set_option linter.unusedVariables false
variable {E F:Env} {R0:World->Prop} {a:Act} {b d k:Nat}

theorem look_app:∀ (E F:Env) (d:Nat),look (E++F) d=(look E d).or (look F d)
 | [],_,_=>rfl
 | (k,v)::E,F,d=>by
  have h:=look_app E F d;show (bif Nat.beq k d then some v else look (E++F) d)=(bif Nat.beq k d then some v else look E d).or (look F d);cases Nat.beq k d
  ·exact h
  rfl
theorem look_app_n (h:look E d=none):look (E++F) d=look F d:=by
 rw [look_app,h];rfl
theorem look_one (d k:Nat) (v:Value):look [(k,v)] d=if k=d then some v else none:=by
 unfold look;by_cases e:k=d
 ·subst e;simp
 rw [if_neg e];have:Nat.beq k d=false:=by
  cases h:Nat.beq k d
  ·rfl
  exact absurd (Nat.eq_of_beq_eq_true h) e
 rw [this];rfl
theorem look_more {v u:Value} (h:look F d=some u):look (F++[(k,v)]) d=some u:=by
 rw [look_app,h];rfl
theorem look_less {v:Value} (h:look F d=none) (e:k≠d):look (F++[(k,v)]) d=none:=by
 rw [look_app,h];show look [(k,v)] d=none;rw [look_one,if_neg e]
theorem look_new {v:Value} (h:look F d=none):look (F++[(d,v)]) d=some v:=by
 rw [look_app,h];show look [(d,v)] d=some v;rw [look_one,if_pos rfl]
theorem Holds.back {n:Nat} {v:Value} (h:Holds n ((d,v)::(E++F)) a) (h1:look E d=none) (h2:look F d=none):Holds n (E++(F++[(d,v)])) a:=h.weak fun k u q=>by
 rw [<-List.append_assoc,look_app] at q;have hn:look (E++F) d=none:=by rw [look_app_n h1];exact h2
 cases e:look (E++F) k with
 | some x =>
  rw [e] at q;unfold look;cases z:Nat.beq d k with
  | true =>
   obtain rfl:=Nat.eq_of_beq_eq_true z;rw [hn] at e;cases e
  | false=>exact e.trans q
 | none =>
  rw [e] at q;have q':look [(d,v)] k=some u:=q;rw [look_one] at q';unfold look;split at q'
  ·rename_i z
   subst z;simpa using q'
  cases q'
structure PI (n:Nat) (w0:World) (E1:Env) (dx dy:Nat) (tx ty:TypeId) (x y:Bool) (rx ry:Array Value) (bx b2:Nat) (F:Env) (a:Act) (w:World):Prop where
 hold:Holds n (E1++F) a
 keeps:Keeps w0 w
 x0:x=false->look F dx=none
 x1:x=true->look F dx=some (pv bx 0)/\w0.heap.size<=bx/\RowAt w bx tx rx
 y0:y=false->look F dy=none
 y1:y=true->look F dy=some (pv b2 0)/\w0.heap.size<=b2/\RowAt w b2 ty ry
 ne:x=true->y=true->bx≠b2
section
variable {n:Nat} {w0 w w':World} {E1 F:Env} {dx dy d:Nat} {tx ty:TypeId} {x y:Bool} {rx ry:Array Value} {bx b2:Nat} {a a':Act} {v:Value}
theorem PI.other (h:PI n w0 E1 dx dy tx ty x y rx ry bx b2 F a w) (g:Bw w w') (h1:look E1 d=none) (h2:look F d=none) (e1:d≠dx) (e2:d≠dy) (ha:Holds n ((d,v)::(E1++F)) a'):PI n w0 E1 dx dy tx ty x y rx ry bx b2 (F++[(d,v)]) a' w':=by
 have hs:w0.heap.size<=w.heap.size:=h.keeps.size;refine ⟨ha.back h1 h2,h.keeps.trans (g.mono hs),fun q=>look_less (h.x0 q) e1,fun q=>?_,fun q=>look_less (h.y0 q) e2,fun q=>?_,h.ne⟩
 ·obtain ⟨p1,p2,p3⟩:=h.x1 q;exact ⟨look_more p1,p2,Rb g p3⟩
 obtain ⟨p1,p2,p3⟩:=h.y1 q;exact ⟨look_more p1,p2,Rb g p3⟩
theorem PI.mkx (h:PI n w0 E1 dx dy tx ty false y rx ry bx b2 F a w) (g:New w w' b tx rx) (h1:look E1 dx=none) (e:dx≠dy) (ha:Holds n ((dx,pv b 0)::(E1++F)) a'):PI n w0 E1 dx dy tx ty true y rx ry b b2 (F++[(dx,pv b 0)]) a' w':=by
 have hs:w0.heap.size<=w.heap.size:=h.keeps.size;have gb:=g.blk;have h2:=h.x0 rfl;refine ⟨ha.back h1 h2,h.keeps.trans (g.below.mono hs),fun q=>(by cases q),fun _=>⟨look_new h2,by omega,g.row⟩,fun q=>look_less (h.y0 q) e,fun q=>?_,fun _ q=>?_⟩
 ·obtain ⟨p1,p2,p3⟩:=h.y1 q;exact ⟨look_more p1,p2,g.keep p3⟩
 have:=(h.y1 q).2.2.lt;omega
theorem PI.mky (h:PI n w0 E1 dx dy tx ty x false rx ry bx b2 F a w) (g:New w w' b ty ry) (h1:look E1 dy=none) (e:dx≠dy) (ha:Holds n ((dy,pv b 0)::(E1++F)) a'):PI n w0 E1 dx dy tx ty x true rx ry bx b (F++[(dy,pv b 0)]) a' w':=by
 have hs:w0.heap.size<=w.heap.size:=h.keeps.size;have gb:=g.blk;have h2:=h.y0 rfl;refine ⟨ha.back h1 h2,h.keeps.trans (g.below.mono hs),fun q=>look_less (h.x0 q) (Ne.symm e),fun q=>?_,fun q=>(by cases q),fun _=>⟨look_new h2,by omega,g.row⟩,fun q _=>?_⟩
 ·obtain ⟨p1,p2,p3⟩:=h.x1 q;exact ⟨look_more p1,p2,g.keep p3⟩
 have:=(h.x1 q).2.2.lt;omega
theorem PI.setx {cs:Array Value} (h:PI n w0 E1 dx dy tx ty true y rx ry bx b2 F a w) (g:Set1 w w' bx tx cs) (ha:Holds n (E1++F) a'):PI n w0 E1 dx dy tx ty true y cs ry bx b2 F a' w':=by
 obtain ⟨p1,p2,p3⟩:=h.x1 rfl;refine ⟨ha,h.keeps.trans (g.below _ p2),h.x0,fun _=>⟨p1,p2,g.row⟩,h.y0,fun q=>?_,h.ne⟩;obtain ⟨r1,r2,r3⟩:=h.y1 q;exact ⟨r1,r2,g.keep r3 (Ne.symm (h.ne rfl q))⟩
theorem PI.sety {cs:Array Value} (h:PI n w0 E1 dx dy tx ty x true rx ry bx b2 F a w) (g:Set1 w w' b2 ty cs) (ha:Holds n (E1++F) a'):PI n w0 E1 dx dy tx ty x true rx cs bx b2 F a' w':=by
 obtain ⟨p1,p2,p3⟩:=h.y1 rfl;refine ⟨ha,h.keeps.trans (g.below _ p2),h.x0,fun q=>?_,h.y0,fun _=>⟨p1,p2,g.row⟩,h.ne⟩;obtain ⟨r1,r2,r3⟩:=h.x1 q;exact ⟨r1,r2,g.keep r3 (h.ne q rfl)⟩
end
def stL (L:Array Bool) (ix iy isx isy x y:Nat):Array Bool :=
 let L:=if 1<=x then L.setIfInBounds ix true else L
 let L:=if 1<=y then L.setIfInBounds iy true else L
 let L:=if 2<=x then L.setIfInBounds isx true else L
 if 2<=y then L.setIfInBounds isy true else L
def ok2 (ops:Array Oper) (L:Array Bool) (ix iy isx isy x y:Nat):Bool :=
 let R:=Region.ready .any ops (stL L ix iy isx isy x y)
 (R.all fun i=>(i == ix && x == 0) || (i == iy && y == 0) || (i == isx && x == 1) || (i == isy && y == 1)) && ((x == 2 && y == 2) == R.isEmpty)
  && (x == 2 || (stL L ix iy isx isy x y).setIfInBounds (if x=0 then ix else isx) true == stL L ix iy isx isy (x+1) y)
  && (y == 2 || (stL L ix iy isx isy x y).setIfInBounds (if y=0 then iy else isy) true == stL L ix iy isx isy x (y+1))
structure Box2 {U:Type} (ops:Array Oper) (n:Nat) (w0:World) (E1:Env) (R1:U->World->Prop) (cx cy:U->Array Value) (tx ty:TypeId) (zx zy:Array Value) (dx dy ex ey ix iy isx isy:Nat):Prop where
 ax:∃ o,ops[ix]?=some o/\o.op=.alloc tx/\o.dst=some dx/\o.guard=none
 ay:∃ o,ops[iy]?=some o/\o.op=.alloc ty/\o.dst=some dy/\o.guard=none
 sx:∃ o,ops[isx]?=some o/\o.op=.store tx (.tmp dx) (.tmp ex)/\o.dst=none/\o.guard=none
 sy:∃ o,ops[isy]?=some o/\o.op=.store ty (.tmp dy) (.tmp ey)/\o.dst=none/\o.guard=none
 infx:(prog.info? tx).map (fun i=>(i.zero,i.size))=some (some (.agg zx),zx.size)
 infy:(prog.info? ty).map (fun i=>(i.zero,i.size))=some (some (.agg zy),zy.size)
 cx:∀ u,(cx u).size=zx.size/\(cx u).all (·.oneCell')=true
 cy:∀ u,(cy u).size=zy.size/\(cy u).all (·.oneCell')=true
 new:∀ u w w',R1 u w->Bw w w'->R1 u w'
 setx:∀ u w w' b new,R1 u w->RowAt w b tx zx->w0.heap.size<=b->Set1 w w' b tx new->R1 u w'
 sety:∀ u w w' b new,R1 u w->RowAt w b ty zy->w0.heap.size<=b->Set1 w w' b ty new->R1 u w'
 nd:dx≠dy/\dx<n/\dy<n
 ne:∀ d∈[dx,dy,ex,ey],look E1 d=none
section
variable {U:Type} {ops:Array Oper} {Q:Exit->Act->World->Prop} {n:Nat} {w0:World} {E1:Env} {R1:U->World->Prop} {cx cy:U->Array Value} {tx ty:TypeId} {zx zy:Array Value} {dx dy ex ey ix iy isx isy K:Nat} {L:Array Bool}
theorem size_info {t:TypeId} {z:Value} {m:Nat} (h:(prog.info? t).map (fun i=>(i.zero,i.size))=some (some z,m)):(prog.info? t).map (·.size)=some m:=by
 cases e:prog.info? t with
 | none=>rw [e] at h;cases h
 | some i =>
  rw [e] at h;simp at h;simp [h.2]
theorem box2 (S:Box2 ops n w0 E1 R1 cx cy tx ty zx zy dx dy ex ey ix iy isx isy) (hok:∀ x,x<=2->∀ y,y<=2->ok2 ops L ix iy isx isy x y=true)
  (fin:∀ u bx b2 w,Keeps w0 w->w0.heap.size<=bx->w0.heap.size<=b2->bx≠b2->RowAt w bx tx (cx u)->RowAt w b2 ty (cy u)->R1 u w->∀ a,Holds n ((dx,pv bx 0)::(dy,pv b2 0)::E1) a->Q .normal a w) :
  ∀ m x y,x<=2->y<=2->x+y+m=4->∀ u bx b2 F a w,PI n w0 E1 dx dy tx ty (decide (1<=x)) (decide (1<=y)) (if x=2 then cx u else zx) (if y=2 then cy u else zy) bx b2 F a w->R1 u w->look F ex=some (.agg (cx u))->look F ey=some (.agg (cy u))->wpAnyH prog .any ops Q (Keeps w0) (K+m) (stL L ix iy isx isy x y) a w:=by
 have n1:=S.ne dx (by simp);have n2:=S.ne dy (by simp);have n3:=S.ne ex (by simp);have n4:=S.ne ey (by simp);obtain ⟨nd,lx,ly⟩:=S.nd;intro m;induction m with
 | zero =>
  intro x y hx hy hm u bx b2 F a w h hR e1 e2;obtain rfl:x=2:=by omega
  obtain rfl:y=2:=by omega
  have hk:=hok 2 Lr 2 Lr;unfold ok2 at hk;simp only [Bool.and_eq_true] at hk;have hr:Region.ready .any ops (stL L ix iy isx isy 2 2)=[]:=by simpa using hk.1.1.2
  obtain ⟨p1,p2,p3⟩:=h.x1 rfl;obtain ⟨q1,q2,q3⟩:=h.y1 rfl;refine wpAnyH_done hr (fin u bx b2 w h.keeps p2 q2 (h.ne rfl rfl) p3 q3 hR a (h.hold.weak fun d v q=>?_)) _;rw [look_app];unfold look at q;cases z:Nat.beq dx d with
  | true =>
   rw [z] at q;obtain rfl:=Nat.eq_of_beq_eq_true z;rw [n1];exact p1.trans q
  | false =>
   rw [z] at q;have q':look ((dy,pv b2 0)::E1) d=some v:=q;unfold look at q';cases z:Nat.beq dy d with
   | true =>
    rw [z] at q';obtain rfl:=Nat.eq_of_beq_eq_true z;rw [n2];exact q1.trans q'
   | false =>
    rw [z] at q';have q2:look E1 d=some v:=q';rw [q2];rfl
 | succ m ih =>
  intro x y hx hy hm u bx b2 F a w h hR e1 e2;have hk:=hok x hx y hy;unfold ok2 at hk;simp only [Bool.and_eq_true] at hk;obtain ⟨⟨⟨k1,k2⟩,k3⟩,k4⟩:=hk;have hne:Region.ready .any ops (stL L ix iy isx isy x y)≠[]:=fun z=>by
   rw [z] at k2;have:x=2/\y=2:=by simpa using k2
   omega
  refine wpAnyH_all (fuel:=K+m) rfl hne fun i hi=>?_;have hc:=List.all_eq_true.1 k1 i hi;simp only [Bool.or_eq_true,Bool.and_eq_true,beq_iff_eq] at hc;rcases hc with ((⟨rfl,rfl⟩ | ⟨rfl,rfl⟩) | ⟨rfl,rfl⟩) | ⟨rfl,rfl⟩
  ·obtain ⟨o,ho,hop,hd,hg⟩:=S.ax;have hst:(stL L i iy isx isy 0 y).setIfInBounds i true=stL L i iy isx isy 1 y:=by simpa using k3
   refine op_of_lg i ho (Qb hg) h.hold (lg_allocw (Qb hg) hop S.infx hd lx fun b w' g=>fun a' ha'=>?_);have h':=PI.mkx (rx:=zx) h g n1 nd ha';exact ⟨h'.keeps,by rw [hst];exact ih 1 y (by omega) hy (by omega) u b b2 _ a' w' h' (S.new _ _ _ hR g.below) (look_more e1) (look_more e2)⟩
  ·obtain ⟨o,ho,hop,hd,hg⟩:=S.ay;have hst:(stL L ix i isx isy x 0).setIfInBounds i true=stL L ix i isx isy x 1:=by simpa using k4
   refine op_of_lg i ho (Qb hg) h.hold (lg_allocw (Qb hg) hop S.infy hd ly fun b w' g=>fun a' ha'=>?_);have h':=PI.mky (ry:=zy) h g n2 nd ha';exact ⟨h'.keeps,by rw [hst];exact ih x 1 hx (by omega) (by omega) u bx b _ a' w' h' (S.new _ _ _ hR g.below) (look_more e1) (look_more e2)⟩
  ·obtain ⟨o,ho,hop,hd,hg⟩:=S.sx;have hst:(stL L ix iy i isy 1 y).setIfInBounds i true=stL L ix iy i isy 2 y:=by simpa using k3
   obtain ⟨p1,p2,p3⟩:=h.x1 rfl;obtain ⟨c1,c2⟩:=S.cx u;refine op_of_lg i ho (Qb hg) h.hold (lg_stw (cs:=cx u) (Qb hg) p3 hop (by show look _ _=_;rw [look_app_n n1];exact p1) (by show look _ _=_;rw [look_app_n n3];exact e1) (by rw [c1];exact size_info S.infx) c2 (by show zx.size=_;exact c1.symm) hd fun w' g=>fun a' ha'=>?_);have h':=PI.setx h g ha';exact ⟨h'.keeps,by rw [hst];exact ih 2 y Lr hy (by omega) u bx b2 _ a' w' h' (S.setx _ _ _ _ _ hR p3 p2 g) e1 e2⟩
  obtain ⟨o,ho,hop,hd,hg⟩:=S.sy;have hst:(stL L ix iy isx i x 1).setIfInBounds i true=stL L ix iy isx i x 2:=by simpa using k4
  obtain ⟨p1,p2,p3⟩:=h.y1 rfl;obtain ⟨c1,c2⟩:=S.cy u;refine op_of_lg i ho (Qb hg) h.hold (lg_stw (cs:=cy u) (Qb hg) p3 hop (by show look _ _=_;rw [look_app_n n2];exact p1) (by show look _ _=_;rw [look_app_n n4];exact e2) (by rw [c1];exact size_info S.infy) c2 (by show zy.size=_;exact c1.symm) hd fun w' g=>fun a' ha'=>?_);have h':=PI.sety h g ha';exact ⟨h'.keeps,by rw [hst];exact ih x 2 hx Lr (by omega) u bx b2 _ a' w' h' (S.sety _ _ _ _ _ hR p3 p2 g) e1 e2⟩
theorem v_move {o:Oper} {x:Operand} {v:Value} (ho:o.op=.move x) (hx:val E x=some v) (w:World) (n:Nat) (a:Act) (ha:Holds n E a):(execOp a.eval o).run prog w=.ok (.value v) w:=by
 unfold execOp;rw [ho];simp only [ha.eval hx];rfl
def callL (L:Array Bool) (ic im ipx ipy:Nat):Array Bool:=(((L.setIfInBounds ic true).setIfInBounds im true).setIfInBounds ipx true).setIfInBounds ipy true
def ok1 (ops:Array Oper) (L:Array Bool) (ic im ipx ipy ix iy isx isy x y:Nat):Bool :=
 let L1:=stL L ix iy isx isy x y
 let A:=L1.setIfInBounds ic true
 let B:=A.setIfInBounds im true
 let C:=B.setIfInBounds ipx true
 (((Region.ready .any ops L1).all fun i=>i == ic || (i == ix && x == 0) || (i == iy && y == 0)) && !(Region.ready .any ops L1).isEmpty)
  && (x == 1 || L1.setIfInBounds ix true == stL L ix iy isx isy (x+1) y)
  && (y == 1 || L1.setIfInBounds iy true == stL L ix iy isx isy x (y+1))
  && (Region.free .any ops A im && (Region.ready .any ops A).contains im)
  && (Region.free .any ops B ipx && (Region.ready .any ops B).contains ipx)
  && (Region.free .any ops C ipy && (Region.ready .any ops C).contains ipy)
  && C.setIfInBounds ipy true == stL (callL L ic im ipx ipy) ix iy isx isy x y
structure Call1 {U:Type} (ops:Array Oper) (Q:Exit->Act->World->Prop) (n:Nat) (w0:World) (E1:Env) (R0:World->Prop) (R1:U->World->Prop) (cx cy:U->Array Value) (dc dm dx dy ex ey ic im ipx ipy:Nat):Prop where
 call:∃ o,ops[ic]?=some o/\o.guard=none/\∀ F w (K:Act->World->Prop),Keeps w0 w->R0 w->(∀ u a' w',Bw w w'->R1 u w'->Holds n ((dc,.tuple #[.agg (cx u),.agg (cy u)])::(E1++F)) a'->K a' w')->LG prog ops (Exit.then K Q) n (E1++F) [o] w
 mv:∃ o,ops[im]?=some o/\o.op=.move (.tmp dc)/\o.dst=some dm/\o.guard=none
 px:∃ o,ops[ipx]?=some o/\o.op=.extract (.tmp dm) 0/\o.dst=some ex/\o.guard=none
 py:∃ o,ops[ipy]?=some o/\o.op=.extract (.tmp dm) 1/\o.dst=some ey/\o.guard=none
 below:∀ w w',R0 w->Bw w w'->R0 w'
 sel:Region.noSelect ops=true
 pan:∀ d v c a w,Q (.panic c) (a.put (some d) v) w->Q (.panic c) a w
 nd:dm≠dc/\ex≠dc/\ey≠dc/\ex≠dm/\ey≠dm/\ex≠ey/\(∀ d∈[dc,dm,ex,ey],d≠dx/\d≠dy)/\dm<n/\ex<n/\ey<n
 ne:look E1 dc=none/\look E1 dm=none
theorem call1 {dc dm ic im ipx ipy:Nat} (C:Call1 ops Q n w0 E1 R0 R1 cx cy dc dm dx dy ex ey ic im ipx ipy) (S:Box2 ops n w0 E1 R1 cx cy tx ty zx zy dx dy ex ey ix iy isx isy)
    (hok1:∀ x,x<=1->∀ y,y<=1->ok1 ops L ic im ipx ipy ix iy isx isy x y=true) (hok:∀ x,x<=2->∀ y,y<=2->ok2 ops (callL L ic im ipx ipy) ix iy isx isy x y=true)
    (fin:∀ u bx b2 w,Keeps w0 w->w0.heap.size<=bx->w0.heap.size<=b2->bx≠b2->RowAt w bx tx (cx u)->RowAt w b2 ty (cy u)->R1 u w->∀ a,Holds n ((dx,pv bx 0)::(dy,pv b2 0)::E1) a->Q .normal a w) :
    ∀ m x y,x<=1->y<=1->x+y+m=2->∀ bx b2 F a w,PI n w0 E1 dx dy tx ty (decide (1<=x)) (decide (1<=y)) zx zy bx b2 F a w->R0 w->(∀ d∈[dc,dm,ex,ey],look F d=none)->wpAnyH prog .any ops Q (Keeps w0) (K+(m+2)+4) (stL L ix iy isx isy x y) a w:=by
  have n1:=S.ne dx (by simp);have n2:=S.ne dy (by simp);have n3:=S.ne ex (by simp);have n4:=S.ne ey (by simp);obtain ⟨n5,n6⟩:=C.ne;obtain ⟨nd,lx,ly⟩:=S.nd;obtain ⟨d1,d2,d3,d4,d5,d6,d7,b1,b2',b3⟩:=C.nd;intro m;induction m with
  | zero=>?_
  | succ m ih=>?_
  all_goals
    intro x y hx hy hm bx b2 F a w h hR hF;have hk:=hok1 x hx y hy;unfold ok1 at hk;simp only [Bool.and_eq_true] at hk;obtain ⟨⟨⟨⟨⟨⟨⟨k1,k2⟩,k3⟩,k4⟩,k5,k6⟩,k7,k8⟩,k9,k10⟩,k11⟩:=hk;have hne:Region.ready .any ops (stL L ix iy isx isy x y)≠[]:=fun z=>by
      rw [z] at k2;cases k2
    refine wpAnyH_all rfl hne fun i hi=>?_;have hc:=List.all_eq_true.1 k1 i hi;simp only [Bool.or_eq_true,Bool.and_eq_true,beq_iff_eq] at hc;rcases hc with (rfl | ⟨rfl,rfl⟩) | ⟨rfl,rfl⟩
    rotate_left
    · first
      | (exfalso;omega)
      | (obtain ⟨o,ho,hop,hd,hg⟩:=S.ax
         have hst:(stL L i iy isx isy 0 y).setIfInBounds i true=stL L i iy isx isy 1 y:=by simpa using k3
         refine op_of_lg i ho (Qb hg) h.hold (lg_allocw (Qb hg) hop S.infx hd lx fun b w' g=>fun a' ha'=>?_);have h':=PI.mkx (rx:=zx) h g n1 nd ha';exact ⟨h'.keeps,by rw [hst];exact ih 1 y (by omega) hy (by omega) b b2 _ a' w' h' (C.below _ _ hR g.below) fun d hd=>look_less (hF d hd) fun e=>(d7 d hd).1 e.symm⟩)
    · first
      | (exfalso;omega)
      | (obtain ⟨o,ho,hop,hd,hg⟩:=S.ay
         have hst:(stL L ix i isx isy x 0).setIfInBounds i true=stL L ix i isx isy x 1:=by simpa using k4
         refine op_of_lg i ho (Qb hg) h.hold (lg_allocw (Qb hg) hop S.infy hd ly fun b w' g=>fun a' ha'=>?_);have h':=PI.mky (ry:=zy) h g n2 nd ha';exact ⟨h'.keeps,by rw [hst];exact ih x 1 hx (by omega) (by omega) bx b _ a' w' h' (C.below _ _ hR g.below) fun d hd=>look_less (hF d hd) fun e=>(d7 d hd).2 e.symm⟩)
    · obtain ⟨o,ho,hg,hcall⟩:=C.call
      refine op_of_lg i ho (Qb hg) h.hold (hcall F w _ h.keeps hR fun u a' w' g r1 ha'=>?_);have c1:=hF dc (by simp);have c2:=hF dm (by simp);have c3:=hF ex (by simp);have c4:=hF ey (by simp);have h1:=h.other g n5 c1 (d7 dc (by simp)).1 (d7 dc (by simp)).2 ha';refine ⟨h1.keeps,?_⟩;obtain ⟨om,hm1,hm2,hm3,hm4⟩:=C.mv;obtain ⟨op,hp1,hp2,hp3,hp4⟩:=C.px;obtain ⟨oq,hq1,hq2,hq3,hq4⟩:=C.py;refine hg_takev im hm1 (Qb hm4) hm3 b1 C.sel k5 k6 (fun c a w=>C.pan dm _ c a w) h1.keeps (v_move hm2 (by show look _ _=_;rw [look_app_n n5];exact look_new c1)) (fun a2 ha2=>?_) a' h1.hold;have h2:=h1.other (Below.refl _ _) n6 (look_less c2 d1.symm) (d7 dm (by simp)).1 (d7 dm (by simp)).2 ha2;refine hg_takev ipx hp1 (Qb hp4) hp3 b2' C.sel k7 k8 (fun c a w=>C.pan ex _ c a w) h2.keeps (v_extract hp2 (by show look _ _=_;rw [look_app_n n6];exact look_new (look_less c2 d1.symm)) rfl) (fun a3 ha3=>?_) a2 h2.hold;have h3:=h2.other (Below.refl _ _) n3 (look_less (look_less c3 d2.symm) d4.symm) (d7 ex (by simp)).1 (d7 ex (by simp)).2 ha3;refine hg_takev ipy hq1 (Qb hq4) hq3 b3 C.sel k9 k10 (fun c a w=>C.pan ey _ c a w) h3.keeps (v_extract hq2 (by show look _ _=_;rw [look_app_n n6];exact look_more (look_new (look_less c2 d1.symm))) rfl) (fun a4 ha4=>?_) a3 h3.hold;have h4:=h3.other (Below.refl _ _) n4 (look_less (look_less (look_less c4 d3.symm) d5.symm) d6) (d7 ey (by simp)).1 (d7 ey (by simp)).2 ha4;have hst:=eq_of_beq k11;rw [hst];have hx2:x≠2:=by omega
      have hy2:y≠2:=by omega
      rw [<-(if_neg hx2:(if x=2 then cx u else zx)=zx),<-(if_neg hy2:(if y=2 then cy u else zy)=zy)] at h4;exact box2 S hok fin _ x y (by omega) (by omega) (by omega) u bx b2 _ a4 w' h4 r1 (look_more (look_new (look_less (look_less c3 d2.symm) d4.symm))) (look_new (look_less (look_less (look_less c4 d3.symm) d5.symm) d6))
theorem PI.start {w:World} {zx zy:Array Value} (hw:Keeps w0 w) (ha:Holds n E a):PI n w0 E dx dy tx ty false false zx zy 0 0 [] a w :=
 ⟨by rw [List.append_nil];exact ha,hw,fun _=>rfl,fun q=>(by cases q),fun _=>rfl,fun q=>(by cases q),fun q=>(by cases q)⟩
theorem hg_call1 {dc dm ic im ipx ipy:Nat} {w:World} (C:Call1 ops Q n w0 E1 R0 R1 cx cy dc dm dx dy ex ey ic im ipx ipy) (S:Box2 ops n w0 E1 R1 cx cy tx ty zx zy dx dy ex ey ix iy isx isy) (hw:Keeps w0 w) (hR:R0 w)
  (hok1:∀ x,x<=1->∀ y,y<=1->ok1 ops L ic im ipx ipy ix iy isx isy x y=true) (hok:∀ x,x<=2->∀ y,y<=2->ok2 ops (callL L ic im ipx ipy) ix iy isx isy x y=true)
  (fin:∀ u bx b2 w,Keeps w0 w->w0.heap.size<=bx->w0.heap.size<=b2->bx≠b2->RowAt w bx tx (cx u)->RowAt w b2 ty (cy u)->R1 u w->∀ a,Holds n ((dx,pv bx 0)::(dy,pv b2 0)::E1) a->Q .normal a w):HG prog ops Q w0 n (K+8) L E1 w:=fun a ha =>
 call1 C S hok1 hok fin 2 0 0 (by omega) (by omega) rfl 0 0 [] a w (PI.start hw ha) hR fun _ _=>rfl
theorem Holds.mid {v:Value} (h:Holds n ((d,v)::(E++F)) a) (h1:look E d=none) (h2:look F d=none):Holds n ((E++[(d,v)])++F) a:=(h.back h1 h2).weak fun k u q=>by
 rw [look_app,look_app] at q;rw [look_app,look_app];cases e:look E k with
 | some x=>rw [e] at q;exact q
 | none =>
  rw [e] at q;cases e2:look F k with
  | none =>
   rw [e2] at q;have q':(look [(d,v)] k).or none=some u:=q;show (none:Option Value).or (look [(d,v)] k)=some u;rw [Option.or_none] at q';exact q'
  | some x =>
   rw [e2] at q;have q':(look [(d,v)] k).or (some x)=some u:=q;have hd:d≠k:=by
    rintro rfl;rw [h2] at e2;cases e2
   rw [look_one,if_neg hd] at q';exact q'
theorem PI.mid {v:Value} {x y:Bool} {rx ry:Array Value} {bx b2:Nat} {a':Act} {w w':World} (h:PI n w0 E dx dy tx ty x y rx ry bx b2 F a w) (g:Bw w w') (h1:look E d=none) (h2:look F d=none) (ha:Holds n ((d,v)::(E++F)) a'):PI n w0 (E++[(d,v)]) dx dy tx ty x y rx ry bx b2 F a' w':=by
 have hs:w0.heap.size<=w.heap.size:=h.keeps.size;refine ⟨ha.mid h1 h2,h.keeps.trans (g.mono hs),h.x0,fun q=>?_,h.y0,fun q=>?_,h.ne⟩
 ·obtain ⟨p1,p2,p3⟩:=h.x1 q;exact ⟨p1,p2,Rb g p3⟩
 obtain ⟨p1,p2,p3⟩:=h.y1 q;exact ⟨p1,p2,Rb g p3⟩
def ok0 (ops:Array Oper) (L:Array Bool) (i0 ix iy isx isy x y:Nat):Bool :=
 let L1:=stL L ix iy isx isy x y
 (((Region.ready .any ops L1).all fun i=>i == i0 || (i == ix && x == 0) || (i == iy && y == 0)) && !(Region.ready .any ops L1).isEmpty)
  && (x == 1 || L1.setIfInBounds ix true == stL L ix iy isx isy (x+1) y)
  && (y == 1 || L1.setIfInBounds iy true == stL L ix iy isx isy x (y+1))
  && L1.setIfInBounds i0 true == stL (L.setIfInBounds i0 true) ix iy isx isy x y
theorem hg_call0 {V:Type} {R0:V->World->Prop} {vl:V->Value} {d0 dc dm i0 ic im ipx ipy:Nat} {w:World} (v0:V)
    (C:∀ v,Call1 ops Q n w0 (E1++[(d0,vl v)]) (R0 v) R1 cx cy dc dm dx dy ex ey ic im ipx ipy) (S:∀ v,Box2 ops n w0 (E1++[(d0,vl v)]) R1 cx cy tx ty zx zy dx dy ex ey ix iy isx isy) (hw:Keeps w0 w)
    (h0:∃ o,ops[i0]?=some o/\o.guard=none/\∀ F w (K:Act->World->Prop),Keeps w0 w->(∀ v a' w',Bw w w'->R0 v w'->Holds n ((d0,vl v)::(E1++F)) a'->K a' w')->LG prog ops (Exit.then K Q) n (E1++F) [o] w)
    (nd:d0≠dx/\d0≠dy/\look E1 d0=none/\look E1 dx=none/\look E1 dy=none) (hd:∀ d∈[d0,dc,dm,ex,ey],d≠dx/\d≠dy)
    (hok0:∀ x,x<=1->∀ y,y<=1->ok0 ops L i0 ix iy isx isy x y=true)
    (hok1:∀ x,x<=1->∀ y,y<=1->ok1 ops (L.setIfInBounds i0 true) ic im ipx ipy ix iy isx isy x y=true) (hok:∀ x,x<=2->∀ y,y<=2->ok2 ops (callL (L.setIfInBounds i0 true) ic im ipx ipy) ix iy isx isy x y=true)
    (fin:∀ v u bx b2 w,Keeps w0 w->w0.heap.size<=bx->w0.heap.size<=b2->bx≠b2->RowAt w bx tx (cx u)->RowAt w b2 ty (cy u)->R1 u w->∀ a,Holds n ((dx,pv bx 0)::(dy,pv b2 0)::(E1++[(d0,vl v)])) a->Q .normal a w):HG prog ops Q w0 n (K+9) L E1 w:=by
  have S0:=S v0;obtain ⟨nd0,lx,ly⟩:=S0.nd;obtain ⟨m1,m2,m3,m4,m5⟩:=nd;have key:∀ m x y,x<=1->y<=1->x+y+m=2->∀ bx b2 F a w,PI n w0 E1 dx dy tx ty (decide (1<=x)) (decide (1<=y)) zx zy bx b2 F a w->(∀ d∈[d0,dc,dm,ex,ey],look F d=none)->wpAnyH prog .any ops Q (Keeps w0) (K+(m+2)+4+1) (stL L ix iy isx isy x y) a w:=by
    intro m;induction m with
    | zero=>?_
    | succ m ih=>?_
    all_goals
      intro x y hx hy hm bx b2 F a w h hF;have hk:=hok0 x hx y hy;unfold ok0 at hk;simp only [Bool.and_eq_true] at hk;obtain ⟨⟨⟨⟨k1,k2⟩,k3⟩,k4⟩,k5⟩:=hk;have hne:Region.ready .any ops (stL L ix iy isx isy x y)≠[]:=fun z=>by
        rw [z] at k2;cases k2
      refine wpAnyH_all rfl hne fun i hi=>?_;have hc:=List.all_eq_true.1 k1 i hi;simp only [Bool.or_eq_true,Bool.and_eq_true,beq_iff_eq] at hc;rcases hc with (rfl | ⟨rfl,rfl⟩) | ⟨rfl,rfl⟩
      rotate_left
      · first
        | (exfalso;omega)
        | (obtain ⟨o,ho,hop,hd',hg⟩:=S0.ax
           have hst:(stL L i iy isx isy 0 y).setIfInBounds i true=stL L i iy isx isy 1 y:=by simpa using k3
           refine op_of_lg i ho (Qb hg) h.hold (lg_allocw (Qb hg) hop S0.infx hd' lx fun b w' g=>fun a' ha'=>?_);have h':=PI.mkx (rx:=zx) h g m4 nd0 ha';exact ⟨h'.keeps,by rw [hst];exact ih 1 y (by omega) hy (by omega) b b2 _ a' w' h' fun d q=>look_less (hF d q) fun e=>(hd d q).1 e.symm⟩)
      · first
        | (exfalso;omega)
        | (obtain ⟨o,ho,hop,hd',hg⟩:=S0.ay
           have hst:(stL L ix i isx isy x 0).setIfInBounds i true=stL L ix i isx isy x 1:=by simpa using k4
           refine op_of_lg i ho (Qb hg) h.hold (lg_allocw (Qb hg) hop S0.infy hd' ly fun b w' g=>fun a' ha'=>?_);have h':=PI.mky (ry:=zy) h g m5 nd0 ha';exact ⟨h'.keeps,by rw [hst];exact ih x 1 hx (by omega) (by omega) bx b _ a' w' h' fun d q=>look_less (hF d q) fun e=>(hd d q).2 e.symm⟩)
      · obtain ⟨o,ho,hg,hcall⟩:=h0
        refine op_of_lg i ho (Qb hg) h.hold (hcall F w _ h.keeps fun v a' w' g r ha'=>?_);have h1:=h.mid g m3 (hF d0 (by simp)) ha';refine ⟨h1.keeps,?_⟩;have hst:=eq_of_beq k5;rw [hst];exact call1 (C v) (S v) hok1 hok (fin v) _ x y hx hy hm bx b2 F a' w' h1 r fun d q=>hF d (List.mem_cons_of_mem _ q)
  exact fun a ha=>key 2 0 0 (by omega) (by omega) rfl 0 0 [] a w (PI.start hw ha) fun _ _=>rfl
end
end Go.Proofs.YtjjdcnkbibkmkaaGreatDoor
