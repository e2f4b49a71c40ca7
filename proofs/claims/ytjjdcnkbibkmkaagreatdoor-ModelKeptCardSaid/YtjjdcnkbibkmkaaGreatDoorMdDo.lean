/-
  Do, its state and its answer in two boxes, in any order; a question ahead of it.
-/
import Derived.Test.YtjjdcnkbibkmkaaGreatDoorMdMore
import Derived.Test.YtjjdcnkbibkmkaaGreatDoorMdAny
namespace Go.Proofs.YtjjdcnkbibkmkaaGreatDoor
open Go.Proofs.Tryz
open Go.ChangeShapes Go.WideShapes Go.ChangeAt Go.RowKit
set_option linter.unusedVariables false

def offK (E:Env) (D:List Nat):Bool:=E.all fun p=>!D.contains p.1
theorem look_off:∀ {E:Env} {D:List Nat},offK E D=true->∀ d∈D,look E d=none
 | [],_,_,_,_=>rfl
 | (k,v)::E,D,h,d,hd=>by
  unfold offK at h;rw [List.all_cons,Bool.and_eq_true] at h;have ih:=look_off (E:=E) (D:=D) h.2 d hd;unfold look;cases z:Nat.beq k d with
  | false=>exact ih
  | true =>
   obtain rfl:=Nat.eq_of_beq_eq_true z;have:=h.1;simp [hd] at this
theorem look_pre {E F:Env} {x:Operand} {v:Value} (h:val E x=some v):val (E++F) x=some v:=by
 cases x with
 | tmp t =>
  have h':look E t=some v:=h;show look (E++F) t=some v;rw [look_app,h'];rfl
 | const u=>exact h
 | global g=>exact h
 | func f=>exact h
def R1do [Lo] (L':Sa) (A':An) (u:SaV × AnV) (w:World):Prop:=IsSa w w.heap.size u.1 L'/\IsAn w w.heap.size u.2 A'
def okAll (ops:Array Oper) (L:Array Bool) (ic im ipx ipy ix iy isx isy:Nat):Bool:=((List.range 2).all fun x=>(List.range 2).all fun y=>ok1 ops L ic im ipx ipy ix iy isx isy x y) && (List.range 3).all fun x=>(List.range 3).all fun y=>ok2 ops (callL L ic im ipx ipy) ix iy isx isy x y
theorem okAll_of {ops:Array Oper} {L:Array Bool} {ic im ipx ipy ix iy isx isy:Nat} (h:okAll ops L ic im ipx ipy ix iy isx isy=true):(∀ x,x<=1->∀ y,y<=1->ok1 ops L ic im ipx ipy ix iy isx isy x y=true)/\∀ x,x<=2->∀ y,y<=2->ok2 ops (callL L ic im ipx ipy) ix iy isx isy x y=true:=by
 unfold okAll at h;rw [Bool.and_eq_true] at h;exact ⟨fun x hx y hy=>List.all_eq_true.1 (List.all_eq_true.1 h.1 x (List.mem_range.2 (by omega))) y (List.mem_range.2 (by omega)),fun x hx y hy=>List.all_eq_true.1 (List.all_eq_true.1 h.2 x (List.mem_range.2 (by omega))) y (List.mem_range.2 (by omega))⟩
structure DoOps (ops:Array Oper) (n dc dm dx dy ex ey im ipx ipy ix iy isx isy:Nat):Prop where
 mv:∃ o,ops[im]?=some o/\o.op=.move (.tmp dc)/\o.dst=some dm/\o.guard=none
 px:∃ o,ops[ipx]?=some o/\o.op=.extract (.tmp dm) 0/\o.dst=some ex/\o.guard=none
 py:∃ o,ops[ipy]?=some o/\o.op=.extract (.tmp dm) 1/\o.dst=some ey/\o.guard=none
 ax:∃ o,ops[ix]?=some o/\o.op=.alloc 25/\o.dst=some dx/\o.guard=none
 ay:∃ o,ops[iy]?=some o/\o.op=.alloc 38/\o.dst=some dy/\o.guard=none
 sx:∃ o,ops[isx]?=some o/\o.op=.store 25 (.tmp dx) (.tmp ex)/\o.dst=none/\o.guard=none
 sy:∃ o,ops[isy]?=some o/\o.op=.store 38 (.tmp dy) (.tmp ey)/\o.dst=none/\o.guard=none
 sel:Region.noSelect ops=true
 nd:dm≠dc/\ex≠dc/\ey≠dc/\ex≠dm/\ey≠dm/\ex≠ey/\(∀ d∈[dc,dm,ex,ey],d≠dx/\d≠dy)/\dm<n/\ex<n/\ey<n
 nb:dx≠dy/\dx<n/\dy<n
section
variable {ops:Array Oper} {Q:Exit->Act->World->Prop} {n:Nat} {w0:World} {E1:Env} {dc dm dx dy ex ey ic im ipx ipy ix iy isx isy K:Nat} {L:Array Bool} {l:SaV} {o:OoV} {S:Sa} {O:Oo} {x y:Operand} {ts:Array TypeId}
theorem saBox [Lo] {L':Sa} {A':An} (lob:lowB<=w0.heap.size) (D:DoOps ops n dc dm dx dy ex ey im ipx ipy ix iy isx isy) (ne:∀ d∈[dx,dy,ex,ey],look E1 d=none) :
  Box2 ops n w0 E1 (R1do L' A') (fun u=>u.1.cs L') (fun u=>u.2.cs A') 25 38 (SaV.zero.cs Sa.zero) (AnV.zero.cs An.zero) dx dy ex ey ix iy isx isy where
 ax:=D.ax
 ay:=D.ay
 sx:=D.sx
 sy:=D.sy
 infx:=by kernel_rfl
 infy:=by kernel_rfl
 cx:=fun u=>⟨rfl,by rw [<-Array.all_toList];rfl⟩
 cy:=fun u=>⟨rfl,by rw [<-Array.all_toList];rfl⟩
 new:=fun u w w' h g=>⟨(h.1.below g).more g.size,(h.2.below g).more g.size⟩
 setx:=fun u w w' b new h r hb st=>⟨(h.1.bx r rfl (by omega) st).more (Nat.le_of_eq st.size.symm),(h.2.bx r rfl (by omega) st).more (Nat.le_of_eq st.size.symm)⟩
 sety:=fun u w w' b new h r hb st=>⟨(h.1.bx r rfl (by omega) st).more (Nat.le_of_eq st.size.symm),(h.2.bx r rfl (by omega) st).more (Nat.le_of_eq st.size.symm)⟩
 nd:=D.nb
 ne:=ne
theorem doCall [Lo] {R0:World->Prop} (D:DoOps ops n dc dm dx dy ex ey im ipx ipy ix iy isx isy) (hR0:∀ w w',R0 w->Bw w w'->R0 w') (pan:∀ d v c a w,Q (.panic c) (a.put (some d) v) w->Q (.panic c) a w) (lob:lowB<=w0.heap.size) (rg:Tt w0)
  (ho:∃ q,ops[ic]?=some q/\q.guard=none/\q.dst=some dc/\q.op=.call { callee:=.value (.func 12),args:=#[x,y],argTypes:=ts }) (hc:dc<n)
  (hl:∀ w,Keeps w0 w->R0 w->IsSa w w.heap.size l S/\IsOo w w.heap.size o O) (hx:val E1 x=some (.agg (l.cs S))) (hy:val E1 y=some (.agg (o.cs O))) (ne:look E1 dc=none/\look E1 dm=none) :
  Call1 ops Q n w0 E1 R0 (R1do (doS S O) (doA S O)) (fun u=>u.1.cs (doS S O)) (fun u=>u.2.cs (doA S O)) dc dm dx dy ex ey ic im ipx ipy where
 call:=by
  obtain ⟨q,h1,h2,h3,h4⟩:=ho;refine ⟨q,h1,h2,fun F w K kw r0 hK=>?_⟩;obtain ⟨g1,g2⟩:=hl w kw r0;have hs:w0.heap.size<=w.heap.size:=kw.size;have hxx:=look_pre (F:=F) hx;have hyy:=look_pre (F:=F) hy;refine lg_callw (xs:=[x,y]) (vs:=[.agg (l.cs S),.agg (o.cs O)]) (Qb h2) (do_any g1 g2 Lr (by omega) (Tt.up kw rg)) (by kernel_rfl) h4 (by simp [vals,hxx,hyy]) h3 hc ?_;rintro v w' ⟨l',a',rfl,i1,i2,i3⟩;exact fun a ha=>hK (l',a') a w' i3 ⟨i1,i2⟩ ha
 mv:=D.mv
 px:=D.px
 py:=D.py
 below:=hR0
 sel:=D.sel
 pan:=pan
 nd:=D.nd
 ne:=ne
theorem hg_do1 [Lo] (D:DoOps ops n dc dm dx dy ex ey im ipx ipy ix iy isx isy) (pan:∀ d v c a w,Q (.panic c) (a.put (some d) v) w->Q (.panic c) a w) (hl:IsSa w0 w0.heap.size l S) (ho:IsOo w0 w0.heap.size o O) (lob:lowB<=w0.heap.size) (rg:Tt w0)
  (hc:∃ q,ops[ic]?=some q/\q.guard=none/\q.dst=some dc/\q.op=.call { callee:=.value (.func 12),args:=#[x,y],argTypes:=ts }) (hcn:dc<n) (hx:val E1 x=some (.agg (l.cs S))) (hy:val E1 y=some (.agg (o.cs O)))
  (ne:offK E1 [dx,dy,ex,ey,dc,dm]=true) (ok:okAll ops L ic im ipx ipy ix iy isx isy=true)
  (fin:∀ (l':SaV) (a':AnV) bx b2 w,Bw w0 w->w0.heap.size<=bx->w0.heap.size<=b2->bx≠b2->RowAt w bx 25 (l'.cs (doS S O))->RowAt w b2 38 (a'.cs (doA S O))->IsSa w w.heap.size l' (doS S O)->IsAn w w.heap.size a' (doA S O)->∀ a,Holds n ((dx,pv bx 0)::(dy,pv b2 0)::E1) a->Q .normal a w):HG prog ops Q w0 n (K+8) L E1 w0:=by
 have hn:=look_off ne;obtain ⟨k1,k2⟩:=okAll_of ok;exact hg_call1 (R0:=fun _=>True) (doCall D (fun _ _ _ _=>trivial) pan lob rg hc hcn (fun w kw _=>⟨(hl.below kw).more kw.size,(ho.below kw).more kw.size⟩) hx hy ⟨hn dc (by simp),hn dm (by simp)⟩)
  (saBox lob D fun d hd=>hn d (by simp at hd ⊢;omega)) (Below.refl _ _) trivial k1 k2 (fun u bx b2 w h1 h2 h3 h4 h5 h6 h7=>fin u.1 u.2 bx b2 w h1 h2 h3 h4 h5 h6 h7.1 h7.2)
def okAll0 (ops:Array Oper) (L:Array Bool) (i0 ix iy isx isy:Nat):Bool:=(List.range 2).all fun x=>(List.range 2).all fun y=>ok0 ops L i0 ix iy isx isy x y
theorem hg_do0 [Lo] {k i old:Int} {x1 x2 x3:Operand} {i0 d0:Nat} {us:Array TypeId} (D:DoOps ops n dc dm dx dy ex ey im ipx ipy ix iy isx isy) (pan:∀ d v c a w,Q (.panic c) (a.put (some d) v) w->Q (.panic c) a w) (hl:IsSa w0 w0.heap.size l S) (lob:lowB<=w0.heap.size) (rg:Tt w0)
  (h0:∃ q,ops[i0]?=some q/\q.guard=none/\q.dst=some d0/\q.op=.call { callee:=.value (.func 24),args:=#[x1,x2,x3],argTypes:=us }) (h0n:d0<n) (e1:val E1 x1=some (nv k)) (e2:val E1 x2=some (nv i)) (e3:val E1 x3=some (nv old))
  (hc:∃ q,ops[ic]?=some q/\q.guard=none/\q.dst=some dc/\q.op=.call { callee:=.value (.func 12),args:=#[x,.tmp d0],argTypes:=ts }) (hcn:dc<n) (hx:val E1 x=some (.agg (l.cs S)))
  (ne:offK E1 [dx,dy,ex,ey,dc,dm,d0]=true) (nd:∀ d∈[dx,dy,ex,ey,dc,dm],d≠d0) (ok0:okAll0 ops L i0 ix iy isx isy=true) (ok:okAll ops (L.setIfInBounds i0 true) ic im ipx ipy ix iy isx isy=true)
  (fin:∀ (l':SaV) (a':AnV) bx b2 w,Bw w0 w->w0.heap.size<=bx->w0.heap.size<=b2->bx≠b2->RowAt w bx 25 (l'.cs (doS S (askO k i old)))->RowAt w b2 38 (a'.cs (doA S (askO k i old)))->IsSa w w.heap.size l' (doS S (askO k i old))->IsAn w w.heap.size a' (doA S (askO k i old))->∀ a,Holds n ((dx,pv bx 0)::(dy,pv b2 0)::E1) a->Q .normal a w):HG prog ops Q w0 n (K+9) L E1 w0:=by
 have hn:=look_off ne;obtain ⟨k1,k2⟩:=okAll_of ok;have k0:∀ x,x<=1->∀ y,y<=1->Go.Proofs.YtjjdcnkbibkmkaaGreatDoor.ok0 ops L i0 ix iy isx isy x y=true:=fun x hx y hy=>List.all_eq_true.1 (List.all_eq_true.1 ok0 x (List.mem_range.2 (by omega))) y (List.mem_range.2 (by omega));have hne:∀ (v:OoV) d,d∈[dx,dy,ex,ey,dc,dm]->look (E1++[(d0,.agg (v.cs (askO k i old)))]) d=none:=fun v d hd=>look_less (hn d (by simp at hd ⊢;omega)) (Ne.symm (nd d hd));have h00:=hn d0 (by simp);refine hg_call0 (V:=OoV) (R0:=fun v w=>IsOo w w.heap.size v (askO k i old)) (vl:=fun v=>.agg (v.cs (askO k i old))) (d0:=d0) (i0:=i0) OoV.zero
  (fun v=>doCall D (fun w w' h g=>(h.below g).more g.size) pan lob rg hc hcn (fun w kw r=>⟨(hl.below kw).more kw.size,r⟩) (look_pre hx) (by show look _ _=_;exact look_new h00) ⟨hne v dc (by simp),hne v dm (by simp)⟩)
  (fun v=>saBox lob D fun d hd=>hne v d (by simp at hd ⊢;omega)) (Below.refl _ _) ?_ ⟨Ne.symm (nd dx (by simp)),Ne.symm (nd dy (by simp)),h00,hn dx (by simp),hn dy (by simp)⟩ (fun d hd=>?_) k0 k1 k2 (fun v u bx b2 w h1 h2 h3 h4 h5 h6 h7 a ha=>?_)
 ·obtain ⟨q,q1,q2,q3,q4⟩:=h0;refine ⟨q,q1,q2,fun F w K kw hK=>?_⟩;have f1:=look_pre (F:=F) e1;have f2:=look_pre (F:=F) e2;have f3:=look_pre (F:=F) e3;refine lg_callw (xs:=[x1,x2,x3]) (vs:=[nv k,nv i,nv old]) (Qb q2) (asks_any k i old w) (by kernel_rfl) q4 (by simp [vals,f1,f2,f3]) q3 h0n ?_;rintro v w' ⟨l',rfl,i1,i2⟩;exact fun a ha=>hK l' a w' i2 i1 ha
 ·rcases List.mem_cons.1 hd with rfl | hd
  ·exact ⟨Ne.symm (nd dx (by simp)),Ne.symm (nd dy (by simp))⟩
  exact D.nd.2.2.2.2.2.2.1 d hd
 refine fin u.1 u.2 bx b2 w h1 h2 h3 h4 h5 h6 h7.1 h7.2 a (ha.weak fun d z hz=>?_);have e:(dx,pv bx 0)::(dy,pv b2 0)::(E1++[(d0,.agg (v.cs (askO k i old)))])=((dx,pv bx 0)::(dy,pv b2 0)::E1)++[(d0,.agg (v.cs (askO k i old)))]:=rfl;rw [e,look_app,hz];rfl
end
end Go.Proofs.YtjjdcnkbibkmkaaGreatDoor
