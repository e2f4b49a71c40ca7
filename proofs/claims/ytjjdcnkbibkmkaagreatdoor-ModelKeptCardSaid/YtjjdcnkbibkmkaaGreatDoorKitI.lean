/-
  KitI: WkX, WkNX, IxBase, IxLite, IxProg, IxRef, WaMath, WaFacts, WaUp, WaProg, WaRef, WaFr.
-/
import Derived.Test.YtjjdcnkbibkmkaaGreatDoorKitA
import Derived.RangeFuncNested
import Derived.RangeFuncLeaves
import Derived.LoopNIn
import Derived.OrdersIn
import Derived.KernelRfl
namespace Go.Proofs.YtjjdcnkbibkmkaaGreatDoor
open Go.Proofs.Tryz
open Go.ChangeShapes Go.WideShapes Go.ChangeAt Go.RowKit
set_option linter.unusedVariables false
variable {A C w' w0:World} {B b d' e k m p:Nat} {P:Program} {R:Ending->World->Prop} {a:Act} {c:Code} {r s:Int} {ts:Array TypeId} {vs xs:List Value}

/- WkX:
  Rules for code in a round of a loop over a function, and behind such a loop, where the frame has marks: code by the fenced rules, lists of operations by the plain ones; loops over functions; iterators that call yield.
-/
def fen (ro:Option Nat):Fence:={ Fence.wide with round:=ro }
def mkd (ds:List Deferred) (a:Act):Act:={ a with defers:=a.defers++ds }
abbrev mark (D:Nat):Deferred:={ target:=.collected D,args:=#[] }
theorem mkd_nil (a:Act):mkd [] a=a:=by
 cases a;simp [mkd]
theorem mkd_put (ds:List Deferred) (a:Act) (d:Option Tmp) (v:Value):(mkd ds a).put d v=mkd ds (a.put d v):=by
 cases d<;>rfl
def KX (ro:Option Nat) (P:Program) (Q:Exit->Act->World->Prop) (c:Code) (a:Act) (w:World):Prop:=(∀ a w,¬Q .outgrown a w)->c.wpIn (fen ro) 0 P Q a w
def CX (ro:Option Nat) (ds:List Deferred) (P:Program) (Q:Exit->Act->World->Prop) (n:Nat) (E:Env) (c:Code) (w:World):Prop:=∀ a,Holds n E a->KX ro P Q c (mkd ds a) w
def LX (ro:Option Nat) (ds:List Deferred) (P:Program) (ops:Array Oper) (Q:Exit->Act->World->Prop) (n:Nat) (E:Env) (rest:List Oper) (w:World):Prop:=(∀ a w,¬Q .outgrown a w)->∀ a,Holds n E a->wpListIn (fen ro) 0 P ops Q rest (mkd ds a) w
def ndOp:Op->Bool
 | .defer _=>false
 | _=>true
theorem nd_of {o:Oper} (h:ndOp o.op=true):∀ c,o.op≠.defer c:=fun c e=>by
 rw [e] at h;cases h
theorem roomy {ro:Option Nat} (k:Nat):(fen ro).room k:=fun d hd=>by cases hd
theorem wpIn_depth {ro:Option Nat} {Q:Exit->Act->World->Prop} {w:World} (h:c.wpIn (fen ro) k P Q a w):c.wpIn (fen ro) m P Q a w :=
 fun b j cs hro hb hr=>h b j cs hro hb (roomy _)
theorem callsIn_fen {ro:Option Nat} {f:FuncId} {args:Array Value} {w:World} (h:Calls P f args w R):CallsIn (fen ro) m P f args w R :=
 ⟨trivial,fun cs _=>let ⟨e,w',fr,r,s,x⟩:=h cs;⟨e,w',fr,r,comesIn_wide.2 s,x⟩⟩
theorem rowsIn_fen {ro:Option Nat} {row:String} {args:Array Value} {w:World} {R:Value->World->Prop} (h:Rows P row args w R):RowsIn (fen ro) m P row args w R :=
 fun c cs _=>let ⟨v,w',r,s⟩:=h c cs;⟨v,w',r,stepsIn_wide.2 s⟩
theorem roundIn_fen {ro:Option Nat} {l:Nat} {f:FuncId} {tmps:Array Value} {asg body:Code} {w:World} (h:RoundIn Fence.wide k P l f tmps asg body w R):RoundIn (fen ro) m P l f tmps asg body w R :=
 ⟨trivial,fun c cs _=>h.2 c cs (room_wide _)⟩

section
variable {P:Program} {ops:Array Oper} {Q Q':Exit->Act->World->Prop} {n d:Nat} {E E':Env} {o:Oper} {rest:List Oper} {w w0:World} {v:Value} {x y:Operand} {t t':TypeId} {K:Act->World->Prop} {id id':Nat} {ro:Option Nat} {ds:List Deferred}

theorem op_in {K K':Act->World->Prop} (hn:∀ c,o.op≠.defer c) (hK:∀ a w,K a w->K' (mkd ds a) w) (hq:∀ a w,¬Q .outgrown a w) (h:o.wp P a w K (fun e a w=>Q e (mkd ds a) w)):o.wpIn (fen ro) m P (mkd ds a) w K' Q:=by
 refine ⟨fun _ _=>trivial,?_⟩;rw [Oper.semAt_eq _ _ _ hn];unfold Oper.wp at h;have he:(mkd ds a).eval=a.eval:=rfl;rw [he];generalize (execOp a.eval o).run P w=r at *;cases r with
 | ok nx w' =>
  cases nx<;>simp only [Oper.upon,Oper.uponIn] at h ⊢
  case value u=>rw [mkd_put];exact hK _ _ h
  case skip=>rw [mkd_put];exact hK _ _ h
  case defer d =>
   have:=hK _ _ h;rw [<-mkd_put] at this;exact this
  case enter f args =>
   refine ⟨(fun q=>by cases q),callsIn_fen (h.mono fun e w'' q=>?_)⟩;cases e with
   | returned u =>
    show K' ((mkd ds a).put o.dst u) w'';rw [mkd_put];exact hK _ _ q
   | panicked c=>exact q
   | outgrown=>exact absurd q.choose_spec.choose_spec (hq _ _)
  case row row args =>
   refine ⟨(fun q=>by cases q),rowsIn_fen (h.mono fun u w'' q=>?_)⟩;rw [mkd_put];exact hK _ _ q
 | halt z w'=>cases z<;>simp only [Oper.upon,Oper.uponIn] at h ⊢<;>exact h
theorem list_in {m:Nat} (hq:∀ a w,¬Q .outgrown a w):∀ (l:List Oper) (a:Act) (w:World),(∀ o∈l,∀ c,o.op≠.defer c)->wpList P ops (fun e a w=>Q e (mkd ds a) w) l a w->wpListIn (fen ro) m P ops Q l (mkd ds a) w
 | [],_,_,_,h=>h
 | o::r,a,w,hn,h=>by
  have hr:=fun a w=>list_in (m:=m) hq r a w (fun o ho=>hn o (List.mem_cons_of_mem _ ho));unfold wpList at h;unfold wpListIn;have he:(mkd ds a).tmps=a.tmps:=rfl;rw [he];split
  ·rename_i hw
   rw [if_pos hw] at h;rcases h with h | ⟨_,h⟩
   ·exact op_in (hn o (by simp)) hr hq h
   exact absurd h.choose_spec.choose_spec (hq _ _)
  rename_i hw
  rw [if_neg hw] at h;refine ⟨fun _ _=>trivial,?_⟩;rw [mkd_put];exact hr _ _ h
theorem any_in {m:Nat} {md:Region.Mode} (hq:∀ a w,¬Q .outgrown a w) (hn:∀ o∈ops.toList,∀ c,o.op≠.defer c):∀ (fuel:Nat) (listed:Array Bool) (a:Act) (w:World),wpAny P md ops (fun e a w=>Q e (mkd ds a) w) fuel listed a w->wpAnyIn (fen ro) m P md ops Q fuel listed (mkd ds a) w
 | 0,_,_,_,h=>h
 | fuel+1,listed,a,w,h=>by
  refine ⟨h.1,fun i hi=>?_⟩;have h2:=h.2 i hi;have hr:=fun a w=>any_in (m:=m) (md:=md) hq hn fuel (listed.setIfInBounds i true) a w;unfold wpOp at h2;unfold wpOpIn;cases ho:ops[i]? with
  | none =>
   simp only [ho] at h2 ⊢;exact hr _ _ h2
  | some o =>
   simp only [ho] at h2 ⊢;have he:(mkd ds a).tmps=a.tmps:=rfl;rw [he];have hm:o∈ops.toList:=Array.mem_toList_iff.2 (Array.mem_of_getElem? ho);split
   ·rename_i hw
    rw [if_pos hw] at h2;rcases h2 with h2 | ⟨_,h2⟩
    ·exact op_in (hn o hm) hr hq h2
    exact absurd h2.choose_spec.choose_spec (hq _ _)
   rename_i hw
   rw [if_neg hw] at h2;refine ⟨fun _ _=>trivial,?_⟩;rw [mkd_put];exact hr _ _ h2
theorem nd_all {l:List Oper} (h:l.all (fun o=>ndOp o.op)=true):∀ o∈l,∀ c,o.op≠.defer c:=fun o ho=>nd_of (List.all_eq_true.1 h o ho)
theorem Qq {l:List Oper} (h:LG P l.toArray (fun e a w=>Q e (mkd ds a) w) n E l w) (nd:l.all (fun o=>ndOp o.op)=true:=by rfl):CX ro ds P Q n E (.region id l.toArray false) w :=
 fun a ha hq=>wpIn_region_lit (list_in hq l a w (nd_all nd) (h a ha))
theorem cx_any {l:List Oper} (hm:P.follows .mixedOrders=true) (nd:l.all (fun o=>ndOp o.op)=true)
  (h:∀ a,Holds n E a->wpAny P .any l.toArray (fun e a w=>Q e (mkd ds a) w) l.toArray.size (Array.replicate l.toArray.size false) a w.drew):CX ro ds P Q n E (.region id l.toArray true) w :=
 fun a ha hq=>wpIn_region_any hm (any_in hq (by simpa using nd_all nd) _ _ a _ (h a ha))
theorem cx_still {l:List Oper} (hm:P.follows .mixedOrders=true) (hB:Region.lexB .any l.toArray=true)
  (h:∀ W,W=w.drew->SG P l.toArray (fun a=>Q .normal (mkd ds a) W) n E l W) (nd:l.all (fun o=>ndOp o.op)=true:=by rfl):CX ro ds P Q n E (.region id l.toArray true) w :=
 cx_any hm nd fun a ha=>by
  simp only [Region.lexB,Bool.and_eq_true] at hB;refine wpAny_of_still (Q:=fun a'=>Q .normal (mkd ds a') w.drew) (fun _ h=>h) _ _ _ ?_;have:=wpAnyS_lex (md:=.any) (w:=w.drew) (Q:=fun a'=>Q .normal (mkd ds a') w.drew) hB.1 l 0 (Array.replicate l.toArray.size false) a (by simp) (by simpa using hB.2) (h _ rfl a ha);simpa using this
theorem cx_held {l:List Oper} (hm:P.follows .mixedOrders=true) (h:∀ W,W=w.drew->HG P l.toArray (fun e a w=>Q e (mkd ds a) w) W n l.toArray.size (Array.replicate l.toArray.size false) E W) (nd:l.all (fun o=>ndOp o.op)=true:=by rfl):CX ro ds P Q n E (.region id l.toArray true) w :=
 cx_any hm nd fun a ha=>wpAny_of_held _ _ _ _ (h _ rfl a ha)
theorem cx_heldS {l:List Oper} (S:World->Prop) (hm:P.follows .mixedOrders=true) (hS:∀ W,W=w.drew->S W) (h:∀ W,W=w.drew->HGS P l.toArray (fun e a w=>Q e (mkd ds a) w) S n l.toArray.size (Array.replicate l.toArray.size false) E W) (nd:l.all (fun o=>ndOp o.op)=true:=by rfl):CX ro ds P Q n E (.region id l.toArray true) w :=
 cx_any hm nd fun a ha=>wpAny_of_held _ _ _ _ (h _ rfl a ha)
theorem cx_seq {c':Code} (h:CX ro ds P (Exit.then (KX ro P Q c') Q) n E c w):CX ro ds P Q n E (.seq c c') w:=fun a ha hq =>
 wpIn_seq (wpIn_mono (h a ha (fun a w=>hq a w)) fun e a w q=>by cases e<;>first | exact q hq | exact q)
theorem cx_block (h:CX ro ds P (Exit.inBlock id Q) n E c w):CX ro ds P Q n E (.block id c) w:=fun a ha hq=>wpIn_block (h a ha (fun a w=>hq a w))
theorem cx_skip (h:∀ a,Holds n E a->Q .normal (mkd ds a) w):CX ro ds P Q n E .skip w:=fun a ha _=>wpIn_skip (h a ha)
theorem cx_ret (h:∀ a,Holds n E a->Q .ret (mkd ds a) w):CX ro ds P Q n E .ret w:=fun a ha _=>wpIn_ret (h a ha)
theorem cx_exit (h:∀ a,Holds n E a->Q (.exit id) (mkd ds a) w):CX ro ds P Q n E (.exit id) w:=fun a ha _=>wpIn_exit (h a ha)
theorem cx_cond {c:Operand} {x y:Code} (t:Bool) (hc:val E c=some (.bool t)) (h1:t=true->CX ro ds P Q n E x w) (h0:t=false->CX ro ds P Q n E y w):CX ro ds P Q n E (.cond c x y) w:=fun a ha hq =>
 wpIn_cond_split (show (mkd ds a).eval c=_ from ha.eval hc) (fun e=>h1 e a ha hq) (fun e=>h0 e a ha hq)
theorem cx_ct {c:Operand} {x y:Code} (hc:val E c=some (.bool true)) (h:CX ro ds P Q n E x w):CX ro ds P Q n E (.cond c x y) w:=cx_cond true hc (fun _=>h) (fun e=>by cases e)
theorem cx_cf {c:Operand} {x y:Code} (hc:val E c=some (.bool false)) (h:CX ro ds P Q n E y w):CX ro ds P Q n E (.cond c x y) w:=cx_cond false hc (fun e=>by cases e) (fun _=>h)
theorem cx_at (ha:Holds n E a) (h:CX ro ds P Q n E c w):KX ro P Q c (mkd ds a) w:=h a ha
theorem cx_loopE (I:Nat->Act->World->Prop) (N:Nat) (h0:∀ a,Holds n E a->I 0 a w) (round:∀ t a v,t<=N->I t a v->KX ro P (Exit.then (fun a' w'=>t<N/\∃ a0,a'=mkd ds a0/\I (t+1) a0 w') Q) c (mkd ds a) v):CX ro ds P Q n E (.loop c) w:=by
 intro a ha hq;refine wpIn_loop_rounds (N+1) ?_;have key:∀ k t a v,t+k=N->I t a v->Code.roundsIn (fen ro) 0 P c Q (k+1) (mkd ds a) v:=by
  intro k;induction k with
  | zero =>
   intro t a v ht hI;refine wpIn_mono (round t a v (by omega) hI (fun a w=>hq a w)) fun e a w q=>?_;cases e<;>first | exact q | (have:=q.1;omega)
  | succ k ih =>
   intro t a v ht hI;refine wpIn_mono (round t a v (by omega) hI (fun a w=>hq a w)) fun e a w q=>?_;cases e<;>first | (obtain ⟨_,a0,rfl,q⟩:=q;exact ih (t+1) _ _ (by omega) q) | exact q
 exact key N 0 a w (by omega) (h0 a ha)
-- the ends
theorem nxx (hE:∀ p∈E',look E p.1=some p.2) (h:CX ro ds P Q n E' c w):∀ a,Holds n E a->Exit.then (KX ro P Q c) Q' .normal (mkd ds a) w:=fun a ha=>h a (ha.keep hE)
theorem Nxx (ks:List Nat) (h:CX ro ds P Q n E' c w) (hE:pick E ks=some E':=by rfl):∀ a,Holds n E a->Exit.then (KX ro P Q c) Q' .normal (mkd ds a) w:=nxx (pick_ok hE) h
theorem xg_seq_exit (h:∀ a,Holds n E a->Q (.exit id) (mkd ds a) w):∀ a,Holds n E a->Exit.then K Q (.exit id) (mkd ds a) w:=h
theorem xg_seq_ret (h:∀ a,Holds n E a->Q .ret (mkd ds a) w):∀ a,Holds n E a->Exit.then K Q .ret (mkd ds a) w:=h
theorem Qs (h:∀ a,Holds n E a->Q .normal (mkd ds a) w):∀ a,Holds n E a->Exit.inBlock id Q .normal (mkd ds a) w:=h
theorem xg_block_ret (h:∀ a,Holds n E a->Q .ret (mkd ds a) w):∀ a,Holds n E a->Exit.inBlock id Q .ret (mkd ds a) w:=h
theorem xg_block_exit (h:∀ a,Holds n E a->Q .normal (mkd ds a) w):∀ a,Holds n E a->Exit.inBlock id Q (.exit id) (mkd ds a) w:=fun a ha=>by
 show (if id=id then _ else _);rw [if_pos rfl];exact h a ha
def closed:List Nat->World->World
 | [],w=>w
 | D::r,w=>closed r (w.putObj D (.deferred none))
def Opens:List Nat->World->Prop
 | [],_=>True
 | D::r,w=>w.heap[D]?=some (.deferred (some []))/\Opens r (w.putObj D (.deferred none))
theorem leaves_marks {fn:Func} {R:Ending->World->Prop} {tmps:Array Value}:∀ (Ds:List Nat) (w:World),Opens Ds w->(results fn tmps).run P (closed Ds w)=.ok v (closed Ds w)->R (.returned v) (closed Ds w)->LeavesInM Fence.wide 0 P fn tmps R (Ds.map mark) .returning w
 | [],w,_,hr,hR=>⟨v,hr,hR⟩
 | D::r,w,ho,hr,hR=>⟨by simp,.inl ⟨D,_,rfl,run_takeDeferred ho.1,leaves_marks r _ ho.2 hr hR⟩⟩
theorem xg_ret {fn:Func} (Ds:List Nat) (ho:Opens Ds w) (hr:∀ a,Holds n E a->(results fn a.tmps).run P (closed Ds w)=.ok v (closed Ds w)) (hR:R (.returned v) (closed Ds w)):∀ a,Holds n E a->bodyPostM Fence.wide 0 P fn R .ret (mkd (Ds.map mark) a) w:=fun a ha=>by
 show LeavesInM Fence.wide 0 P fn a.tmps R (a.defers++Ds.map mark) .returning w;rw [ha.2.1];exact leaves_marks Ds w ho (hr a ha) hR
theorem xg_end {fn:Func} (Ds:List Nat) (ho:Opens Ds w) (hr:∀ a,Holds n E a->(results fn a.tmps).run P (closed Ds w)=.ok v (closed Ds w)) (hR:R (.returned v) (closed Ds w)):∀ a,Holds n E a->bodyPostM Fence.wide 0 P fn R .normal (mkd (Ds.map mark) a) w:=fun a ha=>by
 show LeavesInM Fence.wide 0 P fn a.tmps R (a.defers++Ds.map mark) .returning w;rw [ha.2.1];exact leaves_marks Ds w ho (hr a ha) hR
theorem res_tmp {fn:Func} {p:Tmp} (h:fn.results=#[.tmp p]) (hp:look E p=some v):∀ a,Holds n E a->(results fn a.tmps).run P w'=.ok v w':=fun a ha=>by
 have:=ha.2.2 p _ hp;simp [results,h,this]
theorem res_none {fn:Func} (h:fn.results=#[]):∀ a,Holds n E a->(results fn a.tmps).run P w'=.ok (.tuple #[]) w':=fun a ha=>by simp [results,h]
theorem res_cell {fn:Func} {p:Tmp} {ty tr:TypeId} (h:fn.results=#[.cell p ty]) (hp:look E p=some (pv b 0)) (hr:RowAt w' b tr #[v]) (hu:aggB P ty=some false):∀ a,Holds n E a->(results fn a.tmps).run P w'=.ok v w':=fun a ha=>by
 have hq:=ha.2.2 p _ hp;have hc:w'.cell? ⟨b,0,none⟩=some v:=by rw [cell_of_row w' b 0 _ tr _ hr];rfl
 simp [results,h,hq,asAddr,loadVar,run_isAgg hu,hc]
theorem holds_args {f:FuncId} {fn:Func} (hn:fn.ntmps=n) (hl:vs.length<=n):Holds n ((List.range vs.length).zip vs) { tmps:=vs.toArray++Array.replicate (fn.ntmps-vs.toArray.size) undef,defers:=[] }:=by
 refine ⟨by simp [hn];omega,rfl,fun d v q=>?_⟩;have key:∀ (us:List Value) (k:Nat),look ((List.range' k us.length).zip us) d=some v->k<=d/\us[d-k]?=some v:=by
  intro us;induction us with
  | nil=>intro k q;simp [look] at q
  | cons u us ih =>
   intro k q;simp only [List.length_cons,List.range'_succ,List.zip_cons_cons] at q;unfold look at q;by_cases e:k=d
   ·subst e;simp at q;simp [q]
   have:Nat.beq k d=false:=by
    rw [Bool.eq_false_iff];intro q;exact e (Nat.eq_of_beq_eq_true q)
   rw [this] at q;obtain ⟨h1,h2⟩:=ih (k+1) q;refine ⟨by omega,?_⟩;rw [show d-k=(d-(k+1))+1 by omega];simpa using h2
 have:=key vs 0 (by simpa [List.range_eq_range'] using q);have h2:vs[d]?=some v:=by simpa using this.2
 have hlt:d<vs.length:=(List.getElem?_eq_some_iff.1 h2).1;show (vs.toArray++_)[d]?=_;rw [Array.getElem?_append_left (by simpa using hlt)];simpa using h2
theorem calls_cx {f:FuncId} {fn:Func} (hf:P.funcs[f]?=some fn) (hb:fn.body=some c) (hn:fn.ntmps=n) (hl:vs.length<=n) (hR:∀ w,¬R .outgrown w)
  (h:CX none [] P (bodyPostM Fence.wide 0 P fn R) n ((List.range vs.length).zip vs) c w):Calls P f vs.toArray w R:=by
 refine callsIn_wide.1 (callsIn_of_wp_marks (n:=0) hf hb trivial ?_);have:=h _ (holds_args (f:=f) hn hl) (fun a w=>hR w);rw [mkd_nil] at this;exact this
-- iterators
theorem cx_regionx {l:List Oper} (h:LX ro ds P l.toArray Q n E l w):CX ro ds P Q n E (.region id l.toArray false) w:=fun a ha hq=>wpIn_region_lit (h hq a ha)
theorem lx_nil (h:∀ a,Holds n E a->Q .normal (mkd ds a) w):LX ro ds P ops Q n E [] w:=fun _=>h
theorem lxw (hw:Want ops E o true) (y:Yields P E o w v) (hd:o.dst=some d) (hn:d<n) (h:LX ro ds P ops Q n ((d,v)::E) rest w) (nd:ndOp o.op=true:=by rfl):LX ro ds P ops Q n E (o::rest) w:=by
 intro hq a ha;have h':=h hq _ (ha.put (v:=v) hn);rw [<-hd,<-mkd_put] at h';unfold wpListIn;have he:(mkd ds a).tmps=a.tmps:=rfl;rw [he,hw n a ha,if_pos rfl];refine ⟨fun _ _=>trivial,?_⟩;rw [Oper.semAt_eq _ _ _ (nd_of nd)];have hev:(mkd ds a).eval=a.eval:=rfl;rw [hev];rcases y n a ha with hy | ⟨f,args,hy,hc⟩
 ·rw [hy];exact h'
 rw [hy,Oper.uponIn_enter];refine ⟨(fun q=>by cases q),callsIn_fen (hc.mono ?_)⟩;rintro e w' ⟨rfl,rfl⟩;exact h'
theorem lxk (hw:Want ops E o false) (hd:o.dst=some d) (hn:d<n) (h:LX ro ds P ops Q n ((d,undef)::E) rest w):LX ro ds P ops Q n E (o::rest) w:=by
 intro hq a ha;have h':=h hq _ (ha.put (v:=undef) hn);rw [<-hd,<-mkd_put] at h';unfold wpListIn;have he:(mkd ds a).tmps=a.tmps:=rfl;rw [he,hw n a ha];exact ⟨fun _ _=>trivial,h'⟩
theorem exec_yield {l:Nat} (xs:List Operand) (ts:Array TypeId) (a:Act) (ha:Holds n E a) (hx:vals E xs=some vs) (hc:val E x=some (.func (.yield l) #[] #[])) (o:Oper) (ho:o.op=.call { callee:=.value x,args:=xs.toArray,argTypes:=ts }) (w:World) :
  (execOp a.eval o).run P w=(Instr.yield l vs.toArray).run P w:=by
 unfold execOp;rw [ho];simp [resolve,Deferred.ofValue,ha.eval hc,invoke,ha.evals hx]
theorem lx_yield {l:Nat} {xs:List Operand} {R:Value->World->Prop} (hw:Want ops E o true) (hy:YieldAt Fence.wide m P l vs.toArray w fun e w'=>∃ v,e=.returned v/\R v w')
  (ho:o.op=.call { callee:=.value x,args:=xs.toArray,argTypes:=ts }) (hv:val E x=some (.func (.yield l) #[] #[])) (hx:vals E xs=some vs) (hd:o.dst=some d) (hn:d<n)
  (h:∀ v w',R v w'->LX ro ds P ops Q n ((d,v)::E) rest w'):LX ro ds P ops Q n E (o::rest) w:=by
 intro hq a ha;unfold wpListIn;have he:(mkd ds a).tmps=a.tmps:=rfl;rw [he,hw n a ha,if_pos rfl];refine ⟨fun _ _=>trivial,?_⟩;rw [Oper.semAt_eq _ _ _ (fun c e=>by rw [ho] at e;cases e)];have hev:(mkd ds a).eval=a.eval:=rfl;rw [hev,exec_yield xs ts a ha hx hv o ho w];obtain ⟨fn,tmps,asg,body,hr,hb⟩:=hy;rw [hr,Oper.uponIn_round];refine ⟨(fun q=>by cases q),roundIn_fen (hb.mono ?_)⟩;rintro e w' ⟨v,rfl,hR⟩;show wpListIn (fen ro) 0 P ops Q rest ((mkd ds a).put o.dst v) w';rw [hd,mkd_put];exact h v w' hR hq _ (ha.put hn)
theorem lx_yields {l:Nat} {xs:List Operand} {R1 R2:World->Prop} (hw:Want ops E o true) (hy:YieldAt Fence.wide m P l vs.toArray w fun e w'=>(e=.returned (.bool true)/\R1 w')\/(e=.returned (.bool false)/\R2 w'))
  (ho:o.op=.call { callee:=.value x,args:=xs.toArray,argTypes:=ts }) (hv:val E x=some (.func (.yield l) #[] #[])) (hx:vals E xs=some vs) (hd:o.dst=some d) (hn:d<n)
  (h1:∀ w',R1 w'->LX ro ds P ops Q n ((d,.bool true)::E) rest w') (h0:∀ w',R2 w'->LX ro ds P ops Q n ((d,.bool false)::E) rest w'):LX ro ds P ops Q n E (o::rest) w:=by
 refine lx_yield (m:=m) (R:=fun u w'=>(u=.bool true/\R1 w')\/(u=.bool false/\R2 w')) hw ?_ ho hv hx hd hn ?_
 ·obtain ⟨fn,tmps,asg,body,hr,hb⟩:=hy;refine ⟨fn,tmps,asg,body,hr,hb.mono ?_⟩;rintro e w' (⟨rfl,h⟩ | ⟨rfl,h⟩)
  ·exact ⟨_,rfl,.inl ⟨rfl,h⟩⟩
  exact ⟨_,rfl,.inr ⟨rfl,h⟩⟩
 rintro u w' (⟨rfl,h⟩ | ⟨rfl,h⟩)
 ·exact h1 w' h
 exact h0 w' h
-- loops over functions
theorem Holds.param (ha:Holds n E a) (hp:p<n):Holds n ((p,v)::E) { tmps:=a.tmps.setIfInBounds p v,defers:=[] }:=by
 have:=ha.put (v:=v) hp;simpa [Act.put,ha.2.1] using this
theorem cx_range {α:Type} {g:Operand} {asg body:Code} {gf:FuncId} {lb:Array Value} {enc:α->Value} {N:Nat} {S Sp:List α->Prop} {Kp:World->World->Prop}
  (hf : ((P.funcs[gf]?).map fun fn => (fn.name == "runtime.NumGoroutine", fn.body.isNone)) = some (false, false))
  (hg:val E g=some (.func (.func gf) #[] lb)) (hseq:SeqStopsK Fence.wide 2 P gf lb (fun x=>#[enc x]) Kp S Sp N w0) (hKt:∀ {A B C:World},Kp A B->Kp B C->Kp A C) (hKr:∀ W,Kp W W) (hKb:∀ (W:World) (l:Nat) (o o':Obj),w.heap.size<=l->W.heap[l]?=some o->o.isCells=false->o.isWalk=false->Kp W (W.putObj l o')) (hb0:Bw w0 w) (hp:p<n)
  (I:List α->World->Prop) (Ix:Code->List α->World->Prop) (hI:OwnFrom w.heap.size I) (hIx:∀ c,OwnFrom w.heap.size (Ix c)) (h0:I [] w)
  (hassign:∀ l x W,CX (some l) [] P (Exit.then (fun a' W'=>W'=W/\Holds n ((d',enc x)::(p,enc x)::E) a') (fun _ _ _=>False)) n ((p,enc x)::E) asg W)
  (hbody:∀ l pre x W,I pre W->pre.length<N->CX (some l) [] P (ownPostG w.heap.size Kp I Ix (pre++[x]) W) n ((d',enc x)::(p,enc x)::E) body W)
  (hdone:∀ D xs W,w.heap.size<=D->S xs->I xs W->W.heap[D]?=some (.deferred (some []))->∀ a,Holds n E a->Q .normal (mkd (mark D::ds) a) W)
  (hstop:∀ D c pre W,w.heap.size<=D->Sp pre->Ix c pre W->W.heap[D]?=some (.deferred (some []))->CX none (mark D::ds) P Q n E c W) :
  CX none ds P Q n E (.rangeFunc g #[p] asg body) w:=by
 intro a ha hq;obtain ⟨tmps,dfs⟩:=a;obtain rfl:dfs=[]:=ha.2.1;have hev:(mkd ds { tmps,defers:=[] }).eval g=.func (.func gf) #[] lb:=ha.eval hg;refine wpIn_depth (k:=3) (wpIn_rangeFunc_ownH (F:=fen none) (n:=3) rfl (by omega) hev trivial (fun args w=>call_enter hf args w) (w0:=w0) (Kp:=Kp) (N:=N) hseq hKt hKb hb0 (fun _=>rfl) I Ix hI hIx h0
  (fun x a' _=>Holds n ((d',enc x)::(p,enc x)::E) a') (fun x a'=>ownFrom_pure _ _) ?_ ?_ ?_ ?_)
 ·intro l pre x W K hi hK;have h:=hassign l x W { tmps:=tmps.setIfInBounds p (enc x),defers:=[] } (ha.param hp) (fun _ _ q=>q);have h2:asg.wpIn (fen (some l)) 0 P (Exit.then K fun _ _ _=>False) (mkd [] { tmps:=tmps.setIfInBounds p (enc x),defers:=[] }) W:=wpIn_mono h fun e a' W' q=>by
   cases e<;>first | exact q | (obtain ⟨rfl,q⟩:=q;exact hK _ _ (KeepsFrom.refl _ _) (hKr _) hi q)
  have h3:Code.wpIn ((fen none).inRound l) 1 P asg _ _ _:=wpIn_depth (ro:=some l) (m:=1) h2;simpa [mkd] using h3
 ·intro l pre x a' W hl hr hi hax hlen;have h:=hbody l pre x W hi hlen a' hax (fun _ _ q=>q);rw [mkd_nil] at h;exact wpIn_depth (ro:=some l) h
 ·intro D xs W hD hs hi hK;exact hdone D xs W hD hs hi hK _ ha
 intro D c pre W hD hs hi hK;exact wpIn_depth (hstop D c pre W hD hs hi hK _ ha hq)
theorem as_copy {l:List Oper} (hl:l=[o]) (ho:o.op=.assign (.tmp p)) (hd:o.dst=some d') (hg:o.guard=none) (hn:d'<n) (k:Nat) (W:World):CX (some k) [] P (Exit.then (fun a' W'=>W'=W/\Holds n ((d',v)::(p,v)::E) a') (fun _ _ _=>False)) n ((p,v)::E) (.region id l.toArray false) W:=by
 subst hl;refine Qq (ls (y_assign ho (v:=v) (by simp [val,look])) hd hg hn (Qk fun a ha=>?_)) ?_
 ·rw [mkd_nil];exact ⟨rfl,ha⟩
 simp [ndOp,ho]
-- what abides the loop's book-keeping
theorem row_nc {w:World} {row:Option Nat} {cs:Array Value} (h:RowAt w b t cs) (hg:w.grownBy w' row) (hr:∀ r,row=some r->∃ o:Obj,w.heap[r]?=some o/\o.isCells=false):RowAt w' b t cs:=by
 unfold RowAt;rw [hg.block b h.lt fun e=>?_]
 ·exact h
 obtain ⟨o,ho,hc⟩:=hr b e.symm;rw [show w.heap[b]?=_ from h] at ho;cases ho;cases hc
theorem owns_nc {w:World} {row:Option Nat} {base size:Nat} (h:w.ownsRow base e size v k xs) (hg:w.grownBy w' row) (hr:∀ r,row=some r->∃ o:Obj,w.heap[r]?=some o/\o.isCells=false):w'.ownsRow base e size v k xs:=by
 refine h.kept hg ?_;rcases h.2 with ⟨rfl,_⟩ | ⟨g,cap,cur,rfl,_,hgb,_⟩
 ·exact .inl rfl
 refine .inr fun e'=>?_;obtain ⟨o,ho,hc⟩:=hr g (by simpa [Value.ownBlock] using e'.symm);rw [hgb] at ho;cases ho;cases hc
theorem below_nc {w:World} {row:Option Nat} {B':Nat} (h:Below B' w0 w) (hB:B'<=B) (h0:B'<=w0.heap.size) (hg:w.grownBy w' row) (hr:∀ r,row=some r->B<=r):Below B' w0 w' :=
 h.grown hg (Nat.le_trans h0 h.size) fun k e=>Nat.le_trans hB (hr k e)
theorem put_grown (w:World) (D:Nat) (o:Obj):w.grownBy (w.putObj D o) (some D):=grownBy_putObj' w D o
theorem put_nc {w:World} {D:Nat} {l:List Deferred} (h:w.heap[D]?=some (.deferred (some l))):∀ r,some D=some r->∃ o:Obj,w.heap[r]?=some o/\o.isCells=false:=fun r e=>by
 cases e;exact ⟨_,h,rfl⟩
-- what a body keeps of what is no cells
theorem kf_below {w:World} (h:Bw w w'):KeepsFrom B w w':=⟨h.size,fun k o _ hk _=>(h.block k (Array.getElem?_eq_some_iff.1 hk).1).trans hk⟩
theorem kf_set {w:World} {old cs:Array Value} {t0:TypeId} (h:Set1 w w' b t cs) (r:RowAt w b t0 old):KeepsFrom B w w':=⟨by rw [h.size];exact Nat.le_refl _,fun k o _ hk hc=>by
 by_cases e:k=b
 ·subst e;rw [show w.heap[k]?=_ from r] at hk;cases hk;cases hc
 exact (h.other k e).trans hk⟩
theorem kf_grown {w:World} {base size:Nat} (h:w.grownBy w' v.ownBlock) (ho:w.ownsRow base e size v k xs):KeepsFrom B w w' :=
 (KeepsOthers.of_grownBy h fun j o ej hj=>by
  rcases ho.2 with ⟨rfl,_⟩ | ⟨g,cap,cur,rfl,_,hgb,_⟩
  ·simp [Value.ownBlock] at ej
  obtain rfl:g=j:=by simpa [Value.ownBlock] using ej
  rw [hgb] at hj;cases hj;rfl).from B
end
/- WkNX:
  Rules for slices of whole numbers beside loops over functions: one behind the others, and what stays.
-/
section
variable {ops:Array Oper} {Q:Exit->Act->World->Prop} {n d:Nat} {E:Env} {o:Oper} {rest:List Oper} {w w0:World} {v:Value} {x y:Operand} {t t':TypeId}
theorem lg_appK {base g:Nat} {u:Value} {xs:List Int} {k:Int} {tr:TypeId} (hown:w.ownsRow base 3 1 u xs.length (xs.map (Value.int .i64))) (hr:RowAt w g tr #[nv k]) (hb:xs.length<=1000000000) (hbase:base<=w.heap.size) (hw:Want ops E o true)
  (ho:o.op=.call { callee:=.builtin .append,args:=#[x,y],argTypes:=#[36,36] }) (hty:o.type=36) (hx:val E x=some u) (hy:val E y=some (.slice (some ⟨g,0,none⟩) 1 1)) (hd:o.dst=some d) (hn:d<n)
  (h:∀ v' w',w'.ownsRow base 3 1 v' (xs++[k]).length ((xs++[k]).map (Value.int .i64))->Below base w w'->KeepsFrom 0 w w'->LG prog ops Q n ((d,v')::E) rest w'):LG prog ops Q n E (o::rest) w:=by
 have hc:w.cell? ⟨g,0,none⟩=some (nv k):=by rw [cell_of_row w g 0 _ tr _ hr];rfl
 obtain ⟨v',w',hrun,hj⟩:=append_num w base u xs k g hown hc hb hbase;refine lg_do hw (fun n a ha=>?_) hd hn (h v' w' (by rw [List.length_append];exact hj.1) (joinedNum_below hown hj (Below.refl _ _) hbase).1 (kf_grown hj.2.1 hown));simp [execOp,ho,hty,resolve,invoke,builtin,ha.eval hx,ha.eval hy,hrun,Result.andThen]
theorem KeepsFrom.zero {w:World} (h:KeepsFrom 0 w w'):KeepsFrom B w w':=⟨h.size,fun k o _ hk hc=>h.same k o (Nat.zero_le _) hk hc⟩
theorem nums_new1 {j:Int} (h:New w w' b 3 #[nv j]):Nums w' w'.heap.size (some ⟨b,0,none⟩) 1 [j] :=
 ⟨rfl,fun _=>⟨b,0,rfl,by have:=h.size;omega,fun i x hx=>by
  rw [Nat.zero_add,cell_of_row _ _ i _ 3 (0,0) h.row]
  match i,hx with
  | 0,hx=>simp at hx;subst hx;rfl⟩⟩
theorem own_set {base size:Nat} {tr tr':TypeId} {u old:Array Value} (h:w.ownsRow base e size v k xs) (s:Set1 w w' b tr u) (r:RowAt w b tr' old) (hb:b<base):w'.ownsRow base e size v k xs:=by
 refine ⟨h.1,?_⟩;rcases h.2 with h | ⟨g,cap,cur,rfl,hg,hh,r⟩
 ·exact .inl h
 exact .inr ⟨g,cap,cur,rfl,hg,(s.other g (by omega)).trans hh,r⟩
end
/- IxBase:
  Where nodes stand in a row, as plain functions of whole numbers; what holds of all nodes of all widths, by trying all of them; rules for whole numbers that may leave 64 bits, shifts, octets counted by a table.
-/
def isW (w:Int):Prop:=w=1\/w=3\/w=7\/w=15\/w=31\/w=63\/w=127
instance (w:Int):Decidable (isW w):=by unfold isW;infer_instance
def isN (x w:Int):Prop:=isW w/\0<=x/\x<w
instance (x w:Int):Decidable (isN x w):=by unfold isN;infer_instance
def isL (x:Int):Prop:=0<=x/\x<127
instance (x:Int):Decidable (isL x):=by unfold isL;infer_instance
def lvl (x:Int):Int :=
 if x<0\/126<x then -1 else if x % 2=0 then 0 else if x % 4=1 then 1 else if x % 8=3 then 2 else if x % 16=7 then 3 else if x % 32=15 then 4 else if x % 64=31 then 5 else 6
def pw (k:Int):Int:=2 ^ k.toNat
def rootI (w:Int):Int:=if isW w then (w-1) / 2 else -1
def leftI (x w:Int):Int:=if isN x w/\lvl x≠0 then x-pw (lvl x-1) else -1
def rightI (x w:Int):Int:=if isN x w/\lvl x≠0 then x+pw (lvl x-1) else -1
def parI (x w:Int):Int:=if isN x w/\x≠(w-1) / 2 then (if x / pw (lvl x+1) % 2=0 then x+pw (lvl x) else x-pw (lvl x)) else -1
def sibI (x w:Int):Int:=if isN x w/\x≠(w-1) / 2 then (if leftI (parI x w) w=x then rightI (parI x w) w else leftI (parI x w) w) else -1

theorem left_no {x w:Int} (h:¬isN x w):leftI x w=-1:=if_neg fun q=>h q.1
theorem right_no {x w:Int} (h:¬isN x w):rightI x w=-1:=if_neg fun q=>h q.1
theorem par_no {x w:Int} (h:¬isN x w):parI x w=-1:=if_neg fun q=>h q.1
theorem sib_no {x w:Int} (h:¬isN x w):sibI x w=-1:=if_neg fun q=>h q.1
theorem lvl_no {x:Int} (h:¬isL x):lvl x=-1:=if_pos (by unfold isL at h;omega)
theorem root_no {w:Int} (h:¬isW w):rootI w=-1:=if_neg h
theorem root_is {w:Int} (h:isW w):rootI w=(w-1) / 2:=if_pos h

def widths:List Int:=[1,3,7,15,31,63,127]
def all0 (f:Int->Bool):Bool:=widths.all f
def all1 (f:Int->Bool):Bool:=(List.range 127).all fun x=>f (x:Int)
def all2 (f:Int->Int->Bool):Bool:=widths.all fun w=>(List.range w.toNat).all fun x=>f (x:Int) w
theorem mem_widths {w:Int} (h:isW w):w∈widths:=by
 unfold isW at h;simp [widths,h]
theorem fin0 {p:Int->Prop} [∀ w,Decidable (p w)] (h:all0 (fun w=>decide (p w))=true) {w:Int} (hw:isW w):p w :=
 of_decide_eq_true (List.all_eq_true.1 h w (mem_widths hw))
theorem fin1 {p:Int->Prop} [∀ x,Decidable (p x)] (h:all1 (fun x=>decide (p x))=true) {x:Int} (hx:isL x):p x:=by
 obtain ⟨n,rfl⟩:=Int.eq_ofNat_of_zero_le hx.1;have hn:n<127:=by have:=hx.2;omega
 exact of_decide_eq_true (List.all_eq_true.1 h n (List.mem_range.2 hn))
theorem fin2 {p:Int->Int->Prop} [∀ x w,Decidable (p x w)] (h:all2 (fun x w=>decide (p x w))=true) {x w:Int} (hn:isN x w):p x w:=by
 obtain ⟨n,rfl⟩:=Int.eq_ofNat_of_zero_le hn.2.1;have hl:n<w.toNat:=by have:=hn.2.2;omega
 exact of_decide_eq_true (List.all_eq_true.1 (List.all_eq_true.1 h w (mem_widths hn.1)) n (List.mem_range.2 hl))

theorem isW.le {w:Int} (h:isW w):1<=w/\w<=127:=by unfold isW at h;omega
theorem isN.le {x w:Int} (h:isN x w):0<=x/\x<w/\1<=w/\w<=127:=⟨h.2.1,h.2.2,h.1.le.1,h.1.le.2⟩
theorem isN.l {x w:Int} (h:isN x w):isL x:=⟨h.2.1,by have:=h.le;omega⟩


section
variable {P:Program} {ops:Array Oper} {Q:Exit->Act->World->Prop} {n d:Nat} {E:Env} {o:Oper} {rest:List Oper} {w w0:World} {v:Value} {x y:Operand} {t t':TypeId}
theorem yi_shl1 {k:Int} {ks:IntKind} (h0:0<=k) (h1:k<63) (ho:o.op=.binOp .shl t x y t':=by rfl) (hx:val E x=some (nv 1):=by rfl) (hy:val E y=some (.int ks k):=by rfl):Yields P E o w (nv (pw k)) :=
 y_bin (fun x y w=>by
  show (Op.shift .shl .i64 1 ks k).run P w=_;unfold Op.shift;rw [if_neg (by omega)];have hm:min k.toNat IntKind.i64.bits=k.toNat:=by
   show min k.toNat 64=k.toNat;omega
  simp only [hm];show Result.ok (Value.int .i64 (IntKind.i64.wrap (1*2 ^ k.toNat))) w=_;have hp:(2:Int) ^ k.toNat=((2 ^ k.toNat:Nat):Int):=by simp
  have hb:2 ^ k.toNat<=2 ^ 62:=Nat.pow_le_pow_right (by omega) (by omega);unfold pw;rw [Int.one_mul,hp];generalize 2 ^ k.toNat=q at hb;rw [wrap_i64 (by omega) (by omega)]) ho hx hy
theorem yi_shrp {k:Int} {ks:IntKind} (h0:0<=k) (h1:k<63) (ho:o.op=.binOp .shr t x y t') (hx:val E x=some (nv r)) (hy:val E y=some (.int ks k)):Yields P E o w (nv (r / pw k)) :=
 yi_shr ho hx hy h0 (by omega)
theorem yu_eql (ho:o.op=.binOp .eql t x y t') (hx:val E x=some (.int .u64 r)) (hy:val E y=some (.int .u64 s)):Yields P E o w (.bool (decide (r=s))) :=
 y_bin (fun x y w=>by
  show Result.ok (Value.bool (r == s)) w=_;by_cases e:r=s
  ·subst e;simp
  simp [e]) ho hx hy
theorem yu_and (ho:o.op=.binOp .and t x y t') (hx:val E x=some (.int .u64 r)) (hy:val E y=some (.int .u64 s)):Yields P E o w (.int .u64 (bits .and .u64 r s)):=y_bin (fun x y w=>rfl) ho hx hy
theorem yu_mul (ho:o.op=.binOp .mul t x y t') (hx:val E x=some (.int .u64 r)) (hy:val E y=some (.int .u64 s)):Yields P E o w (.int .u64 (IntKind.u64.wrap (r*s))):=y_bin (fun x y w=>rfl) ho hx hy
theorem yu_neg (ho:o.op=.unOp .neg t x) (hx:val E x=some (.int .u64 r)):Yields P E o w (.int .u64 (IntKind.u64.wrap (0-r))):=y_un (fun w=>rfl) ho hx
theorem yu_not (ho:o.op=.unOp .xor t x) (hx:val E x=some (.int .u64 r)):Yields P E o w (.int .u64 (bits .xor .u64 IntKind.u64.max r)):=y_un (fun w=>rfl) ho hx
theorem yu_shr {ks:IntKind} (ho:o.op=.binOp .shr t x y t') (hx:val E x=some (.int .u64 r)) (hy:val E y=some (.int ks 58)):Yields P E o w (.int .u64 (r.fdiv (2 ^ 58))) :=
 y_bin (fun x y w=>by
  show (Op.shift .shr .u64 r ks 58).run P w=_;unfold Op.shift;rw [if_neg (by omega)];rfl) ho hx hy
theorem y_ixk {j len:Nat} {el:TypeId} {k:IntKind} {z:Int} (e:z=j) (hu:P.underlying t=some (.array len el)) (hs:(P.info? el).map (·.size)=some 1) (hj:j<len) (ho:o.op=.indexAddr t x y) (hx:val E x=some (pv b 0)) (hy:val E y=some (.int k z)):Yields P E o w (pv b j) :=
 y_ix (by
  subst e;cases hq:P.info? el with
  | none=>simp [hq] at hs
  | some i =>
   have hz:i.size=1:=by simpa [hq] using hs
   simp [Instr.indexAt,asIntOf,run_underlying hu,Instr.sureAddr,sizeOf,typeInfo,hq,hz,hj,Addr.add];exact fun e=>e.symm) ho hx hy
end

section
variable {P:Program} {ops:Array Oper} {Q:Exit->Act->World->Prop} {n d:Nat} {E:Env} {o:Oper} {rest:List Oper} {w w0:World} {v:Value} {x y:Operand} {t t':TypeId}
end

def tab (i:Nat):BitVec 8:=BitVec.ofNat 8 ([0,1,56,2,57,49,28,3,61,58,42,50,38,29,17,4,62,47,59,36,45,43,51,22,53,39,33,30,24,18,12,5,63,55,48,27,60,41,37,16,46,35,44,21,52,32,23,11,54,26,40,15,34,20,31,10,25,14,19,9,13,8,7,6].getD i 0)
def tzi (n:Int):Int:=(IntKind.u64.wrap (bits .and .u64 n (IntKind.u64.wrap (0-n))*285870213051353865)).fdiv (2 ^ 58)
def comp (x:Int):Int:=bits .xor .u64 IntKind.u64.max (IntKind.u64.wrap x)
theorem comp_facts {x:Int} (h:isL x):comp x≠0/\tzi (comp x)=((tzi (comp x)).toNat:Int)/\(tzi (comp x)).toNat<64/\IntKind.i64.wrap (vb (tab (tzi (comp x)).toNat))=lvl x :=
 fin1 (p:=fun x=>comp x≠0/\tzi (comp x)=((tzi (comp x)).toNat:Int)/\(tzi (comp x)).toNat<64/\IntKind.i64.wrap (vb (tab (tzi (comp x)).toNat))=lvl x) (by kernel_rfl) h
def Tb (w:World):Prop:=∃ tg,RowAt w 1 tg (cB 64 tab)
/- IxLite:
  Widths, nodes and roots, without the table of package math/bits.
-/
theorem wholeL_and {w:Int} (h0:0<w) (h1:w<=127):bits .and .i64 w (w+1)=0↔isW w:=by
 have h:=fin1 (p:=fun x=>bits .and .i64 (x+1) (x+1+1)=0↔isW (x+1)) (by kernel_rfl) (x:=w-1) ⟨by omega,by omega⟩;rwa [Int.sub_add_cancel] at h
theorem wholeL (w:Int) (W:World):Calls prog 67 #[nv w] W fun e w'=>e=.returned (.bool (decide (isW w)))/\w'=W:=by
 by_cases h0:0<w
 ·by_cases h1:w<=127
  ·have hq:=wholeL_and h0 h1;by_cases hw:isW w
   ·refine Ze func67 ntmps67 ?_;refine ZrAn [0,2] ?_;refine ZrM ?_;refine Za (yb (dT h0) yi_gtr) ?_;refine Xa 2 ?_;refine Zt 5 (yb (dT h1) yi_leq) ?_;refine Xa 4 ?_;refine Zt 9 (yi_add rfl rfl rfl (by omega) (by omega)) ?_;refine Zt 9 yi_and ?_;refine Zt 9 (yb (dT (hq.2 hw)) yi_eql) ?_;refine Xu 2 [2] ?_;exact Qa rfl rfl ⟨congrArg (fun b=>Ending.returned (Value.bool b)) (by simp [hw]),rfl⟩
   refine Ze func67 ntmps67 ?_;refine ZrAn [0,2] ?_;refine ZrM ?_;refine Za (yb (dT h0) yi_gtr) ?_;refine Xa 2 ?_;refine Zt 5 (yb (dT h1) yi_leq) ?_;refine Xa 4 ?_;refine Zt 9 (yi_add rfl rfl rfl (by omega) (by omega)) ?_;refine Zt 9 yi_and ?_;refine Zt 9 (yb (dF fun q=>hw (hq.1 q)) yi_eql) ?_;refine Xu 2 [2] ?_;exact Qa rfl rfl ⟨congrArg (fun b=>Ending.returned (Value.bool b)) (by simp [hw]),rfl⟩
  have hw:¬isW w:=by unfold isW;omega
  refine Ze func67 ntmps67 ?_;refine ZrAn [0,2] ?_;refine ZrM ?_;refine Za (yb (dT h0) yi_gtr) ?_;refine Xa 2 ?_;refine Zt 5 (yb (dF h1) yi_leq) ?_;refine Xu 9 [2] ?_;exact Qa rfl rfl ⟨congrArg (fun b=>Ending.returned (Value.bool b)) (by simp [hw]),rfl⟩
 have hw:¬isW w:=by unfold isW;omega
 refine Ze func67 ntmps67 ?_;refine ZrAn [0,2] ?_;refine ZrM ?_;refine Za (yb (dF h0) yi_gtr) ?_;refine Xu 12 [2] ?_;exact Qa rfl rfl ⟨congrArg (fun b=>Ending.returned (Value.bool b)) (by simp [hw]),rfl⟩
theorem isL_any (x w:Int) (W:World):Calls prog 197 #[nv x,nv w] W fun e w'=>e=.returned (.bool (decide (isN x w)))/\w'=W:=by
 refine Ze func197 ntmps197 ?_;refine ZrAn [0,1,4] ?_;refine ZrM ?_;refine Zi (Qp (wholeL w _)) (fun c1=>?_) fun c1=>?_
 ·refine Xa 2 ?_;refine Zp 7 yi_geq (fun c2=>?_) fun c2=>?_
  ·refine Xa 4 ?_;refine Zp 11 yi_lss (fun c3=>?_) fun c3=>?_
   ·refine Xu 2 [4] ?_;exact Qa rfl rfl ⟨congrArg (fun b=>Ending.returned (Value.bool b)) (by simp [isN, *]),rfl⟩
   refine Xu 2 [4] ?_;exact Qa rfl rfl ⟨congrArg (fun b=>Ending.returned (Value.bool b)) (by simp [isN, *]),rfl⟩
  refine Xu 7 [4] ?_;exact Qa rfl rfl ⟨congrArg (fun b=>Ending.returned (Value.bool b)) (by simp [isN, *]),rfl⟩
 refine Xu 10 [4] ?_;exact Qa rfl rfl ⟨congrArg (fun b=>Ending.returned (Value.bool b)) (by simp [isN, *]),rfl⟩
theorem trootL (w:Int) (W:World) (hw:isW w):Calls prog 294 #[nv w] W fun e w'=>e=.returned (nv ((w-1) / 2))/\w'=W:=by
 refine Ze func294 ntmps294 ?_;refine ZrAn [0,2] ?_;refine ZrM ?_;have f1:-9223372036854775808<=(w-1)/\(w-1)<9223372036854775808:=fin0 (p:=fun w=>-9223372036854775808<=(w-1)/\(w-1)<9223372036854775808) (by kernel_rfl) hw;refine Za (yi_sub rfl rfl rfl f1.1 f1.2) ?_;have f2:0<=(w-1):=fin0 (p:=fun w=>0<=(w-1)) (by kernel_rfl) hw;have f3:(w-1)<9223372036854775808:=fin0 (p:=fun w=>(w-1)<9223372036854775808) (by kernel_rfl) hw;refine Za (yi_quo rfl rfl rfl f2 (by decide) f3) ?_;refine ZAnr [2] ?_;exact Qa rfl rfl ⟨rfl,rfl⟩
theorem rootL (w:Int) (W:World):Calls prog 263 #[nv w] W fun e w'=>e=.returned (nv (rootI w))/\w'=W:=by
 by_cases hw:isW w
 ·refine Ze func263 ntmps263 ?_;refine ZrAn [0,2] ?_;refine Qd<|ZrM ?_
  have f1:isW w:=fin0 (p:=fun w=>isW w) (by kernel_rfl) hw;refine Za (yb (dT f1) (Qp (wholeL w _))) ?_;refine Xn 1 [0,2,5] ?_;refine Zcf [0,2] ?_;refine ZrM ?_;have f2:isW w:=fin0 (p:=fun w=>isW w) (by kernel_rfl) hw;refine Za (Qp (trootL w _ f2)) ?_;refine ZAnr [2] ?_;have f3:((w-1) / 2)=rootI w:=fin0 (p:=fun w=>((w-1) / 2)=rootI w) (by kernel_rfl) hw;exact Qa rfl rfl ⟨congrArg (fun k=>Ending.returned (nv k)) f3,rfl⟩
 refine Ze func263 ntmps263 ?_;refine ZrAn [0,2] ?_;refine Qd<|ZrM ?_
 refine Za (yb (dF hw) (Qp (wholeL w _))) ?_;refine Xn 1 [0,2,5] ?_;refine cg_ct rfl<|ZrAr [0,2] ?_
 refine Qc ?_;exact Qa rfl rfl ⟨congrArg (fun k=>Ending.returned (nv k)) (root_no hw).symm,rfl⟩
def WSL (w:Int) (t:Nat) (n:Int):Prop:=((t=0/\n=1)\/(t=1/\n=3/\w≠1)\/(t=2/\n=7/\w≠1/\w≠3)\/(t=3/\n=15/\w≠1/\w≠3/\w≠7)\/(t=4/\n=31/\w≠1/\w≠3/\w≠7/\w≠15)\/(t=5/\n=63/\w≠1/\w≠3/\w≠7/\w≠15/\w≠31)\/(t=6/\n=127/\w≠1/\w≠3/\w≠7/\w≠15/\w≠31/\w≠63)\/(t=7/\n=255/\w≠1/\w≠3/\w≠7/\w≠15/\w≠31/\w≠63/\w≠127))
theorem WSL.next {w n:Int} {t:Nat} (h:WSL w t n) (h1:n<=127) (h2:¬n=w):t<7/\WSL w (t+1) (2*n+1):=by
 unfold WSL at *;rcases h with h | h | h | h | h | h | h | h
 ·exact ⟨by omega,.inr (.inl (by omega))⟩
 ·exact ⟨by omega,.inr (.inr (.inl (by omega)))⟩
 ·exact ⟨by omega,.inr (.inr (.inr (.inl (by omega))))⟩
 ·exact ⟨by omega,.inr (.inr (.inr (.inr (.inl (by omega)))))⟩
 ·exact ⟨by omega,.inr (.inr (.inr (.inr (.inr (.inl (by omega))))))⟩
 ·exact ⟨by omega,.inr (.inr (.inr (.inr (.inr (.inr (.inl (by omega)))))))⟩
 ·exact ⟨by omega,.inr (.inr (.inr (.inr (.inr (.inr (.inr ((by omega))))))))⟩
 exact absurd h1 (by omega)
theorem WSL.none {w n:Int} {t:Nat} (h:WSL w t n) (h1:¬n<=127):¬isW w:=by
 unfold WSL at h;unfold isW;rcases h with h | h | h | h | h | h | h | h<;>omega
/- IxProg:
  Where nodes stand in a row: what the functions of the program answer.
-/
set_option maxRecDepth 20000
theorem tz64_any (z:Int) (j:Nat) (h0:z≠0) (hj:tzi z=j) (hl:j<64) (W:World) (rg:Tb W):Calls prog 330 #[.int .u64 z] W fun e w'=>e=.returned (.int .i64 (IntKind.i64.wrap (vb (tab j))))/\w'=W:=by
 obtain ⟨tg,rg⟩:=rg;refine Ze func330 ntmps330 ?_;refine ZrAn [0,2] ?_;refine Qd<|ZrM ?_
 refine Zan (yb (dF h0) (yu_eql rfl rfl rfl)) [0,2,4] ?_;refine Zcf [0,2] ?_;refine XR 2 ?_;refine Za (yu_neg rfl rfl) ?_;refine Za (yu_and rfl rfl rfl) ?_;refine Za (yu_mul rfl rfl rfl) ?_;refine Za (yu_shr rfl rfl rfl) ?_;refine Za (y_ixk (len:=64) (el:=5) hj (by kernel_rfl) (by kernel_rfl) hl rfl rfl rfl) ?_;refine Za (Qo rg (cB_get hl) (by kernel_rfl) rfl rfl) ?_;refine Za (y_conv_u (ds:=.int .u8) (k:=.i64)) ?_;refine ZAnr [2] ?_;exact Qa rfl rfl ⟨rfl,rfl⟩
theorem tz_any (z:Int) (j:Nat) (h0:z≠0) (hj:tzi z=j) (hl:j<64) (W:World) (rg:Tb W):Calls prog 301 #[.int .u64 z] W fun e w'=>e=.returned (.int .i64 (IntKind.i64.wrap (vb (tab j))))/\w'=W:=by
 refine Ze func301 ntmps301 ?_;refine ZrAn [0,2] ?_;refine Qd<|Zcf [0,2] ?_
 refine ZrM ?_;refine Za (Qp (tz64_any z j h0 hj hl _ rg)) ?_;refine ZAnr [2] ?_;exact Qa rfl rfl ⟨rfl,rfl⟩
theorem level_any (x:Int) (W:World) (rg:Tb W):Calls prog 271 #[nv x] W fun e w'=>e=.returned (nv (lvl x))/\w'=W:=by
 by_cases h0:x<0
 ·refine Ze func271 ntmps271 ?_;refine ZrAn [0,2] ?_;refine Qd<|ZrM ?_
  refine Za (yb (dT h0) yi_lss) ?_;refine Xt 4 [0,2,8] ?_;refine ZrAr [0,2] ?_;refine Qc ?_;exact Qa rfl rfl ⟨congrArg (fun k=>Ending.returned (nv k)) (lvl_no (by unfold isL;omega)).symm,rfl⟩
 by_cases h1:127<=x
 ·refine Ze func271 ntmps271 ?_;refine ZrAn [0,2] ?_;refine Qd<|ZrM ?_
  refine Za (yb (dF h0) yi_lss) ?_;refine Xa 2 ?_;refine Zt 5 (yb (dT h1) yi_geq) ?_;refine Xt 1 [0,2,8] ?_;refine ZrAr [0,2] ?_;refine Qc ?_;exact Qa rfl rfl ⟨congrArg (fun k=>Ending.returned (nv k)) (lvl_no (by unfold isL;omega)).symm,rfl⟩
 have hc:=comp_facts (x:=x) ⟨by omega,by omega⟩;refine Ze func271 ntmps271 ?_;refine ZrAn [0,2] ?_;refine Qd<|ZrM ?_
 refine Za (yb (dF h0) yi_lss) ?_;refine Xa 2 ?_;refine Zt 5 (yb (dF h1) yi_geq) ?_;refine Xn 1 [0,2,8] ?_;refine Zcf [0,2] ?_;refine ZrM ?_;refine Za (y_conv_u (ds:=.int .i64) (k:=.u64)) ?_;refine Za (yu_not rfl rfl) ?_;refine Za (Qp (tz_any (comp x) _ hc.1 hc.2.1 hc.2.2.1 _ rg)) ?_;refine ZAnr [2] ?_;exact Qa rfl rfl ⟨congrArg (fun k=>Ending.returned (nv k)) hc.2.2.2,rfl⟩
theorem whole_and {w:Int} (h0:0<w) (h1:w<=127):bits .and .i64 w (w+1)=0↔isW w:=by
 have h:=fin1 (p:=fun x=>bits .and .i64 (x+1) (x+1+1)=0↔isW (x+1)) (by kernel_rfl) (x:=w-1) ⟨by omega,by omega⟩;rwa [Int.sub_add_cancel] at h
theorem whole_any (w:Int) (W:World) (rg:Tb W):Calls prog 67 #[nv w] W fun e w'=>e=.returned (.bool (decide (isW w)))/\w'=W:=by
 by_cases h0:0<w
 ·by_cases h1:w<=127
  ·have hq:=whole_and h0 h1;by_cases hw:isW w
   ·refine Ze func67 ntmps67 ?_;refine ZrAn [0,2] ?_;refine ZrM ?_;refine Za (yb (dT h0) yi_gtr) ?_;refine Xa 2 ?_;refine Zt 5 (yb (dT h1) yi_leq) ?_;refine Xa 4 ?_;refine Zt 9 (yi_add rfl rfl rfl (by omega) (by omega)) ?_;refine Zt 9 yi_and ?_;refine Zt 9 (yb (dT (hq.2 hw)) yi_eql) ?_;refine Xu 2 [2] ?_;exact Qa rfl rfl ⟨congrArg (fun b=>Ending.returned (Value.bool b)) (by simp [hw]),rfl⟩
   refine Ze func67 ntmps67 ?_;refine ZrAn [0,2] ?_;refine ZrM ?_;refine Za (yb (dT h0) yi_gtr) ?_;refine Xa 2 ?_;refine Zt 5 (yb (dT h1) yi_leq) ?_;refine Xa 4 ?_;refine Zt 9 (yi_add rfl rfl rfl (by omega) (by omega)) ?_;refine Zt 9 yi_and ?_;refine Zt 9 (yb (dF fun q=>hw (hq.1 q)) yi_eql) ?_;refine Xu 2 [2] ?_;exact Qa rfl rfl ⟨congrArg (fun b=>Ending.returned (Value.bool b)) (by simp [hw]),rfl⟩
  have hw:¬isW w:=by unfold isW;omega
  refine Ze func67 ntmps67 ?_;refine ZrAn [0,2] ?_;refine ZrM ?_;refine Za (yb (dT h0) yi_gtr) ?_;refine Xa 2 ?_;refine Zt 5 (yb (dF h1) yi_leq) ?_;refine Xu 9 [2] ?_;exact Qa rfl rfl ⟨congrArg (fun b=>Ending.returned (Value.bool b)) (by simp [hw]),rfl⟩
 have hw:¬isW w:=by unfold isW;omega
 refine Ze func67 ntmps67 ?_;refine ZrAn [0,2] ?_;refine ZrM ?_;refine Za (yb (dF h0) yi_gtr) ?_;refine Xu 12 [2] ?_;exact Qa rfl rfl ⟨congrArg (fun b=>Ending.returned (Value.bool b)) (by simp [hw]),rfl⟩
theorem is_any (x w:Int) (W:World) (rg:Tb W):Calls prog 197 #[nv x,nv w] W fun e w'=>e=.returned (.bool (decide (isN x w)))/\w'=W:=by
 refine Ze func197 ntmps197 ?_;refine ZrAn [0,1,4] ?_;refine ZrM ?_;refine Zi (Qp (whole_any w _ rg)) (fun c1=>?_) fun c1=>?_
 ·refine Xa 2 ?_;refine Zp 7 yi_geq (fun c2=>?_) fun c2=>?_
  ·refine Xa 4 ?_;refine Zp 11 yi_lss (fun c3=>?_) fun c3=>?_
   ·refine Xu 2 [4] ?_;exact Qa rfl rfl ⟨congrArg (fun b=>Ending.returned (Value.bool b)) (by simp [isN, *]),rfl⟩
   refine Xu 2 [4] ?_;exact Qa rfl rfl ⟨congrArg (fun b=>Ending.returned (Value.bool b)) (by simp [isN, *]),rfl⟩
  refine Xu 7 [4] ?_;exact Qa rfl rfl ⟨congrArg (fun b=>Ending.returned (Value.bool b)) (by simp [isN, *]),rfl⟩
 refine Xu 10 [4] ?_;exact Qa rfl rfl ⟨congrArg (fun b=>Ending.returned (Value.bool b)) (by simp [isN, *]),rfl⟩
theorem troot_any (w:Int) (W:World) (rg:Tb W) (hw:isW w):Calls prog 294 #[nv w] W fun e w'=>e=.returned (nv ((w-1) / 2))/\w'=W:=by
 refine Ze func294 ntmps294 ?_;refine ZrAn [0,2] ?_;refine ZrM ?_;have f1:-9223372036854775808<=(w-1)/\(w-1)<9223372036854775808:=fin0 (p:=fun w=>-9223372036854775808<=(w-1)/\(w-1)<9223372036854775808) (by kernel_rfl) hw;refine Za (yi_sub rfl rfl rfl f1.1 f1.2) ?_;have f2:0<=(w-1):=fin0 (p:=fun w=>0<=(w-1)) (by kernel_rfl) hw;have f3:(w-1)<9223372036854775808:=fin0 (p:=fun w=>(w-1)<9223372036854775808) (by kernel_rfl) hw;refine Za (yi_quo rfl rfl rfl f2 (by decide) f3) ?_;refine ZAnr [2] ?_;exact Qa rfl rfl ⟨rfl,rfl⟩
theorem tleft_any (w x:Int) (W:World) (rg:Tb W) (hn:isN x w):Calls prog 273 #[nv w,nv x] W fun e w'=>e=.returned (nv (leftI x w))/\w'=W:=by
 refine Ze func273 ntmps273 ?_;refine ZrAn [1,4] ?_;refine ZrM ?_;refine Za (Qp (level_any x _ rg)) ?_;refine ZAn [1,4,5] ?_;refine Qd<|ZrM ?_
 by_cases c1:(lvl x)=0
 ·have f2:(lvl x)=0:=fin2 (p:=fun x w=>(lvl x)=0->(lvl x)=0) (by kernel_rfl) hn c1;refine Zant (yb (dT f2) yi_eql) [1,4,5,9] ?_;refine ZrAr [1,5,4] ?_;refine Qc ?_;have f3:(-1)=leftI x w:=fin2 (p:=fun x w=>(lvl x)=0->(-1)=leftI x w) (by kernel_rfl) hn c1;exact Qa rfl rfl ⟨congrArg (fun k=>Ending.returned (nv k)) f3,rfl⟩
 have f4:¬((lvl x)=0):=fin2 (p:=fun x w=>¬((lvl x)=0)->¬((lvl x)=0)) (by kernel_rfl) hn c1;refine Zan (yb (dF f4) yi_eql) [1,4,5,9] ?_;refine Zcf [1,4,5] ?_;refine XR 2 ?_;have f5:-9223372036854775808<=((lvl x)-1)/\((lvl x)-1)<9223372036854775808:=fin2 (p:=fun x w=>¬((lvl x)=0)->-9223372036854775808<=((lvl x)-1)/\((lvl x)-1)<9223372036854775808) (by kernel_rfl) hn c1;refine Za (yi_sub rfl rfl rfl f5.1 f5.2) ?_;have f6:0<=((lvl x)-1)/\((lvl x)-1)<63:=fin2 (p:=fun x w=>¬((lvl x)=0)->0<=((lvl x)-1)/\((lvl x)-1)<63) (by kernel_rfl) hn c1;refine Za (yi_shl1 f6.1 f6.2) ?_;have f7:-9223372036854775808<=(x-(pw ((lvl x)-1)))/\(x-(pw ((lvl x)-1)))<9223372036854775808:=fin2 (p:=fun x w=>¬((lvl x)=0)->-9223372036854775808<=(x-(pw ((lvl x)-1)))/\(x-(pw ((lvl x)-1)))<9223372036854775808) (by kernel_rfl) hn c1;refine Za (yi_sub rfl rfl rfl f7.1 f7.2) ?_;refine ZAnr [4] ?_;have f8:(x-(pw ((lvl x)-1)))=leftI x w:=fin2 (p:=fun x w=>¬((lvl x)=0)->(x-(pw ((lvl x)-1)))=leftI x w) (by kernel_rfl) hn c1;exact Qa rfl rfl ⟨congrArg (fun k=>Ending.returned (nv k)) f8,rfl⟩
theorem tright_any (w x:Int) (W:World) (rg:Tb W) (hn:isN x w):Calls prog 274 #[nv w,nv x] W fun e w'=>e=.returned (nv (rightI x w))/\w'=W:=by
 refine Ze func274 ntmps274 ?_;refine ZrAn [1,4] ?_;refine ZrM ?_;refine Za (Qp (level_any x _ rg)) ?_;refine ZAn [1,4,5] ?_;refine Qd<|ZrM ?_
 by_cases c1:(lvl x)=0
 ·have f2:(lvl x)=0:=fin2 (p:=fun x w=>(lvl x)=0->(lvl x)=0) (by kernel_rfl) hn c1;refine Zant (yb (dT f2) yi_eql) [1,4,5,9] ?_;refine ZrAr [1,5,4] ?_;refine Qc ?_;have f3:(-1)=rightI x w:=fin2 (p:=fun x w=>(lvl x)=0->(-1)=rightI x w) (by kernel_rfl) hn c1;exact Qa rfl rfl ⟨congrArg (fun k=>Ending.returned (nv k)) f3,rfl⟩
 have f4:¬((lvl x)=0):=fin2 (p:=fun x w=>¬((lvl x)=0)->¬((lvl x)=0)) (by kernel_rfl) hn c1;refine Zan (yb (dF f4) yi_eql) [1,4,5,9] ?_;refine Zcf [1,4,5] ?_;refine XR 2 ?_;have f5:-9223372036854775808<=((lvl x)-1)/\((lvl x)-1)<9223372036854775808:=fin2 (p:=fun x w=>¬((lvl x)=0)->-9223372036854775808<=((lvl x)-1)/\((lvl x)-1)<9223372036854775808) (by kernel_rfl) hn c1;refine Za (yi_sub rfl rfl rfl f5.1 f5.2) ?_;have f6:0<=((lvl x)-1)/\((lvl x)-1)<63:=fin2 (p:=fun x w=>¬((lvl x)=0)->0<=((lvl x)-1)/\((lvl x)-1)<63) (by kernel_rfl) hn c1;refine Za (yi_shl1 f6.1 f6.2) ?_;have f7:-9223372036854775808<=(x+(pw ((lvl x)-1)))/\(x+(pw ((lvl x)-1)))<9223372036854775808:=fin2 (p:=fun x w=>¬((lvl x)=0)->-9223372036854775808<=(x+(pw ((lvl x)-1)))/\(x+(pw ((lvl x)-1)))<9223372036854775808) (by kernel_rfl) hn c1;refine Za (yi_add rfl rfl rfl f7.1 f7.2) ?_;refine ZAnr [4] ?_;have f8:(x+(pw ((lvl x)-1)))=rightI x w:=fin2 (p:=fun x w=>¬((lvl x)=0)->(x+(pw ((lvl x)-1)))=rightI x w) (by kernel_rfl) hn c1;exact Qa rfl rfl ⟨congrArg (fun k=>Ending.returned (nv k)) f8,rfl⟩
theorem tparent_any (w x:Int) (W:World) (rg:Tb W) (hn:isN x w):Calls prog 258 #[nv w,nv x] W fun e w'=>e=.returned (nv (parI x w))/\w'=W:=by
 refine Ze func258 ntmps258 ?_;refine ZrAn [0,1,4] ?_;refine Qd<|ZrM ?_
 refine ZM ?_;have f1:isW w:=fin2 (p:=fun x w=>isW w) (by kernel_rfl) hn;refine Za (Qp (troot_any w _ rg f1)) ?_;by_cases c2:x=((w-1) / 2)
 ·have f3:x=((w-1) / 2):=fin2 (p:=fun x w=>x=((w-1) / 2)->x=((w-1) / 2)) (by kernel_rfl) hn c2;refine Zant (yb (dT f3) yi_eql) [1,4,9] ?_;refine ZrAr [1,4] ?_;refine Qc ?_;have f4:(-1)=parI x w:=fin2 (p:=fun x w=>x=((w-1) / 2)->(-1)=parI x w) (by kernel_rfl) hn c2;exact Qa rfl rfl ⟨congrArg (fun k=>Ending.returned (nv k)) f4,rfl⟩
 have f5:¬(x=((w-1) / 2)):=fin2 (p:=fun x w=>¬(x=((w-1) / 2))->¬(x=((w-1) / 2))) (by kernel_rfl) hn c2;refine Zan (yb (dF f5) yi_eql) [1,4,9] ?_;refine Zcf [1,4] ?_;refine ZrM ?_;refine Za (Qp (level_any x _ rg)) ?_;refine ZAn [1,4,5] ?_;refine Qd<|ZrM ?_
 refine ZM ?_;have f6:-9223372036854775808<=((lvl x)+1)/\((lvl x)+1)<9223372036854775808:=fin2 (p:=fun x w=>¬(x=((w-1) / 2))->-9223372036854775808<=((lvl x)+1)/\((lvl x)+1)<9223372036854775808) (by kernel_rfl) hn c2;refine Za (yi_add rfl rfl rfl f6.1 f6.2) ?_;have f7:0<=((lvl x)+1)/\((lvl x)+1)<63:=fin2 (p:=fun x w=>¬(x=((w-1) / 2))->0<=((lvl x)+1)/\((lvl x)+1)<63) (by kernel_rfl) hn c2;refine Za (yi_shrp f7.1 f7.2 rfl rfl rfl) ?_;have f8:0<=(x / pw ((lvl x)+1)):=fin2 (p:=fun x w=>¬(x=((w-1) / 2))->0<=(x / pw ((lvl x)+1))) (by kernel_rfl) hn c2;refine Za (yi_rem rfl rfl rfl f8 (by decide)) ?_;by_cases c9:((x / pw ((lvl x)+1)) % 2)=0
 ·have f10:((x / pw ((lvl x)+1)) % 2)=0:=fin2 (p:=fun x w=>¬(x=((w-1) / 2))->((x / pw ((lvl x)+1)) % 2)=0->((x / pw ((lvl x)+1)) % 2)=0) (by kernel_rfl) hn c2 c9;refine Zant (yb (dT f10) yi_eql) [1,4,5,17] ?_;refine XR 2 ?_;have f11:0<=(lvl x)/\(lvl x)<63:=fin2 (p:=fun x w=>¬(x=((w-1) / 2))->((x / pw ((lvl x)+1)) % 2)=0->0<=(lvl x)/\(lvl x)<63) (by kernel_rfl) hn c2 c9;refine Za (yi_shl1 f11.1 f11.2) ?_;have f12:-9223372036854775808<=(x+(pw (lvl x)))/\(x+(pw (lvl x)))<9223372036854775808:=fin2 (p:=fun x w=>¬(x=((w-1) / 2))->((x / pw ((lvl x)+1)) % 2)=0->-9223372036854775808<=(x+(pw (lvl x)))/\(x+(pw (lvl x)))<9223372036854775808) (by kernel_rfl) hn c2 c9;refine Za (yi_add rfl rfl rfl f12.1 f12.2) ?_;refine ZAnr [1,5,4] ?_;refine Qc ?_;have f13:(x+(pw (lvl x)))=parI x w:=fin2 (p:=fun x w=>¬(x=((w-1) / 2))->((x / pw ((lvl x)+1)) % 2)=0->(x+(pw (lvl x)))=parI x w) (by kernel_rfl) hn c2 c9;exact Qa rfl rfl ⟨congrArg (fun k=>Ending.returned (nv k)) f13,rfl⟩
 have f14:¬(((x / pw ((lvl x)+1)) % 2)=0):=fin2 (p:=fun x w=>¬(x=((w-1) / 2))->¬(((x / pw ((lvl x)+1)) % 2)=0)->¬(((x / pw ((lvl x)+1)) % 2)=0)) (by kernel_rfl) hn c2 c9;refine Zan (yb (dF f14) yi_eql) [1,4,5,17] ?_;refine Zcf [1,4,5] ?_;refine XR 2 ?_;have f15:0<=(lvl x)/\(lvl x)<63:=fin2 (p:=fun x w=>¬(x=((w-1) / 2))->¬(((x / pw ((lvl x)+1)) % 2)=0)->0<=(lvl x)/\(lvl x)<63) (by kernel_rfl) hn c2 c9;refine Za (yi_shl1 f15.1 f15.2) ?_;have f16:-9223372036854775808<=(x-(pw (lvl x)))/\(x-(pw (lvl x)))<9223372036854775808:=fin2 (p:=fun x w=>¬(x=((w-1) / 2))->¬(((x / pw ((lvl x)+1)) % 2)=0)->-9223372036854775808<=(x-(pw (lvl x)))/\(x-(pw (lvl x)))<9223372036854775808) (by kernel_rfl) hn c2 c9;refine Za (yi_sub rfl rfl rfl f16.1 f16.2) ?_;refine ZAnr [4] ?_;have f17:(x-(pw (lvl x)))=parI x w:=fin2 (p:=fun x w=>¬(x=((w-1) / 2))->¬(((x / pw ((lvl x)+1)) % 2)=0)->(x-(pw (lvl x)))=parI x w) (by kernel_rfl) hn c2 c9;exact Qa rfl rfl ⟨congrArg (fun k=>Ending.returned (nv k)) f17,rfl⟩
theorem tsibling_any (w x:Int) (W:World) (rg:Tb W) (hn:isN x w):Calls prog 241 #[nv w,nv x] W fun e w'=>e=.returned (nv (sibI x w))/\w'=W:=by
 refine Ze func241 ntmps241 ?_;refine ZrAn [0,1,4] ?_;refine XR 2 ?_;have f1:isN x w:=fin2 (p:=fun x w=>isN x w) (by kernel_rfl) hn;refine Za (Qp (tparent_any w x _ rg f1)) ?_;refine ZAn [0,1,4,5] ?_;refine Qd<|Qj<|ZrM ?_
 by_cases c2:(parI x w)=(-1)
 ·have f3:(parI x w)=(-1):=fin2 (p:=fun x w=>(parI x w)=(-1)->(parI x w)=(-1)) (by kernel_rfl) hn c2;refine Za (yb (dT f3) yi_eql) ?_;refine ZAnt [0,1,4,5,9] ?_;refine ZrAr [0,5,4] ?_;refine Qg<|Qc ?_
  have f4:(-1)=sibI x w:=fin2 (p:=fun x w=>(parI x w)=(-1)->(-1)=sibI x w) (by kernel_rfl) hn c2;exact Qa rfl rfl ⟨congrArg (fun k=>Ending.returned (nv k)) f4,rfl⟩
 have f5:¬((parI x w)=(-1)):=fin2 (p:=fun x w=>¬((parI x w)=(-1))->¬((parI x w)=(-1))) (by kernel_rfl) hn c2;refine Za (yb (dF f5) yi_eql) ?_;refine ZAn [0,1,4,5,9] ?_;refine cg_cf rfl<|ZrM ?_
 refine Xa 2 ?_;have f6:isN (parI x w) w:=fin2 (p:=fun x w=>¬((parI x w)=(-1))->isN (parI x w) w) (by kernel_rfl) hn c2;refine Za (Qp (tleft_any w (parI x w) _ rg f6)) ?_;by_cases c7:x=(leftI (parI x w) w)
 ·have f8:x=(leftI (parI x w) w):=fin2 (p:=fun x w=>¬((parI x w)=(-1))->x=(leftI (parI x w) w)->x=(leftI (parI x w) w)) (by kernel_rfl) hn c2 c7;refine Za (yb (dT f8) yi_eql) ?_;refine ZAnt [0,4,5,12] ?_;refine XR 2 ?_;have f9:isN (parI x w) w:=fin2 (p:=fun x w=>¬((parI x w)=(-1))->x=(leftI (parI x w) w)->isN (parI x w) w) (by kernel_rfl) hn c2 c7;refine Za (Qp (tright_any w (parI x w) _ rg f9)) ?_;refine ZAnr [0,5,4] ?_;refine Qg<|Qc ?_
  have f10:(rightI (parI x w) w)=sibI x w:=fin2 (p:=fun x w=>¬((parI x w)=(-1))->x=(leftI (parI x w) w)->(rightI (parI x w) w)=sibI x w) (by kernel_rfl) hn c2 c7;exact Qa rfl rfl ⟨congrArg (fun k=>Ending.returned (nv k)) f10,rfl⟩
 have f11:¬(x=(leftI (parI x w) w)):=fin2 (p:=fun x w=>¬((parI x w)=(-1))->¬(x=(leftI (parI x w) w))->¬(x=(leftI (parI x w) w))) (by kernel_rfl) hn c2 c7;refine Za (yb (dF f11) yi_eql) ?_;refine ZAn [0,4,5,12] ?_;refine cg_cf rfl<|cg_skip<|Qi<|Nx [0,4,5] ?_
 refine XR 2 ?_;have f12:isN (parI x w) w:=fin2 (p:=fun x w=>¬((parI x w)=(-1))->¬(x=(leftI (parI x w) w))->isN (parI x w) w) (by kernel_rfl) hn c2 c7;refine Za (Qp (tleft_any w (parI x w) _ rg f12)) ?_;refine ZAnr [4] ?_;have f13:(leftI (parI x w) w)=sibI x w:=fin2 (p:=fun x w=>¬((parI x w)=(-1))->¬(x=(leftI (parI x w) w))->(leftI (parI x w) w)=sibI x w) (by kernel_rfl) hn c2 c7;exact Qa rfl rfl ⟨congrArg (fun k=>Ending.returned (nv k)) f13,rfl⟩
theorem told_left (x w:Int) (W:World) (rg:Tb W):Calls prog 240 #[nv x,nv w,.func (.func 273) #[] #[]] W fun e w'=>e=.returned (nv (leftI x w))/\w'=W:=by
 by_cases hn:isN x w
 ·refine Ze func240 ntmps240 ?_;refine ZrAn [0,1,2,6] ?_;refine Qd<|ZrM ?_
  refine ZM ?_;have f1:isN x w:=fin2 (p:=fun x w=>isN x w) (by kernel_rfl) hn;refine Za (yb (dT f1) (Qp (is_any x w _ rg))) ?_;refine Xn 1 [0,1,2,6,10] ?_;refine Zcf [0,1,2,6] ?_;refine XR 3 ?_;have f2:isN x w:=fin2 (p:=fun x w=>isN x w) (by kernel_rfl) hn;refine Za (y_callf (tleft_any w x _ rg f2)) ?_;refine ZAnr [6] ?_;exact Qa rfl rfl ⟨rfl,rfl⟩
 refine Ze func240 ntmps240 ?_;refine ZrAn [0,1,2,6] ?_;refine Qd<|ZrM ?_
 refine ZM ?_;refine Za (yb (dF hn) (Qp (is_any x w _ rg))) ?_;refine Xn 1 [0,1,2,6,10] ?_;refine cg_ct rfl<|ZrAr [0,1,2,6] ?_
 refine Qc ?_;exact Qa rfl rfl ⟨congrArg (fun k=>Ending.returned (nv k)) (left_no hn).symm,rfl⟩
theorem left_any (x w:Int) (W:World) (rg:Tb W):Calls prog 235 #[nv x,nv w] W fun e w'=>e=.returned (nv (leftI x w))/\w'=W:=by
 refine Ze func235 ntmps235 ?_;refine ZrAn [0,1,4] ?_;refine XR 2 ?_;refine Za (Qp (told_left x w _ rg)) ?_;refine ZAnr [4] ?_;exact Qa rfl rfl ⟨rfl,rfl⟩
theorem told_right (x w:Int) (W:World) (rg:Tb W):Calls prog 240 #[nv x,nv w,.func (.func 274) #[] #[]] W fun e w'=>e=.returned (nv (rightI x w))/\w'=W:=by
 by_cases hn:isN x w
 ·refine Ze func240 ntmps240 ?_;refine ZrAn [0,1,2,6] ?_;refine Qd<|ZrM ?_
  refine ZM ?_;have f1:isN x w:=fin2 (p:=fun x w=>isN x w) (by kernel_rfl) hn;refine Za (yb (dT f1) (Qp (is_any x w _ rg))) ?_;refine Xn 1 [0,1,2,6,10] ?_;refine Zcf [0,1,2,6] ?_;refine XR 3 ?_;have f2:isN x w:=fin2 (p:=fun x w=>isN x w) (by kernel_rfl) hn;refine Za (y_callf (tright_any w x _ rg f2)) ?_;refine ZAnr [6] ?_;exact Qa rfl rfl ⟨rfl,rfl⟩
 refine Ze func240 ntmps240 ?_;refine ZrAn [0,1,2,6] ?_;refine Qd<|ZrM ?_
 refine ZM ?_;refine Za (yb (dF hn) (Qp (is_any x w _ rg))) ?_;refine Xn 1 [0,1,2,6,10] ?_;refine cg_ct rfl<|ZrAr [0,1,2,6] ?_
 refine Qc ?_;exact Qa rfl rfl ⟨congrArg (fun k=>Ending.returned (nv k)) (right_no hn).symm,rfl⟩
theorem right_any (x w:Int) (W:World) (rg:Tb W):Calls prog 236 #[nv x,nv w] W fun e w'=>e=.returned (nv (rightI x w))/\w'=W:=by
 refine Ze func236 ntmps236 ?_;refine ZrAn [0,1,4] ?_;refine XR 2 ?_;refine Za (Qp (told_right x w _ rg)) ?_;refine ZAnr [4] ?_;exact Qa rfl rfl ⟨rfl,rfl⟩
theorem told_parent (x w:Int) (W:World) (rg:Tb W):Calls prog 240 #[nv x,nv w,.func (.func 258) #[] #[]] W fun e w'=>e=.returned (nv (parI x w))/\w'=W:=by
 by_cases hn:isN x w
 ·refine Ze func240 ntmps240 ?_;refine ZrAn [0,1,2,6] ?_;refine Qd<|ZrM ?_
  refine ZM ?_;have f1:isN x w:=fin2 (p:=fun x w=>isN x w) (by kernel_rfl) hn;refine Za (yb (dT f1) (Qp (is_any x w _ rg))) ?_;refine Xn 1 [0,1,2,6,10] ?_;refine Zcf [0,1,2,6] ?_;refine XR 3 ?_;have f2:isN x w:=fin2 (p:=fun x w=>isN x w) (by kernel_rfl) hn;refine Za (y_callf (tparent_any w x _ rg f2)) ?_;refine ZAnr [6] ?_;exact Qa rfl rfl ⟨rfl,rfl⟩
 refine Ze func240 ntmps240 ?_;refine ZrAn [0,1,2,6] ?_;refine Qd<|ZrM ?_
 refine ZM ?_;refine Za (yb (dF hn) (Qp (is_any x w _ rg))) ?_;refine Xn 1 [0,1,2,6,10] ?_;refine cg_ct rfl<|ZrAr [0,1,2,6] ?_
 refine Qc ?_;exact Qa rfl rfl ⟨congrArg (fun k=>Ending.returned (nv k)) (par_no hn).symm,rfl⟩
theorem parent_any (x w:Int) (W:World) (rg:Tb W):Calls prog 220 #[nv x,nv w] W fun e w'=>e=.returned (nv (parI x w))/\w'=W:=by
 refine Ze func220 ntmps220 ?_;refine ZrAn [0,1,4] ?_;refine XR 2 ?_;refine Za (Qp (told_parent x w _ rg)) ?_;refine ZAnr [4] ?_;exact Qa rfl rfl ⟨rfl,rfl⟩
theorem told_sibling (x w:Int) (W:World) (rg:Tb W):Calls prog 240 #[nv x,nv w,.func (.func 241) #[] #[]] W fun e w'=>e=.returned (nv (sibI x w))/\w'=W:=by
 by_cases hn:isN x w
 ·refine Ze func240 ntmps240 ?_;refine ZrAn [0,1,2,6] ?_;refine Qd<|ZrM ?_
  refine ZM ?_;have f1:isN x w:=fin2 (p:=fun x w=>isN x w) (by kernel_rfl) hn;refine Za (yb (dT f1) (Qp (is_any x w _ rg))) ?_;refine Xn 1 [0,1,2,6,10] ?_;refine Zcf [0,1,2,6] ?_;refine XR 3 ?_;have f2:isN x w:=fin2 (p:=fun x w=>isN x w) (by kernel_rfl) hn;refine Za (y_callf (tsibling_any w x _ rg f2)) ?_;refine ZAnr [6] ?_;exact Qa rfl rfl ⟨rfl,rfl⟩
 refine Ze func240 ntmps240 ?_;refine ZrAn [0,1,2,6] ?_;refine Qd<|ZrM ?_
 refine ZM ?_;refine Za (yb (dF hn) (Qp (is_any x w _ rg))) ?_;refine Xn 1 [0,1,2,6,10] ?_;refine cg_ct rfl<|ZrAr [0,1,2,6] ?_
 refine Qc ?_;exact Qa rfl rfl ⟨congrArg (fun k=>Ending.returned (nv k)) (sib_no hn).symm,rfl⟩
theorem sibling_any (x w:Int) (W:World) (rg:Tb W):Calls prog 196 #[nv x,nv w] W fun e w'=>e=.returned (nv (sibI x w))/\w'=W:=by
 refine Ze func196 ntmps196 ?_;refine ZrAn [0,1,4] ?_;refine XR 2 ?_;refine Za (Qp (told_sibling x w _ rg)) ?_;refine ZAnr [4] ?_;exact Qa rfl rfl ⟨rfl,rfl⟩
/- IxRef:
  Where nodes stand in a row: what the document answers.
-/
set_option maxRecDepth 20000
def WS (w:Int) (t:Nat) (n:Int):Prop:=((t=0/\n=1)\/(t=1/\n=3/\w≠1)\/(t=2/\n=7/\w≠1/\w≠3)\/(t=3/\n=15/\w≠1/\w≠3/\w≠7)\/(t=4/\n=31/\w≠1/\w≠3/\w≠7/\w≠15)\/(t=5/\n=63/\w≠1/\w≠3/\w≠7/\w≠15/\w≠31)\/(t=6/\n=127/\w≠1/\w≠3/\w≠7/\w≠15/\w≠31/\w≠63)\/(t=7/\n=255/\w≠1/\w≠3/\w≠7/\w≠15/\w≠31/\w≠63/\w≠127))
theorem WS.next {w n:Int} {t:Nat} (h:WS w t n) (h1:n<=127) (h2:¬n=w):t<7/\WS w (t+1) (2*n+1):=by
 unfold WS at *;rcases h with h | h | h | h | h | h | h | h
 ·exact ⟨by omega,.inr (.inl (by omega))⟩
 ·exact ⟨by omega,.inr (.inr (.inl (by omega)))⟩
 ·exact ⟨by omega,.inr (.inr (.inr (.inl (by omega))))⟩
 ·exact ⟨by omega,.inr (.inr (.inr (.inr (.inl (by omega)))))⟩
 ·exact ⟨by omega,.inr (.inr (.inr (.inr (.inr (.inl (by omega))))))⟩
 ·exact ⟨by omega,.inr (.inr (.inr (.inr (.inr (.inr (.inl (by omega)))))))⟩
 ·exact ⟨by omega,.inr (.inr (.inr (.inr (.inr (.inr (.inr ((by omega))))))))⟩
 exact absurd h1 (by omega)
theorem WS.none {w n:Int} {t:Nat} (h:WS w t n) (h1:¬n<=127):¬isW w:=by
 unfold WS at h;unfold isW;rcases h with h | h | h | h | h | h | h | h<;>omega
/- WaMath:
  Ways up, what stands beside them, what is below, as plain functions; what holds of all nodes, and of all pairs of nodes, of all widths, by trying all of them, in numbers that the kernel reckons with at once.
-/
def lvlN (x:Nat):Nat:=Nat.log2 (Nat.xor x (x+1))
def p2 (k:Nat):Nat:=Nat.pow 2 k
def parN (x:Nat):Nat:=bif Nat.beq (Nat.mod (Nat.div x (p2 (lvlN x+1))) 2) 0 then x+p2 (lvlN x) else x-p2 (lvlN x)
def sibN (x:Nat):Nat:=bif Nat.beq (Nat.mod (Nat.div x (p2 (lvlN x+1))) 2) 0 then x+p2 (lvlN x+1) else x-p2 (lvlN x+1)
def dirN:Nat->Nat->Nat->List Nat
 | 0,_,_=>[]
 | k+1,x,w=>bif Nat.beq x (w / 2) then [] else parN x::dirN k (parN x) w
def copN:Nat->Nat->Nat->List Nat
 | 0,_,_=>[]
 | k+1,x,w=>bif Nat.beq x (w / 2) then [] else sibN x::copN k (parN x) w
def undN (x y:Nat):Bool:=Nat.ble (y+1) (x+p2 (lvlN y)) && Nat.ble (x+1) (y+p2 (lvlN y))
def widthsN:List Nat:=[1,3,7,15,31,63,127]
def all3N (f:Nat->Nat->Nat->Bool):Bool:=widthsN.all fun w=>(List.range w).all fun x=>(List.range w).all fun y=>f x y w
theorem fin3N {p:Nat->Nat->Nat->Bool} (h:all3N p=true) {x y w:Nat} (hw:w∈widthsN) (hx:x<w) (hy:y<w):p x y w=true :=
 List.all_eq_true.1 (List.all_eq_true.1 (List.all_eq_true.1 h w hw) x (List.mem_range.2 hx)) y (List.mem_range.2 hy)

-- pairs of nodes
theorem pairs3:all3N (fun x y w=>(Nat.beq x y || (dirN 7 x w).any (Nat.beq y)) == undN x y)=true:=by kernel_rfl

-- of whole numbers
def dirI (x w:Int):List Int:=if isN x w then (dirN 7 x.toNat w.toNat).map (fun (k:Nat)=>(k:Int)) else []
def copI (x w:Int):List Int:=if isN x w then (copN 7 x.toNat w.toNat).map (fun (k:Nat)=>(k:Int)) else []
def undI (x y w:Int):Prop:=isN x w/\isN y w/\undN x.toNat y.toNat=true
instance (x y w:Int):Decidable (undI x y w):=by unfold undI;infer_instance
theorem dir_no {x w:Int} (h:¬isN x w):dirI x w=[]:=if_neg h
theorem cop_no {x w:Int} (h:¬isN x w):copI x w=[]:=if_neg h
theorem dir_step {x w:Int} (hn:isN x w):dirI x w=if parI x w<0 then [] else parI x w::dirI (parI x w) w :=
 fin2 (p:=fun x w=>dirI x w=if parI x w<0 then [] else parI x w::dirI (parI x w) w) (by kernel_rfl) hn
theorem dir_len {x w:Int} (hn:isN x w):((dirI x w).length:Int)=lvl (rootI w)-lvl x/\(copI x w).length=(dirI x w).length :=
 fin2 (p:=fun x w=>((dirI x w).length:Int)=lvl (rootI w)-lvl x/\(copI x w).length=(dirI x w).length) (by kernel_rfl) hn
theorem par_up {x w:Int} (hn:isN x w):(parI x w<0↔x=rootI w)/\(¬parI x w<0->isN (parI x w) w/\lvl (parI x w)=lvl x+1) :=
 fin2 (p:=fun x w=>(parI x w<0↔x=rootI w)/\(¬parI x w<0->isN (parI x w) w/\lvl (parI x w)=lvl x+1)) (by kernel_rfl) hn
theorem nat_of {x w:Int} (h:isN x w):∃ n v:Nat,x=(n:Int)/\w=(v:Int)/\v∈widthsN/\n<v:=by
 have hl:=h.le;obtain ⟨n,rfl⟩:=Int.eq_ofNat_of_zero_le hl.1;obtain ⟨v,rfl⟩:=Int.eq_ofNat_of_zero_le (show 0<=w by omega);refine ⟨n,v,rfl,rfl,?_,by omega⟩;have hw:=h.1;unfold isW at hw;simp only [widthsN,List.mem_cons,List.not_mem_nil,or_false];omega
theorem und_dir {x y w:Int} (hx:isN x w) (hy:isN y w):(x=y\/y∈dirI x w)↔undI x y w:=by
 obtain ⟨n,v,rfl,rfl,hv,hn⟩:=nat_of hx;obtain ⟨m,v2,rfl,e,_,hm⟩:=nat_of hy;obtain rfl:v=v2:=by omega
 have h:=fin3N pairs3 hv hn hm;have h2:(Nat.beq n m || (dirN 7 n v).any (Nat.beq m))=undN n m:=by simpa using h
 have hm2:((m:Int)∈dirI n v)↔(dirN 7 n v).any (Nat.beq m)=true:=by
  unfold dirI;rw [if_pos hx];simp only [Int.toNat_natCast,List.mem_map,List.any_eq_true];constructor
  ·rintro ⟨k,hk,e⟩;exact ⟨k,hk,by simp;omega⟩
  rintro ⟨k,hk,e⟩;exact ⟨k,hk,by simp at e;omega⟩
 rw [hm2];unfold undI;simp only [Int.toNat_natCast,hx,hy,true_and];rw [<-h2,Bool.or_eq_true];constructor
 ·rintro (e | e)
  ·exact .inl (by rw [Nat.beq_eq];omega)
  exact .inr e
 rintro (e | e)
 ·exact .inl (by rw [Nat.beq_eq] at e;omega)
 exact .inr e
/- WaFacts:
  What the statements of layer 6 ask of ways up, what stands beside them, and what is below: of all nodes, and of all pairs of nodes.
-/
-- leaves below a node
-- the way, node by node
def wayAt (x w:Int) (i:Nat):Prop:=isN ((dirI x w).getD i 0) w/\dirI ((dirI x w).getD i 0) w=(dirI x w).drop (i+1)/\undI x ((dirI x w).getD i 0) w
  /\ isN ((copI x w).getD i 0) w/\parI ((copI x w).getD i 0) w=(dirI x w).getD i 0/\¬undI x ((copI x w).getD i 0) w/\(i+1=(dirI x w).length->(dirI x w).getD i 0=rootI w)
instance (x w:Int) (i:Nat):Decidable (wayAt x w i):=by unfold wayAt;infer_instance
theorem way_at {x w:Int} (h:isN x w) {i:Nat} (hi:i<(dirI x w).length):wayAt x w i:=by
 have key:=fin2 (p:=fun x w=>(dirI x w).length<=6/\∀ i∈List.range 6,i<(dirI x w).length->wayAt x w i) (by kernel_rfl) h;exact key.2 i (List.mem_range.2 (by omega)) hi
-- what stands beside the way of a leaf: how often a leaf is below one of it
theorem take_succ_getD (l:List Int) (i:Nat) (h:i<l.length):l.take (i+1)=l.take i++[l.getD i 0]:=by
 rw [List.take_succ_eq_append_getElem h,List.getD_eq_getElem?_getD,List.getElem?_eq_getElem h];rfl
-- two ways meet
/- WaUp:
  Ways up, as functions that are ranged over.
-/
set_option maxRecDepth 20000
def wayI (x w:Int):List Int:=if isN x w then x::dirI x w else []
theorem way_no {x w:Int} (h:¬isN x w):wayI x w=[]:=if_neg h
theorem way_yes {x w:Int} (h:isN x w):wayI x w=x::wayI (parI x w) w:=by
 have hd:=dir_step h;have hp:=par_up h;unfold wayI;rw [if_pos h];by_cases q:parI x w<0
 ·rw [if_pos q] at hd;rw [hd,if_neg (fun t:isN (parI x w) w=>by have:=t.2.1;omega)]
 rw [if_neg q] at hd;rw [hd,if_pos (hp.2 q).1]
theorem way_len (x w:Int):(wayI x w).length<=7:=by
 by_cases h:isN x w
 ·exact fin2 (p:=fun x w=>(wayI x w).length<=7) (by kernel_rfl) h
 rw [way_no h];exact Nat.zero_le _
theorem Tb.up {w:World} (u:Bw w w') (h:Tb w):Tb w':=by
 obtain ⟨tg,r⟩:=h;exact ⟨tg,Rb u r⟩
theorem Tb.lt {w:World} (h:Tb w):1<w.heap.size:=by
 obtain ⟨tg,r⟩:=h;exact r.lt
theorem Tb.from {w:World} (u:Below B w w') (hg:1<B) (h:Tb w):Tb w':=by
 obtain ⟨tg,r⟩:=h;exact ⟨tg,RowAt.below u hg r⟩
def UpKeeps (bw:Nat) (w:Int) (W W':World):Prop:=(RowAt W bw 3 #[nv w]->RowAt W' bw 3 #[nv w])/\(Tb W->Tb W')
theorem upk_t {bw:Nat} {w:Int} {B:World} (h:UpKeeps bw w A B) (k:UpKeeps bw w B C):UpKeeps bw w A C:=⟨fun r=>k.1 (h.1 r),fun r=>k.2 (h.2 r)⟩
theorem upk_r {bw:Nat} {w:Int} (W:World):UpKeeps bw w W W:=⟨id,id⟩
theorem upk_b {bw:Nat} {w:Int} (W:World) (l:Nat) (o o':Obj) (_:w0.heap.size<=l) (h:W.heap[l]?=some o) (hc:o.isCells=false) (_:o.isWalk=false):UpKeeps bw w W (W.putObj l o'):=by
 have hn:∀ r,some l=some r->∃ o:Obj,W.heap[r]?=some o/\o.isCells=false:=fun r e=>by cases e;exact ⟨_,h,hc⟩
 exact ⟨fun r=>row_nc r (put_grown _ _ _) hn,fun ⟨tg,r⟩=>⟨tg,row_nc r (put_grown _ _ _) hn⟩⟩
theorem up_any (x w:Int) (W:World):Calls prog 195 #[nv x,nv w] W fun e W'=>∃ v,e=.returned v/\∃ bx bw,v=.func (.func 239) #[] #[pv bx 0,pv bw 0]/\RowAt W' bx 3 #[nv x]/\RowAt W' bw 3 #[nv w]/\W.heap.size<=bx/\W.heap.size<=bw/\Bw W W':=by
 refine Ze func195 ntmps195 ?_;have u:=Br W;refine Zr<|lg_boxs rfl Wn rfl rfl rfl (by decide) fun b1 w1 n1=>?_
 have ⟨r1,k1,z1,lt1⟩:=n1.f;refine lg_boxs rfl Wn rfl rfl rfl (by decide) fun b2 w2 n2=>?_;have ⟨r2,k2,z2,lt2⟩:=n2.f;refine ZAn [2,3,4] ?_;refine Zr<|Za (y_mkf (xs:=[]) (ys:=[.tmp 2,.tmp 3])) ?_
 refine ZAnr [4] ?_;exact Qa rfl rfl ⟨_,rfl,b1,b2,rfl,n2.keep r1,r2,by omega,by omega,Un (Un u n1.below) n2.below⟩
theorem up_stops (x w:Int) (bx bw:Nat) (W0:World) (hx:RowAt W0 bx 3 #[nv x]) (hw:RowAt W0 bw 3 #[nv w]) (rg0:Tb W0) :
  SeqStopsK Fence.wide 2 prog 239 #[pv bx 0,pv bw 0] (fun k:Int=>#[nv k]) (UpKeeps bw w) (fun xs=>xs=wayI x w) (fun pre=>pre <+: wayI x w) 8 W0:=by
 intro l J Jx W hW hJa hJx hY h0;refine callsIn_wide.2 ?_;have hx1:=Rb hW hx;have hw1:=Rb hW hw;have rg1:=rg0.up hW;show Calls _ _ ([.func (.yield l) #[] #[],pv bx 0,pv bw 0]:List Value).toArray W _;refine calls_cx (n:=16) func239 rfl ntmps239 (by simp) (fun _ q=>by simp at q) ?_;show CX none [] _ _ _ [(0,.func (.yield l) #[] #[]),(1,pv bx 0),(2,pv bw 0)] _ _;have u:=Br W;refine cx_seq<|Qq<|Za (Qv hx1) ?_
 refine ZA ?_;refine Qk<|Nxx [0,2,4] ?_
 refine cx_block<|cx_loopE (fun t a v=>∃ (pre:List Int) (k:Int),Holds 16 [(0,.func (.yield l) #[] #[]),(2,pv bw 0),(4,nv k)] a/\wayI x w=pre++wayI k w/\pre.length=t/\J pre v/\Tb v/\RowAt v bw 3 #[nv w]) 8 (fun a ha=>⟨[],x,ha.keep kz,rfl,rfl,h0,rg1,hw1⟩) ?_
 rintro t a v ht ⟨pre,k,ha,hp,hl,hJ,rg1,hw1⟩;refine cx_at ha ?_;clear ha a;have l_hw1:=hw1.lt;refine cx_seq<|cx_seq<|Qq<|ZM ?_
 refine Za (Qv hw1) ?_;refine Zi (Qp (is_any k w _ rg1)) (fun c1=>?_) fun c1=>?_
 ·refine Qk<|Nxx [0,2,4,6,7,8] ?_
  refine cx_ct rfl<|cx_skip<|Nxx [0,2,4,6,7,8] ?_
  refine cx_seq<|cx_block<|cx_seq<|cx_regionx ?_
  refine lxw Wn (y_move rfl rfl) rfl (by decide) ?_;refine lxw Wn (y_move rfl rfl) rfl (by decide) ?_;refine lx_yields Wn (hY pre k v hJ (by have:=congrArg List.length hp;simp [way_yes c1] at this;have:=way_len x w;omega)) rfl rfl rfl rfl (by decide) ?_ ?_
  ·rintro w2 ⟨hJ,j2⟩;have hw1:=j2.1 hw1;have rg1:=j2.2 rg1;refine lxw Wn (y_bnot rfl rfl) rfl (by decide) ?_;refine lx_nil ?_;refine Nxx [0,2,4,6,7,8,12,13,14,15] ?_;refine cx_cf rfl<|cx_skip<|Qs<|Nxx [0,2,4,6,7,8,12,13,14,15] ?_
   refine Qq<|ZM ?_
   refine Za (Qv hw1) ?_;refine Za (Qp (parent_any k w _ rg1)) ?_;refine ZA ?_;refine Qk ?_;have ln:=way_len x w;have hp':wayI x w=(pre++[k])++wayI (parI k w) w:=by rw [hp,way_yes c1,List.append_assoc];rfl
   have hq:=congrArg List.length hp';simp at hq;exact fun a ha=>(show t<8/\_ from ⟨(by omega),a,rfl,(pre++[k]),(parI k w),ha.keep kz,hp',(by simp;omega),hJ,rg1,hw1⟩)
  rintro w2 hJ;refine lxw Wn (y_bnot rfl rfl) rfl (by decide) ?_;refine lx_nil ?_;refine Nxx [0,2,4,6,7,8,12,13,14,15] ?_;refine cx_ct rfl<|cx_ret<|xg_block_ret<|xg_seq_ret<|xg_seq_ret<|xg_block_ret ?_
  exact xg_ret [] trivial (res_none rfl) ⟨⟨_,rfl⟩,.inr ⟨pre++[k],⟨wayI (parI k w) w,by rw [hp,way_yes c1,List.append_assoc];rfl⟩,hJ⟩⟩
 refine Qk<|Nxx [0,2,4,6,7,8] ?_
 refine cx_cf rfl<|cx_exit<|xg_seq_exit<|xg_seq_exit<|xg_block_exit ?_
 exact xg_end [] trivial (res_none rfl) ⟨⟨_,rfl⟩,.inl ⟨pre,by rw [hp,way_no c1,List.append_nil],hJ⟩⟩
/- WaProg:
  Ways up: what the functions of the program answer.
-/
set_option maxRecDepth 20000
theorem way_nodes (x w:Int):∀ z∈wayI x w,isN z w:=by
 by_cases h:isN x w
 ·exact fin2 (p:=fun x w=>∀ z∈wayI x w,isN z w) (by kernel_rfl) h
 rw [way_no h];exact fun z hz=>absurd hz (by simp)
theorem way_und (x y w:Int):y∈wayI x w↔undI x y w:=by
 by_cases hx:isN x w
 ·by_cases hy:isN y w
  ·rw [<-und_dir hx hy];unfold wayI;rw [if_pos hx,List.mem_cons];exact ⟨fun h=>h.imp Eq.symm id,fun h=>h.imp Eq.symm id⟩
  exact ⟨fun h=>absurd (way_nodes x w y h) hy,fun h=>absurd h.2.1 hy⟩
 rw [way_no hx];exact ⟨fun h=>absurd h (by simp),fun h=>absurd h.1 hx⟩
theorem way_par (x w:Int):wayI (parI x w) w=dirI x w:=by
 by_cases h:isN x w
 ·have:=way_yes h;unfold wayI at this ⊢;rw [if_pos h] at this;exact (List.cons.inj this).2.symm
 rw [par_no h,dir_no h];exact way_no fun q=>by have:=q.2.1;omega
def sibs (w:Int) (l:List Int):List Int:=(l.map fun k=>sibI k w).filter fun s=>s≠-1
theorem sibs_yes {w k:Int} {l:List Int} (h:sibI k w≠-1):sibs w (l++[k])=sibs w l++[sibI k w]:=by simp [sibs,h]
theorem sibs_no {w k:Int} {l:List Int} (h:sibI k w=-1):sibs w (l++[k])=sibs w l:=by simp [sibs,h]
theorem sibs_len (w:Int) (l:List Int):(sibs w l).length<=l.length:=by
 have:=List.length_filter_le (fun s:Int=>decide (s≠-1)) (l.map fun k=>sibI k w);simpa [sibs] using this
theorem sibs_way (x w:Int):sibs w (wayI x w)=copI x w:=by
 by_cases h:isN x w
 ·exact fin2 (p:=fun x w=>sibs w (wayI x w)=copI x w) (by kernel_rfl) h
 rw [way_no h,cop_no h];rfl
theorem under_any (x y w:Int) (W:World) (rg:Tb W):Calls prog 232 #[nv x,nv y,nv w] W fun e W'=>∃ v,e=.returned v/\v=.bool (decide (undI x y w))/\Bw W W':=by
 refine calls_cx (n:=15) func232 rfl ntmps232 (by simp) (fun _ q=>by simp at q) ?_;show CX none [] _ _ _ [(0,nv x),(1,nv y),(2,nv w)] _ _;have u:=Br W;refine cx_seq<|Qq<|lg_boxs rfl Wn rfl rfl rfl (by decide) fun b1 w1 n1=>?_
 have ⟨r1,k1,z1,lt1⟩:=n1.f;refine lg_allocs (u:=.bool false) (by kernel_rfl) rfl Wn rfl rfl (by decide) fun b2 w2 n2=>?_;have ⟨r2,k2,z2,lt2⟩:=n2.f;refine Qk<|Nxx [0,2,4,6] ?_
 refine cx_seq<|cx_seq<|Qq<|ZM ?_
 refine ZM ?_;refine Zd (up_any x w _) ?_;rintro _ w3 ⟨b3,c3,rfl,x3,y3,i3,j3,hw3⟩;have zw3:=hw3.size;have lx3:=x3.lt;have ly3:=y3.lt;refine Qk<|Nxx [4,6,10] ?_
 refine cx_block ?_;have u:=Un (Un (Un u n1.below) n2.below) hw3;have r1:=Rb hw3 (n2.keep r1);have r2:=Rb hw3 r2;refine cx_range (N:=8) (enc:=nv) (d':=7) (by kernel_rfl) rfl (up_stops x w b3 c3 _ x3 y3 (rg.up u)) upk_t upk_r upk_b (Below.refl _ _) (by decide)
  (fun pre v=>Bw W v/\RowAt v b1 3 #[nv y]/\RowAt v b2 4 #[.bool false]/\RowAt v c3 3 #[nv w]/\∀ z∈pre,z≠y)
  (fun c pre v=>c=.ret/\Bw W v/\RowAt v b2 4 #[.bool true]/\y∈pre)
  (fun pre A B row hs hg hr=>by obtain ⟨u,r1,r2,y3,hp⟩:=hs;have hn:=fun r e=>(hr r e).2;have hb:=fun r e=>(hr r e).1;exact ⟨below_nc (B:=w3.heap.size) u (by omega) (by omega) hg hb,row_nc r1 hg hn,row_nc r2 hg hn,row_nc y3 hg hn,hp⟩)
  (fun c pre A B row hs hg hr=>by obtain ⟨hc,u,r2,hq⟩:=hs;have hn:=fun r e=>(hr r e).2;have hb:=fun r e=>(hr r e).1;exact ⟨hc,below_nc (B:=w3.heap.size) u (by omega) (by omega) hg hb,row_nc r2 hg hn,hq⟩)
  ⟨u,r1,r2,y3,(fun z hz=>absurd hz (by simp))⟩
  (fun l x W=>as_copy rfl rfl rfl rfl (by decide) l W) ?_ ?_ ?_
 ·rintro l4 pre k v4 ⟨u,r1,r2,y3,hp⟩ hlen;have zv4:=u.size;have l_r1:=r1.lt;have l_r2:=r2.lt;have l_y3:=y3.lt;have kf:=KeepsFrom.refl w3.heap.size v4;refine cx_block<|cx_seq<|Qq<|ZM ?_
  refine Za (Qv r1) ?_;refine Zi yi_eql (fun c5=>?_) fun c5=>?_
  ·refine Qk<|Nxx [6,14] ?_
   refine cx_ct rfl<|cx_seq<|Qq ?_
   have o6:=r2;refine lg_sts r2 rfl rfl (by kernel_rfl) Wn rfl rfl rfl rfl fun w6 s6=>?_;have ⟨r2,z6⟩:=s6.f;refine Qk<|Nxx [6] ?_
   refine cx_ret<|xg_block_ret ?_
   have u:=u.trans s6.bl;have kf:=kf.trans (kf_set s6 o6);exact fun a ha=>⟨kf,rfl,u,r2,(by simp [c5])⟩
  refine Qk<|Nxx [6,14] ?_
  refine cx_cf rfl<|cx_skip<|Qs ?_
  exact fun a ha=>⟨kf,⟨fun _=>y3,fun _=>(rg.up u)⟩,u,r1,r2,y3,(fun z hz=>by rcases List.mem_append.1 hz with h | h;exact hp z h;simp at h;subst h;exact c5)⟩
 ·rintro D4d xs v4d hD4d hS ⟨u,r1,r2,y3,hp⟩ hKD4d;have zv4:=u.size;have l_r1:=r1.lt;have l_r2:=r2.lt;have l_y3:=y3.lt;refine Qs<|Nxx [6] ?_
  refine cx_seq<|Qq ?_
  have o7:=r2;refine lg_sts r2 rfl rfl (by kernel_rfl) Wn rfl rfl rfl rfl fun w7 s7=>?_;have ⟨r2,z7⟩:=s7.f;refine Qk<|Nxx [6] ?_
  refine cx_ret ?_;have hKD4d:=(s7.other _ (by omega)).trans hKD4d;exact xg_ret [D4d] ⟨hKD4d,trivial⟩ (res_cell rfl rfl (row_nc r2 (put_grown _ D4d (.deferred none)) (put_nc hKD4d)) (by kernel_rfl)) ⟨_,rfl,congrArg Value.bool (decide_eq_false fun q=>(by subst hS;exact hp _ ((way_und _ _ _).2 q) rfl)).symm,(below_nc (u.trans s7.bl) (B:=D4d) (by omega) Lr (put_grown _ D4d (.deferred none)) (fun r e=>by cases e;exact Nat.le_refl _))⟩
 rintro D4s c pre v4s hD4s hS ⟨rfl,u,r2,hq⟩ hKD4s;have zv4:=u.size;have l_r2:=r2.lt;refine cx_ret<|xg_block_ret<|xg_seq_ret ?_
 exact xg_ret [D4s] ⟨hKD4s,trivial⟩ (res_cell rfl rfl (row_nc r2 (put_grown _ D4s (.deferred none)) (put_nc hKD4s)) (by kernel_rfl)) ⟨_,rfl,congrArg Value.bool (decide_eq_true ((way_und _ _ _).1 (hS.subset hq))).symm,(below_nc u (B:=D4s) (by omega) Lr (put_grown _ D4s (.deferred none)) (fun r e=>by cases e;exact Nat.le_refl _))⟩
/- WaRef:
  Ways up: what the document answers.
-/
set_option maxRecDepth 20000
theorem dirL (x w:Int):(dirI x w).length<=6:=by
 by_cases hn:isN x w
 ·exact fin2 (p:=fun x w=>(dirI x w).length<=6) (by kernel_rfl) hn
 rw [dir_no hn];exact Nat.zero_le _
theorem getD_mem {xs:List Int} {i:Nat} (h:i<xs.length):xs.getD i 0∈xs:=by
 rw [List.getD_eq_getElem?_getD,List.getElem?_eq_getElem h];exact List.getElem_mem h
theorem mem_getD {xs:List Int} {x:Int} (h:x∈xs):∃ i,i<xs.length/\xs.getD i 0=x:=by
 obtain ⟨i,hi,e⟩:=List.mem_iff_getElem.1 h;exact ⟨i,hi,by rw [List.getD_eq_getElem?_getD,List.getElem?_eq_getElem hi];exact e⟩
/- WaFr:
  Ways up: the numbers that are handed out are new.
-/
theorem own_dirF [Lo] {w:World} {base:Nat} {xs:List Int} {A:Option Addr} {n c:Nat} (h:w.ownsRow base 3 1 (.slice A n c) xs.length (xs.map (Value.int .i64))) (hb:B<=base) (g:Below B w0 w):∃ v,Ending.returned (.slice A n c)=.returned v/\∃ s:SlV,v=s.v/\SlN w w.heap.size s xs/\Fr B s/\Below B w0 w:=by
 obtain ⟨s,e,hs⟩:=own_SlN h;refine ⟨_,rfl,s,e,hs,fun p q=>?_,g⟩;obtain ⟨A',m',c'⟩:=s;obtain rfl:A'=some p:=q;have:=(h.lt p.block (by rw [e];rfl)).1;omega
theorem directF [Lo] (x w:Int) (W:World) (rg:Tb W):Calls prog 182 #[nv x,nv w] W fun e W'=>∃ v,e=.returned v/\∃ s:SlV,v=s.v/\SlN W' W'.heap.size s (dirI x w)/\Fr W.heap.size s/\Bw W W':=by
 refine calls_cx (n:=18) func182 rfl ntmps182 (by simp) (fun _ q=>by simp at q) ?_;show CX none [] _ _ _ [(0,nv x),(1,nv w)] _ _;have u:=Br W;refine cx_seq<|Qq<|ZA ?_
 refine Qk<|Nxx [0,1,4] ?_
 refine cx_seq<|Qq<|lg_allocs (u:=.slice none 0 0) (by kernel_rfl) rfl Wn rfl rfl (by decide) fun b1 w1 n1=>?_
 have ⟨r1,k1,z1,lt1⟩:=n1.f;refine Qk<|Nxx [0,1,4,5] ?_
 refine cx_seq<|cx_seq<|Qq<|ZM ?_
 refine ZM ?_;have u:=Un u n1.below;refine Za (Qp (parent_any x w _ (rg.up u))) ?_;refine ZM ?_;refine Zd (up_any (parI x w) w _) ?_;rintro _ w2 ⟨b2,c2,rfl,x2,y2,i2,j2,hw2⟩;have zw2:=hw2.size;have lx2:=x2.lt;have ly2:=y2.lt;refine Qk<|Nxx [4,5,11] ?_
 refine cx_block ?_;have u:=Un u hw2;have r1:=Rb hw2 r1;refine cx_range (N:=8) (enc:=nv) (d':=6) (by kernel_rfl) rfl (up_stops (parI x w) w b2 c2 _ x2 y2 (rg.up u)) upk_t upk_r upk_b (Below.refl _ _) (by decide)
  (fun pre v=>∃ (sv:Value),Bw W v/\RowAt v b1 36 #[sv]/\v.ownsRow w2.heap.size 3 1 sv (pre).length ((pre).map (Value.int .i64))/\w2.heap.size<=v.heap.size/\RowAt v c2 3 #[nv w])
  (fun c pre v=>False)
  (fun pre A B row hs hg hr=>by obtain ⟨sv,u,r1,g0,hs,y2⟩:=hs;have hn:=fun r e=>(hr r e).2;have hb:=fun r e=>(hr r e).1;exact ⟨sv,below_nc (B:=w2.heap.size) u (by omega) (by omega) hg hb,row_nc r1 hg hn,owns_nc g0 hg hn,Nat.le_trans hs hg.size,row_nc y2 hg hn⟩)
  (fun c pre A B row hs hg hr=>hs)
  ⟨_,u,r1,(own_nilN _ _),Lr,y2⟩
  (fun l x W=>as_copy rfl rfl rfl rfl (by decide) l W) ?_ ?_ ?_
 ·rintro l3 pre k v3 ⟨sv,u,r1,g0,hs,y2⟩ hlen;have zv3:=u.size;have l_r1:=r1.lt;have l_y2:=y2.lt;have kf:=KeepsFrom.refl w2.heap.size v3;refine cx_block<|Qq<|Za (Qv r1) ?_
  refine ZM ?_;refine lg_bs1N Wn rfl rfl rfl (by decide) fun b4 w4 n4=>?_;have ⟨r4,k4,z4,_⟩:=n4.f;have m4:=nums_new1 n4;have g0:=own_below g0 n4.below;refine lg_appK g0 r4 (by first | omega | (simp;omega)) (by omega) Wn rfl rfl rfl rfl rfl (by decide) fun v5 w5 g5 l5 f5=>?_;have z5:=l5.size;obtain ⟨A5,c5,rfl,N5⟩:=own_nums_any g5;have r1:=RowAt.below l5 (by omega) (n4.keep r1);have o6:=r1;refine lg_sts r1 rfl rfl (by kernel_rfl) Wn rfl rfl rfl rfl fun w6 s6=>?_;have ⟨r1,z6⟩:=s6.f;refine Qk<|Qs ?_
  have g5:=own_set g5 s6 o6 (by omega);have u:=((Un u n4.below).trans (Bm l5)).trans s6.bl;have hs:=(show w2.heap.size<=w4.heap.size by omega);have hs:=(show w2.heap.size<=w5.heap.size by omega);have hs:=(show w2.heap.size<=w6.heap.size by omega);have y2:=s6.kp (RowAt.below l5 (by omega) (n4.keep y2));exact fun a ha=>⟨((kf.trans (kf_below n4.below)).trans (KeepsFrom.zero f5)).trans (kf_set s6 o6),⟨fun _=>y2,fun _=>(rg.up u)⟩,_,u,r1,g5,hs,y2⟩
 ·rintro D3d xs v3d hD3d hS ⟨sv,u,r1,g0,hs,y2⟩ hKD3d;have zv3:=u.size;have l_r1:=r1.lt;have l_y2:=y2.lt;rw [way_par x w] at hS;subst hS;obtain ⟨A0,c0,rfl,N0⟩:=own_nums_any g0;refine Qs<|Nxx [4,5] ?_
  refine cx_seq<|Qq<|Za (Qv r1) ?_
  refine ZA ?_;refine Qk<|Nxx [4] ?_
  refine cx_ret ?_;exact xg_ret [D3d] ⟨hKD3d,trivial⟩ (res_tmp rfl rfl) (own_dirF (owns_nc g0 (put_grown _ D3d (.deferred none)) (put_nc hKD3d)) (by omega) (below_nc u (B:=D3d) (by omega) Lr (put_grown _ D3d (.deferred none)) (fun r e=>by cases e;exact Nat.le_refl _)))
 rintro D c pre v hD hS h hK;exact h.elim
end Go.Proofs.YtjjdcnkbibkmkaaGreatDoor
