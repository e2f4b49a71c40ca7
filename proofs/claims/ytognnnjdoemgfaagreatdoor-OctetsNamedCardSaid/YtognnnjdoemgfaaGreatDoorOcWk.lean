/-
  Loops over functions that hand memory on; rows of nodes of one's own whose contents lie in known blocks: rules.
-/
import Derived.Test.YtognnnjdoemgfaaGreatDoorChWk
namespace Go.Proofs.YtognnnjdoemgfaaGreatDoor
open Go.ChangeShapes Go.WideShapes Go.ChangeAt Go.RowKit
set_option linter.unusedVariables false

/-- What a party has, and what has come to be between a and b. -/
def hand (m:Nat→Prop) (a b:Nat):Nat→Prop:=fun k=>m k∨(a≤k∧k<b)
theorem Did.hand {m:Nat→Prop} {A B:World} (hm:∀ k,m k→k<A.heap.size) (h:Below A.heap.size A B):Did m (hand m A.heap.size B.heap.size) A B :=
 ⟨Below.kept h,fun k q=>q.imp id fun z=>z.1,fun k q=>q.elim (fun z=>Nat.lt_of_lt_of_le (hm k z) h.size) fun z=>z.2⟩
/-- A function that tells a list when it is ranged over: ok, what is told so far; fin, all of it; Say, what is said of the newest, and the memory that came to be for it is handed on. -/
def TellsG {α:Type} (P:Program) (gf:Nat) (lb:Array Value) (encs:α→Array Value) (ok fin:List α→Prop) (Say:Nat→World→α→Prop) (dep:Nat→Prop) (w0:World):Prop :=
 ∀ (l:Nat) (J Jx:List α→(Nat→Prop)→World→Prop) (W:World) (m0:Nat→Prop),Kept dep w0 W→(∀ k,m0 k→¬dep k∧k<W.heap.size)→Lasts W.heap.size J→Lasts W.heap.size Jx →
  (∀ pre x W0 W1 m,Did m0 m W W0→J pre m W0→Below W0.heap.size W0 W1→Say W0.heap.size W1 x→ok (pre++[x])→YieldAt Fence.wide 1 P l (encs x) W1 fun e W' =>
   (e=.returned (.bool true)∧∃ m',Did (hand m W0.heap.size W1.heap.size) m' W1 W'∧J (pre++[x]) m' W')∨(e=.returned (.bool false)∧∃ m',Did (hand m W0.heap.size W1.heap.size) m' W1 W'∧Jx (pre++[x]) m' W')) →
  J [] m0 W →
  CallsIn Fence.wide 2 P gf (#[.func (.yield l) #[] #[]]++lb) W fun e W'=>(∃ v,e=.returned v)∧∃ m',Did m0 m' W W'∧((∃ xs,fin xs∧J xs m' W')∨∃ pre,Jx pre m' W')
section
variable {P:Program} {Q:Exit→Act→World→Prop} {n:Nat} {E:Env} {w w0:World} {v:Value} {ds:List Deferred}
theorem cx_toldG {α:Type} {g:Operand} {ps:Array Nat} {asg body:Code} {gf:FuncId} {lb:Array Value} {encs:α→Array Value} {ok fin:List α→Prop} {Say:Nat→World→α→Prop} {dep:Nat→Prop} {m0:Nat→Prop} (EX:α→Env) (EA:Nat→α→Env) (tr:TypeId) (cs:α→Array Value)
  (hf : ((P.funcs[gf]?).map fun fn => (fn.name == "runtime.NumGoroutine", fn.body.isNone)) = some (false, false))
  (hg:val E g=some (.func (.func gf) #[] lb)) (hT:TellsG P gf lb encs ok fin Say dep w) (hS:∀ n0 X Y x,Say n0 X x→Kept (fun k=>k<w.heap.size∨n0≤k) X Y→Say n0 Y x) (hps:∀ x,(encs x).size=ps.size) (hm:∀ k,m0 k→¬dep k∧k<w.heap.size) (hdl:∀ k,w.heap.size≤k→¬dep k)
  (hpar:∀ x tmps,Holds n E { tmps,defers:=[] }→Holds n (EX x) { tmps:=(ps.zip (encs x)).foldl (fun t (p,v)=>t.setIfInBounds p v) tmps,defers:=[] })
  (I:List α→(Nat→Prop)→World→Prop) (Ix:Code→List α→(Nat→Prop)→World→Prop) (hI:Lasts w.heap.size I) (hIx:∀ c,Lasts w.heap.size (Ix c)) (h0:I [] m0 w)
  (hassign:∀ l x W,CX (some l) [] P (Exit.then (fun a' W'=>∃ b,W.heap.size≤b∧RowAt W' b tr (cs x)∧Below W.heap.size W W'∧Holds n (EA b x) a') (fun _ _ _=>False)) n (EX x) asg W)
  (hbody:∀ l pre x b n0 W m,Did m0 (hand m n0 W.heap.size) w W→I pre m W→(∀ k,m k→k<n0)→w.heap.size≤n0→n0≤W.heap.size→RowAt W b tr (cs x)→n0≤b→Say n0 W x→ok (pre++[x])→CX (some l) [] P (toldPost I Ix (pre++[x]) (hand m n0 W.heap.size) W) n (EA b x) body W)
  (hdone:∀ D W m xs,w.heap.size≤D→Did m0 m w W→¬m D→fin xs→I xs m W→W.heap[D]?=some (.deferred (some []))→∀ a,Holds n E a→Q .normal (mkd (mark D::ds) a) W)
  (hstop:∀ D c pre W m,w.heap.size≤D→Did m0 m w W→¬m D→Ix c pre m W→W.heap[D]?=some (.deferred (some []))→CX none (mark D::ds) P Q n E c W) :
  CX none ds P Q n E (.rangeFunc g ps asg body) w:=by
 intro a ha hq
 obtain ⟨tmps,dfs⟩:=a
 obtain rfl:dfs=[]:=ha.2.1
 have hev:(mkd ds { tmps,defers:=[] }).eval g=.func (.func gf) #[] lb:=ha.eval hg
 refine wpIn_depth (k:=3) (wpIn_rangeFunc fun fn hfn=>?_)
 -- the two blocks of the loop: where the rounds' deferred calls go, and its record
 obtain ⟨rc,hrc⟩:∃ rc:LoopState→Option Code→Loop,rc=fun st pe=>{ state:=st,pending:=pe,fn,tmps,params:=ps,assign:=asg,body,defers:=w.heap.size }:=⟨_,rfl⟩
 obtain ⟨W1,hW1⟩:∃ W1,(w.alloc (.deferred (some []))).alloc (.loop (rc .ready none))=W1:=⟨_,rfl⟩
 have hz:W1.heap.size=w.heap.size+2:=by
  rw [←hW1]
  simp
 have k01:Kept (fun _=>True) w W1:=by
  rw [←hW1]
  exact (Kept.alloc _ _ _).trans (Kept.alloc _ _ _)
 have hL1:W1.heap[w.heap.size+1]?=some (.loop (rc .ready none)):=by
  rw [←hW1]
  have:=World.alloc_heap_new (w.alloc (.deferred (some []))) (.loop (rc .ready none))
  rwa [World.size_alloc] at this
 have hD1:W1.heap[w.heap.size]?=some (.deferred (some [])):=by
  rw [←hW1]
  exact (Below.heap_alloc _ _ _ (by simp)).trans (World.alloc_heap_new w _)
 have hent:(Instr.enterLoop fn tmps ps asg body none).run P w=.ok (w.heap.size+1,[mark w.heap.size]) W1:=by
  rw [←hW1,hrc]
  exact run_enterLoop_outer _ _ _ _ _
 obtain ⟨l,hl⟩:∃ l,l=w.heap.size+1:=⟨_,rfl⟩
 obtain ⟨D,hD⟩:∃ D,D=w.heap.size:=⟨_,rfl⟩
 rw [←hl] at hL1 hent
 rw [←hD] at hD1 hent
 have d0:Did m0 m0 w W1:=Did.quiet (fun k q=>(hm k q).2) k01
 have out:∀ {m:Nat→Prop} {s:List α} {X Y:World},Did m0 m w X→W1.heap.size≤X.heap.size→Kept (fun k=>also m l k∨k<W1.heap.size) X Y→Did m0 m w Y:=fun {m s X Y} d hX k =>
  ⟨⟨k.os.trans d.kept.os,k.tape.trans d.kept.tape,k.output.trans d.kept.output,Nat.le_trans d.kept.size k.size,fun i hi q=>(k.block i (by omega) (.inr (by omega))).trans (d.kept.block i hi q)⟩,d.new,fun i q=>Nat.lt_of_lt_of_le (d.lt i q) k.size⟩
 have inn:∀ {m:Nat→Prop} {X Y:World},Kept (fun k=>also m l k∨k<W1.heap.size) X Y→Kept (fun k=>m k∨k<w.heap.size) X Y:=fun {m X Y} k=>k.mono fun i _ q=>q.elim (fun q=>.inl (.inl q)) fun q=>.inr (by omega)
 have put:∀ {m:Nat→Prop} (X:World) (o:Obj),¬m l→Kept (fun k=>m k∨k<w.heap.size) X (X.putObj l o):=fun {m} X o nl=>Kept.putObj X o fun q=>q.elim nl fun q=>by omega
 refine ⟨l,[mark D],W1,{ target:=.fn (.func gf) lb,args:=#[.func (.yield l) #[] #[]] },W1,gf,#[.func (.yield l) #[] #[]]++lb,W1,hent,?_,fun _ _=>trivial,?_,(fun q=>by cases q),?_⟩
 ·simp only [resolve,hev]
  simp [go_sem]
 ·simp [invoke,go_sem,call_enter hf]
 refine (hT l (fun s m' X=>∃ m,m'=also m l∧Did m0 m w X∧¬m l∧¬m D∧I s m X∧X.heap[l]?=some (.loop (rc .ready none))∧X.heap[D]?=some (.deferred (some [])))
  (fun s m' X=>∃ c m,m'=also m l∧Did m0 m w X∧¬m l∧¬m D∧Ix c s m X∧X.heap[l]?=some (.loop (rc .done (some c)))∧X.heap[D]?=some (.deferred (some [])))
  W1 (also m0 l) (k01.mono fun _ _ _=>trivial) ?_ ?_ ?_ ?_ ⟨m0,rfl,d0,fun q=>?_,fun q=>?_,hI _ _ _ _ (Nat.le_refl _) h0 (k01.mono fun _ _ _=>trivial),hL1,hD1⟩).mono ?_
 ·rintro k (q | rfl)
  ·exact ⟨(hm k q).1,by have:=(hm k q).2;omega⟩
  exact ⟨hdl k (by omega),by omega⟩
 ·rintro s m' X Y hX ⟨m,rfl,d,nl,nD,hi,h1,h2⟩ k
  exact ⟨m,rfl,out (s:=s) d hX k,nl,nD,hI _ _ _ _ (by omega) hi (inn k),(k.block l (by omega) (.inl (.inr rfl))).trans h1,(k.block D (by omega) (.inr (by omega))).trans h2⟩
 ·rintro s m' X Y hX ⟨c,m,rfl,d,nl,nD,hi,h1,h2⟩ k
  exact ⟨c,m,rfl,out (s:=s) d hX k,nl,nD,hIx c _ _ _ _ (by omega) hi (inn k),(k.block l (by omega) (.inl (.inr rfl))).trans h1,(k.block D (by omega) (.inr (by omega))).trans h2⟩
 ·-- one round
  rintro pre x A0 A m' hd' ⟨m,rfl,d,nl,nD,hi,h1,h2⟩ bel say hpre
  have hlt0:l<A0.heap.size:=(Array.getElem?_eq_some_iff.1 h1).1
  have hltD:D<A0.heap.size:=(Array.getElem?_eq_some_iff.1 h2).1
  have hzA:=bel.size
  have hz0:=hd'.kept.size
  have hmA:=d.lt
  have hy:=run_yield (P:=P) (args:=encs x) ((bel.block l hlt0).trans h1) (by rw [hrc];exact hps x)
  rw [hrc] at hy
  refine ⟨fn,_,asg,body,hy,roundIn_of_wpIn trivial ?_⟩
  have h:=hassign l x A { tmps:=(ps.zip (encs x)).foldl (fun t (p,v)=>t.setIfInBounds p v) tmps,defers:=[] } (hpar x tmps ha) (fun _ _ q=>q)
  rw [mkd_nil] at h
  refine wpIn_mono (wpIn_depth (ro:=some l) h) ?_
  rintro e a' A1 q
  cases e<;>first | exact q | skip
  obtain ⟨bx,hbx,hrow,hbel,hax⟩:=q
  have hzB:=hbel.size
  have hlb:=hrow.lt
  have bel1:Below A0.heap.size A0 A1:=bel.trans (hbel.mono hzA)
  have h1:=(bel1.block l hlt0).trans h1
  have h2:=(bel1.block D hltD).trans h2
  have d:=d.trans (Did.hand d.lt bel1)
  have hi:=hI _ _ _ _ (by omega) hi (Below.kept bel1)
  have say:=hS _ _ _ _ say (Below.kept hbel)
  have nl1:¬hand m A0.heap.size A1.heap.size l:=fun q=>q.elim nl fun z=>by omega
  have nD1:¬hand m A0.heap.size A1.heap.size D:=fun q=>q.elim nD fun z=>by omega
  have dpre:Did (hand (also m l) A0.heap.size A.heap.size) (also (hand m A0.heap.size A1.heap.size) l) A A1:=⟨Below.kept hbel,fun k q=>by
   rcases q with (q | q) | q
   ·exact .inl (.inl (.inl q))
   ·by_cases c:k<A.heap.size
    ·exact .inl (.inr ⟨q.1,c⟩)
    exact .inr (by omega)
   ·exact .inl (.inl (.inr q)),fun k q=>by
   rcases q with (q | q) | q
   ·have:=hmA k q
    omega
   ·omega
   omega⟩
  obtain ⟨A2,hA2⟩:∃ A2,A2=A1.putObj l (.loop { rc .ready none with state:=.busy }):=⟨_,rfl⟩
  have hb:=run_beginRound (P:=P) h1 (by rw [hrc])
  rw [←hA2] at hb
  have hbusy:A2.heap[l]?=some (.loop { rc .ready none with state:=.busy }):=by
   rw [hA2]
   exact World.putObj_heap_same (by omega)
  have hD2:A2.heap[D]?=some (.deferred (some [])):=by
   rw [hA2]
   exact (World.putObj_heap_other (by omega)).trans h2
  have hz2:A2.heap.size=A1.heap.size:=by
   rw [hA2]
   simp
  have d2:Did m0 (hand m A0.heap.size A1.heap.size) w A2:=by
   rw [hA2]
   exact d.put (by omega) _
  have hi2:I pre m A2:=by
   rw [hA2]
   exact hI _ _ _ _ (by omega) hi (put A1 _ nl)
  have say2:Say A0.heap.size A2 x:=hS _ _ _ _ say (by rw [hA2];exact Kept.putObj A1 _ fun q=>q.elim (fun q=>by omega) fun q=>by omega)
  have hrow2:RowAt A2 bx tr (cs x):=by
   rw [hA2]
   exact (World.putObj_heap_other (show bx≠l by omega)).trans hrow
  refine ⟨A2,hb,?_⟩
  have hB:=hbody l pre x bx A0.heap.size A2 m (by rw [hz2];exact d2) hi2 hmA (by omega) (by omega) hrow2 (by omega) say2 hpre a' hax (fun _ _ q=>q)
  rw [mkd_nil,hz2] at hB
  refine wpIn_mono (wpIn_depth (ro:=some l) hB) ?_
  have fin:∀ (jump:Option Code) (A3:World) (m2:Nat→Prop),Did (hand m A0.heap.size A1.heap.size) m2 A2 A3 →
    (Instr.endRound l jump).run P A3=.ok (.bool jump.isNone) (A3.putObj l (.loop (rc (if jump.isNone then .ready else .done) jump))) ∧
    (A3.putObj l (.loop (rc (if jump.isNone then .ready else .done) jump))).heap[l]?=some (.loop (rc (if jump.isNone then .ready else .done) jump)) ∧
    (A3.putObj l (.loop (rc (if jump.isNone then .ready else .done) jump))).heap[D]?=some (.deferred (some []))∧¬m2 l∧¬m2 D∧w.heap.size≤A3.heap.size:=fun jump A3 m2 d3=>by
   have h3:=(d3.kept.block l (by omega) nl1).trans hbusy
   have:=run_endRound (P:=P) jump h3
   rw [hrc] at this ⊢
   refine ⟨this,World.putObj_heap_same (Array.getElem?_eq_some_iff.1 h3).1,(World.putObj_heap_other (by omega)).trans ((d3.kept.block D (by omega) nD1).trans hD2),fun q=>(d3.new l q).elim nl1 fun q=>by omega,fun q=>(d3.new D q).elim nD1 fun q=>by omega,Nat.le_trans d2.kept.size d3.kept.size⟩
  rintro e a3 A3 hp
  cases e with
  | normal =>
   obtain ⟨m2,d3,hi3⟩:=hp
   obtain ⟨hr,hl3,hD3,nl3,nD3,hz3⟩:=fin none A3 m2 d3
   exact ⟨_,_,hr,.inl ⟨rfl,also m2 l,dpre.trans (Did.also h1 hA2 d3 _),m2,rfl,(d2.trans d3).put (by omega) _,nl3,nD3,hI _ _ _ _ hz3 hi3 (put A3 _ nl3),hl3,hD3⟩⟩
  | ret =>
   obtain ⟨m2,d3,hi3⟩:=hp
   obtain ⟨hr,hl3,hD3,nl3,nD3,hz3⟩:=fin (some .ret) A3 m2 d3
   exact ⟨_,_,hr,.inr ⟨rfl,also m2 l,dpre.trans (Did.also h1 hA2 d3 _),.ret,m2,rfl,(d2.trans d3).put (by omega) _,nl3,nD3,hIx _ _ _ _ _ hz3 hi3 (put A3 _ nl3),hl3,hD3⟩⟩
  | exit id =>
   obtain ⟨m2,d3,hi3⟩:=hp
   obtain ⟨hr,hl3,hD3,nl3,nD3,hz3⟩:=fin (some (.exit id)) A3 m2 d3
   exact ⟨_,_,hr,.inr ⟨rfl,also m2 l,dpre.trans (Did.also h1 hA2 d3 _),.exit id,m2,rfl,(d2.trans d3).put (by omega) _,nl3,nD3,hIx _ _ _ _ _ hz3 hi3 (put A3 _ nl3),hl3,hD3⟩⟩
  | goto t =>
   obtain ⟨m2,d3,hi3⟩:=hp
   obtain ⟨hr,hl3,hD3,nl3,nD3,hz3⟩:=fin (some (.goto t)) A3 m2 d3
   exact ⟨_,_,hr,.inr ⟨rfl,also m2 l,dpre.trans (Did.also h1 hA2 d3 _),.goto t,m2,rfl,(d2.trans d3).put (by omega) _,nl3,nD3,hIx _ _ _ _ _ hz3 hi3 (put A3 _ nl3),hl3,hD3⟩⟩
  | panic ch=>exact hp.elim
  | outgrown=>exact hp.elim
 ·have:=(hm _ q).2
  omega
 ·have:=(hm _ q).2
  omega
 ·-- behind the function
  rintro e W2 ⟨⟨v,rfl⟩,m',dm,(⟨xs,hfin,m,rfl,d,nl,nD,hi,h1,h2⟩ | ⟨pre,c,m,rfl,d,nl,nD,hi,h1,h2⟩)⟩
  ·have hr:=run_endLoop (P:=P) h1 (by rw [hrc];simp)
   rw [hrc] at hr
   exact ⟨none,_,hr,hdone D _ m xs (by omega) (d.put (by omega) _) nD hfin (hI _ _ _ _ d.kept.size hi (put W2 _ nl)) ((World.putObj_heap_other (by omega)).trans h2) _ ha⟩
  have hr:=run_endLoop (P:=P) h1 (by rw [hrc];simp)
  rw [hrc] at hr
  exact ⟨some c,_,hr,wpIn_depth (hstop D c pre _ m (by omega) (d.put (by omega) _) nD (hIx c _ _ _ _ d.kept.size hi (put W2 _ nl)) ((World.putObj_heap_other (by omega)).trans h2) _ ha hq)⟩
/-- Of two, the first is kept in a box. -/
theorem cx_toldG2 {α:Type} {g:Operand} {p q d1 d2:Nat} {asg body:Code} {gf:FuncId} {lb:Array Value} {e1 e2:α→Value} {ok fin:List α→Prop} {Say:Nat→World→α→Prop} {dep:Nat→Prop} {m0:Nat→Prop} (tr:TypeId) (cs:α→Array Value)
  (hf : ((P.funcs[gf]?).map fun fn => (fn.name == "runtime.NumGoroutine", fn.body.isNone)) = some (false, false))
  (hg:val E g=some (.func (.func gf) #[] lb)) (hT:TellsG P gf lb (fun x=>#[e1 x,e2 x]) ok fin Say dep w) (hS:∀ n0 X Y x,Say n0 X x→Kept (fun k=>k<w.heap.size∨n0≤k) X Y→Say n0 Y x) (hm:∀ k,m0 k→¬dep k∧k<w.heap.size) (hdl:∀ k,w.heap.size≤k→¬dep k) (hp:p<n) (hq:q<n)
  (I:List α→(Nat→Prop)→World→Prop) (Ix:Code→List α→(Nat→Prop)→World→Prop) (hI:Lasts w.heap.size I) (hIx:∀ c,Lasts w.heap.size (Ix c)) (h0:I [] m0 w)
  (hassign:∀ l x W,CX (some l) [] P (Exit.then (fun a' W'=>∃ b,W.heap.size≤b∧RowAt W' b tr (cs x)∧Below W.heap.size W W'∧Holds n ((d2,e2 x)::(d1,pv b 0)::(q,e2 x)::(p,e1 x)::E) a') (fun _ _ _=>False)) n ((q,e2 x)::(p,e1 x)::E) asg W)
  (hbody:∀ l pre x b n0 W m,Did m0 (hand m n0 W.heap.size) w W→I pre m W→(∀ k,m k→k<n0)→w.heap.size≤n0→n0≤W.heap.size→RowAt W b tr (cs x)→n0≤b→Say n0 W x→ok (pre++[x])→CX (some l) [] P (toldPost I Ix (pre++[x]) (hand m n0 W.heap.size) W) n ((d2,e2 x)::(d1,pv b 0)::(q,e2 x)::(p,e1 x)::E) body W)
  (hdone:∀ D W m xs,w.heap.size≤D→Did m0 m w W→¬m D→fin xs→I xs m W→W.heap[D]?=some (.deferred (some []))→∀ a,Holds n E a→Q .normal (mkd (mark D::ds) a) W)
  (hstop:∀ D c pre W m,w.heap.size≤D→Did m0 m w W→¬m D→Ix c pre m W→W.heap[D]?=some (.deferred (some []))→CX none (mark D::ds) P Q n E c W) :
  CX none ds P Q n E (.rangeFunc g #[p,q] asg body) w :=
 cx_toldG (fun x=>(q,e2 x)::(p,e1 x)::E) (fun b x=>(d2,e2 x)::(d1,pv b 0)::(q,e2 x)::(p,e1 x)::E) tr cs hf hg hT hS (fun _=>rfl) hm hdl (fun x tmps ha=>hold_two hp hq ha) I Ix hI hIx h0 hassign hbody hdone hstop
end
theorem own_newb {w w':World} {b base e size k:Nat} {tr:TypeId} {cs:Array Value} {v:Value} {xs:List Value} (n:New w w' b tr cs) (h:w.ownsRow base e size v k xs):∀ q,v.ownBlock=some q→q≠b:=fun q e=>by
 have:=(h.lt q e).2
 have:=n.blk
 omega
theorem own_setN {w w':World} {b base e size k:Nat} {tr:TypeId} {cs:Array Value} {v:Value} {xs:List Value} (h:w.ownsRow base e size v k xs) (s:Set1 w w' b tr cs) (hn:∀ q,v.ownBlock=some q→q≠b):w'.ownsRow base e size v k xs:=own_kept h s.alt hn
/-- A row of nodes of one's own, or none yet; what they say lies in the blocks of M. -/
def OwnNx (M:Nat→Prop) (w:World) (base:Nat) (v:Value) (Ls:List Nd):Prop:=∃ ps:List NdP,ps.map (·.2)=Ls∧w.ownsRow base 38 8 v ps.length (ndCells ps)∧(∀ p∈ps,IsNd w w.heap.size p.1 p.2∧InNd M p.1)∧(∀ k,M k→k<w.heap.size)∧∀ k,v.ownBlock=some k→¬M k
section
variable {w w':World} {base b:Nat} {s:SlV} {v u:Value} {l:NdV} {L:Nd} {Ls Ms:List Nd} {M M' m:Nat→Prop}
theorem OwnNx.nil (w:World) (base:Nat):OwnNx (fun _=>False) w base nilS.v []:=⟨[],rfl,⟨rfl,.inl ⟨rfl,rfl⟩⟩,fun p hp=>absurd hp (by simp),fun _ q=>q.elim,fun _ _ q=>q⟩
theorem OwnNx.cast (h:OwnNx M w base v Ls) (e:Ls=Ms):OwnNx M w base v Ms:=e▸h
theorem OwnNx.mono (h:OwnNx M w base v Ls) (f:∀ k,M k→M' k) (hs:∀ k,M' k→k<w.heap.size) (hn:∀ k,v.ownBlock=some k→¬M' k):OwnNx M' w base v Ls:=by
 obtain ⟨ps,e,ho,hp,_,_⟩:=h
 exact ⟨ps,e,ho,fun p q=>⟨(hp p q).1,(hp p q).2.mono f⟩,hs,hn⟩
theorem OwnNx.lt (h:OwnNx M w base v Ls):∀ k,M k→k<w.heap.size:=by
 obtain ⟨ps,_,_,_,h,_⟩:=h
 exact h
theorem OwnNx.no (h:OwnNx M w base v Ls):∀ k,v.ownBlock=some k→¬M k:=by
 obtain ⟨ps,_,_,_,_,h⟩:=h
 exact h
theorem OwnNx.kept (h:OwnNx M w base v Ls) (g:Kept m w w') (hm:∀ k,M k→m k) (hv:∀ k,v.ownBlock=some k→m k):OwnNx M w' base v Ls:=by
 obtain ⟨ps,e,ho,hp,hs,hn⟩:=h
 exact ⟨ps,e,own_kept ho g hv,fun p q=>⟨(hp p q).1.inn (hp p q).2 (g.mono fun i _ z=>hm i z),(hp p q).2⟩,fun k q=>Nat.lt_of_lt_of_le (hs k q) g.size,hn⟩
theorem OwnNx.below (h:OwnNx M w base v Ls) (g:Below w.heap.size w w'):OwnNx M w' base v Ls:=h.kept (m:=fun _=>True) (Below.kept g) (fun _ _=>trivial) fun _ _=>trivial
theorem OwnNx.blk (h:OwnNx M w base v Ls) {k:Nat} (e:v.ownBlock=some k):base≤k∧k<w.heap.size:=by
 obtain ⟨ps,_,ho,_⟩:=h
 exact ho.lt k e
theorem OwnNx.alt (h:OwnNx M w base v Ls) (g:Alt w w' b) (hb:¬M b) (hv:v.ownBlock≠some b):OwnNx M w' base v Ls:=h.kept g (fun k q e=>hb (e▸q)) fun k q e=>hv (e▸q)
theorem OwnNx.newb {tr:TypeId} {cs:Array Value} (h:OwnNx M w base v Ls) (n:New w w' b tr cs):¬M b∧v.ownBlock≠some b:=by
 have e:=n.blk
 exact ⟨fun q=>by have:=h.lt b q;omega,fun q=>by have:=(h.blk q).2;omega⟩
theorem OwnNx.row (h:OwnNx M w base s.v Ls):RwNd w w.heap.size s Ls:=by
 obtain ⟨ps,e,ho,hp,_⟩:=h
 exact OwnNd.rowS (base:=base) ⟨ps,e,ho,fun p q=>(hp p q).1⟩ (Nat.le_refl _)
theorem append_ndx {g:Nat} {tr:TypeId} (h:OwnNx M w base u Ls) (hr:RowAt w g tr (l.cs L)) (hl:IsNd w w.heap.size l L) (hi:InNd M l) (hb:Ls.length≤100000) (hbase:base≤w.heap.size) :
  ∃ (r:SlV) (w':World),(Builtin.append_ #[22,22] 22 #[u,.slice (some ⟨g,0,none⟩) 1 1]).run Tryz.prog w=.ok r.v w'∧OwnNx M w' base r.v (Ls++[L])∧Kept (fun k=>some k≠u.ownBlock) w w'∧Below base w w'∧∀ k,r.v.ownBlock=some k→u.ownBlock=some k∨w.heap.size≤k:=by
 obtain ⟨i0,hi0,hz0,hz1,hz2⟩:=info_parts infoNd
 obtain ⟨ps,rfl,ho,hp,hs,hn⟩:=h
 rw [List.length_map] at hb
 obtain ⟨v',w',hrun,h1,h2,_,h3⟩:=run_append_own_at (P:=Tryz.prog) (w:=w) base 22 22 38 i0 _ 8 160 huNd hi0 hz0 hz1 hz2 rfl (by omega) u _ _ ho ⟨g,0,none⟩ 1 1 (ndCells [(l,L)]) rfl (fun j q hj=>by
  rw [Addr.add_lit,Nat.zero_add,cell_of_row w g j _ tr _ hr,←Array.getElem?_toList]
  simpa [ndCells,ndc] using hj) (ndCells_one _) (by unfold maxLen;omega) (by omega) hbase
 have hk:Kept (fun k=>some k≠u.ownBlock) w w':=⟨h2.os,h2.tape,h2.output,h2.size,fun k hk q=>h2.block k hk q⟩
 obtain ⟨r,rfl⟩:∃ r:SlV,v'=r.v:=by
  rcases h1.2 with ⟨rfl,_⟩ | ⟨g,cap,cur,rfl,_⟩
  ·exact ⟨nilS,rfl⟩
  exact ⟨⟨some ⟨g,0,none⟩,_,cap⟩,rfl⟩
 have hM:∀ k,M k→some k≠u.ownBlock:=fun k q e=>hn k e.symm q
 have hnew:∀ k,r.v.ownBlock=some k→u.ownBlock=some k∨w.heap.size≤k:=fun k q=>by
  rcases h3 with e | e
  ·exact .inl (e▸q)
  rw [e] at q
  exact .inr (by cases q;exact Nat.le_refl _)
 refine ⟨r,w',hrun,⟨ps++[(l,L)],by simp,?_,fun p q=>?_,fun k q=>Nat.lt_of_lt_of_le (hs k q) hk.size,fun k q z=>?_⟩,hk,(Below.refl _ _).grown h2 hbase (fun k hk=>(ho.lt k hk).1),hnew⟩
 ·rw [ndCells_app,List.length_append]
  exact h1
 ·rcases List.mem_append.1 q with q | q
  ·exact ⟨(hp p q).1.inn (hp p q).2 (hk.mono fun i _ z=>hM i z),(hp p q).2⟩
  obtain rfl:p=(l,L):=by simpa using q
  exact ⟨hl.inn hi (hk.mono fun i _ z=>hM i z),hi⟩
 rcases hnew k q with e | e
 ·exact hn k e z
 have:=hs k z
 omega
end
section
variable {ops:Array Oper} {Q:Exit→Act→World→Prop} {n d:Nat} {E:Env} {o:Oper} {rest:List Oper} {w w':World} {x y:Operand} {base:Nat} {u:Value} {l:NdV} {L:Nd} {Ls:List Nd} {M:Nat→Prop}
/-- append(a, n), a a row of one's own, or none. -/
theorem lg_appX {g:Nat} {tr:TypeId} (hown:OwnNx M w base u Ls) (hr:RowAt w g tr (l.cs L)) (hl:IsNd w w.heap.size l L) (hi:InNd M l) (hb:Ls.length≤100000) (hbase:base≤w.heap.size) (hw:Want ops E o true)
  (ho:o.op=.call { callee:=.builtin .append,args:=#[x,y],argTypes:=#[22,22] }) (hty:o.type=22) (hx:val E x=some u) (hy:val E y=some (.slice (some ⟨g,0,none⟩) 1 1)) (hd:o.dst=some d) (hn:d<n)
  (h:∀ (r:SlV) w',OwnNx M w' base r.v (Ls++[L])→Kept (fun k=>some k≠u.ownBlock) w w'→Below base w w'→(∀ k,r.v.ownBlock=some k→u.ownBlock=some k∨w.heap.size≤k)→LG Tryz.prog ops Q n ((d,r.v)::E) rest w'):LG Tryz.prog ops Q n E (o::rest) w:=by
 obtain ⟨r,w',hrun,h1,h2,h3,h4⟩:=append_ndx hown hr hl hi hb hbase
 refine lg_do hw (fun n a ha=>?_) hd hn (h r w' h1 h2 h3 h4)
 simp [execOp,ho,hty,resolve,invoke,builtin,ha.eval hx,ha.eval hy,hrun,Result.andThen]
end
end Go.Proofs.YtognnnjdoemgfaaGreatDoor
