/-
  KitG: WkR, RsWk, CoFr, RsMath, RsFacts, RsProg, RsRes.
-/
import Derived.Test.YtjjdcnkbibkmkaaGreatDoorKitT
namespace Go.Proofs.YtjjdcnkbibkmkaaGreatDoor
open Go.Proofs.Tryz
open Go.ChangeShapes Go.WideShapes Go.ChangeAt Go.RowKit
set_option linter.unusedVariables false
variable {A B C W X w0:World} {D b d' n0 p q:Nat} {Ds:List Nat} {Ls a:List Nd} {Q:Exit->Act->World->Prop} {c:Code} {k:Int} {m m' m0 m1:Nat->Prop} {o:Oper} {r s:SlV} {ys:List Int} {α:Type}

/- WkR:
  Loops over functions that range over themselves: whose memory is whose is said by sets of blocks.
-/
structure Kept (m:Nat->Prop) (A B:World):Prop where
 os:B.os=A.os
 tape:B.tape=A.tape
 output:B.output=A.output
 size:A.heap.size<=B.heap.size
 block:∀ k,k<A.heap.size->m k->B.heap[k]?=A.heap[k]?
theorem Kept.refl (m:Nat->Prop) (A:World):Kept m A A:=⟨rfl,rfl,rfl,Nat.le_refl _,fun _ _ _=>rfl⟩
theorem Kept.trans (h:Kept m A B) (k:Kept m B C):Kept m A C :=
 ⟨k.os.trans h.os,k.tape.trans h.tape,k.output.trans h.output,Nat.le_trans h.size k.size,fun i hi hm=>(k.block i (Nat.lt_of_lt_of_le hi h.size) hm).trans (h.block i hi hm)⟩
theorem Kept.mono (h:Kept m A B) (hm:∀ k,k<A.heap.size->m' k->m k):Kept m' A B:=⟨h.os,h.tape,h.output,h.size,fun k hk q=>h.block k hk (hm k hk q)⟩
theorem Kept.below (h:Kept m A B) (hm:∀ k,k<n0->m k) (hn:n0<=A.heap.size):Below n0 A B:=⟨h.os,h.tape,h.output,h.size,fun k hk=>h.block k (Nat.lt_of_lt_of_le hk hn) (hm k hk)⟩
theorem Below.kept (h:Bw A B):Kept m A B:=⟨h.os,h.tape,h.output,h.size,fun k hk _=>h.block k hk⟩
theorem Kept.row {t:TypeId} {cs:Array Value} (h:Kept m A B) (hm:m b) (r:RowAt A b t cs):RowAt B b t cs:=(h.block b r.lt hm).trans r
theorem Kept.alloc (m:Nat->Prop) (A:World) (o:Obj):Kept m A (A.alloc o):=Below.kept ((Below.refl _ A).alloc Lr o)
theorem Kept.putObj (A:World) {l:Nat} (o:Obj) (hl:¬m l):Kept m A (A.putObj l o):=⟨rfl,rfl,rfl,by simp,fun k _ hk=>World.putObj_heap_other (fun e=>hl (e▸hk))⟩
structure Did (m m':Nat->Prop) (A B:World):Prop where
 kept:Kept (fun k=>¬m k) A B
 new:∀ k,m' k->m k\/A.heap.size<=k
 lt:∀ k,m' k->k<B.heap.size
theorem Did.refl (h:∀ k,m k->k<A.heap.size):Did m m A A:=⟨Kept.refl _ _,fun _ h=>.inl h,h⟩
theorem Did.trans {m2:Nat->Prop} (h:Did m m1 A B) (k:Did m1 m2 B C):Did m m2 A C :=
 ⟨⟨k.kept.os.trans h.kept.os,k.kept.tape.trans h.kept.tape,k.kept.output.trans h.kept.output,Nat.le_trans h.kept.size k.kept.size,fun i hi hm=>(k.kept.block i (Nat.lt_of_lt_of_le hi h.kept.size) fun q=>(h.new i q).elim hm fun q=>by omega).trans (h.kept.block i hi hm)⟩,
  fun i hi=>(k.new i hi).elim (h.new i) fun q=>.inr (Nat.le_trans h.kept.size q),k.lt⟩
theorem Did.quiet (hm:∀ k,m k->k<A.heap.size) (h:Kept (fun _=>True) A B):Did m m A B:=⟨h.mono fun _ _ _=>trivial,fun _ h=>.inl h,fun k q=>Nat.lt_of_lt_of_le (hm k q) h.size⟩
theorem Did.put (h:Did m m1 A B) (hD:A.heap.size<=D) (o:Obj):Did m m1 A (B.putObj D o) :=
 ⟨⟨h.kept.os,h.kept.tape,h.kept.output,by simpa using h.kept.size,fun k hk q=>(World.putObj_heap_other (by omega)).trans (h.kept.block k hk q)⟩,h.new,fun k q=>by simpa using h.lt k q⟩
def Lasts {β:Type} (B:Nat) (J:β->(Nat->Prop)->World->Prop):Prop:=∀ s m X Y,B<=X.heap.size->J s m X->Kept (fun k=>m k\/k<B) X Y->J s m Y
def Tells {α:Type} (P:Program) (gf:Nat) (lb:Array Value) (encs:α->Array Value) (xs:List α) (dep:Nat->Prop) (w0:World):Prop :=
 ∀ (l:Nat) (J Jx:List α->(Nat->Prop)->World->Prop) (W:World) (m0:Nat->Prop),Kept dep w0 W->(∀ k,m0 k->¬dep k/\k<W.heap.size)->Lasts W.heap.size J->Lasts W.heap.size Jx ->
  (∀ pre x W1 m,Did m0 m W W1->J pre m W1->(pre++[x]) <+: xs->YieldAt Fence.wide 1 P l (encs x) W1 fun e W' =>
   (e=.returned (.bool true)/\∃ m',Did m m' W1 W'/\J (pre++[x]) m' W')\/(e=.returned (.bool false)/\∃ m',Did m m' W1 W'/\Jx (pre++[x]) m' W')) ->
  J [] m0 W ->
  CallsIn Fence.wide 2 P gf (#[.func (.yield l) #[] #[]]++lb) W fun e W'=>(∃ v,e=.returned v)/\∃ m',Did m0 m' W W'/\(J xs m' W'\/∃ pre,pre <+: xs/\Jx pre m' W')
theorem Tells.later {P:Program} {gf:Nat} {lb:Array Value} {encs:α->Array Value} {xs:List α} {dep:Nat->Prop} {w1:World} (h:Tells P gf lb encs xs dep w0) (k:Kept dep w0 w1):Tells P gf lb encs xs dep w1 :=
 fun l J Jx W m0 hW=>h l J Jx W m0 (k.trans hW)
def toldPost {α:Type} (I:List α->(Nat->Prop)->World->Prop) (Ix:Code->List α->(Nat->Prop)->World->Prop) (xs:List α) (m:Nat->Prop) (W:World):Exit->Act->World->Prop
 | .normal,_,W'=>∃ m',Did m m' W W'/\I xs m' W'
 | .ret,_,W'=>∃ m',Did m m' W W'/\Ix .ret xs m' W'
 | .exit id,_,W'=>∃ m',Did m m' W W'/\Ix (.exit id) xs m' W'
 | .goto t,_,W'=>∃ m',Did m m' W W'/\Ix (.goto t) xs m' W'
 | .panic _,_,_=>False
 | .outgrown,_,_=>False
def also (m:Nat->Prop) (l:Nat):Nat->Prop:=fun k=>m k\/k=l

section
variable {P:Program} {Q:Exit->Act->World->Prop} {n:Nat} {E:Env} {w w0:World} {v:Value} {ds:List Deferred}
theorem Did.also {l:Nat} {o o1:Obj} (hX:X.heap[l]?=some o1) (hA:A=X.putObj l o) (h:Did m m' A B) (o':Obj):Did (also m l) (also m' l) X (B.putObj l o'):=by
 subst hA;have hl:l<X.heap.size:=(Array.getElem?_eq_some_iff.1 hX).1;have hs:=h.kept.size;simp only [World.putObj_size] at hs;refine ⟨⟨h.kept.os,h.kept.tape,h.kept.output,by simpa using hs,fun k hk q=>?_⟩,?_,?_⟩
 ·have hkl:k≠l:=fun e=>q (.inr e);refine (World.putObj_heap_other hkl).trans ((h.kept.block k (by simpa using hk) fun z=>q (.inl z)).trans (World.putObj_heap_other hkl))
 ·rintro k (q | q)
  ·rcases h.new k q with z | z
   ·exact .inl (.inl z)
   exact .inr (by simpa using z)
  exact .inl (.inr q)
 rintro k (q | rfl)
 ·simpa using h.lt k q
 simp;omega
theorem cx_told {g:Operand} {ps:Array Nat} {asg body:Code} {gf:FuncId} {lb:Array Value} {encs:α->Array Value} {xs:List α} {dep:Nat->Prop} (EX EA:α->Env)
  (hf : ((P.funcs[gf]?).map fun fn => (fn.name == "runtime.NumGoroutine", fn.body.isNone)) = some (false, false))
  (hg:val E g=some (.func (.func gf) #[] lb)) (hT:Tells P gf lb encs xs dep w) (hps:∀ x,(encs x).size=ps.size) (hm:∀ k,m0 k->¬dep k/\k<w.heap.size) (hdl:∀ k,w.heap.size<=k->¬dep k)
  (hpar:∀ x tmps,Holds n E { tmps,defers:=[] }->Holds n (EX x) { tmps:=(ps.zip (encs x)).foldl (fun t (p,v)=>t.setIfInBounds p v) tmps,defers:=[] })
  (I:List α->(Nat->Prop)->World->Prop) (Ix:Code->List α->(Nat->Prop)->World->Prop) (hI:Lasts w.heap.size I) (hIx:∀ c,Lasts w.heap.size (Ix c)) (h0:I [] m0 w)
  (hassign:∀ l x W,CX (some l) [] P (Exit.then (fun a' W'=>W'=W/\Holds n (EA x) a') (fun _ _ _=>False)) n (EX x) asg W)
  (hbody:∀ l pre x W m,Did m0 m w W->I pre m W->(pre++[x]) <+: xs->CX (some l) [] P (toldPost I Ix (pre++[x]) m W) n (EA x) body W)
  (hdone:∀ D W m,w.heap.size<=D->Did m0 m w W->¬m D->I xs m W->W.heap[D]?=some (.deferred (some []))->∀ a,Holds n E a->Q .normal (mkd (mark D::ds) a) W)
  (hstop:∀ D c pre W m,w.heap.size<=D->pre <+: xs->Did m0 m w W->¬m D->Ix c pre m W->W.heap[D]?=some (.deferred (some []))->CX none (mark D::ds) P Q n E c W) :
  CX none ds P Q n E (.rangeFunc g ps asg body) w:=by
 intro a ha hq;obtain ⟨tmps,dfs⟩:=a;obtain rfl:dfs=[]:=ha.2.1;have hev:(mkd ds { tmps,defers:=[] }).eval g=.func (.func gf) #[] lb:=ha.eval hg;refine wpIn_depth (k:=3) (wpIn_rangeFunc fun fn hfn=>?_)
 -- the two blocks of the loop: where the rounds' deferred calls go, and its record
 obtain ⟨rc,hrc⟩:∃ rc:LoopState->Option Code->Loop,rc=fun st pe=>{ state:=st,pending:=pe,fn,tmps,params:=ps,assign:=asg,body,defers:=w.heap.size }:=⟨_,rfl⟩;obtain ⟨W1,hW1⟩:∃ W1,(w.alloc (.deferred (some []))).alloc (.loop (rc .ready none))=W1:=⟨_,rfl⟩;have hz:W1.heap.size=w.heap.size+2:=by
  rw [<-hW1];simp
 have k01:Kept (fun _=>True) w W1:=by
  rw [<-hW1];exact (Kept.alloc _ _ _).trans (Kept.alloc _ _ _)
 have hL1:W1.heap[w.heap.size+1]?=some (.loop (rc .ready none)):=by
  rw [<-hW1];have:=World.alloc_heap_new (w.alloc (.deferred (some []))) (.loop (rc .ready none));rwa [World.size_alloc] at this
 have hD1:W1.heap[w.heap.size]?=some (.deferred (some [])):=by
  rw [<-hW1];exact (Below.heap_alloc _ _ _ (by simp)).trans (World.alloc_heap_new w _)
 have hent:(Instr.enterLoop fn tmps ps asg body none).run P w=.ok (w.heap.size+1,[mark w.heap.size]) W1:=by
  rw [<-hW1,hrc];exact run_enterLoop_outer _ _ _ _ _
 obtain ⟨l,hl⟩:∃ l,l=w.heap.size+1:=⟨_,rfl⟩;obtain ⟨D,hD⟩:∃ D,D=w.heap.size:=⟨_,rfl⟩;rw [<-hl] at hL1 hent;rw [<-hD] at hD1 hent;have d0:Did m0 m0 w W1:=Did.quiet (fun k q=>(hm k q).2) k01;have out:∀ {m:Nat->Prop} {s:List α} {X Y:World},Did m0 m w X->W1.heap.size<=X.heap.size->Kept (fun k=>also m l k\/k<W1.heap.size) X Y->Did m0 m w Y:=fun {m s X Y} d hX k =>
  ⟨⟨k.os.trans d.kept.os,k.tape.trans d.kept.tape,k.output.trans d.kept.output,Nat.le_trans d.kept.size k.size,fun i hi q=>(k.block i (by omega) (.inr (by omega))).trans (d.kept.block i hi q)⟩,d.new,fun i q=>Nat.lt_of_lt_of_le (d.lt i q) k.size⟩
 have inn:∀ {m:Nat->Prop} {X Y:World},Kept (fun k=>also m l k\/k<W1.heap.size) X Y->Kept (fun k=>m k\/k<w.heap.size) X Y:=fun {m X Y} k=>k.mono fun i _ q=>q.elim (fun q=>.inl (.inl q)) fun q=>.inr (by omega);have put:∀ {m:Nat->Prop} (X:World) (o:Obj),¬m l->Kept (fun k=>m k\/k<w.heap.size) X (X.putObj l o):=fun {m} X o nl=>Kept.putObj X o fun q=>q.elim nl fun q=>by omega
 refine ⟨l,[mark D],W1,{ target:=.fn (.func gf) lb,args:=#[.func (.yield l) #[] #[]] },W1,gf,#[.func (.yield l) #[] #[]]++lb,W1,hent,?_,fun _ _=>trivial,?_,(fun q=>by cases q),?_⟩
 ·simp only [resolve,hev];simp [go_sem]
 ·simp [invoke,go_sem,call_enter hf]
 refine (hT l (fun s m' X=>∃ m,m'=also m l/\Did m0 m w X/\¬m l/\¬m D/\I s m X/\X.heap[l]?=some (.loop (rc .ready none))/\X.heap[D]?=some (.deferred (some [])))
  (fun s m' X=>∃ c m,m'=also m l/\Did m0 m w X/\¬m l/\¬m D/\Ix c s m X/\X.heap[l]?=some (.loop (rc .done (some c)))/\X.heap[D]?=some (.deferred (some [])))
  W1 (also m0 l) (k01.mono fun _ _ _=>trivial) ?_ ?_ ?_ ?_ ⟨m0,rfl,d0,fun q=>?_,fun q=>?_,hI _ _ _ _ Lr h0 (k01.mono fun _ _ _=>trivial),hL1,hD1⟩).mono ?_
 ·rintro k (q | rfl)
  ·exact ⟨(hm k q).1,by have:=(hm k q).2;omega⟩
  exact ⟨hdl k (by omega),by omega⟩
 ·rintro s m' X Y hX ⟨m,rfl,d,nl,nD,hi,h1,h2⟩ k;exact ⟨m,rfl,out (s:=s) d hX k,nl,nD,hI _ _ _ _ (by omega) hi (inn k),(k.block l (by omega) (.inl (.inr rfl))).trans h1,(k.block D (by omega) (.inr (by omega))).trans h2⟩
 ·rintro s m' X Y hX ⟨c,m,rfl,d,nl,nD,hi,h1,h2⟩ k;exact ⟨c,m,rfl,out (s:=s) d hX k,nl,nD,hIx c _ _ _ _ (by omega) hi (inn k),(k.block l (by omega) (.inl (.inr rfl))).trans h1,(k.block D (by omega) (.inr (by omega))).trans h2⟩
 ·-- one round
  rintro pre x A m' hd' ⟨m,rfl,d,nl,nD,hi,h1,h2⟩ hpre;have hlt:l<A.heap.size:=(Array.getElem?_eq_some_iff.1 h1).1;have hy:=run_yield (P:=P) (args:=encs x) h1 (by rw [hrc];exact hps x);rw [hrc] at hy;refine ⟨fn,_,asg,body,hy,roundIn_of_wpIn trivial ?_⟩;obtain ⟨A2,hA2⟩:∃ A2,A2=A.putObj l (.loop { rc .ready none with state:=.busy }):=⟨_,rfl⟩;have hb:=run_beginRound (P:=P) h1 (by rw [hrc]);rw [<-hA2] at hb;have hbusy:A2.heap[l]?=some (.loop { rc .ready none with state:=.busy }):=by
   rw [hA2];exact World.putObj_heap_same hlt
  have hD2:A2.heap[D]?=some (.deferred (some [])):=by
   rw [hA2];exact (World.putObj_heap_other (by omega)).trans h2
  have hz2:A2.heap.size=A.heap.size:=by
   rw [hA2];simp
  have d2:Did m0 m w A2:=by
   rw [hA2];exact d.put (by omega) _
  have hi2:I pre m A2:=by
   rw [hA2];exact hI _ _ _ _ d.kept.size hi (put A _ nl)
  have h:=hassign l x A { tmps:=(ps.zip (encs x)).foldl (fun t (p,v)=>t.setIfInBounds p v) tmps,defers:=[] } (hpar x tmps ha) (fun _ _ q=>q);rw [mkd_nil] at h;refine wpIn_mono (wpIn_depth (ro:=some l) h) ?_;rintro e a' A' q;cases e<;>first | exact q | skip
  obtain ⟨rfl,hax⟩:=q;refine ⟨A2,hb,?_⟩;have hB:=hbody l pre x A2 m d2 hi2 hpre a' hax (fun _ _ q=>q);rw [mkd_nil] at hB;refine wpIn_mono (wpIn_depth (ro:=some l) hB) ?_;have fin:∀ (jump:Option Code) (A3:World) (m2:Nat->Prop),Did m m2 A2 A3 ->
    (Instr.endRound l jump).run P A3=.ok (.bool jump.isNone) (A3.putObj l (.loop (rc (if jump.isNone then .ready else .done) jump))) /\
    (A3.putObj l (.loop (rc (if jump.isNone then .ready else .done) jump))).heap[l]?=some (.loop (rc (if jump.isNone then .ready else .done) jump)) /\
    (A3.putObj l (.loop (rc (if jump.isNone then .ready else .done) jump))).heap[D]?=some (.deferred (some []))/\¬m2 l/\¬m2 D/\w.heap.size<=A3.heap.size:=fun jump A3 m2 d3=>by
   have h3:=(d3.kept.block l (by omega) nl).trans hbusy;have:=run_endRound (P:=P) jump h3;rw [hrc] at this ⊢;refine ⟨this,World.putObj_heap_same (Array.getElem?_eq_some_iff.1 h3).1,(World.putObj_heap_other (by omega)).trans ((d3.kept.block D (by omega) nD).trans hD2),fun q=>(d3.new l q).elim nl fun q=>by omega,fun q=>(d3.new D q).elim nD fun q=>by omega,Nat.le_trans d2.kept.size d3.kept.size⟩
  rintro e a3 A3 hp;cases e with
  | normal =>
   obtain ⟨m2,d3,hi3⟩:=hp;obtain ⟨hr,hl3,hD3,nl3,nD3,hz3⟩:=fin none A3 m2 d3;exact ⟨_,_,hr,.inl ⟨rfl,also m2 l,Did.also h1 hA2 d3 _,m2,rfl,(d2.trans d3).put (by omega) _,nl3,nD3,hI _ _ _ _ hz3 hi3 (put A3 _ nl3),hl3,hD3⟩⟩
  | ret =>
   obtain ⟨m2,d3,hi3⟩:=hp;obtain ⟨hr,hl3,hD3,nl3,nD3,hz3⟩:=fin (some .ret) A3 m2 d3;exact ⟨_,_,hr,.inr ⟨rfl,also m2 l,Did.also h1 hA2 d3 _,.ret,m2,rfl,(d2.trans d3).put (by omega) _,nl3,nD3,hIx _ _ _ _ _ hz3 hi3 (put A3 _ nl3),hl3,hD3⟩⟩
  | exit id =>
   obtain ⟨m2,d3,hi3⟩:=hp;obtain ⟨hr,hl3,hD3,nl3,nD3,hz3⟩:=fin (some (.exit id)) A3 m2 d3;exact ⟨_,_,hr,.inr ⟨rfl,also m2 l,Did.also h1 hA2 d3 _,.exit id,m2,rfl,(d2.trans d3).put (by omega) _,nl3,nD3,hIx _ _ _ _ _ hz3 hi3 (put A3 _ nl3),hl3,hD3⟩⟩
  | goto t =>
   obtain ⟨m2,d3,hi3⟩:=hp;obtain ⟨hr,hl3,hD3,nl3,nD3,hz3⟩:=fin (some (.goto t)) A3 m2 d3;exact ⟨_,_,hr,.inr ⟨rfl,also m2 l,Did.also h1 hA2 d3 _,.goto t,m2,rfl,(d2.trans d3).put (by omega) _,nl3,nD3,hIx _ _ _ _ _ hz3 hi3 (put A3 _ nl3),hl3,hD3⟩⟩
  | panic ch=>exact hp.elim
  | outgrown=>exact hp.elim
 ·have:=(hm _ q).2;omega
 ·have:=(hm _ q).2;omega
 ·-- behind the function
  rintro e W2 ⟨⟨v,rfl⟩,m',dm,(⟨m,rfl,d,nl,nD,hi,h1,h2⟩ | ⟨pre,hpre,c,m,rfl,d,nl,nD,hi,h1,h2⟩)⟩
  ·have hr:=run_endLoop (P:=P) h1 (by rw [hrc];simp);rw [hrc] at hr;exact ⟨none,_,hr,hdone D _ m (by omega) (d.put (by omega) _) nD (hI _ _ _ _ d.kept.size hi (put W2 _ nl)) ((World.putObj_heap_other (by omega)).trans h2) _ ha⟩
  have hr:=run_endLoop (P:=P) h1 (by rw [hrc];simp);rw [hrc] at hr;exact ⟨some c,_,hr,wpIn_depth (hstop D c pre _ m (by omega) hpre (d.put (by omega) _) nD (hIx c _ _ _ _ d.kept.size hi (put W2 _ nl)) ((World.putObj_heap_other (by omega)).trans h2) _ ha hq)⟩
theorem hold_one (hp:p<n) {enc:Value} {tmps:Array Value} (ha:Holds n E { tmps,defers:=[] }):Holds n ((p,enc)::E) { tmps:=((#[p]:Array Nat).zip #[enc]).foldl (fun t (p,v)=>t.setIfInBounds p v) tmps,defers:=[] }:=by
 simpa using ha.param (v:=enc) hp
theorem hold_two (hp:p<n) (hq:q<n) {u v:Value} {tmps:Array Value} (ha:Holds n E { tmps,defers:=[] }):Holds n ((q,v)::(p,u)::E) { tmps:=((#[p,q]:Array Nat).zip #[u,v]).foldl (fun t (p,v)=>t.setIfInBounds p v) tmps,defers:=[] }:=by
 simpa using (ha.param (v:=u) hp).param (v:=v) hq
theorem cx_told1 {g:Operand} {asg body:Code} {gf:FuncId} {lb:Array Value} {enc:α->Value} {xs:List α} {dep:Nat->Prop}
  (hf : ((P.funcs[gf]?).map fun fn => (fn.name == "runtime.NumGoroutine", fn.body.isNone)) = some (false, false))
  (hg:val E g=some (.func (.func gf) #[] lb)) (hT:Tells P gf lb (fun x=>#[enc x]) xs dep w) (hm:∀ k,m0 k->¬dep k/\k<w.heap.size) (hdl:∀ k,w.heap.size<=k->¬dep k) (hp:p<n)
  (I:List α->(Nat->Prop)->World->Prop) (Ix:Code->List α->(Nat->Prop)->World->Prop) (hI:Lasts w.heap.size I) (hIx:∀ c,Lasts w.heap.size (Ix c)) (h0:I [] m0 w)
  (hassign:∀ l x W,CX (some l) [] P (Exit.then (fun a' W'=>W'=W/\Holds n ((d',enc x)::(p,enc x)::E) a') (fun _ _ _=>False)) n ((p,enc x)::E) asg W)
  (hbody:∀ l pre x W m,Did m0 m w W->I pre m W->(pre++[x]) <+: xs->CX (some l) [] P (toldPost I Ix (pre++[x]) m W) n ((d',enc x)::(p,enc x)::E) body W)
  (hdone:∀ D W m,w.heap.size<=D->Did m0 m w W->¬m D->I xs m W->W.heap[D]?=some (.deferred (some []))->∀ a,Holds n E a->Q .normal (mkd (mark D::ds) a) W)
  (hstop:∀ D c pre W m,w.heap.size<=D->pre <+: xs->Did m0 m w W->¬m D->Ix c pre m W->W.heap[D]?=some (.deferred (some []))->CX none (mark D::ds) P Q n E c W) :
  CX none ds P Q n E (.rangeFunc g #[p] asg body) w :=
 cx_told (fun x=>(p,enc x)::E) (fun x=>(d',enc x)::(p,enc x)::E) hf hg hT (fun _=>rfl) hm hdl (fun x tmps ha=>hold_one hp ha) I Ix hI hIx h0 hassign hbody hdone hstop
theorem cx_told0 {g:Operand} {body:Code} {gf:FuncId} {lb:Array Value} {enc:α->Value} {xs:List α} {dep:Nat->Prop}
  (hf : ((P.funcs[gf]?).map fun fn => (fn.name == "runtime.NumGoroutine", fn.body.isNone)) = some (false, false))
  (hg:val E g=some (.func (.func gf) #[] lb)) (hT:Tells P gf lb (fun x=>#[enc x]) xs dep w) (hm:∀ k,m0 k->¬dep k/\k<w.heap.size) (hdl:∀ k,w.heap.size<=k->¬dep k) (hp:p<n)
  (I:List α->(Nat->Prop)->World->Prop) (Ix:Code->List α->(Nat->Prop)->World->Prop) (hI:Lasts w.heap.size I) (hIx:∀ c,Lasts w.heap.size (Ix c)) (h0:I [] m0 w)
  (hbody:∀ l pre x W m,Did m0 m w W->I pre m W->(pre++[x]) <+: xs->CX (some l) [] P (toldPost I Ix (pre++[x]) m W) n ((p,enc x)::E) body W)
  (hdone:∀ D W m,w.heap.size<=D->Did m0 m w W->¬m D->I xs m W->W.heap[D]?=some (.deferred (some []))->∀ a,Holds n E a->Q .normal (mkd (mark D::ds) a) W)
  (hstop:∀ D c pre W m,w.heap.size<=D->pre <+: xs->Did m0 m w W->¬m D->Ix c pre m W->W.heap[D]?=some (.deferred (some []))->CX none (mark D::ds) P Q n E c W) :
  CX none ds P Q n E (.rangeFunc g #[p] .skip body) w :=
 cx_told (fun x=>(p,enc x)::E) (fun x=>(p,enc x)::E) hf hg hT (fun _=>rfl) hm hdl (fun x tmps ha=>hold_one hp ha) I Ix hI hIx h0
  (fun l x W=>cx_skip fun a ha=>by rw [mkd_nil];exact ⟨rfl,ha⟩) hbody hdone hstop
theorem cx_told2 {g:Operand} {asg body:Code} {gf:FuncId} {lb:Array Value} {e1 e2 e3:α->Value} {xs:List α} {dep:Nat->Prop}
  (hf : ((P.funcs[gf]?).map fun fn => (fn.name == "runtime.NumGoroutine", fn.body.isNone)) = some (false, false))
  (hg:val E g=some (.func (.func gf) #[] lb)) (hT:Tells P gf lb (fun x=>#[e1 x,e2 x]) xs dep w) (hm:∀ k,m0 k->¬dep k/\k<w.heap.size) (hdl:∀ k,w.heap.size<=k->¬dep k) (hp:p<n) (hq:q<n)
  (I:List α->(Nat->Prop)->World->Prop) (Ix:Code->List α->(Nat->Prop)->World->Prop) (hI:Lasts w.heap.size I) (hIx:∀ c,Lasts w.heap.size (Ix c)) (h0:I [] m0 w)
  (hassign:∀ l x W,CX (some l) [] P (Exit.then (fun a' W'=>W'=W/\Holds n ((d',e3 x)::(q,e2 x)::(p,e1 x)::E) a') (fun _ _ _=>False)) n ((q,e2 x)::(p,e1 x)::E) asg W)
  (hbody:∀ l pre x W m,Did m0 m w W->I pre m W->(pre++[x]) <+: xs->CX (some l) [] P (toldPost I Ix (pre++[x]) m W) n ((d',e3 x)::(q,e2 x)::(p,e1 x)::E) body W)
  (hdone:∀ D W m,w.heap.size<=D->Did m0 m w W->¬m D->I xs m W->W.heap[D]?=some (.deferred (some []))->∀ a,Holds n E a->Q .normal (mkd (mark D::ds) a) W)
  (hstop:∀ D c pre W m,w.heap.size<=D->pre <+: xs->Did m0 m w W->¬m D->Ix c pre m W->W.heap[D]?=some (.deferred (some []))->CX none (mark D::ds) P Q n E c W) :
  CX none ds P Q n E (.rangeFunc g #[p,q] asg body) w :=
 cx_told (fun x=>(q,e2 x)::(p,e1 x)::E) (fun x=>(d',e3 x)::(q,e2 x)::(p,e1 x)::E) hf hg hT (fun _=>rfl) hm hdl (fun x tmps ha=>hold_two hp hq ha) I Ix hI hIx h0 hassign hbody hdone hstop
theorem as_take {l:List Oper} {v:Value} {id:Nat} (hl:l=[o]) (ho:o.op=.assign (.tmp p)) (hd:o.dst=some d') (hg:o.guard=none) (hn:d'<n) (hv:look E p=some v) (k:Nat) (W:World):CX (some k) [] P (Exit.then (fun a' W'=>W'=W/\Holds n ((d',v)::E) a') (fun _ _ _=>False)) n E (.region id l.toArray false) W:=by
 subst hl;refine Qq (ls (y_assign ho (v:=v) (by simpa [val] using hv)) hd hg hn (Qk fun a ha=>?_)) ?_
 ·rw [mkd_nil];exact ⟨rfl,ha⟩
 simp [ndOp,ho]
-- what a party's own blocks are not
theorem Did.call (h:Did m m1 A B) (k:Bw B C):Did m m1 A C:=h.trans (Did.quiet h.lt (Below.kept k))
theorem Lasts.call {β:Type} {B:Nat} {J:β->(Nat->Prop)->World->Prop} (h:Lasts B J) {s:β} {Y:World} (hB:B<=X.heap.size) (hj:J s m X) (k:Bw X Y):J s m Y:=h _ _ _ _ hB hj (Below.kept k)
def Marks (n0:Nat) (m:Nat->Prop) (Ds:List Nat) (v:World):Prop:=Ds.Nodup/\∀ D∈Ds,n0<=D/\¬m D/\v.heap[D]?=some (.deferred (some []))
theorem Marks.nil (n0:Nat) (m:Nat->Prop) (v:World):Marks n0 m [] v:=⟨List.nodup_nil,fun D h=>by cases h⟩
theorem Marks.did (h:Marks n0 m Ds A) (k:Did m m1 A B):Marks n0 m1 Ds B:=⟨h.1,fun D hD=>by
 obtain ⟨h1,h2,h3⟩:=h.2 D hD;have hlt:=(Array.getElem?_eq_some_iff.1 h3).1;exact ⟨h1,fun q=>(k.new D q).elim h2 fun q=>by omega,(k.kept.block D hlt h2).trans h3⟩⟩
theorem Marks.call (h:Marks n0 m Ds A) (k:Bw A B):Marks n0 m Ds B:=⟨h.1,fun D hD=>by
 obtain ⟨h1,h2,h3⟩:=h.2 D hD;exact ⟨h1,h2,(k.block D (Array.getElem?_eq_some_iff.1 h3).1).trans h3⟩⟩
theorem Marks.cons (h:Marks n0 m Ds A) (k:Did m m1 A B) (hn:n0<=A.heap.size) (hA:A.heap.size<=D) (hm:¬m1 D) (hD:B.heap[D]?=some (.deferred (some []))):Marks n0 m1 (D::Ds) B:=by
 refine ⟨List.nodup_cons.2 ⟨fun q=>?_,h.1⟩,fun E hE=>?_⟩
 ·have:=(Array.getElem?_eq_some_iff.1 (h.2 D q).2.2).1;omega
 rcases List.mem_cons.1 hE with rfl | hE
 ·exact ⟨by omega,hm,hD⟩
 exact (h.did k).2 E hE
theorem Marks.closed {m0:Nat->Prop} {W:World} {n0:Nat} (hn:W.heap.size<=n0):∀ {Ds:List Nat} {m:Nat->Prop} {v:World},Marks n0 m Ds v->Did m0 m W v->Opens Ds v/\Did m0 m W (closed Ds v)/\Kept (fun k=>m k\/k<n0) v (closed Ds v)
 | [],m,v,_,hd=>⟨trivial,hd,Kept.refl _ _⟩
 | D::Ds,m,v,h,hd=>by
  obtain ⟨h1,h2,h3⟩:=h.2 D (by simp);obtain ⟨hn1,hn2⟩:=List.nodup_cons.1 h.1;obtain ⟨a,b,c⟩:=Marks.closed hn (Ds:=Ds) (m:=m) (v:=v.putObj D (.deferred none)) ⟨hn2,fun E hE=>by
   obtain ⟨g1,g2,g3⟩:=h.2 E (List.mem_cons_of_mem _ hE);exact ⟨g1,g2,(World.putObj_heap_other (fun e=>hn1 (by rw [<-e];exact hE))).trans g3⟩⟩ (hd.put (by omega) _)
  exact ⟨⟨h3,a⟩,b,(Kept.putObj v _ (fun q=>q.elim h2 fun q=>by omega)).trans c⟩
theorem cx_loopD (I:Nat->List Deferred->Act->World->Prop) (N:Nat) (h0:∀ a,Holds n E a->I 0 ds a w) (round:∀ t ds a v,t<=N->I t ds a v->KX none P (Exit.then (fun a' w'=>t<N/\∃ ds' a0,a'=mkd ds' a0/\I (t+1) ds' a0 w') Q) c (mkd ds a) v):CX none ds P Q n E (.loop c) w:=by
 intro a ha hq;refine wpIn_loop_rounds (N+1) ?_;have key:∀ k t ds a v,t+k=N->I t ds a v->Code.roundsIn (fen none) 0 P c Q (k+1) (mkd ds a) v:=by
  intro k;induction k with
  | zero =>
   intro t ds a v ht hI;refine wpIn_mono (round t ds a v (by omega) hI (fun a w=>hq a w)) fun e a w q=>?_;cases e<;>first | exact q | (have:=q.1;omega)
  | succ k ih =>
   intro t ds a v ht hI;refine wpIn_mono (round t ds a v (by omega) hI (fun a w=>hq a w)) fun e a w q=>?_;cases e<;>first | (obtain ⟨_,ds',a0,rfl,q⟩:=q;exact ih (t+1) _ _ _ (by omega) q) | exact q
 exact key N 0 ds a w (by omega) (h0 a ha)
theorem Did.set {t t0:TypeId} {cs old:Array Value} (h:Set1 A B b t cs) (r:RowAt A b t0 old) (hb:m b) (hm:∀ k,m k->k<A.heap.size):Did m m A B:=by
 have u:=h.below 0 (Nat.zero_le _);exact ⟨⟨u.os,u.tape,u.output,u.size,fun k _ q=>h.other k fun e=>q (e▸hb)⟩,fun _ q=>.inl q,fun k q=>by rw [h.size];exact hm k q⟩
theorem Did.below (h:Did m m1 A B) (hn:n0<=A.heap.size) (hm:∀ k,m k->n0<=k):Below n0 A B:=h.kept.below (fun k hk q=>by have:=hm k q;omega) hn
-- regions in any order that call yield
def HX (ds:List Deferred) (P:Program) (ops:Array Oper) (Q:Exit->Act->World->Prop) (n fuel:Nat) (listed:Array Bool) (E:Env) (w:World):Prop:=(∀ a w,¬Q .outgrown a w)->∀ a,Holds n E a->wpAnyIn (fen none) 0 P .any ops Q fuel listed (mkd ds a) w
def onlyN (K:Act->World->Prop):Exit->Act->World->Prop
 | .normal,a,w=>K a w
 | _,_,_=>False
theorem cx_anyx {id:Nat} {l:List Oper} (hm:P.follows .mixedOrders=true) (h:∀ W,W=w.drew->HX ds P l.toArray (onlyN (Q .normal)) n l.toArray.size (Array.replicate l.toArray.size false) E W):CX none ds P Q n E (.region id l.toArray true) w :=
 fun a ha hq=>wpIn_mono (wpIn_region_any hm (h _ rfl (fun _ _ q=>q) a ha)) fun e a w q=>by cases e<;>first | exact q | exact q.elim
theorem cx_only {ro:Option Nat} (h:CX ro ds P (onlyN (Q .normal)) n E c w):CX ro ds P Q n E c w :=
 fun a ha hq=>wpIn_mono (h a ha (fun _ _ q=>q)) fun e a w q=>by cases e<;>first | exact q | exact q.elim
theorem hg_doneN {ops:Array Oper} {fuel:Nat} {listed:Array Bool} (hr:Region.ready .any ops listed=[]) (h:∀ a,Holds n E a->Q .normal (mkd ds a) w):HG P ops (fun e a w=>onlyN (Q .normal) e (mkd ds a) w) w0 n fuel listed E w:=hg_done hr h
def noCall:Op->Bool
 | .call _=>false
 | _=>true
theorem about_none {ρ:Operand->Value} (h:noCall o.op=true) (w:World):o.about P w ρ=none:=by
 unfold Oper.about;cases ho:o.op<;>first | rfl | (rw [ho] at h;cases h)
section
variable {ops:Array Oper} {Q:Exit->Act->World->Prop} {o:Oper} {d fuel:Nat} {listed:Array Bool}
theorem hx_take (i:Nat) (ho:ops[i]?=some o) (hw:Want ops E o true) (hv:isVal o.op=true) (hc:noCall o.op=true) (hd:o.dst=some d) (hn:d<n)
  (hs:Region.noSelect ops=true) (hf:Region.free .any ops listed i=true) (hr:(Region.ready .any ops listed).contains i=true)
  (hQ:∀ c a w,Q (.panic c) (a.put (some d) v) w->Q (.panic c) a w) (y:∀ w',Yields P E o w' v)
  (h:HX ds P ops Q n fuel (listed.setIfInBounds i true) ((d,v)::E) w):HX ds P ops Q n (fuel+1) listed E w:=by
 intro hq a ha;have h':=h hq _ (ha.put (v:=v) hn);rw [<-hd] at h' hQ;rw [<-mkd_put] at h';refine wpAnyIn_take (i:=i) (oi:=o) (v:=v) rfl ho hs hf hr hQ ⟨.inl ⟨hw n a ha,fun w'=>?_⟩,fun w'=>about_none hc w'⟩ h';rcases y w' n a ha with hy | ⟨f,args,hy,hc⟩
 ·exact hy
 exact absurd hy (val_of hv)
theorem hx_skip (i:Nat) (ho:ops[i]?=some o) (hw:Want ops E o false) (hc:noCall o.op=true) (hd:o.dst=some d) (hn:d<n)
  (hs:Region.noSelect ops=true) (hf:Region.free .any ops listed i=true) (hr:(Region.ready .any ops listed).contains i=true)
  (hQ:∀ c a w,Q (.panic c) (a.put (some d) undef) w->Q (.panic c) a w)
  (h:HX ds P ops Q n fuel (listed.setIfInBounds i true) ((d,undef)::E) w):HX ds P ops Q n (fuel+1) listed E w:=by
 intro hq a ha;have h':=h hq _ (ha.put (v:=undef) hn);rw [<-hd] at h' hQ;rw [<-mkd_put] at h';exact wpAnyIn_take (i:=i) (oi:=o) (v:=undef) rfl ho hs hf hr hQ ⟨.inr ⟨hw n a ha,rfl⟩,fun w'=>about_none hc w'⟩ h'
theorem hx_skip1 (i:Nat) (ho:ops[i]?=some o) (hw:Want ops E o false) (hd:o.dst=some d) (hn:d<n) (hr:Region.ready .any ops listed=[i])
  (h:HX ds P ops Q n fuel (listed.setIfInBounds i true) ((d,undef)::E) w):HX ds P ops Q n (fuel+1) listed E w:=by
 intro hq a ha;refine wpAnyIn_all hr (by simp) fun j hj=>?_;obtain rfl:j=i:=by simpa using hj
 unfold wpOpIn;have he:(mkd ds a).tmps=a.tmps:=rfl;simp only [ho,he,hw n a ha,Bool.false_eq_true,if_false];rw [hd,mkd_put];exact ⟨fun _ _=>trivial,h hq _ (ha.put hn)⟩
theorem hx_op {K:Act->World->Prop} {a:Act} (i:Nat) (ho:ops[i]?=some o) (hw:Want ops E o true) (ha:Holds n E a) (hq:∀ a w,¬Q .outgrown a w) (h:LX none ds P ops (Exit.then K Q) n E [o] w):wpOpIn (fen none) 0 P ops Q i K (mkd ds a) w:=by
 have h':=h hq a ha;have he:(mkd ds a).tmps=a.tmps:=rfl;unfold wpListIn at h';rw [he,hw n a ha,if_pos rfl] at h';unfold wpOpIn;simp only [ho,he,hw n a ha,if_true];unfold Oper.wpIn at *;refine ⟨h'.1,?_⟩;have h':=h'.2;generalize (o.semAt (fen none).round (mkd ds a).eval).run P w=r at *;cases r with
 | ok nx w' =>
  cases nx<;>simp only [Oper.uponIn] at h' ⊢<;>first | exact h' | skip
  all_goals
   refine ⟨h'.1,h'.2.mono ?_⟩;intro e w'' q;first | exact q | (cases e<;>exact q)
 | halt x w'=>cases x<;>exact h'
theorem hx_onex (i:Nat) (ho:ops[i]?=some o) (hr:Region.ready .any ops listed=[i]) (hw:Want ops E o true)
  (h:LX none ds P ops (Exit.then (wpAnyIn (fen none) 0 P .any ops Q fuel (listed.setIfInBounds i true)) Q) n E [o] w):HX ds P ops Q n (fuel+1) listed E w:=by
 intro hq a ha;refine wpAnyIn_all hr (by simp) fun j hj=>?_;obtain rfl:j=i:=by simpa using hj
 exact hx_op j ho hw ha hq h
theorem hx_one (i:Nat) (ho:ops[i]?=some o) (hr:Region.ready .any ops listed=[i]) (hw:Want ops E o true) (nd:ndOp o.op=true)
  (h:(∀ a w,¬Q .outgrown a w)->LG P ops (fun e a w=>Exit.then (wpAnyIn (fen none) 0 P .any ops Q fuel (listed.setIfInBounds i true)) Q e (mkd ds a) w) n E [o] w):HX ds P ops Q n (fuel+1) listed E w:=fun hq =>
 hx_onex i ho hr hw (fun hq' a ha=>list_in hq' [o] a w (fun p hp=>by rw [List.mem_singleton.1 hp];exact nd_of nd) (h hq a ha)) hq
theorem hx_two {o':Oper} (i j:Nat) (ho:ops[i]?=some o) (ho':ops[j]?=some o') (hr:Region.ready .any ops listed=[i,j]) (hw:Want ops E o true) (hw':Want ops E o' true) (nd:ndOp o.op=true) (nd':ndOp o'.op=true)
  (h:(∀ a w,¬Q .outgrown a w)->LG P ops (fun e a w=>Exit.then (wpAnyIn (fen none) 0 P .any ops Q fuel (listed.setIfInBounds i true)) Q e (mkd ds a) w) n E [o] w)
  (h':(∀ a w,¬Q .outgrown a w)->LG P ops (fun e a w=>Exit.then (wpAnyIn (fen none) 0 P .any ops Q fuel (listed.setIfInBounds j true)) Q e (mkd ds a) w) n E [o'] w):HX ds P ops Q n (fuel+1) listed E w:=by
 intro hq a ha;refine wpAnyIn_all hr (by simp) fun k hk=>?_;rcases (by simpa using hk:k=i\/k=j) with rfl | rfl
 ·exact hx_op k ho hw ha hq (fun hq' a ha=>list_in hq' [o] a w (fun p hp=>by rw [List.mem_singleton.1 hp];exact nd_of nd) (h hq a ha))
 exact hx_op k ho' hw' ha hq (fun hq' a ha=>list_in hq' [o'] a w (fun p hp=>by rw [List.mem_singleton.1 hp];exact nd_of nd') (h' hq a ha))
theorem hx_next (hq:∀ a w,¬Q .outgrown a w) (h:HX ds P ops Q n fuel listed E w):LG P ops (fun e a w=>Exit.then (wpAnyIn (fen none) 0 P .any ops Q fuel listed) Q e (mkd ds a) w) n E [] w:=fun a ha=>h hq a ha
theorem hx_nextx (h:HX ds P ops Q n fuel listed E w):LX none ds P ops (Exit.then (wpAnyIn (fen none) 0 P .any ops Q fuel listed) Q) n E [] w:=fun hq a ha=>h hq a ha
theorem hx_done (hr:Region.ready .any ops listed=[]) (h:∀ a,Holds n E a->Q .normal (mkd ds a) w):HX ds P ops Q n fuel listed E w:=fun _ a ha=>wpAnyIn_done hr (h a ha) fuel
theorem hx_doneN (hr:Region.ready .any ops listed=[]) (h:∀ a,Holds n E a->Q .normal (mkd ds a) w):HX ds P ops (onlyN (Q .normal)) n fuel listed E w:=hx_done hr h
theorem hx_join {fuel:Nat} (fuel':Nat) (L:Array Bool) (E':Env) (hk:HX ds P ops Q n fuel' L E' w) (h:HX ds P ops Q n fuel' L E' w->HX ds P ops Q n fuel listed E w):HX ds P ops Q n fuel listed E w:=h hk
theorem hx_met {E':Env} {L:Array Bool} (e:listed=L) (hE:∀ p∈E',look E p.1=some p.2) (h:HX ds P ops Q n fuel L E' w):HX ds P ops Q n fuel listed E w:=by
 subst e;exact fun hq a ha=>h hq a (ha.keep hE)
end
end
/- RsWk:
  A row of whole numbers of one's own, whose slice lies in a box: what is done with both is said by their blocks.
-/
def mine (b:Nat) (v:Value):Nat->Prop:=fun k=>k=b\/v.ownBlock=some k
theorem mine_nil {k:Nat} (h:mine b nilS.v k):k=b:=h.elim id fun q=>by cases q
section
variable {ops:Array Oper} {Q:Exit->Act->World->Prop} {n d:Nat} {E:Env} {o:Oper} {rest:List Oper} {w w':World} {x y:Operand} {t t':TypeId}
theorem own_kept {M:Nat->Prop} {base e size k:Nat} {v:Value} {xs:List Value} (h:w.ownsRow base e size v k xs) (g:Kept M w w') (hM:∀ q,v.ownBlock=some q->M q):w'.ownsRow base e size v k xs :=
 ⟨h.1,h.2.imp id fun ⟨q,cap,cur,hv,hb,hq,r⟩=>⟨q,cap,cur,hv,hb,(g.block q (Array.getElem?_eq_some_iff.1 hq).1 (hM q (by rw [hv];rfl))).trans hq,r⟩⟩
theorem own_castN {base:Nat} {v:Value} {xs:List Int} (h:w.ownsRow base 3 1 v xs.length (xs.map (Value.int .i64))) (e:xs=ys):w.ownsRow base 3 1 v ys.length (ys.map (Value.int .i64)):=e▸h
theorem slv_inj (h:r.v=s.v):r=s:=by
 obtain ⟨A,m,c⟩:=r;obtain ⟨A',m',c'⟩:=s;cases h;rfl
theorem own_num [Lo] {base k:Nat} (h:w.ownsRow base 3 1 r.v k (ys.map (Value.int .i64))):SlN w w.heap.size r ys:=by
 obtain ⟨s,e,q⟩:=own_SlN h;rw [slv_inj e];exact q
theorem lg_appM [Lo] {base g:Nat} {xs:List Int} {tr:TypeId} (hown:w.ownsRow base 3 1 s.v xs.length (xs.map (Value.int .i64))) (hr:RowAt w g tr #[nv k]) (hb:xs.length<=1000000000) (hbase:base<=w.heap.size) (hbw:b<w.heap.size) (hw:Want ops E o true)
  (ho:o.op=.call { callee:=.builtin .append,args:=#[x,y],argTypes:=#[36,36] }) (hty:o.type=36) (hx:val E x=some s.v) (hy:val E y=some (.slice (some ⟨g,0,none⟩) 1 1)) (hd:o.dst=some d) (hn:d<n)
  (h:∀ (r:SlV) w',SlN w' w'.heap.size r (xs++[k])->w'.ownsRow base 3 1 r.v (xs++[k]).length ((xs++[k]).map (Value.int .i64))->Below base w w'->Did (mine b s.v) (mine b r.v) w w'->LG prog ops Q n ((d,r.v)::E) rest w'):LG prog ops Q n E (o::rest) w:=by
 have hc:w.cell? ⟨g,0,none⟩=some (nv k):=by rw [cell_of_row w g 0 _ tr _ hr];rfl
 obtain ⟨v',w',hrun,hj⟩:=append_num w base s.v xs k g hown hc hb hbase;have ho':w'.ownsRow base 3 1 v' (xs++[k]).length ((xs++[k]).map (Value.int .i64)):=by rw [List.length_append];exact hj.1
 obtain ⟨r,rfl,hR⟩:=own_SlN ho';have hg:=hj.2.1;refine lg_do hw (fun n a ha=>?_) hd hn (h r w' hR ho' (joinedNum_below hown hj (Below.refl _ _) hbase).1 ⟨⟨hg.os,hg.tape,hg.output,hg.size,fun q hq z=>hg.block q hq fun e=>z (.inr e.symm)⟩,fun q hq=>?_,fun q hq=>?_⟩)
 ·simp [execOp,ho,hty,resolve,invoke,builtin,ha.eval hx,ha.eval hy,hrun,Result.andThen]
 ·rcases hq with rfl | hq
  ·exact .inl (.inl rfl)
  rcases hj.2.2 with e | e
  ·exact .inl (.inr (e▸hq))
  rw [e] at hq;exact .inr (by cases hq;exact Nat.le_refl _)
 rcases hq with rfl | hq
 ·exact Nat.lt_of_lt_of_le hbw hg.size
 exact (ho'.lt q hq).2
theorem SlN.kept [Lo] {B:Nat} {xs:List Int} (h:SlN w B s xs) (k:Kept m w w') (hm:∀ p,s.A=some p->p.block<B->m p.block) (hB:B<=w.heap.size):SlN w' B s xs :=
 ⟨h.1,⟨h.2.1.1,h.ty.same fun h0 p hp=>k.block _ (Nat.lt_of_lt_of_le (h.blk h0 hp) hB) (hm p hp (h.blk h0 hp))⟩,h.2.2.1,fun h0=>by
  obtain ⟨b,o,e,hb,hc⟩:=h.2.2.2 h0;exact ⟨b,o,e,hb,fun i z hi=>(World.cell?_of_block (w:=w) (a:=⟨b,o+i,none⟩) (k.block b (by omega) (hm _ e hb))).trans (hc i z hi)⟩⟩
end
/- CoFr:
  What stands beside ways up: the numbers that are handed out are new.
-/
theorem copathF [Lo] (x w:Int) (W:World) (rg:Tb W):Calls prog 138 #[nv x,nv w] W fun e W'=>∃ v,e=.returned v/\∃ s:SlV,v=s.v/\SlN W' W'.heap.size s (copI x w)/\Fr W.heap.size s/\Bw W W':=by
 refine calls_cx (n:=22) func138 rfl ntmps138 (by simp) (fun _ q=>by simp at q) ?_;show CX none [] _ _ _ [(0,nv x),(1,nv w)] _ _;have u:=Br W;refine cx_seq<|Qq<|lg_boxs rfl Wn rfl rfl rfl (by decide) fun b1 w1 n1=>?_
 have ⟨r1,k1,z1,lt1⟩:=n1.f;refine ZA ?_;refine Qk<|Nxx [0,3,4] ?_
 refine cx_seq<|Qq<|lg_allocs (u:=.slice none 0 0) (by kernel_rfl) rfl Wn rfl rfl (by decide) fun b2 w2 n2=>?_
 have ⟨r2,k2,z2,lt2⟩:=n2.f;refine Qk<|Nxx [0,3,4,5] ?_
 refine cx_seq<|cx_seq<|Qq<|ZM ?_
 have r1:=n2.keep r1;refine Za (Qv r1) ?_;refine Zd (up_any x w _) ?_;rintro _ w3 ⟨b3,c3,rfl,x3,y3,i3,j3,hw3⟩;have zw3:=hw3.size;have lx3:=x3.lt;have ly3:=y3.lt;refine Qk<|Nxx [3,4,5,10] ?_
 refine cx_block ?_;have u:=Un (Un (Un u n1.below) n2.below) hw3;have r2:=Rb hw3 r2;have r1:=Rb hw3 r1;refine cx_range (N:=8) (enc:=nv) (d':=6) (by kernel_rfl) rfl (up_stops x w b3 c3 _ x3 y3 (rg.up u)) upk_t upk_r upk_b (Below.refl _ _) (by decide)
  (fun pre v=>∃ (sv:Value),Bw W v/\RowAt v b2 36 #[sv]/\v.ownsRow w3.heap.size 3 1 sv (sibs w pre).length ((sibs w pre).map (Value.int .i64))/\w3.heap.size<=v.heap.size/\RowAt v c3 3 #[nv w]/\RowAt v b1 3 #[nv w])
  (fun c pre v=>False)
  (fun pre A B row hs hg hr=>by obtain ⟨sv,u,r2,g0,hs,y3,r1⟩:=hs;have hn:=fun r e=>(hr r e).2;have hb:=fun r e=>(hr r e).1;exact ⟨sv,below_nc (B:=w3.heap.size) u (by omega) (by omega) hg hb,row_nc r2 hg hn,owns_nc g0 hg hn,Nat.le_trans hs hg.size,row_nc y3 hg hn,row_nc r1 hg hn⟩)
  (fun c pre A B row hs hg hr=>hs)
  ⟨_,u,r2,(own_nilN _ _),Lr,y3,r1⟩
  (fun l x W=>as_copy rfl rfl rfl rfl (by decide) l W) ?_ ?_ ?_
 ·rintro l4 pre k v4 ⟨sv,u,r2,g0,hs,y3,r1⟩ hlen;have zv4:=u.size;have l_r2:=r2.lt;have l_y3:=y3.lt;have l_r1:=r1.lt;have kf:=KeepsFrom.refl w3.heap.size v4;have sl:=sibs_len w pre;refine cx_block<|cx_seq<|Qq<|ZM ?_
  refine Za (Qv r1) ?_;refine Za (Qp (sibling_any k w _ (rg.up u))) ?_;refine ZA ?_;refine Qk<|Nxx [4,5,7] ?_
  refine cx_seq<|Qq<|ZM ?_
  refine Zj yi_neq (fun c5=>?_) fun c5=>?_
  ·refine Qk<|Nxx [4,5,7,16] ?_
   refine cx_cf rfl<|cx_skip<|Qs ?_
   exact fun a ha=>⟨kf,⟨fun _=>y3,fun _=>(rg.up u)⟩,sv,u,r2,(by rw [sibs_no c5];exact g0),hs,y3,r1⟩
  refine Qk<|Nxx [4,5,7,16] ?_
  refine cx_ct rfl<|Qq<|Za (Qv r2) ?_
  refine ZM ?_;refine lg_bs1N Wn rfl rfl rfl (by decide) fun b6 w6 n6=>?_;have ⟨r6,k6,z6,_⟩:=n6.f;have m6:=nums_new1 n6;have g0:=own_below g0 n6.below;refine lg_appK g0 r6 (by first | omega | (simp;omega)) (by omega) Wn rfl rfl rfl rfl rfl (by decide) fun v7 w7 g7 l7 f7=>?_;have z7:=l7.size;obtain ⟨A7,c7,rfl,N7⟩:=own_nums_any g7;have r2:=RowAt.below l7 (by omega) (n6.keep r2);have o8:=r2;refine lg_sts r2 rfl rfl (by kernel_rfl) Wn rfl rfl rfl rfl fun w8 s8=>?_;have ⟨r2,z8⟩:=s8.f;refine Qk<|Qs ?_
  have g7:=own_set g7 s8 o8 (by omega);have u:=((Un u n6.below).trans (Bm l7)).trans s8.bl;have hs:=(show w3.heap.size<=w6.heap.size by omega);have hs:=(show w3.heap.size<=w7.heap.size by omega);have hs:=(show w3.heap.size<=w8.heap.size by omega);have y3:=s8.kp (RowAt.below l7 (by omega) (n6.keep y3));have r1:=s8.kp (RowAt.below l7 (by omega) (n6.keep r1));have kf:=((kf.trans (kf_below n6.below)).trans (KeepsFrom.zero f7)).trans (kf_set s8 o8);exact fun a ha=>⟨kf,⟨fun _=>y3,fun _=>(rg.up u)⟩,_,u,r2,(by rw [sibs_yes c5];exact g7),hs,y3,r1⟩
 ·rintro D4d xs v4d hD4d hS ⟨sv,u,r2,g0,hs,y3,r1⟩ hKD4d;have zv4:=u.size;have l_r2:=r2.lt;have l_y3:=y3.lt;have l_r1:=r1.lt;skip;subst hS;rw [sibs_way] at g0;obtain ⟨A0,c0,rfl,N0⟩:=own_nums_any g0;refine Qs<|Nxx [4,5] ?_
  refine cx_seq<|Qq<|Za (Qv r2) ?_
  refine ZA ?_;refine Qk<|Nxx [4] ?_
  refine cx_ret ?_;exact xg_ret [D4d] ⟨hKD4d,trivial⟩ (res_tmp rfl rfl) (own_dirF (owns_nc g0 (put_grown _ D4d (.deferred none)) (put_nc hKD4d)) (by omega) (below_nc u (B:=D4d) (by omega) Lr (put_grown _ D4d (.deferred none)) (fun r e=>by cases e;exact Nat.le_refl _)))
 rintro D c pre v hD hS h hK;exact h.elim
/- RsMath:
  Who has a key below a node: pure.
-/
def kidI (x w:Int) (i:Nat):Int:=if i=0 then leftI x w else rightI x w
theorem kids {x w:Int} (h:isN x w):0<=lvl x/\lvl x<=6/\(lvl x=0->leftI x w=-1/\rightI x w=-1)/\(lvl x≠0->isN (leftI x w) w/\isN (rightI x w) w/\lvl (leftI x w)=lvl x-1/\lvl (rightI x w)=lvl x-1) :=
 fin2 (p:=fun x w=>0<=lvl x/\lvl x<=6/\(lvl x=0->leftI x w=-1/\rightI x w=-1)/\(lvl x≠0->isN (leftI x w) w/\isN (rightI x w) w/\lvl (leftI x w)=lvl x-1/\lvl (rightI x w)=lvl x-1)) (by kernel_rfl) h
theorem kid_lvl {x w:Int} {i:Nat} (h:isN x w) (hk:isN (kidI x w i) w):lvl (kidI x w i)=lvl x-1:=by
 obtain ⟨_,_,h0,h1⟩:=kids h;by_cases q:lvl x=0
 ·obtain ⟨a,b⟩:=h0 q;unfold kidI at hk;split at hk<;>(have:=hk.2.1;omega)
 obtain ⟨_,_,a,b⟩:=h1 q;unfold kidI;split<;>assumption
def hiF (t:List Nd) (x:Int) (ks:Nat->List Int):List Int:=if isN x (t.length:Int) then (if (atN t x.toNat).kind=0 then ks 0++ks 1 else [x]) else []
def hiN:Nat->List Nd->Int->List Int
 | 0,_,_=>[]
 | n+1,t,x=>hiF t x fun i=>hiN n t (kidI x t.length i)
def hiL (t:List Nd) (x:Int):List Int:=hiN 7 t x
theorem hi_no {t:List Nd} {x:Int} {ks:Nat->List Int} (h:¬isN x (t.length:Int)):hiF t x ks=[]:=if_neg h
theorem hi_one {t:List Nd} {x:Int} {ks:Nat->List Int} (h:isN x (t.length:Int)) (hk:¬(atN t x.toNat).kind=0):hiF t x ks=[x]:=by
 unfold hiF;rw [if_pos h,if_neg hk]
theorem hi_two {t:List Nd} {x:Int} {ks:Nat->List Int} (h:isN x (t.length:Int)) (hk:(atN t x.toNat).kind=0):hiF t x ks=ks 0++ks 1:=by
 unfold hiF;rw [if_pos h,if_pos hk]
theorem hi_more:∀ (n:Nat) (t:List Nd) (x:Int),(isN x (t.length:Int)->lvl x<n)->hiN (n+1) t x=hiN n t x
 | 0,t,x,h=>by
  by_cases q:isN x (t.length:Int)
  ·have:=h q;have:=(kids q).1;omega
  exact hi_no q
 | n+1,t,x,h=>by
  by_cases q:isN x (t.length:Int)
  ·have e:∀ i,hiN (n+1) t (kidI x t.length i)=hiN n t (kidI x t.length i):=fun i=>hi_more n t _ fun k=>by
    have:=kid_lvl q k;have:=h q;omega
   show hiF t x _=hiF t x _;unfold hiF;rw [if_pos q,if_pos q];simp only [e]
  exact (hi_no q).trans (hi_no q).symm
theorem hi_eq (t:List Nd) (x:Int):hiL t x=hiF t x fun i=>hiL t (kidI x t.length i):=by
 have:hiN 8 t x=hiN 7 t x:=hi_more 7 t x fun h=>by have:=(kids h).2.1;omega
 exact this.symm
def hiK (ks:Nat->List Int):Nat->List Int
 | 0=>[]
 | n+1=>hiK ks n++ks n
theorem hiK_two (ks:Nat->List Int):hiK ks 2=ks 0++ks 1:=by simp [hiK]
theorem hiK_pre {ks:Nat->List Int} {t:Nat} {pre:List Int} (ht:t<2) (h:pre <+: ks t):hiK ks t++pre <+: ks 0++ks 1:=by
 rw [<-hiK_two];obtain ⟨r,hr⟩:=h;rcases (by omega:t=0\/t=1) with rfl | rfl
 ·exact ⟨r++ks 1,by simp [hiK,<-hr]⟩
 exact ⟨r,by simp [hiK,<-hr]⟩
def forkF (a:List Nd) (ps:List (Int × Int)):List (Int × Int):=ps.filter fun p=>decide (hiL a p.2≠[])
def wayP (a:List Nd) (i:Int):List (Int × Int):=(dirI (2*i) a.length).zip (copI (2*i) a.length)
def forkL (a:List Nd) (i:Int):List (Int × Int):=if 0<=i/\i<leavesA a then forkF a (wayP a i) else []
theorem fork_no {i:Int} (h:¬(0<=i/\i<leavesA a)):forkL a i=[]:=if_neg h
theorem fork_yes {i:Int} (h:0<=i/\i<leavesA a):forkL a i=forkF a (wayP a i):=if_pos h
theorem forkF_yes {l:List (Int × Int)} {p:Int × Int} (h:hiL a p.2≠[]):forkF a (l++[p])=forkF a l++[p]:=by simp [forkF,h]
theorem forkF_no {l:List (Int × Int)} {p:Int × Int} (h:¬hiL a p.2≠[]):forkF a (l++[p])=forkF a l:=by
 have h':hiL a p.2=[]:=Classical.byContradiction h;simp [forkF,h']
theorem forkF_pre (a:List Nd) (l:List (Int × Int)) (k:Nat):forkF a (l.take k) <+: forkF a l:=(List.take_prefix k l).filter _
theorem wayP_len {i:Int} (h:isN (2*i) (a.length:Int)):(wayP a i).length=(dirI (2*i) a.length).length/\(copI (2*i) a.length).length=(dirI (2*i) a.length).length:=by
 have:=(dir_len h).2;exact ⟨by rw [wayP,List.length_zip,this,Nat.min_self],this⟩
theorem wayP_at {i:Int} (h:isN (2*i) (a.length:Int)) {t:Nat} (ht:t<(dirI (2*i) a.length).length):(wayP a i).take (t+1)=(wayP a i).take t++[((dirI (2*i) a.length).getD t 0,(copI (2*i) a.length).getD t 0)]:=by
 obtain ⟨h1,h2⟩:=wayP_len h;have hp:(wayP a i)[t]?=some ((dirI (2*i) a.length).getD t 0,(copI (2*i) a.length).getD t 0):=by
  rw [wayP,List.getElem?_zip_eq_some];rw [List.getD_eq_getElem?_getD,List.getD_eq_getElem?_getD,List.getElem?_eq_getElem ht,List.getElem?_eq_getElem (by omega)];exact ⟨rfl,rfl⟩
 rw [List.take_add_one,hp];rfl
def nodeR (t:List Nd) (k:Int):List Int:=k::(atN t k.toNat).inner.unm.map (2*·)
def resOf (t:List Nd) (l:List Int):List Int:=l.flatMap (nodeR t)
def resL (t:List Nd) (x:Int):List Int:=resOf t (hiL t x)
theorem resOf_snoc (t:List Nd) (l:List Int) (k:Int):resOf t (l++[k])=resOf t l++nodeR t k:=by simp [resOf]
theorem hiN_s (n:Nat) (t:List Nd) (x:Int):hiN (n+1) t x=hiF t x fun i=>hiN n t (kidI x t.length i):=rfl
theorem hiN_isN:∀ (n:Nat) (t:List Nd) (x k:Int),k∈hiN n t x->isN k (t.length:Int)/\(atN t k.toNat).kind≠0
 | 0,t,x,k,h=>by cases h
 | n+1,t,x,k,h=>by
  rw [hiN_s] at h;by_cases q:isN x (t.length:Int)
  ·by_cases r:(atN t x.toNat).kind=0
   ·rw [hi_two q r] at h;rcases List.mem_append.1 h with h | h
    ·exact hiN_isN n t _ k h
    exact hiN_isN n t _ k h
   rw [hi_one q r] at h;obtain rfl:k=x:=List.mem_singleton.1 h;exact ⟨q,r⟩
  rw [hi_no q] at h;cases h
theorem hiN_len:∀ (n:Nat) (t:List Nd) (x:Int),(hiN n t x).length<=2 ^ n
 | 0,_,_=>Nat.zero_le _
 | n+1,t,x=>by
  have h0:=hiN_len n t (kidI x t.length 0);have h1:=hiN_len n t (kidI x t.length 1);show (hiF t x _).length<=_;rw [Nat.pow_succ];unfold hiF;have hp:=Nat.two_pow_pos n;split
  ·split
   ·rw [List.length_append];show (hiN n t _).length+(hiN n t _).length<=_;omega
   simp only [List.length_cons,List.length_nil];omega
  exact Nat.zero_le _
theorem hiL_len (t:List Nd) (x:Int):(hiL t x).length<=128:=hiN_len 7 t x
theorem unm_small (h:trIs a) (i:Nat):(∀ x∈(atN a i).inner.unm,0<=x/\x<64)/\(atN a i).inner.unm.length<=64:=by
 have ok:=(trIs_ok h i).1;have no:¬(atN a i).kind=2->(atN a i).inner.unm=[]:=fun k=>by
  unfold ndCheck at ok;split at ok
  ·omega
  split at ok
  ·omega
  rename_i q
  have:PnSame (atN a i).inner Pn.zero:=Classical.byContradiction fun z=>q (.inr ⟨k,z⟩);exact this.2.2
 by_cases k:(atN a i).kind=2
 ·have hp:pnCheck (atN a i).inner=0:=by
   unfold ndCheck at ok
   repeat' split at ok
   all_goals first | exact ok | omega
  exact ⟨(pnCheck_nums hp).1,(pnCheck_ok hp).2.2.2⟩
 rw [no k];exact ⟨fun x q=>absurd q (by simp),Nat.zero_le _⟩
theorem resOf_len {a:List Nd} (h:trIs a):∀ l:List Int,(resOf a l).length<=65*l.length
 | []=>Nat.le_refl _
 | k::l=>by
  have h1:=resOf_len h l;have h2:=(unm_small h k.toNat).2;have e:resOf a (k::l)=nodeR a k++resOf a l:=by simp [resOf]
  rw [e,List.length_append];simp only [nodeR,List.length_cons,List.length_map];omega
theorem told_at {x:Int} {pre:List Int} (h:trIs a) (hp:pre++[k] <+: hiL a x):isN k (a.length:Int)/\(atN a k.toNat).kind≠0/\(resOf a pre).length<=8255:=by
 obtain ⟨r,hr⟩:=hp;have hm:k∈hiL a x:=by rw [<-hr];simp
 have h1:=hiN_isN 7 a x k hm;have h2:=hiL_len a x;have h3:=resOf_len h pre;rw [<-hr] at h2;simp only [List.length_append,List.length_cons,List.length_nil] at h2;exact ⟨h1.1,h1.2,by omega⟩
theorem res_nil (x:Int):resL [] x=[]:=by
 unfold resL;rw [hi_eq,hi_no (fun q=>by have:=q.le;simp only [List.length_nil] at this;omega)];rfl
theorem hi_none {t:List Nd} {x:Int} (h:¬isN x (t.length:Int)):hiL t x=[]:=by
 rw [hi_eq,hi_no h]
theorem hi_both {t:List Nd} {x:Int} (h:isN x (t.length:Int)) (hk:(atN t x.toNat).kind=0):hiL t x=hiL t (leftI x t.length)++hiL t (rightI x t.length):=by
 rw [hi_eq,hi_two h hk];rfl
theorem even_lvl {x w:Int} (h:isN x w):x % 2=0↔lvl x=0:=fin2 (p:=fun x w=>x % 2=0↔lvl x=0) (by kernel_rfl) h
theorem hi_leaf {t:List Nd} {x:Int} (h:isN x (t.length:Int)) (hk:(atN t x.toNat).kind=0) (he:x % 2=0):hiL t x=[]:=by
 obtain ⟨_,_,k,_⟩:=kids h;obtain ⟨a,b⟩:=k ((even_lvl h).1 he);rw [hi_both h hk,a,b,hi_none (fun q=>by have:=q.2.1;omega)];rfl
theorem odd_kids {x w:Int} (h:isN x w) (ho:¬x % 2=0):(isN (leftI x w) w/\lvl (leftI x w)=lvl x-1)/\isN (rightI x w) w/\lvl (rightI x w)=lvl x-1:=by
 obtain ⟨_,_,_,k⟩:=kids h;obtain ⟨a,b,c,d⟩:=k fun q=>ho ((even_lvl h).2 q);exact ⟨⟨a,c⟩,b,d⟩
theorem cop_nodes {x w:Int} (h:isN x w):∀ k∈copI x w,isN k w/\0<=sibI k w:=fin2 (p:=fun x w=>∀ k∈copI x w,isN k w/\0<=sibI k w) (by kernel_rfl) h
/- RsFacts:
  What the statements of layer 11 ask of those that are told: pure.
-/
-- children, and below
def lftN (x:Nat):Nat:=x-p2 (lvlN x-1)
def rgtN (x:Nat):Nat:=x+p2 (lvlN x-1)
theorem pairs7:all3N (fun x y w=>bif Nat.beq (lvlN x) 0 then (undN y x == Nat.beq y x) else ((undN y x == (Nat.beq y x || undN y (lftN x) || undN y (rgtN x))) && !(undN y (lftN x) && undN y (rgtN x)) && (!undN y (rgtN x) || Nat.ble (x+1) y)))=true:=by kernel_rfl
theorem kids_nat {x w:Int} (h:isN x w):lvl x=((lvlN x.toNat:Nat):Int)/\(lvl x≠0->leftI x w=((lftN x.toNat:Nat):Int)/\rightI x w=((rgtN x.toNat:Nat):Int)) :=
 fin2 (p:=fun x w=>lvl x=((lvlN x.toNat:Nat):Int)/\(lvl x≠0->leftI x w=((lftN x.toNat:Nat):Int)/\rightI x w=((rgtN x.toNat:Nat):Int))) (by kernel_rfl) h
theorem und_refl {x w:Int} (h:isN x w):undI x x w:=(und_dir h h).1 (.inl rfl)
theorem und_all {x y w:Int} (hx:isN x w) (hl:lvl x≠0) (hy:isN y w):(undI y x w↔y=x\/undI y (leftI x w) w\/undI y (rightI x w) w)/\¬(undI y (leftI x w) w/\undI y (rightI x w) w)/\(undI y (rightI x w) w->x<y):=by
 have hk:=kids_nat hx;obtain ⟨_,_,_,kk⟩:=kids hx;obtain ⟨ka,kb,_,_⟩:=kk hl;obtain ⟨el,er⟩:=hk.2 hl;rw [el] at ka;rw [er] at kb;rw [el,er];obtain ⟨n,v,rfl,rfl,hv,hn⟩:=nat_of hx;obtain ⟨m,v2,rfl,e,_,hm⟩:=nat_of hy;obtain rfl:v=v2:=by omega
 have h:=fin3N pairs7 hv hn hm;simp only [Int.toNat_natCast] at hk ka kb ⊢;have h0:Nat.beq (lvlN n) 0=false:=by
  rw [Bool.eq_false_iff];intro t;have:=Nat.eq_of_beq_eq_true t;omega
 rw [h0] at h;simp only [cond_false,Bool.and_eq_true,beq_iff_eq] at h;obtain ⟨⟨h1,h2⟩,h3⟩:=h;have eu:∀ z:Nat,isN (z:Int) v->(undI (m:Int) (z:Int) v↔undN m z=true):=fun z hz=>by unfold undI;simp [hy,hz]
 rw [eu _ hx,eu _ ka,eu _ kb,h1];refine ⟨?_,?_,?_⟩
 ·rw [Bool.or_eq_true,Bool.or_eq_true,Nat.beq_eq,or_assoc];constructor
  ·exact fun q=>q.imp (fun e=>by omega) id
  exact fun q=>q.imp (fun e=>by omega) id
 ·rintro ⟨a,b⟩;rw [a,b] at h2;cases h2
 intro a;rw [a] at h3;have:Nat.ble (n+1) m=true:=by simpa using h3
 have:=Nat.le_of_ble_eq_true this;omega
theorem und_kids {x y w:Int} (hx:isN x w) (hl:lvl x≠0):undI y x w↔y=x\/undI y (leftI x w) w\/undI y (rightI x w) w:=by
 by_cases hy:isN y w
 ·exact (und_all hx hl hy).1
 exact ⟨fun u=>absurd u.1 hy,fun u=>by
  rcases u with e | u | u
  ·exact absurd (e▸hx) hy
  ·exact absurd u.1 hy
  exact absurd u.1 hy⟩
-- those that are told of a node
theorem hi_ind {t:List Nd} {P:Int->Prop} (step:∀ x,isN x (t.length:Int)->((atN t x.toNat).kind=0->¬x % 2=0->P (leftI x t.length)/\P (rightI x t.length))->P x):∀ (n:Nat) (x:Int),isN x (t.length:Int)->lvl x<n->P x
 | 0,x,h,hl=>by
  have:=(kids h).1;omega
 | n+1,x,h,hl=>step x h fun hk ho=>by
  obtain ⟨⟨a,b⟩,c,d⟩:=odd_kids h ho;exact ⟨hi_ind step n _ a (by omega),hi_ind step n _ c (by omega)⟩
theorem hi_all {t:List Nd} {P:Int->Prop} (one:∀ x,isN x (t.length:Int)->¬(atN t x.toNat).kind=0->hiL t x=[x]->P x) (leaf:∀ x,isN x (t.length:Int)->(atN t x.toNat).kind=0->lvl x=0->hiL t x=[]->P x)
  (both:∀ x,isN x (t.length:Int)->(atN t x.toNat).kind=0->lvl x≠0->hiL t x=hiL t (leftI x t.length)++hiL t (rightI x t.length)->isN (leftI x t.length) t.length->isN (rightI x t.length) t.length->P (leftI x t.length)->P (rightI x t.length)->P x) {x:Int} (h:isN x (t.length:Int)):P x:=by
 refine hi_ind (fun x h ih=>?_) 7 x h (by have:=(kids h).2.1;omega);by_cases q:(atN t x.toNat).kind=0
 ·by_cases e:x % 2=0
  ·exact leaf x h q ((even_lvl h).1 e) (hi_leaf h q e)
  obtain ⟨⟨a,_⟩,b,_⟩:=odd_kids h e;obtain ⟨pa,pb⟩:=ih q e;exact both x h q (fun z=>e ((even_lvl h).2 z)) (hi_both h q) a b pa pb
 exact one x h q (by rw [hi_eq,hi_one h q])
theorem hi_und {t:List Nd} {x:Int} (h:isN x (t.length:Int)):∀ k∈hiL t x,undI k x t.length :=
 hi_all (P:=fun x=>∀ k∈hiL t x,undI k x t.length)
  (fun x h _ e k hk=>by
   rw [e,List.mem_singleton] at hk;rw [hk];exact und_refl h)
  (fun x h _ _ e k hk=>by
   rw [e] at hk;cases hk)
  (fun x h _ hl e _ _ a b k hk=>by
   rw [e] at hk;rcases List.mem_append.1 hk with hk | hk
   ·exact (und_kids h hl).2 (.inr (.inl (a k hk)))
   exact (und_kids h hl).2 (.inr (.inr (b k hk)))) h
theorem hi_in {t:List Nd} {x:Int} (hk:k∈hiL t x):isN x (t.length:Int)/\isN k (t.length:Int)/\(atN t k.toNat).kind≠0/\undI k x t.length:=by
 have hx:isN x (t.length:Int):=Classical.byContradiction fun q=>by
  rw [hi_none q] at hk;cases hk
 have h1:=hiN_isN 7 t x k hk;exact ⟨hx,h1.1,h1.2,hi_und hx k hk⟩
-- those that have a key
theorem mem_res {t:List Nd} {x:Int}:k∈resL t x↔∃ j∈hiL t x,k=j\/∃ u∈(atN t j.toNat).inner.unm,k=2*u:=by
 unfold resL resOf;rw [List.mem_flatMap];constructor
 ·rintro ⟨j,hj,hk⟩;refine ⟨j,hj,?_⟩;rcases List.mem_cons.1 hk with e | e
  ·exact .inl e
  obtain ⟨u,hu,e⟩:=List.mem_map.1 e;exact .inr ⟨u,hu,e.symm⟩
 rintro ⟨j,hj,e | ⟨u,hu,e⟩⟩
 ·exact ⟨j,hj,List.mem_cons.2 (.inl e)⟩
 exact ⟨j,hj,List.mem_cons.2 (.inr (List.mem_map.2 ⟨u,hu,e.symm⟩))⟩
theorem res_range {t:List Nd} {x:Int} (ht:trIs t) (h:k∈resL t x):0<=k/\k<128:=by
 have hl:=trIs_le ht;obtain ⟨j,hj,e | ⟨u,hu,e⟩⟩:=mem_res.1 h
 ·have:=(hi_in hj).2.1.le;omega
 have:=(unm_small ht j.toNat).1 u hu;omega
theorem res_len {t:List Nd} (h:trIs t) (x:Int):(resL t x).length<=8320:=by
 have h1:=resOf_len h (hiL t x);have h2:=hiL_len t x;unfold resL;omega
theorem getD_in {l:List Int} {k:Nat} (h:k<l.length):l.getD k 0∈l:=by
 rw [List.getD_eq_getElem?_getD,List.getElem?_eq_getElem h];exact List.getElem_mem h
-- a way up, filtered
-- a tree that has grown
section
variable {t g:List Nd} (hl:(g.length:Int)=2*t.length+1) (hw:(t.length:Int)<=63) (ha:∀ i,atN g i=atN t i)
include hl hw ha
end
theorem grown {t:List Nd} (ht:trIs t) (h:growE t=0):((growL t).length:Int)=2*t.length+1/\(t.length:Int)<=63/\∀ i,atN (growL t) i=atN t i:=by
 have h1:=growL_len h;have h2:=grow_small h;have h3:=growL_ok h;rw [trAs_ok ht] at h1 h2 h3;exact ⟨by omega,by omega,fun i=>by rw [h3,atN_app_z]⟩
/- RsProg:
  What the program tells of nodes below.
-/
def depH (B bx bt:Nat):Nat->Prop:=fun k=>k<B\/k=bx\/k=bt
abbrev TH (B bx bt:Nat) (xs:List Int) (w:World):Prop:=Tells prog 234 #[pv bx 0,pv bt 0] (fun k:Int=>#[nv k]) xs (depH B bx bt) w
theorem high_any [Lo] {B:Nat} (s:SlV) (x:Int) (W:World) (h:RwNd W B s Ls):Calls prog 193 #[s.v,nv x] W fun e W'=>∃ v,e=.returned v/\∃ bx bt,v=.func (.func 234) #[] #[pv bx 0,pv bt 0]/\RowAt W' bx 3 #[nv x]/\RowAt W' bt 22 #[s.v]/\W.heap.size<=bx/\W.heap.size<=bt/\Bw W W':=by
 refine Ze func193 ntmps193 ?_;have u:=Br W;refine Zr<|lg_boxs rfl Wn rfl rfl rfl (by decide) fun b1 w1 n1=>?_
 have ⟨r1,k1,z1,lt1⟩:=n1.f;refine lg_boxs rfl Wn rfl rfl rfl (by decide) fun b2 w2 n2=>?_;have ⟨r2,k2,z2,lt2⟩:=n2.f;refine ZAn [2,3,4] ?_;refine Zr<|Za (y_mkf (xs:=[]) (ys:=[.tmp 3,.tmp 2])) ?_
 refine ZAnr [4] ?_;exact Qa rfl rfl ⟨_,rfl,b2,b1,rfl,r2,n2.keep r1,by omega,by omega,Un (Un u n1.below) n2.below⟩
set_option maxRecDepth 20000 in
theorem high_step [Lo] (ks:Nat->List Int) (x:Int) (bx bt B:Nat) (s:SlV) (Ls:List Nd) (w0:World) (hB0:B<=w0.heap.size) (htab:1<B) (h00:RwNd w0 B s Ls) (rg0:Tb w0) (hx0:RowAt w0 bx 3 #[nv x]) (hb0:RowAt w0 bt 22 #[s.v])
  (ih:isN x (Ls.length:Int)->(atN Ls x.toNat).kind=0->∀ i,i<2->∀ bx' bt' w',B<=w'.heap.size->RwNd w' B s Ls->Tb w'->RowAt w' bx' 3 #[nv (kidI x (Ls.length:Int) i)]->RowAt w' bt' 22 #[s.v]->TH B bx' bt' (ks i) w') :
  TH B bx bt (hiF Ls x ks) w0:=by
 intro l J Jx W m0 hW hm0 hJa hJxa hY hJ;refine callsIn_wide.2 ?_;have hWB:=hW.below (n0:=B) (fun k hk=>.inl hk) hB0;have hx:=hW.row (.inr (.inl rfl)) hx0;have hb:=hW.row (.inr (.inr rfl)) hb0;have h:=h00.below hWB;have rg:=rg0.from hWB htab;have lx:=hx.lt;have lb:=hb.lt;have zW:=hW.size;have hd:Did m0 m0 W W:=Did.refl fun k q=>(hm0 k q).2;have hlow:∀ {m:Nat->Prop} {v:World},Did m0 m W v->∀ k,depH B bx bt k->¬m k:=fun d k hk q=>(d.new k q).elim (fun q=>(hm0 k q).1 hk) fun q=>by
  rcases hk with hk | rfl | rfl<;>omega
 show Calls _ _ ([.func (.yield l) #[] #[],pv bx 0,pv bt 0]:List Value).toArray W _;refine calls_cx (n:=42) func234 rfl ntmps234 (by simp) (fun _ q=>by simp at q) ?_;show CX none [] _ _ _ [(0,.func (.yield l) #[] #[]),(1,pv bx 0),(2,pv bt 0)] _ _;refine cx_seq<|Qq<|lg_boxs rfl Wn rfl rfl rfl (by decide) fun b1 w1 n1=>?_
 have ⟨r1,k1,z1,lt1⟩:=n1.f;refine Qk<|Nxx [1,2,3] ?_
 refine cx_seq<|cx_seq<|Qq ?_
 have hx:=n1.keep hx;refine Zv (nv x) hx ?_;have hb:=n1.keep hb;refine Zv s.v hb ?_;have h:=h.below (Bm n1.below);refine Za (y_lenM (el:=81) h.len) ?_;refine Zi (Qp (isL_any x (Ls.length:Int) _)) (fun c2=>?_) fun c2=>?_
 ·refine Xa 1 ?_;refine Qk<|Nxx [1,2,3,11] ?_
  refine cx_cf rfl<|cx_skip<|Nxx [1,2,3] ?_
  refine cx_seq<|cx_seq ?_
  have lex:=c2.le;have q1:=h.len;have q2:=h.cap;refine Qq<|Zv s.v hb ?_
  refine Zv (nv x) hx ?_;obtain ⟨eb3,eo3,el3,eL3,eA3,eB3,eg3,eh3,ec3⟩:=h.at (x.toNat) (by have:=h.len;omega);refine Za (Yy s 81 8 x.toNat x eA3 (by omega) (by have:=h.len;omega) rfl rfl rfl) ?_;refine Zy 0 ?_;refine Za (y_celld (ec3 0 _ rfl)) ?_;refine Zj yi_neq (fun c4=>?_) fun c4=>?_
  ·refine Qk<|Nxx [1,2,3,17] ?_
   refine cx_cf rfl<|cx_skip<|Nxx [1,2,3] ?_
   refine cx_seq<|cx_still (by kernel_rfl) (by kernel_rfl) fun W5 eW5=>?_
   have dW5:=below_drew _ _ eW5;have zW5:=size_drew _ _ eW5;clear eW5;have hx:=Rb dW5 hx;refine Zsa (Qo (v:=nv x) hx rfl (by kernel_rfl) rfl rfl) ?_;have hb:=Rb dW5 hb;refine Zsa (Qo (v:=s.v) hb rfl (by kernel_rfl) rfl rfl) ?_;have h:=h.below (Bm dW5);refine Zsa (y_lenM (el:=81) h.len) ?_;have rg:=(rg.up n1.below).up dW5;refine Zsa (Qp (left_any x (Ls.length:Int) _ rg)) ?_;refine Zsa (Qo (v:=nv x) hx rfl (by kernel_rfl) rfl rfl) ?_;refine Zsa (Qo (v:=s.v) hb rfl (by kernel_rfl) rfl rfl) ?_;refine Zsa (y_lenM (el:=81) h.len) ?_;refine Zsa (Qp (right_any x (Ls.length:Int) _ rg)) ?_;refine Zsa (y_build (cs:=#[nv (leftI x (Ls.length:Int)),nv (rightI x (Ls.length:Int))])) ?_;refine Zsa y_move ?_;refine sg_nil ?_;refine Nxx [2,3,29,30] ?_;refine cx_block ?_;have hxs:hiF Ls x ks=ks 0++ks 1:=hi_two c2 (at_kind (p:=fun k=>k=0) eg3 c4);have r1:=Rb dW5 r1;have hd:=(hd.call n1.below).call dW5;have hJ:=hJa.call (by omega) hJ n1.below;have hJ:=hJa.call (by omega) hJ dW5;refine cx_loopD (fun t ds a v=>∃ (Ds:List Nat) (m:Nat->Prop),Holds 42 [(2,pv bt 0),(3,pv b1 0),(29,.agg #[nv (leftI x (Ls.length:Int)),nv (rightI x (Ls.length:Int))]),(30,nv ((t:Nat):Int))] a/\ds=Ds.map mark/\RwNd v B s Ls/\RowAt v b1 103 #[.func (.yield l) #[] #[]]/\RowAt v bt 22 #[s.v]/\Tb v/\Did m0 m W v/\J (hiK ks t) m v/\Marks W.heap.size m Ds v/\¬m b1) 2 (fun a ha=>⟨[],m0,ha.keep kz,rfl,h,r1,hb,rg,hd,hJ,Marks.nil _ _ _,(fun q=>by have:=(hm0 _ q).2;omega)⟩) ?_;rintro t ds a v ht ⟨Ds,m,ha,hds,h,r1,hb,rg,hd,hJ,hM,hn⟩;refine cx_at ha ?_;clear ha a;have l_r1:=r1.lt;have l_hb:=hb.lt;subst hds;have zd:=hd.kept.size;have ltv:=hd.lt;refine cx_seq<|Qq ?_
   refine Zi yi_lss (fun c6=>?_) fun c6=>?_
   ·refine Qk<|Nxx [2,3,29,30,31] ?_
    refine cx_seq<|cx_ct rfl<|cx_skip<|Nxx [2,3,29,30] ?_
    refine cx_seq<|cx_block<|cx_seq ?_
    have ht2:t<2:=by omega
    refine Qq ?_;have hk2:(#[nv (leftI x (Ls.length:Int)),nv (rightI x (Ls.length:Int))]:Array Value)[t]?=some (nv (kidI x (Ls.length:Int) t)):=by
     rcases (by omega:t=0\/t=1) with rfl | rfl<;>rfl
    refine Za (y_idx (len:=2) (el:=3) (k:=.i64) (by kernel_rfl) (by kernel_rfl) (by kernel_rfl) (by omega) hk2 rfl rfl rfl) ?_;refine ZA ?_;refine Qk<|Nxx [2,3,29,30,5] ?_
    refine cx_seq<|Qq<|Zv s.v hb ?_
    refine ZM ?_;refine Zd (high_any s (kidI x (Ls.length:Int) t) _ h) ?_;rintro _ w7 ⟨bx7,bt7,rfl,x7,y7,i7,j7,hw7⟩;have zw7:=hw7.size;have lx7:=x7.lt;have ly7:=y7.lt;refine Qk<|Nxx [2,3,29,30,35] ?_
    refine cx_block ?_;have h:=h.below (Bm hw7);have r1:=Rb hw7 r1;have hb:=Rb hw7 hb;have rg:=rg.up hw7;have hd:=hd.call hw7;have hJ:=hJa.call (by omega) hJ hw7;have hM:=hM.call hw7;have hn:=hn;refine cx_told1 (enc:=(fun k:Int=>nv k)) (d':=6) (m0:=m) (by kernel_rfl) rfl (ih c2 (at_kind (p:=fun k=>k=0) eg3 c4) t ht2 bx7 bt7 _ (by omega) h rg x7 y7) (fun k q=>⟨fun z=>z.elim (fun z=>hlow hd k (.inl z) q) (fun z=>by have:=ltv k q;rcases z with rfl | rfl<;>omega),by have:=ltv k q;omega⟩) (fun k hk z=>by rcases z with z | rfl | rfl<;>omega) (by decide) 
     (fun pre m X=>J (hiK ks t++pre) m X)
     (fun c pre m X=>c=.ret/\Jx (hiK ks t++pre) m X)
     (fun s m X Y hX hj k=>hJa _ _ _ _ (by omega) hj (k.mono fun i _ q=>q.elim .inl fun q=>.inr (by omega)))
     (fun c s m X Y hX hj k=>⟨hj.1,hJxa _ _ _ _ (by omega) hj.2 (k.mono fun i _ q=>q.elim .inl fun q=>.inr (by omega))⟩)
     (by rw [List.append_nil];exact hJ)
     (fun l x W=>as_take rfl rfl rfl rfl (by decide) rfl l W)
     ?_ ?_ ?_
    ·rintro l8 pre8 k8 v8 m8 d8 hi8 hp8;have hJ:=hi8;have hd:=hd.trans d8;have r1:=d8.kept.row hn r1;have zv8:=d8.kept.size;refine cx_block<|cx_seq<|cx_regionx ?_
     refine lxw Wn (Qo (v:=.func (.yield l) #[] #[]) r1 rfl (by kernel_rfl) rfl rfl) rfl (by decide) ?_;refine lxw Wn (y_move rfl rfl) rfl (by decide) ?_;refine lx_yields Wn (hY (hiK ks t++pre8) k8 v8 m8 hd hJ (by rw [hxs,List.append_assoc];exact hiK_pre ht2 hp8)) rfl rfl rfl rfl (by decide) ?_ ?_
     ·rintro w9 ⟨m9,j9,g9⟩;have hd:=(hd).trans j9;have zy9:=j9.kept.size;have hJ:=g9;refine lxw Wn (y_bnot rfl rfl) rfl (by decide) ?_;refine lx_nil ?_;refine Nxx [40] ?_;refine cx_cf rfl<|cx_skip<|Qs ?_
      exact fun a ha=>⟨m9,j9,by show J (hiK ks t++(pre8++[k8])) _ _;rw [<-List.append_assoc];exact hJ⟩
     rintro w9 ⟨m9,j9,g9⟩;have hd:=(hd).trans j9;have zy9:=j9.kept.size;have hJx:=g9;refine lxw Wn (y_bnot rfl rfl) rfl (by decide) ?_;refine lx_nil ?_;refine Nxx [40] ?_;refine cx_ct rfl<|cx_ret<|xg_block_ret ?_
     exact fun a ha=>⟨m9,j9,rfl,by show Jx (hiK ks t++(pre8++[k8])) _ _;rw [<-List.append_assoc];exact hJx⟩
    ·rintro D8 v8d m8 hz8 d8 nD8 hi8 hD8;have low8:=d8.kept.below (n0:=B) (fun k hk=>hlow hd k (.inl hk)) (by omega);have hM:=hM.cons d8 (by omega) hz8 nD8 hD8;have h:=h.below low8;have r1:=d8.kept.row hn r1;have hb:=d8.kept.row (hlow hd bt (.inr (.inr rfl))) hb;have rg:=rg.from low8 htab;have hn:¬m8 b1:=fun q=>(d8.new _ q).elim hn fun q=>by omega
     have hd:=hd.trans d8;have hJ:=hi8;have zv8:=d8.kept.size;refine Qs<|Qs<|Nxx [2,3,29,30] ?_
     refine Qq<|Za Yj ?_
     refine ZM ?_;refine Qk ?_;exact fun a ha=>(show t<2/\_ from ⟨(by omega),((D8::Ds).map mark),a,rfl,(D8::Ds),m8,ha.keep kz,rfl,h,r1,hb,rg,hd,hJ,hM,hn⟩)
    rintro D8 c8 pre8 v8s m8 hz8 hp8 d8 nD8 hi8 hD8;obtain ⟨rfl,hJx⟩:=hi8;have hM:=hM.cons d8 (by omega) hz8 nD8 hD8;have hd:=hd.trans d8;have zv8:=d8.kept.size;refine cx_ret<|xg_block_ret<|xg_block_ret<|xg_seq_ret<|xg_seq_ret<|xg_block_ret ?_
    obtain ⟨op,dd,kp⟩:=Marks.closed Lr (hM) hd;exact xg_ret (D8::Ds) op (res_none rfl) ⟨⟨_,rfl⟩,m8,dd,.inr ⟨_,(by rw [hxs];exact hiK_pre ht2 hp8),hJxa _ _ _ _ (by omega) hJx kp⟩⟩
   refine Qk<|Nxx [2,3,29,30,31] ?_
   refine cx_seq<|cx_cf rfl<|cx_exit<|xg_seq_exit<|xg_seq_exit<|xg_block_exit ?_
   obtain rfl:t=2:=by omega
   obtain ⟨op,dd,kp⟩:=Marks.closed Lr hM hd;exact xg_end Ds op (res_none rfl) ⟨⟨_,rfl⟩,m,dd,.inl (by rw [hxs,<-hiK_two];exact hJa _ _ _ _ (by omega) hJ kp)⟩
  refine Qk<|Nxx [1,2,3,17] ?_
  refine cx_ct rfl<|cx_seq<|cx_regionx ?_
  refine lxw Wn (Qo (v:=.func (.yield l) #[] #[]) r1 rfl (by kernel_rfl) rfl rfl) rfl (by decide) ?_;refine lxw Wn (Qo (v:=nv x) hx rfl (by kernel_rfl) rfl rfl) rfl (by decide) ?_;have hxs:hiF Ls x ks=[x]:=hi_one c2 (at_kind (p:=fun k=>¬k=0) eg3 c4);have hd:=hd.call n1.below;have hJ:=hJa.call (by omega) hJ n1.below;refine lx_yields Wn (hY [] x w1 m0 hd hJ (by rw [hxs];exact List.prefix_refl _)) rfl rfl rfl rfl (by decide) ?_ ?_
  ·rintro w10 ⟨m10,j10,g10⟩;have hd:=(hd).trans j10;have zy10:=j10.kept.size;have hJ:=g10;refine lx_nil ?_;refine Nxx [1,2,3] ?_;refine cx_ret<|xg_seq_ret ?_
   obtain ⟨op,dd,kp⟩:=Marks.closed Lr (Marks.nil _ _ _) hd;exact xg_ret [] op (res_none rfl) ⟨⟨_,rfl⟩,m10,dd,.inl (by rw [hxs];exact hJa _ _ _ _ (by omega) hJ kp)⟩
  rintro w10 ⟨m10,j10,g10⟩;have hd:=(hd).trans j10;have zy10:=j10.kept.size;have hJx:=g10;refine lx_nil ?_;refine Nxx [1,2,3] ?_;refine cx_ret<|xg_seq_ret ?_
  obtain ⟨op,dd,kp⟩:=Marks.closed Lr (Marks.nil _ _ _) hd;exact xg_ret [] op (res_none rfl) ⟨⟨_,rfl⟩,m10,dd,.inr ⟨[x],(by rw [hxs];exact List.prefix_refl _),hJxa _ _ _ _ (by omega) hJx kp⟩⟩
 refine Xa 1 ?_;refine Qk<|Nxx [1,2,3,11] ?_
 refine cx_ct rfl<|cx_ret<|xg_seq_ret ?_
 have hxs:hiF Ls x ks=[]:=hi_no c2;have hd:=hd.call n1.below;have hJ:=hJa.call (by omega) hJ n1.below;obtain ⟨op,dd,kp⟩:=Marks.closed Lr (Marks.nil _ _ _) hd;exact xg_ret [] op (res_none rfl) ⟨⟨_,rfl⟩,m0,dd,.inl (by rw [hxs];exact hJa _ _ _ _ (by omega) hJ kp)⟩
theorem high_tells [Lo] {B:Nat} {s:SlV} {Ls:List Nd} (htab:1<B):∀ (n:Nat) (x:Int) (bx bt:Nat) (w0:World),(isN x (Ls.length:Int)->lvl x<n)->B<=w0.heap.size->RwNd w0 B s Ls->Tb w0->RowAt w0 bx 3 #[nv x]->RowAt w0 bt 22 #[s.v]->TH B bx bt (hiN n Ls x) w0
 | 0,x,bx,bt,w0,hl,hB,h,rg,hx,hb=>by
  have hn:¬isN x (Ls.length:Int):=fun q=>by have:=hl q;have:=(kids q).1;omega
  have:=high_step (fun _=>[]) x bx bt B s Ls w0 hB htab h rg hx hb fun q=>absurd q hn;rwa [hi_no hn] at this
 | n+1,x,bx,bt,w0,hl,hB,h,rg,hx,hb=>high_step (fun i=>hiN n Ls (kidI x Ls.length i)) x bx bt B s Ls w0 hB htab h rg hx hb fun q hk i hi bx' bt' w' hB' h' rg' hx' hb' =>
  high_tells htab n _ bx' bt' w' (fun k=>by have:=kid_lvl q k;have:=hl q;omega) hB' h' rg' hx' hb'
/- RsRes:
  Who has a key below a node: what the program answers.
-/
theorem somebody_any [Lo] {B:Nat} (h:RwNd W B s Ls) (x:Int) (hB:B<=W.heap.size) (rg:Tb W):Calls prog 238 #[s.v,nv x] W fun e W'=>∃ v,e=.returned v/\v=.bool (decide (hiL Ls x≠[]))/\Bw W W':=by
 have h:=h.more hB;have hlt:=rg.lt;refine calls_cx (n:=9) func238 rfl ntmps238 (by simp) (fun _ q=>by simp at q) ?_;show CX none [] _ _ _ [(0,s.v),(1,nv x)] _ _;have u:=Br W;refine cx_seq<|Qq<|lg_allocs (u:=.bool false) (by kernel_rfl) rfl Wn rfl rfl (by decide) fun b1 w1 n1=>?_
 have ⟨r1,k1,z1,lt1⟩:=n1.f;refine Qk<|Nxx [0,1,4] ?_
 refine cx_seq<|cx_seq<|Qq<|ZM ?_
 refine ZM ?_;have h:=h.below (Bm n1.below);refine Zd (high_any s x _ h) ?_;rintro _ w2 ⟨bx2,bt2,rfl,x2,y2,i2,j2,hw2⟩;have zw2:=hw2.size;have lx2:=x2.lt;have ly2:=y2.lt;refine Qk<|Nxx [4,7] ?_
 refine cx_block ?_;have h:=h.below (Bm hw2);have u:=Un (Un u n1.below) hw2;have r1:=Rb hw2 r1;have rg:=(rg.up n1.below).up hw2;refine cx_told0 (enc:=(fun k:Int=>nv k)) (m0:=(fun k=>k=b1)) (by kernel_rfl) rfl (high_tells hlt 7 x bx2 bt2 _ (fun h=>by have:=(kids h).2.1;omega) (by omega) h rg x2 y2) (fun k q=>by obtain rfl:k=b1:=q;exact ⟨fun z=>by rcases z with z | z | z<;>omega,by omega⟩) (fun k hk z=>by rcases z with z | rfl | rfl<;>omega) (by decide) 
  (fun pre m X=>pre=[]/\m b1/\RowAt X b1 4 #[.bool false])
  (fun c pre m X=>c=.ret/\pre≠[]/\m b1/\RowAt X b1 4 #[.bool true])
  (fun s m X Y hX ⟨h1,h2,h3⟩ k=>⟨h1,h2,k.row (.inl h2) h3⟩)
  (fun c s m X Y hX ⟨h0,h1,h2,h3⟩ k=>⟨h0,h1,h2,k.row (.inl h2) h3⟩)
  ⟨rfl,rfl,r1⟩
  ?_ ?_ ?_
 ·rintro l3 pre3 k3 v3 m3 d3 hi3 hp3;obtain ⟨hp,hmb,r1⟩:=hi3;have hr:=Did.refl d3.lt;have zv3:=r1.lt;refine cx_block<|cx_seq<|Qq ?_
  have o4:=r1;refine lg_sts r1 rfl rfl (by kernel_rfl) Wn rfl rfl rfl rfl fun w4 s4=>?_;have ⟨r1,z4⟩:=s4.f;refine Qk<|Nxx [4] ?_
  refine cx_ret<|xg_block_ret ?_
  have hr:=hr.trans (Did.set s4 o4 hmb hr.lt);exact fun a ha=>⟨_,hr,rfl,by simp,hmb,r1⟩
 ·rintro D3 v3d m3 hz3 d3 nD3 hi3 hD3;obtain ⟨hp,hmb,r1⟩:=hi3;have u:=u.trans (d3.below (n0:=W.heap.size) (by omega) (fun k q=>by obtain rfl:k=b1:=q;omega));have zv3:=r1.lt;have hKD3:=hD3;refine Qs<|Nxx [4] ?_
  refine cx_seq<|Qq ?_
  have o5:=r1;refine lg_sts r1 rfl rfl (by kernel_rfl) Wn rfl rfl rfl rfl fun w5 s5=>?_;have ⟨r1,z5⟩:=s5.f;refine Qk<|Nxx [4] ?_
  refine cx_ret ?_;have hKD3:=(s5.other _ (by omega)).trans hKD3;exact xg_ret [D3] ⟨hKD3,trivial⟩ (res_cell rfl rfl (row_nc r1 (put_grown _ D3 (.deferred none)) (put_nc hKD3)) (by kernel_rfl)) ⟨_,rfl,congrArg Value.bool (decide_eq_false (show ¬hiL Ls x≠[] from fun q=>q hp)).symm,(below_nc (u.trans s5.bl) (B:=D3) (by omega) Lr (put_grown _ D3 (.deferred none)) (fun r e=>by cases e;exact Nat.le_refl _))⟩
 rintro D3 c3 pre3 v3s m3 hz3 hp3 d3 nD3 hi3 hD3;obtain ⟨rfl,hp,hmb,r1⟩:=hi3;have u:=u.trans (d3.below (n0:=W.heap.size) (by omega) (fun k q=>by obtain rfl:k=b1:=q;omega));have zv3:=r1.lt;have hKD3:=hD3;refine cx_ret<|xg_block_ret<|xg_seq_ret ?_
 exact xg_ret [D3] ⟨hKD3,trivial⟩ (res_cell rfl rfl (row_nc r1 (put_grown _ D3 (.deferred none)) (put_nc hKD3)) (by kernel_rfl)) ⟨_,rfl,congrArg Value.bool (decide_eq_true (show hiL Ls x≠[] from fun q=>hp (List.prefix_nil.1 (q▸(show pre3 <+: hiL Ls x from hp3))))).symm,(below_nc u (B:=D3) (by omega) Lr (put_grown _ D3 (.deferred none)) (fun r e=>by cases e;exact Nat.le_refl _))⟩
theorem resolve_any [Lo] {B:Nat} (h:RwNd W B s Ls) (x:Int) (hB:B<=W.heap.size) (rg:Tb W):Calls prog 135 #[s.v,nv x] W fun e W'=>∃ v,e=.returned v/\∃ r:SlV,v=r.v/\SlN W' W'.heap.size r (resL (trAs Ls) x)/\Bw W W':=by
 have h:=h.more hB;have hlt:=rg.lt;refine calls_cx (n:=38) func135 rfl ntmps135 (by simp) (fun _ q=>by simp at q) ?_;show CX none [] _ _ _ [(0,s.v),(1,nv x)] _ _;have u:=Br W;refine cx_seq<|Qq<|lg_boxs rfl Wn rfl rfl rfl (by decide) fun b1 w1 n1=>?_
 have ⟨r1,k1,z1,lt1⟩:=n1.f;refine ZA ?_;refine Qk<|Nxx [1,2,4] ?_
 refine cx_seq<|cx_seq<|Qq<|Zv s.v r1 ?_
 have h:=h.below (Bm n1.below);by_cases c2:trIs Ls
 ·refine Zd (sane_any (h.mW w1) Lr) ?_;rintro u3 w3 ⟨e3,hw3⟩;have zw3:=hw3.size;obtain rfl:u3=.bool true:=e3.trans (congrArg Value.bool (decide_eq_true c2));refine Xa 1 ?_;refine Qk<|Nxx [1,2,4,11] ?_
  refine cx_cf rfl<|cx_skip<|Nxx [1,2,4] ?_
  refine cx_seq<|Qq<|lg_allocs (u:=nilS.v) (by kernel_rfl) rfl Wn rfl rfl (by decide) fun b4 w4 n4=>?_
  have ⟨r4,k4,z4,lt4⟩:=n4.f;refine Qk<|Nxx [1,2,4,5] ?_
  refine cx_seq<|cx_seq<|Qq ?_
  have r1:=n4.keep (Rb hw3 r1);refine Zv s.v r1 ?_;refine ZM ?_;have h:=(h.below (Bm hw3)).below (Bm n4.below);refine Zd (high_any s x _ h) ?_;rintro _ w5 ⟨bx5,bt5,rfl,x5,y5,i5,j5,hw5⟩;have zw5:=hw5.size;have lx5:=x5.lt;have ly5:=y5.lt;refine Qk<|Nxx [2,4,5,14] ?_
  refine cx_block ?_;obtain ⟨bs,hbs⟩:∃ q,q=w5.heap.size:=⟨_,rfl⟩;have hti:trIs Ls:=c2;have h:=h.below (Bm hw5);have u:=Un (Un (Un (Un u n1.below) hw3) n4.below) hw5;have r4:=Rb hw5 r4;have rg:=(rg.up n1.below).up hw3;have rg:=(rg.up n4.below).up hw5;have r1:=Rb hw5 r1;refine cx_told1 (enc:=(fun k:Int=>nv k)) (d':=6) (m0:=mine b4 nilS.v) (by kernel_rfl) rfl (high_tells hlt 7 x bx5 bt5 _ (fun h=>by have:=(kids h).2.1;omega) (by omega) h rg x5 y5) (fun k q=>by obtain rfl:k=b4:=mine_nil q;exact ⟨fun z=>by rcases z with z | z | z<;>omega,by omega⟩) (fun k hk z=>by rcases z with z | rfl | rfl<;>omega) (by decide) 
   (fun pre m X=>∃ r:SlV,m=mine b4 r.v/\RowAt X b4 36 #[r.v]/\X.ownsRow bs 3 1 r.v (resOf Ls pre).length ((resOf Ls pre).map (Value.int .i64)))
   (fun c pre m X=>False)
   (fun s m X Y hX ⟨r,hm,r5,g0⟩ k=>⟨r,hm,k.row (.inl (by rw [hm];exact .inl rfl)) r5,own_kept g0 k fun q e=>.inl (by rw [hm];exact .inr e)⟩)
   (fun c s m X Y hX h k=>h)
   ⟨nilS,rfl,r4,own_nilN _ _⟩
   (fun l x W=>as_take rfl rfl rfl rfl (by decide) rfl l W)
   ?_ ?_ ?_
  ·rintro l6 pre6 k6 v6 m6 d6 hi6 hp6;obtain ⟨r,rfl,r4,g0⟩:=hi6;obtain ⟨hk,hkk,rl⟩:=told_at hti hp6;have lek:=hk.le;have h:=h.below (d6.below (n0:=W.heap.size) (by omega) (fun k q=>by obtain rfl:k=b4:=mine_nil q;omega));have r1:=d6.kept.row (fun q=>by have:=mine_nil q;omega) r1;have hr:=Did.refl d6.lt;have zv6:=d6.kept.size;have q1:=h.len;have q2:=h.cap;have lw6:=r4.lt;refine cx_block<|cx_seq<|Qq<|Zv r.v r4 ?_
   refine ZM ?_;refine lg_bslice (el:=3) (z:=nv 0) (cs:=#[nv k6]) huIs (by kernel_rfl) (by decide) (by decide) rfl rfl (by kernel_rfl) rfl rfl (by decide) fun b7 w7 n7=>?_;have ⟨r7,k7,z7,_⟩:=n7.f;have m7:SlN w7 (b7+1) ⟨some ⟨b7,0,none⟩,1,1⟩ [k6]:=new_SlN (xs:=[k6]) r7 rfl (of_decide_eq_true (by kernel_rfl));have og7:w7.ownsRow b7 3 1 (.slice (some ⟨b7,0,none⟩) 1 1) ([k6]:List Int).length (([k6]:List Int).map (Value.int .i64)):=new_ownN (xs:=[k6]) n7 rfl (of_decide_eq_true (by kernel_rfl));have g0:=own_below g0 n7.below;refine lg_appM (b:=b4) g0 r7 (by omega) (by omega) (by omega) Wn rfl rfl rfl rfl rfl (by decide) fun r8 w8 m8 g8 l8 j8=>?_;have z8:=l8.size;have r4:=RowAt.below l8 (by omega) (n7.keep r4);have o9:=r4;refine lg_sts r4 rfl rfl (by kernel_rfl) Wn rfl rfl rfl rfl fun w9 s9=>?_;have ⟨r4,z9⟩:=s9.f;refine Qk<|Nxx [2,4,5,6] ?_
   refine cx_seq<|Qq ?_
   have r1:=s9.kp (RowAt.below l8 (by omega) (n7.keep r1));refine Zv s.v r1 ?_;refine ZM ?_;have h:=((h.below (Bm n7.below)).below (Bm l8)).below s9.bl;obtain ⟨eb10,eo10,el10,eL10,eA10,eB10,eg10,eh10,ec10⟩:=h.at (k6.toNat) (by have:=h.len;omega);refine Za (Yy s 81 8 k6.toNat k6 eA10 (by omega) (by have:=h.len;omega) rfl rfl rfl) ?_;refine Zy 5 ?_;refine Zy 2 ?_;refine Za (y_celld (ec10 7 _ rfl)) ?_;refine Za (y_lenM (el:=3) eh10.inner.unm.len) ?_;refine ZM ?_;refine Qk<|Nxx [4,5,25,26,27] ?_
   refine cx_block ?_;have hun:=unm_small hti k6.toNat;rw [atN_some eg10] at hun;have g8:=own_set g8 s9 o9 (by omega);have hr:=(hr.call n7.below).trans j8;have hr:=hr.trans (Did.set s9 o9 (.inl rfl) hr.lt);refine cx_loopE (fun t a v=>∃ (qr:SlV),Holds 38 [(5,pv b4 0),(25,el10.inner.unm.v),(26,nv (eL10.inner.unm.length:Int)),(27,nv ((t:Nat):Int))] a/\RwNd v W.heap.size s Ls/\RowAt v b4 36 #[qr.v]/\v.ownsRow bs 3 1 qr.v ((resOf Ls pre6++[k6]++(eL10.inner.unm.take t).map (2*·))).length (((resOf Ls pre6++[k6]++(eL10.inner.unm.take t).map (2*·))).map (Value.int .i64))/\Did (mine b4 r.v) (mine b4 qr.v) v6 v/\SlN v W.heap.size el10.inner.unm eL10.inner.unm/\t<=eL10.inner.unm.length) (eL10.inner.unm.length+1) (fun a ha=>⟨r8,ha.keep kz,h,r4,(own_castN g8 (by simp)),hr,(eh10.inner.unm.more (by omega)),(Nat.zero_le _)⟩) ?_;rintro t a v ht ⟨qr,ha,h,r4,g0,hr,hu,htl⟩;refine cx_at ha ?_;clear ha a;have l_r4:=r4.lt;have zv:=hr.kept.size;have zb:=r4.lt;refine cx_seq<|Qq ?_
   refine Zi yi_lss (fun c11=>?_) fun c11=>?_
   ·refine Qk<|Nxx [5,25,26,27,28] ?_
    refine cx_seq<|cx_ct rfl<|cx_skip<|Nxx [5,25,26,27] ?_
    refine cx_seq<|cx_block<|cx_seq ?_
    have htlt:t<eL10.inner.unm.length:=by omega
    have hub:=hun.1 _ (getD_mem htlt);refine Qq<|Za (y_ixT (i:=t) (iI:=((t:Nat):Int)) hu (by omega) (by omega) rfl rfl rfl) ?_
    refine Za (y_ldT (i:=t) hu (by omega) rfl rfl) ?_;refine ZA ?_;refine Qk<|Nxx [5,25,26,27,8] ?_
    refine Qq<|Zv qr.v r4 ?_
    refine ZM ?_;refine Za (yi_mul rfl rfl rfl (by omega) (by omega)) ?_;refine lg_bslice (el:=3) (z:=nv 0) (cs:=#[nv (2*(eL10.inner.unm.getD t 0))]) huIs (by kernel_rfl) (by decide) (by decide) rfl rfl (by kernel_rfl) rfl rfl (by decide) fun b12 w12 n12=>?_;have ⟨r12,k12,z12,_⟩:=n12.f;have m12:SlN w12 (b12+1) ⟨some ⟨b12,0,none⟩,1,1⟩ [(2*(eL10.inner.unm.getD t 0))]:=new_SlN (xs:=[(2*(eL10.inner.unm.getD t 0))]) r12 rfl (of_decide_eq_true (by kernel_rfl));have og12:w12.ownsRow b12 3 1 (.slice (some ⟨b12,0,none⟩) 1 1) ([(2*(eL10.inner.unm.getD t 0))]:List Int).length (([(2*(eL10.inner.unm.getD t 0))]:List Int).map (Value.int .i64)):=new_ownN (xs:=[(2*(eL10.inner.unm.getD t 0))]) n12 rfl (of_decide_eq_true (by kernel_rfl));have g0:=own_below g0 n12.below;refine lg_appM (b:=b4) g0 r12 (by simp only [List.length_append,List.length_cons,List.length_nil,List.length_map,List.length_take];omega) (by omega) (by omega) Wn rfl rfl rfl rfl rfl (by decide) fun r13 w13 m13 g13 l13 j13=>?_;have z13:=l13.size;have r4:=RowAt.below l13 (by omega) (n12.keep r4);have o14:=r4;refine lg_sts r4 rfl rfl (by kernel_rfl) Wn rfl rfl rfl rfl fun w14 s14=>?_;have ⟨r4,z14⟩:=s14.f;refine Qk<|Qs<|Nxx [5,25,26,27] ?_
    refine Qq<|Za Yj ?_
    refine ZM ?_;refine Qk ?_;have g13:=own_set g13 s14 o14 (by omega);have h:=((h.below (Bm n12.below)).below (Bm l13)).below s14.bl;have hr:=(hr.call n12.below).trans j13;have hr:=hr.trans (Did.set s14 o14 (.inl rfl) hr.lt);have hu:=((hu.below (Bm n12.below)).below (Bm l13)).below s14.bl;exact fun a ha=>(show t<(eL10.inner.unm.length+1)/\_ from ⟨(by omega),a,rfl,r13,ha.keep kz,h,r4,(own_castN g13 (by rw [take_succ_getD _ _ (by omega),List.map_append,List.append_assoc];rfl)),hr,hu,(by omega)⟩)
   refine Qk<|Nxx [5,25,26,27,28] ?_
   refine cx_seq<|cx_cf rfl<|cx_exit<|xg_seq_exit<|xg_seq_exit<|xg_block_exit<|Qs ?_
   obtain rfl:t=eL10.inner.unm.length:=by omega
   exact fun a ha=>⟨_,hr,_,rfl,r4,own_castN g0 (by rw [resOf_snoc,nodeR,atN_some eg10,List.take_length,List.append_assoc];rfl)⟩
  ·rintro D6 v6d m6 hz6 d6 nD6 hi6 hD6;obtain ⟨r,rfl,r4,g0⟩:=hi6;have u:=u.trans (d6.below (n0:=W.heap.size) (by omega) (fun k q=>by obtain rfl:k=b4:=mine_nil q;omega));have zv6:=d6.kept.size;have hKD6:=hD6;refine Qs<|Nxx [4,5] ?_
   refine cx_seq<|Qq<|Zv r.v r4 ?_
   refine ZA ?_;refine Qk<|Nxx [4] ?_
   refine cx_ret ?_;exact xg_ret [D6] ⟨hKD6,trivial⟩ (res_tmp rfl rfl) ⟨_,rfl,r,rfl,(by rw [trAs_ok hti];exact own_num (owns_nc g0 (put_grown _ D6 (.deferred none)) (put_nc hKD6))),(below_nc u (B:=D6) (by omega) Lr (put_grown _ D6 (.deferred none)) (fun r e=>by cases e;exact Nat.le_refl _))⟩
  rintro D6 c6 pre6 v6s m6 hz6 hp6 d6 nD6 hi6 hD6;exact hi6.elim
 refine Zd (sane_any (h.mW w1) Lr) ?_;rintro u15 w15 ⟨e15,hw15⟩;have zw15:=hw15.size;obtain rfl:u15=.bool false:=e15.trans (congrArg Value.bool (decide_eq_false c2));refine Xa 1 ?_;refine Qk<|Nxx [1,2,4,11] ?_
 refine cx_ct rfl<|cx_seq<|Qq<|ZA ?_
 refine Qk<|Nxx [1,2,4] ?_
 refine cx_ret<|xg_seq_ret ?_
 have u:=Un (Un u n1.below) hw15;exact xg_ret [] trivial (res_tmp rfl rfl) ⟨_,rfl,nilS,rfl,(by rw [trAs_no c2,res_nil];exact SlN.nil _ _),u⟩
end Go.Proofs.YtjjdcnkbibkmkaaGreatDoor
