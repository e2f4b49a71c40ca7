/-
  KitO: OcMath, OcMore, OcWk, OcProg, OcGet, OcFact.
-/
import Derived.Test.YtjjdcnkbibkmkaaGreatDoorKitC
namespace Go.Proofs.YtjjdcnkbibkmkaaGreatDoor
open Go.Proofs.Tryz
open Go.ChangeShapes Go.WideShapes Go.ChangeAt Go.RowKit
set_option linter.unusedVariables false
variable {B:Nat} {Ls:List Nd} {W:World} {s:SlV} {xs:List Int}

/- OcMath:
  Trees as octets: what the document says.
-/
def ahead (x:Int):List Int->Nat
 | []=>0
 | d::ds=>if d=x then 0 else ahead x ds+1
theorem ahead_le (x:Int):∀ ds:List Int,ahead x ds<=ds.length
 | []=>Nat.le_refl _
 | d::ds=>by
  have:=ahead_le x ds;simp only [ahead,List.length_cons];split<;>omega
theorem ahead_no {x:Int}:∀ {ds:List Int} {j:Nat},j<ahead x ds->ds.getD j 0≠x
 | [],j,h=>absurd h (Nat.not_lt_zero _)
 | d::ds,j,h=>by
  unfold ahead at h;split at h
  ·omega
  match j with
  | 0=>simpa using ‹¬d=x›
  | j+1=>simpa using ahead_no (ds:=ds) (j:=j) (by omega)
theorem ahead_at {x:Int}:∀ {ds:List Int},ahead x ds<ds.length->ds.getD (ahead x ds) 0=x
 | [],h=>absurd h (Nat.not_lt_zero _)
 | d::ds,h=>by
  unfold ahead at h ⊢;split
  ·simpa using ‹d=x›
  rw [if_neg ‹¬d=x›] at h;simpa using ahead_at (ds:=ds) (by simpa using h)
theorem ahead_is {x:Int} {ds:List Int} {k:Nat} (h:k<=ahead x ds) (e:ds.getD k 0=x) (hk:k<ds.length):ahead x ds=k:=by
 by_cases c:k<ahead x ds
 ·exact absurd e (ahead_no c)
 omega
theorem ahead_next {x:Int} {ds:List Int} {k:Nat} (h:k<=ahead x ds) (e:¬ds.getD k 0=x) (hk:k<ds.length):k<ahead x ds:=by
 by_cases c:k<ahead x ds
 ·exact c
 have e2:ahead x ds=k:=by omega
 exact absurd (by rw [<-e2];exact ahead_at (by omega)) e
def badN (t:List Nd) (i d:Int):Prop:=(atN t d.toNat).kind=2/\¬i∈(atN t d.toNat).inner.unm
instance (t:List Nd) (i d:Int):Decidable (badN t i d):=by unfold badN;infer_instance
def nmP (t:List Nd) (i x:Int):Prop:=undI (2*i) x (t.length:Int)/\¬(atN t (2*i).toNat).kind=0/\∀ j,j<ahead x (dirI (2*i) (t.length:Int))->¬badN t i ((dirI (2*i) (t.length:Int)).getD j 0)
instance (t:List Nd) (i x:Int):Decidable (nmP t i x):=by unfold nmP;infer_instance
def namedL (t:List Nd):Prop:=∀ x,x<t.length->∀ k,k<(atN t x).inner.unm.length->nmP t ((atN t x).inner.unm.getD k 0) (x:Int)
instance (t:List Nd):Decidable (namedL t):=by unfold namedL;infer_instance
theorem pnT_range {p:Pn} (h:pnCheck p=0):∀ i∈p.unm,0<=i/\i<64:=by
 intro i hi;unfold pnCheck at h;split at h
 ·exact absurd h (by decide)
 split at h
 ·exact absurd h (by decide)
 split at h
 ·exact absurd h (by decide)
 rename_i n
 by_cases q:0<=i/\i<64
 ·exact q
 exact absurd ⟨i,hi,by omega⟩ n
theorem unmT_ok {t:List Nd} (h:trIs t) (x:Nat):(∀ i∈(atN t x).inner.unm,0<=i/\i<64)/\(atN t x).inner.unm.length<=64/\(0<(atN t x).inner.unm.length->x % 2=1):=by
 have ok:=trIs_ok h x;rcases nd_cases ok.1 with e | ⟨_,e,_⟩ | ⟨k,_,e⟩
 ·rw [e];exact ⟨fun i q=>absurd q (by simp),by simp,fun q=>absurd q (by simp)⟩
 ·rw [e];exact ⟨fun i q=>absurd q (by simp),by simp,fun q=>absurd q (by simp)⟩
 exact ⟨pnT_range e,(pnCheck_ok e).2.2.2,fun _=>by
  have:=ok.2;unfold fitK at this;omega⟩
theorem unmT_at {t:List Nd} (h:trIs t) {x k:Nat} (hk:k<(atN t x).inner.unm.length):0<=(atN t x).inner.unm.getD k 0/\(atN t x).inner.unm.getD k 0<64:=by
 refine (unmT_ok h x).1 _ ?_;rw [List.getD_eq_getElem?_getD,List.getElem?_eq_getElem hk];exact List.getElem_mem hk
theorem named_nil:namedL []:=fun x h=>absurd h (Nat.not_lt_zero _)
theorem wayO_in {x w:Int} (h:isN x w):∀ d∈dirI x w,isN d w/\d % 2=1:=fin2 (p:=fun x w=>∀ d∈dirI x w,isN d w/\d % 2=1) (by kernel_rfl) h
def putT (t:List Nd):List Int:=t.flatMap ndPut
theorem putT_step {t:List Nd} {k:Nat} (h:k<t.length):putT (t.take (k+1))=putT (t.take k)++ndPut (atN t k):=by
 rw [putT,List.take_succ_eq_append_getElem h,List.flatMap_append,atN_some (List.getElem?_eq_getElem h)];simp [putT]
theorem ndPut_small (L:Nd):(ndPut L).length<=670:=by
 unfold ndPut;have h1:=lfPut_le L.leaf;have h2:=pnPut_le L.inner;have:=widthK1;split
 ·simp only [List.length_append,flagOct_length,numOct_length];omega
 split
 ·simp only [List.length_append,flagOct_length,numOct_length];omega
 simp [flagOct_length]
theorem putT_le:∀ t:List Nd,(putT t).length<=670*t.length
 | []=>Nat.le_refl _
 | n::t=>by
  have h1:=ndPut_small n;have h2:=putT_le t;simp only [putT,List.flatMap_cons,List.length_append,List.length_cons] at h2 ⊢;omega
def numO (t:List Nd):Nat:=(lastA t+1).toNat
theorem numO_le (t:List Nd):numO t<=t.length/\lastA t+1=(numO t:Int):=by
 unfold numO;rcases lastA_is t with h | ⟨j,h,h2,_⟩<;>omega
theorem trAs_lel (t:List Nd):(trAs t).length<=t.length:=by
 by_cases h:trIs t
 ·rw [trAs_ok h];exact Nat.le_refl _
 rw [trAs_no h];exact Nat.zero_le _
theorem take_as (t:List Nd):t.take (numO (trAs t))=(trAs t).take (numO (trAs t)):=by
 by_cases h:trIs t
 ·rw [trAs_ok h]
 rw [trAs_no h];rfl
def opL (t:List Nd):List Int:=bytesOct (putT (t.take (numO t)))

def ocAt (x:Nat) (xs:List Int):Int × Nd × List Int :=
 if x=127 then (10,Nd.zero,[])
 else if ¬(ndGet xs).1=0 then ((ndGet xs).1,Nd.zero,[])
 else if ¬fitK x (ndGet xs).2.1.kind then (7,Nd.zero,[])
 else (0,(ndGet xs).2.1,(ndGet xs).2.2)
def ocT:Nat->Nat->List Int->List (Nd × Int)
 | 0,_,_=>[]
 | f+1,x,xs=>if xs.length=0 then [] else ((ocAt x xs).2.1,(ocAt x xs).1)::(if (ocAt x xs).1=0 then ocT f (x+1) (ocAt x xs).2.2 else [])
def errO:List (Nd × Int)->Int
 | []=>0
 | p::l=>if p.2=0 then errO l else p.2
theorem errO_ok:∀ {l:List (Nd × Int)},(∀ p∈l,p.2=0)->errO l=0
 | [],_=>rfl
 | p::l,h=>by
  rw [errO,if_pos (h p (by simp))];exact errO_ok fun q hq=>h q (by simp [hq])
theorem errO_last:∀ {l:List (Nd × Int)} {p:Nd × Int},(∀ q∈l,q.2=0)->errO (l++[p])=p.2
 | [],p,_=>by
  show (if p.2=0 then 0 else p.2)=p.2;split
  ·exact ‹p.2=0›.symm
  rfl
 | q::l,p,h=>by
  rw [List.cons_append,errO,if_pos (h q (by simp))];exact errO_last fun r hr=>h r (by simp [hr])
theorem oc_full {xs:List Int}:¬(ocAt 127 xs).1=0:=by
 rw [ocAt,if_pos rfl];decide
structure RunO (own:List Int) (pre:List (Nd × Int)) (left:List Int):Prop where
 le:pre.length<=127
 ok:∀ p∈pre,p.2=0
 run:ocT 128 0 own=pre++ocT (128-pre.length) pre.length left
section
variable {own left:List Int} {pre:List (Nd × Int)}
theorem RunO.start (own:List Int):RunO own [] own:=⟨Nat.zero_le _,fun p h=>absurd h (by simp),rfl⟩
theorem RunO.stop (h:RunO own pre left) (e:left.length=0):ocT 128 0 own=pre:=by
 rw [h.run];obtain ⟨f,hf⟩:∃ f,128-pre.length=f+1:=⟨127-pre.length,by have:=h.le;omega⟩;rw [hf,ocT,if_pos e,List.append_nil]
theorem RunO.more (h:RunO own pre left) (e:¬left.length=0):ocT 128 0 own=pre++((ocAt pre.length left).2.1,(ocAt pre.length left).1)::(if (ocAt pre.length left).1=0 then ocT (127-pre.length) (pre.length+1) (ocAt pre.length left).2.2 else []):=by
 rw [h.run];obtain ⟨f,hf⟩:∃ f,128-pre.length=f+1:=⟨127-pre.length,by have:=h.le;omega⟩;rw [hf,ocT,if_neg e,show f=127-pre.length by omega]
theorem RunO.small (h:RunO own pre left) (e:(ocAt pre.length left).1=0):pre.length<127:=by
 have:=h.le;by_cases c:pre.length=127
 ·rw [c] at e;exact absurd e oc_full
 omega
theorem RunO.next (h:RunO own pre left) (e:¬left.length=0) (ok:(ocAt pre.length left).1=0):RunO own (pre++[((ocAt pre.length left).2.1,0)]) (ocAt pre.length left).2.2:=by
 have hs:=h.small ok;refine ⟨by simp only [List.length_append,List.length_cons,List.length_nil];omega,fun p hp=>?_,?_⟩
 ·rcases List.mem_append.1 hp with q | q
  ·exact h.ok p q
  obtain rfl:p=((ocAt pre.length left).2.1,0):=by simpa using q
  rfl
 rw [h.more e,if_pos ok,ok,List.append_assoc,List.length_append,List.length_cons,List.length_nil,show 128-(pre.length+(0+1))=127-pre.length by omega];rfl
theorem RunO.err (h:RunO own pre left) (e:¬left.length=0) (no:¬(ocAt pre.length left).1=0):ocT 128 0 own=pre++[((ocAt pre.length left).2.1,(ocAt pre.length left).1)]:=by rw [h.more e,if_neg no]
end
def ocN (own:List Int):List Nd:=(ocT 128 0 own).map Prod.fst
theorem ocT_len:∀ (f x:Nat) (xs:List Int),(ocT f x xs).length<=f
 | 0,_,_=>Nat.le_refl _
 | f+1,x,xs=>by
  rw [ocT];split
  ·exact Nat.zero_le _
  have:=ocT_len f (x+1) (ocAt x xs).2.2;simp only [List.length_cons];split<;>simp<;>omega
theorem ocT_pos {own:List Int} (h:¬own.length=0):0<(ocN own).length:=by
 rw [ocN,List.length_map,ocT,if_neg h];simp
def gapO (n:Nat):Nat:=if n<=1 then 1-n else if n<=3 then 3-n else if n<=7 then 7-n else if n<=15 then 15-n else if n<=31 then 31-n else if n<=63 then 63-n else 127-n
theorem gap_is {n k:Nat} (hn:n<=127) (hk:k<=gapO n):isW ((n+k:Nat):Int)↔k=gapO n:=by
 unfold gapO at hk ⊢;unfold isW
 repeat' split
 all_goals (repeat rw [if_neg (by omega)] at hk);all_goals (try rw [if_pos (by omega)] at hk);all_goals omega
theorem gap_le {n:Nat} (hn:n<=127):n+gapO n<=127:=by
 unfold gapO
 repeat' split
 all_goals omega
def widO (t:List Nd):List Nd:=t++List.replicate (gapO t.length) Nd.zero
def ogI (xs:List Int):Int:=if ¬bytesE xs=0 then bytesE xs else if 0<(bytesR xs).length then 2 else if (bytesP xs).length=0 then 5 else 0
def ogP (xs:List Int):List Int:=if ogI xs=0 then bytesP xs else []
def ogE (xs:List Int):Int :=
 if ¬ogI xs=0 then ogI xs
 else if ¬errO (ocT 128 0 (ogP xs))=0 then errO (ocT 128 0 (ogP xs))
 else if (atN (ocN (ogP xs)) ((ocN (ogP xs)).length-1)).kind=0 then 6
 else if ¬namedL (trAs (widO (ocN (ogP xs)))) then 8
 else 0
def ogT (xs:List Int):List Nd:=if ogE xs=0 then widO (ocN (ogP xs)) else []
section
variable {xs:List Int}
theorem ogP_ok (h:ogI xs=0):ogP xs=bytesP xs:=if_pos h
theorem ogI_ok (h:ogI xs=0):bytesE xs=0/\(bytesR xs).length=0/\¬(bytesP xs).length=0:=by
 unfold ogI at h;split at h
 ·contradiction
 split at h
 ·omega
 split at h<;>omega
theorem ogI_pos (h:ogI xs=0):¬(ogP xs).length=0:=by
 rw [ogP_ok h];exact (ogI_ok h).2.2
theorem ogE_in (h:¬ogI xs=0):ogE xs=ogI xs:=if_pos h
theorem ogE_err (h:ogI xs=0) (e:¬errO (ocT 128 0 (ogP xs))=0):ogE xs=errO (ocT 128 0 (ogP xs)):=by rw [ogE,if_neg (not_not_intro h),if_pos e]
theorem ogE_trail (h:ogI xs=0) (e:errO (ocT 128 0 (ogP xs))=0) (k:(atN (ocN (ogP xs)) ((ocN (ogP xs)).length-1)).kind=0):ogE xs=6:=by rw [ogE,if_neg (not_not_intro h),if_neg (not_not_intro e),if_pos k]
theorem ogE_unm (h:ogI xs=0) (e:errO (ocT 128 0 (ogP xs))=0) (k:¬(atN (ocN (ogP xs)) ((ocN (ogP xs)).length-1)).kind=0) (n:¬namedL (trAs (widO (ocN (ogP xs))))):ogE xs=8:=by rw [ogE,if_neg (not_not_intro h),if_neg (not_not_intro e),if_neg k,if_pos n]
theorem ogE_ok (h:ogI xs=0) (e:errO (ocT 128 0 (ogP xs))=0) (k:¬(atN (ocN (ogP xs)) ((ocN (ogP xs)).length-1)).kind=0) (n:namedL (trAs (widO (ocN (ogP xs))))):ogE xs=0:=by rw [ogE,if_neg (not_not_intro h),if_neg (not_not_intro e),if_neg k,if_neg (not_not_intro n)]
theorem ogT_ok (h:ogE xs=0):ogT xs=widO (ocN (ogP xs)):=if_pos h
theorem ogT_no (h:¬ogE xs=0):ogT xs=[]:=if_neg h
theorem ogE_all (h:ogE xs=0):ogI xs=0/\errO (ocT 128 0 (ogP xs))=0/\¬(atN (ocN (ogP xs)) ((ocN (ogP xs)).length-1)).kind=0/\namedL (trAs (widO (ocN (ogP xs)))):=by
 by_cases h1:ogI xs=0
 ·by_cases h2:errO (ocT 128 0 (ogP xs))=0
  ·by_cases h3:(atN (ocN (ogP xs)) ((ocN (ogP xs)).length-1)).kind=0
   ·rw [ogE_trail h1 h2 h3] at h;cases h
   by_cases h4:namedL (trAs (widO (ocN (ogP xs))))
   ·exact ⟨h1,h2,h3,h4⟩
   rw [ogE_unm h1 h2 h3 h4] at h;cases h
  rw [ogE_err h1 h2] at h;exact absurd h h2
 rw [ogE_in h1] at h;exact absurd h h1
end
/- OcMore:
  What is put of trees that grow, who is named in them.
-/
/- OcWk:
  Loops over functions that hand memory on; rows of nodes of one's own whose contents lie in known blocks: rules.
-/
def hand (m:Nat->Prop) (a b:Nat):Nat->Prop:=fun k=>m k\/(a<=k/\k<b)
theorem Did.hand {m:Nat->Prop} {A B:World} (hm:∀ k,m k->k<A.heap.size) (h:Bw A B):Did m (hand m A.heap.size B.heap.size) A B :=
 ⟨Below.kept h,fun k q=>q.imp id fun z=>z.1,fun k q=>q.elim (fun z=>Nat.lt_of_lt_of_le (hm k z) h.size) fun z=>z.2⟩
def TellsG {α:Type} (P:Program) (gf:Nat) (lb:Array Value) (encs:α->Array Value) (ok fin:List α->Prop) (Say:Nat->World->α->Prop) (dep:Nat->Prop) (w0:World):Prop :=
 ∀ (l:Nat) (J Jx:List α->(Nat->Prop)->World->Prop) (W:World) (m0:Nat->Prop),Kept dep w0 W->(∀ k,m0 k->¬dep k/\k<W.heap.size)->Lasts W.heap.size J->Lasts W.heap.size Jx ->
  (∀ pre x W0 W1 m,Did m0 m W W0->J pre m W0->Bw W0 W1->Say W0.heap.size W1 x->ok (pre++[x])->YieldAt Fence.wide 1 P l (encs x) W1 fun e W' =>
   (e=.returned (.bool true)/\∃ m',Did (hand m W0.heap.size W1.heap.size) m' W1 W'/\J (pre++[x]) m' W')\/(e=.returned (.bool false)/\∃ m',Did (hand m W0.heap.size W1.heap.size) m' W1 W'/\Jx (pre++[x]) m' W')) ->
  J [] m0 W ->
  CallsIn Fence.wide 2 P gf (#[.func (.yield l) #[] #[]]++lb) W fun e W'=>(∃ v,e=.returned v)/\∃ m',Did m0 m' W W'/\((∃ xs,fin xs/\J xs m' W')\/∃ pre,Jx pre m' W')
section
variable {P:Program} {Q:Exit->Act->World->Prop} {n:Nat} {E:Env} {w w0:World} {v:Value} {ds:List Deferred}
theorem cx_toldG {α:Type} {g:Operand} {ps:Array Nat} {asg body:Code} {gf:FuncId} {lb:Array Value} {encs:α->Array Value} {ok fin:List α->Prop} {Say:Nat->World->α->Prop} {dep:Nat->Prop} {m0:Nat->Prop} (EX:α->Env) (EA:Nat->α->Env) (tr:TypeId) (cs:α->Array Value)
  (hf : ((P.funcs[gf]?).map fun fn => (fn.name == "runtime.NumGoroutine", fn.body.isNone)) = some (false, false))
  (hg:val E g=some (.func (.func gf) #[] lb)) (hT:TellsG P gf lb encs ok fin Say dep w) (hS:∀ n0 X Y x,Say n0 X x->Kept (fun k=>k<w.heap.size\/n0<=k) X Y->Say n0 Y x) (hps:∀ x,(encs x).size=ps.size) (hm:∀ k,m0 k->¬dep k/\k<w.heap.size) (hdl:∀ k,w.heap.size<=k->¬dep k)
  (hpar:∀ x tmps,Holds n E { tmps,defers:=[] }->Holds n (EX x) { tmps:=(ps.zip (encs x)).foldl (fun t (p,v)=>t.setIfInBounds p v) tmps,defers:=[] })
  (I:List α->(Nat->Prop)->World->Prop) (Ix:Code->List α->(Nat->Prop)->World->Prop) (hI:Lasts w.heap.size I) (hIx:∀ c,Lasts w.heap.size (Ix c)) (h0:I [] m0 w)
  (hassign:∀ l x W,CX (some l) [] P (Exit.then (fun a' W'=>∃ b,W.heap.size<=b/\RowAt W' b tr (cs x)/\Bw W W'/\Holds n (EA b x) a') (fun _ _ _=>False)) n (EX x) asg W)
  (hbody:∀ l pre x b n0 W m,Did m0 (hand m n0 W.heap.size) w W->I pre m W->(∀ k,m k->k<n0)->w.heap.size<=n0->n0<=W.heap.size->RowAt W b tr (cs x)->n0<=b->Say n0 W x->ok (pre++[x])->CX (some l) [] P (toldPost I Ix (pre++[x]) (hand m n0 W.heap.size) W) n (EA b x) body W)
  (hdone:∀ D W m xs,w.heap.size<=D->Did m0 m w W->¬m D->fin xs->I xs m W->W.heap[D]?=some (.deferred (some []))->∀ a,Holds n E a->Q .normal (mkd (mark D::ds) a) W)
  (hstop:∀ D c pre W m,w.heap.size<=D->Did m0 m w W->¬m D->Ix c pre m W->W.heap[D]?=some (.deferred (some []))->CX none (mark D::ds) P Q n E c W) :
  CX none ds P Q n E (.rangeFunc g ps asg body) w:=by
 intro a ha hq;obtain ⟨tmps,dfs⟩:=a;obtain rfl:dfs=[]:=ha.2.1;have hev:(mkd ds { tmps,defers:=[] }).eval g=.func (.func gf) #[] lb:=ha.eval hg;refine wpIn_depth (k:=3) (wpIn_rangeFunc fun fn hfn=>?_)
 -- the two blocks of the loop: where the rounds' deferred calls go, and its record
 obtain ⟨rc,hrc⟩:∃ rc:LoopState->Option Code->Loop,rc=fun st pe=>{ state:=st,pending:=pe,fn,tmps,params:=ps,assign:=asg,body,defers:=w.heap.size }:=⟨_,rfl⟩;obtain ⟨W1,hW1⟩:∃ W1,(w.alloc (.deferred (some []))).alloc (.loop (rc .ready none))=W1:=⟨_,rfl⟩;have hz:W1.heap.size=w.heap.size+2:=by
  rw [<-hW1];simp
 have k01:Kept (fun _=>True) w W1:=by
  rw [<-hW1];exact (Kept.alloc _ _ _).trans (Kept.alloc _ _ _)
 have hL1:W1.heap[w.heap.size+1]?=some (.loop (rc .ready none)):=by
  rw [<-hW1];have:=World.alloc_heap_new (w.alloc (.deferred (some []))) (.loop (rc .ready none));rwa [World.size_alloc] at this
 have hD1:W1.heap[w.heap.size]?=some (.deferred (some [])):=by
  rw [<-hW1];exact (Below.heap_alloc _ _ _ (by simp)).trans (World.alloc_heap_new w _)
 have hent:(Instr.enterLoop fn tmps ps asg body none).run P w=.ok (w.heap.size+1,[mark w.heap.size]) W1:=by
  rw [<-hW1,hrc];exact run_enterLoop_outer _ _ _ _ _
 obtain ⟨l,hl⟩:∃ l,l=w.heap.size+1:=⟨_,rfl⟩;obtain ⟨D,hD⟩:∃ D,D=w.heap.size:=⟨_,rfl⟩;rw [<-hl] at hL1 hent;rw [<-hD] at hD1 hent;have d0:Did m0 m0 w W1:=Did.quiet (fun k q=>(hm k q).2) k01;have out:∀ {m:Nat->Prop} {s:List α} {X Y:World},Did m0 m w X->W1.heap.size<=X.heap.size->Kept (fun k=>also m l k\/k<W1.heap.size) X Y->Did m0 m w Y:=fun {m s X Y} d hX k =>
  ⟨⟨k.os.trans d.kept.os,k.tape.trans d.kept.tape,k.output.trans d.kept.output,Nat.le_trans d.kept.size k.size,fun i hi q=>(k.block i (by omega) (.inr (by omega))).trans (d.kept.block i hi q)⟩,d.new,fun i q=>Nat.lt_of_lt_of_le (d.lt i q) k.size⟩
 have inn:∀ {m:Nat->Prop} {X Y:World},Kept (fun k=>also m l k\/k<W1.heap.size) X Y->Kept (fun k=>m k\/k<w.heap.size) X Y:=fun {m X Y} k=>k.mono fun i _ q=>q.elim (fun q=>.inl (.inl q)) fun q=>.inr (by omega);have put:∀ {m:Nat->Prop} (X:World) (o:Obj),¬m l->Kept (fun k=>m k\/k<w.heap.size) X (X.putObj l o):=fun {m} X o nl=>Kept.putObj X o fun q=>q.elim nl fun q=>by omega
 refine ⟨l,[mark D],W1,{ target:=.fn (.func gf) lb,args:=#[.func (.yield l) #[] #[]] },W1,gf,#[.func (.yield l) #[] #[]]++lb,W1,hent,?_,fun _ _=>trivial,?_,(fun q=>by cases q),?_⟩
 ·simp only [resolve,hev];simp [go_sem]
 ·simp [invoke,go_sem,call_enter hf]
 refine (hT l (fun s m' X=>∃ m,m'=also m l/\Did m0 m w X/\¬m l/\¬m D/\I s m X/\X.heap[l]?=some (.loop (rc .ready none))/\X.heap[D]?=some (.deferred (some [])))
  (fun s m' X=>∃ c m,m'=also m l/\Did m0 m w X/\¬m l/\¬m D/\Ix c s m X/\X.heap[l]?=some (.loop (rc .done (some c)))/\X.heap[D]?=some (.deferred (some [])))
  W1 (also m0 l) (k01.mono fun _ _ _=>trivial) ?_ ?_ ?_ ?_ ⟨m0,rfl,d0,fun q=>?_,fun q=>?_,hI _ _ _ _ Lr h0 (k01.mono fun _ _ _=>trivial),hL1,hD1⟩).mono ?_
 ·rintro k (q | rfl)
  ·exact ⟨(hm k q).1,by have:=(hm k q).2;omega⟩
  exact ⟨hdl k (by omega),by omega⟩
 ·rintro s m' X Y hX ⟨m,rfl,d,nl,nD,hi,h1,h2⟩ k;exact ⟨m,rfl,out (s:=s) d hX k,nl,nD,hI _ _ _ _ (by omega) hi (inn k),(k.block l (by omega) (.inl (.inr rfl))).trans h1,(k.block D (by omega) (.inr (by omega))).trans h2⟩
 ·rintro s m' X Y hX ⟨c,m,rfl,d,nl,nD,hi,h1,h2⟩ k;exact ⟨c,m,rfl,out (s:=s) d hX k,nl,nD,hIx c _ _ _ _ (by omega) hi (inn k),(k.block l (by omega) (.inl (.inr rfl))).trans h1,(k.block D (by omega) (.inr (by omega))).trans h2⟩
 ·-- one round
  rintro pre x A0 A m' hd' ⟨m,rfl,d,nl,nD,hi,h1,h2⟩ bel say hpre;have hlt0:l<A0.heap.size:=(Array.getElem?_eq_some_iff.1 h1).1;have hltD:D<A0.heap.size:=(Array.getElem?_eq_some_iff.1 h2).1;have hzA:=bel.size;have hz0:=hd'.kept.size;have hmA:=d.lt;have hy:=run_yield (P:=P) (args:=encs x) ((bel.block l hlt0).trans h1) (by rw [hrc];exact hps x);rw [hrc] at hy;refine ⟨fn,_,asg,body,hy,roundIn_of_wpIn trivial ?_⟩;have h:=hassign l x A { tmps:=(ps.zip (encs x)).foldl (fun t (p,v)=>t.setIfInBounds p v) tmps,defers:=[] } (hpar x tmps ha) (fun _ _ q=>q);rw [mkd_nil] at h;refine wpIn_mono (wpIn_depth (ro:=some l) h) ?_;rintro e a' A1 q;cases e<;>first | exact q | skip
  obtain ⟨bx,hbx,hrow,hbel,hax⟩:=q;have hzB:=hbel.size;have hlb:=hrow.lt;have bel1:Bw A0 A1:=bel.trans (hbel.mono hzA);have h1:=(bel1.block l hlt0).trans h1;have h2:=(bel1.block D hltD).trans h2;have d:=d.trans (Did.hand d.lt bel1);have hi:=hI _ _ _ _ (by omega) hi (Below.kept bel1);have say:=hS _ _ _ _ say (Below.kept hbel);have nl1:¬hand m A0.heap.size A1.heap.size l:=fun q=>q.elim nl fun z=>by omega
  have nD1:¬hand m A0.heap.size A1.heap.size D:=fun q=>q.elim nD fun z=>by omega
  have dpre:Did (hand (also m l) A0.heap.size A.heap.size) (also (hand m A0.heap.size A1.heap.size) l) A A1:=⟨Below.kept hbel,fun k q=>by
   rcases q with (q | q) | q
   ·exact .inl (.inl (.inl q))
   ·by_cases c:k<A.heap.size
    ·exact .inl (.inr ⟨q.1,c⟩)
    exact .inr (by omega)
   ·exact .inl (.inl (.inr q)),fun k q=>by
   rcases q with (q | q) | q
   ·have:=hmA k q;omega
   ·omega
   omega⟩
  obtain ⟨A2,hA2⟩:∃ A2,A2=A1.putObj l (.loop { rc .ready none with state:=.busy }):=⟨_,rfl⟩;have hb:=run_beginRound (P:=P) h1 (by rw [hrc]);rw [<-hA2] at hb;have hbusy:A2.heap[l]?=some (.loop { rc .ready none with state:=.busy }):=by
   rw [hA2];exact World.putObj_heap_same (by omega)
  have hD2:A2.heap[D]?=some (.deferred (some [])):=by
   rw [hA2];exact (World.putObj_heap_other (by omega)).trans h2
  have hz2:A2.heap.size=A1.heap.size:=by
   rw [hA2];simp
  have d2:Did m0 (hand m A0.heap.size A1.heap.size) w A2:=by
   rw [hA2];exact d.put (by omega) _
  have hi2:I pre m A2:=by
   rw [hA2];exact hI _ _ _ _ (by omega) hi (put A1 _ nl)
  have say2:Say A0.heap.size A2 x:=hS _ _ _ _ say (by rw [hA2];exact Kept.putObj A1 _ fun q=>q.elim (fun q=>by omega) fun q=>by omega);have hrow2:RowAt A2 bx tr (cs x):=by
   rw [hA2];exact (World.putObj_heap_other (show bx≠l by omega)).trans hrow
  refine ⟨A2,hb,?_⟩;have hB:=hbody l pre x bx A0.heap.size A2 m (by rw [hz2];exact d2) hi2 hmA (by omega) (by omega) hrow2 (by omega) say2 hpre a' hax (fun _ _ q=>q);rw [mkd_nil,hz2] at hB;refine wpIn_mono (wpIn_depth (ro:=some l) hB) ?_;have fin:∀ (jump:Option Code) (A3:World) (m2:Nat->Prop),Did (hand m A0.heap.size A1.heap.size) m2 A2 A3 ->
    (Instr.endRound l jump).run P A3=.ok (.bool jump.isNone) (A3.putObj l (.loop (rc (if jump.isNone then .ready else .done) jump))) /\
    (A3.putObj l (.loop (rc (if jump.isNone then .ready else .done) jump))).heap[l]?=some (.loop (rc (if jump.isNone then .ready else .done) jump)) /\
    (A3.putObj l (.loop (rc (if jump.isNone then .ready else .done) jump))).heap[D]?=some (.deferred (some []))/\¬m2 l/\¬m2 D/\w.heap.size<=A3.heap.size:=fun jump A3 m2 d3=>by
   have h3:=(d3.kept.block l (by omega) nl1).trans hbusy;have:=run_endRound (P:=P) jump h3;rw [hrc] at this ⊢;refine ⟨this,World.putObj_heap_same (Array.getElem?_eq_some_iff.1 h3).1,(World.putObj_heap_other (by omega)).trans ((d3.kept.block D (by omega) nD1).trans hD2),fun q=>(d3.new l q).elim nl1 fun q=>by omega,fun q=>(d3.new D q).elim nD1 fun q=>by omega,Nat.le_trans d2.kept.size d3.kept.size⟩
  rintro e a3 A3 hp;cases e with
  | normal =>
   obtain ⟨m2,d3,hi3⟩:=hp;obtain ⟨hr,hl3,hD3,nl3,nD3,hz3⟩:=fin none A3 m2 d3;exact ⟨_,_,hr,.inl ⟨rfl,also m2 l,dpre.trans (Did.also h1 hA2 d3 _),m2,rfl,(d2.trans d3).put (by omega) _,nl3,nD3,hI _ _ _ _ hz3 hi3 (put A3 _ nl3),hl3,hD3⟩⟩
  | ret =>
   obtain ⟨m2,d3,hi3⟩:=hp;obtain ⟨hr,hl3,hD3,nl3,nD3,hz3⟩:=fin (some .ret) A3 m2 d3;exact ⟨_,_,hr,.inr ⟨rfl,also m2 l,dpre.trans (Did.also h1 hA2 d3 _),.ret,m2,rfl,(d2.trans d3).put (by omega) _,nl3,nD3,hIx _ _ _ _ _ hz3 hi3 (put A3 _ nl3),hl3,hD3⟩⟩
  | exit id =>
   obtain ⟨m2,d3,hi3⟩:=hp;obtain ⟨hr,hl3,hD3,nl3,nD3,hz3⟩:=fin (some (.exit id)) A3 m2 d3;exact ⟨_,_,hr,.inr ⟨rfl,also m2 l,dpre.trans (Did.also h1 hA2 d3 _),.exit id,m2,rfl,(d2.trans d3).put (by omega) _,nl3,nD3,hIx _ _ _ _ _ hz3 hi3 (put A3 _ nl3),hl3,hD3⟩⟩
  | goto t =>
   obtain ⟨m2,d3,hi3⟩:=hp;obtain ⟨hr,hl3,hD3,nl3,nD3,hz3⟩:=fin (some (.goto t)) A3 m2 d3;exact ⟨_,_,hr,.inr ⟨rfl,also m2 l,dpre.trans (Did.also h1 hA2 d3 _),.goto t,m2,rfl,(d2.trans d3).put (by omega) _,nl3,nD3,hIx _ _ _ _ _ hz3 hi3 (put A3 _ nl3),hl3,hD3⟩⟩
  | panic ch=>exact hp.elim
  | outgrown=>exact hp.elim
 ·have:=(hm _ q).2;omega
 ·have:=(hm _ q).2;omega
 ·-- behind the function
  rintro e W2 ⟨⟨v,rfl⟩,m',dm,(⟨xs,hfin,m,rfl,d,nl,nD,hi,h1,h2⟩ | ⟨pre,c,m,rfl,d,nl,nD,hi,h1,h2⟩)⟩
  ·have hr:=run_endLoop (P:=P) h1 (by rw [hrc];simp);rw [hrc] at hr;exact ⟨none,_,hr,hdone D _ m xs (by omega) (d.put (by omega) _) nD hfin (hI _ _ _ _ d.kept.size hi (put W2 _ nl)) ((World.putObj_heap_other (by omega)).trans h2) _ ha⟩
  have hr:=run_endLoop (P:=P) h1 (by rw [hrc];simp);rw [hrc] at hr;exact ⟨some c,_,hr,wpIn_depth (hstop D c pre _ m (by omega) (d.put (by omega) _) nD (hIx c _ _ _ _ d.kept.size hi (put W2 _ nl)) ((World.putObj_heap_other (by omega)).trans h2) _ ha hq)⟩
theorem cx_toldG2 {α:Type} {g:Operand} {p q d1 d2:Nat} {asg body:Code} {gf:FuncId} {lb:Array Value} {e1 e2:α->Value} {ok fin:List α->Prop} {Say:Nat->World->α->Prop} {dep:Nat->Prop} {m0:Nat->Prop} (tr:TypeId) (cs:α->Array Value)
  (hf : ((P.funcs[gf]?).map fun fn => (fn.name == "runtime.NumGoroutine", fn.body.isNone)) = some (false, false))
  (hg:val E g=some (.func (.func gf) #[] lb)) (hT:TellsG P gf lb (fun x=>#[e1 x,e2 x]) ok fin Say dep w) (hS:∀ n0 X Y x,Say n0 X x->Kept (fun k=>k<w.heap.size\/n0<=k) X Y->Say n0 Y x) (hm:∀ k,m0 k->¬dep k/\k<w.heap.size) (hdl:∀ k,w.heap.size<=k->¬dep k) (hp:p<n) (hq:q<n)
  (I:List α->(Nat->Prop)->World->Prop) (Ix:Code->List α->(Nat->Prop)->World->Prop) (hI:Lasts w.heap.size I) (hIx:∀ c,Lasts w.heap.size (Ix c)) (h0:I [] m0 w)
  (hassign:∀ l x W,CX (some l) [] P (Exit.then (fun a' W'=>∃ b,W.heap.size<=b/\RowAt W' b tr (cs x)/\Bw W W'/\Holds n ((d2,e2 x)::(d1,pv b 0)::(q,e2 x)::(p,e1 x)::E) a') (fun _ _ _=>False)) n ((q,e2 x)::(p,e1 x)::E) asg W)
  (hbody:∀ l pre x b n0 W m,Did m0 (hand m n0 W.heap.size) w W->I pre m W->(∀ k,m k->k<n0)->w.heap.size<=n0->n0<=W.heap.size->RowAt W b tr (cs x)->n0<=b->Say n0 W x->ok (pre++[x])->CX (some l) [] P (toldPost I Ix (pre++[x]) (hand m n0 W.heap.size) W) n ((d2,e2 x)::(d1,pv b 0)::(q,e2 x)::(p,e1 x)::E) body W)
  (hdone:∀ D W m xs,w.heap.size<=D->Did m0 m w W->¬m D->fin xs->I xs m W->W.heap[D]?=some (.deferred (some []))->∀ a,Holds n E a->Q .normal (mkd (mark D::ds) a) W)
  (hstop:∀ D c pre W m,w.heap.size<=D->Did m0 m w W->¬m D->Ix c pre m W->W.heap[D]?=some (.deferred (some []))->CX none (mark D::ds) P Q n E c W) :
  CX none ds P Q n E (.rangeFunc g #[p,q] asg body) w :=
 cx_toldG (fun x=>(q,e2 x)::(p,e1 x)::E) (fun b x=>(d2,e2 x)::(d1,pv b 0)::(q,e2 x)::(p,e1 x)::E) tr cs hf hg hT hS (fun _=>rfl) hm hdl (fun x tmps ha=>hold_two hp hq ha) I Ix hI hIx h0 hassign hbody hdone hstop
end
theorem own_newb {w w':World} {b base e size k:Nat} {tr:TypeId} {cs:Array Value} {v:Value} {xs:List Value} (n:New w w' b tr cs) (h:w.ownsRow base e size v k xs):∀ q,v.ownBlock=some q->q≠b:=fun q e=>by
 have:=(h.lt q e).2;have:=n.blk;omega
theorem own_setN {w w':World} {b base e size k:Nat} {tr:TypeId} {cs:Array Value} {v:Value} {xs:List Value} (h:w.ownsRow base e size v k xs) (s:Set1 w w' b tr cs) (hn:∀ q,v.ownBlock=some q->q≠b):w'.ownsRow base e size v k xs:=own_kept h s.alt hn
def OwnNx [Lo] (M:Nat->Prop) (w:World) (base:Nat) (v:Value) (Ls:List Nd):Prop:=∃ ps:List NdP,ps.map (·.2)=Ls/\w.ownsRow base 81 8 v ps.length (ndCells ps)/\(∀ p∈ps,IsNd w w.heap.size p.1 p.2/\InNd M p.1)/\(∀ k,M k->k<w.heap.size)/\∀ k,v.ownBlock=some k->¬M k
section
variable {w w':World} {base b:Nat} {s:SlV} {v u:Value} {l:NdV} {L:Nd} {Ls Ms:List Nd} {M M' m:Nat->Prop}
theorem OwnNx.nil [Lo] (w:World) (base:Nat):OwnNx (fun _=>False) w base nilS.v []:=⟨[],rfl,⟨rfl,.inl ⟨rfl,rfl⟩⟩,fun p hp=>absurd hp (by simp),fun _ q=>q.elim,fun _ _ q=>q⟩
theorem OwnNx.cast [Lo] (h:OwnNx M w base v Ls) (e:Ls=Ms):OwnNx M w base v Ms:=e▸h
theorem OwnNx.mono [Lo] (h:OwnNx M w base v Ls) (f:∀ k,M k->M' k) (hs:∀ k,M' k->k<w.heap.size) (hn:∀ k,v.ownBlock=some k->¬M' k):OwnNx M' w base v Ls:=by
 obtain ⟨ps,e,ho,hp,_,_⟩:=h;exact ⟨ps,e,ho,fun p q=>⟨(hp p q).1,(hp p q).2.mono f⟩,hs,hn⟩
theorem OwnNx.lt [Lo] (h:OwnNx M w base v Ls):∀ k,M k->k<w.heap.size:=by
 obtain ⟨ps,_,_,_,h,_⟩:=h;exact h
theorem OwnNx.no [Lo] (h:OwnNx M w base v Ls):∀ k,v.ownBlock=some k->¬M k:=by
 obtain ⟨ps,_,_,_,_,h⟩:=h;exact h
theorem OwnNx.kept [Lo] (h:OwnNx M w base v Ls) (g:Kept m w w') (hm:∀ k,M k->m k) (hv:∀ k,v.ownBlock=some k->m k):OwnNx M w' base v Ls:=by
 obtain ⟨ps,e,ho,hp,hs,hn⟩:=h;exact ⟨ps,e,own_kept ho g hv,fun p q=>⟨(hp p q).1.inn (hp p q).2 (g.mono fun i _ z=>hm i z),(hp p q).2⟩,fun k q=>Nat.lt_of_lt_of_le (hs k q) g.size,hn⟩
theorem OwnNx.below [Lo] (h:OwnNx M w base v Ls) (g:Bw w w'):OwnNx M w' base v Ls:=h.kept (m:=fun _=>True) (Below.kept g) (fun _ _=>trivial) fun _ _=>trivial
theorem OwnNx.blk [Lo] (h:OwnNx M w base v Ls) {k:Nat} (e:v.ownBlock=some k):base<=k/\k<w.heap.size:=by
 obtain ⟨ps,_,ho,_⟩:=h;exact ho.lt k e
theorem OwnNx.alt [Lo] (h:OwnNx M w base v Ls) (g:Alt w w' b) (hb:¬M b) (hv:v.ownBlock≠some b):OwnNx M w' base v Ls:=h.kept g (fun k q e=>hb (e▸q)) fun k q e=>hv (e▸q)
theorem OwnNx.row [Lo] (h:OwnNx M w base s.v Ls):RwNd w w.heap.size s Ls:=by
 obtain ⟨ps,e,ho,hp,_⟩:=h;exact OwnNd.rowS (base:=base) ⟨ps,e,ho,fun p q=>(hp p q).1⟩ Lr
theorem append_ndx [Lo] {g:Nat} {tr:TypeId} (h:OwnNx M w base u Ls) (hr:RowAt w g tr (l.cs L)) (hl:IsNd w w.heap.size l L) (hi:InNd M l) (hb:Ls.length<=100000) (hbase:base<=w.heap.size) :
  ∃ (r:SlV) (w':World),(Builtin.append_ #[22,22] 22 #[u,.slice (some ⟨g,0,none⟩) 1 1]).run prog w=.ok r.v w'/\OwnNx M w' base r.v (Ls++[L])/\Kept (fun k=>some k≠u.ownBlock) w w'/\Below base w w'/\∀ k,r.v.ownBlock=some k->u.ownBlock=some k\/w.heap.size<=k:=by
 obtain ⟨i0,hi0,hz0,hz1,hz2⟩:=info_parts infoNd;obtain ⟨ps,rfl,ho,hp,hs,hn⟩:=h;rw [List.length_map] at hb;obtain ⟨v',w',hrun,h1,h2,_,h3⟩:=run_append_own_at (P:=prog) (w:=w) base 22 22 81 i0 _ 8 160 huNd hi0 hz0 hz1 hz2 rfl (by omega) u _ _ ho ⟨g,0,none⟩ 1 1 (ndCells [(l,L)]) rfl (fun j q hj=>by
  rw [Addr.add_lit,Nat.zero_add,cell_of_row w g j _ tr _ hr,<-Array.getElem?_toList];simpa [ndCells,ndc] using hj) (ndCells_one _) (by unfold maxLen;omega) (by omega) hbase
 have hk:Kept (fun k=>some k≠u.ownBlock) w w':=⟨h2.os,h2.tape,h2.output,h2.size,fun k hk q=>h2.block k hk q⟩;obtain ⟨r,rfl⟩:∃ r:SlV,v'=r.v:=by
  rcases h1.2 with ⟨rfl,_⟩ | ⟨g,cap,cur,rfl,_⟩
  ·exact ⟨nilS,rfl⟩
  exact ⟨⟨some ⟨g,0,none⟩,_,cap⟩,rfl⟩
 have hM:∀ k,M k->some k≠u.ownBlock:=fun k q e=>hn k e.symm q;have hnew:∀ k,r.v.ownBlock=some k->u.ownBlock=some k\/w.heap.size<=k:=fun k q=>by
  rcases h3 with e | e
  ·exact .inl (e▸q)
  rw [e] at q;exact .inr (by cases q;exact Nat.le_refl _)
 refine ⟨r,w',hrun,⟨ps++[(l,L)],by simp,?_,fun p q=>?_,fun k q=>Nat.lt_of_lt_of_le (hs k q) hk.size,fun k q z=>?_⟩,hk,(Below.refl _ _).grown h2 hbase (fun k hk=>(ho.lt k hk).1),hnew⟩
 ·rw [ndCells_app,List.length_append];exact h1
 ·rcases List.mem_append.1 q with q | q
  ·exact ⟨(hp p q).1.inn (hp p q).2 (hk.mono fun i _ z=>hM i z),(hp p q).2⟩
  obtain rfl:p=(l,L):=by simpa using q
  exact ⟨hl.inn hi (hk.mono fun i _ z=>hM i z),hi⟩
 rcases hnew k q with e | e
 ·exact hn k e z
 have:=hs k z;omega
end
section
variable {ops:Array Oper} {Q:Exit->Act->World->Prop} {n d:Nat} {E:Env} {o:Oper} {rest:List Oper} {w w':World} {x y:Operand} {base:Nat} {u:Value} {l:NdV} {L:Nd} {Ls:List Nd} {M:Nat->Prop}
theorem lg_appX [Lo] {g:Nat} {tr:TypeId} (hown:OwnNx M w base u Ls) (hr:RowAt w g tr (l.cs L)) (hl:IsNd w w.heap.size l L) (hi:InNd M l) (hb:Ls.length<=100000) (hbase:base<=w.heap.size) (hw:Want ops E o true)
  (ho:o.op=.call { callee:=.builtin .append,args:=#[x,y],argTypes:=#[22,22] }) (hty:o.type=22) (hx:val E x=some u) (hy:val E y=some (.slice (some ⟨g,0,none⟩) 1 1)) (hd:o.dst=some d) (hn:d<n)
  (h:∀ (r:SlV) w',OwnNx M w' base r.v (Ls++[L])->Kept (fun k=>some k≠u.ownBlock) w w'->Below base w w'->(∀ k,r.v.ownBlock=some k->u.ownBlock=some k\/w.heap.size<=k)->LG prog ops Q n ((d,r.v)::E) rest w'):LG prog ops Q n E (o::rest) w:=by
 obtain ⟨r,w',hrun,h1,h2,h3,h4⟩:=append_ndx hown hr hl hi hb hbase;refine lg_do hw (fun n a ha=>?_) hd hn (h r w' h1 h2 h3 h4);simp [execOp,ho,hty,resolve,invoke,builtin,ha.eval hx,ha.eval hy,hrun,Result.andThen]
end
/- OcProg:
  The small functions of package octets.
-/
theorem lvl_even {x:Int} (h:isL x):lvl x=0↔x % 2=0:=fin1 (p:=fun x=>lvl x=0↔x % 2=0) (by kernel_rfl) h
theorem mayStandO_any [Lo] {l:NdV} {L:Nd} {x:Nat} (hl:IsNd W B l L) (hB:B<=W.heap.size) (hx:x<127) (rg:Tb W):Calls prog 231 #[nv (x:Int),.agg (l.cs L)] W fun e W'=>∃ v,e=.returned v/\v=.bool (decide (fitK x L.kind))/\Bw W W':=by
 refine Ze func231 ntmps231 ?_;have u:=Br W;have hl:=hl.more hB;have lv:=lvl_even (x:=(x:Int)) ⟨by omega,by omega⟩;refine Zr<|Zb fun b1 w1 n1=>?_
 have ⟨r1,k1,z1,lt1⟩:=n1.f;refine ZAn [0,3,4] ?_;refine Qd<|ZrM ?_
 have u:=Un u n1.below;refine Za (Qp (level_any ((x:Nat):Int) _ (rg.up u))) ?_;refine Zi yi_eql (fun c2=>?_) fun c2=>?_
 ·refine Znt [3,4,7] ?_;refine Zr<|Zy 0 ?_
  refine Zv (nv L.kind) r1 ?_;refine Zj yi_neq (fun c3=>?_) fun c3=>?_
  ·refine ZAnr [3,4] ?_;refine Qc ?_;exact Qt (dF (by unfold fitK;omega)).symm u
  refine ZAnr [3,4] ?_;refine Qc ?_;exact Qt (dT (by unfold fitK;omega)).symm u
 refine Zn [3,4,7] ?_;refine Zcf [3,4] ?_;refine Zr<|Zy 0 ?_
 refine Zv (nv L.kind) r1 ?_;refine Zj yi_neq (fun c4=>?_) fun c4=>?_
 ·refine ZAnr [4] ?_;exact Qt (dF (by unfold fitK;omega)).symm u
 refine ZAnr [4] ?_;exact Qt (dT (by unfold fitK;omega)).symm u
theorem inside_any (h:Sl W B s xs) (hB:B<=W.heap.size):Calls prog 130 #[s.v] W fun e W'=>∃ v,e=.returned v/\∃ p:SlV,v=.tuple #[p.v,nv (ogI xs)]/\Sl W' B p (ogP xs)/\Bw W W':=by
 refine Ze func130 ntmps130 ?_;have u:=Br W;refine XRn 2 [0,2,3] ?_;refine ZrM ?_;refine Zc (getBytes_S h (by omega)) rfl rfl ?_;rintro _ w1 ⟨p1,r1,rfl,m1,l1,hw1⟩;have zw1:=hw1.size;refine Xn 7 [2,3,4,5,6] ?_;refine Qd<|Qj<|ZrM ?_
 refine Zj yi_neq (fun c2=>?_) fun c2=>?_
 ·refine ZAn [2,3,4,5,6,13] ?_;refine cg_cf rfl<|ZrM ?_
  refine Za (y_lenS (el:=5) l1) ?_;refine Zi yi_gtr (fun c3=>?_) fun c3=>?_
  ·refine ZAnt [2,3,4,17] ?_;refine XRu 2 [4,2,3] ?_;refine Qg<|Qc ?_
   have hI:ogI xs=2:=by rw [ogI,if_neg (not_not_intro c2),if_pos (by have:=c3;omega)]
   have u:=Un u hw1;exact eg_ret_tmp2 rfl rfl rfl ⟨_,rfl,nilS,congrArg (fun q=>Value.tuple #[_,nv q]) hI.symm,(Sl.nil _ _).cast (by rw [ogP,if_neg (by rw [hI];decide)]),u⟩
  refine ZAn [2,3,4,17] ?_;refine cg_cf rfl<|ZrM ?_
  refine Za (y_lenS (el:=5) m1) ?_;refine Zi yi_eql (fun c4=>?_) fun c4=>?_
  ·refine ZAnt [2,3,4,21] ?_;refine XRu 2 [4,2,3] ?_;refine Qg<|Qc ?_
   have hI:ogI xs=5:=by rw [ogI,if_neg (not_not_intro c2),if_neg (by have:=c3;omega),if_pos (by have:=c4;omega)]
   have u:=Un u hw1;exact eg_ret_tmp2 rfl rfl rfl ⟨_,rfl,nilS,congrArg (fun q=>Value.tuple #[_,nv q]) hI.symm,(Sl.nil _ _).cast (by rw [ogP,if_neg (by rw [hI];decide)]),u⟩
  refine ZAn [2,3,4,21] ?_;refine cg_cf rfl<|cg_skip<|Qi<|Nx [2,3,4] ?_
  refine XRu 3 [2,3] ?_;have hI:ogI xs=0:=by rw [ogI,if_neg (not_not_intro c2),if_neg (by have:=c3;omega),if_neg (by have:=c4;omega)]
  exact eg_ret_tmp2 rfl rfl rfl ⟨_,rfl,p1,congrArg (fun q=>Value.tuple #[_,nv q]) hI.symm,m1.cast (ogP_ok hI).symm,Un u hw1⟩
 refine ZAnt [2,3,4,5,6,13] ?_;refine XRu 3 [4,2,3] ?_;refine Qg<|Qc ?_
 have hI:ogI xs=(bytesE xs):=by rw [ogI,if_pos c2]
 have u:=Un u hw1;exact eg_ret_tmp2 rfl rfl rfl ⟨_,rfl,nilS,congrArg (fun q=>Value.tuple #[_,nv q]) hI.symm,(Sl.nil _ _).cast (by rw [ogP,if_neg (by rw [hI];assumption)]),u⟩
theorem atO_any [Lo] {x:Nat} (h:Sl W B s xs) (hB:B<=W.heap.size) (hx:x<=127) (rg:Tb W):Calls prog 191 #[nv (x:Int),s.v] W fun e W'=>∃ v,e=.returned v/\∃ (l:NdV) (r:SlV),v=.tuple #[.agg (l.cs (ocAt x xs).2.1),r.v,nv (ocAt x xs).1]/\IsNd W' W'.heap.size l (ocAt x xs).2.1/\Sl W' B r (ocAt x xs).2.2/\l.fresh W.heap.size/\l.old B/\Bw W W':=by
 refine Ze func191 ntmps191 ?_;have u:=Br W;have seven:¬(7:Int)=0:=by decide
 refine Zr<|lg_allocw (cs:=NdV.zero.cs Nd.zero) Wn rfl (by kernel_rfl) rfl (by decide) fun b1 w1 n1=>?_
 have ⟨r1,k1,z1,lt1⟩:=n1.f;refine Xn 2 [0,1,4,5,6] ?_;refine Qd<|ZrM ?_
 refine Zi yi_eql (fun c2=>?_) fun c2=>?_
 ·refine Znt [0,1,4,5,6,11] ?_;refine Zr<|Za (y_build (cs:=NdV.zero.cs Nd.zero)) ?_
  have o3:=r1;refine Zw r1 fun w3 s3=>?_;have ⟨r1,z3⟩:=s3.f;refine Xu 2 [0,1,4,5,6] ?_;refine Qc ?_;have hst:ocAt x xs=(10,Nd.zero,[]):=by rw [ocAt,if_pos (by omega)]
  refine Qz r1 ?_;rw [hst];exact ⟨_,rfl,NdV.zero,nilS,rfl,((IsNd.zero _ 0).mW w3),(Sl.nil _ _),Fr.nil _,NdV.old_zero _,(Un u n1.below).trans s3.bl⟩
 refine Zn [0,1,4,5,6,11] ?_;refine Zcf [0,1,4,5,6] ?_;refine ZrM ?_;have h:=h.below (Bm n1.below);refine Zc (getN_anyO h (by omega)) rfl rfl ?_;rintro _ w4 ⟨l4,r4,rfl,m4,n4,f4,o4,hw4⟩;have zw4:=hw4.size;refine Xa 4 ?_;refine lg_allocw (cs:=NdV.zero.cs Nd.zero) Wn rfl (by kernel_rfl) rfl (by decide) fun b5 w5 n5=>?_;have ⟨r5,k5,z5,lt5⟩:=n5.f;have o6:=r5;refine Zw r5 fun w6 s6=>?_;have ⟨r5,z6⟩:=s6.f;refine Xn 2 [0,4,5,6,7,8,9] ?_;refine Qd<|ZrM ?_
 refine Zi yi_eql (fun c7=>?_) fun c7=>?_
 ·refine Xa 2 ?_;refine Zt 21 (y_loadA r5) ?_;have m4:=(m4.below (Bm n5.below)).below s6.bl;have u:=(Un (Un (Un u n1.below) hw4) n5.below).trans s6.bl;by_cases c8:fitK x ((ndGet xs).2.1).kind
  ·refine Zct 21 (mayStandO_any (m4.mW w6) Lr (by omega) (rg.up u)) rfl rfl ?_;rintro u9 w9 ⟨e9,hw9⟩;have zw9:=hw9.size;obtain rfl:u9=.bool true:=e9.trans (congrArg Value.bool (decide_eq_true c8));refine Xn 2 [4,5,6,7,8,9,26] ?_;refine Zcf [4,5,6,7,8,9] ?_;refine Qd<|ZrM ?_
   refine Zan (yb (nd_f c7) yi_neq) [4,5,6,7,8,9,28] ?_;refine Zcf [4,5,6,7,8] ?_;refine Zr ?_;have r5:=Rb hw9 r5;refine Za (y_loadA r5) ?_;refine ZM ?_;have r1:=Rb hw9 (s6.kp (n5.keep (Rb hw4 r1)));have o10:=r1;refine Zw r1 fun w10 s10=>?_;have ⟨r1,z10⟩:=s10.f;refine Xu 2 [4,5,6] ?_;have hst:ocAt x xs=(0,(ndGet xs).2.1,(ndGet xs).2.2):=by rw [ocAt,if_neg (by omega),if_neg (not_not_intro c7),if_neg (not_not_intro c8)]
   refine Qz r1 ?_;rw [hst];have m4:=(m4.below (Bm hw9)).setf o10 rfl f4 (by omega) s10;exact ⟨_,rfl,l4,r4,rfl,(m4.mW w10),(((n4.below (Bm n5.below)).set o6 rfl s6).below (Bm hw9)).set o10 rfl s10,Fr.le f4 (by omega),o4,(Un u hw9).trans s10.bl⟩
  refine Zct 21 (mayStandO_any (m4.mW w6) Lr (by omega) (rg.up u)) rfl rfl ?_;rintro u11 w11 ⟨e11,hw11⟩;have zw11:=hw11.size;obtain rfl:u11=.bool false:=e11.trans (congrArg Value.bool (decide_eq_false c8));refine Xt 2 [4,5,6,7,8,9,26] ?_;refine Qe<|Zan (yv rfl y_assign) [4,5,6,7,8,9] ?_
  refine Qd<|ZrM ?_
  refine Zant (yb (nd_t seven) yi_neq) [4,5,6,7,8,9,28] ?_;refine Zr<|Za (y_build (cs:=NdV.zero.cs Nd.zero)) ?_
  refine ZM ?_;have r1:=Rb hw11 (s6.kp (n5.keep (Rb hw4 r1)));have o12:=r1;refine Zw r1 fun w12 s12=>?_;have ⟨r1,z12⟩:=s12.f;refine Xu 2 [4,7,8,5,6] ?_;refine Qc ?_;have hst:ocAt x xs=((7:Int),Nd.zero,[]):=by rw [ocAt,if_neg (by omega),if_neg (not_not_intro c7),if_pos c8]
  refine Qz r1 ?_;rw [hst];exact ⟨_,rfl,NdV.zero,nilS,rfl,((IsNd.zero _ 0).mW w12),(Sl.nil _ _),Fr.nil _,NdV.old_zero _,(Un u hw11).trans s12.bl⟩
 refine Xn 6 [4,5,6,7,8,9,26] ?_;refine Zcf [4,5,6,7,8,9] ?_;refine Qd<|ZrM ?_
 refine Zant (yb (nd_t c7) yi_neq) [4,5,6,7,8,9,28] ?_;refine Zr<|Za (y_build (cs:=NdV.zero.cs Nd.zero)) ?_
 refine ZM ?_;have r1:=s6.kp (n5.keep (Rb hw4 r1));have o13:=r1;refine Zw r1 fun w13 s13=>?_;have ⟨r1,z13⟩:=s13.f;refine Xu 2 [4,7,8,5,6] ?_;refine Qc ?_;have hst:ocAt x xs=((ndGet xs).1,Nd.zero,[]):=by rw [ocAt,if_neg (by omega),if_pos c7]
 refine Qz r1 ?_;rw [hst];exact ⟨_,rfl,NdV.zero,nilS,rfl,((IsNd.zero _ 0).mW w13),(Sl.nil _ _),Fr.nil _,NdV.old_zero _,((Un (Un (Un u n1.below) hw4) n5.below).trans s6.bl).trans s13.bl⟩
theorem named1_any [Lo] (h:RwNd W B s Ls) (i x:Int) (hB:B<=W.heap.size) (hi:0<=i/\i<64) (rg:Tb W):Calls prog 192 #[s.v,nv i,nv x] W fun e W'=>∃ v,e=.returned v/\v=.bool (decide (nmP Ls i x))/\Bw W W':=by
 refine Ze func192 ntmps192 ?_;have u:=Br W;have h:=h.more hB;have q1:=h.len;have q2:=h.cap;refine ZrAn [0,1,2,6] ?_;refine Qd<|ZrM ?_
 refine Za (yi_mul rfl rfl rfl (by omega) (by omega)) ?_;refine Xa 2 ?_;refine Za (y_lenM (el:=81) h.len) ?_;by_cases c1:undI (2*i) x (Ls.length:Int)
 ·have hu:=c1;have hin:=hu.1.le;have hun:=hu.1;refine Zd (under_any (2*i) x (Ls.length:Int) _ (rg.up u)) ?_;rintro u2 w2 ⟨e2,hw2⟩;have zw2:=hw2.size;obtain rfl:u2=.bool true:=e2.trans (congrArg Value.bool (decide_eq_true c1));refine Xa 4 ?_;refine Zt 16 (yi_mul rfl rfl rfl (by omega) (by omega)) ?_;have h:=h.below (Bm hw2);obtain ⟨eb3,eo3,el3,eL3,eA3,eB3,eg3,eh3,ec3⟩:=h.at ((2*i).toNat) (by have:=h.len;omega);refine Zt 16 (Yy s 81 8 ((2*i).toNat) (2*i) eA3 (by omega) (by have:=h.len;omega) rfl rfl rfl) ?_;refine Zx 16 0 ?_;refine Zt 16 (y_celld (ec3 0 _ rfl)) ?_;refine Zp 16 yi_eql (fun c4=>?_) fun c4=>?_
  ·refine Xt 1 [0,1,2,6,24] ?_;refine ZrAr [0,1,2,6] ?_;refine Qc ?_;have u:=Un u hw2;exact Qt (dF (fun q=>q.2.1 (by rw [atN_some eg3];exact c4))).symm u
  refine Xn 1 [0,1,2,6,24] ?_;refine Zcf [0,1,2,6] ?_;refine Qd<|ZrM ?_
  refine Za (yi_mul rfl rfl rfl (by omega) (by omega)) ?_;refine ZM ?_;refine Za (y_lenM (el:=81) h.len) ?_;have u:=Un u hw2;refine Zd (directF (2*i) (Ls.length:Int) _ (rg.up u)) ?_;rintro _ w5 ⟨s5,rfl,m5,f5,hw5⟩;have zw5:=hw5.size;refine Za (y_lenM (el:=3) m5.len) ?_;refine Xn 1 [0,1,2,6,29,30,31] ?_;refine Qj ?_;obtain ⟨C,hC⟩:∃ q,q=w5.heap.size:=⟨_,rfl⟩;have h:=h.below (Bm hw5);have u:=Un u hw5;refine Qr (fun t a v=>Holds 56 [(0,s.v),(1,nv i),(2,nv x),(29,s5.v),(30,nv ((dirI (2*i) (Ls.length:Int)).length:Int)),(31,nv ((t:Nat):Int))] a/\RwNd v W.heap.size s Ls/\SlN v C s5 (dirI (2*i) (Ls.length:Int))/\Bw W v/\C<=v.heap.size/\t<=ahead x (dirI (2*i) (Ls.length:Int))/\(∀ j,j<t->¬badN Ls i ((dirI (2*i) (Ls.length:Int)).getD j 0))) ((dirI (2*i) (Ls.length:Int)).length+1) (fun a ha=>⟨ha.keep kz,h,(m5.more (by omega)),u,(by omega),(Nat.zero_le _),(fun j hj=>absurd hj (by omega))⟩) ?_;rintro t a v ht ⟨ha,h,hd,u,cC,ta,hk⟩;refine cg_at ha ?_;clear ha a;have zv:=u.size;have q1:=h.len;have q2:=h.cap;have qd:=hd.len;have al:=ahead_le x (dirI (2*i) (Ls.length:Int));have dl:=dirL (2*i) (Ls.length:Int);refine Zr ?_;refine Zi yi_lss (fun c6=>?_) fun c6=>?_
  ·refine Zn [0,1,2,29,30,31,32] ?_;refine Qd<|cg_ct rfl<|Zki [0,1,2,29,30,31] ?_
   refine Qd<|Qj<|Qd ?_
   have htn:t<(dirI (2*i) (Ls.length:Int)).length:=by omega
   have hdn:=(wayO_in hun _ (getD_in htn)).1.le;refine Qe<|Za (y_ixT (i:=t) (iI:=((t:Nat):Int)) hd (by omega) (by first | omega | (simp only [List.length_append,List.length_cons,List.length_nil];omega)) rfl rfl rfl) ?_
   refine Za (y_ldT (i:=t) hd (by first | omega | (simp only [List.length_append,List.length_cons,List.length_nil];omega)) rfl rfl) ?_;refine ZAn [0,1,2,29,30,31,8] ?_;refine Qd<|ZrM ?_
   refine ZM ?_;refine Zi yi_eql (fun c7=>?_) fun c7=>?_
   ·refine Znt [0,1,2,29,30,31,8,37] ?_;refine cg_exit<|Qh<|eg_block_other (by decide) ?_
    refine Qh<|Qh<|Ql<|nx (E':=[]) fn ?_
    refine ZrAr [6] ?_;exact Qt (dT ⟨hu,by rw [atN_some eg3];exact c4,fun j hj=>hk j (by rw [(ahead_is ta c7 htn)] at hj;exact hj)⟩).symm u
   refine Zn [0,1,2,29,30,31,8,37] ?_;refine Zcf [0,1,2,29,30,31,8] ?_;refine XR 2 ?_;obtain ⟨eb8,eo8,el8,eL8,eA8,eB8,eg8,eh8,ec8⟩:=h.at (((dirI (2*i) (Ls.length:Int)).getD t 0).toNat) (by have:=h.len;omega);refine Za (Yy s 81 8 (((dirI (2*i) (Ls.length:Int)).getD t 0).toNat) ((dirI (2*i) (Ls.length:Int)).getD t 0) eA8 (by omega) (by have:=h.len;omega) rfl rfl rfl) ?_;refine Zy 0 ?_;refine Za (y_celld (ec8 0 _ rfl)) ?_;refine Zi yi_eql (fun c9=>?_) fun c9=>?_
   ·refine Xa 3 ?_;obtain ⟨eb10,eo10,el10,eL10,eA10,eB10,eg10,eh10,ec10⟩:=h.at (((dirI (2*i) (Ls.length:Int)).getD t 0).toNat) (by have:=h.len;omega);obtain rfl:eL8=eL10:=Option.some.inj (eg8.symm.trans eg10);refine Zt 44 (Yy s 81 8 (((dirI (2*i) (Ls.length:Int)).getD t 0).toNat) ((dirI (2*i) (Ls.length:Int)).getD t 0) eA10 (by omega) (by have:=h.len;omega) rfl rfl rfl) ?_;refine Zx 44 5 ?_;refine Zx 44 2 ?_;refine Zt 44 (y_celld (ec10 7 _ rfl)) ?_;refine Xa 1 ?_;refine Zp 44 (Qp (containsI_any eh10.inner.unm i)) (fun c11=>?_) fun c11=>?_
    ·refine Xc 2 [0,1,2,29,30,31,54] ?_;refine cg_skip<|Qi<|Nx [0,1,2,29,30,31] ?_
     refine Qe<|Za Yj ?_
     refine ZM ?_;refine Qk ?_;have nb:¬badN Ls i ((dirI (2*i) (Ls.length:Int)).getD t 0):=(fun q=>q.2 (by rw [atN_some eg8];exact c11));exact fun a ha=>(show t<((dirI (2*i) (Ls.length:Int)).length+1)/\_ from ⟨(by omega),ha.keep kz,h,hd,u,(by omega),(ahead_next ta c7 htn),(fun j hj=>if q:j<t then hk j q else (show j=t by omega)▸nb)⟩)
    refine Xt 2 [0,1,2,29,30,31,54] ?_;refine ZrAr [0,1,2,29,30,31,6] ?_;refine Qg<|Qc<|Qc<|Qg<|Qc ?_
    exact Qt (dF (fun q=>q.2.2 t (ahead_next ta c7 htn) ⟨by rw [atN_some eg8];exact c9,by rw [atN_some eg8];exact c11⟩)).symm u
   refine Xc 11 [0,1,2,29,30,31,54] ?_;refine cg_skip<|Qi<|Nx [0,1,2,29,30,31] ?_
   refine Qe<|Za Yj ?_
   refine ZM ?_;refine Qk ?_;have nb:¬badN Ls i ((dirI (2*i) (Ls.length:Int)).getD t 0):=(fun q=>c9 (by have z:=q.1;rwa [atN_some eg8] at z));exact fun a ha=>(show t<((dirI (2*i) (Ls.length:Int)).length+1)/\_ from ⟨(by omega),ha.keep kz,h,hd,u,(by omega),(ahead_next ta c7 htn),(fun j hj=>if q:j<t then hk j q else (show j=t by omega)▸nb)⟩)
  refine Zn [0,1,2,29,30,31,32] ?_;refine Qd<|cg_cf rfl<|cg_exit<|Qh<|Qh<|Ql<|nx (E':=[]) fn ?_
  refine ZrAr [6] ?_;exact Qt (dT ⟨hu,by rw [atN_some eg3];exact c4,fun j hj=>hk j (by rw [(show ahead x (dirI (2*i) (Ls.length:Int))=t by omega)] at hj;exact hj)⟩).symm u
 refine Zd (under_any (2*i) x (Ls.length:Int) _ (rg.up u)) ?_;rintro u12 w12 ⟨e12,hw12⟩;have zw12:=hw12.size;obtain rfl:u12=.bool false:=e12.trans (congrArg Value.bool (decide_eq_false c1));refine Xt 10 [0,1,2,6,24] ?_;refine ZrAr [0,1,2,6] ?_;refine Qc ?_;exact Qt (dF (fun q=>c1 q.1)).symm (Un u hw12)
theorem namedO_any [Lo] (h:RwNd W B s Ls) (hB:B<=W.heap.size) (rg:Tb W):Calls prog 133 #[s.v] W fun e W'=>∃ v,e=.returned v/\v=.bool (decide (namedL (trAs Ls)))/\Bw W W':=by
 refine Ze func133 ntmps133 ?_;have u:=Br W;have h:=h.more hB;have q1:=h.len;have q2:=h.cap;refine ZrAn [0,2] ?_;refine Qd<|ZrM ?_
 by_cases c1:trIs Ls
 ·have hti:=c1;have hll:=trIs_le hti;refine Zd (sane_any (h.mW W) Lr) ?_;rintro u2 w2 ⟨e2,hw2⟩;have zw2:=hw2.size;obtain rfl:u2=.bool true:=e2.trans (congrArg Value.bool (decide_eq_true c1));refine Xn 1 [0,2,9] ?_;refine Zcf [0,2] ?_;refine Qd<|ZrM ?_
  have h:=h.below (Bm hw2);refine Za (y_lenM (el:=81) h.len) ?_;refine Xn 1 [0,2,10,11,12] ?_;refine Qj ?_;have u:=Un u hw2;refine Qr (fun t a v=>Holds 32 [(0,s.v),(10,s.v),(11,nv (Ls.length:Int)),(12,nv ((t:Nat):Int))] a/\RwNd v W.heap.size s Ls/\Bw W v/\t<=Ls.length/\(∀ y,y<t->∀ k,k<(atN Ls y).inner.unm.length->nmP Ls ((atN Ls y).inner.unm.getD k 0) (y:Int))) (Ls.length+1) (fun a ha=>⟨ha.keep kz,h,u,(Nat.zero_le _),(fun y hy=>absurd hy (Nat.not_lt_zero _))⟩) ?_;rintro t a v ht ⟨ha,h,u,tle,hx⟩;refine cg_at ha ?_;clear ha a;have zv:=u.size;have q1:=h.len;have q2:=h.cap;refine Zr ?_;refine Zi yi_lss (fun c3=>?_) fun c3=>?_
  ·refine Zn [0,10,11,12,13] ?_;refine Qd<|cg_ct rfl<|Zki [0,10,11,12] ?_
   refine Qd<|Qj<|Qd ?_
   have htn:t<Ls.length:=by omega
   obtain ⟨um,ul,uo⟩:=unmT_ok hti t;obtain ⟨ebz4,eoz4,elz4,eLz4,eAz4,eBz4,egz4,ehz4,ecz4⟩:=h.at (t) (by have:=h.len;omega);have enz4:eLz4=atN Ls (t):=(atN_some egz4).symm;subst enz4;refine Qe<|ZM ?_
   obtain ⟨eb5,eo5,el5,eL5,eA5,eB5,eg5,eh5,ec5⟩:=h.at (t) (by have:=h.len;omega);obtain rfl:(atN Ls t)=eL5:=Option.some.inj (egz4.symm.trans eg5);refine Za (Yx s 81 8 t eA5 (by have:=h.len;omega) rfl rfl rfl) ?_;refine Za (y_loadC (cs:=el5.cs (atN Ls t)) ec5) ?_;refine lg_allocw (cs:=NdV.zero.cs Nd.zero) Wn rfl (by kernel_rfl) rfl (by decide) fun b6 w6 n6=>?_;have ⟨r6,k6,z6,lt6⟩:=n6.f;refine ZA ?_;have o7:=r6;refine Zw r6 fun w7 s7=>?_;have ⟨r6,z7⟩:=s7.f;refine Zn [0,10,11,12,4,3] ?_;refine Zr<|Zy 5 ?_
   refine Zy 2 ?_;refine Zv el5.inner.unm.v r6 ?_;have eh5:=(eh5.below (Bm n6.below)).below s7.bl;refine Za (y_lenM (el:=3) eh5.inner.unm.len) ?_;refine Xn 1 [0,10,11,12,3,19,20,21] ?_;refine Qj ?_;obtain ⟨C,hC⟩:∃ q,q=w7.heap.size:=⟨_,rfl⟩;have h:=(h.below (Bm n6.below)).below s7.bl;have u:=(Un u n6.below).trans s7.bl;refine Qr (fun k a v=>Holds 32 [(0,s.v),(3,nv ((t:Nat):Int)),(10,s.v),(11,nv (Ls.length:Int)),(12,nv ((t:Nat):Int)),(19,el5.inner.unm.v),(20,nv ((atN Ls t).inner.unm.length:Int)),(21,nv ((k:Nat):Int))] a/\RwNd v W.heap.size s Ls/\SlN v C el5.inner.unm (atN Ls t).inner.unm/\Bw W v/\C<=v.heap.size/\k<=(atN Ls t).inner.unm.length/\(∀ j,j<k->nmP Ls ((atN Ls t).inner.unm.getD j 0) (t:Int))) ((atN Ls t).inner.unm.length+1) (fun a ha=>⟨ha.keep kz,h,(eh5.inner.unm.more (by omega)),u,(by omega),(Nat.zero_le _),(fun j hj=>absurd hj (Nat.not_lt_zero _))⟩) ?_;rintro k a v ht ⟨ha,h,hn,u,cC,kle,hy⟩;refine cg_at ha ?_;clear ha a;have zv:=u.size;have q1:=h.len;have q2:=h.cap;have qn:=hn.len;refine Zr ?_;refine Zi yi_lss (fun c8=>?_) fun c8=>?_
   ·refine Zn [0,3,10,11,12,19,20,21,22] ?_;refine Qd<|cg_ct rfl<|Zki [0,3,10,11,12,19,20,21] ?_
    refine Qd<|Qj<|Qd ?_
    have hkn:k<(atN Ls t).inner.unm.length:=by omega
    have hi:=unmT_at hti hkn;refine Qe<|Za (y_ixT (i:=k) (iI:=((k:Nat):Int)) hn (by omega) (by first | omega | (simp only [List.length_append,List.length_cons,List.length_nil];omega)) rfl rfl rfl) ?_
    refine Za (y_ldT (i:=k) hn (by first | omega | (simp only [List.length_append,List.length_cons,List.length_nil];omega)) rfl rfl) ?_;refine ZAn [0,3,10,11,12,19,20,21,6] ?_;refine XR 3 ?_;by_cases c9:nmP Ls (((atN Ls t).inner.unm).getD k 0) ((t:Nat):Int)
    ·refine Zd (named1_any (h.mW v) (((atN Ls t).inner.unm).getD k 0) ((t:Nat):Int) Lr hi (rg.up u)) ?_;rintro u10 w10 ⟨e10,hw10⟩;have zw10:=hw10.size;obtain rfl:u10=.bool true:=e10.trans (congrArg Value.bool (decide_eq_true c9));refine Xn 1 [0,3,10,11,12,19,20,21,29] ?_;refine cg_cf rfl<|cg_skip<|Qi<|Nx [0,3,10,11,12,19,20,21] ?_
     refine Qe<|Za Yj ?_
     refine ZM ?_;refine Qk ?_;exact fun a ha=>(show k<((atN Ls t).inner.unm.length+1)/\_ from ⟨(by omega),ha.keep kz,h.below (Bm hw10),hn.below (Bm hw10),Un u hw10,(by omega),(by omega),(fun j hj=>if q:j<k then hy j q else (show j=k by omega)▸c9)⟩)
    refine Zd (named1_any (h.mW v) (((atN Ls t).inner.unm).getD k 0) ((t:Nat):Int) Lr hi (rg.up u)) ?_;rintro u11 w11 ⟨e11,hw11⟩;have zw11:=hw11.size;obtain rfl:u11=.bool false:=e11.trans (congrArg Value.bool (decide_eq_false c9));refine Xn 1 [0,3,10,11,12,19,20,21,29] ?_;refine cg_ct rfl<|ZrAr [0,3,10,11,12,19,20,21,2] ?_
    refine Qg<|Qc<|Qc<|Qg<|Qg<|Qc<|Qc<|Qg<|Qc ?_
    have u:=Un u hw11;exact Qt (dF (by rw [trAs_ok hti];exact fun q=>c9 (q t htn k hkn))).symm u
   refine Zn [0,3,10,11,12,19,20,21,22] ?_;refine Qd<|cg_cf rfl<|cg_exit<|Qh<|Qh<|Ql<|Qi<|Nx [0,10,11,12] ?_
   refine Qe<|Za Yj ?_
   refine ZM ?_;refine Qk ?_;exact fun a ha=>(show t<(Ls.length+1)/\_ from ⟨(by omega),ha.keep kz,h,u,(by omega),(fun y hy'=>if q:y<t then hx y q else (show y=t by omega)▸fun j hj=>hy j (by omega))⟩)
  refine Zn [0,10,11,12,13] ?_;refine Qd<|cg_cf rfl<|cg_exit<|Qh<|Qh<|Ql<|nx (E':=[]) fn ?_
  refine ZrAr [2] ?_;exact Qt (dT (by rw [trAs_ok hti];exact fun y hy k hk=>hx y (by omega) k hk)).symm u
 refine Zd (sane_any (h.mW W) Lr) ?_;rintro u12 w12 ⟨e12,hw12⟩;have zw12:=hw12.size;obtain rfl:u12=.bool false:=e12.trans (congrArg Value.bool (decide_eq_false c1));refine Xn 1 [0,2,9] ?_;refine cg_ct rfl<|ZrAr [0,2] ?_
 refine Qc ?_;have u:=Un u hw12;exact Qt (dT (by rw [trAs_no c1];exact named_nil)).symm u
theorem putO_any [Lo] (h:RwNd W B s Ls) (hB:B<=W.heap.size):Calls prog 141 #[s.v] W fun e W'=>∃ v,e=.returned v/\PutS W (opL (trAs Ls)) v W':=by
 refine Ze func141 ntmps141 ?_;have u:=Br W;have h:=h.more hB;have q1:=h.len;have q2:=h.cap;obtain ⟨n1,n2⟩:=numO_le (trAs Ls);have n3:=trAs_le Ls;have n4:=trAs_lel Ls;have n5:(Ls.take (numO (trAs Ls))).length=(numO (trAs Ls)):=by rw [List.length_take];omega
 refine ZrAn [0,2] ?_;refine ZrAn [0,2,3] ?_;refine Qd<|ZrM ?_
 refine ZM ?_;refine Zd (last_any (h.mW W) Lr) ?_;rintro _ w1 ⟨rfl,hw1⟩;have zw1:=hw1.size;refine Za (yv (congrArg nv n2) (yi_add rfl rfl rfl (by omega) (by omega))) ?_;have h:=h.below (Bm hw1);have cu2:=RwNd.cast (Ms:=(Ls.take ((numO (trAs Ls))))) (h.cut 0 ((numO (trAs Ls))) s.c (by have q1:=h.len;have q2:=h.cap;omega) (by have q1:=h.len;have q2:=h.cap;omega) (by have q1:=h.len;have q2:=h.cap;omega) (by have q1:=h.len;have q2:=h.cap;omega)) (by rw [List.drop_zero]);refine Za (y_cutR_h (s:=s) ((numO (trAs Ls))) (hi:=(((numO (trAs Ls)):Nat):Int)) (by have q1:=h.len;have q2:=h.cap;omega) (by have q1:=h.len;have q2:=h.cap;omega) rfl rfl rfl) ?_;refine Za (y_lenM (el:=81) cu2.len) ?_;refine Xn 1 [2,3,10,11,12] ?_;refine Qj ?_;obtain ⟨C,hC⟩:∃ q,q=w1.heap.size:=⟨_,rfl⟩;have u:=Un u hw1;refine Qr (fun t a v=>∃ (qr:SlV),Holds 23 [(3,qr.v),(10,(⟨cutR s.A 0 s.c,((numO (trAs Ls)))-0,s.c-0⟩:SlV).v),(11,nv ((Ls.take (numO (trAs Ls))).length:Int)),(12,nv ((t:Nat):Int))] a/\RwNd v W.heap.size (⟨cutR s.A 0 s.c,((numO (trAs Ls)))-0,s.c-0⟩:SlV) (Ls.take (numO (trAs Ls)))/\v.ownsRow C 5 1 qr.v (putT ((Ls.take (numO (trAs Ls))).take t)).length ((putT ((Ls.take (numO (trAs Ls))).take t)).map (Value.int .u8))/\Sl v v.heap.size qr (putT ((Ls.take (numO (trAs Ls))).take t))/\Bw W v/\C<=v.heap.size/\t<=(numO (trAs Ls))/\W.heap.size<=C) ((numO (trAs Ls))+1) (fun a ha=>⟨nilS,ha.keep kz,cu2,⟨rfl,.inl ⟨rfl,rfl⟩⟩,(Sl.nil _ _),u,(by omega),(Nat.zero_le _),(by omega)⟩) ?_;rintro t a v ht ⟨qr,ha,hc,g0,hq,u,cC,tle,cW⟩;refine cg_at ha ?_;clear ha a;have zv:=u.size;have q1:=hc.len;have q2:=hc.cap;have pl:=putT_le ((Ls.take (numO (trAs Ls))).take t);have pt:((Ls.take (numO (trAs Ls))).take t).length<=127:=by rw [List.length_take];omega
 refine Zr ?_;refine Zi yi_lss (fun c3=>?_) fun c3=>?_
 ·refine Zn [3,10,11,12,13] ?_;refine Qd<|cg_ct rfl<|Zki [3,10,11,12] ?_
  refine Qd<|Qj<|Qd ?_
  have htn:t<(Ls.take (numO (trAs Ls))).length:=by omega
  obtain ⟨ebz4,eoz4,elz4,eLz4,eAz4,eBz4,egz4,ehz4,ecz4⟩:=hc.at (t) (by have:=hc.len;omega);have enz4:eLz4=atN (Ls.take (numO (trAs Ls))) (t):=(atN_some egz4).symm;subst enz4;refine Qe ?_;obtain ⟨eb5,eo5,el5,eL5,eA5,eB5,eg5,eh5,ec5⟩:=hc.at (t) (by have:=hc.len;omega);obtain rfl:(atN (Ls.take (numO (trAs Ls))) t)=eL5:=Option.some.inj (egz4.symm.trans eg5);refine Za (Yx (⟨cutR s.A 0 s.c,((numO (trAs Ls)))-0,s.c-0⟩:SlV) 81 8 t eA5 (by have:=hc.len;omega) rfl rfl rfl) ?_;refine Za (y_loadC (cs:=el5.cs (atN (Ls.take (numO (trAs Ls))) t)) ec5) ?_;refine lg_allocw (cs:=NdV.zero.cs Nd.zero) Wn rfl (by kernel_rfl) rfl (by decide) fun b6 w6 n6=>?_;have ⟨r6,k6,z6,lt6⟩:=n6.f;have o7:=r6;refine Zw r6 fun w7 s7=>?_;have ⟨r6,z7⟩:=s7.f;refine Zn [3,10,11,12,5] ?_;refine Qe<|ZM ?_
  refine Za (y_loadA r6) ?_;have eh5:=(eh5.below (Bm n6.below)).below s7.bl;refine Zc (putN_any ((Sl.nil _ 0).mW w7) (eh5.mW w7) Lr (by first | omega | (simp only [List.length_nil];omega))) rfl rfl ?_;rintro _ w8 ⟨r8,rfl,m8,hw8⟩;have zw8:=hw8.size;rw [List.nil_append] at m8;have lp8:=ndPut_le (atN (Ls.take (numO (trAs Ls))) t);have obg0n6:=own_newb n6 g0;have g0:=own_below g0 n6.below;have g0:=own_setN g0 s7 obg0n6;have g0:=own_below g0 hw8;refine lg_appS g0 hq.bytes m8 (by first | omega | (simp only [List.length_append,List.length_nil];omega)) (by omega) Wn rfl rfl rfl rfl rfl (by decide) fun r9 w9 m9 g9 l9 z9=>?_;refine ZA ?_;refine Qk<|Qi<|Nx [10,11,12,3] ?_
  refine Qe<|Za Yj ?_
  refine ZM ?_;refine Qk ?_;have hc:=(((hc.below (Bm n6.below)).below s7.bl).below (Bm hw8)).below (Bm l9);have u:=(Un ((Un u n6.below).trans s7.bl) hw8).trans (Bm l9);exact fun a ha=>(show t<((numO (trAs Ls))+1)/\_ from ⟨(by omega),r9,ha.keep kz,hc,(by rw [putT_step htn];exact g9),(by rw [putT_step htn];exact m9.more (by omega)),u,(by omega),(by omega),cW⟩)
 refine Zn [3,10,11,12,13] ?_;refine Qd<|cg_cf rfl<|cg_exit<|Qh<|Qh<|Ql<|Nx [3] ?_
 refine ZrM ?_;refine Zc (putBytes_S (Sl.nil _ 0) hq (by omega) (by omega) (by first | omega | (simp only [List.length_nil];omega))) rfl rfl ?_;rintro _ w10 ⟨r10,rfl,m10,hw10⟩;have zw10:=hw10.size;rw [List.nil_append] at m10;have lb10:=bytesOct_le (putT ((Ls.take (numO (trAs Ls))).take t));refine ZAnr [2] ?_;have u:=Un u hw10;obtain rfl:t=(numO (trAs Ls)):=by omega
 exact Qa rfl rfl ⟨_,rfl,r10,rfl,(m10.more (by omega)).cast (by rw [opL,<-take_as,List.take_take,Nat.min_self]),u⟩
/- OcGet:
  Octets that are read: what the program answers.
-/
structure OcV where
 l:NdV
 L:Nd
 e:Int
abbrev OcV.say (p:OcV):Nd × Int:=(p.L,p.e)
section
variable {w w':World} {B B' a n0:Nat} {s:SlV} {l:NdV} {L:Nd} {M M':Nat->Prop}
theorem Old.in (h:Old B s) (g:∀ k,k<B->M k):InS M s:=fun h0 p e=>g _ (h h0 p e)
theorem Fr.in (h:Fr a s) (g:∀ k,a<=k->M k):InS M s:=fun _ p e=>g _ (h p e)
theorem InNd.got (ho:l.old B) (hf:l.fresh a):InNd (fun k=>k<B\/a<=k) l :=
 ⟨ho.1.1.in fun _=>.inl,ho.1.2.1.in fun _=>.inl,ho.1.2.2.in fun _=>.inl,ho.2.1.in fun _=>.inl,ho.2.2.in fun _=>.inl,Fr.in hf fun _=>.inr⟩
theorem InS.and (h:InS M s) (g:InS M' s):InS (fun k=>M k/\M' k) s:=fun h0 p e=>⟨h h0 p e,g h0 p e⟩
theorem InNd.and (h:InNd M l) (g:InNd M' l):InNd (fun k=>M k/\M' k) l:=⟨h.enc.and g.enc,h.cred.and g.cred,h.par.and g.par,h.ienc.and g.ienc,h.hash.and g.hash,h.unm.and g.unm⟩
def SayO [Lo] (B:Nat) (n0:Nat) (X:World) (p:OcV):Prop:=IsNd X X.heap.size p.l p.L/\InNd (fun k=>k<B\/n0<=k) p.l
theorem SayO.kept [Lo] {X Y:World} {p:OcV} {c:Nat} (h:SayO B n0 X p) (k:Kept (fun k=>k<c\/n0<=k) X Y) (hB:B<=c):SayO B n0 Y p :=
 ⟨h.1.inn h.2 (k.mono fun i _ z=>z.imp (fun q=>by omega) id),h.2⟩
theorem SayO.inn [Lo] {X:World} {p:OcV} (h:SayO B n0 X p) (g:∀ k,(k<B\/n0<=k/\k<X.heap.size)->M k):InNd M p.l :=
 (h.2.and (InNd.of h.1 fun _ z=>z)).mono fun k q=>g k (q.1.imp id fun z=>⟨z,q.2⟩)
theorem Tb.upB {w w':World} {b:Nat} (h:Tb w) (g:Below b w w') (hb:1<b):Tb w':=by
 obtain ⟨tg,r⟩:=h;exact ⟨tg,RowAt.below g hb r⟩
end
theorem Kept.own {A B C:World} {s q:Value} (h:Kept (fun k=>s.ownBlock≠some k) A B) (e:∀ k,q.ownBlock=some k->s.ownBlock=some k\/A.heap.size<=k) (g:Kept (fun k=>some k≠q.ownBlock) B C):Kept (fun k=>s.ownBlock≠some k) A C :=
 ⟨g.os.trans h.os,g.tape.trans h.tape,g.output.trans h.output,Nat.le_trans h.size g.size,fun k hk hm=>(g.block k (Nat.lt_of_lt_of_le hk h.size) fun z=>(e k z.symm).elim hm fun z=>by omega).trans (h.block k hk hm)⟩
theorem OwnNx.did [Lo] {M m1:Nat->Prop} {w w':World} {base:Nat} {u:Value} {r:SlV} {Ls:List Nd} (h:OwnNx M w' base r.v Ls) (kp:Kept (fun k=>some k≠u.ownBlock) w w') (hu:∀ k,u.ownBlock=some k->m1 k) (hlt:∀ k,m1 k->k<w.heap.size) (e:∀ k,r.v.ownBlock=some k->u.ownBlock=some k\/w.heap.size<=k):Did m1 (fun k=>m1 k\/r.v.ownBlock=some k) w w' :=
 ⟨kp.mono fun k _ q e2=>q (hu k e2.symm),fun k q=>q.elim .inl fun z=>(e k z).imp (hu k) id,fun k q=>q.elim (fun z=>Nat.lt_of_lt_of_le (hlt k z) kp.size) fun z=>(h.blk z).2⟩
theorem res_cell2 {P:Program} {n:Nat} {E:Env} {v1 v2:Value} {fn:Func} {p q:Tmp} {ty uy tr ur:TypeId} {b c:Nat} {w':World} (h:fn.results=#[.cell p ty,.cell q uy]) (hp:look E p=some (pv b 0)) (hq:look E q=some (pv c 0)) (hr:RowAt w' b tr #[v1]) (hu:aggB P ty=some false) (hr2:RowAt w' c ur #[v2]) (hu2:aggB P uy=some false):∀ a,Holds n E a->(results fn a.tmps).run P w'=.ok (.tuple #[v1,v2]) w':=fun a ha=>by
 have h1:=ha.2.2 p _ hp;have h2:=ha.2.2 q _ hq;have c1:w'.cell? ⟨b,0,none⟩=some v1:=by rw [cell_of_row w' b 0 _ tr _ hr];rfl
 have c2:w'.cell? ⟨c,0,none⟩=some v2:=by rw [cell_of_row w' c 0 _ ur _ hr2];rfl
 simp [results,h,h1,h2,asAddr,loadVar,run_isAgg hu,run_isAgg hu2,c1,c2]
theorem errO_app:∀ {l r:List (Nd × Int)},¬errO l=0->errO (l++r)=errO l
 | [],r,h=>absurd rfl h
 | p::l,r,h=>by
  unfold errO at h;rw [List.cons_append,errO,errO];split
  ·rw [if_pos ‹p.2=0›] at h;exact errO_app h
  rfl
theorem errO_told {T:List (Nd × Int)} {l:List (Nd × Int)} {p:Nd × Int} (h:l++[p] <+: T) (ok:∀ q∈l,q.2=0) (no:¬p.2=0):errO T=p.2:=by
 obtain ⟨r,rfl⟩:=h;rw [errO_app (by rw [errO_last ok];exact no),errO_last ok]
theorem oc_le:∀ (f x:Nat) (xs:List Int),x+f=128->x<=127->errO (ocT f x xs)=0->x+(ocT f x xs).length<=127
 | 0,x,xs,h,h2,_=>by omega
 | f+1,x,xs,h,h2,e=>by
  rw [ocT] at e ⊢;split at e
  ·rw [if_pos ‹_›];exact h2
  rw [if_neg ‹_›];rw [errO] at e;split at e
  ·rename_i c
   have c:(ocAt x xs).1=0:=c;rw [if_pos c];have e:errO (ocT f (x+1) (ocAt x xs).2.2)=0:=by
    first | exact e | (rw [if_pos c] at e;exact e)
   have hx:x<127:=by
    by_cases q:x=127
    ·rw [q] at c;exact absurd c oc_full
    omega
   have:=oc_le f (x+1) _ (by omega) (by omega) e;simp only [List.length_cons];omega
  exact absurd e ‹_›
theorem ocN_le {own:List Int} (h:errO (ocT 128 0 own)=0):(ocN own).length<=127:=by
 have:=oc_le 128 0 own rfl (by decide) h;rw [ocN,List.length_map];omega
theorem widened_any [Lo] {M:Nat->Prop} {W:World} {base:Nat} {s:SlV} {Ls:List Nd} (h:OwnNx M W base s.v Ls) (hb:base<=W.heap.size) (hn:Ls.length<=127):Calls prog 132 #[s.v] W fun e W'=>∃ v,e=.returned v/\∃ r:SlV,v=r.v/\OwnNx M W' base r.v (widO Ls)/\Kept (fun k=>s.v.ownBlock≠some k) W W'/\(∀ k,r.v.ownBlock=some k->s.v.ownBlock=some k\/W.heap.size<=k)/\Below base W W':=by
 refine Ze func132 ntmps132 ?_;have u:=Br W;have ub:=Below.refl base W;refine ZrAn [0,2] ?_;refine Qd<|Qj<|Qr (fun t a v=>∃ (qr:SlV),Holds 12 [(0,qr.v)] a/\OwnNx M v base qr.v (Ls++List.replicate t Nd.zero)/\Below base W v/\t<=gapO Ls.length/\Kept (fun k=>s.v.ownBlock≠some k) W v/\(∀ k,qr.v.ownBlock=some k->s.v.ownBlock=some k\/W.heap.size<=k)) (gapO Ls.length+1) (fun a ha=>⟨s,ha.keep kz,(h.cast (List.append_nil _).symm),ub,(Nat.zero_le _),(Kept.refl _ _),(fun k q=>.inl q)⟩) ?_
 rintro t a v ht ⟨qr,ha,g0,ub,tle,kp,ke⟩;refine cg_at ha ?_;clear ha a;have zv:=ub.size;have q1:=g0.row.len;have q2:=g0.row.cap;have hg:=gap_is (n:=Ls.length) (k:=t) hn tle;have hl:(Ls++List.replicate t Nd.zero).length=Ls.length+t:=by rw [List.length_append,List.length_replicate]
 have gl:=gap_le hn;refine Qd<|ZrM ?_
 refine Za (yv (congrArg nv (congrArg Nat.cast hl)) (y_lenM (el:=81) (g0.row).len)) ?_;refine Zi (Qp (wholeL (((Ls.length+t):Nat):Int) _)) (fun c1=>?_) fun c1=>?_
 ·refine Xn 1 [0,6] ?_;refine cg_cf rfl<|cg_exit<|Qh<|Qh<|Ql<|Nx [0] ?_
  refine XRu 2 [2] ?_;obtain rfl:t=gapO Ls.length:=hg.1 c1;exact Qa rfl rfl ⟨_,rfl,qr,rfl,g0,kp,ke,ub⟩
 refine Xn 1 [0,6] ?_;refine cg_ct rfl<|Zki [0] ?_
 refine Qj<|Qe<|ZM ?_
 refine Za (y_build (cs:=NdV.zero.cs Nd.zero)) ?_;refine lg_bs1R (l:=NdV.zero) (L:=Nd.zero) Wn rfl rfl rfl (by decide) fun b2 w2 n2=>?_;have ⟨r2,k2,z2,lt2⟩:=n2.f;have g0:=g0.below n2.below;have ox3:=g0;refine lg_appX ox3 r2 ((IsNd.zero _ 0).mW w2) (InNd.zero _) (by first | omega | (simp only [List.length_append,List.length_cons,List.length_nil,List.length_take,List.length_drop,List.length_set,List.length_replicate,clr_len];omega)) (by omega) Wn rfl rfl rfl rfl rfl (by decide) fun r3 w3 g3 k3 l3 e3=>?_;have z3:=k3.size;refine ZA ?_;refine Qk<|Qi ?_
 have kp1:=Kept.own (kp.trans (Kept.mono (Below.kept n2.below) fun _ _ _=>trivial)) (fun k z=>ke k z) k3;have ub:=(ub.trans (Bm n2.below)).trans l3;exact fun a ha=>(show t<(gapO Ls.length+1)/\_ from ⟨(by omega),r3,ha.keep kz,(g3.cast (by rw [List.append_assoc,<-List.replicate_succ'])),ub,(by have:¬t=gapO Ls.length:=fun q=>c1 (hg.2 q);omega),kp1,(fun k z=>(e3 k z).elim (ke k) fun z=>.inr (by omega))⟩)
theorem nodesO_any {B:Nat} {xs:List Int} (s:SlV) (W:World) (h:Sl W B s xs):Calls prog 131 #[s.v] W fun e W'=>∃ v,e=.returned v/\∃ bx,v=.func (.func 190) #[] #[pv bx 0]/\RowAt W' bx 26 #[s.v]/\W.heap.size<=bx/\Bw W W':=by
 refine Ze func131 ntmps131 ?_;have u:=Br W;refine Zr<|lg_boxs rfl Wn rfl rfl rfl (by decide) fun b1 w1 n1=>?_
 have ⟨r1,k1,z1,lt1⟩:=n1.f;refine ZAn [1,2] ?_;refine Zr<|Za (y_mkf (xs:=[]) (ys:=[.tmp 1])) ?_
 refine ZAnr [2] ?_;exact Qa rfl rfl ⟨_,rfl,b1,rfl,r1,by omega,Un u n1.below⟩
abbrev TG15 [Lo] (B bx:Nat) (own:List Int) (w:World):Prop:=TellsG prog 190 #[pv bx 0] (fun p:OcV=>#[.agg (p.l.cs p.L),nv p.e]) (fun l=>l.map OcV.say <+: ocT 128 0 own) (fun l=>l.map OcV.say=ocT 128 0 own) (SayO B) (fun k=>k<B\/k=bx) w
theorem nodes_tells [Lo] (bx B:Nat) (s:SlV) (own:List Int) (w0:World) (hB0:B<=w0.heap.size) (h00:Sl w0 B s own) (hb0:RowAt w0 bx 26 #[s.v]) (rg0:Tb w0) (hg0:1<B):TG15 B bx own w0:=by
 intro l J Jx W m0 hW hm0 hJa hJxa hY hJ;refine callsIn_wide.2 ?_;have hWB:=hW.below (n0:=B) (fun k hk=>.inl hk) hB0;have hb:=hW.row (.inr rfl) hb0;have h:=h00.below hWB;have rg:=rg0.upB hWB hg0;have lb:=hb.lt;have zW:=hW.size;have hd:Did m0 m0 W W:=Did.refl fun k q=>(hm0 k q).2;have hlow:∀ {m:Nat->Prop} {v:World},Did m0 m W v->∀ k,(k<B\/k=bx)->¬m k:=fun d k hk q=>(d.new k q).elim (fun q=>(hm0 k q).1 hk) fun q=>by
  rcases hk with hk | rfl<;>omega
 have tbD:∀ {m:Nat->Prop} {v:World},Did m0 m W v->Tb v:=fun d=>rg.upB (d.kept.below (n0:=B) (fun k hk q=>(hm0 k q).1 (.inl hk)) (by omega)) hg0;have q1:=h.len;have q2:=h.cap;show Calls _ _ ([.func (.yield l) #[] #[],pv bx 0]:List Value).toArray W _;refine calls_cx (n:=31) func190 rfl ntmps190 (by simp) (fun _ q=>by simp at q) ?_;show CX none [] _ _ _ [(0,.func (.yield l) #[] #[]),(1,pv bx 0)] _ _;refine cx_seq<|Qq<|Zv s.v hb ?_
 refine ZA ?_;refine Qk<|Nxx [0,3] ?_
 refine cx_seq<|Qq<|ZA ?_
 refine Qk<|Nxx [0,3,4] ?_
 refine cx_block<|cx_loopE (fun t a v=>∃ (m:Nat->Prop) (pre:List OcV) (sl:SlV) (left:List Int),Holds 31 [(0,.func (.yield l) #[] #[]),(3,sl.v),(4,nv ((t:Nat):Int))] a/\Did m0 m W v/\J pre m v/\Sl v B sl left/\RunO own (pre.map OcV.say) left/\pre.length=t) 128 (fun a ha=>⟨m0,[],s,own,ha.keep kz,hd,hJ,h,(RunO.start own),rfl⟩) ?_
 rintro t a v ht ⟨m,pre,sl,left,ha,hd,hJ,hl,hr,hpl⟩;refine cx_at ha ?_;clear ha a;have hml:=hlow hd;have rg:=tbD hd;have zv:=hd.kept.size;have q1:=hl.len;have q2:=hl.cap;have htl:t<=127:=by have:=hr.le;rw [List.length_map] at this;omega
 have hsl:(pre.map OcV.say).length=t:=by rw [List.length_map];exact hpl
 have hd0:=hd;have hJ0:=hJ;have u0:=Br v;refine cx_seq<|cx_seq<|Qq<|ZM ?_
 refine Za (y_lenS (el:=5) hl) ?_;refine Zi yi_gtr (fun c1=>?_) fun c1=>?_
 ·refine Qk<|Nxx [0,3,4,11] ?_
  refine cx_ct rfl<|cx_skip<|Nxx [0,3,4] ?_
  refine cx_seq<|cx_block<|cx_seq<|Qq<|ZM ?_
  refine ZM ?_;refine Zc (atO_any hl (by omega) htl rg) rfl rfl ?_;rintro _ w2 ⟨l2,r2,rfl,m2,n2,f2,o2,hw2⟩;have zw2:=hw2.size;refine Xa 4 ?_;refine lg_allocw (cs:=NdV.zero.cs Nd.zero) Wn rfl (by kernel_rfl) rfl (by decide) fun b3 w3 n3=>?_;have ⟨r3,k3,z3,lt3⟩:=n3.f;have o4:=r3;refine Zw r3 fun w4 s4=>?_;have ⟨r3,z4⟩:=s4.f;refine Xa 2 ?_;refine Qk<|Nxx [0,3,4,5,6,7] ?_
  refine cx_seq<|cx_seq ?_
  have hne:¬left.length=0:=by omega
  have hmore:=hr.more hne;rw [hsl] at hmore;have hok:(pre++[(⟨l2,(ocAt t left).2.1,(ocAt t left).1⟩:OcV)]).map OcV.say <+: ocT 128 0 own:=by rw [hmore,List.map_append];exact ⟨_,by rw [List.append_assoc];rfl⟩
  refine cx_regionx ?_;refine lxw Wn (y_move rfl rfl) rfl (by decide) ?_;refine lxw Wn (y_loadA r3 (by kernel_rfl) (by kernel_rfl) rfl rfl) rfl (by decide) ?_;refine lxw Wn (y_move rfl rfl) rfl (by decide) ?_;have u0:=u0.trans (hw2.mono u0.size);have u0:=(u0.trans (n3.below.mono u0.size)).trans s4.bl;have m2:=(m2.below (Bm n3.below)).below s4.bl;refine lx_yields Wn (hY pre ⟨l2,(ocAt t left).2.1,(ocAt t left).1⟩ v w4 m hd0 hJ0 u0 ⟨m2.more (by omega),InNd.got o2 f2⟩ hok) rfl rfl rfl rfl (by decide) ?_ ?_
  ·rintro w5 ⟨m5,j5,g5⟩;have hd:=(hd0.trans (Did.hand hd0.lt u0)).trans j5;have zy5:=j5.kept.size;have zu5:=u0.size;have n2:=((n2.below (Bm n3.below)).set o4 rfl s4).below (j5.kept.below (n0:=B) (fun k hk z=>z.elim (hml k (.inl hk)) fun z=>by omega) (by omega));have hJ:=g5;refine lxw Wn (y_bnot rfl rfl) rfl (by decide) ?_;refine lxw Wn (y_move rfl rfl) rfl (by decide) ?_;refine lxw (want_t (dj:=26) (by rfl) (by kernel_rfl) rfl) (y_move rfl rfl) rfl (by decide) ?_;by_cases c6:(ocAt t left).1=0
   ·refine lxw (want_t (dj:=26) (by rfl) (by kernel_rfl) rfl) (yb (nd_f c6) (yi_neq rfl rfl rfl)) rfl (by decide) ?_;refine lxw Wn (y_pick false rfl rfl rfl) rfl (by decide) ?_;refine lx_nil ?_;refine Nxx [0,3,4,6,29] ?_;refine cx_cf rfl<|cx_skip<|Nxx [0,3,4,6] ?_
    refine Qq<|ZM ?_
    refine ZA ?_;refine Qk<|Qs<|Nxx [0,4,3] ?_
    refine Qq<|ZM ?_
    refine Za Yj ?_;refine ZA ?_;refine Qk ?_;exact fun a ha=>(show t<128/\_ from ⟨(by omega),a,rfl,m5,(pre++[(⟨l2,(ocAt t left).2.1,(ocAt t left).1⟩:OcV)]),r2,(ocAt t left).2.2,ha.keep kz,hd,hJ,n2,(by have z:=hr.next hne (by rw [hsl];exact c6);rw [hsl] at z;rw [List.map_append];rw [show [(⟨l2,(ocAt t left).2.1,(ocAt t left).1⟩:OcV)].map OcV.say=[((ocAt t left).2.1,0)] from by rw [List.map_cons,OcV.say,c6];rfl];exact z),(by rw [List.length_append,hpl];rfl)⟩)
   refine lxw (want_t (dj:=26) (by rfl) (by kernel_rfl) rfl) (yb (nd_t c6) (yi_neq rfl rfl rfl)) rfl (by decide) ?_;refine lxw Wn (y_pick false rfl rfl rfl) rfl (by decide) ?_;refine lx_nil ?_;refine Nxx [0,3,4,6,29] ?_;refine cx_ct rfl<|cx_ret<|xg_seq_ret<|xg_block_ret<|xg_seq_ret<|xg_seq_ret<|xg_block_ret ?_
   obtain ⟨op,dd,kp⟩:=Marks.closed Lr (Marks.nil _ _ _) hd;exact xg_ret [] op (res_none rfl) ⟨⟨_,rfl⟩,m5,dd,.inl ⟨_,(by have z:=hr.err hne (by rw [hsl];exact c6);rw [hsl] at z;show List.map OcV.say (_++[_])=_;rw [List.map_append,z];rfl),hJa _ _ _ _ (by omega) hJ kp⟩⟩
  rintro w5 ⟨m5,j5,g5⟩;have hd:=(hd0.trans (Did.hand hd0.lt u0)).trans j5;have zy5:=j5.kept.size;have zu5:=u0.size;have n2:=((n2.below (Bm n3.below)).set o4 rfl s4).below (j5.kept.below (n0:=B) (fun k hk z=>z.elim (hml k (.inl hk)) fun z=>by omega) (by omega));have hJx:=g5;refine lxw Wn (y_bnot rfl rfl) rfl (by decide) ?_;refine lxw Wn (y_move rfl rfl) rfl (by decide) ?_;refine lxk (want_f (dj:=26) (by rfl) (by kernel_rfl) rfl) rfl (by decide) ?_;refine lxk (want_f (dj:=26) (by rfl) (by kernel_rfl) rfl) rfl (by decide) ?_;refine lxw Wn (y_pick true rfl rfl rfl) rfl (by decide) ?_;refine lx_nil ?_;refine Nxx [0,3,4,6,29] ?_;refine cx_ct rfl<|cx_ret<|xg_seq_ret<|xg_block_ret<|xg_seq_ret<|xg_seq_ret<|xg_block_ret ?_
  obtain ⟨op,dd,kp⟩:=Marks.closed Lr (Marks.nil _ _ _) hd;exact xg_ret [] op (res_none rfl) ⟨⟨_,rfl⟩,m5,dd,.inr ⟨_,hJxa _ _ _ _ (by omega) hJx kp⟩⟩
 refine Qk<|Nxx [0,3,4,11] ?_
 refine cx_cf rfl<|cx_exit<|xg_seq_exit<|xg_seq_exit<|xg_block_exit ?_
 obtain ⟨op,dd,kp⟩:=Marks.closed Lr (Marks.nil _ _ _) hd;exact xg_end [] op (res_none rfl) ⟨⟨_,rfl⟩,m,dd,.inl ⟨_,(hr.stop (by omega)).symm,hJa _ _ _ _ (by omega) hJ kp⟩⟩
def GotI [Lo] (B bs b2 b3 b6:Nat) (pre:List OcV) (m:Nat->Prop) (X:World):Prop:=∃ (r:SlV) (M:Nat->Prop),(∀ k,M k->k<B\/(bs<=k/\m k))/\(∀ k,m k->k=b2\/k=b3\/k=b6\/bs<=k)/\(∀ p∈pre,p.e=0)/\(m b2/\m b3/\m b6)/\(∀ k,r.v.ownBlock=some k->m k)/\RowAt X b2 22 #[nilS.v]/\RowAt X b3 35 #[nv 0]/\RowAt X b6 22 #[r.v]/\OwnNx M X bs r.v (pre.map OcV.L)
def GotX (own:List Int) (bs b2 b3 b6:Nat) (c:Code) (m:Nat->Prop) (X:World):Prop:=c=.ret/\m b2/\m b3/\(∀ k,m k->k=b2\/k=b3\/k=b6\/bs<=k)/\∃ e:Int,¬e=0/\errO (ocT 128 0 own)=e/\RowAt X b2 22 #[nilS.v]/\RowAt X b3 35 #[nv e]
theorem GotI.kept [Lo] {B bs b2 b3 b6:Nat} {pre:List OcV} {m:Nat->Prop} {X Y:World} (h:GotI B bs b2 b3 b6 pre m X) (k:Kept (fun k=>m k\/k<bs) X Y) (hB:B<=bs):GotI B bs b2 b3 b6 pre m Y:=by
 obtain ⟨r,M,i1,i2,i3,⟨i4,i5,i6⟩,i7,r2,r3,r6,g⟩:=h;exact ⟨r,M,i1,i2,i3,⟨i4,i5,i6⟩,i7,k.row (.inl i4) r2,k.row (.inl i5) r3,k.row (.inl i6) r6,g.kept k (fun q z=>(i1 q z).elim (fun z=>.inr (by omega)) fun z=>.inl z.2) fun q z=>.inl (i7 q z)⟩
theorem GotX.kept {own:List Int} {bs b2 b3 b6:Nat} {c:Code} {m:Nat->Prop} {X Y:World} (h:GotX own bs b2 b3 b6 c m X) (k:Kept (fun k=>m k\/k<bs) X Y):GotX own bs b2 b3 b6 c m Y:=by
 obtain ⟨h0,i4,i5,i2,e,h1,h2,r2,r3⟩:=h;exact ⟨h0,i4,i5,i2,e,h1,h2,k.row (.inl i4) r2,k.row (.inl i5) r3⟩
set_option maxHeartbeats 2000000 in
theorem getO_any [Lo] {W:World} {B:Nat} {s:SlV} {xs:List Int} (h:Sl W B s xs) (hB:B<=W.heap.size) (rg:Tb W):Calls prog 84 #[s.v] W fun e W'=>∃ v,e=.returned v/\∃ s':SlV,v=.tuple #[s'.v,nv (ogE xs)]/\RwNd W' W'.heap.size s' (ogT xs)/\Bw W W':=by
 have h:=h.more hB;have hlt:=rg.lt;refine calls_cx (n:=42) func84 rfl ntmps84 (by simp) (fun _ q=>by simp at q) ?_;show CX none [] _ _ _ [(0,s.v)] _ _;have u:=Br W;refine cx_seq<|Qq<|lg_allocs (u:=nilS.v) (by kernel_rfl) rfl Wn rfl rfl (by decide) fun b1 w1 n1=>?_
 have ⟨r1,k1,z1,lt1⟩:=n1.f;refine lg_allocs (u:=nv 0) (by kernel_rfl) rfl Wn rfl rfl (by decide) fun b2 w2 n2=>?_;have ⟨r2,k2,z2,lt2⟩:=n2.f;refine Qk<|Nxx [0,2,3] ?_
 refine cx_seq<|Qq<|ZM ?_
 have h:=(h.below (Bm n1.below)).below (Bm n2.below);refine Zc (inside_any h (by omega)) rfl rfl ?_;rintro _ w3 ⟨p3,rfl,m3,hw3⟩;have zw3:=hw3.size;refine Xa 5 ?_;refine Qk<|Nxx [2,3,4,5] ?_
 refine cx_seq<|cx_seq<|Qq<|ZM ?_
 by_cases c4:(ogI xs)=0
 ·have hIok:=c4;refine Za (yb (nd_f c4) yi_neq) ?_;refine Qk<|Nxx [2,3,4,5,15] ?_
  refine cx_cf rfl<|cx_skip<|Nxx [2,3,4] ?_
  refine cx_seq<|Qq<|lg_allocs (u:=nilS.v) (by kernel_rfl) rfl Wn rfl rfl (by decide) fun b5 w5 n5=>?_
  have ⟨r5,k5,z5,lt5⟩:=n5.f;refine Qk<|Nxx [2,3,4,6] ?_
  refine cx_seq<|cx_seq<|Qq<|ZM ?_
  have m3:=m3.below (Bm n5.below);refine Zd (nodesO_any p3 _ m3) ?_;rintro _ w6 ⟨bx6,rfl,x6,i6,hw6⟩;have zw6:=hw6.size;have lx6:=x6.lt;refine Qk<|Nxx [2,3,6,18] ?_
  refine cx_block ?_;obtain ⟨bs,hbs⟩:∃ q,q=w6.heap.size:=⟨_,rfl⟩;have u:=Un (Un (Un (Un (Un u n1.below) n2.below) hw3) n5.below) hw6;have r1:=Rb hw6 (n5.keep (Rb hw3 (n2.keep r1)));have r2:=Rb hw6 (n5.keep (Rb hw3 r2));have r5:=Rb hw6 r5;have m3:=m3.below (Bm hw6);refine cx_toldG2 (d1:=7) (d2:=8) (e1:=fun p:OcV=>.agg (p.l.cs p.L)) (e2:=fun p:OcV=>nv p.e) (m0:=(fun k=>k=b1\/k=b2\/k=b5)) 81 (fun p=>p.l.cs p.L) (by kernel_rfl) rfl (nodes_tells bx6 W.heap.size p3 (ogP xs) _ (by omega) m3 x6 (rg.up u) hlt) (fun n0 X Y x h k=>h.kept k (by omega)) (fun k q=>⟨fun z=>by rcases q with rfl | rfl | rfl<;>rcases z with z | z<;>omega,by rcases q with rfl | rfl | rfl<;>omega⟩) (fun k hk z=>by rcases z with z | rfl<;>omega) (by decide) (by decide)
   (fun pre m X=>GotI W.heap.size bs b1 b2 b5 pre m X)
   (fun c pre m X=>GotX (ogP xs) bs b1 b2 b5 c m X)
   (fun s m X Y hX h k=>h.kept (k.mono fun i _ z=>z.imp id fun z=>by omega) (by omega))
   (fun c s m X Y hX h k=>h.kept (k.mono fun i _ z=>z.imp id fun z=>by omega))
   ⟨nilS,fun _=>False,fun k q=>q.elim,fun k q=>by omega,fun p q=>absurd q (by simp),⟨.inl rfl,.inr (.inl rfl),.inr (.inr rfl)⟩,(fun k q=>by cases q),r1,r2,r5,OwnNx.nil _ _⟩
   ?_ ?_ ?_ ?_
  ·intro l x W0;refine cx_seq<|Qq<|lg_allocw (cs:=NdV.zero.cs Nd.zero) Wn rfl (by kernel_rfl) rfl (by decide) fun bA wA nA=>?_
   have ⟨rA,kA,zA,_⟩:=nA.f;refine Zw rA fun wB sB=>?_;refine Qk<|fun a ha=>cx_at ha ?_
   refine Qq<|ZA ?_
   refine Qk ?_;exact fun a ha=>⟨bA,by omega,sB.row,nA.below.trans sB.bl,(by rw [mkd_nil];exact ha)⟩
  ·rintro l7 pre7 x7 b7 n07 v7 m7 d7 hi7 hmn7 ha7 hz7 rb7 hb7 hs7 hp7;have hi:=hi7;unfold GotI at hi;obtain ⟨r,M,i1,i2,i3,⟨i4,i5,i6⟩,i7,r1,r2,r5,g0⟩:=hi;obtain ⟨Mx,hMx⟩:∃ q:Nat->Prop,q=fun k=>M k\/k<W.heap.size\/(n07<=k/\k<v7.heap.size):=⟨_,rfl⟩;have gx:OwnNx Mx v7 bs r.v (pre7.map OcV.L):=by
    subst hMx;refine g0.mono (fun k q=>.inl q) (fun k q=>?_) (fun k q z=>?_)
    ·rcases q with q | q | q
     ·exact g0.lt k q
     ·omega
     exact q.2
    have q1:=g0.blk q;have q2:=hmn7 k (i7 k q);rcases z with z | z | z
    ·exact g0.no k q z
    ·omega
    omega
   have hMr:∀ k,Mx k->k<W.heap.size\/(bs<=k/\hand m7 n07 v7.heap.size k):=by
    subst hMx;intro k q;rcases q with q | q | q
    ·exact (i1 k q).imp id fun z=>⟨z.1,.inl z.2⟩
    ·exact .inl q
    exact .inr ⟨by omega,.inr q⟩
   have hms:=hs7.1;have hin:InNd Mx x7.l:=by
    subst hMx;exact hs7.inn fun k q=>q.elim (fun q=>.inr (.inl q)) fun q=>.inr (.inr q)
   have hr:=Did.refl d7.lt;have zv7:=d7.kept.size;have hpl:(pre7.map OcV.L).length<=128:=by
    have q1:=hp7.length_le;have q2:=ocT_len 128 0 (ogP xs);rw [List.length_map,List.length_append,List.length_cons] at q1;rw [List.length_map];omega
   have l27:=r1.lt;have l37:=r2.lt;have l67:=r5.lt;have lb7:=rb7.lt;refine cx_block<|cx_seq<|cx_seq<|Qq<|ZM ?_
   refine Zj yi_neq (fun c8=>?_) fun c8=>?_
   ·refine Qk<|Nxx [2,3,6,7,8,22] ?_
    refine cx_cf rfl<|cx_skip<|Nxx [2,3,6,7] ?_
    refine Qq<|Zv r.v r5 ?_
    refine Za (y_loadA rb7) ?_;refine lg_bs1R (l:=x7.l) (L:=x7.L) Wn rfl rfl rfl (by decide) fun b9 w9 n9=>?_;have ⟨r9,k9,z9,lt9⟩:=n9.f;have hr:=hr.call n9.below;have gx:=gx.below n9.below;have hms:=hms.below (Bm n9.below);have ox10:=gx;refine lg_appX ox10 r9 (hms.mW w9) hin (by first | omega | (simp only [List.length_append,List.length_cons,List.length_nil,List.length_take,List.length_drop,List.length_set,List.length_replicate,clr_len];omega)) (by omega) Wn rfl rfl rfl rfl rfl (by decide) fun r10 w10 g10 k10 l10 e10=>?_;have dx10:=OwnNx.did g10 k10 (fun k z=>.inl (i7 k z)) hr.lt e10;have z10:=k10.size;have r5:=RowAt.below l10 (by omega) (n9.keep r5);have o11:=r5;refine lg_sts r5 rfl rfl (by kernel_rfl) Wn rfl rfl rfl rfl fun w11 s11=>?_;have ⟨r5,z11⟩:=s11.f;refine Qk<|Qs ?_
    have hr:=hr.trans dx10;have hr:=hr.trans (Did.set s11 o11 (.inl (.inl i6)) hr.lt);have r1:=s11.kp (RowAt.below l10 (by omega) (n9.keep r1));have r2:=s11.kp (RowAt.below l10 (by omega) (n9.keep r2));have g10:=g10.alt s11.alt (fun q=>by have:=hMr _ q;omega) (fun q=>by have:=g10.blk q;omega);exact fun a ha=>⟨_,hr,_,Mx,fun k q=>(hMr k q).imp id fun z=>⟨z.1,.inl z.2⟩,fun k z=>(by rcases z with (z | z) | z;exact i2 k z;omega;have:=(g10.blk z).1;omega),fun p z=>(by rcases List.mem_append.1 z with z | z;exact i3 p z;obtain rfl:p=x7:=(by simpa using z);exact c8),⟨.inl (.inl i4),.inl (.inl i5),.inl (.inl i6)⟩,fun k z=>.inr z,r1,r2,r5,g10.cast (by rw [List.map_append];rfl)⟩
   refine Qk<|Nxx [2,3,6,7,8,22] ?_
   refine cx_ct rfl<|cx_seq<|Qq<|ZM ?_
   have o12:=r1;refine lg_sts r1 rfl rfl (by kernel_rfl) Wn rfl rfl rfl rfl fun w12 s12=>?_;have ⟨r1,z12⟩:=s12.f;have r2:=s12.kp r2;have o13:=r2;refine lg_sts r2 rfl rfl (by kernel_rfl) Wn rfl rfl rfl rfl fun w13 s13=>?_;have ⟨r2,z13⟩:=s13.f;refine Qk<|Nxx [2,3,6,7] ?_
   refine cx_ret<|xg_seq_ret<|xg_block_ret ?_
   have hr:=hr.trans (Did.set s12 o12 (.inl i4) hr.lt);have hpm:=hp7;rw [List.map_append] at hpm;exact fun a ha=>⟨_,hr.trans (Did.set s13 o13 (.inl i5) hr.lt),rfl,.inl i4,.inl i5,fun k q=>q.elim (i2 k) fun q=>by omega,_,c8,errO_told hpm (fun q hq=>by obtain ⟨p,hp,rfl⟩:=List.mem_map.1 hq;exact i3 p hp) c8,s13.kp r1,r2⟩
  ·rintro D7 v7d m7 xs7 hz7 d7 nD7 hf7 hi7 hD7;have hi:=hi7;unfold GotI at hi;obtain ⟨r,M,i1,i2,i3,⟨i4,i5,i6⟩,i7,r1,r2,r5,g0⟩:=hi;have hf:xs7.map OcV.say=ocT 128 0 (ogP xs):=hf7;have heq:xs7.map OcV.L=ocN (ogP xs):=by rw [ocN,<-hf,List.map_map];rfl
   have hE:errO (ocT 128 0 (ogP xs))=0:=by rw [<-hf];exact errO_ok (fun q hq=>by obtain ⟨p,hp,rfl⟩:=List.mem_map.1 hq;exact i3 p hp)
   have g0:=g0.cast heq;have u:=u.trans (d7.below (n0:=W.heap.size) (by omega) (fun k q=>by rcases q with rfl | rfl | rfl<;>omega));have hle:=ocN_le hE;have hI:=hIok;have hpos:=ocT_pos (ogI_pos hI);have zv7:=d7.kept.size;have hKD7:=hD7;have hMD:¬M D7:=fun q=>by rcases i1 _ q with z | z;omega;exact nD7 z.2
   have hoD:r.v.ownBlock≠some D7:=fun q=>nD7 (i7 _ q);have hMr:=i1;have lD:=(Array.getElem?_eq_some_iff.1 hKD7).1;have l27:=r1.lt;have l37:=r2.lt;have l67:=r5.lt;refine Qs<|Nxx [2,3,6] ?_
   refine cx_seq<|cx_seq<|Qq<|Zv r.v r5 ?_
   refine Zv r.v r5 ?_;refine Za (y_lenM (el:=81) (g0.row).len) ?_;refine Za (yv (congrArg nv (show ((ocN (ogP xs)).length:Int)-1=(((ocN (ogP xs)).length-1:Nat):Int) by omega)) (yi_sub rfl rfl rfl (by omega) (by omega))) ?_;obtain ⟨eb14,eo14,el14,eL14,eA14,eB14,eg14,eh14,ec14⟩:=(g0.row).at ((((ocN (ogP xs)).length-1))) (by have:=(g0.row).len;omega);refine Za (Yx r 81 8 (((ocN (ogP xs)).length-1)) eA14 (by have:=(g0.row).len;omega) rfl rfl rfl) ?_;refine Zy 0 ?_;refine Za (y_celld (ec14 0 _ rfl)) ?_;refine Zi yi_eql (fun c15=>?_) fun c15=>?_
   ·refine Qk<|Nxx [2,3,6,35] ?_
    refine cx_ct rfl<|cx_seq<|Qq ?_
    have o16:=r1;refine lg_sts r1 rfl rfl (by kernel_rfl) Wn rfl rfl rfl rfl fun w16 s16=>?_;have ⟨r1,z16⟩:=s16.f;have r2:=s16.kp r2;have o17:=r2;refine lg_sts r2 rfl rfl (by kernel_rfl) Wn rfl rfl rfl rfl fun w17 s17=>?_;have ⟨r2,z17⟩:=s17.f;refine Qk<|Nxx [2,3,6] ?_
    refine cx_ret<|xg_seq_ret ?_
    have hG:ogE xs=6:=ogE_trail hIok hE (by rw [atN_some eg14];exact c15);have r1:=s17.kp r1;have hKD7:=(s17.other _ (by omega)).trans ((s16.other _ (by omega)).trans hKD7);have u:=(u.trans s16.bl).trans s17.bl;exact xg_ret [D7] ⟨hKD7,trivial⟩ (res_cell2 rfl rfl rfl (row_nc r1 (put_grown _ D7 (.deferred none)) (put_nc hKD7)) (by kernel_rfl) (row_nc r2 (put_grown _ D7 (.deferred none)) (put_nc hKD7)) (by kernel_rfl)) ⟨_,rfl,nilS,congrArg (fun q=>Value.tuple #[_,nv q]) hG.symm,((RwNd.nil _ _).cast (ogT_no (by rw [hG];decide)).symm),(below_nc u (B:=D7) (by omega) Lr (put_grown _ D7 (.deferred none)) (fun r e=>by cases e;exact Nat.le_refl _))⟩
   refine Qk<|Nxx [2,3,6,35] ?_
   refine cx_cf rfl<|cx_skip<|Nxx [2,3,6] ?_
   refine cx_seq<|Qq<|Zv r.v r5 ?_
   refine Zc (widened_any g0 (by omega) hle) rfl rfl ?_;rintro _ w18 ⟨s18,rfl,g18,kp18,e18,hw18⟩;have zw18:=hw18.size;have hoD2:s18.v.ownBlock≠some D7:=fun z=>(e18 _ z).elim hoD fun z=>by omega
   have r5:=RowAt.below hw18 (by omega) r5;have o19:=r5;refine lg_sts r5 rfl rfl (by kernel_rfl) Wn rfl rfl rfl rfl fun w19 s19=>?_;have ⟨r5,z19⟩:=s19.f;refine Qk<|Nxx [2,3,6] ?_
   refine cx_seq<|cx_seq<|Qq<|Zv s18.v r5 ?_
   have g18:=g18.alt s19.alt (fun q=>by have:=hMr _ q;omega) (fun q=>by have:=g18.blk q;omega);have u:=(u.trans (Bm hw18)).trans s19.bl;by_cases c20:namedL (trAs (widO (ocN (ogP xs))))
   ·refine Zd (namedO_any ((g18.row).mW w19) Lr (rg.up u)) ?_;rintro u21 w21 ⟨e21,hw21⟩;have zw21:=hw21.size;obtain rfl:u21=.bool true:=e21.trans (congrArg Value.bool (decide_eq_true c20));refine Xa 1 ?_;refine Qk<|Nxx [2,3,6,40] ?_
    refine cx_cf rfl<|cx_skip<|Nxx [2,3,6] ?_
    refine cx_seq<|Qq ?_
    have r5:=Rb hw21 r5;refine Zv s18.v r5 ?_;have r1:=Rb hw21 (s19.kp (RowAt.below hw18 (by omega) r1));have o22:=r1;refine lg_sts r1 rfl rfl (by kernel_rfl) Wn rfl rfl rfl rfl fun w22 s22=>?_;have ⟨r1,z22⟩:=s22.f;have r2:=s22.kp (Rb hw21 (s19.kp (RowAt.below hw18 (by omega) r2)));have o23:=r2;refine lg_sts r2 rfl rfl (by kernel_rfl) Wn rfl rfl rfl rfl fun w23 s23=>?_;have ⟨r2,z23⟩:=s23.f;refine Qk<|Nxx [2,3] ?_
    refine cx_ret ?_;have hG:ogE xs=0:=ogE_ok hIok hE (by rw [atN_some eg14];exact c15) c20;have g18:=g18.below hw21;have g18:=g18.alt s22.alt (fun q=>by have:=hMr _ q;omega) (fun q=>by have:=g18.blk q;omega);have g18:=g18.alt s23.alt (fun q=>by have:=hMr _ q;omega) (fun q=>by have:=g18.blk q;omega);have hKD7:=(s19.other _ (by omega)).trans ((kp18.block _ (Array.getElem?_eq_some_iff.1 hKD7).1 hoD).trans hKD7);have hKD7:=(s23.other _ (by omega)).trans ((s22.other _ (by omega)).trans ((hw21.block _ (Array.getElem?_eq_some_iff.1 hKD7).1).trans hKD7));exact xg_ret [D7] ⟨hKD7,trivial⟩ (res_cell2 rfl rfl rfl (row_nc (s23.kp r1) (put_grown _ D7 (.deferred none)) (put_nc hKD7)) (by kernel_rfl) (row_nc r2 (put_grown _ D7 (.deferred none)) (put_nc hKD7)) (by kernel_rfl)) ⟨_,rfl,s18,congrArg (fun q=>Value.tuple #[_,nv q]) hG.symm,((g18.alt (Kept.putObj _ (.deferred none) fun q=>q rfl) hMD hoD2).row.cast (ogT_ok hG).symm),(below_nc (((Un u hw21).trans s22.bl).trans s23.bl) (B:=D7) (by omega) Lr (put_grown _ D7 (.deferred none)) (fun r e=>by cases e;exact Nat.le_refl _))⟩
   refine Zd (namedO_any ((g18.row).mW w19) Lr (rg.up u)) ?_;rintro u24 w24 ⟨e24,hw24⟩;have zw24:=hw24.size;obtain rfl:u24=.bool false:=e24.trans (congrArg Value.bool (decide_eq_false c20));refine Xa 1 ?_;refine Qk<|Nxx [2,3,6,40] ?_
   refine cx_ct rfl<|cx_seq<|Qq ?_
   have r1:=Rb hw24 (s19.kp (RowAt.below hw18 (by omega) r1));have o25:=r1;refine lg_sts r1 rfl rfl (by kernel_rfl) Wn rfl rfl rfl rfl fun w25 s25=>?_;have ⟨r1,z25⟩:=s25.f;have r2:=s25.kp (Rb hw24 (s19.kp (RowAt.below hw18 (by omega) r2)));have o26:=r2;refine lg_sts r2 rfl rfl (by kernel_rfl) Wn rfl rfl rfl rfl fun w26 s26=>?_;have ⟨r2,z26⟩:=s26.f;refine Qk<|Nxx [2,3,6] ?_
   refine cx_ret<|xg_seq_ret ?_
   have hG:ogE xs=8:=ogE_unm hIok hE (by rw [atN_some eg14];exact c15) c20;have r1:=s26.kp r1;have hKD7:=(s19.other _ (by omega)).trans ((kp18.block _ (Array.getElem?_eq_some_iff.1 hKD7).1 hoD).trans hKD7);have hKD7:=(s26.other _ (by omega)).trans ((s25.other _ (by omega)).trans ((hw24.block _ (Array.getElem?_eq_some_iff.1 hKD7).1).trans hKD7));have u:=((Un u hw24).trans s25.bl).trans s26.bl;exact xg_ret [D7] ⟨hKD7,trivial⟩ (res_cell2 rfl rfl rfl (row_nc r1 (put_grown _ D7 (.deferred none)) (put_nc hKD7)) (by kernel_rfl) (row_nc r2 (put_grown _ D7 (.deferred none)) (put_nc hKD7)) (by kernel_rfl)) ⟨_,rfl,nilS,congrArg (fun q=>Value.tuple #[_,nv q]) hG.symm,((RwNd.nil _ _).cast (ogT_no (by rw [hG];decide)).symm),(below_nc u (B:=D7) (by omega) Lr (put_grown _ D7 (.deferred none)) (fun r e=>by cases e;exact Nat.le_refl _))⟩
  rintro D7 c7 pre7 v7s m7 hz7 d7 nD7 hi7 hD7;have hi:=hi7;unfold GotX at hi;obtain ⟨rfl,i4,i5,i2,ee,hne,hE,r1,r2⟩:=hi;have u:=u.trans (d7.below (n0:=W.heap.size) (by omega) (fun k q=>by rcases q with rfl | rfl | rfl<;>omega));have zv7:=d7.kept.size;have hKD7:=hD7;refine cx_ret<|xg_block_ret<|xg_seq_ret ?_
  have hG:ogE xs=ee:=(ogE_err hIok (by rw [hE];exact hne)).trans hE;exact xg_ret [D7] ⟨hKD7,trivial⟩ (res_cell2 rfl rfl rfl (row_nc r1 (put_grown _ D7 (.deferred none)) (put_nc hKD7)) (by kernel_rfl) (row_nc r2 (put_grown _ D7 (.deferred none)) (put_nc hKD7)) (by kernel_rfl)) ⟨_,rfl,nilS,congrArg (fun q=>Value.tuple #[_,nv q]) hG.symm,((RwNd.nil _ _).cast (ogT_no (by rw [hG];exact hne)).symm),(below_nc u (B:=D7) (by omega) Lr (put_grown _ D7 (.deferred none)) (fun r e=>by cases e;exact Nat.le_refl _))⟩
 refine Za (yb (nd_t c4) yi_neq) ?_;refine Qk<|Nxx [2,3,4,5,15] ?_
 refine cx_ct rfl<|cx_seq<|Qq<|ZM ?_
 have r1:=Rb hw3 (n2.keep r1);have o27:=r1;refine lg_sts r1 rfl rfl (by kernel_rfl) Wn rfl rfl rfl rfl fun w27 s27=>?_;have ⟨r1,z27⟩:=s27.f;have r2:=s27.kp (Rb hw3 r2);have o28:=r2;refine lg_sts r2 rfl rfl (by kernel_rfl) Wn rfl rfl rfl rfl fun w28 s28=>?_;have ⟨r2,z28⟩:=s28.f;refine Qk<|Nxx [2,3,4] ?_
 refine cx_ret<|xg_seq_ret ?_
 have hG:ogE xs=(ogI xs):=ogE_in c4;have r1:=s28.kp r1;have u:=((Un (Un (Un u n1.below) n2.below) hw3).trans s27.bl).trans s28.bl;exact xg_ret [] trivial (res_cell2 rfl rfl rfl r1 (by kernel_rfl) r2 (by kernel_rfl)) ⟨_,rfl,nilS,congrArg (fun q=>Value.tuple #[_,nv q]) hG.symm,(RwNd.nil _ _).cast (ogT_no (by rw [hG];exact c4)).symm,u⟩
/- OcFact:
  What is got is put as it was: nodes that are read, one behind the other.
-/
theorem ocAt_ok {x:Nat} {xs:List Int} (h:(ocAt x xs).1=0):x≠127/\(ndGet xs).1=0/\fitK x (ndGet xs).2.1.kind/\(ocAt x xs).2=((ndGet xs).2.1,(ndGet xs).2.2):=by
 by_cases c:x=127
 ·rw [c] at h;exact absurd h oc_full
 by_cases d:(ndGet xs).1=0
 ·by_cases k:fitK x (ndGet xs).2.1.kind
  ·exact ⟨c,d,k,by rw [ocAt,if_neg c,if_neg (not_not_intro d),if_neg (not_not_intro k)]⟩
  rw [ocAt,if_neg c,if_neg (not_not_intro d),if_pos k] at h;exact absurd h (show ¬(7:Int)=0 by decide)
 rw [ocAt,if_neg c,if_pos d] at h;exact absurd h d
theorem oc_all:∀ (f x:Nat) (xs:List Int),x+f=128->x<=127->Bytes xs->errO (ocT f x xs)=0->putT ((ocT f x xs).map Prod.fst)=xs/\∀ j,j<(ocT f x xs).length->okAt (x+j) (atN ((ocT f x xs).map Prod.fst) j)
 | 0,x,xs,h,h2,_,_=>by omega
 | f+1,x,xs,h,h2,hx,e=>by
  rw [ocT] at e ⊢;split at e
  ·rename_i c
   rw [if_pos c];obtain rfl:xs=[]:=List.eq_nil_of_length_eq_zero c;exact ⟨rfl,fun j hj=>absurd hj (Nat.not_lt_zero _)⟩
  rename_i c
  rw [if_neg c];rw [errO] at e;split at e
  ·rename_i d
   have d:(ocAt x xs).1=0:=d;have e:errO (ocT f (x+1) (ocAt x xs).2.2)=0:=by
    first | exact e | (rw [if_pos d] at e;exact e)
   rw [if_pos d];obtain ⟨h3,h4,h5,h6⟩:=ocAt_ok d;obtain ⟨n1,n2⟩:=nd_only hx h4;rw [h6] at e ⊢;obtain ⟨i1,i2⟩:=oc_all f (x+1) (ndGet xs).2.2 (by omega) (by omega) (bytes_rest hx n2) e;refine ⟨?_,fun j hj=>?_⟩
   ·show ndPut (ndGet xs).2.1++putT _=xs;rw [i1,n2]
   match j with
   | 0=>exact ⟨n1,h5⟩
   | j+1 =>
    have:=i2 j (by simpa using hj);rw [show x+(j+1)=x+1+j by omega];exact this
  exact absurd e ‹_›
section
variable {xs:List Int}
theorem og_own (hx:Bytes xs) (h:ogI xs=0):Bytes (ogP xs)/\bytesOct (ogP xs)=xs:=by
 obtain ⟨h1,h2,_⟩:=ogI_ok h;rw [ogP_ok h];have hb:=bytes_got xs hx h1;rw [List.eq_nil_of_length_eq_zero h2,List.append_nil] at hb;exact ⟨bytesP_bytes xs hx,hb⟩
theorem og_nodes (hx:Bytes xs) (h:ogE xs=0):putT (ocN (ogP xs))=ogP xs/\(∀ j,j<(ocN (ogP xs)).length->okAt j (atN (ocN (ogP xs)) j))/\0<(ocN (ogP xs)).length/\(ocN (ogP xs)).length<=127:=by
 obtain ⟨h1,h2,h3,h4⟩:=ogE_all h;obtain ⟨a,b⟩:=oc_all 128 0 (ogP xs) rfl (by decide) (og_own hx h1).1 h2;refine ⟨a,fun j hj=>?_,ocT_pos (ogI_pos h1),ocN_le h2⟩;have:=b j (by rw [ocN,List.length_map] at hj;exact hj);rw [Nat.zero_add] at this;exact this
theorem wid_len (t:List Nd):(widO t).length=t.length+gapO t.length:=by rw [widO,List.length_append,List.length_replicate]
theorem og_tree (hx:Bytes xs) (h:ogE xs=0):trIs (widO (ocN (ogP xs))):=by
 obtain ⟨_,h2,h3,h4⟩:=og_nodes hx h;refine ⟨.inr ?_,fun i hi=>?_⟩
 ·rw [wid_len];exact (gap_is h4 Lr).2 rfl
 rw [widO,atN_app_z];by_cases c:i<(ocN (ogP xs)).length
 ·exact h2 i c
 rw [atN_none (by omega)];exact ok_zero i
theorem og_is (hx:Bytes xs) (h:ogE xs=0):trIs (ogT xs)/\0<(ogT xs).length/\namedL (trAs (ogT xs))/\leavesA (trAs (ogT xs))<=64:=by
 have ht:=og_tree hx h;have hl:=trIs_le ht;rw [ogT_ok h];refine ⟨ht,by rw [wid_len];have:=(og_nodes hx h).2.2.1;omega,(ogE_all h).2.2.2,?_⟩;rw [trAs_ok ht];unfold leavesA;omega
end
end Go.Proofs.YtjjdcnkbibkmkaaGreatDoor
