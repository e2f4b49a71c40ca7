/-
  Trees as octets: what the document says.
-/
import Derived.Test.YtognnnjdoemgfaaGreatDoorKitT
import Derived.Test.YtognnnjdoemgfaaGreatDoorKitI
import Derived.Test.YtognnnjdoemgfaaGreatDoorKitV
namespace Go.Proofs.YtognnnjdoemgfaaGreatDoor
open Go.ChangeShapes Go.WideShapes Go.ChangeAt Go.RowKit
set_option linter.unusedVariables false

/-- How many lie ahead of x. -/
def ahead (x:Int):List Int→Nat
 | []=>0
 | d::ds=>if d=x then 0 else ahead x ds+1
theorem ahead_le (x:Int):∀ ds:List Int,ahead x ds≤ds.length
 | []=>Nat.le_refl _
 | d::ds=>by
  have:=ahead_le x ds
  simp only [ahead,List.length_cons]
  split<;>omega
theorem ahead_no {x:Int}:∀ {ds:List Int} {j:Nat},j<ahead x ds→ds.getD j 0≠x
 | [],j,h=>absurd h (Nat.not_lt_zero _)
 | d::ds,j,h=>by
  unfold ahead at h
  split at h
  ·omega
  match j with
  | 0=>simpa using ‹¬d=x›
  | j+1=>simpa using ahead_no (ds:=ds) (j:=j) (by omega)
theorem ahead_at {x:Int}:∀ {ds:List Int},ahead x ds<ds.length→ds.getD (ahead x ds) 0=x
 | [],h=>absurd h (Nat.not_lt_zero _)
 | d::ds,h=>by
  unfold ahead at h ⊢
  split
  ·simpa using ‹d=x›
  rw [if_neg ‹¬d=x›] at h
  simpa using ahead_at (ds:=ds) (by simpa using h)
theorem ahead_mem {x:Int}:∀ {ds:List Int},x∈ds→ahead x ds<ds.length
 | d::ds,h=>by
  unfold ahead
  split
  ·simp
  rcases List.mem_cons.1 h with e | e
  ·exact absurd e.symm ‹¬d=x›
  have:=ahead_mem e
  simp only [List.length_cons]
  omega
/-- Up to k none is x: then k is x, or lies ahead of it. -/
theorem ahead_is {x:Int} {ds:List Int} {k:Nat} (h:k≤ahead x ds) (e:ds.getD k 0=x) (hk:k<ds.length):ahead x ds=k:=by
 by_cases c:k<ahead x ds
 ·exact absurd e (ahead_no c)
 omega
theorem ahead_next {x:Int} {ds:List Int} {k:Nat} (h:k≤ahead x ds) (e:¬ds.getD k 0=x) (hk:k<ds.length):k<ahead x ds:=by
 by_cases c:k<ahead x ds
 ·exact c
 have e2:ahead x ds=k:=by omega
 exact absurd (by rw [←e2];exact ahead_at (by omega)) e
/-- Does a node of the way not say so? -/
def badN (t:List Nd) (i d:Int):Prop:=(atN t d.toNat).kind=2∧¬i∈(atN t d.toNat).inner.unm
instance (t:List Nd) (i d:Int):Decidable (badN t i d):=by unfold badN;infer_instance
/-- May a node name a leaf? -/
def nmP (t:List Nd) (i x:Int):Prop:=undI (2*i) x (t.length:Int)∧¬(atN t (2*i).toNat).kind=0∧∀ j,j<ahead x (dirI (2*i) (t.length:Int))→¬badN t i ((dirI (2*i) (t.length:Int)).getD j 0)
instance (t:List Nd) (i x:Int):Decidable (nmP t i x):=by unfold nmP;infer_instance
def namedL (t:List Nd):Prop:=∀ x,x<t.length→∀ k,k<(atN t x).inner.unm.length→nmP t ((atN t x).inner.unm.getD k 0) (x:Int)
instance (t:List Nd):Decidable (namedL t):=by unfold namedL;infer_instance
theorem pnT_range {p:Pn} (h:pnCheck p=0):∀ i∈p.unm,0≤i∧i<64:=by
 intro i hi
 unfold pnCheck at h
 split at h
 ·exact absurd h (by decide)
 split at h
 ·exact absurd h (by decide)
 split at h
 ·exact absurd h (by decide)
 rename_i n
 by_cases q:0≤i∧i<64
 ·exact q
 exact absurd ⟨i,hi,by omega⟩ n
/-- Which numbers a node of a tree names. -/
theorem unmT_ok {t:List Nd} (h:trIs t) (x:Nat):(∀ i∈(atN t x).inner.unm,0≤i∧i<64)∧(atN t x).inner.unm.length≤64∧(0<(atN t x).inner.unm.length→x % 2=1):=by
 have ok:=trIs_ok h x
 rcases nd_cases ok.1 with e | ⟨_,e,_⟩ | ⟨k,_,e⟩
 ·rw [e]
  exact ⟨fun i q=>absurd q (by simp),by simp,fun q=>absurd q (by simp)⟩
 ·rw [e]
  exact ⟨fun i q=>absurd q (by simp),by simp,fun q=>absurd q (by simp)⟩
 exact ⟨pnT_range e,(pnCheck_ok e).2.2.2,fun _=>by
  have:=ok.2
  unfold fitK at this
  omega⟩
theorem unmT_at {t:List Nd} (h:trIs t) {x k:Nat} (hk:k<(atN t x).inner.unm.length):0≤(atN t x).inner.unm.getD k 0∧(atN t x).inner.unm.getD k 0<64:=by
 refine (unmT_ok h x).1 _ ?_
 rw [List.getD_eq_getElem?_getD,List.getElem?_eq_getElem hk]
 exact List.getElem_mem hk
theorem named_nil:namedL []:=fun x h=>absurd h (Nat.not_lt_zero _)
theorem wayO_in {x w:Int} (h:isN x w):∀ d∈dirI x w,isN d w∧d % 2=1:=fin2 (p:=fun x w=>∀ d∈dirI x w,isN d w∧d % 2=1) (by kernel_rfl) h
theorem wayO_par {y w:Int} (h:isN y w):(0<(dirI y w).length→parI y w=(dirI y w).getD 0 0)∧∀ q,q+1<(dirI y w).length→parI ((dirI y w).getD q 0) w=(dirI y w).getD (q+1) 0:=by
 have key:∀ (n:Nat) (y:Int),isN y w→(dirI y w).length≤n→(0<(dirI y w).length→parI y w=(dirI y w).getD 0 0)∧∀ q,q+1<(dirI y w).length→parI ((dirI y w).getD q 0) w=(dirI y w).getD (q+1) 0:=by
  intro n
  induction n with
  | zero=>exact fun y _ hl=>⟨fun q=>by omega,fun q hq=>by omega⟩
  | succ n ih =>
   intro y hy hl
   have e:=dir_step hy
   by_cases c:parI y w<0
   ·rw [if_pos c] at e
    rw [e]
    exact ⟨fun q=>by simp at q,fun q hq=>by simp at hq⟩
   rw [if_neg c] at e
   rw [e] at hl ⊢
   have hp:=((par_up hy).2 c).1
   obtain ⟨h1,h2⟩:=ih _ hp (by simp only [List.length_cons] at hl;omega)
   refine ⟨fun _=>by simp,fun q hq=>?_⟩
   simp only [List.length_cons] at hq
   match q with
   | 0=>simpa using h1 (by omega)
   | q+1=>simpa using h2 q (by omega)
 exact key _ y h (Nat.le_refl _)
/-- The way from a leaf that is below an inner node leads to it. -/
theorem wayO_to {i x w:Int} (h:undI (2*i) x w) (ho:x % 2=1):x∈dirI (2*i) w:=((und_dir h.1 h.2.1).2 h).resolve_left (by omega)

/-- The octets of nodes. -/
def putT (t:List Nd):List Int:=t.flatMap ndPut
theorem putT_step {t:List Nd} {k:Nat} (h:k<t.length):putT (t.take (k+1))=putT (t.take k)++ndPut (atN t k):=by
 rw [putT,List.take_succ_eq_append_getElem h,List.flatMap_append,atN_some (List.getElem?_eq_getElem h)]
 simp [putT]
theorem ndPut_small (L:Nd):(ndPut L).length≤670:=by
 unfold ndPut
 have h1:=lfPut_le L.leaf
 have h2:=pnPut_le L.inner
 have:=widthK1
 split
 ·simp only [List.length_append,flagOct_length,numOct_length];omega
 split
 ·simp only [List.length_append,flagOct_length,numOct_length];omega
 simp [flagOct_length]
theorem putT_le:∀ t:List Nd,(putT t).length≤670*t.length
 | []=>Nat.le_refl _
 | n::t=>by
  have h1:=ndPut_small n
  have h2:=putT_le t
  simp only [putT,List.flatMap_cons,List.length_append,List.length_cons] at h2 ⊢
  omega
/-- How many nodes are put. -/
def numO (t:List Nd):Nat:=(lastA t+1).toNat
theorem numO_le (t:List Nd):numO t≤t.length∧lastA t+1=(numO t:Int):=by
 unfold numO
 rcases lastA_is t with h | ⟨j,h,h2,_⟩<;>omega
theorem trAs_lel (t:List Nd):(trAs t).length≤t.length:=by
 by_cases h:trIs t
 ·rw [trAs_ok h]
  exact Nat.le_refl _
 rw [trAs_no h]
 exact Nat.zero_le _
theorem take_as (t:List Nd):t.take (numO (trAs t))=(trAs t).take (numO (trAs t)):=by
 by_cases h:trIs t
 ·rw [trAs_ok h]
 rw [trAs_no h]
 rfl
def opL (t:List Nd):List Int:=bytesOct (putT (t.take (numO t)))

/-- The node at a place, from octets: its error, it, the rest. -/
def ocAt (x:Nat) (xs:List Int):Int × Nd × List Int :=
 if x=127 then (10,Nd.zero,[])
 else if ¬(ndGet xs).1=0 then ((ndGet xs).1,Nd.zero,[])
 else if ¬fitK x (ndGet xs).2.1.kind then (7,Nd.zero,[])
 else (0,(ndGet xs).2.1,(ndGet xs).2.2)
/-- The nodes that octets are, up to the first error. -/
def ocT:Nat→Nat→List Int→List (Nd × Int)
 | 0,_,_=>[]
 | f+1,x,xs=>if xs.length=0 then [] else ((ocAt x xs).2.1,(ocAt x xs).1)::(if (ocAt x xs).1=0 then ocT f (x+1) (ocAt x xs).2.2 else [])
def errO:List (Nd × Int)→Int
 | []=>0
 | p::l=>if p.2=0 then errO l else p.2
theorem errO_ok:∀ {l:List (Nd × Int)},(∀ p∈l,p.2=0)→errO l=0
 | [],_=>rfl
 | p::l,h=>by
  rw [errO,if_pos (h p (by simp))]
  exact errO_ok fun q hq=>h q (by simp [hq])
theorem errO_last:∀ {l:List (Nd × Int)} {p:Nd × Int},(∀ q∈l,q.2=0)→errO (l++[p])=p.2
 | [],p,_=>by
  show (if p.2=0 then 0 else p.2)=p.2
  split
  ·exact ‹p.2=0›.symm
  rfl
 | q::l,p,h=>by
  rw [List.cons_append,errO,if_pos (h q (by simp))]
  exact errO_last fun r hr=>h r (by simp [hr])
theorem oc_full {xs:List Int}:¬(ocAt 127 xs).1=0:=by
 rw [ocAt,if_pos rfl]
 decide
/-- What is read, and what is left. -/
structure RunO (own:List Int) (pre:List (Nd × Int)) (left:List Int):Prop where
 le:pre.length≤127
 ok:∀ p∈pre,p.2=0
 run:ocT 128 0 own=pre++ocT (128-pre.length) pre.length left
section
variable {own left:List Int} {pre:List (Nd × Int)}
theorem RunO.start (own:List Int):RunO own [] own:=⟨Nat.zero_le _,fun p h=>absurd h (by simp),rfl⟩
theorem RunO.stop (h:RunO own pre left) (e:left.length=0):ocT 128 0 own=pre:=by
 rw [h.run]
 obtain ⟨f,hf⟩:∃ f,128-pre.length=f+1:=⟨127-pre.length,by have:=h.le;omega⟩
 rw [hf,ocT,if_pos e,List.append_nil]
theorem RunO.more (h:RunO own pre left) (e:¬left.length=0):ocT 128 0 own=pre++((ocAt pre.length left).2.1,(ocAt pre.length left).1)::(if (ocAt pre.length left).1=0 then ocT (127-pre.length) (pre.length+1) (ocAt pre.length left).2.2 else []):=by
 rw [h.run]
 obtain ⟨f,hf⟩:∃ f,128-pre.length=f+1:=⟨127-pre.length,by have:=h.le;omega⟩
 rw [hf,ocT,if_neg e,show f=127-pre.length by omega]
theorem RunO.small (h:RunO own pre left) (e:(ocAt pre.length left).1=0):pre.length<127:=by
 have:=h.le
 by_cases c:pre.length=127
 ·rw [c] at e
  exact absurd e oc_full
 omega
theorem RunO.next (h:RunO own pre left) (e:¬left.length=0) (ok:(ocAt pre.length left).1=0):RunO own (pre++[((ocAt pre.length left).2.1,0)]) (ocAt pre.length left).2.2:=by
 have hs:=h.small ok
 refine ⟨by simp only [List.length_append,List.length_cons,List.length_nil];omega,fun p hp=>?_,?_⟩
 ·rcases List.mem_append.1 hp with q | q
  ·exact h.ok p q
  obtain rfl:p=((ocAt pre.length left).2.1,0):=by simpa using q
  rfl
 rw [h.more e,if_pos ok,ok,List.append_assoc,List.length_append,List.length_cons,List.length_nil,show 128-(pre.length+(0+1))=127-pre.length by omega]
 rfl
theorem RunO.err (h:RunO own pre left) (e:¬left.length=0) (no:¬(ocAt pre.length left).1=0):ocT 128 0 own=pre++[((ocAt pre.length left).2.1,(ocAt pre.length left).1)]:=by rw [h.more e,if_neg no]
theorem RunO.errE (h:RunO own pre left) (e:¬left.length=0) (no:¬(ocAt pre.length left).1=0):errO (ocT 128 0 own)=(ocAt pre.length left).1:=by rw [h.err e no,errO_last h.ok]
theorem RunO.okE (h:RunO own pre left) (e:left.length=0):errO (ocT 128 0 own)=0:=by rw [h.stop e,errO_ok h.ok]
end
/-- The nodes. -/
def ocN (own:List Int):List Nd:=(ocT 128 0 own).map Prod.fst
theorem RunO.nodes {own left:List Int} {pre:List (Nd × Int)} (h:RunO own pre left) (e:left.length=0):ocN own=pre.map Prod.fst:=by rw [ocN,h.stop e]
theorem ocT_len:∀ (f x:Nat) (xs:List Int),(ocT f x xs).length≤f
 | 0,_,_=>Nat.le_refl _
 | f+1,x,xs=>by
  rw [ocT]
  split
  ·exact Nat.zero_le _
  have:=ocT_len f (x+1) (ocAt x xs).2.2
  simp only [List.length_cons]
  split<;>simp<;>omega
theorem ocT_pos {own:List Int} (h:¬own.length=0):0<(ocN own).length:=by
 rw [ocN,List.length_map,ocT,if_neg h]
 simp
/-- As many blank ones as lead to the next width. -/
def gapO (n:Nat):Nat:=if n≤1 then 1-n else if n≤3 then 3-n else if n≤7 then 7-n else if n≤15 then 15-n else if n≤31 then 31-n else if n≤63 then 63-n else 127-n
theorem gap_is {n k:Nat} (hn:n≤127) (hk:k≤gapO n):isW ((n+k:Nat):Int)↔k=gapO n:=by
 unfold gapO at hk ⊢
 unfold isW
 repeat' split
 all_goals (repeat rw [if_neg (by omega)] at hk)
 all_goals (try rw [if_pos (by omega)] at hk)
 all_goals omega
theorem gap_le {n:Nat} (hn:n≤127):n+gapO n≤127:=by
 unfold gapO
 repeat' split
 all_goals omega
def widO (t:List Nd):List Nd:=t++List.replicate (gapO t.length) Nd.zero
/-- The octets of the nodes, what is wrong with what is around them. -/
def ogI (xs:List Int):Int:=if ¬bytesE xs=0 then bytesE xs else if 0<(bytesR xs).length then 2 else if (bytesP xs).length=0 then 5 else 0
def ogP (xs:List Int):List Int:=if ogI xs=0 then bytesP xs else []
def ogE (xs:List Int):Int :=
 if ¬ogI xs=0 then ogI xs
 else if ¬errO (ocT 128 0 (ogP xs))=0 then errO (ocT 128 0 (ogP xs))
 else if (atN (ocN (ogP xs)) ((ocN (ogP xs)).length-1)).kind=0 then 6
 else if ¬namedL (trAs (widO (ocN (ogP xs)))) then 8
 else 0
def ogT (xs:List Int):List Nd:=if ogE xs=0 then widO (ocN (ogP xs)) else []
section
variable {xs:List Int}
theorem ogP_ok (h:ogI xs=0):ogP xs=bytesP xs:=if_pos h
theorem ogI_ok (h:ogI xs=0):bytesE xs=0∧(bytesR xs).length=0∧¬(bytesP xs).length=0:=by
 unfold ogI at h
 split at h
 ·contradiction
 split at h
 ·omega
 split at h<;>omega
theorem ogI_pos (h:ogI xs=0):¬(ogP xs).length=0:=by
 rw [ogP_ok h]
 exact (ogI_ok h).2.2
theorem ogE_in (h:¬ogI xs=0):ogE xs=ogI xs:=if_pos h
theorem ogE_err (h:ogI xs=0) (e:¬errO (ocT 128 0 (ogP xs))=0):ogE xs=errO (ocT 128 0 (ogP xs)):=by rw [ogE,if_neg (not_not_intro h),if_pos e]
theorem ogE_trail (h:ogI xs=0) (e:errO (ocT 128 0 (ogP xs))=0) (k:(atN (ocN (ogP xs)) ((ocN (ogP xs)).length-1)).kind=0):ogE xs=6:=by rw [ogE,if_neg (not_not_intro h),if_neg (not_not_intro e),if_pos k]
theorem ogE_unm (h:ogI xs=0) (e:errO (ocT 128 0 (ogP xs))=0) (k:¬(atN (ocN (ogP xs)) ((ocN (ogP xs)).length-1)).kind=0) (n:¬namedL (trAs (widO (ocN (ogP xs))))):ogE xs=8:=by rw [ogE,if_neg (not_not_intro h),if_neg (not_not_intro e),if_neg k,if_pos n]
theorem ogE_ok (h:ogI xs=0) (e:errO (ocT 128 0 (ogP xs))=0) (k:¬(atN (ocN (ogP xs)) ((ocN (ogP xs)).length-1)).kind=0) (n:namedL (trAs (widO (ocN (ogP xs))))):ogE xs=0:=by rw [ogE,if_neg (not_not_intro h),if_neg (not_not_intro e),if_neg k,if_neg (not_not_intro n)]
theorem ogT_ok (h:ogE xs=0):ogT xs=widO (ocN (ogP xs)):=if_pos h
theorem ogT_no (h:¬ogE xs=0):ogT xs=[]:=if_neg h
end
end Go.Proofs.YtognnnjdoemgfaaGreatDoor
