/-
  What is got is put as it was: nodes that are read, one behind the other.
-/
import Derived.Test.YtognnnjdoemgfaaDoorOcMore
import Derived.Test.YtognnnjdoemgfaaDoorOcGet
namespace Go.Proofs.YtognnnjdoemgfaaDoor
open Go.ChangeShapes Go.WideShapes Go.ChangeAt Go.RowKit
set_option linter.unusedVariables false

theorem rootO_le (w:Int):-1≤rootI w∧rootI w≤63:=by
 unfold rootI
 split
 ·rename_i h
  unfold isW at h
  omega
 omega
theorem ocAt_ok {x:Nat} {xs:List Int} (h:(ocAt x xs).1=0):x≠127∧(ndGet xs).1=0∧fitK x (ndGet xs).2.1.kind∧(ocAt x xs).2=((ndGet xs).2.1,(ndGet xs).2.2):=by
 by_cases c:x=127
 ·rw [c] at h
  exact absurd h oc_full
 by_cases d:(ndGet xs).1=0
 ·by_cases k:fitK x (ndGet xs).2.1.kind
  ·exact ⟨c,d,k,by rw [ocAt,if_neg c,if_neg (not_not_intro d),if_neg (not_not_intro k)]⟩
  rw [ocAt,if_neg c,if_neg (not_not_intro d),if_pos k] at h
  exact absurd h (show ¬(7:Int)=0 by decide)
 rw [ocAt,if_neg c,if_pos d] at h
 exact absurd h d
theorem oc_all:∀ (f x:Nat) (xs:List Int),x+f=128→x≤127→Bytes xs→errO (ocT f x xs)=0→putT ((ocT f x xs).map Prod.fst)=xs∧∀ j,j<(ocT f x xs).length→okAt (x+j) (atN ((ocT f x xs).map Prod.fst) j)
 | 0,x,xs,h,h2,_,_=>by omega
 | f+1,x,xs,h,h2,hx,e=>by
  rw [ocT] at e ⊢
  split at e
  ·rename_i c
   rw [if_pos c]
   obtain rfl:xs=[]:=List.eq_nil_of_length_eq_zero c
   exact ⟨rfl,fun j hj=>absurd hj (Nat.not_lt_zero _)⟩
  rename_i c
  rw [if_neg c]
  rw [errO] at e
  split at e
  ·rename_i d
   have d:(ocAt x xs).1=0:=d
   have e:errO (ocT f (x+1) (ocAt x xs).2.2)=0:=by
    first | exact e | (rw [if_pos d] at e;exact e)
   rw [if_pos d]
   obtain ⟨h3,h4,h5,h6⟩:=ocAt_ok d
   obtain ⟨n1,n2⟩:=nd_only hx h4
   rw [h6] at e ⊢
   obtain ⟨i1,i2⟩:=oc_all f (x+1) (ndGet xs).2.2 (by omega) (by omega) (bytes_rest hx n2) e
   refine ⟨?_,fun j hj=>?_⟩
   ·show ndPut (ndGet xs).2.1++putT _=xs
    rw [i1,n2]
   match j with
   | 0=>exact ⟨n1,h5⟩
   | j+1 =>
    have:=i2 j (by simpa using hj)
    rw [show x+(j+1)=x+1+j by omega]
    exact this
  exact absurd e ‹_›
section
variable {xs:List Int}
theorem og_own (hx:Bytes xs) (h:ogI xs=0):Bytes (ogP xs)∧bytesOct (ogP xs)=xs:=by
 obtain ⟨h1,h2,_⟩:=ogI_ok h
 rw [ogP_ok h]
 have hb:=bytes_got xs hx h1
 rw [List.eq_nil_of_length_eq_zero h2,List.append_nil] at hb
 exact ⟨bytesP_bytes xs hx,hb⟩
theorem og_nodes (hx:Bytes xs) (h:ogE xs=0):putT (ocN (ogP xs))=ogP xs∧(∀ j,j<(ocN (ogP xs)).length→okAt j (atN (ocN (ogP xs)) j))∧0<(ocN (ogP xs)).length∧(ocN (ogP xs)).length≤127:=by
 obtain ⟨h1,h2,h3,h4⟩:=ogE_all h
 obtain ⟨a,b⟩:=oc_all 128 0 (ogP xs) rfl (by decide) (og_own hx h1).1 h2
 refine ⟨a,fun j hj=>?_,ocT_pos (ogI_pos h1),ocN_le h2⟩
 have:=b j (by rw [ocN,List.length_map] at hj;exact hj)
 rw [Nat.zero_add] at this
 exact this
theorem wid_len (t:List Nd):(widO t).length=t.length+gapO t.length:=by rw [widO,List.length_append,List.length_replicate]
theorem og_tree (hx:Bytes xs) (h:ogE xs=0):trIs (widO (ocN (ogP xs))):=by
 obtain ⟨_,h2,h3,h4⟩:=og_nodes hx h
 refine ⟨.inr ?_,fun i hi=>?_⟩
 ·rw [wid_len]
  exact (gap_is h4 (Nat.le_refl _)).2 rfl
 rw [widO,atN_app_z]
 by_cases c:i<(ocN (ogP xs)).length
 ·exact h2 i c
 rw [atN_none (by omega)]
 exact ok_zero i
theorem og_last (hx:Bytes xs) (h:ogE xs=0):lastA (widO (ocN (ogP xs)))=((ocN (ogP xs)).length:Int)-1:=by
 obtain ⟨_,_,h3,_⟩:=og_nodes hx h
 rw [widO,last_app,lastA_one (j:=(ocN (ogP xs)).length-1) (by omega) (ogE_all h).2.2.1 fun q h1 h2=>by omega]
 omega
theorem og_is (hx:Bytes xs) (h:ogE xs=0):trIs (ogT xs)∧0<(ogT xs).length∧namedL (trAs (ogT xs))∧leavesA (trAs (ogT xs))≤64:=by
 have ht:=og_tree hx h
 have hl:=trIs_le ht
 rw [ogT_ok h]
 refine ⟨ht,by rw [wid_len];have:=(og_nodes hx h).2.2.1;omega,(ogE_all h).2.2.2,?_⟩
 rw [trAs_ok ht]
 unfold leavesA
 omega
theorem og_put (hx:Bytes xs) (h:ogE xs=0):opL (trAs (ogT xs))=xs:=by
 obtain ⟨h1,_,h3,_⟩:=og_nodes hx h
 have hn:numO (widO (ocN (ogP xs)))=(ocN (ogP xs)).length:=by
  unfold numO
  rw [og_last hx h]
  omega
 rw [ogT_ok h,trAs_ok (og_tree hx h),opL,hn,widO,List.take_left',h1,(og_own hx (ogE_all h).1).2]
 rfl
theorem og_root (hx:Bytes xs) (h:ogE xs=0) (h1:¬((ogT xs).length:Int)=1):rootI ((ogT xs).length:Int)-1<lastA (trAs (ogT xs)):=by
 have ht:=og_tree hx h
 obtain ⟨_,_,h3,h4⟩:=og_nodes hx h
 have hw:=ht.1.resolve_left (by rw [wid_len];omega)
 rw [ogT_ok h] at h1 ⊢
 rw [trAs_ok ht,og_last hx h,rootI,if_pos hw]
 rw [wid_len] at h1 ⊢
 unfold gapO at h1 ⊢
 repeat' split
 all_goals (repeat rw [if_neg (by omega)] at h1)
 all_goals (try rw [if_pos (by omega)] at h1)
 all_goals omega
theorem og_size (hx:Bytes xs) (h:ogE xs=0):0<xs.length∧((ogP xs).length≤1048576→(ogP xs).length≤xs.length):=by
 obtain ⟨_,e⟩:=og_own hx (ogE_all h).1
 have hp:=ogI_pos (ogE_all h).1
 refine ⟨?_,fun hl=>?_⟩
 ·cases xs with
  | nil =>
   rw [ogP_ok (ogE_all h).1] at hp
   exact absurd rfl hp
  | cons a r=>simp
 have:=bytesOct_length hl
 rw [e] at this
 omega
theorem og_small (hx:Bytes xs) (h:ogE xs=0):(ogP xs).length≤1048576:=by
 obtain ⟨h1,_,_,h4⟩:=og_nodes hx h
 have:=putT_le (ocN (ogP xs))
 rw [h1] at this
 omega
theorem og_long (hx:Bytes xs) (h:ogE xs=0) (m:Int):ogE (xs++[m])=2:=by
 obtain ⟨_,e⟩:=og_own hx (ogE_all h).1
 obtain ⟨b1,b2,b3⟩:=bytes_put (ogP xs) [m] (og_small hx h)
 rw [e] at b1 b3
 have hi:ogI (xs++[m])=2:=by rw [ogI,if_neg (not_not_intro b1),b3,if_pos (by simp)]
 rw [ogE_in (by rw [hi];decide),hi]
theorem og_short (hx:Bytes xs) (h:ogE xs=0):ogE (xs.take (xs.length-1))=1:=by
 obtain ⟨_,e⟩:=og_own hx (ogE_all h).1
 have hp:=(og_size hx h).1
 have b:=bytes_cut (ogP xs) (xs.length-1) (og_small hx h) (by rw [e];omega)
 rw [e] at b
 have hi:ogI (xs.take (xs.length-1))=1:=by rw [ogI,b,if_pos (by decide)]
 rw [ogE_in (by rw [hi];decide),hi]
end
end Go.Proofs.YtognnnjdoemgfaaDoor
