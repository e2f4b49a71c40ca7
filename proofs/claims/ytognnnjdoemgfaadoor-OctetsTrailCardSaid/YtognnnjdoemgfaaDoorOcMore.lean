/-
  What is put of trees that grow, who is named in them.
-/
import Derived.Test.YtognnnjdoemgfaaDoorOcMath
import Derived.Test.YtognnnjdoemgfaaDoorKitT
import Derived.Test.YtognnnjdoemgfaaDoorKitH
namespace Go.Proofs.YtognnnjdoemgfaaDoor
open Go.ChangeShapes Go.WideShapes Go.ChangeAt Go.RowKit
set_option linter.unusedVariables false

/-- Behind the last node that is not blank all are. -/
theorem blank_end {t:List Nd} (h:trIs t) {x:Nat} (hx:numO t≤x) (hl:x<t.length):atN t x=Nd.zero:=by
 have hk:(atN t x).kind=0:=by
  unfold numO at hx
  rcases lastA_is t with ⟨e,f⟩ | ⟨j,e,h1,h2,f⟩
  ·exact f x hl
  exact f x (by omega) hl
 rcases nd_cases (trIs_ok h x).1 with e | ⟨e,_⟩ | ⟨e,_⟩
 ·exact e
 ·omega
 omega
theorem set_end {t:List Nd} (h:trIs t) {x:Nat} (hx:numO t≤x) (hl:x<t.length):t.set x Nd.zero=t :=
 list_atN (by simp) fun i hi=>by
  rw [atN_setz]
  split
  ·rename_i e
   rw [e,blank_end h hx hl]
  rfl
theorem last_app {a:List Nd} {n:Nat}:lastA (a++List.replicate n Nd.zero)=lastA a:=by
 rcases lastA_is a with ⟨e,h⟩ | ⟨j,e,h1,h2,h3⟩
 ·rw [e]
  refine lastA_no fun j _=>?_
  rw [atN_app_z]
  by_cases c:j<a.length
  ·exact h j c
  rw [atN_none (by omega)]
 rw [e]
 refine lastA_one (by rw [List.length_append];omega) (by rw [atN_app_z];exact h2) fun q h4 _=>?_
 rw [atN_app_z]
 by_cases c:q<a.length
 ·exact h3 q h4 c
 rw [atN_none (by omega)]
theorem op_grow {t:List Nd} (h:trIs t) (e:growE t=0):opL (trAs (growL t))=opL (trAs t):=by
 have h1:=growL_ok e
 rw [trAs_ok h] at h1
 have hn:numO (growL t)=numO t:=by rw [numO,numO,h1,last_app]
 rw [trAs_ok (trIs_growL t),trAs_ok h,opL,opL,hn,h1,List.take_append_of_le_length (numO_le t).1]
end Go.Proofs.YtognnnjdoemgfaaDoor
