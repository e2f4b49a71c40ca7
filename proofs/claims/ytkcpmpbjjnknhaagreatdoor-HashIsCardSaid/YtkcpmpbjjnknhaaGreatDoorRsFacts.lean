/-
  What the statements of layer 11 ask of those that are told: pure.
-/
import Derived.Test.YtkcpmpbjjnknhaaGreatDoorRsMath
import Derived.Test.YtkcpmpbjjnknhaaGreatDoorKitI
namespace Go.Proofs.YtkcpmpbjjnknhaaGreatDoor
open Go.ChangeShapes Go.WideShapes Go.ChangeAt Go.RowKit
set_option linter.unusedVariables false

-- children, and below
-- those that are told of a node
-- those that have a key
theorem getD_in {l : List Int} {k : Nat} (h : k < l.length) : l.getD k 0 ∈ l := by
  rw [List.getD_eq_getElem?_getD, List.getElem?_eq_getElem h]
  exact List.getElem_mem h
-- a way up, filtered
-- a tree that has grown
section
variable {t g : List Nd} (hl : (g.length : Int) = 2 * t.length + 1) (hw : (t.length : Int) ≤ 63) (ha : ∀ i, atN g i = atN t i)
include hl hw ha
end
theorem grown {t : List Nd} (ht : trIs t) (h : growE t = 0) : ((growL t).length : Int) = 2 * t.length + 1 ∧ (t.length : Int) ≤ 63 ∧ ∀ i, atN (growL t) i = atN t i := by
  have h1 := growL_len h
  have h2 := grow_small h
  have h3 := growL_ok h
  rw [trAs_ok ht] at h1 h2 h3
  exact ⟨by omega, by omega, fun i => by rw [h3, atN_app_z]⟩
end Go.Proofs.YtkcpmpbjjnknhaaGreatDoor
