/-
  Contracts of wire's lists, and of the document's, with slices as one letter each.
-/
import Derived.Test.YtpoonjgkgaodmaaDoorWiS
import Derived.Test.YtpoonjgkgaodmaaDoorKitA
import Derived.Test.YtpoonjgkgaodmaaDoorKitR
namespace Go.Proofs.YtpoonjgkgaodmaaDoor
open Go.ChangeShapes Go.WideShapes Go.ChangeAt Go.RowKit
set_option linter.unusedVariables false

section
variable {w : World} {B B2 : Nat} {s s2 : SlV} {xs vs ls : List Int}
def GotNumsS (w : World) (B : Nat) (xs : List Int) (v : Value) (w' : World) : Prop :=
  ∃ p r : SlV, v = .tuple #[p.v, r.v, nv (numsE xs)] ∧ SlN w' w'.heap.size p (numsL xs) ∧ Sl w' B r (numsR xs) ∧ Below w.heap.size w w'
theorem GotNumsS.of {w' : World} {e : Ending} (h : GotNums w B (numsL xs) (numsR xs) (numsE xs) e w') : ∃ v, e = .returned v ∧ GotNumsS w B xs v w' := by
  obtain ⟨A1, n1, c1, A, n, c, rfl, h1, h2, h3, h4, h5, h6, h7⟩ := h
  exact ⟨_, rfl, ⟨A1, n1, c1⟩, ⟨A, n, c⟩, rfl, ⟨h1, h2, h5⟩, ⟨h3, h4, h6⟩, h7⟩
/-- As GotNumsS; the numbers lie in a block that was not there. -/
def GotNumsSF (w : World) (B : Nat) (xs : List Int) (v : Value) (w' : World) : Prop :=
  ∃ p r : SlV, v = .tuple #[p.v, r.v, nv (numsE xs)] ∧ SlN w' w'.heap.size p (numsL xs) ∧ Sl w' B r (numsR xs) ∧ Fr w.heap.size p ∧ Below w.heap.size w w'
theorem GotNumsSF.of {w' : World} {e : Ending} (h : GotNumsF w B (numsL xs) (numsR xs) (numsE xs) e w') : ∃ v, e = .returned v ∧ GotNumsSF w B xs v w' := by
  obtain ⟨A1, n1, c1, A, n, c, rfl, h1, h2, h3, h4, h5, h6, h7, h8⟩ := h
  exact ⟨_, rfl, ⟨A1, n1, c1⟩, ⟨A, n, c⟩, rfl, ⟨h1, h2, h5⟩, ⟨h3, h4, h6⟩, h8, h7⟩
end
end Go.Proofs.YtpoonjgkgaodmaaDoor
