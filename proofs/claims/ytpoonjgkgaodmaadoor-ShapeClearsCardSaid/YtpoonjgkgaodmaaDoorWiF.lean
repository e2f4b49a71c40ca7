/-
  Flags, with slices of octets as one letter each.
-/
import Derived.Test.YtpoonjgkgaodmaaDoorWiS
namespace Go.Proofs.YtpoonjgkgaodmaaDoor
open Go.ChangeShapes Go.WideShapes Go.ChangeAt Go.RowKit
set_option linter.unusedVariables false

/-- A flag, the rest and an error. -/
def GotFlagS (w : World) (B : Nat) (xs : List Int) (v : Value) (w' : World) : Prop :=
  ∃ (b : Bool) (r : SlV), v = .tuple #[.bool b, r.v, nv (flagE xs)] ∧ b = decide (flagB xs = true) ∧ Sl w' B r (flagR xs) ∧ Below w.heap.size w w'
section
variable {w w' : World} {B : Nat} {s : SlV} {xs : List Int} {e : Ending}
theorem GotFlagS.of (h : GotFlag w B (flagB xs) (flagR xs) (flagE xs) e w') : ∃ v, e = .returned v ∧ GotFlagS w B xs v w' := by
  obtain ⟨A, n, c, rfl, h3, h4, h6, h7⟩ := h
  exact ⟨_, rfl, _, ⟨A, n, c⟩, rfl, by simp, ⟨h3, h4, h6⟩, h7⟩
theorem flagOct_length (b : Bool) : (flagOct b).length = 1 := rfl
end
end Go.Proofs.YtpoonjgkgaodmaaDoor
