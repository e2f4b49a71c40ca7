/-
  Slices of numbers that came in, read as lists; small bounds.
-/
import Derived.Test.YtakbbenegojcdaaWiAwake
namespace Go.Proofs.Ytakbbenegojcdaa
open Go.ChangeShapes Go.WideShapes Go.ChangeAt Go.RowKit
set_option linter.unusedVariables false

theorem sizeN_bd (m : Int) : 0 ≤ sizeN m ∧ sizeN m ≤ 4 := by
  rcases sizeN_cases m with h | h | h | h <;> rw [h.1] <;> omega
end Go.Proofs.Ytakbbenegojcdaa
