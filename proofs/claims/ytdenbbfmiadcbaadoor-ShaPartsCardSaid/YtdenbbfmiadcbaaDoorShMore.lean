/-
  A new state behind octets.
-/
import Derived.Test.YtdenbbfmiadcbaaDoorShAwake
namespace Go.Proofs.YtdenbbfmiadcbaaDoor
open Go.ChangeShapes Go.WideShapes Go.ChangeAt Go.RowKit
set_option linter.unusedVariables false
set_option maxRecDepth 20000
theorem yb2 {P : Program} {E : Env} {o : Oper} {w : World} {b c : Bool} (y : Yields P E o w (.bool b)) (h : b = c) : Yields P E o w (.bool c) := h ▸ y
theorem new_wr (ys : List Int) (h : (ys.length : Int) ≤ 1125899906842624) : S.new.wr ys = ⟨hOf firstF ys, rest ys, ys.length⟩ := by
  have hn : S.new.as = S.new := S.as_ok S.new_ok
  have h1 := S.wr_eq S.new ys (by rw [hn]; show (0 : Int) + ys.length ≤ _; omega)
  rw [hn] at h1
  rw [h1]
  show S.mk (hOf firstF ([] ++ ys)) (rest ([] ++ ys)) ((0 : Int) + ys.length) = _
  rw [List.nil_append, Int.zero_add]
theorem new_as : S.new.as.n = 0 := by rw [S.as_ok S.new_ok]; rfl
end Go.Proofs.YtdenbbfmiadcbaaDoor
