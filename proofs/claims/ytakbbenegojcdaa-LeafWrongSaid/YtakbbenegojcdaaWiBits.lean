/-
  The lowest bits of a number, as a remainder.
-/
import Derived.Test.YtakbbenegojcdaaWiMath
import Derived.Laws.Bits128
import Derived.Test.YtakbbenegojcdaaArith
namespace Go.Proofs.Ytakbbenegojcdaa
open Go.ChangeShapes Go.WideShapes Go.ChangeAt Go.RowKit
set_option linter.unusedVariables false
end Go.Proofs.Ytakbbenegojcdaa
