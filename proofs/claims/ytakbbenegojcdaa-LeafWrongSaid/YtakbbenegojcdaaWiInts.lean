/-
  The contract of the document's own comparison of two lists of numbers, where they are the same.
-/
import Derived.Test.YtakbbenegojcdaaWiNums
namespace Go.Proofs.Ytakbbenegojcdaa
open Go.ChangeShapes Go.WideShapes Go.ChangeAt Go.RowKit
set_option linter.unusedVariables false

end Go.Proofs.Ytakbbenegojcdaa
