/-
  The document's Pad, Done, Sum and Same.
-/
import Derived.Test.YtkcpmpbjjnknhaaGreatDoorShRefW
namespace Go.Proofs.YtkcpmpbjjnknhaaGreatDoor
open Go.ChangeShapes Go.WideShapes Go.ChangeAt Go.RowKit
set_option linter.unusedVariables false
set_option maxRecDepth 20000
end Go.Proofs.YtkcpmpbjjnknhaaGreatDoor
