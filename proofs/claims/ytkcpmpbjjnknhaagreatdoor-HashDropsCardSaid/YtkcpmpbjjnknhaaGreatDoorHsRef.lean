/-
  The hash of a tree: what the document answers.
-/
import Derived.Test.YtkcpmpbjjnknhaaGreatDoorHsProg
import Derived.Test.YtkcpmpbjjnknhaaGreatDoorTrRef
namespace Go.Proofs.YtkcpmpbjjnknhaaGreatDoor
open Go.ChangeShapes Go.WideShapes Go.ChangeAt Go.RowKit
set_option linter.unusedVariables false

end Go.Proofs.YtkcpmpbjjnknhaaGreatDoor
