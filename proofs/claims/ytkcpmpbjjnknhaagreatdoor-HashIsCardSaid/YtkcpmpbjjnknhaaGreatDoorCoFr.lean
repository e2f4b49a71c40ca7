/-
  What stands beside ways up: the numbers that are handed out are new.
-/
import Derived.Test.YtkcpmpbjjnknhaaGreatDoorKitI
namespace Go.Proofs.YtkcpmpbjjnknhaaGreatDoor
open Go.ChangeShapes Go.WideShapes Go.ChangeAt Go.RowKit
set_option linter.unusedVariables false

end Go.Proofs.YtkcpmpbjjnknhaaGreatDoor
