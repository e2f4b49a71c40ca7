/-
  A tree without some leaves: the document.
-/
import Derived.Test.YtkcpmpbjjnknhaaGreatDoorHsDrop
namespace Go.Proofs.YtkcpmpbjjnknhaaGreatDoor
open Go.ChangeShapes Go.WideShapes Go.ChangeAt Go.RowKit
set_option linter.unusedVariables false

set_option maxRecDepth 20000
end Go.Proofs.YtkcpmpbjjnknhaaGreatDoor
