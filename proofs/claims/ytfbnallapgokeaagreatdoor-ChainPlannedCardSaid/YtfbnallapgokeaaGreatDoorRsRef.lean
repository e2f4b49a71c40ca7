/-
  Who has a key below a node: what the document answers.
-/
import Derived.Test.YtfbnallapgokeaaGreatDoorKitG
import Derived.Test.YtfbnallapgokeaaGreatDoorRsFork
namespace Go.Proofs.YtfbnallapgokeaaGreatDoor
open Go.ChangeShapes Go.WideShapes Go.ChangeAt Go.RowKit
set_option linter.unusedVariables false

end Go.Proofs.YtfbnallapgokeaaGreatDoor
