/-
  Who has a key below a node: what the document answers.
-/
import Derived.Test.YtfdmhdnlmndhdaaGreatDoorKitG
import Derived.Test.YtfdmhdnlmndhdaaGreatDoorRsFork
namespace Go.Proofs.YtfdmhdnlmndhdaaGreatDoor
open Go.ChangeShapes Go.WideShapes Go.ChangeAt Go.RowKit
set_option linter.unusedVariables false

end Go.Proofs.YtfdmhdnlmndhdaaGreatDoor
