/-
  What the statements of layer 14 ask of what is done: pure.
-/
import Derived.Test.YtfdmhdnlmndhdaaGreatDoorEdMath
namespace Go.Proofs.YtfdmhdnlmndhdaaGreatDoor
open Go.ChangeShapes Go.WideShapes Go.ChangeAt Go.RowKit
set_option linter.unusedVariables false

-- a leaf that is added
-- two leaves change
-- who is gone
-- who comes and goes
-- there is room for sixty-four
end Go.Proofs.YtfdmhdnlmndhdaaGreatDoor
