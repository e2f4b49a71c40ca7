/-
  node.Put, Get, and what is summed up.
-/
import Derived.Test.YtpoonjgkgaodmaaNdProg
namespace Go.Proofs.Ytpoonjgkgaodmaa
open Go.ChangeShapes Go.WideShapes Go.ChangeAt Go.RowKit
set_option linter.unusedVariables false

section
set_option maxHeartbeats 1000000
end
end Go.Proofs.Ytpoonjgkgaodmaa
