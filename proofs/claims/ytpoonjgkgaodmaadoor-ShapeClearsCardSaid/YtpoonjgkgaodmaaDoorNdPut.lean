/-
  node.Put, Get, and what is summed up.
-/
import Derived.Test.YtpoonjgkgaodmaaDoorNdProg
namespace Go.Proofs.YtpoonjgkgaodmaaDoor
open Go.ChangeShapes Go.WideShapes Go.ChangeAt Go.RowKit
set_option linter.unusedVariables false

section
set_option maxHeartbeats 1000000
end
end Go.Proofs.YtpoonjgkgaodmaaDoor
