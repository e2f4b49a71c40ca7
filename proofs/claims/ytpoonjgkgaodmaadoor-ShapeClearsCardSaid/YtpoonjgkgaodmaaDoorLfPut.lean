/-
  leaf.Put.
-/
import Derived.Test.YtpoonjgkgaodmaaDoorLfProg
namespace Go.Proofs.YtpoonjgkgaodmaaDoor
open Go.ChangeShapes Go.WideShapes Go.ChangeAt Go.RowKit
set_option linter.unusedVariables false

end Go.Proofs.YtpoonjgkgaodmaaDoor
