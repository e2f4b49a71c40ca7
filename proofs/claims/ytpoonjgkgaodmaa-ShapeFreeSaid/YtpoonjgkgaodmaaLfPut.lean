/-
  leaf.Put.
-/
import Derived.Test.YtpoonjgkgaodmaaLfProg
namespace Go.Proofs.Ytpoonjgkgaodmaa
open Go.ChangeShapes Go.WideShapes Go.ChangeAt Go.RowKit
set_option linter.unusedVariables false

end Go.Proofs.Ytpoonjgkgaodmaa
