/-
  The document's Get.
-/
import Derived.Test.YtpoonjgkgaodmaaLfRef
namespace Go.Proofs.Ytpoonjgkgaodmaa
open Go.ChangeShapes Go.WideShapes Go.ChangeAt Go.RowKit
set_option linter.unusedVariables false

end Go.Proofs.Ytpoonjgkgaodmaa
