/-
  The document's Get.
-/
import Derived.Test.YtpoonjgkgaodmaaDoorLfRef
namespace Go.Proofs.YtpoonjgkgaodmaaDoor
open Go.ChangeShapes Go.WideShapes Go.ChangeAt Go.RowKit
set_option linter.unusedVariables false

end Go.Proofs.YtpoonjgkgaodmaaDoor
