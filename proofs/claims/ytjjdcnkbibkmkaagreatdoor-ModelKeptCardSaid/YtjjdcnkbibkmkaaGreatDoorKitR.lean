/-
  KitR: VaRef, WiRef, WiRefP, WiRefN.
-/
import Derived.Test.YtjjdcnkbibkmkaaGreatDoorKitV
namespace Go.Proofs.YtjjdcnkbibkmkaaGreatDoor
open Go.ChangeShapes Go.WideShapes Go.ChangeAt Go.RowKit
set_option linter.unusedVariables false

/- VaRef:
  The contracts of the document's own answers for layer 1 (the reference's Size, Get and Put), for every argument.
-/
/- WiRef:
  Contracts of the document's own answers for layer 2 that get: count, GetNum, GetFlag, GetBytes; and its varint Put, with the row as the call's own.
-/
/- WiRefP:
  Contracts of the document's own answers for layer 2 that put: PutNum, PutFlag, PutBytes, PutNums.
-/
/- WiRefN:
  The contract of the document's own GetNums; numbers appended to a row of the call's own.
-/
end Go.Proofs.YtjjdcnkbibkmkaaGreatDoor
