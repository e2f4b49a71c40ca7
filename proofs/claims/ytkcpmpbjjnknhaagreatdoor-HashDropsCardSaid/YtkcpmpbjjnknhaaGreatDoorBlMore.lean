/-
  More facts on the types of this program; words of four octets.
-/
import Derived.Test.YtkcpmpbjjnknhaaGreatDoorBlRule
namespace Go.Proofs.YtkcpmpbjjnknhaaGreatDoor
open Go.ChangeShapes Go.WideShapes Go.ChangeAt Go.RowKit
set_option linter.unusedVariables false

theorem g8 : Tryz.prog.eqGuardType Tryz.prog.depth 83 = false := by kernel_rfl
theorem y_wb {E : Env} {o : Oper} {w : World} {x : Operand} {X : BitVec 32} (ho : o.op = .convert 82 5 x) (hx : val E x = some (wv X)) : Yields Tryz.prog E o w (ov (X.setWidth 8)) := by
  have h := y_conv_u (w := w) huw hub ho hx
  have e : IntKind.u8.wrap (vw X) = vb (X.setWidth 8) := by
    rw [wrap_u8]
    unfold vw vb
    rw [BitVec.toNat_setWidth]
    omega
  rw [e] at h
  exact h
end Go.Proofs.YtkcpmpbjjnknhaaGreatDoor
