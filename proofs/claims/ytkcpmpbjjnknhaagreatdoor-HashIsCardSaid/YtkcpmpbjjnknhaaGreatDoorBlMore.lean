/-
  More facts on the types of this program; words of four octets.
-/
import Derived.Test.YtkcpmpbjjnknhaaGreatDoorBlRule
namespace Go.Proofs.YtkcpmpbjjnknhaaGreatDoor
open Go.ChangeShapes Go.WideShapes Go.ChangeAt Go.RowKit
set_option linter.unusedVariables false

theorem g8 : Tryz.prog.eqGuardType Tryz.prog.depth 83 = false := by kernel_rfl
theorem hus : Tryz.prog.underlying 158 = some (.slice 82) := by kernel_rfl
theorem hzw : (Tryz.prog.info? 82).map (fun i => (i.zero, i.size)) = some (some (.int .u32 0), 1) := by kernel_rfl
theorem y_bw {E : Env} {o : Oper} {w : World} {x : Operand} {X : BitVec 8} (ho : o.op = .convert 5 82 x) (hx : val E x = some (ov X)) : Yields Tryz.prog E o w (wv (X.setWidth 32)) := by
  have h := y_conv_u (w := w) hub huw ho hx
  have e : IntKind.u32.wrap (vb X) = vw (X.setWidth 32) := by rw [u_of_b, vw_wrap]
  rw [e] at h
  exact h
theorem y_wb {E : Env} {o : Oper} {w : World} {x : Operand} {X : BitVec 32} (ho : o.op = .convert 82 5 x) (hx : val E x = some (wv X)) : Yields Tryz.prog E o w (ov (X.setWidth 8)) := by
  have h := y_conv_u (w := w) huw hub ho hx
  have e : IntKind.u8.wrap (vw X) = vb (X.setWidth 8) := by
    rw [wrap_u8]
    unfold vw vb
    rw [BitVec.toNat_setWidth]
    omega
  rw [e] at h
  exact h
theorem or4 (i j k l : Nat) (hj : j < 256) (hk : k < 256) (hl : l < 256) : ((i <<< 24 ||| j <<< 16) ||| k <<< 8) ||| l = i * 16777216 + j * 65536 + k * 256 + l := by
  rw [Nat.or_assoc, Nat.or_assoc]
  rw [← Nat.shiftLeft_add_eq_or_of_lt (show l < 2 ^ 8 by omega) k]
  have e1 : k <<< 8 + l = k * 256 + l := by rw [Nat.shiftLeft_eq]
  rw [e1, ← Nat.shiftLeft_add_eq_or_of_lt (show k * 256 + l < 2 ^ 16 by omega) j]
  have e2 : j <<< 16 = j * 65536 := by rw [Nat.shiftLeft_eq]
  rw [e2, ← Nat.shiftLeft_add_eq_or_of_lt (show j * 65536 + (k * 256 + l) < 2 ^ 24 by omega) i]
  have e3 : i <<< 24 = i * 16777216 := by rw [Nat.shiftLeft_eq]
  rw [e3]
  omega
theorem sw_nat (x : BitVec 8) : (x.setWidth 32).toNat = x.toNat := by
  have := x.isLt
  rw [BitVec.toNat_setWidth, Nat.mod_eq_of_lt (by omega)]
theorem sh_nat (x : BitVec 8) (k : Nat) (hk : k ≤ 24) : (x.setWidth 32 <<< k).toNat = x.toNat <<< k := by
  rw [BitVec.toNat_shiftLeft, sw_nat, Nat.mod_eq_of_lt]
  have := x.isLt
  rw [Nat.shiftLeft_eq]
  calc x.toNat * 2 ^ k ≤ 255 * 2 ^ 24 := Nat.mul_le_mul (by omega) (Nat.pow_le_pow_right (by omega) hk)
    _ < 2 ^ 32 := by decide
theorem wd_nat (i j k l : BitVec 8) : (wd i j k l).toNat = i.toNat * 16777216 + j.toNat * 65536 + k.toNat * 256 + l.toNat := by
  unfold wd
  rw [BitVec.toNat_or, BitVec.toNat_or, BitVec.toNat_or, sh_nat _ _ (by omega), sh_nat _ _ (by omega), sh_nat _ _ (by omega), sw_nat]
  exact or4 _ _ _ _ j.isLt k.isLt l.isLt
theorem mul_nat (x : BitVec 8) (c : Nat) (hc : c ≤ 16777216) : (x.setWidth 32 * BitVec.ofNat 32 c).toNat = x.toNat * c := by
  have h := x.isLt
  have h1 : x.toNat * c ≤ 255 * 16777216 := Nat.mul_le_mul (by omega) hc
  rw [BitVec.toNat_mul, sw_nat, BitVec.toNat_ofNat, Nat.mod_eq_of_lt (show c < 2 ^ 32 by omega), Nat.mod_eq_of_lt (by omega)]
theorem wd_sum (i j k l : BitVec 8) : i.setWidth 32 * 16777216#32 + j.setWidth 32 * 65536#32 + k.setWidth 32 * 256#32 + l.setWidth 32 = wd i j k l := by
  apply BitVec.eq_of_toNat_eq
  have hi := i.isLt
  have hj := j.isLt
  have hk := k.isLt
  have hl := l.isLt
  rw [wd_nat, BitVec.toNat_add, BitVec.toNat_add, BitVec.toNat_add, mul_nat _ _ (by omega), mul_nat _ _ (by omega), mul_nat _ _ (by omega), sw_nat]
  generalize i.toNat = a at *
  generalize j.toNat = b at *
  generalize k.toNat = c at *
  generalize l.toNat = d at *
  omega
end Go.Proofs.YtkcpmpbjjnknhaaGreatDoor
