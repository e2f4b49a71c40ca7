/-
  The lowest bits of a number, as a remainder.
-/
import Derived.Test.YtonlkmepdehdgaaWiMath
import Derived.Laws.Bits128
namespace Go.Proofs.Ytonlkmepdehdgaa
open Go.ChangeShapes Go.WideShapes Go.ChangeAt Go.RowKit
set_option linter.unusedVariables false

theorem and_low (n m : Int) (k : Nat) (hm : (BitVec.ofInt 64 m).toNat = 2 ^ k - 1) (hk : k ≤ 62) : bits .and .i64 n m = n % ((2 ^ k : Nat) : Int) := by
  have key : (BitVec.ofInt 64 n &&& BitVec.ofInt 64 m).toNat = (n % ((2 ^ 64 : Nat) : Int)).toNat % 2 ^ k := by
    rw [BitVec.toNat_and, BitVec.toNat_ofInt, hm, Nat.and_two_pow_sub_one_eq_mod]
  show IntKind.i64.wrap ((BitVec.ofInt 64 n &&& BitVec.ofInt 64 m).toNat : Nat) = _
  have hp : (2 : Nat) ^ 64 = 2 ^ k * 2 ^ (64 - k) := by rw [← Nat.pow_add]; congr 1; omega
  have hd : ((2 ^ k : Nat) : Int) ∣ ((2 ^ 64 : Nat) : Int) := ⟨((2 ^ (64 - k) : Nat) : Int), by rw [hp]; rfl⟩
  have hle : (2 : Nat) ^ k ≤ 2 ^ 62 := Nat.pow_le_pow_right (by omega) hk
  have h0 : (0 : Int) ≤ n % ((2 ^ 64 : Nat) : Int) := Int.emod_nonneg _ (by decide)
  have e : (((n % ((2 ^ 64 : Nat) : Int)).toNat % 2 ^ k : Nat) : Int) = n % ((2 ^ k : Nat) : Int) := by
    rw [Int.natCast_emod, Int.toNat_of_nonneg h0, Int.emod_emod_of_dvd _ hd]
  rw [key, e]
  have hpos : (0 : Int) < ((2 ^ k : Nat) : Int) := by have := Nat.two_pow_pos k; omega
  have h1 := Int.emod_nonneg n (show ((2 ^ k : Nat) : Int) ≠ 0 from by omega)
  have h2 := Int.emod_lt_of_pos n hpos
  have h3 : ((2 ^ k : Nat) : Int) ≤ 4611686018427387904 := by
    have : (2 : Nat) ^ 62 = 4611686018427387904 := by decide
    omega
  generalize n % ((2 ^ k : Nat) : Int) = r at *
  rw [IntKind.wrap_i64]
  omega
theorem and_1 (n : Int) : bits .and .i64 n 1 = n % 2 := and_low n 1 1 (by decide) (by decide)
theorem and_255 (n : Int) : bits .and .i64 n 255 = n % 256 := and_low n 255 8 (by decide) (by decide)
theorem and_65535 (n : Int) : bits .and .i64 n 65535 = n % 65536 := and_low n 65535 16 (by decide) (by decide)
theorem and_16777215 (n : Int) : bits .and .i64 n 16777215 = n % 16777216 := and_low n 16777215 24 (by decide) (by decide)
theorem and_4294967295 (n : Int) : bits .and .i64 n 4294967295 = n % 4294967296 := and_low n 4294967295 32 (by decide) (by decide)
end Go.Proofs.Ytonlkmepdehdgaa
