/-
  Words of 32 bits and octets as values; what the operations on them answer.
-/
import Derived.Test.YtakbbenegojcdaaRows
import Derived.WalkKit
import Derived.ProofKit
import Derived.Below
namespace Go.Proofs.Ytakbbenegojcdaa
open Go.ChangeShapes Go.WideShapes Go.ChangeAt Go.RowKit
set_option linter.unusedVariables false

/-- A word, an octet, as the number that a value holds. -/
def vw (x : BitVec 32) : Int := (x.toNat : Int)
def vb (x : BitVec 8) : Int := (x.toNat : Int)

theorem vw_ofInt (x : BitVec 32) : BitVec.ofInt 32 (vw x) = x := by
  unfold vw
  rw [BitVec.ofInt_natCast, BitVec.ofNat_toNat, BitVec.setWidth_eq]
theorem vb_ofInt (x : BitVec 8) : BitVec.ofInt 8 (vb x) = x := by
  unfold vb
  rw [BitVec.ofInt_natCast, BitVec.ofNat_toNat, BitVec.setWidth_eq]
theorem wrap_u32 (n : Int) : IntKind.u32.wrap n = n % 4294967296 := by
  unfold IntKind.wrap
  simp [IntKind.bits, IntKind.signed]
theorem wrap_u8 (n : Int) : IntKind.u8.wrap n = n % 256 := by
  unfold IntKind.wrap
  simp [IntKind.bits, IntKind.signed]
theorem vw_range (x : BitVec 32) : 0 ≤ vw x ∧ vw x ≤ 4294967295 := by
  unfold vw
  have := x.isLt
  omega
theorem vb_range (x : BitVec 8) : 0 ≤ vb x ∧ vb x ≤ 255 := by
  unfold vb
  have := x.isLt
  omega
theorem vw_inj {x y : BitVec 32} (h : vw x = vw y) : x = y := by
  rw [← vw_ofInt x, ← vw_ofInt y, h]
theorem vb_inj {x y : BitVec 8} (h : vb x = vb y) : x = y := by
  rw [← vb_ofInt x, ← vb_ofInt y, h]
theorem vw_wrap (x : BitVec 32) : IntKind.u32.wrap (vw x) = vw x := by
  have := vw_range x
  rw [wrap_u32]
  omega
theorem wrap_of (n : Int) : IntKind.u32.wrap n = vw (BitVec.ofInt 32 n) := by
  rw [wrap_u32]
  unfold vw
  rw [BitVec.toNat_ofInt]
  omega
theorem u_and (x y : BitVec 32) : bits .and .u32 (vw x) (vw y) = vw (x &&& y) := by
  show IntKind.u32.wrap ((BitVec.ofInt 32 (vw x) &&& BitVec.ofInt 32 (vw y)).toNat : Nat) = _
  rw [vw_ofInt, vw_ofInt]
  exact vw_wrap _
theorem u_or (x y : BitVec 32) : bits .or .u32 (vw x) (vw y) = vw (x ||| y) := by
  show IntKind.u32.wrap ((BitVec.ofInt 32 (vw x) ||| BitVec.ofInt 32 (vw y)).toNat : Nat) = _
  rw [vw_ofInt, vw_ofInt]
  exact vw_wrap _
theorem u_xor (x y : BitVec 32) : bits .xor .u32 (vw x) (vw y) = vw (x ^^^ y) := by
  show IntKind.u32.wrap ((BitVec.ofInt 32 (vw x) ^^^ BitVec.ofInt 32 (vw y)).toNat : Nat) = _
  rw [vw_ofInt, vw_ofInt]
  exact vw_wrap _
theorem b_xor (x y : BitVec 8) : bits .xor .u8 (vb x) (vb y) = vb (x ^^^ y) := by
  show IntKind.u8.wrap ((BitVec.ofInt 8 (vb x) ^^^ BitVec.ofInt 8 (vb y)).toNat : Nat) = _
  rw [vb_ofInt, vb_ofInt]
  have := vb_range (x ^^^ y)
  rw [wrap_u8]
  show vb (x ^^^ y) % 256 = _
  omega
theorem u_not (x : BitVec 32) : bits .xor .u32 IntKind.u32.max (vw x) = vw (~~~x) := by
  rw [show IntKind.u32.max = vw 4294967295#32 from rfl, u_xor]
  refine congrArg vw ?_
  rw [show (4294967295#32 : BitVec 32) = BitVec.allOnes 32 from rfl, BitVec.allOnes_xor]
theorem u_add (x y : BitVec 32) : IntKind.u32.wrap (vw x + vw y) = vw (x + y) := by
  rw [wrap_of]
  refine congrArg vw ?_
  rw [BitVec.ofInt_add, vw_ofInt, vw_ofInt]
theorem u_sub (x y : BitVec 32) : IntKind.u32.wrap (vw x - vw y) = vw (x - y) := by
  rw [wrap_of]
  refine congrArg vw ?_
  rw [Int.sub_eq_add_neg, BitVec.ofInt_add, BitVec.ofInt_neg, vw_ofInt, vw_ofInt, BitVec.sub_eq_add_neg]
theorem u_mul (x y : BitVec 32) : IntKind.u32.wrap (vw x * vw y) = vw (x * y) := by
  rw [wrap_of]
  refine congrArg vw ?_
  rw [BitVec.ofInt_mul, vw_ofInt, vw_ofInt]
theorem u_shl (P : Program) (x : BitVec 32) (k : Nat) (hk : k < 32) (yk : IntKind) (w : World) : (Op.shift .shl .u32 (vw x) yk (k : Nat)).run P w = .ok (.int .u32 (vw (x <<< k))) w := by
  have e : IntKind.u32.wrap (vw x * 2 ^ k) = vw (x <<< k) := by
    rw [wrap_u32]
    unfold vw
    rw [BitVec.toNat_shiftLeft, Nat.shiftLeft_eq, Int.natCast_emod, Int.natCast_mul, Int.natCast_pow]
    rfl
  unfold Op.shift
  rw [if_neg (by omega)]
  have hm : min ((k : Int).toNat) IntKind.u32.bits = k := by
    show min ((k : Int).toNat) 32 = k
    omega
  simp only [hm, e]
  rfl
theorem u_shr (P : Program) (x : BitVec 32) (k : Nat) (hk : k < 32) (yk : IntKind) (w : World) : (Op.shift .shr .u32 (vw x) yk (k : Nat)).run P w = .ok (.int .u32 (vw (x >>> k))) w := by
  have e : (vw x).fdiv (2 ^ k) = vw (x >>> k) := by
    unfold vw
    rw [BitVec.toNat_ushiftRight, Nat.shiftRight_eq_div_pow, Int.fdiv_eq_ediv_of_nonneg _ (by exact_mod_cast Nat.zero_le (2 ^ k)), Int.natCast_ediv, Int.natCast_pow]
    rfl
  unfold Op.shift
  rw [if_neg (by omega)]
  have hm : min ((k : Int).toNat) IntKind.u32.bits = k := by
    show min ((k : Int).toNat) 32 = k
    omega
  simp only [hm, e]
  rfl
theorem e_shl (x : BitVec 32) (k : Nat) : vw x * 2 ^ k % 4294967296 = vw (x <<< k) := by
  unfold vw
  rw [BitVec.toNat_shiftLeft, Nat.shiftLeft_eq, Int.natCast_emod, Int.natCast_mul, Int.natCast_pow]
  rfl
theorem e_shr (x : BitVec 32) (k : Nat) : vw x / 2 ^ k = vw (x >>> k) := by
  unfold vw
  rw [BitVec.toNat_ushiftRight, Nat.shiftRight_eq_div_pow, Int.natCast_ediv, Int.natCast_pow]
  rfl
theorem u_of_b (x : BitVec 8) : vb x = vw (x.setWidth 32) := by
  unfold vb vw
  rw [BitVec.toNat_setWidth]
  have := x.isLt
  omega
theorem neg_and (n : Nat) (h0 : 0 < n) (h1 : n < 32) : bits .and .u64 (IntKind.u64.wrap (-(n : Int))) 31 = ((32 - n : Nat) : Int) := by
  have : ∀ n : Fin 32, 0 < n.val → bits .and .u64 (IntKind.u64.wrap (-(n.val : Int))) 31 = ((32 - n.val : Nat) : Int) := by decide
  exact this ⟨n, h1⟩ h0
end Go.Proofs.Ytakbbenegojcdaa
