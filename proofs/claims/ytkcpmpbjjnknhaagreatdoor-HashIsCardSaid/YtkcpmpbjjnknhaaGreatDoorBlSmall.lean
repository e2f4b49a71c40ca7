/-
  Contracts of block's small functions, and of the document's, on any words.
-/
import Derived.Test.YtkcpmpbjjnknhaaGreatDoorKitA
import Derived.Lib.Hide
namespace Go.Proofs.YtkcpmpbjjnknhaaGreatDoor
open Go.ChangeShapes Go.WideShapes Go.ChangeAt Go.RowKit
set_option linter.unusedVariables false

/-- A word whose lowest n bits go to the top. -/
def tw (n : Nat) (x : BitVec 32) : BitVec 32 := x >>> n ||| x <<< (32 - n)
def chw (e f g : BitVec 32) : BitVec 32 := e &&& f ||| ~~~e &&& g
def mjw (a b c : BitVec 32) : BitVec 32 := a &&& b ||| a &&& c ||| b &&& c
def wd (i j k l : BitVec 8) : BitVec 32 := i.setWidth 32 <<< 24 ||| j.setWidth 32 <<< 16 ||| k.setWidth 32 <<< 8 ||| l.setWidth 32

theorem chosen_any (x y z : BitVec 32) (w : World) : Calls Tryz.prog 185 #[.int .u32 (vw x), .int .u32 (vw y), .int .u32 (vw z)] w fun e w' => e = .returned (.int .u32 (vw (chw x y z))) ∧ w' = w := by
  go_enter Tryz.func185, Tryz.ntmps185
  go_wp2
  go_ret
  refine ⟨?_, rfl⟩
  show Ending.returned (Value.int .u32 (bits .or .u32 (bits .and .u32 (vw x) (vw y)) (bits .and .u32 (bits .xor .u32 IntKind.u32.max (vw x)) (vw z)))) = _
  rw [u_not, u_and, u_and, u_or]
  rfl
theorem most_any (x y z : BitVec 32) (w : World) : Calls Tryz.prog 186 #[.int .u32 (vw x), .int .u32 (vw y), .int .u32 (vw z)] w fun e w' => e = .returned (.int .u32 (vw (mjw x y z))) ∧ w' = w := by
  go_enter Tryz.func186, Tryz.ntmps186
  go_wp2
  go_ret
  refine ⟨?_, rfl⟩
  show Ending.returned (Value.int .u32 (bits .or .u32 (bits .or .u32 (bits .and .u32 (vw x) (vw y)) (bits .and .u32 (vw x) (vw z))) (bits .and .u32 (vw y) (vw z)))) = _
  rw [u_and, u_and, u_and, u_or, u_or]
  rfl
theorem rotl_any (x : BitVec 32) (n : Nat) (h0 : 0 < n) (h1 : n < 32) (w : World) : Calls Tryz.prog 195 #[.int .u32 (vw x), .int .i64 (-(n : Int))] w fun e w' => e = .returned (.int .u32 (vw (tw n x))) ∧ w' = w := by
  have r4 := neg_and n h0 h1
  have r5 : ((32 : Int) - ((32 - n : Nat) : Int)) = (n : Int) := by omega
  go_enter Tryz.func195, Tryz.ntmps195
  go_wp2
  go_ret
  refine ⟨?_, rfl⟩
  show Ending.returned (Value.int .u32 (bits .or .u32 (vw x * 2 ^ (32 - n) % 4294967296) (vw x / 2 ^ n))) = _
  rw [e_shl, e_shr, u_or, BitVec.or_comm]
  rfl
theorem turned_any (x : BitVec 32) (n : Nat) (h0 : 0 < n) (h1 : n < 32) (w : World) : Calls Tryz.prog 184 #[.int .u32 (vw x), .int .i64 (n : Int)] w fun e w' => e = .returned (.int .u32 (vw (tw n x))) ∧ w' = w := by
  go_enter Tryz.func184, Tryz.ntmps184
  go_wp2_with fail
  refine (rotl_any x n h0 h1 _).mono ?_
  rintro e w' ⟨rfl, rfl⟩
  go_wp2
  go_ret
  exact ⟨rfl, rfl⟩
theorem word_any (x y z u : BitVec 8) (w : World) : Calls Tryz.prog 183 #[.int .u8 (vb x), .int .u8 (vb y), .int .u8 (vb z), .int .u8 (vb u)] w fun e w' => e = .returned (.int .u32 (vw (wd x y z u))) ∧ w' = w := by
  have hx := vb_range x
  have hy := vb_range y
  have hz := vb_range z
  have hu := vb_range u
  have ex : vb x * (16777216 : Int) = vw (x.setWidth 32 <<< 24) := by rw [← e_shl, ← u_of_b]; omega
  have ey : vb y * (65536 : Int) = vw (y.setWidth 32 <<< 16) := by rw [← e_shl, ← u_of_b]; omega
  have ez : vb z * (256 : Int) = vw (z.setWidth 32 <<< 8) := by rw [← e_shl, ← u_of_b]; omega
  have EX := Lib.hid ex
  have EY := Lib.hid ey
  have EZ := Lib.hid ez
  clear ex ey ez
  go_enter Tryz.func183, Tryz.ntmps183
  go_wp2
  go_ret
  refine ⟨?_, rfl⟩
  show Ending.returned (Value.int .u32 (bits .or .u32 (bits .or .u32 (bits .or .u32 (vb x * 16777216) (vb y * 65536)) (vb z * 256)) (vb u))) = _
  rw [EX.out, EY.out, EZ.out, u_of_b u, u_or, u_or, u_or]
  rfl
theorem rturned_any (x : BitVec 32) (n : Nat) (h0 : 0 < n) (h1 : n < 32) (w : World) : Calls Tryz.prog 164 #[.int .u32 (vw x), .int .i64 (n : Int)] w fun e w' => e = .returned (.int .u32 (vw (tw n x))) ∧ w' = w := by
  have r5 : ((32 : Int) - (n : Int)) = ((32 - n : Nat) : Int) := by omega
  go_enter Tryz.func164, Tryz.ntmps164
  go_wp2
  go_ret
  refine ⟨?_, rfl⟩
  show Ending.returned (Value.int .u32 (bits .or .u32 (vw x / 2 ^ n) (vw x * 2 ^ (32 - n) % 4294967296))) = _
  rw [e_shl, e_shr, u_or]
  rfl
theorem rmoved_any (x : BitVec 32) (n : Nat) (h0 : 0 < n) (h1 : n < 32) (w : World) : Calls Tryz.prog 187 #[.int .u32 (vw x), .int .i64 (n : Int)] w fun e w' => e = .returned (.int .u32 (vw (x >>> n))) ∧ w' = w := by
  go_enter Tryz.func187, Tryz.ntmps187
  go_wp2
  go_ret
  refine ⟨?_, rfl⟩
  show Ending.returned (Value.int .u32 (vw x / 2 ^ n)) = _
  rw [e_shr]
end Go.Proofs.YtkcpmpbjjnknhaaGreatDoor
