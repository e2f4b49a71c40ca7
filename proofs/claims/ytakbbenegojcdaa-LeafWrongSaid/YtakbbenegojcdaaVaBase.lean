/-
  Plain contracts of package varint's small functions (Size, told, marked), for every argument: what each returns, the world as it was.
-/
import Derived.Test.YtakbbenegojcdaaOct
namespace Go.Proofs.Ytakbbenegojcdaa
open Go.ChangeShapes Go.WideShapes Go.ChangeAt Go.RowKit
set_option linter.unusedVariables false

/-- How many octets a number has. -/
def sizeN (n : Int) : Int := if n < 0 ∨ 1073741823 < n then 0 else if n ≤ 63 then 1 else if n ≤ 16383 then 2 else 4
/-- How many octets a first octet tells. -/
def toldN (x : Int) : Int := if x < 64 then 1 else if x < 128 then 2 else if x < 192 then 4 else 0

theorem sizeN_0 {n : Int} (h : n < 0 ∨ 1073741823 < n) : sizeN n = 0 := by unfold sizeN; rw [if_pos h]
theorem sizeN_1 {n : Int} (h : 0 ≤ n) (h1 : n ≤ 63) : sizeN n = 1 := by unfold sizeN; rw [if_neg (by omega), if_pos h1]
theorem sizeN_2 {n : Int} (h : 63 < n) (h1 : n ≤ 16383) : sizeN n = 2 := by unfold sizeN; rw [if_neg (by omega), if_neg (by omega), if_pos h1]
theorem sizeN_4 {n : Int} (h : 16383 < n) (h1 : n ≤ 1073741823) : sizeN n = 4 := by unfold sizeN; rw [if_neg (by omega), if_neg (by omega), if_neg (by omega)]
theorem toldN_1 {n : Int} (h : n < 64) : toldN n = 1 := by unfold toldN; rw [if_pos h]
theorem toldN_2 {n : Int} (h : 64 ≤ n) (h1 : n < 128) : toldN n = 2 := by unfold toldN; rw [if_neg (by omega), if_pos h1]
theorem toldN_4 {n : Int} (h : 128 ≤ n) (h1 : n < 192) : toldN n = 4 := by unfold toldN; rw [if_neg (by omega), if_neg (by omega), if_pos h1]
theorem toldN_0 {n : Int} (h : 192 ≤ n) : toldN n = 0 := by unfold toldN; rw [if_neg (by omega), if_neg (by omega), if_neg (by omega)]

/-- The number that octets tell, the mark of the first one taken off. -/
def valN (x : Int) (ys : List Int) : Int := ys.foldl (fun a y => a * 256 + y) (x % 64)
theorem valN_snoc (x y : Int) (l : List Int) : valN x (l ++ [y]) = valN x l * 256 + y := by simp [valN, List.foldl_append]
theorem valN_step (x : Int) (ys : List Int) (j : Nat) (h : j < ys.length) : valN x (ys.take (j + 1)) = valN x (ys.take j) * 256 + ys[j] := by
  rw [List.take_succ_eq_append_getElem h, valN_snoc]
theorem valN_bd (x : Int) (ys : List Int) (h : ∀ y ∈ ys, 0 ≤ y ∧ y ≤ 255) (hl : ys.length ≤ 3) : 0 ≤ valN x ys ∧ valN x ys < 1073741824 := by
  match ys, h, hl with
  | [], _, _ => simp only [valN, List.foldl_nil]; omega
  | [a], h, _ => have ha := h a (by simp); simp only [valN, List.foldl_nil, List.foldl_cons]; omega
  | [a, b], h, _ => have ha := h a (by simp); have hb := h b (by simp); simp only [valN, List.foldl_nil, List.foldl_cons]; omega
  | [a, b, c], h, _ => have ha := h a (by simp); have hb := h b (by simp); have hc := h c (by simp); simp only [valN, List.foldl_nil, List.foldl_cons]; omega
  | _ :: _ :: _ :: _ :: _, _, hl => simp at hl

theorem size_any (n : Int) (w : World) : Calls Try.prog 44 #[.int .i64 n] w fun e w' => e = .returned (.int .i64 (sizeN n)) ∧ w = w' := by
  by_cases h0 : n < 0
  · go_enter Try.func44, Try.ntmps44
    go_wp2
    go_ret
    exact ⟨retInt (sizeN_0 (.inl h0)).symm, rfl⟩
  · by_cases h1 : 1073741823 < n
    · go_enter Try.func44, Try.ntmps44
      go_wp2
      go_ret
      exact ⟨retInt (sizeN_0 (.inr h1)).symm, rfl⟩
    · by_cases h2 : n ≤ 63
      · go_enter Try.func44, Try.ntmps44
        go_wp2
        go_ret
        exact ⟨retInt (sizeN_1 (by omega) h2).symm, rfl⟩
      · by_cases h3 : n ≤ 16383
        · go_enter Try.func44, Try.ntmps44
          go_wp2
          go_ret
          exact ⟨retInt (sizeN_2 (by omega) h3).symm, rfl⟩
        · go_enter Try.func44, Try.ntmps44
          go_wp2
          go_ret
          exact ⟨retInt (sizeN_4 (by omega) (by omega)).symm, rfl⟩

theorem told_any (n : Int) (w : World) : Calls Try.prog 43 #[.int .u8 n] w fun e w' => e = .returned (.int .i64 (toldN n)) ∧ w = w' := by
  by_cases h0 : n < 64
  · go_enter Try.func43, Try.ntmps43
    go_wp2
    go_ret
    exact ⟨retInt (toldN_1 h0).symm, rfl⟩
  · by_cases h1 : n < 128
    · go_enter Try.func43, Try.ntmps43
      go_wp2
      go_ret
      exact ⟨retInt (toldN_2 (by omega) h1).symm, rfl⟩
    · by_cases h2 : n < 192
      · go_enter Try.func43, Try.ntmps43
        go_wp2
        go_ret
        exact ⟨retInt (toldN_4 (by omega) h2).symm, rfl⟩
      · go_enter Try.func43, Try.ntmps43
        go_wp2
        go_ret
        exact ⟨retInt (toldN_0 (by omega)).symm, rfl⟩

/-- What is added to a number of so many octets, so that the first one tells how many there are. -/
def markN (k : Int) : Int := if k = 2 then 16384 else if k = 4 then 2147483648 else 0

theorem marked_any (n k : Int) (w : World) (h0 : 0 ≤ n) (h1 : n ≤ 1073741823) :
    Calls Try.prog 46 #[.int .i64 n, .int .i64 k] w fun e w' => e = .returned (.int .u32 (n + markN k)) ∧ w = w' := by
  by_cases h2 : k = 2
  · subst h2
    go_enter Try.func46, Try.ntmps46
    go_wp2
    go_ret
    exact ⟨retInt (by simp [markN]), rfl⟩
  · by_cases h3 : k = 4
    · subst h3
      go_enter Try.func46, Try.ntmps46
      go_wp2
      go_ret
      exact ⟨retInt (by simp [markN]), rfl⟩
    · go_enter Try.func46, Try.ntmps46
      go_wp2
      go_ret
      exact ⟨retInt (by simp [markN, h2, h3]), rfl⟩
end Go.Proofs.Ytakbbenegojcdaa
