/-
  The contract of varint.Get, for every slice of octets.
-/
import Derived.Test.YtakbbenegojcdaaVaBase
import Derived.Deep.QuietTactic
import Derived.BigQuiet
import Derived.Deep.Draws
import Derived.Laws.OwnMore
namespace Go.Proofs.Ytakbbenegojcdaa
open Go.ChangeShapes Go.WideShapes Go.ChangeAt Go.RowKit
set_option linter.unusedVariables false

/-- The error of Get, the number and how many octets it has. -/
def getK (xs : List Int) : Nat := (toldN (xs.headD 192)).toNat
def getV (xs : List Int) : Int := valN (xs.headD 0) (xs.tail.take (getK xs - 1))
def getE (xs : List Int) : Int :=
  if xs.length = 0 then 1 else if getK xs = 0 then 2 else if xs.length < getK xs then 1 else if sizeN (getV xs) = getK xs then 0 else 2

theorem get_none (A : Option Addr) (c : Nat) (w : World) :
    Calls Try.prog 33 #[.slice A 0 c] w fun e w' => e = .returned (.tuple #[.int .i64 0, .slice none 0 0, .int .i64 1]) ∧ w = w' := by
  go_enter Try.func33, Try.ntmps33
  go_wp2
  go_ret3
  exact ⟨rfl, rfl⟩

theorem get_high (b o n c : Nat) (x : Int) (w : World) (hn : 0 < n) (hx : 192 ≤ x) (hc : w.cell? ⟨b, o, none⟩ = some (.int .u8 x)) :
    Calls Try.prog 33 #[.slice (some ⟨b, o, none⟩) n c] w fun e w' => e = .returned (.tuple #[.int .i64 0, .slice none 0 0, .int .i64 2]) ∧ w = w' := by
  have h0 : ((n : Int) == 0) = false := by simp; omega
  have h1 : (0 : Int) < (n : Int) := by omega
  have ht : toldN x = 0 := toldN_0 hx
  go_enter Try.func33, Try.ntmps33
  go_wp2_with (go_at_call 43; refine (told_any _ _).mono ?_; rintro e w' ⟨rfl, rfl⟩)
  go_ret3
  exact ⟨rfl, rfl⟩

theorem get_short (b o n c k : Nat) (x : Int) (w : World) (hn : 0 < n) (ht : toldN x = k) (hk : n < k) (hc : w.cell? ⟨b, o, none⟩ = some (.int .u8 x)) :
    Calls Try.prog 33 #[.slice (some ⟨b, o, none⟩) n c] w fun e w' => e = .returned (.tuple #[.int .i64 0, .slice none 0 0, .int .i64 1]) ∧ w = w' := by
  have h0 : ((n : Int) == 0) = false := by simp; omega
  have h1 : (0 : Int) < (n : Int) := by omega
  have h2 : ((k : Int) == 0) = false := by simp; omega
  go_enter Try.func33, Try.ntmps33
  go_wp2_with (go_at_call 43; refine (told_any _ _).mono ?_; rintro e w' ⟨rfl, rfl⟩)
  go_ret3
  exact ⟨rfl, rfl⟩

theorem get_ok (b o n c k : Nat) (x m : Int) (ys : List Int) (w : World) (ht : toldN x = k) (h1k : 1 ≤ k) (hk4 : k ≤ 4) (hk : k ≤ n) (hnc : n ≤ c) (hcm : c ≤ maxLen)
    (hx : 0 ≤ x) (hx2 : x ≤ 255)
    (hc : w.cell? ⟨b, o, none⟩ = some (.int .u8 x)) (hy : ∀ i y, ys[i]? = some y → w.cell? ⟨b, o + 1 + i, none⟩ = some (.int .u8 y)) (hl : ys.length = k - 1)
    (hyb : ∀ y ∈ ys, 0 ≤ y ∧ y ≤ 255)
    (hm : valN x ys = m) (hs : sizeN m = k) (hck : ¬ c = k) (hc1 : ¬ c = 1) :
    Calls Try.prog 33 #[.slice (some ⟨b, o, none⟩) n c] w fun e w' => e = .returned (.tuple #[.int .i64 m, .slice (some ⟨b, o + k, none⟩) (n - k) (c - k), .int .i64 0]) ∧ ∃ d, w' = w.drewN d := by
  have h0 : ((n : Int) == 0) = false := by simp; omega
  have h1 : (0 : Int) < (n : Int) := by omega
  have h2 : ((k : Int) == 0) = false := by simp; omega
  have h3 : decide (n < k) = false := by simp; omega
  unfold maxLen at hcm
  have Hm := Lib.hid hm
  have Hs := Lib.hid hs
  have Hy := Lib.hid hy
  have Hyb := Lib.hid hyb
  have Hl := Lib.hid hl
  clear hm hs hy hyb hl
  go_enter Try.func33, Try.ntmps33
  go_wp2_with (go_at_call 43; refine (told_any _ _).mono ?_; rintro e w' ⟨rfl, rfl⟩)
  go_loop [6, 31] (fun s i => ∃ j : Nat, j ≤ k - 1 ∧ i = .int .i64 j ∧ s = .int .i64 (valN x (ys.take j))) (fun _ i => k - (intOf i).toNat)
  case atStart => exact ⟨0, Nat.zero_le _, rfl, by simp [valN]⟩
  case round =>
    obtain ⟨j, hj, rfl, rfl⟩ := hrel
    by_cases hlt : j < k - 1
    · have hjl : j < ys.length := by rw [Hl.out]; omega
      have hcell := Hy.out j ys[j] (List.getElem?_eq_getElem hjl)
      have hb := Hyb.out ys[j] (List.getElem_mem hjl)
      have hv := valN_bd x (ys.take j) (fun z hz => Hyb.out z (List.mem_of_mem_take hz)) (by rw [List.length_take]; omega)
      have HS := Lib.hid (valN_step x ys j hjl)
      generalize ys[j] = y at *
      generalize hg : valN x (ys.take j) = v at *
      have Hg := Lib.hid hg
      clear hg
      go_wp2
      go_round
      case rel => exact ⟨j + 1, by omega, by go_num, by rw [HS.out]⟩
      case measure => simp [intOf]; omega
    · obtain rfl : j = k - 1 := by omega
      have e : valN x (ys.take (k - 1)) = m := by rw [← Hl.out, List.take_length]; exact Hm.out
      have hs1 : (sizeN m != (k : Int)) = false := by rw [Hs.out]; simp
      rw [e]
      clear e
      go_wp2_with (go_at_call 44; refine (size_any _ _).mono ?_; rintro e w' ⟨rfl, rfl⟩)
      go_quiet (fail)
      go_wp2
      go_ret3
      exact ⟨rfl, _, rfl⟩

theorem get_okk (b o k : Nat) (x m : Int) (ys : List Int) (w : World) (ht : toldN x = k) (h1k : 1 ≤ k) (hk4 : k ≤ 4) 
    (hx : 0 ≤ x) (hx2 : x ≤ 255)
    (hc : w.cell? ⟨b, o, none⟩ = some (.int .u8 x)) (hy : ∀ i y, ys[i]? = some y → w.cell? ⟨b, o + 1 + i, none⟩ = some (.int .u8 y)) (hl : ys.length = k - 1)
    (hyb : ∀ y ∈ ys, 0 ≤ y ∧ y ≤ 255)
    (hm : valN x ys = m) (hs : sizeN m = k) (hc1 : ¬ k = 1) :
    Calls Try.prog 33 #[.slice (some ⟨b, o, none⟩) k k] w fun e w' => e = .returned (.tuple #[.int .i64 m, .slice (some ⟨b, o, none⟩) 0 0, .int .i64 0]) ∧ ∃ d, w' = w.drewN d := by
  have h0 : ((k : Int) == 0) = false := by simp; omega
  have h1 : (0 : Int) < (k : Int) := by omega
  have Hm := Lib.hid hm
  have Hs := Lib.hid hs
  have Hy := Lib.hid hy
  have Hyb := Lib.hid hyb
  have Hl := Lib.hid hl
  clear hm hs hy hyb hl
  go_enter Try.func33, Try.ntmps33
  go_wp2_with (go_at_call 43; refine (told_any _ _).mono ?_; rintro e w' ⟨rfl, rfl⟩)
  go_loop [6, 31] (fun s i => ∃ j : Nat, j ≤ k - 1 ∧ i = .int .i64 j ∧ s = .int .i64 (valN x (ys.take j))) (fun _ i => k - (intOf i).toNat)
  case atStart => exact ⟨0, Nat.zero_le _, rfl, by simp [valN]⟩
  case round =>
    obtain ⟨j, hj, rfl, rfl⟩ := hrel
    by_cases hlt : j < k - 1
    · have hjl : j < ys.length := by rw [Hl.out]; omega
      have hcell := Hy.out j ys[j] (List.getElem?_eq_getElem hjl)
      have hb := Hyb.out ys[j] (List.getElem_mem hjl)
      have hv := valN_bd x (ys.take j) (fun z hz => Hyb.out z (List.mem_of_mem_take hz)) (by rw [List.length_take]; omega)
      have HS := Lib.hid (valN_step x ys j hjl)
      generalize ys[j] = y at *
      generalize hg : valN x (ys.take j) = v at *
      have Hg := Lib.hid hg
      clear hg
      go_wp2
      go_round
      case rel => exact ⟨j + 1, by omega, by go_num, by rw [HS.out]⟩
      case measure => simp [intOf]; omega
    · obtain rfl : j = k - 1 := by omega
      have e : valN x (ys.take (k - 1)) = m := by rw [← Hl.out, List.take_length]; exact Hm.out
      have hs1 : (sizeN m != (k : Int)) = false := by rw [Hs.out]; simp
      rw [e]
      clear e
      go_wp2_with (go_at_call 44; refine (size_any _ _).mono ?_; rintro e w' ⟨rfl, rfl⟩)
      go_quiet (fail)
      go_wp2
      go_ret3
      exact ⟨rfl, _, rfl⟩

theorem get_ok1 (b o : Nat) (x : Int) (w : World) (hx : 0 ≤ x) (hx2 : x ≤ 63) (hc : w.cell? ⟨b, o, none⟩ = some (.int .u8 x)) :
    Calls Try.prog 33 #[.slice (some ⟨b, o, none⟩) 1 1] w fun e w' => e = .returned (.tuple #[.int .i64 x, .slice (some ⟨b, o, none⟩) 0 0, .int .i64 0]) ∧ ∃ d, w' = w.drewN d := by
  have hs1 : (sizeN x != 1) = false := by rw [sizeN_1 hx hx2]; rfl
  have ht : toldN x = 1 := toldN_1 (by omega)
  have he : Hid (x % 64 = x) := by show x % 64 = x; omega
  go_enter Try.func33, Try.ntmps33
  go_wp2_with (go_at_call 43; refine (told_any _ _).mono ?_; rintro e w' ⟨rfl, rfl⟩)
  rw [he.out]
  go_loop [6, 31] (fun s i => i = .int .i64 0 ∧ s = .int .i64 x) (fun _ i => 0)
  case atStart => exact ⟨rfl, rfl⟩
  case round =>
    obtain ⟨rfl, rfl⟩ := hrel
    go_wp2_with (go_at_call 44; refine (size_any _ _).mono ?_; rintro e w' ⟨rfl, rfl⟩)
    go_quiet (fail)
    go_wp2
    go_ret3
    exact ⟨rfl, _, rfl⟩

theorem get_form (b o n c k : Nat) (x m : Int) (ys : List Int) (w : World) (ht : toldN x = k) (h1k : 1 ≤ k) (hk4 : k ≤ 4) (hk : k ≤ n) (hnc : n ≤ c) (hcm : c ≤ maxLen)
    (hx : 0 ≤ x) (hx2 : x ≤ 255)
    (hc : w.cell? ⟨b, o, none⟩ = some (.int .u8 x)) (hy : ∀ i y, ys[i]? = some y → w.cell? ⟨b, o + 1 + i, none⟩ = some (.int .u8 y)) (hl : ys.length = k - 1)
    (hyb : ∀ y ∈ ys, 0 ≤ y ∧ y ≤ 255)
    (hm : valN x ys = m) (hs : ¬ sizeN m = k) (hc1 : ¬ c = 1) :
    Calls Try.prog 33 #[.slice (some ⟨b, o, none⟩) n c] w fun e w' => e = .returned (.tuple #[.int .i64 0, .slice none 0 0, .int .i64 2]) ∧ w = w' := by
  have h0 : ((n : Int) == 0) = false := by simp; omega
  have h1 : (0 : Int) < (n : Int) := by omega
  have h2 : ((k : Int) == 0) = false := by simp; omega
  have h3 : decide (n < k) = false := by simp; omega
  unfold maxLen at hcm
  have Hm := Lib.hid hm
  have Hs := Lib.hid hs
  have Hy := Lib.hid hy
  have Hyb := Lib.hid hyb
  have Hl := Lib.hid hl
  clear hm hs hy hyb hl
  go_enter Try.func33, Try.ntmps33
  go_wp2_with (go_at_call 43; refine (told_any _ _).mono ?_; rintro e w' ⟨rfl, rfl⟩)
  go_loop [6, 31] (fun s i => ∃ j : Nat, j ≤ k - 1 ∧ i = .int .i64 j ∧ s = .int .i64 (valN x (ys.take j))) (fun _ i => k - (intOf i).toNat)
  case atStart => exact ⟨0, Nat.zero_le _, rfl, by simp [valN]⟩
  case round =>
    obtain ⟨j, hj, rfl, rfl⟩ := hrel
    by_cases hlt : j < k - 1
    · have hjl : j < ys.length := by rw [Hl.out]; omega
      have hcell := Hy.out j ys[j] (List.getElem?_eq_getElem hjl)
      have hb := Hyb.out ys[j] (List.getElem_mem hjl)
      have hv := valN_bd x (ys.take j) (fun z hz => Hyb.out z (List.mem_of_mem_take hz)) (by rw [List.length_take]; omega)
      have HS := Lib.hid (valN_step x ys j hjl)
      generalize ys[j] = y at *
      generalize hg : valN x (ys.take j) = v at *
      have Hg := Lib.hid hg
      clear hg
      go_wp2
      go_round
      case rel => exact ⟨j + 1, by omega, by go_num, by rw [HS.out]⟩
      case measure => simp [intOf]; omega
    · obtain rfl : j = k - 1 := by omega
      have e : valN x (ys.take (k - 1)) = m := by rw [← Hl.out, List.take_length]; exact Hm.out
      have hs1 : (sizeN m != (k : Int)) = true := by simpa using Hs.out
      rw [e]
      clear e
      go_wp2_with (go_at_call 44; refine (size_any _ _).mono ?_; rintro e w' ⟨rfl, rfl⟩)
      go_ret3
      exact ⟨rfl, rfl⟩

end Go.Proofs.Ytakbbenegojcdaa
