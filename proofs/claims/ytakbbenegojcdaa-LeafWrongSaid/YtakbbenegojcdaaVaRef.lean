/-
  The contracts of the document's own answers for layer 1 (the reference's Size, Get and Put), for every argument.
-/
import Derived.Test.YtakbbenegojcdaaVaAny
namespace Go.Proofs.Ytakbbenegojcdaa
open Go.ChangeShapes Go.WideShapes Go.ChangeAt Go.RowKit
set_option linter.unusedVariables false

theorem rsize_any (n : Int) (w : World) : Calls Try.prog 45 #[.int .i64 n] w fun e w' => e = .returned (.int .i64 (sizeN n)) ∧ w = w' := by
  by_cases h0 : n < 0
  · go_enter Try.func45, Try.ntmps45
    go_wp2
    go_ret
    exact ⟨retInt (sizeN_0 (.inl h0)).symm, rfl⟩
  · by_cases h1 : 1073741823 < n
    · go_enter Try.func45, Try.ntmps45
      go_wp2
      go_ret
      exact ⟨retInt (sizeN_0 (.inr h1)).symm, rfl⟩
    · by_cases h2 : n ≤ 63
      · go_enter Try.func45, Try.ntmps45
        go_wp2
        go_ret
        exact ⟨retInt (sizeN_1 (by omega) h2).symm, rfl⟩
      · by_cases h3 : n ≤ 16383
        · go_enter Try.func45, Try.ntmps45
          go_wp2
          go_ret
          exact ⟨retInt (sizeN_2 (by omega) h3).symm, rfl⟩
        · go_enter Try.func45, Try.ntmps45
          go_wp2
          go_ret
          exact ⟨retInt (sizeN_4 (by omega) (by omega)).symm, rfl⟩

theorem rget_none (A : Option Addr) (c : Nat) (w : World) :
    Calls Try.prog 36 #[.slice A 0 c] w fun e w' => e = .returned (.tuple #[.int .i64 0, .slice none 0 0, .int .i64 1]) ∧ w = w' := by
  go_enter Try.func36, Try.ntmps36
  go_wp2
  go_ret3
  exact ⟨rfl, rfl⟩

theorem rget_high (b o n c : Nat) (x : Int) (w : World) (hn : 0 < n) (hx : 192 ≤ x) (hc : w.cell? ⟨b, o, none⟩ = some (.int .u8 x)) :
    Calls Try.prog 36 #[.slice (some ⟨b, o, none⟩) n c] w fun e w' => e = .returned (.tuple #[.int .i64 0, .slice none 0 0, .int .i64 2]) ∧ w = w' := by
  have h0 : ((n : Int) == 0) = false := by simp; omega
  have h1 : (0 : Int) < (n : Int) := by omega
  have h2 : ¬ x < 64 := by omega
  have h3 : ¬ x < 128 := by omega
  go_enter Try.func36, Try.ntmps36
  go_wp2
  go_ret3
  exact ⟨rfl, rfl⟩

theorem rget_short (b o n c k : Nat) (x : Int) (w : World) (hn : 0 < n) (ht : toldN x = k) (hk : n < k) (hc : w.cell? ⟨b, o, none⟩ = some (.int .u8 x)) :
    Calls Try.prog 36 #[.slice (some ⟨b, o, none⟩) n c] w fun e w' => e = .returned (.tuple #[.int .i64 0, .slice none 0 0, .int .i64 1]) ∧ w = w' := by
  have h0 : ((n : Int) == 0) = false := by simp; omega
  have h1 : (0 : Int) < (n : Int) := by omega
  rcases toldN_cases x with h | h | h | h
  · rw [h.1] at ht; omega
  · rw [h.1] at ht; omega
  · obtain rfl : k = 2 := by rw [h.1] at ht; omega
    have hx1 : ¬ x < 64 := by omega
    have hx2 : x < 128 := by omega
    have hlt : (n : Int) < 2 := by omega
    clear h ht hk
    go_enter Try.func36, Try.ntmps36
    go_wp2
    go_ret3
    exact ⟨rfl, rfl⟩
  · obtain rfl : k = 4 := by rw [h.1] at ht; omega
    have hx1 : ¬ x < 64 := by omega
    have hx2 : ¬ x < 128 := by omega
    have hx3 : ¬ 192 ≤ x := by omega
    have hlt : (n : Int) < 4 := by omega
    clear h ht hk
    go_enter Try.func36, Try.ntmps36
    go_wp2
    go_ret3
    exact ⟨rfl, rfl⟩

theorem rget_ok (b o n c k : Nat) (x m : Int) (ys : List Int) (w : World) (ht : toldN x = k) (h1k : 1 ≤ k) (hk4 : k ≤ 4) (hk : k ≤ n) (hnc : n ≤ c) (hcm : c ≤ maxLen)
    (hx : 0 ≤ x) (hx255 : x ≤ 255)
    (hc : w.cell? ⟨b, o, none⟩ = some (.int .u8 x)) (hy : ∀ i y, ys[i]? = some y → w.cell? ⟨b, o + 1 + i, none⟩ = some (.int .u8 y)) (hl : ys.length = k - 1)
    (hyb : ∀ y ∈ ys, 0 ≤ y ∧ y ≤ 255)
    (hm : valN x ys = m) (hs : sizeN m = k) (hck : ¬ c = k) :
    Calls Try.prog 36 #[.slice (some ⟨b, o, none⟩) n c] w fun e w' => e = .returned (.tuple #[.int .i64 m, .slice (some ⟨b, o + k, none⟩) (n - k) (c - k), .int .i64 0]) ∧ ∃ d, w' = w.drewN d := by
  have h0 : ((n : Int) == 0) = false := by simp; omega
  have h1 : (0 : Int) < (n : Int) := by omega
  have hnb : n ≤ 9223372036854775807 := Nat.le_trans hnc hcm
  have hcb : c ≤ 9223372036854775807 := hcm
  have Hm := Lib.hid hm
  have Hs := Lib.hid hs
  have Hy := Lib.hid hy
  have Hyb := Lib.hid hyb
  have Hl := Lib.hid hl
  clear hm hs hy hyb hl
  rcases toldN_cases x with h | h | h | h
  · rw [h.1] at ht; omega
  · obtain rfl : k = 1 := by rw [h.1] at ht; omega
    have hx1 : x < 64 := by omega
    have hge : decide ((n : Int) < 1) = false := by simp; omega
    clear h ht
    go_enter Try.func36, Try.ntmps36
    go_wp2_with fail
    go_loop [6, 7] (fun s i => ∃ j : Nat, j + 1 ≤ 1 ∧ i = .int .i64 ((j : Int) + 1) ∧ s = .int .i64 (valN x (ys.take j))) (fun _ i => 1 - (intOf i).toNat)
    case atStart => exact ⟨0, by omega, rfl, by simp [valN]⟩
    case round =>
      obtain ⟨j, hj, rfl, rfl⟩ := hrel
      by_cases hlt : j + 1 < 1
      · omega
      · obtain rfl : j = 1 - 1 := by omega
        have e : valN x (ys.take (1 - 1)) = m := by
          rw [show (1 - 1 : Nat) = ys.length from Hl.out.symm, List.take_length]; exact Hm.out
        have hs1 : (sizeN m != 1) = false := by rw [Hs.out]; simp
        rw [e]
        clear e
        go_wp2_with (go_at_call 45; refine (rsize_any _ _).mono ?_; rintro e w' ⟨rfl, rfl⟩)
        go_quiet (fail)
        go_wp2
        go_ret3
        exact ⟨rfl, _, rfl⟩
  · obtain rfl : k = 2 := by rw [h.1] at ht; omega
    have hx1 : ¬ x < 64 := by omega
    have hx2 : x < 128 := by omega
    have hge : decide ((n : Int) < 2) = false := by simp; omega
    clear h ht
    go_enter Try.func36, Try.ntmps36
    go_wp2_with fail
    go_loop [6, 7] (fun s i => ∃ j : Nat, j + 1 ≤ 2 ∧ i = .int .i64 ((j : Int) + 1) ∧ s = .int .i64 (valN x (ys.take j))) (fun _ i => 2 - (intOf i).toNat)
    case atStart => exact ⟨0, by omega, rfl, by simp [valN]⟩
    case round =>
      obtain ⟨j, hj, rfl, rfl⟩ := hrel
      by_cases hlt : j + 1 < 2
      · have hjl : j < ys.length := by rw [Hl.out]; omega
        have hcell := Hy.out j ys[j] (List.getElem?_eq_getElem hjl)
        rw [show o + 1 + j = o + (j + 1) from by omega] at hcell
        have hb := Hyb.out ys[j] (List.getElem_mem hjl)
        have hv := valN_bd x (ys.take j) (fun z hz => Hyb.out z (List.mem_of_mem_take hz)) (by rw [List.length_take]; omega)
        have HS := Lib.hid (valN_step x ys j hjl)
        generalize ys[j] = y at *
        generalize hg : valN x (ys.take j) = v at *
        have Hg := Lib.hid hg
        clear hg
        go_wp2_with fail
        go_round
        case rel => exact ⟨j + 1, by omega, by go_num, by rw [HS.out]⟩
        case measure => simp [intOf]; omega
      · obtain rfl : j = 2 - 1 := by omega
        have e : valN x (ys.take (2 - 1)) = m := by
          rw [show (2 - 1 : Nat) = ys.length from Hl.out.symm, List.take_length]; exact Hm.out
        have hs1 : (sizeN m != 2) = false := by rw [Hs.out]; simp
        rw [e]
        clear e
        go_wp2_with (go_at_call 45; refine (rsize_any _ _).mono ?_; rintro e w' ⟨rfl, rfl⟩)
        go_quiet (fail)
        go_wp2
        go_ret3
        exact ⟨rfl, _, rfl⟩
  · obtain rfl : k = 4 := by rw [h.1] at ht; omega
    have hx1 : ¬ x < 64 := by omega
    have hx2 : ¬ x < 128 := by omega
    have hx3 : ¬ 192 ≤ x := by omega
    have hge : decide ((n : Int) < 4) = false := by simp; omega
    clear h ht
    go_enter Try.func36, Try.ntmps36
    go_wp2_with fail
    go_loop [6, 7] (fun s i => ∃ j : Nat, j + 1 ≤ 4 ∧ i = .int .i64 ((j : Int) + 1) ∧ s = .int .i64 (valN x (ys.take j))) (fun _ i => 4 - (intOf i).toNat)
    case atStart => exact ⟨0, by omega, rfl, by simp [valN]⟩
    case round =>
      obtain ⟨j, hj, rfl, rfl⟩ := hrel
      by_cases hlt : j + 1 < 4
      · have hjl : j < ys.length := by rw [Hl.out]; omega
        have hcell := Hy.out j ys[j] (List.getElem?_eq_getElem hjl)
        rw [show o + 1 + j = o + (j + 1) from by omega] at hcell
        have hb := Hyb.out ys[j] (List.getElem_mem hjl)
        have hv := valN_bd x (ys.take j) (fun z hz => Hyb.out z (List.mem_of_mem_take hz)) (by rw [List.length_take]; omega)
        have HS := Lib.hid (valN_step x ys j hjl)
        generalize ys[j] = y at *
        generalize hg : valN x (ys.take j) = v at *
        have Hg := Lib.hid hg
        clear hg
        go_wp2_with fail
        go_round
        case rel => exact ⟨j + 1, by omega, by go_num, by rw [HS.out]⟩
        case measure => simp [intOf]; omega
      · obtain rfl : j = 4 - 1 := by omega
        have e : valN x (ys.take (4 - 1)) = m := by
          rw [show (4 - 1 : Nat) = ys.length from Hl.out.symm, List.take_length]; exact Hm.out
        have hs1 : (sizeN m != 4) = false := by rw [Hs.out]; simp
        rw [e]
        clear e
        go_wp2_with (go_at_call 45; refine (rsize_any _ _).mono ?_; rintro e w' ⟨rfl, rfl⟩)
        go_quiet (fail)
        go_wp2
        go_ret3
        exact ⟨rfl, _, rfl⟩

theorem rget_okk (b o k : Nat) (x m : Int) (ys : List Int) (w : World) (ht : toldN x = k) (h1k : 1 ≤ k) (hk4 : k ≤ 4)
    (hx : 0 ≤ x) (hx255 : x ≤ 255)
    (hc : w.cell? ⟨b, o, none⟩ = some (.int .u8 x)) (hy : ∀ i y, ys[i]? = some y → w.cell? ⟨b, o + 1 + i, none⟩ = some (.int .u8 y)) (hl : ys.length = k - 1)
    (hyb : ∀ y ∈ ys, 0 ≤ y ∧ y ≤ 255)
    (hm : valN x ys = m) (hs : sizeN m = k) :
    Calls Try.prog 36 #[.slice (some ⟨b, o, none⟩) k k] w fun e w' => e = .returned (.tuple #[.int .i64 m, .slice (some ⟨b, o, none⟩) 0 0, .int .i64 0]) ∧ ∃ d, w' = w.drewN d := by
  have h0 : ((k : Int) == 0) = false := by simp; omega
  have h1 : (0 : Int) < (k : Int) := by omega
  have Hm := Lib.hid hm
  have Hs := Lib.hid hs
  have Hy := Lib.hid hy
  have Hyb := Lib.hid hyb
  have Hl := Lib.hid hl
  clear hm hs hy hyb hl
  rcases toldN_cases x with h | h | h | h
  · rw [h.1] at ht; omega
  · obtain rfl : k = 1 := by rw [h.1] at ht; omega
    have hx1 : x < 64 := by omega
    clear h ht
    go_enter Try.func36, Try.ntmps36
    go_wp2_with fail
    go_loop [6, 7] (fun s i => ∃ j : Nat, j + 1 ≤ 1 ∧ i = .int .i64 ((j : Int) + 1) ∧ s = .int .i64 (valN x (ys.take j))) (fun _ i => 1 - (intOf i).toNat)
    case atStart => exact ⟨0, by omega, rfl, by simp [valN]⟩
    case round =>
      obtain ⟨j, hj, rfl, rfl⟩ := hrel
      by_cases hlt : j + 1 < 1
      · omega
      · obtain rfl : j = 1 - 1 := by omega
        have e : valN x (ys.take (1 - 1)) = m := by
          rw [show (1 - 1 : Nat) = ys.length from Hl.out.symm, List.take_length]; exact Hm.out
        have hs1 : (sizeN m != 1) = false := by rw [Hs.out]; simp
        rw [e]
        clear e
        go_wp2_with (go_at_call 45; refine (rsize_any _ _).mono ?_; rintro e w' ⟨rfl, rfl⟩)
        go_quiet (fail)
        go_wp2
        go_ret3
        exact ⟨rfl, _, rfl⟩
  · obtain rfl : k = 2 := by rw [h.1] at ht; omega
    have hx1 : ¬ x < 64 := by omega
    have hx2 : x < 128 := by omega
    clear h ht
    go_enter Try.func36, Try.ntmps36
    go_wp2_with fail
    go_loop [6, 7] (fun s i => ∃ j : Nat, j + 1 ≤ 2 ∧ i = .int .i64 ((j : Int) + 1) ∧ s = .int .i64 (valN x (ys.take j))) (fun _ i => 2 - (intOf i).toNat)
    case atStart => exact ⟨0, by omega, rfl, by simp [valN]⟩
    case round =>
      obtain ⟨j, hj, rfl, rfl⟩ := hrel
      by_cases hlt : j + 1 < 2
      · have hjl : j < ys.length := by rw [Hl.out]; omega
        have hcell := Hy.out j ys[j] (List.getElem?_eq_getElem hjl)
        rw [show o + 1 + j = o + (j + 1) from by omega] at hcell
        have hb := Hyb.out ys[j] (List.getElem_mem hjl)
        have hv := valN_bd x (ys.take j) (fun z hz => Hyb.out z (List.mem_of_mem_take hz)) (by rw [List.length_take]; omega)
        have HS := Lib.hid (valN_step x ys j hjl)
        generalize ys[j] = y at *
        generalize hg : valN x (ys.take j) = v at *
        have Hg := Lib.hid hg
        clear hg
        go_wp2_with fail
        go_round
        case rel => exact ⟨j + 1, by omega, by go_num, by rw [HS.out]⟩
        case measure => simp [intOf]; omega
      · obtain rfl : j = 2 - 1 := by omega
        have e : valN x (ys.take (2 - 1)) = m := by
          rw [show (2 - 1 : Nat) = ys.length from Hl.out.symm, List.take_length]; exact Hm.out
        have hs1 : (sizeN m != 2) = false := by rw [Hs.out]; simp
        rw [e]
        clear e
        go_wp2_with (go_at_call 45; refine (rsize_any _ _).mono ?_; rintro e w' ⟨rfl, rfl⟩)
        go_quiet (fail)
        go_wp2
        go_ret3
        exact ⟨rfl, _, rfl⟩
  · obtain rfl : k = 4 := by rw [h.1] at ht; omega
    have hx1 : ¬ x < 64 := by omega
    have hx2 : ¬ x < 128 := by omega
    have hx3 : ¬ 192 ≤ x := by omega
    clear h ht
    go_enter Try.func36, Try.ntmps36
    go_wp2_with fail
    go_loop [6, 7] (fun s i => ∃ j : Nat, j + 1 ≤ 4 ∧ i = .int .i64 ((j : Int) + 1) ∧ s = .int .i64 (valN x (ys.take j))) (fun _ i => 4 - (intOf i).toNat)
    case atStart => exact ⟨0, by omega, rfl, by simp [valN]⟩
    case round =>
      obtain ⟨j, hj, rfl, rfl⟩ := hrel
      by_cases hlt : j + 1 < 4
      · have hjl : j < ys.length := by rw [Hl.out]; omega
        have hcell := Hy.out j ys[j] (List.getElem?_eq_getElem hjl)
        rw [show o + 1 + j = o + (j + 1) from by omega] at hcell
        have hb := Hyb.out ys[j] (List.getElem_mem hjl)
        have hv := valN_bd x (ys.take j) (fun z hz => Hyb.out z (List.mem_of_mem_take hz)) (by rw [List.length_take]; omega)
        have HS := Lib.hid (valN_step x ys j hjl)
        generalize ys[j] = y at *
        generalize hg : valN x (ys.take j) = v at *
        have Hg := Lib.hid hg
        clear hg
        go_wp2_with fail
        go_round
        case rel => exact ⟨j + 1, by omega, by go_num, by rw [HS.out]⟩
        case measure => simp [intOf]; omega
      · obtain rfl : j = 4 - 1 := by omega
        have e : valN x (ys.take (4 - 1)) = m := by
          rw [show (4 - 1 : Nat) = ys.length from Hl.out.symm, List.take_length]; exact Hm.out
        have hs1 : (sizeN m != 4) = false := by rw [Hs.out]; simp
        rw [e]
        clear e
        go_wp2_with (go_at_call 45; refine (rsize_any _ _).mono ?_; rintro e w' ⟨rfl, rfl⟩)
        go_quiet (fail)
        go_wp2
        go_ret3
        exact ⟨rfl, _, rfl⟩

theorem rget_form (b o n c k : Nat) (x m : Int) (ys : List Int) (w : World) (ht : toldN x = k) (h1k : 1 ≤ k) (hk4 : k ≤ 4) (hk : k ≤ n) (hnc : n ≤ c) (hcm : c ≤ maxLen)
    (hx : 0 ≤ x) (hx255 : x ≤ 255)
    (hc : w.cell? ⟨b, o, none⟩ = some (.int .u8 x)) (hy : ∀ i y, ys[i]? = some y → w.cell? ⟨b, o + 1 + i, none⟩ = some (.int .u8 y)) (hl : ys.length = k - 1)
    (hyb : ∀ y ∈ ys, 0 ≤ y ∧ y ≤ 255)
    (hm : valN x ys = m) (hs : ¬ sizeN m = k) (hc1 : ¬ c = 1) :
    Calls Try.prog 36 #[.slice (some ⟨b, o, none⟩) n c] w fun e w' => e = .returned (.tuple #[.int .i64 0, .slice none 0 0, .int .i64 2]) ∧ w = w' := by
  have h0 : ((n : Int) == 0) = false := by simp; omega
  have h1 : (0 : Int) < (n : Int) := by omega
  have hnb : n ≤ 9223372036854775807 := Nat.le_trans hnc hcm
  have hcb : c ≤ 9223372036854775807 := hcm
  have Hm := Lib.hid hm
  have Hs := Lib.hid hs
  have Hy := Lib.hid hy
  have Hyb := Lib.hid hyb
  have Hl := Lib.hid hl
  clear hm hs hy hyb hl
  rcases toldN_cases x with h | h | h | h
  · rw [h.1] at ht; omega
  · obtain rfl : k = 1 := by rw [h.1] at ht; omega
    have hx1 : x < 64 := by omega
    have hge : decide ((n : Int) < 1) = false := by simp; omega
    clear h ht
    go_enter Try.func36, Try.ntmps36
    go_wp2_with fail
    go_loop [6, 7] (fun s i => ∃ j : Nat, j + 1 ≤ 1 ∧ i = .int .i64 ((j : Int) + 1) ∧ s = .int .i64 (valN x (ys.take j))) (fun _ i => 1 - (intOf i).toNat)
    case atStart => exact ⟨0, by omega, rfl, by simp [valN]⟩
    case round =>
      obtain ⟨j, hj, rfl, rfl⟩ := hrel
      by_cases hlt : j + 1 < 1
      · omega
      · obtain rfl : j = 1 - 1 := by omega
        have e : valN x (ys.take (1 - 1)) = m := by
          rw [show (1 - 1 : Nat) = ys.length from Hl.out.symm, List.take_length]; exact Hm.out
        have hs1 : (sizeN m != 1) = true := by simpa using Hs.out
        rw [e]
        clear e
        go_wp2_with (go_at_call 45; refine (rsize_any _ _).mono ?_; rintro e w' ⟨rfl, rfl⟩)
        go_ret3
        exact ⟨rfl, rfl⟩
  · obtain rfl : k = 2 := by rw [h.1] at ht; omega
    have hx1 : ¬ x < 64 := by omega
    have hx2 : x < 128 := by omega
    have hge : decide ((n : Int) < 2) = false := by simp; omega
    clear h ht
    go_enter Try.func36, Try.ntmps36
    go_wp2_with fail
    go_loop [6, 7] (fun s i => ∃ j : Nat, j + 1 ≤ 2 ∧ i = .int .i64 ((j : Int) + 1) ∧ s = .int .i64 (valN x (ys.take j))) (fun _ i => 2 - (intOf i).toNat)
    case atStart => exact ⟨0, by omega, rfl, by simp [valN]⟩
    case round =>
      obtain ⟨j, hj, rfl, rfl⟩ := hrel
      by_cases hlt : j + 1 < 2
      · have hjl : j < ys.length := by rw [Hl.out]; omega
        have hcell := Hy.out j ys[j] (List.getElem?_eq_getElem hjl)
        rw [show o + 1 + j = o + (j + 1) from by omega] at hcell
        have hb := Hyb.out ys[j] (List.getElem_mem hjl)
        have hv := valN_bd x (ys.take j) (fun z hz => Hyb.out z (List.mem_of_mem_take hz)) (by rw [List.length_take]; omega)
        have HS := Lib.hid (valN_step x ys j hjl)
        generalize ys[j] = y at *
        generalize hg : valN x (ys.take j) = v at *
        have Hg := Lib.hid hg
        clear hg
        go_wp2_with fail
        go_round
        case rel => exact ⟨j + 1, by omega, by go_num, by rw [HS.out]⟩
        case measure => simp [intOf]; omega
      · obtain rfl : j = 2 - 1 := by omega
        have e : valN x (ys.take (2 - 1)) = m := by
          rw [show (2 - 1 : Nat) = ys.length from Hl.out.symm, List.take_length]; exact Hm.out
        have hs1 : (sizeN m != 2) = true := by simpa using Hs.out
        rw [e]
        clear e
        go_wp2_with (go_at_call 45; refine (rsize_any _ _).mono ?_; rintro e w' ⟨rfl, rfl⟩)
        go_ret3
        exact ⟨rfl, rfl⟩
  · obtain rfl : k = 4 := by rw [h.1] at ht; omega
    have hx1 : ¬ x < 64 := by omega
    have hx2 : ¬ x < 128 := by omega
    have hx3 : ¬ 192 ≤ x := by omega
    have hge : decide ((n : Int) < 4) = false := by simp; omega
    clear h ht
    go_enter Try.func36, Try.ntmps36
    go_wp2_with fail
    go_loop [6, 7] (fun s i => ∃ j : Nat, j + 1 ≤ 4 ∧ i = .int .i64 ((j : Int) + 1) ∧ s = .int .i64 (valN x (ys.take j))) (fun _ i => 4 - (intOf i).toNat)
    case atStart => exact ⟨0, by omega, rfl, by simp [valN]⟩
    case round =>
      obtain ⟨j, hj, rfl, rfl⟩ := hrel
      by_cases hlt : j + 1 < 4
      · have hjl : j < ys.length := by rw [Hl.out]; omega
        have hcell := Hy.out j ys[j] (List.getElem?_eq_getElem hjl)
        rw [show o + 1 + j = o + (j + 1) from by omega] at hcell
        have hb := Hyb.out ys[j] (List.getElem_mem hjl)
        have hv := valN_bd x (ys.take j) (fun z hz => Hyb.out z (List.mem_of_mem_take hz)) (by rw [List.length_take]; omega)
        have HS := Lib.hid (valN_step x ys j hjl)
        generalize ys[j] = y at *
        generalize hg : valN x (ys.take j) = v at *
        have Hg := Lib.hid hg
        clear hg
        go_wp2_with fail
        go_round
        case rel => exact ⟨j + 1, by omega, by go_num, by rw [HS.out]⟩
        case measure => simp [intOf]; omega
      · obtain rfl : j = 4 - 1 := by omega
        have e : valN x (ys.take (4 - 1)) = m := by
          rw [show (4 - 1 : Nat) = ys.length from Hl.out.symm, List.take_length]; exact Hm.out
        have hs1 : (sizeN m != 4) = true := by simpa using Hs.out
        rw [e]
        clear e
        go_wp2_with (go_at_call 45; refine (rsize_any _ _).mono ?_; rintro e w' ⟨rfl, rfl⟩)
        go_ret3
        exact ⟨rfl, rfl⟩

theorem rget_bad (A : Option Addr) (n c B : Nat) (xs : List Int) (w : World) (hO : Oct w B A n xs) (hnc : n ≤ c) (hcm : c ≤ maxLen) (hE : getE xs ≠ 0) :
    Calls Try.prog 36 #[.slice A n c] w fun e w' => e = .returned (.tuple #[.int .i64 0, .slice none 0 0, .int .i64 (getE xs)]) ∧ w = w' := by
  match xs, hO, hE with
  | [], hO, _ =>
    have hn : n = 0 := by have := hO.1; simpa using this.symm
    subst hn
    exact rget_none A c w
  | x :: ys, hO, hE =>
    have hn : ys.length + 1 = n := by simpa using hO.1
    obtain ⟨b, o, rfl, hB, hx, hx2, hc, hy, hyb⟩ := hO.tail
    have h0 : ¬ (x :: ys).length = 0 := by simp
    by_cases hk0 : getK (x :: ys) = 0
    · have e : getE (x :: ys) = 2 := by unfold getE; rw [if_neg h0, if_pos hk0]
      rw [e]
      have h192 : 192 ≤ x := by
        rw [getK_cons] at hk0
        rcases toldN_cases x with h | h | h | h
        · exact h.2
        · rw [h.1] at hk0; simp at hk0
        · rw [h.1] at hk0; simp at hk0
        · rw [h.1] at hk0; simp at hk0
      exact rget_high b o n c x w (by omega) h192 hc
    · have ht : toldN x = (getK (x :: ys) : Nat) := by
        rw [getK_cons]
        rcases toldN_cases x with h | h | h | h <;> rw [h.1] <;> rfl
      have hk4 := getK_le (x :: ys)
      by_cases hs : (x :: ys).length < getK (x :: ys)
      · have e : getE (x :: ys) = 1 := by unfold getE; rw [if_neg h0, if_neg hk0, if_pos hs]
        rw [e]
        exact rget_short b o n c _ x w (by omega) ht (by rw [← hn]; simpa using hs) hc
      · by_cases hz : sizeN (getV (x :: ys)) = getK (x :: ys)
        · exact absurd (by unfold getE; rw [if_neg h0, if_neg hk0, if_neg hs, if_pos hz]) hE
        · have e : getE (x :: ys) = 2 := by unfold getE; rw [if_neg h0, if_neg hk0, if_neg hs, if_neg hz]
          rw [e]
          have hs' : getK (x :: ys) ≤ ys.length + 1 := by simpa using hs
          refine rget_form b o n c (getK (x :: ys)) x (getV (x :: ys)) (ys.take (getK (x :: ys) - 1)) w ht (by omega) hk4 (by omega) hnc hcm hx hx2 hc
            (fun i y hi => hy i y ?_) (by rw [List.length_take]; omega) (fun y hm => hyb y (List.mem_of_mem_take hm)) (getV_cons x ys).symm hz ?_
          · rw [List.getElem?_take] at hi
            split at hi
            · exact hi
            · cases hi
          · intro h1
            rcases toldN_cases x with h | h | h | h
            · rw [getK_cons, h.1] at hk0; simp at hk0
            · apply hz
              have e1 : getK (x :: ys) = 1 := by rw [getK_cons, h.1]; rfl
              rw [getV_cons, e1]
              simp only [valN, List.take_zero, List.foldl_nil, Nat.sub_self]
              rw [show x % 64 = x from by omega, sizeN_1 hx (by omega)]; rfl
            · rw [getK_cons, h.1] at hs'; simp at hs'; omega
            · rw [getK_cons, h.1] at hs'; simp at hs'; omega

theorem rget_good (A : Option Addr) (n c B : Nat) (xs : List Int) (w : World) (hO : Oct w B A n xs) (hnc : n ≤ c) (hcm : c ≤ maxLen) (hE : getE xs = 0) :
    Calls Try.prog 36 #[.slice A n c] w (GotWell w B n c xs) := by
  obtain ⟨h1, h2, h3⟩ := getE_ok hE
  match xs, hO, h1, h2, h3 with
  | [], _, h1, h2, _ => simp at h2; omega
  | x :: ys, hO, h1, h2, h3 =>
    have hn : ys.length + 1 = n := by simpa using hO.1
    have h2' : getK (x :: ys) ≤ ys.length + 1 := by simpa using h2
    obtain ⟨b, o, rfl, hB, hx, hx2, hc, hy, hyb⟩ := hO.tail
    have ht : toldN x = (getK (x :: ys) : Nat) := by
      rw [getK_cons]
      rcases toldN_cases x with h | h | h | h <;> rw [h.1] <;> rfl
    have hk4 := getK_le (x :: ys)
    have hy' : ∀ i y, (ys.take (getK (x :: ys) - 1))[i]? = some y → w.cell? ⟨b, o + 1 + i, none⟩ = some (.int .u8 y) := fun i y hi => hy i y (by
      rw [List.getElem?_take] at hi
      split at hi
      · exact hi
      · cases hi)
    have hl' : (ys.take (getK (x :: ys) - 1)).length = getK (x :: ys) - 1 := by rw [List.length_take]; omega
    have hyb' : ∀ y ∈ ys.take (getK (x :: ys) - 1), 0 ≤ y ∧ y ≤ 255 := fun y hm => hyb y (List.mem_of_mem_take hm)
    by_cases hck : c = getK (x :: ys)
    · have hnk : n = getK (x :: ys) := by omega
      subst hck
      rw [hnk] at hO ⊢
      refine (rget_okk b o (getK (x :: ys)) x (getV (x :: ys)) _ w ht h1 hk4 hx hx2 hc hy' hl' hyb' (getV_cons x ys).symm h3).mono fun e w' ⟨he, hw⟩ => ?_
      refine ⟨_, ?_, hO.cut _ (by omega) o (fun h => by omega), hw⟩
      rw [he, Nat.sub_self]
    · refine (rget_ok b o n c (getK (x :: ys)) x (getV (x :: ys)) _ w ht h1 hk4 (by omega) hnc hcm hx hx2 hc hy' hl' hyb' (getV_cons x ys).symm h3 hck).mono fun e w' ⟨he, hw⟩ => ?_
      exact ⟨_, he, hO.cut _ (by omega) _ (fun _ => rfl), hw⟩

theorem rget_any (A : Option Addr) (n c B : Nat) (xs : List Int) (w : World) (hO : Oct w B A n xs) (hnc : n ≤ c) (hcm : c ≤ maxLen) : Calls Try.prog 36 #[.slice A n c] w (GotAny w B xs) := by
  by_cases hE : getE xs = 0
  · refine (rget_good A n c B xs w hO hnc hcm hE).mono ?_
    rintro e w' ⟨A', he, h, d, rfl⟩
    refine ⟨A', n - getK xs, c - getK xs, ?_, ?_, below_of_drewN w d⟩
    · rw [he, gotM, if_pos hE, hE]
    · rw [gotR, if_pos hE]; exact h.drewN d
  · refine (rget_bad A n c B xs w hO hnc hcm hE).mono ?_
    rintro e w' ⟨he, rfl⟩
    refine ⟨none, 0, 0, ?_, ?_, Below.refl _ _⟩
    · rw [he, gotM, if_neg hE]
    · rw [gotR, if_neg hE]; exact Oct.nil _ _ _

theorem rput0 (A : Option Addr) (n c B : Nat) (xs : List Int) (m : Int) (w : World) (hO : Oct w B A n xs) (hB : B ≤ w.heap.size) (hn : n ≤ 100000) (h0 : m < 0 ∨ 1073741823 < m) :
    Calls Try.prog 42 #[.slice A n c, .int .i64 m] w (PutAny w (xs ++ octN m)) := by
  have hs : sizeN m = 0 := sizeN_0 h0
  have HN : Hid (octN m = []) := by show octN m = _; unfold octN; rw [hs]; rfl
  have HX := Lib.hid hO.2.1
  have HL := Lib.hid hO.1
  have HY : Hid (∀ y ∈ xs ++ octN m, 0 ≤ y ∧ y ≤ 255) := fun y hy => by
    rcases List.mem_append.1 hy with h | h
    · exact HX.out y h
    · exact octN_bytes m y h
  have OW : Hid ((w.alloc (.cells #[] 5)).ownsRow w.heap.size 5 1 (.slice (some ⟨w.heap.size, 0, none⟩) 0 0) 0 []) :=
    ⟨rfl, .inr ⟨w.heap.size, 0, #[], rfl, Nat.le_refl _, heap_alloc_new w _, Nat.le_refl _, Nat.zero_le _, rfl, rfl⟩⟩
  have HO := Lib.hid hO
  clear hO
  go_enter Try.func42, Try.ntmps42
  go_wp2_with (first
    | (at_builtin
       refine wpList_append_oct _ rfl (.tmp 6) (.tmp 7) rfl rfl w.heap.size (.slice (some ⟨w.heap.size, 0, none⟩) 0 0) [] xs A n c B rfl rfl ?hown ?hO ?hb ?hbase ?_
       case hown => exact OW.out
       case hO => exact HO.out.below (((Below.refl _ _).alloc (Nat.le_refl _) _).mono hB)
       case hb => simp; omega
       case hbase => simp
       intro v3 w3 hj3
       have hb3 := joined_below OW.out hj3 ((Below.refl _ _).alloc (Nat.le_refl _) _) (by simp)
       have h3 := hj3.1
       rw [List.nil_append, List.length_nil, Nat.zero_add] at h3
       have H3 := Lib.hid h3
       clear h3 hj3)
    | (go_at_call 45; refine (rsize_any _ _).mono ?_; rintro e w' ⟨rfl, rfl⟩))
  go_ret
  rw [HN.out, List.append_nil]
  obtain ⟨A4, c4, rfl, hO4⟩ := own_any H3.out HX.out
  exact ⟨A4, _, c4, rfl, hO4, hb3.1⟩

theorem rput1 (A : Option Addr) (n c B : Nat) (xs : List Int) (m : Int) (w : World) (hO : Oct w B A n xs) (hB : B ≤ w.heap.size) (hn : n ≤ 100000) (h0 : 0 ≤ m) (h1 : m ≤ 63) :
    Calls Try.prog 42 #[.slice A n c, .int .i64 m] w (PutAny w (xs ++ octN m)) := by
  have hs : sizeN m = 1 := sizeN_1 h0 h1
  have HN : Hid (octN m = [m]) := by show octN m = _; unfold octN; rw [hs]; rfl
  have HX := Lib.hid hO.2.1
  have HL := Lib.hid hO.1
  have HY : Hid (∀ y ∈ xs ++ octN m, 0 ≤ y ∧ y ≤ 255) := fun y hy => by
    rcases List.mem_append.1 hy with h | h
    · exact HX.out y h
    · exact octN_bytes m y h
  have OW : Hid ((w.alloc (.cells #[] 5)).ownsRow w.heap.size 5 1 (.slice (some ⟨w.heap.size, 0, none⟩) 0 0) 0 []) :=
    ⟨rfl, .inr ⟨w.heap.size, 0, #[], rfl, Nat.le_refl _, heap_alloc_new w _, Nat.le_refl _, Nat.zero_le _, rfl, rfl⟩⟩
  have HO := Lib.hid hO
  clear hO
  go_enter Try.func42, Try.ntmps42
  go_wp2_with (first
    | (at_builtin
       refine wpList_append_oct _ rfl (.tmp 6) (.tmp 7) rfl rfl w.heap.size (.slice (some ⟨w.heap.size, 0, none⟩) 0 0) [] xs A n c B rfl rfl ?hown ?hO ?hb ?hbase ?_
       case hown => exact OW.out
       case hO => exact HO.out.below (((Below.refl _ _).alloc (Nat.le_refl _) _).mono hB)
       case hb => simp; omega
       case hbase => simp
       intro v3 w3 hj3
       have hb3 := joined_below OW.out hj3 ((Below.refl _ _).alloc (Nat.le_refl _) _) (by simp)
       have h3 := hj3.1
       rw [List.nil_append, List.length_nil, Nat.zero_add] at h3
       have H3 := Lib.hid h3
       clear h3 hj3)
    | (go_at_call 45; refine (rsize_any _ _).mono ?_; rintro e w' ⟨rfl, rfl⟩)
    | (at_builtin
       refine wpList_append_oct _ rfl (.tmp 13) (.tmp 16) rfl rfl w.heap.size v3 xs [m] (some ⟨w3.heap.size, 0, none⟩) 1 1 (w3.heap.size + 1) rfl rfl ?hown ?hO ?hb ?hbase ?_
       case hown => exact H3.out.alloc _
       case hO => exact Oct.new w3 [m] (by rw [← HN.out]; exact octN_bytes m)
       case hb => rw [HL.out]; omega
       case hbase => have := hb3.2; simp; omega
       intro v4 w4 hj4
       have hb4 := joined_below (H3.out.alloc _) hj4 (hb3.1.alloc hb3.2 _) (by have := hb3.2; simp; omega)
       have h4 := hj4.1
       rw [← HN.out] at h4
       have H4 := Lib.hid h4
       clear h4 hj4))
  go_ret
  obtain ⟨A4, c4, rfl, hO4⟩ := own_any H4.out HY.out
  exact ⟨A4, _, c4, rfl, hO4, hb4.1⟩

theorem rput2 (A : Option Addr) (n c B : Nat) (xs : List Int) (m : Int) (w : World) (hO : Oct w B A n xs) (hB : B ≤ w.heap.size) (hn : n ≤ 100000) (h0 : 63 < m) (h1 : m ≤ 16383) :
    Calls Try.prog 42 #[.slice A n c, .int .i64 m] w (PutAny w (xs ++ octN m)) := by
  have hs : sizeN m = 2 := sizeN_2 h0 h1
  have HN : Hid (octN m = [64 + m / 256, m % 256]) := by show octN m = _; unfold octN; rw [hs]; rfl
  have HX := Lib.hid hO.2.1
  have HL := Lib.hid hO.1
  have HY : Hid (∀ y ∈ xs ++ octN m, 0 ≤ y ∧ y ≤ 255) := fun y hy => by
    rcases List.mem_append.1 hy with h | h
    · exact HX.out y h
    · exact octN_bytes m y h
  have OW : Hid ((w.alloc (.cells #[] 5)).ownsRow w.heap.size 5 1 (.slice (some ⟨w.heap.size, 0, none⟩) 0 0) 0 []) :=
    ⟨rfl, .inr ⟨w.heap.size, 0, #[], rfl, Nat.le_refl _, heap_alloc_new w _, Nat.le_refl _, Nat.zero_le _, rfl, rfl⟩⟩
  have HO := Lib.hid hO
  clear hO
  go_enter Try.func42, Try.ntmps42
  go_wp2_with (first
    | (at_builtin
       refine wpList_append_oct _ rfl (.tmp 6) (.tmp 7) rfl rfl w.heap.size (.slice (some ⟨w.heap.size, 0, none⟩) 0 0) [] xs A n c B rfl rfl ?hown ?hO ?hb ?hbase ?_
       case hown => exact OW.out
       case hO => exact HO.out.below (((Below.refl _ _).alloc (Nat.le_refl _) _).mono hB)
       case hb => simp; omega
       case hbase => simp
       intro v3 w3 hj3
       have hb3 := joined_below OW.out hj3 ((Below.refl _ _).alloc (Nat.le_refl _) _) (by simp)
       have h3 := hj3.1
       rw [List.nil_append, List.length_nil, Nat.zero_add] at h3
       have H3 := Lib.hid h3
       clear h3 hj3)
    | (go_at_call 45; refine (rsize_any _ _).mono ?_; rintro e w' ⟨rfl, rfl⟩)
    | (at_builtin
       refine wpList_append_oct _ rfl (.tmp 20) (.tmp 28) rfl rfl w.heap.size v3 xs [64 + m / 256, m % 256] (some ⟨w3.heap.size, 0, none⟩) 2 2 (w3.heap.size + 1) rfl rfl ?hown ?hO ?hb ?hbase ?_
       case hown => exact H3.out.alloc _
       case hO => exact Oct.new w3 [64 + m / 256, m % 256] (by rw [← HN.out]; exact octN_bytes m)
       case hb => rw [HL.out]; omega
       case hbase => have := hb3.2; simp; omega
       intro v4 w4 hj4
       have hb4 := joined_below (H3.out.alloc _) hj4 (hb3.1.alloc hb3.2 _) (by have := hb3.2; simp; omega)
       have h4 := hj4.1
       rw [← HN.out] at h4
       have H4 := Lib.hid h4
       clear h4 hj4))
  go_ret
  obtain ⟨A4, c4, rfl, hO4⟩ := own_any H4.out HY.out
  exact ⟨A4, _, c4, rfl, hO4, hb4.1⟩

theorem rput4 (A : Option Addr) (n c B : Nat) (xs : List Int) (m : Int) (w : World) (hO : Oct w B A n xs) (hB : B ≤ w.heap.size) (hn : n ≤ 100000) (h0 : 16383 < m) (h1 : m ≤ 1073741823) :
    Calls Try.prog 42 #[.slice A n c, .int .i64 m] w (PutAny w (xs ++ octN m)) := by
  have hs : sizeN m = 4 := sizeN_4 h0 h1
  have HN : Hid (octN m = [128 + m / 16777216, m / 65536 % 256, m / 256 % 256, m % 256]) := by show octN m = _; unfold octN; rw [hs]; rfl
  have HX := Lib.hid hO.2.1
  have HL := Lib.hid hO.1
  have HY : Hid (∀ y ∈ xs ++ octN m, 0 ≤ y ∧ y ≤ 255) := fun y hy => by
    rcases List.mem_append.1 hy with h | h
    · exact HX.out y h
    · exact octN_bytes m y h
  have OW : Hid ((w.alloc (.cells #[] 5)).ownsRow w.heap.size 5 1 (.slice (some ⟨w.heap.size, 0, none⟩) 0 0) 0 []) :=
    ⟨rfl, .inr ⟨w.heap.size, 0, #[], rfl, Nat.le_refl _, heap_alloc_new w _, Nat.le_refl _, Nat.zero_le _, rfl, rfl⟩⟩
  have HO := Lib.hid hO
  clear hO
  go_enter Try.func42, Try.ntmps42
  go_wp2_with (first
    | (at_builtin
       refine wpList_append_oct _ rfl (.tmp 6) (.tmp 7) rfl rfl w.heap.size (.slice (some ⟨w.heap.size, 0, none⟩) 0 0) [] xs A n c B rfl rfl ?hown ?hO ?hb ?hbase ?_
       case hown => exact OW.out
       case hO => exact HO.out.below (((Below.refl _ _).alloc (Nat.le_refl _) _).mono hB)
       case hb => simp; omega
       case hbase => simp
       intro v3 w3 hj3
       have hb3 := joined_below OW.out hj3 ((Below.refl _ _).alloc (Nat.le_refl _) _) (by simp)
       have h3 := hj3.1
       rw [List.nil_append, List.length_nil, Nat.zero_add] at h3
       have H3 := Lib.hid h3
       clear h3 hj3)
    | (go_at_call 45; refine (rsize_any _ _).mono ?_; rintro e w' ⟨rfl, rfl⟩)
    | (at_builtin
       refine wpList_append_oct _ rfl (.tmp 32) (.tmp 48) rfl rfl w.heap.size v3 xs [128 + m / 16777216, m / 65536 % 256, m / 256 % 256, m % 256] (some ⟨w3.heap.size, 0, none⟩) 4 4 (w3.heap.size + 1) rfl rfl ?hown ?hO ?hb ?hbase ?_
       case hown => exact H3.out.alloc _
       case hO => exact Oct.new w3 [128 + m / 16777216, m / 65536 % 256, m / 256 % 256, m % 256] (by rw [← HN.out]; exact octN_bytes m)
       case hb => rw [HL.out]; omega
       case hbase => have := hb3.2; simp; omega
       intro v4 w4 hj4
       have hb4 := joined_below (H3.out.alloc _) hj4 (hb3.1.alloc hb3.2 _) (by have := hb3.2; simp; omega)
       have h4 := hj4.1
       rw [← HN.out] at h4
       have H4 := Lib.hid h4
       clear h4 hj4))
  go_ret
  obtain ⟨A4, c4, rfl, hO4⟩ := own_any H4.out HY.out
  exact ⟨A4, _, c4, rfl, hO4, hb4.1⟩

theorem rput_any (A : Option Addr) (n c B : Nat) (xs : List Int) (m : Int) (w : World) (hO : Oct w B A n xs) (hB : B ≤ w.heap.size) (hn : n ≤ 100000) : Calls Try.prog 42 #[.slice A n c, .int .i64 m] w (PutAny w (xs ++ octN m)) := by
  rcases sizeN_cases m with h | h | h | h
  · exact rput0 A n c B xs m w hO hB hn h.2
  · exact rput1 A n c B xs m w hO hB hn h.2.1 h.2.2
  · exact rput2 A n c B xs m w hO hB hn h.2.1 h.2.2
  · exact rput4 A n c B xs m w hO hB hn h.2.1 h.2.2

end Go.Proofs.Ytakbbenegojcdaa
