/-
  The contract of the document's own comparison of two lists of numbers, where they are the same.
-/
import Derived.Test.YtonlkmepdehdgaaWiNums
namespace Go.Proofs.Ytonlkmepdehdgaa
open Go.ChangeShapes Go.WideShapes Go.ChangeAt Go.RowKit
set_option linter.unusedVariables false

theorem ints_same (A1 A2 : Option Addr) (n c1 c2 B1 B2 : Nat) (ls : List Int) (w : World) (h1 : Nums w B1 A1 n ls) (h2 : Nums w B2 A2 n ls) (hn : n ≤ maxLen) :
    Calls Try.prog 18 #[.slice A1 n c1, .slice A2 n c2] w fun e w' => e = .returned (.bool true) ∧ ∃ d, w' = w.drewN d := by
  unfold maxLen at hn
  have hne : ((n : Int) != (n : Int)) = false := by simp
  by_cases h0 : n = 0
  · subst h0
    clear h1 h2 hne
    go_enter Try.func18, Try.ntmps18
    go_wp2
    go_loop [5] (fun i => i = .int .i64 0) (fun _ => 0)
    case atStart => rfl
    case round =>
      subst hrel
      go_wp2
      go_ret
      exact ⟨rfl, 0, rfl⟩
  · obtain ⟨b1, o1, rfl, hB1, hc1⟩ := h1.2 (by omega)
    obtain ⟨b2, o2, rfl, hB2, hc2⟩ := h2.2 (by omega)
    have L := Lib.hid h1.1
    have C1 := Lib.hid hc1
    have C2 := Lib.hid hc2
    clear h1 h2 hc1 hc2
    go_enter Try.func18, Try.ntmps18
    go_wp2
    go_loopw [5] (fun i w' => ∃ j : Nat, j ≤ n ∧ i = .int .i64 j ∧ ∃ d, w' = w.drewN d) (fun i _ => n - (intOf i).toNat)
    case atStart => exact ⟨0, Nat.zero_le _, rfl, 0, rfl⟩
    case round =>
      obtain ⟨j, hj, rfl, d, rfl⟩ := hrel
      by_cases hlt : j < n
      · have hjl : j < ls.length := by rw [L.out]; exact hlt
        have e1 := C1.out j ls[j] (List.getElem?_eq_getElem hjl)
        have e2 := C2.out j ls[j] (List.getElem?_eq_getElem hjl)
        generalize ls[j] = y at *
        have hyy : (y != y) = false := by simp
        have hj0 : (0 : Int) ≤ (j : Int) := by omega
        have hj1 : (j : Int) < (n : Int) := by omega
        go_wp2_with fail
        go_quiet (fail)
        go_wp2
        go_roundw
        case rel => exact ⟨j + 1, by omega, by go_num, _, rfl⟩
        case measure => simp [intOf]; omega
      · go_wp2
        go_ret
        exact ⟨rfl, d, rfl⟩
end Go.Proofs.Ytonlkmepdehdgaa
