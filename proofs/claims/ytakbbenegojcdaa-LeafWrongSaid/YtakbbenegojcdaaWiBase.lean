/-
  Plain contracts of package wire's small functions (width, read, roomy, lay) and of PutNum, for every argument that they can get.
-/
import Derived.Test.YtakbbenegojcdaaVaAny
namespace Go.Proofs.Ytakbbenegojcdaa
open Go.ChangeShapes Go.WideShapes Go.ChangeAt Go.RowKit
set_option linter.unusedVariables false

/-- How many octets a number is given. -/
def widthK (k : Int) : Nat := if k < 1 then 1 else if 4 < k then 4 else k.toNat

theorem widthK_le (k : Int) : 1 ≤ widthK k ∧ widthK k ≤ 4 := by
  unfold widthK
  by_cases h : k < 1
  · rw [if_pos h]; omega
  · rw [if_neg h]
    by_cases h4 : 4 < k
    · rw [if_pos h4]; omega
    · rw [if_neg h4]; omega

theorem width_any (k : Int) (w : World) : Calls Try.prog 34 #[.int .i64 k] w fun e w' => e = .returned (.int .i64 (widthK k : Nat)) ∧ w = w' := by
  by_cases h : k < 1
  · have e : ((widthK k : Nat) : Int) = 1 := by unfold widthK; rw [if_pos h]; rfl
    rw [e]
    clear e
    go_enter Try.func34, Try.ntmps34
    go_wp2
    go_ret
    exact ⟨rfl, rfl⟩
  · by_cases h4 : 4 < k
    · have e : ((widthK k : Nat) : Int) = 4 := by unfold widthK; rw [if_neg h, if_pos h4]; rfl
      rw [e]
      clear e
      go_enter Try.func34, Try.ntmps34
      go_wp2
      all_goals (go_ret; exact ⟨rfl, rfl⟩)
    · have e : ((widthK k : Nat) : Int) = k := by unfold widthK; rw [if_neg h, if_neg h4]; omega
      rw [e]
      clear e
      have hc : k = 1 ∨ k = 2 ∨ k = 3 ∨ k = 4 := by omega
      clear h h4
      rcases hc with rfl | rfl | rfl | rfl
      all_goals
        go_enter Try.func34, Try.ntmps34
        go_wp2
        go_ret
        exact ⟨rfl, rfl⟩

/-- The number of octets, the highest first. -/
def numV (xs : List Int) : Int := xs.foldl (fun a y => a * 256 + y) 0
theorem numV_snoc (y : Int) (l : List Int) : numV (l ++ [y]) = numV l * 256 + y := by simp [numV, List.foldl_append]
theorem numV_step (ys : List Int) (j : Nat) (h : j < ys.length) : numV (ys.take (j + 1)) = numV (ys.take j) * 256 + ys[j] := by
  rw [List.take_succ_eq_append_getElem h, numV_snoc]
theorem numV_bd (ys : List Int) (h : ∀ y ∈ ys, 0 ≤ y ∧ y ≤ 255) (hl : ys.length ≤ 4) : 0 ≤ numV ys ∧ numV ys ≤ 4294967295 := by
  match ys, h, hl with
  | [], _, _ => simp only [numV, List.foldl_nil]; omega
  | [a], h, _ => have ha := h a (by simp); simp only [numV, List.foldl_nil, List.foldl_cons]; omega
  | [a, b], h, _ => have ha := h a (by simp); have hb := h b (by simp); simp only [numV, List.foldl_nil, List.foldl_cons]; omega
  | [a, b, c], h, _ => have ha := h a (by simp); have hb := h b (by simp); have hc := h c (by simp); simp only [numV, List.foldl_nil, List.foldl_cons]; omega
  | [a, b, c, d], h, _ => have ha := h a (by simp); have hb := h b (by simp); have hc := h c (by simp); have hd := h d (by simp); simp only [numV, List.foldl_nil, List.foldl_cons]; omega
  | _ :: _ :: _ :: _ :: _ :: _, _, hl => simp at hl

theorem read_any (A : Option Addr) (n c B : Nat) (xs : List Int) (w : World) (hO : Oct w B A n xs) (hn : n ≤ 4) :
    Calls Try.prog 35 #[.slice A n c] w fun e w' => e = .returned (.int .i64 (numV xs)) ∧ w = w' := by
  by_cases h0 : n = 0
  · subst h0
    have hx : xs = [] := List.eq_nil_of_length_eq_zero hO.1
    subst hx
    clear hO
    go_enter Try.func35, Try.ntmps35
    go_wp2
    go_loop [3, 8] (fun s i => i = .int .i64 0 ∧ s = .int .i64 0) (fun _ i => 0)
    case atStart => exact ⟨rfl, rfl⟩
    case round =>
      obtain ⟨rfl, rfl⟩ := hrel
      go_wp2
      go_ret
      exact ⟨rfl, rfl⟩
  · obtain ⟨hl, hb, hc⟩ := hO
    obtain ⟨b, o, rfl, hB, hc⟩ := hc (by omega)
    have Hl := Lib.hid hl
    have Hb := Lib.hid hb
    have Hc := Lib.hid hc
    clear hl hb hc
    go_enter Try.func35, Try.ntmps35
    go_wp2
    go_loop [3, 8] (fun s i => ∃ j : Nat, j ≤ n ∧ i = .int .i64 j ∧ s = .int .i64 (numV (xs.take j))) (fun _ i => n - (intOf i).toNat)
    case atStart => exact ⟨0, Nat.zero_le _, rfl, by simp [numV]⟩
    case round =>
      obtain ⟨j, hj, rfl, rfl⟩ := hrel
      by_cases hlt : j < n
      · have hjl : j < xs.length := by rw [Hl.out]; omega
        have hcell := Hc.out j xs[j] (List.getElem?_eq_getElem hjl)
        have hb := Hb.out xs[j] (List.getElem_mem hjl)
        have hv := numV_bd (xs.take j) (fun z hz => Hb.out z (List.mem_of_mem_take hz)) (by rw [List.length_take]; omega)
        have HS := Lib.hid (numV_step xs j hjl)
        generalize xs[j] = y at *
        generalize hg : numV (xs.take j) = v at *
        have Hg := Lib.hid hg
        clear hg
        go_wp2
        go_round
        case rel => exact ⟨j + 1, by omega, by go_num, by rw [HS.out]⟩
        case measure => simp [intOf]; omega
      · obtain rfl : j = n := by omega
        have e : numV (xs.take j) = numV xs := by rw [← Hl.out, List.take_length]
        rw [e]
        clear e
        go_wp2
        go_ret
        exact ⟨rfl, rfl⟩
end Go.Proofs.Ytakbbenegojcdaa
