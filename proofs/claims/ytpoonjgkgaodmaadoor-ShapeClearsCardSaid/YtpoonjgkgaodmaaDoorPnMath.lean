/-
  What is put of nodes is got; what is got was put; which numbers may be named: by pure means.
-/
import Derived.Test.YtpoonjgkgaodmaaDoorPnBase
namespace Go.Proofs.YtpoonjgkgaodmaaDoor
open Go.ChangeShapes Go.WideShapes Go.ChangeAt Go.RowKit
set_option linter.unusedVariables false

theorem pnSame_iff {L M : Pn} : PnSame L M ↔ L = M := by
  constructor
  · intro h
    obtain ⟨a, b, c⟩ := L
    obtain ⟨a', b', c'⟩ := M
    obtain ⟨h1, h2, h3⟩ := h
    simp only at h1 h2 h3
    subst h1 h2 h3
    rfl
  · rintro rfl
    exact ⟨rfl, rfl, rfl⟩
theorem pnPut_ok {L : Pn} (h : pnCheck L = 0) : pnPut L = pnOct L := by rw [pnPut, if_pos h]
theorem pnPut_no {L : Pn} (h : ¬ pnCheck L = 0) : pnPut L = [] := by rw [pnPut, if_neg h]
theorem pn_wide {L : Pn} (h : pnCheck L = 0) : ∀ n ∈ L.unm, 0 ≤ n ∧ n < 4294967296 := fun n hn => by
  have := (pnCheck_nums h).1 n hn
  omega
theorem pn_back {L : Pn} (h : pnCheck L = 0) (zs : List Int) : pnGet (pnPut L ++ zs) = (0, L, zs) := by
  have ok := pnCheck_ok h
  rw [pnPut_ok h, pnOct]
  simp only [List.append_assoc]
  obtain ⟨a1, a2, a3⟩ := bytes_put L.enc (bytesOct L.hash ++ (bytesOct (numsOct L.unm) ++ zs)) (by omega)
  obtain ⟨b1, b2, b3⟩ := bytes_put L.hash (bytesOct (numsOct L.unm) ++ zs) (by omega)
  obtain ⟨c1, c2, c3⟩ := nums_put L.unm zs (by omega) (pn_wide h)
  unfold pnGet
  simp only [a1, a2, a3, b1, b2, b3, c1, c2, c3, not_true_eq_false, if_false]
  rw [if_neg (not_not_intro h)]
theorem pnPut_pos {L : Pn} (h : pnCheck L = 0) : 0 < (pnPut L).length := by
  have ok := pnCheck_ok h
  have := bytesOct_pos (vs := L.enc) (by omega)
  rw [pnPut_ok h, pnOct]
  simp only [List.length_append]
  omega
theorem pn_short {L : Pn} (h : pnCheck L = 0) (k : Nat) (hk : k < (pnPut L).length) : pnGet ((pnPut L).take k) = (1, Pn.zero, []) := by
  have ok := pnCheck_ok h
  have hn := numsOct_length L.unm
  rw [pnPut_ok h, pnOct] at hk ⊢
  simp only [List.append_assoc, List.length_append] at hk ⊢
  by_cases k1 : k < (bytesOct L.enc).length
  · rw [List.take_append_of_le_length (by omega)]
    have e := bytes_cut L.enc k (by omega) k1
    unfold pnGet
    rw [if_pos (by rw [e]; decide), e]
  rw [List.take_append, List.take_of_length_le (by omega : (bytesOct L.enc).length ≤ k)]
  obtain ⟨a1, a2, a3⟩ := bytes_put L.enc ((bytesOct L.hash ++ bytesOct (numsOct L.unm)).take (k - (bytesOct L.enc).length)) (by omega)
  unfold pnGet
  rw [if_neg (not_not_intro a1), a3]
  generalize hj : k - (bytesOct L.enc).length = j
  by_cases k2 : j < (bytesOct L.hash).length
  · rw [List.take_append_of_le_length (by omega)]
    have e := bytes_cut L.hash j (by omega) k2
    rw [if_pos (by rw [e]; decide), e]
  rw [List.take_append, List.take_of_length_le (by omega : (bytesOct L.hash).length ≤ j)]
  obtain ⟨b1, b2, b3⟩ := bytes_put L.hash ((bytesOct (numsOct L.unm)).take (j - (bytesOct L.hash).length)) (by omega)
  rw [if_neg (not_not_intro b1), b3]
  have e := nums_cut L.unm (j - (bytesOct L.hash).length) (by omega) (by omega)
  rw [if_pos (by rw [e]; decide), e]
theorem pn_err {xs : List Int} (h : ¬ (pnGet xs).1 = 0) : (pnGet xs).2 = (Pn.zero, []) := by
  revert h
  unfold pnGet
  repeat' split
  all_goals intro h
  all_goals first | rfl | exact absurd rfl h
theorem pn_rest {a b xs : List Int} (hx : Bytes xs) (e : a ++ b = xs) : Bytes b := fun y hy => hx y (by rw [← e]; simp [hy])
theorem pn_only {xs : List Int} (hx : Bytes xs) (h : (pnGet xs).1 = 0) : pnCheck (pnGet xs).2.1 = 0 ∧ pnPut (pnGet xs).2.1 ++ (pnGet xs).2.2 = xs := by
  have key : ∀ E M R, pnGet xs = (E, M, R) → E = 0 → pnCheck M = 0 ∧ pnPut M ++ R = xs := by
    intro E M R hg hE
    subst hE
    unfold pnGet at hg
    by_cases h1 : bytesE xs = 0
    · rw [if_neg (not_not_intro h1)] at hg
      have e1 := bytes_got xs hx h1
      have x1 := pn_rest hx e1
      by_cases h2 : bytesE (bytesR xs) = 0
      · rw [if_neg (not_not_intro h2)] at hg
        have e2 := bytes_got _ x1 h2
        have x2 := pn_rest x1 e2
        by_cases h3 : numsE (bytesR (bytesR xs)) = 0
        · rw [if_neg (not_not_intro h3)] at hg
          have e3 := (nums_got _ x2 h3).2
          by_cases h4 : pnCheck (⟨bytesP xs, bytesP (bytesR xs), numsL (bytesR (bytesR xs))⟩ : Pn) = 0
          · rw [if_neg (not_not_intro h4)] at hg
            simp only [Prod.mk.injEq, true_and] at hg
            obtain ⟨rfl, rfl⟩ := hg
            refine ⟨h4, ?_⟩
            rw [pnPut_ok h4, pnOct]
            simp only [List.append_assoc]
            rw [e3, e2, e1]
          · rw [if_pos h4] at hg
            exact absurd (congrArg Prod.fst hg) h4
        · rw [if_pos h3] at hg
          exact absurd (congrArg Prod.fst hg) h3
      · rw [if_pos h2] at hg
        exact absurd (congrArg Prod.fst hg) h2
    · rw [if_pos h1] at hg
      exact absurd (congrArg Prod.fst hg) h1
  exact key _ _ _ rfl h
-- which numbers may be named
theorem rising_bound : ∀ {l : List Int} {a : Int} {n : Nat}, Rising l → (∀ x ∈ l, a ≤ x ∧ x < a + n) → l.length ≤ n
  | [], _, _, _, _ => Nat.zero_le _
  | x :: r, a, n, h, hb => by
    have h1 := List.pairwise_cons.1 h
    have hx := hb x (by simp)
    obtain ⟨k, rfl⟩ : ∃ k, n = k + 1 := ⟨n - 1, by omega⟩
    have := rising_bound (l := r) (a := a + 1) (n := k) h1.2 fun y hy => by
      have := h1.1 y hy
      have := hb y (by simp [hy])
      omega
    rw [List.length_cons]
    omega
theorem um_ok {L : Pn} {i : Int} (h : pnCheck L = 0) (hi : 0 ≤ i) (hi' : i < 64) : pnCheck (⟨L.enc, L.hash, joinK L.unm i⟩ : Pn) = 0 := by
  have ok := pnCheck_ok h
  have on := pnCheck_nums h
  have hr : ∀ x ∈ joinK L.unm i, 0 ≤ x ∧ x < 64 := fun x hx => by
    rcases joinK_mem.1 hx with hx | rfl
    · exact on.1 x hx
    · exact ⟨hi, hi'⟩
  exact pnCheck_of ok.1 ok.2.1 ok.2.2.1 (rising_bound (a := 0) (n := 64) (joinK_rising _ _) fun x hx => by have := hr x hx; omega) hr (joinK_rising _ _)
theorem um_far {L : Pn} {i : Int} (h : pnCheck L = 0) (hi : ¬ (0 ≤ i ∧ i < 64)) : pnCheck (⟨L.enc, L.hash, joinK L.unm i⟩ : Pn) = 3 ∨ pnCheck (⟨L.enc, L.hash, joinK L.unm i⟩ : Pn) = 4 := by
  have ok := pnCheck_ok h
  unfold pnCheck
  rw [if_neg (by show ¬ (L.enc.length : Int) = 0; omega)]
  split
  · exact .inr rfl
  · rw [if_pos ⟨i, joinK_mem.2 (.inr rfl), by omega⟩]
    exact .inl rfl
theorem um_far0 {L : Pn} {i : Int} (h : pnCheck L = 0) (hi : ¬ (0 ≤ i ∧ i < 64)) : ¬ pnCheck (⟨L.enc, L.hash, joinK L.unm i⟩ : Pn) = 0 := by
  have := um_far h hi
  omega
theorem um_far4 {L : Pn} {i : Int} (h : pnCheck L = 0) (hi : ¬ (0 ≤ i ∧ i < 64)) (h3 : ¬ pnCheck (⟨L.enc, L.hash, joinK L.unm i⟩ : Pn) = 3) : pnCheck (⟨L.enc, L.hash, joinK L.unm i⟩ : Pn) = 4 := by
  have := um_far h hi
  omega
theorem um_twice {L : Pn} (h : pnCheck L = 0) (h1 : 0 < L.unm.length) (h2 : L.unm.length < 64) : pnCheck (⟨L.enc, L.hash, [L.unm.getD 0 0] ++ L.unm⟩ : Pn) = 8 := by
  have ok := pnCheck_ok h
  have on := pnCheck_nums h
  have hm := getD_mem h1
  unfold pnCheck
  rw [if_neg (by show ¬ (L.enc.length : Int) = 0; omega), if_neg (by simp only [List.length_append, List.length_cons, List.length_nil]; omega), if_neg, if_pos]
  · intro q
    exact absurd ((List.pairwise_cons.1 q).1 _ hm) (Int.lt_irrefl _)
  · rintro ⟨x, hx, q⟩
    rcases List.mem_append.1 hx with hx | hx
    · rw [List.mem_singleton] at hx
      subst hx
      have := on.1 _ hm
      omega
    · have := on.1 x hx
      omega
-- joined, and cut
theorem join_twice (l : List Int) (i : Int) : joinK (joinK l i) i = joinK l i := joinK_eq (joinK_rising _ _) fun x => by
  constructor
  · exact .inl
  · rintro (h | rfl)
    · exact h
    · exact joinK_mem.2 (.inr rfl)
theorem join_back (l : List Int) (i : Int) : joinK (cutK (joinK l i) [i]) i = joinK l i := joinK_eq (joinK_rising _ _) fun x => by
  rw [cutK_mem, joinK_mem, List.mem_singleton]
  constructor
  · intro h
    by_cases e : x = i
    · exact .inr e
    · exact .inl ⟨h, e⟩
  · rintro (h | h)
    · exact h.1
    · exact .inr h
theorem join_swap (l : List Int) (i k : Int) : joinK (joinK l i) k = joinK (joinK l k) i := joinK_eq (joinK_rising _ _) fun x => by
  simp only [joinK_mem]
  constructor
  · rintro ((h | h) | h) <;> simp [h]
  · rintro ((h | h) | h) <;> simp [h]
theorem cut_at {l i : List Int} {t : Nat} (ht : t < l.length) (h : ¬ l.getD t 0 ∈ i) : (cutK (l.take t) i).length < (cutK l i).length ∧ (cutK l i).getD (cutK (l.take t) i).length 0 = l.getD t 0 := by
  have e : cutK l i = cutK (l.take t) i ++ (l.getD t 0 :: cutK (l.drop (t + 1)) i) := by
    have e1 : cutK l i = cutK (l.take (t + 1)) i ++ cutK (l.drop (t + 1)) i := by
      unfold cutK
      rw [← List.filter_append, List.take_append_drop]
    rw [e1, cutK_take ht, if_neg h, List.append_assoc]
    rfl
  constructor
  · rw [e, List.length_append, List.length_cons]
    omega
  · rw [e, List.getD_eq_getElem?_getD, List.getElem?_append_right (Nat.le_refl _), Nat.sub_self]
    rfl
theorem pnFew_small {L : Pn} (h1 : L.enc.length ≤ 140737488355328) (h2 : L.hash.length ≤ 140737488355328) (h3 : L.unm.length ≤ 140737488355328) (h : pnFew L) : L.enc.length + L.hash.length + L.unm.length ≤ 600 := by
  unfold pnFew at h
  rw [wrap_i64 (n := (L.enc.length : Int) + (L.hash.length : Int)) (by omega) (by omega), wrap_i64 (by omega) (by omega)] at h
  omega
end Go.Proofs.YtpoonjgkgaodmaaDoor
