/-
  The contract of varint.Get in two halves, for every slice of octets: where it answers an error, and where it answers a number and the rest.
-/
import Derived.Test.YtakbbenegojcdaaVaGet
namespace Go.Proofs.Ytakbbenegojcdaa
open Go.ChangeShapes Go.WideShapes Go.ChangeAt Go.RowKit
set_option linter.unusedVariables false

theorem toldN_cases (x : Int) : toldN x = 0 ∧ 192 ≤ x ∨ toldN x = 1 ∧ x < 64 ∨ toldN x = 2 ∧ 64 ≤ x ∧ x < 128 ∨ toldN x = 4 ∧ 128 ≤ x ∧ x < 192 := by
  rcases Int.lt_or_le x 64 with h | h
  · exact .inr (.inl ⟨toldN_1 h, h⟩)
  · rcases Int.lt_or_le x 128 with h1 | h1
    · exact .inr (.inr (.inl ⟨toldN_2 h h1, h, h1⟩))
    · rcases Int.lt_or_le x 192 with h2 | h2
      · exact .inr (.inr (.inr ⟨toldN_4 h1 h2, h1, h2⟩))
      · exact .inl ⟨toldN_0 h2, h2⟩

theorem getK_cons (x : Int) (ys : List Int) : getK (x :: ys) = (toldN x).toNat := rfl
theorem getV_cons (x : Int) (ys : List Int) : getV (x :: ys) = valN x (ys.take (getK (x :: ys) - 1)) := rfl
theorem getK_le (xs : List Int) : getK xs ≤ 4 := by
  unfold getK
  rcases toldN_cases (xs.headD 192) with h | h | h | h <;> rw [h.1] <;> decide

theorem get_bad (A : Option Addr) (n c B : Nat) (xs : List Int) (w : World) (hO : Oct w B A n xs) (hnc : n ≤ c) (hcm : c ≤ maxLen) (hE : getE xs ≠ 0) :
    Calls Try.prog 33 #[.slice A n c] w fun e w' => e = .returned (.tuple #[.int .i64 0, .slice none 0 0, .int .i64 (getE xs)]) ∧ w = w' := by
  match xs, hO, hE with
  | [], hO, _ =>
    have hn : n = 0 := by have := hO.1; simpa using this.symm
    subst hn
    exact get_none A c w
  | x :: ys, hO, hE =>
    have hn : ys.length + 1 = n := by simpa using hO.1
    obtain ⟨b, o, rfl, hB, hx, hx2, hc, hy, hyb⟩ := hO.tail
    have h0 : ¬ (x :: ys).length = 0 := by simp
    by_cases hk0 : getK (x :: ys) = 0
    · have e : getE (x :: ys) = 2 := by unfold getE; rw [if_neg h0, if_pos hk0]
      rw [e]
      have h192 : 192 ≤ x := by
        rw [getK_cons] at hk0
        rcases toldN_cases x with h | h | h | h
        · exact h.2
        · rw [h.1] at hk0; simp at hk0
        · rw [h.1] at hk0; simp at hk0
        · rw [h.1] at hk0; simp at hk0
      exact get_high b o n c x w (by omega) h192 hc
    · have ht : toldN x = (getK (x :: ys) : Nat) := by
        rw [getK_cons]
        rcases toldN_cases x with h | h | h | h <;> rw [h.1] <;> rfl
      have hk4 := getK_le (x :: ys)
      by_cases hs : (x :: ys).length < getK (x :: ys)
      · have e : getE (x :: ys) = 1 := by unfold getE; rw [if_neg h0, if_neg hk0, if_pos hs]
        rw [e]
        exact get_short b o n c _ x w (by omega) ht (by rw [← hn]; simpa using hs) hc
      · by_cases hz : sizeN (getV (x :: ys)) = getK (x :: ys)
        · exact absurd (by unfold getE; rw [if_neg h0, if_neg hk0, if_neg hs, if_pos hz]) hE
        · have e : getE (x :: ys) = 2 := by unfold getE; rw [if_neg h0, if_neg hk0, if_neg hs, if_neg hz]
          rw [e]
          have hs' : getK (x :: ys) ≤ ys.length + 1 := by simpa using hs
          refine get_form b o n c (getK (x :: ys)) x (getV (x :: ys)) (ys.take (getK (x :: ys) - 1)) w ht (by omega) hk4 (by omega) hnc hcm hx hx2 hc
            (fun i y hi => hy i y ?_) (by rw [List.length_take]; omega) (fun y hm => hyb y (List.mem_of_mem_take hm)) (getV_cons x ys).symm hz ?_
          · rw [List.getElem?_take] at hi
            split at hi
            · exact hi
            · cases hi
          · intro h1
            rcases toldN_cases x with h | h | h | h
            · rw [getK_cons, h.1] at hk0; simp at hk0
            · apply hz
              have e1 : getK (x :: ys) = 1 := by rw [getK_cons, h.1]; rfl
              rw [getV_cons, e1]
              simp only [valN, List.take_zero, List.foldl_nil, Nat.sub_self]
              rw [show x % 64 = x from by omega, sizeN_1 hx (by omega)]; rfl
            · rw [getK_cons, h.1] at hs'; simp at hs'; omega
            · rw [getK_cons, h.1] at hs'; simp at hs'; omega

/-- What Get answers where octets begin with a number: the number, and a slice that reads as the rest. -/
def GotWell (w : World) (B n c : Nat) (xs : List Int) (e : Ending) (w' : World) : Prop :=
  ∃ A', e = .returned (.tuple #[.int .i64 (getV xs), .slice A' (n - getK xs) (c - getK xs), .int .i64 0]) ∧ Oct w B A' (n - getK xs) (xs.drop (getK xs)) ∧ ∃ d, w' = w.drewN d

theorem getE_ok {xs : List Int} (h : getE xs = 0) : 1 ≤ getK xs ∧ getK xs ≤ xs.length ∧ sizeN (getV xs) = getK xs := by
  unfold getE at h
  by_cases h0 : xs.length = 0
  · rw [if_pos h0] at h; simp at h
  · rw [if_neg h0] at h
    by_cases h1 : getK xs = 0
    · rw [if_pos h1] at h; simp at h
    · rw [if_neg h1] at h
      by_cases h2 : xs.length < getK xs
      · rw [if_pos h2] at h; simp at h
      · rw [if_neg h2] at h
        by_cases h3 : sizeN (getV xs) = getK xs
        · exact ⟨by omega, by omega, h3⟩
        · rw [if_neg h3] at h; simp at h

theorem get_good (A : Option Addr) (n c B : Nat) (xs : List Int) (w : World) (hO : Oct w B A n xs) (hnc : n ≤ c) (hcm : c ≤ maxLen) (hE : getE xs = 0) :
    Calls Try.prog 33 #[.slice A n c] w (GotWell w B n c xs) := by
  obtain ⟨h1, h2, h3⟩ := getE_ok hE
  match xs, hO, h1, h2, h3 with
  | [], _, h1, h2, _ => simp at h2; omega
  | x :: ys, hO, h1, h2, h3 =>
    have hn : ys.length + 1 = n := by simpa using hO.1
    have h2' : getK (x :: ys) ≤ ys.length + 1 := by simpa using h2
    obtain ⟨b, o, rfl, hB, hx, hx2, hc, hy, hyb⟩ := hO.tail
    have ht : toldN x = (getK (x :: ys) : Nat) := by
      rw [getK_cons]
      rcases toldN_cases x with h | h | h | h <;> rw [h.1] <;> rfl
    have hk4 := getK_le (x :: ys)
    have hy' : ∀ i y, (ys.take (getK (x :: ys) - 1))[i]? = some y → w.cell? ⟨b, o + 1 + i, none⟩ = some (.int .u8 y) := fun i y hi => hy i y (by
      rw [List.getElem?_take] at hi
      split at hi
      · exact hi
      · cases hi)
    have hl' : (ys.take (getK (x :: ys) - 1)).length = getK (x :: ys) - 1 := by rw [List.length_take]; omega
    have hyb' : ∀ y ∈ ys.take (getK (x :: ys) - 1), 0 ≤ y ∧ y ≤ 255 := fun y hm => hyb y (List.mem_of_mem_take hm)
    by_cases hc1 : c = 1
    · have hk1 : getK (x :: ys) = 1 := by omega
      have hn1 : n = 1 := by omega
      subst hc1 hn1
      have hx63 : x ≤ 63 := by
        rw [hk1] at ht
        rcases toldN_cases x with h | h | h | h
        · rw [h.1] at ht; simp at ht
        · omega
        · rw [h.1] at ht; simp at ht
        · rw [h.1] at ht; simp at ht
      refine (get_ok1 b o x w hx hx63 hc).mono fun e w' ⟨he, hw⟩ => ?_
      have hv : getV (x :: ys) = x := by
        rw [getV_cons, hk1]
        simp only [valN, List.take_zero, List.foldl_nil, Nat.sub_self]
        omega
      refine ⟨_, ?_, hO.cut _ (by omega) o (fun h => by omega), hw⟩
      rw [he, hv, hk1]
    · by_cases hck : c = getK (x :: ys)
      · have hnk : n = getK (x :: ys) := by omega
        subst hck
        rw [hnk] at hO ⊢
        refine (get_okk b o (getK (x :: ys)) x (getV (x :: ys)) _ w ht h1 hk4 hx hx2 hc hy' hl' hyb' (getV_cons x ys).symm h3 hc1).mono fun e w' ⟨he, hw⟩ => ?_
        refine ⟨_, ?_, hO.cut _ (by omega) o (fun h => by omega), hw⟩
        rw [he, Nat.sub_self]
      · refine (get_ok b o n c (getK (x :: ys)) x (getV (x :: ys)) _ w ht h1 hk4 (by omega) hnc hcm hx hx2 hc hy' hl' hyb' (getV_cons x ys).symm h3 hck hc1).mono fun e w' ⟨he, hw⟩ => ?_
        exact ⟨_, he, hO.cut _ (by omega) _ (fun _ => rfl), hw⟩
end Go.Proofs.Ytakbbenegojcdaa
