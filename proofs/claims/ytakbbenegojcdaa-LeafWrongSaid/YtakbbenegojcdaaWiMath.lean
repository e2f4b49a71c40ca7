/-
  Plain facts on the octets of layer 2: what is put is got, what is got was put, what is cut short is short.
-/
import Derived.Test.YtakbbenegojcdaaWiRow
namespace Go.Proofs.Ytakbbenegojcdaa
open Go.ChangeShapes Go.WideShapes Go.ChangeAt Go.RowKit
set_option linter.unusedVariables false

theorem bytesOct_small {vs : List Int} (h : vs.length ≤ 1048576) : bytesOct vs = octN vs.length ++ vs := by unfold bytesOct; rw [if_neg (by omega)]
theorem sizeN_len {n : Nat} (h : n ≤ 1048576) : sizeN (n : Int) ≠ 0 := by
  rcases sizeN_cases (n : Int) with h1 | h1 | h1 | h1 <;> omega
theorem octN_pos {n : Nat} (h : n ≤ 1048576) : 0 < (octN (n : Int)).length := by
  have h1 := octN_length (n : Int)
  have h2 := sizeN_len h
  have h3 := sizeN_bd (n : Int)
  omega
theorem bytesOct_pos {vs : List Int} (h : vs.length ≤ 1048576) : 0 < (bytesOct vs).length := by
  have := octN_pos h
  rw [bytesOct_small h, List.length_append]; omega
theorem bytesOct_length {vs : List Int} (h : vs.length ≤ 1048576) : (bytesOct vs).length = (octN (vs.length : Int)).length + vs.length := by
  rw [bytesOct_small h, List.length_append]
theorem bytesOct_bytes {vs : List Int} (h : ∀ y ∈ vs, 0 ≤ y ∧ y ≤ 255) : ∀ y ∈ bytesOct vs, 0 ≤ y ∧ y ≤ 255 := by
  intro y hy
  unfold bytesOct at hy
  split at hy
  · cases hy
  · rcases List.mem_append.1 hy with h1 | h1
    · exact octN_bytes _ y h1
    · exact h y h1

/-- What is cut short is short. -/
theorem bytes_cut (vs : List Int) (i : Nat) (h : vs.length ≤ 1048576) (hi : i < (bytesOct vs).length) : bytesE ((bytesOct vs).take i) = 1 := by
  rw [bytesOct_length h] at hi
  rw [bytesOct_small h]
  by_cases hl : i < (octN (vs.length : Int)).length
  · rw [List.take_append_of_le_length (by omega)]
    have h1 := got_cut (vs.length : Int) i hl
    unfold bytesE
    rw [h1]
    simp
  · have e : (octN (vs.length : Int) ++ vs).take i = octN (vs.length : Int) ++ vs.take (i - (octN (vs.length : Int)).length) := by
      rw [List.take_append, List.take_of_length_le (by omega)]
    rw [e]
    obtain ⟨h1, h2, h3⟩ := got_put (vs.length : Int) (vs.take (i - (octN (vs.length : Int)).length)) (sizeN_len h)
    unfold bytesE gotR
    rw [h1, h2, h3, List.drop_left, if_neg (by decide), if_neg (by omega), if_pos rfl, if_pos]
    rw [List.length_take]
    omega
theorem nums_cut (ls : List Int) (i : Nat) (h : (numsOct ls).length ≤ 1048576) (hi : i < (bytesOct (numsOct ls)).length) : numsE ((bytesOct (numsOct ls)).take i) = 1 := by
  have h1 := bytes_cut (numsOct ls) i h hi
  unfold numsE
  rw [h1]
  simp

/-- What is put is got. -/
theorem bytes_put (vs zs : List Int) (h : vs.length ≤ 1048576) : bytesE (bytesOct vs ++ zs) = 0 ∧ bytesP (bytesOct vs ++ zs) = vs ∧ bytesR (bytesOct vs ++ zs) = zs := by
  rw [bytesOct_small h, List.append_assoc]
  obtain ⟨h1, h2, h3⟩ := got_put (vs.length : Int) (vs ++ zs) (sizeN_len h)
  have hr : gotR (octN (vs.length : Int) ++ (vs ++ zs)) = vs ++ zs := by
    unfold gotR
    rw [h1, if_pos rfl, h3, List.drop_left]
  have he : bytesE (octN (vs.length : Int) ++ (vs ++ zs)) = 0 := by
    unfold bytesE
    rw [h1, h2, hr, if_neg (by decide), if_neg (by omega), if_neg]
    rw [List.length_append]; omega
  refine ⟨he, ?_, ?_⟩
  · unfold bytesP
    rw [if_pos he, hr, h2, Int.toNat_natCast, List.take_left]
  · unfold bytesR
    rw [if_pos he, hr, h2, Int.toNat_natCast, List.drop_left]

theorem numOct4 (n : Int) : numOct n 4 = [n / 16777216 % 256, n / 65536 % 256, n / 256 % 256, n % 256] := by
  simp [numOct, List.range, List.range.loop]
theorem numV4 (a b c d : Int) : numV [a, b, c, d] = ((a * 256 + b) * 256 + c) * 256 + d := by simp [numV]
theorem num_put (n : Int) (h0 : 0 ≤ n) (h1 : n < 4294967296) : numV (numOct n 4) = n := by
  rw [numOct4, numV4]; omega
theorem num_got (a b c d : Int) (ha : 0 ≤ a ∧ a ≤ 255) (hb : 0 ≤ b ∧ b ≤ 255) (hc : 0 ≤ c ∧ c ≤ 255) (hd : 0 ≤ d ∧ d ≤ 255) : numOct (numV [a, b, c, d]) 4 = [a, b, c, d] := by
  rw [numV4, numOct4]
  congr 1
  · omega
  · congr 1
    · omega
    · congr 1
      · omega
      · congr 1
        omega

theorem fours_cons (p ps : List Int) (hp : p.length = 4) : fours (p ++ ps) = numV p :: fours ps := by
  unfold fours
  rw [List.length_append, hp, show (4 + ps.length) / 4 = ps.length / 4 + 1 from by omega, List.range_succ_eq_map, List.map_cons, List.map_map]
  congr 1
  · rw [Nat.mul_zero, List.drop_zero, ← hp, List.take_left]
  · refine List.map_congr_left fun i _ => ?_
    show numV (((p ++ ps).drop (4 * (i + 1))).take 4) = _
    rw [show 4 * (i + 1) = p.length + 4 * i from by omega, List.drop_append, Nat.add_sub_cancel_left, List.drop_eq_nil_of_le (by omega), List.nil_append]
theorem fours_put (ls : List Int) (h : ∀ n ∈ ls, 0 ≤ n ∧ n < 4294967296) : fours (numsOct ls) = ls := by
  induction ls with
  | nil => rfl
  | cons x l ih =>
    have e : numsOct (x :: l) = numOct x 4 ++ numsOct l := rfl
    rw [e, fours_cons _ _ (numOct_length _ _), num_put x (h x (by simp)).1 (h x (by simp)).2, ih fun n hn => h n (by simp [hn])]
theorem fours_got : ∀ (k : Nat) (ps : List Int), ps.length = 4 * k → (∀ p ∈ ps, 0 ≤ p ∧ p ≤ 255) → numsOct (fours ps) = ps
  | 0, ps, hl, _ => by
    have e : ps = [] := List.eq_nil_of_length_eq_zero (by omega)
    subst e
    rfl
  | k + 1, ps, hl, h => by
    match ps, hl, h with
    | a :: b :: c :: d :: qs, hl, h =>
      have e : a :: b :: c :: d :: qs = [a, b, c, d] ++ qs := rfl
      have ih := fours_got k qs (by simp at hl; omega) fun p hp => h p (by simp [hp])
      have e2 : ∀ x l, numsOct (x :: l) = numOct x 4 ++ numsOct l := fun _ _ => rfl
      rw [e, fours_cons _ _ rfl, e2, ih, num_got a b c d (h a (by simp)) (h b (by simp)) (h c (by simp)) (h d (by simp))]
    | [], hl, _ => simp at hl
    | [_], hl, _ => simp at hl; omega
    | [_, _], hl, _ => simp at hl; omega
    | [_, _, _], hl, _ => simp at hl; omega

theorem nums_put (ls zs : List Int) (hl : ls.length ≤ 262144) (h : ∀ n ∈ ls, 0 ≤ n ∧ n < 4294967296) :
    numsE (bytesOct (numsOct ls) ++ zs) = 0 ∧ numsL (bytesOct (numsOct ls) ++ zs) = ls ∧ numsR (bytesOct (numsOct ls) ++ zs) = zs := by
  obtain ⟨h1, h2, h3⟩ := bytes_put (numsOct ls) zs (by rw [numsOct_length]; omega)
  have he : numsE (bytesOct (numsOct ls) ++ zs) = 0 := by
    unfold numsE
    rw [h1, h2, numsOct_length]
    simp
  refine ⟨he, ?_, ?_⟩
  · unfold numsL
    rw [if_pos he, h2, fours_put ls h]
  · unfold numsR
    rw [if_pos he, h3]

theorem flag_put (b : Bool) (zs : List Int) : flagE (flagOct b ++ zs) = 0 ∧ flagB (flagOct b ++ zs) = b ∧ flagR (flagOct b ++ zs) = zs := by
  have he : flagE (flagOct b ++ zs) = 0 := by cases b <;> simp [flagE, flagOct]
  refine ⟨he, by cases b <;> simp [flagB, flagOct], ?_⟩
  unfold flagR
  rw [if_pos he]
  rfl

theorem getE_cases (xs : List Int) : getE xs = 0 ∨ getE xs = 1 ∨ getE xs = 2 := by
  unfold getE
  repeat' split
  all_goals omega

/-- What is got was put. -/
theorem bytes_got (xs : List Int) (hx : ∀ x ∈ xs, 0 ≤ x ∧ x ≤ 255) (hE : bytesE xs = 0) : bytesOct (bytesP xs) ++ bytesR xs = xs := by
  have hg : getE xs = 0 := by
    unfold bytesE at hE
    split at hE
    · contradiction
    · rename_i h; simpa using h
  have hE' := hE
  unfold bytesE at hE'
  rw [if_neg (by rw [hg]; decide)] at hE'
  have hv0 := getV_nonneg xs hx
  have hv1 : getV xs ≤ 1048576 := by
    by_cases h : 1048576 < getV xs
    · rw [if_pos h] at hE'; cases hE'
    · omega
  rw [if_neg (by omega)] at hE'
  have hv2 : getV xs ≤ ((gotR xs).length : Int) := by
    by_cases h : ((gotR xs).length : Int) < getV xs
    · rw [if_pos h] at hE'; cases hE'
    · omega
  have hp : bytesP xs = (gotR xs).take (getV xs).toNat := by unfold bytesP; rw [if_pos hE]
  have hr : bytesR xs = (gotR xs).drop (getV xs).toNat := by unfold bytesR; rw [if_pos hE]
  have hlen : ((bytesP xs).length : Int) = getV xs := by
    rw [hp, List.length_take]; omega
  have hgr : gotR xs = xs.drop (getK xs) := by unfold gotR; rw [if_pos hg]
  rw [bytesOct_small (by omega), hlen, List.append_assoc, hp, hr, List.take_append_drop, hgr, oct_back xs hx hg]

theorem bytesP_bytes (xs : List Int) (hx : ∀ x ∈ xs, 0 ≤ x ∧ x ≤ 255) : ∀ y ∈ bytesP xs, 0 ≤ y ∧ y ≤ 255 := by
  intro y hy
  unfold bytesP at hy
  split at hy
  · have h1 := List.mem_of_mem_take hy
    unfold gotR at h1
    split at h1
    · exact hx y (List.mem_of_mem_drop h1)
    · cases h1
  · cases hy

theorem nums_got (xs : List Int) (hx : ∀ x ∈ xs, 0 ≤ x ∧ x ≤ 255) (hE : numsE xs = 0) : bytesE xs = 0 ∧ bytesOct (numsOct (numsL xs)) ++ numsR xs = xs := by
  have hb : bytesE xs = 0 := by
    unfold numsE at hE
    split at hE
    · contradiction
    · rename_i h; simpa using h
  have h4 : (bytesP xs).length % 4 = 0 := by
    unfold numsE at hE
    rw [if_neg (by rw [hb]; decide)] at hE
    by_cases h : (bytesP xs).length % 4 = 0
    · exact h
    · rw [if_pos h] at hE; cases hE
  refine ⟨hb, ?_⟩
  unfold numsL numsR
  rw [if_pos hE, if_pos hE, fours_got ((bytesP xs).length / 4) _ (by omega) (bytesP_bytes xs hx), bytes_got xs hx hb]

theorem flag_got (xs : List Int) (hx : ∀ x ∈ xs, 0 ≤ x ∧ x ≤ 255) (hE : flagE xs = 0) : flagOct (flagB xs) ++ flagR xs = xs := by
  match xs, hx, hE with
  | [], _, hE => simp [flagE] at hE
  | x :: l, hx, hE =>
    have h := hx x (by simp)
    unfold flagR
    rw [if_pos hE]
    unfold flagE at hE
    simp at hE
    have : x = 0 ∨ x = 1 := by omega
    rcases this with rfl | rfl <;> simp [flagOct, flagB]
end Go.Proofs.Ytakbbenegojcdaa
