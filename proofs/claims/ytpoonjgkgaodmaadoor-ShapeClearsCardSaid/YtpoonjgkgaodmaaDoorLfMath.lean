/-
  What is put of leaves is got; what is got was put; unlike leaves have unlike octets: by pure means.
-/
import Derived.Test.YtpoonjgkgaodmaaDoorLfBase
namespace Go.Proofs.YtpoonjgkgaodmaaDoor
open Go.ChangeShapes Go.WideShapes Go.ChangeAt Go.RowKit
set_option linter.unusedVariables false

theorem widthK1 : widthK 1 = 1 := rfl
theorem numOct1 (n : Int) : numOct n 1 = [n % 256] := by simp [numOct]
theorem num1_put (n : Int) (zs : List Int) (h : 0 ≤ n ∧ n ≤ 255) : numE (numOct n (widthK 1) ++ zs) 1 = 0 ∧ numM (numOct n (widthK 1) ++ zs) 1 = n ∧ numR (numOct n (widthK 1) ++ zs) 1 = zs := by
  rw [widthK1, numOct1]
  have e : n % 256 = n := by omega
  refine ⟨?_, ?_, ?_⟩
  · simp [numE, widthK1]
  · simp [numM, widthK1, numV, e]
  · simp [numR, widthK1]
theorem num1_nil : numE [] 1 = 1 := by simp [numE, widthK1]
theorem num1_got (xs : List Int) (hx : Bytes xs) (h : numE xs 1 = 0) : numOct (numM xs 1) (widthK 1) ++ numR xs 1 = xs := by
  match xs, hx, h with
  | [], _, h => simp [num1_nil] at h
  | x :: l, hx, h =>
    have h1 := hx x (by simp)
    have e : x % 256 = x := by omega
    rw [widthK1, numOct1]
    simp [numM, numR, widthK1, numV, e]
theorem lfPut_ok {L : Lf} (h : lfCheck L = 0) : lfPut L = lfOct L := by rw [lfPut, if_pos h]
theorem lfPut_no {L : Lf} (h : ¬ lfCheck L = 0) : lfPut L = [] := by rw [lfPut, if_neg h]
theorem lf_src {L : Lf} (h : lfCheck L = 0) (h3 : ¬ L.src = 3) : L.par = [] := by
  have := lfCheck_ok h
  exact List.eq_nil_of_length_eq_zero (by omega)
theorem lf_back {L : Lf} (h : lfCheck L = 0) (zs : List Int) : lfGet (lfPut L ++ zs) = (0, L, zs) := by
  have ok := lfCheck_ok h
  rw [lfPut_ok h, lfOct]
  simp only [List.append_assoc]
  obtain ⟨a1, a2, a3⟩ := bytes_put L.enc (bytesOct L.cred ++ (numOct L.src (widthK 1) ++ ((if L.src = 3 then bytesOct L.par else []) ++ zs))) (by omega)
  obtain ⟨b1, b2, b3⟩ := bytes_put L.cred (numOct L.src (widthK 1) ++ ((if L.src = 3 then bytesOct L.par else []) ++ zs)) (by omega)
  obtain ⟨c1, c2, c3⟩ := num1_put L.src ((if L.src = 3 then bytesOct L.par else []) ++ zs) (by omega)
  unfold lfGet
  simp only [a1, a2, a3, b1, b2, b3, c1, c2, c3, ne_eq, not_true_eq_false, if_false]
  rw [if_neg (by omega)]
  by_cases h3 : L.src = 3
  · obtain ⟨d1, d2, d3⟩ := bytes_put L.par zs (by omega)
    simp only [if_pos h3, d1, d2, d3, not_true_eq_false, if_false]
    rw [if_neg (not_not_intro h)]
  · have e : (⟨L.enc, L.cred, L.src, []⟩ : Lf) = L := by rw [← lf_src h h3]
    simp only [if_neg h3, e, List.nil_append]
    rw [if_neg (not_not_intro h)]
theorem lfPut_pos {L : Lf} (h : lfCheck L = 0) : 0 < (lfPut L).length := by
  have ok := lfCheck_ok h
  have := bytesOct_pos (vs := L.enc) (by omega)
  rw [lfPut_ok h, lfOct]
  simp only [List.length_append]
  omega
theorem lfPut_le (L : Lf) : (lfPut L).length ≤ 613 := by
  by_cases h : lfCheck L = 0
  · have ok := lfCheck_ok h
    have h1 := bytesOct_le L.enc
    have h2 := bytesOct_le L.cred
    have h3 := bytesOct_le L.par
    rw [lfPut_ok h, lfOct]
    simp only [List.length_append, numOct_length, widthK1]
    split
    · omega
    · simp only [List.length_nil]; omega
  · rw [lfPut_no h]; simp
theorem lf_short {L : Lf} (h : lfCheck L = 0) (k : Nat) (hk : k < (lfPut L).length) : lfGet ((lfPut L).take k) = (1, Lf.zero, []) := by
  have ok := lfCheck_ok h
  rw [lfPut_ok h, lfOct] at hk ⊢
  simp only [List.append_assoc, List.length_append, numOct_length, widthK1] at hk ⊢
  by_cases k1 : k < (bytesOct L.enc).length
  · rw [List.take_append_of_le_length (by omega)]
    have e := bytes_cut L.enc k (by omega) k1
    unfold lfGet
    rw [if_pos (by rw [e]; decide), e]
  rw [List.take_append, List.take_of_length_le (by omega : (bytesOct L.enc).length ≤ k)]
  obtain ⟨a1, a2, a3⟩ := bytes_put L.enc ((bytesOct L.cred ++ (numOct L.src 1 ++ (if L.src = 3 then bytesOct L.par else []))).take (k - (bytesOct L.enc).length)) (by omega)
  unfold lfGet
  rw [if_neg (not_not_intro a1), a3]
  generalize hj : k - (bytesOct L.enc).length = j
  by_cases k2 : j < (bytesOct L.cred).length
  · rw [List.take_append_of_le_length (by omega)]
    have e := bytes_cut L.cred j (by omega) k2
    rw [if_pos (by rw [e]; decide), e]
  rw [List.take_append, List.take_of_length_le (by omega : (bytesOct L.cred).length ≤ j)]
  obtain ⟨b1, b2, b3⟩ := bytes_put L.cred ((numOct L.src 1 ++ (if L.src = 3 then bytesOct L.par else [])).take (j - (bytesOct L.cred).length)) (by omega)
  rw [if_neg (not_not_intro b1), b3]
  generalize hi : j - (bytesOct L.cred).length = i
  by_cases k3 : i = 0
  · subst k3
    simp [num1_nil]
  have hn : (numOct L.src 1).length = 1 := numOct_length _ _
  rw [List.take_append, List.take_of_length_le (by omega : (numOct L.src 1).length ≤ i)]
  obtain ⟨c1, c2, c3⟩ := num1_put L.src ((if L.src = 3 then bytesOct L.par else []).take (i - (numOct L.src 1).length)) (by omega)
  rw [widthK1] at c1 c2 c3
  simp only [c1, c2, c3, ne_eq, not_true_eq_false, if_false]
  rw [if_neg (by omega)]
  by_cases h3 : L.src = 3
  · simp only [if_pos h3] at hk ⊢
    have e := bytes_cut L.par (i - (numOct L.src 1).length) (by omega) (by omega)
    rw [if_pos (by rw [e]; decide), e]
  · simp only [if_neg h3, List.length_nil] at hk
    omega
theorem lf_err {xs : List Int} (h : ¬ (lfGet xs).1 = 0) : (lfGet xs).2 = (Lf.zero, []) := by
  revert h
  unfold lfGet
  simp only []
  repeat' split
  all_goals intro h
  all_goals first | rfl | exact absurd rfl h
theorem bytes_rest {a b xs : List Int} (hx : Bytes xs) (e : a ++ b = xs) : Bytes b := fun y hy => hx y (by rw [← e]; simp [hy])
theorem lf_only {xs : List Int} (hx : Bytes xs) (h : (lfGet xs).1 = 0) : lfCheck (lfGet xs).2.1 = 0 ∧ lfPut (lfGet xs).2.1 ++ (lfGet xs).2.2 = xs := by
  have key : ∀ E M R, lfGet xs = (E, M, R) → E = 0 → lfCheck M = 0 ∧ lfPut M ++ R = xs := by
    intro E M R hg hE
    subst hE
    unfold lfGet at hg
    by_cases h1 : bytesE xs = 0
    · rw [if_neg (not_not_intro h1)] at hg
      have e1 := bytes_got xs hx h1
      have x1 := bytes_rest hx e1
      by_cases h2 : bytesE (bytesR xs) = 0
      · rw [if_neg (not_not_intro h2)] at hg
        have e2 := bytes_got _ x1 h2
        have x2 := bytes_rest x1 e2
        simp only [] at hg
        by_cases h3 : numE (bytesR (bytesR xs)) 1 = 0
        · rw [if_neg (not_not_intro h3)] at hg
          have e3 := num1_got _ x2 h3
          have x3 := bytes_rest x2 e3
          by_cases h4 : 1 ≤ numM (bytesR (bytesR xs)) 1 ∧ numM (bytesR (bytesR xs)) 1 ≤ 3
          · rw [if_neg (not_not_intro h4)] at hg
            by_cases h5 : numM (bytesR (bytesR xs)) 1 = 3
            · rw [if_pos h5] at hg
              by_cases h6 : bytesE (numR (bytesR (bytesR xs)) 1) = 0
              · rw [if_neg (not_not_intro h6)] at hg
                have e6 := bytes_got _ x3 h6
                by_cases h7 : lfCheck (⟨bytesP xs, bytesP (bytesR xs), numM (bytesR (bytesR xs)) 1, bytesP (numR (bytesR (bytesR xs)) 1)⟩ : Lf) = 0
                · rw [if_neg (not_not_intro h7)] at hg
                  simp only [Prod.mk.injEq, true_and] at hg
                  obtain ⟨rfl, rfl⟩ := hg
                  refine ⟨h7, ?_⟩
                  rw [lfPut_ok h7, lfOct]
                  simp only [if_pos h5, List.append_assoc]
                  rw [e6, e3, e2, e1]
                · rw [if_pos h7] at hg
                  exact absurd (congrArg Prod.fst hg) h7
              · rw [if_pos h6] at hg
                exact absurd (congrArg Prod.fst hg) h6
            · rw [if_neg h5] at hg
              by_cases h7 : lfCheck (⟨bytesP xs, bytesP (bytesR xs), numM (bytesR (bytesR xs)) 1, []⟩ : Lf) = 0
              · rw [if_neg (not_not_intro h7)] at hg
                simp only [Prod.mk.injEq, true_and] at hg
                obtain ⟨rfl, rfl⟩ := hg
                refine ⟨h7, ?_⟩
                rw [lfPut_ok h7, lfOct]
                simp only [if_neg h5, List.append_assoc, List.nil_append]
                rw [e3, e2, e1]
              · rw [if_pos h7] at hg
                exact absurd (congrArg Prod.fst hg) h7
          · rw [if_pos h4] at hg
            exact absurd (congrArg Prod.fst hg) (show ¬ ((7 : Int) = 0) by decide)
        · rw [if_pos h3] at hg
          exact absurd (congrArg Prod.fst hg) h3
      · rw [if_pos h2] at hg
        exact absurd (congrArg Prod.fst hg) h2
    · rw [if_pos h1] at hg
      exact absurd (congrArg Prod.fst hg) h1
  exact key _ _ _ rfl h
theorem lf_apart {L M : Lf} (h : lfCheck L = 0) (h' : lfCheck M = 0) (e : (lfPut L).take (min (lfPut L).length (lfPut M).length) = (lfPut M).take (min (lfPut L).length (lfPut M).length)) : L = M := by
  by_cases hl : (lfPut L).length ≤ (lfPut M).length
  · rw [Nat.min_eq_left hl, List.take_length] at e
    have h1 := lf_back h ((lfPut M).drop (lfPut L).length)
    have h2 := lf_back h' []
    have e2 : lfPut L ++ (lfPut M).drop (lfPut L).length = lfPut M := by
      have := List.take_append_drop (lfPut L).length (lfPut M)
      rwa [← e] at this
    rw [e2] at h1
    rw [List.append_nil, h1] at h2
    exact congrArg (fun p => p.2.1) h2
  · rw [Nat.min_eq_right (by omega), List.take_length] at e
    have h1 := lf_back h' ((lfPut L).drop (lfPut M).length)
    have h2 := lf_back h []
    have e2 : lfPut M ++ (lfPut L).drop (lfPut M).length = lfPut L := by
      have := List.take_append_drop (lfPut M).length (lfPut L)
      rwa [e] at this
    rw [e2] at h1
    rw [List.append_nil, h1] at h2
    exact (congrArg (fun p => p.2.1) h2).symm
theorem lfPut_bytes (L : Lf) (h1 : Bytes L.enc) (h2 : Bytes L.cred) (h3 : Bytes L.par) : Bytes (lfPut L) := by
  unfold lfPut
  split
  · unfold lfOct
    refine ((Bytes.app (bytesOct_bytes h1) (bytesOct_bytes h2)).app (numOct_bytes _ _)).app ?_
    split
    · exact bytesOct_bytes h3
    · exact Bytes.nil
  · exact Bytes.nil
theorem wr_a (c p : List Int) (k : Int) : lfCheck (⟨[], c, k, p⟩ : Lf) = 5 := by simp [lfCheck]
theorem wr_b (e p : List Int) (k : Int) : ¬ lfCheck (⟨e, rd (fun _ => 0) 201, k, p⟩ : Lf) = 0 := by
  have := rd_len (fun _ => 0) 201
  unfold lfCheck
  simp only [this]
  repeat' split
  all_goals omega
theorem wr_d (e c : List Int) : ¬ lfCheck (⟨e, c, 2, [1]⟩ : Lf) = 0 := by
  unfold lfCheck
  simp only [List.length_cons, List.length_nil]
  repeat' split
  all_goals omega
theorem wr_c {L : Lf} {n : Int} (h : ¬ (1 ≤ n ∧ n ≤ 3)) : ¬ lfCheck (⟨L.enc, L.cred, n, L.par⟩ : Lf) = 0 := fun q => by
  have := lfCheck_ok q
  dsimp only at this
  omega
theorem wr_3 {L : Lf} (h : lfCheck L = 0) : lfCheck (⟨L.enc, L.cred, 3, L.par⟩ : Lf) = 0 := by
  have := lfCheck_ok h
  unfold lfCheck
  dsimp only
  repeat' split
  all_goals first | rfl | (exfalso; omega)
theorem wr_len (A B : Lf) (h : ¬ lfCheck A = 0) (h' : ¬ lfCheck B = 0) : ¬ 0 < IntKind.i64.wrap (((lfPut A).length : Int) + ((lfPut B).length : Int)) := by
  rw [lfPut_no h, lfPut_no h']
  decide
/-- The octets of many leaves, one behind the other. -/
def putAll (Ls : List Lf) : List Int := Ls.flatMap lfPut
theorem putAll_step {Ls : List Lf} {i : Nat} {L : Lf} (h : Ls[i]? = some L) : putAll (Ls.take (i + 1)) = putAll (Ls.take i) ++ lfPut L := by
  obtain ⟨hi, rfl⟩ := List.getElem?_eq_some_iff.1 h
  unfold putAll
  rw [List.take_succ_eq_append_getElem hi, List.flatMap_append, List.flatMap_cons, List.flatMap_nil, List.append_nil]
theorem putAll_le (Ls : List Lf) : (putAll Ls).length ≤ 613 * Ls.length := by
  induction Ls with
  | nil => simp [putAll]
  | cons L r ih =>
    have h := lfPut_le L
    have e : putAll (L :: r) = lfPut L ++ putAll r := rfl
    rw [e, List.length_append, List.length_cons]
    omega
theorem putAll_next {Ls : List Lf} {t k : Nat} {L : Lf} (h : Ls[k]? = some L) (hk : k < t) : putAll ((Ls.take t).drop k) = lfPut L ++ putAll ((Ls.take t).drop (k + 1)) := by
  obtain ⟨hi, rfl⟩ := List.getElem?_eq_some_iff.1 h
  have hl : k < (Ls.take t).length := by rw [List.length_take]; omega
  rw [List.drop_eq_getElem_cons hl]
  simp [putAll]
theorem putAll_end {Ls : List Lf} {t k : Nat} (hk : t ≤ k) : putAll ((Ls.take t).drop k) = [] := by
  rw [List.drop_eq_nil_of_le (by rw [List.length_take]; omega)]
  rfl
theorem putAll_got {Ls : List Lf} {t k : Nat} {L : Lf} (ok : ∀ (j : Nat) M, j < t → Ls[j]? = some M → lfCheck M = 0) (h : Ls[k]? = some L) (hk : k < t) : lfGet (putAll ((Ls.take t).drop k)) = (0, L, putAll ((Ls.take t).drop (k + 1))) := by
  rw [putAll_next h hk]
  exact lf_back (ok k L hk h) _
end Go.Proofs.YtpoonjgkgaodmaaDoor
