/-
  Put behind no octets, in one contract; plain facts on octets and strings.
-/
import Derived.Test.YtakbbenegojcdaaVaOct
namespace Go.Proofs.Ytakbbenegojcdaa
open Go.ChangeShapes Go.WideShapes Go.ChangeAt Go.RowKit
set_option linter.unusedVariables false

/-- What Put behind no octets answers: a slice of L octets that reads as ys; nothing that was there has changed. -/
def PutNew (w : World) (L : Nat) (ys : List Int) (e : Ending) (w' : World) : Prop :=
  ∃ A cap, e = .returned (.slice A L cap) ∧ L ≤ cap ∧ cap ≤ maxLen ∧ Oct w' w'.heap.size A L ys ∧ Below w.heap.size w w'

theorem octN_none {m : Int} (h : sizeN m = 0) : octN m = [] := by unfold octN; rw [h]; rfl

theorem put_new (m : Int) (w : World) : Calls Try.prog 38 #[.slice none 0 0, .int .i64 m] w (PutNew w (octN m).length (octN m)) := by
  by_cases hm : sizeN m = 0
  · refine (put_none _ m w hm).mono ?_
    rintro e w' ⟨rfl, rfl⟩
    rw [octN_none hm]
    exact ⟨none, 0, rfl, Nat.le_refl _, Nat.zero_le _, Oct.nil _ _ _, Below.refl _ _⟩
  · refine (put_some none 0 0 0 [] m w (Oct.nil _ _ _) (Nat.zero_le _) (by omega) hm).mono ?_
    rintro e w' ⟨g, cap, he, _, h1, h2, hO, hb⟩
    rw [List.nil_append] at he hO h1
    exact ⟨_, cap, he, h1, h2, hO, hb⟩

/-- What is got was put: the octets of the number are those with which it was told. -/
theorem oct_back (xs : List Int) (hx : ∀ x ∈ xs, 0 ≤ x ∧ x ≤ 255) (hE : getE xs = 0) : octN (getV xs) ++ xs.drop (getK xs) = xs := by
  obtain ⟨h1, h2, h3⟩ := getE_ok hE
  match xs, hx, h1, h2, h3 with
  | [], _, h1, h2, _ => simp at h2; omega
  | x :: ys, hx, h1, h2, h3 =>
    have bx := hx x (by simp)
    rw [getK_cons] at h1 h2 h3 ⊢
    rw [getV_cons, getK_cons] at h3 ⊢
    rcases toldN_cases x with h | h | h | h
    · rw [h.1] at h1; simp at h1
    · rw [h.1] at h3 ⊢
      have e : valN x (ys.take ((1 : Int).toNat - 1)) = x := by simp [valN]; omega
      rw [e, octN, sizeN_1 (by omega) (by omega)]
      simp
    · rw [h.1] at h2 h3 ⊢
      match ys, hx, h2, h3 with
      | [], _, h2, _ => simp at h2
      | y :: zs, hx, _, h3 =>
        have by_ := hx y (by simp)
        have e : valN x ((y :: zs).take ((2 : Int).toNat - 1)) = (x % 64) * 256 + y := by simp [valN]
        rw [e] at h3 ⊢
        rw [octN, h3]
        simp
        omega
    · rw [h.1] at h2 h3 ⊢
      match ys, hx, h2, h3 with
      | [], _, h2, _ => simp at h2
      | [_], _, h2, _ => simp at h2
      | [_, _], _, h2, _ => simp at h2
      | a :: b :: c :: zs, hx, _, h3 =>
        have ba := hx a (by simp)
        have bb := hx b (by simp)
        have bc := hx c (by simp)
        have e : valN x ((a :: b :: c :: zs).take ((4 : Int).toNat - 1)) = (((x % 64) * 256 + a) * 256 + b) * 256 + c := by simp [valN]
        rw [e] at h3 ⊢
        rw [octN, h3]
        simp
        omega

/-- What is put is got. -/
theorem got_put (m : Int) (zs : List Int) (hm : sizeN m ≠ 0) : getE (octN m ++ zs) = 0 ∧ getV (octN m ++ zs) = m ∧ getK (octN m ++ zs) = (octN m).length := by
  rcases sizeN_cases m with h | h | h | h
  · exact absurd h.1 hm
  · have e : octN m = [m] := by unfold octN; rw [h.1]; rfl
    have hk : getK (m :: zs) = 1 := by rw [getK_cons, toldN_1 (by omega)]; rfl
    have hv : getV (m :: zs) = m := by rw [getV_cons, hk]; simp [valN]; omega
    rw [e]
    simp only [List.cons_append, List.nil_append]
    refine ⟨?_, hv, hk⟩
    unfold getE
    rw [hv, hk, h.1]
    simp
  · have e : octN m = [64 + m / 256, m % 256] := by unfold octN; rw [h.1]; rfl
    have hk : getK ((64 + m / 256) :: (m % 256) :: zs) = 2 := by rw [getK_cons, toldN_2 (by omega) (by omega)]; rfl
    have hv : getV ((64 + m / 256) :: (m % 256) :: zs) = m := by rw [getV_cons, hk]; simp [valN]; omega
    rw [e]
    simp only [List.cons_append, List.nil_append]
    refine ⟨?_, hv, hk⟩
    unfold getE
    rw [hv, hk, h.1]
    simp
  · have e : octN m = [128 + m / 16777216, m / 65536 % 256, m / 256 % 256, m % 256] := by unfold octN; rw [h.1]; rfl
    have hk : getK ((128 + m / 16777216) :: (m / 65536 % 256) :: (m / 256 % 256) :: (m % 256) :: zs) = 4 := by rw [getK_cons, toldN_4 (by omega) (by omega)]; rfl
    have hv : getV ((128 + m / 16777216) :: (m / 65536 % 256) :: (m / 256 % 256) :: (m % 256) :: zs) = m := by rw [getV_cons, hk]; simp [valN]; omega
    rw [e]
    simp only [List.cons_append, List.nil_append]
    refine ⟨?_, hv, hk⟩
    unfold getE
    rw [hv, hk, h.1]
    simp

/-- No octet of a number can be missing. -/
theorem got_cut (m : Int) (i : Nat) (hi : i < (octN m).length) : getE ((octN m).take i) = 1 := by
  unfold octN at hi ⊢
  rcases sizeN_cases m with h | h | h | h
  · rw [h.1] at hi; simp at hi
  · rw [h.1] at hi ⊢
    simp at hi ⊢
    subst hi
    rfl
  · rw [h.1] at hi ⊢
    simp at hi ⊢
    rcases i with _ | _ | i
    · rfl
    · have hk : getK [64 + m / 256] = 2 := by rw [getK_cons, toldN_2 (by omega) (by omega)]; rfl
      show getE [64 + m / 256] = 1
      unfold getE
      rw [hk]
      simp
    · omega
  · rw [h.1] at hi ⊢
    simp at hi ⊢
    have ht : toldN (128 + m / 16777216) = 4 := toldN_4 (by omega) (by omega)
    rcases i with _ | _ | _ | _ | i
    · rfl
    · show getE [128 + m / 16777216] = 1
      unfold getE
      rw [getK_cons, ht]
      simp
    · show getE [128 + m / 16777216, m / 65536 % 256] = 1
      unfold getE
      rw [getK_cons, ht]
      simp
    · show getE [128 + m / 16777216, m / 65536 % 256, m / 256 % 256] = 1
      unfold getE
      rw [getK_cons, ht]
      simp
    · omega
end Go.Proofs.Ytakbbenegojcdaa
