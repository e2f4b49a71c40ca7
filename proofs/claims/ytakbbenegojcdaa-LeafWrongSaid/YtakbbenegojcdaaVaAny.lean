/-
  What varint.Get and varint.Put answer, error or none, in one contract each; with and without the bounds of the capacity.
-/
import Derived.Test.YtakbbenegojcdaaVaApp
namespace Go.Proofs.Ytakbbenegojcdaa
open Go.ChangeShapes Go.WideShapes Go.ChangeAt Go.RowKit
set_option linter.unusedVariables false

/-- The number that Get answers, and the rest. -/
def gotM (xs : List Int) : Int := if getE xs = 0 then getV xs else 0
def gotR (xs : List Int) : List Int := if getE xs = 0 then xs.drop (getK xs) else []
/-- What Get answers, error or none. -/
def GotAny (w : World) (B : Nat) (xs : List Int) (e : Ending) (w' : World) : Prop :=
  ∃ A n c, e = .returned (.tuple #[.int .i64 (gotM xs), .slice A n c, .int .i64 (getE xs)]) ∧ Oct w' B A n (gotR xs) ∧ Below w.heap.size w w'

theorem get_any (A : Option Addr) (n c B : Nat) (xs : List Int) (w : World) (hO : Oct w B A n xs) (hnc : n ≤ c) (hcm : c ≤ maxLen) : Calls Try.prog 33 #[.slice A n c] w (GotAny w B xs) := by
  by_cases hE : getE xs = 0
  · refine (get_good A n c B xs w hO hnc hcm hE).mono ?_
    rintro e w' ⟨A', he, h, d, rfl⟩
    refine ⟨A', n - getK xs, c - getK xs, ?_, ?_, below_of_drewN w d⟩
    · rw [he, gotM, if_pos hE, hE]
    · rw [gotR, if_pos hE]; exact h.drewN d
  · refine (get_bad A n c B xs w hO hnc hcm hE).mono ?_
    rintro e w' ⟨he, rfl⟩
    refine ⟨none, 0, 0, ?_, ?_, Below.refl _ _⟩
    · rw [he, gotM, if_neg hE]
    · rw [gotR, if_neg hE]; exact Oct.nil _ _ _

theorem put_any (A : Option Addr) (n c B : Nat) (xs : List Int) (m : Int) (w : World) (hO : Oct w B A n xs) (hB : B ≤ w.heap.size) (hn : n ≤ 70368744177664) : Calls Try.prog 38 #[.slice A n c, .int .i64 m] w (PutAny w (xs ++ octN m)) := by
  by_cases hm : sizeN m = 0
  · refine (put_none _ m w hm).mono ?_
    rintro e w' ⟨he, rfl⟩
    rw [octN_none hm, List.append_nil]
    exact ⟨A, n, c, he, hO.more hB, Below.refl _ _⟩
  · refine (put_some A n c B xs m w hO hB hn hm).mono ?_
    rintro e w' ⟨g, cap, he, _, _, _, hO', hb⟩
    exact ⟨_, _, cap, he, hO', hb⟩

/-- What Get answers, error or none, with the bounds of the capacity. -/
def GotSl (w : World) (B : Nat) (xs : List Int) (e : Ending) (w' : World) : Prop :=
  ∃ A n c, e = .returned (.tuple #[.int .i64 (gotM xs), .slice A n c, .int .i64 (getE xs)]) ∧ n ≤ c ∧ c ≤ maxLen ∧ Oct w' B A n (gotR xs) ∧ Below w.heap.size w w'

theorem get_sl (A : Option Addr) (n c B : Nat) (xs : List Int) (w : World) (hO : Oct w B A n xs) (hnc : n ≤ c) (hcm : c ≤ maxLen) : Calls Try.prog 33 #[.slice A n c] w (GotSl w B xs) := by
  by_cases hE : getE xs = 0
  · refine (get_good A n c B xs w hO hnc hcm hE).mono ?_
    rintro e w' ⟨A', he, h, d, rfl⟩
    refine ⟨A', n - getK xs, c - getK xs, ?_, by omega, by omega, ?_, below_of_drewN w d⟩
    · rw [he, gotM, if_pos hE, hE]
    · rw [gotR, if_pos hE]; exact h.drewN d
  · refine (get_bad A n c B xs w hO hnc hcm hE).mono ?_
    rintro e w' ⟨he, rfl⟩
    refine ⟨none, 0, 0, ?_, Nat.le_refl _, Nat.zero_le _, ?_, Below.refl _ _⟩
    · rw [he, gotM, if_neg hE]
    · rw [gotR, if_neg hE]; exact Oct.nil _ _ _
end Go.Proofs.Ytakbbenegojcdaa
