/-
  Octets appended to a row of the call's own, whatever the slice that holds them (nil, empty or not).
-/
import Derived.Test.YtakbbenegojcdaaVaMore
import Derived.Maps.AppendAt
namespace Go.Proofs.Ytakbbenegojcdaa
open Go.ChangeShapes Go.WideShapes Go.ChangeAt Go.RowKit
set_option linter.unusedVariables false

theorem size_len (n : Int) (L : Nat) (w : World) (hL : (octN n).length = L) : Calls Try.prog 44 #[.int .i64 n] w fun e w' => e = .returned (.int .i64 (L : Int)) ∧ w = w' := by
  refine (size_any n w).mono ?_
  rintro e w' ⟨rfl, rfl⟩
  exact ⟨by rw [← hL, octN_length], rfl⟩
theorem octN_le (m : Int) : (octN m).length ≤ 4 := by
  have := octN_length m
  rcases sizeN_cases m with h | h | h | h <;> rw [h.1] at this <;> omega
theorem octN_bytes (m : Int) : ∀ y ∈ octN m, 0 ≤ y ∧ y ≤ 255 := by
  intro y hy
  unfold octN at hy
  rcases sizeN_cases m with h | h | h | h
  · rw [h.1] at hy; simp at hy
  · rw [h.1] at hy
    simp at hy
    omega
  · rw [h.1] at hy
    simp at hy
    omega
  · rw [h.1] at hy
    simp at hy
    omega
end Go.Proofs.Ytakbbenegojcdaa
