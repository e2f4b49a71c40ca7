/-
  Slices of numbers that came in, read as lists; small bounds.
-/
import Derived.Test.YtonlkmepdehdgaaWiAwake
namespace Go.Proofs.Ytonlkmepdehdgaa
open Go.ChangeShapes Go.WideShapes Go.ChangeAt Go.RowKit
set_option linter.unusedVariables false

/-- The numbers of a slice of ints that came in, up to its length. -/
theorem nums_of_row {w : World} {a0 : Option Addr} {len0 cap0 : Nat} {z0 : List Int} (h : IsRow .i64 w a0 len0 cap0 z0) : len0 ≤ cap0 ∧ cap0 ≤ maxLen ∧ Nums w w.heap.size a0 len0 (z0.take len0) := by
  rcases h with ⟨rfl, rfl, rfl, rfl⟩ | ⟨x, rfl, hl, hm, hz, hcell, hwz⟩
  · exact ⟨Nat.le_refl _, Nat.zero_le _, Nums.nil _ _ _⟩
  · refine ⟨hl, hm, by rw [List.length_take]; omega, fun hn => ?_⟩
    obtain ⟨b, off, spot⟩ := x
    have hc := hcell 0 (by omega)
    have hspot : spot = none := by simpa [Addr.add] using World.cell?_spot hc
    subst hspot
    refine ⟨b, off, rfl, World.block_lt_of_cell? w _ hc, fun i y hy => ?_⟩
    rw [List.getElem?_take] at hy
    split at hy
    · have hi := (List.getElem?_eq_some_iff.1 hy).1
      have := hcell i hi
      rw [Addr.add_lit] at this
      rw [this, List.getD, hy]; rfl
    · cases hy

theorem sizeN_bd (m : Int) : 0 ≤ sizeN m ∧ sizeN m ≤ 4 := by
  rcases sizeN_cases m with h | h | h | h <;> rw [h.1] <;> omega
end Go.Proofs.Ytonlkmepdehdgaa
