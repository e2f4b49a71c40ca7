/-
  Who has a key below a node: pure.
-/
import Derived.Test.YtkcpmpbjjnknhaaGreatDoorKitT
import Derived.Test.YtkcpmpbjjnknhaaGreatDoorKitI
namespace Go.Proofs.YtkcpmpbjjnknhaaGreatDoor
open Go.ChangeShapes Go.WideShapes Go.ChangeAt Go.RowKit
set_option linter.unusedVariables false

theorem kids {x w : Int} (h : isN x w) : 0 ≤ lvl x ∧ lvl x ≤ 6 ∧ (lvl x = 0 → leftI x w = -1 ∧ rightI x w = -1) ∧ (lvl x ≠ 0 → isN (leftI x w) w ∧ isN (rightI x w) w ∧ lvl (leftI x w) = lvl x - 1 ∧ lvl (rightI x w) = lvl x - 1) :=
  fin2 (p := fun x w => 0 ≤ lvl x ∧ lvl x ≤ 6 ∧ (lvl x = 0 → leftI x w = -1 ∧ rightI x w = -1) ∧ (lvl x ≠ 0 → isN (leftI x w) w ∧ isN (rightI x w) w ∧ lvl (leftI x w) = lvl x - 1 ∧ lvl (rightI x w) = lvl x - 1)) (by kernel_rfl) h
theorem unm_small {a : List Nd} (h : trIs a) (i : Nat) : (∀ x ∈ (atN a i).inner.unm, 0 ≤ x ∧ x < 64) ∧ (atN a i).inner.unm.length ≤ 64 := by
  have ok := (trIs_ok h i).1
  have no : ¬ (atN a i).kind = 2 → (atN a i).inner.unm = [] := fun k => by
    unfold ndCheck at ok
    split at ok
    · omega
    · split at ok
      · omega
      · rename_i q
        have : PnSame (atN a i).inner Pn.zero := Classical.byContradiction fun z => q (.inr ⟨k, z⟩)
        exact this.2.2
  by_cases k : (atN a i).kind = 2
  · have hp : pnCheck (atN a i).inner = 0 := by
      unfold ndCheck at ok
      repeat' split at ok
      all_goals first | exact ok | omega
    exact ⟨(pnCheck_nums hp).1, (pnCheck_ok hp).2.2.2⟩
  · rw [no k]
    exact ⟨fun x q => absurd q (by simp), Nat.zero_le _⟩
theorem even_lvl {x w : Int} (h : isN x w) : x % 2 = 0 ↔ lvl x = 0 := fin2 (p := fun x w => x % 2 = 0 ↔ lvl x = 0) (by kernel_rfl) h
theorem odd_kids {x w : Int} (h : isN x w) (ho : ¬ x % 2 = 0) : (isN (leftI x w) w ∧ lvl (leftI x w) = lvl x - 1) ∧ isN (rightI x w) w ∧ lvl (rightI x w) = lvl x - 1 := by
  obtain ⟨_, _, _, k⟩ := kids h
  obtain ⟨a, b, c, d⟩ := k fun q => ho ((even_lvl h).2 q)
  exact ⟨⟨a, c⟩, b, d⟩
end Go.Proofs.YtkcpmpbjjnknhaaGreatDoor
