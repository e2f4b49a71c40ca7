/-
  Flags, with slices of octets as one letter each.
-/
import Derived.Test.YtpmakacjhoemeaaWiS
namespace Go.Proofs.Ytpmakacjhoemeaa
open Go.ChangeShapes Go.WideShapes Go.ChangeAt Go.RowKit
set_option linter.unusedVariables false

/-- A flag, the rest and an error. -/
def GotFlagS (w : World) (B : Nat) (xs : List Int) (v : Value) (w' : World) : Prop :=
  ∃ (b : Bool) (r : SlV), v = .tuple #[.bool b, r.v, nv (flagE xs)] ∧ b = decide (flagB xs = true) ∧ Sl w' B r (flagR xs) ∧ Below w.heap.size w w'
section
variable {w w' : World} {B : Nat} {s : SlV} {xs : List Int} {e : Ending}
theorem GotFlagS.of (h : GotFlag w B (flagB xs) (flagR xs) (flagE xs) e w') : ∃ v, e = .returned v ∧ GotFlagS w B xs v w' := by
  obtain ⟨A, n, c, rfl, h3, h4, h6, h7⟩ := h
  exact ⟨_, rfl, _, ⟨A, n, c⟩, rfl, by simp, ⟨h3, h4, h6⟩, h7⟩
theorem getFlag_S (h : Sl w B s xs) : Calls Try.prog 27 #[s.v] w fun e w' => ∃ v, e = .returned v ∧ GotFlagS w B xs v w' :=
  (getFlag_any s.A s.m s.c B xs w h.2.2 h.1 h.2.1).mono fun _ _ q => GotFlagS.of q
theorem rgetFlag_S (h : Sl w B s xs) : Calls Try.prog 30 #[s.v] w fun e w' => ∃ v, e = .returned v ∧ GotFlagS w B xs v w' :=
  (rgetFlag_any s.A s.m s.c B xs w h.2.2 h.1 h.2.1).mono fun _ _ q => GotFlagS.of q
theorem putFlag_S (b : Bool) (h : Sl w B s xs) (hB : B ≤ w.heap.size) (hn : xs.length ≤ 35184372088832) : Calls Try.prog 43 #[s.v, .bool b] w fun e w' => ∃ v, e = .returned v ∧ PutS w (xs ++ flagOct b) v w' :=
  (putFlag_any s.A s.m s.c B xs b w h.2.2 hB (by rw [← h.len]; exact hn)).mono fun _ _ q => PutS.of q
theorem rputFlag_S (b : Bool) (h : Sl w B s xs) (hB : B ≤ w.heap.size) (hn : xs.length ≤ 90000) : Calls Try.prog 47 #[s.v, .bool b] w fun e w' => ∃ v, e = .returned v ∧ PutS w (xs ++ flagOct b) v w' :=
  (rputFlag_any s.A s.m s.c B xs b w h.2.2 hB (by rw [← h.len]; omega)).mono fun _ _ q => PutS.of q
theorem flagOct_length (b : Bool) : (flagOct b).length = 1 := rfl
end
end Go.Proofs.Ytpmakacjhoemeaa
