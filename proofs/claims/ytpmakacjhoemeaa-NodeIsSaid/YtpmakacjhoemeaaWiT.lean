/-
  Contracts of wire's lists, and of the document's, with slices as one letter each.
-/
import Derived.Test.YtpmakacjhoemeaaWiS
import Derived.Test.YtpmakacjhoemeaaKitA
import Derived.Test.YtpmakacjhoemeaaKitR
namespace Go.Proofs.Ytpmakacjhoemeaa
open Go.ChangeShapes Go.WideShapes Go.ChangeAt Go.RowKit
set_option linter.unusedVariables false

section
variable {w : World} {B B2 : Nat} {s s2 : SlV} {xs vs ls : List Int}
def GotNumsS (w : World) (B : Nat) (xs : List Int) (v : Value) (w' : World) : Prop :=
  ∃ p r : SlV, v = .tuple #[p.v, r.v, nv (numsE xs)] ∧ SlN w' w'.heap.size p (numsL xs) ∧ Sl w' B r (numsR xs) ∧ Below w.heap.size w w'
theorem GotNumsS.of {w' : World} {e : Ending} (h : GotNums w B (numsL xs) (numsR xs) (numsE xs) e w') : ∃ v, e = .returned v ∧ GotNumsS w B xs v w' := by
  obtain ⟨A1, n1, c1, A, n, c, rfl, h1, h2, h3, h4, h5, h6, h7⟩ := h
  exact ⟨_, rfl, ⟨A1, n1, c1⟩, ⟨A, n, c⟩, rfl, ⟨h1, h2, h5⟩, ⟨h3, h4, h6⟩, h7⟩
theorem getNums_S (h : Sl w B s xs) (hB : B ≤ w.heap.size) : Calls Try.prog 91 #[s.v] w fun e w' => ∃ v, e = .returned v ∧ GotNumsS w B xs v w' :=
  (getNums_any s.A s.m s.c B xs w h.2.2 h.1 h.2.1 hB).mono fun _ _ q => GotNumsS.of q
theorem rgetNums_S (h : Sl w B s xs) (hB : B ≤ w.heap.size) : Calls Try.prog 62 #[s.v] w fun e w' => ∃ v, e = .returned v ∧ GotNumsS w B xs v w' :=
  (rgetNums_any s.A s.m s.c B xs w h.2.2 h.1 h.2.1 hB).mono fun _ _ q => GotNumsS.of q
/-- As GotNumsS; the numbers lie in a block that was not there. -/
def GotNumsSF (w : World) (B : Nat) (xs : List Int) (v : Value) (w' : World) : Prop :=
  ∃ p r : SlV, v = .tuple #[p.v, r.v, nv (numsE xs)] ∧ SlN w' w'.heap.size p (numsL xs) ∧ Sl w' B r (numsR xs) ∧ Fr w.heap.size p ∧ Below w.heap.size w w'
theorem GotNumsSF.of {w' : World} {e : Ending} (h : GotNumsF w B (numsL xs) (numsR xs) (numsE xs) e w') : ∃ v, e = .returned v ∧ GotNumsSF w B xs v w' := by
  obtain ⟨A1, n1, c1, A, n, c, rfl, h1, h2, h3, h4, h5, h6, h7, h8⟩ := h
  exact ⟨_, rfl, ⟨A1, n1, c1⟩, ⟨A, n, c⟩, rfl, ⟨h1, h2, h5⟩, ⟨h3, h4, h6⟩, h8, h7⟩
theorem getNums_SF (h : Sl w B s xs) (hB : B ≤ w.heap.size) : Calls Try.prog 91 #[s.v] w fun e w' => ∃ v, e = .returned v ∧ GotNumsSF w B xs v w' :=
  (getNums_anyF s.A s.m s.c B xs w h.2.2 h.1 h.2.1 hB).mono fun _ _ q => GotNumsSF.of q
theorem rgetNums_SF (h : Sl w B s xs) (hB : B ≤ w.heap.size) : Calls Try.prog 62 #[s.v] w fun e w' => ∃ v, e = .returned v ∧ GotNumsSF w B xs v w' :=
  (rgetNums_anyF s.A s.m s.c B xs w h.2.2 h.1 h.2.1 hB).mono fun _ _ q => GotNumsSF.of q
theorem putNums_S (h : Sl w B s xs) (h2 : SlN w B2 s2 ls) (hB : B ≤ w.heap.size) (hB2 : B2 ≤ w.heap.size) (hn : xs.length ≤ 35184372088832) : Calls Try.prog 90 #[s.v, s2.v] w fun e w' => ∃ v, e = .returned v ∧ PutS w (xs ++ bytesOct (numsOct ls)) v w' :=
  (putNums_any s.A s2.A s.m s.c s2.m s2.c w.heap.size xs ls w (h.top hB).2.2 (h2.more hB2).2.2 (Nat.le_refl _) h.1 h.2.1 (by rw [← h.len]; exact hn)).mono fun _ _ q => PutS.of q
theorem rputNums_S (h : Sl w B s xs) (h2 : SlN w B2 s2 ls) (hB : B ≤ w.heap.size) (hB2 : B2 ≤ w.heap.size) (hn : xs.length ≤ 90000) (hn2 : ls.length ≤ 20000) : Calls Try.prog 75 #[s.v, s2.v] w fun e w' => ∃ v, e = .returned v ∧ PutS w (xs ++ bytesOct (numsOct ls)) v w' :=
  (rputNums_any s.A s2.A s.m s.c s2.m s2.c w.heap.size xs ls w (h.top hB).2.2 (h2.more hB2).2.2 (Nat.le_refl _) (by rw [← h.len]; exact hn) (by rw [← h2.len]; exact hn2)).mono fun _ _ q => PutS.of q
end
end Go.Proofs.Ytpmakacjhoemeaa
