/-
  Contracts of wire, and of the document's answers for it, with slices of octets as one letter each.
-/
import Derived.Test.YtpoonjgkgaodmaaDoorKitA
import Derived.Test.YtpoonjgkgaodmaaDoorKitR
import Derived.Test.YtpoonjgkgaodmaaDoorKitV
namespace Go.Proofs.YtpoonjgkgaodmaaDoor
open Go.ChangeShapes Go.WideShapes Go.ChangeAt Go.RowKit
set_option linter.unusedVariables false

section
variable {w : World} {B B2 : Nat} {s s2 : SlV} {xs vs : List Int}
theorem Sl.top (h : Sl w B s xs) (hB : B ≤ w.heap.size) : Sl w w.heap.size s xs := h.more hB
def GotTwoS (w : World) (B : Nat) (xs : List Int) (v : Value) (w' : World) : Prop :=
  ∃ p r : SlV, v = .tuple #[p.v, r.v, nv (bytesE xs)] ∧ Sl w' B p (bytesP xs) ∧ Sl w' B r (bytesR xs) ∧ Below w.heap.size w w'
def GotIntS (w : World) (B : Nat) (xs : List Int) (k : Int) (v : Value) (w' : World) : Prop :=
  ∃ r : SlV, v = .tuple #[nv (numM xs k), r.v, nv (numE xs k)] ∧ Sl w' B r (numR xs k) ∧ Below w.heap.size w w'
def PutS (w : World) (ys : List Int) (v : Value) (w' : World) : Prop := ∃ r : SlV, v = r.v ∧ Sl w' w'.heap.size r ys ∧ Below w.heap.size w w'
theorem PutS.of {w' : World} {ys : List Int} {e : Ending} (h : PutSl w ys e w') : ∃ v, e = .returned v ∧ PutS w ys v w' := by
  obtain ⟨A, n, c, rfl, h1, h2, h3, h4⟩ := h
  exact ⟨_, rfl, ⟨A, n, c⟩, rfl, ⟨h1, h2, h3⟩, h4⟩
theorem GotTwoS.of {w' : World} {e : Ending} (h : GotTwo w B (bytesP xs) (bytesR xs) (bytesE xs) e w') : ∃ v, e = .returned v ∧ GotTwoS w B xs v w' := by
  obtain ⟨A1, n1, c1, A, n, c, rfl, h1, h2, h3, h4, h5, h6, h7⟩ := h
  exact ⟨_, rfl, ⟨A1, n1, c1⟩, ⟨A, n, c⟩, rfl, ⟨h1, h2, h5⟩, ⟨h3, h4, h6⟩, h7⟩
theorem GotIntS.of {w' : World} {e : Ending} {k : Int} (h : GotInt w B (numM xs k) (numR xs k) (numE xs k) e w') : ∃ v, e = .returned v ∧ GotIntS w B xs k v w' := by
  obtain ⟨A, n, c, rfl, h3, h4, h6, h7⟩ := h
  exact ⟨_, rfl, ⟨A, n, c⟩, rfl, ⟨h3, h4, h6⟩, h7⟩
theorem bytesOct_le (vs : List Int) : (bytesOct vs).length ≤ vs.length + 4 := by
  unfold bytesOct
  split
  · simp
  · rw [List.length_append]
    have := octN_le (vs.length : Int)
    omega
/-- bytes.Equal. -/
theorem bytesEq_S (h : Sl w B s xs) (h2 : Sl w B2 s2 vs) : Calls Tryd.prog 61 #[s.v, s2.v] w fun e w' => e = .returned (.bool (decide (xs = vs))) ∧ w' = w := by
  refine calls_cg (n := 10) Tryd.func61 rfl Tryd.ntmps61 (by simp) ?_
  show CG _ _ _ [(0, s.v), (1, s2.v)] _ _
  refine cg_seq ?_
  refine cg_region ?_
  refine lsw (want_none (by rfl)) (y_assign rfl rfl) rfl (by decide) ?_
  refine lg_nil ?_
  refine nx (E' := [(0, _), (1, _)]) (fk rfl (fk rfl fn)) ?_
  refine cg_seq ?_
  refine cg_region ?_
  refine lsw (want_none (by rfl)) (y_move rfl rfl) rfl (by decide) ?_
  refine lsw (want_none (by rfl)) (y_strS h rfl rfl) rfl (by decide) ?_
  refine lsw (want_none (by rfl)) (y_move rfl rfl) rfl (by decide) ?_
  refine lsw (want_none (by rfl)) (y_strS h2 rfl rfl) rfl (by decide) ?_
  refine lsw (want_none (by rfl)) (y_seqS h.bytes h2.bytes rfl rfl rfl) rfl (by decide) ?_
  refine lsw (want_none (by rfl)) (y_assign rfl rfl) rfl (by decide) ?_
  refine lg_nil ?_
  refine nx (E' := [(4, _)]) (fk rfl fn) ?_
  refine cg_ret ?_
  exact eg_ret_tmp rfl rfl ⟨rfl, rfl⟩
end
end Go.Proofs.YtpoonjgkgaodmaaDoor
