/-
  Contracts of wire, and of the document's answers for it, with slices of octets as one letter each.
-/
import Derived.Test.YtpmakacjhoemeaaKitA
import Derived.Test.YtpmakacjhoemeaaKitR
import Derived.Test.YtpmakacjhoemeaaKitV
namespace Go.Proofs.Ytpmakacjhoemeaa
open Go.ChangeShapes Go.WideShapes Go.ChangeAt Go.RowKit
set_option linter.unusedVariables false

section
variable {w : World} {B B2 : Nat} {s s2 : SlV} {xs vs : List Int}
theorem Sl.top (h : Sl w B s xs) (hB : B ≤ w.heap.size) : Sl w w.heap.size s xs := h.more hB
def GotTwoS (w : World) (B : Nat) (xs : List Int) (v : Value) (w' : World) : Prop :=
  ∃ p r : SlV, v = .tuple #[p.v, r.v, nv (bytesE xs)] ∧ Sl w' B p (bytesP xs) ∧ Sl w' B r (bytesR xs) ∧ Below w.heap.size w w'
def GotIntS (w : World) (B : Nat) (xs : List Int) (k : Int) (v : Value) (w' : World) : Prop :=
  ∃ r : SlV, v = .tuple #[nv (numM xs k), r.v, nv (numE xs k)] ∧ Sl w' B r (numR xs k) ∧ Below w.heap.size w w'
def PutS (w : World) (ys : List Int) (v : Value) (w' : World) : Prop := ∃ r : SlV, v = r.v ∧ Sl w' w'.heap.size r ys ∧ Below w.heap.size w w'
theorem PutS.of {w' : World} {ys : List Int} {e : Ending} (h : PutSl w ys e w') : ∃ v, e = .returned v ∧ PutS w ys v w' := by
  obtain ⟨A, n, c, rfl, h1, h2, h3, h4⟩ := h
  exact ⟨_, rfl, ⟨A, n, c⟩, rfl, ⟨h1, h2, h3⟩, h4⟩
theorem GotTwoS.of {w' : World} {e : Ending} (h : GotTwo w B (bytesP xs) (bytesR xs) (bytesE xs) e w') : ∃ v, e = .returned v ∧ GotTwoS w B xs v w' := by
  obtain ⟨A1, n1, c1, A, n, c, rfl, h1, h2, h3, h4, h5, h6, h7⟩ := h
  exact ⟨_, rfl, ⟨A1, n1, c1⟩, ⟨A, n, c⟩, rfl, ⟨h1, h2, h5⟩, ⟨h3, h4, h6⟩, h7⟩
theorem GotIntS.of {w' : World} {e : Ending} {k : Int} (h : GotInt w B (numM xs k) (numR xs k) (numE xs k) e w') : ∃ v, e = .returned v ∧ GotIntS w B xs k v w' := by
  obtain ⟨A, n, c, rfl, h3, h4, h6, h7⟩ := h
  exact ⟨_, rfl, ⟨A, n, c⟩, rfl, ⟨h3, h4, h6⟩, h7⟩
theorem getBytes_S (h : Sl w B s xs) (hB : B ≤ w.heap.size) : Calls Try.prog 88 #[s.v] w fun e w' => ∃ v, e = .returned v ∧ GotTwoS w B xs v w' :=
  (getBytes_any s.A s.m s.c B xs w h.2.2 h.1 h.2.1 hB).mono fun _ _ q => GotTwoS.of q
theorem rgetBytes_S (h : Sl w B s xs) (hB : B ≤ w.heap.size) : Calls Try.prog 61 #[s.v] w fun e w' => ∃ v, e = .returned v ∧ GotTwoS w B xs v w' :=
  (rgetBytes_any s.A s.m s.c B xs w h.2.2 h.1 h.2.1 hB).mono fun _ _ q => GotTwoS.of q
theorem getNum_S (k : Int) (h : Sl w B s xs) (hB : B ≤ w.heap.size) : Calls Try.prog 28 #[s.v, nv k] w fun e w' => ∃ v, e = .returned v ∧ GotIntS w B xs k v w' :=
  (getNum_any s.A s.m s.c B xs k w h.2.2 h.1 h.2.1).mono fun _ _ q => GotIntS.of q
theorem rgetNum_S (k : Int) (h : Sl w B s xs) (hB : B ≤ w.heap.size) : Calls Try.prog 31 #[s.v, nv k] w fun e w' => ∃ v, e = .returned v ∧ GotIntS w B xs k v w' :=
  (rgetNum_any s.A s.m s.c B xs k w h.2.2 h.1 h.2.1).mono fun _ _ q => GotIntS.of q
theorem putBytes_S (h : Sl w B s xs) (h2 : Sl w B2 s2 vs) (hB : B ≤ w.heap.size) (hB2 : B2 ≤ w.heap.size) (hn : xs.length ≤ 35184372088832) : Calls Try.prog 52 #[s.v, s2.v] w fun e w' => ∃ v, e = .returned v ∧ PutS w (xs ++ bytesOct vs) v w' :=
  (putBytes_any s.A s2.A s.m s.c s2.m s2.c w.heap.size xs vs w (h.top hB).2.2 (h2.top hB2).2.2 (Nat.le_refl _) h.1 h.2.1 (by rw [← h.len]; exact hn)).mono fun _ _ q => PutS.of q
theorem rputBytes_S (h : Sl w B s xs) (h2 : Sl w B2 s2 vs) (hB : B ≤ w.heap.size) (hB2 : B2 ≤ w.heap.size) (hn : xs.length ≤ 90000) (hn2 : vs.length ≤ 90000) : Calls Try.prog 53 #[s.v, s2.v] w fun e w' => ∃ v, e = .returned v ∧ PutS w (xs ++ bytesOct vs) v w' :=
  (rputBytes_any s.A s2.A s.m s.c s2.m s2.c w.heap.size xs vs w (h.top hB).2.2 (h2.top hB2).2.2 (Nat.le_refl _) (by rw [← h.len]; exact hn) (by rw [← h2.len]; exact hn2)).mono fun _ _ q => PutS.of q
theorem putNum_S (m k : Int) (h : Sl w B s xs) (hB : B ≤ w.heap.size) (hn : xs.length ≤ 35184372088832) : Calls Try.prog 44 #[s.v, nv m, nv k] w fun e w' => ∃ v, e = .returned v ∧ PutS w (xs ++ numOct m (widthK k)) v w' :=
  (putNum_any s.A s.m s.c B xs m k w h.2.2 hB (by rw [← h.len]; exact hn)).mono fun _ _ q => PutS.of q
theorem rputNum_S (m k : Int) (h : Sl w B s xs) (hB : B ≤ w.heap.size) (hn : xs.length ≤ 90000) : Calls Try.prog 48 #[s.v, nv m, nv k] w fun e w' => ∃ v, e = .returned v ∧ PutS w (xs ++ numOct m (widthK k)) v w' :=
  (rputNum_any s.A s.m s.c B xs m k w h.2.2 hB (by rw [← h.len]; omega)).mono fun _ _ q => PutS.of q
/-- slices.Concat of two, in a row of one's own. -/
theorem concat2_S {b : Nat} {t : TypeId} (r : RowAt w b t #[s.v, s2.v]) (h : Sl w B s xs) (h2 : Sl w B2 s2 vs) (hB : B ≤ w.heap.size) (hB2 : B2 ≤ w.heap.size) (hn : xs.length + vs.length ≤ 70368744177664) :
    Calls Try.prog 45 #[.slice (some ⟨b, 0, none⟩) 2 2] w fun e w' => ∃ v, e = .returned v ∧ PutS w (xs ++ vs) v w' :=
  (concat_two b s.m s2.m s.c s2.c w.heap.size s.A s2.A xs vs w (h.top hB).2.2 (h2.top hB2).2.2 (Nat.le_refl _) r.lt (by rw [cell_of_row w b 0 _ t _ r]; rfl) (by rw [cell_of_row w b 1 _ t _ r]; rfl) (by rw [← h.len, ← h2.len]; exact hn)).mono fun e w' q => by
    obtain ⟨v, rfl, how, hb, hs⟩ := q
    obtain ⟨r, rfl, hr⟩ := own_Sl how (h.bytes.app h2.bytes)
    exact ⟨_, rfl, r, rfl, hr, hb⟩
theorem bytesOct_le (vs : List Int) : (bytesOct vs).length ≤ vs.length + 4 := by
  unfold bytesOct
  split
  · simp
  · rw [List.length_append]
    have := octN_le (vs.length : Int)
    omega
/-- bytes.Equal. -/
theorem bytesEq_S (h : Sl w B s xs) (h2 : Sl w B2 s2 vs) : Calls Try.prog 64 #[s.v, s2.v] w fun e w' => e = .returned (.bool (decide (xs = vs))) ∧ w' = w := by
  refine calls_cg (n := 10) Try.func64 rfl Try.ntmps64 (by simp) ?_
  show CG _ _ _ [(0, s.v), (1, s2.v)] _ _
  refine cg_seq ?_
  refine cg_region ?_
  refine lsw (want_none (by rfl)) (y_assign rfl rfl) rfl (by decide) ?_
  refine lg_nil ?_
  refine nx (E' := [(0, _), (1, _)]) (fk rfl (fk rfl fn)) ?_
  refine cg_seq ?_
  refine cg_region ?_
  refine lsw (want_none (by rfl)) (y_move rfl rfl) rfl (by decide) ?_
  refine lsw (want_none (by rfl)) (y_strS h rfl rfl) rfl (by decide) ?_
  refine lsw (want_none (by rfl)) (y_move rfl rfl) rfl (by decide) ?_
  refine lsw (want_none (by rfl)) (y_strS h2 rfl rfl) rfl (by decide) ?_
  refine lsw (want_none (by rfl)) (y_seqS h.bytes h2.bytes rfl rfl rfl) rfl (by decide) ?_
  refine lsw (want_none (by rfl)) (y_assign rfl rfl) rfl (by decide) ?_
  refine lg_nil ?_
  refine nx (E' := [(4, _)]) (fk rfl fn) ?_
  refine cg_ret ?_
  exact eg_ret_tmp rfl rfl ⟨rfl, rfl⟩
end
end Go.Proofs.Ytpmakacjhoemeaa
