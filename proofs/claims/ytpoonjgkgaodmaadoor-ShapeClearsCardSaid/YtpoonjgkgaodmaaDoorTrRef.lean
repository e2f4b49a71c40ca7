/-
  Trees: what the document answers.
-/
import Derived.Test.YtpoonjgkgaodmaaDoorTrProg
import Derived.Test.YtpoonjgkgaodmaaDoorNdRef
namespace Go.Proofs.YtpoonjgkgaodmaaDoor
open Go.ChangeShapes Go.WideShapes Go.ChangeAt Go.RowKit
set_option linter.unusedVariables false

theorem isN_of {a : List Nd} {x : Int} (h : trIs a) (h0 : 0 ≤ x) (h1 : x < (a.length : Int)) : isN x (a.length : Int) := by
  have hl := trIs_len h
  exact ⟨by unfold isW; omega, h0, h1⟩
theorem OwnNd.cast {w : World} {base B : Nat} {v : Value} {Ls Ms : List Nd} (h : OwnNd w base B v Ls) (e : Ls = Ms) : OwnNd w base B v Ms := e ▸ h
theorem noLeaf_half {a : List Nd} (h : trIs a) (h1 : 1 < a.length) : noLeaf (a.drop (a.length / 2)) ↔ noLeaf (a.drop (a.length / 2 + 1)) := by
  have hl := trIs_len h
  constructor
  · intro q i hi
    rw [List.length_drop] at hi
    have h2 := q (i + 1) (by rw [List.length_drop]; omega)
    rw [atN_drop] at h2 ⊢
    rwa [show a.length / 2 + 1 + i = a.length / 2 + (i + 1) by omega]
  · intro q i hi
    rw [List.length_drop] at hi
    rw [atN_drop]
    by_cases e : i = 0
    · have hk := ok_kind (trIs_ok h (a.length / 2 + i))
      omega
    · have h2 := q (i - 1) (by rw [List.length_drop]; omega)
      rw [atN_drop] at h2
      rwa [show a.length / 2 + i = a.length / 2 + 1 + (i - 1) by omega]
theorem drop_noLeaf {a : List Nd} {i : Nat} (h : ∀ j, i ≤ j → j < a.length → (atN a j).kind ≠ 1) : noLeaf (a.drop i) := fun q hq => by
  rw [List.length_drop] at hq
  rw [atN_drop]
  exact h _ (by omega) (by omega)
theorem drop_leaf {a : List Nd} {i j : Nat} {L : Nd} (hi : i ≤ j) (h : a[j]? = some L) (hk : L.kind = 1) : ¬ noLeaf (a.drop i) := fun q => by
  have hj := (List.getElem?_eq_some_iff.1 h).1
  have h2 := q (j - i) (by rw [List.length_drop]; omega)
  rw [atN_drop, show i + (j - i) = j by omega, atN_some h] at h2
  exact h2 hk
theorem sameR_any {W : World} {B : Nat} {s r : SlV} {Ls Ms : List Nd} (h : RwNd W B s Ls) (h2 : RwNd W B r Ms) (hB : B ≤ W.heap.size) : Calls Tryd.prog 14 #[s.v, r.v] W fun e W' => ∃ v, e = .returned v ∧ v = .bool (decide (trSame Ls Ms)) ∧ Below W.heap.size W W' := by
  refine calls_cg (n := 27) Tryd.func14 rfl Tryd.ntmps14 (by simp) ?_
  show CG _ _ _ [(0, s.v), (1, r.v)] _ _
  have u := Below.refl W.heap.size W
  have h := h.more hB
  have h2 := h2.more hB
  have q1 := h.len
  have q2 := h.cap
  have q3 := h2.len
  refine cg_seq ?_
  refine cg_region ?_
  refine lsw (want_none (by rfl)) (y_assign rfl rfl) rfl (by decide) ?_
  refine lg_nil ?_
  refine nx (E' := [(0, _), (1, _), (4, _)]) (fk rfl (fk rfl (fk rfl fn))) ?_
  refine cg_seq ?_
  refine cg_seq ?_
  refine cg_region ?_
  refine lsw (want_none (by rfl)) (y_move rfl rfl) rfl (by decide) ?_
  refine lsw (want_none (by rfl)) (y_lenM (el := 30) h.len (by kernel_rfl) rfl rfl) rfl (by decide) ?_
  refine lsw (want_none (by rfl)) (y_move rfl rfl) rfl (by decide) ?_
  refine lsw (want_none (by rfl)) (y_lenM (el := 30) h2.len (by kernel_rfl) rfl rfl) rfl (by decide) ?_
  by_cases c1 : (Ls.length : Int) = (Ms.length : Int)
  · refine lsw (want_none (by rfl)) (yb (nd_f c1) (yi_neq rfl rfl rfl)) rfl (by decide) ?_
    refine lg_nil ?_
    refine nx (E' := [(0, _), (1, _), (4, _), (10, _)]) (fk rfl (fk rfl (fk rfl (fk rfl fn)))) ?_
    refine cg_cf rfl ?_
    refine cg_skip ?_
    refine nx (E' := [(0, _), (1, _), (4, _)]) (fk rfl (fk rfl (fk rfl fn))) ?_
    refine cg_seq ?_
    refine cg_seq ?_
    refine cg_region ?_
    refine lsw (want_none (by rfl)) (y_assign rfl rfl) rfl (by decide) ?_
    refine lg_nil ?_
    refine nx (E' := [(0, _), (1, _), (4, _), (5, _)]) (fk rfl (fk rfl (fk rfl (fk rfl fn)))) ?_
    refine cg_block ?_
    refine cg_loopE (fun t a v => Holds 27 [(0, s.v), (1, r.v), (5, nv ((t : Nat) : Int))] a ∧ RwNd v W.heap.size s Ls ∧ RwNd v W.heap.size r Ms ∧ Below W.heap.size W v ∧ (∀ i, i < t → NdSame (atN Ls i) (atN Ms i))) (Ls.length + 1) (fun a ha => ⟨ha.keep (fk rfl (fk rfl (fk rfl fn))), h, h2, u, (fun i hi => absurd hi (by omega))⟩) ?_
    rintro t a v ht ⟨ha, h, h2, u, hk⟩
    refine cg_at ha ?_
    clear ha a
    have zv := u.size
    have q1 := h.len
    have q2 := h.cap
    have q3 := h2.len
    refine cg_seq ?_
    refine cg_seq ?_
    refine cg_region ?_
    refine lsw (want_none (by rfl)) (y_move rfl rfl) rfl (by decide) ?_
    refine lsw (want_none (by rfl)) (y_move rfl rfl) rfl (by decide) ?_
    refine lsw (want_none (by rfl)) (y_lenM (el := 30) h.len (by kernel_rfl) rfl rfl) rfl (by decide) ?_
    by_cases c2 : ((t : Nat) : Int) < (Ls.length : Int)
    · refine lsw (want_none (by rfl)) (yb (decide_eq_true c2) (yi_lss rfl rfl rfl)) rfl (by decide) ?_
      refine lg_nil ?_
      refine nx (E' := [(0, _), (1, _), (5, _), (11, _), (12, _), (13, _), (14, _)]) (fk rfl (fk rfl (fk rfl (fk rfl (fk rfl (fk rfl (fk rfl fn))))))) ?_
      refine cg_ct rfl ?_
      refine cg_skip ?_
      refine nx (E' := [(0, _), (1, _), (5, _), (11, _), (12, _), (13, _), (14, _)]) (fk rfl (fk rfl (fk rfl (fk rfl (fk rfl (fk rfl (fk rfl fn))))))) ?_
      refine cg_seq ?_
      refine cg_block ?_
      refine cg_seq ?_
      refine cg_held (by kernel_rfl) fun W3 eW3 => ?_
      have dW3 := below_drew _ _ eW3
      have zW3 := size_drew _ _ eW3
      clear eW3
      refine hg_take 0 (by rfl) (want_none (by rfl)) (by rfl) rfl (by decide) (by kernel_rfl) (by kernel_rfl) (by kernel_rfl) (fun _ _ _ h => h) (Below.refl _ _) (fun q hq => y_move rfl rfl) ?_
      refine hg_take 1 (by rfl) (want_none (by rfl)) (by rfl) rfl (by decide) (by kernel_rfl) (by kernel_rfl) (by kernel_rfl) (fun _ _ _ h => h) (Below.refl _ _) (fun q hq => y_move rfl rfl) ?_
      have h := h.below (dW3.mono (by omega))
      obtain ⟨eb4, eo4, el4, eL4, eA4, eB4, eg4, eh4, ec4⟩ := h.at (t) (by have := h.len; omega)
      refine hg_take 2 (by rfl) (want_none (by rfl)) (by rfl) rfl (by decide) (by kernel_rfl) (by kernel_rfl) (by kernel_rfl) (fun _ _ _ h => h) (Below.refl _ _) (fun q hq => y_ixR (s := s) (el := 30) (k := 8) (i := t) (iI := ((t : Nat) : Int)) eA4 (by kernel_rfl) (by kernel_rfl) (by omega) (by have := h.len; omega) rfl rfl rfl) ?_
      refine hg_take 3 (by rfl) (want_none (by rfl)) (by rfl) rfl (by decide) (by kernel_rfl) (by kernel_rfl) (by kernel_rfl) (fun _ _ _ h => h) (Below.refl _ _) (fun q hq => y_loadC (cs := el4.cs eL4) (fun k u e => (hq.cell (p := ⟨eb4, _, none⟩) (show eb4 < _ by omega)).trans (ec4 k u e)) (by kernel_rfl) (by kernel_rfl) rfl rfl) ?_
      refine hg_take 4 (by rfl) (want_none (by rfl)) (by rfl) rfl (by decide) (by kernel_rfl) (by kernel_rfl) (by kernel_rfl) (fun _ _ _ h => h) (Below.refl _ _) (fun q hq => y_move rfl rfl) ?_
      refine hg_take 5 (by rfl) (want_none (by rfl)) (by rfl) rfl (by decide) (by kernel_rfl) (by kernel_rfl) (by kernel_rfl) (fun _ _ _ h => h) (Below.refl _ _) (fun q hq => y_move rfl rfl) ?_
      have h2 := h2.below (dW3.mono (by omega))
      obtain ⟨eb5, eo5, el5, eL5, eA5, eB5, eg5, eh5, ec5⟩ := h2.at (t) (by have := h2.len; omega)
      refine hg_take 6 (by rfl) (want_none (by rfl)) (by rfl) rfl (by decide) (by kernel_rfl) (by kernel_rfl) (by kernel_rfl) (fun _ _ _ h => h) (Below.refl _ _) (fun q hq => y_ixR (s := r) (el := 30) (k := 8) (i := t) (iI := ((t : Nat) : Int)) eA5 (by kernel_rfl) (by kernel_rfl) (by omega) (by have := h2.len; omega) rfl rfl rfl) ?_
      refine hg_take 7 (by rfl) (want_none (by rfl)) (by rfl) rfl (by decide) (by kernel_rfl) (by kernel_rfl) (by kernel_rfl) (fun _ _ _ h => h) (Below.refl _ _) (fun q hq => y_loadC (cs := el5.cs eL5) (fun k u e => (hq.cell (p := ⟨eb5, _, none⟩) (show eb5 < _ by omega)).trans (ec5 k u e)) (by kernel_rfl) (by kernel_rfl) rfl rfl) ?_
      by_cases c6 : NdSame eL4 eL5
      · refine hg_one 8 (by rfl) (by kernel_rfl) (want_none (by rfl)) ?_
        refine lg_callw (want_none (by rfl)) (rsameN_any (eh4.more (B' := W3.heap.size) (by omega)) (eh5.more (B' := W3.heap.size) (by omega)) (Nat.le_refl _)) (by kernel_rfl) rfl rfl rfl (by decide) ?_
        rintro u7 w7 ⟨e7, hw7⟩
        have zw7 := hw7.size
        obtain rfl : u7 = .bool true := e7.trans (congrArg Value.bool (decide_eq_true c6))
        refine hg_next hw7 ?_
        refine hg_up hw7 ?_
        refine hg_take 9 (by rfl) (want_none (by rfl)) (by rfl) rfl (by decide) (by kernel_rfl) (by kernel_rfl) (by kernel_rfl) (fun _ _ _ h => h) (Below.refl _ _) (fun q hq => y_bnot rfl rfl) ?_
        refine hg_done (by kernel_rfl) ?_
        refine nx (E' := [(0, _), (1, _), (5, _), (11, _), (12, _), (13, _), (14, _), (17, _), (18, _), (19, _), (20, _), (21, _), (22, _), (23, _), (24, _), (25, _), (26, _)]) (fk rfl (fk rfl (fk rfl (fk rfl (fk rfl (fk rfl (fk rfl (fk rfl (fk rfl (fk rfl (fk rfl (fk rfl (fk rfl (fk rfl (fk rfl (fk rfl (fk rfl fn))))))))))))))))) ?_
        refine cg_cf rfl ?_
        refine cg_skip ?_
        refine eg_block_norm ?_
        refine nx (E' := [(0, _), (1, _), (5, _), (11, _), (12, _), (13, _), (14, _), (17, _), (18, _), (19, _), (20, _), (21, _), (22, _), (23, _), (24, _), (25, _), (26, _)]) (fk rfl (fk rfl (fk rfl (fk rfl (fk rfl (fk rfl (fk rfl (fk rfl (fk rfl (fk rfl (fk rfl (fk rfl (fk rfl (fk rfl (fk rfl (fk rfl (fk rfl fn))))))))))))))))) ?_
        refine cg_region ?_
        refine lsw (want_none (by rfl)) (y_move rfl rfl) rfl (by decide) ?_
        refine lsw (want_none (by rfl)) (yv (congrArg nv (show ((t : Nat) : Int) + 1 = ((t + 1 : Nat) : Int) by omega)) (yi_add rfl rfl rfl (by omega) (by omega))) rfl (by decide) ?_
        refine lsw (want_none (by rfl)) (y_assign rfl rfl) rfl (by decide) ?_
        refine lg_nil ?_
        have h := h.below (hw7.mono (by omega))
        have h2 := h2.below (hw7.mono (by omega))
        have u := u.trans (dW3.mono u.size)
        have u := u.trans (hw7.mono u.size)
        exact fun a ha => (show t < (Ls.length + 1) ∧ _ from ⟨(by omega), ha.keep (fk rfl (fk rfl (fk rfl fn))), h, h2, u, (fun i hi => by by_cases q : i = t; subst q; rw [atN_some eg4, atN_some eg5]; exact c6; exact hk i (by omega))⟩)
      · refine hg_one 8 (by rfl) (by kernel_rfl) (want_none (by rfl)) ?_
        refine lg_callw (want_none (by rfl)) (rsameN_any (eh4.more (B' := W3.heap.size) (by omega)) (eh5.more (B' := W3.heap.size) (by omega)) (Nat.le_refl _)) (by kernel_rfl) rfl rfl rfl (by decide) ?_
        rintro u8 w8 ⟨e8, hw8⟩
        have zw8 := hw8.size
        obtain rfl : u8 = .bool false := e8.trans (congrArg Value.bool (decide_eq_false c6))
        refine hg_next hw8 ?_
        refine hg_up hw8 ?_
        refine hg_take 9 (by rfl) (want_none (by rfl)) (by rfl) rfl (by decide) (by kernel_rfl) (by kernel_rfl) (by kernel_rfl) (fun _ _ _ h => h) (Below.refl _ _) (fun q hq => y_bnot rfl rfl) ?_
        refine hg_done (by kernel_rfl) ?_
        refine nx (E' := [(0, _), (1, _), (5, _), (11, _), (12, _), (13, _), (14, _), (17, _), (18, _), (19, _), (20, _), (21, _), (22, _), (23, _), (24, _), (25, _), (26, _)]) (fk rfl (fk rfl (fk rfl (fk rfl (fk rfl (fk rfl (fk rfl (fk rfl (fk rfl (fk rfl (fk rfl (fk rfl (fk rfl (fk rfl (fk rfl (fk rfl (fk rfl fn))))))))))))))))) ?_
        refine cg_ct rfl ?_
        refine cg_seq ?_
        refine cg_region ?_
        refine lsw (want_none (by rfl)) (y_assign rfl rfl) rfl (by decide) ?_
        refine lg_nil ?_
        refine nx (E' := [(0, _), (1, _), (5, _), (11, _), (12, _), (13, _), (14, _), (17, _), (18, _), (19, _), (20, _), (21, _), (22, _), (23, _), (24, _), (25, _), (26, _), (4, _)]) (fk rfl (fk rfl (fk rfl (fk rfl (fk rfl (fk rfl (fk rfl (fk rfl (fk rfl (fk rfl (fk rfl (fk rfl (fk rfl (fk rfl (fk rfl (fk rfl (fk rfl (fk rfl fn)))))))))))))))))) ?_
        refine cg_ret ?_
        refine eg_block_ret ?_
        refine eg_seq_ret ?_
        refine eg_seq_ret ?_
        refine eg_block_ret ?_
        refine eg_seq_ret ?_
        have u := u.trans (dW3.mono u.size)
        have u := u.trans (hw8.mono u.size)
        exact eg_ret_tmp rfl rfl ⟨_, rfl, congrArg Value.bool (decide_eq_false (fun q => c6 (by have h3 := q.2 t (by omega); rwa [atN_some eg4, atN_some eg5] at h3))).symm, u⟩
    · refine lsw (want_none (by rfl)) (yb (decide_eq_false c2) (yi_lss rfl rfl rfl)) rfl (by decide) ?_
      refine lg_nil ?_
      refine nx (E' := [(0, _), (1, _), (5, _), (11, _), (12, _), (13, _), (14, _)]) (fk rfl (fk rfl (fk rfl (fk rfl (fk rfl (fk rfl (fk rfl fn))))))) ?_
      refine cg_cf rfl ?_
      refine cg_exit ?_
      refine eg_seq_exit ?_
      refine eg_seq_exit ?_
      refine eg_block_exit ?_
      refine nx (E' := []) fn ?_
      refine cg_seq ?_
      refine cg_region ?_
      refine lsw (want_none (by rfl)) (y_assign rfl rfl) rfl (by decide) ?_
      refine lg_nil ?_
      refine nx (E' := [(4, _)]) (fk rfl fn) ?_
      refine cg_ret ?_
      exact eg_ret_tmp rfl rfl ⟨_, rfl, congrArg Value.bool (decide_eq_true ⟨(by omega), fun i hi => hk i (by omega)⟩).symm, u⟩
  · refine lsw (want_none (by rfl)) (yb (nd_t c1) (yi_neq rfl rfl rfl)) rfl (by decide) ?_
    refine lg_nil ?_
    refine nx (E' := [(0, _), (1, _), (4, _), (10, _)]) (fk rfl (fk rfl (fk rfl (fk rfl fn)))) ?_
    refine cg_ct rfl ?_
    refine cg_seq ?_
    refine cg_region ?_
    refine lsw (want_none (by rfl)) (y_assign rfl rfl) rfl (by decide) ?_
    refine lg_nil ?_
    refine nx (E' := [(0, _), (1, _), (4, _)]) (fk rfl (fk rfl (fk rfl fn))) ?_
    refine cg_ret ?_
    refine eg_seq_ret ?_
    exact eg_ret_tmp rfl rfl ⟨_, rfl, congrArg Value.bool (decide_eq_false (fun q => by have := q.1; omega)).symm, u⟩
theorem fewR_any {W : World} {B : Nat} {s : SlV} {Ls : List Nd} (h : RwNd W B s Ls) (hB : B ≤ W.heap.size) : Calls Tryd.prog 7 #[s.v] W fun e W' => ∃ v, e = .returned v ∧ v = .bool (decide (trFew Ls)) ∧ Below W.heap.size W W' := by
  refine calls_cg (n := 19) Tryd.func7 rfl Tryd.ntmps7 (by simp) ?_
  show CG _ _ _ [(0, s.v)] _ _
  have u := Below.refl W.heap.size W
  have h := h.more hB
  have q1 := h.len
  have q2 := h.cap
  refine cg_seq ?_
  refine cg_region ?_
  refine lsw (want_none (by rfl)) (y_assign rfl rfl) rfl (by decide) ?_
  refine lg_nil ?_
  refine nx (E' := [(0, _), (2, _)]) (fk rfl (fk rfl fn)) ?_
  refine cg_seq ?_
  refine cg_seq ?_
  refine cg_region ?_
  refine lsw (want_none (by rfl)) (y_assign rfl rfl) rfl (by decide) ?_
  refine lg_nil ?_
  refine nx (E' := [(0, _), (2, _), (3, _)]) (fk rfl (fk rfl (fk rfl fn))) ?_
  refine cg_block ?_
  refine cg_loopE (fun t a v => Holds 19 [(0, s.v), (3, nv ((t : Nat) : Int))] a ∧ RwNd v W.heap.size s Ls ∧ Below W.heap.size W v ∧ (∀ i, i < t → ndFew (atN Ls i))) (Ls.length + 1) (fun a ha => ⟨ha.keep (fk rfl (fk rfl fn)), h, u, (fun i hi => absurd hi (by omega))⟩) ?_
  rintro t a v ht ⟨ha, h, u, hk⟩
  refine cg_at ha ?_
  clear ha a
  have zv := u.size
  have q1 := h.len
  have q2 := h.cap
  refine cg_seq ?_
  refine cg_seq ?_
  refine cg_region ?_
  refine lsw (want_none (by rfl)) (y_move rfl rfl) rfl (by decide) ?_
  refine lsw (want_none (by rfl)) (y_move rfl rfl) rfl (by decide) ?_
  refine lsw (want_none (by rfl)) (y_lenM (el := 30) h.len (by kernel_rfl) rfl rfl) rfl (by decide) ?_
  by_cases c1 : ((t : Nat) : Int) < (Ls.length : Int)
  · refine lsw (want_none (by rfl)) (yb (decide_eq_true c1) (yi_lss rfl rfl rfl)) rfl (by decide) ?_
    refine lg_nil ?_
    refine nx (E' := [(0, _), (3, _), (4, _), (5, _), (6, _), (7, _)]) (fk rfl (fk rfl (fk rfl (fk rfl (fk rfl (fk rfl fn)))))) ?_
    refine cg_ct rfl ?_
    refine cg_skip ?_
    refine nx (E' := [(0, _), (3, _), (4, _), (5, _), (6, _), (7, _)]) (fk rfl (fk rfl (fk rfl (fk rfl (fk rfl (fk rfl fn)))))) ?_
    refine cg_seq ?_
    refine cg_block ?_
    refine cg_seq ?_
    refine cg_region ?_
    refine lsw (want_none (by rfl)) (y_move rfl rfl) rfl (by decide) ?_
    refine lsw (want_none (by rfl)) (y_move rfl rfl) rfl (by decide) ?_
    obtain ⟨eb2, eo2, el2, eL2, eA2, eB2, eg2, eh2, ec2⟩ := h.at (t) (by have := h.len; omega)
    refine lsw (want_none (by rfl)) (y_ixR (s := s) (el := 30) (k := 8) (i := t) (iI := ((t : Nat) : Int)) eA2 (by kernel_rfl) (by kernel_rfl) (by omega) (by have := h.len; omega) rfl rfl rfl) rfl (by decide) ?_
    refine lsw (want_none (by rfl)) (y_loadC (cs := el2.cs eL2) ec2 (by kernel_rfl) (by kernel_rfl) rfl rfl) rfl (by decide) ?_
    by_cases c3 : ndFew eL2
    · refine lg_callw (want_none (by rfl)) (fewN_any (eh2.more (B' := v.heap.size) (by omega)) (Nat.le_refl _)) (by kernel_rfl) rfl rfl rfl (by decide) ?_
      rintro u4 w4 ⟨e4, hw4⟩
      have zw4 := hw4.size
      obtain rfl : u4 = .bool true := e4.trans (congrArg Value.bool (decide_eq_true c3))
      refine lsw (want_none (by rfl)) (y_bnot rfl rfl) rfl (by decide) ?_
      refine lg_nil ?_
      refine nx (E' := [(0, _), (3, _), (4, _), (5, _), (6, _), (7, _), (10, _), (11, _), (12, _), (13, _), (14, _), (15, _)]) (fk rfl (fk rfl (fk rfl (fk rfl (fk rfl (fk rfl (fk rfl (fk rfl (fk rfl (fk rfl (fk rfl (fk rfl fn)))))))))))) ?_
      refine cg_cf rfl ?_
      refine cg_skip ?_
      refine eg_block_norm ?_
      refine nx (E' := [(0, _), (3, _), (4, _), (5, _), (6, _), (7, _), (10, _), (11, _), (12, _), (13, _), (14, _), (15, _)]) (fk rfl (fk rfl (fk rfl (fk rfl (fk rfl (fk rfl (fk rfl (fk rfl (fk rfl (fk rfl (fk rfl (fk rfl fn)))))))))))) ?_
      refine cg_region ?_
      refine lsw (want_none (by rfl)) (y_move rfl rfl) rfl (by decide) ?_
      refine lsw (want_none (by rfl)) (yv (congrArg nv (show ((t : Nat) : Int) + 1 = ((t + 1 : Nat) : Int) by omega)) (yi_add rfl rfl rfl (by omega) (by omega))) rfl (by decide) ?_
      refine lsw (want_none (by rfl)) (y_assign rfl rfl) rfl (by decide) ?_
      refine lg_nil ?_
      have h := h.below (hw4.mono (by omega))
      have u := u.trans (hw4.mono u.size)
      exact fun a ha => (show t < (Ls.length + 1) ∧ _ from ⟨(by omega), ha.keep (fk rfl (fk rfl fn)), h, u, (ok_step (p := fun _ L => ndFew L) hk eg2 c3)⟩)
    · refine lg_callw (want_none (by rfl)) (fewN_any (eh2.more (B' := v.heap.size) (by omega)) (Nat.le_refl _)) (by kernel_rfl) rfl rfl rfl (by decide) ?_
      rintro u5 w5 ⟨e5, hw5⟩
      have zw5 := hw5.size
      obtain rfl : u5 = .bool false := e5.trans (congrArg Value.bool (decide_eq_false c3))
      refine lsw (want_none (by rfl)) (y_bnot rfl rfl) rfl (by decide) ?_
      refine lg_nil ?_
      refine nx (E' := [(0, _), (3, _), (4, _), (5, _), (6, _), (7, _), (10, _), (11, _), (12, _), (13, _), (14, _), (15, _)]) (fk rfl (fk rfl (fk rfl (fk rfl (fk rfl (fk rfl (fk rfl (fk rfl (fk rfl (fk rfl (fk rfl (fk rfl fn)))))))))))) ?_
      refine cg_ct rfl ?_
      refine cg_seq ?_
      refine cg_region ?_
      refine lsw (want_none (by rfl)) (y_assign rfl rfl) rfl (by decide) ?_
      refine lg_nil ?_
      refine nx (E' := [(0, _), (3, _), (4, _), (5, _), (6, _), (7, _), (10, _), (11, _), (12, _), (13, _), (14, _), (15, _), (2, _)]) (fk rfl (fk rfl (fk rfl (fk rfl (fk rfl (fk rfl (fk rfl (fk rfl (fk rfl (fk rfl (fk rfl (fk rfl (fk rfl fn))))))))))))) ?_
      refine cg_ret ?_
      refine eg_block_ret ?_
      refine eg_seq_ret ?_
      refine eg_seq_ret ?_
      refine eg_block_ret ?_
      refine eg_seq_ret ?_
      have u := u.trans (hw5.mono u.size)
      exact eg_ret_tmp rfl rfl ⟨_, rfl, congrArg Value.bool (decide_eq_false (fun q => c3 (by have h3 := q.1 t (by omega); rwa [atN_some eg2] at h3))).symm, u⟩
  · refine lsw (want_none (by rfl)) (yb (decide_eq_false c1) (yi_lss rfl rfl rfl)) rfl (by decide) ?_
    refine lg_nil ?_
    refine nx (E' := [(0, _), (3, _), (4, _), (5, _), (6, _), (7, _)]) (fk rfl (fk rfl (fk rfl (fk rfl (fk rfl (fk rfl fn)))))) ?_
    refine cg_cf rfl ?_
    refine cg_exit ?_
    refine eg_seq_exit ?_
    refine eg_seq_exit ?_
    refine eg_block_exit ?_
    refine nx (E' := [(0, _)]) (fk rfl fn) ?_
    refine cg_seq ?_
    refine cg_region ?_
    refine lsw (want_none (by rfl)) (y_move rfl rfl) rfl (by decide) ?_
    refine lsw (want_none (by rfl)) (y_lenM (el := 30) h.len (by kernel_rfl) rfl rfl) rfl (by decide) ?_
    by_cases c6 : (Ls.length : Int) ≤ 300
    · refine lsw (want_none (by rfl)) (yb (decide_eq_true c6) (yi_leq rfl rfl rfl)) rfl (by decide) ?_
      refine lsw (want_none (by rfl)) (y_assign rfl rfl) rfl (by decide) ?_
      refine lg_nil ?_
      refine nx (E' := [(2, _)]) (fk rfl fn) ?_
      refine cg_ret ?_
      exact eg_ret_tmp rfl rfl ⟨_, rfl, congrArg Value.bool (decide_eq_true ⟨fun i hi => hk i (by omega), (by omega)⟩).symm, u⟩
    · refine lsw (want_none (by rfl)) (yb (decide_eq_false c6) (yi_leq rfl rfl rfl)) rfl (by decide) ?_
      refine lsw (want_none (by rfl)) (y_assign rfl rfl) rfl (by decide) ?_
      refine lg_nil ?_
      refine nx (E' := [(2, _)]) (fk rfl fn) ?_
      refine cg_ret ?_
      exact eg_ret_tmp rfl rfl ⟨_, rfl, congrArg Value.bool (decide_eq_false (fun q => by have := q.2; omega)).symm, u⟩
theorem fits_any (x : Nat) (k : Int) (W : World) : Calls Tryd.prog 34 #[nv (x : Int), nv k] W fun e W' => e = .returned (.bool (decide (fitK x k))) ∧ W' = W := by
  refine calls_cg (n := 21) Tryd.func34 rfl Tryd.ntmps34 (by simp) ?_
  show CG _ _ _ [(0, nv (x : Int)), (1, nv k)] _ _
  refine cg_seq ?_
  refine cg_region ?_
  refine lsw (want_none (by rfl)) (y_assign rfl rfl) rfl (by decide) ?_
  refine lg_nil ?_
  refine nx (E' := [(0, _), (1, _), (4, _)]) (fk rfl (fk rfl (fk rfl fn))) ?_
  refine cg_seq ?_
  refine cg_region ?_
  refine lsw (want_none (by rfl)) (y_move rfl rfl) rfl (by decide) ?_
  refine lsw (want_none (by rfl)) (yi_rem rfl rfl rfl (by omega) (by omega)) rfl (by decide) ?_
  by_cases c1 : (((x : Nat) : Int) % 2) = 0
  · refine lsw (want_none (by rfl)) (yb (nd_f c1) (yi_neq rfl rfl rfl)) rfl (by decide) ?_
    refine lsw (want_none (by rfl)) (y_move rfl rfl) rfl (by decide) ?_
    refine lsw (want_t (dj := 8) (by rfl) (by kernel_rfl) rfl) (y_move rfl rfl) rfl (by decide) ?_
    by_cases c2 : k = 2
    · refine lsw (want_t (dj := 8) (by rfl) (by kernel_rfl) rfl) (yb (nd_f c2) (yi_neq rfl rfl rfl)) rfl (by decide) ?_
      refine lsw (want_none (by rfl)) (y_pick false rfl rfl rfl) rfl (by decide) ?_
      refine lsw (want_none (by rfl)) (y_move rfl rfl) rfl (by decide) ?_
      refine lsk (want_f (dj := 12) (by rfl) (by kernel_rfl) rfl) rfl (by decide) ?_
      refine lsk (want_f (dj := 12) (by rfl) (by kernel_rfl) rfl) rfl (by decide) ?_
      refine lsk (want_f (dj := 12) (by rfl) (by kernel_rfl) rfl) rfl (by decide) ?_
      refine lsk (want_f (dj := 12) (by rfl) (by kernel_rfl) rfl) rfl (by decide) ?_
      refine lsk (want_u (dj := 16) (by rfl) (by kernel_rfl) rfl) rfl (by decide) ?_
      refine lsk (want_u (dj := 16) (by rfl) (by kernel_rfl) rfl) rfl (by decide) ?_
      refine lsk (want_f (dj := 12) (by rfl) (by kernel_rfl) rfl) rfl (by decide) ?_
      refine lsw (want_none (by rfl)) (y_pick false rfl rfl rfl) rfl (by decide) ?_
      refine lsw (want_none (by rfl)) (y_assign rfl rfl) rfl (by decide) ?_
      refine lg_nil ?_
      refine nx (E' := [(4, _)]) (fk rfl fn) ?_
      refine cg_ret ?_
      exact eg_ret_tmp rfl rfl ⟨congrArg (fun q => Ending.returned (.bool q)) (decide_eq_false (by unfold fitK; omega)).symm, rfl⟩
    · refine lsw (want_t (dj := 8) (by rfl) (by kernel_rfl) rfl) (yb (nd_t c2) (yi_neq rfl rfl rfl)) rfl (by decide) ?_
      refine lsw (want_none (by rfl)) (y_pick false rfl rfl rfl) rfl (by decide) ?_
      refine lsw (want_none (by rfl)) (y_move rfl rfl) rfl (by decide) ?_
      refine lsw (want_t (dj := 12) (by rfl) (by kernel_rfl) rfl) (y_move rfl rfl) rfl (by decide) ?_
      refine lsw (want_t (dj := 12) (by rfl) (by kernel_rfl) rfl) (yi_rem rfl rfl rfl (by omega) (by omega)) rfl (by decide) ?_
      refine lsw (want_t (dj := 12) (by rfl) (by kernel_rfl) rfl) (yb (decide_eq_true c1) (yi_eql rfl rfl rfl)) rfl (by decide) ?_
      refine lsw (want_t (dj := 12) (by rfl) (by kernel_rfl) rfl) (y_move rfl rfl) rfl (by decide) ?_
      refine lsk (want_f (dj := 16) (by rfl) (by kernel_rfl) rfl) rfl (by decide) ?_
      refine lsk (want_f (dj := 16) (by rfl) (by kernel_rfl) rfl) rfl (by decide) ?_
      refine lsw (want_t (dj := 12) (by rfl) (by kernel_rfl) rfl) (y_pick true rfl rfl rfl) rfl (by decide) ?_
      refine lsw (want_none (by rfl)) (y_pick true rfl rfl rfl) rfl (by decide) ?_
      refine lsw (want_none (by rfl)) (y_assign rfl rfl) rfl (by decide) ?_
      refine lg_nil ?_
      refine nx (E' := [(4, _)]) (fk rfl fn) ?_
      refine cg_ret ?_
      exact eg_ret_tmp rfl rfl ⟨congrArg (fun q => Ending.returned (.bool q)) (decide_eq_true (by unfold fitK; omega)).symm, rfl⟩
  · refine lsw (want_none (by rfl)) (yb (nd_t c1) (yi_neq rfl rfl rfl)) rfl (by decide) ?_
    refine lsw (want_none (by rfl)) (y_move rfl rfl) rfl (by decide) ?_
    refine lsk (want_f (dj := 8) (by rfl) (by kernel_rfl) rfl) rfl (by decide) ?_
    refine lsk (want_f (dj := 8) (by rfl) (by kernel_rfl) rfl) rfl (by decide) ?_
    refine lsw (want_none (by rfl)) (y_pick true rfl rfl rfl) rfl (by decide) ?_
    refine lsw (want_none (by rfl)) (y_move rfl rfl) rfl (by decide) ?_
    refine lsw (want_t (dj := 12) (by rfl) (by kernel_rfl) rfl) (y_move rfl rfl) rfl (by decide) ?_
    refine lsw (want_t (dj := 12) (by rfl) (by kernel_rfl) rfl) (yi_rem rfl rfl rfl (by omega) (by omega)) rfl (by decide) ?_
    refine lsw (want_t (dj := 12) (by rfl) (by kernel_rfl) rfl) (yb (decide_eq_false c1) (yi_eql rfl rfl rfl)) rfl (by decide) ?_
    refine lsw (want_t (dj := 12) (by rfl) (by kernel_rfl) rfl) (y_move rfl rfl) rfl (by decide) ?_
    refine lsw (want_t (dj := 16) (by rfl) (by kernel_rfl) rfl) (y_move rfl rfl) rfl (by decide) ?_
    by_cases c3 : k = 1
    · refine lsw (want_t (dj := 16) (by rfl) (by kernel_rfl) rfl) (yb (nd_f c3) (yi_neq rfl rfl rfl)) rfl (by decide) ?_
      refine lsw (want_t (dj := 12) (by rfl) (by kernel_rfl) rfl) (y_pick false rfl rfl rfl) rfl (by decide) ?_
      refine lsw (want_none (by rfl)) (y_pick true rfl rfl rfl) rfl (by decide) ?_
      refine lsw (want_none (by rfl)) (y_assign rfl rfl) rfl (by decide) ?_
      refine lg_nil ?_
      refine nx (E' := [(4, _)]) (fk rfl fn) ?_
      refine cg_ret ?_
      exact eg_ret_tmp rfl rfl ⟨congrArg (fun q => Ending.returned (.bool q)) (decide_eq_false (by unfold fitK; omega)).symm, rfl⟩
    · refine lsw (want_t (dj := 16) (by rfl) (by kernel_rfl) rfl) (yb (nd_t c3) (yi_neq rfl rfl rfl)) rfl (by decide) ?_
      refine lsw (want_t (dj := 12) (by rfl) (by kernel_rfl) rfl) (y_pick false rfl rfl rfl) rfl (by decide) ?_
      refine lsw (want_none (by rfl)) (y_pick true rfl rfl rfl) rfl (by decide) ?_
      refine lsw (want_none (by rfl)) (y_assign rfl rfl) rfl (by decide) ?_
      refine lg_nil ?_
      refine nx (E' := [(4, _)]) (fk rfl fn) ?_
      refine cg_ret ?_
      exact eg_ret_tmp rfl rfl ⟨congrArg (fun q => Ending.returned (.bool q)) (decide_eq_true (by unfold fitK; omega)).symm, rfl⟩
theorem rsane_any {W : World} {B : Nat} {s : SlV} {Ls : List Nd} (h : RwNd W B s Ls) (hB : B ≤ W.heap.size) : Calls Tryd.prog 18 #[s.v] W fun e W' => ∃ v, e = .returned v ∧ v = .bool (decide (trIs Ls)) ∧ Below W.heap.size W W' := by
  refine calls_cg (n := 33) Tryd.func18 rfl Tryd.ntmps18 (by simp) ?_
  show CG _ _ _ [(0, s.v)] _ _
  have u := Below.refl W.heap.size W
  have h := h.more hB
  have q1 := h.len
  have q2 := h.cap
  refine cg_seq ?_
  refine cg_region ?_
  refine lsw (want_none (by rfl)) (y_assign rfl rfl) rfl (by decide) ?_
  refine lg_nil ?_
  refine nx (E' := [(0, _), (2, _)]) (fk rfl (fk rfl fn)) ?_
  refine cg_seq ?_
  refine cg_seq ?_
  refine cg_region ?_
  refine lsw (want_none (by rfl)) (y_move rfl rfl) rfl (by decide) ?_
  refine lsw (want_none (by rfl)) (y_lenM (el := 30) h.len (by kernel_rfl) rfl rfl) rfl (by decide) ?_
  by_cases c1 : (Ls.length : Int) = 0
  · refine lsw (want_none (by rfl)) (yb (decide_eq_true c1) (yi_eql rfl rfl rfl)) rfl (by decide) ?_
    refine lg_nil ?_
    refine nx (E' := [(0, _), (2, _), (6, _)]) (fk rfl (fk rfl (fk rfl fn))) ?_
    refine cg_ct rfl ?_
    refine cg_seq ?_
    refine cg_region ?_
    refine lsw (want_none (by rfl)) (y_assign rfl rfl) rfl (by decide) ?_
    refine lg_nil ?_
    refine nx (E' := [(0, _), (2, _)]) (fk rfl (fk rfl fn)) ?_
    refine cg_ret ?_
    refine eg_seq_ret ?_
    exact eg_ret_tmp rfl rfl ⟨_, rfl, congrArg Value.bool (decide_eq_true ⟨.inl (by omega), fun i hi => absurd hi (by omega)⟩).symm, u⟩
  · refine lsw (want_none (by rfl)) (yb (decide_eq_false c1) (yi_eql rfl rfl rfl)) rfl (by decide) ?_
    refine lg_nil ?_
    refine nx (E' := [(0, _), (2, _), (6, _)]) (fk rfl (fk rfl (fk rfl fn))) ?_
    refine cg_cf rfl ?_
    refine cg_skip ?_
    refine nx (E' := [(0, _), (2, _)]) (fk rfl (fk rfl fn)) ?_
    refine cg_seq ?_
    refine cg_seq ?_
    refine cg_region ?_
    refine lsw (want_none (by rfl)) (y_move rfl rfl) rfl (by decide) ?_
    refine lsw (want_none (by rfl)) (y_lenM (el := 30) h.len (by kernel_rfl) rfl rfl) rfl (by decide) ?_
    by_cases c2 : isW (Ls.length : Int)
    · refine lsw (want_none (by rfl)) (yb (decide_eq_true c2) (y_call (rwholeL (Ls.length : Int) _) (by kernel_rfl) rfl rfl)) rfl (by decide) ?_
      refine lsw (want_none (by rfl)) (y_bnot rfl rfl) rfl (by decide) ?_
      refine lg_nil ?_
      refine nx (E' := [(0, _), (2, _), (10, _)]) (fk rfl (fk rfl (fk rfl fn))) ?_
      refine cg_cf rfl ?_
      refine cg_skip ?_
      refine nx (E' := [(0, _), (2, _)]) (fk rfl (fk rfl fn)) ?_
      refine cg_seq ?_
      refine cg_seq ?_
      refine cg_region ?_
      refine lsw (want_none (by rfl)) (y_assign rfl rfl) rfl (by decide) ?_
      refine lg_nil ?_
      refine nx (E' := [(0, _), (2, _), (3, _)]) (fk rfl (fk rfl (fk rfl fn))) ?_
      refine cg_block ?_
      refine cg_loopE (fun t a v => Holds 33 [(0, s.v), (3, nv ((t : Nat) : Int))] a ∧ RwNd v W.heap.size s Ls ∧ Below W.heap.size W v ∧ ∀ i, i < t → okAt i (atN Ls i)) (Ls.length + 1) (fun a ha => ⟨ha.keep (fk rfl (fk rfl fn)), h, u, (fun i hi => absurd hi (by omega))⟩) ?_
      rintro t a v ht ⟨ha, h, u, hk⟩
      refine cg_at ha ?_
      clear ha a
      have zv := u.size
      have q1 := h.len
      have q2 := h.cap
      refine cg_seq ?_
      refine cg_seq ?_
      refine cg_region ?_
      refine lsw (want_none (by rfl)) (y_move rfl rfl) rfl (by decide) ?_
      refine lsw (want_none (by rfl)) (y_move rfl rfl) rfl (by decide) ?_
      refine lsw (want_none (by rfl)) (y_lenM (el := 30) h.len (by kernel_rfl) rfl rfl) rfl (by decide) ?_
      by_cases c3 : ((t : Nat) : Int) < (Ls.length : Int)
      · refine lsw (want_none (by rfl)) (yb (decide_eq_true c3) (yi_lss rfl rfl rfl)) rfl (by decide) ?_
        refine lg_nil ?_
        refine nx (E' := [(0, _), (3, _), (11, _), (12, _), (13, _), (14, _)]) (fk rfl (fk rfl (fk rfl (fk rfl (fk rfl (fk rfl fn)))))) ?_
        refine cg_ct rfl ?_
        refine cg_skip ?_
        refine nx (E' := [(0, _), (3, _), (11, _), (12, _), (13, _), (14, _)]) (fk rfl (fk rfl (fk rfl (fk rfl (fk rfl (fk rfl fn)))))) ?_
        refine cg_seq ?_
        refine cg_block ?_
        refine cg_seq ?_
        refine cg_region ?_
        refine lsw (want_none (by rfl)) (y_move rfl rfl) rfl (by decide) ?_
        refine lsw (want_none (by rfl)) (y_move rfl rfl) rfl (by decide) ?_
        obtain ⟨eb4, eo4, el4, eL4, eA4, eB4, eg4, eh4, ec4⟩ := h.at (t) (by have := h.len; omega)
        refine lsw (want_none (by rfl)) (y_ixR (s := s) (el := 30) (k := 8) (i := t) (iI := ((t : Nat) : Int)) eA4 (by kernel_rfl) (by kernel_rfl) (by omega) (by have := h.len; omega) rfl rfl rfl) rfl (by decide) ?_
        refine lsw (want_none (by rfl)) (y_loadC (cs := el4.cs eL4) ec4 (by kernel_rfl) (by kernel_rfl) rfl rfl) rfl (by decide) ?_
        refine lg_callw (want_none (by rfl)) (rcheckN_any (eh4.more (B' := v.heap.size) (by omega)) (Nat.le_refl _)) (by kernel_rfl) rfl rfl rfl (by decide) ?_
        rintro _ w5 ⟨rfl, hw5⟩
        have zw5 := hw5.size
        by_cases c6 : (ndCheck eL4) = 0
        · refine lsw (want_none (by rfl)) (yb (nd_f c6) (yi_neq rfl rfl rfl)) rfl (by decide) ?_
          refine lsw (want_none (by rfl)) (y_move rfl rfl) rfl (by decide) ?_
          refine lsw (want_t (dj := 23) (by rfl) (by kernel_rfl) rfl) (y_move rfl rfl) rfl (by decide) ?_
          refine lsw (want_t (dj := 23) (by rfl) (by kernel_rfl) rfl) (y_move rfl rfl) rfl (by decide) ?_
          refine lsw (want_t (dj := 23) (by rfl) (by kernel_rfl) rfl) (y_move rfl rfl) rfl (by decide) ?_
          have h := h.below (hw5.mono (by omega))
          obtain ⟨eb7, eo7, el7, eL7, eA7, eB7, eg7, eh7, ec7⟩ := h.at (t) (by have := h.len; omega)
          obtain rfl : eL4 = eL7 := Option.some.inj (eg4.symm.trans eg7)
          refine lsw (want_t (dj := 23) (by rfl) (by kernel_rfl) rfl) (y_ixR (s := s) (el := 30) (k := 8) (i := t) (iI := ((t : Nat) : Int)) eA7 (by kernel_rfl) (by kernel_rfl) (by omega) (by have := h.len; omega) rfl rfl rfl) rfl (by decide) ?_
          refine lsw (want_t (dj := 23) (by rfl) (by kernel_rfl) rfl) (y_fld (off := 0) (by kernel_rfl) rfl rfl) rfl (by decide) ?_
          refine lsw (want_t (dj := 23) (by rfl) (by kernel_rfl) rfl) (y_celld (ec7 0 _ rfl) (by kernel_rfl) rfl rfl) rfl (by decide) ?_
          by_cases c8 : fitK t eL4.kind
          · refine lsw (want_t (dj := 23) (by rfl) (by kernel_rfl) rfl) (yb (decide_eq_true c8) (y_call (fits_any t eL4.kind _) (by kernel_rfl) rfl rfl)) rfl (by decide) ?_
            refine lsw (want_t (dj := 23) (by rfl) (by kernel_rfl) rfl) (y_bnot rfl rfl) rfl (by decide) ?_
            refine lsw (want_none (by rfl)) (y_pick false rfl rfl rfl) rfl (by decide) ?_
            refine lg_nil ?_
            refine nx (E' := [(0, _), (3, _), (11, _), (12, _), (13, _), (14, _), (17, _), (18, _), (19, _), (20, _), (21, _), (22, _), (23, _), (24, _), (25, _), (26, _), (27, _), (28, _), (29, _), (30, _), (31, _), (32, _)]) (fk rfl (fk rfl (fk rfl (fk rfl (fk rfl (fk rfl (fk rfl (fk rfl (fk rfl (fk rfl (fk rfl (fk rfl (fk rfl (fk rfl (fk rfl (fk rfl (fk rfl (fk rfl (fk rfl (fk rfl (fk rfl (fk rfl fn)))))))))))))))))))))) ?_
            refine cg_cf rfl ?_
            refine cg_skip ?_
            refine eg_block_norm ?_
            refine nx (E' := [(0, _), (3, _), (11, _), (12, _), (13, _), (14, _), (17, _), (18, _), (19, _), (20, _), (21, _), (22, _), (23, _), (24, _), (25, _), (26, _), (27, _), (28, _), (29, _), (30, _), (31, _), (32, _)]) (fk rfl (fk rfl (fk rfl (fk rfl (fk rfl (fk rfl (fk rfl (fk rfl (fk rfl (fk rfl (fk rfl (fk rfl (fk rfl (fk rfl (fk rfl (fk rfl (fk rfl (fk rfl (fk rfl (fk rfl (fk rfl (fk rfl fn)))))))))))))))))))))) ?_
            refine cg_region ?_
            refine lsw (want_none (by rfl)) (y_move rfl rfl) rfl (by decide) ?_
            refine lsw (want_none (by rfl)) (yv (congrArg nv (show ((t : Nat) : Int) + 1 = ((t + 1 : Nat) : Int) by omega)) (yi_add rfl rfl rfl (by omega) (by omega))) rfl (by decide) ?_
            refine lsw (want_none (by rfl)) (y_assign rfl rfl) rfl (by decide) ?_
            refine lg_nil ?_
            have u := u.trans (hw5.mono u.size)
            exact fun a ha => (show t < (Ls.length + 1) ∧ _ from ⟨(by omega), ha.keep (fk rfl (fk rfl fn)), h, u, (ok_step hk eg4 ⟨c6, c8⟩)⟩)
          · refine lsw (want_t (dj := 23) (by rfl) (by kernel_rfl) rfl) (yb (decide_eq_false c8) (y_call (fits_any t eL4.kind _) (by kernel_rfl) rfl rfl)) rfl (by decide) ?_
            refine lsw (want_t (dj := 23) (by rfl) (by kernel_rfl) rfl) (y_bnot rfl rfl) rfl (by decide) ?_
            refine lsw (want_none (by rfl)) (y_pick false rfl rfl rfl) rfl (by decide) ?_
            refine lg_nil ?_
            refine nx (E' := [(0, _), (3, _), (11, _), (12, _), (13, _), (14, _), (17, _), (18, _), (19, _), (20, _), (21, _), (22, _), (23, _), (24, _), (25, _), (26, _), (27, _), (28, _), (29, _), (30, _), (31, _), (32, _)]) (fk rfl (fk rfl (fk rfl (fk rfl (fk rfl (fk rfl (fk rfl (fk rfl (fk rfl (fk rfl (fk rfl (fk rfl (fk rfl (fk rfl (fk rfl (fk rfl (fk rfl (fk rfl (fk rfl (fk rfl (fk rfl (fk rfl fn)))))))))))))))))))))) ?_
            refine cg_ct rfl ?_
            refine cg_seq ?_
            refine cg_region ?_
            refine lsw (want_none (by rfl)) (y_assign rfl rfl) rfl (by decide) ?_
            refine lg_nil ?_
            refine nx (E' := [(0, _), (3, _), (11, _), (12, _), (13, _), (14, _), (17, _), (18, _), (19, _), (20, _), (21, _), (22, _), (23, _), (24, _), (25, _), (26, _), (27, _), (28, _), (29, _), (30, _), (31, _), (32, _), (2, _)]) (fk rfl (fk rfl (fk rfl (fk rfl (fk rfl (fk rfl (fk rfl (fk rfl (fk rfl (fk rfl (fk rfl (fk rfl (fk rfl (fk rfl (fk rfl (fk rfl (fk rfl (fk rfl (fk rfl (fk rfl (fk rfl (fk rfl (fk rfl fn))))))))))))))))))))))) ?_
            refine cg_ret ?_
            refine eg_block_ret ?_
            refine eg_seq_ret ?_
            refine eg_seq_ret ?_
            refine eg_block_ret ?_
            refine eg_seq_ret ?_
            have u := u.trans (hw5.mono u.size)
            exact eg_ret_tmp rfl rfl ⟨_, rfl, congrArg Value.bool (decide_eq_false (trIs_bad eg4 fun q => c8 q.2)).symm, u⟩
        · refine lsw (want_none (by rfl)) (yb (nd_t c6) (yi_neq rfl rfl rfl)) rfl (by decide) ?_
          refine lsw (want_none (by rfl)) (y_move rfl rfl) rfl (by decide) ?_
          refine lsk (want_f (dj := 23) (by rfl) (by kernel_rfl) rfl) rfl (by decide) ?_
          refine lsk (want_f (dj := 23) (by rfl) (by kernel_rfl) rfl) rfl (by decide) ?_
          refine lsk (want_f (dj := 23) (by rfl) (by kernel_rfl) rfl) rfl (by decide) ?_
          refine lsk (want_f (dj := 23) (by rfl) (by kernel_rfl) rfl) rfl (by decide) ?_
          refine lsk (want_f (dj := 23) (by rfl) (by kernel_rfl) rfl) rfl (by decide) ?_
          refine lsk (want_f (dj := 23) (by rfl) (by kernel_rfl) rfl) rfl (by decide) ?_
          refine lsk (want_f (dj := 23) (by rfl) (by kernel_rfl) rfl) rfl (by decide) ?_
          refine lsk (want_f (dj := 23) (by rfl) (by kernel_rfl) rfl) rfl (by decide) ?_
          refine lsw (want_none (by rfl)) (y_pick true rfl rfl rfl) rfl (by decide) ?_
          refine lg_nil ?_
          refine nx (E' := [(0, _), (3, _), (11, _), (12, _), (13, _), (14, _), (17, _), (18, _), (19, _), (20, _), (21, _), (22, _), (23, _), (32, _)]) (fk rfl (fk rfl (fk rfl (fk rfl (fk rfl (fk rfl (fk rfl (fk rfl (fk rfl (fk rfl (fk rfl (fk rfl (fk rfl (fk rfl fn)))))))))))))) ?_
          refine cg_ct rfl ?_
          refine cg_seq ?_
          refine cg_region ?_
          refine lsw (want_none (by rfl)) (y_assign rfl rfl) rfl (by decide) ?_
          refine lg_nil ?_
          refine nx (E' := [(0, _), (3, _), (11, _), (12, _), (13, _), (14, _), (17, _), (18, _), (19, _), (20, _), (21, _), (22, _), (23, _), (32, _), (2, _)]) (fk rfl (fk rfl (fk rfl (fk rfl (fk rfl (fk rfl (fk rfl (fk rfl (fk rfl (fk rfl (fk rfl (fk rfl (fk rfl (fk rfl (fk rfl fn))))))))))))))) ?_
          refine cg_ret ?_
          refine eg_block_ret ?_
          refine eg_seq_ret ?_
          refine eg_seq_ret ?_
          refine eg_block_ret ?_
          refine eg_seq_ret ?_
          have u := u.trans (hw5.mono u.size)
          exact eg_ret_tmp rfl rfl ⟨_, rfl, congrArg Value.bool (decide_eq_false (trIs_bad eg4 fun q => c6 q.1)).symm, u⟩
      · refine lsw (want_none (by rfl)) (yb (decide_eq_false c3) (yi_lss rfl rfl rfl)) rfl (by decide) ?_
        refine lg_nil ?_
        refine nx (E' := [(0, _), (3, _), (11, _), (12, _), (13, _), (14, _)]) (fk rfl (fk rfl (fk rfl (fk rfl (fk rfl (fk rfl fn)))))) ?_
        refine cg_cf rfl ?_
        refine cg_exit ?_
        refine eg_seq_exit ?_
        refine eg_seq_exit ?_
        refine eg_block_exit ?_
        refine nx (E' := []) fn ?_
        refine cg_seq ?_
        refine cg_region ?_
        refine lsw (want_none (by rfl)) (y_assign rfl rfl) rfl (by decide) ?_
        refine lg_nil ?_
        refine nx (E' := [(2, _)]) (fk rfl fn) ?_
        refine cg_ret ?_
        exact eg_ret_tmp rfl rfl ⟨_, rfl, congrArg Value.bool (decide_eq_true ⟨.inr c2, fun i hi => hk i (by omega)⟩).symm, u⟩
    · refine lsw (want_none (by rfl)) (yb (decide_eq_false c2) (y_call (rwholeL (Ls.length : Int) _) (by kernel_rfl) rfl rfl)) rfl (by decide) ?_
      refine lsw (want_none (by rfl)) (y_bnot rfl rfl) rfl (by decide) ?_
      refine lg_nil ?_
      refine nx (E' := [(0, _), (2, _), (10, _)]) (fk rfl (fk rfl (fk rfl fn))) ?_
      refine cg_ct rfl ?_
      refine cg_seq ?_
      refine cg_region ?_
      refine lsw (want_none (by rfl)) (y_assign rfl rfl) rfl (by decide) ?_
      refine lg_nil ?_
      refine nx (E' := [(0, _), (2, _)]) (fk rfl (fk rfl fn)) ?_
      refine cg_ret ?_
      refine eg_seq_ret ?_
      exact eg_ret_tmp rfl rfl ⟨_, rfl, congrArg Value.bool (decide_eq_false (fun q => c2 (q.1.resolve_left (by omega)))).symm, u⟩
theorem as_any {W : World} {B : Nat} {s : SlV} {Ls : List Nd} (h : RwNd W B s Ls) (hB : B ≤ W.heap.size) : Calls Tryd.prog 32 #[s.v] W fun e W' => ∃ v, e = .returned v ∧ ∃ s' : SlV, v = s'.v ∧ RwNd W' B s' (trAs Ls) ∧ Below W.heap.size W W' := by
  refine calls_cg (n := 7) Tryd.func32 rfl Tryd.ntmps32 (by simp) ?_
  show CG _ _ _ [(0, s.v)] _ _
  have u := Below.refl W.heap.size W
  refine cg_seq ?_
  refine cg_region ?_
  refine lsw (want_none (by rfl)) (y_assign rfl rfl) rfl (by decide) ?_
  refine lg_nil ?_
  refine nx (E' := [(0, _), (2, _)]) (fk rfl (fk rfl fn)) ?_
  refine cg_seq ?_
  refine cg_seq ?_
  refine cg_region ?_
  refine lsw (want_none (by rfl)) (y_move rfl rfl) rfl (by decide) ?_
  by_cases c1 : trIs Ls
  · refine lg_callw (want_none (by rfl)) (rsane_any (h.more (B' := W.heap.size) (by omega)) (Nat.le_refl _)) (by kernel_rfl) rfl rfl rfl (by decide) ?_
    rintro u2 w2 ⟨e2, hw2⟩
    have zw2 := hw2.size
    obtain rfl : u2 = .bool true := e2.trans (congrArg Value.bool (decide_eq_true c1))
    refine lsw (want_none (by rfl)) (y_bnot rfl rfl) rfl (by decide) ?_
    refine lg_nil ?_
    refine nx (E' := [(0, _), (2, _), (5, _)]) (fk rfl (fk rfl (fk rfl fn))) ?_
    refine cg_cf rfl ?_
    refine cg_skip ?_
    refine nx (E' := [(0, _), (2, _)]) (fk rfl (fk rfl fn)) ?_
    refine cg_seq ?_
    refine cg_region ?_
    refine lsw (want_none (by rfl)) (y_move rfl rfl) rfl (by decide) ?_
    refine lsw (want_none (by rfl)) (y_assign rfl rfl) rfl (by decide) ?_
    refine lg_nil ?_
    refine nx (E' := [(2, _)]) (fk rfl fn) ?_
    refine cg_ret ?_
    have h := h.below (hw2.mono (by omega))
    have u := u.trans (hw2.mono u.size)
    exact eg_ret_tmp rfl rfl ⟨_, rfl, _, rfl, h.cast (trAs_ok c1).symm, u⟩
  · refine lg_callw (want_none (by rfl)) (rsane_any (h.more (B' := W.heap.size) (by omega)) (Nat.le_refl _)) (by kernel_rfl) rfl rfl rfl (by decide) ?_
    rintro u3 w3 ⟨e3, hw3⟩
    have zw3 := hw3.size
    obtain rfl : u3 = .bool false := e3.trans (congrArg Value.bool (decide_eq_false c1))
    refine lsw (want_none (by rfl)) (y_bnot rfl rfl) rfl (by decide) ?_
    refine lg_nil ?_
    refine nx (E' := [(0, _), (2, _), (5, _)]) (fk rfl (fk rfl (fk rfl fn))) ?_
    refine cg_ct rfl ?_
    refine cg_seq ?_
    refine cg_region ?_
    refine lsw (want_none (by rfl)) (y_assign rfl rfl) rfl (by decide) ?_
    refine lg_nil ?_
    refine nx (E' := [(0, _), (2, _)]) (fk rfl (fk rfl fn)) ?_
    refine cg_ret ?_
    refine eg_seq_ret ?_
    have u := u.trans (hw3.mono u.size)
    exact eg_ret_tmp rfl rfl ⟨_, rfl, nilS, rfl, (RwNd.nil _ _).cast (trAs_no c1).symm, u⟩
theorem rleavesT_any {W : World} {B : Nat} {s : SlV} {Ls : List Nd} (h : RwNd W B s Ls) (hB : B ≤ W.heap.size) : Calls Tryd.prog 20 #[s.v] W fun e W' => ∃ v, e = .returned v ∧ v = nv (leavesA (trAs Ls) : Int) ∧ Below W.heap.size W W' := by
  refine calls_cg (n := 8) Tryd.func20 rfl Tryd.ntmps20 (by simp) ?_
  show CG _ _ _ [(0, s.v)] _ _
  have u := Below.refl W.heap.size W
  refine cg_seq ?_
  refine cg_region ?_
  refine lsw (want_none (by rfl)) (y_assign rfl rfl) rfl (by decide) ?_
  refine lg_nil ?_
  refine nx (E' := [(0, _), (2, _)]) (fk rfl (fk rfl fn)) ?_
  refine cg_seq ?_
  refine cg_region ?_
  refine lsw (want_none (by rfl)) (y_move rfl rfl) rfl (by decide) ?_
  refine lg_callw (want_none (by rfl)) (as_any h (by omega)) (by kernel_rfl) rfl rfl rfl (by decide) ?_
  rintro _ w1 ⟨s1, rfl, m1, hw1⟩
  have zw1 := hw1.size
  have tl1 := trAs_le Ls
  refine lsw (want_none (by rfl)) (y_lenM (el := 30) m1.len (by kernel_rfl) rfl rfl) rfl (by decide) ?_
  refine lsw (want_none (by rfl)) (yi_add rfl rfl rfl (by omega) (by omega)) rfl (by decide) ?_
  refine lsw (want_none (by rfl)) (yi_quo rfl rfl rfl (by omega) (by omega) (by omega)) rfl (by decide) ?_
  refine lsw (want_none (by rfl)) (y_assign rfl rfl) rfl (by decide) ?_
  refine lg_nil ?_
  refine nx (E' := [(2, _)]) (fk rfl fn) ?_
  refine cg_ret ?_
  have u := u.trans (hw1.mono u.size)
  exact eg_ret_tmp rfl rfl ⟨_, rfl, congrArg nv (show ((((trAs Ls).length : Int) + 1) / 2) = _ by unfold leavesA; omega), u⟩
theorem rfree_any {W : World} {B : Nat} {s : SlV} {Ls : List Nd} (h : RwNd W B s Ls) (hB : B ≤ W.heap.size) : Calls Tryd.prog 22 #[s.v] W fun e W' => ∃ v, e = .returned v ∧ v = nv (freeA (trAs Ls)) ∧ Below W.heap.size W W' := by
  refine calls_cg (n := 21) Tryd.func22 rfl Tryd.ntmps22 (by simp) ?_
  show CG _ _ _ [(0, s.v)] _ _
  have u := Below.refl W.heap.size W
  have h := h.more hB
  refine cg_seq ?_
  refine cg_region ?_
  refine lsw (want_none (by rfl)) (y_assign rfl rfl) rfl (by decide) ?_
  refine lg_nil ?_
  refine nx (E' := [(0, _), (2, _)]) (fk rfl (fk rfl fn)) ?_
  refine cg_seq ?_
  refine cg_region ?_
  refine lsw (want_none (by rfl)) (y_move rfl rfl) rfl (by decide) ?_
  refine lg_callw (want_none (by rfl)) (as_any h (by omega)) (by kernel_rfl) rfl rfl rfl (by decide) ?_
  rintro _ w1 ⟨s1, rfl, m1, hw1⟩
  have zw1 := hw1.size
  have tl1 := trAs_le Ls
  refine lsw (want_none (by rfl)) (y_assign rfl rfl) rfl (by decide) ?_
  refine lg_nil ?_
  refine nx (E' := [(2, _), (3, _)]) (fk rfl (fk rfl fn)) ?_
  refine cg_seq ?_
  refine cg_seq ?_
  refine cg_region ?_
  refine lsw (want_none (by rfl)) (y_assign rfl rfl) rfl (by decide) ?_
  refine lg_nil ?_
  refine nx (E' := [(2, _), (3, _), (4, _)]) (fk rfl (fk rfl (fk rfl fn))) ?_
  refine cg_block ?_
  have u := u.trans (hw1.mono u.size)
  refine cg_loopE (fun t a v => ∃ (r : SlV), Holds 21 [(3, r.v), (4, nv ((2 * t : Nat) : Int))] a ∧ RwNd v W.heap.size r (trAs Ls) ∧ Below W.heap.size W v ∧ (∀ j, j < t → (atN (trAs Ls) (2 * j)).kind ≠ 0) ∧ 2 * t ≤ (trAs Ls).length + 1) (Ls.length + 200) (fun a ha => ⟨s1, ha.keep (fk rfl (fk rfl fn)), m1, u, (fun i hi => absurd hi (by omega)), (by omega)⟩) ?_
  rintro t a v ht ⟨r, ha, hr, u, hk, tle⟩
  refine cg_at ha ?_
  clear ha a
  have zv := u.size
  have q1 := hr.len
  have q2 := hr.cap
  have q3 := trAs_le Ls
  refine cg_seq ?_
  refine cg_seq ?_
  refine cg_region ?_
  refine lsw (want_none (by rfl)) (y_move rfl rfl) rfl (by decide) ?_
  refine lsw (want_none (by rfl)) (y_move rfl rfl) rfl (by decide) ?_
  refine lsw (want_none (by rfl)) (y_lenM (el := 30) hr.len (by kernel_rfl) rfl rfl) rfl (by decide) ?_
  by_cases c2 : ((2 * t : Nat) : Int) < ((trAs Ls).length : Int)
  · refine lsw (want_none (by rfl)) (yb (decide_eq_true c2) (yi_lss rfl rfl rfl)) rfl (by decide) ?_
    refine lg_nil ?_
    refine nx (E' := [(3, _), (4, _), (7, _), (8, _), (9, _), (10, _)]) (fk rfl (fk rfl (fk rfl (fk rfl (fk rfl (fk rfl fn)))))) ?_
    refine cg_ct rfl ?_
    refine cg_skip ?_
    refine nx (E' := [(3, _), (4, _), (7, _), (8, _), (9, _), (10, _)]) (fk rfl (fk rfl (fk rfl (fk rfl (fk rfl (fk rfl fn)))))) ?_
    refine cg_seq ?_
    refine cg_block ?_
    refine cg_seq ?_
    refine cg_region ?_
    refine lsw (want_none (by rfl)) (y_move rfl rfl) rfl (by decide) ?_
    refine lsw (want_none (by rfl)) (y_move rfl rfl) rfl (by decide) ?_
    obtain ⟨eb3, eo3, el3, eL3, eA3, eB3, eg3, eh3, ec3⟩ := hr.at ((2 * t)) (by have := hr.len; omega)
    refine lsw (want_none (by rfl)) (y_ixR (s := r) (el := 30) (k := 8) (i := (2 * t)) (iI := ((2 * t : Nat) : Int)) eA3 (by kernel_rfl) (by kernel_rfl) (by omega) (by have := hr.len; omega) rfl rfl rfl) rfl (by decide) ?_
    refine lsw (want_none (by rfl)) (y_fld (off := 0) (by kernel_rfl) rfl rfl) rfl (by decide) ?_
    refine lsw (want_none (by rfl)) (y_celld (ec3 0 _ rfl) (by kernel_rfl) rfl rfl) rfl (by decide) ?_
    by_cases c4 : eL3.kind = 0
    · refine lsw (want_none (by rfl)) (yb (decide_eq_true c4) (yi_eql rfl rfl rfl)) rfl (by decide) ?_
      refine lg_nil ?_
      refine nx (E' := [(3, _), (4, _), (7, _), (8, _), (9, _), (10, _), (13, _), (14, _), (15, _), (16, _), (17, _), (18, _)]) (fk rfl (fk rfl (fk rfl (fk rfl (fk rfl (fk rfl (fk rfl (fk rfl (fk rfl (fk rfl (fk rfl (fk rfl fn)))))))))))) ?_
      refine cg_ct rfl ?_
      refine cg_seq ?_
      refine cg_region ?_
      refine lsw (want_none (by rfl)) (y_move rfl rfl) rfl (by decide) ?_
      refine lsw (want_none (by rfl)) (yi_quo rfl rfl rfl (by omega) (by omega) (by omega)) rfl (by decide) ?_
      refine lsw (want_none (by rfl)) (y_assign rfl rfl) rfl (by decide) ?_
      refine lg_nil ?_
      refine nx (E' := [(3, _), (4, _), (7, _), (8, _), (9, _), (10, _), (13, _), (14, _), (15, _), (16, _), (17, _), (18, _), (19, _), (20, _), (2, _)]) (fk rfl (fk rfl (fk rfl (fk rfl (fk rfl (fk rfl (fk rfl (fk rfl (fk rfl (fk rfl (fk rfl (fk rfl (fk rfl (fk rfl (fk rfl fn))))))))))))))) ?_
      refine cg_ret ?_
      refine eg_block_ret ?_
      refine eg_seq_ret ?_
      refine eg_seq_ret ?_
      refine eg_block_ret ?_
      refine eg_seq_ret ?_
      exact eg_ret_tmp rfl rfl ⟨_, rfl, congrArg nv ((show (((2 * t : Nat) : Int) / 2) = (t : Int) by omega).trans (freeA_one (by unfold leavesA; omega) (at_kind (p := fun k => k = 0) eg3 c4) hk).symm), u⟩
    · refine lsw (want_none (by rfl)) (yb (decide_eq_false c4) (yi_eql rfl rfl rfl)) rfl (by decide) ?_
      refine lg_nil ?_
      refine nx (E' := [(3, _), (4, _), (7, _), (8, _), (9, _), (10, _), (13, _), (14, _), (15, _), (16, _), (17, _), (18, _)]) (fk rfl (fk rfl (fk rfl (fk rfl (fk rfl (fk rfl (fk rfl (fk rfl (fk rfl (fk rfl (fk rfl (fk rfl fn)))))))))))) ?_
      refine cg_cf rfl ?_
      refine cg_skip ?_
      refine eg_block_norm ?_
      refine nx (E' := [(3, _), (4, _), (7, _), (8, _), (9, _), (10, _), (13, _), (14, _), (15, _), (16, _), (17, _), (18, _)]) (fk rfl (fk rfl (fk rfl (fk rfl (fk rfl (fk rfl (fk rfl (fk rfl (fk rfl (fk rfl (fk rfl (fk rfl fn)))))))))))) ?_
      refine cg_region ?_
      refine lsw (want_none (by rfl)) (y_move rfl rfl) rfl (by decide) ?_
      refine lsw (want_none (by rfl)) (yv (congrArg nv (show ((2 * t : Nat) : Int) + 2 = ((2 * (t + 1) : Nat) : Int) by omega)) (yi_add rfl rfl rfl (by omega) (by omega))) rfl (by decide) ?_
      refine lsw (want_none (by rfl)) (y_assign rfl rfl) rfl (by decide) ?_
      refine lg_nil ?_
      exact fun a ha => (show t < (Ls.length + 200) ∧ _ from ⟨(by omega), r, ha.keep (fk rfl (fk rfl fn)), hr, u, (fun j hj => by by_cases q : j = t; subst q; exact at_kind (p := fun k => k ≠ 0) eg3 c4; exact hk j (by omega)), (by omega)⟩)
  · refine lsw (want_none (by rfl)) (yb (decide_eq_false c2) (yi_lss rfl rfl rfl)) rfl (by decide) ?_
    refine lg_nil ?_
    refine nx (E' := [(3, _), (4, _), (7, _), (8, _), (9, _), (10, _)]) (fk rfl (fk rfl (fk rfl (fk rfl (fk rfl (fk rfl fn)))))) ?_
    refine cg_cf rfl ?_
    refine cg_exit ?_
    refine eg_seq_exit ?_
    refine eg_seq_exit ?_
    refine eg_block_exit ?_
    refine nx (E' := []) fn ?_
    refine cg_seq ?_
    refine cg_region ?_
    refine lsw (want_none (by rfl)) (y_assign rfl rfl) rfl (by decide) ?_
    refine lg_nil ?_
    refine nx (E' := [(2, _)]) (fk rfl fn) ?_
    refine cg_ret ?_
    exact eg_ret_tmp rfl rfl ⟨_, rfl, congrArg nv (freeA_no (fun j hj => hk j (by unfold leavesA at hj; omega))).symm, u⟩
theorem rlast_any {W : World} {B : Nat} {s : SlV} {Ls : List Nd} (h : RwNd W B s Ls) (hB : B ≤ W.heap.size) : Calls Tryd.prog 24 #[s.v] W fun e W' => ∃ v, e = .returned v ∧ v = nv (lastA (trAs Ls)) ∧ Below W.heap.size W W' := by
  refine calls_cg (n := 21) Tryd.func24 rfl Tryd.ntmps24 (by simp) ?_
  show CG _ _ _ [(0, s.v)] _ _
  have u := Below.refl W.heap.size W
  have h := h.more hB
  refine cg_seq ?_
  refine cg_region ?_
  refine lsw (want_none (by rfl)) (y_assign rfl rfl) rfl (by decide) ?_
  refine lg_nil ?_
  refine nx (E' := [(0, _), (2, _)]) (fk rfl (fk rfl fn)) ?_
  refine cg_seq ?_
  refine cg_region ?_
  refine lsw (want_none (by rfl)) (y_move rfl rfl) rfl (by decide) ?_
  refine lg_callw (want_none (by rfl)) (as_any h (by omega)) (by kernel_rfl) rfl rfl rfl (by decide) ?_
  rintro _ w1 ⟨s1, rfl, m1, hw1⟩
  have zw1 := hw1.size
  have tl1 := trAs_le Ls
  refine lsw (want_none (by rfl)) (y_assign rfl rfl) rfl (by decide) ?_
  refine lg_nil ?_
  refine nx (E' := [(2, _), (3, _)]) (fk rfl (fk rfl fn)) ?_
  refine cg_seq ?_
  refine cg_seq ?_
  refine cg_region ?_
  refine lsw (want_none (by rfl)) (y_move rfl rfl) rfl (by decide) ?_
  refine lsw (want_none (by rfl)) (y_lenM (el := 30) m1.len (by kernel_rfl) rfl rfl) rfl (by decide) ?_
  refine lsw (want_none (by rfl)) (yv (congrArg nv (show ((trAs Ls).length : Int) - 1 = ((trAs Ls).length : Int) - 1 - ((0 : Nat) : Int) by omega)) (yi_sub rfl rfl rfl (by omega) (by omega))) rfl (by decide) ?_
  refine lsw (want_none (by rfl)) (y_assign rfl rfl) rfl (by decide) ?_
  refine lg_nil ?_
  refine nx (E' := [(2, _), (3, _), (4, _)]) (fk rfl (fk rfl (fk rfl fn))) ?_
  refine cg_block ?_
  have u := u.trans (hw1.mono u.size)
  refine cg_loopE (fun t a v => ∃ (r : SlV), Holds 21 [(3, r.v), (4, nv (((trAs Ls).length : Int) - 1 - (t : Int)))] a ∧ RwNd v W.heap.size r (trAs Ls) ∧ Below W.heap.size W v ∧ (∀ j, (trAs Ls).length - t ≤ j → j < (trAs Ls).length → (atN (trAs Ls) j).kind = 0) ∧ t ≤ (trAs Ls).length) (Ls.length + 200) (fun a ha => ⟨s1, ha.keep (fk rfl (fk rfl fn)), m1, u, (fun j h1 h2 => absurd h2 (by omega)), (Nat.zero_le _)⟩) ?_
  rintro t a v ht ⟨r, ha, hr, u, hk, tle⟩
  refine cg_at ha ?_
  clear ha a
  have zv := u.size
  have q1 := hr.len
  have q2 := hr.cap
  have q3 := trAs_le Ls
  refine cg_seq ?_
  refine cg_seq ?_
  refine cg_region ?_
  refine lsw (want_none (by rfl)) (y_move rfl rfl) rfl (by decide) ?_
  by_cases c2 : 0 ≤ (((trAs Ls).length : Int) - 1 - (t : Int))
  · refine lsw (want_none (by rfl)) (yb (decide_eq_true c2) (yi_geq rfl rfl rfl)) rfl (by decide) ?_
    refine lg_nil ?_
    refine nx (E' := [(3, _), (4, _), (10, _), (11, _)]) (fk rfl (fk rfl (fk rfl (fk rfl fn)))) ?_
    refine cg_ct rfl ?_
    refine cg_skip ?_
    refine nx (E' := [(3, _), (4, _), (10, _), (11, _)]) (fk rfl (fk rfl (fk rfl (fk rfl fn)))) ?_
    refine cg_seq ?_
    refine cg_block ?_
    refine cg_seq ?_
    refine cg_region ?_
    refine lsw (want_none (by rfl)) (y_move rfl rfl) rfl (by decide) ?_
    refine lsw (want_none (by rfl)) (y_move rfl rfl) rfl (by decide) ?_
    obtain ⟨eb3, eo3, el3, eL3, eA3, eB3, eg3, eh3, ec3⟩ := hr.at (((trAs Ls).length - 1 - t)) (by have := hr.len; omega)
    refine lsw (want_none (by rfl)) (y_ixR (s := r) (el := 30) (k := 8) (i := ((trAs Ls).length - 1 - t)) (iI := (((trAs Ls).length : Int) - 1 - (t : Int))) eA3 (by kernel_rfl) (by kernel_rfl) (by omega) (by have := hr.len; omega) rfl rfl rfl) rfl (by decide) ?_
    refine lsw (want_none (by rfl)) (y_fld (off := 0) (by kernel_rfl) rfl rfl) rfl (by decide) ?_
    refine lsw (want_none (by rfl)) (y_celld (ec3 0 _ rfl) (by kernel_rfl) rfl rfl) rfl (by decide) ?_
    by_cases c4 : eL3.kind = 0
    · refine lsw (want_none (by rfl)) (yb (nd_f c4) (yi_neq rfl rfl rfl)) rfl (by decide) ?_
      refine lg_nil ?_
      refine nx (E' := [(3, _), (4, _), (10, _), (11, _), (14, _), (15, _), (16, _), (17, _), (18, _), (19, _)]) (fk rfl (fk rfl (fk rfl (fk rfl (fk rfl (fk rfl (fk rfl (fk rfl (fk rfl (fk rfl fn)))))))))) ?_
      refine cg_cf rfl ?_
      refine cg_skip ?_
      refine eg_block_norm ?_
      refine nx (E' := [(3, _), (4, _), (10, _), (11, _), (14, _), (15, _), (16, _), (17, _), (18, _), (19, _)]) (fk rfl (fk rfl (fk rfl (fk rfl (fk rfl (fk rfl (fk rfl (fk rfl (fk rfl (fk rfl fn)))))))))) ?_
      refine cg_region ?_
      refine lsw (want_none (by rfl)) (y_move rfl rfl) rfl (by decide) ?_
      refine lsw (want_none (by rfl)) (yv (congrArg nv (show (((trAs Ls).length : Int) - 1 - (t : Int)) - 1 = ((trAs Ls).length : Int) - 1 - ((t + 1 : Nat) : Int) by omega)) (yi_sub rfl rfl rfl (by omega) (by omega))) rfl (by decide) ?_
      refine lsw (want_none (by rfl)) (y_assign rfl rfl) rfl (by decide) ?_
      refine lg_nil ?_
      exact fun a ha => (show t < (Ls.length + 200) ∧ _ from ⟨(by omega), r, ha.keep (fk rfl (fk rfl fn)), hr, u, (fun j h1 h2 => by by_cases q : j = (trAs Ls).length - 1 - t; rw [q]; exact at_kind (p := fun k => k = 0) eg3 c4; exact hk j (by omega) h2), (by omega)⟩)
    · refine lsw (want_none (by rfl)) (yb (nd_t c4) (yi_neq rfl rfl rfl)) rfl (by decide) ?_
      refine lg_nil ?_
      refine nx (E' := [(3, _), (4, _), (10, _), (11, _), (14, _), (15, _), (16, _), (17, _), (18, _), (19, _)]) (fk rfl (fk rfl (fk rfl (fk rfl (fk rfl (fk rfl (fk rfl (fk rfl (fk rfl (fk rfl fn)))))))))) ?_
      refine cg_ct rfl ?_
      refine cg_seq ?_
      refine cg_region ?_
      refine lsw (want_none (by rfl)) (y_move rfl rfl) rfl (by decide) ?_
      refine lsw (want_none (by rfl)) (y_assign rfl rfl) rfl (by decide) ?_
      refine lg_nil ?_
      refine nx (E' := [(3, _), (4, _), (10, _), (11, _), (14, _), (15, _), (16, _), (17, _), (18, _), (19, _), (20, _), (2, _)]) (fk rfl (fk rfl (fk rfl (fk rfl (fk rfl (fk rfl (fk rfl (fk rfl (fk rfl (fk rfl (fk rfl (fk rfl fn)))))))))))) ?_
      refine cg_ret ?_
      refine eg_block_ret ?_
      refine eg_seq_ret ?_
      refine eg_seq_ret ?_
      refine eg_block_ret ?_
      refine eg_seq_ret ?_
      exact eg_ret_tmp rfl rfl ⟨_, rfl, congrArg nv ((show (((trAs Ls).length : Int) - 1 - (t : Int)) = (((trAs Ls).length - 1 - t : Nat) : Int) by omega).trans (lastA_one (by omega) (at_kind (p := fun k => k ≠ 0) eg3 c4) (fun j h1 h2 => hk j (by omega) h2)).symm), u⟩
  · refine lsw (want_none (by rfl)) (yb (decide_eq_false c2) (yi_geq rfl rfl rfl)) rfl (by decide) ?_
    refine lg_nil ?_
    refine nx (E' := [(3, _), (4, _), (10, _), (11, _)]) (fk rfl (fk rfl (fk rfl (fk rfl fn)))) ?_
    refine cg_cf rfl ?_
    refine cg_exit ?_
    refine eg_seq_exit ?_
    refine eg_seq_exit ?_
    refine eg_block_exit ?_
    refine nx (E' := []) fn ?_
    refine cg_seq ?_
    refine cg_region ?_
    refine lsw (want_none (by rfl)) (y_assign rfl rfl) rfl (by decide) ?_
    refine lg_nil ?_
    refine nx (E' := [(2, _)]) (fk rfl fn) ?_
    refine cg_ret ?_
    exact eg_ret_tmp rfl rfl ⟨_, rfl, congrArg nv (lastA_no (fun j hj => hk j (by omega) hj)).symm, u⟩
theorem leafless_any {W : World} {B : Nat} {s : SlV} {Ls : List Nd} (i : Nat) (h : RwNd W B s Ls) (hB : B ≤ W.heap.size) : Calls Tryd.prog 42 #[s.v, nv (i : Int)] W fun e W' => ∃ v, e = .returned v ∧ v = .bool (decide (noLeaf (Ls.drop i))) ∧ Below W.heap.size W W' := by
  refine calls_cg (n := 19) Tryd.func42 rfl Tryd.ntmps42 (by simp) ?_
  show CG _ _ _ [(0, s.v), (1, nv (i : Int))] _ _
  have u := Below.refl W.heap.size W
  have h := h.more hB
  have q1 := h.len
  have q2 := h.cap
  refine cg_seq ?_
  refine cg_region ?_
  refine lsw (want_none (by rfl)) (y_assign rfl rfl) rfl (by decide) ?_
  refine lg_nil ?_
  refine nx (E' := [(0, _), (1, _), (4, _)]) (fk rfl (fk rfl (fk rfl fn))) ?_
  refine cg_seq ?_
  refine cg_seq ?_
  refine cg_region ?_
  refine lsw (want_none (by rfl)) (y_move rfl rfl) rfl (by decide) ?_
  refine lsw (want_none (by rfl)) (y_assign rfl rfl) rfl (by decide) ?_
  refine lg_nil ?_
  refine nx (E' := [(0, _), (4, _), (5, _)]) (fk rfl (fk rfl (fk rfl fn))) ?_
  refine cg_block ?_
  refine cg_loopE (fun t a v => Holds 19 [(0, s.v), (5, nv ((i + t : Nat) : Int))] a ∧ RwNd v W.heap.size s Ls ∧ Below W.heap.size W v ∧ (∀ j, i ≤ j → j < i + t → (atN Ls j).kind ≠ 1)) (Ls.length + 1) (fun a ha => ⟨ha.keep (fk rfl (fk rfl fn)), h, u, (fun j h1 h2 => absurd h2 (by omega))⟩) ?_
  rintro t a v ht ⟨ha, h, u, hk⟩
  refine cg_at ha ?_
  clear ha a
  have zv := u.size
  have q1 := h.len
  have q2 := h.cap
  refine cg_seq ?_
  refine cg_seq ?_
  refine cg_region ?_
  refine lsw (want_none (by rfl)) (y_move rfl rfl) rfl (by decide) ?_
  refine lsw (want_none (by rfl)) (y_move rfl rfl) rfl (by decide) ?_
  refine lsw (want_none (by rfl)) (y_lenM (el := 30) h.len (by kernel_rfl) rfl rfl) rfl (by decide) ?_
  by_cases c1 : ((i + t : Nat) : Int) < (Ls.length : Int)
  · refine lsw (want_none (by rfl)) (yb (decide_eq_true c1) (yi_lss rfl rfl rfl)) rfl (by decide) ?_
    refine lg_nil ?_
    refine nx (E' := [(0, _), (5, _), (7, _), (8, _), (9, _), (10, _)]) (fk rfl (fk rfl (fk rfl (fk rfl (fk rfl (fk rfl fn)))))) ?_
    refine cg_ct rfl ?_
    refine cg_skip ?_
    refine nx (E' := [(0, _), (5, _), (7, _), (8, _), (9, _), (10, _)]) (fk rfl (fk rfl (fk rfl (fk rfl (fk rfl (fk rfl fn)))))) ?_
    refine cg_seq ?_
    refine cg_block ?_
    refine cg_seq ?_
    refine cg_region ?_
    refine lsw (want_none (by rfl)) (y_move rfl rfl) rfl (by decide) ?_
    refine lsw (want_none (by rfl)) (y_move rfl rfl) rfl (by decide) ?_
    obtain ⟨eb2, eo2, el2, eL2, eA2, eB2, eg2, eh2, ec2⟩ := h.at ((i + t)) (by have := h.len; omega)
    refine lsw (want_none (by rfl)) (y_ixR (s := s) (el := 30) (k := 8) (i := (i + t)) (iI := ((i + t : Nat) : Int)) eA2 (by kernel_rfl) (by kernel_rfl) (by omega) (by have := h.len; omega) rfl rfl rfl) rfl (by decide) ?_
    refine lsw (want_none (by rfl)) (y_fld (off := 0) (by kernel_rfl) rfl rfl) rfl (by decide) ?_
    refine lsw (want_none (by rfl)) (y_celld (ec2 0 _ rfl) (by kernel_rfl) rfl rfl) rfl (by decide) ?_
    by_cases c3 : eL2.kind = 1
    · refine lsw (want_none (by rfl)) (yb (decide_eq_true c3) (yi_eql rfl rfl rfl)) rfl (by decide) ?_
      refine lg_nil ?_
      refine nx (E' := [(0, _), (5, _), (7, _), (8, _), (9, _), (10, _), (13, _), (14, _), (15, _), (16, _), (17, _), (18, _)]) (fk rfl (fk rfl (fk rfl (fk rfl (fk rfl (fk rfl (fk rfl (fk rfl (fk rfl (fk rfl (fk rfl (fk rfl fn)))))))))))) ?_
      refine cg_ct rfl ?_
      refine cg_seq ?_
      refine cg_region ?_
      refine lsw (want_none (by rfl)) (y_assign rfl rfl) rfl (by decide) ?_
      refine lg_nil ?_
      refine nx (E' := [(0, _), (5, _), (7, _), (8, _), (9, _), (10, _), (13, _), (14, _), (15, _), (16, _), (17, _), (18, _), (4, _)]) (fk rfl (fk rfl (fk rfl (fk rfl (fk rfl (fk rfl (fk rfl (fk rfl (fk rfl (fk rfl (fk rfl (fk rfl (fk rfl fn))))))))))))) ?_
      refine cg_ret ?_
      refine eg_block_ret ?_
      refine eg_seq_ret ?_
      refine eg_seq_ret ?_
      refine eg_block_ret ?_
      refine eg_seq_ret ?_
      exact eg_ret_tmp rfl rfl ⟨_, rfl, congrArg Value.bool (decide_eq_false (drop_leaf (by omega) eg2 c3)).symm, u⟩
    · refine lsw (want_none (by rfl)) (yb (decide_eq_false c3) (yi_eql rfl rfl rfl)) rfl (by decide) ?_
      refine lg_nil ?_
      refine nx (E' := [(0, _), (5, _), (7, _), (8, _), (9, _), (10, _), (13, _), (14, _), (15, _), (16, _), (17, _), (18, _)]) (fk rfl (fk rfl (fk rfl (fk rfl (fk rfl (fk rfl (fk rfl (fk rfl (fk rfl (fk rfl (fk rfl (fk rfl fn)))))))))))) ?_
      refine cg_cf rfl ?_
      refine cg_skip ?_
      refine eg_block_norm ?_
      refine nx (E' := [(0, _), (5, _), (7, _), (8, _), (9, _), (10, _), (13, _), (14, _), (15, _), (16, _), (17, _), (18, _)]) (fk rfl (fk rfl (fk rfl (fk rfl (fk rfl (fk rfl (fk rfl (fk rfl (fk rfl (fk rfl (fk rfl (fk rfl fn)))))))))))) ?_
      refine cg_region ?_
      refine lsw (want_none (by rfl)) (y_move rfl rfl) rfl (by decide) ?_
      refine lsw (want_none (by rfl)) (yv (congrArg nv (show ((i + t : Nat) : Int) + 1 = ((i + (t + 1) : Nat) : Int) by omega)) (yi_add rfl rfl rfl (by omega) (by omega))) rfl (by decide) ?_
      refine lsw (want_none (by rfl)) (y_assign rfl rfl) rfl (by decide) ?_
      refine lg_nil ?_
      exact fun a ha => (show t < (Ls.length + 1) ∧ _ from ⟨(by omega), ha.keep (fk rfl (fk rfl fn)), h, u, (fun j h1 h3 => by by_cases q : j = i + t; subst q; exact at_kind (p := fun k => k ≠ 1) eg2 c3; exact hk j h1 (by omega))⟩)
  · refine lsw (want_none (by rfl)) (yb (decide_eq_false c1) (yi_lss rfl rfl rfl)) rfl (by decide) ?_
    refine lg_nil ?_
    refine nx (E' := [(0, _), (5, _), (7, _), (8, _), (9, _), (10, _)]) (fk rfl (fk rfl (fk rfl (fk rfl (fk rfl (fk rfl fn)))))) ?_
    refine cg_cf rfl ?_
    refine cg_exit ?_
    refine eg_seq_exit ?_
    refine eg_seq_exit ?_
    refine eg_block_exit ?_
    refine nx (E' := []) fn ?_
    refine cg_seq ?_
    refine cg_region ?_
    refine lsw (want_none (by rfl)) (y_assign rfl rfl) rfl (by decide) ?_
    refine lg_nil ?_
    refine nx (E' := [(4, _)]) (fk rfl fn) ?_
    refine cg_ret ?_
    exact eg_ret_tmp rfl rfl ⟨_, rfl, congrArg Value.bool (decide_eq_true (drop_noLeaf fun j h1 h3 => hk j h1 (by omega))).symm, u⟩
theorem rtrim_any {W : World} {B : Nat} {s : SlV} {Ls : List Nd} (h : RwNd W B s Ls) (hB : B ≤ W.heap.size) : Calls Tryd.prog 16 #[s.v] W fun e W' => ∃ v, e = .returned v ∧ ∃ s' : SlV, v = s'.v ∧ RwNd W' B s' (trimL Ls) ∧ Below W.heap.size W W' := by
  refine calls_cg (n := 32) Tryd.func16 rfl Tryd.ntmps16 (by simp) ?_
  show CG _ _ _ [(0, s.v)] _ _
  have u := Below.refl W.heap.size W
  refine cg_seq ?_
  refine cg_region ?_
  refine lsw (want_none (by rfl)) (y_assign rfl rfl) rfl (by decide) ?_
  refine lg_nil ?_
  refine nx (E' := [(0, _), (2, _)]) (fk rfl (fk rfl fn)) ?_
  refine cg_seq ?_
  refine cg_region ?_
  refine lsw (want_none (by rfl)) (y_move rfl rfl) rfl (by decide) ?_
  refine lg_callw (want_none (by rfl)) (as_any h (by omega)) (by kernel_rfl) rfl rfl rfl (by decide) ?_
  rintro _ w1 ⟨s1, rfl, m1, hw1⟩
  have zw1 := hw1.size
  have tl1 := trAs_le Ls
  refine lsw (want_none (by rfl)) (y_assign rfl rfl) rfl (by decide) ?_
  refine lg_nil ?_
  refine nx (E' := [(2, _), (3, _)]) (fk rfl (fk rfl fn)) ?_
  refine cg_seq ?_
  refine cg_block ?_
  have u := u.trans (hw1.mono u.size)
  refine cg_loopE (fun t a v => ∃ (r : SlV) (ca : List Nd) (k : Nat), Holds 32 [(3, r.v)] a ∧ RwNd v B r ca ∧ Below W.heap.size W v ∧ trIs ca ∧ t + k = 7 ∧ ca.length < 2 ^ k ∧ trimN k ca = trimN 7 (trAs Ls)) 8 (fun a ha => ⟨s1, _, 7, ha.keep (fk rfl fn), m1, u, (trAs_is Ls), rfl, (by have := trAs_le Ls; omega), rfl⟩) ?_
  rintro t a v ht ⟨r, ca, k, ha, hr, u, hti, hk, hlen, hval⟩
  refine cg_at ha ?_
  clear ha a
  have zv := u.size
  have q1 := hr.len
  have q2 := hr.cap
  have q3 := trIs_le hti
  refine cg_seq ?_
  refine cg_seq ?_
  refine cg_region ?_
  refine lsw (want_none (by rfl)) (y_move rfl rfl) rfl (by decide) ?_
  refine lsw (want_none (by rfl)) (y_lenM (el := 30) hr.len (by kernel_rfl) rfl rfl) rfl (by decide) ?_
  by_cases c2 : 1 < (ca.length : Int)
  · refine lsw (want_none (by rfl)) (yb (decide_eq_true c2) (yi_gtr rfl rfl rfl)) rfl (by decide) ?_
    refine lsw (want_none (by rfl)) (y_move rfl rfl) rfl (by decide) ?_
    refine lsw (want_t (dj := 9) (by rfl) (by kernel_rfl) rfl) (y_move rfl rfl) rfl (by decide) ?_
    refine lsw (want_t (dj := 9) (by rfl) (by kernel_rfl) rfl) (y_move rfl rfl) rfl (by decide) ?_
    refine lsw (want_t (dj := 9) (by rfl) (by kernel_rfl) rfl) (y_lenM (el := 30) hr.len (by kernel_rfl) rfl rfl) rfl (by decide) ?_
    refine lsw (want_t (dj := 9) (by rfl) (by kernel_rfl) rfl) (yv (congrArg nv (show (ca.length : Int) / 2 = ((ca.length / 2 : Nat) : Int) by omega)) (yi_quo rfl rfl rfl (by omega) (by omega) (by omega))) rfl (by decide) ?_
    by_cases c3 : noLeaf (ca.drop (ca.length / 2))
    · refine lg_callw (want_t (dj := 9) (by rfl) (by kernel_rfl) rfl) (leafless_any (ca.length / 2) (hr.more (B' := v.heap.size) (by omega)) (Nat.le_refl _)) (by kernel_rfl) rfl rfl rfl (by decide) ?_
      rintro u4 w4 ⟨e4, hw4⟩
      have zw4 := hw4.size
      obtain rfl : u4 = .bool true := e4.trans (congrArg Value.bool (decide_eq_true c3))
      refine lsw (want_none (by rfl)) (y_pick true rfl rfl rfl) rfl (by decide) ?_
      refine lg_nil ?_
      refine nx (E' := [(3, _), (6, _), (7, _), (8, _), (9, _), (10, _), (11, _), (12, _), (13, _), (14, _), (15, _)]) (fk rfl (fk rfl (fk rfl (fk rfl (fk rfl (fk rfl (fk rfl (fk rfl (fk rfl (fk rfl (fk rfl fn))))))))))) ?_
      refine cg_ct rfl ?_
      refine cg_skip ?_
      refine nx (E' := [(3, _), (6, _), (7, _), (8, _), (9, _), (10, _), (11, _), (12, _), (13, _), (14, _), (15, _)]) (fk rfl (fk rfl (fk rfl (fk rfl (fk rfl (fk rfl (fk rfl (fk rfl (fk rfl (fk rfl (fk rfl fn))))))))))) ?_
      refine cg_block ?_
      refine cg_region ?_
      refine lsw (want_none (by rfl)) (y_move rfl rfl) rfl (by decide) ?_
      refine lsw (want_none (by rfl)) (y_move rfl rfl) rfl (by decide) ?_
      have hr := hr.below (hw4.mono (by omega))
      refine lsw (want_none (by rfl)) (y_lenM (el := 30) hr.len (by kernel_rfl) rfl rfl) rfl (by decide) ?_
      refine lsw (want_none (by rfl)) (yv (congrArg nv (show (ca.length : Int) / 2 = ((ca.length / 2 : Nat) : Int) by omega)) (yi_quo rfl rfl rfl (by omega) (by omega) (by omega))) rfl (by decide) ?_
      have cu5 := hr.cut 0 (ca.length / 2) r.c (by have q1 := hr.len; have q2 := hr.cap; omega) (by have q1 := hr.len; have q2 := hr.cap; omega) (by have q1 := hr.len; have q2 := hr.cap; omega) (by have q1 := hr.len; have q2 := hr.cap; omega) |>.cast (by rw [List.drop_zero])
      refine lsw (want_none (by rfl)) (y_cutR_h (s := r) (ca.length / 2) (hi := ((ca.length / 2 : Nat) : Int)) (by have q1 := hr.len; have q2 := hr.cap; omega) (by have q1 := hr.len; have q2 := hr.cap; omega) rfl rfl rfl) rfl (by decide) ?_
      refine lsw (want_none (by rfl)) (y_assign rfl rfl) rfl (by decide) ?_
      refine lg_nil ?_
      refine eg_block_norm ?_
      obtain ⟨j, rfl, hj⟩ := trim_fuel hlen (by omega)
      have u := u.trans (hw4.mono u.size)
      exact fun a ha => (show t < 8 ∧ _ from ⟨(by omega), (⟨cutR r.A 0 r.c, (ca.length / 2) - 0, r.c - 0⟩ : SlV), _, j, ha.keep (fk rfl fn), cu5, u, (trIs_half hti (by omega)), (by omega), (by rw [List.length_take]; omega), ((trim_step j (by omega) ((noLeaf_half hti (by omega)).1 c3)).symm.trans hval)⟩)
    · refine lg_callw (want_t (dj := 9) (by rfl) (by kernel_rfl) rfl) (leafless_any (ca.length / 2) (hr.more (B' := v.heap.size) (by omega)) (Nat.le_refl _)) (by kernel_rfl) rfl rfl rfl (by decide) ?_
      rintro u6 w6 ⟨e6, hw6⟩
      have zw6 := hw6.size
      obtain rfl : u6 = .bool false := e6.trans (congrArg Value.bool (decide_eq_false c3))
      refine lsw (want_none (by rfl)) (y_pick true rfl rfl rfl) rfl (by decide) ?_
      refine lg_nil ?_
      refine nx (E' := [(3, _), (6, _), (7, _), (8, _), (9, _), (10, _), (11, _), (12, _), (13, _), (14, _), (15, _)]) (fk rfl (fk rfl (fk rfl (fk rfl (fk rfl (fk rfl (fk rfl (fk rfl (fk rfl (fk rfl (fk rfl fn))))))))))) ?_
      refine cg_cf rfl ?_
      refine cg_exit ?_
      refine eg_seq_exit ?_
      refine eg_seq_exit ?_
      refine eg_block_exit ?_
      refine nx (E' := [(3, _)]) (fk rfl fn) ?_
      refine cg_seq ?_
      refine cg_seq ?_
      refine cg_region ?_
      refine lsw (want_none (by rfl)) (y_move rfl rfl) rfl (by decide) ?_
      have hr := hr.below (hw6.mono (by omega))
      refine lsw (want_none (by rfl)) (y_lenM (el := 30) hr.len (by kernel_rfl) rfl rfl) rfl (by decide) ?_
      by_cases c7 : (ca.length : Int) = 1
      · omega
      · refine lsw (want_none (by rfl)) (yb (decide_eq_false c7) (yi_eql rfl rfl rfl)) rfl (by decide) ?_
        refine lsw (want_none (by rfl)) (y_move rfl rfl) rfl (by decide) ?_
        refine lsk (want_f (dj := 24) (by rfl) (by kernel_rfl) rfl) rfl (by decide) ?_
        refine lsk (want_f (dj := 24) (by rfl) (by kernel_rfl) rfl) rfl (by decide) ?_
        refine lsk (want_f (dj := 24) (by rfl) (by kernel_rfl) rfl) rfl (by decide) ?_
        refine lsk (want_f (dj := 24) (by rfl) (by kernel_rfl) rfl) rfl (by decide) ?_
        refine lsk (want_f (dj := 24) (by rfl) (by kernel_rfl) rfl) rfl (by decide) ?_
        refine lsw (want_none (by rfl)) (y_pick false rfl rfl rfl) rfl (by decide) ?_
        refine lg_nil ?_
        refine nx (E' := [(3, _), (30, _)]) (fk rfl (fk rfl fn)) ?_
        refine cg_cf rfl ?_
        refine cg_skip ?_
        refine nx (E' := [(3, _)]) (fk rfl fn) ?_
        refine cg_seq ?_
        refine cg_region ?_
        refine lsw (want_none (by rfl)) (y_move rfl rfl) rfl (by decide) ?_
        refine lsw (want_none (by rfl)) (y_assign rfl rfl) rfl (by decide) ?_
        refine lg_nil ?_
        refine nx (E' := [(2, _)]) (fk rfl fn) ?_
        refine cg_ret ?_
        have u := u.trans (hw6.mono u.size)
        exact eg_ret_tmp rfl rfl ⟨_, rfl, _, rfl, hr.cast (trimL_mid hval (by omega) (fun q => c3 ((noLeaf_half hti (by omega)).2 q))), u⟩
  · refine lsw (want_none (by rfl)) (yb (decide_eq_false c2) (yi_gtr rfl rfl rfl)) rfl (by decide) ?_
    refine lsw (want_none (by rfl)) (y_move rfl rfl) rfl (by decide) ?_
    refine lsk (want_f (dj := 9) (by rfl) (by kernel_rfl) rfl) rfl (by decide) ?_
    refine lsk (want_f (dj := 9) (by rfl) (by kernel_rfl) rfl) rfl (by decide) ?_
    refine lsk (want_f (dj := 9) (by rfl) (by kernel_rfl) rfl) rfl (by decide) ?_
    refine lsk (want_f (dj := 9) (by rfl) (by kernel_rfl) rfl) rfl (by decide) ?_
    refine lsk (want_f (dj := 9) (by rfl) (by kernel_rfl) rfl) rfl (by decide) ?_
    refine lsw (want_none (by rfl)) (y_pick false rfl rfl rfl) rfl (by decide) ?_
    refine lg_nil ?_
    refine nx (E' := [(3, _), (6, _), (7, _), (8, _), (9, _), (15, _)]) (fk rfl (fk rfl (fk rfl (fk rfl (fk rfl (fk rfl fn)))))) ?_
    refine cg_cf rfl ?_
    refine cg_exit ?_
    refine eg_seq_exit ?_
    refine eg_seq_exit ?_
    refine eg_block_exit ?_
    refine nx (E' := [(3, _)]) (fk rfl fn) ?_
    refine cg_seq ?_
    refine cg_seq ?_
    refine cg_region ?_
    refine lsw (want_none (by rfl)) (y_move rfl rfl) rfl (by decide) ?_
    refine lsw (want_none (by rfl)) (y_lenM (el := 30) hr.len (by kernel_rfl) rfl rfl) rfl (by decide) ?_
    by_cases c8 : (ca.length : Int) = 1
    · refine lsw (want_none (by rfl)) (yb (decide_eq_true c8) (yi_eql rfl rfl rfl)) rfl (by decide) ?_
      refine lsw (want_none (by rfl)) (y_move rfl rfl) rfl (by decide) ?_
      refine lsw (want_t (dj := 24) (by rfl) (by kernel_rfl) rfl) (y_move rfl rfl) rfl (by decide) ?_
      obtain ⟨eb9, eo9, el9, eL9, eA9, eB9, eg9, eh9, ec9⟩ := hr.at (0) (by have := hr.len; omega)
      refine lsw (want_t (dj := 24) (by rfl) (by kernel_rfl) rfl) (y_ixR (s := r) (el := 30) (k := 8) (i := 0) (iI := 0) eA9 (by kernel_rfl) (by kernel_rfl) (by omega) (by have := hr.len; omega) rfl rfl rfl) rfl (by decide) ?_
      refine lsw (want_t (dj := 24) (by rfl) (by kernel_rfl) rfl) (y_fld (off := 0) (by kernel_rfl) rfl rfl) rfl (by decide) ?_
      refine lsw (want_t (dj := 24) (by rfl) (by kernel_rfl) rfl) (y_celld (ec9 0 _ rfl) (by kernel_rfl) rfl rfl) rfl (by decide) ?_
      by_cases c10 : eL9.kind = 0
      · refine lsw (want_t (dj := 24) (by rfl) (by kernel_rfl) rfl) (yb (decide_eq_true c10) (yi_eql rfl rfl rfl)) rfl (by decide) ?_
        refine lsw (want_none (by rfl)) (y_pick true rfl rfl rfl) rfl (by decide) ?_
        refine lg_nil ?_
        refine nx (E' := [(3, _), (30, _)]) (fk rfl (fk rfl fn)) ?_
        refine cg_ct rfl ?_
        refine cg_seq ?_
        refine cg_region ?_
        refine lsw (want_none (by rfl)) (y_assign rfl rfl) rfl (by decide) ?_
        refine lg_nil ?_
        refine nx (E' := [(3, _), (2, _)]) (fk rfl (fk rfl fn)) ?_
        refine cg_ret ?_
        refine eg_seq_ret ?_
        exact eg_ret_tmp rfl rfl ⟨_, rfl, nilS, rfl, (RwNd.nil _ _).cast ((((end_one hti).trans (if_pos ⟨by omega, at_kind (p := fun k => k = 0) eg9 c10⟩)).symm).trans (trimL_out hval (by omega))), u⟩
      · refine lsw (want_t (dj := 24) (by rfl) (by kernel_rfl) rfl) (yb (decide_eq_false c10) (yi_eql rfl rfl rfl)) rfl (by decide) ?_
        refine lsw (want_none (by rfl)) (y_pick true rfl rfl rfl) rfl (by decide) ?_
        refine lg_nil ?_
        refine nx (E' := [(3, _), (30, _)]) (fk rfl (fk rfl fn)) ?_
        refine cg_cf rfl ?_
        refine cg_skip ?_
        refine nx (E' := [(3, _)]) (fk rfl fn) ?_
        refine cg_seq ?_
        refine cg_region ?_
        refine lsw (want_none (by rfl)) (y_move rfl rfl) rfl (by decide) ?_
        refine lsw (want_none (by rfl)) (y_assign rfl rfl) rfl (by decide) ?_
        refine lg_nil ?_
        refine nx (E' := [(2, _)]) (fk rfl fn) ?_
        refine cg_ret ?_
        exact eg_ret_tmp rfl rfl ⟨_, rfl, _, rfl, hr.cast ((((end_one hti).trans (if_neg (fun q => at_kind (p := fun k => ¬ k = 0) eg9 c10 q.2))).symm).trans (trimL_out hval (by omega))), u⟩
    · refine lsw (want_none (by rfl)) (yb (decide_eq_false c8) (yi_eql rfl rfl rfl)) rfl (by decide) ?_
      refine lsw (want_none (by rfl)) (y_move rfl rfl) rfl (by decide) ?_
      refine lsk (want_f (dj := 24) (by rfl) (by kernel_rfl) rfl) rfl (by decide) ?_
      refine lsk (want_f (dj := 24) (by rfl) (by kernel_rfl) rfl) rfl (by decide) ?_
      refine lsk (want_f (dj := 24) (by rfl) (by kernel_rfl) rfl) rfl (by decide) ?_
      refine lsk (want_f (dj := 24) (by rfl) (by kernel_rfl) rfl) rfl (by decide) ?_
      refine lsk (want_f (dj := 24) (by rfl) (by kernel_rfl) rfl) rfl (by decide) ?_
      refine lsw (want_none (by rfl)) (y_pick false rfl rfl rfl) rfl (by decide) ?_
      refine lg_nil ?_
      refine nx (E' := [(3, _), (30, _)]) (fk rfl (fk rfl fn)) ?_
      refine cg_cf rfl ?_
      refine cg_skip ?_
      refine nx (E' := [(3, _)]) (fk rfl fn) ?_
      refine cg_seq ?_
      refine cg_region ?_
      refine lsw (want_none (by rfl)) (y_move rfl rfl) rfl (by decide) ?_
      refine lsw (want_none (by rfl)) (y_assign rfl rfl) rfl (by decide) ?_
      refine lg_nil ?_
      refine nx (E' := [(2, _)]) (fk rfl fn) ?_
      refine cg_ret ?_
      exact eg_ret_tmp rfl rfl ⟨_, rfl, _, rfl, hr.cast ((((end_one hti).trans (if_neg (fun q => absurd q.1 (by omega)))).symm).trans (trimL_out hval (by omega))), u⟩
theorem rset_any {W : World} {B : Nat} {s : SlV} {Ls : List Nd} {l : NdV} {L : Nd} (h : RwNd W B s Ls) (x : Int) (hl : IsNd W B l L) (hB : B ≤ W.heap.size) : Calls Tryd.prog 9 #[s.v, nv x, .agg (l.cs L)] W fun e W' => ∃ v, e = .returned v ∧ ∃ s' : SlV, v = .tuple #[s'.v, nv (setE Ls x L)] ∧ RwNd W' W'.heap.size s' (setL Ls x L) ∧ Below W.heap.size W W' := by
  refine calls_cg (n := 37) Tryd.func9 rfl Tryd.ntmps9 (by simp) ?_
  show CG _ _ _ [(0, s.v), (1, nv x), (2, .agg (l.cs L))] _ _
  have u := Below.refl W.heap.size W
  have q0 := trAs_le Ls
  refine cg_seq ?_
  refine cg_region ?_
  refine lg_boxw (want_none (by rfl)) rfl rfl (by kernel_rfl) rfl (by decide) fun b1 w1 n1 => ?_
  have r1 := n1.row
  have k1 := n1.blk
  have z1 := n1.size
  have lt1 : b1 < w1.heap.size := by omega
  refine lsw (want_none (by rfl)) (y_assign rfl rfl) rfl (by decide) ?_
  refine lsw (want_none (by rfl)) (y_assign rfl rfl) rfl (by decide) ?_
  refine lg_nil ?_
  refine nx (E' := [(0, _), (1, _), (5, _), (6, _), (7, _)]) (fk rfl (fk rfl (fk rfl (fk rfl (fk rfl fn))))) ?_
  refine cg_seq ?_
  refine cg_region ?_
  obtain ⟨bs3, hbs3⟩ : ∃ q, q = w1.heap.size := ⟨_, rfl⟩
  refine lg_bs0R (want_none (by rfl)) rfl rfl (by decide) fun v2 w2 g2 l2 => ?_
  rw [← hbs3] at g2
  have z2 := l2.size
  refine lsw (want_none (by rfl)) (y_move rfl rfl) rfl (by decide) ?_
  have h := h.below (n1.below.mono (by omega))
  have h := h.below (l2.mono (by omega))
  refine lg_callw (want_none (by rfl)) (as_any h (by omega)) (by kernel_rfl) rfl rfl rfl (by decide) ?_
  rintro _ w4 ⟨s4, rfl, m4, hw4⟩
  have zw4 := hw4.size
  have tl4 := trAs_le Ls
  have g2 := g2.keep hw4 (by omega)
  refine lg_appR g2 (m4.src.more (B' := bs3) (by omega)) (Nat.le_refl _) (by first | omega | (simp only [List.length_nil]; omega)) (by omega) (want_none (by rfl)) rfl rfl rfl rfl rfl (by decide) fun r5 w5 g5 m5 l5 z5 => ?_
  rw [List.nil_append] at g5
  clear m5
  refine lsw (want_none (by rfl)) (y_assign rfl rfl) rfl (by decide) ?_
  refine lg_nil ?_
  refine nx (E' := [(1, _), (5, _), (6, _), (7, _), (8, _)]) (fk rfl (fk rfl (fk rfl (fk rfl (fk rfl fn))))) ?_
  refine cg_seq ?_
  refine cg_seq ?_
  refine cg_region ?_
  refine lsw (want_none (by rfl)) (y_move rfl rfl) rfl (by decide) ?_
  by_cases c6 : x < 0
  · refine lsw (want_none (by rfl)) (yb (decide_eq_true c6) (yi_lss rfl rfl rfl)) rfl (by decide) ?_
    refine lsw (want_none (by rfl)) (y_move rfl rfl) rfl (by decide) ?_
    refine lsk (want_f (dj := 16) (by rfl) (by kernel_rfl) rfl) rfl (by decide) ?_
    refine lsk (want_f (dj := 16) (by rfl) (by kernel_rfl) rfl) rfl (by decide) ?_
    refine lsk (want_f (dj := 16) (by rfl) (by kernel_rfl) rfl) rfl (by decide) ?_
    refine lsk (want_f (dj := 16) (by rfl) (by kernel_rfl) rfl) rfl (by decide) ?_
    refine lsw (want_none (by rfl)) (y_pick true rfl rfl rfl) rfl (by decide) ?_
    refine lg_nil ?_
    refine nx (E' := [(1, _), (5, _), (6, _), (7, _), (8, _), (21, _)]) (fk rfl (fk rfl (fk rfl (fk rfl (fk rfl (fk rfl fn)))))) ?_
    refine cg_ct rfl ?_
    refine cg_seq ?_
    refine cg_region ?_
    refine lsw (want_none (by rfl)) (y_assign rfl rfl) rfl (by decide) ?_
    refine lsw (want_none (by rfl)) (y_assign rfl rfl) rfl (by decide) ?_
    refine lg_nil ?_
    refine nx (E' := [(1, _), (5, _), (8, _), (6, _), (7, _)]) (fk rfl (fk rfl (fk rfl (fk rfl (fk rfl fn))))) ?_
    refine cg_ret ?_
    refine eg_seq_ret ?_
    have eq : setE Ls x L = 3 := (setE_range (fun q => by have := q.le; omega))
    have u := u.trans (n1.below.mono u.size)
    have u := u.trans (l2.mono u.size)
    have u := u.trans (hw4.mono u.size)
    have u := u.trans (l5.mono (by omega))
    exact eg_ret_tmp2 rfl rfl rfl ⟨_, rfl, nilS, congrArg (fun q => Value.tuple #[nilS.v, nv q]) eq.symm, (RwNd.nil _ _).cast (setL_no (by rw [eq]; exact (by decide))).symm, u⟩
  · refine lsw (want_none (by rfl)) (yb (decide_eq_false c6) (yi_lss rfl rfl rfl)) rfl (by decide) ?_
    refine lsw (want_none (by rfl)) (y_move rfl rfl) rfl (by decide) ?_
    refine lsw (want_t (dj := 16) (by rfl) (by kernel_rfl) rfl) (y_move rfl rfl) rfl (by decide) ?_
    refine lsw (want_t (dj := 16) (by rfl) (by kernel_rfl) rfl) (y_move rfl rfl) rfl (by decide) ?_
    refine lsw (want_t (dj := 16) (by rfl) (by kernel_rfl) rfl) (y_lenM (el := 30) (g5.rowS (by omega)).len (by kernel_rfl) rfl rfl) rfl (by decide) ?_
    by_cases c7 : ((trAs Ls).length : Int) ≤ x
    · refine lsw (want_t (dj := 16) (by rfl) (by kernel_rfl) rfl) (yb (decide_eq_true c7) (yi_geq rfl rfl rfl)) rfl (by decide) ?_
      refine lsw (want_none (by rfl)) (y_pick false rfl rfl rfl) rfl (by decide) ?_
      refine lg_nil ?_
      refine nx (E' := [(1, _), (5, _), (6, _), (7, _), (8, _), (21, _)]) (fk rfl (fk rfl (fk rfl (fk rfl (fk rfl (fk rfl fn)))))) ?_
      refine cg_ct rfl ?_
      refine cg_seq ?_
      refine cg_region ?_
      refine lsw (want_none (by rfl)) (y_assign rfl rfl) rfl (by decide) ?_
      refine lsw (want_none (by rfl)) (y_assign rfl rfl) rfl (by decide) ?_
      refine lg_nil ?_
      refine nx (E' := [(1, _), (5, _), (8, _), (6, _), (7, _)]) (fk rfl (fk rfl (fk rfl (fk rfl (fk rfl fn))))) ?_
      refine cg_ret ?_
      refine eg_seq_ret ?_
      have eq : setE Ls x L = 3 := (setE_range (fun q => by have := q.le; omega))
      have u := u.trans (n1.below.mono u.size)
      have u := u.trans (l2.mono u.size)
      have u := u.trans (hw4.mono u.size)
      have u := u.trans (l5.mono (by omega))
      exact eg_ret_tmp2 rfl rfl rfl ⟨_, rfl, nilS, congrArg (fun q => Value.tuple #[nilS.v, nv q]) eq.symm, (RwNd.nil _ _).cast (setL_no (by rw [eq]; exact (by decide))).symm, u⟩
    · refine lsw (want_t (dj := 16) (by rfl) (by kernel_rfl) rfl) (yb (decide_eq_false c7) (yi_geq rfl rfl rfl)) rfl (by decide) ?_
      refine lsw (want_none (by rfl)) (y_pick false rfl rfl rfl) rfl (by decide) ?_
      refine lg_nil ?_
      refine nx (E' := [(1, _), (5, _), (6, _), (7, _), (8, _), (21, _)]) (fk rfl (fk rfl (fk rfl (fk rfl (fk rfl (fk rfl fn)))))) ?_
      refine cg_cf rfl ?_
      refine cg_skip ?_
      refine nx (E' := [(1, _), (5, _), (6, _), (7, _), (8, _)]) (fk rfl (fk rfl (fk rfl (fk rfl (fk rfl fn))))) ?_
      refine cg_seq ?_
      refine cg_region ?_
      have r1 := RowAt.below l2 r1.lt r1
      have r1 := RowAt.below hw4 r1.lt r1
      have r1 := RowAt.below l5 (by omega) r1
      refine lsw (want_none (by rfl)) (y_loadA r1 (by kernel_rfl) (by kernel_rfl) rfl rfl) rfl (by decide) ?_
      have hl := hl.below (n1.below.mono (by omega))
      have hl := hl.below (l2.mono (by omega))
      have hl := hl.below (hw4.mono (by omega))
      have hl := hl.below (l5.mono (by omega))
      refine lg_callw (want_none (by rfl)) (rcheckN_any (hl.more (B' := w5.heap.size) (by omega)) (Nat.le_refl _)) (by kernel_rfl) rfl rfl rfl (by decide) ?_
      rintro _ w8 ⟨rfl, hw8⟩
      have zw8 := hw8.size
      refine lsw (want_none (by rfl)) (y_assign rfl rfl) rfl (by decide) ?_
      refine lg_nil ?_
      refine nx (E' := [(1, _), (5, _), (6, _), (7, _), (8, _), (9, _)]) (fk rfl (fk rfl (fk rfl (fk rfl (fk rfl (fk rfl fn)))))) ?_
      refine cg_seq ?_
      refine cg_seq ?_
      refine cg_region ?_
      refine lsw (want_none (by rfl)) (y_move rfl rfl) rfl (by decide) ?_
      by_cases c9 : (ndCheck L) = 0
      · refine lsw (want_none (by rfl)) (yb (nd_f c9) (yi_neq rfl rfl rfl)) rfl (by decide) ?_
        refine lg_nil ?_
        refine nx (E' := [(1, _), (5, _), (6, _), (7, _), (8, _), (9, _), (25, _)]) (fk rfl (fk rfl (fk rfl (fk rfl (fk rfl (fk rfl (fk rfl fn))))))) ?_
        refine cg_cf rfl ?_
        refine cg_skip ?_
        refine nx (E' := [(1, _), (5, _), (6, _), (7, _), (8, _)]) (fk rfl (fk rfl (fk rfl (fk rfl (fk rfl fn))))) ?_
        refine cg_seq ?_
        refine cg_seq ?_
        refine cg_region ?_
        refine lsw (want_none (by rfl)) (yv (congrArg nv (show x = ((x.toNat : Nat) : Int) by omega)) (y_move rfl rfl)) rfl (by decide) ?_
        refine lsw (want_none (by rfl)) (y_fld (off := 0) (by kernel_rfl) rfl rfl) rfl (by decide) ?_
        have r1 := RowAt.below hw8 r1.lt r1
        refine lsw (want_none (by rfl)) (y_cellv (v := nv L.kind) r1 rfl (by kernel_rfl) rfl rfl) rfl (by decide) ?_
        by_cases c10 : fitK x.toNat L.kind
        · refine lsw (want_none (by rfl)) (yb (decide_eq_true c10) (y_call (fits_any x.toNat L.kind _) (by kernel_rfl) rfl rfl)) rfl (by decide) ?_
          refine lsw (want_none (by rfl)) (y_bnot rfl rfl) rfl (by decide) ?_
          refine lg_nil ?_
          refine nx (E' := [(1, _), (5, _), (6, _), (7, _), (8, _), (31, _)]) (fk rfl (fk rfl (fk rfl (fk rfl (fk rfl (fk rfl fn)))))) ?_
          refine cg_cf rfl ?_
          refine cg_skip ?_
          refine nx (E' := [(1, _), (5, _), (6, _), (7, _), (8, _)]) (fk rfl (fk rfl (fk rfl (fk rfl (fk rfl fn))))) ?_
          refine cg_seq ?_
          refine cg_region ?_
          refine lsw (want_none (by rfl)) (y_move rfl rfl) rfl (by decide) ?_
          refine lsw (want_none (by rfl)) (yv (congrArg nv (show x = ((x.toNat : Nat) : Int) by omega)) (y_move rfl rfl)) rfl (by decide) ?_
          refine lsw (want_none (by rfl)) (y_loadA r1 (by kernel_rfl) (by kernel_rfl) rfl rfl) rfl (by decide) ?_
          have g5 := g5.keep hw8 (by omega)
          obtain ⟨gb11, gA11, gl11, gu11⟩ := g5.addr (i := x.toNat) (by first | omega | (simp only [List.length_append, List.length_cons, List.length_nil, List.length_take, List.length_drop, List.length_set, List.length_replicate]; omega))
          refine lsw (want_none (by rfl)) (y_ixR (s := r5) (el := 30) (k := 8) (i := x.toNat) (iI := ((x.toNat : Nat) : Int)) gA11 (by kernel_rfl) (by kernel_rfl) (by omega) (by have q1 := (g5.rowS (by omega)).len; first | omega | (simp only [List.length_append, List.length_cons, List.length_nil, List.length_take, List.length_drop, List.length_set, List.length_replicate]; omega)) rfl rfl rfl) rfl (by decide) ?_
          have hl := hl.below (hw8.mono (by omega))
          refine lg_stR (i := x.toNat) g5 (hl.more (by omega)) (Nat.le_refl _) (by first | omega | (simp only [List.length_append, List.length_cons, List.length_nil, List.length_take, List.length_drop, List.length_set, List.length_replicate]; omega)) gA11 (want_none (by rfl)) rfl rfl rfl rfl fun w12 old12 new12 ro12 st12 g12 l12 z12 => ?_
          refine lg_nil ?_
          refine nx (E' := [(6, _), (7, _), (8, _)]) (fk rfl (fk rfl (fk rfl fn))) ?_
          refine cg_seq ?_
          refine cg_region ?_
          refine lsw (want_none (by rfl)) (y_move rfl rfl) rfl (by decide) ?_
          refine lsw (want_none (by rfl)) (y_assign rfl rfl) rfl (by decide) ?_
          refine lsw (want_none (by rfl)) (y_assign rfl rfl) rfl (by decide) ?_
          refine lg_nil ?_
          refine nx (E' := [(6, _), (7, _)]) (fk rfl (fk rfl fn)) ?_
          refine cg_ret ?_
          have ok := setE_ok (isN_of (trAs_is Ls) (by omega) (by omega)) c9 c10
          have u := u.trans (n1.below.mono u.size)
          have u := u.trans (l2.mono u.size)
          have u := u.trans (hw4.mono u.size)
          have u := u.trans (l5.mono (by omega))
          have u := u.trans (hw8.mono u.size)
          have u := u.trans (l12.mono (by omega))
          exact eg_ret_tmp2 rfl rfl rfl ⟨_, rfl, _, congrArg (fun q => Value.tuple #[r5.v, nv q]) ok.symm, (g12.rowS (by omega)).cast (setL_ok ok).symm, u⟩
        · refine lsw (want_none (by rfl)) (yb (decide_eq_false c10) (y_call (fits_any x.toNat L.kind _) (by kernel_rfl) rfl rfl)) rfl (by decide) ?_
          refine lsw (want_none (by rfl)) (y_bnot rfl rfl) rfl (by decide) ?_
          refine lg_nil ?_
          refine nx (E' := [(1, _), (5, _), (6, _), (7, _), (8, _), (31, _)]) (fk rfl (fk rfl (fk rfl (fk rfl (fk rfl (fk rfl fn)))))) ?_
          refine cg_ct rfl ?_
          refine cg_seq ?_
          refine cg_region ?_
          refine lsw (want_none (by rfl)) (y_assign rfl rfl) rfl (by decide) ?_
          refine lsw (want_none (by rfl)) (y_assign rfl rfl) rfl (by decide) ?_
          refine lg_nil ?_
          refine nx (E' := [(1, _), (5, _), (8, _), (6, _), (7, _)]) (fk rfl (fk rfl (fk rfl (fk rfl (fk rfl fn))))) ?_
          refine cg_ret ?_
          refine eg_seq_ret ?_
          have eq : setE Ls x L = 7 := (setE_fit (isN_of (trAs_is Ls) (by omega) (by omega)) c9 c10)
          have u := u.trans (n1.below.mono u.size)
          have u := u.trans (l2.mono u.size)
          have u := u.trans (hw4.mono u.size)
          have u := u.trans (l5.mono (by omega))
          have u := u.trans (hw8.mono u.size)
          exact eg_ret_tmp2 rfl rfl rfl ⟨_, rfl, nilS, congrArg (fun q => Value.tuple #[nilS.v, nv q]) eq.symm, (RwNd.nil _ _).cast (setL_no (by rw [eq]; exact (by decide))).symm, u⟩
      · refine lsw (want_none (by rfl)) (yb (nd_t c9) (yi_neq rfl rfl rfl)) rfl (by decide) ?_
        refine lg_nil ?_
        refine nx (E' := [(1, _), (5, _), (6, _), (7, _), (8, _), (9, _), (25, _)]) (fk rfl (fk rfl (fk rfl (fk rfl (fk rfl (fk rfl (fk rfl fn))))))) ?_
        refine cg_ct rfl ?_
        refine cg_seq ?_
        refine cg_region ?_
        refine lsw (want_none (by rfl)) (y_move rfl rfl) rfl (by decide) ?_
        refine lsw (want_none (by rfl)) (y_assign rfl rfl) rfl (by decide) ?_
        refine lsw (want_none (by rfl)) (y_assign rfl rfl) rfl (by decide) ?_
        refine lg_nil ?_
        refine nx (E' := [(1, _), (5, _), (8, _), (6, _), (7, _)]) (fk rfl (fk rfl (fk rfl (fk rfl (fk rfl fn))))) ?_
        refine cg_ret ?_
        refine eg_seq_ret ?_
        have eq : setE Ls x L = (ndCheck L) := (setE_check (isN_of (trAs_is Ls) (by omega) (by omega)) c9)
        have u := u.trans (n1.below.mono u.size)
        have u := u.trans (l2.mono u.size)
        have u := u.trans (hw4.mono u.size)
        have u := u.trans (l5.mono (by omega))
        have u := u.trans (hw8.mono u.size)
        exact eg_ret_tmp2 rfl rfl rfl ⟨_, rfl, nilS, congrArg (fun q => Value.tuple #[nilS.v, nv q]) eq.symm, (RwNd.nil _ _).cast (setL_no (by rw [eq]; exact c9)).symm, u⟩
theorem rgrow_any {W : World} {B : Nat} {s : SlV} {Ls : List Nd} (h : RwNd W B s Ls) (hB : B ≤ W.heap.size) : Calls Tryd.prog 13 #[s.v] W fun e W' => ∃ v, e = .returned v ∧ ∃ s' : SlV, v = .tuple #[s'.v, nv (growE Ls)] ∧ RwNd W' W'.heap.size s' (growL Ls) ∧ Below W.heap.size W W' := by
  refine calls_cg (n := 27) Tryd.func13 rfl Tryd.ntmps13 (by simp) ?_
  show CG _ _ _ [(0, s.v)] _ _
  have u := Below.refl W.heap.size W
  have q0 := trAs_le Ls
  refine cg_seq ?_
  refine cg_region ?_
  refine lsw (want_none (by rfl)) (y_assign rfl rfl) rfl (by decide) ?_
  refine lsw (want_none (by rfl)) (y_assign rfl rfl) rfl (by decide) ?_
  refine lg_nil ?_
  refine nx (E' := [(0, _), (2, _), (3, _)]) (fk rfl (fk rfl (fk rfl fn))) ?_
  refine cg_seq ?_
  refine cg_region ?_
  refine lsw (want_none (by rfl)) (y_move rfl rfl) rfl (by decide) ?_
  refine lg_callw (want_none (by rfl)) (as_any h (by omega)) (by kernel_rfl) rfl rfl rfl (by decide) ?_
  rintro _ w1 ⟨s1, rfl, m1, hw1⟩
  have zw1 := hw1.size
  have tl1 := trAs_le Ls
  refine lsw (want_none (by rfl)) (y_assign rfl rfl) rfl (by decide) ?_
  refine lg_nil ?_
  refine nx (E' := [(2, _), (3, _), (4, _)]) (fk rfl (fk rfl (fk rfl fn))) ?_
  refine cg_seq ?_
  refine cg_seq ?_
  refine cg_region ?_
  refine lsw (want_none (by rfl)) (y_move rfl rfl) rfl (by decide) ?_
  refine lg_callw (want_none (by rfl)) ((by have z := rleavesT_any (m1.more (B' := w1.heap.size) (by omega)) (Nat.le_refl _); rwa [trAs_as] at z)) (by kernel_rfl) rfl rfl rfl (by decide) ?_
  rintro _ w2 ⟨rfl, hw2⟩
  have zw2 := hw2.size
  by_cases c3 : ((leavesA (trAs Ls) : Nat) : Int) = 64
  · refine lsw (want_none (by rfl)) (yb (decide_eq_true c3) (yi_eql rfl rfl rfl)) rfl (by decide) ?_
    refine lg_nil ?_
    refine nx (E' := [(2, _), (3, _), (4, _), (11, _)]) (fk rfl (fk rfl (fk rfl (fk rfl fn)))) ?_
    refine cg_ct rfl ?_
    refine cg_seq ?_
    refine cg_region ?_
    refine lsw (want_none (by rfl)) (y_assign rfl rfl) rfl (by decide) ?_
    refine lsw (want_none (by rfl)) (y_assign rfl rfl) rfl (by decide) ?_
    refine lg_nil ?_
    refine nx (E' := [(4, _), (2, _), (3, _)]) (fk rfl (fk rfl (fk rfl fn))) ?_
    refine cg_ret ?_
    refine eg_seq_ret ?_
    have u := u.trans (hw1.mono u.size)
    have u := u.trans (hw2.mono u.size)
    exact eg_ret_tmp2 rfl rfl rfl ⟨_, rfl, nilS, congrArg (fun q => Value.tuple #[nilS.v, nv q]) (growE_64 c3).symm, (RwNd.nil _ _).cast (growL_no (by rw [growE_64 c3]; decide)).symm, u⟩
  · have hc64 := c3
    refine lsw (want_none (by rfl)) (yb (decide_eq_false c3) (yi_eql rfl rfl rfl)) rfl (by decide) ?_
    refine lg_nil ?_
    refine nx (E' := [(2, _), (3, _), (4, _), (11, _)]) (fk rfl (fk rfl (fk rfl (fk rfl fn)))) ?_
    refine cg_cf rfl ?_
    refine cg_skip ?_
    refine nx (E' := [(2, _), (3, _), (4, _)]) (fk rfl (fk rfl (fk rfl fn))) ?_
    refine cg_seq ?_
    refine cg_region ?_
    obtain ⟨bs5, hbs5⟩ : ∃ q, q = w2.heap.size := ⟨_, rfl⟩
    refine lg_bs0R (want_none (by rfl)) rfl rfl (by decide) fun v4 w4 g4 l4 => ?_
    rw [← hbs5] at g4
    have z4 := l4.size
    refine lsw (want_none (by rfl)) (y_move rfl rfl) rfl (by decide) ?_
    have m1 := m1.below (hw2.mono (by omega))
    have m1 := m1.below (l4.mono (by omega))
    refine lg_appR g4 (m1.src.more (B' := bs5) (by omega)) (Nat.le_refl _) (by first | omega | (simp only [List.length_nil]; omega)) (by omega) (want_none (by rfl)) rfl rfl rfl rfl rfl (by decide) fun r6 w6 g6 m6 l6 z6 => ?_
    rw [List.nil_append] at g6
    clear m6
    refine lsw (want_none (by rfl)) (y_assign rfl rfl) rfl (by decide) ?_
    refine lg_nil ?_
    refine nx (E' := [(2, _), (3, _), (4, _), (5, _)]) (fk rfl (fk rfl (fk rfl (fk rfl fn)))) ?_
    refine cg_seq ?_
    refine cg_seq ?_
    refine cg_region ?_
    refine lsw (want_none (by rfl)) (y_assign rfl rfl) rfl (by decide) ?_
    refine lg_nil ?_
    refine nx (E' := [(2, _), (3, _), (4, _), (5, _), (6, _)]) (fk rfl (fk rfl (fk rfl (fk rfl (fk rfl fn))))) ?_
    refine cg_block ?_
    have m1 := m1.below (l6.mono (by omega))
    have u := u.trans (hw1.mono u.size)
    have u := u.trans (hw2.mono u.size)
    have u := u.trans (l4.mono u.size)
    have u := u.trans (l6.mono (by omega))
    refine cg_loopE (fun t a v => ∃ (r : SlV) (q : SlV), Holds 27 [(4, r.v), (5, q.v), (6, nv ((t : Nat) : Int))] a ∧ RwNd v B r (trAs Ls) ∧ OwnNd v bs5 bs5 q.v (trAs Ls ++ List.replicate t Nd.zero) ∧ bs5 ≤ v.heap.size ∧ t ≤ (trAs Ls).length + 1 ∧ Below W.heap.size W v) ((trAs Ls).length + 2) (fun a ha => ⟨s1, r6, ha.keep (fk rfl (fk rfl (fk rfl fn))), m1, (g6.cast (by simp)), (by omega), (Nat.zero_le _), u⟩) ?_
    rintro t a v ht ⟨r, q, ha, hr, ho, hs, tle, u⟩
    refine cg_at ha ?_
    clear ha a
    have zv := u.size
    have q1 := hr.len
    have q2 := hr.cap
    have q3 := trAs_le Ls
    refine cg_seq ?_
    refine cg_seq ?_
    refine cg_region ?_
    refine lsw (want_none (by rfl)) (y_move rfl rfl) rfl (by decide) ?_
    refine lsw (want_none (by rfl)) (y_move rfl rfl) rfl (by decide) ?_
    refine lsw (want_none (by rfl)) (y_lenM (el := 30) hr.len (by kernel_rfl) rfl rfl) rfl (by decide) ?_
    refine lsw (want_none (by rfl)) (yi_add rfl rfl rfl (by omega) (by omega)) rfl (by decide) ?_
    by_cases c7 : ((t : Nat) : Int) < (((trAs Ls).length : Int) + 1)
    · refine lsw (want_none (by rfl)) (yb (decide_eq_true c7) (yi_lss rfl rfl rfl)) rfl (by decide) ?_
      refine lg_nil ?_
      refine nx (E' := [(4, _), (5, _), (6, _), (15, _), (16, _), (17, _), (18, _), (19, _)]) (fk rfl (fk rfl (fk rfl (fk rfl (fk rfl (fk rfl (fk rfl (fk rfl fn)))))))) ?_
      refine cg_ct rfl ?_
      refine cg_skip ?_
      refine nx (E' := [(4, _), (5, _), (6, _), (15, _), (16, _), (17, _), (18, _), (19, _)]) (fk rfl (fk rfl (fk rfl (fk rfl (fk rfl (fk rfl (fk rfl (fk rfl fn)))))))) ?_
      refine cg_seq ?_
      refine cg_block ?_
      refine cg_region ?_
      refine lsw (want_none (by rfl)) (y_move rfl rfl) rfl (by decide) ?_
      refine lsw (want_none (by rfl)) (y_build (cs := NdV.zero.cs Nd.zero) rfl rfl (by kernel_rfl)) rfl (by decide) ?_
      refine lg_bs1R (l := NdV.zero) (L := Nd.zero) (want_none (by rfl)) rfl rfl rfl (by decide) fun b8 w8 n8 => ?_
      have m8 := new_row n8 ((IsNd.zero _ 0).more (B' := v.heap.size) (by omega)) (Nat.le_refl _)
      have k8 := n8.blk
      have z8 := n8.size
      have sc8 := new_src n8 (IsNd.zero _ bs5) (by omega)
      have ho := ho.keep n8.below (by omega)
      refine lg_appR ho sc8 (Nat.le_refl _) (by first | omega | (simp only [List.length_append, List.length_cons, List.length_nil, List.length_replicate]; omega)) (by omega) (want_none (by rfl)) rfl rfl rfl rfl rfl (by decide) fun r9 w9 g9 m9 l9 z9 => ?_
      clear m9
      refine lsw (want_none (by rfl)) (y_assign rfl rfl) rfl (by decide) ?_
      refine lg_nil ?_
      refine eg_block_norm ?_
      refine nx (E' := [(4, _), (6, _), (15, _), (16, _), (17, _), (18, _), (19, _), (22, _), (23, _), (24, _), (25, _), (5, _)]) (fk rfl (fk rfl (fk rfl (fk rfl (fk rfl (fk rfl (fk rfl (fk rfl (fk rfl (fk rfl (fk rfl (fk rfl fn)))))))))))) ?_
      refine cg_region ?_
      refine lsw (want_none (by rfl)) (y_move rfl rfl) rfl (by decide) ?_
      refine lsw (want_none (by rfl)) (yv (congrArg nv (show ((t : Nat) : Int) + 1 = ((t + 1 : Nat) : Int) by omega)) (yi_add rfl rfl rfl (by omega) (by omega))) rfl (by decide) ?_
      refine lsw (want_none (by rfl)) (y_assign rfl rfl) rfl (by decide) ?_
      refine lg_nil ?_
      have hr := hr.below (n8.below.mono (by omega))
      have hr := hr.below (l9.mono (by omega))
      have hs := (show bs5 ≤ w8.heap.size by omega)
      have hs := (show bs5 ≤ w9.heap.size by omega)
      have u := u.trans (n8.below.mono u.size)
      have u := u.trans (l9.mono (by omega))
      exact fun a ha => (show t < ((trAs Ls).length + 2) ∧ _ from ⟨(by omega), r, r9, ha.keep (fk rfl (fk rfl (fk rfl fn))), hr, (g9.cast (by rw [List.append_assoc, List.replicate_succ'])), hs, (by omega), u⟩)
    · refine lsw (want_none (by rfl)) (yb (decide_eq_false c7) (yi_lss rfl rfl rfl)) rfl (by decide) ?_
      refine lg_nil ?_
      refine nx (E' := [(4, _), (5, _), (6, _), (15, _), (16, _), (17, _), (18, _), (19, _)]) (fk rfl (fk rfl (fk rfl (fk rfl (fk rfl (fk rfl (fk rfl (fk rfl fn)))))))) ?_
      refine cg_cf rfl ?_
      refine cg_exit ?_
      refine eg_seq_exit ?_
      refine eg_seq_exit ?_
      refine eg_block_exit ?_
      refine nx (E' := [(5, _)]) (fk rfl fn) ?_
      refine cg_seq ?_
      refine cg_region ?_
      refine lsw (want_none (by rfl)) (y_move rfl rfl) rfl (by decide) ?_
      refine lsw (want_none (by rfl)) (y_assign rfl rfl) rfl (by decide) ?_
      refine lsw (want_none (by rfl)) (y_assign rfl rfl) rfl (by decide) ?_
      refine lg_nil ?_
      refine nx (E' := [(2, _), (3, _)]) (fk rfl (fk rfl fn)) ?_
      refine cg_ret ?_
      obtain rfl : t = (trAs Ls).length + 1 := by omega
      exact eg_ret_tmp2 rfl rfl rfl ⟨_, rfl, _, congrArg (fun er => Value.tuple #[q.v, nv er]) (growE_0 hc64).symm, (ho.rowS (by omega)).cast (growL_ok (growE_0 hc64)).symm, u⟩
end Go.Proofs.YtpoonjgkgaodmaaDoor
