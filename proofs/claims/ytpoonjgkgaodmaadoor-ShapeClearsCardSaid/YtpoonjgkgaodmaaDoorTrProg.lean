/-
  Trees: what the functions of package shape answer.
-/
import Derived.Test.YtpoonjgkgaodmaaDoorTrCat
import Derived.Test.YtpoonjgkgaodmaaDoorTrMath
import Derived.Test.YtpoonjgkgaodmaaDoorIxLite
import Derived.Test.YtpoonjgkgaodmaaDoorNdProg
namespace Go.Proofs.YtpoonjgkgaodmaaDoor
open Go.ChangeShapes Go.WideShapes Go.ChangeAt Go.RowKit
set_option linter.unusedVariables false

theorem trIs_bad {a : List Nd} {i : Nat} {L : Nd} (h : a[i]? = some L) (n : ¬ okAt i L) : ¬ trIs a := fun q => n (by
  have h1 := q.2 i (List.getElem?_eq_some_iff.1 h).1
  rwa [atN_some h] at h1)
theorem ok_step {a : List Nd} {t : Nat} {L : Nd} {p : Nat → Nd → Prop} (hk : ∀ i, i < t → p i (atN a i)) (h : a[t]? = some L) (h2 : p t L) : ∀ i, i < t + 1 → p i (atN a i) := fun i hi => by
  by_cases e : i = t
  · rw [e, atN_some h]
    exact h2
  · exact hk i (by omega)
theorem at_kind {a : List Nd} {t : Nat} {L : Nd} {p : Int → Prop} (h : a[t]? = some L) (h2 : p L.kind) : p (atN a t).kind := by rwa [atN_some h]
theorem noLeaf_bad {a : List Nd} {i : Nat} {L : Nd} (h : a[i]? = some L) (n : L.kind = 1) : ¬ noLeaf a := fun q => q i (List.getElem?_eq_some_iff.1 h).1 (by rw [atN_some h]; exact n)
theorem mayStand_any {W : World} {B : Nat} {l : NdV} {L : Nd} (x : Nat) (hl : IsNd W B l L) (hB : B ≤ W.heap.size) : Calls Tryd.prog 30 #[nv (x : Int), .agg (l.cs L)] W fun e W' => ∃ v, e = .returned v ∧ v = .bool (decide (fitK x L.kind)) ∧ Below W.heap.size W W' := by
  refine calls_cg (n := 17) Tryd.func30 rfl Tryd.ntmps30 (by simp) ?_
  show CG _ _ _ [(0, nv (x : Int)), (1, .agg (l.cs L))] _ _
  have u := Below.refl W.heap.size W
  have hB := hB
  refine cg_seq ?_
  refine cg_region ?_
  refine lg_boxw (want_none (by rfl)) rfl rfl (by kernel_rfl) rfl (by decide) fun b1 w1 n1 => ?_
  have r1 := n1.row
  have k1 := n1.blk
  have z1 := n1.size
  have lt1 : b1 < w1.heap.size := by omega
  refine lsw (want_none (by rfl)) (y_assign rfl rfl) rfl (by decide) ?_
  refine lg_nil ?_
  refine nx (E' := [(0, _), (3, _), (4, _)]) (fk rfl (fk rfl (fk rfl fn))) ?_
  refine cg_seq ?_
  refine cg_seq ?_
  refine cg_region ?_
  refine lsw (want_none (by rfl)) (y_fld (off := 0) (by kernel_rfl) rfl rfl) rfl (by decide) ?_
  refine lsw (want_none (by rfl)) (y_cellv (v := nv L.kind) r1 rfl (by kernel_rfl) rfl rfl) rfl (by decide) ?_
  refine lg_nil ?_
  refine nx (E' := [(0, _), (4, _), (6, _)]) (fk rfl (fk rfl (fk rfl fn))) ?_
  refine cg_block ?_
  refine cg_seq ?_
  refine cg_region ?_
  by_cases c2 : L.kind = 1
  · refine lsw (want_none (by rfl)) (yb (decide_eq_true c2) (yi_eql rfl rfl rfl)) rfl (by decide) ?_
    refine lsw (want_none (by rfl)) (y_assign rfl rfl) rfl (by decide) ?_
    refine lg_nil ?_
    refine nx (E' := [(0, _), (4, _), (6, _), (7, _)]) (fk rfl (fk rfl (fk rfl (fk rfl fn)))) ?_
    refine cg_ct rfl ?_
    refine cg_seq ?_
    refine cg_region ?_
    refine lsw (want_none (by rfl)) (y_move rfl rfl) rfl (by decide) ?_
    refine lsw (want_none (by rfl)) (yi_rem rfl rfl rfl (by omega) (by omega)) rfl (by decide) ?_
    by_cases c3 : (((x : Nat) : Int) % 2) = 0
    · refine lsw (want_none (by rfl)) (yb (decide_eq_true c3) (yi_eql rfl rfl rfl)) rfl (by decide) ?_
      refine lsw (want_none (by rfl)) (y_assign rfl rfl) rfl (by decide) ?_
      refine lg_nil ?_
      refine nx (E' := [(4, _)]) (fk rfl fn) ?_
      refine cg_ret ?_
      refine eg_block_ret ?_
      refine eg_seq_ret ?_
      have u := u.trans (n1.below.mono u.size)
      exact eg_ret_tmp rfl rfl ⟨_, rfl, congrArg Value.bool (decide_eq_true (by unfold fitK; omega)).symm, u⟩
    · refine lsw (want_none (by rfl)) (yb (decide_eq_false c3) (yi_eql rfl rfl rfl)) rfl (by decide) ?_
      refine lsw (want_none (by rfl)) (y_assign rfl rfl) rfl (by decide) ?_
      refine lg_nil ?_
      refine nx (E' := [(4, _)]) (fk rfl fn) ?_
      refine cg_ret ?_
      refine eg_block_ret ?_
      refine eg_seq_ret ?_
      have u := u.trans (n1.below.mono u.size)
      exact eg_ret_tmp rfl rfl ⟨_, rfl, congrArg Value.bool (decide_eq_false (by unfold fitK; omega)).symm, u⟩
  · refine lsw (want_none (by rfl)) (yb (decide_eq_false c2) (yi_eql rfl rfl rfl)) rfl (by decide) ?_
    refine lsw (want_none (by rfl)) (y_assign rfl rfl) rfl (by decide) ?_
    refine lg_nil ?_
    refine nx (E' := [(0, _), (4, _), (6, _), (7, _)]) (fk rfl (fk rfl (fk rfl (fk rfl fn)))) ?_
    refine cg_cf rfl ?_
    refine cg_seq ?_
    refine cg_region ?_
    by_cases c4 : L.kind = 2
    · refine lsw (want_none (by rfl)) (yb (decide_eq_true c4) (yi_eql rfl rfl rfl)) rfl (by decide) ?_
      refine lsw (want_none (by rfl)) (y_assign rfl rfl) rfl (by decide) ?_
      refine lg_nil ?_
      refine nx (E' := [(0, _), (4, _), (12, _)]) (fk rfl (fk rfl (fk rfl fn))) ?_
      refine cg_ct rfl ?_
      refine cg_seq ?_
      refine cg_region ?_
      refine lsw (want_none (by rfl)) (y_move rfl rfl) rfl (by decide) ?_
      refine lsw (want_none (by rfl)) (yi_rem rfl rfl rfl (by omega) (by omega)) rfl (by decide) ?_
      by_cases c5 : (((x : Nat) : Int) % 2) = 0
      · refine lsw (want_none (by rfl)) (yb (nd_f c5) (yi_neq rfl rfl rfl)) rfl (by decide) ?_
        refine lsw (want_none (by rfl)) (y_assign rfl rfl) rfl (by decide) ?_
        refine lg_nil ?_
        refine nx (E' := [(4, _)]) (fk rfl fn) ?_
        refine cg_ret ?_
        refine eg_block_ret ?_
        refine eg_seq_ret ?_
        have u := u.trans (n1.below.mono u.size)
        exact eg_ret_tmp rfl rfl ⟨_, rfl, congrArg Value.bool (decide_eq_false (by unfold fitK; omega)).symm, u⟩
      · refine lsw (want_none (by rfl)) (yb (nd_t c5) (yi_neq rfl rfl rfl)) rfl (by decide) ?_
        refine lsw (want_none (by rfl)) (y_assign rfl rfl) rfl (by decide) ?_
        refine lg_nil ?_
        refine nx (E' := [(4, _)]) (fk rfl fn) ?_
        refine cg_ret ?_
        refine eg_block_ret ?_
        refine eg_seq_ret ?_
        have u := u.trans (n1.below.mono u.size)
        exact eg_ret_tmp rfl rfl ⟨_, rfl, congrArg Value.bool (decide_eq_true (by unfold fitK; omega)).symm, u⟩
    · refine lsw (want_none (by rfl)) (yb (decide_eq_false c4) (yi_eql rfl rfl rfl)) rfl (by decide) ?_
      refine lsw (want_none (by rfl)) (y_assign rfl rfl) rfl (by decide) ?_
      refine lg_nil ?_
      refine nx (E' := [(0, _), (4, _), (12, _)]) (fk rfl (fk rfl (fk rfl fn))) ?_
      refine cg_cf rfl ?_
      refine cg_skip ?_
      refine eg_block_norm ?_
      refine nx (E' := [(4, _)]) (fk rfl fn) ?_
      refine cg_seq ?_
      refine cg_region ?_
      refine lsw (want_none (by rfl)) (y_assign rfl rfl) rfl (by decide) ?_
      refine lg_nil ?_
      refine nx (E' := [(4, _)]) (fk rfl fn) ?_
      refine cg_ret ?_
      have u := u.trans (n1.below.mono u.size)
      exact eg_ret_tmp rfl rfl ⟨_, rfl, congrArg Value.bool (decide_eq_true (by unfold fitK; omega)).symm, u⟩
theorem sane_any {W : World} {B : Nat} {s : SlV} {Ls : List Nd} (h : RwNd W B s Ls) (hB : B ≤ W.heap.size) : Calls Tryd.prog 17 #[s.v] W fun e W' => ∃ v, e = .returned v ∧ v = .bool (decide (trIs Ls)) ∧ Below W.heap.size W W' := by
  refine calls_cg (n := 31) Tryd.func17 rfl Tryd.ntmps17 (by simp) ?_
  show CG _ _ _ [(0, s.v)] _ _
  have u := Below.refl W.heap.size W
  have h := h.more hB
  have q1 := h.len
  have q2 := h.cap
  refine cg_seq ?_
  refine cg_region ?_
  refine lsw (want_none (by rfl)) (y_assign rfl rfl) rfl (by decide) ?_
  refine lg_nil ?_
  refine nx (E' := [(0, _), (2, _)]) (fk rfl (fk rfl fn)) ?_
  refine cg_seq ?_
  refine cg_seq ?_
  refine cg_region ?_
  refine lsw (want_none (by rfl)) (y_move rfl rfl) rfl (by decide) ?_
  refine lsw (want_none (by rfl)) (y_lenM (el := 30) h.len (by kernel_rfl) rfl rfl) rfl (by decide) ?_
  by_cases c1 : 0 < (Ls.length : Int)
  · refine lsw (want_none (by rfl)) (yb (decide_eq_true c1) (yi_gtr rfl rfl rfl)) rfl (by decide) ?_
    refine lsw (want_none (by rfl)) (y_move rfl rfl) rfl (by decide) ?_
    refine lsw (want_t (dj := 8) (by rfl) (by kernel_rfl) rfl) (y_move rfl rfl) rfl (by decide) ?_
    refine lsw (want_t (dj := 8) (by rfl) (by kernel_rfl) rfl) (y_lenM (el := 30) h.len (by kernel_rfl) rfl rfl) rfl (by decide) ?_
    by_cases c2 : isW (Ls.length : Int)
    · refine lsw (want_t (dj := 8) (by rfl) (by kernel_rfl) rfl) (yb (decide_eq_true c2) (y_call (wholeL (Ls.length : Int) _) (by kernel_rfl) rfl rfl)) rfl (by decide) ?_
      refine lsw (want_t (dj := 8) (by rfl) (by kernel_rfl) rfl) (y_bnot rfl rfl) rfl (by decide) ?_
      refine lsw (want_none (by rfl)) (y_pick true rfl rfl rfl) rfl (by decide) ?_
      refine lg_nil ?_
      refine nx (E' := [(0, _), (2, _), (13, _)]) (fk rfl (fk rfl (fk rfl fn))) ?_
      refine cg_cf rfl ?_
      refine cg_skip ?_
      refine nx (E' := [(0, _), (2, _)]) (fk rfl (fk rfl fn)) ?_
      refine cg_seq ?_
      refine cg_seq ?_
      refine cg_region ?_
      refine lsw (want_none (by rfl)) (y_move rfl rfl) rfl (by decide) ?_
      refine lsw (want_none (by rfl)) (y_lenM (el := 30) h.len (by kernel_rfl) rfl rfl) rfl (by decide) ?_
      refine lsw (want_none (by rfl)) (y_move rfl rfl) rfl (by decide) ?_
      refine lg_nil ?_
      refine nx (E' := [(2, _), (14, _), (15, _), (16, _)]) (fk rfl (fk rfl (fk rfl (fk rfl fn)))) ?_
      refine cg_block ?_
      refine cg_loopE (fun t a v => Holds 31 [(14, s.v), (15, nv (Ls.length : Int)), (16, nv ((t : Nat) : Int))] a ∧ RwNd v W.heap.size s Ls ∧ Below W.heap.size W v ∧ ∀ i, i < t → okAt i (atN Ls i)) (Ls.length + 1) (fun a ha => ⟨ha.keep (fk rfl (fk rfl (fk rfl fn))), h, u, (fun i hi => absurd hi (by omega))⟩) ?_
      rintro t a v ht ⟨ha, h, u, hk⟩
      refine cg_at ha ?_
      clear ha a
      have zv := u.size
      have q1 := h.len
      have q2 := h.cap
      refine cg_seq ?_
      refine cg_region ?_
      by_cases c3 : ((t : Nat) : Int) < (Ls.length : Int)
      · refine lsw (want_none (by rfl)) (yb (decide_eq_true c3) (yi_lss rfl rfl rfl)) rfl (by decide) ?_
        refine lg_nil ?_
        refine nx (E' := [(14, _), (15, _), (16, _), (17, _)]) (fk rfl (fk rfl (fk rfl (fk rfl fn)))) ?_
        refine cg_seq ?_
        refine cg_ct rfl ?_
        refine cg_skip ?_
        refine nx (E' := [(14, _), (15, _), (16, _), (17, _)]) (fk rfl (fk rfl (fk rfl (fk rfl fn)))) ?_
        refine cg_seq ?_
        refine cg_block ?_
        refine cg_seq ?_
        refine cg_region ?_
        refine lsw (want_none (by rfl)) (y_move rfl rfl) rfl (by decide) ?_
        obtain ⟨eb4, eo4, el4, eL4, eA4, eB4, eg4, eh4, ec4⟩ := h.at (t) (by have := h.len; omega)
        refine lsw (want_none (by rfl)) (y_ixR (s := s) (el := 30) (k := 8) (i := t) (iI := ((t : Nat) : Int)) eA4 (by kernel_rfl) (by kernel_rfl) (by omega) (by have := h.len; omega) rfl rfl rfl) rfl (by decide) ?_
        refine lsw (want_none (by rfl)) (y_loadC (cs := el4.cs eL4) ec4 (by kernel_rfl) (by kernel_rfl) rfl rfl) rfl (by decide) ?_
        refine lg_allocw (cs := NdV.zero.cs Nd.zero) (want_none (by rfl)) rfl (by kernel_rfl) rfl (by decide) fun b5 w5 n5 => ?_
        have r5 := n5.row
        have k5 := n5.blk
        have z5 := n5.size
        have lt5 : b5 < w5.heap.size := by omega
        refine lsw (want_none (by rfl)) (y_assign rfl rfl) rfl (by decide) ?_
        have o6 := r5
        refine lg_stw (want_none (by rfl)) r5 rfl rfl rfl (by kernel_rfl) (by kernel_rfl) rfl rfl fun w6 s6 => ?_
        have r5 := s6.row
        have z6 := s6.size
        refine lg_nil ?_
        refine nx (E' := [(14, _), (15, _), (16, _), (17, _), (18, _), (19, _), (20, _), (4, _), (3, _)]) (fk rfl (fk rfl (fk rfl (fk rfl (fk rfl (fk rfl (fk rfl (fk rfl (fk rfl fn))))))))) ?_
        refine cg_seq ?_
        refine cg_region ?_
        refine lsw (want_none (by rfl)) (y_loadA r5 (by kernel_rfl) (by kernel_rfl) rfl rfl) rfl (by decide) ?_
        have eh4 := eh4.below (n5.below.mono (by omega))
        have eh4 := eh4.below (s6.below _ (by omega))
        refine lg_callw (want_none (by rfl)) (checkN_any (eh4.more (B' := w6.heap.size) (by omega)) (Nat.le_refl _)) (by kernel_rfl) rfl rfl rfl (by decide) ?_
        rintro _ w7 ⟨rfl, hw7⟩
        have zw7 := hw7.size
        by_cases c8 : (ndCheck eL4) = 0
        · refine lsw (want_none (by rfl)) (yb (nd_f c8) (yi_neq rfl rfl rfl)) rfl (by decide) ?_
          refine lsw (want_none (by rfl)) (y_move rfl rfl) rfl (by decide) ?_
          refine lsw (want_t (dj := 24) (by rfl) (by kernel_rfl) rfl) (y_move rfl rfl) rfl (by decide) ?_
          have r5 := RowAt.below hw7 r5.lt r5
          refine lsw (want_t (dj := 24) (by rfl) (by kernel_rfl) rfl) (y_loadA r5 (by kernel_rfl) (by kernel_rfl) rfl rfl) rfl (by decide) ?_
          have eh4 := eh4.below (hw7.mono (by omega))
          by_cases c9 : fitK t eL4.kind
          · refine lg_callw (want_t (dj := 24) (by rfl) (by kernel_rfl) rfl) (mayStand_any t (eh4.more (B' := w7.heap.size) (by omega)) (Nat.le_refl _)) (by kernel_rfl) rfl rfl rfl (by decide) ?_
            rintro u10 w10 ⟨e10, hw10⟩
            have zw10 := hw10.size
            obtain rfl : u10 = .bool true := e10.trans (congrArg Value.bool (decide_eq_true c9))
            refine lsw (want_t (dj := 24) (by rfl) (by kernel_rfl) rfl) (y_bnot rfl rfl) rfl (by decide) ?_
            refine lsw (want_none (by rfl)) (y_pick false rfl rfl rfl) rfl (by decide) ?_
            refine lg_nil ?_
            refine nx (E' := [(14, _), (15, _), (16, _), (17, _), (18, _), (19, _), (20, _), (4, _), (3, _), (21, _), (22, _), (23, _), (24, _), (25, _), (26, _), (27, _), (28, _), (29, _)]) (fk rfl (fk rfl (fk rfl (fk rfl (fk rfl (fk rfl (fk rfl (fk rfl (fk rfl (fk rfl (fk rfl (fk rfl (fk rfl (fk rfl (fk rfl (fk rfl (fk rfl (fk rfl fn)))))))))))))))))) ?_
            refine cg_cf rfl ?_
            refine cg_skip ?_
            refine eg_block_norm ?_
            refine nx (E' := [(14, _), (15, _), (16, _), (17, _), (18, _), (19, _), (20, _), (4, _), (3, _), (21, _), (22, _), (23, _), (24, _), (25, _), (26, _), (27, _), (28, _), (29, _)]) (fk rfl (fk rfl (fk rfl (fk rfl (fk rfl (fk rfl (fk rfl (fk rfl (fk rfl (fk rfl (fk rfl (fk rfl (fk rfl (fk rfl (fk rfl (fk rfl (fk rfl (fk rfl fn)))))))))))))))))) ?_
            refine cg_region ?_
            refine lsw (want_none (by rfl)) (yv (congrArg nv (show ((t : Nat) : Int) + 1 = ((t + 1 : Nat) : Int) by omega)) (yi_add rfl rfl rfl (by omega) (by omega))) rfl (by decide) ?_
            refine lsw (want_none (by rfl)) (y_move rfl rfl) rfl (by decide) ?_
            refine lg_nil ?_
            have h := h.below (n5.below.mono (by omega))
            have h := h.below (s6.below _ (by omega))
            have h := h.below (hw7.mono (by omega))
            have h := h.below (hw10.mono (by omega))
            have u := u.trans (n5.below.mono u.size)
            have u := u.trans (s6.below _ (by omega))
            have u := u.trans (hw7.mono u.size)
            have u := u.trans (hw10.mono u.size)
            exact fun a ha => (show t < (Ls.length + 1) ∧ _ from ⟨(by omega), ha.keep (fk rfl (fk rfl (fk rfl fn))), h, u, (ok_step hk eg4 ⟨c8, c9⟩)⟩)
          · refine lg_callw (want_t (dj := 24) (by rfl) (by kernel_rfl) rfl) (mayStand_any t (eh4.more (B' := w7.heap.size) (by omega)) (Nat.le_refl _)) (by kernel_rfl) rfl rfl rfl (by decide) ?_
            rintro u11 w11 ⟨e11, hw11⟩
            have zw11 := hw11.size
            obtain rfl : u11 = .bool false := e11.trans (congrArg Value.bool (decide_eq_false c9))
            refine lsw (want_t (dj := 24) (by rfl) (by kernel_rfl) rfl) (y_bnot rfl rfl) rfl (by decide) ?_
            refine lsw (want_none (by rfl)) (y_pick false rfl rfl rfl) rfl (by decide) ?_
            refine lg_nil ?_
            refine nx (E' := [(14, _), (15, _), (16, _), (17, _), (18, _), (19, _), (20, _), (4, _), (3, _), (21, _), (22, _), (23, _), (24, _), (25, _), (26, _), (27, _), (28, _), (29, _)]) (fk rfl (fk rfl (fk rfl (fk rfl (fk rfl (fk rfl (fk rfl (fk rfl (fk rfl (fk rfl (fk rfl (fk rfl (fk rfl (fk rfl (fk rfl (fk rfl (fk rfl (fk rfl fn)))))))))))))))))) ?_
            refine cg_ct rfl ?_
            refine cg_seq ?_
            refine cg_region ?_
            refine lsw (want_none (by rfl)) (y_assign rfl rfl) rfl (by decide) ?_
            refine lg_nil ?_
            refine nx (E' := [(14, _), (15, _), (16, _), (17, _), (18, _), (19, _), (20, _), (4, _), (3, _), (21, _), (22, _), (23, _), (24, _), (25, _), (26, _), (27, _), (28, _), (29, _), (2, _)]) (fk rfl (fk rfl (fk rfl (fk rfl (fk rfl (fk rfl (fk rfl (fk rfl (fk rfl (fk rfl (fk rfl (fk rfl (fk rfl (fk rfl (fk rfl (fk rfl (fk rfl (fk rfl (fk rfl fn))))))))))))))))))) ?_
            refine cg_ret ?_
            refine eg_block_ret ?_
            refine eg_seq_ret ?_
            refine eg_seq_ret ?_
            refine eg_block_ret ?_
            refine eg_seq_ret ?_
            have u := u.trans (n5.below.mono u.size)
            have u := u.trans (s6.below _ (by omega))
            have u := u.trans (hw7.mono u.size)
            have u := u.trans (hw11.mono u.size)
            exact eg_ret_tmp rfl rfl ⟨_, rfl, congrArg Value.bool (decide_eq_false (trIs_bad eg4 fun q => c9 q.2)).symm, u⟩
        · refine lsw (want_none (by rfl)) (yb (nd_t c8) (yi_neq rfl rfl rfl)) rfl (by decide) ?_
          refine lsw (want_none (by rfl)) (y_move rfl rfl) rfl (by decide) ?_
          refine lsk (want_f (dj := 24) (by rfl) (by kernel_rfl) rfl) rfl (by decide) ?_
          refine lsk (want_f (dj := 24) (by rfl) (by kernel_rfl) rfl) rfl (by decide) ?_
          refine lsk (want_f (dj := 24) (by rfl) (by kernel_rfl) rfl) rfl (by decide) ?_
          refine lsk (want_f (dj := 24) (by rfl) (by kernel_rfl) rfl) rfl (by decide) ?_
          refine lsw (want_none (by rfl)) (y_pick true rfl rfl rfl) rfl (by decide) ?_
          refine lg_nil ?_
          refine nx (E' := [(14, _), (15, _), (16, _), (17, _), (18, _), (19, _), (20, _), (4, _), (3, _), (21, _), (22, _), (23, _), (24, _), (29, _)]) (fk rfl (fk rfl (fk rfl (fk rfl (fk rfl (fk rfl (fk rfl (fk rfl (fk rfl (fk rfl (fk rfl (fk rfl (fk rfl (fk rfl fn)))))))))))))) ?_
          refine cg_ct rfl ?_
          refine cg_seq ?_
          refine cg_region ?_
          refine lsw (want_none (by rfl)) (y_assign rfl rfl) rfl (by decide) ?_
          refine lg_nil ?_
          refine nx (E' := [(14, _), (15, _), (16, _), (17, _), (18, _), (19, _), (20, _), (4, _), (3, _), (21, _), (22, _), (23, _), (24, _), (29, _), (2, _)]) (fk rfl (fk rfl (fk rfl (fk rfl (fk rfl (fk rfl (fk rfl (fk rfl (fk rfl (fk rfl (fk rfl (fk rfl (fk rfl (fk rfl (fk rfl fn))))))))))))))) ?_
          refine cg_ret ?_
          refine eg_block_ret ?_
          refine eg_seq_ret ?_
          refine eg_seq_ret ?_
          refine eg_block_ret ?_
          refine eg_seq_ret ?_
          have u := u.trans (n5.below.mono u.size)
          have u := u.trans (s6.below _ (by omega))
          have u := u.trans (hw7.mono u.size)
          exact eg_ret_tmp rfl rfl ⟨_, rfl, congrArg Value.bool (decide_eq_false (trIs_bad eg4 fun q => c8 q.1)).symm, u⟩
      · refine lsw (want_none (by rfl)) (yb (decide_eq_false c3) (yi_lss rfl rfl rfl)) rfl (by decide) ?_
        refine lg_nil ?_
        refine nx (E' := [(14, _), (15, _), (16, _), (17, _)]) (fk rfl (fk rfl (fk rfl (fk rfl fn)))) ?_
        refine cg_seq ?_
        refine cg_cf rfl ?_
        refine cg_exit ?_
        refine eg_seq_exit ?_
        refine eg_seq_exit ?_
        refine eg_block_exit ?_
        refine nx (E' := []) fn ?_
        refine cg_seq ?_
        refine cg_region ?_
        refine lsw (want_none (by rfl)) (y_assign rfl rfl) rfl (by decide) ?_
        refine lg_nil ?_
        refine nx (E' := [(2, _)]) (fk rfl fn) ?_
        refine cg_ret ?_
        exact eg_ret_tmp rfl rfl ⟨_, rfl, congrArg Value.bool (decide_eq_true ⟨by by_cases q : 0 < Ls.length; right; exact (by first | assumption | (exact absurd q (by omega))); left; omega, fun i hi => hk i (by omega)⟩).symm, u⟩
    · refine lsw (want_t (dj := 8) (by rfl) (by kernel_rfl) rfl) (yb (decide_eq_false c2) (y_call (wholeL (Ls.length : Int) _) (by kernel_rfl) rfl rfl)) rfl (by decide) ?_
      refine lsw (want_t (dj := 8) (by rfl) (by kernel_rfl) rfl) (y_bnot rfl rfl) rfl (by decide) ?_
      refine lsw (want_none (by rfl)) (y_pick true rfl rfl rfl) rfl (by decide) ?_
      refine lg_nil ?_
      refine nx (E' := [(0, _), (2, _), (13, _)]) (fk rfl (fk rfl (fk rfl fn))) ?_
      refine cg_ct rfl ?_
      refine cg_seq ?_
      refine cg_region ?_
      refine lsw (want_none (by rfl)) (y_assign rfl rfl) rfl (by decide) ?_
      refine lg_nil ?_
      refine nx (E' := [(0, _), (2, _)]) (fk rfl (fk rfl fn)) ?_
      refine cg_ret ?_
      refine eg_seq_ret ?_
      exact eg_ret_tmp rfl rfl ⟨_, rfl, congrArg Value.bool (decide_eq_false (fun q => c2 (q.1.resolve_left (by omega)))).symm, u⟩
  · refine lsw (want_none (by rfl)) (yb (decide_eq_false c1) (yi_gtr rfl rfl rfl)) rfl (by decide) ?_
    refine lsw (want_none (by rfl)) (y_move rfl rfl) rfl (by decide) ?_
    refine lsk (want_f (dj := 8) (by rfl) (by kernel_rfl) rfl) rfl (by decide) ?_
    refine lsk (want_f (dj := 8) (by rfl) (by kernel_rfl) rfl) rfl (by decide) ?_
    refine lsk (want_f (dj := 8) (by rfl) (by kernel_rfl) rfl) rfl (by decide) ?_
    refine lsk (want_f (dj := 8) (by rfl) (by kernel_rfl) rfl) rfl (by decide) ?_
    refine lsw (want_none (by rfl)) (y_pick false rfl rfl rfl) rfl (by decide) ?_
    refine lg_nil ?_
    refine nx (E' := [(0, _), (2, _), (13, _)]) (fk rfl (fk rfl (fk rfl fn))) ?_
    refine cg_cf rfl ?_
    refine cg_skip ?_
    refine nx (E' := [(0, _), (2, _)]) (fk rfl (fk rfl fn)) ?_
    refine cg_seq ?_
    refine cg_seq ?_
    refine cg_region ?_
    refine lsw (want_none (by rfl)) (y_move rfl rfl) rfl (by decide) ?_
    refine lsw (want_none (by rfl)) (y_lenM (el := 30) h.len (by kernel_rfl) rfl rfl) rfl (by decide) ?_
    refine lsw (want_none (by rfl)) (y_move rfl rfl) rfl (by decide) ?_
    refine lg_nil ?_
    refine nx (E' := [(2, _), (14, _), (15, _), (16, _)]) (fk rfl (fk rfl (fk rfl (fk rfl fn)))) ?_
    refine cg_block ?_
    refine cg_loopE (fun t a v => Holds 31 [(14, s.v), (15, nv (Ls.length : Int)), (16, nv ((t : Nat) : Int))] a ∧ RwNd v W.heap.size s Ls ∧ Below W.heap.size W v ∧ ∀ i, i < t → okAt i (atN Ls i)) (Ls.length + 1) (fun a ha => ⟨ha.keep (fk rfl (fk rfl (fk rfl fn))), h, u, (fun i hi => absurd hi (by omega))⟩) ?_
    rintro t a v ht ⟨ha, h, u, hk⟩
    refine cg_at ha ?_
    clear ha a
    have zv := u.size
    have q1 := h.len
    have q2 := h.cap
    refine cg_seq ?_
    refine cg_region ?_
    by_cases c12 : ((t : Nat) : Int) < (Ls.length : Int)
    · refine lsw (want_none (by rfl)) (yb (decide_eq_true c12) (yi_lss rfl rfl rfl)) rfl (by decide) ?_
      refine lg_nil ?_
      refine nx (E' := [(14, _), (15, _), (16, _), (17, _)]) (fk rfl (fk rfl (fk rfl (fk rfl fn)))) ?_
      refine cg_seq ?_
      refine cg_ct rfl ?_
      refine cg_skip ?_
      refine nx (E' := [(14, _), (15, _), (16, _), (17, _)]) (fk rfl (fk rfl (fk rfl (fk rfl fn)))) ?_
      refine cg_seq ?_
      refine cg_block ?_
      refine cg_seq ?_
      refine cg_region ?_
      refine lsw (want_none (by rfl)) (y_move rfl rfl) rfl (by decide) ?_
      obtain ⟨eb13, eo13, el13, eL13, eA13, eB13, eg13, eh13, ec13⟩ := h.at (t) (by have := h.len; omega)
      refine lsw (want_none (by rfl)) (y_ixR (s := s) (el := 30) (k := 8) (i := t) (iI := ((t : Nat) : Int)) eA13 (by kernel_rfl) (by kernel_rfl) (by omega) (by have := h.len; omega) rfl rfl rfl) rfl (by decide) ?_
      refine lsw (want_none (by rfl)) (y_loadC (cs := el13.cs eL13) ec13 (by kernel_rfl) (by kernel_rfl) rfl rfl) rfl (by decide) ?_
      refine lg_allocw (cs := NdV.zero.cs Nd.zero) (want_none (by rfl)) rfl (by kernel_rfl) rfl (by decide) fun b14 w14 n14 => ?_
      have r14 := n14.row
      have k14 := n14.blk
      have z14 := n14.size
      have lt14 : b14 < w14.heap.size := by omega
      refine lsw (want_none (by rfl)) (y_assign rfl rfl) rfl (by decide) ?_
      have o15 := r14
      refine lg_stw (want_none (by rfl)) r14 rfl rfl rfl (by kernel_rfl) (by kernel_rfl) rfl rfl fun w15 s15 => ?_
      have r14 := s15.row
      have z15 := s15.size
      refine lg_nil ?_
      refine nx (E' := [(14, _), (15, _), (16, _), (17, _), (18, _), (19, _), (20, _), (4, _), (3, _)]) (fk rfl (fk rfl (fk rfl (fk rfl (fk rfl (fk rfl (fk rfl (fk rfl (fk rfl fn))))))))) ?_
      refine cg_seq ?_
      refine cg_region ?_
      refine lsw (want_none (by rfl)) (y_loadA r14 (by kernel_rfl) (by kernel_rfl) rfl rfl) rfl (by decide) ?_
      have eh13 := eh13.below (n14.below.mono (by omega))
      have eh13 := eh13.below (s15.below _ (by omega))
      refine lg_callw (want_none (by rfl)) (checkN_any (eh13.more (B' := w15.heap.size) (by omega)) (Nat.le_refl _)) (by kernel_rfl) rfl rfl rfl (by decide) ?_
      rintro _ w16 ⟨rfl, hw16⟩
      have zw16 := hw16.size
      by_cases c17 : (ndCheck eL13) = 0
      · refine lsw (want_none (by rfl)) (yb (nd_f c17) (yi_neq rfl rfl rfl)) rfl (by decide) ?_
        refine lsw (want_none (by rfl)) (y_move rfl rfl) rfl (by decide) ?_
        refine lsw (want_t (dj := 24) (by rfl) (by kernel_rfl) rfl) (y_move rfl rfl) rfl (by decide) ?_
        have r14 := RowAt.below hw16 r14.lt r14
        refine lsw (want_t (dj := 24) (by rfl) (by kernel_rfl) rfl) (y_loadA r14 (by kernel_rfl) (by kernel_rfl) rfl rfl) rfl (by decide) ?_
        have eh13 := eh13.below (hw16.mono (by omega))
        by_cases c18 : fitK t eL13.kind
        · refine lg_callw (want_t (dj := 24) (by rfl) (by kernel_rfl) rfl) (mayStand_any t (eh13.more (B' := w16.heap.size) (by omega)) (Nat.le_refl _)) (by kernel_rfl) rfl rfl rfl (by decide) ?_
          rintro u19 w19 ⟨e19, hw19⟩
          have zw19 := hw19.size
          obtain rfl : u19 = .bool true := e19.trans (congrArg Value.bool (decide_eq_true c18))
          refine lsw (want_t (dj := 24) (by rfl) (by kernel_rfl) rfl) (y_bnot rfl rfl) rfl (by decide) ?_
          refine lsw (want_none (by rfl)) (y_pick false rfl rfl rfl) rfl (by decide) ?_
          refine lg_nil ?_
          refine nx (E' := [(14, _), (15, _), (16, _), (17, _), (18, _), (19, _), (20, _), (4, _), (3, _), (21, _), (22, _), (23, _), (24, _), (25, _), (26, _), (27, _), (28, _), (29, _)]) (fk rfl (fk rfl (fk rfl (fk rfl (fk rfl (fk rfl (fk rfl (fk rfl (fk rfl (fk rfl (fk rfl (fk rfl (fk rfl (fk rfl (fk rfl (fk rfl (fk rfl (fk rfl fn)))))))))))))))))) ?_
          refine cg_cf rfl ?_
          refine cg_skip ?_
          refine eg_block_norm ?_
          refine nx (E' := [(14, _), (15, _), (16, _), (17, _), (18, _), (19, _), (20, _), (4, _), (3, _), (21, _), (22, _), (23, _), (24, _), (25, _), (26, _), (27, _), (28, _), (29, _)]) (fk rfl (fk rfl (fk rfl (fk rfl (fk rfl (fk rfl (fk rfl (fk rfl (fk rfl (fk rfl (fk rfl (fk rfl (fk rfl (fk rfl (fk rfl (fk rfl (fk rfl (fk rfl fn)))))))))))))))))) ?_
          refine cg_region ?_
          refine lsw (want_none (by rfl)) (yv (congrArg nv (show ((t : Nat) : Int) + 1 = ((t + 1 : Nat) : Int) by omega)) (yi_add rfl rfl rfl (by omega) (by omega))) rfl (by decide) ?_
          refine lsw (want_none (by rfl)) (y_move rfl rfl) rfl (by decide) ?_
          refine lg_nil ?_
          have h := h.below (n14.below.mono (by omega))
          have h := h.below (s15.below _ (by omega))
          have h := h.below (hw16.mono (by omega))
          have h := h.below (hw19.mono (by omega))
          have u := u.trans (n14.below.mono u.size)
          have u := u.trans (s15.below _ (by omega))
          have u := u.trans (hw16.mono u.size)
          have u := u.trans (hw19.mono u.size)
          exact fun a ha => (show t < (Ls.length + 1) ∧ _ from ⟨(by omega), ha.keep (fk rfl (fk rfl (fk rfl fn))), h, u, (ok_step hk eg13 ⟨c17, c18⟩)⟩)
        · refine lg_callw (want_t (dj := 24) (by rfl) (by kernel_rfl) rfl) (mayStand_any t (eh13.more (B' := w16.heap.size) (by omega)) (Nat.le_refl _)) (by kernel_rfl) rfl rfl rfl (by decide) ?_
          rintro u20 w20 ⟨e20, hw20⟩
          have zw20 := hw20.size
          obtain rfl : u20 = .bool false := e20.trans (congrArg Value.bool (decide_eq_false c18))
          refine lsw (want_t (dj := 24) (by rfl) (by kernel_rfl) rfl) (y_bnot rfl rfl) rfl (by decide) ?_
          refine lsw (want_none (by rfl)) (y_pick false rfl rfl rfl) rfl (by decide) ?_
          refine lg_nil ?_
          refine nx (E' := [(14, _), (15, _), (16, _), (17, _), (18, _), (19, _), (20, _), (4, _), (3, _), (21, _), (22, _), (23, _), (24, _), (25, _), (26, _), (27, _), (28, _), (29, _)]) (fk rfl (fk rfl (fk rfl (fk rfl (fk rfl (fk rfl (fk rfl (fk rfl (fk rfl (fk rfl (fk rfl (fk rfl (fk rfl (fk rfl (fk rfl (fk rfl (fk rfl (fk rfl fn)))))))))))))))))) ?_
          refine cg_ct rfl ?_
          refine cg_seq ?_
          refine cg_region ?_
          refine lsw (want_none (by rfl)) (y_assign rfl rfl) rfl (by decide) ?_
          refine lg_nil ?_
          refine nx (E' := [(14, _), (15, _), (16, _), (17, _), (18, _), (19, _), (20, _), (4, _), (3, _), (21, _), (22, _), (23, _), (24, _), (25, _), (26, _), (27, _), (28, _), (29, _), (2, _)]) (fk rfl (fk rfl (fk rfl (fk rfl (fk rfl (fk rfl (fk rfl (fk rfl (fk rfl (fk rfl (fk rfl (fk rfl (fk rfl (fk rfl (fk rfl (fk rfl (fk rfl (fk rfl (fk rfl fn))))))))))))))))))) ?_
          refine cg_ret ?_
          refine eg_block_ret ?_
          refine eg_seq_ret ?_
          refine eg_seq_ret ?_
          refine eg_block_ret ?_
          refine eg_seq_ret ?_
          have u := u.trans (n14.below.mono u.size)
          have u := u.trans (s15.below _ (by omega))
          have u := u.trans (hw16.mono u.size)
          have u := u.trans (hw20.mono u.size)
          exact eg_ret_tmp rfl rfl ⟨_, rfl, congrArg Value.bool (decide_eq_false (trIs_bad eg13 fun q => c18 q.2)).symm, u⟩
      · refine lsw (want_none (by rfl)) (yb (nd_t c17) (yi_neq rfl rfl rfl)) rfl (by decide) ?_
        refine lsw (want_none (by rfl)) (y_move rfl rfl) rfl (by decide) ?_
        refine lsk (want_f (dj := 24) (by rfl) (by kernel_rfl) rfl) rfl (by decide) ?_
        refine lsk (want_f (dj := 24) (by rfl) (by kernel_rfl) rfl) rfl (by decide) ?_
        refine lsk (want_f (dj := 24) (by rfl) (by kernel_rfl) rfl) rfl (by decide) ?_
        refine lsk (want_f (dj := 24) (by rfl) (by kernel_rfl) rfl) rfl (by decide) ?_
        refine lsw (want_none (by rfl)) (y_pick true rfl rfl rfl) rfl (by decide) ?_
        refine lg_nil ?_
        refine nx (E' := [(14, _), (15, _), (16, _), (17, _), (18, _), (19, _), (20, _), (4, _), (3, _), (21, _), (22, _), (23, _), (24, _), (29, _)]) (fk rfl (fk rfl (fk rfl (fk rfl (fk rfl (fk rfl (fk rfl (fk rfl (fk rfl (fk rfl (fk rfl (fk rfl (fk rfl (fk rfl fn)))))))))))))) ?_
        refine cg_ct rfl ?_
        refine cg_seq ?_
        refine cg_region ?_
        refine lsw (want_none (by rfl)) (y_assign rfl rfl) rfl (by decide) ?_
        refine lg_nil ?_
        refine nx (E' := [(14, _), (15, _), (16, _), (17, _), (18, _), (19, _), (20, _), (4, _), (3, _), (21, _), (22, _), (23, _), (24, _), (29, _), (2, _)]) (fk rfl (fk rfl (fk rfl (fk rfl (fk rfl (fk rfl (fk rfl (fk rfl (fk rfl (fk rfl (fk rfl (fk rfl (fk rfl (fk rfl (fk rfl fn))))))))))))))) ?_
        refine cg_ret ?_
        refine eg_block_ret ?_
        refine eg_seq_ret ?_
        refine eg_seq_ret ?_
        refine eg_block_ret ?_
        refine eg_seq_ret ?_
        have u := u.trans (n14.below.mono u.size)
        have u := u.trans (s15.below _ (by omega))
        have u := u.trans (hw16.mono u.size)
        exact eg_ret_tmp rfl rfl ⟨_, rfl, congrArg Value.bool (decide_eq_false (trIs_bad eg13 fun q => c17 q.1)).symm, u⟩
    · refine lsw (want_none (by rfl)) (yb (decide_eq_false c12) (yi_lss rfl rfl rfl)) rfl (by decide) ?_
      refine lg_nil ?_
      refine nx (E' := [(14, _), (15, _), (16, _), (17, _)]) (fk rfl (fk rfl (fk rfl (fk rfl fn)))) ?_
      refine cg_seq ?_
      refine cg_cf rfl ?_
      refine cg_exit ?_
      refine eg_seq_exit ?_
      refine eg_seq_exit ?_
      refine eg_block_exit ?_
      refine nx (E' := []) fn ?_
      refine cg_seq ?_
      refine cg_region ?_
      refine lsw (want_none (by rfl)) (y_assign rfl rfl) rfl (by decide) ?_
      refine lg_nil ?_
      refine nx (E' := [(2, _)]) (fk rfl fn) ?_
      refine cg_ret ?_
      exact eg_ret_tmp rfl rfl ⟨_, rfl, congrArg Value.bool (decide_eq_true ⟨by by_cases q : 0 < Ls.length; right; exact (by first | assumption | (exact absurd q (by omega))); left; omega, fun i hi => hk i (by omega)⟩).symm, u⟩
theorem tree_any {W : World} {B : Nat} {s : SlV} {Ls : List Nd} (h : RwNd W B s Ls) (hB : B ≤ W.heap.size) : Calls Tryd.prog 27 #[s.v] W fun e W' => ∃ v, e = .returned v ∧ ∃ s' : SlV, v = s'.v ∧ RwNd W' B s' (trAs Ls) ∧ s'.c = s'.m ∧ Below W.heap.size W W' := by
  refine calls_cg (n := 12) Tryd.func27 rfl Tryd.ntmps27 (by simp) ?_
  show CG _ _ _ [(0, s.v)] _ _
  have u := Below.refl W.heap.size W
  refine cg_seq ?_
  refine cg_region ?_
  refine lsw (want_none (by rfl)) (y_assign rfl rfl) rfl (by decide) ?_
  refine lg_nil ?_
  refine nx (E' := [(0, _), (2, _)]) (fk rfl (fk rfl fn)) ?_
  refine cg_seq ?_
  refine cg_seq ?_
  refine cg_region ?_
  refine lsw (want_none (by rfl)) (y_move rfl rfl) rfl (by decide) ?_
  by_cases c1 : trIs Ls
  · refine lg_callw (want_none (by rfl)) (sane_any (h.more (B' := W.heap.size) (by omega)) (Nat.le_refl _)) (by kernel_rfl) rfl rfl rfl (by decide) ?_
    rintro u2 w2 ⟨e2, hw2⟩
    have zw2 := hw2.size
    obtain rfl : u2 = .bool true := e2.trans (congrArg Value.bool (decide_eq_true c1))
    refine lsw (want_none (by rfl)) (y_bnot rfl rfl) rfl (by decide) ?_
    refine lg_nil ?_
    refine nx (E' := [(0, _), (2, _), (5, _)]) (fk rfl (fk rfl (fk rfl fn))) ?_
    refine cg_cf rfl ?_
    refine cg_skip ?_
    refine nx (E' := [(0, _), (2, _)]) (fk rfl (fk rfl fn)) ?_
    refine cg_seq ?_
    refine cg_region ?_
    refine lsw (want_none (by rfl)) (y_move rfl rfl) rfl (by decide) ?_
    refine lsw (want_none (by rfl)) (y_move rfl rfl) rfl (by decide) ?_
    have h := h.below (hw2.mono (by omega))
    refine lsw (want_none (by rfl)) (y_lenM (el := 30) h.len (by kernel_rfl) rfl rfl) rfl (by decide) ?_
    refine lsw (want_none (by rfl)) (y_move rfl rfl) rfl (by decide) ?_
    refine lsw (want_none (by rfl)) (y_lenM (el := 30) h.len (by kernel_rfl) rfl rfl) rfl (by decide) ?_
    have cu3 := h.cut 0 Ls.length Ls.length (by have q1 := h.len; have q2 := h.cap; omega) (by have q1 := h.len; have q2 := h.cap; omega) (by have q1 := h.len; have q2 := h.cap; omega) (by have q1 := h.len; have q2 := h.cap; omega) |>.cast (by rw [List.drop_zero, List.take_length])
    refine lsw (want_none (by rfl)) (y_cutR_hm (s := s) Ls.length Ls.length (hi := (Ls.length : Int)) (mx := (Ls.length : Int)) (by have q1 := h.len; have q2 := h.cap; omega) (by have q1 := h.len; have q2 := h.cap; omega) (by have q1 := h.len; have q2 := h.cap; omega) (by have q1 := h.len; have q2 := h.cap; omega) rfl rfl rfl rfl) rfl (by decide) ?_
    refine lsw (want_none (by rfl)) (y_assign rfl rfl) rfl (by decide) ?_
    refine lg_nil ?_
    refine nx (E' := [(2, _)]) (fk rfl fn) ?_
    refine cg_ret ?_
    have u := u.trans (hw2.mono u.size)
    exact eg_ret_tmp rfl rfl ⟨_, rfl, _, rfl, cu3.cast (trAs_ok c1).symm, rfl, u⟩
  · refine lg_callw (want_none (by rfl)) (sane_any (h.more (B' := W.heap.size) (by omega)) (Nat.le_refl _)) (by kernel_rfl) rfl rfl rfl (by decide) ?_
    rintro u4 w4 ⟨e4, hw4⟩
    have zw4 := hw4.size
    obtain rfl : u4 = .bool false := e4.trans (congrArg Value.bool (decide_eq_false c1))
    refine lsw (want_none (by rfl)) (y_bnot rfl rfl) rfl (by decide) ?_
    refine lg_nil ?_
    refine nx (E' := [(0, _), (2, _), (5, _)]) (fk rfl (fk rfl (fk rfl fn))) ?_
    refine cg_ct rfl ?_
    refine cg_seq ?_
    refine cg_region ?_
    refine lsw (want_none (by rfl)) (y_assign rfl rfl) rfl (by decide) ?_
    refine lg_nil ?_
    refine nx (E' := [(0, _), (2, _)]) (fk rfl (fk rfl fn)) ?_
    refine cg_ret ?_
    refine eg_seq_ret ?_
    have u := u.trans (hw4.mono u.size)
    exact eg_ret_tmp rfl rfl ⟨_, rfl, nilS, rfl, (RwNd.nil _ _).cast (trAs_no c1).symm, rfl, u⟩
theorem leaves_any (s : SlV) (Ls : List Nd) (W : World) (hm : Ls.length = s.m) (hle : Ls.length ≤ 1000000000000000000) : Calls Tryd.prog 35 #[s.v] W fun e W' => e = .returned (nv ((leavesA Ls : Nat) : Int)) ∧ W' = W := by
  refine calls_cg (n := 7) Tryd.func35 rfl Tryd.ntmps35 (by simp) ?_
  show CG _ _ _ [(0, s.v)] _ _
  refine cg_seq ?_
  refine cg_region ?_
  refine lsw (want_none (by rfl)) (y_assign rfl rfl) rfl (by decide) ?_
  refine lg_nil ?_
  refine nx (E' := [(0, _), (2, _)]) (fk rfl (fk rfl fn)) ?_
  refine cg_seq ?_
  refine cg_region ?_
  refine lsw (want_none (by rfl)) (y_move rfl rfl) rfl (by decide) ?_
  refine lsw (want_none (by rfl)) (y_lenM (el := 30) hm (by kernel_rfl) rfl rfl) rfl (by decide) ?_
  refine lsw (want_none (by rfl)) (yi_add rfl rfl rfl (by omega) (by omega)) rfl (by decide) ?_
  refine lsw (want_none (by rfl)) (yi_quo rfl rfl rfl (by omega) (by omega) (by omega)) rfl (by decide) ?_
  refine lsw (want_none (by rfl)) (y_assign rfl rfl) rfl (by decide) ?_
  refine lg_nil ?_
  refine nx (E' := [(2, _)]) (fk rfl fn) ?_
  refine cg_ret ?_
  exact eg_ret_tmp rfl rfl ⟨congrArg (fun q => Ending.returned (nv q)) (show (((Ls.length : Int) + 1) / 2) = ((leavesA Ls : Nat) : Int) by unfold leavesA; omega), rfl⟩
theorem leavesT_any {W : World} {B : Nat} {s : SlV} {Ls : List Nd} (h : RwNd W B s Ls) (hB : B ≤ W.heap.size) : Calls Tryd.prog 19 #[s.v] W fun e W' => ∃ v, e = .returned v ∧ v = nv (leavesA (trAs Ls) : Int) ∧ Below W.heap.size W W' := by
  refine calls_cg (n := 6) Tryd.func19 rfl Tryd.ntmps19 (by simp) ?_
  show CG _ _ _ [(0, s.v)] _ _
  have u := Below.refl W.heap.size W
  refine cg_seq ?_
  refine cg_region ?_
  refine lsw (want_none (by rfl)) (y_assign rfl rfl) rfl (by decide) ?_
  refine lg_nil ?_
  refine nx (E' := [(0, _), (2, _)]) (fk rfl (fk rfl fn)) ?_
  refine cg_seq ?_
  refine cg_region ?_
  refine lsw (want_none (by rfl)) (y_move rfl rfl) rfl (by decide) ?_
  refine lg_callw (want_none (by rfl)) (tree_any h (by omega)) (by kernel_rfl) rfl rfl rfl (by decide) ?_
  rintro _ w1 ⟨s1, rfl, m1, f1, hw1⟩
  have zw1 := hw1.size
  have tl1 := trAs_le Ls
  refine lsw (want_none (by rfl)) (y_call (leaves_any s1 (trAs Ls) _ (by have q1 := m1.len; omega) (by omega)) (by kernel_rfl) rfl rfl) rfl (by decide) ?_
  refine lsw (want_none (by rfl)) (y_assign rfl rfl) rfl (by decide) ?_
  refine lg_nil ?_
  refine nx (E' := [(2, _)]) (fk rfl fn) ?_
  refine cg_ret ?_
  have u := u.trans (hw1.mono u.size)
  exact eg_ret_tmp rfl rfl ⟨_, rfl, congrArg nv (rfl), u⟩
theorem free_any {W : World} {B : Nat} {s : SlV} {Ls : List Nd} (h : RwNd W B s Ls) (hB : B ≤ W.heap.size) : Calls Tryd.prog 21 #[s.v] W fun e W' => ∃ v, e = .returned v ∧ v = nv (freeA (trAs Ls)) ∧ Below W.heap.size W W' := by
  refine calls_cg (n := 20) Tryd.func21 rfl Tryd.ntmps21 (by simp) ?_
  show CG _ _ _ [(0, s.v)] _ _
  have u := Below.refl W.heap.size W
  have h := h.more hB
  refine cg_seq ?_
  refine cg_region ?_
  refine lsw (want_none (by rfl)) (y_assign rfl rfl) rfl (by decide) ?_
  refine lg_nil ?_
  refine nx (E' := [(0, _), (2, _)]) (fk rfl (fk rfl fn)) ?_
  refine cg_seq ?_
  refine cg_region ?_
  refine lsw (want_none (by rfl)) (y_move rfl rfl) rfl (by decide) ?_
  refine lg_callw (want_none (by rfl)) (tree_any h (by omega)) (by kernel_rfl) rfl rfl rfl (by decide) ?_
  rintro _ w1 ⟨s1, rfl, m1, f1, hw1⟩
  have zw1 := hw1.size
  have tl1 := trAs_le Ls
  refine lsw (want_none (by rfl)) (y_assign rfl rfl) rfl (by decide) ?_
  refine lg_nil ?_
  refine nx (E' := [(2, _), (0, _)]) (fk rfl (fk rfl fn)) ?_
  refine cg_seq ?_
  refine cg_seq ?_
  refine cg_region ?_
  refine lsw (want_none (by rfl)) (y_assign rfl rfl) rfl (by decide) ?_
  refine lg_nil ?_
  refine nx (E' := [(2, _), (0, _), (3, _)]) (fk rfl (fk rfl (fk rfl fn))) ?_
  refine cg_block ?_
  have u := u.trans (hw1.mono u.size)
  refine cg_loopE (fun t a v => ∃ (r : SlV), Holds 20 [(0, r.v), (3, nv ((2 * t : Nat) : Int))] a ∧ RwNd v W.heap.size r (trAs Ls) ∧ Below W.heap.size W v ∧ (∀ j, j < t → (atN (trAs Ls) (2 * j)).kind ≠ 0) ∧ 2 * t ≤ (trAs Ls).length + 1) (Ls.length + 200) (fun a ha => ⟨s1, ha.keep (fk rfl (fk rfl fn)), m1, u, (fun i hi => absurd hi (by omega)), (by omega)⟩) ?_
  rintro t a v ht ⟨r, ha, hr, u, hk, tle⟩
  refine cg_at ha ?_
  clear ha a
  have zv := u.size
  have q1 := hr.len
  have q2 := hr.cap
  have q3 := trAs_le Ls
  refine cg_seq ?_
  refine cg_seq ?_
  refine cg_region ?_
  refine lsw (want_none (by rfl)) (y_move rfl rfl) rfl (by decide) ?_
  refine lsw (want_none (by rfl)) (y_move rfl rfl) rfl (by decide) ?_
  refine lsw (want_none (by rfl)) (y_lenM (el := 30) hr.len (by kernel_rfl) rfl rfl) rfl (by decide) ?_
  by_cases c2 : ((2 * t : Nat) : Int) < ((trAs Ls).length : Int)
  · refine lsw (want_none (by rfl)) (yb (decide_eq_true c2) (yi_lss rfl rfl rfl)) rfl (by decide) ?_
    refine lg_nil ?_
    refine nx (E' := [(0, _), (3, _), (6, _), (7, _), (8, _), (9, _)]) (fk rfl (fk rfl (fk rfl (fk rfl (fk rfl (fk rfl fn)))))) ?_
    refine cg_ct rfl ?_
    refine cg_skip ?_
    refine nx (E' := [(0, _), (3, _), (6, _), (7, _), (8, _), (9, _)]) (fk rfl (fk rfl (fk rfl (fk rfl (fk rfl (fk rfl fn)))))) ?_
    refine cg_seq ?_
    refine cg_block ?_
    refine cg_seq ?_
    refine cg_region ?_
    refine lsw (want_none (by rfl)) (y_move rfl rfl) rfl (by decide) ?_
    refine lsw (want_none (by rfl)) (y_move rfl rfl) rfl (by decide) ?_
    obtain ⟨eb3, eo3, el3, eL3, eA3, eB3, eg3, eh3, ec3⟩ := hr.at ((2 * t)) (by have := hr.len; omega)
    refine lsw (want_none (by rfl)) (y_ixR (s := r) (el := 30) (k := 8) (i := (2 * t)) (iI := ((2 * t : Nat) : Int)) eA3 (by kernel_rfl) (by kernel_rfl) (by omega) (by have := hr.len; omega) rfl rfl rfl) rfl (by decide) ?_
    refine lsw (want_none (by rfl)) (y_fld (off := 0) (by kernel_rfl) rfl rfl) rfl (by decide) ?_
    refine lsw (want_none (by rfl)) (y_celld (ec3 0 _ rfl) (by kernel_rfl) rfl rfl) rfl (by decide) ?_
    by_cases c4 : eL3.kind = 0
    · refine lsw (want_none (by rfl)) (yb (decide_eq_true c4) (yi_eql rfl rfl rfl)) rfl (by decide) ?_
      refine lg_nil ?_
      refine nx (E' := [(0, _), (3, _), (6, _), (7, _), (8, _), (9, _), (12, _), (13, _), (14, _), (15, _), (16, _), (17, _)]) (fk rfl (fk rfl (fk rfl (fk rfl (fk rfl (fk rfl (fk rfl (fk rfl (fk rfl (fk rfl (fk rfl (fk rfl fn)))))))))))) ?_
      refine cg_ct rfl ?_
      refine cg_seq ?_
      refine cg_region ?_
      refine lsw (want_none (by rfl)) (y_move rfl rfl) rfl (by decide) ?_
      refine lsw (want_none (by rfl)) (yi_quo rfl rfl rfl (by omega) (by omega) (by omega)) rfl (by decide) ?_
      refine lsw (want_none (by rfl)) (y_assign rfl rfl) rfl (by decide) ?_
      refine lg_nil ?_
      refine nx (E' := [(0, _), (3, _), (6, _), (7, _), (8, _), (9, _), (12, _), (13, _), (14, _), (15, _), (16, _), (17, _), (18, _), (19, _), (2, _)]) (fk rfl (fk rfl (fk rfl (fk rfl (fk rfl (fk rfl (fk rfl (fk rfl (fk rfl (fk rfl (fk rfl (fk rfl (fk rfl (fk rfl (fk rfl fn))))))))))))))) ?_
      refine cg_ret ?_
      refine eg_block_ret ?_
      refine eg_seq_ret ?_
      refine eg_seq_ret ?_
      refine eg_block_ret ?_
      refine eg_seq_ret ?_
      exact eg_ret_tmp rfl rfl ⟨_, rfl, congrArg nv ((show (((2 * t : Nat) : Int) / 2) = (t : Int) by omega).trans (freeA_one (by unfold leavesA; omega) (at_kind (p := fun k => k = 0) eg3 c4) hk).symm), u⟩
    · refine lsw (want_none (by rfl)) (yb (decide_eq_false c4) (yi_eql rfl rfl rfl)) rfl (by decide) ?_
      refine lg_nil ?_
      refine nx (E' := [(0, _), (3, _), (6, _), (7, _), (8, _), (9, _), (12, _), (13, _), (14, _), (15, _), (16, _), (17, _)]) (fk rfl (fk rfl (fk rfl (fk rfl (fk rfl (fk rfl (fk rfl (fk rfl (fk rfl (fk rfl (fk rfl (fk rfl fn)))))))))))) ?_
      refine cg_cf rfl ?_
      refine cg_skip ?_
      refine eg_block_norm ?_
      refine nx (E' := [(0, _), (3, _), (6, _), (7, _), (8, _), (9, _), (12, _), (13, _), (14, _), (15, _), (16, _), (17, _)]) (fk rfl (fk rfl (fk rfl (fk rfl (fk rfl (fk rfl (fk rfl (fk rfl (fk rfl (fk rfl (fk rfl (fk rfl fn)))))))))))) ?_
      refine cg_region ?_
      refine lsw (want_none (by rfl)) (y_move rfl rfl) rfl (by decide) ?_
      refine lsw (want_none (by rfl)) (yv (congrArg nv (show ((2 * t : Nat) : Int) + 2 = ((2 * (t + 1) : Nat) : Int) by omega)) (yi_add rfl rfl rfl (by omega) (by omega))) rfl (by decide) ?_
      refine lsw (want_none (by rfl)) (y_assign rfl rfl) rfl (by decide) ?_
      refine lg_nil ?_
      exact fun a ha => (show t < (Ls.length + 200) ∧ _ from ⟨(by omega), r, ha.keep (fk rfl (fk rfl fn)), hr, u, (fun j hj => by by_cases q : j = t; subst q; exact at_kind (p := fun k => k ≠ 0) eg3 c4; exact hk j (by omega)), (by omega)⟩)
  · refine lsw (want_none (by rfl)) (yb (decide_eq_false c2) (yi_lss rfl rfl rfl)) rfl (by decide) ?_
    refine lg_nil ?_
    refine nx (E' := [(0, _), (3, _), (6, _), (7, _), (8, _), (9, _)]) (fk rfl (fk rfl (fk rfl (fk rfl (fk rfl (fk rfl fn)))))) ?_
    refine cg_cf rfl ?_
    refine cg_exit ?_
    refine eg_seq_exit ?_
    refine eg_seq_exit ?_
    refine eg_block_exit ?_
    refine nx (E' := []) fn ?_
    refine cg_seq ?_
    refine cg_region ?_
    refine lsw (want_none (by rfl)) (y_assign rfl rfl) rfl (by decide) ?_
    refine lg_nil ?_
    refine nx (E' := [(2, _)]) (fk rfl fn) ?_
    refine cg_ret ?_
    exact eg_ret_tmp rfl rfl ⟨_, rfl, congrArg nv (freeA_no (fun j hj => hk j (by unfold leavesA at hj; omega))).symm, u⟩
theorem lastA_one {a : List Nd} {j : Nat} (h1 : j < a.length) (h2 : (atN a j).kind ≠ 0) (h3 : ∀ q, j < q → q < a.length → (atN a q).kind = 0) : lastA a = (j : Int) := by
  rcases lastA_is a with ⟨_, h⟩ | ⟨k, h, h4, h5, h6⟩
  · exact absurd (h j h1) h2
  · have : k = j := by
      by_cases q : j < k
      · exact absurd (h3 k q h4) h5
      · by_cases r : k < j
        · exact absurd (h6 j r h1) h2
        · omega
    rw [h, this]
theorem lastA_no {a : List Nd} (h : ∀ j, j < a.length → (atN a j).kind = 0) : lastA a = -1 := by
  rcases lastA_is a with ⟨e, _⟩ | ⟨k, e, h1, h2, _⟩
  · exact e
  · exact absurd (h k h1) h2
theorem last_any {W : World} {B : Nat} {s : SlV} {Ls : List Nd} (h : RwNd W B s Ls) (hB : B ≤ W.heap.size) : Calls Tryd.prog 23 #[s.v] W fun e W' => ∃ v, e = .returned v ∧ v = nv (lastA (trAs Ls)) ∧ Below W.heap.size W W' := by
  refine calls_cg (n := 20) Tryd.func23 rfl Tryd.ntmps23 (by simp) ?_
  show CG _ _ _ [(0, s.v)] _ _
  have u := Below.refl W.heap.size W
  have h := h.more hB
  refine cg_seq ?_
  refine cg_region ?_
  refine lsw (want_none (by rfl)) (y_assign rfl rfl) rfl (by decide) ?_
  refine lg_nil ?_
  refine nx (E' := [(0, _), (2, _)]) (fk rfl (fk rfl fn)) ?_
  refine cg_seq ?_
  refine cg_region ?_
  refine lsw (want_none (by rfl)) (y_move rfl rfl) rfl (by decide) ?_
  refine lg_callw (want_none (by rfl)) (tree_any h (by omega)) (by kernel_rfl) rfl rfl rfl (by decide) ?_
  rintro _ w1 ⟨s1, rfl, m1, f1, hw1⟩
  have zw1 := hw1.size
  have tl1 := trAs_le Ls
  refine lsw (want_none (by rfl)) (y_assign rfl rfl) rfl (by decide) ?_
  refine lg_nil ?_
  refine nx (E' := [(2, _), (0, _)]) (fk rfl (fk rfl fn)) ?_
  refine cg_seq ?_
  refine cg_seq ?_
  refine cg_region ?_
  refine lsw (want_none (by rfl)) (y_move rfl rfl) rfl (by decide) ?_
  refine lsw (want_none (by rfl)) (y_lenM (el := 30) m1.len (by kernel_rfl) rfl rfl) rfl (by decide) ?_
  refine lsw (want_none (by rfl)) (yv (congrArg nv (show ((trAs Ls).length : Int) - 1 = ((trAs Ls).length : Int) - 1 - ((0 : Nat) : Int) by omega)) (yi_sub rfl rfl rfl (by omega) (by omega))) rfl (by decide) ?_
  refine lsw (want_none (by rfl)) (y_assign rfl rfl) rfl (by decide) ?_
  refine lg_nil ?_
  refine nx (E' := [(2, _), (0, _), (3, _)]) (fk rfl (fk rfl (fk rfl fn))) ?_
  refine cg_block ?_
  have u := u.trans (hw1.mono u.size)
  refine cg_loopE (fun t a v => ∃ (r : SlV), Holds 20 [(0, r.v), (3, nv (((trAs Ls).length : Int) - 1 - (t : Int)))] a ∧ RwNd v W.heap.size r (trAs Ls) ∧ Below W.heap.size W v ∧ (∀ j, (trAs Ls).length - t ≤ j → j < (trAs Ls).length → (atN (trAs Ls) j).kind = 0) ∧ t ≤ (trAs Ls).length) (Ls.length + 200) (fun a ha => ⟨s1, ha.keep (fk rfl (fk rfl fn)), m1, u, (fun j h1 h2 => absurd h2 (by omega)), (Nat.zero_le _)⟩) ?_
  rintro t a v ht ⟨r, ha, hr, u, hk, tle⟩
  refine cg_at ha ?_
  clear ha a
  have zv := u.size
  have q1 := hr.len
  have q2 := hr.cap
  have q3 := trAs_le Ls
  refine cg_seq ?_
  refine cg_seq ?_
  refine cg_region ?_
  refine lsw (want_none (by rfl)) (y_move rfl rfl) rfl (by decide) ?_
  by_cases c2 : 0 ≤ (((trAs Ls).length : Int) - 1 - (t : Int))
  · refine lsw (want_none (by rfl)) (yb (decide_eq_true c2) (yi_geq rfl rfl rfl)) rfl (by decide) ?_
    refine lg_nil ?_
    refine nx (E' := [(0, _), (3, _), (9, _), (10, _)]) (fk rfl (fk rfl (fk rfl (fk rfl fn)))) ?_
    refine cg_ct rfl ?_
    refine cg_skip ?_
    refine nx (E' := [(0, _), (3, _), (9, _), (10, _)]) (fk rfl (fk rfl (fk rfl (fk rfl fn)))) ?_
    refine cg_seq ?_
    refine cg_block ?_
    refine cg_seq ?_
    refine cg_region ?_
    refine lsw (want_none (by rfl)) (y_move rfl rfl) rfl (by decide) ?_
    refine lsw (want_none (by rfl)) (y_move rfl rfl) rfl (by decide) ?_
    obtain ⟨eb3, eo3, el3, eL3, eA3, eB3, eg3, eh3, ec3⟩ := hr.at (((trAs Ls).length - 1 - t)) (by have := hr.len; omega)
    refine lsw (want_none (by rfl)) (y_ixR (s := r) (el := 30) (k := 8) (i := ((trAs Ls).length - 1 - t)) (iI := (((trAs Ls).length : Int) - 1 - (t : Int))) eA3 (by kernel_rfl) (by kernel_rfl) (by omega) (by have := hr.len; omega) rfl rfl rfl) rfl (by decide) ?_
    refine lsw (want_none (by rfl)) (y_fld (off := 0) (by kernel_rfl) rfl rfl) rfl (by decide) ?_
    refine lsw (want_none (by rfl)) (y_celld (ec3 0 _ rfl) (by kernel_rfl) rfl rfl) rfl (by decide) ?_
    by_cases c4 : eL3.kind = 0
    · refine lsw (want_none (by rfl)) (yb (nd_f c4) (yi_neq rfl rfl rfl)) rfl (by decide) ?_
      refine lg_nil ?_
      refine nx (E' := [(0, _), (3, _), (9, _), (10, _), (13, _), (14, _), (15, _), (16, _), (17, _), (18, _)]) (fk rfl (fk rfl (fk rfl (fk rfl (fk rfl (fk rfl (fk rfl (fk rfl (fk rfl (fk rfl fn)))))))))) ?_
      refine cg_cf rfl ?_
      refine cg_skip ?_
      refine eg_block_norm ?_
      refine nx (E' := [(0, _), (3, _), (9, _), (10, _), (13, _), (14, _), (15, _), (16, _), (17, _), (18, _)]) (fk rfl (fk rfl (fk rfl (fk rfl (fk rfl (fk rfl (fk rfl (fk rfl (fk rfl (fk rfl fn)))))))))) ?_
      refine cg_region ?_
      refine lsw (want_none (by rfl)) (y_move rfl rfl) rfl (by decide) ?_
      refine lsw (want_none (by rfl)) (yv (congrArg nv (show (((trAs Ls).length : Int) - 1 - (t : Int)) - 1 = ((trAs Ls).length : Int) - 1 - ((t + 1 : Nat) : Int) by omega)) (yi_sub rfl rfl rfl (by omega) (by omega))) rfl (by decide) ?_
      refine lsw (want_none (by rfl)) (y_assign rfl rfl) rfl (by decide) ?_
      refine lg_nil ?_
      exact fun a ha => (show t < (Ls.length + 200) ∧ _ from ⟨(by omega), r, ha.keep (fk rfl (fk rfl fn)), hr, u, (fun j h1 h2 => by by_cases q : j = (trAs Ls).length - 1 - t; rw [q]; exact at_kind (p := fun k => k = 0) eg3 c4; exact hk j (by omega) h2), (by omega)⟩)
    · refine lsw (want_none (by rfl)) (yb (nd_t c4) (yi_neq rfl rfl rfl)) rfl (by decide) ?_
      refine lg_nil ?_
      refine nx (E' := [(0, _), (3, _), (9, _), (10, _), (13, _), (14, _), (15, _), (16, _), (17, _), (18, _)]) (fk rfl (fk rfl (fk rfl (fk rfl (fk rfl (fk rfl (fk rfl (fk rfl (fk rfl (fk rfl fn)))))))))) ?_
      refine cg_ct rfl ?_
      refine cg_seq ?_
      refine cg_region ?_
      refine lsw (want_none (by rfl)) (y_move rfl rfl) rfl (by decide) ?_
      refine lsw (want_none (by rfl)) (y_assign rfl rfl) rfl (by decide) ?_
      refine lg_nil ?_
      refine nx (E' := [(0, _), (3, _), (9, _), (10, _), (13, _), (14, _), (15, _), (16, _), (17, _), (18, _), (19, _), (2, _)]) (fk rfl (fk rfl (fk rfl (fk rfl (fk rfl (fk rfl (fk rfl (fk rfl (fk rfl (fk rfl (fk rfl (fk rfl fn)))))))))))) ?_
      refine cg_ret ?_
      refine eg_block_ret ?_
      refine eg_seq_ret ?_
      refine eg_seq_ret ?_
      refine eg_block_ret ?_
      refine eg_seq_ret ?_
      exact eg_ret_tmp rfl rfl ⟨_, rfl, congrArg nv ((show (((trAs Ls).length : Int) - 1 - (t : Int)) = (((trAs Ls).length - 1 - t : Nat) : Int) by omega).trans (lastA_one (by omega) (at_kind (p := fun k => k ≠ 0) eg3 c4) (fun j h1 h2 => hk j (by omega) h2)).symm), u⟩
  · refine lsw (want_none (by rfl)) (yb (decide_eq_false c2) (yi_geq rfl rfl rfl)) rfl (by decide) ?_
    refine lg_nil ?_
    refine nx (E' := [(0, _), (3, _), (9, _), (10, _)]) (fk rfl (fk rfl (fk rfl (fk rfl fn)))) ?_
    refine cg_cf rfl ?_
    refine cg_exit ?_
    refine eg_seq_exit ?_
    refine eg_seq_exit ?_
    refine eg_block_exit ?_
    refine nx (E' := []) fn ?_
    refine cg_seq ?_
    refine cg_region ?_
    refine lsw (want_none (by rfl)) (y_assign rfl rfl) rfl (by decide) ?_
    refine lg_nil ?_
    refine nx (E' := [(2, _)]) (fk rfl fn) ?_
    refine cg_ret ?_
    exact eg_ret_tmp rfl rfl ⟨_, rfl, congrArg nv (lastA_no (fun j hj => hk j (by omega) hj)).symm, u⟩
theorem hasLeaf_any {W : World} {B : Nat} {s : SlV} {Ls : List Nd} (h : RwNd W B s Ls) (hB : B ≤ W.heap.size) : Calls Tryd.prog 41 #[s.v] W fun e W' => ∃ v, e = .returned v ∧ v = .bool (decide (¬ noLeaf Ls)) ∧ Below W.heap.size W W' := by
  refine calls_cg (n := 15) Tryd.func41 rfl Tryd.ntmps41 (by simp) ?_
  show CG _ _ _ [(0, s.v)] _ _
  have u := Below.refl W.heap.size W
  have h := h.more hB
  have q1 := h.len
  have q2 := h.cap
  refine cg_seq ?_
  refine cg_region ?_
  refine lsw (want_none (by rfl)) (y_assign rfl rfl) rfl (by decide) ?_
  refine lg_nil ?_
  refine nx (E' := [(0, _), (2, _)]) (fk rfl (fk rfl fn)) ?_
  refine cg_seq ?_
  refine cg_seq ?_
  refine cg_region ?_
  refine lsw (want_none (by rfl)) (y_move rfl rfl) rfl (by decide) ?_
  refine lsw (want_none (by rfl)) (y_lenM (el := 30) h.len (by kernel_rfl) rfl rfl) rfl (by decide) ?_
  refine lsw (want_none (by rfl)) (y_move rfl rfl) rfl (by decide) ?_
  refine lg_nil ?_
  refine nx (E' := [(2, _), (5, _), (6, _), (7, _)]) (fk rfl (fk rfl (fk rfl (fk rfl fn)))) ?_
  refine cg_block ?_
  refine cg_loopE (fun t a v => Holds 15 [(5, s.v), (6, nv (Ls.length : Int)), (7, nv ((t : Nat) : Int))] a ∧ RwNd v W.heap.size s Ls ∧ Below W.heap.size W v ∧ ∀ i, i < t → (atN Ls i).kind ≠ 1) (Ls.length + 1) (fun a ha => ⟨ha.keep (fk rfl (fk rfl (fk rfl fn))), h, u, (fun i hi => absurd hi (by omega))⟩) ?_
  rintro t a v ht ⟨ha, h, u, hk⟩
  refine cg_at ha ?_
  clear ha a
  have zv := u.size
  have q1 := h.len
  have q2 := h.cap
  refine cg_seq ?_
  refine cg_region ?_
  by_cases c1 : ((t : Nat) : Int) < (Ls.length : Int)
  · refine lsw (want_none (by rfl)) (yb (decide_eq_true c1) (yi_lss rfl rfl rfl)) rfl (by decide) ?_
    refine lg_nil ?_
    refine nx (E' := [(5, _), (6, _), (7, _), (8, _)]) (fk rfl (fk rfl (fk rfl (fk rfl fn)))) ?_
    refine cg_seq ?_
    refine cg_ct rfl ?_
    refine cg_skip ?_
    refine nx (E' := [(5, _), (6, _), (7, _), (8, _)]) (fk rfl (fk rfl (fk rfl (fk rfl fn)))) ?_
    refine cg_seq ?_
    refine cg_block ?_
    refine cg_seq ?_
    refine cg_region ?_
    obtain ⟨eb2, eo2, el2, eL2, eA2, eB2, eg2, eh2, ec2⟩ := h.at (t) (by have := h.len; omega)
    refine lsw (want_none (by rfl)) (y_ixR (s := s) (el := 30) (k := 8) (i := t) (iI := ((t : Nat) : Int)) eA2 (by kernel_rfl) (by kernel_rfl) (by omega) (by have := h.len; omega) rfl rfl rfl) rfl (by decide) ?_
    refine lsw (want_none (by rfl)) (y_loadC (cs := el2.cs eL2) ec2 (by kernel_rfl) (by kernel_rfl) rfl rfl) rfl (by decide) ?_
    refine lg_allocw (cs := NdV.zero.cs Nd.zero) (want_none (by rfl)) rfl (by kernel_rfl) rfl (by decide) fun b3 w3 n3 => ?_
    have r3 := n3.row
    have k3 := n3.blk
    have z3 := n3.size
    have lt3 : b3 < w3.heap.size := by omega
    have o4 := r3
    refine lg_stw (want_none (by rfl)) r3 rfl rfl rfl (by kernel_rfl) (by kernel_rfl) rfl rfl fun w4 s4 => ?_
    have r3 := s4.row
    have z4 := s4.size
    refine lg_nil ?_
    refine nx (E' := [(5, _), (6, _), (7, _), (8, _), (9, _), (10, _), (4, _)]) (fk rfl (fk rfl (fk rfl (fk rfl (fk rfl (fk rfl (fk rfl fn))))))) ?_
    refine cg_seq ?_
    refine cg_region ?_
    refine lsw (want_none (by rfl)) (y_fld (off := 0) (by kernel_rfl) rfl rfl) rfl (by decide) ?_
    refine lsw (want_none (by rfl)) (y_cellv (v := nv eL2.kind) r3 rfl (by kernel_rfl) rfl rfl) rfl (by decide) ?_
    by_cases c5 : eL2.kind = 1
    · refine lsw (want_none (by rfl)) (yb (decide_eq_true c5) (yi_eql rfl rfl rfl)) rfl (by decide) ?_
      refine lg_nil ?_
      refine nx (E' := [(5, _), (6, _), (7, _), (8, _), (9, _), (10, _), (4, _), (11, _), (12, _), (13, _)]) (fk rfl (fk rfl (fk rfl (fk rfl (fk rfl (fk rfl (fk rfl (fk rfl (fk rfl (fk rfl fn)))))))))) ?_
      refine cg_ct rfl ?_
      refine cg_seq ?_
      refine cg_region ?_
      refine lsw (want_none (by rfl)) (y_assign rfl rfl) rfl (by decide) ?_
      refine lg_nil ?_
      refine nx (E' := [(5, _), (6, _), (7, _), (8, _), (9, _), (10, _), (4, _), (11, _), (12, _), (13, _), (2, _)]) (fk rfl (fk rfl (fk rfl (fk rfl (fk rfl (fk rfl (fk rfl (fk rfl (fk rfl (fk rfl (fk rfl fn))))))))))) ?_
      refine cg_ret ?_
      refine eg_block_ret ?_
      refine eg_seq_ret ?_
      refine eg_seq_ret ?_
      refine eg_block_ret ?_
      refine eg_seq_ret ?_
      have u := u.trans (n3.below.mono u.size)
      have u := u.trans (s4.below _ (by omega))
      exact eg_ret_tmp rfl rfl ⟨_, rfl, congrArg Value.bool (decide_eq_true (noLeaf_bad eg2 c5)).symm, u⟩
    · refine lsw (want_none (by rfl)) (yb (decide_eq_false c5) (yi_eql rfl rfl rfl)) rfl (by decide) ?_
      refine lg_nil ?_
      refine nx (E' := [(5, _), (6, _), (7, _), (8, _), (9, _), (10, _), (4, _), (11, _), (12, _), (13, _)]) (fk rfl (fk rfl (fk rfl (fk rfl (fk rfl (fk rfl (fk rfl (fk rfl (fk rfl (fk rfl fn)))))))))) ?_
      refine cg_cf rfl ?_
      refine cg_skip ?_
      refine eg_block_norm ?_
      refine nx (E' := [(5, _), (6, _), (7, _), (8, _), (9, _), (10, _), (4, _), (11, _), (12, _), (13, _)]) (fk rfl (fk rfl (fk rfl (fk rfl (fk rfl (fk rfl (fk rfl (fk rfl (fk rfl (fk rfl fn)))))))))) ?_
      refine cg_region ?_
      refine lsw (want_none (by rfl)) (yv (congrArg nv (show ((t : Nat) : Int) + 1 = ((t + 1 : Nat) : Int) by omega)) (yi_add rfl rfl rfl (by omega) (by omega))) rfl (by decide) ?_
      refine lsw (want_none (by rfl)) (y_move rfl rfl) rfl (by decide) ?_
      refine lg_nil ?_
      have h := h.below (n3.below.mono (by omega))
      have h := h.below (s4.below _ (by omega))
      have u := u.trans (n3.below.mono u.size)
      have u := u.trans (s4.below _ (by omega))
      exact fun a ha => (show t < (Ls.length + 1) ∧ _ from ⟨(by omega), ha.keep (fk rfl (fk rfl (fk rfl fn))), h, u, (ok_step (p := fun _ L => L.kind ≠ 1) hk eg2 c5)⟩)
  · refine lsw (want_none (by rfl)) (yb (decide_eq_false c1) (yi_lss rfl rfl rfl)) rfl (by decide) ?_
    refine lg_nil ?_
    refine nx (E' := [(5, _), (6, _), (7, _), (8, _)]) (fk rfl (fk rfl (fk rfl (fk rfl fn)))) ?_
    refine cg_seq ?_
    refine cg_cf rfl ?_
    refine cg_exit ?_
    refine eg_seq_exit ?_
    refine eg_seq_exit ?_
    refine eg_block_exit ?_
    refine nx (E' := []) fn ?_
    refine cg_seq ?_
    refine cg_region ?_
    refine lsw (want_none (by rfl)) (y_assign rfl rfl) rfl (by decide) ?_
    refine lg_nil ?_
    refine nx (E' := [(2, _)]) (fk rfl fn) ?_
    refine cg_ret ?_
    exact eg_ret_tmp rfl rfl ⟨_, rfl, congrArg Value.bool (decide_eq_false (fun q => q fun i hi => hk i (by omega))).symm, u⟩
theorem root_half {a : List Nd} (h : trIs a) (h1 : 0 < a.length) : rootI (a.length : Int) = ((a.length / 2 : Nat) : Int) := by
  have hl := trIs_len h
  rw [root_is (by unfold isW; omega)]
  omega
theorem trim_fuel {n k : Nat} (h : n < 2 ^ k) (h1 : 1 < n) : ∃ j, k = j + 1 ∧ n / 2 < 2 ^ j := by
  cases k with
  | zero =>
    simp at h
    omega
  | succ j =>
    refine ⟨j, rfl, ?_⟩
    rw [Nat.pow_succ] at h
    omega
theorem trimL_mid {Ls a : List Nd} {k : Nat} (hval : trimN k a = trimN 7 (trAs Ls)) (h1 : 1 < a.length) (h2 : ¬ noLeaf (a.drop (a.length / 2 + 1))) : a = trimL Ls := by
  unfold trimL
  rw [← hval, trim_stop k (fun q => h2 q.2)]
  exact (if_neg (fun q => by omega)).symm
theorem trimL_out {Ls a : List Nd} {k : Nat} (hval : trimN k a = trimN 7 (trAs Ls)) (h1 : ¬ 1 < a.length) : endA a = trimL Ls := by
  unfold trimL
  rw [← hval, trim_stop k (fun q => h1 q.1)]
theorem set_cat {a : List Nd} {i : Nat} {L : Nd} (hi : i < a.length) : a.take i ++ [L] ++ a.drop (i + 1) = a.set i L := by
  rw [List.set_eq_take_append_cons_drop, if_pos hi, List.append_assoc]
  rfl
theorem setE_range {a : List Nd} {x : Int} {L : Nd} (h : ¬ isN x ((trAs a).length : Int)) : setE a x L = 3 := if_pos h
theorem setE_check {a : List Nd} {x : Int} {L : Nd} (h : isN x ((trAs a).length : Int)) (h2 : ¬ ndCheck L = 0) : setE a x L = ndCheck L := by
  unfold setE
  rw [if_neg (fun q => q h), if_pos h2]
theorem setE_fit {a : List Nd} {x : Int} {L : Nd} (h : isN x ((trAs a).length : Int)) (h2 : ndCheck L = 0) (h3 : ¬ fitK x.toNat L.kind) : setE a x L = 7 := by
  unfold setE
  rw [if_neg (fun q => q h), if_neg (fun q => q h2), if_pos h3]
theorem growE_64 {a : List Nd} (h : ((leavesA (trAs a) : Nat) : Int) = 64) : growE a = 10 := if_pos (by omega)
theorem growE_0 {a : List Nd} (h : ¬ ((leavesA (trAs a) : Nat) : Int) = 64) : growE a = 0 := if_neg (by omega)
theorem halves_any {W : World} {B : Nat} {s : SlV} {Ls : List Nd} (h : RwNd W B s Ls) (hB : B ≤ W.heap.size) (ht : trIs Ls) (h1 : 0 < Ls.length) : Calls Tryd.prog 40 #[s.v] W fun e W' => ∃ v, e = .returned v ∧ ∃ s1 s2 : SlV, v = .tuple #[s1.v, s2.v] ∧ RwNd W' B s1 (Ls.take (Ls.length / 2)) ∧ RwNd W' B s2 (Ls.drop (Ls.length / 2 + 1)) ∧ s1.c = s1.m ∧ Below W.heap.size W W' := by
  refine calls_cg (n := 20) Tryd.func40 rfl Tryd.ntmps40 (by simp) ?_
  show CG _ _ _ [(0, s.v)] _ _
  have u := Below.refl W.heap.size W
  have q1 := h.len
  have q2 := h.cap
  have q3 := trIs_le ht
  refine cg_seq ?_
  refine cg_region ?_
  refine lsw (want_none (by rfl)) (y_assign rfl rfl) rfl (by decide) ?_
  refine lsw (want_none (by rfl)) (y_assign rfl rfl) rfl (by decide) ?_
  refine lg_nil ?_
  refine nx (E' := [(0, _), (2, _), (3, _)]) (fk rfl (fk rfl (fk rfl fn))) ?_
  refine cg_seq ?_
  refine cg_region ?_
  refine lsw (want_none (by rfl)) (y_move rfl rfl) rfl (by decide) ?_
  refine lsw (want_none (by rfl)) (y_lenM (el := 30) h.len (by kernel_rfl) rfl rfl) rfl (by decide) ?_
  refine lsw (want_none (by rfl)) (yv (congrArg nv (root_half ht h1)) (y_call (rootL (Ls.length : Int) _) (by kernel_rfl) rfl rfl)) rfl (by decide) ?_
  refine lsw (want_none (by rfl)) (y_assign rfl rfl) rfl (by decide) ?_
  refine lg_nil ?_
  refine nx (E' := [(0, _), (2, _), (3, _), (4, _)]) (fk rfl (fk rfl (fk rfl (fk rfl fn)))) ?_
  refine cg_seq ?_
  refine cg_still (by kernel_rfl) (by kernel_rfl) fun W1 eW1 => ?_
  have dW1 := below_drew _ _ eW1
  have zW1 := size_drew _ _ eW1
  clear eW1
  refine stw (want_none (by rfl)) (y_move rfl rfl) rfl (by decide) ?_
  refine stw (want_none (by rfl)) (y_move rfl rfl) rfl (by decide) ?_
  refine stw (want_none (by rfl)) (y_move rfl rfl) rfl (by decide) ?_
  have h := h.below (dW1.mono (by omega))
  have cu2 := h.cut 0 (Ls.length / 2) (Ls.length / 2) (by have q1 := h.len; have q2 := h.cap; omega) (by have q1 := h.len; have q2 := h.cap; omega) (by have q1 := h.len; have q2 := h.cap; omega) (by have q1 := h.len; have q2 := h.cap; omega) |>.cast (by rw [List.drop_zero])
  refine stw (want_none (by rfl)) (y_cutR_hm (s := s) (Ls.length / 2) (Ls.length / 2) (hi := ((Ls.length / 2 : Nat) : Int)) (mx := ((Ls.length / 2 : Nat) : Int)) (by have q1 := h.len; have q2 := h.cap; omega) (by have q1 := h.len; have q2 := h.cap; omega) (by have q1 := h.len; have q2 := h.cap; omega) (by have q1 := h.len; have q2 := h.cap; omega) rfl rfl rfl rfl) rfl (by decide) ?_
  refine stw (want_none (by rfl)) (y_move rfl rfl) rfl (by decide) ?_
  refine stw (want_none (by rfl)) (y_move rfl rfl) rfl (by decide) ?_
  refine stw (want_none (by rfl)) (yv (congrArg nv (show ((Ls.length / 2 : Nat) : Int) + 1 = ((Ls.length / 2 + 1 : Nat) : Int) by omega)) (yi_add rfl rfl rfl (by omega) (by omega))) rfl (by decide) ?_
  refine stw (want_none (by rfl)) (y_move rfl rfl) rfl (by decide) ?_
  refine stw (want_none (by rfl)) (y_lenM (el := 30) h.len (by kernel_rfl) rfl rfl) rfl (by decide) ?_
  refine stw (want_none (by rfl)) (y_move rfl rfl) rfl (by decide) ?_
  refine stw (want_none (by rfl)) (y_lenM (el := 30) h.len (by kernel_rfl) rfl rfl) rfl (by decide) ?_
  have cu3 := h.cut (Ls.length / 2 + 1) Ls.length Ls.length (by have q1 := h.len; have q2 := h.cap; omega) (by have q1 := h.len; have q2 := h.cap; omega) (by have q1 := h.len; have q2 := h.cap; omega) (by have q1 := h.len; have q2 := h.cap; omega) |>.cast (by rw [List.take_length])
  refine stw (want_none (by rfl)) (y_cutR_lhm (s := s) (Ls.length / 2 + 1) Ls.length Ls.length (lo := ((Ls.length / 2 + 1 : Nat) : Int)) (hi := (Ls.length : Int)) (mx := (Ls.length : Int)) (by have q1 := h.len; have q2 := h.cap; omega) (by have q1 := h.len; have q2 := h.cap; omega) (by have q1 := h.len; have q2 := h.cap; omega) (by have q1 := h.len; have q2 := h.cap; omega) (by have q1 := h.len; have q2 := h.cap; omega) (by have q1 := h.len; have q2 := h.cap; omega) rfl rfl rfl rfl rfl) rfl (by decide) ?_
  refine stw (want_none (by rfl)) (y_assign rfl rfl) rfl (by decide) ?_
  refine stw (want_none (by rfl)) (y_assign rfl rfl) rfl (by decide) ?_
  refine sg_nil ?_
  refine nx (E' := [(2, _), (3, _)]) (fk rfl (fk rfl fn)) ?_
  refine cg_ret ?_
  have u := u.trans (dW1.mono u.size)
  exact eg_ret_tmp2 rfl rfl rfl ⟨_, rfl, _, _, rfl, cu2, cu3, rfl, u⟩
theorem trim_any {W : World} {B : Nat} {s : SlV} {Ls : List Nd} (h : RwNd W B s Ls) (hB : B ≤ W.heap.size) : Calls Tryd.prog 15 #[s.v] W fun e W' => ∃ v, e = .returned v ∧ ∃ s' : SlV, v = s'.v ∧ RwNd W' B s' (trimL Ls) ∧ Below W.heap.size W W' := by
  refine calls_cg (n := 23) Tryd.func15 rfl Tryd.ntmps15 (by simp) ?_
  show CG _ _ _ [(0, s.v)] _ _
  have u := Below.refl W.heap.size W
  refine cg_seq ?_
  refine cg_region ?_
  refine lsw (want_none (by rfl)) (y_assign rfl rfl) rfl (by decide) ?_
  refine lg_nil ?_
  refine nx (E' := [(0, _), (2, _)]) (fk rfl (fk rfl fn)) ?_
  refine cg_seq ?_
  refine cg_region ?_
  refine lsw (want_none (by rfl)) (y_move rfl rfl) rfl (by decide) ?_
  refine lg_callw (want_none (by rfl)) (tree_any h (by omega)) (by kernel_rfl) rfl rfl rfl (by decide) ?_
  rintro _ w1 ⟨s1, rfl, m1, f1, hw1⟩
  have zw1 := hw1.size
  have tl1 := trAs_le Ls
  refine lsw (want_none (by rfl)) (y_assign rfl rfl) rfl (by decide) ?_
  refine lg_nil ?_
  refine nx (E' := [(2, _), (0, _)]) (fk rfl (fk rfl fn)) ?_
  refine cg_seq ?_
  refine cg_block ?_
  have u := u.trans (hw1.mono u.size)
  refine cg_loopE (fun t a v => ∃ (r : SlV) (ca : List Nd) (k : Nat), Holds 23 [(0, r.v)] a ∧ RwNd v B r ca ∧ Below W.heap.size W v ∧ trIs ca ∧ t + k = 7 ∧ ca.length < 2 ^ k ∧ trimN k ca = trimN 7 (trAs Ls)) 8 (fun a ha => ⟨s1, _, 7, ha.keep (fk rfl fn), m1, u, (trAs_is Ls), rfl, (by have := trAs_le Ls; omega), rfl⟩) ?_
  rintro t a v ht ⟨r, ca, k, ha, hr, u, hti, hk, hlen, hval⟩
  refine cg_at ha ?_
  clear ha a
  have zv := u.size
  have q1 := hr.len
  have q2 := hr.cap
  have q3 := trIs_le hti
  refine cg_seq ?_
  refine cg_seq ?_
  refine cg_region ?_
  refine lsw (want_none (by rfl)) (y_move rfl rfl) rfl (by decide) ?_
  refine lsw (want_none (by rfl)) (y_lenM (el := 30) hr.len (by kernel_rfl) rfl rfl) rfl (by decide) ?_
  by_cases c2 : 1 < (ca.length : Int)
  · refine lsw (want_none (by rfl)) (yb (decide_eq_true c2) (yi_gtr rfl rfl rfl)) rfl (by decide) ?_
    refine lg_nil ?_
    refine nx (E' := [(0, _), (7, _), (8, _), (9, _)]) (fk rfl (fk rfl (fk rfl (fk rfl fn)))) ?_
    refine cg_ct rfl ?_
    refine cg_skip ?_
    refine nx (E' := [(0, _), (7, _), (8, _), (9, _)]) (fk rfl (fk rfl (fk rfl (fk rfl fn)))) ?_
    refine cg_block ?_
    refine cg_seq ?_
    refine cg_region ?_
    refine lsw (want_none (by rfl)) (y_move rfl rfl) rfl (by decide) ?_
    refine lg_callw (want_none (by rfl)) (halves_any hr (by omega) hti (by omega)) (by kernel_rfl) rfl rfl rfl (by decide) ?_
    rintro _ w3 ⟨s3, r3, rfl, m3, n3, f3, hw3⟩
    have zw3 := hw3.size
    refine lsw (want_none (by rfl)) (y_move rfl rfl) rfl (by decide) ?_
    refine lsw (want_none (by rfl)) (y_extract rfl rfl rfl) rfl (by decide) ?_
    refine lsw (want_none (by rfl)) (y_extract rfl rfl rfl) rfl (by decide) ?_
    refine lsw (want_none (by rfl)) (y_assign rfl rfl) rfl (by decide) ?_
    refine lsw (want_none (by rfl)) (y_assign rfl rfl) rfl (by decide) ?_
    refine lg_nil ?_
    refine nx (E' := [(0, _), (7, _), (8, _), (9, _), (11, _), (12, _), (10, _), (13, _), (14, _), (3, _), (4, _)]) (fk rfl (fk rfl (fk rfl (fk rfl (fk rfl (fk rfl (fk rfl (fk rfl (fk rfl (fk rfl (fk rfl fn))))))))))) ?_
    refine cg_seq ?_
    refine cg_seq ?_
    refine cg_region ?_
    refine lsw (want_none (by rfl)) (y_move rfl rfl) rfl (by decide) ?_
    by_cases c4 : ¬ noLeaf (ca.drop (ca.length / 2 + 1))
    · refine lg_callw (want_none (by rfl)) (hasLeaf_any (n3.more (B' := w3.heap.size) (by omega)) (Nat.le_refl _)) (by kernel_rfl) rfl rfl rfl (by decide) ?_
      rintro u5 w5 ⟨e5, hw5⟩
      have zw5 := hw5.size
      obtain rfl : u5 = .bool true := e5.trans (congrArg Value.bool (decide_eq_true c4))
      refine lg_nil ?_
      refine nx (E' := [(0, _), (7, _), (8, _), (9, _), (11, _), (12, _), (10, _), (13, _), (14, _), (3, _), (4, _), (15, _), (16, _)]) (fk rfl (fk rfl (fk rfl (fk rfl (fk rfl (fk rfl (fk rfl (fk rfl (fk rfl (fk rfl (fk rfl (fk rfl (fk rfl fn))))))))))))) ?_
      refine cg_ct rfl ?_
      refine cg_seq ?_
      refine cg_region ?_
      refine lsw (want_none (by rfl)) (y_move rfl rfl) rfl (by decide) ?_
      refine lsw (want_none (by rfl)) (y_assign rfl rfl) rfl (by decide) ?_
      refine lg_nil ?_
      refine nx (E' := [(0, _), (7, _), (8, _), (9, _), (11, _), (12, _), (10, _), (13, _), (14, _), (3, _), (4, _), (15, _), (16, _), (17, _), (2, _)]) (fk rfl (fk rfl (fk rfl (fk rfl (fk rfl (fk rfl (fk rfl (fk rfl (fk rfl (fk rfl (fk rfl (fk rfl (fk rfl (fk rfl (fk rfl fn))))))))))))))) ?_
      refine cg_ret ?_
      refine eg_seq_ret ?_
      refine eg_block_ret ?_
      refine eg_seq_ret ?_
      refine eg_block_ret ?_
      refine eg_seq_ret ?_
      have hr := hr.below (hw3.mono (by omega))
      have hr := hr.below (hw5.mono (by omega))
      have u := u.trans (hw3.mono u.size)
      have u := u.trans (hw5.mono u.size)
      exact eg_ret_tmp rfl rfl ⟨_, rfl, _, rfl, hr.cast (trimL_mid hval (by omega) c4), u⟩
    · refine lg_callw (want_none (by rfl)) (hasLeaf_any (n3.more (B' := w3.heap.size) (by omega)) (Nat.le_refl _)) (by kernel_rfl) rfl rfl rfl (by decide) ?_
      rintro u6 w6 ⟨e6, hw6⟩
      have zw6 := hw6.size
      obtain rfl : u6 = .bool false := e6.trans (congrArg Value.bool (decide_eq_false c4))
      refine lg_nil ?_
      refine nx (E' := [(0, _), (7, _), (8, _), (9, _), (11, _), (12, _), (10, _), (13, _), (14, _), (3, _), (4, _), (15, _), (16, _)]) (fk rfl (fk rfl (fk rfl (fk rfl (fk rfl (fk rfl (fk rfl (fk rfl (fk rfl (fk rfl (fk rfl (fk rfl (fk rfl fn))))))))))))) ?_
      refine cg_cf rfl ?_
      refine cg_skip ?_
      refine nx (E' := [(0, _), (7, _), (8, _), (9, _), (11, _), (12, _), (10, _), (13, _), (14, _), (3, _), (4, _), (15, _), (16, _)]) (fk rfl (fk rfl (fk rfl (fk rfl (fk rfl (fk rfl (fk rfl (fk rfl (fk rfl (fk rfl (fk rfl (fk rfl (fk rfl fn))))))))))))) ?_
      refine cg_region ?_
      refine lsw (want_none (by rfl)) (y_move rfl rfl) rfl (by decide) ?_
      refine lsw (want_none (by rfl)) (y_assign rfl rfl) rfl (by decide) ?_
      refine lg_nil ?_
      refine eg_block_norm ?_
      obtain ⟨j, rfl, hj⟩ := trim_fuel hlen (by omega)
      have m3 := m3.below (hw6.mono (by omega))
      have u := u.trans (hw3.mono u.size)
      have u := u.trans (hw6.mono u.size)
      exact fun a ha => (show t < 8 ∧ _ from ⟨(by omega), s3, _, j, ha.keep (fk rfl fn), m3, u, (trIs_half hti (by omega)), (by omega), (by rw [List.length_take]; omega), ((trim_step j (by omega) (Classical.not_not.1 c4)).symm.trans hval)⟩)
  · refine lsw (want_none (by rfl)) (yb (decide_eq_false c2) (yi_gtr rfl rfl rfl)) rfl (by decide) ?_
    refine lg_nil ?_
    refine nx (E' := [(0, _), (7, _), (8, _), (9, _)]) (fk rfl (fk rfl (fk rfl (fk rfl fn)))) ?_
    refine cg_cf rfl ?_
    refine cg_exit ?_
    refine eg_seq_exit ?_
    refine eg_seq_exit ?_
    refine eg_block_exit ?_
    refine nx (E' := [(0, _)]) (fk rfl fn) ?_
    refine cg_seq ?_
    refine cg_seq ?_
    refine cg_region ?_
    refine lsw (want_none (by rfl)) (y_move rfl rfl) rfl (by decide) ?_
    by_cases c7 : ¬ noLeaf ca
    · refine lg_callw (want_none (by rfl)) (hasLeaf_any (hr.more (B' := v.heap.size) (by omega)) (Nat.le_refl _)) (by kernel_rfl) rfl rfl rfl (by decide) ?_
      rintro u8 w8 ⟨e8, hw8⟩
      have zw8 := hw8.size
      obtain rfl : u8 = .bool true := e8.trans (congrArg Value.bool (decide_eq_true c7))
      refine lsw (want_none (by rfl)) (y_bnot rfl rfl) rfl (by decide) ?_
      refine lg_nil ?_
      refine nx (E' := [(0, _), (21, _)]) (fk rfl (fk rfl fn)) ?_
      refine cg_cf rfl ?_
      refine cg_skip ?_
      refine nx (E' := [(0, _)]) (fk rfl fn) ?_
      refine cg_seq ?_
      refine cg_region ?_
      refine lsw (want_none (by rfl)) (y_move rfl rfl) rfl (by decide) ?_
      refine lsw (want_none (by rfl)) (y_assign rfl rfl) rfl (by decide) ?_
      refine lg_nil ?_
      refine nx (E' := [(2, _)]) (fk rfl fn) ?_
      refine cg_ret ?_
      have hr := hr.below (hw8.mono (by omega))
      have u := u.trans (hw8.mono u.size)
      exact eg_ret_tmp rfl rfl ⟨_, rfl, _, rfl, hr.cast ((if_neg (fun q => c7 q.2) : endA ca = ca).symm.trans (trimL_out hval (by omega))), u⟩
    · refine lg_callw (want_none (by rfl)) (hasLeaf_any (hr.more (B' := v.heap.size) (by omega)) (Nat.le_refl _)) (by kernel_rfl) rfl rfl rfl (by decide) ?_
      rintro u9 w9 ⟨e9, hw9⟩
      have zw9 := hw9.size
      obtain rfl : u9 = .bool false := e9.trans (congrArg Value.bool (decide_eq_false c7))
      refine lsw (want_none (by rfl)) (y_bnot rfl rfl) rfl (by decide) ?_
      refine lg_nil ?_
      refine nx (E' := [(0, _), (21, _)]) (fk rfl (fk rfl fn)) ?_
      refine cg_ct rfl ?_
      refine cg_seq ?_
      refine cg_region ?_
      refine lsw (want_none (by rfl)) (y_assign rfl rfl) rfl (by decide) ?_
      refine lg_nil ?_
      refine nx (E' := [(0, _), (2, _)]) (fk rfl (fk rfl fn)) ?_
      refine cg_ret ?_
      refine eg_seq_ret ?_
      have u := u.trans (hw9.mono u.size)
      exact eg_ret_tmp rfl rfl ⟨_, rfl, nilS, rfl, (RwNd.nil _ _).cast ((if_pos ⟨by omega, Classical.not_not.1 c7⟩ : endA ca = []).symm.trans (trimL_out hval (by omega))), u⟩
theorem set_any {W : World} {B : Nat} {s : SlV} {Ls : List Nd} {l : NdV} {L : Nd} (h : RwNd W B s Ls) (x : Int) (hl : IsNd W B l L) (hB : B ≤ W.heap.size) : Calls Tryd.prog 8 #[s.v, nv x, .agg (l.cs L)] W fun e W' => ∃ v, e = .returned v ∧ ∃ s' : SlV, v = .tuple #[s'.v, nv (setE Ls x L)] ∧ RwNd W' W'.heap.size s' (setL Ls x L) ∧ Below W.heap.size W W' := by
  refine calls_cg (n := 41) Tryd.func8 rfl Tryd.ntmps8 (by simp) ?_
  show CG _ _ _ [(0, s.v), (1, nv x), (2, .agg (l.cs L))] _ _
  have u := Below.refl W.heap.size W
  have q0 := trAs_le Ls
  refine cg_seq ?_
  refine cg_region ?_
  refine lg_boxw (want_none (by rfl)) rfl rfl (by kernel_rfl) rfl (by decide) fun b1 w1 n1 => ?_
  have r1 := n1.row
  have k1 := n1.blk
  have z1 := n1.size
  have lt1 : b1 < w1.heap.size := by omega
  refine lsw (want_none (by rfl)) (y_assign rfl rfl) rfl (by decide) ?_
  refine lsw (want_none (by rfl)) (y_assign rfl rfl) rfl (by decide) ?_
  refine lg_nil ?_
  refine nx (E' := [(0, _), (1, _), (5, _), (6, _), (7, _)]) (fk rfl (fk rfl (fk rfl (fk rfl (fk rfl fn))))) ?_
  refine cg_seq ?_
  refine cg_region ?_
  refine lsw (want_none (by rfl)) (y_move rfl rfl) rfl (by decide) ?_
  have h := h.below (n1.below.mono (by omega))
  refine lg_callw (want_none (by rfl)) (tree_any h (by omega)) (by kernel_rfl) rfl rfl rfl (by decide) ?_
  rintro _ w2 ⟨s2, rfl, m2, f2, hw2⟩
  have zw2 := hw2.size
  have tl2 := trAs_le Ls
  refine lsw (want_none (by rfl)) (y_assign rfl rfl) rfl (by decide) ?_
  refine lg_nil ?_
  refine nx (E' := [(1, _), (5, _), (6, _), (7, _), (0, _)]) (fk rfl (fk rfl (fk rfl (fk rfl (fk rfl fn))))) ?_
  refine cg_seq ?_
  refine cg_seq ?_
  refine cg_region ?_
  refine lsw (want_none (by rfl)) (y_move rfl rfl) rfl (by decide) ?_
  refine lsw (want_none (by rfl)) (y_move rfl rfl) rfl (by decide) ?_
  refine lsw (want_none (by rfl)) (y_lenM (el := 30) m2.len (by kernel_rfl) rfl rfl) rfl (by decide) ?_
  by_cases c3 : isN x ((trAs Ls).length : Int)
  · have hx := c3.le
    refine lsw (want_none (by rfl)) (yb (decide_eq_true c3) (y_call (isL_any x ((trAs Ls).length : Int) _) (by kernel_rfl) rfl rfl)) rfl (by decide) ?_
    refine lsw (want_none (by rfl)) (y_bnot rfl rfl) rfl (by decide) ?_
    refine lg_nil ?_
    refine nx (E' := [(1, _), (5, _), (6, _), (7, _), (0, _), (15, _)]) (fk rfl (fk rfl (fk rfl (fk rfl (fk rfl (fk rfl fn)))))) ?_
    refine cg_cf rfl ?_
    refine cg_skip ?_
    refine nx (E' := [(1, _), (5, _), (6, _), (7, _), (0, _)]) (fk rfl (fk rfl (fk rfl (fk rfl (fk rfl fn))))) ?_
    refine cg_seq ?_
    refine cg_seq ?_
    refine cg_region ?_
    have r1 := RowAt.below hw2 r1.lt r1
    refine lsw (want_none (by rfl)) (y_loadA r1 (by kernel_rfl) (by kernel_rfl) rfl rfl) rfl (by decide) ?_
    have hl := hl.below (n1.below.mono (by omega))
    have hl := hl.below (hw2.mono (by omega))
    refine lg_callw (want_none (by rfl)) (checkN_any (hl.more (B' := w2.heap.size) (by omega)) (Nat.le_refl _)) (by kernel_rfl) rfl rfl rfl (by decide) ?_
    rintro _ w4 ⟨rfl, hw4⟩
    have zw4 := hw4.size
    refine lsw (want_none (by rfl)) (y_assign rfl rfl) rfl (by decide) ?_
    refine lg_nil ?_
    refine nx (E' := [(1, _), (5, _), (6, _), (7, _), (0, _), (8, _)]) (fk rfl (fk rfl (fk rfl (fk rfl (fk rfl (fk rfl fn)))))) ?_
    refine cg_seq ?_
    refine cg_region ?_
    refine lsw (want_none (by rfl)) (y_move rfl rfl) rfl (by decide) ?_
    by_cases c5 : (ndCheck L) = 0
    · refine lsw (want_none (by rfl)) (yb (nd_f c5) (yi_neq rfl rfl rfl)) rfl (by decide) ?_
      refine lg_nil ?_
      refine nx (E' := [(1, _), (5, _), (6, _), (7, _), (0, _), (8, _), (19, _)]) (fk rfl (fk rfl (fk rfl (fk rfl (fk rfl (fk rfl (fk rfl fn))))))) ?_
      refine cg_cf rfl ?_
      refine cg_skip ?_
      refine nx (E' := [(1, _), (5, _), (6, _), (7, _), (0, _)]) (fk rfl (fk rfl (fk rfl (fk rfl (fk rfl fn))))) ?_
      refine cg_seq ?_
      refine cg_seq ?_
      refine cg_region ?_
      refine lsw (want_none (by rfl)) (yv (congrArg nv (show x = ((x.toNat : Nat) : Int) by omega)) (y_move rfl rfl)) rfl (by decide) ?_
      have r1 := RowAt.below hw4 r1.lt r1
      refine lsw (want_none (by rfl)) (y_loadA r1 (by kernel_rfl) (by kernel_rfl) rfl rfl) rfl (by decide) ?_
      have hl := hl.below (hw4.mono (by omega))
      by_cases c6 : fitK x.toNat L.kind
      · refine lg_callw (want_none (by rfl)) (mayStand_any x.toNat (hl.more (B' := w4.heap.size) (by omega)) (Nat.le_refl _)) (by kernel_rfl) rfl rfl rfl (by decide) ?_
        rintro u7 w7 ⟨e7, hw7⟩
        have zw7 := hw7.size
        obtain rfl : u7 = .bool true := e7.trans (congrArg Value.bool (decide_eq_true c6))
        refine lsw (want_none (by rfl)) (y_bnot rfl rfl) rfl (by decide) ?_
        refine lg_nil ?_
        refine nx (E' := [(1, _), (5, _), (6, _), (7, _), (0, _), (24, _)]) (fk rfl (fk rfl (fk rfl (fk rfl (fk rfl (fk rfl fn)))))) ?_
        refine cg_cf rfl ?_
        refine cg_skip ?_
        refine nx (E' := [(1, _), (5, _), (6, _), (7, _), (0, _)]) (fk rfl (fk rfl (fk rfl (fk rfl (fk rfl fn))))) ?_
        refine cg_seq ?_
        refine cg_held (by kernel_rfl) fun W8 eW8 => ?_
        have dW8 := below_drew _ _ eW8
        have zW8 := size_drew _ _ eW8
        clear eW8
        refine hg_take 0 (by rfl) (want_none (by rfl)) (by rfl) rfl (by decide) (by kernel_rfl) (by kernel_rfl) (by kernel_rfl) (fun _ _ _ h => h) (Below.refl _ _) (fun q hq => y_move rfl rfl) ?_
        refine hg_take 1 (by rfl) (want_none (by rfl)) (by rfl) rfl (by decide) (by kernel_rfl) (by kernel_rfl) (by kernel_rfl) (fun _ _ _ h => h) (Below.refl _ _) (fun q hq => yv (congrArg nv (show x = ((x.toNat : Nat) : Int) by omega)) (y_move rfl rfl)) ?_
        refine hg_take 2 (by rfl) (want_none (by rfl)) (by rfl) rfl (by decide) (by kernel_rfl) (by kernel_rfl) (by kernel_rfl) (fun _ _ _ h => h) (Below.refl _ _) (fun q hq => yv (congrArg nv (show x = ((x.toNat : Nat) : Int) by omega)) (y_move rfl rfl)) ?_
        have m2 := m2.below (hw4.mono (by omega))
        have m2 := m2.below (hw7.mono (by omega))
        have m2 := m2.below (dW8.mono (by omega))
        have cu9 := m2.cut 0 x.toNat x.toNat (by have q1 := m2.len; have q2 := m2.cap; omega) (by have q1 := m2.len; have q2 := m2.cap; omega) (by have q1 := m2.len; have q2 := m2.cap; omega) (by have q1 := m2.len; have q2 := m2.cap; omega) |>.cast (by rw [List.drop_zero])
        refine hg_take 3 (by rfl) (want_none (by rfl)) (by rfl) rfl (by decide) (by kernel_rfl) (by kernel_rfl) (by kernel_rfl) (fun _ _ _ h => h) (Below.refl _ _) (fun q hq => y_cutR_hm (s := s2) x.toNat x.toNat (hi := ((x.toNat : Nat) : Int)) (mx := ((x.toNat : Nat) : Int)) (by have q1 := m2.len; have q2 := m2.cap; omega) (by have q1 := m2.len; have q2 := m2.cap; omega) (by have q1 := m2.len; have q2 := m2.cap; omega) (by have q1 := m2.len; have q2 := m2.cap; omega) rfl rfl rfl rfl) ?_
        have r1 := RowAt.below hw7 r1.lt r1
        have r1 := RowAt.below dW8 r1.lt r1
        refine hg_take 4 (by rfl) (want_none (by rfl)) (by rfl) rfl (by decide) (by kernel_rfl) (by kernel_rfl) (by kernel_rfl) (fun _ _ _ h => h) (Below.refl _ _) (fun q hq => y_loadA (RowAt.below hq r1.lt r1) (by kernel_rfl) (by kernel_rfl) rfl rfl) ?_
        refine hg_take 6 (by rfl) (want_none (by rfl)) (by rfl) rfl (by decide) (by kernel_rfl) (by kernel_rfl) (by kernel_rfl) (fun _ _ _ h => h) (Below.refl _ _) (fun q hq => y_move rfl rfl) ?_
        refine hg_take 7 (by rfl) (want_none (by rfl)) (by rfl) rfl (by decide) (by kernel_rfl) (by kernel_rfl) (by kernel_rfl) (fun _ _ _ h => h) (Below.refl _ _) (fun q hq => yv (congrArg nv (show x = ((x.toNat : Nat) : Int) by omega)) (y_move rfl rfl)) ?_
        refine hg_take 8 (by rfl) (want_none (by rfl)) (by rfl) rfl (by decide) (by kernel_rfl) (by kernel_rfl) (by kernel_rfl) (fun _ _ _ h => h) (Below.refl _ _) (fun q hq => yv (congrArg nv (show ((x.toNat : Nat) : Int) + 1 = ((x.toNat + 1 : Nat) : Int) by omega)) (yi_add rfl rfl rfl (by omega) (by omega))) ?_
        refine hg_take 9 (by rfl) (want_none (by rfl)) (by rfl) rfl (by decide) (by kernel_rfl) (by kernel_rfl) (by kernel_rfl) (fun _ _ _ h => h) (Below.refl _ _) (fun q hq => y_move rfl rfl) ?_
        refine hg_take 10 (by rfl) (want_none (by rfl)) (by rfl) rfl (by decide) (by kernel_rfl) (by kernel_rfl) (by kernel_rfl) (fun _ _ _ h => h) (Below.refl _ _) (fun q hq => y_lenM (el := 30) m2.len (by kernel_rfl) rfl rfl) ?_
        refine hg_take 11 (by rfl) (want_none (by rfl)) (by rfl) rfl (by decide) (by kernel_rfl) (by kernel_rfl) (by kernel_rfl) (fun _ _ _ h => h) (Below.refl _ _) (fun q hq => y_move rfl rfl) ?_
        refine hg_take 12 (by rfl) (want_none (by rfl)) (by rfl) rfl (by decide) (by kernel_rfl) (by kernel_rfl) (by kernel_rfl) (fun _ _ _ h => h) (Below.refl _ _) (fun q hq => y_lenM (el := 30) m2.len (by kernel_rfl) rfl rfl) ?_
        have cu10 := m2.cut (x.toNat + 1) ((trAs Ls).length) ((trAs Ls).length) (by have q1 := m2.len; have q2 := m2.cap; omega) (by have q1 := m2.len; have q2 := m2.cap; omega) (by have q1 := m2.len; have q2 := m2.cap; omega) (by have q1 := m2.len; have q2 := m2.cap; omega) |>.cast (by rw [List.take_length])
        refine hg_take 13 (by rfl) (want_none (by rfl)) (by rfl) rfl (by decide) (by kernel_rfl) (by kernel_rfl) (by kernel_rfl) (fun _ _ _ h => h) (Below.refl _ _) (fun q hq => y_cutR_lhm (s := s2) (x.toNat + 1) ((trAs Ls).length) ((trAs Ls).length) (lo := ((x.toNat + 1 : Nat) : Int)) (hi := ((trAs Ls).length : Int)) (mx := ((trAs Ls).length : Int)) (by have q1 := m2.len; have q2 := m2.cap; omega) (by have q1 := m2.len; have q2 := m2.cap; omega) (by have q1 := m2.len; have q2 := m2.cap; omega) (by have q1 := m2.len; have q2 := m2.cap; omega) (by have q1 := m2.len; have q2 := m2.cap; omega) (by have q1 := m2.len; have q2 := m2.cap; omega) rfl rfl rfl rfl rfl) ?_
        refine hg_one 5 (by rfl) (by kernel_rfl) (want_none (by rfl)) ?_
        have hl := hl.below (hw7.mono (by omega))
        have hl := hl.below (dW8.mono (by omega))
        refine lg_bs1R (l := l) (L := L) (want_none (by rfl)) rfl rfl rfl (by decide) fun b11 w11 n11 => ?_
        have m11 := new_row n11 (hl.more (B' := W8.heap.size) (by omega)) (Nat.le_refl _)
        have k11 := n11.blk
        have z11 := n11.size
        refine hg_next n11.below ?_
        refine hg_up n11.below ?_
        refine hg_one 14 (by rfl) (by kernel_rfl) (want_none (by rfl)) ?_
        refine lg_bslice (el := 22) (z := .slice none 0 0) (cs := #[(⟨cutR s2.A 0 x.toNat, x.toNat - 0, x.toNat - 0⟩ : SlV).v, (⟨some ⟨b11, 0, none⟩, 1, 1⟩ : SlV).v, (⟨cutR s2.A (x.toNat + 1) ((trAs Ls).length), (trAs Ls).length - (x.toNat + 1), (trAs Ls).length - (x.toNat + 1)⟩ : SlV).v]) (by kernel_rfl) (by kernel_rfl) (by decide) (by decide) rfl rfl (by kernel_rfl) rfl rfl (by decide) fun b12 w12 n12 => ?_
        have r12 := n12.row
        have k12 := n12.blk
        have z12 := n12.size
        have lt12 : b12 < w12.heap.size := by omega
        refine hg_next n12.below ?_
        refine hg_up n12.below ?_
        have cu9 := cu9.below (n11.below.mono (by omega))
        have cu9 := cu9.below (n12.below.mono (by omega))
        have m11 := m11.below (n12.below.mono (by omega))
        have cu10 := cu10.below (n11.below.mono (by omega))
        have cu10 := cu10.below (n12.below.mono (by omega))
        refine hg_one 15 (by rfl) (by kernel_rfl) (want_none (by rfl)) ?_
        refine lg_callw (want_none (by rfl)) (concatR_S r12 (cu9.more (B' := w12.heap.size) (by omega)) (m11.more (B' := w12.heap.size) (by omega)) (cu10.more (B' := w12.heap.size) (by omega)) (by first | omega | (simp only [List.length_cons, List.length_nil, List.length_take, List.length_drop]; omega))) (by kernel_rfl) rfl rfl rfl (by decide) ?_
        rintro _ w13 ⟨s13, rfl, m13, hw13⟩
        have zw13 := hw13.size
        refine hg_next hw13 ?_
        refine hg_up hw13 ?_
        refine hg_take 16 (by rfl) (want_none (by rfl)) (by rfl) rfl (by decide) (by kernel_rfl) (by kernel_rfl) (by kernel_rfl) (fun _ _ _ h => h) (Below.refl _ _) (fun q hq => y_assign rfl rfl) ?_
        refine hg_take 17 (by rfl) (want_none (by rfl)) (by rfl) rfl (by decide) (by kernel_rfl) (by kernel_rfl) (by kernel_rfl) (fun _ _ _ h => h) (Below.refl _ _) (fun q hq => y_assign rfl rfl) ?_
        refine hg_done (by kernel_rfl) ?_
        refine nx (E' := [(6, _), (7, _)]) (fk rfl (fk rfl fn)) ?_
        refine cg_ret ?_
        have ok := setE_ok c3 c5 c6
        have u := u.trans (n1.below.mono u.size)
        have u := u.trans (hw2.mono u.size)
        have u := u.trans (hw4.mono u.size)
        have u := u.trans (hw7.mono u.size)
        have u := u.trans (dW8.mono u.size)
        have u := u.trans (n11.below.mono u.size)
        have u := u.trans (n12.below.mono u.size)
        have u := u.trans (hw13.mono u.size)
        exact eg_ret_tmp2 rfl rfl rfl ⟨_, rfl, _, congrArg (fun q => Value.tuple #[s13.v, nv q]) ok.symm, m13.cast ((set_cat (by omega)).trans (setL_ok ok).symm), u⟩
      · refine lg_callw (want_none (by rfl)) (mayStand_any x.toNat (hl.more (B' := w4.heap.size) (by omega)) (Nat.le_refl _)) (by kernel_rfl) rfl rfl rfl (by decide) ?_
        rintro u14 w14 ⟨e14, hw14⟩
        have zw14 := hw14.size
        obtain rfl : u14 = .bool false := e14.trans (congrArg Value.bool (decide_eq_false c6))
        refine lsw (want_none (by rfl)) (y_bnot rfl rfl) rfl (by decide) ?_
        refine lg_nil ?_
        refine nx (E' := [(1, _), (5, _), (6, _), (7, _), (0, _), (24, _)]) (fk rfl (fk rfl (fk rfl (fk rfl (fk rfl (fk rfl fn)))))) ?_
        refine cg_ct rfl ?_
        refine cg_seq ?_
        refine cg_region ?_
        refine lsw (want_none (by rfl)) (y_assign rfl rfl) rfl (by decide) ?_
        refine lsw (want_none (by rfl)) (y_assign rfl rfl) rfl (by decide) ?_
        refine lg_nil ?_
        refine nx (E' := [(1, _), (5, _), (0, _), (6, _), (7, _)]) (fk rfl (fk rfl (fk rfl (fk rfl (fk rfl fn))))) ?_
        refine cg_ret ?_
        refine eg_seq_ret ?_
        have u := u.trans (n1.below.mono u.size)
        have u := u.trans (hw2.mono u.size)
        have u := u.trans (hw4.mono u.size)
        have u := u.trans (hw14.mono u.size)
        exact eg_ret_tmp2 rfl rfl rfl ⟨_, rfl, nilS, congrArg (fun q => Value.tuple #[nilS.v, nv q]) (setE_fit c3 c5 c6).symm, (RwNd.nil _ _).cast (setL_no (by rw [(setE_fit c3 c5 c6)]; exact (by decide))).symm, u⟩
    · refine lsw (want_none (by rfl)) (yb (nd_t c5) (yi_neq rfl rfl rfl)) rfl (by decide) ?_
      refine lg_nil ?_
      refine nx (E' := [(1, _), (5, _), (6, _), (7, _), (0, _), (8, _), (19, _)]) (fk rfl (fk rfl (fk rfl (fk rfl (fk rfl (fk rfl (fk rfl fn))))))) ?_
      refine cg_ct rfl ?_
      refine cg_seq ?_
      refine cg_region ?_
      refine lsw (want_none (by rfl)) (y_move rfl rfl) rfl (by decide) ?_
      refine lsw (want_none (by rfl)) (y_assign rfl rfl) rfl (by decide) ?_
      refine lsw (want_none (by rfl)) (y_assign rfl rfl) rfl (by decide) ?_
      refine lg_nil ?_
      refine nx (E' := [(1, _), (5, _), (0, _), (6, _), (7, _)]) (fk rfl (fk rfl (fk rfl (fk rfl (fk rfl fn))))) ?_
      refine cg_ret ?_
      refine eg_seq_ret ?_
      have u := u.trans (n1.below.mono u.size)
      have u := u.trans (hw2.mono u.size)
      have u := u.trans (hw4.mono u.size)
      exact eg_ret_tmp2 rfl rfl rfl ⟨_, rfl, nilS, congrArg (fun q => Value.tuple #[nilS.v, nv q]) (setE_check c3 c5).symm, (RwNd.nil _ _).cast (setL_no (by rw [(setE_check c3 c5)]; exact c5)).symm, u⟩
  · refine lsw (want_none (by rfl)) (yb (decide_eq_false c3) (y_call (isL_any x ((trAs Ls).length : Int) _) (by kernel_rfl) rfl rfl)) rfl (by decide) ?_
    refine lsw (want_none (by rfl)) (y_bnot rfl rfl) rfl (by decide) ?_
    refine lg_nil ?_
    refine nx (E' := [(1, _), (5, _), (6, _), (7, _), (0, _), (15, _)]) (fk rfl (fk rfl (fk rfl (fk rfl (fk rfl (fk rfl fn)))))) ?_
    refine cg_ct rfl ?_
    refine cg_seq ?_
    refine cg_region ?_
    refine lsw (want_none (by rfl)) (y_assign rfl rfl) rfl (by decide) ?_
    refine lsw (want_none (by rfl)) (y_assign rfl rfl) rfl (by decide) ?_
    refine lg_nil ?_
    refine nx (E' := [(1, _), (5, _), (0, _), (6, _), (7, _)]) (fk rfl (fk rfl (fk rfl (fk rfl (fk rfl fn))))) ?_
    refine cg_ret ?_
    refine eg_seq_ret ?_
    have u := u.trans (n1.below.mono u.size)
    have u := u.trans (hw2.mono u.size)
    exact eg_ret_tmp2 rfl rfl rfl ⟨_, rfl, nilS, congrArg (fun q => Value.tuple #[nilS.v, nv q]) (setE_range c3).symm, (RwNd.nil _ _).cast (setL_no (by rw [(setE_range c3)]; exact (by decide))).symm, u⟩
theorem grow_any {W : World} {B : Nat} {s : SlV} {Ls : List Nd} (h : RwNd W B s Ls) (hB : B ≤ W.heap.size) : Calls Tryd.prog 12 #[s.v] W fun e W' => ∃ v, e = .returned v ∧ ∃ s' : SlV, v = .tuple #[s'.v, nv (growE Ls)] ∧ RwNd W' W'.heap.size s' (growL Ls) ∧ Below W.heap.size W W' := by
  refine calls_cg (n := 14) Tryd.func12 rfl Tryd.ntmps12 (by simp) ?_
  show CG _ _ _ [(0, s.v)] _ _
  have u := Below.refl W.heap.size W
  have q0 := trAs_le Ls
  refine cg_seq ?_
  refine cg_region ?_
  refine lsw (want_none (by rfl)) (y_assign rfl rfl) rfl (by decide) ?_
  refine lsw (want_none (by rfl)) (y_assign rfl rfl) rfl (by decide) ?_
  refine lg_nil ?_
  refine nx (E' := [(0, _), (2, _), (3, _)]) (fk rfl (fk rfl (fk rfl fn))) ?_
  refine cg_seq ?_
  refine cg_region ?_
  refine lsw (want_none (by rfl)) (y_move rfl rfl) rfl (by decide) ?_
  refine lg_callw (want_none (by rfl)) (tree_any h (by omega)) (by kernel_rfl) rfl rfl rfl (by decide) ?_
  rintro _ w1 ⟨s1, rfl, m1, f1, hw1⟩
  have zw1 := hw1.size
  have tl1 := trAs_le Ls
  refine lsw (want_none (by rfl)) (y_assign rfl rfl) rfl (by decide) ?_
  refine lg_nil ?_
  refine nx (E' := [(2, _), (3, _), (0, _)]) (fk rfl (fk rfl (fk rfl fn))) ?_
  refine cg_seq ?_
  refine cg_seq ?_
  refine cg_region ?_
  refine lsw (want_none (by rfl)) (y_move rfl rfl) rfl (by decide) ?_
  refine lsw (want_none (by rfl)) (y_call (leaves_any s1 (trAs Ls) _ (by have q1 := m1.len; omega) (by omega)) (by kernel_rfl) rfl rfl) rfl (by decide) ?_
  by_cases c2 : ((leavesA (trAs Ls) : Nat) : Int) = 64
  · refine lsw (want_none (by rfl)) (yb (decide_eq_true c2) (yi_eql rfl rfl rfl)) rfl (by decide) ?_
    refine lg_nil ?_
    refine nx (E' := [(2, _), (3, _), (0, _), (8, _)]) (fk rfl (fk rfl (fk rfl (fk rfl fn)))) ?_
    refine cg_ct rfl ?_
    refine cg_seq ?_
    refine cg_region ?_
    refine lsw (want_none (by rfl)) (y_assign rfl rfl) rfl (by decide) ?_
    refine lsw (want_none (by rfl)) (y_assign rfl rfl) rfl (by decide) ?_
    refine lg_nil ?_
    refine nx (E' := [(0, _), (2, _), (3, _)]) (fk rfl (fk rfl (fk rfl fn))) ?_
    refine cg_ret ?_
    refine eg_seq_ret ?_
    have u := u.trans (hw1.mono u.size)
    exact eg_ret_tmp2 rfl rfl rfl ⟨_, rfl, nilS, congrArg (fun q => Value.tuple #[nilS.v, nv q]) (growE_64 c2).symm, (RwNd.nil _ _).cast (growL_no (by rw [growE_64 c2]; decide)).symm, u⟩
  · refine lsw (want_none (by rfl)) (yb (decide_eq_false c2) (yi_eql rfl rfl rfl)) rfl (by decide) ?_
    refine lg_nil ?_
    refine nx (E' := [(2, _), (3, _), (0, _), (8, _)]) (fk rfl (fk rfl (fk rfl (fk rfl fn)))) ?_
    refine cg_cf rfl ?_
    refine cg_skip ?_
    refine nx (E' := [(2, _), (3, _), (0, _)]) (fk rfl (fk rfl (fk rfl fn))) ?_
    refine cg_seq ?_
    refine cg_region ?_
    refine lsw (want_none (by rfl)) (y_move rfl rfl) rfl (by decide) ?_
    refine lsw (want_none (by rfl)) (y_move rfl rfl) rfl (by decide) ?_
    refine lsw (want_none (by rfl)) (y_lenM (el := 30) m1.len (by kernel_rfl) rfl rfl) rfl (by decide) ?_
    refine lsw (want_none (by rfl)) (yv (congrArg nv (show ((trAs Ls).length : Int) + 1 = (((trAs Ls).length + 1 : Nat) : Int) by omega)) (yi_add rfl rfl rfl (by omega) (by omega))) rfl (by decide) ?_
    refine lg_appZ (k := ((trAs Ls).length + 1)) (kI := (((trAs Ls).length + 1 : Nat) : Int)) m1 (by omega) f1 (by omega) (by omega) (by first | omega | (simp only [List.length_append, List.length_cons, List.length_nil, List.length_take, List.length_drop, List.length_set, List.length_replicate]; omega)) (want_none (by rfl)) rfl rfl rfl rfl rfl (by decide) fun r3 w3 m3 l3 => ?_
    have z3 := l3.size
    refine lsw (want_none (by rfl)) (y_assign rfl rfl) rfl (by decide) ?_
    refine lsw (want_none (by rfl)) (y_assign rfl rfl) rfl (by decide) ?_
    refine lg_nil ?_
    refine nx (E' := [(2, _), (3, _)]) (fk rfl (fk rfl fn)) ?_
    refine cg_ret ?_
    have u := u.trans (hw1.mono u.size)
    have u := u.trans (l3.mono u.size)
    exact eg_ret_tmp2 rfl rfl rfl ⟨_, rfl, _, congrArg (fun q => Value.tuple #[r3.v, nv q]) (growE_0 c2).symm, m3.cast (growL_ok (growE_0 c2)).symm, u⟩
end Go.Proofs.YtpoonjgkgaodmaaDoor
