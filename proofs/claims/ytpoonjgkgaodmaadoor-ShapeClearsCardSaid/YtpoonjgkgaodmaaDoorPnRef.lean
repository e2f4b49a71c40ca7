/-
  The document's Few, Check, Same, Put and Get.
-/
import Derived.Test.YtpoonjgkgaodmaaDoorPnProg
namespace Go.Proofs.YtpoonjgkgaodmaaDoor
open Go.ChangeShapes Go.WideShapes Go.ChangeAt Go.RowKit
set_option linter.unusedVariables false

section
set_option maxHeartbeats 1000000
theorem fewP_any {W : World} {B : Nat} {l : PnV} {L : Pn} (hl : IsPn W B l L) (hB : B ≤ W.heap.size) : Calls Tryd.prog 47 #[.agg (l.cs L)] W fun e W' => ∃ v, e = .returned v ∧ v = .bool (decide (pnFew L)) ∧ Below W.heap.size W W' := by
  refine calls_cg (n := 15) Tryd.func47 rfl Tryd.ntmps47 (by simp) ?_
  show CG _ _ _ [(0, .agg (l.cs L))] _ _
  have u := Below.refl W.heap.size W
  refine cg_seq ?_
  refine cg_region ?_
  refine lg_boxw (want_none (by rfl)) rfl rfl (by kernel_rfl) rfl (by decide) fun b1 w1 n1 => ?_
  have r1 := n1.row
  have k1 := n1.blk
  have z1 := n1.size
  have lt1 : b1 < w1.heap.size := by omega
  refine lsw (want_none (by rfl)) (y_assign rfl rfl) rfl (by decide) ?_
  refine lg_nil ?_
  refine nx (E' := [(1, _), (2, _)]) (fk rfl (fk rfl fn)) ?_
  refine cg_seq ?_
  refine cg_region ?_
  refine lsw (want_none (by rfl)) (y_fld (off := 0) (by kernel_rfl) rfl rfl) rfl (by decide) ?_
  refine lsw (want_none (by rfl)) (y_cellv (v := l.enc.v) r1 rfl (by kernel_rfl) rfl rfl) rfl (by decide) ?_
  have hl := hl.below (n1.below.mono (by omega))
  refine lsw (want_none (by rfl)) (y_lenS (el := 5) hl.enc (by kernel_rfl) rfl rfl) rfl (by decide) ?_
  refine lsw (want_none (by rfl)) (y_fld (off := 1) (by kernel_rfl) rfl rfl) rfl (by decide) ?_
  refine lsw (want_none (by rfl)) (y_cellv (v := l.hash.v) r1 rfl (by kernel_rfl) rfl rfl) rfl (by decide) ?_
  refine lsw (want_none (by rfl)) (y_lenS (el := 5) hl.hash (by kernel_rfl) rfl rfl) rfl (by decide) ?_
  refine lsw (want_none (by rfl)) (yi_addW rfl rfl rfl) rfl (by decide) ?_
  refine lsw (want_none (by rfl)) (y_fld (off := 2) (by kernel_rfl) rfl rfl) rfl (by decide) ?_
  refine lsw (want_none (by rfl)) (y_cellv (v := l.unm.v) r1 rfl (by kernel_rfl) rfl rfl) rfl (by decide) ?_
  refine lsw (want_none (by rfl)) (y_lenM (el := 3) hl.unm.len (by kernel_rfl) rfl rfl) rfl (by decide) ?_
  refine lsw (want_none (by rfl)) (yi_addW rfl rfl rfl) rfl (by decide) ?_
  refine lsw (want_none (by rfl)) (yi_leq rfl rfl rfl) rfl (by decide) ?_
  refine lsw (want_none (by rfl)) (y_assign rfl rfl) rfl (by decide) ?_
  refine lg_nil ?_
  refine nx (E' := [(2, _)]) (fk rfl fn) ?_
  refine cg_ret ?_
  have u := u.trans (n1.below.mono u.size)
  exact eg_ret_tmp rfl rfl ⟨_, rfl, rfl, u⟩
set_option maxRecDepth 20000 in
theorem rcheckP_any {W : World} {B : Nat} {l : PnV} {L : Pn} (hl : IsPn W B l L) (hB : B ≤ W.heap.size) : Calls Tryd.prog 56 #[.agg (l.cs L)] W fun e W' => ∃ v, e = .returned v ∧ v = nv (pnCheck L) ∧ Below W.heap.size W W' := by
  refine calls_cg (n := 65) Tryd.func56 rfl Tryd.ntmps56 (by simp) ?_
  show CG _ _ _ [(0, .agg (l.cs L))] _ _
  have u := Below.refl W.heap.size W
  have le_l := hl.unm.len; have ca_l := hl.unm.cap
  refine cg_seq ?_
  refine cg_region ?_
  refine lg_boxw (want_none (by rfl)) rfl rfl (by kernel_rfl) rfl (by decide) fun b1 w1 n1 => ?_
  have r1 := n1.row
  have k1 := n1.blk
  have z1 := n1.size
  have lt1 : b1 < w1.heap.size := by omega
  refine lsw (want_none (by rfl)) (y_assign rfl rfl) rfl (by decide) ?_
  refine lg_nil ?_
  refine nx (E' := [(1, _), (2, _)]) (fk rfl (fk rfl fn)) ?_
  refine cg_seq ?_
  refine cg_seq ?_
  refine cg_region ?_
  refine lsw (want_none (by rfl)) (y_fld (off := 0) (by kernel_rfl) rfl rfl) rfl (by decide) ?_
  refine lsw (want_none (by rfl)) (y_cellv (v := l.enc.v) r1 rfl (by kernel_rfl) rfl rfl) rfl (by decide) ?_
  have hl := hl.below (n1.below.mono (by omega))
  refine lsw (want_none (by rfl)) (y_lenS (el := 5) hl.enc (by kernel_rfl) rfl rfl) rfl (by decide) ?_
  by_cases c2 : (L.enc.length : Int) = 0
  · refine lsw (want_none (by rfl)) (yb (decide_eq_true c2) (yi_eql rfl rfl rfl)) rfl (by decide) ?_
    refine lg_nil ?_
    refine nx (E' := [(1, _), (2, _), (8, _)]) (fk rfl (fk rfl (fk rfl fn))) ?_
    refine cg_ct rfl ?_
    refine cg_seq ?_
    refine cg_region ?_
    refine lsw (want_none (by rfl)) (y_assign rfl rfl) rfl (by decide) ?_
    refine lg_nil ?_
    refine nx (E' := [(1, _), (2, _)]) (fk rfl (fk rfl fn)) ?_
    refine cg_ret ?_
    refine eg_seq_ret ?_
    have u := u.trans (n1.below.mono u.size)
    exact eg_ret_tmp rfl rfl ⟨_, rfl, congrArg nv (show pnCheck L = 5 from (if_pos c2)).symm, u⟩
  · refine lsw (want_none (by rfl)) (yb (decide_eq_false c2) (yi_eql rfl rfl rfl)) rfl (by decide) ?_
    refine lg_nil ?_
    refine nx (E' := [(1, _), (2, _), (8, _)]) (fk rfl (fk rfl (fk rfl fn))) ?_
    refine cg_cf rfl ?_
    refine cg_skip ?_
    refine nx (E' := [(1, _), (2, _)]) (fk rfl (fk rfl fn)) ?_
    refine cg_seq ?_
    refine cg_seq ?_
    refine cg_region ?_
    refine lsw (want_none (by rfl)) (y_fld (off := 0) (by kernel_rfl) rfl rfl) rfl (by decide) ?_
    refine lsw (want_none (by rfl)) (y_cellv (v := l.enc.v) r1 rfl (by kernel_rfl) rfl rfl) rfl (by decide) ?_
    refine lsw (want_none (by rfl)) (y_lenS (el := 5) hl.enc (by kernel_rfl) rfl rfl) rfl (by decide) ?_
    by_cases c3 : 200 < (L.enc.length : Int)
    · refine lsw (want_none (by rfl)) (yb (decide_eq_true c3) (yi_gtr rfl rfl rfl)) rfl (by decide) ?_
      refine lsw (want_none (by rfl)) (y_move rfl rfl) rfl (by decide) ?_
      refine lsk (want_f (dj := 13) (by rfl) (by kernel_rfl) rfl) rfl (by decide) ?_
      refine lsk (want_f (dj := 13) (by rfl) (by kernel_rfl) rfl) rfl (by decide) ?_
      refine lsk (want_f (dj := 13) (by rfl) (by kernel_rfl) rfl) rfl (by decide) ?_
      refine lsk (want_f (dj := 13) (by rfl) (by kernel_rfl) rfl) rfl (by decide) ?_
      refine lsw (want_none (by rfl)) (y_pick true rfl rfl rfl) rfl (by decide) ?_
      refine lsw (want_none (by rfl)) (y_move rfl rfl) rfl (by decide) ?_
      refine lsk (want_f (dj := 19) (by rfl) (by kernel_rfl) rfl) rfl (by decide) ?_
      refine lsk (want_f (dj := 19) (by rfl) (by kernel_rfl) rfl) rfl (by decide) ?_
      refine lsk (want_f (dj := 19) (by rfl) (by kernel_rfl) rfl) rfl (by decide) ?_
      refine lsk (want_f (dj := 19) (by rfl) (by kernel_rfl) rfl) rfl (by decide) ?_
      refine lsw (want_none (by rfl)) (y_pick true rfl rfl rfl) rfl (by decide) ?_
      refine lg_nil ?_
      refine nx (E' := [(1, _), (2, _), (24, _)]) (fk rfl (fk rfl (fk rfl fn))) ?_
      refine cg_ct rfl ?_
      refine cg_seq ?_
      refine cg_region ?_
      refine lsw (want_none (by rfl)) (y_assign rfl rfl) rfl (by decide) ?_
      refine lg_nil ?_
      refine nx (E' := [(1, _), (2, _)]) (fk rfl (fk rfl fn)) ?_
      refine cg_ret ?_
      refine eg_seq_ret ?_
      have u := u.trans (n1.below.mono u.size)
      exact eg_ret_tmp rfl rfl ⟨_, rfl, congrArg nv (show pnCheck L = 4 from ((if_neg c2).trans (if_pos (by omega)))).symm, u⟩
    · refine lsw (want_none (by rfl)) (yb (decide_eq_false c3) (yi_gtr rfl rfl rfl)) rfl (by decide) ?_
      refine lsw (want_none (by rfl)) (y_move rfl rfl) rfl (by decide) ?_
      refine lsw (want_t (dj := 13) (by rfl) (by kernel_rfl) rfl) (y_fld (off := 1) (by kernel_rfl) rfl rfl) rfl (by decide) ?_
      refine lsw (want_t (dj := 13) (by rfl) (by kernel_rfl) rfl) (y_cellv (v := l.hash.v) r1 rfl (by kernel_rfl) rfl rfl) rfl (by decide) ?_
      refine lsw (want_t (dj := 13) (by rfl) (by kernel_rfl) rfl) (y_lenS (el := 5) hl.hash (by kernel_rfl) rfl rfl) rfl (by decide) ?_
      by_cases c4 : 200 < (L.hash.length : Int)
      · refine lsw (want_t (dj := 13) (by rfl) (by kernel_rfl) rfl) (yb (decide_eq_true c4) (yi_gtr rfl rfl rfl)) rfl (by decide) ?_
        refine lsw (want_none (by rfl)) (y_pick false rfl rfl rfl) rfl (by decide) ?_
        refine lsw (want_none (by rfl)) (y_move rfl rfl) rfl (by decide) ?_
        refine lsk (want_f (dj := 19) (by rfl) (by kernel_rfl) rfl) rfl (by decide) ?_
        refine lsk (want_f (dj := 19) (by rfl) (by kernel_rfl) rfl) rfl (by decide) ?_
        refine lsk (want_f (dj := 19) (by rfl) (by kernel_rfl) rfl) rfl (by decide) ?_
        refine lsk (want_f (dj := 19) (by rfl) (by kernel_rfl) rfl) rfl (by decide) ?_
        refine lsw (want_none (by rfl)) (y_pick true rfl rfl rfl) rfl (by decide) ?_
        refine lg_nil ?_
        refine nx (E' := [(1, _), (2, _), (24, _)]) (fk rfl (fk rfl (fk rfl fn))) ?_
        refine cg_ct rfl ?_
        refine cg_seq ?_
        refine cg_region ?_
        refine lsw (want_none (by rfl)) (y_assign rfl rfl) rfl (by decide) ?_
        refine lg_nil ?_
        refine nx (E' := [(1, _), (2, _)]) (fk rfl (fk rfl fn)) ?_
        refine cg_ret ?_
        refine eg_seq_ret ?_
        have u := u.trans (n1.below.mono u.size)
        exact eg_ret_tmp rfl rfl ⟨_, rfl, congrArg nv (show pnCheck L = 4 from ((if_neg c2).trans (if_pos (by omega)))).symm, u⟩
      · refine lsw (want_t (dj := 13) (by rfl) (by kernel_rfl) rfl) (yb (decide_eq_false c4) (yi_gtr rfl rfl rfl)) rfl (by decide) ?_
        refine lsw (want_none (by rfl)) (y_pick false rfl rfl rfl) rfl (by decide) ?_
        refine lsw (want_none (by rfl)) (y_move rfl rfl) rfl (by decide) ?_
        refine lsw (want_t (dj := 19) (by rfl) (by kernel_rfl) rfl) (y_fld (off := 2) (by kernel_rfl) rfl rfl) rfl (by decide) ?_
        refine lsw (want_t (dj := 19) (by rfl) (by kernel_rfl) rfl) (y_cellv (v := l.unm.v) r1 rfl (by kernel_rfl) rfl rfl) rfl (by decide) ?_
        refine lsw (want_t (dj := 19) (by rfl) (by kernel_rfl) rfl) (y_lenM (el := 3) hl.unm.len (by kernel_rfl) rfl rfl) rfl (by decide) ?_
        by_cases c5 : 64 < (L.unm.length : Int)
        · refine lsw (want_t (dj := 19) (by rfl) (by kernel_rfl) rfl) (yb (decide_eq_true c5) (yi_gtr rfl rfl rfl)) rfl (by decide) ?_
          refine lsw (want_none (by rfl)) (y_pick false rfl rfl rfl) rfl (by decide) ?_
          refine lg_nil ?_
          refine nx (E' := [(1, _), (2, _), (24, _)]) (fk rfl (fk rfl (fk rfl fn))) ?_
          refine cg_ct rfl ?_
          refine cg_seq ?_
          refine cg_region ?_
          refine lsw (want_none (by rfl)) (y_assign rfl rfl) rfl (by decide) ?_
          refine lg_nil ?_
          refine nx (E' := [(1, _), (2, _)]) (fk rfl (fk rfl fn)) ?_
          refine cg_ret ?_
          refine eg_seq_ret ?_
          have u := u.trans (n1.below.mono u.size)
          exact eg_ret_tmp rfl rfl ⟨_, rfl, congrArg nv (show pnCheck L = 4 from ((if_neg c2).trans (if_pos (by omega)))).symm, u⟩
        · refine lsw (want_t (dj := 19) (by rfl) (by kernel_rfl) rfl) (yb (decide_eq_false c5) (yi_gtr rfl rfl rfl)) rfl (by decide) ?_
          refine lsw (want_none (by rfl)) (y_pick false rfl rfl rfl) rfl (by decide) ?_
          refine lg_nil ?_
          refine nx (E' := [(1, _), (2, _), (24, _)]) (fk rfl (fk rfl (fk rfl fn))) ?_
          refine cg_cf rfl ?_
          refine cg_skip ?_
          refine nx (E' := [(1, _), (2, _)]) (fk rfl (fk rfl fn)) ?_
          refine cg_seq ?_
          refine cg_seq ?_
          refine cg_region ?_
          refine lsw (want_none (by rfl)) (y_assign rfl rfl) rfl (by decide) ?_
          refine lg_nil ?_
          refine nx (E' := [(1, _), (2, _), (3, _)]) (fk rfl (fk rfl (fk rfl fn))) ?_
          refine cg_block ?_
          have hb0 : W.heap.size ≤ b1 := by omega
          have u := u.trans (n1.below.mono u.size)
          refine cg_loopE (fun t a v => Holds 65 [(1, pv b1 0), (3, nv ((t : Nat) : Int))] a ∧ RowAt v b1 28 (l.cs L) ∧ IsPn v B l L ∧ Below W.heap.size W v ∧ t ≤ L.unm.length ∧ (∀ j, j < t → ¬ ((L.unm.getD j 0) < 0 ∨ 64 ≤ (L.unm.getD j 0)))) L.unm.length (fun a ha => ⟨ha.keep (fk rfl (fk rfl fn)), r1, hl, u, (Nat.zero_le _), (fun j hj => absurd hj (Nat.not_lt_zero _))⟩) ?_
          rintro t a v ht ⟨ha, r1, hl, u, tle, hno⟩
          refine cg_at ha ?_
          clear ha a
          have zv := u.size
          have l_r1 := r1.lt
          refine cg_seq ?_
          refine cg_seq ?_
          refine cg_region ?_
          refine lsw (want_none (by rfl)) (y_move rfl rfl) rfl (by decide) ?_
          refine lsw (want_none (by rfl)) (y_fld (off := 2) (by kernel_rfl) rfl rfl) rfl (by decide) ?_
          refine lsw (want_none (by rfl)) (y_cellv (v := l.unm.v) r1 rfl (by kernel_rfl) rfl rfl) rfl (by decide) ?_
          refine lsw (want_none (by rfl)) (y_lenM (el := 3) hl.unm.len (by kernel_rfl) rfl rfl) rfl (by decide) ?_
          by_cases c6 : ((t : Nat) : Int) < (L.unm.length : Int)
          · refine lsw (want_none (by rfl)) (yb (decide_eq_true c6) (yi_lss rfl rfl rfl)) rfl (by decide) ?_
            refine lg_nil ?_
            refine nx (E' := [(1, _), (3, _), (25, _), (26, _), (27, _), (28, _), (29, _)]) (fk rfl (fk rfl (fk rfl (fk rfl (fk rfl (fk rfl (fk rfl fn))))))) ?_
            refine cg_ct rfl ?_
            refine cg_skip ?_
            refine nx (E' := [(1, _), (3, _), (25, _), (26, _), (27, _), (28, _), (29, _)]) (fk rfl (fk rfl (fk rfl (fk rfl (fk rfl (fk rfl (fk rfl fn))))))) ?_
            refine cg_seq ?_
            refine cg_block ?_
            refine cg_seq ?_
            refine cg_region ?_
            refine lsw (want_none (by rfl)) (y_fld (off := 2) (by kernel_rfl) rfl rfl) rfl (by decide) ?_
            refine lsw (want_none (by rfl)) (y_cellv (v := l.unm.v) r1 rfl (by kernel_rfl) rfl rfl) rfl (by decide) ?_
            refine lsw (want_none (by rfl)) (y_move rfl rfl) rfl (by decide) ?_
            refine lsw (want_none (by rfl)) (y_ixT (i := t) (iI := ((t : Nat) : Int)) hl.unm (by omega) (by omega) rfl rfl rfl) rfl (by decide) ?_
            refine lsw (want_none (by rfl)) (y_ldT (i := t) hl.unm (by omega) rfl rfl) rfl (by decide) ?_
            by_cases c7 : (L.unm.getD t 0) < 0
            · refine lsw (want_none (by rfl)) (yb (decide_eq_true c7) (yi_lss rfl rfl rfl)) rfl (by decide) ?_
              refine lsw (want_none (by rfl)) (y_move rfl rfl) rfl (by decide) ?_
              refine lsk (want_f (dj := 38) (by rfl) (by kernel_rfl) rfl) rfl (by decide) ?_
              refine lsk (want_f (dj := 38) (by rfl) (by kernel_rfl) rfl) rfl (by decide) ?_
              refine lsk (want_f (dj := 38) (by rfl) (by kernel_rfl) rfl) rfl (by decide) ?_
              refine lsk (want_f (dj := 38) (by rfl) (by kernel_rfl) rfl) rfl (by decide) ?_
              refine lsk (want_f (dj := 38) (by rfl) (by kernel_rfl) rfl) rfl (by decide) ?_
              refine lsk (want_f (dj := 38) (by rfl) (by kernel_rfl) rfl) rfl (by decide) ?_
              refine lsw (want_none (by rfl)) (y_pick true rfl rfl rfl) rfl (by decide) ?_
              refine lg_nil ?_
              refine nx (E' := [(1, _), (3, _), (25, _), (26, _), (27, _), (28, _), (29, _), (32, _), (33, _), (34, _), (35, _), (36, _), (37, _), (38, _), (45, _)]) (fk rfl (fk rfl (fk rfl (fk rfl (fk rfl (fk rfl (fk rfl (fk rfl (fk rfl (fk rfl (fk rfl (fk rfl (fk rfl (fk rfl (fk rfl fn))))))))))))))) ?_
              refine cg_ct rfl ?_
              refine cg_seq ?_
              refine cg_region ?_
              refine lsw (want_none (by rfl)) (y_assign rfl rfl) rfl (by decide) ?_
              refine lg_nil ?_
              refine nx (E' := [(1, _), (3, _), (25, _), (26, _), (27, _), (28, _), (29, _), (32, _), (33, _), (34, _), (35, _), (36, _), (37, _), (38, _), (45, _), (2, _)]) (fk rfl (fk rfl (fk rfl (fk rfl (fk rfl (fk rfl (fk rfl (fk rfl (fk rfl (fk rfl (fk rfl (fk rfl (fk rfl (fk rfl (fk rfl (fk rfl fn)))))))))))))))) ?_
              refine cg_ret ?_
              refine eg_block_ret ?_
              refine eg_seq_ret ?_
              refine eg_seq_ret ?_
              refine eg_block_ret ?_
              refine eg_seq_ret ?_
              have ex : ∃ x ∈ L.unm, x < 0 ∨ 64 ≤ x := ⟨_, getD_mem (i := t) (by omega), by omega⟩
              exact eg_ret_tmp rfl rfl ⟨_, rfl, congrArg nv (show pnCheck L = 3 from (((if_neg c2).trans (if_neg (by omega))).trans (if_pos ex))).symm, u⟩
            · refine lsw (want_none (by rfl)) (yb (decide_eq_false c7) (yi_lss rfl rfl rfl)) rfl (by decide) ?_
              refine lsw (want_none (by rfl)) (y_move rfl rfl) rfl (by decide) ?_
              refine lsw (want_t (dj := 38) (by rfl) (by kernel_rfl) rfl) (y_fld (off := 2) (by kernel_rfl) rfl rfl) rfl (by decide) ?_
              refine lsw (want_t (dj := 38) (by rfl) (by kernel_rfl) rfl) (y_cellv (v := l.unm.v) r1 rfl (by kernel_rfl) rfl rfl) rfl (by decide) ?_
              refine lsw (want_t (dj := 38) (by rfl) (by kernel_rfl) rfl) (y_move rfl rfl) rfl (by decide) ?_
              refine lsw (want_t (dj := 38) (by rfl) (by kernel_rfl) rfl) (y_ixT (i := t) (iI := ((t : Nat) : Int)) hl.unm (by omega) (by omega) rfl rfl rfl) rfl (by decide) ?_
              refine lsw (want_t (dj := 38) (by rfl) (by kernel_rfl) rfl) (y_ldT (i := t) hl.unm (by omega) rfl rfl) rfl (by decide) ?_
              by_cases c8 : 63 < (L.unm.getD t 0)
              · refine lsw (want_t (dj := 38) (by rfl) (by kernel_rfl) rfl) (yb (decide_eq_true c8) (yi_gtr rfl rfl rfl)) rfl (by decide) ?_
                refine lsw (want_none (by rfl)) (y_pick false rfl rfl rfl) rfl (by decide) ?_
                refine lg_nil ?_
                refine nx (E' := [(1, _), (3, _), (25, _), (26, _), (27, _), (28, _), (29, _), (32, _), (33, _), (34, _), (35, _), (36, _), (37, _), (38, _), (39, _), (40, _), (41, _), (42, _), (43, _), (44, _), (45, _)]) (fk rfl (fk rfl (fk rfl (fk rfl (fk rfl (fk rfl (fk rfl (fk rfl (fk rfl (fk rfl (fk rfl (fk rfl (fk rfl (fk rfl (fk rfl (fk rfl (fk rfl (fk rfl (fk rfl (fk rfl (fk rfl fn))))))))))))))))))))) ?_
                refine cg_ct rfl ?_
                refine cg_seq ?_
                refine cg_region ?_
                refine lsw (want_none (by rfl)) (y_assign rfl rfl) rfl (by decide) ?_
                refine lg_nil ?_
                refine nx (E' := [(1, _), (3, _), (25, _), (26, _), (27, _), (28, _), (29, _), (32, _), (33, _), (34, _), (35, _), (36, _), (37, _), (38, _), (39, _), (40, _), (41, _), (42, _), (43, _), (44, _), (45, _), (2, _)]) (fk rfl (fk rfl (fk rfl (fk rfl (fk rfl (fk rfl (fk rfl (fk rfl (fk rfl (fk rfl (fk rfl (fk rfl (fk rfl (fk rfl (fk rfl (fk rfl (fk rfl (fk rfl (fk rfl (fk rfl (fk rfl (fk rfl fn)))))))))))))))))))))) ?_
                refine cg_ret ?_
                refine eg_block_ret ?_
                refine eg_seq_ret ?_
                refine eg_seq_ret ?_
                refine eg_block_ret ?_
                refine eg_seq_ret ?_
                have ex : ∃ x ∈ L.unm, x < 0 ∨ 64 ≤ x := ⟨_, getD_mem (i := t) (by omega), by omega⟩
                exact eg_ret_tmp rfl rfl ⟨_, rfl, congrArg nv (show pnCheck L = 3 from (((if_neg c2).trans (if_neg (by omega))).trans (if_pos ex))).symm, u⟩
              · refine lsw (want_t (dj := 38) (by rfl) (by kernel_rfl) rfl) (yb (decide_eq_false c8) (yi_gtr rfl rfl rfl)) rfl (by decide) ?_
                refine lsw (want_none (by rfl)) (y_pick false rfl rfl rfl) rfl (by decide) ?_
                refine lg_nil ?_
                refine nx (E' := [(1, _), (3, _), (25, _), (26, _), (27, _), (28, _), (29, _), (32, _), (33, _), (34, _), (35, _), (36, _), (37, _), (38, _), (39, _), (40, _), (41, _), (42, _), (43, _), (44, _), (45, _)]) (fk rfl (fk rfl (fk rfl (fk rfl (fk rfl (fk rfl (fk rfl (fk rfl (fk rfl (fk rfl (fk rfl (fk rfl (fk rfl (fk rfl (fk rfl (fk rfl (fk rfl (fk rfl (fk rfl (fk rfl (fk rfl fn))))))))))))))))))))) ?_
                refine cg_cf rfl ?_
                refine cg_skip ?_
                refine eg_block_norm ?_
                refine nx (E' := [(1, _), (3, _), (25, _), (26, _), (27, _), (28, _), (29, _), (32, _), (33, _), (34, _), (35, _), (36, _), (37, _), (38, _), (39, _), (40, _), (41, _), (42, _), (43, _), (44, _), (45, _)]) (fk rfl (fk rfl (fk rfl (fk rfl (fk rfl (fk rfl (fk rfl (fk rfl (fk rfl (fk rfl (fk rfl (fk rfl (fk rfl (fk rfl (fk rfl (fk rfl (fk rfl (fk rfl (fk rfl (fk rfl (fk rfl fn))))))))))))))))))))) ?_
                refine cg_region ?_
                refine lsw (want_none (by rfl)) (y_move rfl rfl) rfl (by decide) ?_
                refine lsw (want_none (by rfl)) (yv (congrArg nv (show ((t : Nat) : Int) + 1 = ((t + 1 : Nat) : Int) by omega)) (yi_add rfl rfl rfl (by omega) (by omega))) rfl (by decide) ?_
                refine lsw (want_none (by rfl)) (y_assign rfl rfl) rfl (by decide) ?_
                refine lg_nil ?_
                exact fun a ha => (show t < L.unm.length ∧ _ from ⟨(by omega), ha.keep (fk rfl (fk rfl fn)), r1, hl, u, (by omega), (fun j hj => if q : j < t then hno j q else by
                    obtain rfl : j = t := by omega
                    omega)⟩)
          · refine lsw (want_none (by rfl)) (yb (decide_eq_false c6) (yi_lss rfl rfl rfl)) rfl (by decide) ?_
            refine lg_nil ?_
            refine nx (E' := [(1, _), (3, _), (25, _), (26, _), (27, _), (28, _), (29, _)]) (fk rfl (fk rfl (fk rfl (fk rfl (fk rfl (fk rfl (fk rfl fn))))))) ?_
            refine cg_cf rfl ?_
            refine cg_exit ?_
            refine eg_seq_exit ?_
            refine eg_seq_exit ?_
            refine eg_block_exit ?_
            refine nx (E' := [(1, _)]) (fk rfl fn) ?_
            refine cg_seq ?_
            refine cg_seq ?_
            refine cg_region ?_
            refine lsw (want_none (by rfl)) (y_assign rfl rfl) rfl (by decide) ?_
            refine lg_nil ?_
            refine nx (E' := [(1, _), (4, _)]) (fk rfl (fk rfl fn)) ?_
            refine cg_block ?_
            have nex : ¬ ∃ x ∈ L.unm, x < 0 ∨ 64 ≤ x := by rintro ⟨x, hx, q⟩; obtain ⟨i, hi, rfl⟩ := mem_getD hx; exact hno i (by omega) q
            have hb0 : W.heap.size ≤ b1 := by omega
            refine cg_loopE (fun t a v => Holds 65 [(1, pv b1 0), (4, nv (((t + 1) : Nat) : Int))] a ∧ RowAt v b1 28 (l.cs L) ∧ IsPn v B l L ∧ Below W.heap.size W v ∧ (∀ i, i < t → L.unm.getD i 0 < L.unm.getD (i + 1) 0) ∧ (t = 0 ∨ t < L.unm.length)) L.unm.length (fun a ha => ⟨ha.keep (fk rfl (fk rfl fn)), r1, hl, u, (fun i hi => absurd hi (Nat.not_lt_zero _)), (.inl rfl)⟩) ?_
            rintro t a v ht ⟨ha, r1, hl, u, he, tle⟩
            refine cg_at ha ?_
            clear ha a
            have zv := u.size
            have l_r1 := r1.lt
            refine cg_seq ?_
            refine cg_seq ?_
            refine cg_region ?_
            refine lsw (want_none (by rfl)) (y_move rfl rfl) rfl (by decide) ?_
            refine lsw (want_none (by rfl)) (y_fld (off := 2) (by kernel_rfl) rfl rfl) rfl (by decide) ?_
            refine lsw (want_none (by rfl)) (y_cellv (v := l.unm.v) r1 rfl (by kernel_rfl) rfl rfl) rfl (by decide) ?_
            refine lsw (want_none (by rfl)) (y_lenM (el := 3) hl.unm.len (by kernel_rfl) rfl rfl) rfl (by decide) ?_
            by_cases c9 : (((t + 1) : Nat) : Int) < (L.unm.length : Int)
            · refine lsw (want_none (by rfl)) (yb (decide_eq_true c9) (yi_lss rfl rfl rfl)) rfl (by decide) ?_
              refine lg_nil ?_
              refine nx (E' := [(1, _), (4, _), (46, _), (47, _), (48, _), (49, _), (50, _)]) (fk rfl (fk rfl (fk rfl (fk rfl (fk rfl (fk rfl (fk rfl fn))))))) ?_
              refine cg_ct rfl ?_
              refine cg_skip ?_
              refine nx (E' := [(1, _), (4, _), (46, _), (47, _), (48, _), (49, _), (50, _)]) (fk rfl (fk rfl (fk rfl (fk rfl (fk rfl (fk rfl (fk rfl fn))))))) ?_
              refine cg_seq ?_
              refine cg_block ?_
              refine cg_seq ?_
              refine cg_still (by kernel_rfl) (by kernel_rfl) fun W10 eW10 => ?_
              have dW10 := below_drew _ _ eW10
              have zW10 := size_drew _ _ eW10
              clear eW10
              refine stw (want_none (by rfl)) (y_fld (off := 2) (by kernel_rfl) rfl rfl) rfl (by decide) ?_
              have r1 := RowAt.below dW10 r1.lt r1
              refine stw (want_none (by rfl)) (y_cellv (v := l.unm.v) r1 rfl (by kernel_rfl) rfl rfl) rfl (by decide) ?_
              refine stw (want_none (by rfl)) (y_move rfl rfl) rfl (by decide) ?_
              refine stw (want_none (by rfl)) (yv (congrArg nv (show ((t + 1 : Nat) : Int) - 1 = ((t : Nat) : Int) by omega)) (yi_sub rfl rfl rfl (by omega) (by omega))) rfl (by decide) ?_
              have hl := hl.below (dW10.mono (by omega))
              refine stw (want_none (by rfl)) (y_ixT (i := t) (iI := ((t : Nat) : Int)) hl.unm (by omega) (by omega) rfl rfl rfl) rfl (by decide) ?_
              refine stw (want_none (by rfl)) (y_ldT (i := t) hl.unm (by omega) rfl rfl) rfl (by decide) ?_
              refine stw (want_none (by rfl)) (y_fld (off := 2) (by kernel_rfl) rfl rfl) rfl (by decide) ?_
              refine stw (want_none (by rfl)) (y_cellv (v := l.unm.v) r1 rfl (by kernel_rfl) rfl rfl) rfl (by decide) ?_
              refine stw (want_none (by rfl)) (y_move rfl rfl) rfl (by decide) ?_
              refine stw (want_none (by rfl)) (y_ixT (i := (t + 1)) (iI := (((t + 1) : Nat) : Int)) hl.unm (by omega) (by omega) rfl rfl rfl) rfl (by decide) ?_
              refine stw (want_none (by rfl)) (y_ldT (i := (t + 1)) hl.unm (by omega) rfl rfl) rfl (by decide) ?_
              by_cases c11 : (L.unm.getD (t + 1) 0) ≤ (L.unm.getD t 0)
              · refine stw (want_none (by rfl)) (yb (decide_eq_true c11) (yi_geq rfl rfl rfl)) rfl (by decide) ?_
                refine sg_nil ?_
                refine nx (E' := [(1, _), (4, _), (46, _), (47, _), (48, _), (49, _), (50, _), (53, _), (54, _), (55, _), (56, _), (57, _), (58, _), (59, _), (60, _), (61, _), (62, _), (63, _), (64, _)]) (fk rfl (fk rfl (fk rfl (fk rfl (fk rfl (fk rfl (fk rfl (fk rfl (fk rfl (fk rfl (fk rfl (fk rfl (fk rfl (fk rfl (fk rfl (fk rfl (fk rfl (fk rfl (fk rfl fn))))))))))))))))))) ?_
                refine cg_ct rfl ?_
                refine cg_seq ?_
                refine cg_region ?_
                refine lsw (want_none (by rfl)) (y_assign rfl rfl) rfl (by decide) ?_
                refine lg_nil ?_
                refine nx (E' := [(1, _), (4, _), (46, _), (47, _), (48, _), (49, _), (50, _), (53, _), (54, _), (55, _), (56, _), (57, _), (58, _), (59, _), (60, _), (61, _), (62, _), (63, _), (64, _), (2, _)]) (fk rfl (fk rfl (fk rfl (fk rfl (fk rfl (fk rfl (fk rfl (fk rfl (fk rfl (fk rfl (fk rfl (fk rfl (fk rfl (fk rfl (fk rfl (fk rfl (fk rfl (fk rfl (fk rfl (fk rfl fn)))))))))))))))))))) ?_
                refine cg_ret ?_
                refine eg_block_ret ?_
                refine eg_seq_ret ?_
                refine eg_seq_ret ?_
                refine eg_block_ret ?_
                refine eg_seq_ret ?_
                have u := u.trans (dW10.mono u.size)
                exact eg_ret_tmp rfl rfl ⟨_, rfl, congrArg nv (show pnCheck L = 8 from ((((if_neg c2).trans (if_neg (by omega))).trans (if_neg nex)).trans (if_pos (not_rising (by omega) c11)))).symm, u⟩
              · refine stw (want_none (by rfl)) (yb (decide_eq_false c11) (yi_geq rfl rfl rfl)) rfl (by decide) ?_
                refine sg_nil ?_
                refine nx (E' := [(1, _), (4, _), (46, _), (47, _), (48, _), (49, _), (50, _), (53, _), (54, _), (55, _), (56, _), (57, _), (58, _), (59, _), (60, _), (61, _), (62, _), (63, _), (64, _)]) (fk rfl (fk rfl (fk rfl (fk rfl (fk rfl (fk rfl (fk rfl (fk rfl (fk rfl (fk rfl (fk rfl (fk rfl (fk rfl (fk rfl (fk rfl (fk rfl (fk rfl (fk rfl (fk rfl fn))))))))))))))))))) ?_
                refine cg_cf rfl ?_
                refine cg_skip ?_
                refine eg_block_norm ?_
                refine nx (E' := [(1, _), (4, _), (46, _), (47, _), (48, _), (49, _), (50, _), (53, _), (54, _), (55, _), (56, _), (57, _), (58, _), (59, _), (60, _), (61, _), (62, _), (63, _), (64, _)]) (fk rfl (fk rfl (fk rfl (fk rfl (fk rfl (fk rfl (fk rfl (fk rfl (fk rfl (fk rfl (fk rfl (fk rfl (fk rfl (fk rfl (fk rfl (fk rfl (fk rfl (fk rfl (fk rfl fn))))))))))))))))))) ?_
                refine cg_region ?_
                refine lsw (want_none (by rfl)) (y_move rfl rfl) rfl (by decide) ?_
                refine lsw (want_none (by rfl)) (yv (congrArg nv (show ((t + 1 : Nat) : Int) + 1 = ((t + 1 + 1 : Nat) : Int) by omega)) (yi_add rfl rfl rfl (by omega) (by omega))) rfl (by decide) ?_
                refine lsw (want_none (by rfl)) (y_assign rfl rfl) rfl (by decide) ?_
                refine lg_nil ?_
                have u := u.trans (dW10.mono u.size)
                exact fun a ha => (show t < L.unm.length ∧ _ from ⟨(by omega), ha.keep (fk rfl (fk rfl fn)), r1, hl, u, (fun i hi => if q : i < t then he i q else by
                    obtain rfl : i = t := by omega
                    exact Int.not_le.1 c11), (by omega)⟩)
            · refine lsw (want_none (by rfl)) (yb (decide_eq_false c9) (yi_lss rfl rfl rfl)) rfl (by decide) ?_
              refine lg_nil ?_
              refine nx (E' := [(1, _), (4, _), (46, _), (47, _), (48, _), (49, _), (50, _)]) (fk rfl (fk rfl (fk rfl (fk rfl (fk rfl (fk rfl (fk rfl fn))))))) ?_
              refine cg_cf rfl ?_
              refine cg_exit ?_
              refine eg_seq_exit ?_
              refine eg_seq_exit ?_
              refine eg_block_exit ?_
              refine nx (E' := []) fn ?_
              refine cg_seq ?_
              refine cg_region ?_
              refine lsw (want_none (by rfl)) (y_assign rfl rfl) rfl (by decide) ?_
              refine lg_nil ?_
              refine nx (E' := [(2, _)]) (fk rfl fn) ?_
              refine cg_ret ?_
              exact eg_ret_tmp rfl rfl ⟨_, rfl, congrArg nv (show pnCheck L = 0 from ((((if_neg c2).trans (if_neg (by omega))).trans (if_neg nex)).trans (if_neg (not_not_intro (rising_of fun i hi => he i (by omega)))))).symm, u⟩
theorem rsameP_any {W : World} {B : Nat} {l m : PnV} {L M : Pn} (hl : IsPn W B l L) (hm : IsPn W B m M) (hB : B ≤ W.heap.size) : Calls Tryd.prog 54 #[.agg (l.cs L), .agg (m.cs M)] W fun e W' => ∃ v, e = .returned v ∧ v = .bool (decide (PnSame L M)) ∧ Below W.heap.size W W' := by
  refine calls_cg (n := 28) Tryd.func54 rfl Tryd.ntmps54 (by simp) ?_
  show CG _ _ _ [(0, .agg (l.cs L)), (1, .agg (m.cs M))] _ _
  have u := Below.refl W.heap.size W
  refine cg_seq ?_
  refine cg_region ?_
  refine lg_boxw (want_none (by rfl)) rfl rfl (by kernel_rfl) rfl (by decide) fun b1 w1 n1 => ?_
  have r1 := n1.row
  have k1 := n1.blk
  have z1 := n1.size
  have lt1 : b1 < w1.heap.size := by omega
  refine lg_boxw (want_none (by rfl)) rfl rfl (by kernel_rfl) rfl (by decide) fun b2 w2 n2 => ?_
  have r2 := n2.row
  have k2 := n2.blk
  have z2 := n2.size
  have lt2 : b2 < w2.heap.size := by omega
  refine lsw (want_none (by rfl)) (y_assign rfl rfl) rfl (by decide) ?_
  refine lg_nil ?_
  refine nx (E' := [(2, _), (3, _), (4, _)]) (fk rfl (fk rfl (fk rfl fn))) ?_
  refine cg_seq ?_
  refine cg_region ?_
  refine lsw (want_none (by rfl)) (y_fld (off := 0) (by kernel_rfl) rfl rfl) rfl (by decide) ?_
  have r1 := n2.keep r1
  refine lsw (want_none (by rfl)) (y_cellv (v := l.enc.v) r1 rfl (by kernel_rfl) rfl rfl) rfl (by decide) ?_
  have hl := hl.below (n1.below.mono (by omega))
  have hl := hl.below (n2.below.mono (by omega))
  have by3 : Bytes L.enc := hl.enc.bytes
  refine lsw (want_none (by rfl)) (y_strS hl.enc rfl rfl) rfl (by decide) ?_
  refine lsw (want_none (by rfl)) (y_fld (off := 0) (by kernel_rfl) rfl rfl) rfl (by decide) ?_
  refine lsw (want_none (by rfl)) (y_cellv (v := m.enc.v) r2 rfl (by kernel_rfl) rfl rfl) rfl (by decide) ?_
  have hm := hm.below (n1.below.mono (by omega))
  have hm := hm.below (n2.below.mono (by omega))
  have by4 : Bytes M.enc := hm.enc.bytes
  refine lsw (want_none (by rfl)) (y_strS hm.enc rfl rfl) rfl (by decide) ?_
  by_cases c5 : L.enc = M.enc
  · refine lsw (want_none (by rfl)) (yb (decide_eq_true c5) (y_seqS (xs := L.enc) (ys := M.enc) by3 by4 rfl rfl rfl)) rfl (by decide) ?_
    refine lsw (want_none (by rfl)) (y_move rfl rfl) rfl (by decide) ?_
    refine lsw (want_t (dj := 12) (by rfl) (by kernel_rfl) rfl) (y_fld (off := 1) (by kernel_rfl) rfl rfl) rfl (by decide) ?_
    refine lsw (want_t (dj := 12) (by rfl) (by kernel_rfl) rfl) (y_cellv (v := l.hash.v) r1 rfl (by kernel_rfl) rfl rfl) rfl (by decide) ?_
    have by6 : Bytes L.hash := hl.hash.bytes
    refine lsw (want_t (dj := 12) (by rfl) (by kernel_rfl) rfl) (y_strS hl.hash rfl rfl) rfl (by decide) ?_
    refine lsw (want_t (dj := 12) (by rfl) (by kernel_rfl) rfl) (y_fld (off := 1) (by kernel_rfl) rfl rfl) rfl (by decide) ?_
    refine lsw (want_t (dj := 12) (by rfl) (by kernel_rfl) rfl) (y_cellv (v := m.hash.v) r2 rfl (by kernel_rfl) rfl rfl) rfl (by decide) ?_
    have by7 : Bytes M.hash := hm.hash.bytes
    refine lsw (want_t (dj := 12) (by rfl) (by kernel_rfl) rfl) (y_strS hm.hash rfl rfl) rfl (by decide) ?_
    by_cases c8 : L.hash = M.hash
    · refine lsw (want_t (dj := 12) (by rfl) (by kernel_rfl) rfl) (yb (decide_eq_true c8) (y_seqS (xs := L.hash) (ys := M.hash) by6 by7 rfl rfl rfl)) rfl (by decide) ?_
      refine lsw (want_none (by rfl)) (y_pick true rfl rfl rfl) rfl (by decide) ?_
      refine lsw (want_none (by rfl)) (y_move rfl rfl) rfl (by decide) ?_
      refine lsw (want_t (dj := 21) (by rfl) (by kernel_rfl) rfl) (y_fld (off := 2) (by kernel_rfl) rfl rfl) rfl (by decide) ?_
      refine lsw (want_t (dj := 21) (by rfl) (by kernel_rfl) rfl) (y_cellv (v := l.unm.v) r1 rfl (by kernel_rfl) rfl rfl) rfl (by decide) ?_
      refine lsw (want_t (dj := 21) (by rfl) (by kernel_rfl) rfl) (y_fld (off := 2) (by kernel_rfl) rfl rfl) rfl (by decide) ?_
      refine lsw (want_t (dj := 21) (by rfl) (by kernel_rfl) rfl) (y_cellv (v := m.unm.v) r2 rfl (by kernel_rfl) rfl rfl) rfl (by decide) ?_
      by_cases c9 : L.unm = M.unm
      · refine lg_callw (want_t (dj := 21) (by rfl) (by kernel_rfl) rfl) (ints_S hl.unm hm.unm (by omega) (by omega)) (by kernel_rfl) rfl rfl rfl (by decide) ?_
        rintro u10 w10 ⟨e10, hw10⟩
        have zw10 := hw10.size
        obtain rfl : u10 = .bool true := e10.trans (congrArg Value.bool (decide_eq_true c9))
        refine lsw (want_none (by rfl)) (y_pick true rfl rfl rfl) rfl (by decide) ?_
        refine lsw (want_none (by rfl)) (y_assign rfl rfl) rfl (by decide) ?_
        refine lg_nil ?_
        refine nx (E' := [(4, _)]) (fk rfl fn) ?_
        refine cg_ret ?_
        have u := u.trans (n1.below.mono u.size)
        have u := u.trans (n2.below.mono u.size)
        have u := u.trans (hw10.mono u.size)
        exact eg_ret_tmp rfl rfl ⟨_, rfl, congrArg Value.bool (show true = decide (PnSame L M) from (decide_eq_true (by simp [PnSame, *])).symm), u⟩
      · refine lg_callw (want_t (dj := 21) (by rfl) (by kernel_rfl) rfl) (ints_S hl.unm hm.unm (by omega) (by omega)) (by kernel_rfl) rfl rfl rfl (by decide) ?_
        rintro u11 w11 ⟨e11, hw11⟩
        have zw11 := hw11.size
        obtain rfl : u11 = .bool false := e11.trans (congrArg Value.bool (decide_eq_false c9))
        refine lsw (want_none (by rfl)) (y_pick true rfl rfl rfl) rfl (by decide) ?_
        refine lsw (want_none (by rfl)) (y_assign rfl rfl) rfl (by decide) ?_
        refine lg_nil ?_
        refine nx (E' := [(4, _)]) (fk rfl fn) ?_
        refine cg_ret ?_
        have u := u.trans (n1.below.mono u.size)
        have u := u.trans (n2.below.mono u.size)
        have u := u.trans (hw11.mono u.size)
        exact eg_ret_tmp rfl rfl ⟨_, rfl, congrArg Value.bool (show false = decide (PnSame L M) from (decide_eq_false (by simp [PnSame, *])).symm), u⟩
    · refine lsw (want_t (dj := 12) (by rfl) (by kernel_rfl) rfl) (yb (decide_eq_false c8) (y_seqS (xs := L.hash) (ys := M.hash) by6 by7 rfl rfl rfl)) rfl (by decide) ?_
      refine lsw (want_none (by rfl)) (y_pick true rfl rfl rfl) rfl (by decide) ?_
      refine lsw (want_none (by rfl)) (y_move rfl rfl) rfl (by decide) ?_
      refine lsk (want_f (dj := 21) (by rfl) (by kernel_rfl) rfl) rfl (by decide) ?_
      refine lsk (want_f (dj := 21) (by rfl) (by kernel_rfl) rfl) rfl (by decide) ?_
      refine lsk (want_f (dj := 21) (by rfl) (by kernel_rfl) rfl) rfl (by decide) ?_
      refine lsk (want_f (dj := 21) (by rfl) (by kernel_rfl) rfl) rfl (by decide) ?_
      refine lsk (want_f (dj := 21) (by rfl) (by kernel_rfl) rfl) rfl (by decide) ?_
      refine lsw (want_none (by rfl)) (y_pick false rfl rfl rfl) rfl (by decide) ?_
      refine lsw (want_none (by rfl)) (y_assign rfl rfl) rfl (by decide) ?_
      refine lg_nil ?_
      refine nx (E' := [(4, _)]) (fk rfl fn) ?_
      refine cg_ret ?_
      have u := u.trans (n1.below.mono u.size)
      have u := u.trans (n2.below.mono u.size)
      exact eg_ret_tmp rfl rfl ⟨_, rfl, congrArg Value.bool (show false = decide (PnSame L M) from (decide_eq_false (by simp [PnSame, *])).symm), u⟩
  · refine lsw (want_none (by rfl)) (yb (decide_eq_false c5) (y_seqS (xs := L.enc) (ys := M.enc) by3 by4 rfl rfl rfl)) rfl (by decide) ?_
    refine lsw (want_none (by rfl)) (y_move rfl rfl) rfl (by decide) ?_
    refine lsk (want_f (dj := 12) (by rfl) (by kernel_rfl) rfl) rfl (by decide) ?_
    refine lsk (want_f (dj := 12) (by rfl) (by kernel_rfl) rfl) rfl (by decide) ?_
    refine lsk (want_f (dj := 12) (by rfl) (by kernel_rfl) rfl) rfl (by decide) ?_
    refine lsk (want_f (dj := 12) (by rfl) (by kernel_rfl) rfl) rfl (by decide) ?_
    refine lsk (want_f (dj := 12) (by rfl) (by kernel_rfl) rfl) rfl (by decide) ?_
    refine lsk (want_f (dj := 12) (by rfl) (by kernel_rfl) rfl) rfl (by decide) ?_
    refine lsk (want_f (dj := 12) (by rfl) (by kernel_rfl) rfl) rfl (by decide) ?_
    refine lsw (want_none (by rfl)) (y_pick false rfl rfl rfl) rfl (by decide) ?_
    refine lsw (want_none (by rfl)) (y_move rfl rfl) rfl (by decide) ?_
    refine lsk (want_f (dj := 21) (by rfl) (by kernel_rfl) rfl) rfl (by decide) ?_
    refine lsk (want_f (dj := 21) (by rfl) (by kernel_rfl) rfl) rfl (by decide) ?_
    refine lsk (want_f (dj := 21) (by rfl) (by kernel_rfl) rfl) rfl (by decide) ?_
    refine lsk (want_f (dj := 21) (by rfl) (by kernel_rfl) rfl) rfl (by decide) ?_
    refine lsk (want_f (dj := 21) (by rfl) (by kernel_rfl) rfl) rfl (by decide) ?_
    refine lsw (want_none (by rfl)) (y_pick false rfl rfl rfl) rfl (by decide) ?_
    refine lsw (want_none (by rfl)) (y_assign rfl rfl) rfl (by decide) ?_
    refine lg_nil ?_
    refine nx (E' := [(4, _)]) (fk rfl fn) ?_
    refine cg_ret ?_
    have u := u.trans (n1.below.mono u.size)
    have u := u.trans (n2.below.mono u.size)
    exact eg_ret_tmp rfl rfl ⟨_, rfl, congrArg Value.bool (show false = decide (PnSame L M) from (decide_eq_false (by simp [PnSame, *])).symm), u⟩
end
end Go.Proofs.YtpoonjgkgaodmaaDoor
