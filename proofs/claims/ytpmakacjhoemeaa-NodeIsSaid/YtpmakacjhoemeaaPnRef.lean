/-
  The document's Few, Check, Same, Put and Get.
-/
import Derived.Test.YtpmakacjhoemeaaPnProg
namespace Go.Proofs.Ytpmakacjhoemeaa
open Go.ChangeShapes Go.WideShapes Go.ChangeAt Go.RowKit
set_option linter.unusedVariables false

section
set_option maxHeartbeats 1000000
theorem fewP_any {W : World} {B : Nat} {l : PnV} {L : Pn} (hl : IsPn W B l L) (hB : B ≤ W.heap.size) : Calls Try.prog 26 #[.agg (l.cs L)] W fun e W' => ∃ v, e = .returned v ∧ v = .bool (decide (pnFew L)) ∧ Below W.heap.size W W' := by
  refine calls_cg (n := 15) Try.func26 rfl Try.ntmps26 (by simp) ?_
  show CG _ _ _ [(0, .agg (l.cs L))] _ _
  have u := Below.refl W.heap.size W
  refine cg_seq ?_
  refine cg_region ?_
  refine lg_boxw (want_none (by rfl)) rfl rfl (by kernel_rfl) rfl (by decide) fun b1 w1 n1 => ?_
  have r1 := n1.row
  have k1 := n1.blk
  have z1 := n1.size
  have lt1 : b1 < w1.heap.size := by omega
  refine lsw (want_none (by rfl)) (y_assign rfl rfl) rfl (by decide) ?_
  refine lg_nil ?_
  refine nx (E' := [(1, _), (2, _)]) (fk rfl (fk rfl fn)) ?_
  refine cg_seq ?_
  refine cg_region ?_
  refine lsw (want_none (by rfl)) (y_fld (off := 0) (by kernel_rfl) rfl rfl) rfl (by decide) ?_
  refine lsw (want_none (by rfl)) (y_cellv (v := l.enc.v) r1 rfl (by kernel_rfl) rfl rfl) rfl (by decide) ?_
  have hl := hl.below (n1.below.mono (by omega))
  refine lsw (want_none (by rfl)) (y_lenS (el := 5) hl.enc (by kernel_rfl) rfl rfl) rfl (by decide) ?_
  refine lsw (want_none (by rfl)) (y_fld (off := 1) (by kernel_rfl) rfl rfl) rfl (by decide) ?_
  refine lsw (want_none (by rfl)) (y_cellv (v := l.hash.v) r1 rfl (by kernel_rfl) rfl rfl) rfl (by decide) ?_
  refine lsw (want_none (by rfl)) (y_lenS (el := 5) hl.hash (by kernel_rfl) rfl rfl) rfl (by decide) ?_
  refine lsw (want_none (by rfl)) (yi_addW rfl rfl rfl) rfl (by decide) ?_
  refine lsw (want_none (by rfl)) (y_fld (off := 2) (by kernel_rfl) rfl rfl) rfl (by decide) ?_
  refine lsw (want_none (by rfl)) (y_cellv (v := l.unm.v) r1 rfl (by kernel_rfl) rfl rfl) rfl (by decide) ?_
  refine lsw (want_none (by rfl)) (y_lenM (el := 3) hl.unm.len (by kernel_rfl) rfl rfl) rfl (by decide) ?_
  refine lsw (want_none (by rfl)) (yi_addW rfl rfl rfl) rfl (by decide) ?_
  refine lsw (want_none (by rfl)) (yi_leq rfl rfl rfl) rfl (by decide) ?_
  refine lsw (want_none (by rfl)) (y_assign rfl rfl) rfl (by decide) ?_
  refine lg_nil ?_
  refine nx (E' := [(2, _)]) (fk rfl fn) ?_
  refine cg_ret ?_
  have u := u.trans (n1.below.mono u.size)
  exact eg_ret_tmp rfl rfl ⟨_, rfl, rfl, u⟩
set_option maxRecDepth 20000 in
theorem rcheckP_any {W : World} {B : Nat} {l : PnV} {L : Pn} (hl : IsPn W B l L) (hB : B ≤ W.heap.size) : Calls Try.prog 41 #[.agg (l.cs L)] W fun e W' => ∃ v, e = .returned v ∧ v = nv (pnCheck L) ∧ Below W.heap.size W W' := by
  refine calls_cg (n := 65) Try.func41 rfl Try.ntmps41 (by simp) ?_
  show CG _ _ _ [(0, .agg (l.cs L))] _ _
  have u := Below.refl W.heap.size W
  have le_l := hl.unm.len; have ca_l := hl.unm.cap
  refine cg_seq ?_
  refine cg_region ?_
  refine lg_boxw (want_none (by rfl)) rfl rfl (by kernel_rfl) rfl (by decide) fun b1 w1 n1 => ?_
  have r1 := n1.row
  have k1 := n1.blk
  have z1 := n1.size
  have lt1 : b1 < w1.heap.size := by omega
  refine lsw (want_none (by rfl)) (y_assign rfl rfl) rfl (by decide) ?_
  refine lg_nil ?_
  refine nx (E' := [(1, _), (2, _)]) (fk rfl (fk rfl fn)) ?_
  refine cg_seq ?_
  refine cg_seq ?_
  refine cg_region ?_
  refine lsw (want_none (by rfl)) (y_fld (off := 0) (by kernel_rfl) rfl rfl) rfl (by decide) ?_
  refine lsw (want_none (by rfl)) (y_cellv (v := l.enc.v) r1 rfl (by kernel_rfl) rfl rfl) rfl (by decide) ?_
  have hl := hl.below (n1.below.mono (by omega))
  refine lsw (want_none (by rfl)) (y_lenS (el := 5) hl.enc (by kernel_rfl) rfl rfl) rfl (by decide) ?_
  by_cases c2 : (L.enc.length : Int) = 0
  · refine lsw (want_none (by rfl)) (yb (decide_eq_true c2) (yi_eql rfl rfl rfl)) rfl (by decide) ?_
    refine lg_nil ?_
    refine nx (E' := [(1, _), (2, _), (8, _)]) (fk rfl (fk rfl (fk rfl fn))) ?_
    refine cg_ct rfl ?_
    refine cg_seq ?_
    refine cg_region ?_
    refine lsw (want_none (by rfl)) (y_assign rfl rfl) rfl (by decide) ?_
    refine lg_nil ?_
    refine nx (E' := [(1, _), (2, _)]) (fk rfl (fk rfl fn)) ?_
    refine cg_ret ?_
    refine eg_seq_ret ?_
    have u := u.trans (n1.below.mono u.size)
    exact eg_ret_tmp rfl rfl ⟨_, rfl, congrArg nv (show pnCheck L = 5 from (if_pos c2)).symm, u⟩
  · refine lsw (want_none (by rfl)) (yb (decide_eq_false c2) (yi_eql rfl rfl rfl)) rfl (by decide) ?_
    refine lg_nil ?_
    refine nx (E' := [(1, _), (2, _), (8, _)]) (fk rfl (fk rfl (fk rfl fn))) ?_
    refine cg_cf rfl ?_
    refine cg_skip ?_
    refine nx (E' := [(1, _), (2, _)]) (fk rfl (fk rfl fn)) ?_
    refine cg_seq ?_
    refine cg_seq ?_
    refine cg_region ?_
    refine lsw (want_none (by rfl)) (y_fld (off := 0) (by kernel_rfl) rfl rfl) rfl (by decide) ?_
    refine lsw (want_none (by rfl)) (y_cellv (v := l.enc.v) r1 rfl (by kernel_rfl) rfl rfl) rfl (by decide) ?_
    refine lsw (want_none (by rfl)) (y_lenS (el := 5) hl.enc (by kernel_rfl) rfl rfl) rfl (by decide) ?_
    by_cases c3 : 200 < (L.enc.length : Int)
    · refine lsw (want_none (by rfl)) (yb (decide_eq_true c3) (yi_gtr rfl rfl rfl)) rfl (by decide) ?_
      refine lsw (want_none (by rfl)) (y_move rfl rfl) rfl (by decide) ?_
      refine lsk (want_f (dj := 13) (by rfl) (by kernel_rfl) rfl) rfl (by decide) ?_
      refine lsk (want_f (dj := 13) (by rfl) (by kernel_rfl) rfl) rfl (by decide) ?_
      refine lsk (want_f (dj := 13) (by rfl) (by kernel_rfl) rfl) rfl (by decide) ?_
      refine lsk (want_f (dj := 13) (by rfl) (by kernel_rfl) rfl) rfl (by decide) ?_
      refine lsw (want_none (by rfl)) (y_pick true rfl rfl rfl) rfl (by decide) ?_
      refine lsw (want_none (by rfl)) (y_move rfl rfl) rfl (by decide) ?_
      refine lsk (want_f (dj := 19) (by rfl) (by kernel_rfl) rfl) rfl (by decide) ?_
      refine lsk (want_f (dj := 19) (by rfl) (by kernel_rfl) rfl) rfl (by decide) ?_
      refine lsk (want_f (dj := 19) (by rfl) (by kernel_rfl) rfl) rfl (by decide) ?_
      refine lsk (want_f (dj := 19) (by rfl) (by kernel_rfl) rfl) rfl (by decide) ?_
      refine lsw (want_none (by rfl)) (y_pick true rfl rfl rfl) rfl (by decide) ?_
      refine lg_nil ?_
      refine nx (E' := [(1, _), (2, _), (24, _)]) (fk rfl (fk rfl (fk rfl fn))) ?_
      refine cg_ct rfl ?_
      refine cg_seq ?_
      refine cg_region ?_
      refine lsw (want_none (by rfl)) (y_assign rfl rfl) rfl (by decide) ?_
      refine lg_nil ?_
      refine nx (E' := [(1, _), (2, _)]) (fk rfl (fk rfl fn)) ?_
      refine cg_ret ?_
      refine eg_seq_ret ?_
      have u := u.trans (n1.below.mono u.size)
      exact eg_ret_tmp rfl rfl ⟨_, rfl, congrArg nv (show pnCheck L = 4 from ((if_neg c2).trans (if_pos (by omega)))).symm, u⟩
    · refine lsw (want_none (by rfl)) (yb (decide_eq_false c3) (yi_gtr rfl rfl rfl)) rfl (by decide) ?_
      refine lsw (want_none (by rfl)) (y_move rfl rfl) rfl (by decide) ?_
      refine lsw (want_t (dj := 13) (by rfl) (by kernel_rfl) rfl) (y_fld (off := 1) (by kernel_rfl) rfl rfl) rfl (by decide) ?_
      refine lsw (want_t (dj := 13) (by rfl) (by kernel_rfl) rfl) (y_cellv (v := l.hash.v) r1 rfl (by kernel_rfl) rfl rfl) rfl (by decide) ?_
      refine lsw (want_t (dj := 13) (by rfl) (by kernel_rfl) rfl) (y_lenS (el := 5) hl.hash (by kernel_rfl) rfl rfl) rfl (by decide) ?_
      by_cases c4 : 200 < (L.hash.length : Int)
      · refine lsw (want_t (dj := 13) (by rfl) (by kernel_rfl) rfl) (yb (decide_eq_true c4) (yi_gtr rfl rfl rfl)) rfl (by decide) ?_
        refine lsw (want_none (by rfl)) (y_pick false rfl rfl rfl) rfl (by decide) ?_
        refine lsw (want_none (by rfl)) (y_move rfl rfl) rfl (by decide) ?_
        refine lsk (want_f (dj := 19) (by rfl) (by kernel_rfl) rfl) rfl (by decide) ?_
        refine lsk (want_f (dj := 19) (by rfl) (by kernel_rfl) rfl) rfl (by decide) ?_
        refine lsk (want_f (dj := 19) (by rfl) (by kernel_rfl) rfl) rfl (by decide) ?_
        refine lsk (want_f (dj := 19) (by rfl) (by kernel_rfl) rfl) rfl (by decide) ?_
        refine lsw (want_none (by rfl)) (y_pick true rfl rfl rfl) rfl (by decide) ?_
        refine lg_nil ?_
        refine nx (E' := [(1, _), (2, _), (24, _)]) (fk rfl (fk rfl (fk rfl fn))) ?_
        refine cg_ct rfl ?_
        refine cg_seq ?_
        refine cg_region ?_
        refine lsw (want_none (by rfl)) (y_assign rfl rfl) rfl (by decide) ?_
        refine lg_nil ?_
        refine nx (E' := [(1, _), (2, _)]) (fk rfl (fk rfl fn)) ?_
        refine cg_ret ?_
        refine eg_seq_ret ?_
        have u := u.trans (n1.below.mono u.size)
        exact eg_ret_tmp rfl rfl ⟨_, rfl, congrArg nv (show pnCheck L = 4 from ((if_neg c2).trans (if_pos (by omega)))).symm, u⟩
      · refine lsw (want_t (dj := 13) (by rfl) (by kernel_rfl) rfl) (yb (decide_eq_false c4) (yi_gtr rfl rfl rfl)) rfl (by decide) ?_
        refine lsw (want_none (by rfl)) (y_pick false rfl rfl rfl) rfl (by decide) ?_
        refine lsw (want_none (by rfl)) (y_move rfl rfl) rfl (by decide) ?_
        refine lsw (want_t (dj := 19) (by rfl) (by kernel_rfl) rfl) (y_fld (off := 2) (by kernel_rfl) rfl rfl) rfl (by decide) ?_
        refine lsw (want_t (dj := 19) (by rfl) (by kernel_rfl) rfl) (y_cellv (v := l.unm.v) r1 rfl (by kernel_rfl) rfl rfl) rfl (by decide) ?_
        refine lsw (want_t (dj := 19) (by rfl) (by kernel_rfl) rfl) (y_lenM (el := 3) hl.unm.len (by kernel_rfl) rfl rfl) rfl (by decide) ?_
        by_cases c5 : 64 < (L.unm.length : Int)
        · refine lsw (want_t (dj := 19) (by rfl) (by kernel_rfl) rfl) (yb (decide_eq_true c5) (yi_gtr rfl rfl rfl)) rfl (by decide) ?_
          refine lsw (want_none (by rfl)) (y_pick false rfl rfl rfl) rfl (by decide) ?_
          refine lg_nil ?_
          refine nx (E' := [(1, _), (2, _), (24, _)]) (fk rfl (fk rfl (fk rfl fn))) ?_
          refine cg_ct rfl ?_
          refine cg_seq ?_
          refine cg_region ?_
          refine lsw (want_none (by rfl)) (y_assign rfl rfl) rfl (by decide) ?_
          refine lg_nil ?_
          refine nx (E' := [(1, _), (2, _)]) (fk rfl (fk rfl fn)) ?_
          refine cg_ret ?_
          refine eg_seq_ret ?_
          have u := u.trans (n1.below.mono u.size)
          exact eg_ret_tmp rfl rfl ⟨_, rfl, congrArg nv (show pnCheck L = 4 from ((if_neg c2).trans (if_pos (by omega)))).symm, u⟩
        · refine lsw (want_t (dj := 19) (by rfl) (by kernel_rfl) rfl) (yb (decide_eq_false c5) (yi_gtr rfl rfl rfl)) rfl (by decide) ?_
          refine lsw (want_none (by rfl)) (y_pick false rfl rfl rfl) rfl (by decide) ?_
          refine lg_nil ?_
          refine nx (E' := [(1, _), (2, _), (24, _)]) (fk rfl (fk rfl (fk rfl fn))) ?_
          refine cg_cf rfl ?_
          refine cg_skip ?_
          refine nx (E' := [(1, _), (2, _)]) (fk rfl (fk rfl fn)) ?_
          refine cg_seq ?_
          refine cg_seq ?_
          refine cg_region ?_
          refine lsw (want_none (by rfl)) (y_assign rfl rfl) rfl (by decide) ?_
          refine lg_nil ?_
          refine nx (E' := [(1, _), (2, _), (3, _)]) (fk rfl (fk rfl (fk rfl fn))) ?_
          refine cg_block ?_
          have hb0 : W.heap.size ≤ b1 := by omega
          have u := u.trans (n1.below.mono u.size)
          refine cg_loopE (fun t a v => Holds 65 [(1, pv b1 0), (3, nv ((t : Nat) : Int))] a ∧ RowAt v b1 27 (l.cs L) ∧ IsPn v B l L ∧ Below W.heap.size W v ∧ t ≤ L.unm.length ∧ (∀ j, j < t → ¬ ((L.unm.getD j 0) < 0 ∨ 64 ≤ (L.unm.getD j 0)))) L.unm.length (fun a ha => ⟨ha.keep (fk rfl (fk rfl fn)), r1, hl, u, (Nat.zero_le _), (fun j hj => absurd hj (Nat.not_lt_zero _))⟩) ?_
          rintro t a v ht ⟨ha, r1, hl, u, tle, hno⟩
          refine cg_at ha ?_
          clear ha a
          have zv := u.size
          have l_r1 := r1.lt
          refine cg_seq ?_
          refine cg_seq ?_
          refine cg_region ?_
          refine lsw (want_none (by rfl)) (y_move rfl rfl) rfl (by decide) ?_
          refine lsw (want_none (by rfl)) (y_fld (off := 2) (by kernel_rfl) rfl rfl) rfl (by decide) ?_
          refine lsw (want_none (by rfl)) (y_cellv (v := l.unm.v) r1 rfl (by kernel_rfl) rfl rfl) rfl (by decide) ?_
          refine lsw (want_none (by rfl)) (y_lenM (el := 3) hl.unm.len (by kernel_rfl) rfl rfl) rfl (by decide) ?_
          by_cases c6 : ((t : Nat) : Int) < (L.unm.length : Int)
          · refine lsw (want_none (by rfl)) (yb (decide_eq_true c6) (yi_lss rfl rfl rfl)) rfl (by decide) ?_
            refine lg_nil ?_
            refine nx (E' := [(1, _), (3, _), (25, _), (26, _), (27, _), (28, _), (29, _)]) (fk rfl (fk rfl (fk rfl (fk rfl (fk rfl (fk rfl (fk rfl fn))))))) ?_
            refine cg_ct rfl ?_
            refine cg_skip ?_
            refine nx (E' := [(1, _), (3, _), (25, _), (26, _), (27, _), (28, _), (29, _)]) (fk rfl (fk rfl (fk rfl (fk rfl (fk rfl (fk rfl (fk rfl fn))))))) ?_
            refine cg_seq ?_
            refine cg_block ?_
            refine cg_seq ?_
            refine cg_region ?_
            refine lsw (want_none (by rfl)) (y_fld (off := 2) (by kernel_rfl) rfl rfl) rfl (by decide) ?_
            refine lsw (want_none (by rfl)) (y_cellv (v := l.unm.v) r1 rfl (by kernel_rfl) rfl rfl) rfl (by decide) ?_
            refine lsw (want_none (by rfl)) (y_move rfl rfl) rfl (by decide) ?_
            refine lsw (want_none (by rfl)) (y_ixT (i := t) (iI := ((t : Nat) : Int)) hl.unm (by omega) (by omega) rfl rfl rfl) rfl (by decide) ?_
            refine lsw (want_none (by rfl)) (y_ldT (i := t) hl.unm (by omega) rfl rfl) rfl (by decide) ?_
            by_cases c7 : (L.unm.getD t 0) < 0
            · refine lsw (want_none (by rfl)) (yb (decide_eq_true c7) (yi_lss rfl rfl rfl)) rfl (by decide) ?_
              refine lsw (want_none (by rfl)) (y_move rfl rfl) rfl (by decide) ?_
              refine lsk (want_f (dj := 38) (by rfl) (by kernel_rfl) rfl) rfl (by decide) ?_
              refine lsk (want_f (dj := 38) (by rfl) (by kernel_rfl) rfl) rfl (by decide) ?_
              refine lsk (want_f (dj := 38) (by rfl) (by kernel_rfl) rfl) rfl (by decide) ?_
              refine lsk (want_f (dj := 38) (by rfl) (by kernel_rfl) rfl) rfl (by decide) ?_
              refine lsk (want_f (dj := 38) (by rfl) (by kernel_rfl) rfl) rfl (by decide) ?_
              refine lsk (want_f (dj := 38) (by rfl) (by kernel_rfl) rfl) rfl (by decide) ?_
              refine lsw (want_none (by rfl)) (y_pick true rfl rfl rfl) rfl (by decide) ?_
              refine lg_nil ?_
              refine nx (E' := [(1, _), (3, _), (25, _), (26, _), (27, _), (28, _), (29, _), (32, _), (33, _), (34, _), (35, _), (36, _), (37, _), (38, _), (45, _)]) (fk rfl (fk rfl (fk rfl (fk rfl (fk rfl (fk rfl (fk rfl (fk rfl (fk rfl (fk rfl (fk rfl (fk rfl (fk rfl (fk rfl (fk rfl fn))))))))))))))) ?_
              refine cg_ct rfl ?_
              refine cg_seq ?_
              refine cg_region ?_
              refine lsw (want_none (by rfl)) (y_assign rfl rfl) rfl (by decide) ?_
              refine lg_nil ?_
              refine nx (E' := [(1, _), (3, _), (25, _), (26, _), (27, _), (28, _), (29, _), (32, _), (33, _), (34, _), (35, _), (36, _), (37, _), (38, _), (45, _), (2, _)]) (fk rfl (fk rfl (fk rfl (fk rfl (fk rfl (fk rfl (fk rfl (fk rfl (fk rfl (fk rfl (fk rfl (fk rfl (fk rfl (fk rfl (fk rfl (fk rfl fn)))))))))))))))) ?_
              refine cg_ret ?_
              refine eg_block_ret ?_
              refine eg_seq_ret ?_
              refine eg_seq_ret ?_
              refine eg_block_ret ?_
              refine eg_seq_ret ?_
              have ex : ∃ x ∈ L.unm, x < 0 ∨ 64 ≤ x := ⟨_, getD_mem (i := t) (by omega), by omega⟩
              exact eg_ret_tmp rfl rfl ⟨_, rfl, congrArg nv (show pnCheck L = 3 from (((if_neg c2).trans (if_neg (by omega))).trans (if_pos ex))).symm, u⟩
            · refine lsw (want_none (by rfl)) (yb (decide_eq_false c7) (yi_lss rfl rfl rfl)) rfl (by decide) ?_
              refine lsw (want_none (by rfl)) (y_move rfl rfl) rfl (by decide) ?_
              refine lsw (want_t (dj := 38) (by rfl) (by kernel_rfl) rfl) (y_fld (off := 2) (by kernel_rfl) rfl rfl) rfl (by decide) ?_
              refine lsw (want_t (dj := 38) (by rfl) (by kernel_rfl) rfl) (y_cellv (v := l.unm.v) r1 rfl (by kernel_rfl) rfl rfl) rfl (by decide) ?_
              refine lsw (want_t (dj := 38) (by rfl) (by kernel_rfl) rfl) (y_move rfl rfl) rfl (by decide) ?_
              refine lsw (want_t (dj := 38) (by rfl) (by kernel_rfl) rfl) (y_ixT (i := t) (iI := ((t : Nat) : Int)) hl.unm (by omega) (by omega) rfl rfl rfl) rfl (by decide) ?_
              refine lsw (want_t (dj := 38) (by rfl) (by kernel_rfl) rfl) (y_ldT (i := t) hl.unm (by omega) rfl rfl) rfl (by decide) ?_
              by_cases c8 : 63 < (L.unm.getD t 0)
              · refine lsw (want_t (dj := 38) (by rfl) (by kernel_rfl) rfl) (yb (decide_eq_true c8) (yi_gtr rfl rfl rfl)) rfl (by decide) ?_
                refine lsw (want_none (by rfl)) (y_pick false rfl rfl rfl) rfl (by decide) ?_
                refine lg_nil ?_
                refine nx (E' := [(1, _), (3, _), (25, _), (26, _), (27, _), (28, _), (29, _), (32, _), (33, _), (34, _), (35, _), (36, _), (37, _), (38, _), (39, _), (40, _), (41, _), (42, _), (43, _), (44, _), (45, _)]) (fk rfl (fk rfl (fk rfl (fk rfl (fk rfl (fk rfl (fk rfl (fk rfl (fk rfl (fk rfl (fk rfl (fk rfl (fk rfl (fk rfl (fk rfl (fk rfl (fk rfl (fk rfl (fk rfl (fk rfl (fk rfl fn))))))))))))))))))))) ?_
                refine cg_ct rfl ?_
                refine cg_seq ?_
                refine cg_region ?_
                refine lsw (want_none (by rfl)) (y_assign rfl rfl) rfl (by decide) ?_
                refine lg_nil ?_
                refine nx (E' := [(1, _), (3, _), (25, _), (26, _), (27, _), (28, _), (29, _), (32, _), (33, _), (34, _), (35, _), (36, _), (37, _), (38, _), (39, _), (40, _), (41, _), (42, _), (43, _), (44, _), (45, _), (2, _)]) (fk rfl (fk rfl (fk rfl (fk rfl (fk rfl (fk rfl (fk rfl (fk rfl (fk rfl (fk rfl (fk rfl (fk rfl (fk rfl (fk rfl (fk rfl (fk rfl (fk rfl (fk rfl (fk rfl (fk rfl (fk rfl (fk rfl fn)))))))))))))))))))))) ?_
                refine cg_ret ?_
                refine eg_block_ret ?_
                refine eg_seq_ret ?_
                refine eg_seq_ret ?_
                refine eg_block_ret ?_
                refine eg_seq_ret ?_
                have ex : ∃ x ∈ L.unm, x < 0 ∨ 64 ≤ x := ⟨_, getD_mem (i := t) (by omega), by omega⟩
                exact eg_ret_tmp rfl rfl ⟨_, rfl, congrArg nv (show pnCheck L = 3 from (((if_neg c2).trans (if_neg (by omega))).trans (if_pos ex))).symm, u⟩
              · refine lsw (want_t (dj := 38) (by rfl) (by kernel_rfl) rfl) (yb (decide_eq_false c8) (yi_gtr rfl rfl rfl)) rfl (by decide) ?_
                refine lsw (want_none (by rfl)) (y_pick false rfl rfl rfl) rfl (by decide) ?_
                refine lg_nil ?_
                refine nx (E' := [(1, _), (3, _), (25, _), (26, _), (27, _), (28, _), (29, _), (32, _), (33, _), (34, _), (35, _), (36, _), (37, _), (38, _), (39, _), (40, _), (41, _), (42, _), (43, _), (44, _), (45, _)]) (fk rfl (fk rfl (fk rfl (fk rfl (fk rfl (fk rfl (fk rfl (fk rfl (fk rfl (fk rfl (fk rfl (fk rfl (fk rfl (fk rfl (fk rfl (fk rfl (fk rfl (fk rfl (fk rfl (fk rfl (fk rfl fn))))))))))))))))))))) ?_
                refine cg_cf rfl ?_
                refine cg_skip ?_
                refine eg_block_norm ?_
                refine nx (E' := [(1, _), (3, _), (25, _), (26, _), (27, _), (28, _), (29, _), (32, _), (33, _), (34, _), (35, _), (36, _), (37, _), (38, _), (39, _), (40, _), (41, _), (42, _), (43, _), (44, _), (45, _)]) (fk rfl (fk rfl (fk rfl (fk rfl (fk rfl (fk rfl (fk rfl (fk rfl (fk rfl (fk rfl (fk rfl (fk rfl (fk rfl (fk rfl (fk rfl (fk rfl (fk rfl (fk rfl (fk rfl (fk rfl (fk rfl fn))))))))))))))))))))) ?_
                refine cg_region ?_
                refine lsw (want_none (by rfl)) (y_move rfl rfl) rfl (by decide) ?_
                refine lsw (want_none (by rfl)) (yv (congrArg nv (show ((t : Nat) : Int) + 1 = ((t + 1 : Nat) : Int) by omega)) (yi_add rfl rfl rfl (by omega) (by omega))) rfl (by decide) ?_
                refine lsw (want_none (by rfl)) (y_assign rfl rfl) rfl (by decide) ?_
                refine lg_nil ?_
                exact fun a ha => (show t < L.unm.length ∧ _ from ⟨(by omega), ha.keep (fk rfl (fk rfl fn)), r1, hl, u, (by omega), (fun j hj => if q : j < t then hno j q else by
                    obtain rfl : j = t := by omega
                    omega)⟩)
          · refine lsw (want_none (by rfl)) (yb (decide_eq_false c6) (yi_lss rfl rfl rfl)) rfl (by decide) ?_
            refine lg_nil ?_
            refine nx (E' := [(1, _), (3, _), (25, _), (26, _), (27, _), (28, _), (29, _)]) (fk rfl (fk rfl (fk rfl (fk rfl (fk rfl (fk rfl (fk rfl fn))))))) ?_
            refine cg_cf rfl ?_
            refine cg_exit ?_
            refine eg_seq_exit ?_
            refine eg_seq_exit ?_
            refine eg_block_exit ?_
            refine nx (E' := [(1, _)]) (fk rfl fn) ?_
            refine cg_seq ?_
            refine cg_seq ?_
            refine cg_region ?_
            refine lsw (want_none (by rfl)) (y_assign rfl rfl) rfl (by decide) ?_
            refine lg_nil ?_
            refine nx (E' := [(1, _), (4, _)]) (fk rfl (fk rfl fn)) ?_
            refine cg_block ?_
            have nex : ¬ ∃ x ∈ L.unm, x < 0 ∨ 64 ≤ x := by rintro ⟨x, hx, q⟩; obtain ⟨i, hi, rfl⟩ := mem_getD hx; exact hno i (by omega) q
            have hb0 : W.heap.size ≤ b1 := by omega
            refine cg_loopE (fun t a v => Holds 65 [(1, pv b1 0), (4, nv (((t + 1) : Nat) : Int))] a ∧ RowAt v b1 27 (l.cs L) ∧ IsPn v B l L ∧ Below W.heap.size W v ∧ (∀ i, i < t → L.unm.getD i 0 < L.unm.getD (i + 1) 0) ∧ (t = 0 ∨ t < L.unm.length)) L.unm.length (fun a ha => ⟨ha.keep (fk rfl (fk rfl fn)), r1, hl, u, (fun i hi => absurd hi (Nat.not_lt_zero _)), (.inl rfl)⟩) ?_
            rintro t a v ht ⟨ha, r1, hl, u, he, tle⟩
            refine cg_at ha ?_
            clear ha a
            have zv := u.size
            have l_r1 := r1.lt
            refine cg_seq ?_
            refine cg_seq ?_
            refine cg_region ?_
            refine lsw (want_none (by rfl)) (y_move rfl rfl) rfl (by decide) ?_
            refine lsw (want_none (by rfl)) (y_fld (off := 2) (by kernel_rfl) rfl rfl) rfl (by decide) ?_
            refine lsw (want_none (by rfl)) (y_cellv (v := l.unm.v) r1 rfl (by kernel_rfl) rfl rfl) rfl (by decide) ?_
            refine lsw (want_none (by rfl)) (y_lenM (el := 3) hl.unm.len (by kernel_rfl) rfl rfl) rfl (by decide) ?_
            by_cases c9 : (((t + 1) : Nat) : Int) < (L.unm.length : Int)
            · refine lsw (want_none (by rfl)) (yb (decide_eq_true c9) (yi_lss rfl rfl rfl)) rfl (by decide) ?_
              refine lg_nil ?_
              refine nx (E' := [(1, _), (4, _), (46, _), (47, _), (48, _), (49, _), (50, _)]) (fk rfl (fk rfl (fk rfl (fk rfl (fk rfl (fk rfl (fk rfl fn))))))) ?_
              refine cg_ct rfl ?_
              refine cg_skip ?_
              refine nx (E' := [(1, _), (4, _), (46, _), (47, _), (48, _), (49, _), (50, _)]) (fk rfl (fk rfl (fk rfl (fk rfl (fk rfl (fk rfl (fk rfl fn))))))) ?_
              refine cg_seq ?_
              refine cg_block ?_
              refine cg_seq ?_
              refine cg_still (by kernel_rfl) (by kernel_rfl) fun W10 eW10 => ?_
              have dW10 := below_drew _ _ eW10
              have zW10 := size_drew _ _ eW10
              clear eW10
              refine stw (want_none (by rfl)) (y_fld (off := 2) (by kernel_rfl) rfl rfl) rfl (by decide) ?_
              have r1 := RowAt.below dW10 r1.lt r1
              refine stw (want_none (by rfl)) (y_cellv (v := l.unm.v) r1 rfl (by kernel_rfl) rfl rfl) rfl (by decide) ?_
              refine stw (want_none (by rfl)) (y_move rfl rfl) rfl (by decide) ?_
              refine stw (want_none (by rfl)) (yv (congrArg nv (show ((t + 1 : Nat) : Int) - 1 = ((t : Nat) : Int) by omega)) (yi_sub rfl rfl rfl (by omega) (by omega))) rfl (by decide) ?_
              have hl := hl.below (dW10.mono (by omega))
              refine stw (want_none (by rfl)) (y_ixT (i := t) (iI := ((t : Nat) : Int)) hl.unm (by omega) (by omega) rfl rfl rfl) rfl (by decide) ?_
              refine stw (want_none (by rfl)) (y_ldT (i := t) hl.unm (by omega) rfl rfl) rfl (by decide) ?_
              refine stw (want_none (by rfl)) (y_fld (off := 2) (by kernel_rfl) rfl rfl) rfl (by decide) ?_
              refine stw (want_none (by rfl)) (y_cellv (v := l.unm.v) r1 rfl (by kernel_rfl) rfl rfl) rfl (by decide) ?_
              refine stw (want_none (by rfl)) (y_move rfl rfl) rfl (by decide) ?_
              refine stw (want_none (by rfl)) (y_ixT (i := (t + 1)) (iI := (((t + 1) : Nat) : Int)) hl.unm (by omega) (by omega) rfl rfl rfl) rfl (by decide) ?_
              refine stw (want_none (by rfl)) (y_ldT (i := (t + 1)) hl.unm (by omega) rfl rfl) rfl (by decide) ?_
              by_cases c11 : (L.unm.getD (t + 1) 0) ≤ (L.unm.getD t 0)
              · refine stw (want_none (by rfl)) (yb (decide_eq_true c11) (yi_geq rfl rfl rfl)) rfl (by decide) ?_
                refine sg_nil ?_
                refine nx (E' := [(1, _), (4, _), (46, _), (47, _), (48, _), (49, _), (50, _), (53, _), (54, _), (55, _), (56, _), (57, _), (58, _), (59, _), (60, _), (61, _), (62, _), (63, _), (64, _)]) (fk rfl (fk rfl (fk rfl (fk rfl (fk rfl (fk rfl (fk rfl (fk rfl (fk rfl (fk rfl (fk rfl (fk rfl (fk rfl (fk rfl (fk rfl (fk rfl (fk rfl (fk rfl (fk rfl fn))))))))))))))))))) ?_
                refine cg_ct rfl ?_
                refine cg_seq ?_
                refine cg_region ?_
                refine lsw (want_none (by rfl)) (y_assign rfl rfl) rfl (by decide) ?_
                refine lg_nil ?_
                refine nx (E' := [(1, _), (4, _), (46, _), (47, _), (48, _), (49, _), (50, _), (53, _), (54, _), (55, _), (56, _), (57, _), (58, _), (59, _), (60, _), (61, _), (62, _), (63, _), (64, _), (2, _)]) (fk rfl (fk rfl (fk rfl (fk rfl (fk rfl (fk rfl (fk rfl (fk rfl (fk rfl (fk rfl (fk rfl (fk rfl (fk rfl (fk rfl (fk rfl (fk rfl (fk rfl (fk rfl (fk rfl (fk rfl fn)))))))))))))))))))) ?_
                refine cg_ret ?_
                refine eg_block_ret ?_
                refine eg_seq_ret ?_
                refine eg_seq_ret ?_
                refine eg_block_ret ?_
                refine eg_seq_ret ?_
                have u := u.trans (dW10.mono u.size)
                exact eg_ret_tmp rfl rfl ⟨_, rfl, congrArg nv (show pnCheck L = 8 from ((((if_neg c2).trans (if_neg (by omega))).trans (if_neg nex)).trans (if_pos (not_rising (by omega) c11)))).symm, u⟩
              · refine stw (want_none (by rfl)) (yb (decide_eq_false c11) (yi_geq rfl rfl rfl)) rfl (by decide) ?_
                refine sg_nil ?_
                refine nx (E' := [(1, _), (4, _), (46, _), (47, _), (48, _), (49, _), (50, _), (53, _), (54, _), (55, _), (56, _), (57, _), (58, _), (59, _), (60, _), (61, _), (62, _), (63, _), (64, _)]) (fk rfl (fk rfl (fk rfl (fk rfl (fk rfl (fk rfl (fk rfl (fk rfl (fk rfl (fk rfl (fk rfl (fk rfl (fk rfl (fk rfl (fk rfl (fk rfl (fk rfl (fk rfl (fk rfl fn))))))))))))))))))) ?_
                refine cg_cf rfl ?_
                refine cg_skip ?_
                refine eg_block_norm ?_
                refine nx (E' := [(1, _), (4, _), (46, _), (47, _), (48, _), (49, _), (50, _), (53, _), (54, _), (55, _), (56, _), (57, _), (58, _), (59, _), (60, _), (61, _), (62, _), (63, _), (64, _)]) (fk rfl (fk rfl (fk rfl (fk rfl (fk rfl (fk rfl (fk rfl (fk rfl (fk rfl (fk rfl (fk rfl (fk rfl (fk rfl (fk rfl (fk rfl (fk rfl (fk rfl (fk rfl (fk rfl fn))))))))))))))))))) ?_
                refine cg_region ?_
                refine lsw (want_none (by rfl)) (y_move rfl rfl) rfl (by decide) ?_
                refine lsw (want_none (by rfl)) (yv (congrArg nv (show ((t + 1 : Nat) : Int) + 1 = ((t + 1 + 1 : Nat) : Int) by omega)) (yi_add rfl rfl rfl (by omega) (by omega))) rfl (by decide) ?_
                refine lsw (want_none (by rfl)) (y_assign rfl rfl) rfl (by decide) ?_
                refine lg_nil ?_
                have u := u.trans (dW10.mono u.size)
                exact fun a ha => (show t < L.unm.length ∧ _ from ⟨(by omega), ha.keep (fk rfl (fk rfl fn)), r1, hl, u, (fun i hi => if q : i < t then he i q else by
                    obtain rfl : i = t := by omega
                    exact Int.not_le.1 c11), (by omega)⟩)
            · refine lsw (want_none (by rfl)) (yb (decide_eq_false c9) (yi_lss rfl rfl rfl)) rfl (by decide) ?_
              refine lg_nil ?_
              refine nx (E' := [(1, _), (4, _), (46, _), (47, _), (48, _), (49, _), (50, _)]) (fk rfl (fk rfl (fk rfl (fk rfl (fk rfl (fk rfl (fk rfl fn))))))) ?_
              refine cg_cf rfl ?_
              refine cg_exit ?_
              refine eg_seq_exit ?_
              refine eg_seq_exit ?_
              refine eg_block_exit ?_
              refine nx (E' := []) fn ?_
              refine cg_seq ?_
              refine cg_region ?_
              refine lsw (want_none (by rfl)) (y_assign rfl rfl) rfl (by decide) ?_
              refine lg_nil ?_
              refine nx (E' := [(2, _)]) (fk rfl fn) ?_
              refine cg_ret ?_
              exact eg_ret_tmp rfl rfl ⟨_, rfl, congrArg nv (show pnCheck L = 0 from ((((if_neg c2).trans (if_neg (by omega))).trans (if_neg nex)).trans (if_neg (not_not_intro (rising_of fun i hi => he i (by omega)))))).symm, u⟩
theorem rsameP_any {W : World} {B : Nat} {l m : PnV} {L M : Pn} (hl : IsPn W B l L) (hm : IsPn W B m M) (hB : B ≤ W.heap.size) : Calls Try.prog 35 #[.agg (l.cs L), .agg (m.cs M)] W fun e W' => ∃ v, e = .returned v ∧ v = .bool (decide (PnSame L M)) ∧ Below W.heap.size W W' := by
  refine calls_cg (n := 28) Try.func35 rfl Try.ntmps35 (by simp) ?_
  show CG _ _ _ [(0, .agg (l.cs L)), (1, .agg (m.cs M))] _ _
  have u := Below.refl W.heap.size W
  refine cg_seq ?_
  refine cg_region ?_
  refine lg_boxw (want_none (by rfl)) rfl rfl (by kernel_rfl) rfl (by decide) fun b1 w1 n1 => ?_
  have r1 := n1.row
  have k1 := n1.blk
  have z1 := n1.size
  have lt1 : b1 < w1.heap.size := by omega
  refine lg_boxw (want_none (by rfl)) rfl rfl (by kernel_rfl) rfl (by decide) fun b2 w2 n2 => ?_
  have r2 := n2.row
  have k2 := n2.blk
  have z2 := n2.size
  have lt2 : b2 < w2.heap.size := by omega
  refine lsw (want_none (by rfl)) (y_assign rfl rfl) rfl (by decide) ?_
  refine lg_nil ?_
  refine nx (E' := [(2, _), (3, _), (4, _)]) (fk rfl (fk rfl (fk rfl fn))) ?_
  refine cg_seq ?_
  refine cg_region ?_
  refine lsw (want_none (by rfl)) (y_fld (off := 0) (by kernel_rfl) rfl rfl) rfl (by decide) ?_
  have r1 := n2.keep r1
  refine lsw (want_none (by rfl)) (y_cellv (v := l.enc.v) r1 rfl (by kernel_rfl) rfl rfl) rfl (by decide) ?_
  have hl := hl.below (n1.below.mono (by omega))
  have hl := hl.below (n2.below.mono (by omega))
  have by3 : Bytes L.enc := hl.enc.bytes
  refine lsw (want_none (by rfl)) (y_strS hl.enc rfl rfl) rfl (by decide) ?_
  refine lsw (want_none (by rfl)) (y_fld (off := 0) (by kernel_rfl) rfl rfl) rfl (by decide) ?_
  refine lsw (want_none (by rfl)) (y_cellv (v := m.enc.v) r2 rfl (by kernel_rfl) rfl rfl) rfl (by decide) ?_
  have hm := hm.below (n1.below.mono (by omega))
  have hm := hm.below (n2.below.mono (by omega))
  have by4 : Bytes M.enc := hm.enc.bytes
  refine lsw (want_none (by rfl)) (y_strS hm.enc rfl rfl) rfl (by decide) ?_
  by_cases c5 : L.enc = M.enc
  · refine lsw (want_none (by rfl)) (yb (decide_eq_true c5) (y_seqS (xs := L.enc) (ys := M.enc) by3 by4 rfl rfl rfl)) rfl (by decide) ?_
    refine lsw (want_none (by rfl)) (y_move rfl rfl) rfl (by decide) ?_
    refine lsw (want_t (dj := 12) (by rfl) (by kernel_rfl) rfl) (y_fld (off := 1) (by kernel_rfl) rfl rfl) rfl (by decide) ?_
    refine lsw (want_t (dj := 12) (by rfl) (by kernel_rfl) rfl) (y_cellv (v := l.hash.v) r1 rfl (by kernel_rfl) rfl rfl) rfl (by decide) ?_
    have by6 : Bytes L.hash := hl.hash.bytes
    refine lsw (want_t (dj := 12) (by rfl) (by kernel_rfl) rfl) (y_strS hl.hash rfl rfl) rfl (by decide) ?_
    refine lsw (want_t (dj := 12) (by rfl) (by kernel_rfl) rfl) (y_fld (off := 1) (by kernel_rfl) rfl rfl) rfl (by decide) ?_
    refine lsw (want_t (dj := 12) (by rfl) (by kernel_rfl) rfl) (y_cellv (v := m.hash.v) r2 rfl (by kernel_rfl) rfl rfl) rfl (by decide) ?_
    have by7 : Bytes M.hash := hm.hash.bytes
    refine lsw (want_t (dj := 12) (by rfl) (by kernel_rfl) rfl) (y_strS hm.hash rfl rfl) rfl (by decide) ?_
    by_cases c8 : L.hash = M.hash
    · refine lsw (want_t (dj := 12) (by rfl) (by kernel_rfl) rfl) (yb (decide_eq_true c8) (y_seqS (xs := L.hash) (ys := M.hash) by6 by7 rfl rfl rfl)) rfl (by decide) ?_
      refine lsw (want_none (by rfl)) (y_pick true rfl rfl rfl) rfl (by decide) ?_
      refine lsw (want_none (by rfl)) (y_move rfl rfl) rfl (by decide) ?_
      refine lsw (want_t (dj := 21) (by rfl) (by kernel_rfl) rfl) (y_fld (off := 2) (by kernel_rfl) rfl rfl) rfl (by decide) ?_
      refine lsw (want_t (dj := 21) (by rfl) (by kernel_rfl) rfl) (y_cellv (v := l.unm.v) r1 rfl (by kernel_rfl) rfl rfl) rfl (by decide) ?_
      refine lsw (want_t (dj := 21) (by rfl) (by kernel_rfl) rfl) (y_fld (off := 2) (by kernel_rfl) rfl rfl) rfl (by decide) ?_
      refine lsw (want_t (dj := 21) (by rfl) (by kernel_rfl) rfl) (y_cellv (v := m.unm.v) r2 rfl (by kernel_rfl) rfl rfl) rfl (by decide) ?_
      by_cases c9 : L.unm = M.unm
      · refine lg_callw (want_t (dj := 21) (by rfl) (by kernel_rfl) rfl) (ints_S hl.unm hm.unm (by omega) (by omega)) (by kernel_rfl) rfl rfl rfl (by decide) ?_
        rintro u10 w10 ⟨e10, hw10⟩
        have zw10 := hw10.size
        obtain rfl : u10 = .bool true := e10.trans (congrArg Value.bool (decide_eq_true c9))
        refine lsw (want_none (by rfl)) (y_pick true rfl rfl rfl) rfl (by decide) ?_
        refine lsw (want_none (by rfl)) (y_assign rfl rfl) rfl (by decide) ?_
        refine lg_nil ?_
        refine nx (E' := [(4, _)]) (fk rfl fn) ?_
        refine cg_ret ?_
        have u := u.trans (n1.below.mono u.size)
        have u := u.trans (n2.below.mono u.size)
        have u := u.trans (hw10.mono u.size)
        exact eg_ret_tmp rfl rfl ⟨_, rfl, congrArg Value.bool (show true = decide (PnSame L M) from (decide_eq_true (by simp [PnSame, *])).symm), u⟩
      · refine lg_callw (want_t (dj := 21) (by rfl) (by kernel_rfl) rfl) (ints_S hl.unm hm.unm (by omega) (by omega)) (by kernel_rfl) rfl rfl rfl (by decide) ?_
        rintro u11 w11 ⟨e11, hw11⟩
        have zw11 := hw11.size
        obtain rfl : u11 = .bool false := e11.trans (congrArg Value.bool (decide_eq_false c9))
        refine lsw (want_none (by rfl)) (y_pick true rfl rfl rfl) rfl (by decide) ?_
        refine lsw (want_none (by rfl)) (y_assign rfl rfl) rfl (by decide) ?_
        refine lg_nil ?_
        refine nx (E' := [(4, _)]) (fk rfl fn) ?_
        refine cg_ret ?_
        have u := u.trans (n1.below.mono u.size)
        have u := u.trans (n2.below.mono u.size)
        have u := u.trans (hw11.mono u.size)
        exact eg_ret_tmp rfl rfl ⟨_, rfl, congrArg Value.bool (show false = decide (PnSame L M) from (decide_eq_false (by simp [PnSame, *])).symm), u⟩
    · refine lsw (want_t (dj := 12) (by rfl) (by kernel_rfl) rfl) (yb (decide_eq_false c8) (y_seqS (xs := L.hash) (ys := M.hash) by6 by7 rfl rfl rfl)) rfl (by decide) ?_
      refine lsw (want_none (by rfl)) (y_pick true rfl rfl rfl) rfl (by decide) ?_
      refine lsw (want_none (by rfl)) (y_move rfl rfl) rfl (by decide) ?_
      refine lsk (want_f (dj := 21) (by rfl) (by kernel_rfl) rfl) rfl (by decide) ?_
      refine lsk (want_f (dj := 21) (by rfl) (by kernel_rfl) rfl) rfl (by decide) ?_
      refine lsk (want_f (dj := 21) (by rfl) (by kernel_rfl) rfl) rfl (by decide) ?_
      refine lsk (want_f (dj := 21) (by rfl) (by kernel_rfl) rfl) rfl (by decide) ?_
      refine lsk (want_f (dj := 21) (by rfl) (by kernel_rfl) rfl) rfl (by decide) ?_
      refine lsw (want_none (by rfl)) (y_pick false rfl rfl rfl) rfl (by decide) ?_
      refine lsw (want_none (by rfl)) (y_assign rfl rfl) rfl (by decide) ?_
      refine lg_nil ?_
      refine nx (E' := [(4, _)]) (fk rfl fn) ?_
      refine cg_ret ?_
      have u := u.trans (n1.below.mono u.size)
      have u := u.trans (n2.below.mono u.size)
      exact eg_ret_tmp rfl rfl ⟨_, rfl, congrArg Value.bool (show false = decide (PnSame L M) from (decide_eq_false (by simp [PnSame, *])).symm), u⟩
  · refine lsw (want_none (by rfl)) (yb (decide_eq_false c5) (y_seqS (xs := L.enc) (ys := M.enc) by3 by4 rfl rfl rfl)) rfl (by decide) ?_
    refine lsw (want_none (by rfl)) (y_move rfl rfl) rfl (by decide) ?_
    refine lsk (want_f (dj := 12) (by rfl) (by kernel_rfl) rfl) rfl (by decide) ?_
    refine lsk (want_f (dj := 12) (by rfl) (by kernel_rfl) rfl) rfl (by decide) ?_
    refine lsk (want_f (dj := 12) (by rfl) (by kernel_rfl) rfl) rfl (by decide) ?_
    refine lsk (want_f (dj := 12) (by rfl) (by kernel_rfl) rfl) rfl (by decide) ?_
    refine lsk (want_f (dj := 12) (by rfl) (by kernel_rfl) rfl) rfl (by decide) ?_
    refine lsk (want_f (dj := 12) (by rfl) (by kernel_rfl) rfl) rfl (by decide) ?_
    refine lsk (want_f (dj := 12) (by rfl) (by kernel_rfl) rfl) rfl (by decide) ?_
    refine lsw (want_none (by rfl)) (y_pick false rfl rfl rfl) rfl (by decide) ?_
    refine lsw (want_none (by rfl)) (y_move rfl rfl) rfl (by decide) ?_
    refine lsk (want_f (dj := 21) (by rfl) (by kernel_rfl) rfl) rfl (by decide) ?_
    refine lsk (want_f (dj := 21) (by rfl) (by kernel_rfl) rfl) rfl (by decide) ?_
    refine lsk (want_f (dj := 21) (by rfl) (by kernel_rfl) rfl) rfl (by decide) ?_
    refine lsk (want_f (dj := 21) (by rfl) (by kernel_rfl) rfl) rfl (by decide) ?_
    refine lsk (want_f (dj := 21) (by rfl) (by kernel_rfl) rfl) rfl (by decide) ?_
    refine lsw (want_none (by rfl)) (y_pick false rfl rfl rfl) rfl (by decide) ?_
    refine lsw (want_none (by rfl)) (y_assign rfl rfl) rfl (by decide) ?_
    refine lg_nil ?_
    refine nx (E' := [(4, _)]) (fk rfl fn) ?_
    refine cg_ret ?_
    have u := u.trans (n1.below.mono u.size)
    have u := u.trans (n2.below.mono u.size)
    exact eg_ret_tmp rfl rfl ⟨_, rfl, congrArg Value.bool (show false = decide (PnSame L M) from (decide_eq_false (by simp [PnSame, *])).symm), u⟩
theorem rputP_any {W : World} {B : Nat} {s : SlV} {xs : List Int} {l : PnV} {L : Pn} (h : Sl W B s xs) (hl : IsPn W B l L) (hB : B ≤ W.heap.size) (hx : xs.length ≤ 20000) : Calls Try.prog 50 #[s.v, .agg (l.cs L)] W fun e W' => ∃ v, e = .returned v ∧ PutS W (xs ++ pnPut L) v W' := by
  refine calls_cg (n := 25) Try.func50 rfl Try.ntmps50 (by simp) ?_
  show CG _ _ _ [(0, s.v), (1, .agg (l.cs L))] _ _
  have u := Below.refl W.heap.size W
  refine cg_seq ?_
  refine cg_region ?_
  refine lg_boxw (want_none (by rfl)) rfl rfl (by kernel_rfl) rfl (by decide) fun b1 w1 n1 => ?_
  have r1 := n1.row
  have k1 := n1.blk
  have z1 := n1.size
  have lt1 : b1 < w1.heap.size := by omega
  refine lsw (want_none (by rfl)) (y_assign rfl rfl) rfl (by decide) ?_
  refine lg_nil ?_
  refine nx (E' := [(0, _), (3, _), (4, _)]) (fk rfl (fk rfl (fk rfl fn))) ?_
  refine cg_seq ?_
  refine cg_region ?_
  obtain ⟨bs3, hbs3⟩ : ∃ q, q = w1.heap.size := ⟨_, rfl⟩
  refine lg_bs0 (want_none (by rfl)) rfl rfl (by decide) fun v2 w2 g2 l2 => ?_
  rw [← hbs3] at g2
  have z2 := l2.size
  refine lsw (want_none (by rfl)) (y_move rfl rfl) rfl (by decide) ?_
  have h := h.below (n1.below.mono (by omega))
  have h := h.below (l2.mono (by omega))
  refine lg_appS g2 Bytes.nil h (by first | omega | (simp only [List.length_nil]; omega)) (by omega) (want_none (by rfl)) rfl rfl rfl rfl rfl (by decide) fun r4 w4 m4 g4 l4 z4 => ?_
  simp only [List.nil_append] at m4 g4
  refine lsw (want_none (by rfl)) (y_assign rfl rfl) rfl (by decide) ?_
  refine lg_nil ?_
  refine nx (E' := [(3, _), (4, _), (5, _)]) (fk rfl (fk rfl (fk rfl fn))) ?_
  refine cg_seq ?_
  refine cg_seq ?_
  refine cg_region ?_
  have r1 := RowAt.below l2 r1.lt r1
  have r1 := RowAt.below l4 (by omega) r1
  refine lsw (want_none (by rfl)) (y_loadA r1 (by kernel_rfl) (by kernel_rfl) rfl rfl) rfl (by decide) ?_
  have hl := hl.below (n1.below.mono (by omega))
  have hl := hl.below (l2.mono (by omega))
  have hl := hl.below (l4.mono (by omega))
  refine lg_callw (want_none (by rfl)) (rcheckP_any (hl.more (B' := w4.heap.size) (by omega)) (Nat.le_refl _)) (by kernel_rfl) rfl rfl rfl (by decide) ?_
  rintro _ w5 ⟨rfl, hw5⟩
  have zw5 := hw5.size
  by_cases c6 : (pnCheck L) = 0
  · have ok := pnCheck_ok c6
    refine lsw (want_none (by rfl)) (yb (nd_f c6) (yi_neq rfl rfl rfl)) rfl (by decide) ?_
    refine lg_nil ?_
    refine nx (E' := [(3, _), (4, _), (5, _), (11, _)]) (fk rfl (fk rfl (fk rfl (fk rfl fn)))) ?_
    refine cg_cf rfl ?_
    refine cg_skip ?_
    refine nx (E' := [(3, _), (4, _), (5, _)]) (fk rfl (fk rfl (fk rfl fn))) ?_
    refine cg_seq ?_
    refine cg_region ?_
    refine lsw (want_none (by rfl)) (y_move rfl rfl) rfl (by decide) ?_
    refine lsw (want_none (by rfl)) (y_fld (off := 0) (by kernel_rfl) rfl rfl) rfl (by decide) ?_
    have r1 := RowAt.below hw5 r1.lt r1
    refine lsw (want_none (by rfl)) (y_cellv (v := l.enc.v) r1 rfl (by kernel_rfl) rfl rfl) rfl (by decide) ?_
    have m4 := m4.below (hw5.mono (by omega))
    have hl := hl.below (hw5.mono (by omega))
    refine lg_callw (want_none (by rfl)) (rputBytes_S m4 hl.enc (by omega) (by omega) (by first | omega | (simp only [List.length_append, List.length_cons, List.length_nil, numOct_length]; omega)) (by first | omega | (simp only [List.length_append, List.length_cons, List.length_nil, numOct_length]; omega))) (by kernel_rfl) rfl rfl rfl (by decide) ?_
    rintro _ w7 ⟨r7, rfl, m7, hw7⟩
    have zw7 := hw7.size
    have lb7 := bytesOct_le L.enc
    refine lsw (want_none (by rfl)) (y_assign rfl rfl) rfl (by decide) ?_
    refine lg_nil ?_
    refine nx (E' := [(3, _), (4, _), (5, _)]) (fk rfl (fk rfl (fk rfl fn))) ?_
    refine cg_seq ?_
    refine cg_region ?_
    refine lsw (want_none (by rfl)) (y_move rfl rfl) rfl (by decide) ?_
    refine lsw (want_none (by rfl)) (y_fld (off := 1) (by kernel_rfl) rfl rfl) rfl (by decide) ?_
    have r1 := RowAt.below hw7 r1.lt r1
    refine lsw (want_none (by rfl)) (y_cellv (v := l.hash.v) r1 rfl (by kernel_rfl) rfl rfl) rfl (by decide) ?_
    have hl := hl.below (hw7.mono (by omega))
    refine lg_callw (want_none (by rfl)) (rputBytes_S m7 hl.hash (by omega) (by omega) (by first | omega | (simp only [List.length_append]; omega)) (by first | omega | (simp only [List.length_append]; omega))) (by kernel_rfl) rfl rfl rfl (by decide) ?_
    rintro _ w8 ⟨r8, rfl, m8, hw8⟩
    have zw8 := hw8.size
    have lb8 := bytesOct_le L.hash
    refine lsw (want_none (by rfl)) (y_assign rfl rfl) rfl (by decide) ?_
    refine lg_nil ?_
    refine nx (E' := [(3, _), (4, _), (5, _)]) (fk rfl (fk rfl (fk rfl fn))) ?_
    refine cg_seq ?_
    refine cg_region ?_
    refine lsw (want_none (by rfl)) (y_move rfl rfl) rfl (by decide) ?_
    refine lsw (want_none (by rfl)) (y_fld (off := 2) (by kernel_rfl) rfl rfl) rfl (by decide) ?_
    have r1 := RowAt.below hw8 r1.lt r1
    refine lsw (want_none (by rfl)) (y_cellv (v := l.unm.v) r1 rfl (by kernel_rfl) rfl rfl) rfl (by decide) ?_
    have hl := hl.below (hw8.mono (by omega))
    refine lg_callw (want_none (by rfl)) (rputNums_S m8 hl.unm (by omega) (by omega) (by first | omega | (simp only [List.length_append]; omega)) (by first | omega | (simp only [List.length_append]; omega))) (by kernel_rfl) rfl rfl rfl (by decide) ?_
    rintro _ w9 ⟨r9, rfl, m9, hw9⟩
    have zw9 := hw9.size
    have lb9 := bytesOct_le (numsOct L.unm)
    have ln9 := numsOct_length L.unm
    refine lsw (want_none (by rfl)) (y_assign rfl rfl) rfl (by decide) ?_
    refine lg_nil ?_
    refine nx (E' := [(4, _)]) (fk rfl fn) ?_
    refine cg_ret ?_
    have u := u.trans (n1.below.mono u.size)
    have u := u.trans (l2.mono u.size)
    have u := u.trans (l4.mono (by omega))
    have u := u.trans (hw5.mono u.size)
    have u := u.trans (hw7.mono u.size)
    have u := u.trans (hw8.mono u.size)
    have u := u.trans (hw9.mono u.size)
    exact eg_ret_tmp rfl rfl ⟨_, rfl, r9, rfl, m9.cast (by rw [pnPut, if_pos c6]; simp [pnOct]), u⟩
  · refine lsw (want_none (by rfl)) (yb (nd_t c6) (yi_neq rfl rfl rfl)) rfl (by decide) ?_
    refine lg_nil ?_
    refine nx (E' := [(3, _), (4, _), (5, _), (11, _)]) (fk rfl (fk rfl (fk rfl (fk rfl fn)))) ?_
    refine cg_ct rfl ?_
    refine cg_seq ?_
    refine cg_region ?_
    refine lsw (want_none (by rfl)) (y_move rfl rfl) rfl (by decide) ?_
    refine lsw (want_none (by rfl)) (y_assign rfl rfl) rfl (by decide) ?_
    refine lg_nil ?_
    refine nx (E' := [(3, _), (5, _), (4, _)]) (fk rfl (fk rfl (fk rfl fn))) ?_
    refine cg_ret ?_
    refine eg_seq_ret ?_
    have m4 := m4.below (hw5.mono (by omega))
    have u := u.trans (n1.below.mono u.size)
    have u := u.trans (l2.mono u.size)
    have u := u.trans (l4.mono (by omega))
    have u := u.trans (hw5.mono u.size)
    exact eg_ret_tmp rfl rfl ⟨_, rfl, r4, rfl, (m4.more (by omega)).cast (by rw [pnPut, if_neg c6, List.append_nil]), u⟩
set_option maxHeartbeats 2000000 in
theorem rgetP_anyF {W : World} {B : Nat} {s : SlV} {xs : List Int} (h : Sl W B s xs) (hB : B ≤ W.heap.size) : Calls Try.prog 33 #[s.v] W fun e W' => ∃ v, e = .returned v ∧ ∃ (l : PnV) (r : SlV), v = .tuple #[.agg (l.cs (pnGet xs).2.1), r.v, nv (pnGet xs).1] ∧ IsPn W' W'.heap.size l (pnGet xs).2.1 ∧ Sl W' B r (pnGet xs).2.2 ∧ l.fresh W.heap.size ∧ Below W.heap.size W W' := by
  refine calls_cg (n := 59) Try.func33 rfl Try.ntmps33 (by simp) ?_
  show CG _ _ _ [(0, s.v)] _ _
  have u := Below.refl W.heap.size W
  refine cg_seq ?_
  refine cg_region ?_
  refine lg_allocw (cs := PnV.zero.cs Pn.zero) (want_none (by rfl)) rfl (by kernel_rfl) rfl (by decide) fun b1 w1 n1 => ?_
  have r1 := n1.row
  have k1 := n1.blk
  have z1 := n1.size
  have lt1 : b1 < w1.heap.size := by omega
  refine lsw (want_none (by rfl)) (y_assign rfl rfl) rfl (by decide) ?_
  refine lsw (want_none (by rfl)) (y_assign rfl rfl) rfl (by decide) ?_
  refine lg_nil ?_
  refine nx (E' := [(0, _), (2, _), (3, _), (4, _)]) (fk rfl (fk rfl (fk rfl (fk rfl fn)))) ?_
  refine cg_seq ?_
  refine cg_region ?_
  refine lsw (want_none (by rfl)) (y_build (cs := PnV.zero.cs Pn.zero) rfl rfl (by kernel_rfl)) rfl (by decide) ?_
  refine lg_allocw (cs := PnV.zero.cs Pn.zero) (want_none (by rfl)) rfl (by kernel_rfl) rfl (by decide) fun b2 w2 n2 => ?_
  have r2 := n2.row
  have k2 := n2.blk
  have z2 := n2.size
  have lt2 : b2 < w2.heap.size := by omega
  have o3 := r2
  refine lg_stw (want_none (by rfl)) r2 rfl rfl rfl (by kernel_rfl) (by kernel_rfl) rfl rfl fun w3 s3 => ?_
  have r2 := s3.row
  have z3 := s3.size
  refine lg_nil ?_
  refine nx (E' := [(0, _), (2, _), (3, _), (4, _), (5, _)]) (fk rfl (fk rfl (fk rfl (fk rfl (fk rfl fn))))) ?_
  refine cg_seq ?_
  refine cg_region ?_
  refine lsw (want_none (by rfl)) (y_move rfl rfl) rfl (by decide) ?_
  have h := h.below (n1.below.mono (by omega))
  have h := h.below (n2.below.mono (by omega))
  have h := h.set o3 rfl s3
  refine lg_callw (want_none (by rfl)) (rgetBytes_S h (by omega)) (by kernel_rfl) rfl rfl rfl (by decide) ?_
  rintro _ w4 ⟨p4, r4, rfl, m4, l4, hw4⟩
  have zw4 := hw4.size
  refine lsw (want_none (by rfl)) (y_move rfl rfl) rfl (by decide) ?_
  refine lsw (want_none (by rfl)) (y_extract rfl rfl rfl) rfl (by decide) ?_
  refine lsw (want_none (by rfl)) (y_extract rfl rfl rfl) rfl (by decide) ?_
  refine lsw (want_none (by rfl)) (y_extract rfl rfl rfl) rfl (by decide) ?_
  refine lsw (want_none (by rfl)) (y_assign rfl rfl) rfl (by decide) ?_
  refine lsw (want_none (by rfl)) (y_assign rfl rfl) rfl (by decide) ?_
  refine lsw (want_none (by rfl)) (y_assign rfl rfl) rfl (by decide) ?_
  refine lg_nil ?_
  refine nx (E' := [(2, _), (3, _), (4, _), (5, _), (6, _), (7, _), (8, _)]) (fk rfl (fk rfl (fk rfl (fk rfl (fk rfl (fk rfl (fk rfl fn))))))) ?_
  refine cg_seq ?_
  refine cg_seq ?_
  refine cg_region ?_
  refine lsw (want_none (by rfl)) (y_move rfl rfl) rfl (by decide) ?_
  by_cases c5 : (bytesE xs) = 0
  · refine lsw (want_none (by rfl)) (yb (nd_f c5) (yi_neq rfl rfl rfl)) rfl (by decide) ?_
    refine lg_nil ?_
    refine nx (E' := [(2, _), (3, _), (4, _), (5, _), (6, _), (7, _), (8, _), (24, _)]) (fk rfl (fk rfl (fk rfl (fk rfl (fk rfl (fk rfl (fk rfl (fk rfl fn)))))))) ?_
    refine cg_cf rfl ?_
    refine cg_skip ?_
    refine nx (E' := [(2, _), (3, _), (4, _), (5, _), (6, _), (7, _)]) (fk rfl (fk rfl (fk rfl (fk rfl (fk rfl (fk rfl fn)))))) ?_
    refine cg_seq ?_
    refine cg_region ?_
    refine lsw (want_none (by rfl)) (y_move rfl rfl) rfl (by decide) ?_
    refine lg_callw (want_none (by rfl)) (rgetBytes_S l4 (by omega)) (by kernel_rfl) rfl rfl rfl (by decide) ?_
    rintro _ w6 ⟨p6, r6, rfl, m6, l6, hw6⟩
    have zw6 := hw6.size
    refine lsw (want_none (by rfl)) (y_move rfl rfl) rfl (by decide) ?_
    refine lsw (want_none (by rfl)) (y_extract rfl rfl rfl) rfl (by decide) ?_
    refine lsw (want_none (by rfl)) (y_extract rfl rfl rfl) rfl (by decide) ?_
    refine lsw (want_none (by rfl)) (y_extract rfl rfl rfl) rfl (by decide) ?_
    refine lsw (want_none (by rfl)) (y_assign rfl rfl) rfl (by decide) ?_
    refine lsw (want_none (by rfl)) (y_assign rfl rfl) rfl (by decide) ?_
    refine lsw (want_none (by rfl)) (y_assign rfl rfl) rfl (by decide) ?_
    refine lg_nil ?_
    refine nx (E' := [(2, _), (3, _), (4, _), (5, _), (6, _), (9, _), (10, _), (11, _)]) (fk rfl (fk rfl (fk rfl (fk rfl (fk rfl (fk rfl (fk rfl (fk rfl fn)))))))) ?_
    refine cg_seq ?_
    refine cg_seq ?_
    refine cg_region ?_
    refine lsw (want_none (by rfl)) (y_move rfl rfl) rfl (by decide) ?_
    by_cases c7 : (bytesE (bytesR xs)) = 0
    · refine lsw (want_none (by rfl)) (yb (nd_f c7) (yi_neq rfl rfl rfl)) rfl (by decide) ?_
      refine lg_nil ?_
      refine nx (E' := [(2, _), (3, _), (4, _), (5, _), (6, _), (9, _), (10, _), (11, _), (34, _)]) (fk rfl (fk rfl (fk rfl (fk rfl (fk rfl (fk rfl (fk rfl (fk rfl (fk rfl fn))))))))) ?_
      refine cg_cf rfl ?_
      refine cg_skip ?_
      refine nx (E' := [(2, _), (3, _), (4, _), (5, _), (6, _), (9, _), (10, _)]) (fk rfl (fk rfl (fk rfl (fk rfl (fk rfl (fk rfl (fk rfl fn))))))) ?_
      refine cg_seq ?_
      refine cg_region ?_
      refine lsw (want_none (by rfl)) (y_move rfl rfl) rfl (by decide) ?_
      refine lg_callw (want_none (by rfl)) (rgetNums_SF l6 (by omega)) (by kernel_rfl) rfl rfl rfl (by decide) ?_
      rintro _ w8 ⟨p8, r8, rfl, m8, l8, f8, hw8⟩
      have zw8 := hw8.size
      refine lsw (want_none (by rfl)) (y_move rfl rfl) rfl (by decide) ?_
      refine lsw (want_none (by rfl)) (y_extract rfl rfl rfl) rfl (by decide) ?_
      refine lsw (want_none (by rfl)) (y_extract rfl rfl rfl) rfl (by decide) ?_
      refine lsw (want_none (by rfl)) (y_extract rfl rfl rfl) rfl (by decide) ?_
      refine lsw (want_none (by rfl)) (y_assign rfl rfl) rfl (by decide) ?_
      refine lsw (want_none (by rfl)) (y_assign rfl rfl) rfl (by decide) ?_
      refine lsw (want_none (by rfl)) (y_assign rfl rfl) rfl (by decide) ?_
      refine lg_nil ?_
      refine nx (E' := [(2, _), (3, _), (4, _), (5, _), (6, _), (9, _), (12, _), (13, _), (14, _)]) (fk rfl (fk rfl (fk rfl (fk rfl (fk rfl (fk rfl (fk rfl (fk rfl (fk rfl fn))))))))) ?_
      refine cg_seq ?_
      refine cg_seq ?_
      refine cg_region ?_
      refine lsw (want_none (by rfl)) (y_move rfl rfl) rfl (by decide) ?_
      by_cases c9 : (numsE (bytesR (bytesR xs))) = 0
      · refine lsw (want_none (by rfl)) (yb (nd_f c9) (yi_neq rfl rfl rfl)) rfl (by decide) ?_
        refine lg_nil ?_
        refine nx (E' := [(2, _), (3, _), (4, _), (5, _), (6, _), (9, _), (12, _), (13, _), (14, _), (44, _)]) (fk rfl (fk rfl (fk rfl (fk rfl (fk rfl (fk rfl (fk rfl (fk rfl (fk rfl (fk rfl fn)))))))))) ?_
        refine cg_cf rfl ?_
        refine cg_skip ?_
        refine nx (E' := [(2, _), (3, _), (4, _), (5, _), (6, _), (9, _), (12, _), (13, _)]) (fk rfl (fk rfl (fk rfl (fk rfl (fk rfl (fk rfl (fk rfl (fk rfl fn)))))))) ?_
        refine cg_seq ?_
        refine cg_region ?_
        refine lsw (want_none (by rfl)) (y_move rfl rfl) rfl (by decide) ?_
        refine lsw (want_none (by rfl)) (y_move rfl rfl) rfl (by decide) ?_
        refine lsw (want_none (by rfl)) (y_move rfl rfl) rfl (by decide) ?_
        refine lsw (want_none (by rfl)) (y_build (cs := (⟨p4, p6, p8⟩ : PnV).cs (⟨(bytesP xs), (bytesP (bytesR xs)), (numsL (bytesR (bytesR xs)))⟩ : Pn)) rfl rfl (by kernel_rfl)) rfl (by decide) ?_
        refine lg_allocw (cs := PnV.zero.cs Pn.zero) (want_none (by rfl)) rfl (by kernel_rfl) rfl (by decide) fun b10 w10 n10 => ?_
        have r10 := n10.row
        have k10 := n10.blk
        have z10 := n10.size
        have lt10 : b10 < w10.heap.size := by omega
        have o11 := r10
        refine lg_stw (want_none (by rfl)) r10 rfl rfl rfl (by kernel_rfl) (by kernel_rfl) rfl rfl fun w11 s11 => ?_
        have r10 := s11.row
        have z11 := s11.size
        refine lg_nil ?_
        refine nx (E' := [(2, _), (3, _), (4, _), (5, _), (13, _), (15, _)]) (fk rfl (fk rfl (fk rfl (fk rfl (fk rfl (fk rfl fn)))))) ?_
        refine cg_seq ?_
        refine cg_seq ?_
        refine cg_region ?_
        refine lsw (want_none (by rfl)) (y_loadA r10 (by kernel_rfl) (by kernel_rfl) rfl rfl) rfl (by decide) ?_
        have m4 := m4.below (hw6.mono (by omega))
        have m4 := m4.below (hw8.mono (by omega))
        have m4 := m4.below (n10.below.mono (by omega))
        have m4 := m4.set o11 rfl s11
        have m6 := m6.below (hw8.mono (by omega))
        have m6 := m6.below (n10.below.mono (by omega))
        have m6 := m6.set o11 rfl s11
        have m8 := m8.below (n10.below.mono (by omega))
        have m8 := m8.set o11 rfl s11
        refine lg_callw (want_none (by rfl)) (rcheckP_any (show IsPn w11 w11.heap.size (⟨p4, p6, p8⟩ : PnV) (⟨(bytesP xs), (bytesP (bytesR xs)), (numsL (bytesR (bytesR xs)))⟩ : Pn) from ⟨(m4.more (B' := w11.heap.size) (by omega)), (m6.more (B' := w11.heap.size) (by omega)), (m8.more (B' := w11.heap.size) (by omega))⟩) (Nat.le_refl _)) (by kernel_rfl) rfl rfl rfl (by decide) ?_
        rintro _ w12 ⟨rfl, hw12⟩
        have zw12 := hw12.size
        by_cases c13 : (pnCheck (⟨(bytesP xs), (bytesP (bytesR xs)), (numsL (bytesR (bytesR xs)))⟩ : Pn)) = 0
        · refine lsw (want_none (by rfl)) (yb (nd_f c13) (yi_neq rfl rfl rfl)) rfl (by decide) ?_
          refine lg_nil ?_
          refine nx (E' := [(2, _), (3, _), (4, _), (5, _), (13, _), (15, _), (53, _)]) (fk rfl (fk rfl (fk rfl (fk rfl (fk rfl (fk rfl (fk rfl fn))))))) ?_
          refine cg_cf rfl ?_
          refine cg_skip ?_
          refine nx (E' := [(2, _), (3, _), (4, _), (13, _), (15, _)]) (fk rfl (fk rfl (fk rfl (fk rfl (fk rfl fn))))) ?_
          refine cg_seq ?_
          refine cg_region ?_
          have r10 := RowAt.below hw12 r10.lt r10
          refine lsw (want_none (by rfl)) (y_loadA r10 (by kernel_rfl) (by kernel_rfl) rfl rfl) rfl (by decide) ?_
          refine lsw (want_none (by rfl)) (y_move rfl rfl) rfl (by decide) ?_
          have r1 := n2.keep r1
          have r1 := s3.keep r1 (by omega)
          have r1 := RowAt.below hw4 r1.lt r1
          have r1 := RowAt.below hw6 r1.lt r1
          have r1 := RowAt.below hw8 r1.lt r1
          have r1 := n10.keep r1
          have r1 := s11.keep r1 (by omega)
          have r1 := RowAt.below hw12 r1.lt r1
          have o14 := r1
          refine lg_stw (want_none (by rfl)) r1 rfl rfl rfl (by kernel_rfl) (by kernel_rfl) rfl rfl fun w14 s14 => ?_
          have r1 := s14.row
          have z14 := s14.size
          refine lsw (want_none (by rfl)) (y_assign rfl rfl) rfl (by decide) ?_
          refine lsw (want_none (by rfl)) (y_assign rfl rfl) rfl (by decide) ?_
          refine lg_nil ?_
          refine nx (E' := [(2, _), (3, _), (4, _)]) (fk rfl (fk rfl (fk rfl fn))) ?_
          refine cg_ret ?_
          have hst : pnGet xs = (0, (⟨(bytesP xs), (bytesP (bytesR xs)), (numsL (bytesR (bytesR xs)))⟩ : Pn), (numsR (bytesR (bytesR xs)))) := ((if_neg (not_not_intro c5)).trans ((if_neg (not_not_intro c7)).trans ((if_neg (not_not_intro c9)).trans (if_neg (not_not_intro c13)))))
          refine eg_ret_agg3 rfl rfl r1 (by kernel_rfl) (by kernel_rfl) rfl rfl ?_
          rw [hst]
          have m4 := m4.below (hw12.mono (by omega))
          have m4 := m4.set o14 rfl s14
          have m6 := m6.below (hw12.mono (by omega))
          have m6 := m6.set o14 rfl s14
          have m8 := m8.below (hw12.mono (by omega))
          have m8 := m8.set o14 rfl s14
          have l8 := l8.below (n10.below.mono (by omega))
          have l8 := l8.set o11 rfl s11
          have l8 := l8.below (hw12.mono (by omega))
          have l8 := l8.set o14 rfl s14
          have u := u.trans (n1.below.mono u.size)
          have u := u.trans (n2.below.mono u.size)
          have u := u.trans (s3.below _ (by omega))
          have u := u.trans (hw4.mono u.size)
          have u := u.trans (hw6.mono u.size)
          have u := u.trans (hw8.mono u.size)
          have u := u.trans (n10.below.mono u.size)
          have u := u.trans (s11.below _ (by omega))
          have u := u.trans (hw12.mono u.size)
          have u := u.trans (s14.below _ (by omega))
          exact ⟨_, rfl, (⟨p4, p6, p8⟩ : PnV), r8, rfl, (show IsPn w14 w14.heap.size (⟨p4, p6, p8⟩ : PnV) (⟨(bytesP xs), (bytesP (bytesR xs)), (numsL (bytesR (bytesR xs)))⟩ : Pn) from ⟨(m4.more (B' := w14.heap.size) (by omega)), (m6.more (B' := w14.heap.size) (by omega)), (m8.more (B' := w14.heap.size) (by omega))⟩), l8, f8.le (by omega), u⟩
        · refine lsw (want_none (by rfl)) (yb (nd_t c13) (yi_neq rfl rfl rfl)) rfl (by decide) ?_
          refine lg_nil ?_
          refine nx (E' := [(2, _), (3, _), (4, _), (5, _), (13, _), (15, _), (53, _)]) (fk rfl (fk rfl (fk rfl (fk rfl (fk rfl (fk rfl (fk rfl fn))))))) ?_
          refine cg_ct rfl ?_
          refine cg_seq ?_
          refine cg_heldS (fun q => RowAt q b2 27 (PnV.zero.cs Pn.zero) ∧ RowAt q b10 27 ((⟨p4, p6, p8⟩ : PnV).cs (⟨(bytesP xs), (bytesP (bytesR xs)), (numsL (bytesR (bytesR xs)))⟩ : Pn))) (by kernel_rfl) (fun W15 eW15 => ?_) fun W15 eW15 => ?_
          · have dW15 := below_drew _ _ eW15
            have r2 := RowAt.below hw4 r2.lt r2
            have r2 := RowAt.below hw6 r2.lt r2
            have r2 := RowAt.below hw8 r2.lt r2
            have r2 := n10.keep r2
            have r2 := s11.keep r2 (by omega)
            have r2 := RowAt.below hw12 r2.lt r2
            have r2 := RowAt.below dW15 r2.lt r2
            have r10 := RowAt.below hw12 r10.lt r10
            have r10 := RowAt.below dW15 r10.lt r10
            exact ⟨r2, r10⟩
          have dW15 := below_drew _ _ eW15
          have zW15 := size_drew _ _ eW15
          clear eW15
          have r2 := RowAt.below hw4 r2.lt r2
          have r2 := RowAt.below hw6 r2.lt r2
          have r2 := RowAt.below hw8 r2.lt r2
          have r2 := n10.keep r2
          have r2 := s11.keep r2 (by omega)
          have r2 := RowAt.below hw12 r2.lt r2
          have r2 := RowAt.below dW15 r2.lt r2
          have r10 := RowAt.below hw12 r10.lt r10
          have r10 := RowAt.below dW15 r10.lt r10
          refine hgs_take 0 (by rfl) (want_none (by rfl)) (by rfl) rfl (by decide) (by kernel_rfl) (by kernel_rfl) (by kernel_rfl) (fun _ _ _ h => h) ⟨r2, r10⟩ (fun q hq => y_loadA hq.1 (by kernel_rfl) (by kernel_rfl) rfl rfl) ?_
          refine hgs_take 1 (by rfl) (want_none (by rfl)) (by rfl) rfl (by decide) (by kernel_rfl) (by kernel_rfl) (by kernel_rfl) (fun _ _ _ h => h) ⟨r2, r10⟩ (fun q hq => y_loadA hq.2 (by kernel_rfl) (by kernel_rfl) rfl rfl) ?_
          have m4 := m4.below (hw12.mono (by omega))
          have m4 := m4.below (dW15.mono (by omega))
          have m6 := m6.below (hw12.mono (by omega))
          have m6 := m6.below (dW15.mono (by omega))
          have m8 := m8.below (hw12.mono (by omega))
          have m8 := m8.below (dW15.mono (by omega))
          refine hgs_one 2 (by rfl) (by kernel_rfl) (want_none (by rfl)) ?_
          refine lg_callw (want_none (by rfl)) (rcheckP_any (show IsPn W15 W15.heap.size (⟨p4, p6, p8⟩ : PnV) (⟨(bytesP xs), (bytesP (bytesR xs)), (numsL (bytesR (bytesR xs)))⟩ : Pn) from ⟨(m4.more (B' := W15.heap.size) (by omega)), (m6.more (B' := W15.heap.size) (by omega)), (m8.more (B' := W15.heap.size) (by omega))⟩) (Nat.le_refl _)) (by kernel_rfl) rfl rfl rfl (by decide) ?_
          rintro _ w16 ⟨rfl, hw16⟩
          have zw16 := hw16.size
          have r2 := RowAt.below hw16 r2.lt r2
          have r10 := RowAt.below hw16 r10.lt r10
          refine hgs_next ⟨r2, r10⟩ ?_
          refine hgs_one 3 (by rfl) (by kernel_rfl) (want_none (by rfl)) ?_
          have r1 := n2.keep r1
          have r1 := s3.keep r1 (by omega)
          have r1 := RowAt.below hw4 r1.lt r1
          have r1 := RowAt.below hw6 r1.lt r1
          have r1 := RowAt.below hw8 r1.lt r1
          have r1 := n10.keep r1
          have r1 := s11.keep r1 (by omega)
          have r1 := RowAt.below hw12 r1.lt r1
          have r1 := RowAt.below dW15 r1.lt r1
          have r1 := RowAt.below hw16 r1.lt r1
          have o17 := r1
          refine lg_stw (want_none (by rfl)) r1 rfl rfl rfl (by kernel_rfl) (by kernel_rfl) rfl rfl fun w17 s17 => ?_
          have r1 := s17.row
          have z17 := s17.size
          have r2 := s17.keep r2 (by omega)
          have r10 := s17.keep r10 (by omega)
          refine hgs_next ⟨r2, r10⟩ ?_
          refine hgs_take 4 (by rfl) (want_none (by rfl)) (by rfl) rfl (by decide) (by kernel_rfl) (by kernel_rfl) (by kernel_rfl) (fun _ _ _ h => h) ⟨r2, r10⟩ (fun q hq => y_assign rfl rfl) ?_
          refine hgs_take 5 (by rfl) (want_none (by rfl)) (by rfl) rfl (by decide) (by kernel_rfl) (by kernel_rfl) (by kernel_rfl) (fun _ _ _ h => h) ⟨r2, r10⟩ (fun q hq => y_assign rfl rfl) ?_
          refine hgs_done (by kernel_rfl) ?_
          refine nx (E' := [(2, _), (13, _), (15, _), (3, _), (4, _)]) (fk rfl (fk rfl (fk rfl (fk rfl (fk rfl fn))))) ?_
          refine cg_ret ?_
          refine eg_seq_ret ?_
          have hst : pnGet xs = ((pnCheck (⟨(bytesP xs), (bytesP (bytesR xs)), (numsL (bytesR (bytesR xs)))⟩ : Pn)), Pn.zero, []) := ((if_neg (not_not_intro c5)).trans ((if_neg (not_not_intro c7)).trans ((if_neg (not_not_intro c9)).trans (if_pos c13))))
          refine eg_ret_agg3 rfl rfl r1 (by kernel_rfl) (by kernel_rfl) rfl rfl ?_
          rw [hst]
          have u := u.trans (n1.below.mono u.size)
          have u := u.trans (n2.below.mono u.size)
          have u := u.trans (s3.below _ (by omega))
          have u := u.trans (hw4.mono u.size)
          have u := u.trans (hw6.mono u.size)
          have u := u.trans (hw8.mono u.size)
          have u := u.trans (n10.below.mono u.size)
          have u := u.trans (s11.below _ (by omega))
          have u := u.trans (hw12.mono u.size)
          have u := u.trans (dW15.mono u.size)
          have u := u.trans (hw16.mono u.size)
          have u := u.trans (s17.below _ (by omega))
          exact ⟨_, rfl, PnV.zero, nilS, rfl, ((IsPn.zero _ 0).more (B' := w17.heap.size) (by omega)), (Sl.nil _ _), Fr.nil _, u⟩
      · refine lsw (want_none (by rfl)) (yb (nd_t c9) (yi_neq rfl rfl rfl)) rfl (by decide) ?_
        refine lg_nil ?_
        refine nx (E' := [(2, _), (3, _), (4, _), (5, _), (6, _), (9, _), (12, _), (13, _), (14, _), (44, _)]) (fk rfl (fk rfl (fk rfl (fk rfl (fk rfl (fk rfl (fk rfl (fk rfl (fk rfl (fk rfl fn)))))))))) ?_
        refine cg_ct rfl ?_
        refine cg_seq ?_
        refine cg_region ?_
        have r2 := RowAt.below hw4 r2.lt r2
        have r2 := RowAt.below hw6 r2.lt r2
        have r2 := RowAt.below hw8 r2.lt r2
        refine lsw (want_none (by rfl)) (y_loadA r2 (by kernel_rfl) (by kernel_rfl) rfl rfl) rfl (by decide) ?_
        refine lsw (want_none (by rfl)) (y_move rfl rfl) rfl (by decide) ?_
        have r1 := n2.keep r1
        have r1 := s3.keep r1 (by omega)
        have r1 := RowAt.below hw4 r1.lt r1
        have r1 := RowAt.below hw6 r1.lt r1
        have r1 := RowAt.below hw8 r1.lt r1
        have o18 := r1
        refine lg_stw (want_none (by rfl)) r1 rfl rfl rfl (by kernel_rfl) (by kernel_rfl) rfl rfl fun w18 s18 => ?_
        have r1 := s18.row
        have z18 := s18.size
        refine lsw (want_none (by rfl)) (y_assign rfl rfl) rfl (by decide) ?_
        refine lsw (want_none (by rfl)) (y_assign rfl rfl) rfl (by decide) ?_
        refine lg_nil ?_
        refine nx (E' := [(2, _), (5, _), (6, _), (9, _), (12, _), (13, _), (3, _), (4, _)]) (fk rfl (fk rfl (fk rfl (fk rfl (fk rfl (fk rfl (fk rfl (fk rfl fn)))))))) ?_
        refine cg_ret ?_
        refine eg_seq_ret ?_
        have hst : pnGet xs = ((numsE (bytesR (bytesR xs))), Pn.zero, []) := ((if_neg (not_not_intro c5)).trans ((if_neg (not_not_intro c7)).trans (if_pos c9)))
        refine eg_ret_agg3 rfl rfl r1 (by kernel_rfl) (by kernel_rfl) rfl rfl ?_
        rw [hst]
        have u := u.trans (n1.below.mono u.size)
        have u := u.trans (n2.below.mono u.size)
        have u := u.trans (s3.below _ (by omega))
        have u := u.trans (hw4.mono u.size)
        have u := u.trans (hw6.mono u.size)
        have u := u.trans (hw8.mono u.size)
        have u := u.trans (s18.below _ (by omega))
        exact ⟨_, rfl, PnV.zero, nilS, rfl, ((IsPn.zero _ 0).more (B' := w18.heap.size) (by omega)), (Sl.nil _ _), Fr.nil _, u⟩
    · refine lsw (want_none (by rfl)) (yb (nd_t c7) (yi_neq rfl rfl rfl)) rfl (by decide) ?_
      refine lg_nil ?_
      refine nx (E' := [(2, _), (3, _), (4, _), (5, _), (6, _), (9, _), (10, _), (11, _), (34, _)]) (fk rfl (fk rfl (fk rfl (fk rfl (fk rfl (fk rfl (fk rfl (fk rfl (fk rfl fn))))))))) ?_
      refine cg_ct rfl ?_
      refine cg_seq ?_
      refine cg_region ?_
      have r2 := RowAt.below hw4 r2.lt r2
      have r2 := RowAt.below hw6 r2.lt r2
      refine lsw (want_none (by rfl)) (y_loadA r2 (by kernel_rfl) (by kernel_rfl) rfl rfl) rfl (by decide) ?_
      refine lsw (want_none (by rfl)) (y_move rfl rfl) rfl (by decide) ?_
      have r1 := n2.keep r1
      have r1 := s3.keep r1 (by omega)
      have r1 := RowAt.below hw4 r1.lt r1
      have r1 := RowAt.below hw6 r1.lt r1
      have o19 := r1
      refine lg_stw (want_none (by rfl)) r1 rfl rfl rfl (by kernel_rfl) (by kernel_rfl) rfl rfl fun w19 s19 => ?_
      have r1 := s19.row
      have z19 := s19.size
      refine lsw (want_none (by rfl)) (y_assign rfl rfl) rfl (by decide) ?_
      refine lsw (want_none (by rfl)) (y_assign rfl rfl) rfl (by decide) ?_
      refine lg_nil ?_
      refine nx (E' := [(2, _), (5, _), (6, _), (9, _), (10, _), (3, _), (4, _)]) (fk rfl (fk rfl (fk rfl (fk rfl (fk rfl (fk rfl (fk rfl fn))))))) ?_
      refine cg_ret ?_
      refine eg_seq_ret ?_
      have hst : pnGet xs = ((bytesE (bytesR xs)), Pn.zero, []) := ((if_neg (not_not_intro c5)).trans (if_pos c7))
      refine eg_ret_agg3 rfl rfl r1 (by kernel_rfl) (by kernel_rfl) rfl rfl ?_
      rw [hst]
      have u := u.trans (n1.below.mono u.size)
      have u := u.trans (n2.below.mono u.size)
      have u := u.trans (s3.below _ (by omega))
      have u := u.trans (hw4.mono u.size)
      have u := u.trans (hw6.mono u.size)
      have u := u.trans (s19.below _ (by omega))
      exact ⟨_, rfl, PnV.zero, nilS, rfl, ((IsPn.zero _ 0).more (B' := w19.heap.size) (by omega)), (Sl.nil _ _), Fr.nil _, u⟩
  · refine lsw (want_none (by rfl)) (yb (nd_t c5) (yi_neq rfl rfl rfl)) rfl (by decide) ?_
    refine lg_nil ?_
    refine nx (E' := [(2, _), (3, _), (4, _), (5, _), (6, _), (7, _), (8, _), (24, _)]) (fk rfl (fk rfl (fk rfl (fk rfl (fk rfl (fk rfl (fk rfl (fk rfl fn)))))))) ?_
    refine cg_ct rfl ?_
    refine cg_seq ?_
    refine cg_region ?_
    have r2 := RowAt.below hw4 r2.lt r2
    refine lsw (want_none (by rfl)) (y_loadA r2 (by kernel_rfl) (by kernel_rfl) rfl rfl) rfl (by decide) ?_
    refine lsw (want_none (by rfl)) (y_move rfl rfl) rfl (by decide) ?_
    have r1 := n2.keep r1
    have r1 := s3.keep r1 (by omega)
    have r1 := RowAt.below hw4 r1.lt r1
    have o20 := r1
    refine lg_stw (want_none (by rfl)) r1 rfl rfl rfl (by kernel_rfl) (by kernel_rfl) rfl rfl fun w20 s20 => ?_
    have r1 := s20.row
    have z20 := s20.size
    refine lsw (want_none (by rfl)) (y_assign rfl rfl) rfl (by decide) ?_
    refine lsw (want_none (by rfl)) (y_assign rfl rfl) rfl (by decide) ?_
    refine lg_nil ?_
    refine nx (E' := [(2, _), (5, _), (6, _), (7, _), (3, _), (4, _)]) (fk rfl (fk rfl (fk rfl (fk rfl (fk rfl (fk rfl fn)))))) ?_
    refine cg_ret ?_
    refine eg_seq_ret ?_
    have hst : pnGet xs = ((bytesE xs), Pn.zero, []) := (if_pos c5)
    refine eg_ret_agg3 rfl rfl r1 (by kernel_rfl) (by kernel_rfl) rfl rfl ?_
    rw [hst]
    have u := u.trans (n1.below.mono u.size)
    have u := u.trans (n2.below.mono u.size)
    have u := u.trans (s3.below _ (by omega))
    have u := u.trans (hw4.mono u.size)
    have u := u.trans (s20.below _ (by omega))
    exact ⟨_, rfl, PnV.zero, nilS, rfl, ((IsPn.zero _ 0).more (B' := w20.heap.size) (by omega)), (Sl.nil _ _), Fr.nil _, u⟩
theorem rgetP_any {W : World} {B : Nat} {s : SlV} {xs : List Int} (h : Sl W B s xs) (hB : B ≤ W.heap.size) : Calls Try.prog 33 #[s.v] W fun e W' => ∃ v, e = .returned v ∧ ∃ (l : PnV) (r : SlV), v = .tuple #[.agg (l.cs (pnGet xs).2.1), r.v, nv (pnGet xs).1] ∧ IsPn W' W'.heap.size l (pnGet xs).2.1 ∧ Sl W' B r (pnGet xs).2.2 ∧ Below W.heap.size W W' :=
  (rgetP_anyF h hB).mono fun _ _ ⟨v, h1, l, r, h2, h3, h4, _, h5⟩ => ⟨v, h1, l, r, h2, h3, h4, h5⟩
end
end Go.Proofs.Ytpmakacjhoemeaa
