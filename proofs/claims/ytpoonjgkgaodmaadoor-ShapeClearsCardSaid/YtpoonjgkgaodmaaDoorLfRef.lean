/-
  The document's Few, Check, Same and Put.
-/
import Derived.Test.YtpoonjgkgaodmaaDoorLfGet
import Derived.Test.YtpoonjgkgaodmaaDoorLfPut
namespace Go.Proofs.YtpoonjgkgaodmaaDoor
open Go.ChangeShapes Go.WideShapes Go.ChangeAt Go.RowKit
set_option linter.unusedVariables false

theorem few_any {W : World} {B : Nat} {l : LfV} {L : Lf} (hl : IsLf W B l L) (hB : B ≤ W.heap.size) : Calls Tryd.prog 46 #[.agg (l.cs L)] W fun e W' => ∃ v, e = .returned v ∧ v = .bool (decide (lfFew L)) ∧ Below W.heap.size W W' := by
  refine calls_cg (n := 15) Tryd.func46 rfl Tryd.ntmps46 (by simp) ?_
  show CG _ _ _ [(0, .agg (l.cs L))] _ _
  have u := Below.refl W.heap.size W
  refine cg_seq ?_
  refine cg_region ?_
  refine lg_boxw (want_none (by rfl)) rfl rfl (by kernel_rfl) rfl (by decide) fun b1 w1 n1 => ?_
  have r1 := n1.row
  have k1 := n1.blk
  have z1 := n1.size
  have lt1 : b1 < w1.heap.size := by omega
  refine lsw (want_none (by rfl)) (y_assign rfl rfl) rfl (by decide) ?_
  refine lg_nil ?_
  refine nx (E' := [(1, _), (2, _)]) (fk rfl (fk rfl fn)) ?_
  refine cg_seq ?_
  refine cg_region ?_
  refine lsw (want_none (by rfl)) (y_fld (off := 0) (by kernel_rfl) rfl rfl) rfl (by decide) ?_
  refine lsw (want_none (by rfl)) (y_cellv (v := l.enc.v) r1 rfl (by kernel_rfl) rfl rfl) rfl (by decide) ?_
  have hl := hl.below (n1.below.mono (by omega))
  refine lsw (want_none (by rfl)) (y_lenS (el := 5) hl.enc (by kernel_rfl) rfl rfl) rfl (by decide) ?_
  refine lsw (want_none (by rfl)) (y_fld (off := 1) (by kernel_rfl) rfl rfl) rfl (by decide) ?_
  refine lsw (want_none (by rfl)) (y_cellv (v := l.cred.v) r1 rfl (by kernel_rfl) rfl rfl) rfl (by decide) ?_
  refine lsw (want_none (by rfl)) (y_lenS (el := 5) hl.cred (by kernel_rfl) rfl rfl) rfl (by decide) ?_
  refine lsw (want_none (by rfl)) (yi_addW rfl rfl rfl) rfl (by decide) ?_
  refine lsw (want_none (by rfl)) (y_fld (off := 3) (by kernel_rfl) rfl rfl) rfl (by decide) ?_
  refine lsw (want_none (by rfl)) (y_cellv (v := l.par.v) r1 rfl (by kernel_rfl) rfl rfl) rfl (by decide) ?_
  refine lsw (want_none (by rfl)) (y_lenS (el := 5) hl.par (by kernel_rfl) rfl rfl) rfl (by decide) ?_
  refine lsw (want_none (by rfl)) (yi_addW rfl rfl rfl) rfl (by decide) ?_
  refine lsw (want_none (by rfl)) (yi_leq rfl rfl rfl) rfl (by decide) ?_
  refine lsw (want_none (by rfl)) (y_assign rfl rfl) rfl (by decide) ?_
  refine lg_nil ?_
  refine nx (E' := [(2, _)]) (fk rfl fn) ?_
  refine cg_ret ?_
  have u := u.trans (n1.below.mono u.size)
  exact eg_ret_tmp rfl rfl ⟨_, rfl, rfl, u⟩
theorem rcheck_any {W : World} {B : Nat} {l : LfV} {L : Lf} (hl : IsLf W B l L) (hB : B ≤ W.heap.size) : Calls Tryd.prog 55 #[.agg (l.cs L)] W fun e W' => ∃ v, e = .returned v ∧ v = nv (lfCheck L) ∧ Below W.heap.size W W' := by
  refine calls_cg (n := 44) Tryd.func55 rfl Tryd.ntmps55 (by simp) ?_
  show CG _ _ _ [(0, .agg (l.cs L))] _ _
  have u := Below.refl W.heap.size W
  refine cg_seq ?_
  refine cg_region ?_
  refine lg_boxw (want_none (by rfl)) rfl rfl (by kernel_rfl) rfl (by decide) fun b1 w1 n1 => ?_
  have r1 := n1.row
  have k1 := n1.blk
  have z1 := n1.size
  have lt1 : b1 < w1.heap.size := by omega
  refine lsw (want_none (by rfl)) (y_assign rfl rfl) rfl (by decide) ?_
  refine lg_nil ?_
  refine nx (E' := [(1, _), (2, _)]) (fk rfl (fk rfl fn)) ?_
  refine cg_seq ?_
  refine cg_block ?_
  refine cg_seq ?_
  refine cg_region ?_
  refine lsw (want_none (by rfl)) (y_fld (off := 0) (by kernel_rfl) rfl rfl) rfl (by decide) ?_
  refine lsw (want_none (by rfl)) (y_cellv (v := l.enc.v) r1 rfl (by kernel_rfl) rfl rfl) rfl (by decide) ?_
  have hl := hl.below (n1.below.mono (by omega))
  refine lsw (want_none (by rfl)) (y_lenS (el := 5) hl.enc (by kernel_rfl) rfl rfl) rfl (by decide) ?_
  by_cases c2 : (L.enc.length : Int) = 0
  · refine lsw (want_none (by rfl)) (yb (decide_eq_true c2) (yi_eql rfl rfl rfl)) rfl (by decide) ?_
    refine lsw (want_none (by rfl)) (y_assign rfl rfl) rfl (by decide) ?_
    refine lg_nil ?_
    refine nx (E' := [(1, _), (2, _), (3, _)]) (fk rfl (fk rfl (fk rfl fn))) ?_
    refine cg_ct rfl ?_
    refine cg_seq ?_
    refine cg_region ?_
    refine lsw (want_none (by rfl)) (y_assign rfl rfl) rfl (by decide) ?_
    refine lg_nil ?_
    refine nx (E' := [(2, _)]) (fk rfl fn) ?_
    refine cg_ret ?_
    refine eg_block_ret ?_
    refine eg_seq_ret ?_
    have u := u.trans (n1.below.mono u.size)
    exact eg_ret_tmp rfl rfl ⟨_, rfl, congrArg nv (show 5 = lfCheck L by unfold lfCheck; (repeat' split) <;> omega), u⟩
  · refine lsw (want_none (by rfl)) (yb (decide_eq_false c2) (yi_eql rfl rfl rfl)) rfl (by decide) ?_
    refine lsw (want_none (by rfl)) (y_assign rfl rfl) rfl (by decide) ?_
    refine lg_nil ?_
    refine nx (E' := [(1, _), (2, _), (3, _)]) (fk rfl (fk rfl (fk rfl fn))) ?_
    refine cg_cf rfl ?_
    refine cg_seq ?_
    refine cg_region ?_
    refine lsw (want_none (by rfl)) (y_fld (off := 0) (by kernel_rfl) rfl rfl) rfl (by decide) ?_
    refine lsw (want_none (by rfl)) (y_cellv (v := l.enc.v) r1 rfl (by kernel_rfl) rfl rfl) rfl (by decide) ?_
    refine lsw (want_none (by rfl)) (y_lenS (el := 5) hl.enc (by kernel_rfl) rfl rfl) rfl (by decide) ?_
    by_cases c3 : 200 < (L.enc.length : Int)
    · refine lsw (want_none (by rfl)) (yb (decide_eq_true c3) (yi_gtr rfl rfl rfl)) rfl (by decide) ?_
      refine lsw (want_none (by rfl)) (y_move rfl rfl) rfl (by decide) ?_
      refine lsk (want_f (dj := 13) (by rfl) (by kernel_rfl) rfl) rfl (by decide) ?_
      refine lsk (want_f (dj := 13) (by rfl) (by kernel_rfl) rfl) rfl (by decide) ?_
      refine lsk (want_f (dj := 13) (by rfl) (by kernel_rfl) rfl) rfl (by decide) ?_
      refine lsk (want_f (dj := 13) (by rfl) (by kernel_rfl) rfl) rfl (by decide) ?_
      refine lsw (want_none (by rfl)) (y_pick true rfl rfl rfl) rfl (by decide) ?_
      refine lsw (want_none (by rfl)) (y_move rfl rfl) rfl (by decide) ?_
      refine lsk (want_f (dj := 19) (by rfl) (by kernel_rfl) rfl) rfl (by decide) ?_
      refine lsk (want_f (dj := 19) (by rfl) (by kernel_rfl) rfl) rfl (by decide) ?_
      refine lsk (want_f (dj := 19) (by rfl) (by kernel_rfl) rfl) rfl (by decide) ?_
      refine lsk (want_f (dj := 19) (by rfl) (by kernel_rfl) rfl) rfl (by decide) ?_
      refine lsw (want_none (by rfl)) (y_pick true rfl rfl rfl) rfl (by decide) ?_
      refine lsw (want_none (by rfl)) (y_assign rfl rfl) rfl (by decide) ?_
      refine lg_nil ?_
      refine nx (E' := [(1, _), (2, _), (8, _)]) (fk rfl (fk rfl (fk rfl fn))) ?_
      refine cg_ct rfl ?_
      refine cg_seq ?_
      refine cg_region ?_
      refine lsw (want_none (by rfl)) (y_assign rfl rfl) rfl (by decide) ?_
      refine lg_nil ?_
      refine nx (E' := [(2, _)]) (fk rfl fn) ?_
      refine cg_ret ?_
      refine eg_block_ret ?_
      refine eg_seq_ret ?_
      have u := u.trans (n1.below.mono u.size)
      exact eg_ret_tmp rfl rfl ⟨_, rfl, congrArg nv (show 4 = lfCheck L by unfold lfCheck; (repeat' split) <;> omega), u⟩
    · refine lsw (want_none (by rfl)) (yb (decide_eq_false c3) (yi_gtr rfl rfl rfl)) rfl (by decide) ?_
      refine lsw (want_none (by rfl)) (y_move rfl rfl) rfl (by decide) ?_
      refine lsw (want_t (dj := 13) (by rfl) (by kernel_rfl) rfl) (y_fld (off := 1) (by kernel_rfl) rfl rfl) rfl (by decide) ?_
      refine lsw (want_t (dj := 13) (by rfl) (by kernel_rfl) rfl) (y_cellv (v := l.cred.v) r1 rfl (by kernel_rfl) rfl rfl) rfl (by decide) ?_
      refine lsw (want_t (dj := 13) (by rfl) (by kernel_rfl) rfl) (y_lenS (el := 5) hl.cred (by kernel_rfl) rfl rfl) rfl (by decide) ?_
      by_cases c4 : 200 < (L.cred.length : Int)
      · refine lsw (want_t (dj := 13) (by rfl) (by kernel_rfl) rfl) (yb (decide_eq_true c4) (yi_gtr rfl rfl rfl)) rfl (by decide) ?_
        refine lsw (want_none (by rfl)) (y_pick false rfl rfl rfl) rfl (by decide) ?_
        refine lsw (want_none (by rfl)) (y_move rfl rfl) rfl (by decide) ?_
        refine lsk (want_f (dj := 19) (by rfl) (by kernel_rfl) rfl) rfl (by decide) ?_
        refine lsk (want_f (dj := 19) (by rfl) (by kernel_rfl) rfl) rfl (by decide) ?_
        refine lsk (want_f (dj := 19) (by rfl) (by kernel_rfl) rfl) rfl (by decide) ?_
        refine lsk (want_f (dj := 19) (by rfl) (by kernel_rfl) rfl) rfl (by decide) ?_
        refine lsw (want_none (by rfl)) (y_pick true rfl rfl rfl) rfl (by decide) ?_
        refine lsw (want_none (by rfl)) (y_assign rfl rfl) rfl (by decide) ?_
        refine lg_nil ?_
        refine nx (E' := [(1, _), (2, _), (8, _)]) (fk rfl (fk rfl (fk rfl fn))) ?_
        refine cg_ct rfl ?_
        refine cg_seq ?_
        refine cg_region ?_
        refine lsw (want_none (by rfl)) (y_assign rfl rfl) rfl (by decide) ?_
        refine lg_nil ?_
        refine nx (E' := [(2, _)]) (fk rfl fn) ?_
        refine cg_ret ?_
        refine eg_block_ret ?_
        refine eg_seq_ret ?_
        have u := u.trans (n1.below.mono u.size)
        exact eg_ret_tmp rfl rfl ⟨_, rfl, congrArg nv (show 4 = lfCheck L by unfold lfCheck; (repeat' split) <;> omega), u⟩
      · refine lsw (want_t (dj := 13) (by rfl) (by kernel_rfl) rfl) (yb (decide_eq_false c4) (yi_gtr rfl rfl rfl)) rfl (by decide) ?_
        refine lsw (want_none (by rfl)) (y_pick false rfl rfl rfl) rfl (by decide) ?_
        refine lsw (want_none (by rfl)) (y_move rfl rfl) rfl (by decide) ?_
        refine lsw (want_t (dj := 19) (by rfl) (by kernel_rfl) rfl) (y_fld (off := 3) (by kernel_rfl) rfl rfl) rfl (by decide) ?_
        refine lsw (want_t (dj := 19) (by rfl) (by kernel_rfl) rfl) (y_cellv (v := l.par.v) r1 rfl (by kernel_rfl) rfl rfl) rfl (by decide) ?_
        refine lsw (want_t (dj := 19) (by rfl) (by kernel_rfl) rfl) (y_lenS (el := 5) hl.par (by kernel_rfl) rfl rfl) rfl (by decide) ?_
        by_cases c5 : 200 < (L.par.length : Int)
        · refine lsw (want_t (dj := 19) (by rfl) (by kernel_rfl) rfl) (yb (decide_eq_true c5) (yi_gtr rfl rfl rfl)) rfl (by decide) ?_
          refine lsw (want_none (by rfl)) (y_pick false rfl rfl rfl) rfl (by decide) ?_
          refine lsw (want_none (by rfl)) (y_assign rfl rfl) rfl (by decide) ?_
          refine lg_nil ?_
          refine nx (E' := [(1, _), (2, _), (8, _)]) (fk rfl (fk rfl (fk rfl fn))) ?_
          refine cg_ct rfl ?_
          refine cg_seq ?_
          refine cg_region ?_
          refine lsw (want_none (by rfl)) (y_assign rfl rfl) rfl (by decide) ?_
          refine lg_nil ?_
          refine nx (E' := [(2, _)]) (fk rfl fn) ?_
          refine cg_ret ?_
          refine eg_block_ret ?_
          refine eg_seq_ret ?_
          have u := u.trans (n1.below.mono u.size)
          exact eg_ret_tmp rfl rfl ⟨_, rfl, congrArg nv (show 4 = lfCheck L by unfold lfCheck; (repeat' split) <;> omega), u⟩
        · refine lsw (want_t (dj := 19) (by rfl) (by kernel_rfl) rfl) (yb (decide_eq_false c5) (yi_gtr rfl rfl rfl)) rfl (by decide) ?_
          refine lsw (want_none (by rfl)) (y_pick false rfl rfl rfl) rfl (by decide) ?_
          refine lsw (want_none (by rfl)) (y_assign rfl rfl) rfl (by decide) ?_
          refine lg_nil ?_
          refine nx (E' := [(1, _), (2, _), (8, _)]) (fk rfl (fk rfl (fk rfl fn))) ?_
          refine cg_cf rfl ?_
          refine cg_seq ?_
          refine cg_region ?_
          refine lsw (want_none (by rfl)) (y_fld (off := 2) (by kernel_rfl) rfl rfl) rfl (by decide) ?_
          refine lsw (want_none (by rfl)) (y_cellv (v := nv L.src) r1 rfl (by kernel_rfl) rfl rfl) rfl (by decide) ?_
          by_cases c6 : L.src < 1
          · refine lsw (want_none (by rfl)) (yb (decide_eq_true c6) (yi_lss rfl rfl rfl)) rfl (by decide) ?_
            refine lsw (want_none (by rfl)) (y_move rfl rfl) rfl (by decide) ?_
            refine lsk (want_f (dj := 29) (by rfl) (by kernel_rfl) rfl) rfl (by decide) ?_
            refine lsk (want_f (dj := 29) (by rfl) (by kernel_rfl) rfl) rfl (by decide) ?_
            refine lsk (want_f (dj := 29) (by rfl) (by kernel_rfl) rfl) rfl (by decide) ?_
            refine lsw (want_none (by rfl)) (y_pick true rfl rfl rfl) rfl (by decide) ?_
            refine lsw (want_none (by rfl)) (y_assign rfl rfl) rfl (by decide) ?_
            refine lg_nil ?_
            refine nx (E' := [(1, _), (2, _), (25, _)]) (fk rfl (fk rfl (fk rfl fn))) ?_
            refine cg_ct rfl ?_
            refine cg_seq ?_
            refine cg_region ?_
            refine lsw (want_none (by rfl)) (y_assign rfl rfl) rfl (by decide) ?_
            refine lg_nil ?_
            refine nx (E' := [(2, _)]) (fk rfl fn) ?_
            refine cg_ret ?_
            refine eg_block_ret ?_
            refine eg_seq_ret ?_
            have u := u.trans (n1.below.mono u.size)
            exact eg_ret_tmp rfl rfl ⟨_, rfl, congrArg nv (show 7 = lfCheck L by unfold lfCheck; (repeat' split) <;> omega), u⟩
          · refine lsw (want_none (by rfl)) (yb (decide_eq_false c6) (yi_lss rfl rfl rfl)) rfl (by decide) ?_
            refine lsw (want_none (by rfl)) (y_move rfl rfl) rfl (by decide) ?_
            refine lsw (want_t (dj := 29) (by rfl) (by kernel_rfl) rfl) (y_fld (off := 2) (by kernel_rfl) rfl rfl) rfl (by decide) ?_
            refine lsw (want_t (dj := 29) (by rfl) (by kernel_rfl) rfl) (y_cellv (v := nv L.src) r1 rfl (by kernel_rfl) rfl rfl) rfl (by decide) ?_
            by_cases c7 : 3 < L.src
            · refine lsw (want_t (dj := 29) (by rfl) (by kernel_rfl) rfl) (yb (decide_eq_true c7) (yi_gtr rfl rfl rfl)) rfl (by decide) ?_
              refine lsw (want_none (by rfl)) (y_pick false rfl rfl rfl) rfl (by decide) ?_
              refine lsw (want_none (by rfl)) (y_assign rfl rfl) rfl (by decide) ?_
              refine lg_nil ?_
              refine nx (E' := [(1, _), (2, _), (25, _)]) (fk rfl (fk rfl (fk rfl fn))) ?_
              refine cg_ct rfl ?_
              refine cg_seq ?_
              refine cg_region ?_
              refine lsw (want_none (by rfl)) (y_assign rfl rfl) rfl (by decide) ?_
              refine lg_nil ?_
              refine nx (E' := [(2, _)]) (fk rfl fn) ?_
              refine cg_ret ?_
              refine eg_block_ret ?_
              refine eg_seq_ret ?_
              have u := u.trans (n1.below.mono u.size)
              exact eg_ret_tmp rfl rfl ⟨_, rfl, congrArg nv (show 7 = lfCheck L by unfold lfCheck; (repeat' split) <;> omega), u⟩
            · refine lsw (want_t (dj := 29) (by rfl) (by kernel_rfl) rfl) (yb (decide_eq_false c7) (yi_gtr rfl rfl rfl)) rfl (by decide) ?_
              refine lsw (want_none (by rfl)) (y_pick false rfl rfl rfl) rfl (by decide) ?_
              refine lsw (want_none (by rfl)) (y_assign rfl rfl) rfl (by decide) ?_
              refine lg_nil ?_
              refine nx (E' := [(1, _), (2, _), (25, _)]) (fk rfl (fk rfl (fk rfl fn))) ?_
              refine cg_cf rfl ?_
              refine cg_seq ?_
              refine cg_region ?_
              refine lsw (want_none (by rfl)) (y_fld (off := 3) (by kernel_rfl) rfl rfl) rfl (by decide) ?_
              refine lsw (want_none (by rfl)) (y_cellv (v := l.par.v) r1 rfl (by kernel_rfl) rfl rfl) rfl (by decide) ?_
              refine lsw (want_none (by rfl)) (y_lenS (el := 5) hl.par (by kernel_rfl) rfl rfl) rfl (by decide) ?_
              by_cases c8 : 0 < (L.par.length : Int)
              · refine lsw (want_none (by rfl)) (yb (decide_eq_true c8) (yi_gtr rfl rfl rfl)) rfl (by decide) ?_
                refine lsw (want_none (by rfl)) (y_move rfl rfl) rfl (by decide) ?_
                refine lsw (want_t (dj := 39) (by rfl) (by kernel_rfl) rfl) (y_fld (off := 2) (by kernel_rfl) rfl rfl) rfl (by decide) ?_
                refine lsw (want_t (dj := 39) (by rfl) (by kernel_rfl) rfl) (y_cellv (v := nv L.src) r1 rfl (by kernel_rfl) rfl rfl) rfl (by decide) ?_
                by_cases c9 : L.src = 3
                · refine lsw (want_t (dj := 39) (by rfl) (by kernel_rfl) rfl) (yb (nd_f c9) (yi_neq rfl rfl rfl)) rfl (by decide) ?_
                  refine lsw (want_none (by rfl)) (y_pick true rfl rfl rfl) rfl (by decide) ?_
                  refine lsw (want_none (by rfl)) (y_assign rfl rfl) rfl (by decide) ?_
                  refine lg_nil ?_
                  refine nx (E' := [(2, _), (34, _)]) (fk rfl (fk rfl fn)) ?_
                  refine cg_cf rfl ?_
                  refine cg_skip ?_
                  refine eg_block_norm ?_
                  refine nx (E' := [(2, _)]) (fk rfl fn) ?_
                  refine cg_seq ?_
                  refine cg_region ?_
                  refine lsw (want_none (by rfl)) (y_assign rfl rfl) rfl (by decide) ?_
                  refine lg_nil ?_
                  refine nx (E' := [(2, _)]) (fk rfl fn) ?_
                  refine cg_ret ?_
                  have u := u.trans (n1.below.mono u.size)
                  exact eg_ret_tmp rfl rfl ⟨_, rfl, congrArg nv (show 0 = lfCheck L by unfold lfCheck; (repeat' split) <;> omega), u⟩
                · refine lsw (want_t (dj := 39) (by rfl) (by kernel_rfl) rfl) (yb (nd_t c9) (yi_neq rfl rfl rfl)) rfl (by decide) ?_
                  refine lsw (want_none (by rfl)) (y_pick true rfl rfl rfl) rfl (by decide) ?_
                  refine lsw (want_none (by rfl)) (y_assign rfl rfl) rfl (by decide) ?_
                  refine lg_nil ?_
                  refine nx (E' := [(2, _), (34, _)]) (fk rfl (fk rfl fn)) ?_
                  refine cg_ct rfl ?_
                  refine cg_seq ?_
                  refine cg_region ?_
                  refine lsw (want_none (by rfl)) (y_assign rfl rfl) rfl (by decide) ?_
                  refine lg_nil ?_
                  refine nx (E' := [(2, _)]) (fk rfl fn) ?_
                  refine cg_ret ?_
                  refine eg_block_ret ?_
                  refine eg_seq_ret ?_
                  have u := u.trans (n1.below.mono u.size)
                  exact eg_ret_tmp rfl rfl ⟨_, rfl, congrArg nv (show 2 = lfCheck L by unfold lfCheck; (repeat' split) <;> omega), u⟩
              · refine lsw (want_none (by rfl)) (yb (decide_eq_false c8) (yi_gtr rfl rfl rfl)) rfl (by decide) ?_
                refine lsw (want_none (by rfl)) (y_move rfl rfl) rfl (by decide) ?_
                refine lsk (want_f (dj := 39) (by rfl) (by kernel_rfl) rfl) rfl (by decide) ?_
                refine lsk (want_f (dj := 39) (by rfl) (by kernel_rfl) rfl) rfl (by decide) ?_
                refine lsk (want_f (dj := 39) (by rfl) (by kernel_rfl) rfl) rfl (by decide) ?_
                refine lsw (want_none (by rfl)) (y_pick false rfl rfl rfl) rfl (by decide) ?_
                refine lsw (want_none (by rfl)) (y_assign rfl rfl) rfl (by decide) ?_
                refine lg_nil ?_
                refine nx (E' := [(2, _), (34, _)]) (fk rfl (fk rfl fn)) ?_
                refine cg_cf rfl ?_
                refine cg_skip ?_
                refine eg_block_norm ?_
                refine nx (E' := [(2, _)]) (fk rfl fn) ?_
                refine cg_seq ?_
                refine cg_region ?_
                refine lsw (want_none (by rfl)) (y_assign rfl rfl) rfl (by decide) ?_
                refine lg_nil ?_
                refine nx (E' := [(2, _)]) (fk rfl fn) ?_
                refine cg_ret ?_
                have u := u.trans (n1.below.mono u.size)
                exact eg_ret_tmp rfl rfl ⟨_, rfl, congrArg nv (show 0 = lfCheck L by unfold lfCheck; (repeat' split) <;> omega), u⟩
theorem rsame_any {W : World} {B : Nat} {l m : LfV} {L M : Lf} (hl : IsLf W B l L) (hm : IsLf W B m M) (hB : B ≤ W.heap.size) : Calls Tryd.prog 53 #[.agg (l.cs L), .agg (m.cs M)] W fun e W' => ∃ v, e = .returned v ∧ v = .bool (decide (LfSame L M)) ∧ Below W.heap.size W W' := by
  refine calls_cg (n := 37) Tryd.func53 rfl Tryd.ntmps53 (by simp) ?_
  show CG _ _ _ [(0, .agg (l.cs L)), (1, .agg (m.cs M))] _ _
  have u := Below.refl W.heap.size W
  refine cg_seq ?_
  refine cg_region ?_
  refine lg_boxw (want_none (by rfl)) rfl rfl (by kernel_rfl) rfl (by decide) fun b1 w1 n1 => ?_
  have r1 := n1.row
  have k1 := n1.blk
  have z1 := n1.size
  have lt1 : b1 < w1.heap.size := by omega
  refine lg_boxw (want_none (by rfl)) rfl rfl (by kernel_rfl) rfl (by decide) fun b2 w2 n2 => ?_
  have r2 := n2.row
  have k2 := n2.blk
  have z2 := n2.size
  have lt2 : b2 < w2.heap.size := by omega
  refine lsw (want_none (by rfl)) (y_assign rfl rfl) rfl (by decide) ?_
  refine lg_nil ?_
  refine nx (E' := [(2, _), (3, _), (4, _)]) (fk rfl (fk rfl (fk rfl fn))) ?_
  refine cg_seq ?_
  refine cg_region ?_
  refine lsw (want_none (by rfl)) (y_fld (off := 0) (by kernel_rfl) rfl rfl) rfl (by decide) ?_
  have r1 := n2.keep r1
  refine lsw (want_none (by rfl)) (y_cellv (v := l.enc.v) r1 rfl (by kernel_rfl) rfl rfl) rfl (by decide) ?_
  have hl := hl.below (n1.below.mono (by omega))
  have hl := hl.below (n2.below.mono (by omega))
  have by3 : Bytes L.enc := hl.enc.bytes
  refine lsw (want_none (by rfl)) (y_strS hl.enc rfl rfl) rfl (by decide) ?_
  refine lsw (want_none (by rfl)) (y_fld (off := 0) (by kernel_rfl) rfl rfl) rfl (by decide) ?_
  refine lsw (want_none (by rfl)) (y_cellv (v := m.enc.v) r2 rfl (by kernel_rfl) rfl rfl) rfl (by decide) ?_
  have hm := hm.below (n1.below.mono (by omega))
  have hm := hm.below (n2.below.mono (by omega))
  have by4 : Bytes M.enc := hm.enc.bytes
  refine lsw (want_none (by rfl)) (y_strS hm.enc rfl rfl) rfl (by decide) ?_
  by_cases c5 : L.enc = M.enc
  · refine lsw (want_none (by rfl)) (yb (decide_eq_true c5) (y_seqS (xs := L.enc) (ys := M.enc) by3 by4 rfl rfl rfl)) rfl (by decide) ?_
    refine lsw (want_none (by rfl)) (y_move rfl rfl) rfl (by decide) ?_
    refine lsw (want_t (dj := 12) (by rfl) (by kernel_rfl) rfl) (y_fld (off := 1) (by kernel_rfl) rfl rfl) rfl (by decide) ?_
    refine lsw (want_t (dj := 12) (by rfl) (by kernel_rfl) rfl) (y_cellv (v := l.cred.v) r1 rfl (by kernel_rfl) rfl rfl) rfl (by decide) ?_
    have by6 : Bytes L.cred := hl.cred.bytes
    refine lsw (want_t (dj := 12) (by rfl) (by kernel_rfl) rfl) (y_strS hl.cred rfl rfl) rfl (by decide) ?_
    refine lsw (want_t (dj := 12) (by rfl) (by kernel_rfl) rfl) (y_fld (off := 1) (by kernel_rfl) rfl rfl) rfl (by decide) ?_
    refine lsw (want_t (dj := 12) (by rfl) (by kernel_rfl) rfl) (y_cellv (v := m.cred.v) r2 rfl (by kernel_rfl) rfl rfl) rfl (by decide) ?_
    have by7 : Bytes M.cred := hm.cred.bytes
    refine lsw (want_t (dj := 12) (by rfl) (by kernel_rfl) rfl) (y_strS hm.cred rfl rfl) rfl (by decide) ?_
    by_cases c8 : L.cred = M.cred
    · refine lsw (want_t (dj := 12) (by rfl) (by kernel_rfl) rfl) (yb (decide_eq_true c8) (y_seqS (xs := L.cred) (ys := M.cred) by6 by7 rfl rfl rfl)) rfl (by decide) ?_
      refine lsw (want_none (by rfl)) (y_pick true rfl rfl rfl) rfl (by decide) ?_
      refine lsw (want_none (by rfl)) (y_move rfl rfl) rfl (by decide) ?_
      refine lsw (want_t (dj := 21) (by rfl) (by kernel_rfl) rfl) (y_fld (off := 2) (by kernel_rfl) rfl rfl) rfl (by decide) ?_
      refine lsw (want_t (dj := 21) (by rfl) (by kernel_rfl) rfl) (y_cellv (v := nv L.src) r1 rfl (by kernel_rfl) rfl rfl) rfl (by decide) ?_
      refine lsw (want_t (dj := 21) (by rfl) (by kernel_rfl) rfl) (y_fld (off := 2) (by kernel_rfl) rfl rfl) rfl (by decide) ?_
      refine lsw (want_t (dj := 21) (by rfl) (by kernel_rfl) rfl) (y_cellv (v := nv M.src) r2 rfl (by kernel_rfl) rfl rfl) rfl (by decide) ?_
      by_cases c9 : L.src = M.src
      · refine lsw (want_t (dj := 21) (by rfl) (by kernel_rfl) rfl) (yb (decide_eq_true c9) (yi_eql rfl rfl rfl)) rfl (by decide) ?_
        refine lsw (want_none (by rfl)) (y_pick true rfl rfl rfl) rfl (by decide) ?_
        refine lsw (want_none (by rfl)) (y_move rfl rfl) rfl (by decide) ?_
        refine lsw (want_t (dj := 28) (by rfl) (by kernel_rfl) rfl) (y_fld (off := 3) (by kernel_rfl) rfl rfl) rfl (by decide) ?_
        refine lsw (want_t (dj := 28) (by rfl) (by kernel_rfl) rfl) (y_cellv (v := l.par.v) r1 rfl (by kernel_rfl) rfl rfl) rfl (by decide) ?_
        have by10 : Bytes L.par := hl.par.bytes
        refine lsw (want_t (dj := 28) (by rfl) (by kernel_rfl) rfl) (y_strS hl.par rfl rfl) rfl (by decide) ?_
        refine lsw (want_t (dj := 28) (by rfl) (by kernel_rfl) rfl) (y_fld (off := 3) (by kernel_rfl) rfl rfl) rfl (by decide) ?_
        refine lsw (want_t (dj := 28) (by rfl) (by kernel_rfl) rfl) (y_cellv (v := m.par.v) r2 rfl (by kernel_rfl) rfl rfl) rfl (by decide) ?_
        have by11 : Bytes M.par := hm.par.bytes
        refine lsw (want_t (dj := 28) (by rfl) (by kernel_rfl) rfl) (y_strS hm.par rfl rfl) rfl (by decide) ?_
        by_cases c12 : L.par = M.par
        · refine lsw (want_t (dj := 28) (by rfl) (by kernel_rfl) rfl) (yb (decide_eq_true c12) (y_seqS (xs := L.par) (ys := M.par) by10 by11 rfl rfl rfl)) rfl (by decide) ?_
          refine lsw (want_none (by rfl)) (y_pick true rfl rfl rfl) rfl (by decide) ?_
          refine lsw (want_none (by rfl)) (y_assign rfl rfl) rfl (by decide) ?_
          refine lg_nil ?_
          refine nx (E' := [(4, _)]) (fk rfl fn) ?_
          refine cg_ret ?_
          have u := u.trans (n1.below.mono u.size)
          have u := u.trans (n2.below.mono u.size)
          exact eg_ret_tmp rfl rfl ⟨_, rfl, congrArg Value.bool (show true = decide (LfSame L M) from (decide_eq_true (by simp [LfSame, *])).symm), u⟩
        · refine lsw (want_t (dj := 28) (by rfl) (by kernel_rfl) rfl) (yb (decide_eq_false c12) (y_seqS (xs := L.par) (ys := M.par) by10 by11 rfl rfl rfl)) rfl (by decide) ?_
          refine lsw (want_none (by rfl)) (y_pick true rfl rfl rfl) rfl (by decide) ?_
          refine lsw (want_none (by rfl)) (y_assign rfl rfl) rfl (by decide) ?_
          refine lg_nil ?_
          refine nx (E' := [(4, _)]) (fk rfl fn) ?_
          refine cg_ret ?_
          have u := u.trans (n1.below.mono u.size)
          have u := u.trans (n2.below.mono u.size)
          exact eg_ret_tmp rfl rfl ⟨_, rfl, congrArg Value.bool (show false = decide (LfSame L M) from (decide_eq_false (by simp [LfSame, *])).symm), u⟩
      · refine lsw (want_t (dj := 21) (by rfl) (by kernel_rfl) rfl) (yb (decide_eq_false c9) (yi_eql rfl rfl rfl)) rfl (by decide) ?_
        refine lsw (want_none (by rfl)) (y_pick true rfl rfl rfl) rfl (by decide) ?_
        refine lsw (want_none (by rfl)) (y_move rfl rfl) rfl (by decide) ?_
        refine lsk (want_f (dj := 28) (by rfl) (by kernel_rfl) rfl) rfl (by decide) ?_
        refine lsk (want_f (dj := 28) (by rfl) (by kernel_rfl) rfl) rfl (by decide) ?_
        refine lsk (want_f (dj := 28) (by rfl) (by kernel_rfl) rfl) rfl (by decide) ?_
        refine lsk (want_f (dj := 28) (by rfl) (by kernel_rfl) rfl) rfl (by decide) ?_
        refine lsk (want_f (dj := 28) (by rfl) (by kernel_rfl) rfl) rfl (by decide) ?_
        refine lsk (want_f (dj := 28) (by rfl) (by kernel_rfl) rfl) rfl (by decide) ?_
        refine lsk (want_f (dj := 28) (by rfl) (by kernel_rfl) rfl) rfl (by decide) ?_
        refine lsw (want_none (by rfl)) (y_pick false rfl rfl rfl) rfl (by decide) ?_
        refine lsw (want_none (by rfl)) (y_assign rfl rfl) rfl (by decide) ?_
        refine lg_nil ?_
        refine nx (E' := [(4, _)]) (fk rfl fn) ?_
        refine cg_ret ?_
        have u := u.trans (n1.below.mono u.size)
        have u := u.trans (n2.below.mono u.size)
        exact eg_ret_tmp rfl rfl ⟨_, rfl, congrArg Value.bool (show false = decide (LfSame L M) from (decide_eq_false (by simp [LfSame, *])).symm), u⟩
    · refine lsw (want_t (dj := 12) (by rfl) (by kernel_rfl) rfl) (yb (decide_eq_false c8) (y_seqS (xs := L.cred) (ys := M.cred) by6 by7 rfl rfl rfl)) rfl (by decide) ?_
      refine lsw (want_none (by rfl)) (y_pick true rfl rfl rfl) rfl (by decide) ?_
      refine lsw (want_none (by rfl)) (y_move rfl rfl) rfl (by decide) ?_
      refine lsk (want_f (dj := 21) (by rfl) (by kernel_rfl) rfl) rfl (by decide) ?_
      refine lsk (want_f (dj := 21) (by rfl) (by kernel_rfl) rfl) rfl (by decide) ?_
      refine lsk (want_f (dj := 21) (by rfl) (by kernel_rfl) rfl) rfl (by decide) ?_
      refine lsk (want_f (dj := 21) (by rfl) (by kernel_rfl) rfl) rfl (by decide) ?_
      refine lsk (want_f (dj := 21) (by rfl) (by kernel_rfl) rfl) rfl (by decide) ?_
      refine lsw (want_none (by rfl)) (y_pick false rfl rfl rfl) rfl (by decide) ?_
      refine lsw (want_none (by rfl)) (y_move rfl rfl) rfl (by decide) ?_
      refine lsk (want_f (dj := 28) (by rfl) (by kernel_rfl) rfl) rfl (by decide) ?_
      refine lsk (want_f (dj := 28) (by rfl) (by kernel_rfl) rfl) rfl (by decide) ?_
      refine lsk (want_f (dj := 28) (by rfl) (by kernel_rfl) rfl) rfl (by decide) ?_
      refine lsk (want_f (dj := 28) (by rfl) (by kernel_rfl) rfl) rfl (by decide) ?_
      refine lsk (want_f (dj := 28) (by rfl) (by kernel_rfl) rfl) rfl (by decide) ?_
      refine lsk (want_f (dj := 28) (by rfl) (by kernel_rfl) rfl) rfl (by decide) ?_
      refine lsk (want_f (dj := 28) (by rfl) (by kernel_rfl) rfl) rfl (by decide) ?_
      refine lsw (want_none (by rfl)) (y_pick false rfl rfl rfl) rfl (by decide) ?_
      refine lsw (want_none (by rfl)) (y_assign rfl rfl) rfl (by decide) ?_
      refine lg_nil ?_
      refine nx (E' := [(4, _)]) (fk rfl fn) ?_
      refine cg_ret ?_
      have u := u.trans (n1.below.mono u.size)
      have u := u.trans (n2.below.mono u.size)
      exact eg_ret_tmp rfl rfl ⟨_, rfl, congrArg Value.bool (show false = decide (LfSame L M) from (decide_eq_false (by simp [LfSame, *])).symm), u⟩
  · refine lsw (want_none (by rfl)) (yb (decide_eq_false c5) (y_seqS (xs := L.enc) (ys := M.enc) by3 by4 rfl rfl rfl)) rfl (by decide) ?_
    refine lsw (want_none (by rfl)) (y_move rfl rfl) rfl (by decide) ?_
    refine lsk (want_f (dj := 12) (by rfl) (by kernel_rfl) rfl) rfl (by decide) ?_
    refine lsk (want_f (dj := 12) (by rfl) (by kernel_rfl) rfl) rfl (by decide) ?_
    refine lsk (want_f (dj := 12) (by rfl) (by kernel_rfl) rfl) rfl (by decide) ?_
    refine lsk (want_f (dj := 12) (by rfl) (by kernel_rfl) rfl) rfl (by decide) ?_
    refine lsk (want_f (dj := 12) (by rfl) (by kernel_rfl) rfl) rfl (by decide) ?_
    refine lsk (want_f (dj := 12) (by rfl) (by kernel_rfl) rfl) rfl (by decide) ?_
    refine lsk (want_f (dj := 12) (by rfl) (by kernel_rfl) rfl) rfl (by decide) ?_
    refine lsw (want_none (by rfl)) (y_pick false rfl rfl rfl) rfl (by decide) ?_
    refine lsw (want_none (by rfl)) (y_move rfl rfl) rfl (by decide) ?_
    refine lsk (want_f (dj := 21) (by rfl) (by kernel_rfl) rfl) rfl (by decide) ?_
    refine lsk (want_f (dj := 21) (by rfl) (by kernel_rfl) rfl) rfl (by decide) ?_
    refine lsk (want_f (dj := 21) (by rfl) (by kernel_rfl) rfl) rfl (by decide) ?_
    refine lsk (want_f (dj := 21) (by rfl) (by kernel_rfl) rfl) rfl (by decide) ?_
    refine lsk (want_f (dj := 21) (by rfl) (by kernel_rfl) rfl) rfl (by decide) ?_
    refine lsw (want_none (by rfl)) (y_pick false rfl rfl rfl) rfl (by decide) ?_
    refine lsw (want_none (by rfl)) (y_move rfl rfl) rfl (by decide) ?_
    refine lsk (want_f (dj := 28) (by rfl) (by kernel_rfl) rfl) rfl (by decide) ?_
    refine lsk (want_f (dj := 28) (by rfl) (by kernel_rfl) rfl) rfl (by decide) ?_
    refine lsk (want_f (dj := 28) (by rfl) (by kernel_rfl) rfl) rfl (by decide) ?_
    refine lsk (want_f (dj := 28) (by rfl) (by kernel_rfl) rfl) rfl (by decide) ?_
    refine lsk (want_f (dj := 28) (by rfl) (by kernel_rfl) rfl) rfl (by decide) ?_
    refine lsk (want_f (dj := 28) (by rfl) (by kernel_rfl) rfl) rfl (by decide) ?_
    refine lsk (want_f (dj := 28) (by rfl) (by kernel_rfl) rfl) rfl (by decide) ?_
    refine lsw (want_none (by rfl)) (y_pick false rfl rfl rfl) rfl (by decide) ?_
    refine lsw (want_none (by rfl)) (y_assign rfl rfl) rfl (by decide) ?_
    refine lg_nil ?_
    refine nx (E' := [(4, _)]) (fk rfl fn) ?_
    refine cg_ret ?_
    have u := u.trans (n1.below.mono u.size)
    have u := u.trans (n2.below.mono u.size)
    exact eg_ret_tmp rfl rfl ⟨_, rfl, congrArg Value.bool (show false = decide (LfSame L M) from (decide_eq_false (by simp [LfSame, *])).symm), u⟩
end Go.Proofs.YtpoonjgkgaodmaaDoor
