/-
  The document's Few, Check, As, Put, Get, Same, and what is summed up.
-/
import Derived.Test.YtpoonjgkgaodmaaDoorNdPut
import Derived.Test.YtpoonjgkgaodmaaDoorLfRefG
import Derived.Test.YtpoonjgkgaodmaaDoorPnRef
namespace Go.Proofs.YtpoonjgkgaodmaaDoor
open Go.ChangeShapes Go.WideShapes Go.ChangeAt Go.RowKit
set_option linter.unusedVariables false

section
set_option maxHeartbeats 1000000
theorem fewN_any {W : World} {B : Nat} {l : NdV} {L : Nd} (hl : IsNd W B l L) (hB : B ≤ W.heap.size) : Calls Tryd.prog 26 #[.agg (l.cs L)] W fun e W' => ∃ v, e = .returned v ∧ v = .bool (decide (ndFew L)) ∧ Below W.heap.size W W' := by
  refine calls_cg (n := 11) Tryd.func26 rfl Tryd.ntmps26 (by simp) ?_
  show CG _ _ _ [(0, .agg (l.cs L))] _ _
  have u := Below.refl W.heap.size W
  refine cg_seq ?_
  refine cg_region ?_
  refine lg_boxw (want_none (by rfl)) rfl rfl (by kernel_rfl) rfl (by decide) fun b1 w1 n1 => ?_
  have r1 := n1.row
  have k1 := n1.blk
  have z1 := n1.size
  have lt1 : b1 < w1.heap.size := by omega
  refine lsw (want_none (by rfl)) (y_assign rfl rfl) rfl (by decide) ?_
  refine lg_nil ?_
  refine nx (E' := [(1, _), (2, _)]) (fk rfl (fk rfl fn)) ?_
  refine cg_seq ?_
  refine cg_region ?_
  refine lsw (want_none (by rfl)) (y_fld (off := 1) (by kernel_rfl) rfl rfl) rfl (by decide) ?_
  refine lsw (want_none (by rfl)) (y_part r1 (m := 4) rfl (show 1+4 ≤ 8 by decide) (by kernel_rfl) (by kernel_rfl) rfl rfl) rfl (by decide) ?_
  have hl := hl.below (n1.below.mono (by omega))
  by_cases c2 : lfFew L.leaf
  · refine lg_callw (want_none (by rfl)) (few_any (hl.leaf.more (B' := w1.heap.size) (by omega)) (Nat.le_refl _)) (by kernel_rfl) rfl rfl rfl (by decide) ?_
    rintro u3 w3 ⟨e3, hw3⟩
    have zw3 := hw3.size
    obtain rfl : u3 = .bool true := e3.trans (congrArg Value.bool (decide_eq_true c2))
    refine lsw (want_none (by rfl)) (y_move rfl rfl) rfl (by decide) ?_
    refine lsw (want_t (dj := 6) (by rfl) (by kernel_rfl) rfl) (y_fld (off := 5) (by kernel_rfl) rfl rfl) rfl (by decide) ?_
    have r1 := RowAt.below hw3 r1.lt r1
    refine lsw (want_t (dj := 6) (by rfl) (by kernel_rfl) rfl) (y_part r1 (m := 3) rfl (show 5+3 ≤ 8 by decide) (by kernel_rfl) (by kernel_rfl) rfl rfl) rfl (by decide) ?_
    have hl := hl.below (hw3.mono (by omega))
    by_cases c4 : pnFew L.inner
    · refine lg_callw (want_t (dj := 6) (by rfl) (by kernel_rfl) rfl) (fewP_any (hl.inner.more (B' := w3.heap.size) (by omega)) (Nat.le_refl _)) (by kernel_rfl) rfl rfl rfl (by decide) ?_
      rintro u5 w5 ⟨e5, hw5⟩
      have zw5 := hw5.size
      obtain rfl : u5 = .bool true := e5.trans (congrArg Value.bool (decide_eq_true c4))
      refine lsw (want_none (by rfl)) (y_pick true rfl rfl rfl) rfl (by decide) ?_
      refine lsw (want_none (by rfl)) (y_assign rfl rfl) rfl (by decide) ?_
      refine lg_nil ?_
      refine nx (E' := [(2, _)]) (fk rfl fn) ?_
      refine cg_ret ?_
      have u := u.trans (n1.below.mono u.size)
      have u := u.trans (hw3.mono u.size)
      have u := u.trans (hw5.mono u.size)
      exact eg_ret_tmp rfl rfl ⟨_, rfl, congrArg Value.bool (show true = decide (ndFew L) from (decide_eq_true (by simp [ndFew, c2, c4])).symm), u⟩
    · refine lg_callw (want_t (dj := 6) (by rfl) (by kernel_rfl) rfl) (fewP_any (hl.inner.more (B' := w3.heap.size) (by omega)) (Nat.le_refl _)) (by kernel_rfl) rfl rfl rfl (by decide) ?_
      rintro u6 w6 ⟨e6, hw6⟩
      have zw6 := hw6.size
      obtain rfl : u6 = .bool false := e6.trans (congrArg Value.bool (decide_eq_false c4))
      refine lsw (want_none (by rfl)) (y_pick true rfl rfl rfl) rfl (by decide) ?_
      refine lsw (want_none (by rfl)) (y_assign rfl rfl) rfl (by decide) ?_
      refine lg_nil ?_
      refine nx (E' := [(2, _)]) (fk rfl fn) ?_
      refine cg_ret ?_
      have u := u.trans (n1.below.mono u.size)
      have u := u.trans (hw3.mono u.size)
      have u := u.trans (hw6.mono u.size)
      exact eg_ret_tmp rfl rfl ⟨_, rfl, congrArg Value.bool (show false = decide (ndFew L) from (decide_eq_false (by simp [ndFew, c2, c4])).symm), u⟩
  · refine lg_callw (want_none (by rfl)) (few_any (hl.leaf.more (B' := w1.heap.size) (by omega)) (Nat.le_refl _)) (by kernel_rfl) rfl rfl rfl (by decide) ?_
    rintro u7 w7 ⟨e7, hw7⟩
    have zw7 := hw7.size
    obtain rfl : u7 = .bool false := e7.trans (congrArg Value.bool (decide_eq_false c2))
    refine lsw (want_none (by rfl)) (y_move rfl rfl) rfl (by decide) ?_
    refine lsk (want_f (dj := 6) (by rfl) (by kernel_rfl) rfl) rfl (by decide) ?_
    refine lsk (want_f (dj := 6) (by rfl) (by kernel_rfl) rfl) rfl (by decide) ?_
    refine lsk (want_f (dj := 6) (by rfl) (by kernel_rfl) rfl) rfl (by decide) ?_
    refine lsw (want_none (by rfl)) (y_pick false rfl rfl rfl) rfl (by decide) ?_
    refine lsw (want_none (by rfl)) (y_assign rfl rfl) rfl (by decide) ?_
    refine lg_nil ?_
    refine nx (E' := [(2, _)]) (fk rfl fn) ?_
    refine cg_ret ?_
    have u := u.trans (n1.below.mono u.size)
    have u := u.trans (hw7.mono u.size)
    exact eg_ret_tmp rfl rfl ⟨_, rfl, congrArg Value.bool (show false = decide (ndFew L) from (decide_eq_false (by simp [ndFew, c2])).symm), u⟩
theorem rcheckN_any {W : World} {B : Nat} {l : NdV} {L : Nd} (hl : IsNd W B l L) (hB : B ≤ W.heap.size) : Calls Tryd.prog 33 #[.agg (l.cs L)] W fun e W' => ∃ v, e = .returned v ∧ v = nv (ndCheck L) ∧ Below W.heap.size W W' := by
  refine calls_cg (n := 53) Tryd.func33 rfl Tryd.ntmps33 (by simp) ?_
  show CG _ _ _ [(0, .agg (l.cs L))] _ _
  have u := Below.refl W.heap.size W
  refine cg_seq ?_
  refine cg_region ?_
  refine lg_boxw (want_none (by rfl)) rfl rfl (by kernel_rfl) rfl (by decide) fun b1 w1 n1 => ?_
  have r1 := n1.row
  have k1 := n1.blk
  have z1 := n1.size
  have lt1 : b1 < w1.heap.size := by omega
  refine lsw (want_none (by rfl)) (y_assign rfl rfl) rfl (by decide) ?_
  refine lg_nil ?_
  refine nx (E' := [(1, _), (2, _)]) (fk rfl (fk rfl fn)) ?_
  refine cg_seq ?_
  refine cg_region ?_
  refine lsw (want_none (by rfl)) (y_fld (off := 1) (by kernel_rfl) rfl rfl) rfl (by decide) ?_
  refine lsw (want_none (by rfl)) (y_part r1 (m := 4) rfl (show 1+4 ≤ 8 by decide) (by kernel_rfl) (by kernel_rfl) rfl rfl) rfl (by decide) ?_
  refine lsw (want_none (by rfl)) (y_build (cs := LfV.zero.cs Lf.zero) rfl rfl (by kernel_rfl)) rfl (by decide) ?_
  have hl := hl.below (n1.below.mono (by omega))
  by_cases c2 : LfSame L.leaf Lf.zero
  · refine lg_callw (want_none (by rfl)) (rsame_any (hl.leaf.more (B' := w1.heap.size) (by omega)) ((IsLf.zero _ 0).more (B' := w1.heap.size) (by omega)) (Nat.le_refl _)) (by kernel_rfl) rfl rfl rfl (by decide) ?_
    rintro u3 w3 ⟨e3, hw3⟩
    have zw3 := hw3.size
    obtain rfl : u3 = .bool true := e3.trans (congrArg Value.bool (decide_eq_true c2))
    refine lsw (want_none (by rfl)) (y_bnot rfl rfl) rfl (by decide) ?_
    refine lsw (want_none (by rfl)) (y_assign rfl rfl) rfl (by decide) ?_
    refine lg_nil ?_
    refine nx (E' := [(1, _), (2, _), (3, _)]) (fk rfl (fk rfl (fk rfl fn))) ?_
    refine cg_seq ?_
    refine cg_region ?_
    refine lsw (want_none (by rfl)) (y_fld (off := 5) (by kernel_rfl) rfl rfl) rfl (by decide) ?_
    have r1 := RowAt.below hw3 r1.lt r1
    refine lsw (want_none (by rfl)) (y_part r1 (m := 3) rfl (show 5+3 ≤ 8 by decide) (by kernel_rfl) (by kernel_rfl) rfl rfl) rfl (by decide) ?_
    refine lsw (want_none (by rfl)) (y_build (cs := PnV.zero.cs Pn.zero) rfl rfl (by kernel_rfl)) rfl (by decide) ?_
    have hl := hl.below (hw3.mono (by omega))
    by_cases c4 : PnSame L.inner Pn.zero
    · refine lg_callw (want_none (by rfl)) (rsameP_any (hl.inner.more (B' := w3.heap.size) (by omega)) ((IsPn.zero _ 0).more (B' := w3.heap.size) (by omega)) (Nat.le_refl _)) (by kernel_rfl) rfl rfl rfl (by decide) ?_
      rintro u5 w5 ⟨e5, hw5⟩
      have zw5 := hw5.size
      obtain rfl : u5 = .bool true := e5.trans (congrArg Value.bool (decide_eq_true c4))
      refine lsw (want_none (by rfl)) (y_bnot rfl rfl) rfl (by decide) ?_
      refine lsw (want_none (by rfl)) (y_assign rfl rfl) rfl (by decide) ?_
      refine lg_nil ?_
      refine nx (E' := [(1, _), (2, _), (3, _), (4, _)]) (fk rfl (fk rfl (fk rfl (fk rfl fn)))) ?_
      refine cg_seq ?_
      refine cg_block ?_
      refine cg_seq ?_
      refine cg_region ?_
      refine lsw (want_none (by rfl)) (y_fld (off := 0) (by kernel_rfl) rfl rfl) rfl (by decide) ?_
      have r1 := RowAt.below hw5 r1.lt r1
      refine lsw (want_none (by rfl)) (y_cellv (v := nv L.kind) r1 rfl (by kernel_rfl) rfl rfl) rfl (by decide) ?_
      by_cases c6 : L.kind < 0
      · refine lsw (want_none (by rfl)) (yb (decide_eq_true c6) (yi_lss rfl rfl rfl)) rfl (by decide) ?_
        refine lsw (want_none (by rfl)) (y_move rfl rfl) rfl (by decide) ?_
        refine lsk (want_f (dj := 19) (by rfl) (by kernel_rfl) rfl) rfl (by decide) ?_
        refine lsk (want_f (dj := 19) (by rfl) (by kernel_rfl) rfl) rfl (by decide) ?_
        refine lsk (want_f (dj := 19) (by rfl) (by kernel_rfl) rfl) rfl (by decide) ?_
        refine lsw (want_none (by rfl)) (y_pick true rfl rfl rfl) rfl (by decide) ?_
        refine lsw (want_none (by rfl)) (y_assign rfl rfl) rfl (by decide) ?_
        refine lg_nil ?_
        refine nx (E' := [(1, _), (2, _), (3, _), (4, _), (15, _)]) (fk rfl (fk rfl (fk rfl (fk rfl (fk rfl fn))))) ?_
        refine cg_ct rfl ?_
        refine cg_seq ?_
        refine cg_region ?_
        refine lsw (want_none (by rfl)) (y_assign rfl rfl) rfl (by decide) ?_
        refine lg_nil ?_
        refine nx (E' := [(2, _)]) (fk rfl fn) ?_
        refine cg_ret ?_
        refine eg_block_ret ?_
        refine eg_seq_ret ?_
        have u := u.trans (n1.below.mono u.size)
        have u := u.trans (hw3.mono u.size)
        have u := u.trans (hw5.mono u.size)
        exact eg_ret_tmp rfl rfl ⟨_, rfl, congrArg nv (show 7 = ndCheck L by simp [ndCheck, c6]), u⟩
      · refine lsw (want_none (by rfl)) (yb (decide_eq_false c6) (yi_lss rfl rfl rfl)) rfl (by decide) ?_
        refine lsw (want_none (by rfl)) (y_move rfl rfl) rfl (by decide) ?_
        refine lsw (want_t (dj := 19) (by rfl) (by kernel_rfl) rfl) (y_fld (off := 0) (by kernel_rfl) rfl rfl) rfl (by decide) ?_
        refine lsw (want_t (dj := 19) (by rfl) (by kernel_rfl) rfl) (y_cellv (v := nv L.kind) r1 rfl (by kernel_rfl) rfl rfl) rfl (by decide) ?_
        by_cases c7 : 2 < L.kind
        · refine lsw (want_t (dj := 19) (by rfl) (by kernel_rfl) rfl) (yb (decide_eq_true c7) (yi_gtr rfl rfl rfl)) rfl (by decide) ?_
          refine lsw (want_none (by rfl)) (y_pick false rfl rfl rfl) rfl (by decide) ?_
          refine lsw (want_none (by rfl)) (y_assign rfl rfl) rfl (by decide) ?_
          refine lg_nil ?_
          refine nx (E' := [(1, _), (2, _), (3, _), (4, _), (15, _)]) (fk rfl (fk rfl (fk rfl (fk rfl (fk rfl fn))))) ?_
          refine cg_ct rfl ?_
          refine cg_seq ?_
          refine cg_region ?_
          refine lsw (want_none (by rfl)) (y_assign rfl rfl) rfl (by decide) ?_
          refine lg_nil ?_
          refine nx (E' := [(2, _)]) (fk rfl fn) ?_
          refine cg_ret ?_
          refine eg_block_ret ?_
          refine eg_seq_ret ?_
          have u := u.trans (n1.below.mono u.size)
          have u := u.trans (hw3.mono u.size)
          have u := u.trans (hw5.mono u.size)
          exact eg_ret_tmp rfl rfl ⟨_, rfl, congrArg nv (show 7 = ndCheck L by simp [ndCheck, c6, c7]), u⟩
        · refine lsw (want_t (dj := 19) (by rfl) (by kernel_rfl) rfl) (yb (decide_eq_false c7) (yi_gtr rfl rfl rfl)) rfl (by decide) ?_
          refine lsw (want_none (by rfl)) (y_pick false rfl rfl rfl) rfl (by decide) ?_
          refine lsw (want_none (by rfl)) (y_assign rfl rfl) rfl (by decide) ?_
          refine lg_nil ?_
          refine nx (E' := [(1, _), (2, _), (3, _), (4, _), (15, _)]) (fk rfl (fk rfl (fk rfl (fk rfl (fk rfl fn))))) ?_
          refine cg_cf rfl ?_
          refine cg_seq ?_
          refine cg_region ?_
          refine lsw (want_none (by rfl)) (y_move rfl rfl) rfl (by decide) ?_
          refine lsw (want_none (by rfl)) (y_move rfl rfl) rfl (by decide) ?_
          refine lsk (want_f (dj := 26) (by rfl) (by kernel_rfl) rfl) rfl (by decide) ?_
          refine lsk (want_f (dj := 26) (by rfl) (by kernel_rfl) rfl) rfl (by decide) ?_
          refine lsk (want_f (dj := 26) (by rfl) (by kernel_rfl) rfl) rfl (by decide) ?_
          refine lsw (want_none (by rfl)) (y_pick false rfl rfl rfl) rfl (by decide) ?_
          refine lsw (want_none (by rfl)) (y_move rfl rfl) rfl (by decide) ?_
          refine lsw (want_t (dj := 31) (by rfl) (by kernel_rfl) rfl) (y_move rfl rfl) rfl (by decide) ?_
          refine lsw (want_t (dj := 31) (by rfl) (by kernel_rfl) rfl) (y_move rfl rfl) rfl (by decide) ?_
          refine lsk (want_f (dj := 33) (by rfl) (by kernel_rfl) rfl) rfl (by decide) ?_
          refine lsk (want_f (dj := 33) (by rfl) (by kernel_rfl) rfl) rfl (by decide) ?_
          refine lsk (want_f (dj := 33) (by rfl) (by kernel_rfl) rfl) rfl (by decide) ?_
          refine lsw (want_t (dj := 31) (by rfl) (by kernel_rfl) rfl) (y_pick false rfl rfl rfl) rfl (by decide) ?_
          refine lsw (want_none (by rfl)) (y_pick false rfl rfl rfl) rfl (by decide) ?_
          refine lsw (want_none (by rfl)) (y_assign rfl rfl) rfl (by decide) ?_
          refine lg_nil ?_
          refine nx (E' := [(1, _), (2, _), (24, _)]) (fk rfl (fk rfl (fk rfl fn))) ?_
          refine cg_cf rfl ?_
          refine cg_seq ?_
          refine cg_region ?_
          refine lsw (want_none (by rfl)) (y_fld (off := 0) (by kernel_rfl) rfl rfl) rfl (by decide) ?_
          refine lsw (want_none (by rfl)) (y_cellv (v := nv L.kind) r1 rfl (by kernel_rfl) rfl rfl) rfl (by decide) ?_
          by_cases c8 : L.kind = 1
          · refine lsw (want_none (by rfl)) (yb (decide_eq_true c8) (yi_eql rfl rfl rfl)) rfl (by decide) ?_
            refine lsw (want_none (by rfl)) (y_assign rfl rfl) rfl (by decide) ?_
            refine lg_nil ?_
            refine nx (E' := [(1, _), (2, _), (39, _)]) (fk rfl (fk rfl (fk rfl fn))) ?_
            refine cg_ct rfl ?_
            refine cg_seq ?_
            refine cg_region ?_
            refine lsw (want_none (by rfl)) (y_fld (off := 1) (by kernel_rfl) rfl rfl) rfl (by decide) ?_
            refine lsw (want_none (by rfl)) (y_part r1 (m := 4) rfl (show 1+4 ≤ 8 by decide) (by kernel_rfl) (by kernel_rfl) rfl rfl) rfl (by decide) ?_
            have hl := hl.below (hw5.mono (by omega))
            refine lg_callw (want_none (by rfl)) (rcheck_any (hl.leaf.more (B' := w5.heap.size) (by omega)) (Nat.le_refl _)) (by kernel_rfl) rfl rfl rfl (by decide) ?_
            rintro _ w9 ⟨rfl, hw9⟩
            have zw9 := hw9.size
            refine lsw (want_none (by rfl)) (y_assign rfl rfl) rfl (by decide) ?_
            refine lg_nil ?_
            refine nx (E' := [(2, _)]) (fk rfl fn) ?_
            refine cg_ret ?_
            refine eg_block_ret ?_
            refine eg_seq_ret ?_
            have u := u.trans (n1.below.mono u.size)
            have u := u.trans (hw3.mono u.size)
            have u := u.trans (hw5.mono u.size)
            have u := u.trans (hw9.mono u.size)
            exact eg_ret_tmp rfl rfl ⟨_, rfl, congrArg nv (show (lfCheck L.leaf) = ndCheck L by simp [ndCheck, c2, c4, c8]), u⟩
          · refine lsw (want_none (by rfl)) (yb (decide_eq_false c8) (yi_eql rfl rfl rfl)) rfl (by decide) ?_
            refine lsw (want_none (by rfl)) (y_assign rfl rfl) rfl (by decide) ?_
            refine lg_nil ?_
            refine nx (E' := [(1, _), (2, _), (39, _)]) (fk rfl (fk rfl (fk rfl fn))) ?_
            refine cg_cf rfl ?_
            refine cg_seq ?_
            refine cg_region ?_
            refine lsw (want_none (by rfl)) (y_fld (off := 0) (by kernel_rfl) rfl rfl) rfl (by decide) ?_
            refine lsw (want_none (by rfl)) (y_cellv (v := nv L.kind) r1 rfl (by kernel_rfl) rfl rfl) rfl (by decide) ?_
            by_cases c10 : L.kind = 2
            · refine lsw (want_none (by rfl)) (yb (decide_eq_true c10) (yi_eql rfl rfl rfl)) rfl (by decide) ?_
              refine lsw (want_none (by rfl)) (y_assign rfl rfl) rfl (by decide) ?_
              refine lg_nil ?_
              refine nx (E' := [(1, _), (2, _), (46, _)]) (fk rfl (fk rfl (fk rfl fn))) ?_
              refine cg_ct rfl ?_
              refine cg_seq ?_
              refine cg_region ?_
              refine lsw (want_none (by rfl)) (y_fld (off := 5) (by kernel_rfl) rfl rfl) rfl (by decide) ?_
              refine lsw (want_none (by rfl)) (y_part r1 (m := 3) rfl (show 5+3 ≤ 8 by decide) (by kernel_rfl) (by kernel_rfl) rfl rfl) rfl (by decide) ?_
              have hl := hl.below (hw5.mono (by omega))
              refine lg_callw (want_none (by rfl)) (rcheckP_any (hl.inner.more (B' := w5.heap.size) (by omega)) (Nat.le_refl _)) (by kernel_rfl) rfl rfl rfl (by decide) ?_
              rintro _ w11 ⟨rfl, hw11⟩
              have zw11 := hw11.size
              refine lsw (want_none (by rfl)) (y_assign rfl rfl) rfl (by decide) ?_
              refine lg_nil ?_
              refine nx (E' := [(2, _)]) (fk rfl fn) ?_
              refine cg_ret ?_
              refine eg_block_ret ?_
              refine eg_seq_ret ?_
              have u := u.trans (n1.below.mono u.size)
              have u := u.trans (hw3.mono u.size)
              have u := u.trans (hw5.mono u.size)
              have u := u.trans (hw11.mono u.size)
              exact eg_ret_tmp rfl rfl ⟨_, rfl, congrArg nv (show (pnCheck L.inner) = ndCheck L by simp [ndCheck, c2, c4, c10]), u⟩
            · refine lsw (want_none (by rfl)) (yb (decide_eq_false c10) (yi_eql rfl rfl rfl)) rfl (by decide) ?_
              refine lsw (want_none (by rfl)) (y_assign rfl rfl) rfl (by decide) ?_
              refine lg_nil ?_
              refine nx (E' := [(1, _), (2, _), (46, _)]) (fk rfl (fk rfl (fk rfl fn))) ?_
              refine cg_cf rfl ?_
              refine cg_skip ?_
              refine eg_block_norm ?_
              refine nx (E' := [(2, _)]) (fk rfl fn) ?_
              refine cg_seq ?_
              refine cg_region ?_
              refine lsw (want_none (by rfl)) (y_assign rfl rfl) rfl (by decide) ?_
              refine lg_nil ?_
              refine nx (E' := [(2, _)]) (fk rfl fn) ?_
              refine cg_ret ?_
              have u := u.trans (n1.below.mono u.size)
              have u := u.trans (hw3.mono u.size)
              have u := u.trans (hw5.mono u.size)
              exact eg_ret_tmp rfl rfl ⟨_, rfl, congrArg nv (show 0 = ndCheck L by simp [ndCheck, c2, c4, c6, c7, c8, c10]), u⟩
    · refine lg_callw (want_none (by rfl)) (rsameP_any (hl.inner.more (B' := w3.heap.size) (by omega)) ((IsPn.zero _ 0).more (B' := w3.heap.size) (by omega)) (Nat.le_refl _)) (by kernel_rfl) rfl rfl rfl (by decide) ?_
      rintro u12 w12 ⟨e12, hw12⟩
      have zw12 := hw12.size
      obtain rfl : u12 = .bool false := e12.trans (congrArg Value.bool (decide_eq_false c4))
      refine lsw (want_none (by rfl)) (y_bnot rfl rfl) rfl (by decide) ?_
      refine lsw (want_none (by rfl)) (y_assign rfl rfl) rfl (by decide) ?_
      refine lg_nil ?_
      refine nx (E' := [(1, _), (2, _), (3, _), (4, _)]) (fk rfl (fk rfl (fk rfl (fk rfl fn)))) ?_
      refine cg_seq ?_
      refine cg_block ?_
      refine cg_seq ?_
      refine cg_region ?_
      refine lsw (want_none (by rfl)) (y_fld (off := 0) (by kernel_rfl) rfl rfl) rfl (by decide) ?_
      have r1 := RowAt.below hw12 r1.lt r1
      refine lsw (want_none (by rfl)) (y_cellv (v := nv L.kind) r1 rfl (by kernel_rfl) rfl rfl) rfl (by decide) ?_
      by_cases c13 : L.kind < 0
      · refine lsw (want_none (by rfl)) (yb (decide_eq_true c13) (yi_lss rfl rfl rfl)) rfl (by decide) ?_
        refine lsw (want_none (by rfl)) (y_move rfl rfl) rfl (by decide) ?_
        refine lsk (want_f (dj := 19) (by rfl) (by kernel_rfl) rfl) rfl (by decide) ?_
        refine lsk (want_f (dj := 19) (by rfl) (by kernel_rfl) rfl) rfl (by decide) ?_
        refine lsk (want_f (dj := 19) (by rfl) (by kernel_rfl) rfl) rfl (by decide) ?_
        refine lsw (want_none (by rfl)) (y_pick true rfl rfl rfl) rfl (by decide) ?_
        refine lsw (want_none (by rfl)) (y_assign rfl rfl) rfl (by decide) ?_
        refine lg_nil ?_
        refine nx (E' := [(1, _), (2, _), (3, _), (4, _), (15, _)]) (fk rfl (fk rfl (fk rfl (fk rfl (fk rfl fn))))) ?_
        refine cg_ct rfl ?_
        refine cg_seq ?_
        refine cg_region ?_
        refine lsw (want_none (by rfl)) (y_assign rfl rfl) rfl (by decide) ?_
        refine lg_nil ?_
        refine nx (E' := [(2, _)]) (fk rfl fn) ?_
        refine cg_ret ?_
        refine eg_block_ret ?_
        refine eg_seq_ret ?_
        have u := u.trans (n1.below.mono u.size)
        have u := u.trans (hw3.mono u.size)
        have u := u.trans (hw12.mono u.size)
        exact eg_ret_tmp rfl rfl ⟨_, rfl, congrArg nv (show 7 = ndCheck L by simp [ndCheck, c13]), u⟩
      · refine lsw (want_none (by rfl)) (yb (decide_eq_false c13) (yi_lss rfl rfl rfl)) rfl (by decide) ?_
        refine lsw (want_none (by rfl)) (y_move rfl rfl) rfl (by decide) ?_
        refine lsw (want_t (dj := 19) (by rfl) (by kernel_rfl) rfl) (y_fld (off := 0) (by kernel_rfl) rfl rfl) rfl (by decide) ?_
        refine lsw (want_t (dj := 19) (by rfl) (by kernel_rfl) rfl) (y_cellv (v := nv L.kind) r1 rfl (by kernel_rfl) rfl rfl) rfl (by decide) ?_
        by_cases c14 : 2 < L.kind
        · refine lsw (want_t (dj := 19) (by rfl) (by kernel_rfl) rfl) (yb (decide_eq_true c14) (yi_gtr rfl rfl rfl)) rfl (by decide) ?_
          refine lsw (want_none (by rfl)) (y_pick false rfl rfl rfl) rfl (by decide) ?_
          refine lsw (want_none (by rfl)) (y_assign rfl rfl) rfl (by decide) ?_
          refine lg_nil ?_
          refine nx (E' := [(1, _), (2, _), (3, _), (4, _), (15, _)]) (fk rfl (fk rfl (fk rfl (fk rfl (fk rfl fn))))) ?_
          refine cg_ct rfl ?_
          refine cg_seq ?_
          refine cg_region ?_
          refine lsw (want_none (by rfl)) (y_assign rfl rfl) rfl (by decide) ?_
          refine lg_nil ?_
          refine nx (E' := [(2, _)]) (fk rfl fn) ?_
          refine cg_ret ?_
          refine eg_block_ret ?_
          refine eg_seq_ret ?_
          have u := u.trans (n1.below.mono u.size)
          have u := u.trans (hw3.mono u.size)
          have u := u.trans (hw12.mono u.size)
          exact eg_ret_tmp rfl rfl ⟨_, rfl, congrArg nv (show 7 = ndCheck L by simp [ndCheck, c13, c14]), u⟩
        · refine lsw (want_t (dj := 19) (by rfl) (by kernel_rfl) rfl) (yb (decide_eq_false c14) (yi_gtr rfl rfl rfl)) rfl (by decide) ?_
          refine lsw (want_none (by rfl)) (y_pick false rfl rfl rfl) rfl (by decide) ?_
          refine lsw (want_none (by rfl)) (y_assign rfl rfl) rfl (by decide) ?_
          refine lg_nil ?_
          refine nx (E' := [(1, _), (2, _), (3, _), (4, _), (15, _)]) (fk rfl (fk rfl (fk rfl (fk rfl (fk rfl fn))))) ?_
          refine cg_cf rfl ?_
          refine cg_seq ?_
          refine cg_region ?_
          refine lsw (want_none (by rfl)) (y_move rfl rfl) rfl (by decide) ?_
          refine lsw (want_none (by rfl)) (y_move rfl rfl) rfl (by decide) ?_
          refine lsk (want_f (dj := 26) (by rfl) (by kernel_rfl) rfl) rfl (by decide) ?_
          refine lsk (want_f (dj := 26) (by rfl) (by kernel_rfl) rfl) rfl (by decide) ?_
          refine lsk (want_f (dj := 26) (by rfl) (by kernel_rfl) rfl) rfl (by decide) ?_
          refine lsw (want_none (by rfl)) (y_pick false rfl rfl rfl) rfl (by decide) ?_
          refine lsw (want_none (by rfl)) (y_move rfl rfl) rfl (by decide) ?_
          refine lsw (want_t (dj := 31) (by rfl) (by kernel_rfl) rfl) (y_move rfl rfl) rfl (by decide) ?_
          refine lsw (want_t (dj := 31) (by rfl) (by kernel_rfl) rfl) (y_move rfl rfl) rfl (by decide) ?_
          refine lsw (want_t (dj := 33) (by rfl) (by kernel_rfl) rfl) (y_fld (off := 0) (by kernel_rfl) rfl rfl) rfl (by decide) ?_
          refine lsw (want_t (dj := 33) (by rfl) (by kernel_rfl) rfl) (y_cellv (v := nv L.kind) r1 rfl (by kernel_rfl) rfl rfl) rfl (by decide) ?_
          by_cases c15 : L.kind = 2
          · refine lsw (want_t (dj := 33) (by rfl) (by kernel_rfl) rfl) (yb (nd_f c15) (yi_neq rfl rfl rfl)) rfl (by decide) ?_
            refine lsw (want_t (dj := 31) (by rfl) (by kernel_rfl) rfl) (y_pick true rfl rfl rfl) rfl (by decide) ?_
            refine lsw (want_none (by rfl)) (y_pick false rfl rfl rfl) rfl (by decide) ?_
            refine lsw (want_none (by rfl)) (y_assign rfl rfl) rfl (by decide) ?_
            refine lg_nil ?_
            refine nx (E' := [(1, _), (2, _), (24, _)]) (fk rfl (fk rfl (fk rfl fn))) ?_
            refine cg_cf rfl ?_
            refine cg_seq ?_
            refine cg_region ?_
            refine lsw (want_none (by rfl)) (y_fld (off := 0) (by kernel_rfl) rfl rfl) rfl (by decide) ?_
            refine lsw (want_none (by rfl)) (y_cellv (v := nv L.kind) r1 rfl (by kernel_rfl) rfl rfl) rfl (by decide) ?_
            refine lsw (want_none (by rfl)) (yb (decide_eq_false (show ¬ (L.kind = 1) from (show ¬ (L.kind = 1) by omega))) (yi_eql rfl rfl rfl)) rfl (by decide) ?_
            refine lsw (want_none (by rfl)) (y_assign rfl rfl) rfl (by decide) ?_
            refine lg_nil ?_
            refine nx (E' := [(1, _), (2, _), (39, _)]) (fk rfl (fk rfl (fk rfl fn))) ?_
            refine cg_cf rfl ?_
            refine cg_seq ?_
            refine cg_region ?_
            refine lsw (want_none (by rfl)) (y_fld (off := 0) (by kernel_rfl) rfl rfl) rfl (by decide) ?_
            refine lsw (want_none (by rfl)) (y_cellv (v := nv L.kind) r1 rfl (by kernel_rfl) rfl rfl) rfl (by decide) ?_
            refine lsw (want_none (by rfl)) (yb (decide_eq_true c15) (yi_eql rfl rfl rfl)) rfl (by decide) ?_
            refine lsw (want_none (by rfl)) (y_assign rfl rfl) rfl (by decide) ?_
            refine lg_nil ?_
            refine nx (E' := [(1, _), (2, _), (46, _)]) (fk rfl (fk rfl (fk rfl fn))) ?_
            refine cg_ct rfl ?_
            refine cg_seq ?_
            refine cg_region ?_
            refine lsw (want_none (by rfl)) (y_fld (off := 5) (by kernel_rfl) rfl rfl) rfl (by decide) ?_
            refine lsw (want_none (by rfl)) (y_part r1 (m := 3) rfl (show 5+3 ≤ 8 by decide) (by kernel_rfl) (by kernel_rfl) rfl rfl) rfl (by decide) ?_
            have hl := hl.below (hw12.mono (by omega))
            refine lg_callw (want_none (by rfl)) (rcheckP_any (hl.inner.more (B' := w12.heap.size) (by omega)) (Nat.le_refl _)) (by kernel_rfl) rfl rfl rfl (by decide) ?_
            rintro _ w16 ⟨rfl, hw16⟩
            have zw16 := hw16.size
            refine lsw (want_none (by rfl)) (y_assign rfl rfl) rfl (by decide) ?_
            refine lg_nil ?_
            refine nx (E' := [(2, _)]) (fk rfl fn) ?_
            refine cg_ret ?_
            refine eg_block_ret ?_
            refine eg_seq_ret ?_
            have u := u.trans (n1.below.mono u.size)
            have u := u.trans (hw3.mono u.size)
            have u := u.trans (hw12.mono u.size)
            have u := u.trans (hw16.mono u.size)
            exact eg_ret_tmp rfl rfl ⟨_, rfl, congrArg nv (show (pnCheck L.inner) = ndCheck L by simp [ndCheck, c2, c4, c15]), u⟩
          · refine lsw (want_t (dj := 33) (by rfl) (by kernel_rfl) rfl) (yb (nd_t c15) (yi_neq rfl rfl rfl)) rfl (by decide) ?_
            refine lsw (want_t (dj := 31) (by rfl) (by kernel_rfl) rfl) (y_pick true rfl rfl rfl) rfl (by decide) ?_
            refine lsw (want_none (by rfl)) (y_pick false rfl rfl rfl) rfl (by decide) ?_
            refine lsw (want_none (by rfl)) (y_assign rfl rfl) rfl (by decide) ?_
            refine lg_nil ?_
            refine nx (E' := [(1, _), (2, _), (24, _)]) (fk rfl (fk rfl (fk rfl fn))) ?_
            refine cg_ct rfl ?_
            refine cg_seq ?_
            refine cg_region ?_
            refine lsw (want_none (by rfl)) (y_assign rfl rfl) rfl (by decide) ?_
            refine lg_nil ?_
            refine nx (E' := [(2, _)]) (fk rfl fn) ?_
            refine cg_ret ?_
            refine eg_block_ret ?_
            refine eg_seq_ret ?_
            have u := u.trans (n1.below.mono u.size)
            have u := u.trans (hw3.mono u.size)
            have u := u.trans (hw12.mono u.size)
            exact eg_ret_tmp rfl rfl ⟨_, rfl, congrArg nv (show 2 = ndCheck L by simp [ndCheck, c2, c4, c13, c14, c15]), u⟩
  · refine lg_callw (want_none (by rfl)) (rsame_any (hl.leaf.more (B' := w1.heap.size) (by omega)) ((IsLf.zero _ 0).more (B' := w1.heap.size) (by omega)) (Nat.le_refl _)) (by kernel_rfl) rfl rfl rfl (by decide) ?_
    rintro u17 w17 ⟨e17, hw17⟩
    have zw17 := hw17.size
    obtain rfl : u17 = .bool false := e17.trans (congrArg Value.bool (decide_eq_false c2))
    refine lsw (want_none (by rfl)) (y_bnot rfl rfl) rfl (by decide) ?_
    refine lsw (want_none (by rfl)) (y_assign rfl rfl) rfl (by decide) ?_
    refine lg_nil ?_
    refine nx (E' := [(1, _), (2, _), (3, _)]) (fk rfl (fk rfl (fk rfl fn))) ?_
    refine cg_seq ?_
    refine cg_region ?_
    refine lsw (want_none (by rfl)) (y_fld (off := 5) (by kernel_rfl) rfl rfl) rfl (by decide) ?_
    have r1 := RowAt.below hw17 r1.lt r1
    refine lsw (want_none (by rfl)) (y_part r1 (m := 3) rfl (show 5+3 ≤ 8 by decide) (by kernel_rfl) (by kernel_rfl) rfl rfl) rfl (by decide) ?_
    refine lsw (want_none (by rfl)) (y_build (cs := PnV.zero.cs Pn.zero) rfl rfl (by kernel_rfl)) rfl (by decide) ?_
    have hl := hl.below (hw17.mono (by omega))
    by_cases c18 : PnSame L.inner Pn.zero
    · refine lg_callw (want_none (by rfl)) (rsameP_any (hl.inner.more (B' := w17.heap.size) (by omega)) ((IsPn.zero _ 0).more (B' := w17.heap.size) (by omega)) (Nat.le_refl _)) (by kernel_rfl) rfl rfl rfl (by decide) ?_
      rintro u19 w19 ⟨e19, hw19⟩
      have zw19 := hw19.size
      obtain rfl : u19 = .bool true := e19.trans (congrArg Value.bool (decide_eq_true c18))
      refine lsw (want_none (by rfl)) (y_bnot rfl rfl) rfl (by decide) ?_
      refine lsw (want_none (by rfl)) (y_assign rfl rfl) rfl (by decide) ?_
      refine lg_nil ?_
      refine nx (E' := [(1, _), (2, _), (3, _), (4, _)]) (fk rfl (fk rfl (fk rfl (fk rfl fn)))) ?_
      refine cg_seq ?_
      refine cg_block ?_
      refine cg_seq ?_
      refine cg_region ?_
      refine lsw (want_none (by rfl)) (y_fld (off := 0) (by kernel_rfl) rfl rfl) rfl (by decide) ?_
      have r1 := RowAt.below hw19 r1.lt r1
      refine lsw (want_none (by rfl)) (y_cellv (v := nv L.kind) r1 rfl (by kernel_rfl) rfl rfl) rfl (by decide) ?_
      by_cases c20 : L.kind < 0
      · refine lsw (want_none (by rfl)) (yb (decide_eq_true c20) (yi_lss rfl rfl rfl)) rfl (by decide) ?_
        refine lsw (want_none (by rfl)) (y_move rfl rfl) rfl (by decide) ?_
        refine lsk (want_f (dj := 19) (by rfl) (by kernel_rfl) rfl) rfl (by decide) ?_
        refine lsk (want_f (dj := 19) (by rfl) (by kernel_rfl) rfl) rfl (by decide) ?_
        refine lsk (want_f (dj := 19) (by rfl) (by kernel_rfl) rfl) rfl (by decide) ?_
        refine lsw (want_none (by rfl)) (y_pick true rfl rfl rfl) rfl (by decide) ?_
        refine lsw (want_none (by rfl)) (y_assign rfl rfl) rfl (by decide) ?_
        refine lg_nil ?_
        refine nx (E' := [(1, _), (2, _), (3, _), (4, _), (15, _)]) (fk rfl (fk rfl (fk rfl (fk rfl (fk rfl fn))))) ?_
        refine cg_ct rfl ?_
        refine cg_seq ?_
        refine cg_region ?_
        refine lsw (want_none (by rfl)) (y_assign rfl rfl) rfl (by decide) ?_
        refine lg_nil ?_
        refine nx (E' := [(2, _)]) (fk rfl fn) ?_
        refine cg_ret ?_
        refine eg_block_ret ?_
        refine eg_seq_ret ?_
        have u := u.trans (n1.below.mono u.size)
        have u := u.trans (hw17.mono u.size)
        have u := u.trans (hw19.mono u.size)
        exact eg_ret_tmp rfl rfl ⟨_, rfl, congrArg nv (show 7 = ndCheck L by simp [ndCheck, c20]), u⟩
      · refine lsw (want_none (by rfl)) (yb (decide_eq_false c20) (yi_lss rfl rfl rfl)) rfl (by decide) ?_
        refine lsw (want_none (by rfl)) (y_move rfl rfl) rfl (by decide) ?_
        refine lsw (want_t (dj := 19) (by rfl) (by kernel_rfl) rfl) (y_fld (off := 0) (by kernel_rfl) rfl rfl) rfl (by decide) ?_
        refine lsw (want_t (dj := 19) (by rfl) (by kernel_rfl) rfl) (y_cellv (v := nv L.kind) r1 rfl (by kernel_rfl) rfl rfl) rfl (by decide) ?_
        by_cases c21 : 2 < L.kind
        · refine lsw (want_t (dj := 19) (by rfl) (by kernel_rfl) rfl) (yb (decide_eq_true c21) (yi_gtr rfl rfl rfl)) rfl (by decide) ?_
          refine lsw (want_none (by rfl)) (y_pick false rfl rfl rfl) rfl (by decide) ?_
          refine lsw (want_none (by rfl)) (y_assign rfl rfl) rfl (by decide) ?_
          refine lg_nil ?_
          refine nx (E' := [(1, _), (2, _), (3, _), (4, _), (15, _)]) (fk rfl (fk rfl (fk rfl (fk rfl (fk rfl fn))))) ?_
          refine cg_ct rfl ?_
          refine cg_seq ?_
          refine cg_region ?_
          refine lsw (want_none (by rfl)) (y_assign rfl rfl) rfl (by decide) ?_
          refine lg_nil ?_
          refine nx (E' := [(2, _)]) (fk rfl fn) ?_
          refine cg_ret ?_
          refine eg_block_ret ?_
          refine eg_seq_ret ?_
          have u := u.trans (n1.below.mono u.size)
          have u := u.trans (hw17.mono u.size)
          have u := u.trans (hw19.mono u.size)
          exact eg_ret_tmp rfl rfl ⟨_, rfl, congrArg nv (show 7 = ndCheck L by simp [ndCheck, c20, c21]), u⟩
        · refine lsw (want_t (dj := 19) (by rfl) (by kernel_rfl) rfl) (yb (decide_eq_false c21) (yi_gtr rfl rfl rfl)) rfl (by decide) ?_
          refine lsw (want_none (by rfl)) (y_pick false rfl rfl rfl) rfl (by decide) ?_
          refine lsw (want_none (by rfl)) (y_assign rfl rfl) rfl (by decide) ?_
          refine lg_nil ?_
          refine nx (E' := [(1, _), (2, _), (3, _), (4, _), (15, _)]) (fk rfl (fk rfl (fk rfl (fk rfl (fk rfl fn))))) ?_
          refine cg_cf rfl ?_
          refine cg_seq ?_
          refine cg_region ?_
          refine lsw (want_none (by rfl)) (y_move rfl rfl) rfl (by decide) ?_
          refine lsw (want_none (by rfl)) (y_move rfl rfl) rfl (by decide) ?_
          refine lsw (want_t (dj := 26) (by rfl) (by kernel_rfl) rfl) (y_fld (off := 0) (by kernel_rfl) rfl rfl) rfl (by decide) ?_
          refine lsw (want_t (dj := 26) (by rfl) (by kernel_rfl) rfl) (y_cellv (v := nv L.kind) r1 rfl (by kernel_rfl) rfl rfl) rfl (by decide) ?_
          by_cases c22 : L.kind = 1
          · refine lsw (want_t (dj := 26) (by rfl) (by kernel_rfl) rfl) (yb (nd_f c22) (yi_neq rfl rfl rfl)) rfl (by decide) ?_
            refine lsw (want_none (by rfl)) (y_pick true rfl rfl rfl) rfl (by decide) ?_
            refine lsw (want_none (by rfl)) (y_move rfl rfl) rfl (by decide) ?_
            refine lsw (want_t (dj := 31) (by rfl) (by kernel_rfl) rfl) (y_move rfl rfl) rfl (by decide) ?_
            refine lsw (want_t (dj := 31) (by rfl) (by kernel_rfl) rfl) (y_move rfl rfl) rfl (by decide) ?_
            refine lsk (want_f (dj := 33) (by rfl) (by kernel_rfl) rfl) rfl (by decide) ?_
            refine lsk (want_f (dj := 33) (by rfl) (by kernel_rfl) rfl) rfl (by decide) ?_
            refine lsk (want_f (dj := 33) (by rfl) (by kernel_rfl) rfl) rfl (by decide) ?_
            refine lsw (want_t (dj := 31) (by rfl) (by kernel_rfl) rfl) (y_pick false rfl rfl rfl) rfl (by decide) ?_
            refine lsw (want_none (by rfl)) (y_pick false rfl rfl rfl) rfl (by decide) ?_
            refine lsw (want_none (by rfl)) (y_assign rfl rfl) rfl (by decide) ?_
            refine lg_nil ?_
            refine nx (E' := [(1, _), (2, _), (24, _)]) (fk rfl (fk rfl (fk rfl fn))) ?_
            refine cg_cf rfl ?_
            refine cg_seq ?_
            refine cg_region ?_
            refine lsw (want_none (by rfl)) (y_fld (off := 0) (by kernel_rfl) rfl rfl) rfl (by decide) ?_
            refine lsw (want_none (by rfl)) (y_cellv (v := nv L.kind) r1 rfl (by kernel_rfl) rfl rfl) rfl (by decide) ?_
            refine lsw (want_none (by rfl)) (yb (decide_eq_true c22) (yi_eql rfl rfl rfl)) rfl (by decide) ?_
            refine lsw (want_none (by rfl)) (y_assign rfl rfl) rfl (by decide) ?_
            refine lg_nil ?_
            refine nx (E' := [(1, _), (2, _), (39, _)]) (fk rfl (fk rfl (fk rfl fn))) ?_
            refine cg_ct rfl ?_
            refine cg_seq ?_
            refine cg_region ?_
            refine lsw (want_none (by rfl)) (y_fld (off := 1) (by kernel_rfl) rfl rfl) rfl (by decide) ?_
            refine lsw (want_none (by rfl)) (y_part r1 (m := 4) rfl (show 1+4 ≤ 8 by decide) (by kernel_rfl) (by kernel_rfl) rfl rfl) rfl (by decide) ?_
            have hl := hl.below (hw19.mono (by omega))
            refine lg_callw (want_none (by rfl)) (rcheck_any (hl.leaf.more (B' := w19.heap.size) (by omega)) (Nat.le_refl _)) (by kernel_rfl) rfl rfl rfl (by decide) ?_
            rintro _ w23 ⟨rfl, hw23⟩
            have zw23 := hw23.size
            refine lsw (want_none (by rfl)) (y_assign rfl rfl) rfl (by decide) ?_
            refine lg_nil ?_
            refine nx (E' := [(2, _)]) (fk rfl fn) ?_
            refine cg_ret ?_
            refine eg_block_ret ?_
            refine eg_seq_ret ?_
            have u := u.trans (n1.below.mono u.size)
            have u := u.trans (hw17.mono u.size)
            have u := u.trans (hw19.mono u.size)
            have u := u.trans (hw23.mono u.size)
            exact eg_ret_tmp rfl rfl ⟨_, rfl, congrArg nv (show (lfCheck L.leaf) = ndCheck L by simp [ndCheck, c2, c18, c22]), u⟩
          · refine lsw (want_t (dj := 26) (by rfl) (by kernel_rfl) rfl) (yb (nd_t c22) (yi_neq rfl rfl rfl)) rfl (by decide) ?_
            refine lsw (want_none (by rfl)) (y_pick true rfl rfl rfl) rfl (by decide) ?_
            refine lsw (want_none (by rfl)) (y_move rfl rfl) rfl (by decide) ?_
            refine lsk (want_f (dj := 31) (by rfl) (by kernel_rfl) rfl) rfl (by decide) ?_
            refine lsk (want_f (dj := 31) (by rfl) (by kernel_rfl) rfl) rfl (by decide) ?_
            refine lsk (want_u (dj := 33) (by rfl) (by kernel_rfl) rfl) rfl (by decide) ?_
            refine lsk (want_u (dj := 33) (by rfl) (by kernel_rfl) rfl) rfl (by decide) ?_
            refine lsk (want_u (dj := 33) (by rfl) (by kernel_rfl) rfl) rfl (by decide) ?_
            refine lsk (want_f (dj := 31) (by rfl) (by kernel_rfl) rfl) rfl (by decide) ?_
            refine lsw (want_none (by rfl)) (y_pick true rfl rfl rfl) rfl (by decide) ?_
            refine lsw (want_none (by rfl)) (y_assign rfl rfl) rfl (by decide) ?_
            refine lg_nil ?_
            refine nx (E' := [(1, _), (2, _), (24, _)]) (fk rfl (fk rfl (fk rfl fn))) ?_
            refine cg_ct rfl ?_
            refine cg_seq ?_
            refine cg_region ?_
            refine lsw (want_none (by rfl)) (y_assign rfl rfl) rfl (by decide) ?_
            refine lg_nil ?_
            refine nx (E' := [(2, _)]) (fk rfl fn) ?_
            refine cg_ret ?_
            refine eg_block_ret ?_
            refine eg_seq_ret ?_
            have u := u.trans (n1.below.mono u.size)
            have u := u.trans (hw17.mono u.size)
            have u := u.trans (hw19.mono u.size)
            exact eg_ret_tmp rfl rfl ⟨_, rfl, congrArg nv (show 2 = ndCheck L by simp [ndCheck, c2, c18, c20, c21, c22]), u⟩
    · refine lg_callw (want_none (by rfl)) (rsameP_any (hl.inner.more (B' := w17.heap.size) (by omega)) ((IsPn.zero _ 0).more (B' := w17.heap.size) (by omega)) (Nat.le_refl _)) (by kernel_rfl) rfl rfl rfl (by decide) ?_
      rintro u24 w24 ⟨e24, hw24⟩
      have zw24 := hw24.size
      obtain rfl : u24 = .bool false := e24.trans (congrArg Value.bool (decide_eq_false c18))
      refine lsw (want_none (by rfl)) (y_bnot rfl rfl) rfl (by decide) ?_
      refine lsw (want_none (by rfl)) (y_assign rfl rfl) rfl (by decide) ?_
      refine lg_nil ?_
      refine nx (E' := [(1, _), (2, _), (3, _), (4, _)]) (fk rfl (fk rfl (fk rfl (fk rfl fn)))) ?_
      refine cg_seq ?_
      refine cg_block ?_
      refine cg_seq ?_
      refine cg_region ?_
      refine lsw (want_none (by rfl)) (y_fld (off := 0) (by kernel_rfl) rfl rfl) rfl (by decide) ?_
      have r1 := RowAt.below hw24 r1.lt r1
      refine lsw (want_none (by rfl)) (y_cellv (v := nv L.kind) r1 rfl (by kernel_rfl) rfl rfl) rfl (by decide) ?_
      by_cases c25 : L.kind < 0
      · refine lsw (want_none (by rfl)) (yb (decide_eq_true c25) (yi_lss rfl rfl rfl)) rfl (by decide) ?_
        refine lsw (want_none (by rfl)) (y_move rfl rfl) rfl (by decide) ?_
        refine lsk (want_f (dj := 19) (by rfl) (by kernel_rfl) rfl) rfl (by decide) ?_
        refine lsk (want_f (dj := 19) (by rfl) (by kernel_rfl) rfl) rfl (by decide) ?_
        refine lsk (want_f (dj := 19) (by rfl) (by kernel_rfl) rfl) rfl (by decide) ?_
        refine lsw (want_none (by rfl)) (y_pick true rfl rfl rfl) rfl (by decide) ?_
        refine lsw (want_none (by rfl)) (y_assign rfl rfl) rfl (by decide) ?_
        refine lg_nil ?_
        refine nx (E' := [(1, _), (2, _), (3, _), (4, _), (15, _)]) (fk rfl (fk rfl (fk rfl (fk rfl (fk rfl fn))))) ?_
        refine cg_ct rfl ?_
        refine cg_seq ?_
        refine cg_region ?_
        refine lsw (want_none (by rfl)) (y_assign rfl rfl) rfl (by decide) ?_
        refine lg_nil ?_
        refine nx (E' := [(2, _)]) (fk rfl fn) ?_
        refine cg_ret ?_
        refine eg_block_ret ?_
        refine eg_seq_ret ?_
        have u := u.trans (n1.below.mono u.size)
        have u := u.trans (hw17.mono u.size)
        have u := u.trans (hw24.mono u.size)
        exact eg_ret_tmp rfl rfl ⟨_, rfl, congrArg nv (show 7 = ndCheck L by simp [ndCheck, c25]), u⟩
      · refine lsw (want_none (by rfl)) (yb (decide_eq_false c25) (yi_lss rfl rfl rfl)) rfl (by decide) ?_
        refine lsw (want_none (by rfl)) (y_move rfl rfl) rfl (by decide) ?_
        refine lsw (want_t (dj := 19) (by rfl) (by kernel_rfl) rfl) (y_fld (off := 0) (by kernel_rfl) rfl rfl) rfl (by decide) ?_
        refine lsw (want_t (dj := 19) (by rfl) (by kernel_rfl) rfl) (y_cellv (v := nv L.kind) r1 rfl (by kernel_rfl) rfl rfl) rfl (by decide) ?_
        by_cases c26 : 2 < L.kind
        · refine lsw (want_t (dj := 19) (by rfl) (by kernel_rfl) rfl) (yb (decide_eq_true c26) (yi_gtr rfl rfl rfl)) rfl (by decide) ?_
          refine lsw (want_none (by rfl)) (y_pick false rfl rfl rfl) rfl (by decide) ?_
          refine lsw (want_none (by rfl)) (y_assign rfl rfl) rfl (by decide) ?_
          refine lg_nil ?_
          refine nx (E' := [(1, _), (2, _), (3, _), (4, _), (15, _)]) (fk rfl (fk rfl (fk rfl (fk rfl (fk rfl fn))))) ?_
          refine cg_ct rfl ?_
          refine cg_seq ?_
          refine cg_region ?_
          refine lsw (want_none (by rfl)) (y_assign rfl rfl) rfl (by decide) ?_
          refine lg_nil ?_
          refine nx (E' := [(2, _)]) (fk rfl fn) ?_
          refine cg_ret ?_
          refine eg_block_ret ?_
          refine eg_seq_ret ?_
          have u := u.trans (n1.below.mono u.size)
          have u := u.trans (hw17.mono u.size)
          have u := u.trans (hw24.mono u.size)
          exact eg_ret_tmp rfl rfl ⟨_, rfl, congrArg nv (show 7 = ndCheck L by simp [ndCheck, c25, c26]), u⟩
        · refine lsw (want_t (dj := 19) (by rfl) (by kernel_rfl) rfl) (yb (decide_eq_false c26) (yi_gtr rfl rfl rfl)) rfl (by decide) ?_
          refine lsw (want_none (by rfl)) (y_pick false rfl rfl rfl) rfl (by decide) ?_
          refine lsw (want_none (by rfl)) (y_assign rfl rfl) rfl (by decide) ?_
          refine lg_nil ?_
          refine nx (E' := [(1, _), (2, _), (3, _), (4, _), (15, _)]) (fk rfl (fk rfl (fk rfl (fk rfl (fk rfl fn))))) ?_
          refine cg_cf rfl ?_
          refine cg_seq ?_
          refine cg_region ?_
          refine lsw (want_none (by rfl)) (y_move rfl rfl) rfl (by decide) ?_
          refine lsw (want_none (by rfl)) (y_move rfl rfl) rfl (by decide) ?_
          refine lsw (want_t (dj := 26) (by rfl) (by kernel_rfl) rfl) (y_fld (off := 0) (by kernel_rfl) rfl rfl) rfl (by decide) ?_
          refine lsw (want_t (dj := 26) (by rfl) (by kernel_rfl) rfl) (y_cellv (v := nv L.kind) r1 rfl (by kernel_rfl) rfl rfl) rfl (by decide) ?_
          by_cases c27 : L.kind = 1
          · refine lsw (want_t (dj := 26) (by rfl) (by kernel_rfl) rfl) (yb (nd_f c27) (yi_neq rfl rfl rfl)) rfl (by decide) ?_
            refine lsw (want_none (by rfl)) (y_pick true rfl rfl rfl) rfl (by decide) ?_
            refine lsw (want_none (by rfl)) (y_move rfl rfl) rfl (by decide) ?_
            refine lsw (want_t (dj := 31) (by rfl) (by kernel_rfl) rfl) (y_move rfl rfl) rfl (by decide) ?_
            refine lsw (want_t (dj := 31) (by rfl) (by kernel_rfl) rfl) (y_move rfl rfl) rfl (by decide) ?_
            refine lsw (want_t (dj := 33) (by rfl) (by kernel_rfl) rfl) (y_fld (off := 0) (by kernel_rfl) rfl rfl) rfl (by decide) ?_
            refine lsw (want_t (dj := 33) (by rfl) (by kernel_rfl) rfl) (y_cellv (v := nv L.kind) r1 rfl (by kernel_rfl) rfl rfl) rfl (by decide) ?_
            refine lsw (want_t (dj := 33) (by rfl) (by kernel_rfl) rfl) (yb (nd_t (show ¬ (L.kind = 2) from (show ¬ (L.kind = 2) by omega))) (yi_neq rfl rfl rfl)) rfl (by decide) ?_
            refine lsw (want_t (dj := 31) (by rfl) (by kernel_rfl) rfl) (y_pick true rfl rfl rfl) rfl (by decide) ?_
            refine lsw (want_none (by rfl)) (y_pick false rfl rfl rfl) rfl (by decide) ?_
            refine lsw (want_none (by rfl)) (y_assign rfl rfl) rfl (by decide) ?_
            refine lg_nil ?_
            refine nx (E' := [(1, _), (2, _), (24, _)]) (fk rfl (fk rfl (fk rfl fn))) ?_
            refine cg_ct rfl ?_
            refine cg_seq ?_
            refine cg_region ?_
            refine lsw (want_none (by rfl)) (y_assign rfl rfl) rfl (by decide) ?_
            refine lg_nil ?_
            refine nx (E' := [(2, _)]) (fk rfl fn) ?_
            refine cg_ret ?_
            refine eg_block_ret ?_
            refine eg_seq_ret ?_
            have u := u.trans (n1.below.mono u.size)
            have u := u.trans (hw17.mono u.size)
            have u := u.trans (hw24.mono u.size)
            exact eg_ret_tmp rfl rfl ⟨_, rfl, congrArg nv (show 2 = ndCheck L by simp [ndCheck, c2, c18, c27]), u⟩
          · refine lsw (want_t (dj := 26) (by rfl) (by kernel_rfl) rfl) (yb (nd_t c27) (yi_neq rfl rfl rfl)) rfl (by decide) ?_
            refine lsw (want_none (by rfl)) (y_pick true rfl rfl rfl) rfl (by decide) ?_
            refine lsw (want_none (by rfl)) (y_move rfl rfl) rfl (by decide) ?_
            refine lsk (want_f (dj := 31) (by rfl) (by kernel_rfl) rfl) rfl (by decide) ?_
            refine lsk (want_f (dj := 31) (by rfl) (by kernel_rfl) rfl) rfl (by decide) ?_
            refine lsk (want_u (dj := 33) (by rfl) (by kernel_rfl) rfl) rfl (by decide) ?_
            refine lsk (want_u (dj := 33) (by rfl) (by kernel_rfl) rfl) rfl (by decide) ?_
            refine lsk (want_u (dj := 33) (by rfl) (by kernel_rfl) rfl) rfl (by decide) ?_
            refine lsk (want_f (dj := 31) (by rfl) (by kernel_rfl) rfl) rfl (by decide) ?_
            refine lsw (want_none (by rfl)) (y_pick true rfl rfl rfl) rfl (by decide) ?_
            refine lsw (want_none (by rfl)) (y_assign rfl rfl) rfl (by decide) ?_
            refine lg_nil ?_
            refine nx (E' := [(1, _), (2, _), (24, _)]) (fk rfl (fk rfl (fk rfl fn))) ?_
            refine cg_ct rfl ?_
            refine cg_seq ?_
            refine cg_region ?_
            refine lsw (want_none (by rfl)) (y_assign rfl rfl) rfl (by decide) ?_
            refine lg_nil ?_
            refine nx (E' := [(2, _)]) (fk rfl fn) ?_
            refine cg_ret ?_
            refine eg_block_ret ?_
            refine eg_seq_ret ?_
            have u := u.trans (n1.below.mono u.size)
            have u := u.trans (hw17.mono u.size)
            have u := u.trans (hw24.mono u.size)
            exact eg_ret_tmp rfl rfl ⟨_, rfl, congrArg nv (show 2 = ndCheck L by simp [ndCheck, c2, c18, c25, c26, c27]), u⟩
theorem rsameN_any {W : World} {B : Nat} {l m : NdV} {L M : Nd} (hl : IsNd W B l L) (hm : IsNd W B m M) (hB : B ≤ W.heap.size) : Calls Tryd.prog 39 #[.agg (l.cs L), .agg (m.cs M)] W fun e W' => ∃ v, e = .returned v ∧ v = .bool (decide (NdSame L M)) ∧ Below W.heap.size W W' := by
  refine calls_cg (n := 24) Tryd.func39 rfl Tryd.ntmps39 (by simp) ?_
  show CG _ _ _ [(0, .agg (l.cs L)), (1, .agg (m.cs M))] _ _
  have u := Below.refl W.heap.size W
  refine cg_seq ?_
  refine cg_region ?_
  refine lg_boxw (want_none (by rfl)) rfl rfl (by kernel_rfl) rfl (by decide) fun b1 w1 n1 => ?_
  have r1 := n1.row
  have k1 := n1.blk
  have z1 := n1.size
  have lt1 : b1 < w1.heap.size := by omega
  refine lg_boxw (want_none (by rfl)) rfl rfl (by kernel_rfl) rfl (by decide) fun b2 w2 n2 => ?_
  have r2 := n2.row
  have k2 := n2.blk
  have z2 := n2.size
  have lt2 : b2 < w2.heap.size := by omega
  refine lsw (want_none (by rfl)) (y_assign rfl rfl) rfl (by decide) ?_
  refine lg_nil ?_
  refine nx (E' := [(2, _), (3, _), (4, _)]) (fk rfl (fk rfl (fk rfl fn))) ?_
  refine cg_seq ?_
  refine cg_region ?_
  refine lsw (want_none (by rfl)) (y_fld (off := 0) (by kernel_rfl) rfl rfl) rfl (by decide) ?_
  have r1 := n2.keep r1
  refine lsw (want_none (by rfl)) (y_cellv (v := nv L.kind) r1 rfl (by kernel_rfl) rfl rfl) rfl (by decide) ?_
  refine lsw (want_none (by rfl)) (y_fld (off := 0) (by kernel_rfl) rfl rfl) rfl (by decide) ?_
  refine lsw (want_none (by rfl)) (y_cellv (v := nv M.kind) r2 rfl (by kernel_rfl) rfl rfl) rfl (by decide) ?_
  by_cases c3 : L.kind = M.kind
  · refine lsw (want_none (by rfl)) (yb (decide_eq_true c3) (yi_eql rfl rfl rfl)) rfl (by decide) ?_
    refine lsw (want_none (by rfl)) (y_move rfl rfl) rfl (by decide) ?_
    refine lsw (want_t (dj := 10) (by rfl) (by kernel_rfl) rfl) (y_fld (off := 1) (by kernel_rfl) rfl rfl) rfl (by decide) ?_
    refine lsw (want_t (dj := 10) (by rfl) (by kernel_rfl) rfl) (y_part r1 (m := 4) rfl (show 1+4 ≤ 8 by decide) (by kernel_rfl) (by kernel_rfl) rfl rfl) rfl (by decide) ?_
    refine lsw (want_t (dj := 10) (by rfl) (by kernel_rfl) rfl) (y_fld (off := 1) (by kernel_rfl) rfl rfl) rfl (by decide) ?_
    refine lsw (want_t (dj := 10) (by rfl) (by kernel_rfl) rfl) (y_part r2 (m := 4) rfl (show 1+4 ≤ 8 by decide) (by kernel_rfl) (by kernel_rfl) rfl rfl) rfl (by decide) ?_
    have hl := hl.below (n1.below.mono (by omega))
    have hl := hl.below (n2.below.mono (by omega))
    have hm := hm.below (n1.below.mono (by omega))
    have hm := hm.below (n2.below.mono (by omega))
    by_cases c4 : LfSame L.leaf M.leaf
    · refine lg_callw (want_t (dj := 10) (by rfl) (by kernel_rfl) rfl) (rsame_any (hl.leaf.more (B' := w2.heap.size) (by omega)) (hm.leaf.more (B' := w2.heap.size) (by omega)) (Nat.le_refl _)) (by kernel_rfl) rfl rfl rfl (by decide) ?_
      rintro u5 w5 ⟨e5, hw5⟩
      have zw5 := hw5.size
      obtain rfl : u5 = .bool true := e5.trans (congrArg Value.bool (decide_eq_true c4))
      refine lsw (want_none (by rfl)) (y_pick true rfl rfl rfl) rfl (by decide) ?_
      refine lsw (want_none (by rfl)) (y_move rfl rfl) rfl (by decide) ?_
      refine lsw (want_t (dj := 17) (by rfl) (by kernel_rfl) rfl) (y_fld (off := 5) (by kernel_rfl) rfl rfl) rfl (by decide) ?_
      have r1 := RowAt.below hw5 r1.lt r1
      refine lsw (want_t (dj := 17) (by rfl) (by kernel_rfl) rfl) (y_part r1 (m := 3) rfl (show 5+3 ≤ 8 by decide) (by kernel_rfl) (by kernel_rfl) rfl rfl) rfl (by decide) ?_
      refine lsw (want_t (dj := 17) (by rfl) (by kernel_rfl) rfl) (y_fld (off := 5) (by kernel_rfl) rfl rfl) rfl (by decide) ?_
      have r2 := RowAt.below hw5 r2.lt r2
      refine lsw (want_t (dj := 17) (by rfl) (by kernel_rfl) rfl) (y_part r2 (m := 3) rfl (show 5+3 ≤ 8 by decide) (by kernel_rfl) (by kernel_rfl) rfl rfl) rfl (by decide) ?_
      have hl := hl.below (hw5.mono (by omega))
      have hm := hm.below (hw5.mono (by omega))
      by_cases c6 : PnSame L.inner M.inner
      · refine lg_callw (want_t (dj := 17) (by rfl) (by kernel_rfl) rfl) (rsameP_any (hl.inner.more (B' := w5.heap.size) (by omega)) (hm.inner.more (B' := w5.heap.size) (by omega)) (Nat.le_refl _)) (by kernel_rfl) rfl rfl rfl (by decide) ?_
        rintro u7 w7 ⟨e7, hw7⟩
        have zw7 := hw7.size
        obtain rfl : u7 = .bool true := e7.trans (congrArg Value.bool (decide_eq_true c6))
        refine lsw (want_none (by rfl)) (y_pick true rfl rfl rfl) rfl (by decide) ?_
        refine lsw (want_none (by rfl)) (y_assign rfl rfl) rfl (by decide) ?_
        refine lg_nil ?_
        refine nx (E' := [(4, _)]) (fk rfl fn) ?_
        refine cg_ret ?_
        have u := u.trans (n1.below.mono u.size)
        have u := u.trans (n2.below.mono u.size)
        have u := u.trans (hw5.mono u.size)
        have u := u.trans (hw7.mono u.size)
        exact eg_ret_tmp rfl rfl ⟨_, rfl, congrArg Value.bool (show true = decide (NdSame L M) from (decide_eq_true (by simp [NdSame, c3, c4, c6])).symm), u⟩
      · refine lg_callw (want_t (dj := 17) (by rfl) (by kernel_rfl) rfl) (rsameP_any (hl.inner.more (B' := w5.heap.size) (by omega)) (hm.inner.more (B' := w5.heap.size) (by omega)) (Nat.le_refl _)) (by kernel_rfl) rfl rfl rfl (by decide) ?_
        rintro u8 w8 ⟨e8, hw8⟩
        have zw8 := hw8.size
        obtain rfl : u8 = .bool false := e8.trans (congrArg Value.bool (decide_eq_false c6))
        refine lsw (want_none (by rfl)) (y_pick true rfl rfl rfl) rfl (by decide) ?_
        refine lsw (want_none (by rfl)) (y_assign rfl rfl) rfl (by decide) ?_
        refine lg_nil ?_
        refine nx (E' := [(4, _)]) (fk rfl fn) ?_
        refine cg_ret ?_
        have u := u.trans (n1.below.mono u.size)
        have u := u.trans (n2.below.mono u.size)
        have u := u.trans (hw5.mono u.size)
        have u := u.trans (hw8.mono u.size)
        exact eg_ret_tmp rfl rfl ⟨_, rfl, congrArg Value.bool (show false = decide (NdSame L M) from (decide_eq_false (by simp [NdSame, c3, c4, c6])).symm), u⟩
    · refine lg_callw (want_t (dj := 10) (by rfl) (by kernel_rfl) rfl) (rsame_any (hl.leaf.more (B' := w2.heap.size) (by omega)) (hm.leaf.more (B' := w2.heap.size) (by omega)) (Nat.le_refl _)) (by kernel_rfl) rfl rfl rfl (by decide) ?_
      rintro u9 w9 ⟨e9, hw9⟩
      have zw9 := hw9.size
      obtain rfl : u9 = .bool false := e9.trans (congrArg Value.bool (decide_eq_false c4))
      refine lsw (want_none (by rfl)) (y_pick true rfl rfl rfl) rfl (by decide) ?_
      refine lsw (want_none (by rfl)) (y_move rfl rfl) rfl (by decide) ?_
      refine lsk (want_f (dj := 17) (by rfl) (by kernel_rfl) rfl) rfl (by decide) ?_
      refine lsk (want_f (dj := 17) (by rfl) (by kernel_rfl) rfl) rfl (by decide) ?_
      refine lsk (want_f (dj := 17) (by rfl) (by kernel_rfl) rfl) rfl (by decide) ?_
      refine lsk (want_f (dj := 17) (by rfl) (by kernel_rfl) rfl) rfl (by decide) ?_
      refine lsk (want_f (dj := 17) (by rfl) (by kernel_rfl) rfl) rfl (by decide) ?_
      refine lsw (want_none (by rfl)) (y_pick false rfl rfl rfl) rfl (by decide) ?_
      refine lsw (want_none (by rfl)) (y_assign rfl rfl) rfl (by decide) ?_
      refine lg_nil ?_
      refine nx (E' := [(4, _)]) (fk rfl fn) ?_
      refine cg_ret ?_
      have u := u.trans (n1.below.mono u.size)
      have u := u.trans (n2.below.mono u.size)
      have u := u.trans (hw9.mono u.size)
      exact eg_ret_tmp rfl rfl ⟨_, rfl, congrArg Value.bool (show false = decide (NdSame L M) from (decide_eq_false (by simp [NdSame, c3, c4])).symm), u⟩
  · refine lsw (want_none (by rfl)) (yb (decide_eq_false c3) (yi_eql rfl rfl rfl)) rfl (by decide) ?_
    refine lsw (want_none (by rfl)) (y_move rfl rfl) rfl (by decide) ?_
    refine lsk (want_f (dj := 10) (by rfl) (by kernel_rfl) rfl) rfl (by decide) ?_
    refine lsk (want_f (dj := 10) (by rfl) (by kernel_rfl) rfl) rfl (by decide) ?_
    refine lsk (want_f (dj := 10) (by rfl) (by kernel_rfl) rfl) rfl (by decide) ?_
    refine lsk (want_f (dj := 10) (by rfl) (by kernel_rfl) rfl) rfl (by decide) ?_
    refine lsk (want_f (dj := 10) (by rfl) (by kernel_rfl) rfl) rfl (by decide) ?_
    refine lsw (want_none (by rfl)) (y_pick false rfl rfl rfl) rfl (by decide) ?_
    refine lsw (want_none (by rfl)) (y_move rfl rfl) rfl (by decide) ?_
    refine lsk (want_f (dj := 17) (by rfl) (by kernel_rfl) rfl) rfl (by decide) ?_
    refine lsk (want_f (dj := 17) (by rfl) (by kernel_rfl) rfl) rfl (by decide) ?_
    refine lsk (want_f (dj := 17) (by rfl) (by kernel_rfl) rfl) rfl (by decide) ?_
    refine lsk (want_f (dj := 17) (by rfl) (by kernel_rfl) rfl) rfl (by decide) ?_
    refine lsk (want_f (dj := 17) (by rfl) (by kernel_rfl) rfl) rfl (by decide) ?_
    refine lsw (want_none (by rfl)) (y_pick false rfl rfl rfl) rfl (by decide) ?_
    refine lsw (want_none (by rfl)) (y_assign rfl rfl) rfl (by decide) ?_
    refine lg_nil ?_
    refine nx (E' := [(4, _)]) (fk rfl fn) ?_
    refine cg_ret ?_
    have u := u.trans (n1.below.mono u.size)
    have u := u.trans (n2.below.mono u.size)
    exact eg_ret_tmp rfl rfl ⟨_, rfl, congrArg Value.bool (show false = decide (NdSame L M) from (decide_eq_false (by simp [NdSame, c3])).symm), u⟩
end
end Go.Proofs.YtpoonjgkgaodmaaDoor
