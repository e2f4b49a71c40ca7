/-
  node.Check, node.Same, and the methods that put and get.
-/
import Derived.Test.YtpoonjgkgaodmaaDoorNdBase
import Derived.Test.YtpoonjgkgaodmaaDoorLfGet
import Derived.Test.YtpoonjgkgaodmaaDoorLfPut
import Derived.Test.YtpoonjgkgaodmaaDoorPnProg
namespace Go.Proofs.YtpoonjgkgaodmaaDoor
open Go.ChangeShapes Go.WideShapes Go.ChangeAt Go.RowKit
set_option linter.unusedVariables false

section
set_option maxHeartbeats 1000000
theorem checkN_any {W : World} {B : Nat} {l : NdV} {L : Nd} (hl : IsNd W B l L) (hB : B ≤ W.heap.size) : Calls Tryd.prog 29 #[.agg (l.cs L)] W fun e W' => ∃ v, e = .returned v ∧ v = nv (ndCheck L) ∧ Below W.heap.size W W' := by
  refine calls_cg (n := 48) Tryd.func29 rfl Tryd.ntmps29 (by simp) ?_
  show CG _ _ _ [(0, .agg (l.cs L))] _ _
  have u := Below.refl W.heap.size W
  refine cg_seq ?_
  refine cg_region ?_
  refine lg_boxw (want_none (by rfl)) rfl rfl (by kernel_rfl) rfl (by decide) fun b1 w1 n1 => ?_
  have r1 := n1.row
  have k1 := n1.blk
  have z1 := n1.size
  have lt1 : b1 < w1.heap.size := by omega
  refine lsw (want_none (by rfl)) (y_assign rfl rfl) rfl (by decide) ?_
  refine lg_nil ?_
  refine nx (E' := [(1, _), (2, _)]) (fk rfl (fk rfl fn)) ?_
  refine cg_seq ?_
  refine cg_block ?_
  refine cg_seq ?_
  refine cg_region ?_
  refine lsw (want_none (by rfl)) (y_fld (off := 0) (by kernel_rfl) rfl rfl) rfl (by decide) ?_
  refine lsw (want_none (by rfl)) (y_cellv (v := nv L.kind) r1 rfl (by kernel_rfl) rfl rfl) rfl (by decide) ?_
  by_cases c2 : L.kind < 0
  · refine lsw (want_none (by rfl)) (yb (decide_eq_true c2) (yi_lss rfl rfl rfl)) rfl (by decide) ?_
    refine lsw (want_none (by rfl)) (y_move rfl rfl) rfl (by decide) ?_
    refine lsk (want_f (dj := 7) (by rfl) (by kernel_rfl) rfl) rfl (by decide) ?_
    refine lsk (want_f (dj := 7) (by rfl) (by kernel_rfl) rfl) rfl (by decide) ?_
    refine lsk (want_f (dj := 7) (by rfl) (by kernel_rfl) rfl) rfl (by decide) ?_
    refine lsw (want_none (by rfl)) (y_pick true rfl rfl rfl) rfl (by decide) ?_
    refine lsw (want_none (by rfl)) (y_assign rfl rfl) rfl (by decide) ?_
    refine lg_nil ?_
    refine nx (E' := [(1, _), (2, _), (3, _)]) (fk rfl (fk rfl (fk rfl fn))) ?_
    refine cg_ct rfl ?_
    refine cg_seq ?_
    refine cg_region ?_
    refine lsw (want_none (by rfl)) (y_assign rfl rfl) rfl (by decide) ?_
    refine lg_nil ?_
    refine nx (E' := [(2, _)]) (fk rfl fn) ?_
    refine cg_ret ?_
    refine eg_block_ret ?_
    refine eg_seq_ret ?_
    have u := u.trans (n1.below.mono u.size)
    exact eg_ret_tmp rfl rfl ⟨_, rfl, congrArg nv (show 7 = ndCheck L by simp [ndCheck, c2]), u⟩
  · refine lsw (want_none (by rfl)) (yb (decide_eq_false c2) (yi_lss rfl rfl rfl)) rfl (by decide) ?_
    refine lsw (want_none (by rfl)) (y_move rfl rfl) rfl (by decide) ?_
    refine lsw (want_t (dj := 7) (by rfl) (by kernel_rfl) rfl) (y_fld (off := 0) (by kernel_rfl) rfl rfl) rfl (by decide) ?_
    refine lsw (want_t (dj := 7) (by rfl) (by kernel_rfl) rfl) (y_cellv (v := nv L.kind) r1 rfl (by kernel_rfl) rfl rfl) rfl (by decide) ?_
    by_cases c3 : 2 < L.kind
    · refine lsw (want_t (dj := 7) (by rfl) (by kernel_rfl) rfl) (yb (decide_eq_true c3) (yi_gtr rfl rfl rfl)) rfl (by decide) ?_
      refine lsw (want_none (by rfl)) (y_pick false rfl rfl rfl) rfl (by decide) ?_
      refine lsw (want_none (by rfl)) (y_assign rfl rfl) rfl (by decide) ?_
      refine lg_nil ?_
      refine nx (E' := [(1, _), (2, _), (3, _)]) (fk rfl (fk rfl (fk rfl fn))) ?_
      refine cg_ct rfl ?_
      refine cg_seq ?_
      refine cg_region ?_
      refine lsw (want_none (by rfl)) (y_assign rfl rfl) rfl (by decide) ?_
      refine lg_nil ?_
      refine nx (E' := [(2, _)]) (fk rfl fn) ?_
      refine cg_ret ?_
      refine eg_block_ret ?_
      refine eg_seq_ret ?_
      have u := u.trans (n1.below.mono u.size)
      exact eg_ret_tmp rfl rfl ⟨_, rfl, congrArg nv (show 7 = ndCheck L by simp [ndCheck, c2, c3]), u⟩
    · refine lsw (want_t (dj := 7) (by rfl) (by kernel_rfl) rfl) (yb (decide_eq_false c3) (yi_gtr rfl rfl rfl)) rfl (by decide) ?_
      refine lsw (want_none (by rfl)) (y_pick false rfl rfl rfl) rfl (by decide) ?_
      refine lsw (want_none (by rfl)) (y_assign rfl rfl) rfl (by decide) ?_
      refine lg_nil ?_
      refine nx (E' := [(1, _), (2, _), (3, _)]) (fk rfl (fk rfl (fk rfl fn))) ?_
      refine cg_cf rfl ?_
      refine cg_seq ?_
      refine cg_region ?_
      refine lsw (want_none (by rfl)) (y_fld (off := 0) (by kernel_rfl) rfl rfl) rfl (by decide) ?_
      refine lsw (want_none (by rfl)) (y_cellv (v := nv L.kind) r1 rfl (by kernel_rfl) rfl rfl) rfl (by decide) ?_
      by_cases c4 : L.kind = 1
      · refine lsw (want_none (by rfl)) (yb (nd_f c4) (yi_neq rfl rfl rfl)) rfl (by decide) ?_
        refine lsw (want_none (by rfl)) (y_move rfl rfl) rfl (by decide) ?_
        refine lsk (want_f (dj := 16) (by rfl) (by kernel_rfl) rfl) rfl (by decide) ?_
        refine lsk (want_f (dj := 16) (by rfl) (by kernel_rfl) rfl) rfl (by decide) ?_
        refine lsk (want_f (dj := 16) (by rfl) (by kernel_rfl) rfl) rfl (by decide) ?_
        refine lsk (want_f (dj := 16) (by rfl) (by kernel_rfl) rfl) rfl (by decide) ?_
        refine lsk (want_f (dj := 16) (by rfl) (by kernel_rfl) rfl) rfl (by decide) ?_
        refine lsw (want_none (by rfl)) (y_pick false rfl rfl rfl) rfl (by decide) ?_
        refine lsw (want_none (by rfl)) (y_assign rfl rfl) rfl (by decide) ?_
        refine lg_nil ?_
        refine nx (E' := [(1, _), (2, _), (12, _)]) (fk rfl (fk rfl (fk rfl fn))) ?_
        refine cg_cf rfl ?_
        refine cg_seq ?_
        refine cg_region ?_
        refine lsw (want_none (by rfl)) (y_fld (off := 0) (by kernel_rfl) rfl rfl) rfl (by decide) ?_
        refine lsw (want_none (by rfl)) (y_cellv (v := nv L.kind) r1 rfl (by kernel_rfl) rfl rfl) rfl (by decide) ?_
        refine lsw (want_none (by rfl)) (yb (nd_t (show ¬ (L.kind = 2) from (show ¬ (L.kind = 2) by omega))) (yi_neq rfl rfl rfl)) rfl (by decide) ?_
        refine lsw (want_none (by rfl)) (y_move rfl rfl) rfl (by decide) ?_
        refine lsw (want_t (dj := 27) (by rfl) (by kernel_rfl) rfl) (y_fld (off := 5) (by kernel_rfl) rfl rfl) rfl (by decide) ?_
        refine lsw (want_t (dj := 27) (by rfl) (by kernel_rfl) rfl) (y_part r1 (m := 3) rfl (show 5+3 ≤ 8 by decide) (by kernel_rfl) (by kernel_rfl) rfl rfl) rfl (by decide) ?_
        refine lsw (want_t (dj := 27) (by rfl) (by kernel_rfl) rfl) (y_build (cs := PnV.zero.cs Pn.zero) rfl rfl (by kernel_rfl)) rfl (by decide) ?_
        have hl := hl.below (n1.below.mono (by omega))
        by_cases c5 : PnSame L.inner Pn.zero
        · refine lg_callw (want_t (dj := 27) (by rfl) (by kernel_rfl) rfl) (sameP_any (hl.inner.more (B' := w1.heap.size) (by omega)) ((IsPn.zero _ 0).more (B' := w1.heap.size) (by omega)) (Nat.le_refl _)) (by kernel_rfl) rfl rfl rfl (by decide) ?_
          rintro u6 w6 ⟨e6, hw6⟩
          have zw6 := hw6.size
          obtain rfl : u6 = .bool true := e6.trans (congrArg Value.bool (decide_eq_true c5))
          refine lsw (want_t (dj := 27) (by rfl) (by kernel_rfl) rfl) (y_bnot rfl rfl) rfl (by decide) ?_
          refine lsw (want_none (by rfl)) (y_pick true rfl rfl rfl) rfl (by decide) ?_
          refine lsw (want_none (by rfl)) (y_assign rfl rfl) rfl (by decide) ?_
          refine lg_nil ?_
          refine nx (E' := [(1, _), (2, _), (23, _)]) (fk rfl (fk rfl (fk rfl fn))) ?_
          refine cg_cf rfl ?_
          refine cg_seq ?_
          refine cg_region ?_
          refine lsw (want_none (by rfl)) (y_fld (off := 0) (by kernel_rfl) rfl rfl) rfl (by decide) ?_
          have r1 := RowAt.below hw6 r1.lt r1
          refine lsw (want_none (by rfl)) (y_cellv (v := nv L.kind) r1 rfl (by kernel_rfl) rfl rfl) rfl (by decide) ?_
          refine lsw (want_none (by rfl)) (yb (decide_eq_true c4) (yi_eql rfl rfl rfl)) rfl (by decide) ?_
          refine lsw (want_none (by rfl)) (y_assign rfl rfl) rfl (by decide) ?_
          refine lg_nil ?_
          refine nx (E' := [(1, _), (2, _), (34, _)]) (fk rfl (fk rfl (fk rfl fn))) ?_
          refine cg_ct rfl ?_
          refine cg_seq ?_
          refine cg_region ?_
          refine lsw (want_none (by rfl)) (y_fld (off := 1) (by kernel_rfl) rfl rfl) rfl (by decide) ?_
          refine lsw (want_none (by rfl)) (y_part r1 (m := 4) rfl (show 1+4 ≤ 8 by decide) (by kernel_rfl) (by kernel_rfl) rfl rfl) rfl (by decide) ?_
          have hl := hl.below (hw6.mono (by omega))
          refine lg_callw (want_none (by rfl)) (check_any (hl.leaf.more (B' := w6.heap.size) (by omega)) (Nat.le_refl _)) (by kernel_rfl) rfl rfl rfl (by decide) ?_
          rintro _ w7 ⟨rfl, hw7⟩
          have zw7 := hw7.size
          refine lsw (want_none (by rfl)) (y_assign rfl rfl) rfl (by decide) ?_
          refine lg_nil ?_
          refine nx (E' := [(2, _)]) (fk rfl fn) ?_
          refine cg_ret ?_
          refine eg_block_ret ?_
          refine eg_seq_ret ?_
          have u := u.trans (n1.below.mono u.size)
          have u := u.trans (hw6.mono u.size)
          have u := u.trans (hw7.mono u.size)
          exact eg_ret_tmp rfl rfl ⟨_, rfl, congrArg nv (show (lfCheck L.leaf) = ndCheck L by simp [ndCheck, c4, c5]), u⟩
        · refine lg_callw (want_t (dj := 27) (by rfl) (by kernel_rfl) rfl) (sameP_any (hl.inner.more (B' := w1.heap.size) (by omega)) ((IsPn.zero _ 0).more (B' := w1.heap.size) (by omega)) (Nat.le_refl _)) (by kernel_rfl) rfl rfl rfl (by decide) ?_
          rintro u8 w8 ⟨e8, hw8⟩
          have zw8 := hw8.size
          obtain rfl : u8 = .bool false := e8.trans (congrArg Value.bool (decide_eq_false c5))
          refine lsw (want_t (dj := 27) (by rfl) (by kernel_rfl) rfl) (y_bnot rfl rfl) rfl (by decide) ?_
          refine lsw (want_none (by rfl)) (y_pick true rfl rfl rfl) rfl (by decide) ?_
          refine lsw (want_none (by rfl)) (y_assign rfl rfl) rfl (by decide) ?_
          refine lg_nil ?_
          refine nx (E' := [(1, _), (2, _), (23, _)]) (fk rfl (fk rfl (fk rfl fn))) ?_
          refine cg_ct rfl ?_
          refine cg_seq ?_
          refine cg_region ?_
          refine lsw (want_none (by rfl)) (y_assign rfl rfl) rfl (by decide) ?_
          refine lg_nil ?_
          refine nx (E' := [(2, _)]) (fk rfl fn) ?_
          refine cg_ret ?_
          refine eg_block_ret ?_
          refine eg_seq_ret ?_
          have u := u.trans (n1.below.mono u.size)
          have u := u.trans (hw8.mono u.size)
          exact eg_ret_tmp rfl rfl ⟨_, rfl, congrArg nv (show 2 = ndCheck L by simp [ndCheck, c4, c5]), u⟩
      · refine lsw (want_none (by rfl)) (yb (nd_t c4) (yi_neq rfl rfl rfl)) rfl (by decide) ?_
        refine lsw (want_none (by rfl)) (y_move rfl rfl) rfl (by decide) ?_
        refine lsw (want_t (dj := 16) (by rfl) (by kernel_rfl) rfl) (y_fld (off := 1) (by kernel_rfl) rfl rfl) rfl (by decide) ?_
        refine lsw (want_t (dj := 16) (by rfl) (by kernel_rfl) rfl) (y_part r1 (m := 4) rfl (show 1+4 ≤ 8 by decide) (by kernel_rfl) (by kernel_rfl) rfl rfl) rfl (by decide) ?_
        refine lsw (want_t (dj := 16) (by rfl) (by kernel_rfl) rfl) (y_build (cs := LfV.zero.cs Lf.zero) rfl rfl (by kernel_rfl)) rfl (by decide) ?_
        have hl := hl.below (n1.below.mono (by omega))
        by_cases c9 : LfSame L.leaf Lf.zero
        · refine lg_callw (want_t (dj := 16) (by rfl) (by kernel_rfl) rfl) (same_any (hl.leaf.more (B' := w1.heap.size) (by omega)) ((IsLf.zero _ 0).more (B' := w1.heap.size) (by omega)) (Nat.le_refl _)) (by kernel_rfl) rfl rfl rfl (by decide) ?_
          rintro u10 w10 ⟨e10, hw10⟩
          have zw10 := hw10.size
          obtain rfl : u10 = .bool true := e10.trans (congrArg Value.bool (decide_eq_true c9))
          refine lsw (want_t (dj := 16) (by rfl) (by kernel_rfl) rfl) (y_bnot rfl rfl) rfl (by decide) ?_
          refine lsw (want_none (by rfl)) (y_pick true rfl rfl rfl) rfl (by decide) ?_
          refine lsw (want_none (by rfl)) (y_assign rfl rfl) rfl (by decide) ?_
          refine lg_nil ?_
          refine nx (E' := [(1, _), (2, _), (12, _)]) (fk rfl (fk rfl (fk rfl fn))) ?_
          refine cg_cf rfl ?_
          refine cg_seq ?_
          refine cg_region ?_
          refine lsw (want_none (by rfl)) (y_fld (off := 0) (by kernel_rfl) rfl rfl) rfl (by decide) ?_
          have r1 := RowAt.below hw10 r1.lt r1
          refine lsw (want_none (by rfl)) (y_cellv (v := nv L.kind) r1 rfl (by kernel_rfl) rfl rfl) rfl (by decide) ?_
          by_cases c11 : L.kind = 2
          · refine lsw (want_none (by rfl)) (yb (nd_f c11) (yi_neq rfl rfl rfl)) rfl (by decide) ?_
            refine lsw (want_none (by rfl)) (y_move rfl rfl) rfl (by decide) ?_
            refine lsk (want_f (dj := 27) (by rfl) (by kernel_rfl) rfl) rfl (by decide) ?_
            refine lsk (want_f (dj := 27) (by rfl) (by kernel_rfl) rfl) rfl (by decide) ?_
            refine lsk (want_f (dj := 27) (by rfl) (by kernel_rfl) rfl) rfl (by decide) ?_
            refine lsk (want_f (dj := 27) (by rfl) (by kernel_rfl) rfl) rfl (by decide) ?_
            refine lsk (want_f (dj := 27) (by rfl) (by kernel_rfl) rfl) rfl (by decide) ?_
            refine lsw (want_none (by rfl)) (y_pick false rfl rfl rfl) rfl (by decide) ?_
            refine lsw (want_none (by rfl)) (y_assign rfl rfl) rfl (by decide) ?_
            refine lg_nil ?_
            refine nx (E' := [(1, _), (2, _), (23, _)]) (fk rfl (fk rfl (fk rfl fn))) ?_
            refine cg_cf rfl ?_
            refine cg_seq ?_
            refine cg_region ?_
            refine lsw (want_none (by rfl)) (y_fld (off := 0) (by kernel_rfl) rfl rfl) rfl (by decide) ?_
            refine lsw (want_none (by rfl)) (y_cellv (v := nv L.kind) r1 rfl (by kernel_rfl) rfl rfl) rfl (by decide) ?_
            refine lsw (want_none (by rfl)) (yb (decide_eq_false c4) (yi_eql rfl rfl rfl)) rfl (by decide) ?_
            refine lsw (want_none (by rfl)) (y_assign rfl rfl) rfl (by decide) ?_
            refine lg_nil ?_
            refine nx (E' := [(1, _), (2, _), (34, _)]) (fk rfl (fk rfl (fk rfl fn))) ?_
            refine cg_cf rfl ?_
            refine cg_seq ?_
            refine cg_region ?_
            refine lsw (want_none (by rfl)) (y_fld (off := 0) (by kernel_rfl) rfl rfl) rfl (by decide) ?_
            refine lsw (want_none (by rfl)) (y_cellv (v := nv L.kind) r1 rfl (by kernel_rfl) rfl rfl) rfl (by decide) ?_
            refine lsw (want_none (by rfl)) (yb (decide_eq_true c11) (yi_eql rfl rfl rfl)) rfl (by decide) ?_
            refine lsw (want_none (by rfl)) (y_assign rfl rfl) rfl (by decide) ?_
            refine lg_nil ?_
            refine nx (E' := [(1, _), (2, _), (41, _)]) (fk rfl (fk rfl (fk rfl fn))) ?_
            refine cg_ct rfl ?_
            refine cg_seq ?_
            refine cg_region ?_
            refine lsw (want_none (by rfl)) (y_fld (off := 5) (by kernel_rfl) rfl rfl) rfl (by decide) ?_
            refine lsw (want_none (by rfl)) (y_part r1 (m := 3) rfl (show 5+3 ≤ 8 by decide) (by kernel_rfl) (by kernel_rfl) rfl rfl) rfl (by decide) ?_
            have hl := hl.below (hw10.mono (by omega))
            refine lg_callw (want_none (by rfl)) (checkP_any (hl.inner.more (B' := w10.heap.size) (by omega)) (Nat.le_refl _)) (by kernel_rfl) rfl rfl rfl (by decide) ?_
            rintro _ w12 ⟨rfl, hw12⟩
            have zw12 := hw12.size
            refine lsw (want_none (by rfl)) (y_assign rfl rfl) rfl (by decide) ?_
            refine lg_nil ?_
            refine nx (E' := [(2, _)]) (fk rfl fn) ?_
            refine cg_ret ?_
            refine eg_block_ret ?_
            refine eg_seq_ret ?_
            have u := u.trans (n1.below.mono u.size)
            have u := u.trans (hw10.mono u.size)
            have u := u.trans (hw12.mono u.size)
            exact eg_ret_tmp rfl rfl ⟨_, rfl, congrArg nv (show (pnCheck L.inner) = ndCheck L by simp [ndCheck, c9, c11]), u⟩
          · refine lsw (want_none (by rfl)) (yb (nd_t c11) (yi_neq rfl rfl rfl)) rfl (by decide) ?_
            refine lsw (want_none (by rfl)) (y_move rfl rfl) rfl (by decide) ?_
            refine lsw (want_t (dj := 27) (by rfl) (by kernel_rfl) rfl) (y_fld (off := 5) (by kernel_rfl) rfl rfl) rfl (by decide) ?_
            refine lsw (want_t (dj := 27) (by rfl) (by kernel_rfl) rfl) (y_part r1 (m := 3) rfl (show 5+3 ≤ 8 by decide) (by kernel_rfl) (by kernel_rfl) rfl rfl) rfl (by decide) ?_
            refine lsw (want_t (dj := 27) (by rfl) (by kernel_rfl) rfl) (y_build (cs := PnV.zero.cs Pn.zero) rfl rfl (by kernel_rfl)) rfl (by decide) ?_
            have hl := hl.below (hw10.mono (by omega))
            by_cases c13 : PnSame L.inner Pn.zero
            · refine lg_callw (want_t (dj := 27) (by rfl) (by kernel_rfl) rfl) (sameP_any (hl.inner.more (B' := w10.heap.size) (by omega)) ((IsPn.zero _ 0).more (B' := w10.heap.size) (by omega)) (Nat.le_refl _)) (by kernel_rfl) rfl rfl rfl (by decide) ?_
              rintro u14 w14 ⟨e14, hw14⟩
              have zw14 := hw14.size
              obtain rfl : u14 = .bool true := e14.trans (congrArg Value.bool (decide_eq_true c13))
              refine lsw (want_t (dj := 27) (by rfl) (by kernel_rfl) rfl) (y_bnot rfl rfl) rfl (by decide) ?_
              refine lsw (want_none (by rfl)) (y_pick true rfl rfl rfl) rfl (by decide) ?_
              refine lsw (want_none (by rfl)) (y_assign rfl rfl) rfl (by decide) ?_
              refine lg_nil ?_
              refine nx (E' := [(1, _), (2, _), (23, _)]) (fk rfl (fk rfl (fk rfl fn))) ?_
              refine cg_cf rfl ?_
              refine cg_seq ?_
              refine cg_region ?_
              refine lsw (want_none (by rfl)) (y_fld (off := 0) (by kernel_rfl) rfl rfl) rfl (by decide) ?_
              have r1 := RowAt.below hw14 r1.lt r1
              refine lsw (want_none (by rfl)) (y_cellv (v := nv L.kind) r1 rfl (by kernel_rfl) rfl rfl) rfl (by decide) ?_
              refine lsw (want_none (by rfl)) (yb (decide_eq_false c4) (yi_eql rfl rfl rfl)) rfl (by decide) ?_
              refine lsw (want_none (by rfl)) (y_assign rfl rfl) rfl (by decide) ?_
              refine lg_nil ?_
              refine nx (E' := [(1, _), (2, _), (34, _)]) (fk rfl (fk rfl (fk rfl fn))) ?_
              refine cg_cf rfl ?_
              refine cg_seq ?_
              refine cg_region ?_
              refine lsw (want_none (by rfl)) (y_fld (off := 0) (by kernel_rfl) rfl rfl) rfl (by decide) ?_
              refine lsw (want_none (by rfl)) (y_cellv (v := nv L.kind) r1 rfl (by kernel_rfl) rfl rfl) rfl (by decide) ?_
              refine lsw (want_none (by rfl)) (yb (decide_eq_false c11) (yi_eql rfl rfl rfl)) rfl (by decide) ?_
              refine lsw (want_none (by rfl)) (y_assign rfl rfl) rfl (by decide) ?_
              refine lg_nil ?_
              refine nx (E' := [(1, _), (2, _), (41, _)]) (fk rfl (fk rfl (fk rfl fn))) ?_
              refine cg_cf rfl ?_
              refine cg_skip ?_
              refine eg_block_norm ?_
              refine nx (E' := [(2, _)]) (fk rfl fn) ?_
              refine cg_seq ?_
              refine cg_region ?_
              refine lsw (want_none (by rfl)) (y_assign rfl rfl) rfl (by decide) ?_
              refine lg_nil ?_
              refine nx (E' := [(2, _)]) (fk rfl fn) ?_
              refine cg_ret ?_
              have u := u.trans (n1.below.mono u.size)
              have u := u.trans (hw10.mono u.size)
              have u := u.trans (hw14.mono u.size)
              exact eg_ret_tmp rfl rfl ⟨_, rfl, congrArg nv (show 0 = ndCheck L by simp [ndCheck, c2, c3, c4, c9, c11, c13]), u⟩
            · refine lg_callw (want_t (dj := 27) (by rfl) (by kernel_rfl) rfl) (sameP_any (hl.inner.more (B' := w10.heap.size) (by omega)) ((IsPn.zero _ 0).more (B' := w10.heap.size) (by omega)) (Nat.le_refl _)) (by kernel_rfl) rfl rfl rfl (by decide) ?_
              rintro u15 w15 ⟨e15, hw15⟩
              have zw15 := hw15.size
              obtain rfl : u15 = .bool false := e15.trans (congrArg Value.bool (decide_eq_false c13))
              refine lsw (want_t (dj := 27) (by rfl) (by kernel_rfl) rfl) (y_bnot rfl rfl) rfl (by decide) ?_
              refine lsw (want_none (by rfl)) (y_pick true rfl rfl rfl) rfl (by decide) ?_
              refine lsw (want_none (by rfl)) (y_assign rfl rfl) rfl (by decide) ?_
              refine lg_nil ?_
              refine nx (E' := [(1, _), (2, _), (23, _)]) (fk rfl (fk rfl (fk rfl fn))) ?_
              refine cg_ct rfl ?_
              refine cg_seq ?_
              refine cg_region ?_
              refine lsw (want_none (by rfl)) (y_assign rfl rfl) rfl (by decide) ?_
              refine lg_nil ?_
              refine nx (E' := [(2, _)]) (fk rfl fn) ?_
              refine cg_ret ?_
              refine eg_block_ret ?_
              refine eg_seq_ret ?_
              have u := u.trans (n1.below.mono u.size)
              have u := u.trans (hw10.mono u.size)
              have u := u.trans (hw15.mono u.size)
              exact eg_ret_tmp rfl rfl ⟨_, rfl, congrArg nv (show 2 = ndCheck L by simp [ndCheck, c2, c3, c4, c9, c11, c13]), u⟩
        · refine lg_callw (want_t (dj := 16) (by rfl) (by kernel_rfl) rfl) (same_any (hl.leaf.more (B' := w1.heap.size) (by omega)) ((IsLf.zero _ 0).more (B' := w1.heap.size) (by omega)) (Nat.le_refl _)) (by kernel_rfl) rfl rfl rfl (by decide) ?_
          rintro u16 w16 ⟨e16, hw16⟩
          have zw16 := hw16.size
          obtain rfl : u16 = .bool false := e16.trans (congrArg Value.bool (decide_eq_false c9))
          refine lsw (want_t (dj := 16) (by rfl) (by kernel_rfl) rfl) (y_bnot rfl rfl) rfl (by decide) ?_
          refine lsw (want_none (by rfl)) (y_pick true rfl rfl rfl) rfl (by decide) ?_
          refine lsw (want_none (by rfl)) (y_assign rfl rfl) rfl (by decide) ?_
          refine lg_nil ?_
          refine nx (E' := [(1, _), (2, _), (12, _)]) (fk rfl (fk rfl (fk rfl fn))) ?_
          refine cg_ct rfl ?_
          refine cg_seq ?_
          refine cg_region ?_
          refine lsw (want_none (by rfl)) (y_assign rfl rfl) rfl (by decide) ?_
          refine lg_nil ?_
          refine nx (E' := [(2, _)]) (fk rfl fn) ?_
          refine cg_ret ?_
          refine eg_block_ret ?_
          refine eg_seq_ret ?_
          have u := u.trans (n1.below.mono u.size)
          have u := u.trans (hw16.mono u.size)
          exact eg_ret_tmp rfl rfl ⟨_, rfl, congrArg nv (show 2 = ndCheck L by simp [ndCheck, c2, c3, c4, c9]), u⟩
end
end Go.Proofs.YtpoonjgkgaodmaaDoor
