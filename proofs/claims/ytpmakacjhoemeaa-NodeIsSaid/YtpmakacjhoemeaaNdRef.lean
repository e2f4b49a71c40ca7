/-
  The document's Few, Check, As, Put, Get, Same, and what is summed up.
-/
import Derived.Test.YtpmakacjhoemeaaNdPut
import Derived.Test.YtpmakacjhoemeaaLfRefG
import Derived.Test.YtpmakacjhoemeaaPnRef
namespace Go.Proofs.Ytpmakacjhoemeaa
open Go.ChangeShapes Go.WideShapes Go.ChangeAt Go.RowKit
set_option linter.unusedVariables false

section
set_option maxHeartbeats 1000000
theorem fewN_any {W : World} {B : Nat} {l : NdV} {L : Nd} (hl : IsNd W B l L) (hB : B ≤ W.heap.size) : Calls Try.prog 10 #[.agg (l.cs L)] W fun e W' => ∃ v, e = .returned v ∧ v = .bool (decide (ndFew L)) ∧ Below W.heap.size W W' := by
  refine calls_cg (n := 11) Try.func10 rfl Try.ntmps10 (by simp) ?_
  show CG _ _ _ [(0, .agg (l.cs L))] _ _
  have u := Below.refl W.heap.size W
  refine cg_seq ?_
  refine cg_region ?_
  refine lg_boxw (want_none (by rfl)) rfl rfl (by kernel_rfl) rfl (by decide) fun b1 w1 n1 => ?_
  have r1 := n1.row
  have k1 := n1.blk
  have z1 := n1.size
  have lt1 : b1 < w1.heap.size := by omega
  refine lsw (want_none (by rfl)) (y_assign rfl rfl) rfl (by decide) ?_
  refine lg_nil ?_
  refine nx (E' := [(1, _), (2, _)]) (fk rfl (fk rfl fn)) ?_
  refine cg_seq ?_
  refine cg_region ?_
  refine lsw (want_none (by rfl)) (y_fld (off := 1) (by kernel_rfl) rfl rfl) rfl (by decide) ?_
  refine lsw (want_none (by rfl)) (y_part r1 (m := 4) rfl (show 1+4 ≤ 8 by decide) (by kernel_rfl) (by kernel_rfl) rfl rfl) rfl (by decide) ?_
  have hl := hl.below (n1.below.mono (by omega))
  by_cases c2 : lfFew L.leaf
  · refine lg_callw (want_none (by rfl)) (few_any (hl.leaf.more (B' := w1.heap.size) (by omega)) (Nat.le_refl _)) (by kernel_rfl) rfl rfl rfl (by decide) ?_
    rintro u3 w3 ⟨e3, hw3⟩
    have zw3 := hw3.size
    obtain rfl : u3 = .bool true := e3.trans (congrArg Value.bool (decide_eq_true c2))
    refine lsw (want_none (by rfl)) (y_move rfl rfl) rfl (by decide) ?_
    refine lsw (want_t (dj := 6) (by rfl) (by kernel_rfl) rfl) (y_fld (off := 5) (by kernel_rfl) rfl rfl) rfl (by decide) ?_
    have r1 := RowAt.below hw3 r1.lt r1
    refine lsw (want_t (dj := 6) (by rfl) (by kernel_rfl) rfl) (y_part r1 (m := 3) rfl (show 5+3 ≤ 8 by decide) (by kernel_rfl) (by kernel_rfl) rfl rfl) rfl (by decide) ?_
    have hl := hl.below (hw3.mono (by omega))
    by_cases c4 : pnFew L.inner
    · refine lg_callw (want_t (dj := 6) (by rfl) (by kernel_rfl) rfl) (fewP_any (hl.inner.more (B' := w3.heap.size) (by omega)) (Nat.le_refl _)) (by kernel_rfl) rfl rfl rfl (by decide) ?_
      rintro u5 w5 ⟨e5, hw5⟩
      have zw5 := hw5.size
      obtain rfl : u5 = .bool true := e5.trans (congrArg Value.bool (decide_eq_true c4))
      refine lsw (want_none (by rfl)) (y_pick true rfl rfl rfl) rfl (by decide) ?_
      refine lsw (want_none (by rfl)) (y_assign rfl rfl) rfl (by decide) ?_
      refine lg_nil ?_
      refine nx (E' := [(2, _)]) (fk rfl fn) ?_
      refine cg_ret ?_
      have u := u.trans (n1.below.mono u.size)
      have u := u.trans (hw3.mono u.size)
      have u := u.trans (hw5.mono u.size)
      exact eg_ret_tmp rfl rfl ⟨_, rfl, congrArg Value.bool (show true = decide (ndFew L) from (decide_eq_true (by simp [ndFew, c2, c4])).symm), u⟩
    · refine lg_callw (want_t (dj := 6) (by rfl) (by kernel_rfl) rfl) (fewP_any (hl.inner.more (B' := w3.heap.size) (by omega)) (Nat.le_refl _)) (by kernel_rfl) rfl rfl rfl (by decide) ?_
      rintro u6 w6 ⟨e6, hw6⟩
      have zw6 := hw6.size
      obtain rfl : u6 = .bool false := e6.trans (congrArg Value.bool (decide_eq_false c4))
      refine lsw (want_none (by rfl)) (y_pick true rfl rfl rfl) rfl (by decide) ?_
      refine lsw (want_none (by rfl)) (y_assign rfl rfl) rfl (by decide) ?_
      refine lg_nil ?_
      refine nx (E' := [(2, _)]) (fk rfl fn) ?_
      refine cg_ret ?_
      have u := u.trans (n1.below.mono u.size)
      have u := u.trans (hw3.mono u.size)
      have u := u.trans (hw6.mono u.size)
      exact eg_ret_tmp rfl rfl ⟨_, rfl, congrArg Value.bool (show false = decide (ndFew L) from (decide_eq_false (by simp [ndFew, c2, c4])).symm), u⟩
  · refine lg_callw (want_none (by rfl)) (few_any (hl.leaf.more (B' := w1.heap.size) (by omega)) (Nat.le_refl _)) (by kernel_rfl) rfl rfl rfl (by decide) ?_
    rintro u7 w7 ⟨e7, hw7⟩
    have zw7 := hw7.size
    obtain rfl : u7 = .bool false := e7.trans (congrArg Value.bool (decide_eq_false c2))
    refine lsw (want_none (by rfl)) (y_move rfl rfl) rfl (by decide) ?_
    refine lsk (want_f (dj := 6) (by rfl) (by kernel_rfl) rfl) rfl (by decide) ?_
    refine lsk (want_f (dj := 6) (by rfl) (by kernel_rfl) rfl) rfl (by decide) ?_
    refine lsk (want_f (dj := 6) (by rfl) (by kernel_rfl) rfl) rfl (by decide) ?_
    refine lsw (want_none (by rfl)) (y_pick false rfl rfl rfl) rfl (by decide) ?_
    refine lsw (want_none (by rfl)) (y_assign rfl rfl) rfl (by decide) ?_
    refine lg_nil ?_
    refine nx (E' := [(2, _)]) (fk rfl fn) ?_
    refine cg_ret ?_
    have u := u.trans (n1.below.mono u.size)
    have u := u.trans (hw7.mono u.size)
    exact eg_ret_tmp rfl rfl ⟨_, rfl, congrArg Value.bool (show false = decide (ndFew L) from (decide_eq_false (by simp [ndFew, c2])).symm), u⟩
theorem rcheckN_any {W : World} {B : Nat} {l : NdV} {L : Nd} (hl : IsNd W B l L) (hB : B ≤ W.heap.size) : Calls Try.prog 15 #[.agg (l.cs L)] W fun e W' => ∃ v, e = .returned v ∧ v = nv (ndCheck L) ∧ Below W.heap.size W W' := by
  refine calls_cg (n := 53) Try.func15 rfl Try.ntmps15 (by simp) ?_
  show CG _ _ _ [(0, .agg (l.cs L))] _ _
  have u := Below.refl W.heap.size W
  refine cg_seq ?_
  refine cg_region ?_
  refine lg_boxw (want_none (by rfl)) rfl rfl (by kernel_rfl) rfl (by decide) fun b1 w1 n1 => ?_
  have r1 := n1.row
  have k1 := n1.blk
  have z1 := n1.size
  have lt1 : b1 < w1.heap.size := by omega
  refine lsw (want_none (by rfl)) (y_assign rfl rfl) rfl (by decide) ?_
  refine lg_nil ?_
  refine nx (E' := [(1, _), (2, _)]) (fk rfl (fk rfl fn)) ?_
  refine cg_seq ?_
  refine cg_region ?_
  refine lsw (want_none (by rfl)) (y_fld (off := 1) (by kernel_rfl) rfl rfl) rfl (by decide) ?_
  refine lsw (want_none (by rfl)) (y_part r1 (m := 4) rfl (show 1+4 ≤ 8 by decide) (by kernel_rfl) (by kernel_rfl) rfl rfl) rfl (by decide) ?_
  refine lsw (want_none (by rfl)) (y_build (cs := LfV.zero.cs Lf.zero) rfl rfl (by kernel_rfl)) rfl (by decide) ?_
  have hl := hl.below (n1.below.mono (by omega))
  by_cases c2 : LfSame L.leaf Lf.zero
  · refine lg_callw (want_none (by rfl)) (rsame_any (hl.leaf.more (B' := w1.heap.size) (by omega)) ((IsLf.zero _ 0).more (B' := w1.heap.size) (by omega)) (Nat.le_refl _)) (by kernel_rfl) rfl rfl rfl (by decide) ?_
    rintro u3 w3 ⟨e3, hw3⟩
    have zw3 := hw3.size
    obtain rfl : u3 = .bool true := e3.trans (congrArg Value.bool (decide_eq_true c2))
    refine lsw (want_none (by rfl)) (y_bnot rfl rfl) rfl (by decide) ?_
    refine lsw (want_none (by rfl)) (y_assign rfl rfl) rfl (by decide) ?_
    refine lg_nil ?_
    refine nx (E' := [(1, _), (2, _), (3, _)]) (fk rfl (fk rfl (fk rfl fn))) ?_
    refine cg_seq ?_
    refine cg_region ?_
    refine lsw (want_none (by rfl)) (y_fld (off := 5) (by kernel_rfl) rfl rfl) rfl (by decide) ?_
    have r1 := RowAt.below hw3 r1.lt r1
    refine lsw (want_none (by rfl)) (y_part r1 (m := 3) rfl (show 5+3 ≤ 8 by decide) (by kernel_rfl) (by kernel_rfl) rfl rfl) rfl (by decide) ?_
    refine lsw (want_none (by rfl)) (y_build (cs := PnV.zero.cs Pn.zero) rfl rfl (by kernel_rfl)) rfl (by decide) ?_
    have hl := hl.below (hw3.mono (by omega))
    by_cases c4 : PnSame L.inner Pn.zero
    · refine lg_callw (want_none (by rfl)) (rsameP_any (hl.inner.more (B' := w3.heap.size) (by omega)) ((IsPn.zero _ 0).more (B' := w3.heap.size) (by omega)) (Nat.le_refl _)) (by kernel_rfl) rfl rfl rfl (by decide) ?_
      rintro u5 w5 ⟨e5, hw5⟩
      have zw5 := hw5.size
      obtain rfl : u5 = .bool true := e5.trans (congrArg Value.bool (decide_eq_true c4))
      refine lsw (want_none (by rfl)) (y_bnot rfl rfl) rfl (by decide) ?_
      refine lsw (want_none (by rfl)) (y_assign rfl rfl) rfl (by decide) ?_
      refine lg_nil ?_
      refine nx (E' := [(1, _), (2, _), (3, _), (4, _)]) (fk rfl (fk rfl (fk rfl (fk rfl fn)))) ?_
      refine cg_seq ?_
      refine cg_block ?_
      refine cg_seq ?_
      refine cg_region ?_
      refine lsw (want_none (by rfl)) (y_fld (off := 0) (by kernel_rfl) rfl rfl) rfl (by decide) ?_
      have r1 := RowAt.below hw5 r1.lt r1
      refine lsw (want_none (by rfl)) (y_cellv (v := nv L.kind) r1 rfl (by kernel_rfl) rfl rfl) rfl (by decide) ?_
      by_cases c6 : L.kind < 0
      · refine lsw (want_none (by rfl)) (yb (decide_eq_true c6) (yi_lss rfl rfl rfl)) rfl (by decide) ?_
        refine lsw (want_none (by rfl)) (y_move rfl rfl) rfl (by decide) ?_
        refine lsk (want_f (dj := 19) (by rfl) (by kernel_rfl) rfl) rfl (by decide) ?_
        refine lsk (want_f (dj := 19) (by rfl) (by kernel_rfl) rfl) rfl (by decide) ?_
        refine lsk (want_f (dj := 19) (by rfl) (by kernel_rfl) rfl) rfl (by decide) ?_
        refine lsw (want_none (by rfl)) (y_pick true rfl rfl rfl) rfl (by decide) ?_
        refine lsw (want_none (by rfl)) (y_assign rfl rfl) rfl (by decide) ?_
        refine lg_nil ?_
        refine nx (E' := [(1, _), (2, _), (3, _), (4, _), (15, _)]) (fk rfl (fk rfl (fk rfl (fk rfl (fk rfl fn))))) ?_
        refine cg_ct rfl ?_
        refine cg_seq ?_
        refine cg_region ?_
        refine lsw (want_none (by rfl)) (y_assign rfl rfl) rfl (by decide) ?_
        refine lg_nil ?_
        refine nx (E' := [(2, _)]) (fk rfl fn) ?_
        refine cg_ret ?_
        refine eg_block_ret ?_
        refine eg_seq_ret ?_
        have u := u.trans (n1.below.mono u.size)
        have u := u.trans (hw3.mono u.size)
        have u := u.trans (hw5.mono u.size)
        exact eg_ret_tmp rfl rfl ⟨_, rfl, congrArg nv (show 7 = ndCheck L by simp [ndCheck, c6]), u⟩
      · refine lsw (want_none (by rfl)) (yb (decide_eq_false c6) (yi_lss rfl rfl rfl)) rfl (by decide) ?_
        refine lsw (want_none (by rfl)) (y_move rfl rfl) rfl (by decide) ?_
        refine lsw (want_t (dj := 19) (by rfl) (by kernel_rfl) rfl) (y_fld (off := 0) (by kernel_rfl) rfl rfl) rfl (by decide) ?_
        refine lsw (want_t (dj := 19) (by rfl) (by kernel_rfl) rfl) (y_cellv (v := nv L.kind) r1 rfl (by kernel_rfl) rfl rfl) rfl (by decide) ?_
        by_cases c7 : 2 < L.kind
        · refine lsw (want_t (dj := 19) (by rfl) (by kernel_rfl) rfl) (yb (decide_eq_true c7) (yi_gtr rfl rfl rfl)) rfl (by decide) ?_
          refine lsw (want_none (by rfl)) (y_pick false rfl rfl rfl) rfl (by decide) ?_
          refine lsw (want_none (by rfl)) (y_assign rfl rfl) rfl (by decide) ?_
          refine lg_nil ?_
          refine nx (E' := [(1, _), (2, _), (3, _), (4, _), (15, _)]) (fk rfl (fk rfl (fk rfl (fk rfl (fk rfl fn))))) ?_
          refine cg_ct rfl ?_
          refine cg_seq ?_
          refine cg_region ?_
          refine lsw (want_none (by rfl)) (y_assign rfl rfl) rfl (by decide) ?_
          refine lg_nil ?_
          refine nx (E' := [(2, _)]) (fk rfl fn) ?_
          refine cg_ret ?_
          refine eg_block_ret ?_
          refine eg_seq_ret ?_
          have u := u.trans (n1.below.mono u.size)
          have u := u.trans (hw3.mono u.size)
          have u := u.trans (hw5.mono u.size)
          exact eg_ret_tmp rfl rfl ⟨_, rfl, congrArg nv (show 7 = ndCheck L by simp [ndCheck, c6, c7]), u⟩
        · refine lsw (want_t (dj := 19) (by rfl) (by kernel_rfl) rfl) (yb (decide_eq_false c7) (yi_gtr rfl rfl rfl)) rfl (by decide) ?_
          refine lsw (want_none (by rfl)) (y_pick false rfl rfl rfl) rfl (by decide) ?_
          refine lsw (want_none (by rfl)) (y_assign rfl rfl) rfl (by decide) ?_
          refine lg_nil ?_
          refine nx (E' := [(1, _), (2, _), (3, _), (4, _), (15, _)]) (fk rfl (fk rfl (fk rfl (fk rfl (fk rfl fn))))) ?_
          refine cg_cf rfl ?_
          refine cg_seq ?_
          refine cg_region ?_
          refine lsw (want_none (by rfl)) (y_move rfl rfl) rfl (by decide) ?_
          refine lsw (want_none (by rfl)) (y_move rfl rfl) rfl (by decide) ?_
          refine lsk (want_f (dj := 26) (by rfl) (by kernel_rfl) rfl) rfl (by decide) ?_
          refine lsk (want_f (dj := 26) (by rfl) (by kernel_rfl) rfl) rfl (by decide) ?_
          refine lsk (want_f (dj := 26) (by rfl) (by kernel_rfl) rfl) rfl (by decide) ?_
          refine lsw (want_none (by rfl)) (y_pick false rfl rfl rfl) rfl (by decide) ?_
          refine lsw (want_none (by rfl)) (y_move rfl rfl) rfl (by decide) ?_
          refine lsw (want_t (dj := 31) (by rfl) (by kernel_rfl) rfl) (y_move rfl rfl) rfl (by decide) ?_
          refine lsw (want_t (dj := 31) (by rfl) (by kernel_rfl) rfl) (y_move rfl rfl) rfl (by decide) ?_
          refine lsk (want_f (dj := 33) (by rfl) (by kernel_rfl) rfl) rfl (by decide) ?_
          refine lsk (want_f (dj := 33) (by rfl) (by kernel_rfl) rfl) rfl (by decide) ?_
          refine lsk (want_f (dj := 33) (by rfl) (by kernel_rfl) rfl) rfl (by decide) ?_
          refine lsw (want_t (dj := 31) (by rfl) (by kernel_rfl) rfl) (y_pick false rfl rfl rfl) rfl (by decide) ?_
          refine lsw (want_none (by rfl)) (y_pick false rfl rfl rfl) rfl (by decide) ?_
          refine lsw (want_none (by rfl)) (y_assign rfl rfl) rfl (by decide) ?_
          refine lg_nil ?_
          refine nx (E' := [(1, _), (2, _), (24, _)]) (fk rfl (fk rfl (fk rfl fn))) ?_
          refine cg_cf rfl ?_
          refine cg_seq ?_
          refine cg_region ?_
          refine lsw (want_none (by rfl)) (y_fld (off := 0) (by kernel_rfl) rfl rfl) rfl (by decide) ?_
          refine lsw (want_none (by rfl)) (y_cellv (v := nv L.kind) r1 rfl (by kernel_rfl) rfl rfl) rfl (by decide) ?_
          by_cases c8 : L.kind = 1
          · refine lsw (want_none (by rfl)) (yb (decide_eq_true c8) (yi_eql rfl rfl rfl)) rfl (by decide) ?_
            refine lsw (want_none (by rfl)) (y_assign rfl rfl) rfl (by decide) ?_
            refine lg_nil ?_
            refine nx (E' := [(1, _), (2, _), (39, _)]) (fk rfl (fk rfl (fk rfl fn))) ?_
            refine cg_ct rfl ?_
            refine cg_seq ?_
            refine cg_region ?_
            refine lsw (want_none (by rfl)) (y_fld (off := 1) (by kernel_rfl) rfl rfl) rfl (by decide) ?_
            refine lsw (want_none (by rfl)) (y_part r1 (m := 4) rfl (show 1+4 ≤ 8 by decide) (by kernel_rfl) (by kernel_rfl) rfl rfl) rfl (by decide) ?_
            have hl := hl.below (hw5.mono (by omega))
            refine lg_callw (want_none (by rfl)) (rcheck_any (hl.leaf.more (B' := w5.heap.size) (by omega)) (Nat.le_refl _)) (by kernel_rfl) rfl rfl rfl (by decide) ?_
            rintro _ w9 ⟨rfl, hw9⟩
            have zw9 := hw9.size
            refine lsw (want_none (by rfl)) (y_assign rfl rfl) rfl (by decide) ?_
            refine lg_nil ?_
            refine nx (E' := [(2, _)]) (fk rfl fn) ?_
            refine cg_ret ?_
            refine eg_block_ret ?_
            refine eg_seq_ret ?_
            have u := u.trans (n1.below.mono u.size)
            have u := u.trans (hw3.mono u.size)
            have u := u.trans (hw5.mono u.size)
            have u := u.trans (hw9.mono u.size)
            exact eg_ret_tmp rfl rfl ⟨_, rfl, congrArg nv (show (lfCheck L.leaf) = ndCheck L by simp [ndCheck, c2, c4, c8]), u⟩
          · refine lsw (want_none (by rfl)) (yb (decide_eq_false c8) (yi_eql rfl rfl rfl)) rfl (by decide) ?_
            refine lsw (want_none (by rfl)) (y_assign rfl rfl) rfl (by decide) ?_
            refine lg_nil ?_
            refine nx (E' := [(1, _), (2, _), (39, _)]) (fk rfl (fk rfl (fk rfl fn))) ?_
            refine cg_cf rfl ?_
            refine cg_seq ?_
            refine cg_region ?_
            refine lsw (want_none (by rfl)) (y_fld (off := 0) (by kernel_rfl) rfl rfl) rfl (by decide) ?_
            refine lsw (want_none (by rfl)) (y_cellv (v := nv L.kind) r1 rfl (by kernel_rfl) rfl rfl) rfl (by decide) ?_
            by_cases c10 : L.kind = 2
            · refine lsw (want_none (by rfl)) (yb (decide_eq_true c10) (yi_eql rfl rfl rfl)) rfl (by decide) ?_
              refine lsw (want_none (by rfl)) (y_assign rfl rfl) rfl (by decide) ?_
              refine lg_nil ?_
              refine nx (E' := [(1, _), (2, _), (46, _)]) (fk rfl (fk rfl (fk rfl fn))) ?_
              refine cg_ct rfl ?_
              refine cg_seq ?_
              refine cg_region ?_
              refine lsw (want_none (by rfl)) (y_fld (off := 5) (by kernel_rfl) rfl rfl) rfl (by decide) ?_
              refine lsw (want_none (by rfl)) (y_part r1 (m := 3) rfl (show 5+3 ≤ 8 by decide) (by kernel_rfl) (by kernel_rfl) rfl rfl) rfl (by decide) ?_
              have hl := hl.below (hw5.mono (by omega))
              refine lg_callw (want_none (by rfl)) (rcheckP_any (hl.inner.more (B' := w5.heap.size) (by omega)) (Nat.le_refl _)) (by kernel_rfl) rfl rfl rfl (by decide) ?_
              rintro _ w11 ⟨rfl, hw11⟩
              have zw11 := hw11.size
              refine lsw (want_none (by rfl)) (y_assign rfl rfl) rfl (by decide) ?_
              refine lg_nil ?_
              refine nx (E' := [(2, _)]) (fk rfl fn) ?_
              refine cg_ret ?_
              refine eg_block_ret ?_
              refine eg_seq_ret ?_
              have u := u.trans (n1.below.mono u.size)
              have u := u.trans (hw3.mono u.size)
              have u := u.trans (hw5.mono u.size)
              have u := u.trans (hw11.mono u.size)
              exact eg_ret_tmp rfl rfl ⟨_, rfl, congrArg nv (show (pnCheck L.inner) = ndCheck L by simp [ndCheck, c2, c4, c10]), u⟩
            · refine lsw (want_none (by rfl)) (yb (decide_eq_false c10) (yi_eql rfl rfl rfl)) rfl (by decide) ?_
              refine lsw (want_none (by rfl)) (y_assign rfl rfl) rfl (by decide) ?_
              refine lg_nil ?_
              refine nx (E' := [(1, _), (2, _), (46, _)]) (fk rfl (fk rfl (fk rfl fn))) ?_
              refine cg_cf rfl ?_
              refine cg_skip ?_
              refine eg_block_norm ?_
              refine nx (E' := [(2, _)]) (fk rfl fn) ?_
              refine cg_seq ?_
              refine cg_region ?_
              refine lsw (want_none (by rfl)) (y_assign rfl rfl) rfl (by decide) ?_
              refine lg_nil ?_
              refine nx (E' := [(2, _)]) (fk rfl fn) ?_
              refine cg_ret ?_
              have u := u.trans (n1.below.mono u.size)
              have u := u.trans (hw3.mono u.size)
              have u := u.trans (hw5.mono u.size)
              exact eg_ret_tmp rfl rfl ⟨_, rfl, congrArg nv (show 0 = ndCheck L by simp [ndCheck, c2, c4, c6, c7, c8, c10]), u⟩
    · refine lg_callw (want_none (by rfl)) (rsameP_any (hl.inner.more (B' := w3.heap.size) (by omega)) ((IsPn.zero _ 0).more (B' := w3.heap.size) (by omega)) (Nat.le_refl _)) (by kernel_rfl) rfl rfl rfl (by decide) ?_
      rintro u12 w12 ⟨e12, hw12⟩
      have zw12 := hw12.size
      obtain rfl : u12 = .bool false := e12.trans (congrArg Value.bool (decide_eq_false c4))
      refine lsw (want_none (by rfl)) (y_bnot rfl rfl) rfl (by decide) ?_
      refine lsw (want_none (by rfl)) (y_assign rfl rfl) rfl (by decide) ?_
      refine lg_nil ?_
      refine nx (E' := [(1, _), (2, _), (3, _), (4, _)]) (fk rfl (fk rfl (fk rfl (fk rfl fn)))) ?_
      refine cg_seq ?_
      refine cg_block ?_
      refine cg_seq ?_
      refine cg_region ?_
      refine lsw (want_none (by rfl)) (y_fld (off := 0) (by kernel_rfl) rfl rfl) rfl (by decide) ?_
      have r1 := RowAt.below hw12 r1.lt r1
      refine lsw (want_none (by rfl)) (y_cellv (v := nv L.kind) r1 rfl (by kernel_rfl) rfl rfl) rfl (by decide) ?_
      by_cases c13 : L.kind < 0
      · refine lsw (want_none (by rfl)) (yb (decide_eq_true c13) (yi_lss rfl rfl rfl)) rfl (by decide) ?_
        refine lsw (want_none (by rfl)) (y_move rfl rfl) rfl (by decide) ?_
        refine lsk (want_f (dj := 19) (by rfl) (by kernel_rfl) rfl) rfl (by decide) ?_
        refine lsk (want_f (dj := 19) (by rfl) (by kernel_rfl) rfl) rfl (by decide) ?_
        refine lsk (want_f (dj := 19) (by rfl) (by kernel_rfl) rfl) rfl (by decide) ?_
        refine lsw (want_none (by rfl)) (y_pick true rfl rfl rfl) rfl (by decide) ?_
        refine lsw (want_none (by rfl)) (y_assign rfl rfl) rfl (by decide) ?_
        refine lg_nil ?_
        refine nx (E' := [(1, _), (2, _), (3, _), (4, _), (15, _)]) (fk rfl (fk rfl (fk rfl (fk rfl (fk rfl fn))))) ?_
        refine cg_ct rfl ?_
        refine cg_seq ?_
        refine cg_region ?_
        refine lsw (want_none (by rfl)) (y_assign rfl rfl) rfl (by decide) ?_
        refine lg_nil ?_
        refine nx (E' := [(2, _)]) (fk rfl fn) ?_
        refine cg_ret ?_
        refine eg_block_ret ?_
        refine eg_seq_ret ?_
        have u := u.trans (n1.below.mono u.size)
        have u := u.trans (hw3.mono u.size)
        have u := u.trans (hw12.mono u.size)
        exact eg_ret_tmp rfl rfl ⟨_, rfl, congrArg nv (show 7 = ndCheck L by simp [ndCheck, c13]), u⟩
      · refine lsw (want_none (by rfl)) (yb (decide_eq_false c13) (yi_lss rfl rfl rfl)) rfl (by decide) ?_
        refine lsw (want_none (by rfl)) (y_move rfl rfl) rfl (by decide) ?_
        refine lsw (want_t (dj := 19) (by rfl) (by kernel_rfl) rfl) (y_fld (off := 0) (by kernel_rfl) rfl rfl) rfl (by decide) ?_
        refine lsw (want_t (dj := 19) (by rfl) (by kernel_rfl) rfl) (y_cellv (v := nv L.kind) r1 rfl (by kernel_rfl) rfl rfl) rfl (by decide) ?_
        by_cases c14 : 2 < L.kind
        · refine lsw (want_t (dj := 19) (by rfl) (by kernel_rfl) rfl) (yb (decide_eq_true c14) (yi_gtr rfl rfl rfl)) rfl (by decide) ?_
          refine lsw (want_none (by rfl)) (y_pick false rfl rfl rfl) rfl (by decide) ?_
          refine lsw (want_none (by rfl)) (y_assign rfl rfl) rfl (by decide) ?_
          refine lg_nil ?_
          refine nx (E' := [(1, _), (2, _), (3, _), (4, _), (15, _)]) (fk rfl (fk rfl (fk rfl (fk rfl (fk rfl fn))))) ?_
          refine cg_ct rfl ?_
          refine cg_seq ?_
          refine cg_region ?_
          refine lsw (want_none (by rfl)) (y_assign rfl rfl) rfl (by decide) ?_
          refine lg_nil ?_
          refine nx (E' := [(2, _)]) (fk rfl fn) ?_
          refine cg_ret ?_
          refine eg_block_ret ?_
          refine eg_seq_ret ?_
          have u := u.trans (n1.below.mono u.size)
          have u := u.trans (hw3.mono u.size)
          have u := u.trans (hw12.mono u.size)
          exact eg_ret_tmp rfl rfl ⟨_, rfl, congrArg nv (show 7 = ndCheck L by simp [ndCheck, c13, c14]), u⟩
        · refine lsw (want_t (dj := 19) (by rfl) (by kernel_rfl) rfl) (yb (decide_eq_false c14) (yi_gtr rfl rfl rfl)) rfl (by decide) ?_
          refine lsw (want_none (by rfl)) (y_pick false rfl rfl rfl) rfl (by decide) ?_
          refine lsw (want_none (by rfl)) (y_assign rfl rfl) rfl (by decide) ?_
          refine lg_nil ?_
          refine nx (E' := [(1, _), (2, _), (3, _), (4, _), (15, _)]) (fk rfl (fk rfl (fk rfl (fk rfl (fk rfl fn))))) ?_
          refine cg_cf rfl ?_
          refine cg_seq ?_
          refine cg_region ?_
          refine lsw (want_none (by rfl)) (y_move rfl rfl) rfl (by decide) ?_
          refine lsw (want_none (by rfl)) (y_move rfl rfl) rfl (by decide) ?_
          refine lsk (want_f (dj := 26) (by rfl) (by kernel_rfl) rfl) rfl (by decide) ?_
          refine lsk (want_f (dj := 26) (by rfl) (by kernel_rfl) rfl) rfl (by decide) ?_
          refine lsk (want_f (dj := 26) (by rfl) (by kernel_rfl) rfl) rfl (by decide) ?_
          refine lsw (want_none (by rfl)) (y_pick false rfl rfl rfl) rfl (by decide) ?_
          refine lsw (want_none (by rfl)) (y_move rfl rfl) rfl (by decide) ?_
          refine lsw (want_t (dj := 31) (by rfl) (by kernel_rfl) rfl) (y_move rfl rfl) rfl (by decide) ?_
          refine lsw (want_t (dj := 31) (by rfl) (by kernel_rfl) rfl) (y_move rfl rfl) rfl (by decide) ?_
          refine lsw (want_t (dj := 33) (by rfl) (by kernel_rfl) rfl) (y_fld (off := 0) (by kernel_rfl) rfl rfl) rfl (by decide) ?_
          refine lsw (want_t (dj := 33) (by rfl) (by kernel_rfl) rfl) (y_cellv (v := nv L.kind) r1 rfl (by kernel_rfl) rfl rfl) rfl (by decide) ?_
          by_cases c15 : L.kind = 2
          · refine lsw (want_t (dj := 33) (by rfl) (by kernel_rfl) rfl) (yb (nd_f c15) (yi_neq rfl rfl rfl)) rfl (by decide) ?_
            refine lsw (want_t (dj := 31) (by rfl) (by kernel_rfl) rfl) (y_pick true rfl rfl rfl) rfl (by decide) ?_
            refine lsw (want_none (by rfl)) (y_pick false rfl rfl rfl) rfl (by decide) ?_
            refine lsw (want_none (by rfl)) (y_assign rfl rfl) rfl (by decide) ?_
            refine lg_nil ?_
            refine nx (E' := [(1, _), (2, _), (24, _)]) (fk rfl (fk rfl (fk rfl fn))) ?_
            refine cg_cf rfl ?_
            refine cg_seq ?_
            refine cg_region ?_
            refine lsw (want_none (by rfl)) (y_fld (off := 0) (by kernel_rfl) rfl rfl) rfl (by decide) ?_
            refine lsw (want_none (by rfl)) (y_cellv (v := nv L.kind) r1 rfl (by kernel_rfl) rfl rfl) rfl (by decide) ?_
            refine lsw (want_none (by rfl)) (yb (decide_eq_false (show ¬ (L.kind = 1) from (show ¬ (L.kind = 1) by omega))) (yi_eql rfl rfl rfl)) rfl (by decide) ?_
            refine lsw (want_none (by rfl)) (y_assign rfl rfl) rfl (by decide) ?_
            refine lg_nil ?_
            refine nx (E' := [(1, _), (2, _), (39, _)]) (fk rfl (fk rfl (fk rfl fn))) ?_
            refine cg_cf rfl ?_
            refine cg_seq ?_
            refine cg_region ?_
            refine lsw (want_none (by rfl)) (y_fld (off := 0) (by kernel_rfl) rfl rfl) rfl (by decide) ?_
            refine lsw (want_none (by rfl)) (y_cellv (v := nv L.kind) r1 rfl (by kernel_rfl) rfl rfl) rfl (by decide) ?_
            refine lsw (want_none (by rfl)) (yb (decide_eq_true c15) (yi_eql rfl rfl rfl)) rfl (by decide) ?_
            refine lsw (want_none (by rfl)) (y_assign rfl rfl) rfl (by decide) ?_
            refine lg_nil ?_
            refine nx (E' := [(1, _), (2, _), (46, _)]) (fk rfl (fk rfl (fk rfl fn))) ?_
            refine cg_ct rfl ?_
            refine cg_seq ?_
            refine cg_region ?_
            refine lsw (want_none (by rfl)) (y_fld (off := 5) (by kernel_rfl) rfl rfl) rfl (by decide) ?_
            refine lsw (want_none (by rfl)) (y_part r1 (m := 3) rfl (show 5+3 ≤ 8 by decide) (by kernel_rfl) (by kernel_rfl) rfl rfl) rfl (by decide) ?_
            have hl := hl.below (hw12.mono (by omega))
            refine lg_callw (want_none (by rfl)) (rcheckP_any (hl.inner.more (B' := w12.heap.size) (by omega)) (Nat.le_refl _)) (by kernel_rfl) rfl rfl rfl (by decide) ?_
            rintro _ w16 ⟨rfl, hw16⟩
            have zw16 := hw16.size
            refine lsw (want_none (by rfl)) (y_assign rfl rfl) rfl (by decide) ?_
            refine lg_nil ?_
            refine nx (E' := [(2, _)]) (fk rfl fn) ?_
            refine cg_ret ?_
            refine eg_block_ret ?_
            refine eg_seq_ret ?_
            have u := u.trans (n1.below.mono u.size)
            have u := u.trans (hw3.mono u.size)
            have u := u.trans (hw12.mono u.size)
            have u := u.trans (hw16.mono u.size)
            exact eg_ret_tmp rfl rfl ⟨_, rfl, congrArg nv (show (pnCheck L.inner) = ndCheck L by simp [ndCheck, c2, c4, c15]), u⟩
          · refine lsw (want_t (dj := 33) (by rfl) (by kernel_rfl) rfl) (yb (nd_t c15) (yi_neq rfl rfl rfl)) rfl (by decide) ?_
            refine lsw (want_t (dj := 31) (by rfl) (by kernel_rfl) rfl) (y_pick true rfl rfl rfl) rfl (by decide) ?_
            refine lsw (want_none (by rfl)) (y_pick false rfl rfl rfl) rfl (by decide) ?_
            refine lsw (want_none (by rfl)) (y_assign rfl rfl) rfl (by decide) ?_
            refine lg_nil ?_
            refine nx (E' := [(1, _), (2, _), (24, _)]) (fk rfl (fk rfl (fk rfl fn))) ?_
            refine cg_ct rfl ?_
            refine cg_seq ?_
            refine cg_region ?_
            refine lsw (want_none (by rfl)) (y_assign rfl rfl) rfl (by decide) ?_
            refine lg_nil ?_
            refine nx (E' := [(2, _)]) (fk rfl fn) ?_
            refine cg_ret ?_
            refine eg_block_ret ?_
            refine eg_seq_ret ?_
            have u := u.trans (n1.below.mono u.size)
            have u := u.trans (hw3.mono u.size)
            have u := u.trans (hw12.mono u.size)
            exact eg_ret_tmp rfl rfl ⟨_, rfl, congrArg nv (show 2 = ndCheck L by simp [ndCheck, c2, c4, c13, c14, c15]), u⟩
  · refine lg_callw (want_none (by rfl)) (rsame_any (hl.leaf.more (B' := w1.heap.size) (by omega)) ((IsLf.zero _ 0).more (B' := w1.heap.size) (by omega)) (Nat.le_refl _)) (by kernel_rfl) rfl rfl rfl (by decide) ?_
    rintro u17 w17 ⟨e17, hw17⟩
    have zw17 := hw17.size
    obtain rfl : u17 = .bool false := e17.trans (congrArg Value.bool (decide_eq_false c2))
    refine lsw (want_none (by rfl)) (y_bnot rfl rfl) rfl (by decide) ?_
    refine lsw (want_none (by rfl)) (y_assign rfl rfl) rfl (by decide) ?_
    refine lg_nil ?_
    refine nx (E' := [(1, _), (2, _), (3, _)]) (fk rfl (fk rfl (fk rfl fn))) ?_
    refine cg_seq ?_
    refine cg_region ?_
    refine lsw (want_none (by rfl)) (y_fld (off := 5) (by kernel_rfl) rfl rfl) rfl (by decide) ?_
    have r1 := RowAt.below hw17 r1.lt r1
    refine lsw (want_none (by rfl)) (y_part r1 (m := 3) rfl (show 5+3 ≤ 8 by decide) (by kernel_rfl) (by kernel_rfl) rfl rfl) rfl (by decide) ?_
    refine lsw (want_none (by rfl)) (y_build (cs := PnV.zero.cs Pn.zero) rfl rfl (by kernel_rfl)) rfl (by decide) ?_
    have hl := hl.below (hw17.mono (by omega))
    by_cases c18 : PnSame L.inner Pn.zero
    · refine lg_callw (want_none (by rfl)) (rsameP_any (hl.inner.more (B' := w17.heap.size) (by omega)) ((IsPn.zero _ 0).more (B' := w17.heap.size) (by omega)) (Nat.le_refl _)) (by kernel_rfl) rfl rfl rfl (by decide) ?_
      rintro u19 w19 ⟨e19, hw19⟩
      have zw19 := hw19.size
      obtain rfl : u19 = .bool true := e19.trans (congrArg Value.bool (decide_eq_true c18))
      refine lsw (want_none (by rfl)) (y_bnot rfl rfl) rfl (by decide) ?_
      refine lsw (want_none (by rfl)) (y_assign rfl rfl) rfl (by decide) ?_
      refine lg_nil ?_
      refine nx (E' := [(1, _), (2, _), (3, _), (4, _)]) (fk rfl (fk rfl (fk rfl (fk rfl fn)))) ?_
      refine cg_seq ?_
      refine cg_block ?_
      refine cg_seq ?_
      refine cg_region ?_
      refine lsw (want_none (by rfl)) (y_fld (off := 0) (by kernel_rfl) rfl rfl) rfl (by decide) ?_
      have r1 := RowAt.below hw19 r1.lt r1
      refine lsw (want_none (by rfl)) (y_cellv (v := nv L.kind) r1 rfl (by kernel_rfl) rfl rfl) rfl (by decide) ?_
      by_cases c20 : L.kind < 0
      · refine lsw (want_none (by rfl)) (yb (decide_eq_true c20) (yi_lss rfl rfl rfl)) rfl (by decide) ?_
        refine lsw (want_none (by rfl)) (y_move rfl rfl) rfl (by decide) ?_
        refine lsk (want_f (dj := 19) (by rfl) (by kernel_rfl) rfl) rfl (by decide) ?_
        refine lsk (want_f (dj := 19) (by rfl) (by kernel_rfl) rfl) rfl (by decide) ?_
        refine lsk (want_f (dj := 19) (by rfl) (by kernel_rfl) rfl) rfl (by decide) ?_
        refine lsw (want_none (by rfl)) (y_pick true rfl rfl rfl) rfl (by decide) ?_
        refine lsw (want_none (by rfl)) (y_assign rfl rfl) rfl (by decide) ?_
        refine lg_nil ?_
        refine nx (E' := [(1, _), (2, _), (3, _), (4, _), (15, _)]) (fk rfl (fk rfl (fk rfl (fk rfl (fk rfl fn))))) ?_
        refine cg_ct rfl ?_
        refine cg_seq ?_
        refine cg_region ?_
        refine lsw (want_none (by rfl)) (y_assign rfl rfl) rfl (by decide) ?_
        refine lg_nil ?_
        refine nx (E' := [(2, _)]) (fk rfl fn) ?_
        refine cg_ret ?_
        refine eg_block_ret ?_
        refine eg_seq_ret ?_
        have u := u.trans (n1.below.mono u.size)
        have u := u.trans (hw17.mono u.size)
        have u := u.trans (hw19.mono u.size)
        exact eg_ret_tmp rfl rfl ⟨_, rfl, congrArg nv (show 7 = ndCheck L by simp [ndCheck, c20]), u⟩
      · refine lsw (want_none (by rfl)) (yb (decide_eq_false c20) (yi_lss rfl rfl rfl)) rfl (by decide) ?_
        refine lsw (want_none (by rfl)) (y_move rfl rfl) rfl (by decide) ?_
        refine lsw (want_t (dj := 19) (by rfl) (by kernel_rfl) rfl) (y_fld (off := 0) (by kernel_rfl) rfl rfl) rfl (by decide) ?_
        refine lsw (want_t (dj := 19) (by rfl) (by kernel_rfl) rfl) (y_cellv (v := nv L.kind) r1 rfl (by kernel_rfl) rfl rfl) rfl (by decide) ?_
        by_cases c21 : 2 < L.kind
        · refine lsw (want_t (dj := 19) (by rfl) (by kernel_rfl) rfl) (yb (decide_eq_true c21) (yi_gtr rfl rfl rfl)) rfl (by decide) ?_
          refine lsw (want_none (by rfl)) (y_pick false rfl rfl rfl) rfl (by decide) ?_
          refine lsw (want_none (by rfl)) (y_assign rfl rfl) rfl (by decide) ?_
          refine lg_nil ?_
          refine nx (E' := [(1, _), (2, _), (3, _), (4, _), (15, _)]) (fk rfl (fk rfl (fk rfl (fk rfl (fk rfl fn))))) ?_
          refine cg_ct rfl ?_
          refine cg_seq ?_
          refine cg_region ?_
          refine lsw (want_none (by rfl)) (y_assign rfl rfl) rfl (by decide) ?_
          refine lg_nil ?_
          refine nx (E' := [(2, _)]) (fk rfl fn) ?_
          refine cg_ret ?_
          refine eg_block_ret ?_
          refine eg_seq_ret ?_
          have u := u.trans (n1.below.mono u.size)
          have u := u.trans (hw17.mono u.size)
          have u := u.trans (hw19.mono u.size)
          exact eg_ret_tmp rfl rfl ⟨_, rfl, congrArg nv (show 7 = ndCheck L by simp [ndCheck, c20, c21]), u⟩
        · refine lsw (want_t (dj := 19) (by rfl) (by kernel_rfl) rfl) (yb (decide_eq_false c21) (yi_gtr rfl rfl rfl)) rfl (by decide) ?_
          refine lsw (want_none (by rfl)) (y_pick false rfl rfl rfl) rfl (by decide) ?_
          refine lsw (want_none (by rfl)) (y_assign rfl rfl) rfl (by decide) ?_
          refine lg_nil ?_
          refine nx (E' := [(1, _), (2, _), (3, _), (4, _), (15, _)]) (fk rfl (fk rfl (fk rfl (fk rfl (fk rfl fn))))) ?_
          refine cg_cf rfl ?_
          refine cg_seq ?_
          refine cg_region ?_
          refine lsw (want_none (by rfl)) (y_move rfl rfl) rfl (by decide) ?_
          refine lsw (want_none (by rfl)) (y_move rfl rfl) rfl (by decide) ?_
          refine lsw (want_t (dj := 26) (by rfl) (by kernel_rfl) rfl) (y_fld (off := 0) (by kernel_rfl) rfl rfl) rfl (by decide) ?_
          refine lsw (want_t (dj := 26) (by rfl) (by kernel_rfl) rfl) (y_cellv (v := nv L.kind) r1 rfl (by kernel_rfl) rfl rfl) rfl (by decide) ?_
          by_cases c22 : L.kind = 1
          · refine lsw (want_t (dj := 26) (by rfl) (by kernel_rfl) rfl) (yb (nd_f c22) (yi_neq rfl rfl rfl)) rfl (by decide) ?_
            refine lsw (want_none (by rfl)) (y_pick true rfl rfl rfl) rfl (by decide) ?_
            refine lsw (want_none (by rfl)) (y_move rfl rfl) rfl (by decide) ?_
            refine lsw (want_t (dj := 31) (by rfl) (by kernel_rfl) rfl) (y_move rfl rfl) rfl (by decide) ?_
            refine lsw (want_t (dj := 31) (by rfl) (by kernel_rfl) rfl) (y_move rfl rfl) rfl (by decide) ?_
            refine lsk (want_f (dj := 33) (by rfl) (by kernel_rfl) rfl) rfl (by decide) ?_
            refine lsk (want_f (dj := 33) (by rfl) (by kernel_rfl) rfl) rfl (by decide) ?_
            refine lsk (want_f (dj := 33) (by rfl) (by kernel_rfl) rfl) rfl (by decide) ?_
            refine lsw (want_t (dj := 31) (by rfl) (by kernel_rfl) rfl) (y_pick false rfl rfl rfl) rfl (by decide) ?_
            refine lsw (want_none (by rfl)) (y_pick false rfl rfl rfl) rfl (by decide) ?_
            refine lsw (want_none (by rfl)) (y_assign rfl rfl) rfl (by decide) ?_
            refine lg_nil ?_
            refine nx (E' := [(1, _), (2, _), (24, _)]) (fk rfl (fk rfl (fk rfl fn))) ?_
            refine cg_cf rfl ?_
            refine cg_seq ?_
            refine cg_region ?_
            refine lsw (want_none (by rfl)) (y_fld (off := 0) (by kernel_rfl) rfl rfl) rfl (by decide) ?_
            refine lsw (want_none (by rfl)) (y_cellv (v := nv L.kind) r1 rfl (by kernel_rfl) rfl rfl) rfl (by decide) ?_
            refine lsw (want_none (by rfl)) (yb (decide_eq_true c22) (yi_eql rfl rfl rfl)) rfl (by decide) ?_
            refine lsw (want_none (by rfl)) (y_assign rfl rfl) rfl (by decide) ?_
            refine lg_nil ?_
            refine nx (E' := [(1, _), (2, _), (39, _)]) (fk rfl (fk rfl (fk rfl fn))) ?_
            refine cg_ct rfl ?_
            refine cg_seq ?_
            refine cg_region ?_
            refine lsw (want_none (by rfl)) (y_fld (off := 1) (by kernel_rfl) rfl rfl) rfl (by decide) ?_
            refine lsw (want_none (by rfl)) (y_part r1 (m := 4) rfl (show 1+4 ≤ 8 by decide) (by kernel_rfl) (by kernel_rfl) rfl rfl) rfl (by decide) ?_
            have hl := hl.below (hw19.mono (by omega))
            refine lg_callw (want_none (by rfl)) (rcheck_any (hl.leaf.more (B' := w19.heap.size) (by omega)) (Nat.le_refl _)) (by kernel_rfl) rfl rfl rfl (by decide) ?_
            rintro _ w23 ⟨rfl, hw23⟩
            have zw23 := hw23.size
            refine lsw (want_none (by rfl)) (y_assign rfl rfl) rfl (by decide) ?_
            refine lg_nil ?_
            refine nx (E' := [(2, _)]) (fk rfl fn) ?_
            refine cg_ret ?_
            refine eg_block_ret ?_
            refine eg_seq_ret ?_
            have u := u.trans (n1.below.mono u.size)
            have u := u.trans (hw17.mono u.size)
            have u := u.trans (hw19.mono u.size)
            have u := u.trans (hw23.mono u.size)
            exact eg_ret_tmp rfl rfl ⟨_, rfl, congrArg nv (show (lfCheck L.leaf) = ndCheck L by simp [ndCheck, c2, c18, c22]), u⟩
          · refine lsw (want_t (dj := 26) (by rfl) (by kernel_rfl) rfl) (yb (nd_t c22) (yi_neq rfl rfl rfl)) rfl (by decide) ?_
            refine lsw (want_none (by rfl)) (y_pick true rfl rfl rfl) rfl (by decide) ?_
            refine lsw (want_none (by rfl)) (y_move rfl rfl) rfl (by decide) ?_
            refine lsk (want_f (dj := 31) (by rfl) (by kernel_rfl) rfl) rfl (by decide) ?_
            refine lsk (want_f (dj := 31) (by rfl) (by kernel_rfl) rfl) rfl (by decide) ?_
            refine lsk (want_u (dj := 33) (by rfl) (by kernel_rfl) rfl) rfl (by decide) ?_
            refine lsk (want_u (dj := 33) (by rfl) (by kernel_rfl) rfl) rfl (by decide) ?_
            refine lsk (want_u (dj := 33) (by rfl) (by kernel_rfl) rfl) rfl (by decide) ?_
            refine lsk (want_f (dj := 31) (by rfl) (by kernel_rfl) rfl) rfl (by decide) ?_
            refine lsw (want_none (by rfl)) (y_pick true rfl rfl rfl) rfl (by decide) ?_
            refine lsw (want_none (by rfl)) (y_assign rfl rfl) rfl (by decide) ?_
            refine lg_nil ?_
            refine nx (E' := [(1, _), (2, _), (24, _)]) (fk rfl (fk rfl (fk rfl fn))) ?_
            refine cg_ct rfl ?_
            refine cg_seq ?_
            refine cg_region ?_
            refine lsw (want_none (by rfl)) (y_assign rfl rfl) rfl (by decide) ?_
            refine lg_nil ?_
            refine nx (E' := [(2, _)]) (fk rfl fn) ?_
            refine cg_ret ?_
            refine eg_block_ret ?_
            refine eg_seq_ret ?_
            have u := u.trans (n1.below.mono u.size)
            have u := u.trans (hw17.mono u.size)
            have u := u.trans (hw19.mono u.size)
            exact eg_ret_tmp rfl rfl ⟨_, rfl, congrArg nv (show 2 = ndCheck L by simp [ndCheck, c2, c18, c20, c21, c22]), u⟩
    · refine lg_callw (want_none (by rfl)) (rsameP_any (hl.inner.more (B' := w17.heap.size) (by omega)) ((IsPn.zero _ 0).more (B' := w17.heap.size) (by omega)) (Nat.le_refl _)) (by kernel_rfl) rfl rfl rfl (by decide) ?_
      rintro u24 w24 ⟨e24, hw24⟩
      have zw24 := hw24.size
      obtain rfl : u24 = .bool false := e24.trans (congrArg Value.bool (decide_eq_false c18))
      refine lsw (want_none (by rfl)) (y_bnot rfl rfl) rfl (by decide) ?_
      refine lsw (want_none (by rfl)) (y_assign rfl rfl) rfl (by decide) ?_
      refine lg_nil ?_
      refine nx (E' := [(1, _), (2, _), (3, _), (4, _)]) (fk rfl (fk rfl (fk rfl (fk rfl fn)))) ?_
      refine cg_seq ?_
      refine cg_block ?_
      refine cg_seq ?_
      refine cg_region ?_
      refine lsw (want_none (by rfl)) (y_fld (off := 0) (by kernel_rfl) rfl rfl) rfl (by decide) ?_
      have r1 := RowAt.below hw24 r1.lt r1
      refine lsw (want_none (by rfl)) (y_cellv (v := nv L.kind) r1 rfl (by kernel_rfl) rfl rfl) rfl (by decide) ?_
      by_cases c25 : L.kind < 0
      · refine lsw (want_none (by rfl)) (yb (decide_eq_true c25) (yi_lss rfl rfl rfl)) rfl (by decide) ?_
        refine lsw (want_none (by rfl)) (y_move rfl rfl) rfl (by decide) ?_
        refine lsk (want_f (dj := 19) (by rfl) (by kernel_rfl) rfl) rfl (by decide) ?_
        refine lsk (want_f (dj := 19) (by rfl) (by kernel_rfl) rfl) rfl (by decide) ?_
        refine lsk (want_f (dj := 19) (by rfl) (by kernel_rfl) rfl) rfl (by decide) ?_
        refine lsw (want_none (by rfl)) (y_pick true rfl rfl rfl) rfl (by decide) ?_
        refine lsw (want_none (by rfl)) (y_assign rfl rfl) rfl (by decide) ?_
        refine lg_nil ?_
        refine nx (E' := [(1, _), (2, _), (3, _), (4, _), (15, _)]) (fk rfl (fk rfl (fk rfl (fk rfl (fk rfl fn))))) ?_
        refine cg_ct rfl ?_
        refine cg_seq ?_
        refine cg_region ?_
        refine lsw (want_none (by rfl)) (y_assign rfl rfl) rfl (by decide) ?_
        refine lg_nil ?_
        refine nx (E' := [(2, _)]) (fk rfl fn) ?_
        refine cg_ret ?_
        refine eg_block_ret ?_
        refine eg_seq_ret ?_
        have u := u.trans (n1.below.mono u.size)
        have u := u.trans (hw17.mono u.size)
        have u := u.trans (hw24.mono u.size)
        exact eg_ret_tmp rfl rfl ⟨_, rfl, congrArg nv (show 7 = ndCheck L by simp [ndCheck, c25]), u⟩
      · refine lsw (want_none (by rfl)) (yb (decide_eq_false c25) (yi_lss rfl rfl rfl)) rfl (by decide) ?_
        refine lsw (want_none (by rfl)) (y_move rfl rfl) rfl (by decide) ?_
        refine lsw (want_t (dj := 19) (by rfl) (by kernel_rfl) rfl) (y_fld (off := 0) (by kernel_rfl) rfl rfl) rfl (by decide) ?_
        refine lsw (want_t (dj := 19) (by rfl) (by kernel_rfl) rfl) (y_cellv (v := nv L.kind) r1 rfl (by kernel_rfl) rfl rfl) rfl (by decide) ?_
        by_cases c26 : 2 < L.kind
        · refine lsw (want_t (dj := 19) (by rfl) (by kernel_rfl) rfl) (yb (decide_eq_true c26) (yi_gtr rfl rfl rfl)) rfl (by decide) ?_
          refine lsw (want_none (by rfl)) (y_pick false rfl rfl rfl) rfl (by decide) ?_
          refine lsw (want_none (by rfl)) (y_assign rfl rfl) rfl (by decide) ?_
          refine lg_nil ?_
          refine nx (E' := [(1, _), (2, _), (3, _), (4, _), (15, _)]) (fk rfl (fk rfl (fk rfl (fk rfl (fk rfl fn))))) ?_
          refine cg_ct rfl ?_
          refine cg_seq ?_
          refine cg_region ?_
          refine lsw (want_none (by rfl)) (y_assign rfl rfl) rfl (by decide) ?_
          refine lg_nil ?_
          refine nx (E' := [(2, _)]) (fk rfl fn) ?_
          refine cg_ret ?_
          refine eg_block_ret ?_
          refine eg_seq_ret ?_
          have u := u.trans (n1.below.mono u.size)
          have u := u.trans (hw17.mono u.size)
          have u := u.trans (hw24.mono u.size)
          exact eg_ret_tmp rfl rfl ⟨_, rfl, congrArg nv (show 7 = ndCheck L by simp [ndCheck, c25, c26]), u⟩
        · refine lsw (want_t (dj := 19) (by rfl) (by kernel_rfl) rfl) (yb (decide_eq_false c26) (yi_gtr rfl rfl rfl)) rfl (by decide) ?_
          refine lsw (want_none (by rfl)) (y_pick false rfl rfl rfl) rfl (by decide) ?_
          refine lsw (want_none (by rfl)) (y_assign rfl rfl) rfl (by decide) ?_
          refine lg_nil ?_
          refine nx (E' := [(1, _), (2, _), (3, _), (4, _), (15, _)]) (fk rfl (fk rfl (fk rfl (fk rfl (fk rfl fn))))) ?_
          refine cg_cf rfl ?_
          refine cg_seq ?_
          refine cg_region ?_
          refine lsw (want_none (by rfl)) (y_move rfl rfl) rfl (by decide) ?_
          refine lsw (want_none (by rfl)) (y_move rfl rfl) rfl (by decide) ?_
          refine lsw (want_t (dj := 26) (by rfl) (by kernel_rfl) rfl) (y_fld (off := 0) (by kernel_rfl) rfl rfl) rfl (by decide) ?_
          refine lsw (want_t (dj := 26) (by rfl) (by kernel_rfl) rfl) (y_cellv (v := nv L.kind) r1 rfl (by kernel_rfl) rfl rfl) rfl (by decide) ?_
          by_cases c27 : L.kind = 1
          · refine lsw (want_t (dj := 26) (by rfl) (by kernel_rfl) rfl) (yb (nd_f c27) (yi_neq rfl rfl rfl)) rfl (by decide) ?_
            refine lsw (want_none (by rfl)) (y_pick true rfl rfl rfl) rfl (by decide) ?_
            refine lsw (want_none (by rfl)) (y_move rfl rfl) rfl (by decide) ?_
            refine lsw (want_t (dj := 31) (by rfl) (by kernel_rfl) rfl) (y_move rfl rfl) rfl (by decide) ?_
            refine lsw (want_t (dj := 31) (by rfl) (by kernel_rfl) rfl) (y_move rfl rfl) rfl (by decide) ?_
            refine lsw (want_t (dj := 33) (by rfl) (by kernel_rfl) rfl) (y_fld (off := 0) (by kernel_rfl) rfl rfl) rfl (by decide) ?_
            refine lsw (want_t (dj := 33) (by rfl) (by kernel_rfl) rfl) (y_cellv (v := nv L.kind) r1 rfl (by kernel_rfl) rfl rfl) rfl (by decide) ?_
            refine lsw (want_t (dj := 33) (by rfl) (by kernel_rfl) rfl) (yb (nd_t (show ¬ (L.kind = 2) from (show ¬ (L.kind = 2) by omega))) (yi_neq rfl rfl rfl)) rfl (by decide) ?_
            refine lsw (want_t (dj := 31) (by rfl) (by kernel_rfl) rfl) (y_pick true rfl rfl rfl) rfl (by decide) ?_
            refine lsw (want_none (by rfl)) (y_pick false rfl rfl rfl) rfl (by decide) ?_
            refine lsw (want_none (by rfl)) (y_assign rfl rfl) rfl (by decide) ?_
            refine lg_nil ?_
            refine nx (E' := [(1, _), (2, _), (24, _)]) (fk rfl (fk rfl (fk rfl fn))) ?_
            refine cg_ct rfl ?_
            refine cg_seq ?_
            refine cg_region ?_
            refine lsw (want_none (by rfl)) (y_assign rfl rfl) rfl (by decide) ?_
            refine lg_nil ?_
            refine nx (E' := [(2, _)]) (fk rfl fn) ?_
            refine cg_ret ?_
            refine eg_block_ret ?_
            refine eg_seq_ret ?_
            have u := u.trans (n1.below.mono u.size)
            have u := u.trans (hw17.mono u.size)
            have u := u.trans (hw24.mono u.size)
            exact eg_ret_tmp rfl rfl ⟨_, rfl, congrArg nv (show 2 = ndCheck L by simp [ndCheck, c2, c18, c27]), u⟩
          · refine lsw (want_t (dj := 26) (by rfl) (by kernel_rfl) rfl) (yb (nd_t c27) (yi_neq rfl rfl rfl)) rfl (by decide) ?_
            refine lsw (want_none (by rfl)) (y_pick true rfl rfl rfl) rfl (by decide) ?_
            refine lsw (want_none (by rfl)) (y_move rfl rfl) rfl (by decide) ?_
            refine lsk (want_f (dj := 31) (by rfl) (by kernel_rfl) rfl) rfl (by decide) ?_
            refine lsk (want_f (dj := 31) (by rfl) (by kernel_rfl) rfl) rfl (by decide) ?_
            refine lsk (want_u (dj := 33) (by rfl) (by kernel_rfl) rfl) rfl (by decide) ?_
            refine lsk (want_u (dj := 33) (by rfl) (by kernel_rfl) rfl) rfl (by decide) ?_
            refine lsk (want_u (dj := 33) (by rfl) (by kernel_rfl) rfl) rfl (by decide) ?_
            refine lsk (want_f (dj := 31) (by rfl) (by kernel_rfl) rfl) rfl (by decide) ?_
            refine lsw (want_none (by rfl)) (y_pick true rfl rfl rfl) rfl (by decide) ?_
            refine lsw (want_none (by rfl)) (y_assign rfl rfl) rfl (by decide) ?_
            refine lg_nil ?_
            refine nx (E' := [(1, _), (2, _), (24, _)]) (fk rfl (fk rfl (fk rfl fn))) ?_
            refine cg_ct rfl ?_
            refine cg_seq ?_
            refine cg_region ?_
            refine lsw (want_none (by rfl)) (y_assign rfl rfl) rfl (by decide) ?_
            refine lg_nil ?_
            refine nx (E' := [(2, _)]) (fk rfl fn) ?_
            refine cg_ret ?_
            refine eg_block_ret ?_
            refine eg_seq_ret ?_
            have u := u.trans (n1.below.mono u.size)
            have u := u.trans (hw17.mono u.size)
            have u := u.trans (hw24.mono u.size)
            exact eg_ret_tmp rfl rfl ⟨_, rfl, congrArg nv (show 2 = ndCheck L by simp [ndCheck, c2, c18, c25, c26, c27]), u⟩
theorem rsameN_any {W : World} {B : Nat} {l m : NdV} {L M : Nd} (hl : IsNd W B l L) (hm : IsNd W B m M) (hB : B ≤ W.heap.size) : Calls Try.prog 13 #[.agg (l.cs L), .agg (m.cs M)] W fun e W' => ∃ v, e = .returned v ∧ v = .bool (decide (NdSame L M)) ∧ Below W.heap.size W W' := by
  refine calls_cg (n := 24) Try.func13 rfl Try.ntmps13 (by simp) ?_
  show CG _ _ _ [(0, .agg (l.cs L)), (1, .agg (m.cs M))] _ _
  have u := Below.refl W.heap.size W
  refine cg_seq ?_
  refine cg_region ?_
  refine lg_boxw (want_none (by rfl)) rfl rfl (by kernel_rfl) rfl (by decide) fun b1 w1 n1 => ?_
  have r1 := n1.row
  have k1 := n1.blk
  have z1 := n1.size
  have lt1 : b1 < w1.heap.size := by omega
  refine lg_boxw (want_none (by rfl)) rfl rfl (by kernel_rfl) rfl (by decide) fun b2 w2 n2 => ?_
  have r2 := n2.row
  have k2 := n2.blk
  have z2 := n2.size
  have lt2 : b2 < w2.heap.size := by omega
  refine lsw (want_none (by rfl)) (y_assign rfl rfl) rfl (by decide) ?_
  refine lg_nil ?_
  refine nx (E' := [(2, _), (3, _), (4, _)]) (fk rfl (fk rfl (fk rfl fn))) ?_
  refine cg_seq ?_
  refine cg_region ?_
  refine lsw (want_none (by rfl)) (y_fld (off := 0) (by kernel_rfl) rfl rfl) rfl (by decide) ?_
  have r1 := n2.keep r1
  refine lsw (want_none (by rfl)) (y_cellv (v := nv L.kind) r1 rfl (by kernel_rfl) rfl rfl) rfl (by decide) ?_
  refine lsw (want_none (by rfl)) (y_fld (off := 0) (by kernel_rfl) rfl rfl) rfl (by decide) ?_
  refine lsw (want_none (by rfl)) (y_cellv (v := nv M.kind) r2 rfl (by kernel_rfl) rfl rfl) rfl (by decide) ?_
  by_cases c3 : L.kind = M.kind
  · refine lsw (want_none (by rfl)) (yb (decide_eq_true c3) (yi_eql rfl rfl rfl)) rfl (by decide) ?_
    refine lsw (want_none (by rfl)) (y_move rfl rfl) rfl (by decide) ?_
    refine lsw (want_t (dj := 10) (by rfl) (by kernel_rfl) rfl) (y_fld (off := 1) (by kernel_rfl) rfl rfl) rfl (by decide) ?_
    refine lsw (want_t (dj := 10) (by rfl) (by kernel_rfl) rfl) (y_part r1 (m := 4) rfl (show 1+4 ≤ 8 by decide) (by kernel_rfl) (by kernel_rfl) rfl rfl) rfl (by decide) ?_
    refine lsw (want_t (dj := 10) (by rfl) (by kernel_rfl) rfl) (y_fld (off := 1) (by kernel_rfl) rfl rfl) rfl (by decide) ?_
    refine lsw (want_t (dj := 10) (by rfl) (by kernel_rfl) rfl) (y_part r2 (m := 4) rfl (show 1+4 ≤ 8 by decide) (by kernel_rfl) (by kernel_rfl) rfl rfl) rfl (by decide) ?_
    have hl := hl.below (n1.below.mono (by omega))
    have hl := hl.below (n2.below.mono (by omega))
    have hm := hm.below (n1.below.mono (by omega))
    have hm := hm.below (n2.below.mono (by omega))
    by_cases c4 : LfSame L.leaf M.leaf
    · refine lg_callw (want_t (dj := 10) (by rfl) (by kernel_rfl) rfl) (rsame_any (hl.leaf.more (B' := w2.heap.size) (by omega)) (hm.leaf.more (B' := w2.heap.size) (by omega)) (Nat.le_refl _)) (by kernel_rfl) rfl rfl rfl (by decide) ?_
      rintro u5 w5 ⟨e5, hw5⟩
      have zw5 := hw5.size
      obtain rfl : u5 = .bool true := e5.trans (congrArg Value.bool (decide_eq_true c4))
      refine lsw (want_none (by rfl)) (y_pick true rfl rfl rfl) rfl (by decide) ?_
      refine lsw (want_none (by rfl)) (y_move rfl rfl) rfl (by decide) ?_
      refine lsw (want_t (dj := 17) (by rfl) (by kernel_rfl) rfl) (y_fld (off := 5) (by kernel_rfl) rfl rfl) rfl (by decide) ?_
      have r1 := RowAt.below hw5 r1.lt r1
      refine lsw (want_t (dj := 17) (by rfl) (by kernel_rfl) rfl) (y_part r1 (m := 3) rfl (show 5+3 ≤ 8 by decide) (by kernel_rfl) (by kernel_rfl) rfl rfl) rfl (by decide) ?_
      refine lsw (want_t (dj := 17) (by rfl) (by kernel_rfl) rfl) (y_fld (off := 5) (by kernel_rfl) rfl rfl) rfl (by decide) ?_
      have r2 := RowAt.below hw5 r2.lt r2
      refine lsw (want_t (dj := 17) (by rfl) (by kernel_rfl) rfl) (y_part r2 (m := 3) rfl (show 5+3 ≤ 8 by decide) (by kernel_rfl) (by kernel_rfl) rfl rfl) rfl (by decide) ?_
      have hl := hl.below (hw5.mono (by omega))
      have hm := hm.below (hw5.mono (by omega))
      by_cases c6 : PnSame L.inner M.inner
      · refine lg_callw (want_t (dj := 17) (by rfl) (by kernel_rfl) rfl) (rsameP_any (hl.inner.more (B' := w5.heap.size) (by omega)) (hm.inner.more (B' := w5.heap.size) (by omega)) (Nat.le_refl _)) (by kernel_rfl) rfl rfl rfl (by decide) ?_
        rintro u7 w7 ⟨e7, hw7⟩
        have zw7 := hw7.size
        obtain rfl : u7 = .bool true := e7.trans (congrArg Value.bool (decide_eq_true c6))
        refine lsw (want_none (by rfl)) (y_pick true rfl rfl rfl) rfl (by decide) ?_
        refine lsw (want_none (by rfl)) (y_assign rfl rfl) rfl (by decide) ?_
        refine lg_nil ?_
        refine nx (E' := [(4, _)]) (fk rfl fn) ?_
        refine cg_ret ?_
        have u := u.trans (n1.below.mono u.size)
        have u := u.trans (n2.below.mono u.size)
        have u := u.trans (hw5.mono u.size)
        have u := u.trans (hw7.mono u.size)
        exact eg_ret_tmp rfl rfl ⟨_, rfl, congrArg Value.bool (show true = decide (NdSame L M) from (decide_eq_true (by simp [NdSame, c3, c4, c6])).symm), u⟩
      · refine lg_callw (want_t (dj := 17) (by rfl) (by kernel_rfl) rfl) (rsameP_any (hl.inner.more (B' := w5.heap.size) (by omega)) (hm.inner.more (B' := w5.heap.size) (by omega)) (Nat.le_refl _)) (by kernel_rfl) rfl rfl rfl (by decide) ?_
        rintro u8 w8 ⟨e8, hw8⟩
        have zw8 := hw8.size
        obtain rfl : u8 = .bool false := e8.trans (congrArg Value.bool (decide_eq_false c6))
        refine lsw (want_none (by rfl)) (y_pick true rfl rfl rfl) rfl (by decide) ?_
        refine lsw (want_none (by rfl)) (y_assign rfl rfl) rfl (by decide) ?_
        refine lg_nil ?_
        refine nx (E' := [(4, _)]) (fk rfl fn) ?_
        refine cg_ret ?_
        have u := u.trans (n1.below.mono u.size)
        have u := u.trans (n2.below.mono u.size)
        have u := u.trans (hw5.mono u.size)
        have u := u.trans (hw8.mono u.size)
        exact eg_ret_tmp rfl rfl ⟨_, rfl, congrArg Value.bool (show false = decide (NdSame L M) from (decide_eq_false (by simp [NdSame, c3, c4, c6])).symm), u⟩
    · refine lg_callw (want_t (dj := 10) (by rfl) (by kernel_rfl) rfl) (rsame_any (hl.leaf.more (B' := w2.heap.size) (by omega)) (hm.leaf.more (B' := w2.heap.size) (by omega)) (Nat.le_refl _)) (by kernel_rfl) rfl rfl rfl (by decide) ?_
      rintro u9 w9 ⟨e9, hw9⟩
      have zw9 := hw9.size
      obtain rfl : u9 = .bool false := e9.trans (congrArg Value.bool (decide_eq_false c4))
      refine lsw (want_none (by rfl)) (y_pick true rfl rfl rfl) rfl (by decide) ?_
      refine lsw (want_none (by rfl)) (y_move rfl rfl) rfl (by decide) ?_
      refine lsk (want_f (dj := 17) (by rfl) (by kernel_rfl) rfl) rfl (by decide) ?_
      refine lsk (want_f (dj := 17) (by rfl) (by kernel_rfl) rfl) rfl (by decide) ?_
      refine lsk (want_f (dj := 17) (by rfl) (by kernel_rfl) rfl) rfl (by decide) ?_
      refine lsk (want_f (dj := 17) (by rfl) (by kernel_rfl) rfl) rfl (by decide) ?_
      refine lsk (want_f (dj := 17) (by rfl) (by kernel_rfl) rfl) rfl (by decide) ?_
      refine lsw (want_none (by rfl)) (y_pick false rfl rfl rfl) rfl (by decide) ?_
      refine lsw (want_none (by rfl)) (y_assign rfl rfl) rfl (by decide) ?_
      refine lg_nil ?_
      refine nx (E' := [(4, _)]) (fk rfl fn) ?_
      refine cg_ret ?_
      have u := u.trans (n1.below.mono u.size)
      have u := u.trans (n2.below.mono u.size)
      have u := u.trans (hw9.mono u.size)
      exact eg_ret_tmp rfl rfl ⟨_, rfl, congrArg Value.bool (show false = decide (NdSame L M) from (decide_eq_false (by simp [NdSame, c3, c4])).symm), u⟩
  · refine lsw (want_none (by rfl)) (yb (decide_eq_false c3) (yi_eql rfl rfl rfl)) rfl (by decide) ?_
    refine lsw (want_none (by rfl)) (y_move rfl rfl) rfl (by decide) ?_
    refine lsk (want_f (dj := 10) (by rfl) (by kernel_rfl) rfl) rfl (by decide) ?_
    refine lsk (want_f (dj := 10) (by rfl) (by kernel_rfl) rfl) rfl (by decide) ?_
    refine lsk (want_f (dj := 10) (by rfl) (by kernel_rfl) rfl) rfl (by decide) ?_
    refine lsk (want_f (dj := 10) (by rfl) (by kernel_rfl) rfl) rfl (by decide) ?_
    refine lsk (want_f (dj := 10) (by rfl) (by kernel_rfl) rfl) rfl (by decide) ?_
    refine lsw (want_none (by rfl)) (y_pick false rfl rfl rfl) rfl (by decide) ?_
    refine lsw (want_none (by rfl)) (y_move rfl rfl) rfl (by decide) ?_
    refine lsk (want_f (dj := 17) (by rfl) (by kernel_rfl) rfl) rfl (by decide) ?_
    refine lsk (want_f (dj := 17) (by rfl) (by kernel_rfl) rfl) rfl (by decide) ?_
    refine lsk (want_f (dj := 17) (by rfl) (by kernel_rfl) rfl) rfl (by decide) ?_
    refine lsk (want_f (dj := 17) (by rfl) (by kernel_rfl) rfl) rfl (by decide) ?_
    refine lsk (want_f (dj := 17) (by rfl) (by kernel_rfl) rfl) rfl (by decide) ?_
    refine lsw (want_none (by rfl)) (y_pick false rfl rfl rfl) rfl (by decide) ?_
    refine lsw (want_none (by rfl)) (y_assign rfl rfl) rfl (by decide) ?_
    refine lg_nil ?_
    refine nx (E' := [(4, _)]) (fk rfl fn) ?_
    refine cg_ret ?_
    have u := u.trans (n1.below.mono u.size)
    have u := u.trans (n2.below.mono u.size)
    exact eg_ret_tmp rfl rfl ⟨_, rfl, congrArg Value.bool (show false = decide (NdSame L M) from (decide_eq_false (by simp [NdSame, c3])).symm), u⟩
theorem rasN_any {W : World} {B : Nat} {l : NdV} {L : Nd} (hl : IsNd W B l L) (hB : B ≤ W.heap.size) : Calls Try.prog 46 #[.agg (l.cs L)] W fun e W' => ∃ v, e = .returned v ∧ ∃ l' : NdV, v = .agg (l'.cs (ndAs L)) ∧ IsNd W' B l' (ndAs L) ∧ Below W.heap.size W W' := by
  refine calls_cg (n := 8) Try.func46 rfl Try.ntmps46 (by simp) ?_
  show CG _ _ _ [(0, .agg (l.cs L))] _ _
  have u := Below.refl W.heap.size W
  refine cg_seq ?_
  refine cg_region ?_
  refine lg_boxw (want_none (by rfl)) rfl rfl (by kernel_rfl) rfl (by decide) fun b1 w1 n1 => ?_
  have r1 := n1.row
  have k1 := n1.blk
  have z1 := n1.size
  have lt1 : b1 < w1.heap.size := by omega
  refine lg_allocw (cs := NdV.zero.cs Nd.zero) (want_none (by rfl)) rfl (by kernel_rfl) rfl (by decide) fun b2 w2 n2 => ?_
  have r2 := n2.row
  have k2 := n2.blk
  have z2 := n2.size
  have lt2 : b2 < w2.heap.size := by omega
  refine lg_nil ?_
  refine nx (E' := [(1, _), (2, _)]) (fk rfl (fk rfl fn)) ?_
  refine cg_seq ?_
  refine cg_seq ?_
  refine cg_region ?_
  have r1 := n2.keep r1
  refine lsw (want_none (by rfl)) (y_loadA r1 (by kernel_rfl) (by kernel_rfl) rfl rfl) rfl (by decide) ?_
  have hl := hl.below (n1.below.mono (by omega))
  have hl := hl.below (n2.below.mono (by omega))
  refine lg_callw (want_none (by rfl)) (rcheckN_any (hl.more (B' := w2.heap.size) (by omega)) (Nat.le_refl _)) (by kernel_rfl) rfl rfl rfl (by decide) ?_
  rintro _ w3 ⟨rfl, hw3⟩
  have zw3 := hw3.size
  by_cases c4 : (ndCheck L) = 0
  · refine lsw (want_none (by rfl)) (yb (nd_f c4) (yi_neq rfl rfl rfl)) rfl (by decide) ?_
    refine lg_nil ?_
    refine nx (E' := [(1, _), (2, _), (5, _)]) (fk rfl (fk rfl (fk rfl fn))) ?_
    refine cg_cf rfl ?_
    refine cg_skip ?_
    refine nx (E' := [(1, _), (2, _)]) (fk rfl (fk rfl fn)) ?_
    refine cg_seq ?_
    refine cg_region ?_
    have r1 := RowAt.below hw3 r1.lt r1
    refine lsw (want_none (by rfl)) (y_loadA r1 (by kernel_rfl) (by kernel_rfl) rfl rfl) rfl (by decide) ?_
    have r2 := RowAt.below hw3 r2.lt r2
    have o5 := r2
    refine lg_stw (want_none (by rfl)) r2 rfl rfl rfl (by kernel_rfl) (by kernel_rfl) rfl rfl fun w5 s5 => ?_
    have r2 := s5.row
    have z5 := s5.size
    refine lg_nil ?_
    refine nx (E' := [(2, _)]) (fk rfl fn) ?_
    refine cg_ret ?_
    have hl := hl.below (hw3.mono (by omega))
    have hl := hl.below (s5.below _ (by omega))
    have u := u.trans (n1.below.mono u.size)
    have u := u.trans (n2.below.mono u.size)
    have u := u.trans (hw3.mono u.size)
    have u := u.trans (s5.below _ (by omega))
    refine eg_ret_agg rfl rfl r2 (by kernel_rfl) (by kernel_rfl) ?_
    rw [ndAs_ok c4]
    exact ⟨_, rfl, l, rfl, hl, u⟩
  · refine lsw (want_none (by rfl)) (yb (nd_t c4) (yi_neq rfl rfl rfl)) rfl (by decide) ?_
    refine lg_nil ?_
    refine nx (E' := [(1, _), (2, _), (5, _)]) (fk rfl (fk rfl (fk rfl fn))) ?_
    refine cg_ct rfl ?_
    refine cg_seq ?_
    refine cg_region ?_
    refine lsw (want_none (by rfl)) (y_build (cs := NdV.zero.cs Nd.zero) rfl rfl (by kernel_rfl)) rfl (by decide) ?_
    have r2 := RowAt.below hw3 r2.lt r2
    have o6 := r2
    refine lg_stw (want_none (by rfl)) r2 rfl rfl rfl (by kernel_rfl) (by kernel_rfl) rfl rfl fun w6 s6 => ?_
    have r2 := s6.row
    have z6 := s6.size
    refine lg_nil ?_
    refine nx (E' := [(1, _), (2, _)]) (fk rfl (fk rfl fn)) ?_
    refine cg_ret ?_
    refine eg_seq_ret ?_
    have u := u.trans (n1.below.mono u.size)
    have u := u.trans (n2.below.mono u.size)
    have u := u.trans (hw3.mono u.size)
    have u := u.trans (s6.below _ (by omega))
    refine eg_ret_agg rfl rfl r2 (by kernel_rfl) (by kernel_rfl) ?_
    rw [ndAs_no c4]
    exact ⟨_, rfl, NdV.zero, rfl, (IsNd.zero _ _), u⟩
theorem rputN_any {W : World} {B : Nat} {s : SlV} {xs : List Int} {l : NdV} {L : Nd} (h : Sl W B s xs) (hl : IsNd W B l L) (hB : B ≤ W.heap.size) (hx : xs.length ≤ 10000) : Calls Try.prog 17 #[s.v, .agg (l.cs L)] W fun e W' => ∃ v, e = .returned v ∧ PutS W (xs ++ ndPut L) v W' := by
  refine calls_cg (n := 36) Try.func17 rfl Try.ntmps17 (by simp) ?_
  show CG _ _ _ [(0, s.v), (1, .agg (l.cs L))] _ _
  have u := Below.refl W.heap.size W
  refine cg_seq ?_
  refine cg_region ?_
  refine lg_boxw (want_none (by rfl)) rfl rfl (by kernel_rfl) rfl (by decide) fun b1 w1 n1 => ?_
  have r1 := n1.row
  have k1 := n1.blk
  have z1 := n1.size
  have lt1 : b1 < w1.heap.size := by omega
  refine lsw (want_none (by rfl)) (y_assign rfl rfl) rfl (by decide) ?_
  refine lg_nil ?_
  refine nx (E' := [(0, _), (3, _), (4, _)]) (fk rfl (fk rfl (fk rfl fn))) ?_
  refine cg_seq ?_
  refine cg_region ?_
  refine lsw (want_none (by rfl)) (y_loadA r1 (by kernel_rfl) (by kernel_rfl) rfl rfl) rfl (by decide) ?_
  have hl := hl.below (n1.below.mono (by omega))
  refine lg_callw (want_none (by rfl)) (rasN_any (hl.more (B' := w1.heap.size) (by omega)) (Nat.le_refl _)) (by kernel_rfl) rfl rfl rfl (by decide) ?_
  rintro _ w2 ⟨l2, rfl, m2, hw2⟩
  have zw2 := hw2.size
  refine lg_allocw (cs := NdV.zero.cs Nd.zero) (want_none (by rfl)) rfl (by kernel_rfl) rfl (by decide) fun b3 w3 n3 => ?_
  have r3 := n3.row
  have k3 := n3.blk
  have z3 := n3.size
  have lt3 : b3 < w3.heap.size := by omega
  have o4 := r3
  refine lg_stw (want_none (by rfl)) r3 rfl rfl rfl (by kernel_rfl) (by kernel_rfl) rfl rfl fun w4 s4 => ?_
  have r3 := s4.row
  have z4 := s4.size
  refine lg_nil ?_
  refine nx (E' := [(0, _), (4, _), (5, _)]) (fk rfl (fk rfl (fk rfl fn))) ?_
  refine cg_seq ?_
  refine cg_region ?_
  refine lsw (want_none (by rfl)) (y_move rfl rfl) rfl (by decide) ?_
  refine lsw (want_none (by rfl)) (y_fld (off := 0) (by kernel_rfl) rfl rfl) rfl (by decide) ?_
  refine lsw (want_none (by rfl)) (y_cellv (v := nv ((ndAs L).kind)) r3 rfl (by kernel_rfl) rfl rfl) rfl (by decide) ?_
  by_cases c5 : (ndAs L).kind = 0
  · refine lsw (want_none (by rfl)) (yb (nd_f c5) (yi_neq rfl rfl rfl)) rfl (by decide) ?_
    have h := h.below (n1.below.mono (by omega))
    have h := h.below (hw2.mono (by omega))
    have h := h.below (n3.below.mono (by omega))
    have h := h.set o4 rfl s4
    refine lg_callw (want_none (by rfl)) (rputFlag_S false h (by omega) (by first | omega | (simp only [List.length_append, List.length_cons, List.length_nil, numOct_length, flagOct_length]; omega))) (by kernel_rfl) rfl rfl rfl (by decide) ?_
    rintro _ w6 ⟨r6, rfl, m6, hw6⟩
    have zw6 := hw6.size
    refine lsw (want_none (by rfl)) (y_assign rfl rfl) rfl (by decide) ?_
    refine lg_nil ?_
    refine nx (E' := [(4, _), (5, _), (6, _)]) (fk rfl (fk rfl (fk rfl fn))) ?_
    refine cg_seq ?_
    refine cg_seq ?_
    refine cg_region ?_
    refine lsw (want_none (by rfl)) (y_fld (off := 0) (by kernel_rfl) rfl rfl) rfl (by decide) ?_
    have r3 := RowAt.below hw6 r3.lt r3
    refine lsw (want_none (by rfl)) (y_cellv (v := nv ((ndAs L).kind)) r3 rfl (by kernel_rfl) rfl rfl) rfl (by decide) ?_
    refine lsw (want_none (by rfl)) (yb (nd_f c5) (yi_neq rfl rfl rfl)) rfl (by decide) ?_
    refine lg_nil ?_
    refine nx (E' := [(4, _), (5, _), (6, _), (16, _)]) (fk rfl (fk rfl (fk rfl (fk rfl fn)))) ?_
    refine cg_cf rfl ?_
    refine cg_skip ?_
    refine nx (E' := [(4, _), (5, _), (6, _)]) (fk rfl (fk rfl (fk rfl fn))) ?_
    refine cg_seq ?_
    refine cg_seq ?_
    refine cg_region ?_
    refine lsw (want_none (by rfl)) (y_fld (off := 0) (by kernel_rfl) rfl rfl) rfl (by decide) ?_
    refine lsw (want_none (by rfl)) (y_cellv (v := nv ((ndAs L).kind)) r3 rfl (by kernel_rfl) rfl rfl) rfl (by decide) ?_
    refine lsw (want_none (by rfl)) (yb (decide_eq_false (show ¬ ((ndAs L).kind = 1) from (show ¬ ((ndAs L).kind = 1) by omega))) (yi_eql rfl rfl rfl)) rfl (by decide) ?_
    refine lg_nil ?_
    refine nx (E' := [(4, _), (5, _), (6, _), (23, _)]) (fk rfl (fk rfl (fk rfl (fk rfl fn)))) ?_
    refine cg_cf rfl ?_
    refine cg_skip ?_
    refine nx (E' := [(4, _), (5, _), (6, _)]) (fk rfl (fk rfl (fk rfl fn))) ?_
    refine cg_seq ?_
    refine cg_seq ?_
    refine cg_region ?_
    refine lsw (want_none (by rfl)) (y_fld (off := 0) (by kernel_rfl) rfl rfl) rfl (by decide) ?_
    refine lsw (want_none (by rfl)) (y_cellv (v := nv ((ndAs L).kind)) r3 rfl (by kernel_rfl) rfl rfl) rfl (by decide) ?_
    refine lsw (want_none (by rfl)) (yb (decide_eq_false (show ¬ ((ndAs L).kind = 2) from (show ¬ ((ndAs L).kind = 2) by omega))) (yi_eql rfl rfl rfl)) rfl (by decide) ?_
    refine lg_nil ?_
    refine nx (E' := [(4, _), (5, _), (6, _), (30, _)]) (fk rfl (fk rfl (fk rfl (fk rfl fn)))) ?_
    refine cg_cf rfl ?_
    refine cg_skip ?_
    refine nx (E' := [(4, _), (6, _)]) (fk rfl (fk rfl fn)) ?_
    refine cg_seq ?_
    refine cg_region ?_
    refine lsw (want_none (by rfl)) (y_move rfl rfl) rfl (by decide) ?_
    refine lsw (want_none (by rfl)) (y_assign rfl rfl) rfl (by decide) ?_
    refine lg_nil ?_
    refine nx (E' := [(4, _)]) (fk rfl fn) ?_
    refine cg_ret ?_
    have u := u.trans (n1.below.mono u.size)
    have u := u.trans (hw2.mono u.size)
    have u := u.trans (n3.below.mono u.size)
    have u := u.trans (s4.below _ (by omega))
    have u := u.trans (hw6.mono u.size)
    exact eg_ret_tmp rfl rfl ⟨_, rfl, r6, rfl, (m6.more (by omega)).cast (by rw [ndPut, if_neg (show ¬ ((ndAs L).kind = 1) by omega), if_neg (show ¬ ((ndAs L).kind = 2) by omega)]), u⟩
  · refine lsw (want_none (by rfl)) (yb (nd_t c5) (yi_neq rfl rfl rfl)) rfl (by decide) ?_
    have h := h.below (n1.below.mono (by omega))
    have h := h.below (hw2.mono (by omega))
    have h := h.below (n3.below.mono (by omega))
    have h := h.set o4 rfl s4
    refine lg_callw (want_none (by rfl)) (rputFlag_S true h (by omega) (by first | omega | (simp only [List.length_append, List.length_cons, List.length_nil, numOct_length, flagOct_length]; omega))) (by kernel_rfl) rfl rfl rfl (by decide) ?_
    rintro _ w7 ⟨r7, rfl, m7, hw7⟩
    have zw7 := hw7.size
    refine lsw (want_none (by rfl)) (y_assign rfl rfl) rfl (by decide) ?_
    refine lg_nil ?_
    refine nx (E' := [(4, _), (5, _), (6, _)]) (fk rfl (fk rfl (fk rfl fn))) ?_
    refine cg_seq ?_
    refine cg_seq ?_
    refine cg_region ?_
    refine lsw (want_none (by rfl)) (y_fld (off := 0) (by kernel_rfl) rfl rfl) rfl (by decide) ?_
    have r3 := RowAt.below hw7 r3.lt r3
    refine lsw (want_none (by rfl)) (y_cellv (v := nv ((ndAs L).kind)) r3 rfl (by kernel_rfl) rfl rfl) rfl (by decide) ?_
    refine lsw (want_none (by rfl)) (yb (nd_t c5) (yi_neq rfl rfl rfl)) rfl (by decide) ?_
    refine lg_nil ?_
    refine nx (E' := [(4, _), (5, _), (6, _), (16, _)]) (fk rfl (fk rfl (fk rfl (fk rfl fn)))) ?_
    refine cg_ct rfl ?_
    refine cg_region ?_
    refine lsw (want_none (by rfl)) (y_move rfl rfl) rfl (by decide) ?_
    refine lsw (want_none (by rfl)) (y_fld (off := 0) (by kernel_rfl) rfl rfl) rfl (by decide) ?_
    refine lsw (want_none (by rfl)) (y_cellv (v := nv ((ndAs L).kind)) r3 rfl (by kernel_rfl) rfl rfl) rfl (by decide) ?_
    refine lg_callw (want_none (by rfl)) (rputNum_S ((ndAs L).kind) 1 m7 (by omega) (by first | omega | (simp only [List.length_append, flagOct_length]; omega))) (by kernel_rfl) rfl rfl rfl (by decide) ?_
    rintro _ w8 ⟨r8, rfl, m8, hw8⟩
    have zw8 := hw8.size
    have wk8 := widthK_le 1
    refine lsw (want_none (by rfl)) (y_assign rfl rfl) rfl (by decide) ?_
    refine lg_nil ?_
    refine nx (E' := [(4, _), (5, _), (6, _)]) (fk rfl (fk rfl (fk rfl fn))) ?_
    refine cg_seq ?_
    refine cg_seq ?_
    refine cg_region ?_
    refine lsw (want_none (by rfl)) (y_fld (off := 0) (by kernel_rfl) rfl rfl) rfl (by decide) ?_
    have r3 := RowAt.below hw8 r3.lt r3
    refine lsw (want_none (by rfl)) (y_cellv (v := nv ((ndAs L).kind)) r3 rfl (by kernel_rfl) rfl rfl) rfl (by decide) ?_
    by_cases c9 : (ndAs L).kind = 1
    · obtain ⟨eaL, ckL⟩ := ndAs_kind (L := L) (by omega)
      have kL : L.kind = 1 := (congrArg Nd.kind eaL).symm.trans c9
      refine lsw (want_none (by rfl)) (yb (decide_eq_true c9) (yi_eql rfl rfl rfl)) rfl (by decide) ?_
      refine lg_nil ?_
      refine nx (E' := [(4, _), (5, _), (6, _), (23, _)]) (fk rfl (fk rfl (fk rfl (fk rfl fn)))) ?_
      refine cg_ct rfl ?_
      refine cg_region ?_
      refine lsw (want_none (by rfl)) (y_move rfl rfl) rfl (by decide) ?_
      refine lsw (want_none (by rfl)) (y_fld (off := 1) (by kernel_rfl) rfl rfl) rfl (by decide) ?_
      refine lsw (want_none (by rfl)) (y_part r3 (m := 4) rfl (show 1+4 ≤ 8 by decide) (by kernel_rfl) (by kernel_rfl) rfl rfl) rfl (by decide) ?_
      have m2 := m2.below (n3.below.mono (by omega))
      have m2 := m2.below (s4.below _ (by omega))
      have m2 := m2.below (hw7.mono (by omega))
      have m2 := m2.below (hw8.mono (by omega))
      refine lg_callw (want_none (by rfl)) (rputL_any (m8.more (B' := w8.heap.size) (by omega)) (m2.leaf.more (B' := w8.heap.size) (by omega)) (Nat.le_refl _) (by first | omega | (simp only [List.length_append, numOct_length, flagOct_length]; omega))) (by kernel_rfl) rfl rfl rfl (by decide) ?_
      rintro _ w10 ⟨r10, rfl, m10, hw10⟩
      have zw10 := hw10.size
      have lp10 := lfPut_le ((ndAs L).leaf)
      refine lsw (want_none (by rfl)) (y_assign rfl rfl) rfl (by decide) ?_
      refine lg_nil ?_
      refine nx (E' := [(4, _), (5, _), (6, _)]) (fk rfl (fk rfl (fk rfl fn))) ?_
      refine cg_seq ?_
      refine cg_seq ?_
      refine cg_region ?_
      refine lsw (want_none (by rfl)) (y_fld (off := 0) (by kernel_rfl) rfl rfl) rfl (by decide) ?_
      have r3 := RowAt.below hw10 r3.lt r3
      refine lsw (want_none (by rfl)) (y_cellv (v := nv ((ndAs L).kind)) r3 rfl (by kernel_rfl) rfl rfl) rfl (by decide) ?_
      refine lsw (want_none (by rfl)) (yb (decide_eq_false (show ¬ ((ndAs L).kind = 2) from (show ¬ ((ndAs L).kind = 2) by omega))) (yi_eql rfl rfl rfl)) rfl (by decide) ?_
      refine lg_nil ?_
      refine nx (E' := [(4, _), (5, _), (6, _), (30, _)]) (fk rfl (fk rfl (fk rfl (fk rfl fn)))) ?_
      refine cg_cf rfl ?_
      refine cg_skip ?_
      refine nx (E' := [(4, _), (6, _)]) (fk rfl (fk rfl fn)) ?_
      refine cg_seq ?_
      refine cg_region ?_
      refine lsw (want_none (by rfl)) (y_move rfl rfl) rfl (by decide) ?_
      refine lsw (want_none (by rfl)) (y_assign rfl rfl) rfl (by decide) ?_
      refine lg_nil ?_
      refine nx (E' := [(4, _)]) (fk rfl fn) ?_
      refine cg_ret ?_
      have u := u.trans (n1.below.mono u.size)
      have u := u.trans (hw2.mono u.size)
      have u := u.trans (n3.below.mono u.size)
      have u := u.trans (s4.below _ (by omega))
      have u := u.trans (hw7.mono u.size)
      have u := u.trans (hw8.mono u.size)
      have u := u.trans (hw10.mono u.size)
      exact eg_ret_tmp rfl rfl ⟨_, rfl, r10, rfl, (m10.more (by omega)).cast (by rw [ndPut, if_pos c9, eaL, kL]; simp only [List.append_assoc]), u⟩
    · refine lsw (want_none (by rfl)) (yb (decide_eq_false c9) (yi_eql rfl rfl rfl)) rfl (by decide) ?_
      refine lg_nil ?_
      refine nx (E' := [(4, _), (5, _), (6, _), (23, _)]) (fk rfl (fk rfl (fk rfl (fk rfl fn)))) ?_
      refine cg_cf rfl ?_
      refine cg_skip ?_
      refine nx (E' := [(4, _), (5, _), (6, _)]) (fk rfl (fk rfl (fk rfl fn))) ?_
      refine cg_seq ?_
      refine cg_seq ?_
      refine cg_region ?_
      refine lsw (want_none (by rfl)) (y_fld (off := 0) (by kernel_rfl) rfl rfl) rfl (by decide) ?_
      refine lsw (want_none (by rfl)) (y_cellv (v := nv ((ndAs L).kind)) r3 rfl (by kernel_rfl) rfl rfl) rfl (by decide) ?_
      by_cases c11 : (ndAs L).kind = 2
      · obtain ⟨eaL, ckL⟩ := ndAs_kind (L := L) (by omega)
        have kL : L.kind = 2 := (congrArg Nd.kind eaL).symm.trans c11
        refine lsw (want_none (by rfl)) (yb (decide_eq_true c11) (yi_eql rfl rfl rfl)) rfl (by decide) ?_
        refine lg_nil ?_
        refine nx (E' := [(4, _), (5, _), (6, _), (30, _)]) (fk rfl (fk rfl (fk rfl (fk rfl fn)))) ?_
        refine cg_ct rfl ?_
        refine cg_region ?_
        refine lsw (want_none (by rfl)) (y_move rfl rfl) rfl (by decide) ?_
        refine lsw (want_none (by rfl)) (y_fld (off := 5) (by kernel_rfl) rfl rfl) rfl (by decide) ?_
        refine lsw (want_none (by rfl)) (y_part r3 (m := 3) rfl (show 5+3 ≤ 8 by decide) (by kernel_rfl) (by kernel_rfl) rfl rfl) rfl (by decide) ?_
        have m2 := m2.below (n3.below.mono (by omega))
        have m2 := m2.below (s4.below _ (by omega))
        have m2 := m2.below (hw7.mono (by omega))
        have m2 := m2.below (hw8.mono (by omega))
        refine lg_callw (want_none (by rfl)) (rputP_any (m8.more (B' := w8.heap.size) (by omega)) (m2.inner.more (B' := w8.heap.size) (by omega)) (Nat.le_refl _) (by first | omega | (simp only [List.length_append, numOct_length, flagOct_length]; omega))) (by kernel_rfl) rfl rfl rfl (by decide) ?_
        rintro _ w12 ⟨r12, rfl, m12, hw12⟩
        have zw12 := hw12.size
        have lp12 := pnPut_le ((ndAs L).inner)
        refine lsw (want_none (by rfl)) (y_assign rfl rfl) rfl (by decide) ?_
        refine lg_nil ?_
        refine nx (E' := [(4, _), (6, _)]) (fk rfl (fk rfl fn)) ?_
        refine cg_seq ?_
        refine cg_region ?_
        refine lsw (want_none (by rfl)) (y_move rfl rfl) rfl (by decide) ?_
        refine lsw (want_none (by rfl)) (y_assign rfl rfl) rfl (by decide) ?_
        refine lg_nil ?_
        refine nx (E' := [(4, _)]) (fk rfl fn) ?_
        refine cg_ret ?_
        have u := u.trans (n1.below.mono u.size)
        have u := u.trans (hw2.mono u.size)
        have u := u.trans (n3.below.mono u.size)
        have u := u.trans (s4.below _ (by omega))
        have u := u.trans (hw7.mono u.size)
        have u := u.trans (hw8.mono u.size)
        have u := u.trans (hw12.mono u.size)
        exact eg_ret_tmp rfl rfl ⟨_, rfl, r12, rfl, (m12.more (by omega)).cast (by rw [ndPut, if_neg c9, if_pos c11, eaL, kL]; simp only [List.append_assoc]), u⟩
      · exact absurd (ndAs_range L) (by omega)
set_option maxHeartbeats 4000000 in
theorem rgetN_any {W : World} {B : Nat} {s : SlV} {xs : List Int} (h : Sl W B s xs) (hB : B ≤ W.heap.size) : Calls Try.prog 12 #[s.v] W fun e W' => ∃ v, e = .returned v ∧ ∃ (l : NdV) (r : SlV), v = .tuple #[.agg (l.cs (ndGet xs).2.1), r.v, nv (ndGet xs).1] ∧ IsNd W' W'.heap.size l (ndGet xs).2.1 ∧ Sl W' B r (ndGet xs).2.2 ∧ l.fresh W.heap.size ∧ Below W.heap.size W W' := by
  refine calls_cg (n := 78) Try.func12 rfl Try.ntmps12 (by simp) ?_
  show CG _ _ _ [(0, s.v)] _ _
  have u := Below.refl W.heap.size W
  refine cg_seq ?_
  refine cg_region ?_
  refine lg_allocw (cs := NdV.zero.cs Nd.zero) (want_none (by rfl)) rfl (by kernel_rfl) rfl (by decide) fun b1 w1 n1 => ?_
  have r1 := n1.row
  have k1 := n1.blk
  have z1 := n1.size
  have lt1 : b1 < w1.heap.size := by omega
  refine lsw (want_none (by rfl)) (y_assign rfl rfl) rfl (by decide) ?_
  refine lsw (want_none (by rfl)) (y_assign rfl rfl) rfl (by decide) ?_
  refine lg_nil ?_
  refine nx (E' := [(0, _), (2, _), (3, _), (4, _)]) (fk rfl (fk rfl (fk rfl (fk rfl fn)))) ?_
  refine cg_seq ?_
  refine cg_region ?_
  refine lsw (want_none (by rfl)) (y_build (cs := NdV.zero.cs Nd.zero) rfl rfl (by kernel_rfl)) rfl (by decide) ?_
  refine lg_allocw (cs := NdV.zero.cs Nd.zero) (want_none (by rfl)) rfl (by kernel_rfl) rfl (by decide) fun b2 w2 n2 => ?_
  have r2 := n2.row
  have k2 := n2.blk
  have z2 := n2.size
  have lt2 : b2 < w2.heap.size := by omega
  have o3 := r2
  refine lg_stw (want_none (by rfl)) r2 rfl rfl rfl (by kernel_rfl) (by kernel_rfl) rfl rfl fun w3 s3 => ?_
  have r2 := s3.row
  have z3 := s3.size
  refine lg_nil ?_
  refine nx (E' := [(0, _), (2, _), (3, _), (4, _), (5, _)]) (fk rfl (fk rfl (fk rfl (fk rfl (fk rfl fn))))) ?_
  refine cg_seq ?_
  refine cg_region ?_
  refine lsw (want_none (by rfl)) (y_move rfl rfl) rfl (by decide) ?_
  have h := h.below (n1.below.mono (by omega))
  have h := h.below (n2.below.mono (by omega))
  have h := h.set o3 rfl s3
  by_cases c4 : flagB xs = true
  · refine lg_callw (want_none (by rfl)) (rgetFlag_S h) (by kernel_rfl) rfl rfl rfl (by decide) ?_
    rintro _ w5 ⟨bb5, r5, rfl, e5, l5, hw5⟩
    have zw5 := hw5.size
    obtain rfl : bb5 = true := e5.trans (decide_eq_true c4)
    refine lsw (want_none (by rfl)) (y_move rfl rfl) rfl (by decide) ?_
    refine lsw (want_none (by rfl)) (y_extract rfl rfl rfl) rfl (by decide) ?_
    refine lsw (want_none (by rfl)) (y_extract rfl rfl rfl) rfl (by decide) ?_
    refine lsw (want_none (by rfl)) (y_extract rfl rfl rfl) rfl (by decide) ?_
    refine lsw (want_none (by rfl)) (y_assign rfl rfl) rfl (by decide) ?_
    refine lsw (want_none (by rfl)) (y_assign rfl rfl) rfl (by decide) ?_
    refine lsw (want_none (by rfl)) (y_assign rfl rfl) rfl (by decide) ?_
    refine lg_nil ?_
    refine nx (E' := [(2, _), (3, _), (4, _), (5, _), (6, _), (7, _), (8, _)]) (fk rfl (fk rfl (fk rfl (fk rfl (fk rfl (fk rfl (fk rfl fn))))))) ?_
    refine cg_seq ?_
    refine cg_seq ?_
    refine cg_region ?_
    refine lsw (want_none (by rfl)) (y_move rfl rfl) rfl (by decide) ?_
    by_cases c6 : (flagE xs) = 0
    · refine lsw (want_none (by rfl)) (yb (nd_f c6) (yi_neq rfl rfl rfl)) rfl (by decide) ?_
      refine lg_nil ?_
      refine nx (E' := [(2, _), (3, _), (4, _), (5, _), (6, _), (7, _), (8, _), (26, _)]) (fk rfl (fk rfl (fk rfl (fk rfl (fk rfl (fk rfl (fk rfl (fk rfl fn)))))))) ?_
      refine cg_cf rfl ?_
      refine cg_skip ?_
      refine nx (E' := [(2, _), (3, _), (4, _), (5, _), (6, _), (7, _)]) (fk rfl (fk rfl (fk rfl (fk rfl (fk rfl (fk rfl fn)))))) ?_
      refine cg_seq ?_
      refine cg_seq ?_
      refine cg_region ?_
      refine lsw (want_none (by rfl)) (y_move rfl rfl) rfl (by decide) ?_
      refine lsw (want_none (by rfl)) (y_bnot rfl rfl) rfl (by decide) ?_
      refine lg_nil ?_
      refine nx (E' := [(2, _), (3, _), (4, _), (5, _), (7, _), (30, _)]) (fk rfl (fk rfl (fk rfl (fk rfl (fk rfl (fk rfl fn)))))) ?_
      refine cg_cf rfl ?_
      refine cg_skip ?_
      refine nx (E' := [(2, _), (3, _), (4, _), (5, _), (7, _)]) (fk rfl (fk rfl (fk rfl (fk rfl (fk rfl fn))))) ?_
      refine cg_seq ?_
      refine cg_region ?_
      refine lsw (want_none (by rfl)) (y_move rfl rfl) rfl (by decide) ?_
      refine lg_callw (want_none (by rfl)) (rgetNum_S 1 l5 (by omega)) (by kernel_rfl) rfl rfl rfl (by decide) ?_
      rintro _ w7 ⟨r7, rfl, l7, hw7⟩
      have zw7 := hw7.size
      refine lsw (want_none (by rfl)) (y_move rfl rfl) rfl (by decide) ?_
      refine lsw (want_none (by rfl)) (y_extract rfl rfl rfl) rfl (by decide) ?_
      refine lsw (want_none (by rfl)) (y_extract rfl rfl rfl) rfl (by decide) ?_
      refine lsw (want_none (by rfl)) (y_extract rfl rfl rfl) rfl (by decide) ?_
      refine lsw (want_none (by rfl)) (y_assign rfl rfl) rfl (by decide) ?_
      refine lsw (want_none (by rfl)) (y_assign rfl rfl) rfl (by decide) ?_
      refine lsw (want_none (by rfl)) (y_assign rfl rfl) rfl (by decide) ?_
      refine lg_nil ?_
      refine nx (E' := [(2, _), (3, _), (4, _), (5, _), (9, _), (10, _), (11, _)]) (fk rfl (fk rfl (fk rfl (fk rfl (fk rfl (fk rfl (fk rfl fn))))))) ?_
      refine cg_seq ?_
      refine cg_seq ?_
      refine cg_region ?_
      refine lsw (want_none (by rfl)) (y_move rfl rfl) rfl (by decide) ?_
      by_cases c8 : (numE (flagR xs) 1) = 0
      · refine lsw (want_none (by rfl)) (yb (nd_f c8) (yi_neq rfl rfl rfl)) rfl (by decide) ?_
        refine lg_nil ?_
        refine nx (E' := [(2, _), (3, _), (4, _), (5, _), (9, _), (10, _), (11, _), (40, _)]) (fk rfl (fk rfl (fk rfl (fk rfl (fk rfl (fk rfl (fk rfl (fk rfl fn)))))))) ?_
        refine cg_cf rfl ?_
        refine cg_skip ?_
        refine nx (E' := [(2, _), (3, _), (4, _), (5, _), (9, _), (10, _)]) (fk rfl (fk rfl (fk rfl (fk rfl (fk rfl (fk rfl fn)))))) ?_
        refine cg_seq ?_
        refine cg_seq ?_
        refine cg_region ?_
        refine lsw (want_none (by rfl)) (y_move rfl rfl) rfl (by decide) ?_
        by_cases c9 : (numM (flagR xs) 1) = 1
        · refine lsw (want_none (by rfl)) (yb (nd_f c9) (yi_neq rfl rfl rfl)) rfl (by decide) ?_
          refine lsw (want_none (by rfl)) (y_move rfl rfl) rfl (by decide) ?_
          refine lsk (want_f (dj := 45) (by rfl) (by kernel_rfl) rfl) rfl (by decide) ?_
          refine lsk (want_f (dj := 45) (by rfl) (by kernel_rfl) rfl) rfl (by decide) ?_
          refine lsw (want_none (by rfl)) (y_pick false rfl rfl rfl) rfl (by decide) ?_
          refine lg_nil ?_
          refine nx (E' := [(2, _), (3, _), (4, _), (5, _), (9, _), (10, _), (48, _)]) (fk rfl (fk rfl (fk rfl (fk rfl (fk rfl (fk rfl (fk rfl fn))))))) ?_
          refine cg_cf rfl ?_
          refine cg_skip ?_
          refine nx (E' := [(2, _), (3, _), (4, _), (5, _), (9, _), (10, _)]) (fk rfl (fk rfl (fk rfl (fk rfl (fk rfl (fk rfl fn)))))) ?_
          refine cg_seq ?_
          refine cg_seq ?_
          refine cg_region ?_
          refine lsw (want_none (by rfl)) (y_move rfl rfl) rfl (by decide) ?_
          refine lsw (want_none (by rfl)) (yb (decide_eq_true c9) (yi_eql rfl rfl rfl)) rfl (by decide) ?_
          refine lg_nil ?_
          refine nx (E' := [(2, _), (3, _), (4, _), (5, _), (10, _), (51, _)]) (fk rfl (fk rfl (fk rfl (fk rfl (fk rfl (fk rfl fn)))))) ?_
          refine cg_ct rfl ?_
          refine cg_seq ?_
          refine cg_region ?_
          refine lsw (want_none (by rfl)) (y_move rfl rfl) rfl (by decide) ?_
          refine lg_callw (want_none (by rfl)) (rgetL_any l7 (by omega)) (by kernel_rfl) rfl rfl rfl (by decide) ?_
          rintro _ w10 ⟨l10, r10, rfl, m10, n10, hw10⟩
          have zw10 := hw10.size
          refine lsw (want_none (by rfl)) (y_move rfl rfl) rfl (by decide) ?_
          refine lsw (want_none (by rfl)) (y_extract rfl rfl rfl) rfl (by decide) ?_
          refine lsw (want_none (by rfl)) (y_extract rfl rfl rfl) rfl (by decide) ?_
          refine lsw (want_none (by rfl)) (y_extract rfl rfl rfl) rfl (by decide) ?_
          refine lg_allocw (cs := LfV.zero.cs Lf.zero) (want_none (by rfl)) rfl (by kernel_rfl) rfl (by decide) fun b11 w11 n11 => ?_
          have r11 := n11.row
          have k11 := n11.blk
          have z11 := n11.size
          have lt11 : b11 < w11.heap.size := by omega
          have o12 := r11
          refine lg_stw (want_none (by rfl)) r11 rfl rfl rfl (by kernel_rfl) (by kernel_rfl) rfl rfl fun w12 s12 => ?_
          have r11 := s12.row
          have z12 := s12.size
          refine lsw (want_none (by rfl)) (y_assign rfl rfl) rfl (by decide) ?_
          refine lsw (want_none (by rfl)) (y_assign rfl rfl) rfl (by decide) ?_
          refine lg_nil ?_
          refine nx (E' := [(2, _), (3, _), (4, _), (5, _), (10, _), (12, _), (13, _), (14, _)]) (fk rfl (fk rfl (fk rfl (fk rfl (fk rfl (fk rfl (fk rfl (fk rfl fn)))))))) ?_
          refine cg_seq ?_
          refine cg_seq ?_
          refine cg_region ?_
          refine lsw (want_none (by rfl)) (y_move rfl rfl) rfl (by decide) ?_
          by_cases c13 : (lfGet (numR (flagR xs) 1)).1 = 0
          · refine lsw (want_none (by rfl)) (yb (nd_f c13) (yi_neq rfl rfl rfl)) rfl (by decide) ?_
            refine lg_nil ?_
            refine nx (E' := [(2, _), (3, _), (4, _), (5, _), (10, _), (12, _), (13, _), (14, _), (59, _)]) (fk rfl (fk rfl (fk rfl (fk rfl (fk rfl (fk rfl (fk rfl (fk rfl (fk rfl fn))))))))) ?_
            refine cg_cf rfl ?_
            refine cg_skip ?_
            refine nx (E' := [(2, _), (3, _), (4, _), (5, _), (10, _), (12, _), (13, _)]) (fk rfl (fk rfl (fk rfl (fk rfl (fk rfl (fk rfl (fk rfl fn))))))) ?_
            refine cg_seq ?_
            refine cg_region ?_
            refine lsw (want_none (by rfl)) (y_loadA r11 (by kernel_rfl) (by kernel_rfl) rfl rfl) rfl (by decide) ?_
            refine lsw (want_none (by rfl)) (y_build (cs := (⟨l10, PnV.zero⟩ : NdV).cs (⟨1, (lfGet (numR (flagR xs) 1)).2.1, Pn.zero⟩ : Nd)) rfl rfl (by kernel_rfl)) rfl (by decide) ?_
            refine lsw (want_none (by rfl)) (y_move rfl rfl) rfl (by decide) ?_
            have r1 := n2.keep r1
            have r1 := s3.keep r1 (by omega)
            have r1 := RowAt.below hw5 r1.lt r1
            have r1 := RowAt.below hw7 r1.lt r1
            have r1 := RowAt.below hw10 r1.lt r1
            have r1 := n11.keep r1
            have r1 := s12.keep r1 (by omega)
            have o14 := r1
            refine lg_stw (want_none (by rfl)) r1 rfl rfl rfl (by kernel_rfl) (by kernel_rfl) rfl rfl fun w14 s14 => ?_
            have r1 := s14.row
            have z14 := s14.size
            refine lsw (want_none (by rfl)) (y_assign rfl rfl) rfl (by decide) ?_
            refine lsw (want_none (by rfl)) (y_assign rfl rfl) rfl (by decide) ?_
            refine lg_nil ?_
            refine nx (E' := [(2, _), (5, _), (10, _), (3, _), (4, _)]) (fk rfl (fk rfl (fk rfl (fk rfl (fk rfl fn))))) ?_
            refine cg_ret ?_
            refine eg_seq_ret ?_
            have hst : ndGet xs = (0, (⟨1, (lfGet (numR (flagR xs) 1)).2.1, Pn.zero⟩ : Nd), (lfGet (numR (flagR xs) 1)).2.2) := by rw [ndGet, if_neg (not_not_intro c6), if_neg (not_not_intro c4), if_neg (not_not_intro c8), if_pos c9, if_neg (not_not_intro c13)]
            refine eg_ret_agg3 rfl rfl r1 (by kernel_rfl) (by kernel_rfl) rfl rfl ?_
            rw [hst]
            have m10 := m10.below (n11.below.mono (by omega))
            have m10 := m10.set o12 rfl s12
            have m10 := m10.set o14 rfl s14
            have n10 := n10.below (n11.below.mono (by omega))
            have n10 := n10.set o12 rfl s12
            have n10 := n10.set o14 rfl s14
            have u := u.trans (n1.below.mono u.size)
            have u := u.trans (n2.below.mono u.size)
            have u := u.trans (s3.below _ (by omega))
            have u := u.trans (hw5.mono u.size)
            have u := u.trans (hw7.mono u.size)
            have u := u.trans (hw10.mono u.size)
            have u := u.trans (n11.below.mono u.size)
            have u := u.trans (s12.below _ (by omega))
            have u := u.trans (s14.below _ (by omega))
            exact ⟨_, rfl, (⟨l10, PnV.zero⟩ : NdV), r10, rfl, (show IsNd w14 w14.heap.size (⟨l10, PnV.zero⟩ : NdV) (⟨1, (lfGet (numR (flagR xs) 1)).2.1, Pn.zero⟩ : Nd) from ⟨(m10.more (B' := w14.heap.size) (by omega)), ((IsPn.zero _ 0).more (B' := w14.heap.size) (by omega))⟩), n10, (Fr.nil _), u⟩
          · refine lsw (want_none (by rfl)) (yb (nd_t c13) (yi_neq rfl rfl rfl)) rfl (by decide) ?_
            refine lg_nil ?_
            refine nx (E' := [(2, _), (3, _), (4, _), (5, _), (10, _), (12, _), (13, _), (14, _), (59, _)]) (fk rfl (fk rfl (fk rfl (fk rfl (fk rfl (fk rfl (fk rfl (fk rfl (fk rfl fn))))))))) ?_
            refine cg_ct rfl ?_
            refine cg_seq ?_
            refine cg_region ?_
            have r2 := RowAt.below hw5 r2.lt r2
            have r2 := RowAt.below hw7 r2.lt r2
            have r2 := RowAt.below hw10 r2.lt r2
            have r2 := n11.keep r2
            have r2 := s12.keep r2 (by omega)
            refine lsw (want_none (by rfl)) (y_loadA r2 (by kernel_rfl) (by kernel_rfl) rfl rfl) rfl (by decide) ?_
            refine lsw (want_none (by rfl)) (y_move rfl rfl) rfl (by decide) ?_
            have r1 := n2.keep r1
            have r1 := s3.keep r1 (by omega)
            have r1 := RowAt.below hw5 r1.lt r1
            have r1 := RowAt.below hw7 r1.lt r1
            have r1 := RowAt.below hw10 r1.lt r1
            have r1 := n11.keep r1
            have r1 := s12.keep r1 (by omega)
            have o15 := r1
            refine lg_stw (want_none (by rfl)) r1 rfl rfl rfl (by kernel_rfl) (by kernel_rfl) rfl rfl fun w15 s15 => ?_
            have r1 := s15.row
            have z15 := s15.size
            refine lsw (want_none (by rfl)) (y_assign rfl rfl) rfl (by decide) ?_
            refine lsw (want_none (by rfl)) (y_assign rfl rfl) rfl (by decide) ?_
            refine lg_nil ?_
            refine nx (E' := [(2, _), (5, _), (10, _), (12, _), (13, _), (3, _), (4, _)]) (fk rfl (fk rfl (fk rfl (fk rfl (fk rfl (fk rfl (fk rfl fn))))))) ?_
            refine cg_ret ?_
            refine eg_seq_ret ?_
            refine eg_seq_ret ?_
            have hst : ndGet xs = ((lfGet (numR (flagR xs) 1)).1, Nd.zero, []) := by rw [ndGet, if_neg (not_not_intro c6), if_neg (not_not_intro c4), if_neg (not_not_intro c8), if_pos c9, if_pos c13]
            refine eg_ret_agg3 rfl rfl r1 (by kernel_rfl) (by kernel_rfl) rfl rfl ?_
            rw [hst]
            have u := u.trans (n1.below.mono u.size)
            have u := u.trans (n2.below.mono u.size)
            have u := u.trans (s3.below _ (by omega))
            have u := u.trans (hw5.mono u.size)
            have u := u.trans (hw7.mono u.size)
            have u := u.trans (hw10.mono u.size)
            have u := u.trans (n11.below.mono u.size)
            have u := u.trans (s12.below _ (by omega))
            have u := u.trans (s15.below _ (by omega))
            exact ⟨_, rfl, NdV.zero, nilS, rfl, ((IsNd.zero _ 0).more (B' := w15.heap.size) (by omega)), (Sl.nil _ _), (Fr.nil _), u⟩
        · refine lsw (want_none (by rfl)) (yb (nd_t c9) (yi_neq rfl rfl rfl)) rfl (by decide) ?_
          refine lsw (want_none (by rfl)) (y_move rfl rfl) rfl (by decide) ?_
          refine lsw (want_t (dj := 45) (by rfl) (by kernel_rfl) rfl) (y_move rfl rfl) rfl (by decide) ?_
          by_cases c16 : (numM (flagR xs) 1) = 2
          · refine lsw (want_t (dj := 45) (by rfl) (by kernel_rfl) rfl) (yb (nd_f c16) (yi_neq rfl rfl rfl)) rfl (by decide) ?_
            refine lsw (want_none (by rfl)) (y_pick true rfl rfl rfl) rfl (by decide) ?_
            refine lg_nil ?_
            refine nx (E' := [(2, _), (3, _), (4, _), (5, _), (9, _), (10, _), (48, _)]) (fk rfl (fk rfl (fk rfl (fk rfl (fk rfl (fk rfl (fk rfl fn))))))) ?_
            refine cg_cf rfl ?_
            refine cg_skip ?_
            refine nx (E' := [(2, _), (3, _), (4, _), (5, _), (9, _), (10, _)]) (fk rfl (fk rfl (fk rfl (fk rfl (fk rfl (fk rfl fn)))))) ?_
            refine cg_seq ?_
            refine cg_seq ?_
            refine cg_region ?_
            refine lsw (want_none (by rfl)) (y_move rfl rfl) rfl (by decide) ?_
            refine lsw (want_none (by rfl)) (yb (decide_eq_false c9) (yi_eql rfl rfl rfl)) rfl (by decide) ?_
            refine lg_nil ?_
            refine nx (E' := [(2, _), (3, _), (4, _), (5, _), (10, _), (51, _)]) (fk rfl (fk rfl (fk rfl (fk rfl (fk rfl (fk rfl fn)))))) ?_
            refine cg_cf rfl ?_
            refine cg_skip ?_
            refine nx (E' := [(2, _), (3, _), (4, _), (5, _), (10, _)]) (fk rfl (fk rfl (fk rfl (fk rfl (fk rfl fn))))) ?_
            refine cg_seq ?_
            refine cg_region ?_
            refine lsw (want_none (by rfl)) (y_move rfl rfl) rfl (by decide) ?_
            refine lg_callw (want_none (by rfl)) (rgetP_anyF l7 (by omega)) (by kernel_rfl) rfl rfl rfl (by decide) ?_
            rintro _ w17 ⟨l17, r17, rfl, m17, n17, f17, hw17⟩
            have zw17 := hw17.size
            refine lsw (want_none (by rfl)) (y_move rfl rfl) rfl (by decide) ?_
            refine lsw (want_none (by rfl)) (y_extract rfl rfl rfl) rfl (by decide) ?_
            refine lsw (want_none (by rfl)) (y_extract rfl rfl rfl) rfl (by decide) ?_
            refine lsw (want_none (by rfl)) (y_extract rfl rfl rfl) rfl (by decide) ?_
            refine lg_allocw (cs := PnV.zero.cs Pn.zero) (want_none (by rfl)) rfl (by kernel_rfl) rfl (by decide) fun b18 w18 n18 => ?_
            have r18 := n18.row
            have k18 := n18.blk
            have z18 := n18.size
            have lt18 : b18 < w18.heap.size := by omega
            have o19 := r18
            refine lg_stw (want_none (by rfl)) r18 rfl rfl rfl (by kernel_rfl) (by kernel_rfl) rfl rfl fun w19 s19 => ?_
            have r18 := s19.row
            have z19 := s19.size
            refine lsw (want_none (by rfl)) (y_assign rfl rfl) rfl (by decide) ?_
            refine lsw (want_none (by rfl)) (y_assign rfl rfl) rfl (by decide) ?_
            refine lg_nil ?_
            refine nx (E' := [(2, _), (3, _), (4, _), (5, _), (15, _), (16, _), (17, _)]) (fk rfl (fk rfl (fk rfl (fk rfl (fk rfl (fk rfl (fk rfl fn))))))) ?_
            refine cg_seq ?_
            refine cg_seq ?_
            refine cg_region ?_
            refine lsw (want_none (by rfl)) (y_move rfl rfl) rfl (by decide) ?_
            by_cases c20 : (pnGet (numR (flagR xs) 1)).1 = 0
            · refine lsw (want_none (by rfl)) (yb (nd_f c20) (yi_neq rfl rfl rfl)) rfl (by decide) ?_
              refine lg_nil ?_
              refine nx (E' := [(2, _), (3, _), (4, _), (5, _), (15, _), (16, _), (17, _), (72, _)]) (fk rfl (fk rfl (fk rfl (fk rfl (fk rfl (fk rfl (fk rfl (fk rfl fn)))))))) ?_
              refine cg_cf rfl ?_
              refine cg_skip ?_
              refine nx (E' := [(2, _), (3, _), (4, _), (15, _), (16, _)]) (fk rfl (fk rfl (fk rfl (fk rfl (fk rfl fn))))) ?_
              refine cg_seq ?_
              refine cg_region ?_
              refine lsw (want_none (by rfl)) (y_loadA r18 (by kernel_rfl) (by kernel_rfl) rfl rfl) rfl (by decide) ?_
              refine lsw (want_none (by rfl)) (y_build (cs := (⟨LfV.zero, l17⟩ : NdV).cs (⟨2, Lf.zero, (pnGet (numR (flagR xs) 1)).2.1⟩ : Nd)) rfl rfl (by kernel_rfl)) rfl (by decide) ?_
              refine lsw (want_none (by rfl)) (y_move rfl rfl) rfl (by decide) ?_
              have r1 := n2.keep r1
              have r1 := s3.keep r1 (by omega)
              have r1 := RowAt.below hw5 r1.lt r1
              have r1 := RowAt.below hw7 r1.lt r1
              have r1 := RowAt.below hw17 r1.lt r1
              have r1 := n18.keep r1
              have r1 := s19.keep r1 (by omega)
              have o21 := r1
              refine lg_stw (want_none (by rfl)) r1 rfl rfl rfl (by kernel_rfl) (by kernel_rfl) rfl rfl fun w21 s21 => ?_
              have r1 := s21.row
              have z21 := s21.size
              refine lsw (want_none (by rfl)) (y_assign rfl rfl) rfl (by decide) ?_
              refine lsw (want_none (by rfl)) (y_assign rfl rfl) rfl (by decide) ?_
              refine lg_nil ?_
              refine nx (E' := [(2, _), (3, _), (4, _)]) (fk rfl (fk rfl (fk rfl fn))) ?_
              refine cg_ret ?_
              have hst : ndGet xs = (0, (⟨2, Lf.zero, (pnGet (numR (flagR xs) 1)).2.1⟩ : Nd), (pnGet (numR (flagR xs) 1)).2.2) := by rw [ndGet, if_neg (not_not_intro c6), if_neg (not_not_intro c4), if_neg (not_not_intro c8), if_neg c9, if_pos c16, if_neg (not_not_intro c20)]
              refine eg_ret_agg3 rfl rfl r1 (by kernel_rfl) (by kernel_rfl) rfl rfl ?_
              rw [hst]
              have m17 := m17.below (n18.below.mono (by omega))
              have m17 := m17.below (s19.below _ (by omega))
              have m17 := m17.setf o21 rfl f17 (by omega) s21
              have n17 := n17.below (n18.below.mono (by omega))
              have n17 := n17.set o19 rfl s19
              have n17 := n17.set o21 rfl s21
              have u := u.trans (n1.below.mono u.size)
              have u := u.trans (n2.below.mono u.size)
              have u := u.trans (s3.below _ (by omega))
              have u := u.trans (hw5.mono u.size)
              have u := u.trans (hw7.mono u.size)
              have u := u.trans (hw17.mono u.size)
              have u := u.trans (n18.below.mono u.size)
              have u := u.trans (s19.below _ (by omega))
              have u := u.trans (s21.below _ (by omega))
              exact ⟨_, rfl, (⟨LfV.zero, l17⟩ : NdV), r17, rfl, (show IsNd w21 w21.heap.size (⟨LfV.zero, l17⟩ : NdV) (⟨2, Lf.zero, (pnGet (numR (flagR xs) 1)).2.1⟩ : Nd) from ⟨((IsLf.zero _ 0).more (B' := w21.heap.size) (by omega)), (m17.more (B' := w21.heap.size) (by omega))⟩), n17, f17.le (by omega), u⟩
            · refine lsw (want_none (by rfl)) (yb (nd_t c20) (yi_neq rfl rfl rfl)) rfl (by decide) ?_
              refine lg_nil ?_
              refine nx (E' := [(2, _), (3, _), (4, _), (5, _), (15, _), (16, _), (17, _), (72, _)]) (fk rfl (fk rfl (fk rfl (fk rfl (fk rfl (fk rfl (fk rfl (fk rfl fn)))))))) ?_
              refine cg_ct rfl ?_
              refine cg_seq ?_
              refine cg_region ?_
              have r2 := RowAt.below hw5 r2.lt r2
              have r2 := RowAt.below hw7 r2.lt r2
              have r2 := RowAt.below hw17 r2.lt r2
              have r2 := n18.keep r2
              have r2 := s19.keep r2 (by omega)
              refine lsw (want_none (by rfl)) (y_loadA r2 (by kernel_rfl) (by kernel_rfl) rfl rfl) rfl (by decide) ?_
              refine lsw (want_none (by rfl)) (y_move rfl rfl) rfl (by decide) ?_
              have r1 := n2.keep r1
              have r1 := s3.keep r1 (by omega)
              have r1 := RowAt.below hw5 r1.lt r1
              have r1 := RowAt.below hw7 r1.lt r1
              have r1 := RowAt.below hw17 r1.lt r1
              have r1 := n18.keep r1
              have r1 := s19.keep r1 (by omega)
              have o22 := r1
              refine lg_stw (want_none (by rfl)) r1 rfl rfl rfl (by kernel_rfl) (by kernel_rfl) rfl rfl fun w22 s22 => ?_
              have r1 := s22.row
              have z22 := s22.size
              refine lsw (want_none (by rfl)) (y_assign rfl rfl) rfl (by decide) ?_
              refine lsw (want_none (by rfl)) (y_assign rfl rfl) rfl (by decide) ?_
              refine lg_nil ?_
              refine nx (E' := [(2, _), (15, _), (16, _), (3, _), (4, _)]) (fk rfl (fk rfl (fk rfl (fk rfl (fk rfl fn))))) ?_
              refine cg_ret ?_
              refine eg_seq_ret ?_
              have hst : ndGet xs = ((pnGet (numR (flagR xs) 1)).1, Nd.zero, []) := by rw [ndGet, if_neg (not_not_intro c6), if_neg (not_not_intro c4), if_neg (not_not_intro c8), if_neg c9, if_pos c16, if_pos c20]
              refine eg_ret_agg3 rfl rfl r1 (by kernel_rfl) (by kernel_rfl) rfl rfl ?_
              rw [hst]
              have u := u.trans (n1.below.mono u.size)
              have u := u.trans (n2.below.mono u.size)
              have u := u.trans (s3.below _ (by omega))
              have u := u.trans (hw5.mono u.size)
              have u := u.trans (hw7.mono u.size)
              have u := u.trans (hw17.mono u.size)
              have u := u.trans (n18.below.mono u.size)
              have u := u.trans (s19.below _ (by omega))
              have u := u.trans (s22.below _ (by omega))
              exact ⟨_, rfl, NdV.zero, nilS, rfl, ((IsNd.zero _ 0).more (B' := w22.heap.size) (by omega)), (Sl.nil _ _), (Fr.nil _), u⟩
          · refine lsw (want_t (dj := 45) (by rfl) (by kernel_rfl) rfl) (yb (nd_t c16) (yi_neq rfl rfl rfl)) rfl (by decide) ?_
            refine lsw (want_none (by rfl)) (y_pick true rfl rfl rfl) rfl (by decide) ?_
            refine lg_nil ?_
            refine nx (E' := [(2, _), (3, _), (4, _), (5, _), (9, _), (10, _), (48, _)]) (fk rfl (fk rfl (fk rfl (fk rfl (fk rfl (fk rfl (fk rfl fn))))))) ?_
            refine cg_ct rfl ?_
            refine cg_seq ?_
            refine cg_region ?_
            have r2 := RowAt.below hw5 r2.lt r2
            have r2 := RowAt.below hw7 r2.lt r2
            refine lsw (want_none (by rfl)) (y_loadA r2 (by kernel_rfl) (by kernel_rfl) rfl rfl) rfl (by decide) ?_
            have r1 := n2.keep r1
            have r1 := s3.keep r1 (by omega)
            have r1 := RowAt.below hw5 r1.lt r1
            have r1 := RowAt.below hw7 r1.lt r1
            have o23 := r1
            refine lg_stw (want_none (by rfl)) r1 rfl rfl rfl (by kernel_rfl) (by kernel_rfl) rfl rfl fun w23 s23 => ?_
            have r1 := s23.row
            have z23 := s23.size
            refine lsw (want_none (by rfl)) (y_assign rfl rfl) rfl (by decide) ?_
            refine lsw (want_none (by rfl)) (y_assign rfl rfl) rfl (by decide) ?_
            refine lg_nil ?_
            refine nx (E' := [(2, _), (5, _), (9, _), (10, _), (3, _), (4, _)]) (fk rfl (fk rfl (fk rfl (fk rfl (fk rfl (fk rfl fn)))))) ?_
            refine cg_ret ?_
            refine eg_seq_ret ?_
            have hst : ndGet xs = (7, Nd.zero, []) := by rw [ndGet, if_neg (not_not_intro c6), if_neg (not_not_intro c4), if_neg (not_not_intro c8), if_neg c9, if_neg c16]
            refine eg_ret_agg3 rfl rfl r1 (by kernel_rfl) (by kernel_rfl) rfl rfl ?_
            rw [hst]
            have u := u.trans (n1.below.mono u.size)
            have u := u.trans (n2.below.mono u.size)
            have u := u.trans (s3.below _ (by omega))
            have u := u.trans (hw5.mono u.size)
            have u := u.trans (hw7.mono u.size)
            have u := u.trans (s23.below _ (by omega))
            exact ⟨_, rfl, NdV.zero, nilS, rfl, ((IsNd.zero _ 0).more (B' := w23.heap.size) (by omega)), (Sl.nil _ _), (Fr.nil _), u⟩
      · refine lsw (want_none (by rfl)) (yb (nd_t c8) (yi_neq rfl rfl rfl)) rfl (by decide) ?_
        refine lg_nil ?_
        refine nx (E' := [(2, _), (3, _), (4, _), (5, _), (9, _), (10, _), (11, _), (40, _)]) (fk rfl (fk rfl (fk rfl (fk rfl (fk rfl (fk rfl (fk rfl (fk rfl fn)))))))) ?_
        refine cg_ct rfl ?_
        refine cg_seq ?_
        refine cg_region ?_
        have r2 := RowAt.below hw5 r2.lt r2
        have r2 := RowAt.below hw7 r2.lt r2
        refine lsw (want_none (by rfl)) (y_loadA r2 (by kernel_rfl) (by kernel_rfl) rfl rfl) rfl (by decide) ?_
        refine lsw (want_none (by rfl)) (y_move rfl rfl) rfl (by decide) ?_
        have r1 := n2.keep r1
        have r1 := s3.keep r1 (by omega)
        have r1 := RowAt.below hw5 r1.lt r1
        have r1 := RowAt.below hw7 r1.lt r1
        have o24 := r1
        refine lg_stw (want_none (by rfl)) r1 rfl rfl rfl (by kernel_rfl) (by kernel_rfl) rfl rfl fun w24 s24 => ?_
        have r1 := s24.row
        have z24 := s24.size
        refine lsw (want_none (by rfl)) (y_assign rfl rfl) rfl (by decide) ?_
        refine lsw (want_none (by rfl)) (y_assign rfl rfl) rfl (by decide) ?_
        refine lg_nil ?_
        refine nx (E' := [(2, _), (5, _), (9, _), (10, _), (3, _), (4, _)]) (fk rfl (fk rfl (fk rfl (fk rfl (fk rfl (fk rfl fn)))))) ?_
        refine cg_ret ?_
        refine eg_seq_ret ?_
        have hst : ndGet xs = ((numE (flagR xs) 1), Nd.zero, []) := by rw [ndGet, if_neg (not_not_intro c6), if_neg (not_not_intro c4), if_pos c8]
        refine eg_ret_agg3 rfl rfl r1 (by kernel_rfl) (by kernel_rfl) rfl rfl ?_
        rw [hst]
        have u := u.trans (n1.below.mono u.size)
        have u := u.trans (n2.below.mono u.size)
        have u := u.trans (s3.below _ (by omega))
        have u := u.trans (hw5.mono u.size)
        have u := u.trans (hw7.mono u.size)
        have u := u.trans (s24.below _ (by omega))
        exact ⟨_, rfl, NdV.zero, nilS, rfl, ((IsNd.zero _ 0).more (B' := w24.heap.size) (by omega)), (Sl.nil _ _), (Fr.nil _), u⟩
    · refine lsw (want_none (by rfl)) (yb (nd_t c6) (yi_neq rfl rfl rfl)) rfl (by decide) ?_
      refine lg_nil ?_
      refine nx (E' := [(2, _), (3, _), (4, _), (5, _), (6, _), (7, _), (8, _), (26, _)]) (fk rfl (fk rfl (fk rfl (fk rfl (fk rfl (fk rfl (fk rfl (fk rfl fn)))))))) ?_
      refine cg_ct rfl ?_
      refine cg_seq ?_
      refine cg_region ?_
      have r2 := RowAt.below hw5 r2.lt r2
      refine lsw (want_none (by rfl)) (y_loadA r2 (by kernel_rfl) (by kernel_rfl) rfl rfl) rfl (by decide) ?_
      refine lsw (want_none (by rfl)) (y_move rfl rfl) rfl (by decide) ?_
      have r1 := n2.keep r1
      have r1 := s3.keep r1 (by omega)
      have r1 := RowAt.below hw5 r1.lt r1
      have o25 := r1
      refine lg_stw (want_none (by rfl)) r1 rfl rfl rfl (by kernel_rfl) (by kernel_rfl) rfl rfl fun w25 s25 => ?_
      have r1 := s25.row
      have z25 := s25.size
      refine lsw (want_none (by rfl)) (y_assign rfl rfl) rfl (by decide) ?_
      refine lsw (want_none (by rfl)) (y_assign rfl rfl) rfl (by decide) ?_
      refine lg_nil ?_
      refine nx (E' := [(2, _), (5, _), (6, _), (7, _), (3, _), (4, _)]) (fk rfl (fk rfl (fk rfl (fk rfl (fk rfl (fk rfl fn)))))) ?_
      refine cg_ret ?_
      refine eg_seq_ret ?_
      have hst : ndGet xs = ((flagE xs), Nd.zero, []) := by rw [ndGet, if_pos c6]
      refine eg_ret_agg3 rfl rfl r1 (by kernel_rfl) (by kernel_rfl) rfl rfl ?_
      rw [hst]
      have u := u.trans (n1.below.mono u.size)
      have u := u.trans (n2.below.mono u.size)
      have u := u.trans (s3.below _ (by omega))
      have u := u.trans (hw5.mono u.size)
      have u := u.trans (s25.below _ (by omega))
      exact ⟨_, rfl, NdV.zero, nilS, rfl, ((IsNd.zero _ 0).more (B' := w25.heap.size) (by omega)), (Sl.nil _ _), (Fr.nil _), u⟩
  · refine lg_callw (want_none (by rfl)) (rgetFlag_S h) (by kernel_rfl) rfl rfl rfl (by decide) ?_
    rintro _ w26 ⟨bb26, r26, rfl, e26, l26, hw26⟩
    have zw26 := hw26.size
    obtain rfl : bb26 = false := e26.trans (decide_eq_false c4)
    refine lsw (want_none (by rfl)) (y_move rfl rfl) rfl (by decide) ?_
    refine lsw (want_none (by rfl)) (y_extract rfl rfl rfl) rfl (by decide) ?_
    refine lsw (want_none (by rfl)) (y_extract rfl rfl rfl) rfl (by decide) ?_
    refine lsw (want_none (by rfl)) (y_extract rfl rfl rfl) rfl (by decide) ?_
    refine lsw (want_none (by rfl)) (y_assign rfl rfl) rfl (by decide) ?_
    refine lsw (want_none (by rfl)) (y_assign rfl rfl) rfl (by decide) ?_
    refine lsw (want_none (by rfl)) (y_assign rfl rfl) rfl (by decide) ?_
    refine lg_nil ?_
    refine nx (E' := [(2, _), (3, _), (4, _), (5, _), (6, _), (7, _), (8, _)]) (fk rfl (fk rfl (fk rfl (fk rfl (fk rfl (fk rfl (fk rfl fn))))))) ?_
    refine cg_seq ?_
    refine cg_seq ?_
    refine cg_region ?_
    refine lsw (want_none (by rfl)) (y_move rfl rfl) rfl (by decide) ?_
    by_cases c27 : (flagE xs) = 0
    · refine lsw (want_none (by rfl)) (yb (nd_f c27) (yi_neq rfl rfl rfl)) rfl (by decide) ?_
      refine lg_nil ?_
      refine nx (E' := [(2, _), (3, _), (4, _), (5, _), (6, _), (7, _), (8, _), (26, _)]) (fk rfl (fk rfl (fk rfl (fk rfl (fk rfl (fk rfl (fk rfl (fk rfl fn)))))))) ?_
      refine cg_cf rfl ?_
      refine cg_skip ?_
      refine nx (E' := [(2, _), (3, _), (4, _), (5, _), (6, _), (7, _)]) (fk rfl (fk rfl (fk rfl (fk rfl (fk rfl (fk rfl fn)))))) ?_
      refine cg_seq ?_
      refine cg_seq ?_
      refine cg_region ?_
      refine lsw (want_none (by rfl)) (y_move rfl rfl) rfl (by decide) ?_
      refine lsw (want_none (by rfl)) (y_bnot rfl rfl) rfl (by decide) ?_
      refine lg_nil ?_
      refine nx (E' := [(2, _), (3, _), (4, _), (5, _), (7, _), (30, _)]) (fk rfl (fk rfl (fk rfl (fk rfl (fk rfl (fk rfl fn)))))) ?_
      refine cg_ct rfl ?_
      refine cg_seq ?_
      refine cg_region ?_
      have r2 := RowAt.below hw26 r2.lt r2
      refine lsw (want_none (by rfl)) (y_loadA r2 (by kernel_rfl) (by kernel_rfl) rfl rfl) rfl (by decide) ?_
      refine lsw (want_none (by rfl)) (y_move rfl rfl) rfl (by decide) ?_
      have r1 := n2.keep r1
      have r1 := s3.keep r1 (by omega)
      have r1 := RowAt.below hw26 r1.lt r1
      have o28 := r1
      refine lg_stw (want_none (by rfl)) r1 rfl rfl rfl (by kernel_rfl) (by kernel_rfl) rfl rfl fun w28 s28 => ?_
      have r1 := s28.row
      have z28 := s28.size
      refine lsw (want_none (by rfl)) (y_assign rfl rfl) rfl (by decide) ?_
      refine lsw (want_none (by rfl)) (y_assign rfl rfl) rfl (by decide) ?_
      refine lg_nil ?_
      refine nx (E' := [(2, _), (5, _), (7, _), (3, _), (4, _)]) (fk rfl (fk rfl (fk rfl (fk rfl (fk rfl fn))))) ?_
      refine cg_ret ?_
      refine eg_seq_ret ?_
      have hst : ndGet xs = (0, Nd.zero, (flagR xs)) := by rw [ndGet, if_neg (not_not_intro c27), if_pos c4]
      refine eg_ret_agg3 rfl rfl r1 (by kernel_rfl) (by kernel_rfl) rfl rfl ?_
      rw [hst]
      have l26 := l26.set o28 rfl s28
      have u := u.trans (n1.below.mono u.size)
      have u := u.trans (n2.below.mono u.size)
      have u := u.trans (s3.below _ (by omega))
      have u := u.trans (hw26.mono u.size)
      have u := u.trans (s28.below _ (by omega))
      exact ⟨_, rfl, NdV.zero, r26, rfl, ((IsNd.zero _ 0).more (B' := w28.heap.size) (by omega)), l26, (Fr.nil _), u⟩
    · refine lsw (want_none (by rfl)) (yb (nd_t c27) (yi_neq rfl rfl rfl)) rfl (by decide) ?_
      refine lg_nil ?_
      refine nx (E' := [(2, _), (3, _), (4, _), (5, _), (6, _), (7, _), (8, _), (26, _)]) (fk rfl (fk rfl (fk rfl (fk rfl (fk rfl (fk rfl (fk rfl (fk rfl fn)))))))) ?_
      refine cg_ct rfl ?_
      refine cg_seq ?_
      refine cg_region ?_
      have r2 := RowAt.below hw26 r2.lt r2
      refine lsw (want_none (by rfl)) (y_loadA r2 (by kernel_rfl) (by kernel_rfl) rfl rfl) rfl (by decide) ?_
      refine lsw (want_none (by rfl)) (y_move rfl rfl) rfl (by decide) ?_
      have r1 := n2.keep r1
      have r1 := s3.keep r1 (by omega)
      have r1 := RowAt.below hw26 r1.lt r1
      have o29 := r1
      refine lg_stw (want_none (by rfl)) r1 rfl rfl rfl (by kernel_rfl) (by kernel_rfl) rfl rfl fun w29 s29 => ?_
      have r1 := s29.row
      have z29 := s29.size
      refine lsw (want_none (by rfl)) (y_assign rfl rfl) rfl (by decide) ?_
      refine lsw (want_none (by rfl)) (y_assign rfl rfl) rfl (by decide) ?_
      refine lg_nil ?_
      refine nx (E' := [(2, _), (5, _), (6, _), (7, _), (3, _), (4, _)]) (fk rfl (fk rfl (fk rfl (fk rfl (fk rfl (fk rfl fn)))))) ?_
      refine cg_ret ?_
      refine eg_seq_ret ?_
      have hst : ndGet xs = ((flagE xs), Nd.zero, []) := by rw [ndGet, if_pos c27]
      refine eg_ret_agg3 rfl rfl r1 (by kernel_rfl) (by kernel_rfl) rfl rfl ?_
      rw [hst]
      have u := u.trans (n1.below.mono u.size)
      have u := u.trans (n2.below.mono u.size)
      have u := u.trans (s3.below _ (by omega))
      have u := u.trans (hw26.mono u.size)
      have u := u.trans (s29.below _ (by omega))
      exact ⟨_, rfl, NdV.zero, nilS, rfl, ((IsNd.zero _ 0).more (B' := w29.heap.size) (by omega)), (Sl.nil _ _), (Fr.nil _), u⟩
theorem rofLeafN_any {W : World} {B : Nat} (i : Int) {l : NdV} {L : Nd} (hl : IsNd W B l L) (hB : B ≤ W.heap.size) : Calls Try.prog 20 #[nv i, .agg (l.cs L)] W fun e W' => ∃ v, e = .returned v ∧ PutS W (ofLeafO i L) v W' := by
  refine calls_cg (n := 25) Try.func20 rfl Try.ntmps20 (by simp) ?_
  show CG _ _ _ [(0, nv i), (1, .agg (l.cs L))] _ _
  have u := Below.refl W.heap.size W
  refine cg_seq ?_
  refine cg_region ?_
  refine lg_boxw (want_none (by rfl)) rfl rfl (by kernel_rfl) rfl (by decide) fun b1 w1 n1 => ?_
  have r1 := n1.row
  have k1 := n1.blk
  have z1 := n1.size
  have lt1 : b1 < w1.heap.size := by omega
  refine lsw (want_none (by rfl)) (y_assign rfl rfl) rfl (by decide) ?_
  refine lg_nil ?_
  refine nx (E' := [(0, _), (3, _), (4, _)]) (fk rfl (fk rfl (fk rfl fn))) ?_
  refine cg_seq ?_
  refine cg_region ?_
  refine lsw (want_none (by rfl)) (y_loadA r1 (by kernel_rfl) (by kernel_rfl) rfl rfl) rfl (by decide) ?_
  have hl := hl.below (n1.below.mono (by omega))
  refine lg_callw (want_none (by rfl)) (rasN_any (hl.more (B' := w1.heap.size) (by omega)) (Nat.le_refl _)) (by kernel_rfl) rfl rfl rfl (by decide) ?_
  rintro _ w2 ⟨l2, rfl, m2, hw2⟩
  have zw2 := hw2.size
  refine lg_allocw (cs := NdV.zero.cs Nd.zero) (want_none (by rfl)) rfl (by kernel_rfl) rfl (by decide) fun b3 w3 n3 => ?_
  have r3 := n3.row
  have k3 := n3.blk
  have z3 := n3.size
  have lt3 : b3 < w3.heap.size := by omega
  have o4 := r3
  refine lg_stw (want_none (by rfl)) r3 rfl rfl rfl (by kernel_rfl) (by kernel_rfl) rfl rfl fun w4 s4 => ?_
  have r3 := s4.row
  have z4 := s4.size
  refine lg_nil ?_
  refine nx (E' := [(0, _), (4, _), (5, _)]) (fk rfl (fk rfl (fk rfl fn))) ?_
  refine cg_seq ?_
  refine cg_region ?_
  refine lg_callw (want_none (by rfl)) (rputNum_S 1 1 (Sl.nil _ 0) (by omega) (by first | omega | (simp only [List.length_nil]; omega))) (by kernel_rfl) rfl rfl rfl (by decide) ?_
  rintro _ w5 ⟨r5, rfl, m5, hw5⟩
  have zw5 := hw5.size
  rw [List.nil_append] at m5
  have wk5 := widthK_le 1
  refine lsw (want_none (by rfl)) (y_move rfl rfl) rfl (by decide) ?_
  refine lg_callw (want_none (by rfl)) (rputNum_S i 4 m5 (by omega) (by first | omega | (simp only [numOct_length]; omega))) (by kernel_rfl) rfl rfl rfl (by decide) ?_
  rintro _ w6 ⟨r6, rfl, m6, hw6⟩
  have zw6 := hw6.size
  have wk6 := widthK_le 4
  refine lsw (want_none (by rfl)) (y_assign rfl rfl) rfl (by decide) ?_
  refine lg_nil ?_
  refine nx (E' := [(4, _), (5, _), (6, _)]) (fk rfl (fk rfl (fk rfl fn))) ?_
  refine cg_seq ?_
  refine cg_region ?_
  refine lsw (want_none (by rfl)) (y_move rfl rfl) rfl (by decide) ?_
  refine lsw (want_none (by rfl)) (y_fld (off := 0) (by kernel_rfl) rfl rfl) rfl (by decide) ?_
  have r3 := RowAt.below hw5 r3.lt r3
  have r3 := RowAt.below hw6 r3.lt r3
  refine lsw (want_none (by rfl)) (y_cellv (v := nv ((ndAs L).kind)) r3 rfl (by kernel_rfl) rfl rfl) rfl (by decide) ?_
  by_cases c7 : (ndAs L).kind = 1
  · obtain ⟨eaL, ckL⟩ := ndAs_kind (L := L) (by omega)
    have kL : L.kind = 1 := (congrArg Nd.kind eaL).symm.trans c7
    refine lsw (want_none (by rfl)) (yb (decide_eq_true c7) (yi_eql rfl rfl rfl)) rfl (by decide) ?_
    refine lg_callw (want_none (by rfl)) (rputFlag_S true m6 (by omega) (by first | omega | (simp only [List.length_append, numOct_length]; omega))) (by kernel_rfl) rfl rfl rfl (by decide) ?_
    rintro _ w8 ⟨r8, rfl, m8, hw8⟩
    have zw8 := hw8.size
    refine lsw (want_none (by rfl)) (y_assign rfl rfl) rfl (by decide) ?_
    refine lg_nil ?_
    refine nx (E' := [(4, _), (5, _), (6, _)]) (fk rfl (fk rfl (fk rfl fn))) ?_
    refine cg_seq ?_
    refine cg_seq ?_
    refine cg_region ?_
    refine lsw (want_none (by rfl)) (y_fld (off := 0) (by kernel_rfl) rfl rfl) rfl (by decide) ?_
    have r3 := RowAt.below hw8 r3.lt r3
    refine lsw (want_none (by rfl)) (y_cellv (v := nv ((ndAs L).kind)) r3 rfl (by kernel_rfl) rfl rfl) rfl (by decide) ?_
    refine lsw (want_none (by rfl)) (yb (decide_eq_true c7) (yi_eql rfl rfl rfl)) rfl (by decide) ?_
    refine lg_nil ?_
    refine nx (E' := [(4, _), (5, _), (6, _), (19, _)]) (fk rfl (fk rfl (fk rfl (fk rfl fn)))) ?_
    refine cg_ct rfl ?_
    refine cg_region ?_
    refine lsw (want_none (by rfl)) (y_move rfl rfl) rfl (by decide) ?_
    refine lsw (want_none (by rfl)) (y_fld (off := 1) (by kernel_rfl) rfl rfl) rfl (by decide) ?_
    refine lsw (want_none (by rfl)) (y_part r3 (m := 4) rfl (show 1+4 ≤ 8 by decide) (by kernel_rfl) (by kernel_rfl) rfl rfl) rfl (by decide) ?_
    have m2 := m2.below (n3.below.mono (by omega))
    have m2 := m2.below (s4.below _ (by omega))
    have m2 := m2.below (hw5.mono (by omega))
    have m2 := m2.below (hw6.mono (by omega))
    have m2 := m2.below (hw8.mono (by omega))
    refine lg_callw (want_none (by rfl)) (rputL_any (m8.more (B' := w8.heap.size) (by omega)) (m2.leaf.more (B' := w8.heap.size) (by omega)) (Nat.le_refl _) (by first | omega | (simp only [List.length_append, numOct_length, flagOct_length]; omega))) (by kernel_rfl) rfl rfl rfl (by decide) ?_
    rintro _ w9 ⟨r9, rfl, m9, hw9⟩
    have zw9 := hw9.size
    have lp9 := lfPut_le ((ndAs L).leaf)
    refine lsw (want_none (by rfl)) (y_assign rfl rfl) rfl (by decide) ?_
    refine lg_nil ?_
    refine nx (E' := [(4, _), (6, _)]) (fk rfl (fk rfl fn)) ?_
    refine cg_seq ?_
    refine cg_region ?_
    refine lsw (want_none (by rfl)) (y_move rfl rfl) rfl (by decide) ?_
    refine lsw (want_none (by rfl)) (y_assign rfl rfl) rfl (by decide) ?_
    refine lg_nil ?_
    refine nx (E' := [(4, _)]) (fk rfl fn) ?_
    refine cg_ret ?_
    have u := u.trans (n1.below.mono u.size)
    have u := u.trans (hw2.mono u.size)
    have u := u.trans (n3.below.mono u.size)
    have u := u.trans (s4.below _ (by omega))
    have u := u.trans (hw5.mono u.size)
    have u := u.trans (hw6.mono u.size)
    have u := u.trans (hw8.mono u.size)
    have u := u.trans (hw9.mono u.size)
    exact eg_ret_tmp rfl rfl ⟨_, rfl, r9, rfl, (m9.more (by omega)).cast (by rw [ofLeafO, ndOnly, if_pos ⟨by omega, rfl⟩, eaL]; simp only [List.append_assoc]), u⟩
  · refine lsw (want_none (by rfl)) (yb (decide_eq_false c7) (yi_eql rfl rfl rfl)) rfl (by decide) ?_
    refine lg_callw (want_none (by rfl)) (rputFlag_S false m6 (by omega) (by first | omega | (simp only [List.length_append, numOct_length]; omega))) (by kernel_rfl) rfl rfl rfl (by decide) ?_
    rintro _ w10 ⟨r10, rfl, m10, hw10⟩
    have zw10 := hw10.size
    refine lsw (want_none (by rfl)) (y_assign rfl rfl) rfl (by decide) ?_
    refine lg_nil ?_
    refine nx (E' := [(4, _), (5, _), (6, _)]) (fk rfl (fk rfl (fk rfl fn))) ?_
    refine cg_seq ?_
    refine cg_seq ?_
    refine cg_region ?_
    refine lsw (want_none (by rfl)) (y_fld (off := 0) (by kernel_rfl) rfl rfl) rfl (by decide) ?_
    have r3 := RowAt.below hw10 r3.lt r3
    refine lsw (want_none (by rfl)) (y_cellv (v := nv ((ndAs L).kind)) r3 rfl (by kernel_rfl) rfl rfl) rfl (by decide) ?_
    refine lsw (want_none (by rfl)) (yb (decide_eq_false c7) (yi_eql rfl rfl rfl)) rfl (by decide) ?_
    refine lg_nil ?_
    refine nx (E' := [(4, _), (5, _), (6, _), (19, _)]) (fk rfl (fk rfl (fk rfl (fk rfl fn)))) ?_
    refine cg_cf rfl ?_
    refine cg_skip ?_
    refine nx (E' := [(4, _), (6, _)]) (fk rfl (fk rfl fn)) ?_
    refine cg_seq ?_
    refine cg_region ?_
    refine lsw (want_none (by rfl)) (y_move rfl rfl) rfl (by decide) ?_
    refine lsw (want_none (by rfl)) (y_assign rfl rfl) rfl (by decide) ?_
    refine lg_nil ?_
    refine nx (E' := [(4, _)]) (fk rfl fn) ?_
    refine cg_ret ?_
    have u := u.trans (n1.below.mono u.size)
    have u := u.trans (hw2.mono u.size)
    have u := u.trans (n3.below.mono u.size)
    have u := u.trans (s4.below _ (by omega))
    have u := u.trans (hw5.mono u.size)
    have u := u.trans (hw6.mono u.size)
    have u := u.trans (hw10.mono u.size)
    exact eg_ret_tmp rfl rfl ⟨_, rfl, r10, rfl, (m10.more (by omega)).cast (by rw [ofLeafO, ndOnly, if_neg (by omega), if_neg (by omega)]), u⟩
theorem rofInnerN_any {W : World} {B : Nat} {l : NdV} {L : Nd} {s t : SlV} {xs ys : List Int} (hl : IsNd W B l L) (h : Sl W B s xs) (h2 : Sl W B t ys) (hB : B ≤ W.heap.size) (hx : xs.length ≤ 10000) (hy : ys.length ≤ 10000) : Calls Try.prog 22 #[.agg (l.cs L), s.v, t.v] W fun e W' => ∃ v, e = .returned v ∧ PutS W (ofInnerO L xs ys) v W' := by
  refine calls_cg (n := 28) Try.func22 rfl Try.ntmps22 (by simp) ?_
  show CG _ _ _ [(0, .agg (l.cs L)), (1, s.v), (2, t.v)] _ _
  have u := Below.refl W.heap.size W
  refine cg_seq ?_
  refine cg_region ?_
  refine lg_boxw (want_none (by rfl)) rfl rfl (by kernel_rfl) rfl (by decide) fun b1 w1 n1 => ?_
  have r1 := n1.row
  have k1 := n1.blk
  have z1 := n1.size
  have lt1 : b1 < w1.heap.size := by omega
  refine lsw (want_none (by rfl)) (y_assign rfl rfl) rfl (by decide) ?_
  refine lg_nil ?_
  refine nx (E' := [(1, _), (2, _), (3, _), (6, _)]) (fk rfl (fk rfl (fk rfl (fk rfl fn)))) ?_
  refine cg_seq ?_
  refine cg_region ?_
  refine lsw (want_none (by rfl)) (y_loadA r1 (by kernel_rfl) (by kernel_rfl) rfl rfl) rfl (by decide) ?_
  have hl := hl.below (n1.below.mono (by omega))
  refine lg_callw (want_none (by rfl)) (rasN_any (hl.more (B' := w1.heap.size) (by omega)) (Nat.le_refl _)) (by kernel_rfl) rfl rfl rfl (by decide) ?_
  rintro _ w2 ⟨l2, rfl, m2, hw2⟩
  have zw2 := hw2.size
  refine lg_allocw (cs := NdV.zero.cs Nd.zero) (want_none (by rfl)) rfl (by kernel_rfl) rfl (by decide) fun b3 w3 n3 => ?_
  have r3 := n3.row
  have k3 := n3.blk
  have z3 := n3.size
  have lt3 : b3 < w3.heap.size := by omega
  have o4 := r3
  refine lg_stw (want_none (by rfl)) r3 rfl rfl rfl (by kernel_rfl) (by kernel_rfl) rfl rfl fun w4 s4 => ?_
  have r3 := s4.row
  have z4 := s4.size
  refine lg_nil ?_
  refine nx (E' := [(1, _), (2, _), (6, _), (7, _)]) (fk rfl (fk rfl (fk rfl (fk rfl fn)))) ?_
  refine cg_seq ?_
  refine cg_held (by kernel_rfl) fun W5 eW5 => ?_
  have dW5 := below_drew _ _ eW5
  have zW5 := size_drew _ _ eW5
  clear eW5
  refine hg_take 1 (by rfl) (want_none (by rfl)) (by rfl) rfl (by decide) (by kernel_rfl) (by kernel_rfl) (by kernel_rfl) (fun _ _ _ h => h) (Below.refl _ _) (fun q hq => y_fld (off := 0) (by kernel_rfl) rfl rfl) ?_
  have r3 := RowAt.below dW5 r3.lt r3
  refine hg_take 2 (by rfl) (want_none (by rfl)) (by rfl) rfl (by decide) (by kernel_rfl) (by kernel_rfl) (by kernel_rfl) (fun _ _ _ h => h) (Below.refl _ _) (fun q hq => y_cellv (v := nv ((ndAs L).kind)) (RowAt.below hq r3.lt r3) rfl (by kernel_rfl) rfl rfl) ?_
  by_cases c6 : (ndAs L).kind = 2
  · obtain ⟨eaL, ckL⟩ := ndAs_kind (L := L) (by omega)
    have kL : L.kind = 2 := (congrArg Nd.kind eaL).symm.trans c6
    refine hg_take 3 (by rfl) (want_none (by rfl)) (by rfl) rfl (by decide) (by kernel_rfl) (by kernel_rfl) (by kernel_rfl) (fun _ _ _ h => h) (Below.refl _ _) (fun q hq => yb (decide_eq_true c6) (yi_eql rfl rfl rfl)) ?_
    refine hg_one 0 (by rfl) (by kernel_rfl) (want_none (by rfl)) ?_
    refine lg_callw (want_none (by rfl)) (rputNum_S 2 1 (Sl.nil _ 0) (by omega) (by first | omega | (simp only [List.length_nil]; omega))) (by kernel_rfl) rfl rfl rfl (by decide) ?_
    rintro _ w7 ⟨r7, rfl, m7, hw7⟩
    have zw7 := hw7.size
    rw [List.nil_append] at m7
    have wk7 := widthK_le 1
    refine hg_next hw7 ?_
    refine hg_up hw7 ?_
    refine hg_one 4 (by rfl) (by kernel_rfl) (want_none (by rfl)) ?_
    refine lg_callw (want_none (by rfl)) (rputFlag_S true m7 (by omega) (by first | omega | (simp only [numOct_length]; omega))) (by kernel_rfl) rfl rfl rfl (by decide) ?_
    rintro _ w8 ⟨r8, rfl, m8, hw8⟩
    have zw8 := hw8.size
    refine hg_next hw8 ?_
    refine hg_up hw8 ?_
    refine hg_take 5 (by rfl) (want_none (by rfl)) (by rfl) rfl (by decide) (by kernel_rfl) (by kernel_rfl) (by kernel_rfl) (fun _ _ _ h => h) (Below.refl _ _) (fun q hq => y_assign rfl rfl) ?_
    refine hg_done (by kernel_rfl) ?_
    refine nx (E' := [(1, _), (2, _), (6, _), (7, _), (8, _)]) (fk rfl (fk rfl (fk rfl (fk rfl (fk rfl fn))))) ?_
    refine cg_seq ?_
    refine cg_seq ?_
    refine cg_region ?_
    refine lsw (want_none (by rfl)) (y_fld (off := 0) (by kernel_rfl) rfl rfl) rfl (by decide) ?_
    have r3 := RowAt.below hw7 r3.lt r3
    have r3 := RowAt.below hw8 r3.lt r3
    refine lsw (want_none (by rfl)) (y_cellv (v := nv ((ndAs L).kind)) r3 rfl (by kernel_rfl) rfl rfl) rfl (by decide) ?_
    refine lsw (want_none (by rfl)) (yb (decide_eq_true c6) (yi_eql rfl rfl rfl)) rfl (by decide) ?_
    refine lg_nil ?_
    refine nx (E' := [(1, _), (2, _), (6, _), (7, _), (8, _), (18, _)]) (fk rfl (fk rfl (fk rfl (fk rfl (fk rfl (fk rfl fn)))))) ?_
    refine cg_ct rfl ?_
    refine cg_region ?_
    refine lsw (want_none (by rfl)) (y_move rfl rfl) rfl (by decide) ?_
    refine lsw (want_none (by rfl)) (y_fld (off := 5) (by kernel_rfl) rfl rfl) rfl (by decide) ?_
    refine lsw (want_none (by rfl)) (y_part r3 (m := 3) rfl (show 5+3 ≤ 8 by decide) (by kernel_rfl) (by kernel_rfl) rfl rfl) rfl (by decide) ?_
    have m2 := m2.below (n3.below.mono (by omega))
    have m2 := m2.below (s4.below _ (by omega))
    have m2 := m2.below (dW5.mono (by omega))
    have m2 := m2.below (hw7.mono (by omega))
    have m2 := m2.below (hw8.mono (by omega))
    refine lg_callw (want_none (by rfl)) (rputP_any (m8.more (B' := w8.heap.size) (by omega)) (m2.inner.more (B' := w8.heap.size) (by omega)) (Nat.le_refl _) (by first | omega | (simp only [List.length_append, numOct_length, flagOct_length]; omega))) (by kernel_rfl) rfl rfl rfl (by decide) ?_
    rintro _ w9 ⟨r9, rfl, m9, hw9⟩
    have zw9 := hw9.size
    have lp9 := pnPut_le ((ndAs L).inner)
    refine lsw (want_none (by rfl)) (y_assign rfl rfl) rfl (by decide) ?_
    refine lg_nil ?_
    refine nx (E' := [(1, _), (2, _), (6, _), (8, _)]) (fk rfl (fk rfl (fk rfl (fk rfl fn)))) ?_
    refine cg_seq ?_
    refine cg_region ?_
    refine lsw (want_none (by rfl)) (y_move rfl rfl) rfl (by decide) ?_
    refine lsw (want_none (by rfl)) (y_move rfl rfl) rfl (by decide) ?_
    have h := h.below (n1.below.mono (by omega))
    have h := h.below (hw2.mono (by omega))
    have h := h.below (n3.below.mono (by omega))
    have h := h.set o4 rfl s4
    have h := h.below (dW5.mono (by omega))
    have h := h.below (hw7.mono (by omega))
    have h := h.below (hw8.mono (by omega))
    have h := h.below (hw9.mono (by omega))
    refine lg_callw (want_none (by rfl)) (rputBytes_S m9 h (by omega) (by omega) (by first | omega | (simp only [List.length_append, numOct_length, flagOct_length]; omega)) (by first | omega | (simp only [List.length_append, numOct_length, flagOct_length]; omega))) (by kernel_rfl) rfl rfl rfl (by decide) ?_
    rintro _ w10 ⟨r10, rfl, m10, hw10⟩
    have zw10 := hw10.size
    have lb10 := bytesOct_le xs
    refine lsw (want_none (by rfl)) (y_move rfl rfl) rfl (by decide) ?_
    have h2 := h2.below (n1.below.mono (by omega))
    have h2 := h2.below (hw2.mono (by omega))
    have h2 := h2.below (n3.below.mono (by omega))
    have h2 := h2.set o4 rfl s4
    have h2 := h2.below (dW5.mono (by omega))
    have h2 := h2.below (hw7.mono (by omega))
    have h2 := h2.below (hw8.mono (by omega))
    have h2 := h2.below (hw9.mono (by omega))
    have h2 := h2.below (hw10.mono (by omega))
    refine lg_callw (want_none (by rfl)) (rputBytes_S m10 h2 (by omega) (by omega) (by first | omega | (simp only [List.length_append, numOct_length, flagOct_length]; omega)) (by first | omega | (simp only [List.length_append, numOct_length, flagOct_length]; omega))) (by kernel_rfl) rfl rfl rfl (by decide) ?_
    rintro _ w11 ⟨r11, rfl, m11, hw11⟩
    have zw11 := hw11.size
    have lb11 := bytesOct_le ys
    refine lsw (want_none (by rfl)) (y_assign rfl rfl) rfl (by decide) ?_
    refine lg_nil ?_
    refine nx (E' := [(6, _)]) (fk rfl fn) ?_
    refine cg_ret ?_
    have u := u.trans (n1.below.mono u.size)
    have u := u.trans (hw2.mono u.size)
    have u := u.trans (n3.below.mono u.size)
    have u := u.trans (s4.below _ (by omega))
    have u := u.trans (dW5.mono u.size)
    have u := u.trans (hw7.mono u.size)
    have u := u.trans (hw8.mono u.size)
    have u := u.trans (hw9.mono u.size)
    have u := u.trans (hw10.mono u.size)
    have u := u.trans (hw11.mono u.size)
    exact eg_ret_tmp rfl rfl ⟨_, rfl, r11, rfl, (m11.more (by omega)).cast (by rw [ofInnerO, ndOnly, if_neg (by omega), if_pos ⟨by omega, rfl⟩, eaL]; simp only [List.append_assoc]), u⟩
  · refine hg_take 3 (by rfl) (want_none (by rfl)) (by rfl) rfl (by decide) (by kernel_rfl) (by kernel_rfl) (by kernel_rfl) (fun _ _ _ h => h) (Below.refl _ _) (fun q hq => yb (decide_eq_false c6) (yi_eql rfl rfl rfl)) ?_
    refine hg_one 0 (by rfl) (by kernel_rfl) (want_none (by rfl)) ?_
    refine lg_callw (want_none (by rfl)) (rputNum_S 2 1 (Sl.nil _ 0) (by omega) (by first | omega | (simp only [List.length_nil]; omega))) (by kernel_rfl) rfl rfl rfl (by decide) ?_
    rintro _ w12 ⟨r12, rfl, m12, hw12⟩
    have zw12 := hw12.size
    rw [List.nil_append] at m12
    have wk12 := widthK_le 1
    refine hg_next hw12 ?_
    refine hg_up hw12 ?_
    refine hg_one 4 (by rfl) (by kernel_rfl) (want_none (by rfl)) ?_
    refine lg_callw (want_none (by rfl)) (rputFlag_S false m12 (by omega) (by first | omega | (simp only [numOct_length]; omega))) (by kernel_rfl) rfl rfl rfl (by decide) ?_
    rintro _ w13 ⟨r13, rfl, m13, hw13⟩
    have zw13 := hw13.size
    refine hg_next hw13 ?_
    refine hg_up hw13 ?_
    refine hg_take 5 (by rfl) (want_none (by rfl)) (by rfl) rfl (by decide) (by kernel_rfl) (by kernel_rfl) (by kernel_rfl) (fun _ _ _ h => h) (Below.refl _ _) (fun q hq => y_assign rfl rfl) ?_
    refine hg_done (by kernel_rfl) ?_
    refine nx (E' := [(1, _), (2, _), (6, _), (7, _), (8, _)]) (fk rfl (fk rfl (fk rfl (fk rfl (fk rfl fn))))) ?_
    refine cg_seq ?_
    refine cg_seq ?_
    refine cg_region ?_
    refine lsw (want_none (by rfl)) (y_fld (off := 0) (by kernel_rfl) rfl rfl) rfl (by decide) ?_
    have r3 := RowAt.below hw12 r3.lt r3
    have r3 := RowAt.below hw13 r3.lt r3
    refine lsw (want_none (by rfl)) (y_cellv (v := nv ((ndAs L).kind)) r3 rfl (by kernel_rfl) rfl rfl) rfl (by decide) ?_
    refine lsw (want_none (by rfl)) (yb (decide_eq_false c6) (yi_eql rfl rfl rfl)) rfl (by decide) ?_
    refine lg_nil ?_
    refine nx (E' := [(1, _), (2, _), (6, _), (7, _), (8, _), (18, _)]) (fk rfl (fk rfl (fk rfl (fk rfl (fk rfl (fk rfl fn)))))) ?_
    refine cg_cf rfl ?_
    refine cg_skip ?_
    refine nx (E' := [(1, _), (2, _), (6, _), (8, _)]) (fk rfl (fk rfl (fk rfl (fk rfl fn)))) ?_
    refine cg_seq ?_
    refine cg_region ?_
    refine lsw (want_none (by rfl)) (y_move rfl rfl) rfl (by decide) ?_
    refine lsw (want_none (by rfl)) (y_move rfl rfl) rfl (by decide) ?_
    have h := h.below (n1.below.mono (by omega))
    have h := h.below (hw2.mono (by omega))
    have h := h.below (n3.below.mono (by omega))
    have h := h.set o4 rfl s4
    have h := h.below (dW5.mono (by omega))
    have h := h.below (hw12.mono (by omega))
    have h := h.below (hw13.mono (by omega))
    refine lg_callw (want_none (by rfl)) (rputBytes_S m13 h (by omega) (by omega) (by first | omega | (simp only [List.length_append, numOct_length, flagOct_length]; omega)) (by first | omega | (simp only [List.length_append, numOct_length, flagOct_length]; omega))) (by kernel_rfl) rfl rfl rfl (by decide) ?_
    rintro _ w14 ⟨r14, rfl, m14, hw14⟩
    have zw14 := hw14.size
    have lb14 := bytesOct_le xs
    refine lsw (want_none (by rfl)) (y_move rfl rfl) rfl (by decide) ?_
    have h2 := h2.below (n1.below.mono (by omega))
    have h2 := h2.below (hw2.mono (by omega))
    have h2 := h2.below (n3.below.mono (by omega))
    have h2 := h2.set o4 rfl s4
    have h2 := h2.below (dW5.mono (by omega))
    have h2 := h2.below (hw12.mono (by omega))
    have h2 := h2.below (hw13.mono (by omega))
    have h2 := h2.below (hw14.mono (by omega))
    refine lg_callw (want_none (by rfl)) (rputBytes_S m14 h2 (by omega) (by omega) (by first | omega | (simp only [List.length_append, numOct_length, flagOct_length]; omega)) (by first | omega | (simp only [List.length_append, numOct_length, flagOct_length]; omega))) (by kernel_rfl) rfl rfl rfl (by decide) ?_
    rintro _ w15 ⟨r15, rfl, m15, hw15⟩
    have zw15 := hw15.size
    have lb15 := bytesOct_le ys
    refine lsw (want_none (by rfl)) (y_assign rfl rfl) rfl (by decide) ?_
    refine lg_nil ?_
    refine nx (E' := [(6, _)]) (fk rfl fn) ?_
    refine cg_ret ?_
    have u := u.trans (n1.below.mono u.size)
    have u := u.trans (hw2.mono u.size)
    have u := u.trans (n3.below.mono u.size)
    have u := u.trans (s4.below _ (by omega))
    have u := u.trans (dW5.mono u.size)
    have u := u.trans (hw12.mono u.size)
    have u := u.trans (hw13.mono u.size)
    have u := u.trans (hw14.mono u.size)
    have u := u.trans (hw15.mono u.size)
    exact eg_ret_tmp rfl rfl ⟨_, rfl, r15, rfl, (m15.more (by omega)).cast (by rw [ofInnerO, ndOnly, if_neg (by omega), if_neg (by omega)]), u⟩
theorem rofParentN_any {W : World} {B : Nat} {l : PnV} {L : Pn} {s : SlV} {xs : List Int} (hl : IsPn W B l L) (h : Sl W B s xs) (hB : B ≤ W.heap.size) (hx : xs.length ≤ 10000) (he : L.enc.length ≤ 10000) (hh : L.hash.length ≤ 10000) : Calls Try.prog 24 #[.agg (l.cs L), s.v] W fun e W' => ∃ v, e = .returned v ∧ PutS W (ofParentO L xs) v W' := by
  refine calls_cg (n := 13) Try.func24 rfl Try.ntmps24 (by simp) ?_
  show CG _ _ _ [(0, .agg (l.cs L)), (1, s.v)] _ _
  have u := Below.refl W.heap.size W
  refine cg_seq ?_
  refine cg_region ?_
  refine lg_boxw (want_none (by rfl)) rfl rfl (by kernel_rfl) rfl (by decide) fun b1 w1 n1 => ?_
  have r1 := n1.row
  have k1 := n1.blk
  have z1 := n1.size
  have lt1 : b1 < w1.heap.size := by omega
  refine lsw (want_none (by rfl)) (y_assign rfl rfl) rfl (by decide) ?_
  refine lg_nil ?_
  refine nx (E' := [(1, _), (2, _), (4, _)]) (fk rfl (fk rfl (fk rfl fn))) ?_
  refine cg_seq ?_
  refine cg_held (by kernel_rfl) fun W2 eW2 => ?_
  have dW2 := below_drew _ _ eW2
  have zW2 := size_drew _ _ eW2
  clear eW2
  refine hg_take 0 (by rfl) (want_none (by rfl)) (by rfl) rfl (by decide) (by kernel_rfl) (by kernel_rfl) (by kernel_rfl) (fun _ _ _ h => h) (Below.refl _ _) (fun q hq => y_fld (off := 0) (by kernel_rfl) rfl rfl) ?_
  have r1 := RowAt.below dW2 r1.lt r1
  refine hg_take 1 (by rfl) (want_none (by rfl)) (by rfl) rfl (by decide) (by kernel_rfl) (by kernel_rfl) (by kernel_rfl) (fun _ _ _ h => h) (Below.refl _ _) (fun q hq => y_cellv (v := l.enc.v) (RowAt.below hq r1.lt r1) rfl (by kernel_rfl) rfl rfl) ?_
  refine hg_take 3 (by rfl) (want_none (by rfl)) (by rfl) rfl (by decide) (by kernel_rfl) (by kernel_rfl) (by kernel_rfl) (fun _ _ _ h => h) (Below.refl _ _) (fun q hq => y_fld (off := 1) (by kernel_rfl) rfl rfl) ?_
  refine hg_take 4 (by rfl) (want_none (by rfl)) (by rfl) rfl (by decide) (by kernel_rfl) (by kernel_rfl) (by kernel_rfl) (fun _ _ _ h => h) (Below.refl _ _) (fun q hq => y_cellv (v := l.hash.v) (RowAt.below hq r1.lt r1) rfl (by kernel_rfl) rfl rfl) ?_
  refine hg_take 6 (by rfl) (want_none (by rfl)) (by rfl) rfl (by decide) (by kernel_rfl) (by kernel_rfl) (by kernel_rfl) (fun _ _ _ h => h) (Below.refl _ _) (fun q hq => y_move rfl rfl) ?_
  have hl := hl.below (n1.below.mono (by omega))
  have hl := hl.below (dW2.mono (by omega))
  refine hg_one 2 (by rfl) (by kernel_rfl) (want_none (by rfl)) ?_
  refine lg_callw (want_none (by rfl)) (rputBytes_S (Sl.nil _ 0) hl.enc (by omega) (by omega) (by first | omega | (simp only [List.length_nil]; omega)) (by first | omega | (simp only [List.length_nil]; omega))) (by kernel_rfl) rfl rfl rfl (by decide) ?_
  rintro _ w3 ⟨r3, rfl, m3, hw3⟩
  have zw3 := hw3.size
  rw [List.nil_append] at m3
  have lb3 := bytesOct_le L.enc
  refine hg_next hw3 ?_
  refine hg_up hw3 ?_
  have hl := hl.below (hw3.mono (by omega))
  refine hg_one 5 (by rfl) (by kernel_rfl) (want_none (by rfl)) ?_
  refine lg_callw (want_none (by rfl)) (rputBytes_S m3 hl.hash (by omega) (by omega) (by first | omega | (simp only [List.length_append, List.length_cons, List.length_nil, numOct_length, flagOct_length]; omega)) (by first | omega | (simp only [List.length_append, List.length_cons, List.length_nil, numOct_length, flagOct_length]; omega))) (by kernel_rfl) rfl rfl rfl (by decide) ?_
  rintro _ w4 ⟨r4, rfl, m4, hw4⟩
  have zw4 := hw4.size
  have lb4 := bytesOct_le L.hash
  refine hg_next hw4 ?_
  refine hg_up hw4 ?_
  have h := h.below (n1.below.mono (by omega))
  have h := h.below (dW2.mono (by omega))
  have h := h.below (hw3.mono (by omega))
  have h := h.below (hw4.mono (by omega))
  refine hg_one 7 (by rfl) (by kernel_rfl) (want_none (by rfl)) ?_
  refine lg_callw (want_none (by rfl)) (rputBytes_S m4 h (by omega) (by omega) (by first | omega | (simp only [List.length_append]; omega)) (by first | omega | (simp only [List.length_append]; omega))) (by kernel_rfl) rfl rfl rfl (by decide) ?_
  rintro _ w5 ⟨r5, rfl, m5, hw5⟩
  have zw5 := hw5.size
  have lb5 := bytesOct_le xs
  refine hg_next hw5 ?_
  refine hg_up hw5 ?_
  refine hg_take 8 (by rfl) (want_none (by rfl)) (by rfl) rfl (by decide) (by kernel_rfl) (by kernel_rfl) (by kernel_rfl) (fun _ _ _ h => h) (Below.refl _ _) (fun q hq => y_assign rfl rfl) ?_
  refine hg_done (by kernel_rfl) ?_
  refine nx (E' := [(4, _)]) (fk rfl fn) ?_
  refine cg_ret ?_
  have u := u.trans (n1.below.mono u.size)
  have u := u.trans (dW2.mono u.size)
  have u := u.trans (hw3.mono u.size)
  have u := u.trans (hw4.mono u.size)
  have u := u.trans (hw5.mono u.size)
  exact eg_ret_tmp rfl rfl ⟨_, rfl, r5, rfl, (m5.more (by omega)).cast (by simp only [ofParentO]), u⟩
end
end Go.Proofs.Ytpmakacjhoemeaa
