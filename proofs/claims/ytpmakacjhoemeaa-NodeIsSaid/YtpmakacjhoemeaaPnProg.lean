/-
  parent.Check, Same, Put and Get.
-/
import Derived.Test.YtpmakacjhoemeaaPnNum
namespace Go.Proofs.Ytpmakacjhoemeaa
open Go.ChangeShapes Go.WideShapes Go.ChangeAt Go.RowKit
set_option linter.unusedVariables false

section
set_option maxHeartbeats 1000000
theorem checkP_any {W : World} {B : Nat} {l : PnV} {L : Pn} (hl : IsPn W B l L) (hB : B ≤ W.heap.size) : Calls Try.prog 39 #[.agg (l.cs L)] W fun e W' => ∃ v, e = .returned v ∧ v = nv (pnCheck L) ∧ Below W.heap.size W W' := by
  refine calls_cg (n := 32) Try.func39 rfl Try.ntmps39 (by simp) ?_
  show CG _ _ _ [(0, .agg (l.cs L))] _ _
  have u := Below.refl W.heap.size W
  refine cg_seq ?_
  refine cg_region ?_
  refine lg_boxw (want_none (by rfl)) rfl rfl (by kernel_rfl) rfl (by decide) fun b1 w1 n1 => ?_
  have r1 := n1.row
  have k1 := n1.blk
  have z1 := n1.size
  have lt1 : b1 < w1.heap.size := by omega
  refine lsw (want_none (by rfl)) (y_assign rfl rfl) rfl (by decide) ?_
  refine lg_nil ?_
  refine nx (E' := [(1, _), (2, _)]) (fk rfl (fk rfl fn)) ?_
  refine cg_seq ?_
  refine cg_block ?_
  refine cg_seq ?_
  refine cg_region ?_
  refine lsw (want_none (by rfl)) (y_fld (off := 0) (by kernel_rfl) rfl rfl) rfl (by decide) ?_
  refine lsw (want_none (by rfl)) (y_cellv (v := l.enc.v) r1 rfl (by kernel_rfl) rfl rfl) rfl (by decide) ?_
  have hl := hl.below (n1.below.mono (by omega))
  refine lsw (want_none (by rfl)) (y_lenS (el := 5) hl.enc (by kernel_rfl) rfl rfl) rfl (by decide) ?_
  by_cases c2 : (L.enc.length : Int) = 0
  · refine lsw (want_none (by rfl)) (yb (decide_eq_true c2) (yi_eql rfl rfl rfl)) rfl (by decide) ?_
    refine lsw (want_none (by rfl)) (y_assign rfl rfl) rfl (by decide) ?_
    refine lg_nil ?_
    refine nx (E' := [(1, _), (2, _), (3, _)]) (fk rfl (fk rfl (fk rfl fn))) ?_
    refine cg_ct rfl ?_
    refine cg_seq ?_
    refine cg_region ?_
    refine lsw (want_none (by rfl)) (y_assign rfl rfl) rfl (by decide) ?_
    refine lg_nil ?_
    refine nx (E' := [(2, _)]) (fk rfl fn) ?_
    refine cg_ret ?_
    refine eg_block_ret ?_
    refine eg_seq_ret ?_
    have u := u.trans (n1.below.mono u.size)
    exact eg_ret_tmp rfl rfl ⟨_, rfl, congrArg nv (show pnCheck L = 5 from (if_pos c2)).symm, u⟩
  · refine lsw (want_none (by rfl)) (yb (decide_eq_false c2) (yi_eql rfl rfl rfl)) rfl (by decide) ?_
    refine lsw (want_none (by rfl)) (y_assign rfl rfl) rfl (by decide) ?_
    refine lg_nil ?_
    refine nx (E' := [(1, _), (2, _), (3, _)]) (fk rfl (fk rfl (fk rfl fn))) ?_
    refine cg_cf rfl ?_
    refine cg_seq ?_
    refine cg_region ?_
    refine lsw (want_none (by rfl)) (y_fld (off := 0) (by kernel_rfl) rfl rfl) rfl (by decide) ?_
    refine lsw (want_none (by rfl)) (y_cellv (v := l.enc.v) r1 rfl (by kernel_rfl) rfl rfl) rfl (by decide) ?_
    by_cases c3 : 200 < (L.enc.length : Int)
    · refine lsw (want_none (by rfl)) (yb (decide_eq_true c3) (y_call (largeP_any hl.enc) (by kernel_rfl) rfl rfl)) rfl (by decide) ?_
      refine lsw (want_none (by rfl)) (y_move rfl rfl) rfl (by decide) ?_
      refine lsk (want_f (dj := 12) (by rfl) (by kernel_rfl) rfl) rfl (by decide) ?_
      refine lsk (want_f (dj := 12) (by rfl) (by kernel_rfl) rfl) rfl (by decide) ?_
      refine lsk (want_f (dj := 12) (by rfl) (by kernel_rfl) rfl) rfl (by decide) ?_
      refine lsw (want_none (by rfl)) (y_pick true rfl rfl rfl) rfl (by decide) ?_
      refine lsw (want_none (by rfl)) (y_move rfl rfl) rfl (by decide) ?_
      refine lsk (want_f (dj := 17) (by rfl) (by kernel_rfl) rfl) rfl (by decide) ?_
      refine lsk (want_f (dj := 17) (by rfl) (by kernel_rfl) rfl) rfl (by decide) ?_
      refine lsk (want_f (dj := 17) (by rfl) (by kernel_rfl) rfl) rfl (by decide) ?_
      refine lsk (want_f (dj := 17) (by rfl) (by kernel_rfl) rfl) rfl (by decide) ?_
      refine lsw (want_none (by rfl)) (y_pick true rfl rfl rfl) rfl (by decide) ?_
      refine lsw (want_none (by rfl)) (y_assign rfl rfl) rfl (by decide) ?_
      refine lg_nil ?_
      refine nx (E' := [(1, _), (2, _), (8, _)]) (fk rfl (fk rfl (fk rfl fn))) ?_
      refine cg_ct rfl ?_
      refine cg_seq ?_
      refine cg_region ?_
      refine lsw (want_none (by rfl)) (y_assign rfl rfl) rfl (by decide) ?_
      refine lg_nil ?_
      refine nx (E' := [(2, _)]) (fk rfl fn) ?_
      refine cg_ret ?_
      refine eg_block_ret ?_
      refine eg_seq_ret ?_
      have u := u.trans (n1.below.mono u.size)
      exact eg_ret_tmp rfl rfl ⟨_, rfl, congrArg nv (show pnCheck L = 4 from ((if_neg c2).trans (if_pos (by omega)))).symm, u⟩
    · refine lsw (want_none (by rfl)) (yb (decide_eq_false c3) (y_call (largeP_any hl.enc) (by kernel_rfl) rfl rfl)) rfl (by decide) ?_
      refine lsw (want_none (by rfl)) (y_move rfl rfl) rfl (by decide) ?_
      refine lsw (want_t (dj := 12) (by rfl) (by kernel_rfl) rfl) (y_fld (off := 1) (by kernel_rfl) rfl rfl) rfl (by decide) ?_
      refine lsw (want_t (dj := 12) (by rfl) (by kernel_rfl) rfl) (y_cellv (v := l.hash.v) r1 rfl (by kernel_rfl) rfl rfl) rfl (by decide) ?_
      by_cases c4 : 200 < (L.hash.length : Int)
      · refine lsw (want_t (dj := 12) (by rfl) (by kernel_rfl) rfl) (yb (decide_eq_true c4) (y_call (largeP_any hl.hash) (by kernel_rfl) rfl rfl)) rfl (by decide) ?_
        refine lsw (want_none (by rfl)) (y_pick false rfl rfl rfl) rfl (by decide) ?_
        refine lsw (want_none (by rfl)) (y_move rfl rfl) rfl (by decide) ?_
        refine lsk (want_f (dj := 17) (by rfl) (by kernel_rfl) rfl) rfl (by decide) ?_
        refine lsk (want_f (dj := 17) (by rfl) (by kernel_rfl) rfl) rfl (by decide) ?_
        refine lsk (want_f (dj := 17) (by rfl) (by kernel_rfl) rfl) rfl (by decide) ?_
        refine lsk (want_f (dj := 17) (by rfl) (by kernel_rfl) rfl) rfl (by decide) ?_
        refine lsw (want_none (by rfl)) (y_pick true rfl rfl rfl) rfl (by decide) ?_
        refine lsw (want_none (by rfl)) (y_assign rfl rfl) rfl (by decide) ?_
        refine lg_nil ?_
        refine nx (E' := [(1, _), (2, _), (8, _)]) (fk rfl (fk rfl (fk rfl fn))) ?_
        refine cg_ct rfl ?_
        refine cg_seq ?_
        refine cg_region ?_
        refine lsw (want_none (by rfl)) (y_assign rfl rfl) rfl (by decide) ?_
        refine lg_nil ?_
        refine nx (E' := [(2, _)]) (fk rfl fn) ?_
        refine cg_ret ?_
        refine eg_block_ret ?_
        refine eg_seq_ret ?_
        have u := u.trans (n1.below.mono u.size)
        exact eg_ret_tmp rfl rfl ⟨_, rfl, congrArg nv (show pnCheck L = 4 from ((if_neg c2).trans (if_pos (by omega)))).symm, u⟩
      · refine lsw (want_t (dj := 12) (by rfl) (by kernel_rfl) rfl) (yb (decide_eq_false c4) (y_call (largeP_any hl.hash) (by kernel_rfl) rfl rfl)) rfl (by decide) ?_
        refine lsw (want_none (by rfl)) (y_pick false rfl rfl rfl) rfl (by decide) ?_
        refine lsw (want_none (by rfl)) (y_move rfl rfl) rfl (by decide) ?_
        refine lsw (want_t (dj := 17) (by rfl) (by kernel_rfl) rfl) (y_fld (off := 2) (by kernel_rfl) rfl rfl) rfl (by decide) ?_
        refine lsw (want_t (dj := 17) (by rfl) (by kernel_rfl) rfl) (y_cellv (v := l.unm.v) r1 rfl (by kernel_rfl) rfl rfl) rfl (by decide) ?_
        refine lsw (want_t (dj := 17) (by rfl) (by kernel_rfl) rfl) (y_lenM (el := 3) hl.unm.len (by kernel_rfl) rfl rfl) rfl (by decide) ?_
        by_cases c5 : 64 < (L.unm.length : Int)
        · refine lsw (want_t (dj := 17) (by rfl) (by kernel_rfl) rfl) (yb (decide_eq_true c5) (yi_gtr rfl rfl rfl)) rfl (by decide) ?_
          refine lsw (want_none (by rfl)) (y_pick false rfl rfl rfl) rfl (by decide) ?_
          refine lsw (want_none (by rfl)) (y_assign rfl rfl) rfl (by decide) ?_
          refine lg_nil ?_
          refine nx (E' := [(1, _), (2, _), (8, _)]) (fk rfl (fk rfl (fk rfl fn))) ?_
          refine cg_ct rfl ?_
          refine cg_seq ?_
          refine cg_region ?_
          refine lsw (want_none (by rfl)) (y_assign rfl rfl) rfl (by decide) ?_
          refine lg_nil ?_
          refine nx (E' := [(2, _)]) (fk rfl fn) ?_
          refine cg_ret ?_
          refine eg_block_ret ?_
          refine eg_seq_ret ?_
          have u := u.trans (n1.below.mono u.size)
          exact eg_ret_tmp rfl rfl ⟨_, rfl, congrArg nv (show pnCheck L = 4 from ((if_neg c2).trans (if_pos (by omega)))).symm, u⟩
        · refine lsw (want_t (dj := 17) (by rfl) (by kernel_rfl) rfl) (yb (decide_eq_false c5) (yi_gtr rfl rfl rfl)) rfl (by decide) ?_
          refine lsw (want_none (by rfl)) (y_pick false rfl rfl rfl) rfl (by decide) ?_
          refine lsw (want_none (by rfl)) (y_assign rfl rfl) rfl (by decide) ?_
          refine lg_nil ?_
          refine nx (E' := [(1, _), (2, _), (8, _)]) (fk rfl (fk rfl (fk rfl fn))) ?_
          refine cg_cf rfl ?_
          refine cg_seq ?_
          refine cg_region ?_
          refine lsw (want_none (by rfl)) (y_fld (off := 2) (by kernel_rfl) rfl rfl) rfl (by decide) ?_
          refine lsw (want_none (by rfl)) (y_cellv (v := l.unm.v) r1 rfl (by kernel_rfl) rfl rfl) rfl (by decide) ?_
          by_cases c6 : ∃ x ∈ L.unm, x < 0 ∨ 64 ≤ x
          · refine lsw (want_none (by rfl)) (yb (decide_eq_true c6) (y_call (containsOut_any hl.unm) (by kernel_rfl) rfl rfl)) rfl (by decide) ?_
            refine lsw (want_none (by rfl)) (y_assign rfl rfl) rfl (by decide) ?_
            refine lg_nil ?_
            refine nx (E' := [(1, _), (2, _), (23, _)]) (fk rfl (fk rfl (fk rfl fn))) ?_
            refine cg_ct rfl ?_
            refine cg_seq ?_
            refine cg_region ?_
            refine lsw (want_none (by rfl)) (y_assign rfl rfl) rfl (by decide) ?_
            refine lg_nil ?_
            refine nx (E' := [(2, _)]) (fk rfl fn) ?_
            refine cg_ret ?_
            refine eg_block_ret ?_
            refine eg_seq_ret ?_
            have u := u.trans (n1.below.mono u.size)
            exact eg_ret_tmp rfl rfl ⟨_, rfl, congrArg nv (show pnCheck L = 3 from (((if_neg c2).trans (if_neg (by omega))).trans (if_pos c6))).symm, u⟩
          · refine lsw (want_none (by rfl)) (yb (decide_eq_false c6) (y_call (containsOut_any hl.unm) (by kernel_rfl) rfl rfl)) rfl (by decide) ?_
            refine lsw (want_none (by rfl)) (y_assign rfl rfl) rfl (by decide) ?_
            refine lg_nil ?_
            refine nx (E' := [(1, _), (2, _), (23, _)]) (fk rfl (fk rfl (fk rfl fn))) ?_
            refine cg_cf rfl ?_
            refine cg_seq ?_
            refine cg_region ?_
            refine lsw (want_none (by rfl)) (y_fld (off := 2) (by kernel_rfl) rfl rfl) rfl (by decide) ?_
            refine lsw (want_none (by rfl)) (y_cellv (v := l.unm.v) r1 rfl (by kernel_rfl) rfl rfl) rfl (by decide) ?_
            by_cases c7 : Rising L.unm
            · refine lg_callw (want_none (by rfl)) (rises_any hl.unm (by omega)) (by kernel_rfl) rfl rfl rfl (by decide) ?_
              rintro u8 w8 ⟨e8, hw8⟩
              have zw8 := hw8.size
              obtain rfl : u8 = .bool true := e8.trans (congrArg Value.bool (decide_eq_true c7))
              refine lsw (want_none (by rfl)) (y_bnot rfl rfl) rfl (by decide) ?_
              refine lsw (want_none (by rfl)) (y_assign rfl rfl) rfl (by decide) ?_
              refine lg_nil ?_
              refine nx (E' := [(2, _), (27, _)]) (fk rfl (fk rfl fn)) ?_
              refine cg_cf rfl ?_
              refine cg_skip ?_
              refine eg_block_norm ?_
              refine nx (E' := [(2, _)]) (fk rfl fn) ?_
              refine cg_seq ?_
              refine cg_region ?_
              refine lsw (want_none (by rfl)) (y_assign rfl rfl) rfl (by decide) ?_
              refine lg_nil ?_
              refine nx (E' := [(2, _)]) (fk rfl fn) ?_
              refine cg_ret ?_
              have u := u.trans (n1.below.mono u.size)
              have u := u.trans (hw8.mono u.size)
              exact eg_ret_tmp rfl rfl ⟨_, rfl, congrArg nv (show pnCheck L = 0 from ((((if_neg c2).trans (if_neg (by omega))).trans (if_neg c6)).trans (if_neg (not_not_intro c7)))).symm, u⟩
            · refine lg_callw (want_none (by rfl)) (rises_any hl.unm (by omega)) (by kernel_rfl) rfl rfl rfl (by decide) ?_
              rintro u9 w9 ⟨e9, hw9⟩
              have zw9 := hw9.size
              obtain rfl : u9 = .bool false := e9.trans (congrArg Value.bool (decide_eq_false c7))
              refine lsw (want_none (by rfl)) (y_bnot rfl rfl) rfl (by decide) ?_
              refine lsw (want_none (by rfl)) (y_assign rfl rfl) rfl (by decide) ?_
              refine lg_nil ?_
              refine nx (E' := [(2, _), (27, _)]) (fk rfl (fk rfl fn)) ?_
              refine cg_ct rfl ?_
              refine cg_seq ?_
              refine cg_region ?_
              refine lsw (want_none (by rfl)) (y_assign rfl rfl) rfl (by decide) ?_
              refine lg_nil ?_
              refine nx (E' := [(2, _)]) (fk rfl fn) ?_
              refine cg_ret ?_
              refine eg_block_ret ?_
              refine eg_seq_ret ?_
              have u := u.trans (n1.below.mono u.size)
              have u := u.trans (hw9.mono u.size)
              exact eg_ret_tmp rfl rfl ⟨_, rfl, congrArg nv (show pnCheck L = 8 from ((((if_neg c2).trans (if_neg (by omega))).trans (if_neg c6)).trans (if_pos c7))).symm, u⟩
theorem sameP_any {W : World} {B : Nat} {l m : PnV} {L M : Pn} (hl : IsPn W B l L) (hm : IsPn W B m M) (hB : B ≤ W.heap.size) : Calls Try.prog 37 #[.agg (l.cs L), .agg (m.cs M)] W fun e W' => ∃ v, e = .returned v ∧ v = .bool (decide (PnSame L M)) ∧ Below W.heap.size W W' := by
  refine calls_cg (n := 24) Try.func37 rfl Try.ntmps37 (by simp) ?_
  show CG _ _ _ [(0, .agg (l.cs L)), (1, .agg (m.cs M))] _ _
  have u := Below.refl W.heap.size W
  refine cg_seq ?_
  refine cg_region ?_
  refine lg_boxw (want_none (by rfl)) rfl rfl (by kernel_rfl) rfl (by decide) fun b1 w1 n1 => ?_
  have r1 := n1.row
  have k1 := n1.blk
  have z1 := n1.size
  have lt1 : b1 < w1.heap.size := by omega
  refine lg_boxw (want_none (by rfl)) rfl rfl (by kernel_rfl) rfl (by decide) fun b2 w2 n2 => ?_
  have r2 := n2.row
  have k2 := n2.blk
  have z2 := n2.size
  have lt2 : b2 < w2.heap.size := by omega
  refine lsw (want_none (by rfl)) (y_assign rfl rfl) rfl (by decide) ?_
  refine lg_nil ?_
  refine nx (E' := [(2, _), (3, _), (4, _)]) (fk rfl (fk rfl (fk rfl fn))) ?_
  refine cg_seq ?_
  refine cg_region ?_
  refine lsw (want_none (by rfl)) (y_fld (off := 0) (by kernel_rfl) rfl rfl) rfl (by decide) ?_
  have r1 := n2.keep r1
  refine lsw (want_none (by rfl)) (y_cellv (v := l.enc.v) r1 rfl (by kernel_rfl) rfl rfl) rfl (by decide) ?_
  refine lsw (want_none (by rfl)) (y_fld (off := 0) (by kernel_rfl) rfl rfl) rfl (by decide) ?_
  refine lsw (want_none (by rfl)) (y_cellv (v := m.enc.v) r2 rfl (by kernel_rfl) rfl rfl) rfl (by decide) ?_
  have hl := hl.below (n1.below.mono (by omega))
  have hl := hl.below (n2.below.mono (by omega))
  have hm := hm.below (n1.below.mono (by omega))
  have hm := hm.below (n2.below.mono (by omega))
  by_cases c3 : L.enc = M.enc
  · refine lsw (want_none (by rfl)) (yb (decide_eq_true c3) (y_call (bytesEq_S hl.enc hm.enc) (by kernel_rfl) rfl rfl)) rfl (by decide) ?_
    refine lsw (want_none (by rfl)) (y_move rfl rfl) rfl (by decide) ?_
    refine lsw (want_t (dj := 10) (by rfl) (by kernel_rfl) rfl) (y_fld (off := 1) (by kernel_rfl) rfl rfl) rfl (by decide) ?_
    refine lsw (want_t (dj := 10) (by rfl) (by kernel_rfl) rfl) (y_cellv (v := l.hash.v) r1 rfl (by kernel_rfl) rfl rfl) rfl (by decide) ?_
    refine lsw (want_t (dj := 10) (by rfl) (by kernel_rfl) rfl) (y_fld (off := 1) (by kernel_rfl) rfl rfl) rfl (by decide) ?_
    refine lsw (want_t (dj := 10) (by rfl) (by kernel_rfl) rfl) (y_cellv (v := m.hash.v) r2 rfl (by kernel_rfl) rfl rfl) rfl (by decide) ?_
    by_cases c4 : L.hash = M.hash
    · refine lsw (want_t (dj := 10) (by rfl) (by kernel_rfl) rfl) (yb (decide_eq_true c4) (y_call (bytesEq_S hl.hash hm.hash) (by kernel_rfl) rfl rfl)) rfl (by decide) ?_
      refine lsw (want_none (by rfl)) (y_pick true rfl rfl rfl) rfl (by decide) ?_
      refine lsw (want_none (by rfl)) (y_move rfl rfl) rfl (by decide) ?_
      refine lsw (want_t (dj := 17) (by rfl) (by kernel_rfl) rfl) (y_fld (off := 2) (by kernel_rfl) rfl rfl) rfl (by decide) ?_
      refine lsw (want_t (dj := 17) (by rfl) (by kernel_rfl) rfl) (y_cellv (v := l.unm.v) r1 rfl (by kernel_rfl) rfl rfl) rfl (by decide) ?_
      refine lsw (want_t (dj := 17) (by rfl) (by kernel_rfl) rfl) (y_fld (off := 2) (by kernel_rfl) rfl rfl) rfl (by decide) ?_
      refine lsw (want_t (dj := 17) (by rfl) (by kernel_rfl) rfl) (y_cellv (v := m.unm.v) r2 rfl (by kernel_rfl) rfl rfl) rfl (by decide) ?_
      by_cases c5 : L.unm = M.unm
      · refine lg_callw (want_t (dj := 17) (by rfl) (by kernel_rfl) rfl) (equalN_S hl.unm hm.unm (by omega) (by omega)) (by kernel_rfl) rfl rfl rfl (by decide) ?_
        rintro u6 w6 ⟨e6, hw6⟩
        have zw6 := hw6.size
        obtain rfl : u6 = .bool true := e6.trans (congrArg Value.bool (decide_eq_true c5))
        refine lsw (want_none (by rfl)) (y_pick true rfl rfl rfl) rfl (by decide) ?_
        refine lsw (want_none (by rfl)) (y_assign rfl rfl) rfl (by decide) ?_
        refine lg_nil ?_
        refine nx (E' := [(4, _)]) (fk rfl fn) ?_
        refine cg_ret ?_
        have u := u.trans (n1.below.mono u.size)
        have u := u.trans (n2.below.mono u.size)
        have u := u.trans (hw6.mono u.size)
        exact eg_ret_tmp rfl rfl ⟨_, rfl, congrArg Value.bool (show true = decide (PnSame L M) from (decide_eq_true (by simp [PnSame, *])).symm), u⟩
      · refine lg_callw (want_t (dj := 17) (by rfl) (by kernel_rfl) rfl) (equalN_S hl.unm hm.unm (by omega) (by omega)) (by kernel_rfl) rfl rfl rfl (by decide) ?_
        rintro u7 w7 ⟨e7, hw7⟩
        have zw7 := hw7.size
        obtain rfl : u7 = .bool false := e7.trans (congrArg Value.bool (decide_eq_false c5))
        refine lsw (want_none (by rfl)) (y_pick true rfl rfl rfl) rfl (by decide) ?_
        refine lsw (want_none (by rfl)) (y_assign rfl rfl) rfl (by decide) ?_
        refine lg_nil ?_
        refine nx (E' := [(4, _)]) (fk rfl fn) ?_
        refine cg_ret ?_
        have u := u.trans (n1.below.mono u.size)
        have u := u.trans (n2.below.mono u.size)
        have u := u.trans (hw7.mono u.size)
        exact eg_ret_tmp rfl rfl ⟨_, rfl, congrArg Value.bool (show false = decide (PnSame L M) from (decide_eq_false (by simp [PnSame, *])).symm), u⟩
    · refine lsw (want_t (dj := 10) (by rfl) (by kernel_rfl) rfl) (yb (decide_eq_false c4) (y_call (bytesEq_S hl.hash hm.hash) (by kernel_rfl) rfl rfl)) rfl (by decide) ?_
      refine lsw (want_none (by rfl)) (y_pick true rfl rfl rfl) rfl (by decide) ?_
      refine lsw (want_none (by rfl)) (y_move rfl rfl) rfl (by decide) ?_
      refine lsk (want_f (dj := 17) (by rfl) (by kernel_rfl) rfl) rfl (by decide) ?_
      refine lsk (want_f (dj := 17) (by rfl) (by kernel_rfl) rfl) rfl (by decide) ?_
      refine lsk (want_f (dj := 17) (by rfl) (by kernel_rfl) rfl) rfl (by decide) ?_
      refine lsk (want_f (dj := 17) (by rfl) (by kernel_rfl) rfl) rfl (by decide) ?_
      refine lsk (want_f (dj := 17) (by rfl) (by kernel_rfl) rfl) rfl (by decide) ?_
      refine lsw (want_none (by rfl)) (y_pick false rfl rfl rfl) rfl (by decide) ?_
      refine lsw (want_none (by rfl)) (y_assign rfl rfl) rfl (by decide) ?_
      refine lg_nil ?_
      refine nx (E' := [(4, _)]) (fk rfl fn) ?_
      refine cg_ret ?_
      have u := u.trans (n1.below.mono u.size)
      have u := u.trans (n2.below.mono u.size)
      exact eg_ret_tmp rfl rfl ⟨_, rfl, congrArg Value.bool (show false = decide (PnSame L M) from (decide_eq_false (by simp [PnSame, *])).symm), u⟩
  · refine lsw (want_none (by rfl)) (yb (decide_eq_false c3) (y_call (bytesEq_S hl.enc hm.enc) (by kernel_rfl) rfl rfl)) rfl (by decide) ?_
    refine lsw (want_none (by rfl)) (y_move rfl rfl) rfl (by decide) ?_
    refine lsk (want_f (dj := 10) (by rfl) (by kernel_rfl) rfl) rfl (by decide) ?_
    refine lsk (want_f (dj := 10) (by rfl) (by kernel_rfl) rfl) rfl (by decide) ?_
    refine lsk (want_f (dj := 10) (by rfl) (by kernel_rfl) rfl) rfl (by decide) ?_
    refine lsk (want_f (dj := 10) (by rfl) (by kernel_rfl) rfl) rfl (by decide) ?_
    refine lsk (want_f (dj := 10) (by rfl) (by kernel_rfl) rfl) rfl (by decide) ?_
    refine lsw (want_none (by rfl)) (y_pick false rfl rfl rfl) rfl (by decide) ?_
    refine lsw (want_none (by rfl)) (y_move rfl rfl) rfl (by decide) ?_
    refine lsk (want_f (dj := 17) (by rfl) (by kernel_rfl) rfl) rfl (by decide) ?_
    refine lsk (want_f (dj := 17) (by rfl) (by kernel_rfl) rfl) rfl (by decide) ?_
    refine lsk (want_f (dj := 17) (by rfl) (by kernel_rfl) rfl) rfl (by decide) ?_
    refine lsk (want_f (dj := 17) (by rfl) (by kernel_rfl) rfl) rfl (by decide) ?_
    refine lsk (want_f (dj := 17) (by rfl) (by kernel_rfl) rfl) rfl (by decide) ?_
    refine lsw (want_none (by rfl)) (y_pick false rfl rfl rfl) rfl (by decide) ?_
    refine lsw (want_none (by rfl)) (y_assign rfl rfl) rfl (by decide) ?_
    refine lg_nil ?_
    refine nx (E' := [(4, _)]) (fk rfl fn) ?_
    refine cg_ret ?_
    have u := u.trans (n1.below.mono u.size)
    have u := u.trans (n2.below.mono u.size)
    exact eg_ret_tmp rfl rfl ⟨_, rfl, congrArg Value.bool (show false = decide (PnSame L M) from (decide_eq_false (by simp [PnSame, *])).symm), u⟩
theorem putP_any {W : World} {B : Nat} {s : SlV} {xs : List Int} {l : PnV} {L : Pn} (h : Sl W B s xs) (hl : IsPn W B l L) (hB : B ≤ W.heap.size) (hx : xs.length ≤ 1000000) : Calls Try.prog 80 #[s.v, .agg (l.cs L)] W fun e W' => ∃ v, e = .returned v ∧ PutS W (xs ++ pnPut L) v W' := by
  refine calls_cg (n := 25) Try.func80 rfl Try.ntmps80 (by simp) ?_
  show CG _ _ _ [(0, s.v), (1, .agg (l.cs L))] _ _
  have u := Below.refl W.heap.size W
  refine cg_seq ?_
  refine cg_region ?_
  refine lg_boxw (want_none (by rfl)) rfl rfl (by kernel_rfl) rfl (by decide) fun b1 w1 n1 => ?_
  have r1 := n1.row
  have k1 := n1.blk
  have z1 := n1.size
  have lt1 : b1 < w1.heap.size := by omega
  refine lsw (want_none (by rfl)) (y_assign rfl rfl) rfl (by decide) ?_
  refine lg_nil ?_
  refine nx (E' := [(0, _), (3, _), (4, _)]) (fk rfl (fk rfl (fk rfl fn))) ?_
  refine cg_seq ?_
  refine cg_seq ?_
  refine cg_region ?_
  refine lsw (want_none (by rfl)) (y_loadA r1 (by kernel_rfl) (by kernel_rfl) rfl rfl) rfl (by decide) ?_
  have hl := hl.below (n1.below.mono (by omega))
  refine lg_callw (want_none (by rfl)) (checkP_any (hl.more (B' := w1.heap.size) (by omega)) (Nat.le_refl _)) (by kernel_rfl) rfl rfl rfl (by decide) ?_
  rintro _ w2 ⟨rfl, hw2⟩
  have zw2 := hw2.size
  by_cases c3 : (pnCheck L) = 0
  · have ok := pnCheck_ok c3
    refine lsw (want_none (by rfl)) (yb (nd_f c3) (yi_neq rfl rfl rfl)) rfl (by decide) ?_
    refine lg_nil ?_
    refine nx (E' := [(0, _), (3, _), (4, _), (8, _)]) (fk rfl (fk rfl (fk rfl (fk rfl fn)))) ?_
    refine cg_cf rfl ?_
    refine cg_skip ?_
    refine nx (E' := [(0, _), (3, _), (4, _)]) (fk rfl (fk rfl (fk rfl fn))) ?_
    refine cg_seq ?_
    refine cg_region ?_
    refine lsw (want_none (by rfl)) (y_fld (off := 0) (by kernel_rfl) rfl rfl) rfl (by decide) ?_
    have r1 := RowAt.below hw2 r1.lt r1
    refine lsw (want_none (by rfl)) (y_cellv (v := l.enc.v) r1 rfl (by kernel_rfl) rfl rfl) rfl (by decide) ?_
    have hl := hl.below (hw2.mono (by omega))
    refine lg_callw (want_none (by rfl)) (putBytes_S (Sl.nil _ _) hl.enc (by omega) (by omega) (by first | omega | (simp only [List.length_nil]; omega))) (by kernel_rfl) rfl rfl rfl (by decide) ?_
    rintro _ w4 ⟨r4, rfl, m4, hw4⟩
    have zw4 := hw4.size
    have lb4 := bytesOct_le L.enc
    refine lsw (want_none (by rfl)) (y_assign rfl rfl) rfl (by decide) ?_
    refine lg_nil ?_
    refine nx (E' := [(0, _), (3, _), (4, _), (5, _)]) (fk rfl (fk rfl (fk rfl (fk rfl fn)))) ?_
    refine cg_seq ?_
    refine cg_region ?_
    refine lsw (want_none (by rfl)) (y_move rfl rfl) rfl (by decide) ?_
    refine lsw (want_none (by rfl)) (y_fld (off := 1) (by kernel_rfl) rfl rfl) rfl (by decide) ?_
    have r1 := RowAt.below hw4 r1.lt r1
    refine lsw (want_none (by rfl)) (y_cellv (v := l.hash.v) r1 rfl (by kernel_rfl) rfl rfl) rfl (by decide) ?_
    have hl := hl.below (hw4.mono (by omega))
    refine lg_callw (want_none (by rfl)) (putBytes_S m4 hl.hash (by omega) (by omega) (by first | omega | (simp only [List.length_append, List.length_nil]; omega))) (by kernel_rfl) rfl rfl rfl (by decide) ?_
    rintro _ w5 ⟨r5, rfl, m5, hw5⟩
    have zw5 := hw5.size
    have lb5 := bytesOct_le L.hash
    refine lsw (want_none (by rfl)) (y_assign rfl rfl) rfl (by decide) ?_
    refine lg_nil ?_
    refine nx (E' := [(0, _), (3, _), (4, _), (5, _)]) (fk rfl (fk rfl (fk rfl (fk rfl fn)))) ?_
    refine cg_seq ?_
    refine cg_region ?_
    refine lsw (want_none (by rfl)) (y_move rfl rfl) rfl (by decide) ?_
    refine lsw (want_none (by rfl)) (y_fld (off := 2) (by kernel_rfl) rfl rfl) rfl (by decide) ?_
    have r1 := RowAt.below hw5 r1.lt r1
    refine lsw (want_none (by rfl)) (y_cellv (v := l.unm.v) r1 rfl (by kernel_rfl) rfl rfl) rfl (by decide) ?_
    have hl := hl.below (hw5.mono (by omega))
    refine lg_callw (want_none (by rfl)) (putNums_S m5 hl.unm (by omega) (by omega) (by first | omega | (simp only [List.length_append, List.length_nil]; omega))) (by kernel_rfl) rfl rfl rfl (by decide) ?_
    rintro _ w6 ⟨r6, rfl, m6, hw6⟩
    have zw6 := hw6.size
    have lb6 := bytesOct_le (numsOct L.unm)
    have ln6 := numsOct_length L.unm
    refine lsw (want_none (by rfl)) (y_assign rfl rfl) rfl (by decide) ?_
    refine lg_nil ?_
    refine nx (E' := [(0, _), (4, _), (5, _)]) (fk rfl (fk rfl (fk rfl fn))) ?_
    refine cg_seq ?_
    refine cg_region ?_
    refine lsw (want_none (by rfl)) (y_move rfl rfl) rfl (by decide) ?_
    refine lsw (want_none (by rfl)) (y_move rfl rfl) rfl (by decide) ?_
    refine lg_bslice (el := 22) (z := .slice none 0 0) (cs := #[s.v, r6.v]) (by kernel_rfl) (by kernel_rfl) (by decide) (by decide) rfl rfl (by kernel_rfl) rfl rfl (by decide) fun b7 w7 n7 => ?_
    have r7 := n7.row
    have k7 := n7.blk
    have z7 := n7.size
    have lt7 : b7 < w7.heap.size := by omega
    have h := h.below (n1.below.mono (by omega))
    have h := h.below (hw2.mono (by omega))
    have h := h.below (hw4.mono (by omega))
    have h := h.below (hw5.mono (by omega))
    have h := h.below (hw6.mono (by omega))
    have h := h.below (n7.below.mono (by omega))
    have m6 := m6.below (n7.below.mono (by omega))
    refine lg_callw (want_none (by rfl)) (concat2_S r7 h m6 (by omega) (by omega) (by first | omega | (simp only [List.length_append, List.length_nil]; omega))) (by kernel_rfl) rfl rfl rfl (by decide) ?_
    rintro _ w8 ⟨r8, rfl, m8, hw8⟩
    have zw8 := hw8.size
    refine lsw (want_none (by rfl)) (y_assign rfl rfl) rfl (by decide) ?_
    refine lg_nil ?_
    refine nx (E' := [(4, _)]) (fk rfl fn) ?_
    refine cg_ret ?_
    have u := u.trans (n1.below.mono u.size)
    have u := u.trans (hw2.mono u.size)
    have u := u.trans (hw4.mono u.size)
    have u := u.trans (hw5.mono u.size)
    have u := u.trans (hw6.mono u.size)
    have u := u.trans (n7.below.mono u.size)
    have u := u.trans (hw8.mono u.size)
    exact eg_ret_tmp rfl rfl ⟨_, rfl, r8, rfl, m8.cast (by rw [pnPut, if_pos c3]; simp [pnOct]), u⟩
  · refine lsw (want_none (by rfl)) (yb (nd_t c3) (yi_neq rfl rfl rfl)) rfl (by decide) ?_
    refine lg_nil ?_
    refine nx (E' := [(0, _), (3, _), (4, _), (8, _)]) (fk rfl (fk rfl (fk rfl (fk rfl fn)))) ?_
    refine cg_ct rfl ?_
    refine cg_seq ?_
    refine cg_region ?_
    refine lsw (want_none (by rfl)) (y_move rfl rfl) rfl (by decide) ?_
    refine lsw (want_none (by rfl)) (y_assign rfl rfl) rfl (by decide) ?_
    refine lg_nil ?_
    refine nx (E' := [(0, _), (3, _), (4, _)]) (fk rfl (fk rfl (fk rfl fn))) ?_
    refine cg_ret ?_
    refine eg_seq_ret ?_
    have h := h.below (n1.below.mono (by omega))
    have h := h.below (hw2.mono (by omega))
    have u := u.trans (n1.below.mono u.size)
    have u := u.trans (hw2.mono u.size)
    exact eg_ret_tmp rfl rfl ⟨_, rfl, s, rfl, (h.more (by omega)).cast (by rw [pnPut, if_neg c3, List.append_nil]), u⟩
set_option maxHeartbeats 2000000 in
theorem getP_anyF {W : World} {B : Nat} {s : SlV} {xs : List Int} (h : Sl W B s xs) (hB : B ≤ W.heap.size) : Calls Try.prog 81 #[s.v] W fun e W' => ∃ v, e = .returned v ∧ ∃ (l : PnV) (r : SlV), v = .tuple #[.agg (l.cs (pnGet xs).2.1), r.v, nv (pnGet xs).1] ∧ IsPn W' W'.heap.size l (pnGet xs).2.1 ∧ Sl W' B r (pnGet xs).2.2 ∧ l.fresh W.heap.size ∧ Below W.heap.size W W' := by
  refine calls_cg (n := 54) Try.func81 rfl Try.ntmps81 (by simp) ?_
  show CG _ _ _ [(0, s.v)] _ _
  have u := Below.refl W.heap.size W
  refine cg_seq ?_
  refine cg_region ?_
  refine lg_allocw (cs := PnV.zero.cs Pn.zero) (want_none (by rfl)) rfl (by kernel_rfl) rfl (by decide) fun b1 w1 n1 => ?_
  have r1 := n1.row
  have k1 := n1.blk
  have z1 := n1.size
  have lt1 : b1 < w1.heap.size := by omega
  refine lsw (want_none (by rfl)) (y_assign rfl rfl) rfl (by decide) ?_
  refine lsw (want_none (by rfl)) (y_assign rfl rfl) rfl (by decide) ?_
  refine lg_nil ?_
  refine nx (E' := [(0, _), (2, _), (3, _), (4, _)]) (fk rfl (fk rfl (fk rfl (fk rfl fn)))) ?_
  refine cg_seq ?_
  refine cg_region ?_
  refine lsw (want_none (by rfl)) (y_move rfl rfl) rfl (by decide) ?_
  have h := h.below (n1.below.mono (by omega))
  refine lg_callw (want_none (by rfl)) (getBytes_S h (by omega)) (by kernel_rfl) rfl rfl rfl (by decide) ?_
  rintro _ w2 ⟨p2, r2, rfl, m2, l2, hw2⟩
  have zw2 := hw2.size
  refine lsw (want_none (by rfl)) (y_move rfl rfl) rfl (by decide) ?_
  refine lsw (want_none (by rfl)) (y_extract rfl rfl rfl) rfl (by decide) ?_
  refine lsw (want_none (by rfl)) (y_extract rfl rfl rfl) rfl (by decide) ?_
  refine lsw (want_none (by rfl)) (y_extract rfl rfl rfl) rfl (by decide) ?_
  refine lsw (want_none (by rfl)) (y_assign rfl rfl) rfl (by decide) ?_
  refine lsw (want_none (by rfl)) (y_assign rfl rfl) rfl (by decide) ?_
  refine lsw (want_none (by rfl)) (y_assign rfl rfl) rfl (by decide) ?_
  refine lg_nil ?_
  refine nx (E' := [(2, _), (3, _), (4, _), (5, _), (6, _), (7, _)]) (fk rfl (fk rfl (fk rfl (fk rfl (fk rfl (fk rfl fn)))))) ?_
  refine cg_seq ?_
  refine cg_seq ?_
  refine cg_region ?_
  refine lsw (want_none (by rfl)) (y_move rfl rfl) rfl (by decide) ?_
  by_cases c3 : (bytesE xs) = 0
  · refine lsw (want_none (by rfl)) (yb (nd_f c3) (yi_neq rfl rfl rfl)) rfl (by decide) ?_
    refine lg_nil ?_
    refine nx (E' := [(2, _), (3, _), (4, _), (5, _), (6, _), (7, _), (19, _)]) (fk rfl (fk rfl (fk rfl (fk rfl (fk rfl (fk rfl (fk rfl fn))))))) ?_
    refine cg_cf rfl ?_
    refine cg_skip ?_
    refine nx (E' := [(2, _), (3, _), (4, _), (5, _), (6, _), (7, _)]) (fk rfl (fk rfl (fk rfl (fk rfl (fk rfl (fk rfl fn)))))) ?_
    refine cg_seq ?_
    refine cg_region ?_
    refine lsw (want_none (by rfl)) (y_move rfl rfl) rfl (by decide) ?_
    refine lg_callw (want_none (by rfl)) (getBytes_S l2 (by omega)) (by kernel_rfl) rfl rfl rfl (by decide) ?_
    rintro _ w4 ⟨p4, r4, rfl, m4, l4, hw4⟩
    have zw4 := hw4.size
    refine lsw (want_none (by rfl)) (y_move rfl rfl) rfl (by decide) ?_
    refine lsw (want_none (by rfl)) (y_extract rfl rfl rfl) rfl (by decide) ?_
    refine lsw (want_none (by rfl)) (y_extract rfl rfl rfl) rfl (by decide) ?_
    refine lsw (want_none (by rfl)) (y_extract rfl rfl rfl) rfl (by decide) ?_
    refine lsw (want_none (by rfl)) (y_assign rfl rfl) rfl (by decide) ?_
    refine lsw (want_none (by rfl)) (y_assign rfl rfl) rfl (by decide) ?_
    refine lsw (want_none (by rfl)) (y_assign rfl rfl) rfl (by decide) ?_
    refine lg_nil ?_
    refine nx (E' := [(2, _), (3, _), (4, _), (5, _), (8, _), (6, _), (7, _)]) (fk rfl (fk rfl (fk rfl (fk rfl (fk rfl (fk rfl (fk rfl fn))))))) ?_
    refine cg_seq ?_
    refine cg_seq ?_
    refine cg_region ?_
    refine lsw (want_none (by rfl)) (y_move rfl rfl) rfl (by decide) ?_
    by_cases c5 : (bytesE (bytesR xs)) = 0
    · refine lsw (want_none (by rfl)) (yb (nd_f c5) (yi_neq rfl rfl rfl)) rfl (by decide) ?_
      refine lg_nil ?_
      refine nx (E' := [(2, _), (3, _), (4, _), (5, _), (8, _), (6, _), (7, _), (29, _)]) (fk rfl (fk rfl (fk rfl (fk rfl (fk rfl (fk rfl (fk rfl (fk rfl fn)))))))) ?_
      refine cg_cf rfl ?_
      refine cg_skip ?_
      refine nx (E' := [(2, _), (3, _), (4, _), (5, _), (8, _), (6, _), (7, _)]) (fk rfl (fk rfl (fk rfl (fk rfl (fk rfl (fk rfl (fk rfl fn))))))) ?_
      refine cg_seq ?_
      refine cg_region ?_
      refine lsw (want_none (by rfl)) (y_move rfl rfl) rfl (by decide) ?_
      refine lg_callw (want_none (by rfl)) (getNums_SF l4 (by omega)) (by kernel_rfl) rfl rfl rfl (by decide) ?_
      rintro _ w6 ⟨p6, r6, rfl, m6, l6, f6, hw6⟩
      have zw6 := hw6.size
      refine lsw (want_none (by rfl)) (y_move rfl rfl) rfl (by decide) ?_
      refine lsw (want_none (by rfl)) (y_extract rfl rfl rfl) rfl (by decide) ?_
      refine lsw (want_none (by rfl)) (y_extract rfl rfl rfl) rfl (by decide) ?_
      refine lsw (want_none (by rfl)) (y_extract rfl rfl rfl) rfl (by decide) ?_
      refine lsw (want_none (by rfl)) (y_assign rfl rfl) rfl (by decide) ?_
      refine lsw (want_none (by rfl)) (y_assign rfl rfl) rfl (by decide) ?_
      refine lsw (want_none (by rfl)) (y_assign rfl rfl) rfl (by decide) ?_
      refine lg_nil ?_
      refine nx (E' := [(2, _), (3, _), (4, _), (5, _), (8, _), (9, _), (6, _), (7, _)]) (fk rfl (fk rfl (fk rfl (fk rfl (fk rfl (fk rfl (fk rfl (fk rfl fn)))))))) ?_
      refine cg_seq ?_
      refine cg_seq ?_
      refine cg_region ?_
      refine lsw (want_none (by rfl)) (y_move rfl rfl) rfl (by decide) ?_
      by_cases c7 : (numsE (bytesR (bytesR xs))) = 0
      · refine lsw (want_none (by rfl)) (yb (nd_f c7) (yi_neq rfl rfl rfl)) rfl (by decide) ?_
        refine lg_nil ?_
        refine nx (E' := [(2, _), (3, _), (4, _), (5, _), (8, _), (9, _), (6, _), (7, _), (39, _)]) (fk rfl (fk rfl (fk rfl (fk rfl (fk rfl (fk rfl (fk rfl (fk rfl (fk rfl fn))))))))) ?_
        refine cg_cf rfl ?_
        refine cg_skip ?_
        refine nx (E' := [(2, _), (3, _), (4, _), (5, _), (8, _), (9, _), (6, _)]) (fk rfl (fk rfl (fk rfl (fk rfl (fk rfl (fk rfl (fk rfl fn))))))) ?_
        refine cg_seq ?_
        refine cg_region ?_
        refine lsw (want_none (by rfl)) (y_move rfl rfl) rfl (by decide) ?_
        refine lsw (want_none (by rfl)) (y_move rfl rfl) rfl (by decide) ?_
        refine lsw (want_none (by rfl)) (y_move rfl rfl) rfl (by decide) ?_
        refine lsw (want_none (by rfl)) (y_build (cs := (⟨p2, p4, p6⟩ : PnV).cs (⟨(bytesP xs), (bytesP (bytesR xs)), (numsL (bytesR (bytesR xs)))⟩ : Pn)) rfl rfl (by kernel_rfl)) rfl (by decide) ?_
        refine lg_allocw (cs := PnV.zero.cs Pn.zero) (want_none (by rfl)) rfl (by kernel_rfl) rfl (by decide) fun b8 w8 n8 => ?_
        have r8 := n8.row
        have k8 := n8.blk
        have z8 := n8.size
        have lt8 : b8 < w8.heap.size := by omega
        have o9 := r8
        refine lg_stw (want_none (by rfl)) r8 rfl rfl rfl (by kernel_rfl) (by kernel_rfl) rfl rfl fun w9 s9 => ?_
        have r8 := s9.row
        have z9 := s9.size
        refine lg_nil ?_
        refine nx (E' := [(2, _), (3, _), (4, _), (6, _), (10, _)]) (fk rfl (fk rfl (fk rfl (fk rfl (fk rfl fn))))) ?_
        refine cg_seq ?_
        refine cg_seq ?_
        refine cg_region ?_
        refine lsw (want_none (by rfl)) (y_loadA r8 (by kernel_rfl) (by kernel_rfl) rfl rfl) rfl (by decide) ?_
        have m2 := m2.below (hw4.mono (by omega))
        have m2 := m2.below (hw6.mono (by omega))
        have m2 := m2.below (n8.below.mono (by omega))
        have m2 := m2.set o9 rfl s9
        have m4 := m4.below (hw6.mono (by omega))
        have m4 := m4.below (n8.below.mono (by omega))
        have m4 := m4.set o9 rfl s9
        have m6 := m6.below (n8.below.mono (by omega))
        have m6 := m6.set o9 rfl s9
        refine lg_callw (want_none (by rfl)) (checkP_any (show IsPn w9 w9.heap.size (⟨p2, p4, p6⟩ : PnV) (⟨(bytesP xs), (bytesP (bytesR xs)), (numsL (bytesR (bytesR xs)))⟩ : Pn) from ⟨(m2.more (B' := w9.heap.size) (by omega)), (m4.more (B' := w9.heap.size) (by omega)), (m6.more (B' := w9.heap.size) (by omega))⟩) (Nat.le_refl _)) (by kernel_rfl) rfl rfl rfl (by decide) ?_
        rintro _ w10 ⟨rfl, hw10⟩
        have zw10 := hw10.size
        refine lsw (want_none (by rfl)) (y_assign rfl rfl) rfl (by decide) ?_
        refine lg_nil ?_
        refine nx (E' := [(2, _), (3, _), (4, _), (6, _), (10, _), (11, _)]) (fk rfl (fk rfl (fk rfl (fk rfl (fk rfl (fk rfl fn)))))) ?_
        refine cg_seq ?_
        refine cg_region ?_
        refine lsw (want_none (by rfl)) (y_move rfl rfl) rfl (by decide) ?_
        by_cases c11 : (pnCheck (⟨(bytesP xs), (bytesP (bytesR xs)), (numsL (bytesR (bytesR xs)))⟩ : Pn)) = 0
        · refine lsw (want_none (by rfl)) (yb (nd_f c11) (yi_neq rfl rfl rfl)) rfl (by decide) ?_
          refine lg_nil ?_
          refine nx (E' := [(2, _), (3, _), (4, _), (6, _), (10, _), (11, _), (49, _)]) (fk rfl (fk rfl (fk rfl (fk rfl (fk rfl (fk rfl (fk rfl fn))))))) ?_
          refine cg_cf rfl ?_
          refine cg_skip ?_
          refine nx (E' := [(2, _), (3, _), (4, _), (6, _), (10, _)]) (fk rfl (fk rfl (fk rfl (fk rfl (fk rfl fn))))) ?_
          refine cg_seq ?_
          refine cg_region ?_
          have r8 := RowAt.below hw10 r8.lt r8
          refine lsw (want_none (by rfl)) (y_loadA r8 (by kernel_rfl) (by kernel_rfl) rfl rfl) rfl (by decide) ?_
          refine lsw (want_none (by rfl)) (y_move rfl rfl) rfl (by decide) ?_
          have r1 := RowAt.below hw2 r1.lt r1
          have r1 := RowAt.below hw4 r1.lt r1
          have r1 := RowAt.below hw6 r1.lt r1
          have r1 := n8.keep r1
          have r1 := s9.keep r1 (by omega)
          have r1 := RowAt.below hw10 r1.lt r1
          have o12 := r1
          refine lg_stw (want_none (by rfl)) r1 rfl rfl rfl (by kernel_rfl) (by kernel_rfl) rfl rfl fun w12 s12 => ?_
          have r1 := s12.row
          have z12 := s12.size
          refine lsw (want_none (by rfl)) (y_assign rfl rfl) rfl (by decide) ?_
          refine lsw (want_none (by rfl)) (y_assign rfl rfl) rfl (by decide) ?_
          refine lg_nil ?_
          refine nx (E' := [(2, _), (3, _), (4, _)]) (fk rfl (fk rfl (fk rfl fn))) ?_
          refine cg_ret ?_
          have hst : pnGet xs = (0, (⟨(bytesP xs), (bytesP (bytesR xs)), (numsL (bytesR (bytesR xs)))⟩ : Pn), (numsR (bytesR (bytesR xs)))) := ((if_neg (not_not_intro c3)).trans ((if_neg (not_not_intro c5)).trans ((if_neg (not_not_intro c7)).trans (if_neg (not_not_intro c11)))))
          refine eg_ret_agg3 rfl rfl r1 (by kernel_rfl) (by kernel_rfl) rfl rfl ?_
          rw [hst]
          have m2 := m2.below (hw10.mono (by omega))
          have m2 := m2.set o12 rfl s12
          have m4 := m4.below (hw10.mono (by omega))
          have m4 := m4.set o12 rfl s12
          have m6 := m6.below (hw10.mono (by omega))
          have m6 := m6.set o12 rfl s12
          have l6 := l6.below (n8.below.mono (by omega))
          have l6 := l6.set o9 rfl s9
          have l6 := l6.below (hw10.mono (by omega))
          have l6 := l6.set o12 rfl s12
          have u := u.trans (n1.below.mono u.size)
          have u := u.trans (hw2.mono u.size)
          have u := u.trans (hw4.mono u.size)
          have u := u.trans (hw6.mono u.size)
          have u := u.trans (n8.below.mono u.size)
          have u := u.trans (s9.below _ (by omega))
          have u := u.trans (hw10.mono u.size)
          have u := u.trans (s12.below _ (by omega))
          exact ⟨_, rfl, (⟨p2, p4, p6⟩ : PnV), r6, rfl, (show IsPn w12 w12.heap.size (⟨p2, p4, p6⟩ : PnV) (⟨(bytesP xs), (bytesP (bytesR xs)), (numsL (bytesR (bytesR xs)))⟩ : Pn) from ⟨(m2.more (B' := w12.heap.size) (by omega)), (m4.more (B' := w12.heap.size) (by omega)), (m6.more (B' := w12.heap.size) (by omega))⟩), l6, f6.le (by omega), u⟩
        · refine lsw (want_none (by rfl)) (yb (nd_t c11) (yi_neq rfl rfl rfl)) rfl (by decide) ?_
          refine lg_nil ?_
          refine nx (E' := [(2, _), (3, _), (4, _), (6, _), (10, _), (11, _), (49, _)]) (fk rfl (fk rfl (fk rfl (fk rfl (fk rfl (fk rfl (fk rfl fn))))))) ?_
          refine cg_ct rfl ?_
          refine cg_seq ?_
          refine cg_region ?_
          refine lsw (want_none (by rfl)) (y_build (cs := PnV.zero.cs Pn.zero) rfl rfl (by kernel_rfl)) rfl (by decide) ?_
          refine lsw (want_none (by rfl)) (y_move rfl rfl) rfl (by decide) ?_
          have r1 := RowAt.below hw2 r1.lt r1
          have r1 := RowAt.below hw4 r1.lt r1
          have r1 := RowAt.below hw6 r1.lt r1
          have r1 := n8.keep r1
          have r1 := s9.keep r1 (by omega)
          have r1 := RowAt.below hw10 r1.lt r1
          have o13 := r1
          refine lg_stw (want_none (by rfl)) r1 rfl rfl rfl (by kernel_rfl) (by kernel_rfl) rfl rfl fun w13 s13 => ?_
          have r1 := s13.row
          have z13 := s13.size
          refine lsw (want_none (by rfl)) (y_assign rfl rfl) rfl (by decide) ?_
          refine lsw (want_none (by rfl)) (y_assign rfl rfl) rfl (by decide) ?_
          refine lg_nil ?_
          refine nx (E' := [(2, _), (6, _), (10, _), (3, _), (4, _)]) (fk rfl (fk rfl (fk rfl (fk rfl (fk rfl fn))))) ?_
          refine cg_ret ?_
          refine eg_seq_ret ?_
          have hst : pnGet xs = ((pnCheck (⟨(bytesP xs), (bytesP (bytesR xs)), (numsL (bytesR (bytesR xs)))⟩ : Pn)), Pn.zero, []) := ((if_neg (not_not_intro c3)).trans ((if_neg (not_not_intro c5)).trans ((if_neg (not_not_intro c7)).trans (if_pos c11))))
          refine eg_ret_agg3 rfl rfl r1 (by kernel_rfl) (by kernel_rfl) rfl rfl ?_
          rw [hst]
          have u := u.trans (n1.below.mono u.size)
          have u := u.trans (hw2.mono u.size)
          have u := u.trans (hw4.mono u.size)
          have u := u.trans (hw6.mono u.size)
          have u := u.trans (n8.below.mono u.size)
          have u := u.trans (s9.below _ (by omega))
          have u := u.trans (hw10.mono u.size)
          have u := u.trans (s13.below _ (by omega))
          exact ⟨_, rfl, PnV.zero, nilS, rfl, ((IsPn.zero _ 0).more (B' := w13.heap.size) (by omega)), (Sl.nil _ _), Fr.nil _, u⟩
      · refine lsw (want_none (by rfl)) (yb (nd_t c7) (yi_neq rfl rfl rfl)) rfl (by decide) ?_
        refine lg_nil ?_
        refine nx (E' := [(2, _), (3, _), (4, _), (5, _), (8, _), (9, _), (6, _), (7, _), (39, _)]) (fk rfl (fk rfl (fk rfl (fk rfl (fk rfl (fk rfl (fk rfl (fk rfl (fk rfl fn))))))))) ?_
        refine cg_ct rfl ?_
        refine cg_seq ?_
        refine cg_region ?_
        refine lsw (want_none (by rfl)) (y_build (cs := PnV.zero.cs Pn.zero) rfl rfl (by kernel_rfl)) rfl (by decide) ?_
        refine lsw (want_none (by rfl)) (y_move rfl rfl) rfl (by decide) ?_
        have r1 := RowAt.below hw2 r1.lt r1
        have r1 := RowAt.below hw4 r1.lt r1
        have r1 := RowAt.below hw6 r1.lt r1
        have o14 := r1
        refine lg_stw (want_none (by rfl)) r1 rfl rfl rfl (by kernel_rfl) (by kernel_rfl) rfl rfl fun w14 s14 => ?_
        have r1 := s14.row
        have z14 := s14.size
        refine lsw (want_none (by rfl)) (y_assign rfl rfl) rfl (by decide) ?_
        refine lsw (want_none (by rfl)) (y_assign rfl rfl) rfl (by decide) ?_
        refine lg_nil ?_
        refine nx (E' := [(2, _), (5, _), (8, _), (9, _), (6, _), (3, _), (4, _)]) (fk rfl (fk rfl (fk rfl (fk rfl (fk rfl (fk rfl (fk rfl fn))))))) ?_
        refine cg_ret ?_
        refine eg_seq_ret ?_
        have hst : pnGet xs = ((numsE (bytesR (bytesR xs))), Pn.zero, []) := ((if_neg (not_not_intro c3)).trans ((if_neg (not_not_intro c5)).trans (if_pos c7)))
        refine eg_ret_agg3 rfl rfl r1 (by kernel_rfl) (by kernel_rfl) rfl rfl ?_
        rw [hst]
        have u := u.trans (n1.below.mono u.size)
        have u := u.trans (hw2.mono u.size)
        have u := u.trans (hw4.mono u.size)
        have u := u.trans (hw6.mono u.size)
        have u := u.trans (s14.below _ (by omega))
        exact ⟨_, rfl, PnV.zero, nilS, rfl, ((IsPn.zero _ 0).more (B' := w14.heap.size) (by omega)), (Sl.nil _ _), Fr.nil _, u⟩
    · refine lsw (want_none (by rfl)) (yb (nd_t c5) (yi_neq rfl rfl rfl)) rfl (by decide) ?_
      refine lg_nil ?_
      refine nx (E' := [(2, _), (3, _), (4, _), (5, _), (8, _), (6, _), (7, _), (29, _)]) (fk rfl (fk rfl (fk rfl (fk rfl (fk rfl (fk rfl (fk rfl (fk rfl fn)))))))) ?_
      refine cg_ct rfl ?_
      refine cg_seq ?_
      refine cg_region ?_
      refine lsw (want_none (by rfl)) (y_build (cs := PnV.zero.cs Pn.zero) rfl rfl (by kernel_rfl)) rfl (by decide) ?_
      refine lsw (want_none (by rfl)) (y_move rfl rfl) rfl (by decide) ?_
      have r1 := RowAt.below hw2 r1.lt r1
      have r1 := RowAt.below hw4 r1.lt r1
      have o15 := r1
      refine lg_stw (want_none (by rfl)) r1 rfl rfl rfl (by kernel_rfl) (by kernel_rfl) rfl rfl fun w15 s15 => ?_
      have r1 := s15.row
      have z15 := s15.size
      refine lsw (want_none (by rfl)) (y_assign rfl rfl) rfl (by decide) ?_
      refine lsw (want_none (by rfl)) (y_assign rfl rfl) rfl (by decide) ?_
      refine lg_nil ?_
      refine nx (E' := [(2, _), (5, _), (8, _), (6, _), (7, _), (3, _), (4, _)]) (fk rfl (fk rfl (fk rfl (fk rfl (fk rfl (fk rfl (fk rfl fn))))))) ?_
      refine cg_ret ?_
      refine eg_seq_ret ?_
      have hst : pnGet xs = ((bytesE (bytesR xs)), Pn.zero, []) := ((if_neg (not_not_intro c3)).trans (if_pos c5))
      refine eg_ret_agg3 rfl rfl r1 (by kernel_rfl) (by kernel_rfl) rfl rfl ?_
      rw [hst]
      have u := u.trans (n1.below.mono u.size)
      have u := u.trans (hw2.mono u.size)
      have u := u.trans (hw4.mono u.size)
      have u := u.trans (s15.below _ (by omega))
      exact ⟨_, rfl, PnV.zero, nilS, rfl, ((IsPn.zero _ 0).more (B' := w15.heap.size) (by omega)), (Sl.nil _ _), Fr.nil _, u⟩
  · refine lsw (want_none (by rfl)) (yb (nd_t c3) (yi_neq rfl rfl rfl)) rfl (by decide) ?_
    refine lg_nil ?_
    refine nx (E' := [(2, _), (3, _), (4, _), (5, _), (6, _), (7, _), (19, _)]) (fk rfl (fk rfl (fk rfl (fk rfl (fk rfl (fk rfl (fk rfl fn))))))) ?_
    refine cg_ct rfl ?_
    refine cg_seq ?_
    refine cg_region ?_
    refine lsw (want_none (by rfl)) (y_build (cs := PnV.zero.cs Pn.zero) rfl rfl (by kernel_rfl)) rfl (by decide) ?_
    refine lsw (want_none (by rfl)) (y_move rfl rfl) rfl (by decide) ?_
    have r1 := RowAt.below hw2 r1.lt r1
    have o16 := r1
    refine lg_stw (want_none (by rfl)) r1 rfl rfl rfl (by kernel_rfl) (by kernel_rfl) rfl rfl fun w16 s16 => ?_
    have r1 := s16.row
    have z16 := s16.size
    refine lsw (want_none (by rfl)) (y_assign rfl rfl) rfl (by decide) ?_
    refine lsw (want_none (by rfl)) (y_assign rfl rfl) rfl (by decide) ?_
    refine lg_nil ?_
    refine nx (E' := [(2, _), (5, _), (6, _), (7, _), (3, _), (4, _)]) (fk rfl (fk rfl (fk rfl (fk rfl (fk rfl (fk rfl fn)))))) ?_
    refine cg_ret ?_
    refine eg_seq_ret ?_
    have hst : pnGet xs = ((bytesE xs), Pn.zero, []) := (if_pos c3)
    refine eg_ret_agg3 rfl rfl r1 (by kernel_rfl) (by kernel_rfl) rfl rfl ?_
    rw [hst]
    have u := u.trans (n1.below.mono u.size)
    have u := u.trans (hw2.mono u.size)
    have u := u.trans (s16.below _ (by omega))
    exact ⟨_, rfl, PnV.zero, nilS, rfl, ((IsPn.zero _ 0).more (B' := w16.heap.size) (by omega)), (Sl.nil _ _), Fr.nil _, u⟩
theorem getP_any {W : World} {B : Nat} {s : SlV} {xs : List Int} (h : Sl W B s xs) (hB : B ≤ W.heap.size) : Calls Try.prog 81 #[s.v] W fun e W' => ∃ v, e = .returned v ∧ ∃ (l : PnV) (r : SlV), v = .tuple #[.agg (l.cs (pnGet xs).2.1), r.v, nv (pnGet xs).1] ∧ IsPn W' W'.heap.size l (pnGet xs).2.1 ∧ Sl W' B r (pnGet xs).2.2 ∧ Below W.heap.size W W' :=
  (getP_anyF h hB).mono fun _ _ ⟨v, h1, l, r, h2, h3, h4, _, h5⟩ => ⟨v, h1, l, r, h2, h3, h4, h5⟩
end
end Go.Proofs.Ytpmakacjhoemeaa
