/-
  The document's Few, Check, Same, Put and Get.
-/
import Derived.Test.YtpoonjgkgaodmaaPnProg
namespace Go.Proofs.Ytpoonjgkgaodmaa
open Go.ChangeShapes Go.WideShapes Go.ChangeAt Go.RowKit
set_option linter.unusedVariables false

section
set_option maxHeartbeats 1000000
theorem fewP_any {W : World} {B : Nat} {l : PnV} {L : Pn} (hl : IsPn W B l L) (hB : B ≤ W.heap.size) : Calls Try.prog 31 #[.agg (l.cs L)] W fun e W' => ∃ v, e = .returned v ∧ v = .bool (decide (pnFew L)) ∧ Below W.heap.size W W' := by
  refine calls_cg (n := 15) Try.func31 rfl Try.ntmps31 (by simp) ?_
  show CG _ _ _ [(0, .agg (l.cs L))] _ _
  have u := Below.refl W.heap.size W
  refine cg_seq ?_
  refine cg_region ?_
  refine lg_boxw (want_none (by rfl)) rfl rfl (by kernel_rfl) rfl (by decide) fun b1 w1 n1 => ?_
  have r1 := n1.row
  have k1 := n1.blk
  have z1 := n1.size
  have lt1 : b1 < w1.heap.size := by omega
  refine lsw (want_none (by rfl)) (y_assign rfl rfl) rfl (by decide) ?_
  refine lg_nil ?_
  refine nx (E' := [(1, _), (2, _)]) (fk rfl (fk rfl fn)) ?_
  refine cg_seq ?_
  refine cg_region ?_
  refine lsw (want_none (by rfl)) (y_fld (off := 0) (by kernel_rfl) rfl rfl) rfl (by decide) ?_
  refine lsw (want_none (by rfl)) (y_cellv (v := l.enc.v) r1 rfl (by kernel_rfl) rfl rfl) rfl (by decide) ?_
  have hl := hl.below (n1.below.mono (by omega))
  refine lsw (want_none (by rfl)) (y_lenS (el := 5) hl.enc (by kernel_rfl) rfl rfl) rfl (by decide) ?_
  refine lsw (want_none (by rfl)) (y_fld (off := 1) (by kernel_rfl) rfl rfl) rfl (by decide) ?_
  refine lsw (want_none (by rfl)) (y_cellv (v := l.hash.v) r1 rfl (by kernel_rfl) rfl rfl) rfl (by decide) ?_
  refine lsw (want_none (by rfl)) (y_lenS (el := 5) hl.hash (by kernel_rfl) rfl rfl) rfl (by decide) ?_
  refine lsw (want_none (by rfl)) (yi_addW rfl rfl rfl) rfl (by decide) ?_
  refine lsw (want_none (by rfl)) (y_fld (off := 2) (by kernel_rfl) rfl rfl) rfl (by decide) ?_
  refine lsw (want_none (by rfl)) (y_cellv (v := l.unm.v) r1 rfl (by kernel_rfl) rfl rfl) rfl (by decide) ?_
  refine lsw (want_none (by rfl)) (y_lenM (el := 3) hl.unm.len (by kernel_rfl) rfl rfl) rfl (by decide) ?_
  refine lsw (want_none (by rfl)) (yi_addW rfl rfl rfl) rfl (by decide) ?_
  refine lsw (want_none (by rfl)) (yi_leq rfl rfl rfl) rfl (by decide) ?_
  refine lsw (want_none (by rfl)) (y_assign rfl rfl) rfl (by decide) ?_
  refine lg_nil ?_
  refine nx (E' := [(2, _)]) (fk rfl fn) ?_
  refine cg_ret ?_
  have u := u.trans (n1.below.mono u.size)
  exact eg_ret_tmp rfl rfl ⟨_, rfl, rfl, u⟩
theorem rsameP_any {W : World} {B : Nat} {l m : PnV} {L M : Pn} (hl : IsPn W B l L) (hm : IsPn W B m M) (hB : B ≤ W.heap.size) : Calls Try.prog 37 #[.agg (l.cs L), .agg (m.cs M)] W fun e W' => ∃ v, e = .returned v ∧ v = .bool (decide (PnSame L M)) ∧ Below W.heap.size W W' := by
  refine calls_cg (n := 28) Try.func37 rfl Try.ntmps37 (by simp) ?_
  show CG _ _ _ [(0, .agg (l.cs L)), (1, .agg (m.cs M))] _ _
  have u := Below.refl W.heap.size W
  refine cg_seq ?_
  refine cg_region ?_
  refine lg_boxw (want_none (by rfl)) rfl rfl (by kernel_rfl) rfl (by decide) fun b1 w1 n1 => ?_
  have r1 := n1.row
  have k1 := n1.blk
  have z1 := n1.size
  have lt1 : b1 < w1.heap.size := by omega
  refine lg_boxw (want_none (by rfl)) rfl rfl (by kernel_rfl) rfl (by decide) fun b2 w2 n2 => ?_
  have r2 := n2.row
  have k2 := n2.blk
  have z2 := n2.size
  have lt2 : b2 < w2.heap.size := by omega
  refine lsw (want_none (by rfl)) (y_assign rfl rfl) rfl (by decide) ?_
  refine lg_nil ?_
  refine nx (E' := [(2, _), (3, _), (4, _)]) (fk rfl (fk rfl (fk rfl fn))) ?_
  refine cg_seq ?_
  refine cg_region ?_
  refine lsw (want_none (by rfl)) (y_fld (off := 0) (by kernel_rfl) rfl rfl) rfl (by decide) ?_
  have r1 := n2.keep r1
  refine lsw (want_none (by rfl)) (y_cellv (v := l.enc.v) r1 rfl (by kernel_rfl) rfl rfl) rfl (by decide) ?_
  have hl := hl.below (n1.below.mono (by omega))
  have hl := hl.below (n2.below.mono (by omega))
  have by3 : Bytes L.enc := hl.enc.bytes
  refine lsw (want_none (by rfl)) (y_strS hl.enc rfl rfl) rfl (by decide) ?_
  refine lsw (want_none (by rfl)) (y_fld (off := 0) (by kernel_rfl) rfl rfl) rfl (by decide) ?_
  refine lsw (want_none (by rfl)) (y_cellv (v := m.enc.v) r2 rfl (by kernel_rfl) rfl rfl) rfl (by decide) ?_
  have hm := hm.below (n1.below.mono (by omega))
  have hm := hm.below (n2.below.mono (by omega))
  have by4 : Bytes M.enc := hm.enc.bytes
  refine lsw (want_none (by rfl)) (y_strS hm.enc rfl rfl) rfl (by decide) ?_
  by_cases c5 : L.enc = M.enc
  · refine lsw (want_none (by rfl)) (yb (decide_eq_true c5) (y_seqS (xs := L.enc) (ys := M.enc) by3 by4 rfl rfl rfl)) rfl (by decide) ?_
    refine lsw (want_none (by rfl)) (y_move rfl rfl) rfl (by decide) ?_
    refine lsw (want_t (dj := 12) (by rfl) (by kernel_rfl) rfl) (y_fld (off := 1) (by kernel_rfl) rfl rfl) rfl (by decide) ?_
    refine lsw (want_t (dj := 12) (by rfl) (by kernel_rfl) rfl) (y_cellv (v := l.hash.v) r1 rfl (by kernel_rfl) rfl rfl) rfl (by decide) ?_
    have by6 : Bytes L.hash := hl.hash.bytes
    refine lsw (want_t (dj := 12) (by rfl) (by kernel_rfl) rfl) (y_strS hl.hash rfl rfl) rfl (by decide) ?_
    refine lsw (want_t (dj := 12) (by rfl) (by kernel_rfl) rfl) (y_fld (off := 1) (by kernel_rfl) rfl rfl) rfl (by decide) ?_
    refine lsw (want_t (dj := 12) (by rfl) (by kernel_rfl) rfl) (y_cellv (v := m.hash.v) r2 rfl (by kernel_rfl) rfl rfl) rfl (by decide) ?_
    have by7 : Bytes M.hash := hm.hash.bytes
    refine lsw (want_t (dj := 12) (by rfl) (by kernel_rfl) rfl) (y_strS hm.hash rfl rfl) rfl (by decide) ?_
    by_cases c8 : L.hash = M.hash
    · refine lsw (want_t (dj := 12) (by rfl) (by kernel_rfl) rfl) (yb (decide_eq_true c8) (y_seqS (xs := L.hash) (ys := M.hash) by6 by7 rfl rfl rfl)) rfl (by decide) ?_
      refine lsw (want_none (by rfl)) (y_pick true rfl rfl rfl) rfl (by decide) ?_
      refine lsw (want_none (by rfl)) (y_move rfl rfl) rfl (by decide) ?_
      refine lsw (want_t (dj := 21) (by rfl) (by kernel_rfl) rfl) (y_fld (off := 2) (by kernel_rfl) rfl rfl) rfl (by decide) ?_
      refine lsw (want_t (dj := 21) (by rfl) (by kernel_rfl) rfl) (y_cellv (v := l.unm.v) r1 rfl (by kernel_rfl) rfl rfl) rfl (by decide) ?_
      refine lsw (want_t (dj := 21) (by rfl) (by kernel_rfl) rfl) (y_fld (off := 2) (by kernel_rfl) rfl rfl) rfl (by decide) ?_
      refine lsw (want_t (dj := 21) (by rfl) (by kernel_rfl) rfl) (y_cellv (v := m.unm.v) r2 rfl (by kernel_rfl) rfl rfl) rfl (by decide) ?_
      by_cases c9 : L.unm = M.unm
      · refine lg_callw (want_t (dj := 21) (by rfl) (by kernel_rfl) rfl) (ints_S hl.unm hm.unm (by omega) (by omega)) (by kernel_rfl) rfl rfl rfl (by decide) ?_
        rintro u10 w10 ⟨e10, hw10⟩
        have zw10 := hw10.size
        obtain rfl : u10 = .bool true := e10.trans (congrArg Value.bool (decide_eq_true c9))
        refine lsw (want_none (by rfl)) (y_pick true rfl rfl rfl) rfl (by decide) ?_
        refine lsw (want_none (by rfl)) (y_assign rfl rfl) rfl (by decide) ?_
        refine lg_nil ?_
        refine nx (E' := [(4, _)]) (fk rfl fn) ?_
        refine cg_ret ?_
        have u := u.trans (n1.below.mono u.size)
        have u := u.trans (n2.below.mono u.size)
        have u := u.trans (hw10.mono u.size)
        exact eg_ret_tmp rfl rfl ⟨_, rfl, congrArg Value.bool (show true = decide (PnSame L M) from (decide_eq_true (by simp [PnSame, *])).symm), u⟩
      · refine lg_callw (want_t (dj := 21) (by rfl) (by kernel_rfl) rfl) (ints_S hl.unm hm.unm (by omega) (by omega)) (by kernel_rfl) rfl rfl rfl (by decide) ?_
        rintro u11 w11 ⟨e11, hw11⟩
        have zw11 := hw11.size
        obtain rfl : u11 = .bool false := e11.trans (congrArg Value.bool (decide_eq_false c9))
        refine lsw (want_none (by rfl)) (y_pick true rfl rfl rfl) rfl (by decide) ?_
        refine lsw (want_none (by rfl)) (y_assign rfl rfl) rfl (by decide) ?_
        refine lg_nil ?_
        refine nx (E' := [(4, _)]) (fk rfl fn) ?_
        refine cg_ret ?_
        have u := u.trans (n1.below.mono u.size)
        have u := u.trans (n2.below.mono u.size)
        have u := u.trans (hw11.mono u.size)
        exact eg_ret_tmp rfl rfl ⟨_, rfl, congrArg Value.bool (show false = decide (PnSame L M) from (decide_eq_false (by simp [PnSame, *])).symm), u⟩
    · refine lsw (want_t (dj := 12) (by rfl) (by kernel_rfl) rfl) (yb (decide_eq_false c8) (y_seqS (xs := L.hash) (ys := M.hash) by6 by7 rfl rfl rfl)) rfl (by decide) ?_
      refine lsw (want_none (by rfl)) (y_pick true rfl rfl rfl) rfl (by decide) ?_
      refine lsw (want_none (by rfl)) (y_move rfl rfl) rfl (by decide) ?_
      refine lsk (want_f (dj := 21) (by rfl) (by kernel_rfl) rfl) rfl (by decide) ?_
      refine lsk (want_f (dj := 21) (by rfl) (by kernel_rfl) rfl) rfl (by decide) ?_
      refine lsk (want_f (dj := 21) (by rfl) (by kernel_rfl) rfl) rfl (by decide) ?_
      refine lsk (want_f (dj := 21) (by rfl) (by kernel_rfl) rfl) rfl (by decide) ?_
      refine lsk (want_f (dj := 21) (by rfl) (by kernel_rfl) rfl) rfl (by decide) ?_
      refine lsw (want_none (by rfl)) (y_pick false rfl rfl rfl) rfl (by decide) ?_
      refine lsw (want_none (by rfl)) (y_assign rfl rfl) rfl (by decide) ?_
      refine lg_nil ?_
      refine nx (E' := [(4, _)]) (fk rfl fn) ?_
      refine cg_ret ?_
      have u := u.trans (n1.below.mono u.size)
      have u := u.trans (n2.below.mono u.size)
      exact eg_ret_tmp rfl rfl ⟨_, rfl, congrArg Value.bool (show false = decide (PnSame L M) from (decide_eq_false (by simp [PnSame, *])).symm), u⟩
  · refine lsw (want_none (by rfl)) (yb (decide_eq_false c5) (y_seqS (xs := L.enc) (ys := M.enc) by3 by4 rfl rfl rfl)) rfl (by decide) ?_
    refine lsw (want_none (by rfl)) (y_move rfl rfl) rfl (by decide) ?_
    refine lsk (want_f (dj := 12) (by rfl) (by kernel_rfl) rfl) rfl (by decide) ?_
    refine lsk (want_f (dj := 12) (by rfl) (by kernel_rfl) rfl) rfl (by decide) ?_
    refine lsk (want_f (dj := 12) (by rfl) (by kernel_rfl) rfl) rfl (by decide) ?_
    refine lsk (want_f (dj := 12) (by rfl) (by kernel_rfl) rfl) rfl (by decide) ?_
    refine lsk (want_f (dj := 12) (by rfl) (by kernel_rfl) rfl) rfl (by decide) ?_
    refine lsk (want_f (dj := 12) (by rfl) (by kernel_rfl) rfl) rfl (by decide) ?_
    refine lsk (want_f (dj := 12) (by rfl) (by kernel_rfl) rfl) rfl (by decide) ?_
    refine lsw (want_none (by rfl)) (y_pick false rfl rfl rfl) rfl (by decide) ?_
    refine lsw (want_none (by rfl)) (y_move rfl rfl) rfl (by decide) ?_
    refine lsk (want_f (dj := 21) (by rfl) (by kernel_rfl) rfl) rfl (by decide) ?_
    refine lsk (want_f (dj := 21) (by rfl) (by kernel_rfl) rfl) rfl (by decide) ?_
    refine lsk (want_f (dj := 21) (by rfl) (by kernel_rfl) rfl) rfl (by decide) ?_
    refine lsk (want_f (dj := 21) (by rfl) (by kernel_rfl) rfl) rfl (by decide) ?_
    refine lsk (want_f (dj := 21) (by rfl) (by kernel_rfl) rfl) rfl (by decide) ?_
    refine lsw (want_none (by rfl)) (y_pick false rfl rfl rfl) rfl (by decide) ?_
    refine lsw (want_none (by rfl)) (y_assign rfl rfl) rfl (by decide) ?_
    refine lg_nil ?_
    refine nx (E' := [(4, _)]) (fk rfl fn) ?_
    refine cg_ret ?_
    have u := u.trans (n1.below.mono u.size)
    have u := u.trans (n2.below.mono u.size)
    exact eg_ret_tmp rfl rfl ⟨_, rfl, congrArg Value.bool (show false = decide (PnSame L M) from (decide_eq_false (by simp [PnSame, *])).symm), u⟩
end
end Go.Proofs.Ytpoonjgkgaodmaa
