/-
  KitQ: LfRef, LfRefG, PnRef, NdRef.
-/
import Derived.Test.YtkcpmpbjjnknhaaGreatDoorKitP
namespace Go.Proofs.YtkcpmpbjjnknhaaGreatDoor
open Go.ChangeShapes Go.WideShapes Go.ChangeAt Go.RowKit
set_option linter.unusedVariables false

/- LfRef:
  The document's Few, Check, Same and Put.
-/
theorem few_any {W : World} {B : Nat} {l : LfV} {L : Lf} (hl : IsLf W B l L) (hB : B ≤ W.heap.size) : Calls Tryz.prog 63 #[.agg (l.cs L)] W fun e W' => ∃ v, e = .returned v ∧ v = .bool (decide (lfFew L)) ∧ Below W.heap.size W W' := by
  refine calls_cg (n := 15) Tryz.func63 rfl Tryz.ntmps63 (by simp) ?_
  show CG _ _ _ [(0, .agg (l.cs L))] _ _
  have u := Below.refl W.heap.size W
  refine cg_seq ?_
  refine cg_region ?_
  refine lg_boxw (want_none (by rfl)) rfl rfl (by kernel_rfl) rfl (by decide) fun b1 w1 n1 => ?_
  have r1 := n1.row
  have k1 := n1.blk
  have z1 := n1.size
  have lt1 : b1 < w1.heap.size := by omega
  refine zA rfl rfl rfl rfl rfl ?_
  refine lg_nil ?_
  refine nx (zk2 1 2 rfl rfl fn) ?_
  refine cg_seq ?_
  refine cg_region ?_
  refine za rfl (y_fld (off := 0) (by kernel_rfl) rfl rfl) rfl rfl ?_
  refine za rfl (y_cellv (v := l.enc.v) r1 rfl (by kernel_rfl) rfl rfl) rfl rfl ?_
  have hl := hl.below (n1.below.mono (by omega))
  refine za rfl (y_lenS (el := 5) hl.enc (by kernel_rfl) rfl rfl) rfl rfl ?_
  refine za rfl (y_fld (off := 1) (by kernel_rfl) rfl rfl) rfl rfl ?_
  refine za rfl (y_cellv (v := l.cred.v) r1 rfl (by kernel_rfl) rfl rfl) rfl rfl ?_
  refine za rfl (y_lenS (el := 5) hl.cred (by kernel_rfl) rfl rfl) rfl rfl ?_
  refine za rfl (yi_addW rfl rfl rfl) rfl rfl ?_
  refine za rfl (y_fld (off := 3) (by kernel_rfl) rfl rfl) rfl rfl ?_
  refine za rfl (y_cellv (v := l.par.v) r1 rfl (by kernel_rfl) rfl rfl) rfl rfl ?_
  refine za rfl (y_lenS (el := 5) hl.par (by kernel_rfl) rfl rfl) rfl rfl ?_
  refine za rfl (yi_addW rfl rfl rfl) rfl rfl ?_
  refine za rfl (yi_leq rfl rfl rfl) rfl rfl ?_
  refine zA rfl rfl rfl rfl rfl ?_
  refine lg_nil ?_
  refine nx (zk1 2 rfl fn) ?_
  refine cg_ret ?_
  have u := u.trans (n1.below.mono u.size)
  exact eg_ret_tmp rfl rfl ⟨_, rfl, rfl, u⟩
theorem rcheck_any {W : World} {B : Nat} {l : LfV} {L : Lf} (hl : IsLf W B l L) (hB : B ≤ W.heap.size) : Calls Tryz.prog 138 #[.agg (l.cs L)] W fun e W' => ∃ v, e = .returned v ∧ v = nv (lfCheck L) ∧ Below W.heap.size W W' := by
  refine calls_cg (n := 44) Tryz.func138 rfl Tryz.ntmps138 (by simp) ?_
  show CG _ _ _ [(0, .agg (l.cs L))] _ _
  have u := Below.refl W.heap.size W
  refine cg_seq ?_
  refine cg_region ?_
  refine lg_boxw (want_none (by rfl)) rfl rfl (by kernel_rfl) rfl (by decide) fun b1 w1 n1 => ?_
  have r1 := n1.row
  have k1 := n1.blk
  have z1 := n1.size
  have lt1 : b1 < w1.heap.size := by omega
  refine zA rfl rfl rfl rfl rfl ?_
  refine lg_nil ?_
  refine nx (zk2 1 2 rfl rfl fn) ?_
  refine cg_seq ?_
  refine cg_block ?_
  refine cg_seq ?_
  refine cg_region ?_
  refine za rfl (y_fld (off := 0) (by kernel_rfl) rfl rfl) rfl rfl ?_
  refine za rfl (y_cellv (v := l.enc.v) r1 rfl (by kernel_rfl) rfl rfl) rfl rfl ?_
  have hl := hl.below (n1.below.mono (by omega))
  refine za rfl (y_lenS (el := 5) hl.enc (by kernel_rfl) rfl rfl) rfl rfl ?_
  by_cases c2 : (L.enc.length : Int) = 0
  · refine za rfl (yb (decide_eq_true c2) (yi_eql rfl rfl rfl)) rfl rfl ?_
    refine zA rfl rfl rfl rfl rfl ?_
    refine lg_nil ?_
    refine nx (zk3 1 2 3 rfl rfl rfl fn) ?_
    refine cg_ct rfl ?_
    refine cg_seq ?_
    refine cg_region ?_
    refine zA rfl rfl rfl rfl rfl ?_
    refine lg_nil ?_
    refine nx (zk1 2 rfl fn) ?_
    refine cg_ret ?_
    refine eg_block_ret ?_
    refine eg_seq_ret ?_
    have u := u.trans (n1.below.mono u.size)
    exact eg_ret_tmp rfl rfl ⟨_, rfl, congrArg nv (show 5 = lfCheck L by unfold lfCheck; (repeat' split) <;> omega), u⟩
  · refine za rfl (yb (decide_eq_false c2) (yi_eql rfl rfl rfl)) rfl rfl ?_
    refine zA rfl rfl rfl rfl rfl ?_
    refine lg_nil ?_
    refine nx (zk3 1 2 3 rfl rfl rfl fn) ?_
    refine cg_cf rfl ?_
    refine cg_seq ?_
    refine cg_region ?_
    refine za rfl (y_fld (off := 0) (by kernel_rfl) rfl rfl) rfl rfl ?_
    refine za rfl (y_cellv (v := l.enc.v) r1 rfl (by kernel_rfl) rfl rfl) rfl rfl ?_
    refine za rfl (y_lenS (el := 5) hl.enc (by kernel_rfl) rfl rfl) rfl rfl ?_
    by_cases c3 : 200 < (L.enc.length : Int)
    · refine za rfl (yb (decide_eq_true c3) (yi_gtr rfl rfl rfl)) rfl rfl ?_
      refine zM rfl rfl rfl rfl rfl ?_
      refine zf 13 rfl (by kernel_rfl) rfl rfl rfl ?_
      refine zf 13 rfl (by kernel_rfl) rfl rfl rfl ?_
      refine zf 13 rfl (by kernel_rfl) rfl rfl rfl ?_
      refine zf 13 rfl (by kernel_rfl) rfl rfl rfl ?_
      refine za rfl (y_pick true rfl rfl rfl) rfl rfl ?_
      refine zM rfl rfl rfl rfl rfl ?_
      refine zf 19 rfl (by kernel_rfl) rfl rfl rfl ?_
      refine zf 19 rfl (by kernel_rfl) rfl rfl rfl ?_
      refine zf 19 rfl (by kernel_rfl) rfl rfl rfl ?_
      refine zf 19 rfl (by kernel_rfl) rfl rfl rfl ?_
      refine za rfl (y_pick true rfl rfl rfl) rfl rfl ?_
      refine zA rfl rfl rfl rfl rfl ?_
      refine lg_nil ?_
      refine nx (zk3 1 2 8 rfl rfl rfl fn) ?_
      refine cg_ct rfl ?_
      refine cg_seq ?_
      refine cg_region ?_
      refine zA rfl rfl rfl rfl rfl ?_
      refine lg_nil ?_
      refine nx (zk1 2 rfl fn) ?_
      refine cg_ret ?_
      refine eg_block_ret ?_
      refine eg_seq_ret ?_
      have u := u.trans (n1.below.mono u.size)
      exact eg_ret_tmp rfl rfl ⟨_, rfl, congrArg nv (show 4 = lfCheck L by unfold lfCheck; (repeat' split) <;> omega), u⟩
    · refine za rfl (yb (decide_eq_false c3) (yi_gtr rfl rfl rfl)) rfl rfl ?_
      refine zM rfl rfl rfl rfl rfl ?_
      refine zt 13 rfl (by kernel_rfl) rfl (y_fld (off := 1) (by kernel_rfl) rfl rfl) rfl rfl ?_
      refine zt 13 rfl (by kernel_rfl) rfl (y_cellv (v := l.cred.v) r1 rfl (by kernel_rfl) rfl rfl) rfl rfl ?_
      refine zt 13 rfl (by kernel_rfl) rfl (y_lenS (el := 5) hl.cred (by kernel_rfl) rfl rfl) rfl rfl ?_
      by_cases c4 : 200 < (L.cred.length : Int)
      · refine zt 13 rfl (by kernel_rfl) rfl (yb (decide_eq_true c4) (yi_gtr rfl rfl rfl)) rfl rfl ?_
        refine za rfl (y_pick false rfl rfl rfl) rfl rfl ?_
        refine zM rfl rfl rfl rfl rfl ?_
        refine zf 19 rfl (by kernel_rfl) rfl rfl rfl ?_
        refine zf 19 rfl (by kernel_rfl) rfl rfl rfl ?_
        refine zf 19 rfl (by kernel_rfl) rfl rfl rfl ?_
        refine zf 19 rfl (by kernel_rfl) rfl rfl rfl ?_
        refine za rfl (y_pick true rfl rfl rfl) rfl rfl ?_
        refine zA rfl rfl rfl rfl rfl ?_
        refine lg_nil ?_
        refine nx (zk3 1 2 8 rfl rfl rfl fn) ?_
        refine cg_ct rfl ?_
        refine cg_seq ?_
        refine cg_region ?_
        refine zA rfl rfl rfl rfl rfl ?_
        refine lg_nil ?_
        refine nx (zk1 2 rfl fn) ?_
        refine cg_ret ?_
        refine eg_block_ret ?_
        refine eg_seq_ret ?_
        have u := u.trans (n1.below.mono u.size)
        exact eg_ret_tmp rfl rfl ⟨_, rfl, congrArg nv (show 4 = lfCheck L by unfold lfCheck; (repeat' split) <;> omega), u⟩
      · refine zt 13 rfl (by kernel_rfl) rfl (yb (decide_eq_false c4) (yi_gtr rfl rfl rfl)) rfl rfl ?_
        refine za rfl (y_pick false rfl rfl rfl) rfl rfl ?_
        refine zM rfl rfl rfl rfl rfl ?_
        refine zt 19 rfl (by kernel_rfl) rfl (y_fld (off := 3) (by kernel_rfl) rfl rfl) rfl rfl ?_
        refine zt 19 rfl (by kernel_rfl) rfl (y_cellv (v := l.par.v) r1 rfl (by kernel_rfl) rfl rfl) rfl rfl ?_
        refine zt 19 rfl (by kernel_rfl) rfl (y_lenS (el := 5) hl.par (by kernel_rfl) rfl rfl) rfl rfl ?_
        by_cases c5 : 200 < (L.par.length : Int)
        · refine zt 19 rfl (by kernel_rfl) rfl (yb (decide_eq_true c5) (yi_gtr rfl rfl rfl)) rfl rfl ?_
          refine za rfl (y_pick false rfl rfl rfl) rfl rfl ?_
          refine zA rfl rfl rfl rfl rfl ?_
          refine lg_nil ?_
          refine nx (zk3 1 2 8 rfl rfl rfl fn) ?_
          refine cg_ct rfl ?_
          refine cg_seq ?_
          refine cg_region ?_
          refine zA rfl rfl rfl rfl rfl ?_
          refine lg_nil ?_
          refine nx (zk1 2 rfl fn) ?_
          refine cg_ret ?_
          refine eg_block_ret ?_
          refine eg_seq_ret ?_
          have u := u.trans (n1.below.mono u.size)
          exact eg_ret_tmp rfl rfl ⟨_, rfl, congrArg nv (show 4 = lfCheck L by unfold lfCheck; (repeat' split) <;> omega), u⟩
        · refine zt 19 rfl (by kernel_rfl) rfl (yb (decide_eq_false c5) (yi_gtr rfl rfl rfl)) rfl rfl ?_
          refine za rfl (y_pick false rfl rfl rfl) rfl rfl ?_
          refine zA rfl rfl rfl rfl rfl ?_
          refine lg_nil ?_
          refine nx (zk3 1 2 8 rfl rfl rfl fn) ?_
          refine cg_cf rfl ?_
          refine cg_seq ?_
          refine cg_region ?_
          refine za rfl (y_fld (off := 2) (by kernel_rfl) rfl rfl) rfl rfl ?_
          refine za rfl (y_cellv (v := nv L.src) r1 rfl (by kernel_rfl) rfl rfl) rfl rfl ?_
          by_cases c6 : L.src < 1
          · refine za rfl (yb (decide_eq_true c6) (yi_lss rfl rfl rfl)) rfl rfl ?_
            refine zM rfl rfl rfl rfl rfl ?_
            refine zf 29 rfl (by kernel_rfl) rfl rfl rfl ?_
            refine zf 29 rfl (by kernel_rfl) rfl rfl rfl ?_
            refine zf 29 rfl (by kernel_rfl) rfl rfl rfl ?_
            refine za rfl (y_pick true rfl rfl rfl) rfl rfl ?_
            refine zA rfl rfl rfl rfl rfl ?_
            refine lg_nil ?_
            refine nx (zk3 1 2 25 rfl rfl rfl fn) ?_
            refine cg_ct rfl ?_
            refine cg_seq ?_
            refine cg_region ?_
            refine zA rfl rfl rfl rfl rfl ?_
            refine lg_nil ?_
            refine nx (zk1 2 rfl fn) ?_
            refine cg_ret ?_
            refine eg_block_ret ?_
            refine eg_seq_ret ?_
            have u := u.trans (n1.below.mono u.size)
            exact eg_ret_tmp rfl rfl ⟨_, rfl, congrArg nv (show 7 = lfCheck L by unfold lfCheck; (repeat' split) <;> omega), u⟩
          · refine za rfl (yb (decide_eq_false c6) (yi_lss rfl rfl rfl)) rfl rfl ?_
            refine zM rfl rfl rfl rfl rfl ?_
            refine zt 29 rfl (by kernel_rfl) rfl (y_fld (off := 2) (by kernel_rfl) rfl rfl) rfl rfl ?_
            refine zt 29 rfl (by kernel_rfl) rfl (y_cellv (v := nv L.src) r1 rfl (by kernel_rfl) rfl rfl) rfl rfl ?_
            by_cases c7 : 3 < L.src
            · refine zt 29 rfl (by kernel_rfl) rfl (yb (decide_eq_true c7) (yi_gtr rfl rfl rfl)) rfl rfl ?_
              refine za rfl (y_pick false rfl rfl rfl) rfl rfl ?_
              refine zA rfl rfl rfl rfl rfl ?_
              refine lg_nil ?_
              refine nx (zk3 1 2 25 rfl rfl rfl fn) ?_
              refine cg_ct rfl ?_
              refine cg_seq ?_
              refine cg_region ?_
              refine zA rfl rfl rfl rfl rfl ?_
              refine lg_nil ?_
              refine nx (zk1 2 rfl fn) ?_
              refine cg_ret ?_
              refine eg_block_ret ?_
              refine eg_seq_ret ?_
              have u := u.trans (n1.below.mono u.size)
              exact eg_ret_tmp rfl rfl ⟨_, rfl, congrArg nv (show 7 = lfCheck L by unfold lfCheck; (repeat' split) <;> omega), u⟩
            · refine zt 29 rfl (by kernel_rfl) rfl (yb (decide_eq_false c7) (yi_gtr rfl rfl rfl)) rfl rfl ?_
              refine za rfl (y_pick false rfl rfl rfl) rfl rfl ?_
              refine zA rfl rfl rfl rfl rfl ?_
              refine lg_nil ?_
              refine nx (zk3 1 2 25 rfl rfl rfl fn) ?_
              refine cg_cf rfl ?_
              refine cg_seq ?_
              refine cg_region ?_
              refine za rfl (y_fld (off := 3) (by kernel_rfl) rfl rfl) rfl rfl ?_
              refine za rfl (y_cellv (v := l.par.v) r1 rfl (by kernel_rfl) rfl rfl) rfl rfl ?_
              refine za rfl (y_lenS (el := 5) hl.par (by kernel_rfl) rfl rfl) rfl rfl ?_
              by_cases c8 : 0 < (L.par.length : Int)
              · refine za rfl (yb (decide_eq_true c8) (yi_gtr rfl rfl rfl)) rfl rfl ?_
                refine zM rfl rfl rfl rfl rfl ?_
                refine zt 39 rfl (by kernel_rfl) rfl (y_fld (off := 2) (by kernel_rfl) rfl rfl) rfl rfl ?_
                refine zt 39 rfl (by kernel_rfl) rfl (y_cellv (v := nv L.src) r1 rfl (by kernel_rfl) rfl rfl) rfl rfl ?_
                by_cases c9 : L.src = 3
                · refine zt 39 rfl (by kernel_rfl) rfl (yb (nd_f c9) (yi_neq rfl rfl rfl)) rfl rfl ?_
                  refine za rfl (y_pick true rfl rfl rfl) rfl rfl ?_
                  refine zA rfl rfl rfl rfl rfl ?_
                  refine lg_nil ?_
                  refine nx (zk2 2 34 rfl rfl fn) ?_
                  refine cg_cf rfl ?_
                  refine cg_skip ?_
                  refine eg_block_norm ?_
                  refine nx (zk1 2 rfl fn) ?_
                  refine cg_seq ?_
                  refine cg_region ?_
                  refine zA rfl rfl rfl rfl rfl ?_
                  refine lg_nil ?_
                  refine nx (zk1 2 rfl fn) ?_
                  refine cg_ret ?_
                  have u := u.trans (n1.below.mono u.size)
                  exact eg_ret_tmp rfl rfl ⟨_, rfl, congrArg nv (show 0 = lfCheck L by unfold lfCheck; (repeat' split) <;> omega), u⟩
                · refine zt 39 rfl (by kernel_rfl) rfl (yb (nd_t c9) (yi_neq rfl rfl rfl)) rfl rfl ?_
                  refine za rfl (y_pick true rfl rfl rfl) rfl rfl ?_
                  refine zA rfl rfl rfl rfl rfl ?_
                  refine lg_nil ?_
                  refine nx (zk2 2 34 rfl rfl fn) ?_
                  refine cg_ct rfl ?_
                  refine cg_seq ?_
                  refine cg_region ?_
                  refine zA rfl rfl rfl rfl rfl ?_
                  refine lg_nil ?_
                  refine nx (zk1 2 rfl fn) ?_
                  refine cg_ret ?_
                  refine eg_block_ret ?_
                  refine eg_seq_ret ?_
                  have u := u.trans (n1.below.mono u.size)
                  exact eg_ret_tmp rfl rfl ⟨_, rfl, congrArg nv (show 2 = lfCheck L by unfold lfCheck; (repeat' split) <;> omega), u⟩
              · refine za rfl (yb (decide_eq_false c8) (yi_gtr rfl rfl rfl)) rfl rfl ?_
                refine zM rfl rfl rfl rfl rfl ?_
                refine zf 39 rfl (by kernel_rfl) rfl rfl rfl ?_
                refine zf 39 rfl (by kernel_rfl) rfl rfl rfl ?_
                refine zf 39 rfl (by kernel_rfl) rfl rfl rfl ?_
                refine za rfl (y_pick false rfl rfl rfl) rfl rfl ?_
                refine zA rfl rfl rfl rfl rfl ?_
                refine lg_nil ?_
                refine nx (zk2 2 34 rfl rfl fn) ?_
                refine cg_cf rfl ?_
                refine cg_skip ?_
                refine eg_block_norm ?_
                refine nx (zk1 2 rfl fn) ?_
                refine cg_seq ?_
                refine cg_region ?_
                refine zA rfl rfl rfl rfl rfl ?_
                refine lg_nil ?_
                refine nx (zk1 2 rfl fn) ?_
                refine cg_ret ?_
                have u := u.trans (n1.below.mono u.size)
                exact eg_ret_tmp rfl rfl ⟨_, rfl, congrArg nv (show 0 = lfCheck L by unfold lfCheck; (repeat' split) <;> omega), u⟩
theorem rsame_any {W : World} {B : Nat} {l m : LfV} {L M : Lf} (hl : IsLf W B l L) (hm : IsLf W B m M) (hB : B ≤ W.heap.size) : Calls Tryz.prog 72 #[.agg (l.cs L), .agg (m.cs M)] W fun e W' => ∃ v, e = .returned v ∧ v = .bool (decide (LfSame L M)) ∧ Below W.heap.size W W' := by
  refine calls_cg (n := 37) Tryz.func72 rfl Tryz.ntmps72 (by simp) ?_
  show CG _ _ _ [(0, .agg (l.cs L)), (1, .agg (m.cs M))] _ _
  have u := Below.refl W.heap.size W
  refine cg_seq ?_
  refine cg_region ?_
  refine lg_boxw (want_none (by rfl)) rfl rfl (by kernel_rfl) rfl (by decide) fun b1 w1 n1 => ?_
  have r1 := n1.row
  have k1 := n1.blk
  have z1 := n1.size
  have lt1 : b1 < w1.heap.size := by omega
  refine lg_boxw (want_none (by rfl)) rfl rfl (by kernel_rfl) rfl (by decide) fun b2 w2 n2 => ?_
  have r2 := n2.row
  have k2 := n2.blk
  have z2 := n2.size
  have lt2 : b2 < w2.heap.size := by omega
  refine zA rfl rfl rfl rfl rfl ?_
  refine lg_nil ?_
  refine nx (zk3 2 3 4 rfl rfl rfl fn) ?_
  refine cg_seq ?_
  refine cg_region ?_
  refine za rfl (y_fld (off := 0) (by kernel_rfl) rfl rfl) rfl rfl ?_
  have r1 := n2.keep r1
  refine za rfl (y_cellv (v := l.enc.v) r1 rfl (by kernel_rfl) rfl rfl) rfl rfl ?_
  have hl := hl.below (n1.below.mono (by omega))
  have hl := hl.below (n2.below.mono (by omega))
  have by3 : Bytes L.enc := hl.enc.bytes
  refine za rfl (y_strS hl.enc rfl rfl) rfl rfl ?_
  refine za rfl (y_fld (off := 0) (by kernel_rfl) rfl rfl) rfl rfl ?_
  refine za rfl (y_cellv (v := m.enc.v) r2 rfl (by kernel_rfl) rfl rfl) rfl rfl ?_
  have hm := hm.below (n1.below.mono (by omega))
  have hm := hm.below (n2.below.mono (by omega))
  have by4 : Bytes M.enc := hm.enc.bytes
  refine za rfl (y_strS hm.enc rfl rfl) rfl rfl ?_
  by_cases c5 : L.enc = M.enc
  · refine za rfl (yb (decide_eq_true c5) (y_seqS (xs := L.enc) (ys := M.enc) by3 by4 rfl rfl rfl)) rfl rfl ?_
    refine zM rfl rfl rfl rfl rfl ?_
    refine zt 12 rfl (by kernel_rfl) rfl (y_fld (off := 1) (by kernel_rfl) rfl rfl) rfl rfl ?_
    refine zt 12 rfl (by kernel_rfl) rfl (y_cellv (v := l.cred.v) r1 rfl (by kernel_rfl) rfl rfl) rfl rfl ?_
    have by6 : Bytes L.cred := hl.cred.bytes
    refine zt 12 rfl (by kernel_rfl) rfl (y_strS hl.cred rfl rfl) rfl rfl ?_
    refine zt 12 rfl (by kernel_rfl) rfl (y_fld (off := 1) (by kernel_rfl) rfl rfl) rfl rfl ?_
    refine zt 12 rfl (by kernel_rfl) rfl (y_cellv (v := m.cred.v) r2 rfl (by kernel_rfl) rfl rfl) rfl rfl ?_
    have by7 : Bytes M.cred := hm.cred.bytes
    refine zt 12 rfl (by kernel_rfl) rfl (y_strS hm.cred rfl rfl) rfl rfl ?_
    by_cases c8 : L.cred = M.cred
    · refine zt 12 rfl (by kernel_rfl) rfl (yb (decide_eq_true c8) (y_seqS (xs := L.cred) (ys := M.cred) by6 by7 rfl rfl rfl)) rfl rfl ?_
      refine za rfl (y_pick true rfl rfl rfl) rfl rfl ?_
      refine zM rfl rfl rfl rfl rfl ?_
      refine zt 21 rfl (by kernel_rfl) rfl (y_fld (off := 2) (by kernel_rfl) rfl rfl) rfl rfl ?_
      refine zt 21 rfl (by kernel_rfl) rfl (y_cellv (v := nv L.src) r1 rfl (by kernel_rfl) rfl rfl) rfl rfl ?_
      refine zt 21 rfl (by kernel_rfl) rfl (y_fld (off := 2) (by kernel_rfl) rfl rfl) rfl rfl ?_
      refine zt 21 rfl (by kernel_rfl) rfl (y_cellv (v := nv M.src) r2 rfl (by kernel_rfl) rfl rfl) rfl rfl ?_
      by_cases c9 : L.src = M.src
      · refine zt 21 rfl (by kernel_rfl) rfl (yb (decide_eq_true c9) (yi_eql rfl rfl rfl)) rfl rfl ?_
        refine za rfl (y_pick true rfl rfl rfl) rfl rfl ?_
        refine zM rfl rfl rfl rfl rfl ?_
        refine zt 28 rfl (by kernel_rfl) rfl (y_fld (off := 3) (by kernel_rfl) rfl rfl) rfl rfl ?_
        refine zt 28 rfl (by kernel_rfl) rfl (y_cellv (v := l.par.v) r1 rfl (by kernel_rfl) rfl rfl) rfl rfl ?_
        have by10 : Bytes L.par := hl.par.bytes
        refine zt 28 rfl (by kernel_rfl) rfl (y_strS hl.par rfl rfl) rfl rfl ?_
        refine zt 28 rfl (by kernel_rfl) rfl (y_fld (off := 3) (by kernel_rfl) rfl rfl) rfl rfl ?_
        refine zt 28 rfl (by kernel_rfl) rfl (y_cellv (v := m.par.v) r2 rfl (by kernel_rfl) rfl rfl) rfl rfl ?_
        have by11 : Bytes M.par := hm.par.bytes
        refine zt 28 rfl (by kernel_rfl) rfl (y_strS hm.par rfl rfl) rfl rfl ?_
        by_cases c12 : L.par = M.par
        · refine zt 28 rfl (by kernel_rfl) rfl (yb (decide_eq_true c12) (y_seqS (xs := L.par) (ys := M.par) by10 by11 rfl rfl rfl)) rfl rfl ?_
          refine za rfl (y_pick true rfl rfl rfl) rfl rfl ?_
          refine zA rfl rfl rfl rfl rfl ?_
          refine lg_nil ?_
          refine nx (zk1 4 rfl fn) ?_
          refine cg_ret ?_
          have u := u.trans (n1.below.mono u.size)
          have u := u.trans (n2.below.mono u.size)
          exact eg_ret_tmp rfl rfl ⟨_, rfl, congrArg Value.bool (show true = decide (LfSame L M) from (decide_eq_true (by simp [LfSame, *])).symm), u⟩
        · refine zt 28 rfl (by kernel_rfl) rfl (yb (decide_eq_false c12) (y_seqS (xs := L.par) (ys := M.par) by10 by11 rfl rfl rfl)) rfl rfl ?_
          refine za rfl (y_pick true rfl rfl rfl) rfl rfl ?_
          refine zA rfl rfl rfl rfl rfl ?_
          refine lg_nil ?_
          refine nx (zk1 4 rfl fn) ?_
          refine cg_ret ?_
          have u := u.trans (n1.below.mono u.size)
          have u := u.trans (n2.below.mono u.size)
          exact eg_ret_tmp rfl rfl ⟨_, rfl, congrArg Value.bool (show false = decide (LfSame L M) from (decide_eq_false (by simp [LfSame, *])).symm), u⟩
      · refine zt 21 rfl (by kernel_rfl) rfl (yb (decide_eq_false c9) (yi_eql rfl rfl rfl)) rfl rfl ?_
        refine za rfl (y_pick true rfl rfl rfl) rfl rfl ?_
        refine zM rfl rfl rfl rfl rfl ?_
        refine zf 28 rfl (by kernel_rfl) rfl rfl rfl ?_
        refine zf 28 rfl (by kernel_rfl) rfl rfl rfl ?_
        refine zf 28 rfl (by kernel_rfl) rfl rfl rfl ?_
        refine zf 28 rfl (by kernel_rfl) rfl rfl rfl ?_
        refine zf 28 rfl (by kernel_rfl) rfl rfl rfl ?_
        refine zf 28 rfl (by kernel_rfl) rfl rfl rfl ?_
        refine zf 28 rfl (by kernel_rfl) rfl rfl rfl ?_
        refine za rfl (y_pick false rfl rfl rfl) rfl rfl ?_
        refine zA rfl rfl rfl rfl rfl ?_
        refine lg_nil ?_
        refine nx (zk1 4 rfl fn) ?_
        refine cg_ret ?_
        have u := u.trans (n1.below.mono u.size)
        have u := u.trans (n2.below.mono u.size)
        exact eg_ret_tmp rfl rfl ⟨_, rfl, congrArg Value.bool (show false = decide (LfSame L M) from (decide_eq_false (by simp [LfSame, *])).symm), u⟩
    · refine zt 12 rfl (by kernel_rfl) rfl (yb (decide_eq_false c8) (y_seqS (xs := L.cred) (ys := M.cred) by6 by7 rfl rfl rfl)) rfl rfl ?_
      refine za rfl (y_pick true rfl rfl rfl) rfl rfl ?_
      refine zM rfl rfl rfl rfl rfl ?_
      refine zf 21 rfl (by kernel_rfl) rfl rfl rfl ?_
      refine zf 21 rfl (by kernel_rfl) rfl rfl rfl ?_
      refine zf 21 rfl (by kernel_rfl) rfl rfl rfl ?_
      refine zf 21 rfl (by kernel_rfl) rfl rfl rfl ?_
      refine zf 21 rfl (by kernel_rfl) rfl rfl rfl ?_
      refine za rfl (y_pick false rfl rfl rfl) rfl rfl ?_
      refine zM rfl rfl rfl rfl rfl ?_
      refine zf 28 rfl (by kernel_rfl) rfl rfl rfl ?_
      refine zf 28 rfl (by kernel_rfl) rfl rfl rfl ?_
      refine zf 28 rfl (by kernel_rfl) rfl rfl rfl ?_
      refine zf 28 rfl (by kernel_rfl) rfl rfl rfl ?_
      refine zf 28 rfl (by kernel_rfl) rfl rfl rfl ?_
      refine zf 28 rfl (by kernel_rfl) rfl rfl rfl ?_
      refine zf 28 rfl (by kernel_rfl) rfl rfl rfl ?_
      refine za rfl (y_pick false rfl rfl rfl) rfl rfl ?_
      refine zA rfl rfl rfl rfl rfl ?_
      refine lg_nil ?_
      refine nx (zk1 4 rfl fn) ?_
      refine cg_ret ?_
      have u := u.trans (n1.below.mono u.size)
      have u := u.trans (n2.below.mono u.size)
      exact eg_ret_tmp rfl rfl ⟨_, rfl, congrArg Value.bool (show false = decide (LfSame L M) from (decide_eq_false (by simp [LfSame, *])).symm), u⟩
  · refine za rfl (yb (decide_eq_false c5) (y_seqS (xs := L.enc) (ys := M.enc) by3 by4 rfl rfl rfl)) rfl rfl ?_
    refine zM rfl rfl rfl rfl rfl ?_
    refine zf 12 rfl (by kernel_rfl) rfl rfl rfl ?_
    refine zf 12 rfl (by kernel_rfl) rfl rfl rfl ?_
    refine zf 12 rfl (by kernel_rfl) rfl rfl rfl ?_
    refine zf 12 rfl (by kernel_rfl) rfl rfl rfl ?_
    refine zf 12 rfl (by kernel_rfl) rfl rfl rfl ?_
    refine zf 12 rfl (by kernel_rfl) rfl rfl rfl ?_
    refine zf 12 rfl (by kernel_rfl) rfl rfl rfl ?_
    refine za rfl (y_pick false rfl rfl rfl) rfl rfl ?_
    refine zM rfl rfl rfl rfl rfl ?_
    refine zf 21 rfl (by kernel_rfl) rfl rfl rfl ?_
    refine zf 21 rfl (by kernel_rfl) rfl rfl rfl ?_
    refine zf 21 rfl (by kernel_rfl) rfl rfl rfl ?_
    refine zf 21 rfl (by kernel_rfl) rfl rfl rfl ?_
    refine zf 21 rfl (by kernel_rfl) rfl rfl rfl ?_
    refine za rfl (y_pick false rfl rfl rfl) rfl rfl ?_
    refine zM rfl rfl rfl rfl rfl ?_
    refine zf 28 rfl (by kernel_rfl) rfl rfl rfl ?_
    refine zf 28 rfl (by kernel_rfl) rfl rfl rfl ?_
    refine zf 28 rfl (by kernel_rfl) rfl rfl rfl ?_
    refine zf 28 rfl (by kernel_rfl) rfl rfl rfl ?_
    refine zf 28 rfl (by kernel_rfl) rfl rfl rfl ?_
    refine zf 28 rfl (by kernel_rfl) rfl rfl rfl ?_
    refine zf 28 rfl (by kernel_rfl) rfl rfl rfl ?_
    refine za rfl (y_pick false rfl rfl rfl) rfl rfl ?_
    refine zA rfl rfl rfl rfl rfl ?_
    refine lg_nil ?_
    refine nx (zk1 4 rfl fn) ?_
    refine cg_ret ?_
    have u := u.trans (n1.below.mono u.size)
    have u := u.trans (n2.below.mono u.size)
    exact eg_ret_tmp rfl rfl ⟨_, rfl, congrArg Value.bool (show false = decide (LfSame L M) from (decide_eq_false (by simp [LfSame, *])).symm), u⟩
theorem rputL_any {W : World} {B : Nat} {s : SlV} {xs : List Int} {l : LfV} {L : Lf} (h : Sl W B s xs) (hl : IsLf W B l L) (hB : B ≤ W.heap.size) (hx : xs.length ≤ 20000) : Calls Tryz.prog 109 #[s.v, .agg (l.cs L)] W fun e W' => ∃ v, e = .returned v ∧ PutS W (xs ++ lfPut L) v W' := by
  refine calls_cg (n := 33) Tryz.func109 rfl Tryz.ntmps109 (by simp) ?_
  show CG _ _ _ [(0, s.v), (1, .agg (l.cs L))] _ _
  have u := Below.refl W.heap.size W
  refine cg_seq ?_
  refine cg_region ?_
  refine lg_boxw (want_none (by rfl)) rfl rfl (by kernel_rfl) rfl (by decide) fun b1 w1 n1 => ?_
  have r1 := n1.row
  have k1 := n1.blk
  have z1 := n1.size
  have lt1 : b1 < w1.heap.size := by omega
  refine zA rfl rfl rfl rfl rfl ?_
  refine lg_nil ?_
  refine nx (zk3 0 3 4 rfl rfl rfl fn) ?_
  refine cg_seq ?_
  refine cg_region ?_
  obtain ⟨bs3, hbs3⟩ : ∃ q, q = w1.heap.size := ⟨_, rfl⟩
  refine lg_bs0 (want_none (by rfl)) rfl rfl (by decide) fun v2 w2 g2 l2 => ?_
  rw [← hbs3] at g2
  have z2 := l2.size
  refine zM rfl rfl rfl rfl rfl ?_
  have h := h.below (n1.below.mono (by omega))
  have h := h.below (l2.mono (by omega))
  refine lg_appS g2 Bytes.nil h (by first | omega | (simp only [List.length_nil]; omega)) (by omega) (want_none (by rfl)) rfl rfl rfl rfl rfl (by decide) fun r4 w4 m4 g4 l4 z4 => ?_
  simp only [List.nil_append] at m4 g4
  refine zA rfl rfl rfl rfl rfl ?_
  refine lg_nil ?_
  refine nx (zk3 3 4 5 rfl rfl rfl fn) ?_
  refine cg_seq ?_
  refine cg_seq ?_
  refine cg_region ?_
  have r1 := RowAt.below l2 r1.lt r1
  have r1 := RowAt.below l4 (by omega) r1
  refine za rfl (y_loadA r1 (by kernel_rfl) (by kernel_rfl) rfl rfl) rfl rfl ?_
  have hl := hl.below (n1.below.mono (by omega))
  have hl := hl.below (l2.mono (by omega))
  have hl := hl.below (l4.mono (by omega))
  refine lg_callw (want_none (by rfl)) (rcheck_any (hl.more (B' := w4.heap.size) (by omega)) (Nat.le_refl _)) (by kernel_rfl) rfl rfl rfl (by decide) ?_
  rintro _ w5 ⟨rfl, hw5⟩
  have zw5 := hw5.size
  by_cases c6 : (lfCheck L) = 0
  · have ok := lfCheck_ok c6
    refine za rfl (yb (nd_f c6) (yi_neq rfl rfl rfl)) rfl rfl ?_
    refine lg_nil ?_
    refine nx (zk3 3 4 5 rfl rfl rfl (zk1 11 rfl fn)) ?_
    refine cg_cf rfl ?_
    refine cg_skip ?_
    refine nx (zk3 3 4 5 rfl rfl rfl fn) ?_
    refine cg_seq ?_
    refine cg_region ?_
    refine zM rfl rfl rfl rfl rfl ?_
    refine za rfl (y_fld (off := 0) (by kernel_rfl) rfl rfl) rfl rfl ?_
    have r1 := RowAt.below hw5 r1.lt r1
    refine za rfl (y_cellv (v := l.enc.v) r1 rfl (by kernel_rfl) rfl rfl) rfl rfl ?_
    have m4 := m4.below (hw5.mono (by omega))
    have hl := hl.below (hw5.mono (by omega))
    refine lg_callw (want_none (by rfl)) (rputBytes_S m4 hl.enc (by omega) (by omega) (by first | omega | (simp only [List.length_append, List.length_nil, numOct_length]; omega)) (by first | omega | (simp only [List.length_append, List.length_nil, numOct_length]; omega))) (by kernel_rfl) rfl rfl rfl (by decide) ?_
    rintro _ w7 ⟨r7, rfl, m7, hw7⟩
    have zw7 := hw7.size
    have lb7 := bytesOct_le L.enc
    refine zA rfl rfl rfl rfl rfl ?_
    refine lg_nil ?_
    refine nx (zk3 3 4 5 rfl rfl rfl fn) ?_
    refine cg_seq ?_
    refine cg_region ?_
    refine zM rfl rfl rfl rfl rfl ?_
    refine za rfl (y_fld (off := 1) (by kernel_rfl) rfl rfl) rfl rfl ?_
    have r1 := RowAt.below hw7 r1.lt r1
    refine za rfl (y_cellv (v := l.cred.v) r1 rfl (by kernel_rfl) rfl rfl) rfl rfl ?_
    have hl := hl.below (hw7.mono (by omega))
    refine lg_callw (want_none (by rfl)) (rputBytes_S m7 hl.cred (by omega) (by omega) (by first | omega | (simp only [List.length_append]; omega)) (by first | omega | (simp only [List.length_append]; omega))) (by kernel_rfl) rfl rfl rfl (by decide) ?_
    rintro _ w8 ⟨r8, rfl, m8, hw8⟩
    have zw8 := hw8.size
    have lb8 := bytesOct_le L.cred
    refine zA rfl rfl rfl rfl rfl ?_
    refine lg_nil ?_
    refine nx (zk3 3 4 5 rfl rfl rfl fn) ?_
    refine cg_seq ?_
    refine cg_region ?_
    refine zM rfl rfl rfl rfl rfl ?_
    refine za rfl (y_fld (off := 2) (by kernel_rfl) rfl rfl) rfl rfl ?_
    have r1 := RowAt.below hw8 r1.lt r1
    refine za rfl (y_cellv (v := nv L.src) r1 rfl (by kernel_rfl) rfl rfl) rfl rfl ?_
    refine lg_callw (want_none (by rfl)) (rputNum_S L.src 1 m8 (by omega) (by first | omega | (simp only [List.length_append]; omega))) (by kernel_rfl) rfl rfl rfl (by decide) ?_
    rintro _ w9 ⟨r9, rfl, m9, hw9⟩
    have zw9 := hw9.size
    have wk9 := widthK_le 1
    refine zA rfl rfl rfl rfl rfl ?_
    refine lg_nil ?_
    refine nx (zk3 3 4 5 rfl rfl rfl fn) ?_
    refine cg_seq ?_
    refine cg_seq ?_
    refine cg_region ?_
    refine za rfl (y_fld (off := 2) (by kernel_rfl) rfl rfl) rfl rfl ?_
    have r1 := RowAt.below hw9 r1.lt r1
    refine za rfl (y_cellv (v := nv L.src) r1 rfl (by kernel_rfl) rfl rfl) rfl rfl ?_
    by_cases c10 : L.src = 3
    · refine za rfl (yb (decide_eq_true c10) (yi_eql rfl rfl rfl)) rfl rfl ?_
      refine lg_nil ?_
      refine nx (zk3 3 4 5 rfl rfl rfl (zk1 27 rfl fn)) ?_
      refine cg_ct rfl ?_
      refine cg_region ?_
      refine zM rfl rfl rfl rfl rfl ?_
      refine za rfl (y_fld (off := 3) (by kernel_rfl) rfl rfl) rfl rfl ?_
      refine za rfl (y_cellv (v := l.par.v) r1 rfl (by kernel_rfl) rfl rfl) rfl rfl ?_
      have hl := hl.below (hw8.mono (by omega))
      have hl := hl.below (hw9.mono (by omega))
      refine lg_callw (want_none (by rfl)) (rputBytes_S m9 hl.par (by omega) (by omega) (by first | omega | (simp only [List.length_append, numOct_length]; omega)) (by first | omega | (simp only [List.length_append, numOct_length]; omega))) (by kernel_rfl) rfl rfl rfl (by decide) ?_
      rintro _ w11 ⟨r11, rfl, m11, hw11⟩
      have zw11 := hw11.size
      have lb11 := bytesOct_le L.par
      refine zA rfl rfl rfl rfl rfl ?_
      refine lg_nil ?_
      refine nx (zk2 4 5 rfl rfl fn) ?_
      refine cg_seq ?_
      refine cg_region ?_
      refine zM rfl rfl rfl rfl rfl ?_
      refine zA rfl rfl rfl rfl rfl ?_
      refine lg_nil ?_
      refine nx (zk1 4 rfl fn) ?_
      refine cg_ret ?_
      have u := u.trans (n1.below.mono u.size)
      have u := u.trans (l2.mono u.size)
      have u := u.trans (l4.mono (by omega))
      have u := u.trans (hw5.mono u.size)
      have u := u.trans (hw7.mono u.size)
      have u := u.trans (hw8.mono u.size)
      have u := u.trans (hw9.mono u.size)
      have u := u.trans (hw11.mono u.size)
      exact eg_ret_tmp rfl rfl ⟨_, rfl, r11, rfl, (m11.more (by omega)).cast (by simp [lfPut, lfOct, c6, c10]), u⟩
    · refine za rfl (yb (decide_eq_false c10) (yi_eql rfl rfl rfl)) rfl rfl ?_
      refine lg_nil ?_
      refine nx (zk3 3 4 5 rfl rfl rfl (zk1 27 rfl fn)) ?_
      refine cg_cf rfl ?_
      refine cg_skip ?_
      refine nx (zk2 4 5 rfl rfl fn) ?_
      refine cg_seq ?_
      refine cg_region ?_
      refine zM rfl rfl rfl rfl rfl ?_
      refine zA rfl rfl rfl rfl rfl ?_
      refine lg_nil ?_
      refine nx (zk1 4 rfl fn) ?_
      refine cg_ret ?_
      have u := u.trans (n1.below.mono u.size)
      have u := u.trans (l2.mono u.size)
      have u := u.trans (l4.mono (by omega))
      have u := u.trans (hw5.mono u.size)
      have u := u.trans (hw7.mono u.size)
      have u := u.trans (hw8.mono u.size)
      have u := u.trans (hw9.mono u.size)
      exact eg_ret_tmp rfl rfl ⟨_, rfl, r9, rfl, (m9.more (by omega)).cast (by simp [lfPut, lfOct, c6, c10]), u⟩
  · refine za rfl (yb (nd_t c6) (yi_neq rfl rfl rfl)) rfl rfl ?_
    refine lg_nil ?_
    refine nx (zk3 3 4 5 rfl rfl rfl (zk1 11 rfl fn)) ?_
    refine cg_ct rfl ?_
    refine cg_seq ?_
    refine cg_region ?_
    refine zM rfl rfl rfl rfl rfl ?_
    refine zA rfl rfl rfl rfl rfl ?_
    refine lg_nil ?_
    refine nx (zk3 3 5 4 rfl rfl rfl fn) ?_
    refine cg_ret ?_
    refine eg_seq_ret ?_
    have m4 := m4.below (hw5.mono (by omega))
    have u := u.trans (n1.below.mono u.size)
    have u := u.trans (l2.mono u.size)
    have u := u.trans (l4.mono (by omega))
    have u := u.trans (hw5.mono u.size)
    exact eg_ret_tmp rfl rfl ⟨_, rfl, r4, rfl, (m4.more (by omega)).cast (by simp [lfPut, c6]), u⟩
/- LfRefG:
  The document's Get.
-/

/- PnRef:
  The document's Few, Check, Same, Put and Get.
-/
section
set_option maxHeartbeats 1000000
theorem fewP_any {W : World} {B : Nat} {l : PnV} {L : Pn} (hl : IsPn W B l L) (hB : B ≤ W.heap.size) : Calls Tryz.prog 64 #[.agg (l.cs L)] W fun e W' => ∃ v, e = .returned v ∧ v = .bool (decide (pnFew L)) ∧ Below W.heap.size W W' := by
  refine calls_cg (n := 15) Tryz.func64 rfl Tryz.ntmps64 (by simp) ?_
  show CG _ _ _ [(0, .agg (l.cs L))] _ _
  have u := Below.refl W.heap.size W
  refine cg_seq ?_
  refine cg_region ?_
  refine lg_boxw (want_none (by rfl)) rfl rfl (by kernel_rfl) rfl (by decide) fun b1 w1 n1 => ?_
  have r1 := n1.row
  have k1 := n1.blk
  have z1 := n1.size
  have lt1 : b1 < w1.heap.size := by omega
  refine zA rfl rfl rfl rfl rfl ?_
  refine lg_nil ?_
  refine nx (zk2 1 2 rfl rfl fn) ?_
  refine cg_seq ?_
  refine cg_region ?_
  refine za rfl (y_fld (off := 0) (by kernel_rfl) rfl rfl) rfl rfl ?_
  refine za rfl (y_cellv (v := l.enc.v) r1 rfl (by kernel_rfl) rfl rfl) rfl rfl ?_
  have hl := hl.below (n1.below.mono (by omega))
  refine za rfl (y_lenS (el := 5) hl.enc (by kernel_rfl) rfl rfl) rfl rfl ?_
  refine za rfl (y_fld (off := 1) (by kernel_rfl) rfl rfl) rfl rfl ?_
  refine za rfl (y_cellv (v := l.hash.v) r1 rfl (by kernel_rfl) rfl rfl) rfl rfl ?_
  refine za rfl (y_lenS (el := 5) hl.hash (by kernel_rfl) rfl rfl) rfl rfl ?_
  refine za rfl (yi_addW rfl rfl rfl) rfl rfl ?_
  refine za rfl (y_fld (off := 2) (by kernel_rfl) rfl rfl) rfl rfl ?_
  refine za rfl (y_cellv (v := l.unm.v) r1 rfl (by kernel_rfl) rfl rfl) rfl rfl ?_
  refine za rfl (y_lenM (el := 3) hl.unm.len (by kernel_rfl) rfl rfl) rfl rfl ?_
  refine za rfl (yi_addW rfl rfl rfl) rfl rfl ?_
  refine za rfl (yi_leq rfl rfl rfl) rfl rfl ?_
  refine zA rfl rfl rfl rfl rfl ?_
  refine lg_nil ?_
  refine nx (zk1 2 rfl fn) ?_
  refine cg_ret ?_
  have u := u.trans (n1.below.mono u.size)
  exact eg_ret_tmp rfl rfl ⟨_, rfl, rfl, u⟩
set_option maxRecDepth 20000 in
theorem rcheckP_any {W : World} {B : Nat} {l : PnV} {L : Pn} (hl : IsPn W B l L) (hB : B ≤ W.heap.size) : Calls Tryz.prog 139 #[.agg (l.cs L)] W fun e W' => ∃ v, e = .returned v ∧ v = nv (pnCheck L) ∧ Below W.heap.size W W' := by
  refine calls_cg (n := 65) Tryz.func139 rfl Tryz.ntmps139 (by simp) ?_
  show CG _ _ _ [(0, .agg (l.cs L))] _ _
  have u := Below.refl W.heap.size W
  have le_l := hl.unm.len; have ca_l := hl.unm.cap
  refine cg_seq ?_
  refine cg_region ?_
  refine lg_boxw (want_none (by rfl)) rfl rfl (by kernel_rfl) rfl (by decide) fun b1 w1 n1 => ?_
  have r1 := n1.row
  have k1 := n1.blk
  have z1 := n1.size
  have lt1 : b1 < w1.heap.size := by omega
  refine zA rfl rfl rfl rfl rfl ?_
  refine lg_nil ?_
  refine nx (zk2 1 2 rfl rfl fn) ?_
  refine cg_seq ?_
  refine cg_seq ?_
  refine cg_region ?_
  refine za rfl (y_fld (off := 0) (by kernel_rfl) rfl rfl) rfl rfl ?_
  refine za rfl (y_cellv (v := l.enc.v) r1 rfl (by kernel_rfl) rfl rfl) rfl rfl ?_
  have hl := hl.below (n1.below.mono (by omega))
  refine za rfl (y_lenS (el := 5) hl.enc (by kernel_rfl) rfl rfl) rfl rfl ?_
  by_cases c2 : (L.enc.length : Int) = 0
  · refine za rfl (yb (decide_eq_true c2) (yi_eql rfl rfl rfl)) rfl rfl ?_
    refine lg_nil ?_
    refine nx (zk3 1 2 8 rfl rfl rfl fn) ?_
    refine cg_ct rfl ?_
    refine cg_seq ?_
    refine cg_region ?_
    refine zA rfl rfl rfl rfl rfl ?_
    refine lg_nil ?_
    refine nx (zk2 1 2 rfl rfl fn) ?_
    refine cg_ret ?_
    refine eg_seq_ret ?_
    have u := u.trans (n1.below.mono u.size)
    exact eg_ret_tmp rfl rfl ⟨_, rfl, congrArg nv (show pnCheck L = 5 from (if_pos c2)).symm, u⟩
  · refine za rfl (yb (decide_eq_false c2) (yi_eql rfl rfl rfl)) rfl rfl ?_
    refine lg_nil ?_
    refine nx (zk3 1 2 8 rfl rfl rfl fn) ?_
    refine cg_cf rfl ?_
    refine cg_skip ?_
    refine nx (zk2 1 2 rfl rfl fn) ?_
    refine cg_seq ?_
    refine cg_seq ?_
    refine cg_region ?_
    refine za rfl (y_fld (off := 0) (by kernel_rfl) rfl rfl) rfl rfl ?_
    refine za rfl (y_cellv (v := l.enc.v) r1 rfl (by kernel_rfl) rfl rfl) rfl rfl ?_
    refine za rfl (y_lenS (el := 5) hl.enc (by kernel_rfl) rfl rfl) rfl rfl ?_
    by_cases c3 : 200 < (L.enc.length : Int)
    · refine za rfl (yb (decide_eq_true c3) (yi_gtr rfl rfl rfl)) rfl rfl ?_
      refine zM rfl rfl rfl rfl rfl ?_
      refine zf 13 rfl (by kernel_rfl) rfl rfl rfl ?_
      refine zf 13 rfl (by kernel_rfl) rfl rfl rfl ?_
      refine zf 13 rfl (by kernel_rfl) rfl rfl rfl ?_
      refine zf 13 rfl (by kernel_rfl) rfl rfl rfl ?_
      refine za rfl (y_pick true rfl rfl rfl) rfl rfl ?_
      refine zM rfl rfl rfl rfl rfl ?_
      refine zf 19 rfl (by kernel_rfl) rfl rfl rfl ?_
      refine zf 19 rfl (by kernel_rfl) rfl rfl rfl ?_
      refine zf 19 rfl (by kernel_rfl) rfl rfl rfl ?_
      refine zf 19 rfl (by kernel_rfl) rfl rfl rfl ?_
      refine za rfl (y_pick true rfl rfl rfl) rfl rfl ?_
      refine lg_nil ?_
      refine nx (zk3 1 2 24 rfl rfl rfl fn) ?_
      refine cg_ct rfl ?_
      refine cg_seq ?_
      refine cg_region ?_
      refine zA rfl rfl rfl rfl rfl ?_
      refine lg_nil ?_
      refine nx (zk2 1 2 rfl rfl fn) ?_
      refine cg_ret ?_
      refine eg_seq_ret ?_
      have u := u.trans (n1.below.mono u.size)
      exact eg_ret_tmp rfl rfl ⟨_, rfl, congrArg nv (show pnCheck L = 4 from ((if_neg c2).trans (if_pos (by omega)))).symm, u⟩
    · refine za rfl (yb (decide_eq_false c3) (yi_gtr rfl rfl rfl)) rfl rfl ?_
      refine zM rfl rfl rfl rfl rfl ?_
      refine zt 13 rfl (by kernel_rfl) rfl (y_fld (off := 1) (by kernel_rfl) rfl rfl) rfl rfl ?_
      refine zt 13 rfl (by kernel_rfl) rfl (y_cellv (v := l.hash.v) r1 rfl (by kernel_rfl) rfl rfl) rfl rfl ?_
      refine zt 13 rfl (by kernel_rfl) rfl (y_lenS (el := 5) hl.hash (by kernel_rfl) rfl rfl) rfl rfl ?_
      by_cases c4 : 200 < (L.hash.length : Int)
      · refine zt 13 rfl (by kernel_rfl) rfl (yb (decide_eq_true c4) (yi_gtr rfl rfl rfl)) rfl rfl ?_
        refine za rfl (y_pick false rfl rfl rfl) rfl rfl ?_
        refine zM rfl rfl rfl rfl rfl ?_
        refine zf 19 rfl (by kernel_rfl) rfl rfl rfl ?_
        refine zf 19 rfl (by kernel_rfl) rfl rfl rfl ?_
        refine zf 19 rfl (by kernel_rfl) rfl rfl rfl ?_
        refine zf 19 rfl (by kernel_rfl) rfl rfl rfl ?_
        refine za rfl (y_pick true rfl rfl rfl) rfl rfl ?_
        refine lg_nil ?_
        refine nx (zk3 1 2 24 rfl rfl rfl fn) ?_
        refine cg_ct rfl ?_
        refine cg_seq ?_
        refine cg_region ?_
        refine zA rfl rfl rfl rfl rfl ?_
        refine lg_nil ?_
        refine nx (zk2 1 2 rfl rfl fn) ?_
        refine cg_ret ?_
        refine eg_seq_ret ?_
        have u := u.trans (n1.below.mono u.size)
        exact eg_ret_tmp rfl rfl ⟨_, rfl, congrArg nv (show pnCheck L = 4 from ((if_neg c2).trans (if_pos (by omega)))).symm, u⟩
      · refine zt 13 rfl (by kernel_rfl) rfl (yb (decide_eq_false c4) (yi_gtr rfl rfl rfl)) rfl rfl ?_
        refine za rfl (y_pick false rfl rfl rfl) rfl rfl ?_
        refine zM rfl rfl rfl rfl rfl ?_
        refine zt 19 rfl (by kernel_rfl) rfl (y_fld (off := 2) (by kernel_rfl) rfl rfl) rfl rfl ?_
        refine zt 19 rfl (by kernel_rfl) rfl (y_cellv (v := l.unm.v) r1 rfl (by kernel_rfl) rfl rfl) rfl rfl ?_
        refine zt 19 rfl (by kernel_rfl) rfl (y_lenM (el := 3) hl.unm.len (by kernel_rfl) rfl rfl) rfl rfl ?_
        by_cases c5 : 64 < (L.unm.length : Int)
        · refine zt 19 rfl (by kernel_rfl) rfl (yb (decide_eq_true c5) (yi_gtr rfl rfl rfl)) rfl rfl ?_
          refine za rfl (y_pick false rfl rfl rfl) rfl rfl ?_
          refine lg_nil ?_
          refine nx (zk3 1 2 24 rfl rfl rfl fn) ?_
          refine cg_ct rfl ?_
          refine cg_seq ?_
          refine cg_region ?_
          refine zA rfl rfl rfl rfl rfl ?_
          refine lg_nil ?_
          refine nx (zk2 1 2 rfl rfl fn) ?_
          refine cg_ret ?_
          refine eg_seq_ret ?_
          have u := u.trans (n1.below.mono u.size)
          exact eg_ret_tmp rfl rfl ⟨_, rfl, congrArg nv (show pnCheck L = 4 from ((if_neg c2).trans (if_pos (by omega)))).symm, u⟩
        · refine zt 19 rfl (by kernel_rfl) rfl (yb (decide_eq_false c5) (yi_gtr rfl rfl rfl)) rfl rfl ?_
          refine za rfl (y_pick false rfl rfl rfl) rfl rfl ?_
          refine lg_nil ?_
          refine nx (zk3 1 2 24 rfl rfl rfl fn) ?_
          refine cg_cf rfl ?_
          refine cg_skip ?_
          refine nx (zk2 1 2 rfl rfl fn) ?_
          refine cg_seq ?_
          refine cg_seq ?_
          refine cg_region ?_
          refine zA rfl rfl rfl rfl rfl ?_
          refine lg_nil ?_
          refine nx (zk3 1 2 3 rfl rfl rfl fn) ?_
          refine cg_block ?_
          have hb0 : W.heap.size ≤ b1 := by omega
          have u := u.trans (n1.below.mono u.size)
          refine cg_loopE (fun t a v => Holds 65 [(1, pv b1 0), (3, nv ((t : Nat) : Int))] a ∧ RowAt v b1 38 (l.cs L) ∧ IsPn v B l L ∧ Below W.heap.size W v ∧ t ≤ L.unm.length ∧ (∀ j, j < t → ¬ ((L.unm.getD j 0) < 0 ∨ 64 ≤ (L.unm.getD j 0)))) L.unm.length (fun a ha => ⟨ha.keep (fk rfl (fk rfl fn)), r1, hl, u, (Nat.zero_le _), (fun j hj => absurd hj (Nat.not_lt_zero _))⟩) ?_
          rintro t a v ht ⟨ha, r1, hl, u, tle, hno⟩
          refine cg_at ha ?_
          clear ha a
          have zv := u.size
          have l_r1 := r1.lt
          refine cg_seq ?_
          refine cg_seq ?_
          refine cg_region ?_
          refine zM rfl rfl rfl rfl rfl ?_
          refine za rfl (y_fld (off := 2) (by kernel_rfl) rfl rfl) rfl rfl ?_
          refine za rfl (y_cellv (v := l.unm.v) r1 rfl (by kernel_rfl) rfl rfl) rfl rfl ?_
          refine za rfl (y_lenM (el := 3) hl.unm.len (by kernel_rfl) rfl rfl) rfl rfl ?_
          by_cases c6 : ((t : Nat) : Int) < (L.unm.length : Int)
          · refine za rfl (yb (decide_eq_true c6) (yi_lss rfl rfl rfl)) rfl rfl ?_
            refine lg_nil ?_
            refine nx (zk5 1 3 25 26 27 rfl rfl rfl rfl rfl (zk2 28 29 rfl rfl fn)) ?_
            refine cg_ct rfl ?_
            refine cg_skip ?_
            refine nx (zk5 1 3 25 26 27 rfl rfl rfl rfl rfl (zk2 28 29 rfl rfl fn)) ?_
            refine cg_seq ?_
            refine cg_block ?_
            refine cg_seq ?_
            refine cg_region ?_
            refine za rfl (y_fld (off := 2) (by kernel_rfl) rfl rfl) rfl rfl ?_
            refine za rfl (y_cellv (v := l.unm.v) r1 rfl (by kernel_rfl) rfl rfl) rfl rfl ?_
            refine zM rfl rfl rfl rfl rfl ?_
            refine za rfl (y_ixT (i := t) (iI := ((t : Nat) : Int)) hl.unm (by omega) (by omega) rfl rfl rfl) rfl rfl ?_
            refine za rfl (y_ldT (i := t) hl.unm (by omega) rfl rfl) rfl rfl ?_
            by_cases c7 : (L.unm.getD t 0) < 0
            · refine za rfl (yb (decide_eq_true c7) (yi_lss rfl rfl rfl)) rfl rfl ?_
              refine zM rfl rfl rfl rfl rfl ?_
              refine zf 38 rfl (by kernel_rfl) rfl rfl rfl ?_
              refine zf 38 rfl (by kernel_rfl) rfl rfl rfl ?_
              refine zf 38 rfl (by kernel_rfl) rfl rfl rfl ?_
              refine zf 38 rfl (by kernel_rfl) rfl rfl rfl ?_
              refine zf 38 rfl (by kernel_rfl) rfl rfl rfl ?_
              refine zf 38 rfl (by kernel_rfl) rfl rfl rfl ?_
              refine za rfl (y_pick true rfl rfl rfl) rfl rfl ?_
              refine lg_nil ?_
              refine nx (zk5 1 3 25 26 27 rfl rfl rfl rfl rfl (zk5 28 29 32 33 34 rfl rfl rfl rfl rfl (zk5 35 36 37 38 45 rfl rfl rfl rfl rfl fn))) ?_
              refine cg_ct rfl ?_
              refine cg_seq ?_
              refine cg_region ?_
              refine zA rfl rfl rfl rfl rfl ?_
              refine lg_nil ?_
              refine nx (zk5 1 3 25 26 27 rfl rfl rfl rfl rfl (zk5 28 29 32 33 34 rfl rfl rfl rfl rfl (zk5 35 36 37 38 45 rfl rfl rfl rfl rfl (zk1 2 rfl fn)))) ?_
              refine cg_ret ?_
              refine eg_block_ret ?_
              refine eg_seq_ret ?_
              refine eg_seq_ret ?_
              refine eg_block_ret ?_
              refine eg_seq_ret ?_
              have ex : ∃ x ∈ L.unm, x < 0 ∨ 64 ≤ x := ⟨_, getD_mem (i := t) (by omega), by omega⟩
              exact eg_ret_tmp rfl rfl ⟨_, rfl, congrArg nv (show pnCheck L = 3 from (((if_neg c2).trans (if_neg (by omega))).trans (if_pos ex))).symm, u⟩
            · refine za rfl (yb (decide_eq_false c7) (yi_lss rfl rfl rfl)) rfl rfl ?_
              refine zM rfl rfl rfl rfl rfl ?_
              refine zt 38 rfl (by kernel_rfl) rfl (y_fld (off := 2) (by kernel_rfl) rfl rfl) rfl rfl ?_
              refine zt 38 rfl (by kernel_rfl) rfl (y_cellv (v := l.unm.v) r1 rfl (by kernel_rfl) rfl rfl) rfl rfl ?_
              refine zt 38 rfl (by kernel_rfl) rfl (y_move rfl rfl) rfl rfl ?_
              refine zt 38 rfl (by kernel_rfl) rfl (y_ixT (i := t) (iI := ((t : Nat) : Int)) hl.unm (by omega) (by omega) rfl rfl rfl) rfl rfl ?_
              refine zt 38 rfl (by kernel_rfl) rfl (y_ldT (i := t) hl.unm (by omega) rfl rfl) rfl rfl ?_
              by_cases c8 : 63 < (L.unm.getD t 0)
              · refine zt 38 rfl (by kernel_rfl) rfl (yb (decide_eq_true c8) (yi_gtr rfl rfl rfl)) rfl rfl ?_
                refine za rfl (y_pick false rfl rfl rfl) rfl rfl ?_
                refine lg_nil ?_
                refine nx (zk5 1 3 25 26 27 rfl rfl rfl rfl rfl (zk5 28 29 32 33 34 rfl rfl rfl rfl rfl (zk5 35 36 37 38 39 rfl rfl rfl rfl rfl (zk5 40 41 42 43 44 rfl rfl rfl rfl rfl (zk1 45 rfl fn))))) ?_
                refine cg_ct rfl ?_
                refine cg_seq ?_
                refine cg_region ?_
                refine zA rfl rfl rfl rfl rfl ?_
                refine lg_nil ?_
                refine nx (zk5 1 3 25 26 27 rfl rfl rfl rfl rfl (zk5 28 29 32 33 34 rfl rfl rfl rfl rfl (zk5 35 36 37 38 39 rfl rfl rfl rfl rfl (zk5 40 41 42 43 44 rfl rfl rfl rfl rfl (zk2 45 2 rfl rfl fn))))) ?_
                refine cg_ret ?_
                refine eg_block_ret ?_
                refine eg_seq_ret ?_
                refine eg_seq_ret ?_
                refine eg_block_ret ?_
                refine eg_seq_ret ?_
                have ex : ∃ x ∈ L.unm, x < 0 ∨ 64 ≤ x := ⟨_, getD_mem (i := t) (by omega), by omega⟩
                exact eg_ret_tmp rfl rfl ⟨_, rfl, congrArg nv (show pnCheck L = 3 from (((if_neg c2).trans (if_neg (by omega))).trans (if_pos ex))).symm, u⟩
              · refine zt 38 rfl (by kernel_rfl) rfl (yb (decide_eq_false c8) (yi_gtr rfl rfl rfl)) rfl rfl ?_
                refine za rfl (y_pick false rfl rfl rfl) rfl rfl ?_
                refine lg_nil ?_
                refine nx (zk5 1 3 25 26 27 rfl rfl rfl rfl rfl (zk5 28 29 32 33 34 rfl rfl rfl rfl rfl (zk5 35 36 37 38 39 rfl rfl rfl rfl rfl (zk5 40 41 42 43 44 rfl rfl rfl rfl rfl (zk1 45 rfl fn))))) ?_
                refine cg_cf rfl ?_
                refine cg_skip ?_
                refine eg_block_norm ?_
                refine nx (zk5 1 3 25 26 27 rfl rfl rfl rfl rfl (zk5 28 29 32 33 34 rfl rfl rfl rfl rfl (zk5 35 36 37 38 39 rfl rfl rfl rfl rfl (zk5 40 41 42 43 44 rfl rfl rfl rfl rfl (zk1 45 rfl fn))))) ?_
                refine cg_region ?_
                refine zM rfl rfl rfl rfl rfl ?_
                refine za rfl (yv (congrArg nv (show ((t : Nat) : Int) + 1 = ((t + 1 : Nat) : Int) by omega)) (yi_add rfl rfl rfl (by omega) (by omega))) rfl rfl ?_
                refine zA rfl rfl rfl rfl rfl ?_
                refine lg_nil ?_
                exact fun a ha => (show t < L.unm.length ∧ _ from ⟨(by omega), ha.keep (fk rfl (fk rfl fn)), r1, hl, u, (by omega), (fun j hj => if q : j < t then hno j q else by
                    obtain rfl : j = t := by omega
                    omega)⟩)
          · refine za rfl (yb (decide_eq_false c6) (yi_lss rfl rfl rfl)) rfl rfl ?_
            refine lg_nil ?_
            refine nx (zk5 1 3 25 26 27 rfl rfl rfl rfl rfl (zk2 28 29 rfl rfl fn)) ?_
            refine cg_cf rfl ?_
            refine cg_exit ?_
            refine eg_seq_exit ?_
            refine eg_seq_exit ?_
            refine eg_block_exit ?_
            refine nx (zk1 1 rfl fn) ?_
            refine cg_seq ?_
            refine cg_seq ?_
            refine cg_region ?_
            refine zA rfl rfl rfl rfl rfl ?_
            refine lg_nil ?_
            refine nx (zk2 1 4 rfl rfl fn) ?_
            refine cg_block ?_
            have nex : ¬ ∃ x ∈ L.unm, x < 0 ∨ 64 ≤ x := by rintro ⟨x, hx, q⟩; obtain ⟨i, hi, rfl⟩ := mem_getD hx; exact hno i (by omega) q
            have hb0 : W.heap.size ≤ b1 := by omega
            refine cg_loopE (fun t a v => Holds 65 [(1, pv b1 0), (4, nv (((t + 1) : Nat) : Int))] a ∧ RowAt v b1 38 (l.cs L) ∧ IsPn v B l L ∧ Below W.heap.size W v ∧ (∀ i, i < t → L.unm.getD i 0 < L.unm.getD (i + 1) 0) ∧ (t = 0 ∨ t < L.unm.length)) L.unm.length (fun a ha => ⟨ha.keep (fk rfl (fk rfl fn)), r1, hl, u, (fun i hi => absurd hi (Nat.not_lt_zero _)), (.inl rfl)⟩) ?_
            rintro t a v ht ⟨ha, r1, hl, u, he, tle⟩
            refine cg_at ha ?_
            clear ha a
            have zv := u.size
            have l_r1 := r1.lt
            refine cg_seq ?_
            refine cg_seq ?_
            refine cg_region ?_
            refine zM rfl rfl rfl rfl rfl ?_
            refine za rfl (y_fld (off := 2) (by kernel_rfl) rfl rfl) rfl rfl ?_
            refine za rfl (y_cellv (v := l.unm.v) r1 rfl (by kernel_rfl) rfl rfl) rfl rfl ?_
            refine za rfl (y_lenM (el := 3) hl.unm.len (by kernel_rfl) rfl rfl) rfl rfl ?_
            by_cases c9 : (((t + 1) : Nat) : Int) < (L.unm.length : Int)
            · refine za rfl (yb (decide_eq_true c9) (yi_lss rfl rfl rfl)) rfl rfl ?_
              refine lg_nil ?_
              refine nx (zk5 1 4 46 47 48 rfl rfl rfl rfl rfl (zk2 49 50 rfl rfl fn)) ?_
              refine cg_ct rfl ?_
              refine cg_skip ?_
              refine nx (zk5 1 4 46 47 48 rfl rfl rfl rfl rfl (zk2 49 50 rfl rfl fn)) ?_
              refine cg_seq ?_
              refine cg_block ?_
              refine cg_seq ?_
              refine cg_still (by kernel_rfl) (by kernel_rfl) fun W10 eW10 => ?_
              have dW10 := below_drew _ _ eW10
              have zW10 := size_drew _ _ eW10
              clear eW10
              refine zsa rfl (y_fld (off := 2) (by kernel_rfl) rfl rfl) rfl rfl ?_
              have r1 := RowAt.below dW10 r1.lt r1
              refine zsa rfl (y_cellv (v := l.unm.v) r1 rfl (by kernel_rfl) rfl rfl) rfl rfl ?_
              refine zsa rfl (y_move rfl rfl) rfl rfl ?_
              refine zsa rfl (yv (congrArg nv (show ((t + 1 : Nat) : Int) - 1 = ((t : Nat) : Int) by omega)) (yi_sub rfl rfl rfl (by omega) (by omega))) rfl rfl ?_
              have hl := hl.below (dW10.mono (by omega))
              refine zsa rfl (y_ixT (i := t) (iI := ((t : Nat) : Int)) hl.unm (by omega) (by omega) rfl rfl rfl) rfl rfl ?_
              refine zsa rfl (y_ldT (i := t) hl.unm (by omega) rfl rfl) rfl rfl ?_
              refine zsa rfl (y_fld (off := 2) (by kernel_rfl) rfl rfl) rfl rfl ?_
              refine zsa rfl (y_cellv (v := l.unm.v) r1 rfl (by kernel_rfl) rfl rfl) rfl rfl ?_
              refine zsa rfl (y_move rfl rfl) rfl rfl ?_
              refine zsa rfl (y_ixT (i := (t + 1)) (iI := (((t + 1) : Nat) : Int)) hl.unm (by omega) (by omega) rfl rfl rfl) rfl rfl ?_
              refine zsa rfl (y_ldT (i := (t + 1)) hl.unm (by omega) rfl rfl) rfl rfl ?_
              by_cases c11 : (L.unm.getD (t + 1) 0) ≤ (L.unm.getD t 0)
              · refine zsa rfl (yb (decide_eq_true c11) (yi_geq rfl rfl rfl)) rfl rfl ?_
                refine sg_nil ?_
                refine nx (zk5 1 4 46 47 48 rfl rfl rfl rfl rfl (zk5 49 50 53 54 55 rfl rfl rfl rfl rfl (zk5 56 57 58 59 60 rfl rfl rfl rfl rfl (zk3 61 62 63 rfl rfl rfl (zk1 64 rfl fn))))) ?_
                refine cg_ct rfl ?_
                refine cg_seq ?_
                refine cg_region ?_
                refine zA rfl rfl rfl rfl rfl ?_
                refine lg_nil ?_
                refine nx (zk5 1 4 46 47 48 rfl rfl rfl rfl rfl (zk5 49 50 53 54 55 rfl rfl rfl rfl rfl (zk5 56 57 58 59 60 rfl rfl rfl rfl rfl (zk5 61 62 63 64 2 rfl rfl rfl rfl rfl fn)))) ?_
                refine cg_ret ?_
                refine eg_block_ret ?_
                refine eg_seq_ret ?_
                refine eg_seq_ret ?_
                refine eg_block_ret ?_
                refine eg_seq_ret ?_
                have u := u.trans (dW10.mono u.size)
                exact eg_ret_tmp rfl rfl ⟨_, rfl, congrArg nv (show pnCheck L = 8 from ((((if_neg c2).trans (if_neg (by omega))).trans (if_neg nex)).trans (if_pos (not_rising (by omega) c11)))).symm, u⟩
              · refine zsa rfl (yb (decide_eq_false c11) (yi_geq rfl rfl rfl)) rfl rfl ?_
                refine sg_nil ?_
                refine nx (zk5 1 4 46 47 48 rfl rfl rfl rfl rfl (zk5 49 50 53 54 55 rfl rfl rfl rfl rfl (zk5 56 57 58 59 60 rfl rfl rfl rfl rfl (zk3 61 62 63 rfl rfl rfl (zk1 64 rfl fn))))) ?_
                refine cg_cf rfl ?_
                refine cg_skip ?_
                refine eg_block_norm ?_
                refine nx (zk5 1 4 46 47 48 rfl rfl rfl rfl rfl (zk5 49 50 53 54 55 rfl rfl rfl rfl rfl (zk5 56 57 58 59 60 rfl rfl rfl rfl rfl (zk3 61 62 63 rfl rfl rfl (zk1 64 rfl fn))))) ?_
                refine cg_region ?_
                refine zM rfl rfl rfl rfl rfl ?_
                refine za rfl (yv (congrArg nv (show ((t + 1 : Nat) : Int) + 1 = ((t + 1 + 1 : Nat) : Int) by omega)) (yi_add rfl rfl rfl (by omega) (by omega))) rfl rfl ?_
                refine zA rfl rfl rfl rfl rfl ?_
                refine lg_nil ?_
                have u := u.trans (dW10.mono u.size)
                exact fun a ha => (show t < L.unm.length ∧ _ from ⟨(by omega), ha.keep (fk rfl (fk rfl fn)), r1, hl, u, (fun i hi => if q : i < t then he i q else by
                    obtain rfl : i = t := by omega
                    exact Int.not_le.1 c11), (by omega)⟩)
            · refine za rfl (yb (decide_eq_false c9) (yi_lss rfl rfl rfl)) rfl rfl ?_
              refine lg_nil ?_
              refine nx (zk5 1 4 46 47 48 rfl rfl rfl rfl rfl (zk2 49 50 rfl rfl fn)) ?_
              refine cg_cf rfl ?_
              refine cg_exit ?_
              refine eg_seq_exit ?_
              refine eg_seq_exit ?_
              refine eg_block_exit ?_
              refine nx (E' := []) fn ?_
              refine cg_seq ?_
              refine cg_region ?_
              refine zA rfl rfl rfl rfl rfl ?_
              refine lg_nil ?_
              refine nx (zk1 2 rfl fn) ?_
              refine cg_ret ?_
              exact eg_ret_tmp rfl rfl ⟨_, rfl, congrArg nv (show pnCheck L = 0 from ((((if_neg c2).trans (if_neg (by omega))).trans (if_neg nex)).trans (if_neg (not_not_intro (rising_of fun i hi => he i (by omega)))))).symm, u⟩
theorem rsameP_any {W : World} {B : Nat} {l m : PnV} {L M : Pn} (hl : IsPn W B l L) (hm : IsPn W B m M) (hB : B ≤ W.heap.size) : Calls Tryz.prog 73 #[.agg (l.cs L), .agg (m.cs M)] W fun e W' => ∃ v, e = .returned v ∧ v = .bool (decide (PnSame L M)) ∧ Below W.heap.size W W' := by
  refine calls_cg (n := 28) Tryz.func73 rfl Tryz.ntmps73 (by simp) ?_
  show CG _ _ _ [(0, .agg (l.cs L)), (1, .agg (m.cs M))] _ _
  have u := Below.refl W.heap.size W
  refine cg_seq ?_
  refine cg_region ?_
  refine lg_boxw (want_none (by rfl)) rfl rfl (by kernel_rfl) rfl (by decide) fun b1 w1 n1 => ?_
  have r1 := n1.row
  have k1 := n1.blk
  have z1 := n1.size
  have lt1 : b1 < w1.heap.size := by omega
  refine lg_boxw (want_none (by rfl)) rfl rfl (by kernel_rfl) rfl (by decide) fun b2 w2 n2 => ?_
  have r2 := n2.row
  have k2 := n2.blk
  have z2 := n2.size
  have lt2 : b2 < w2.heap.size := by omega
  refine zA rfl rfl rfl rfl rfl ?_
  refine lg_nil ?_
  refine nx (zk3 2 3 4 rfl rfl rfl fn) ?_
  refine cg_seq ?_
  refine cg_region ?_
  refine za rfl (y_fld (off := 0) (by kernel_rfl) rfl rfl) rfl rfl ?_
  have r1 := n2.keep r1
  refine za rfl (y_cellv (v := l.enc.v) r1 rfl (by kernel_rfl) rfl rfl) rfl rfl ?_
  have hl := hl.below (n1.below.mono (by omega))
  have hl := hl.below (n2.below.mono (by omega))
  have by3 : Bytes L.enc := hl.enc.bytes
  refine za rfl (y_strS hl.enc rfl rfl) rfl rfl ?_
  refine za rfl (y_fld (off := 0) (by kernel_rfl) rfl rfl) rfl rfl ?_
  refine za rfl (y_cellv (v := m.enc.v) r2 rfl (by kernel_rfl) rfl rfl) rfl rfl ?_
  have hm := hm.below (n1.below.mono (by omega))
  have hm := hm.below (n2.below.mono (by omega))
  have by4 : Bytes M.enc := hm.enc.bytes
  refine za rfl (y_strS hm.enc rfl rfl) rfl rfl ?_
  by_cases c5 : L.enc = M.enc
  · refine za rfl (yb (decide_eq_true c5) (y_seqS (xs := L.enc) (ys := M.enc) by3 by4 rfl rfl rfl)) rfl rfl ?_
    refine zM rfl rfl rfl rfl rfl ?_
    refine zt 12 rfl (by kernel_rfl) rfl (y_fld (off := 1) (by kernel_rfl) rfl rfl) rfl rfl ?_
    refine zt 12 rfl (by kernel_rfl) rfl (y_cellv (v := l.hash.v) r1 rfl (by kernel_rfl) rfl rfl) rfl rfl ?_
    have by6 : Bytes L.hash := hl.hash.bytes
    refine zt 12 rfl (by kernel_rfl) rfl (y_strS hl.hash rfl rfl) rfl rfl ?_
    refine zt 12 rfl (by kernel_rfl) rfl (y_fld (off := 1) (by kernel_rfl) rfl rfl) rfl rfl ?_
    refine zt 12 rfl (by kernel_rfl) rfl (y_cellv (v := m.hash.v) r2 rfl (by kernel_rfl) rfl rfl) rfl rfl ?_
    have by7 : Bytes M.hash := hm.hash.bytes
    refine zt 12 rfl (by kernel_rfl) rfl (y_strS hm.hash rfl rfl) rfl rfl ?_
    by_cases c8 : L.hash = M.hash
    · refine zt 12 rfl (by kernel_rfl) rfl (yb (decide_eq_true c8) (y_seqS (xs := L.hash) (ys := M.hash) by6 by7 rfl rfl rfl)) rfl rfl ?_
      refine za rfl (y_pick true rfl rfl rfl) rfl rfl ?_
      refine zM rfl rfl rfl rfl rfl ?_
      refine zt 21 rfl (by kernel_rfl) rfl (y_fld (off := 2) (by kernel_rfl) rfl rfl) rfl rfl ?_
      refine zt 21 rfl (by kernel_rfl) rfl (y_cellv (v := l.unm.v) r1 rfl (by kernel_rfl) rfl rfl) rfl rfl ?_
      refine zt 21 rfl (by kernel_rfl) rfl (y_fld (off := 2) (by kernel_rfl) rfl rfl) rfl rfl ?_
      refine zt 21 rfl (by kernel_rfl) rfl (y_cellv (v := m.unm.v) r2 rfl (by kernel_rfl) rfl rfl) rfl rfl ?_
      by_cases c9 : L.unm = M.unm
      · refine lg_callw (want_t (dj := 21) (by rfl) (by kernel_rfl) rfl) (ints_S hl.unm hm.unm (by omega) (by omega)) (by kernel_rfl) rfl rfl rfl (by decide) ?_
        rintro u10 w10 ⟨e10, hw10⟩
        have zw10 := hw10.size
        obtain rfl : u10 = .bool true := e10.trans (congrArg Value.bool (decide_eq_true c9))
        refine za rfl (y_pick true rfl rfl rfl) rfl rfl ?_
        refine zA rfl rfl rfl rfl rfl ?_
        refine lg_nil ?_
        refine nx (zk1 4 rfl fn) ?_
        refine cg_ret ?_
        have u := u.trans (n1.below.mono u.size)
        have u := u.trans (n2.below.mono u.size)
        have u := u.trans (hw10.mono u.size)
        exact eg_ret_tmp rfl rfl ⟨_, rfl, congrArg Value.bool (show true = decide (PnSame L M) from (decide_eq_true (by simp [PnSame, *])).symm), u⟩
      · refine lg_callw (want_t (dj := 21) (by rfl) (by kernel_rfl) rfl) (ints_S hl.unm hm.unm (by omega) (by omega)) (by kernel_rfl) rfl rfl rfl (by decide) ?_
        rintro u11 w11 ⟨e11, hw11⟩
        have zw11 := hw11.size
        obtain rfl : u11 = .bool false := e11.trans (congrArg Value.bool (decide_eq_false c9))
        refine za rfl (y_pick true rfl rfl rfl) rfl rfl ?_
        refine zA rfl rfl rfl rfl rfl ?_
        refine lg_nil ?_
        refine nx (zk1 4 rfl fn) ?_
        refine cg_ret ?_
        have u := u.trans (n1.below.mono u.size)
        have u := u.trans (n2.below.mono u.size)
        have u := u.trans (hw11.mono u.size)
        exact eg_ret_tmp rfl rfl ⟨_, rfl, congrArg Value.bool (show false = decide (PnSame L M) from (decide_eq_false (by simp [PnSame, *])).symm), u⟩
    · refine zt 12 rfl (by kernel_rfl) rfl (yb (decide_eq_false c8) (y_seqS (xs := L.hash) (ys := M.hash) by6 by7 rfl rfl rfl)) rfl rfl ?_
      refine za rfl (y_pick true rfl rfl rfl) rfl rfl ?_
      refine zM rfl rfl rfl rfl rfl ?_
      refine zf 21 rfl (by kernel_rfl) rfl rfl rfl ?_
      refine zf 21 rfl (by kernel_rfl) rfl rfl rfl ?_
      refine zf 21 rfl (by kernel_rfl) rfl rfl rfl ?_
      refine zf 21 rfl (by kernel_rfl) rfl rfl rfl ?_
      refine zf 21 rfl (by kernel_rfl) rfl rfl rfl ?_
      refine za rfl (y_pick false rfl rfl rfl) rfl rfl ?_
      refine zA rfl rfl rfl rfl rfl ?_
      refine lg_nil ?_
      refine nx (zk1 4 rfl fn) ?_
      refine cg_ret ?_
      have u := u.trans (n1.below.mono u.size)
      have u := u.trans (n2.below.mono u.size)
      exact eg_ret_tmp rfl rfl ⟨_, rfl, congrArg Value.bool (show false = decide (PnSame L M) from (decide_eq_false (by simp [PnSame, *])).symm), u⟩
  · refine za rfl (yb (decide_eq_false c5) (y_seqS (xs := L.enc) (ys := M.enc) by3 by4 rfl rfl rfl)) rfl rfl ?_
    refine zM rfl rfl rfl rfl rfl ?_
    refine zf 12 rfl (by kernel_rfl) rfl rfl rfl ?_
    refine zf 12 rfl (by kernel_rfl) rfl rfl rfl ?_
    refine zf 12 rfl (by kernel_rfl) rfl rfl rfl ?_
    refine zf 12 rfl (by kernel_rfl) rfl rfl rfl ?_
    refine zf 12 rfl (by kernel_rfl) rfl rfl rfl ?_
    refine zf 12 rfl (by kernel_rfl) rfl rfl rfl ?_
    refine zf 12 rfl (by kernel_rfl) rfl rfl rfl ?_
    refine za rfl (y_pick false rfl rfl rfl) rfl rfl ?_
    refine zM rfl rfl rfl rfl rfl ?_
    refine zf 21 rfl (by kernel_rfl) rfl rfl rfl ?_
    refine zf 21 rfl (by kernel_rfl) rfl rfl rfl ?_
    refine zf 21 rfl (by kernel_rfl) rfl rfl rfl ?_
    refine zf 21 rfl (by kernel_rfl) rfl rfl rfl ?_
    refine zf 21 rfl (by kernel_rfl) rfl rfl rfl ?_
    refine za rfl (y_pick false rfl rfl rfl) rfl rfl ?_
    refine zA rfl rfl rfl rfl rfl ?_
    refine lg_nil ?_
    refine nx (zk1 4 rfl fn) ?_
    refine cg_ret ?_
    have u := u.trans (n1.below.mono u.size)
    have u := u.trans (n2.below.mono u.size)
    exact eg_ret_tmp rfl rfl ⟨_, rfl, congrArg Value.bool (show false = decide (PnSame L M) from (decide_eq_false (by simp [PnSame, *])).symm), u⟩
theorem rputP_any {W : World} {B : Nat} {s : SlV} {xs : List Int} {l : PnV} {L : Pn} (h : Sl W B s xs) (hl : IsPn W B l L) (hB : B ≤ W.heap.size) (hx : xs.length ≤ 20000) : Calls Tryz.prog 113 #[s.v, .agg (l.cs L)] W fun e W' => ∃ v, e = .returned v ∧ PutS W (xs ++ pnPut L) v W' := by
  refine calls_cg (n := 25) Tryz.func113 rfl Tryz.ntmps113 (by simp) ?_
  show CG _ _ _ [(0, s.v), (1, .agg (l.cs L))] _ _
  have u := Below.refl W.heap.size W
  refine cg_seq ?_
  refine cg_region ?_
  refine lg_boxw (want_none (by rfl)) rfl rfl (by kernel_rfl) rfl (by decide) fun b1 w1 n1 => ?_
  have r1 := n1.row
  have k1 := n1.blk
  have z1 := n1.size
  have lt1 : b1 < w1.heap.size := by omega
  refine zA rfl rfl rfl rfl rfl ?_
  refine lg_nil ?_
  refine nx (zk3 0 3 4 rfl rfl rfl fn) ?_
  refine cg_seq ?_
  refine cg_region ?_
  obtain ⟨bs3, hbs3⟩ : ∃ q, q = w1.heap.size := ⟨_, rfl⟩
  refine lg_bs0 (want_none (by rfl)) rfl rfl (by decide) fun v2 w2 g2 l2 => ?_
  rw [← hbs3] at g2
  have z2 := l2.size
  refine zM rfl rfl rfl rfl rfl ?_
  have h := h.below (n1.below.mono (by omega))
  have h := h.below (l2.mono (by omega))
  refine lg_appS g2 Bytes.nil h (by first | omega | (simp only [List.length_nil]; omega)) (by omega) (want_none (by rfl)) rfl rfl rfl rfl rfl (by decide) fun r4 w4 m4 g4 l4 z4 => ?_
  simp only [List.nil_append] at m4 g4
  refine zA rfl rfl rfl rfl rfl ?_
  refine lg_nil ?_
  refine nx (zk3 3 4 5 rfl rfl rfl fn) ?_
  refine cg_seq ?_
  refine cg_seq ?_
  refine cg_region ?_
  have r1 := RowAt.below l2 r1.lt r1
  have r1 := RowAt.below l4 (by omega) r1
  refine za rfl (y_loadA r1 (by kernel_rfl) (by kernel_rfl) rfl rfl) rfl rfl ?_
  have hl := hl.below (n1.below.mono (by omega))
  have hl := hl.below (l2.mono (by omega))
  have hl := hl.below (l4.mono (by omega))
  refine lg_callw (want_none (by rfl)) (rcheckP_any (hl.more (B' := w4.heap.size) (by omega)) (Nat.le_refl _)) (by kernel_rfl) rfl rfl rfl (by decide) ?_
  rintro _ w5 ⟨rfl, hw5⟩
  have zw5 := hw5.size
  by_cases c6 : (pnCheck L) = 0
  · have ok := pnCheck_ok c6
    refine za rfl (yb (nd_f c6) (yi_neq rfl rfl rfl)) rfl rfl ?_
    refine lg_nil ?_
    refine nx (zk3 3 4 5 rfl rfl rfl (zk1 11 rfl fn)) ?_
    refine cg_cf rfl ?_
    refine cg_skip ?_
    refine nx (zk3 3 4 5 rfl rfl rfl fn) ?_
    refine cg_seq ?_
    refine cg_region ?_
    refine zM rfl rfl rfl rfl rfl ?_
    refine za rfl (y_fld (off := 0) (by kernel_rfl) rfl rfl) rfl rfl ?_
    have r1 := RowAt.below hw5 r1.lt r1
    refine za rfl (y_cellv (v := l.enc.v) r1 rfl (by kernel_rfl) rfl rfl) rfl rfl ?_
    have m4 := m4.below (hw5.mono (by omega))
    have hl := hl.below (hw5.mono (by omega))
    refine lg_callw (want_none (by rfl)) (rputBytes_S m4 hl.enc (by omega) (by omega) (by first | omega | (simp only [List.length_append, List.length_cons, List.length_nil, numOct_length]; omega)) (by first | omega | (simp only [List.length_append, List.length_cons, List.length_nil, numOct_length]; omega))) (by kernel_rfl) rfl rfl rfl (by decide) ?_
    rintro _ w7 ⟨r7, rfl, m7, hw7⟩
    have zw7 := hw7.size
    have lb7 := bytesOct_le L.enc
    refine zA rfl rfl rfl rfl rfl ?_
    refine lg_nil ?_
    refine nx (zk3 3 4 5 rfl rfl rfl fn) ?_
    refine cg_seq ?_
    refine cg_region ?_
    refine zM rfl rfl rfl rfl rfl ?_
    refine za rfl (y_fld (off := 1) (by kernel_rfl) rfl rfl) rfl rfl ?_
    have r1 := RowAt.below hw7 r1.lt r1
    refine za rfl (y_cellv (v := l.hash.v) r1 rfl (by kernel_rfl) rfl rfl) rfl rfl ?_
    have hl := hl.below (hw7.mono (by omega))
    refine lg_callw (want_none (by rfl)) (rputBytes_S m7 hl.hash (by omega) (by omega) (by first | omega | (simp only [List.length_append]; omega)) (by first | omega | (simp only [List.length_append]; omega))) (by kernel_rfl) rfl rfl rfl (by decide) ?_
    rintro _ w8 ⟨r8, rfl, m8, hw8⟩
    have zw8 := hw8.size
    have lb8 := bytesOct_le L.hash
    refine zA rfl rfl rfl rfl rfl ?_
    refine lg_nil ?_
    refine nx (zk3 3 4 5 rfl rfl rfl fn) ?_
    refine cg_seq ?_
    refine cg_region ?_
    refine zM rfl rfl rfl rfl rfl ?_
    refine za rfl (y_fld (off := 2) (by kernel_rfl) rfl rfl) rfl rfl ?_
    have r1 := RowAt.below hw8 r1.lt r1
    refine za rfl (y_cellv (v := l.unm.v) r1 rfl (by kernel_rfl) rfl rfl) rfl rfl ?_
    have hl := hl.below (hw8.mono (by omega))
    refine lg_callw (want_none (by rfl)) (rputNums_S m8 hl.unm (by omega) (by omega) (by first | omega | (simp only [List.length_append]; omega)) (by first | omega | (simp only [List.length_append]; omega))) (by kernel_rfl) rfl rfl rfl (by decide) ?_
    rintro _ w9 ⟨r9, rfl, m9, hw9⟩
    have zw9 := hw9.size
    have lb9 := bytesOct_le (numsOct L.unm)
    have ln9 := numsOct_length L.unm
    refine zA rfl rfl rfl rfl rfl ?_
    refine lg_nil ?_
    refine nx (zk1 4 rfl fn) ?_
    refine cg_ret ?_
    have u := u.trans (n1.below.mono u.size)
    have u := u.trans (l2.mono u.size)
    have u := u.trans (l4.mono (by omega))
    have u := u.trans (hw5.mono u.size)
    have u := u.trans (hw7.mono u.size)
    have u := u.trans (hw8.mono u.size)
    have u := u.trans (hw9.mono u.size)
    exact eg_ret_tmp rfl rfl ⟨_, rfl, r9, rfl, m9.cast (by rw [pnPut, if_pos c6]; simp [pnOct]), u⟩
  · refine za rfl (yb (nd_t c6) (yi_neq rfl rfl rfl)) rfl rfl ?_
    refine lg_nil ?_
    refine nx (zk3 3 4 5 rfl rfl rfl (zk1 11 rfl fn)) ?_
    refine cg_ct rfl ?_
    refine cg_seq ?_
    refine cg_region ?_
    refine zM rfl rfl rfl rfl rfl ?_
    refine zA rfl rfl rfl rfl rfl ?_
    refine lg_nil ?_
    refine nx (zk3 3 5 4 rfl rfl rfl fn) ?_
    refine cg_ret ?_
    refine eg_seq_ret ?_
    have m4 := m4.below (hw5.mono (by omega))
    have u := u.trans (n1.below.mono u.size)
    have u := u.trans (l2.mono u.size)
    have u := u.trans (l4.mono (by omega))
    have u := u.trans (hw5.mono u.size)
    exact eg_ret_tmp rfl rfl ⟨_, rfl, r4, rfl, (m4.more (by omega)).cast (by rw [pnPut, if_neg c6, List.append_nil]), u⟩
end
/- NdRef:
  The document's Few, Check, As, Put, Get, Same, and what is summed up.
-/
section
set_option maxHeartbeats 1000000
theorem fewN_any {W : World} {B : Nat} {l : NdV} {L : Nd} (hl : IsNd W B l L) (hB : B ≤ W.heap.size) : Calls Tryz.prog 34 #[.agg (l.cs L)] W fun e W' => ∃ v, e = .returned v ∧ v = .bool (decide (ndFew L)) ∧ Below W.heap.size W W' := by
  refine calls_cg (n := 11) Tryz.func34 rfl Tryz.ntmps34 (by simp) ?_
  show CG _ _ _ [(0, .agg (l.cs L))] _ _
  have u := Below.refl W.heap.size W
  refine cg_seq ?_
  refine cg_region ?_
  refine lg_boxw (want_none (by rfl)) rfl rfl (by kernel_rfl) rfl (by decide) fun b1 w1 n1 => ?_
  have r1 := n1.row
  have k1 := n1.blk
  have z1 := n1.size
  have lt1 : b1 < w1.heap.size := by omega
  refine zA rfl rfl rfl rfl rfl ?_
  refine lg_nil ?_
  refine nx (zk2 1 2 rfl rfl fn) ?_
  refine cg_seq ?_
  refine cg_region ?_
  refine za rfl (y_fld (off := 1) (by kernel_rfl) rfl rfl) rfl rfl ?_
  refine za rfl (y_part r1 (m := 4) rfl (show 1+4 ≤ 8 by decide) (by kernel_rfl) (by kernel_rfl) rfl rfl) rfl rfl ?_
  have hl := hl.below (n1.below.mono (by omega))
  by_cases c2 : lfFew L.leaf
  · refine lg_callw (want_none (by rfl)) (few_any (hl.leaf.more (B' := w1.heap.size) (by omega)) (Nat.le_refl _)) (by kernel_rfl) rfl rfl rfl (by decide) ?_
    rintro u3 w3 ⟨e3, hw3⟩
    have zw3 := hw3.size
    obtain rfl : u3 = .bool true := e3.trans (congrArg Value.bool (decide_eq_true c2))
    refine zM rfl rfl rfl rfl rfl ?_
    refine zt 6 rfl (by kernel_rfl) rfl (y_fld (off := 5) (by kernel_rfl) rfl rfl) rfl rfl ?_
    have r1 := RowAt.below hw3 r1.lt r1
    refine zt 6 rfl (by kernel_rfl) rfl (y_part r1 (m := 3) rfl (show 5+3 ≤ 8 by decide) (by kernel_rfl) (by kernel_rfl) rfl rfl) rfl rfl ?_
    have hl := hl.below (hw3.mono (by omega))
    by_cases c4 : pnFew L.inner
    · refine lg_callw (want_t (dj := 6) (by rfl) (by kernel_rfl) rfl) (fewP_any (hl.inner.more (B' := w3.heap.size) (by omega)) (Nat.le_refl _)) (by kernel_rfl) rfl rfl rfl (by decide) ?_
      rintro u5 w5 ⟨e5, hw5⟩
      have zw5 := hw5.size
      obtain rfl : u5 = .bool true := e5.trans (congrArg Value.bool (decide_eq_true c4))
      refine za rfl (y_pick true rfl rfl rfl) rfl rfl ?_
      refine zA rfl rfl rfl rfl rfl ?_
      refine lg_nil ?_
      refine nx (zk1 2 rfl fn) ?_
      refine cg_ret ?_
      have u := u.trans (n1.below.mono u.size)
      have u := u.trans (hw3.mono u.size)
      have u := u.trans (hw5.mono u.size)
      exact eg_ret_tmp rfl rfl ⟨_, rfl, congrArg Value.bool (show true = decide (ndFew L) from (decide_eq_true (by simp [ndFew, c2, c4])).symm), u⟩
    · refine lg_callw (want_t (dj := 6) (by rfl) (by kernel_rfl) rfl) (fewP_any (hl.inner.more (B' := w3.heap.size) (by omega)) (Nat.le_refl _)) (by kernel_rfl) rfl rfl rfl (by decide) ?_
      rintro u6 w6 ⟨e6, hw6⟩
      have zw6 := hw6.size
      obtain rfl : u6 = .bool false := e6.trans (congrArg Value.bool (decide_eq_false c4))
      refine za rfl (y_pick true rfl rfl rfl) rfl rfl ?_
      refine zA rfl rfl rfl rfl rfl ?_
      refine lg_nil ?_
      refine nx (zk1 2 rfl fn) ?_
      refine cg_ret ?_
      have u := u.trans (n1.below.mono u.size)
      have u := u.trans (hw3.mono u.size)
      have u := u.trans (hw6.mono u.size)
      exact eg_ret_tmp rfl rfl ⟨_, rfl, congrArg Value.bool (show false = decide (ndFew L) from (decide_eq_false (by simp [ndFew, c2, c4])).symm), u⟩
  · refine lg_callw (want_none (by rfl)) (few_any (hl.leaf.more (B' := w1.heap.size) (by omega)) (Nat.le_refl _)) (by kernel_rfl) rfl rfl rfl (by decide) ?_
    rintro u7 w7 ⟨e7, hw7⟩
    have zw7 := hw7.size
    obtain rfl : u7 = .bool false := e7.trans (congrArg Value.bool (decide_eq_false c2))
    refine zM rfl rfl rfl rfl rfl ?_
    refine zf 6 rfl (by kernel_rfl) rfl rfl rfl ?_
    refine zf 6 rfl (by kernel_rfl) rfl rfl rfl ?_
    refine zf 6 rfl (by kernel_rfl) rfl rfl rfl ?_
    refine za rfl (y_pick false rfl rfl rfl) rfl rfl ?_
    refine zA rfl rfl rfl rfl rfl ?_
    refine lg_nil ?_
    refine nx (zk1 2 rfl fn) ?_
    refine cg_ret ?_
    have u := u.trans (n1.below.mono u.size)
    have u := u.trans (hw7.mono u.size)
    exact eg_ret_tmp rfl rfl ⟨_, rfl, congrArg Value.bool (show false = decide (ndFew L) from (decide_eq_false (by simp [ndFew, c2])).symm), u⟩
theorem rcheckN_any {W : World} {B : Nat} {l : NdV} {L : Nd} (hl : IsNd W B l L) (hB : B ≤ W.heap.size) : Calls Tryz.prog 101 #[.agg (l.cs L)] W fun e W' => ∃ v, e = .returned v ∧ v = nv (ndCheck L) ∧ Below W.heap.size W W' := by
  refine calls_cg (n := 53) Tryz.func101 rfl Tryz.ntmps101 (by simp) ?_
  show CG _ _ _ [(0, .agg (l.cs L))] _ _
  have u := Below.refl W.heap.size W
  refine cg_seq ?_
  refine cg_region ?_
  refine lg_boxw (want_none (by rfl)) rfl rfl (by kernel_rfl) rfl (by decide) fun b1 w1 n1 => ?_
  have r1 := n1.row
  have k1 := n1.blk
  have z1 := n1.size
  have lt1 : b1 < w1.heap.size := by omega
  refine zA rfl rfl rfl rfl rfl ?_
  refine lg_nil ?_
  refine nx (zk2 1 2 rfl rfl fn) ?_
  refine cg_seq ?_
  refine cg_region ?_
  refine za rfl (y_fld (off := 1) (by kernel_rfl) rfl rfl) rfl rfl ?_
  refine za rfl (y_part r1 (m := 4) rfl (show 1+4 ≤ 8 by decide) (by kernel_rfl) (by kernel_rfl) rfl rfl) rfl rfl ?_
  refine za rfl (y_build (cs := LfV.zero.cs Lf.zero) rfl rfl (by kernel_rfl)) rfl rfl ?_
  have hl := hl.below (n1.below.mono (by omega))
  by_cases c2 : LfSame L.leaf Lf.zero
  · refine lg_callw (want_none (by rfl)) (rsame_any (hl.leaf.more (B' := w1.heap.size) (by omega)) ((IsLf.zero _ 0).more (B' := w1.heap.size) (by omega)) (Nat.le_refl _)) (by kernel_rfl) rfl rfl rfl (by decide) ?_
    rintro u3 w3 ⟨e3, hw3⟩
    have zw3 := hw3.size
    obtain rfl : u3 = .bool true := e3.trans (congrArg Value.bool (decide_eq_true c2))
    refine za rfl (y_bnot rfl rfl) rfl rfl ?_
    refine zA rfl rfl rfl rfl rfl ?_
    refine lg_nil ?_
    refine nx (zk3 1 2 3 rfl rfl rfl fn) ?_
    refine cg_seq ?_
    refine cg_region ?_
    refine za rfl (y_fld (off := 5) (by kernel_rfl) rfl rfl) rfl rfl ?_
    have r1 := RowAt.below hw3 r1.lt r1
    refine za rfl (y_part r1 (m := 3) rfl (show 5+3 ≤ 8 by decide) (by kernel_rfl) (by kernel_rfl) rfl rfl) rfl rfl ?_
    refine za rfl (y_build (cs := PnV.zero.cs Pn.zero) rfl rfl (by kernel_rfl)) rfl rfl ?_
    have hl := hl.below (hw3.mono (by omega))
    by_cases c4 : PnSame L.inner Pn.zero
    · refine lg_callw (want_none (by rfl)) (rsameP_any (hl.inner.more (B' := w3.heap.size) (by omega)) ((IsPn.zero _ 0).more (B' := w3.heap.size) (by omega)) (Nat.le_refl _)) (by kernel_rfl) rfl rfl rfl (by decide) ?_
      rintro u5 w5 ⟨e5, hw5⟩
      have zw5 := hw5.size
      obtain rfl : u5 = .bool true := e5.trans (congrArg Value.bool (decide_eq_true c4))
      refine za rfl (y_bnot rfl rfl) rfl rfl ?_
      refine zA rfl rfl rfl rfl rfl ?_
      refine lg_nil ?_
      refine nx (zk3 1 2 3 rfl rfl rfl (zk1 4 rfl fn)) ?_
      refine cg_seq ?_
      refine cg_block ?_
      refine cg_seq ?_
      refine cg_region ?_
      refine za rfl (y_fld (off := 0) (by kernel_rfl) rfl rfl) rfl rfl ?_
      have r1 := RowAt.below hw5 r1.lt r1
      refine za rfl (y_cellv (v := nv L.kind) r1 rfl (by kernel_rfl) rfl rfl) rfl rfl ?_
      by_cases c6 : L.kind < 0
      · refine za rfl (yb (decide_eq_true c6) (yi_lss rfl rfl rfl)) rfl rfl ?_
        refine zM rfl rfl rfl rfl rfl ?_
        refine zf 19 rfl (by kernel_rfl) rfl rfl rfl ?_
        refine zf 19 rfl (by kernel_rfl) rfl rfl rfl ?_
        refine zf 19 rfl (by kernel_rfl) rfl rfl rfl ?_
        refine za rfl (y_pick true rfl rfl rfl) rfl rfl ?_
        refine zA rfl rfl rfl rfl rfl ?_
        refine lg_nil ?_
        refine nx (zk5 1 2 3 4 15 rfl rfl rfl rfl rfl fn) ?_
        refine cg_ct rfl ?_
        refine cg_seq ?_
        refine cg_region ?_
        refine zA rfl rfl rfl rfl rfl ?_
        refine lg_nil ?_
        refine nx (zk1 2 rfl fn) ?_
        refine cg_ret ?_
        refine eg_block_ret ?_
        refine eg_seq_ret ?_
        have u := u.trans (n1.below.mono u.size)
        have u := u.trans (hw3.mono u.size)
        have u := u.trans (hw5.mono u.size)
        exact eg_ret_tmp rfl rfl ⟨_, rfl, congrArg nv (show 7 = ndCheck L by simp [ndCheck, c6]), u⟩
      · refine za rfl (yb (decide_eq_false c6) (yi_lss rfl rfl rfl)) rfl rfl ?_
        refine zM rfl rfl rfl rfl rfl ?_
        refine zt 19 rfl (by kernel_rfl) rfl (y_fld (off := 0) (by kernel_rfl) rfl rfl) rfl rfl ?_
        refine zt 19 rfl (by kernel_rfl) rfl (y_cellv (v := nv L.kind) r1 rfl (by kernel_rfl) rfl rfl) rfl rfl ?_
        by_cases c7 : 2 < L.kind
        · refine zt 19 rfl (by kernel_rfl) rfl (yb (decide_eq_true c7) (yi_gtr rfl rfl rfl)) rfl rfl ?_
          refine za rfl (y_pick false rfl rfl rfl) rfl rfl ?_
          refine zA rfl rfl rfl rfl rfl ?_
          refine lg_nil ?_
          refine nx (zk5 1 2 3 4 15 rfl rfl rfl rfl rfl fn) ?_
          refine cg_ct rfl ?_
          refine cg_seq ?_
          refine cg_region ?_
          refine zA rfl rfl rfl rfl rfl ?_
          refine lg_nil ?_
          refine nx (zk1 2 rfl fn) ?_
          refine cg_ret ?_
          refine eg_block_ret ?_
          refine eg_seq_ret ?_
          have u := u.trans (n1.below.mono u.size)
          have u := u.trans (hw3.mono u.size)
          have u := u.trans (hw5.mono u.size)
          exact eg_ret_tmp rfl rfl ⟨_, rfl, congrArg nv (show 7 = ndCheck L by simp [ndCheck, c6, c7]), u⟩
        · refine zt 19 rfl (by kernel_rfl) rfl (yb (decide_eq_false c7) (yi_gtr rfl rfl rfl)) rfl rfl ?_
          refine za rfl (y_pick false rfl rfl rfl) rfl rfl ?_
          refine zA rfl rfl rfl rfl rfl ?_
          refine lg_nil ?_
          refine nx (zk5 1 2 3 4 15 rfl rfl rfl rfl rfl fn) ?_
          refine cg_cf rfl ?_
          refine cg_seq ?_
          refine cg_region ?_
          refine zM rfl rfl rfl rfl rfl ?_
          refine zM rfl rfl rfl rfl rfl ?_
          refine zf 26 rfl (by kernel_rfl) rfl rfl rfl ?_
          refine zf 26 rfl (by kernel_rfl) rfl rfl rfl ?_
          refine zf 26 rfl (by kernel_rfl) rfl rfl rfl ?_
          refine za rfl (y_pick false rfl rfl rfl) rfl rfl ?_
          refine zM rfl rfl rfl rfl rfl ?_
          refine zt 31 rfl (by kernel_rfl) rfl (y_move rfl rfl) rfl rfl ?_
          refine zt 31 rfl (by kernel_rfl) rfl (y_move rfl rfl) rfl rfl ?_
          refine zf 33 rfl (by kernel_rfl) rfl rfl rfl ?_
          refine zf 33 rfl (by kernel_rfl) rfl rfl rfl ?_
          refine zf 33 rfl (by kernel_rfl) rfl rfl rfl ?_
          refine zt 31 rfl (by kernel_rfl) rfl (y_pick false rfl rfl rfl) rfl rfl ?_
          refine za rfl (y_pick false rfl rfl rfl) rfl rfl ?_
          refine zA rfl rfl rfl rfl rfl ?_
          refine lg_nil ?_
          refine nx (zk3 1 2 24 rfl rfl rfl fn) ?_
          refine cg_cf rfl ?_
          refine cg_seq ?_
          refine cg_region ?_
          refine za rfl (y_fld (off := 0) (by kernel_rfl) rfl rfl) rfl rfl ?_
          refine za rfl (y_cellv (v := nv L.kind) r1 rfl (by kernel_rfl) rfl rfl) rfl rfl ?_
          by_cases c8 : L.kind = 1
          · refine za rfl (yb (decide_eq_true c8) (yi_eql rfl rfl rfl)) rfl rfl ?_
            refine zA rfl rfl rfl rfl rfl ?_
            refine lg_nil ?_
            refine nx (zk3 1 2 39 rfl rfl rfl fn) ?_
            refine cg_ct rfl ?_
            refine cg_seq ?_
            refine cg_region ?_
            refine za rfl (y_fld (off := 1) (by kernel_rfl) rfl rfl) rfl rfl ?_
            refine za rfl (y_part r1 (m := 4) rfl (show 1+4 ≤ 8 by decide) (by kernel_rfl) (by kernel_rfl) rfl rfl) rfl rfl ?_
            have hl := hl.below (hw5.mono (by omega))
            refine lg_callw (want_none (by rfl)) (rcheck_any (hl.leaf.more (B' := w5.heap.size) (by omega)) (Nat.le_refl _)) (by kernel_rfl) rfl rfl rfl (by decide) ?_
            rintro _ w9 ⟨rfl, hw9⟩
            have zw9 := hw9.size
            refine zA rfl rfl rfl rfl rfl ?_
            refine lg_nil ?_
            refine nx (zk1 2 rfl fn) ?_
            refine cg_ret ?_
            refine eg_block_ret ?_
            refine eg_seq_ret ?_
            have u := u.trans (n1.below.mono u.size)
            have u := u.trans (hw3.mono u.size)
            have u := u.trans (hw5.mono u.size)
            have u := u.trans (hw9.mono u.size)
            exact eg_ret_tmp rfl rfl ⟨_, rfl, congrArg nv (show (lfCheck L.leaf) = ndCheck L by simp [ndCheck, c2, c4, c8]), u⟩
          · refine za rfl (yb (decide_eq_false c8) (yi_eql rfl rfl rfl)) rfl rfl ?_
            refine zA rfl rfl rfl rfl rfl ?_
            refine lg_nil ?_
            refine nx (zk3 1 2 39 rfl rfl rfl fn) ?_
            refine cg_cf rfl ?_
            refine cg_seq ?_
            refine cg_region ?_
            refine za rfl (y_fld (off := 0) (by kernel_rfl) rfl rfl) rfl rfl ?_
            refine za rfl (y_cellv (v := nv L.kind) r1 rfl (by kernel_rfl) rfl rfl) rfl rfl ?_
            by_cases c10 : L.kind = 2
            · refine za rfl (yb (decide_eq_true c10) (yi_eql rfl rfl rfl)) rfl rfl ?_
              refine zA rfl rfl rfl rfl rfl ?_
              refine lg_nil ?_
              refine nx (zk3 1 2 46 rfl rfl rfl fn) ?_
              refine cg_ct rfl ?_
              refine cg_seq ?_
              refine cg_region ?_
              refine za rfl (y_fld (off := 5) (by kernel_rfl) rfl rfl) rfl rfl ?_
              refine za rfl (y_part r1 (m := 3) rfl (show 5+3 ≤ 8 by decide) (by kernel_rfl) (by kernel_rfl) rfl rfl) rfl rfl ?_
              have hl := hl.below (hw5.mono (by omega))
              refine lg_callw (want_none (by rfl)) (rcheckP_any (hl.inner.more (B' := w5.heap.size) (by omega)) (Nat.le_refl _)) (by kernel_rfl) rfl rfl rfl (by decide) ?_
              rintro _ w11 ⟨rfl, hw11⟩
              have zw11 := hw11.size
              refine zA rfl rfl rfl rfl rfl ?_
              refine lg_nil ?_
              refine nx (zk1 2 rfl fn) ?_
              refine cg_ret ?_
              refine eg_block_ret ?_
              refine eg_seq_ret ?_
              have u := u.trans (n1.below.mono u.size)
              have u := u.trans (hw3.mono u.size)
              have u := u.trans (hw5.mono u.size)
              have u := u.trans (hw11.mono u.size)
              exact eg_ret_tmp rfl rfl ⟨_, rfl, congrArg nv (show (pnCheck L.inner) = ndCheck L by simp [ndCheck, c2, c4, c10]), u⟩
            · refine za rfl (yb (decide_eq_false c10) (yi_eql rfl rfl rfl)) rfl rfl ?_
              refine zA rfl rfl rfl rfl rfl ?_
              refine lg_nil ?_
              refine nx (zk3 1 2 46 rfl rfl rfl fn) ?_
              refine cg_cf rfl ?_
              refine cg_skip ?_
              refine eg_block_norm ?_
              refine nx (zk1 2 rfl fn) ?_
              refine cg_seq ?_
              refine cg_region ?_
              refine zA rfl rfl rfl rfl rfl ?_
              refine lg_nil ?_
              refine nx (zk1 2 rfl fn) ?_
              refine cg_ret ?_
              have u := u.trans (n1.below.mono u.size)
              have u := u.trans (hw3.mono u.size)
              have u := u.trans (hw5.mono u.size)
              exact eg_ret_tmp rfl rfl ⟨_, rfl, congrArg nv (show 0 = ndCheck L by simp [ndCheck, c2, c4, c6, c7, c8, c10]), u⟩
    · refine lg_callw (want_none (by rfl)) (rsameP_any (hl.inner.more (B' := w3.heap.size) (by omega)) ((IsPn.zero _ 0).more (B' := w3.heap.size) (by omega)) (Nat.le_refl _)) (by kernel_rfl) rfl rfl rfl (by decide) ?_
      rintro u12 w12 ⟨e12, hw12⟩
      have zw12 := hw12.size
      obtain rfl : u12 = .bool false := e12.trans (congrArg Value.bool (decide_eq_false c4))
      refine za rfl (y_bnot rfl rfl) rfl rfl ?_
      refine zA rfl rfl rfl rfl rfl ?_
      refine lg_nil ?_
      refine nx (zk3 1 2 3 rfl rfl rfl (zk1 4 rfl fn)) ?_
      refine cg_seq ?_
      refine cg_block ?_
      refine cg_seq ?_
      refine cg_region ?_
      refine za rfl (y_fld (off := 0) (by kernel_rfl) rfl rfl) rfl rfl ?_
      have r1 := RowAt.below hw12 r1.lt r1
      refine za rfl (y_cellv (v := nv L.kind) r1 rfl (by kernel_rfl) rfl rfl) rfl rfl ?_
      by_cases c13 : L.kind < 0
      · refine za rfl (yb (decide_eq_true c13) (yi_lss rfl rfl rfl)) rfl rfl ?_
        refine zM rfl rfl rfl rfl rfl ?_
        refine zf 19 rfl (by kernel_rfl) rfl rfl rfl ?_
        refine zf 19 rfl (by kernel_rfl) rfl rfl rfl ?_
        refine zf 19 rfl (by kernel_rfl) rfl rfl rfl ?_
        refine za rfl (y_pick true rfl rfl rfl) rfl rfl ?_
        refine zA rfl rfl rfl rfl rfl ?_
        refine lg_nil ?_
        refine nx (zk5 1 2 3 4 15 rfl rfl rfl rfl rfl fn) ?_
        refine cg_ct rfl ?_
        refine cg_seq ?_
        refine cg_region ?_
        refine zA rfl rfl rfl rfl rfl ?_
        refine lg_nil ?_
        refine nx (zk1 2 rfl fn) ?_
        refine cg_ret ?_
        refine eg_block_ret ?_
        refine eg_seq_ret ?_
        have u := u.trans (n1.below.mono u.size)
        have u := u.trans (hw3.mono u.size)
        have u := u.trans (hw12.mono u.size)
        exact eg_ret_tmp rfl rfl ⟨_, rfl, congrArg nv (show 7 = ndCheck L by simp [ndCheck, c13]), u⟩
      · refine za rfl (yb (decide_eq_false c13) (yi_lss rfl rfl rfl)) rfl rfl ?_
        refine zM rfl rfl rfl rfl rfl ?_
        refine zt 19 rfl (by kernel_rfl) rfl (y_fld (off := 0) (by kernel_rfl) rfl rfl) rfl rfl ?_
        refine zt 19 rfl (by kernel_rfl) rfl (y_cellv (v := nv L.kind) r1 rfl (by kernel_rfl) rfl rfl) rfl rfl ?_
        by_cases c14 : 2 < L.kind
        · refine zt 19 rfl (by kernel_rfl) rfl (yb (decide_eq_true c14) (yi_gtr rfl rfl rfl)) rfl rfl ?_
          refine za rfl (y_pick false rfl rfl rfl) rfl rfl ?_
          refine zA rfl rfl rfl rfl rfl ?_
          refine lg_nil ?_
          refine nx (zk5 1 2 3 4 15 rfl rfl rfl rfl rfl fn) ?_
          refine cg_ct rfl ?_
          refine cg_seq ?_
          refine cg_region ?_
          refine zA rfl rfl rfl rfl rfl ?_
          refine lg_nil ?_
          refine nx (zk1 2 rfl fn) ?_
          refine cg_ret ?_
          refine eg_block_ret ?_
          refine eg_seq_ret ?_
          have u := u.trans (n1.below.mono u.size)
          have u := u.trans (hw3.mono u.size)
          have u := u.trans (hw12.mono u.size)
          exact eg_ret_tmp rfl rfl ⟨_, rfl, congrArg nv (show 7 = ndCheck L by simp [ndCheck, c13, c14]), u⟩
        · refine zt 19 rfl (by kernel_rfl) rfl (yb (decide_eq_false c14) (yi_gtr rfl rfl rfl)) rfl rfl ?_
          refine za rfl (y_pick false rfl rfl rfl) rfl rfl ?_
          refine zA rfl rfl rfl rfl rfl ?_
          refine lg_nil ?_
          refine nx (zk5 1 2 3 4 15 rfl rfl rfl rfl rfl fn) ?_
          refine cg_cf rfl ?_
          refine cg_seq ?_
          refine cg_region ?_
          refine zM rfl rfl rfl rfl rfl ?_
          refine zM rfl rfl rfl rfl rfl ?_
          refine zf 26 rfl (by kernel_rfl) rfl rfl rfl ?_
          refine zf 26 rfl (by kernel_rfl) rfl rfl rfl ?_
          refine zf 26 rfl (by kernel_rfl) rfl rfl rfl ?_
          refine za rfl (y_pick false rfl rfl rfl) rfl rfl ?_
          refine zM rfl rfl rfl rfl rfl ?_
          refine zt 31 rfl (by kernel_rfl) rfl (y_move rfl rfl) rfl rfl ?_
          refine zt 31 rfl (by kernel_rfl) rfl (y_move rfl rfl) rfl rfl ?_
          refine zt 33 rfl (by kernel_rfl) rfl (y_fld (off := 0) (by kernel_rfl) rfl rfl) rfl rfl ?_
          refine zt 33 rfl (by kernel_rfl) rfl (y_cellv (v := nv L.kind) r1 rfl (by kernel_rfl) rfl rfl) rfl rfl ?_
          by_cases c15 : L.kind = 2
          · refine zt 33 rfl (by kernel_rfl) rfl (yb (nd_f c15) (yi_neq rfl rfl rfl)) rfl rfl ?_
            refine zt 31 rfl (by kernel_rfl) rfl (y_pick true rfl rfl rfl) rfl rfl ?_
            refine za rfl (y_pick false rfl rfl rfl) rfl rfl ?_
            refine zA rfl rfl rfl rfl rfl ?_
            refine lg_nil ?_
            refine nx (zk3 1 2 24 rfl rfl rfl fn) ?_
            refine cg_cf rfl ?_
            refine cg_seq ?_
            refine cg_region ?_
            refine za rfl (y_fld (off := 0) (by kernel_rfl) rfl rfl) rfl rfl ?_
            refine za rfl (y_cellv (v := nv L.kind) r1 rfl (by kernel_rfl) rfl rfl) rfl rfl ?_
            refine za rfl (yb (decide_eq_false (show ¬ (L.kind = 1) from (show ¬ (L.kind = 1) by omega))) (yi_eql rfl rfl rfl)) rfl rfl ?_
            refine zA rfl rfl rfl rfl rfl ?_
            refine lg_nil ?_
            refine nx (zk3 1 2 39 rfl rfl rfl fn) ?_
            refine cg_cf rfl ?_
            refine cg_seq ?_
            refine cg_region ?_
            refine za rfl (y_fld (off := 0) (by kernel_rfl) rfl rfl) rfl rfl ?_
            refine za rfl (y_cellv (v := nv L.kind) r1 rfl (by kernel_rfl) rfl rfl) rfl rfl ?_
            refine za rfl (yb (decide_eq_true c15) (yi_eql rfl rfl rfl)) rfl rfl ?_
            refine zA rfl rfl rfl rfl rfl ?_
            refine lg_nil ?_
            refine nx (zk3 1 2 46 rfl rfl rfl fn) ?_
            refine cg_ct rfl ?_
            refine cg_seq ?_
            refine cg_region ?_
            refine za rfl (y_fld (off := 5) (by kernel_rfl) rfl rfl) rfl rfl ?_
            refine za rfl (y_part r1 (m := 3) rfl (show 5+3 ≤ 8 by decide) (by kernel_rfl) (by kernel_rfl) rfl rfl) rfl rfl ?_
            have hl := hl.below (hw12.mono (by omega))
            refine lg_callw (want_none (by rfl)) (rcheckP_any (hl.inner.more (B' := w12.heap.size) (by omega)) (Nat.le_refl _)) (by kernel_rfl) rfl rfl rfl (by decide) ?_
            rintro _ w16 ⟨rfl, hw16⟩
            have zw16 := hw16.size
            refine zA rfl rfl rfl rfl rfl ?_
            refine lg_nil ?_
            refine nx (zk1 2 rfl fn) ?_
            refine cg_ret ?_
            refine eg_block_ret ?_
            refine eg_seq_ret ?_
            have u := u.trans (n1.below.mono u.size)
            have u := u.trans (hw3.mono u.size)
            have u := u.trans (hw12.mono u.size)
            have u := u.trans (hw16.mono u.size)
            exact eg_ret_tmp rfl rfl ⟨_, rfl, congrArg nv (show (pnCheck L.inner) = ndCheck L by simp [ndCheck, c2, c4, c15]), u⟩
          · refine zt 33 rfl (by kernel_rfl) rfl (yb (nd_t c15) (yi_neq rfl rfl rfl)) rfl rfl ?_
            refine zt 31 rfl (by kernel_rfl) rfl (y_pick true rfl rfl rfl) rfl rfl ?_
            refine za rfl (y_pick false rfl rfl rfl) rfl rfl ?_
            refine zA rfl rfl rfl rfl rfl ?_
            refine lg_nil ?_
            refine nx (zk3 1 2 24 rfl rfl rfl fn) ?_
            refine cg_ct rfl ?_
            refine cg_seq ?_
            refine cg_region ?_
            refine zA rfl rfl rfl rfl rfl ?_
            refine lg_nil ?_
            refine nx (zk1 2 rfl fn) ?_
            refine cg_ret ?_
            refine eg_block_ret ?_
            refine eg_seq_ret ?_
            have u := u.trans (n1.below.mono u.size)
            have u := u.trans (hw3.mono u.size)
            have u := u.trans (hw12.mono u.size)
            exact eg_ret_tmp rfl rfl ⟨_, rfl, congrArg nv (show 2 = ndCheck L by simp [ndCheck, c2, c4, c13, c14, c15]), u⟩
  · refine lg_callw (want_none (by rfl)) (rsame_any (hl.leaf.more (B' := w1.heap.size) (by omega)) ((IsLf.zero _ 0).more (B' := w1.heap.size) (by omega)) (Nat.le_refl _)) (by kernel_rfl) rfl rfl rfl (by decide) ?_
    rintro u17 w17 ⟨e17, hw17⟩
    have zw17 := hw17.size
    obtain rfl : u17 = .bool false := e17.trans (congrArg Value.bool (decide_eq_false c2))
    refine za rfl (y_bnot rfl rfl) rfl rfl ?_
    refine zA rfl rfl rfl rfl rfl ?_
    refine lg_nil ?_
    refine nx (zk3 1 2 3 rfl rfl rfl fn) ?_
    refine cg_seq ?_
    refine cg_region ?_
    refine za rfl (y_fld (off := 5) (by kernel_rfl) rfl rfl) rfl rfl ?_
    have r1 := RowAt.below hw17 r1.lt r1
    refine za rfl (y_part r1 (m := 3) rfl (show 5+3 ≤ 8 by decide) (by kernel_rfl) (by kernel_rfl) rfl rfl) rfl rfl ?_
    refine za rfl (y_build (cs := PnV.zero.cs Pn.zero) rfl rfl (by kernel_rfl)) rfl rfl ?_
    have hl := hl.below (hw17.mono (by omega))
    by_cases c18 : PnSame L.inner Pn.zero
    · refine lg_callw (want_none (by rfl)) (rsameP_any (hl.inner.more (B' := w17.heap.size) (by omega)) ((IsPn.zero _ 0).more (B' := w17.heap.size) (by omega)) (Nat.le_refl _)) (by kernel_rfl) rfl rfl rfl (by decide) ?_
      rintro u19 w19 ⟨e19, hw19⟩
      have zw19 := hw19.size
      obtain rfl : u19 = .bool true := e19.trans (congrArg Value.bool (decide_eq_true c18))
      refine za rfl (y_bnot rfl rfl) rfl rfl ?_
      refine zA rfl rfl rfl rfl rfl ?_
      refine lg_nil ?_
      refine nx (zk3 1 2 3 rfl rfl rfl (zk1 4 rfl fn)) ?_
      refine cg_seq ?_
      refine cg_block ?_
      refine cg_seq ?_
      refine cg_region ?_
      refine za rfl (y_fld (off := 0) (by kernel_rfl) rfl rfl) rfl rfl ?_
      have r1 := RowAt.below hw19 r1.lt r1
      refine za rfl (y_cellv (v := nv L.kind) r1 rfl (by kernel_rfl) rfl rfl) rfl rfl ?_
      by_cases c20 : L.kind < 0
      · refine za rfl (yb (decide_eq_true c20) (yi_lss rfl rfl rfl)) rfl rfl ?_
        refine zM rfl rfl rfl rfl rfl ?_
        refine zf 19 rfl (by kernel_rfl) rfl rfl rfl ?_
        refine zf 19 rfl (by kernel_rfl) rfl rfl rfl ?_
        refine zf 19 rfl (by kernel_rfl) rfl rfl rfl ?_
        refine za rfl (y_pick true rfl rfl rfl) rfl rfl ?_
        refine zA rfl rfl rfl rfl rfl ?_
        refine lg_nil ?_
        refine nx (zk5 1 2 3 4 15 rfl rfl rfl rfl rfl fn) ?_
        refine cg_ct rfl ?_
        refine cg_seq ?_
        refine cg_region ?_
        refine zA rfl rfl rfl rfl rfl ?_
        refine lg_nil ?_
        refine nx (zk1 2 rfl fn) ?_
        refine cg_ret ?_
        refine eg_block_ret ?_
        refine eg_seq_ret ?_
        have u := u.trans (n1.below.mono u.size)
        have u := u.trans (hw17.mono u.size)
        have u := u.trans (hw19.mono u.size)
        exact eg_ret_tmp rfl rfl ⟨_, rfl, congrArg nv (show 7 = ndCheck L by simp [ndCheck, c20]), u⟩
      · refine za rfl (yb (decide_eq_false c20) (yi_lss rfl rfl rfl)) rfl rfl ?_
        refine zM rfl rfl rfl rfl rfl ?_
        refine zt 19 rfl (by kernel_rfl) rfl (y_fld (off := 0) (by kernel_rfl) rfl rfl) rfl rfl ?_
        refine zt 19 rfl (by kernel_rfl) rfl (y_cellv (v := nv L.kind) r1 rfl (by kernel_rfl) rfl rfl) rfl rfl ?_
        by_cases c21 : 2 < L.kind
        · refine zt 19 rfl (by kernel_rfl) rfl (yb (decide_eq_true c21) (yi_gtr rfl rfl rfl)) rfl rfl ?_
          refine za rfl (y_pick false rfl rfl rfl) rfl rfl ?_
          refine zA rfl rfl rfl rfl rfl ?_
          refine lg_nil ?_
          refine nx (zk5 1 2 3 4 15 rfl rfl rfl rfl rfl fn) ?_
          refine cg_ct rfl ?_
          refine cg_seq ?_
          refine cg_region ?_
          refine zA rfl rfl rfl rfl rfl ?_
          refine lg_nil ?_
          refine nx (zk1 2 rfl fn) ?_
          refine cg_ret ?_
          refine eg_block_ret ?_
          refine eg_seq_ret ?_
          have u := u.trans (n1.below.mono u.size)
          have u := u.trans (hw17.mono u.size)
          have u := u.trans (hw19.mono u.size)
          exact eg_ret_tmp rfl rfl ⟨_, rfl, congrArg nv (show 7 = ndCheck L by simp [ndCheck, c20, c21]), u⟩
        · refine zt 19 rfl (by kernel_rfl) rfl (yb (decide_eq_false c21) (yi_gtr rfl rfl rfl)) rfl rfl ?_
          refine za rfl (y_pick false rfl rfl rfl) rfl rfl ?_
          refine zA rfl rfl rfl rfl rfl ?_
          refine lg_nil ?_
          refine nx (zk5 1 2 3 4 15 rfl rfl rfl rfl rfl fn) ?_
          refine cg_cf rfl ?_
          refine cg_seq ?_
          refine cg_region ?_
          refine zM rfl rfl rfl rfl rfl ?_
          refine zM rfl rfl rfl rfl rfl ?_
          refine zt 26 rfl (by kernel_rfl) rfl (y_fld (off := 0) (by kernel_rfl) rfl rfl) rfl rfl ?_
          refine zt 26 rfl (by kernel_rfl) rfl (y_cellv (v := nv L.kind) r1 rfl (by kernel_rfl) rfl rfl) rfl rfl ?_
          by_cases c22 : L.kind = 1
          · refine zt 26 rfl (by kernel_rfl) rfl (yb (nd_f c22) (yi_neq rfl rfl rfl)) rfl rfl ?_
            refine za rfl (y_pick true rfl rfl rfl) rfl rfl ?_
            refine zM rfl rfl rfl rfl rfl ?_
            refine zt 31 rfl (by kernel_rfl) rfl (y_move rfl rfl) rfl rfl ?_
            refine zt 31 rfl (by kernel_rfl) rfl (y_move rfl rfl) rfl rfl ?_
            refine zf 33 rfl (by kernel_rfl) rfl rfl rfl ?_
            refine zf 33 rfl (by kernel_rfl) rfl rfl rfl ?_
            refine zf 33 rfl (by kernel_rfl) rfl rfl rfl ?_
            refine zt 31 rfl (by kernel_rfl) rfl (y_pick false rfl rfl rfl) rfl rfl ?_
            refine za rfl (y_pick false rfl rfl rfl) rfl rfl ?_
            refine zA rfl rfl rfl rfl rfl ?_
            refine lg_nil ?_
            refine nx (zk3 1 2 24 rfl rfl rfl fn) ?_
            refine cg_cf rfl ?_
            refine cg_seq ?_
            refine cg_region ?_
            refine za rfl (y_fld (off := 0) (by kernel_rfl) rfl rfl) rfl rfl ?_
            refine za rfl (y_cellv (v := nv L.kind) r1 rfl (by kernel_rfl) rfl rfl) rfl rfl ?_
            refine za rfl (yb (decide_eq_true c22) (yi_eql rfl rfl rfl)) rfl rfl ?_
            refine zA rfl rfl rfl rfl rfl ?_
            refine lg_nil ?_
            refine nx (zk3 1 2 39 rfl rfl rfl fn) ?_
            refine cg_ct rfl ?_
            refine cg_seq ?_
            refine cg_region ?_
            refine za rfl (y_fld (off := 1) (by kernel_rfl) rfl rfl) rfl rfl ?_
            refine za rfl (y_part r1 (m := 4) rfl (show 1+4 ≤ 8 by decide) (by kernel_rfl) (by kernel_rfl) rfl rfl) rfl rfl ?_
            have hl := hl.below (hw19.mono (by omega))
            refine lg_callw (want_none (by rfl)) (rcheck_any (hl.leaf.more (B' := w19.heap.size) (by omega)) (Nat.le_refl _)) (by kernel_rfl) rfl rfl rfl (by decide) ?_
            rintro _ w23 ⟨rfl, hw23⟩
            have zw23 := hw23.size
            refine zA rfl rfl rfl rfl rfl ?_
            refine lg_nil ?_
            refine nx (zk1 2 rfl fn) ?_
            refine cg_ret ?_
            refine eg_block_ret ?_
            refine eg_seq_ret ?_
            have u := u.trans (n1.below.mono u.size)
            have u := u.trans (hw17.mono u.size)
            have u := u.trans (hw19.mono u.size)
            have u := u.trans (hw23.mono u.size)
            exact eg_ret_tmp rfl rfl ⟨_, rfl, congrArg nv (show (lfCheck L.leaf) = ndCheck L by simp [ndCheck, c2, c18, c22]), u⟩
          · refine zt 26 rfl (by kernel_rfl) rfl (yb (nd_t c22) (yi_neq rfl rfl rfl)) rfl rfl ?_
            refine za rfl (y_pick true rfl rfl rfl) rfl rfl ?_
            refine zM rfl rfl rfl rfl rfl ?_
            refine zf 31 rfl (by kernel_rfl) rfl rfl rfl ?_
            refine zf 31 rfl (by kernel_rfl) rfl rfl rfl ?_
            refine zu 33 rfl (by kernel_rfl) rfl rfl rfl ?_
            refine zu 33 rfl (by kernel_rfl) rfl rfl rfl ?_
            refine zu 33 rfl (by kernel_rfl) rfl rfl rfl ?_
            refine zf 31 rfl (by kernel_rfl) rfl rfl rfl ?_
            refine za rfl (y_pick true rfl rfl rfl) rfl rfl ?_
            refine zA rfl rfl rfl rfl rfl ?_
            refine lg_nil ?_
            refine nx (zk3 1 2 24 rfl rfl rfl fn) ?_
            refine cg_ct rfl ?_
            refine cg_seq ?_
            refine cg_region ?_
            refine zA rfl rfl rfl rfl rfl ?_
            refine lg_nil ?_
            refine nx (zk1 2 rfl fn) ?_
            refine cg_ret ?_
            refine eg_block_ret ?_
            refine eg_seq_ret ?_
            have u := u.trans (n1.below.mono u.size)
            have u := u.trans (hw17.mono u.size)
            have u := u.trans (hw19.mono u.size)
            exact eg_ret_tmp rfl rfl ⟨_, rfl, congrArg nv (show 2 = ndCheck L by simp [ndCheck, c2, c18, c20, c21, c22]), u⟩
    · refine lg_callw (want_none (by rfl)) (rsameP_any (hl.inner.more (B' := w17.heap.size) (by omega)) ((IsPn.zero _ 0).more (B' := w17.heap.size) (by omega)) (Nat.le_refl _)) (by kernel_rfl) rfl rfl rfl (by decide) ?_
      rintro u24 w24 ⟨e24, hw24⟩
      have zw24 := hw24.size
      obtain rfl : u24 = .bool false := e24.trans (congrArg Value.bool (decide_eq_false c18))
      refine za rfl (y_bnot rfl rfl) rfl rfl ?_
      refine zA rfl rfl rfl rfl rfl ?_
      refine lg_nil ?_
      refine nx (zk3 1 2 3 rfl rfl rfl (zk1 4 rfl fn)) ?_
      refine cg_seq ?_
      refine cg_block ?_
      refine cg_seq ?_
      refine cg_region ?_
      refine za rfl (y_fld (off := 0) (by kernel_rfl) rfl rfl) rfl rfl ?_
      have r1 := RowAt.below hw24 r1.lt r1
      refine za rfl (y_cellv (v := nv L.kind) r1 rfl (by kernel_rfl) rfl rfl) rfl rfl ?_
      by_cases c25 : L.kind < 0
      · refine za rfl (yb (decide_eq_true c25) (yi_lss rfl rfl rfl)) rfl rfl ?_
        refine zM rfl rfl rfl rfl rfl ?_
        refine zf 19 rfl (by kernel_rfl) rfl rfl rfl ?_
        refine zf 19 rfl (by kernel_rfl) rfl rfl rfl ?_
        refine zf 19 rfl (by kernel_rfl) rfl rfl rfl ?_
        refine za rfl (y_pick true rfl rfl rfl) rfl rfl ?_
        refine zA rfl rfl rfl rfl rfl ?_
        refine lg_nil ?_
        refine nx (zk5 1 2 3 4 15 rfl rfl rfl rfl rfl fn) ?_
        refine cg_ct rfl ?_
        refine cg_seq ?_
        refine cg_region ?_
        refine zA rfl rfl rfl rfl rfl ?_
        refine lg_nil ?_
        refine nx (zk1 2 rfl fn) ?_
        refine cg_ret ?_
        refine eg_block_ret ?_
        refine eg_seq_ret ?_
        have u := u.trans (n1.below.mono u.size)
        have u := u.trans (hw17.mono u.size)
        have u := u.trans (hw24.mono u.size)
        exact eg_ret_tmp rfl rfl ⟨_, rfl, congrArg nv (show 7 = ndCheck L by simp [ndCheck, c25]), u⟩
      · refine za rfl (yb (decide_eq_false c25) (yi_lss rfl rfl rfl)) rfl rfl ?_
        refine zM rfl rfl rfl rfl rfl ?_
        refine zt 19 rfl (by kernel_rfl) rfl (y_fld (off := 0) (by kernel_rfl) rfl rfl) rfl rfl ?_
        refine zt 19 rfl (by kernel_rfl) rfl (y_cellv (v := nv L.kind) r1 rfl (by kernel_rfl) rfl rfl) rfl rfl ?_
        by_cases c26 : 2 < L.kind
        · refine zt 19 rfl (by kernel_rfl) rfl (yb (decide_eq_true c26) (yi_gtr rfl rfl rfl)) rfl rfl ?_
          refine za rfl (y_pick false rfl rfl rfl) rfl rfl ?_
          refine zA rfl rfl rfl rfl rfl ?_
          refine lg_nil ?_
          refine nx (zk5 1 2 3 4 15 rfl rfl rfl rfl rfl fn) ?_
          refine cg_ct rfl ?_
          refine cg_seq ?_
          refine cg_region ?_
          refine zA rfl rfl rfl rfl rfl ?_
          refine lg_nil ?_
          refine nx (zk1 2 rfl fn) ?_
          refine cg_ret ?_
          refine eg_block_ret ?_
          refine eg_seq_ret ?_
          have u := u.trans (n1.below.mono u.size)
          have u := u.trans (hw17.mono u.size)
          have u := u.trans (hw24.mono u.size)
          exact eg_ret_tmp rfl rfl ⟨_, rfl, congrArg nv (show 7 = ndCheck L by simp [ndCheck, c25, c26]), u⟩
        · refine zt 19 rfl (by kernel_rfl) rfl (yb (decide_eq_false c26) (yi_gtr rfl rfl rfl)) rfl rfl ?_
          refine za rfl (y_pick false rfl rfl rfl) rfl rfl ?_
          refine zA rfl rfl rfl rfl rfl ?_
          refine lg_nil ?_
          refine nx (zk5 1 2 3 4 15 rfl rfl rfl rfl rfl fn) ?_
          refine cg_cf rfl ?_
          refine cg_seq ?_
          refine cg_region ?_
          refine zM rfl rfl rfl rfl rfl ?_
          refine zM rfl rfl rfl rfl rfl ?_
          refine zt 26 rfl (by kernel_rfl) rfl (y_fld (off := 0) (by kernel_rfl) rfl rfl) rfl rfl ?_
          refine zt 26 rfl (by kernel_rfl) rfl (y_cellv (v := nv L.kind) r1 rfl (by kernel_rfl) rfl rfl) rfl rfl ?_
          by_cases c27 : L.kind = 1
          · refine zt 26 rfl (by kernel_rfl) rfl (yb (nd_f c27) (yi_neq rfl rfl rfl)) rfl rfl ?_
            refine za rfl (y_pick true rfl rfl rfl) rfl rfl ?_
            refine zM rfl rfl rfl rfl rfl ?_
            refine zt 31 rfl (by kernel_rfl) rfl (y_move rfl rfl) rfl rfl ?_
            refine zt 31 rfl (by kernel_rfl) rfl (y_move rfl rfl) rfl rfl ?_
            refine zt 33 rfl (by kernel_rfl) rfl (y_fld (off := 0) (by kernel_rfl) rfl rfl) rfl rfl ?_
            refine zt 33 rfl (by kernel_rfl) rfl (y_cellv (v := nv L.kind) r1 rfl (by kernel_rfl) rfl rfl) rfl rfl ?_
            refine zt 33 rfl (by kernel_rfl) rfl (yb (nd_t (show ¬ (L.kind = 2) from (show ¬ (L.kind = 2) by omega))) (yi_neq rfl rfl rfl)) rfl rfl ?_
            refine zt 31 rfl (by kernel_rfl) rfl (y_pick true rfl rfl rfl) rfl rfl ?_
            refine za rfl (y_pick false rfl rfl rfl) rfl rfl ?_
            refine zA rfl rfl rfl rfl rfl ?_
            refine lg_nil ?_
            refine nx (zk3 1 2 24 rfl rfl rfl fn) ?_
            refine cg_ct rfl ?_
            refine cg_seq ?_
            refine cg_region ?_
            refine zA rfl rfl rfl rfl rfl ?_
            refine lg_nil ?_
            refine nx (zk1 2 rfl fn) ?_
            refine cg_ret ?_
            refine eg_block_ret ?_
            refine eg_seq_ret ?_
            have u := u.trans (n1.below.mono u.size)
            have u := u.trans (hw17.mono u.size)
            have u := u.trans (hw24.mono u.size)
            exact eg_ret_tmp rfl rfl ⟨_, rfl, congrArg nv (show 2 = ndCheck L by simp [ndCheck, c2, c18, c27]), u⟩
          · refine zt 26 rfl (by kernel_rfl) rfl (yb (nd_t c27) (yi_neq rfl rfl rfl)) rfl rfl ?_
            refine za rfl (y_pick true rfl rfl rfl) rfl rfl ?_
            refine zM rfl rfl rfl rfl rfl ?_
            refine zf 31 rfl (by kernel_rfl) rfl rfl rfl ?_
            refine zf 31 rfl (by kernel_rfl) rfl rfl rfl ?_
            refine zu 33 rfl (by kernel_rfl) rfl rfl rfl ?_
            refine zu 33 rfl (by kernel_rfl) rfl rfl rfl ?_
            refine zu 33 rfl (by kernel_rfl) rfl rfl rfl ?_
            refine zf 31 rfl (by kernel_rfl) rfl rfl rfl ?_
            refine za rfl (y_pick true rfl rfl rfl) rfl rfl ?_
            refine zA rfl rfl rfl rfl rfl ?_
            refine lg_nil ?_
            refine nx (zk3 1 2 24 rfl rfl rfl fn) ?_
            refine cg_ct rfl ?_
            refine cg_seq ?_
            refine cg_region ?_
            refine zA rfl rfl rfl rfl rfl ?_
            refine lg_nil ?_
            refine nx (zk1 2 rfl fn) ?_
            refine cg_ret ?_
            refine eg_block_ret ?_
            refine eg_seq_ret ?_
            have u := u.trans (n1.below.mono u.size)
            have u := u.trans (hw17.mono u.size)
            have u := u.trans (hw24.mono u.size)
            exact eg_ret_tmp rfl rfl ⟨_, rfl, congrArg nv (show 2 = ndCheck L by simp [ndCheck, c2, c18, c25, c26, c27]), u⟩
theorem rsameN_any {W : World} {B : Nat} {l m : NdV} {L M : Nd} (hl : IsNd W B l L) (hm : IsNd W B m M) (hB : B ≤ W.heap.size) : Calls Tryz.prog 38 #[.agg (l.cs L), .agg (m.cs M)] W fun e W' => ∃ v, e = .returned v ∧ v = .bool (decide (NdSame L M)) ∧ Below W.heap.size W W' := by
  refine calls_cg (n := 24) Tryz.func38 rfl Tryz.ntmps38 (by simp) ?_
  show CG _ _ _ [(0, .agg (l.cs L)), (1, .agg (m.cs M))] _ _
  have u := Below.refl W.heap.size W
  refine cg_seq ?_
  refine cg_region ?_
  refine lg_boxw (want_none (by rfl)) rfl rfl (by kernel_rfl) rfl (by decide) fun b1 w1 n1 => ?_
  have r1 := n1.row
  have k1 := n1.blk
  have z1 := n1.size
  have lt1 : b1 < w1.heap.size := by omega
  refine lg_boxw (want_none (by rfl)) rfl rfl (by kernel_rfl) rfl (by decide) fun b2 w2 n2 => ?_
  have r2 := n2.row
  have k2 := n2.blk
  have z2 := n2.size
  have lt2 : b2 < w2.heap.size := by omega
  refine zA rfl rfl rfl rfl rfl ?_
  refine lg_nil ?_
  refine nx (zk3 2 3 4 rfl rfl rfl fn) ?_
  refine cg_seq ?_
  refine cg_region ?_
  refine za rfl (y_fld (off := 0) (by kernel_rfl) rfl rfl) rfl rfl ?_
  have r1 := n2.keep r1
  refine za rfl (y_cellv (v := nv L.kind) r1 rfl (by kernel_rfl) rfl rfl) rfl rfl ?_
  refine za rfl (y_fld (off := 0) (by kernel_rfl) rfl rfl) rfl rfl ?_
  refine za rfl (y_cellv (v := nv M.kind) r2 rfl (by kernel_rfl) rfl rfl) rfl rfl ?_
  by_cases c3 : L.kind = M.kind
  · refine za rfl (yb (decide_eq_true c3) (yi_eql rfl rfl rfl)) rfl rfl ?_
    refine zM rfl rfl rfl rfl rfl ?_
    refine zt 10 rfl (by kernel_rfl) rfl (y_fld (off := 1) (by kernel_rfl) rfl rfl) rfl rfl ?_
    refine zt 10 rfl (by kernel_rfl) rfl (y_part r1 (m := 4) rfl (show 1+4 ≤ 8 by decide) (by kernel_rfl) (by kernel_rfl) rfl rfl) rfl rfl ?_
    refine zt 10 rfl (by kernel_rfl) rfl (y_fld (off := 1) (by kernel_rfl) rfl rfl) rfl rfl ?_
    refine zt 10 rfl (by kernel_rfl) rfl (y_part r2 (m := 4) rfl (show 1+4 ≤ 8 by decide) (by kernel_rfl) (by kernel_rfl) rfl rfl) rfl rfl ?_
    have hl := hl.below (n1.below.mono (by omega))
    have hl := hl.below (n2.below.mono (by omega))
    have hm := hm.below (n1.below.mono (by omega))
    have hm := hm.below (n2.below.mono (by omega))
    by_cases c4 : LfSame L.leaf M.leaf
    · refine lg_callw (want_t (dj := 10) (by rfl) (by kernel_rfl) rfl) (rsame_any (hl.leaf.more (B' := w2.heap.size) (by omega)) (hm.leaf.more (B' := w2.heap.size) (by omega)) (Nat.le_refl _)) (by kernel_rfl) rfl rfl rfl (by decide) ?_
      rintro u5 w5 ⟨e5, hw5⟩
      have zw5 := hw5.size
      obtain rfl : u5 = .bool true := e5.trans (congrArg Value.bool (decide_eq_true c4))
      refine za rfl (y_pick true rfl rfl rfl) rfl rfl ?_
      refine zM rfl rfl rfl rfl rfl ?_
      refine zt 17 rfl (by kernel_rfl) rfl (y_fld (off := 5) (by kernel_rfl) rfl rfl) rfl rfl ?_
      have r1 := RowAt.below hw5 r1.lt r1
      refine zt 17 rfl (by kernel_rfl) rfl (y_part r1 (m := 3) rfl (show 5+3 ≤ 8 by decide) (by kernel_rfl) (by kernel_rfl) rfl rfl) rfl rfl ?_
      refine zt 17 rfl (by kernel_rfl) rfl (y_fld (off := 5) (by kernel_rfl) rfl rfl) rfl rfl ?_
      have r2 := RowAt.below hw5 r2.lt r2
      refine zt 17 rfl (by kernel_rfl) rfl (y_part r2 (m := 3) rfl (show 5+3 ≤ 8 by decide) (by kernel_rfl) (by kernel_rfl) rfl rfl) rfl rfl ?_
      have hl := hl.below (hw5.mono (by omega))
      have hm := hm.below (hw5.mono (by omega))
      by_cases c6 : PnSame L.inner M.inner
      · refine lg_callw (want_t (dj := 17) (by rfl) (by kernel_rfl) rfl) (rsameP_any (hl.inner.more (B' := w5.heap.size) (by omega)) (hm.inner.more (B' := w5.heap.size) (by omega)) (Nat.le_refl _)) (by kernel_rfl) rfl rfl rfl (by decide) ?_
        rintro u7 w7 ⟨e7, hw7⟩
        have zw7 := hw7.size
        obtain rfl : u7 = .bool true := e7.trans (congrArg Value.bool (decide_eq_true c6))
        refine za rfl (y_pick true rfl rfl rfl) rfl rfl ?_
        refine zA rfl rfl rfl rfl rfl ?_
        refine lg_nil ?_
        refine nx (zk1 4 rfl fn) ?_
        refine cg_ret ?_
        have u := u.trans (n1.below.mono u.size)
        have u := u.trans (n2.below.mono u.size)
        have u := u.trans (hw5.mono u.size)
        have u := u.trans (hw7.mono u.size)
        exact eg_ret_tmp rfl rfl ⟨_, rfl, congrArg Value.bool (show true = decide (NdSame L M) from (decide_eq_true (by simp [NdSame, c3, c4, c6])).symm), u⟩
      · refine lg_callw (want_t (dj := 17) (by rfl) (by kernel_rfl) rfl) (rsameP_any (hl.inner.more (B' := w5.heap.size) (by omega)) (hm.inner.more (B' := w5.heap.size) (by omega)) (Nat.le_refl _)) (by kernel_rfl) rfl rfl rfl (by decide) ?_
        rintro u8 w8 ⟨e8, hw8⟩
        have zw8 := hw8.size
        obtain rfl : u8 = .bool false := e8.trans (congrArg Value.bool (decide_eq_false c6))
        refine za rfl (y_pick true rfl rfl rfl) rfl rfl ?_
        refine zA rfl rfl rfl rfl rfl ?_
        refine lg_nil ?_
        refine nx (zk1 4 rfl fn) ?_
        refine cg_ret ?_
        have u := u.trans (n1.below.mono u.size)
        have u := u.trans (n2.below.mono u.size)
        have u := u.trans (hw5.mono u.size)
        have u := u.trans (hw8.mono u.size)
        exact eg_ret_tmp rfl rfl ⟨_, rfl, congrArg Value.bool (show false = decide (NdSame L M) from (decide_eq_false (by simp [NdSame, c3, c4, c6])).symm), u⟩
    · refine lg_callw (want_t (dj := 10) (by rfl) (by kernel_rfl) rfl) (rsame_any (hl.leaf.more (B' := w2.heap.size) (by omega)) (hm.leaf.more (B' := w2.heap.size) (by omega)) (Nat.le_refl _)) (by kernel_rfl) rfl rfl rfl (by decide) ?_
      rintro u9 w9 ⟨e9, hw9⟩
      have zw9 := hw9.size
      obtain rfl : u9 = .bool false := e9.trans (congrArg Value.bool (decide_eq_false c4))
      refine za rfl (y_pick true rfl rfl rfl) rfl rfl ?_
      refine zM rfl rfl rfl rfl rfl ?_
      refine zf 17 rfl (by kernel_rfl) rfl rfl rfl ?_
      refine zf 17 rfl (by kernel_rfl) rfl rfl rfl ?_
      refine zf 17 rfl (by kernel_rfl) rfl rfl rfl ?_
      refine zf 17 rfl (by kernel_rfl) rfl rfl rfl ?_
      refine zf 17 rfl (by kernel_rfl) rfl rfl rfl ?_
      refine za rfl (y_pick false rfl rfl rfl) rfl rfl ?_
      refine zA rfl rfl rfl rfl rfl ?_
      refine lg_nil ?_
      refine nx (zk1 4 rfl fn) ?_
      refine cg_ret ?_
      have u := u.trans (n1.below.mono u.size)
      have u := u.trans (n2.below.mono u.size)
      have u := u.trans (hw9.mono u.size)
      exact eg_ret_tmp rfl rfl ⟨_, rfl, congrArg Value.bool (show false = decide (NdSame L M) from (decide_eq_false (by simp [NdSame, c3, c4])).symm), u⟩
  · refine za rfl (yb (decide_eq_false c3) (yi_eql rfl rfl rfl)) rfl rfl ?_
    refine zM rfl rfl rfl rfl rfl ?_
    refine zf 10 rfl (by kernel_rfl) rfl rfl rfl ?_
    refine zf 10 rfl (by kernel_rfl) rfl rfl rfl ?_
    refine zf 10 rfl (by kernel_rfl) rfl rfl rfl ?_
    refine zf 10 rfl (by kernel_rfl) rfl rfl rfl ?_
    refine zf 10 rfl (by kernel_rfl) rfl rfl rfl ?_
    refine za rfl (y_pick false rfl rfl rfl) rfl rfl ?_
    refine zM rfl rfl rfl rfl rfl ?_
    refine zf 17 rfl (by kernel_rfl) rfl rfl rfl ?_
    refine zf 17 rfl (by kernel_rfl) rfl rfl rfl ?_
    refine zf 17 rfl (by kernel_rfl) rfl rfl rfl ?_
    refine zf 17 rfl (by kernel_rfl) rfl rfl rfl ?_
    refine zf 17 rfl (by kernel_rfl) rfl rfl rfl ?_
    refine za rfl (y_pick false rfl rfl rfl) rfl rfl ?_
    refine zA rfl rfl rfl rfl rfl ?_
    refine lg_nil ?_
    refine nx (zk1 4 rfl fn) ?_
    refine cg_ret ?_
    have u := u.trans (n1.below.mono u.size)
    have u := u.trans (n2.below.mono u.size)
    exact eg_ret_tmp rfl rfl ⟨_, rfl, congrArg Value.bool (show false = decide (NdSame L M) from (decide_eq_false (by simp [NdSame, c3])).symm), u⟩
theorem rasN_any {W : World} {B : Nat} {l : NdV} {L : Nd} (hl : IsNd W B l L) (hB : B ≤ W.heap.size) : Calls Tryz.prog 106 #[.agg (l.cs L)] W fun e W' => ∃ v, e = .returned v ∧ ∃ l' : NdV, v = .agg (l'.cs (ndAs L)) ∧ IsNd W' B l' (ndAs L) ∧ Below W.heap.size W W' := by
  refine calls_cg (n := 8) Tryz.func106 rfl Tryz.ntmps106 (by simp) ?_
  show CG _ _ _ [(0, .agg (l.cs L))] _ _
  have u := Below.refl W.heap.size W
  refine cg_seq ?_
  refine cg_region ?_
  refine lg_boxw (want_none (by rfl)) rfl rfl (by kernel_rfl) rfl (by decide) fun b1 w1 n1 => ?_
  have r1 := n1.row
  have k1 := n1.blk
  have z1 := n1.size
  have lt1 : b1 < w1.heap.size := by omega
  refine lg_allocw (cs := NdV.zero.cs Nd.zero) (want_none (by rfl)) rfl (by kernel_rfl) rfl (by decide) fun b2 w2 n2 => ?_
  have r2 := n2.row
  have k2 := n2.blk
  have z2 := n2.size
  have lt2 : b2 < w2.heap.size := by omega
  refine lg_nil ?_
  refine nx (zk2 1 2 rfl rfl fn) ?_
  refine cg_seq ?_
  refine cg_seq ?_
  refine cg_region ?_
  have r1 := n2.keep r1
  refine za rfl (y_loadA r1 (by kernel_rfl) (by kernel_rfl) rfl rfl) rfl rfl ?_
  have hl := hl.below (n1.below.mono (by omega))
  have hl := hl.below (n2.below.mono (by omega))
  refine lg_callw (want_none (by rfl)) (rcheckN_any (hl.more (B' := w2.heap.size) (by omega)) (Nat.le_refl _)) (by kernel_rfl) rfl rfl rfl (by decide) ?_
  rintro _ w3 ⟨rfl, hw3⟩
  have zw3 := hw3.size
  by_cases c4 : (ndCheck L) = 0
  · refine za rfl (yb (nd_f c4) (yi_neq rfl rfl rfl)) rfl rfl ?_
    refine lg_nil ?_
    refine nx (zk3 1 2 5 rfl rfl rfl fn) ?_
    refine cg_cf rfl ?_
    refine cg_skip ?_
    refine nx (zk2 1 2 rfl rfl fn) ?_
    refine cg_seq ?_
    refine cg_region ?_
    have r1 := RowAt.below hw3 r1.lt r1
    refine za rfl (y_loadA r1 (by kernel_rfl) (by kernel_rfl) rfl rfl) rfl rfl ?_
    have r2 := RowAt.below hw3 r2.lt r2
    have o5 := r2
    refine lg_stw (want_none (by rfl)) r2 rfl rfl rfl (by kernel_rfl) (by kernel_rfl) rfl rfl fun w5 s5 => ?_
    have r2 := s5.row
    have z5 := s5.size
    refine lg_nil ?_
    refine nx (zk1 2 rfl fn) ?_
    refine cg_ret ?_
    have hl := hl.below (hw3.mono (by omega))
    have hl := hl.below (s5.below _ (by omega))
    have u := u.trans (n1.below.mono u.size)
    have u := u.trans (n2.below.mono u.size)
    have u := u.trans (hw3.mono u.size)
    have u := u.trans (s5.below _ (by omega))
    refine eg_ret_agg rfl rfl r2 (by kernel_rfl) (by kernel_rfl) ?_
    rw [ndAs_ok c4]
    exact ⟨_, rfl, l, rfl, hl, u⟩
  · refine za rfl (yb (nd_t c4) (yi_neq rfl rfl rfl)) rfl rfl ?_
    refine lg_nil ?_
    refine nx (zk3 1 2 5 rfl rfl rfl fn) ?_
    refine cg_ct rfl ?_
    refine cg_seq ?_
    refine cg_region ?_
    refine za rfl (y_build (cs := NdV.zero.cs Nd.zero) rfl rfl (by kernel_rfl)) rfl rfl ?_
    have r2 := RowAt.below hw3 r2.lt r2
    have o6 := r2
    refine lg_stw (want_none (by rfl)) r2 rfl rfl rfl (by kernel_rfl) (by kernel_rfl) rfl rfl fun w6 s6 => ?_
    have r2 := s6.row
    have z6 := s6.size
    refine lg_nil ?_
    refine nx (zk2 1 2 rfl rfl fn) ?_
    refine cg_ret ?_
    refine eg_seq_ret ?_
    have u := u.trans (n1.below.mono u.size)
    have u := u.trans (n2.below.mono u.size)
    have u := u.trans (hw3.mono u.size)
    have u := u.trans (s6.below _ (by omega))
    refine eg_ret_agg rfl rfl r2 (by kernel_rfl) (by kernel_rfl) ?_
    rw [ndAs_no c4]
    exact ⟨_, rfl, NdV.zero, rfl, (IsNd.zero _ _), u⟩
theorem rofLeafN_any {W : World} {B : Nat} (i : Int) {l : NdV} {L : Nd} (hl : IsNd W B l L) (hB : B ≤ W.heap.size) : Calls Tryz.prog 68 #[nv i, .agg (l.cs L)] W fun e W' => ∃ v, e = .returned v ∧ PutS W (ofLeafO i L) v W' := by
  refine calls_cg (n := 25) Tryz.func68 rfl Tryz.ntmps68 (by simp) ?_
  show CG _ _ _ [(0, nv i), (1, .agg (l.cs L))] _ _
  have u := Below.refl W.heap.size W
  refine cg_seq ?_
  refine cg_region ?_
  refine lg_boxw (want_none (by rfl)) rfl rfl (by kernel_rfl) rfl (by decide) fun b1 w1 n1 => ?_
  have r1 := n1.row
  have k1 := n1.blk
  have z1 := n1.size
  have lt1 : b1 < w1.heap.size := by omega
  refine zA rfl rfl rfl rfl rfl ?_
  refine lg_nil ?_
  refine nx (zk3 0 3 4 rfl rfl rfl fn) ?_
  refine cg_seq ?_
  refine cg_region ?_
  refine za rfl (y_loadA r1 (by kernel_rfl) (by kernel_rfl) rfl rfl) rfl rfl ?_
  have hl := hl.below (n1.below.mono (by omega))
  refine lg_callw (want_none (by rfl)) (rasN_any (hl.more (B' := w1.heap.size) (by omega)) (Nat.le_refl _)) (by kernel_rfl) rfl rfl rfl (by decide) ?_
  rintro _ w2 ⟨l2, rfl, m2, hw2⟩
  have zw2 := hw2.size
  refine lg_allocw (cs := NdV.zero.cs Nd.zero) (want_none (by rfl)) rfl (by kernel_rfl) rfl (by decide) fun b3 w3 n3 => ?_
  have r3 := n3.row
  have k3 := n3.blk
  have z3 := n3.size
  have lt3 : b3 < w3.heap.size := by omega
  have o4 := r3
  refine lg_stw (want_none (by rfl)) r3 rfl rfl rfl (by kernel_rfl) (by kernel_rfl) rfl rfl fun w4 s4 => ?_
  have r3 := s4.row
  have z4 := s4.size
  refine lg_nil ?_
  refine nx (zk3 0 4 5 rfl rfl rfl fn) ?_
  refine cg_seq ?_
  refine cg_region ?_
  refine lg_callw (want_none (by rfl)) (rputNum_S 1 1 (Sl.nil _ 0) (by omega) (by first | omega | (simp only [List.length_nil]; omega))) (by kernel_rfl) rfl rfl rfl (by decide) ?_
  rintro _ w5 ⟨r5, rfl, m5, hw5⟩
  have zw5 := hw5.size
  rw [List.nil_append] at m5
  have wk5 := widthK_le 1
  refine zM rfl rfl rfl rfl rfl ?_
  refine lg_callw (want_none (by rfl)) (rputNum_S i 4 m5 (by omega) (by first | omega | (simp only [numOct_length]; omega))) (by kernel_rfl) rfl rfl rfl (by decide) ?_
  rintro _ w6 ⟨r6, rfl, m6, hw6⟩
  have zw6 := hw6.size
  have wk6 := widthK_le 4
  refine zA rfl rfl rfl rfl rfl ?_
  refine lg_nil ?_
  refine nx (zk3 4 5 6 rfl rfl rfl fn) ?_
  refine cg_seq ?_
  refine cg_region ?_
  refine zM rfl rfl rfl rfl rfl ?_
  refine za rfl (y_fld (off := 0) (by kernel_rfl) rfl rfl) rfl rfl ?_
  have r3 := RowAt.below hw5 r3.lt r3
  have r3 := RowAt.below hw6 r3.lt r3
  refine za rfl (y_cellv (v := nv ((ndAs L).kind)) r3 rfl (by kernel_rfl) rfl rfl) rfl rfl ?_
  by_cases c7 : (ndAs L).kind = 1
  · obtain ⟨eaL, ckL⟩ := ndAs_kind (L := L) (by omega)
    have kL : L.kind = 1 := (congrArg Nd.kind eaL).symm.trans c7
    refine za rfl (yb (decide_eq_true c7) (yi_eql rfl rfl rfl)) rfl rfl ?_
    refine lg_callw (want_none (by rfl)) (rputFlag_S true m6 (by omega) (by first | omega | (simp only [List.length_append, numOct_length]; omega))) (by kernel_rfl) rfl rfl rfl (by decide) ?_
    rintro _ w8 ⟨r8, rfl, m8, hw8⟩
    have zw8 := hw8.size
    refine zA rfl rfl rfl rfl rfl ?_
    refine lg_nil ?_
    refine nx (zk3 4 5 6 rfl rfl rfl fn) ?_
    refine cg_seq ?_
    refine cg_seq ?_
    refine cg_region ?_
    refine za rfl (y_fld (off := 0) (by kernel_rfl) rfl rfl) rfl rfl ?_
    have r3 := RowAt.below hw8 r3.lt r3
    refine za rfl (y_cellv (v := nv ((ndAs L).kind)) r3 rfl (by kernel_rfl) rfl rfl) rfl rfl ?_
    refine za rfl (yb (decide_eq_true c7) (yi_eql rfl rfl rfl)) rfl rfl ?_
    refine lg_nil ?_
    refine nx (zk3 4 5 6 rfl rfl rfl (zk1 19 rfl fn)) ?_
    refine cg_ct rfl ?_
    refine cg_region ?_
    refine zM rfl rfl rfl rfl rfl ?_
    refine za rfl (y_fld (off := 1) (by kernel_rfl) rfl rfl) rfl rfl ?_
    refine za rfl (y_part r3 (m := 4) rfl (show 1+4 ≤ 8 by decide) (by kernel_rfl) (by kernel_rfl) rfl rfl) rfl rfl ?_
    have m2 := m2.below (n3.below.mono (by omega))
    have m2 := m2.below (s4.below _ (by omega))
    have m2 := m2.below (hw5.mono (by omega))
    have m2 := m2.below (hw6.mono (by omega))
    have m2 := m2.below (hw8.mono (by omega))
    refine lg_callw (want_none (by rfl)) (rputL_any (m8.more (B' := w8.heap.size) (by omega)) (m2.leaf.more (B' := w8.heap.size) (by omega)) (Nat.le_refl _) (by first | omega | (simp only [List.length_append, numOct_length, flagOct_length]; omega))) (by kernel_rfl) rfl rfl rfl (by decide) ?_
    rintro _ w9 ⟨r9, rfl, m9, hw9⟩
    have zw9 := hw9.size
    have lp9 := lfPut_le ((ndAs L).leaf)
    refine zA rfl rfl rfl rfl rfl ?_
    refine lg_nil ?_
    refine nx (zk2 4 6 rfl rfl fn) ?_
    refine cg_seq ?_
    refine cg_region ?_
    refine zM rfl rfl rfl rfl rfl ?_
    refine zA rfl rfl rfl rfl rfl ?_
    refine lg_nil ?_
    refine nx (zk1 4 rfl fn) ?_
    refine cg_ret ?_
    have u := u.trans (n1.below.mono u.size)
    have u := u.trans (hw2.mono u.size)
    have u := u.trans (n3.below.mono u.size)
    have u := u.trans (s4.below _ (by omega))
    have u := u.trans (hw5.mono u.size)
    have u := u.trans (hw6.mono u.size)
    have u := u.trans (hw8.mono u.size)
    have u := u.trans (hw9.mono u.size)
    exact eg_ret_tmp rfl rfl ⟨_, rfl, r9, rfl, (m9.more (by omega)).cast (by rw [ofLeafO, ndOnly, if_pos ⟨by omega, rfl⟩, eaL]; simp only [List.append_assoc]), u⟩
  · refine za rfl (yb (decide_eq_false c7) (yi_eql rfl rfl rfl)) rfl rfl ?_
    refine lg_callw (want_none (by rfl)) (rputFlag_S false m6 (by omega) (by first | omega | (simp only [List.length_append, numOct_length]; omega))) (by kernel_rfl) rfl rfl rfl (by decide) ?_
    rintro _ w10 ⟨r10, rfl, m10, hw10⟩
    have zw10 := hw10.size
    refine zA rfl rfl rfl rfl rfl ?_
    refine lg_nil ?_
    refine nx (zk3 4 5 6 rfl rfl rfl fn) ?_
    refine cg_seq ?_
    refine cg_seq ?_
    refine cg_region ?_
    refine za rfl (y_fld (off := 0) (by kernel_rfl) rfl rfl) rfl rfl ?_
    have r3 := RowAt.below hw10 r3.lt r3
    refine za rfl (y_cellv (v := nv ((ndAs L).kind)) r3 rfl (by kernel_rfl) rfl rfl) rfl rfl ?_
    refine za rfl (yb (decide_eq_false c7) (yi_eql rfl rfl rfl)) rfl rfl ?_
    refine lg_nil ?_
    refine nx (zk3 4 5 6 rfl rfl rfl (zk1 19 rfl fn)) ?_
    refine cg_cf rfl ?_
    refine cg_skip ?_
    refine nx (zk2 4 6 rfl rfl fn) ?_
    refine cg_seq ?_
    refine cg_region ?_
    refine zM rfl rfl rfl rfl rfl ?_
    refine zA rfl rfl rfl rfl rfl ?_
    refine lg_nil ?_
    refine nx (zk1 4 rfl fn) ?_
    refine cg_ret ?_
    have u := u.trans (n1.below.mono u.size)
    have u := u.trans (hw2.mono u.size)
    have u := u.trans (n3.below.mono u.size)
    have u := u.trans (s4.below _ (by omega))
    have u := u.trans (hw5.mono u.size)
    have u := u.trans (hw6.mono u.size)
    have u := u.trans (hw10.mono u.size)
    exact eg_ret_tmp rfl rfl ⟨_, rfl, r10, rfl, (m10.more (by omega)).cast (by rw [ofLeafO, ndOnly, if_neg (by omega), if_neg (by omega)]), u⟩
theorem rofInnerN_any {W : World} {B : Nat} {l : NdV} {L : Nd} {s t : SlV} {xs ys : List Int} (hl : IsNd W B l L) (h : Sl W B s xs) (h2 : Sl W B t ys) (hB : B ≤ W.heap.size) (hx : xs.length ≤ 10000) (hy : ys.length ≤ 10000) : Calls Tryz.prog 71 #[.agg (l.cs L), s.v, t.v] W fun e W' => ∃ v, e = .returned v ∧ PutS W (ofInnerO L xs ys) v W' := by
  refine calls_cg (n := 28) Tryz.func71 rfl Tryz.ntmps71 (by simp) ?_
  show CG _ _ _ [(0, .agg (l.cs L)), (1, s.v), (2, t.v)] _ _
  have u := Below.refl W.heap.size W
  refine cg_seq ?_
  refine cg_region ?_
  refine lg_boxw (want_none (by rfl)) rfl rfl (by kernel_rfl) rfl (by decide) fun b1 w1 n1 => ?_
  have r1 := n1.row
  have k1 := n1.blk
  have z1 := n1.size
  have lt1 : b1 < w1.heap.size := by omega
  refine zA rfl rfl rfl rfl rfl ?_
  refine lg_nil ?_
  refine nx (zk3 1 2 3 rfl rfl rfl (zk1 6 rfl fn)) ?_
  refine cg_seq ?_
  refine cg_region ?_
  refine za rfl (y_loadA r1 (by kernel_rfl) (by kernel_rfl) rfl rfl) rfl rfl ?_
  have hl := hl.below (n1.below.mono (by omega))
  refine lg_callw (want_none (by rfl)) (rasN_any (hl.more (B' := w1.heap.size) (by omega)) (Nat.le_refl _)) (by kernel_rfl) rfl rfl rfl (by decide) ?_
  rintro _ w2 ⟨l2, rfl, m2, hw2⟩
  have zw2 := hw2.size
  refine lg_allocw (cs := NdV.zero.cs Nd.zero) (want_none (by rfl)) rfl (by kernel_rfl) rfl (by decide) fun b3 w3 n3 => ?_
  have r3 := n3.row
  have k3 := n3.blk
  have z3 := n3.size
  have lt3 : b3 < w3.heap.size := by omega
  have o4 := r3
  refine lg_stw (want_none (by rfl)) r3 rfl rfl rfl (by kernel_rfl) (by kernel_rfl) rfl rfl fun w4 s4 => ?_
  have r3 := s4.row
  have z4 := s4.size
  refine lg_nil ?_
  refine nx (zk3 1 2 6 rfl rfl rfl (zk1 7 rfl fn)) ?_
  refine cg_seq ?_
  refine cg_held (by kernel_rfl) fun W5 eW5 => ?_
  have dW5 := below_drew _ _ eW5
  have zW5 := size_drew _ _ eW5
  clear eW5
  refine zh 1 rfl rfl rfl rfl rfl (by kernel_rfl) (fun _ _ _ h => h) (fun q hq => y_fld (off := 0) (by kernel_rfl) rfl rfl) ?_
  have r3 := RowAt.below dW5 r3.lt r3
  refine zh 2 rfl rfl rfl rfl rfl (by kernel_rfl) (fun _ _ _ h => h) (fun q hq => y_cellv (v := nv ((ndAs L).kind)) (RowAt.below hq r3.lt r3) rfl (by kernel_rfl) rfl rfl) ?_
  by_cases c6 : (ndAs L).kind = 2
  · obtain ⟨eaL, ckL⟩ := ndAs_kind (L := L) (by omega)
    have kL : L.kind = 2 := (congrArg Nd.kind eaL).symm.trans c6
    refine zh 3 rfl rfl rfl rfl rfl (by kernel_rfl) (fun _ _ _ h => h) (fun q hq => yb (decide_eq_true c6) (yi_eql rfl rfl rfl)) ?_
    refine hg_one 0 (by rfl) (by kernel_rfl) (want_none (by rfl)) ?_
    refine lg_callw (want_none (by rfl)) (rputNum_S 2 1 (Sl.nil _ 0) (by omega) (by first | omega | (simp only [List.length_nil]; omega))) (by kernel_rfl) rfl rfl rfl (by decide) ?_
    rintro _ w7 ⟨r7, rfl, m7, hw7⟩
    have zw7 := hw7.size
    rw [List.nil_append] at m7
    have wk7 := widthK_le 1
    refine hg_next hw7 ?_
    refine hg_up hw7 ?_
    refine hg_one 4 (by rfl) (by kernel_rfl) (want_none (by rfl)) ?_
    refine lg_callw (want_none (by rfl)) (rputFlag_S true m7 (by omega) (by first | omega | (simp only [numOct_length]; omega))) (by kernel_rfl) rfl rfl rfl (by decide) ?_
    rintro _ w8 ⟨r8, rfl, m8, hw8⟩
    have zw8 := hw8.size
    refine hg_next hw8 ?_
    refine hg_up hw8 ?_
    refine zh 5 rfl rfl rfl rfl rfl (by kernel_rfl) (fun _ _ _ h => h) (fun q hq => y_assign rfl rfl) ?_
    refine hg_done (by kernel_rfl) ?_
    refine nx (zk5 1 2 6 7 8 rfl rfl rfl rfl rfl fn) ?_
    refine cg_seq ?_
    refine cg_seq ?_
    refine cg_region ?_
    refine za rfl (y_fld (off := 0) (by kernel_rfl) rfl rfl) rfl rfl ?_
    have r3 := RowAt.below hw7 r3.lt r3
    have r3 := RowAt.below hw8 r3.lt r3
    refine za rfl (y_cellv (v := nv ((ndAs L).kind)) r3 rfl (by kernel_rfl) rfl rfl) rfl rfl ?_
    refine za rfl (yb (decide_eq_true c6) (yi_eql rfl rfl rfl)) rfl rfl ?_
    refine lg_nil ?_
    refine nx (zk5 1 2 6 7 8 rfl rfl rfl rfl rfl (zk1 18 rfl fn)) ?_
    refine cg_ct rfl ?_
    refine cg_region ?_
    refine zM rfl rfl rfl rfl rfl ?_
    refine za rfl (y_fld (off := 5) (by kernel_rfl) rfl rfl) rfl rfl ?_
    refine za rfl (y_part r3 (m := 3) rfl (show 5+3 ≤ 8 by decide) (by kernel_rfl) (by kernel_rfl) rfl rfl) rfl rfl ?_
    have m2 := m2.below (n3.below.mono (by omega))
    have m2 := m2.below (s4.below _ (by omega))
    have m2 := m2.below (dW5.mono (by omega))
    have m2 := m2.below (hw7.mono (by omega))
    have m2 := m2.below (hw8.mono (by omega))
    refine lg_callw (want_none (by rfl)) (rputP_any (m8.more (B' := w8.heap.size) (by omega)) (m2.inner.more (B' := w8.heap.size) (by omega)) (Nat.le_refl _) (by first | omega | (simp only [List.length_append, numOct_length, flagOct_length]; omega))) (by kernel_rfl) rfl rfl rfl (by decide) ?_
    rintro _ w9 ⟨r9, rfl, m9, hw9⟩
    have zw9 := hw9.size
    have lp9 := pnPut_le ((ndAs L).inner)
    refine zA rfl rfl rfl rfl rfl ?_
    refine lg_nil ?_
    refine nx (zk3 1 2 6 rfl rfl rfl (zk1 8 rfl fn)) ?_
    refine cg_seq ?_
    refine cg_region ?_
    refine zM rfl rfl rfl rfl rfl ?_
    refine zM rfl rfl rfl rfl rfl ?_
    have h := h.below (n1.below.mono (by omega))
    have h := h.below (hw2.mono (by omega))
    have h := h.below (n3.below.mono (by omega))
    have h := h.set o4 rfl s4
    have h := h.below (dW5.mono (by omega))
    have h := h.below (hw7.mono (by omega))
    have h := h.below (hw8.mono (by omega))
    have h := h.below (hw9.mono (by omega))
    refine lg_callw (want_none (by rfl)) (rputBytes_S m9 h (by omega) (by omega) (by first | omega | (simp only [List.length_append, numOct_length, flagOct_length]; omega)) (by first | omega | (simp only [List.length_append, numOct_length, flagOct_length]; omega))) (by kernel_rfl) rfl rfl rfl (by decide) ?_
    rintro _ w10 ⟨r10, rfl, m10, hw10⟩
    have zw10 := hw10.size
    have lb10 := bytesOct_le xs
    refine zM rfl rfl rfl rfl rfl ?_
    have h2 := h2.below (n1.below.mono (by omega))
    have h2 := h2.below (hw2.mono (by omega))
    have h2 := h2.below (n3.below.mono (by omega))
    have h2 := h2.set o4 rfl s4
    have h2 := h2.below (dW5.mono (by omega))
    have h2 := h2.below (hw7.mono (by omega))
    have h2 := h2.below (hw8.mono (by omega))
    have h2 := h2.below (hw9.mono (by omega))
    have h2 := h2.below (hw10.mono (by omega))
    refine lg_callw (want_none (by rfl)) (rputBytes_S m10 h2 (by omega) (by omega) (by first | omega | (simp only [List.length_append, numOct_length, flagOct_length]; omega)) (by first | omega | (simp only [List.length_append, numOct_length, flagOct_length]; omega))) (by kernel_rfl) rfl rfl rfl (by decide) ?_
    rintro _ w11 ⟨r11, rfl, m11, hw11⟩
    have zw11 := hw11.size
    have lb11 := bytesOct_le ys
    refine zA rfl rfl rfl rfl rfl ?_
    refine lg_nil ?_
    refine nx (zk1 6 rfl fn) ?_
    refine cg_ret ?_
    have u := u.trans (n1.below.mono u.size)
    have u := u.trans (hw2.mono u.size)
    have u := u.trans (n3.below.mono u.size)
    have u := u.trans (s4.below _ (by omega))
    have u := u.trans (dW5.mono u.size)
    have u := u.trans (hw7.mono u.size)
    have u := u.trans (hw8.mono u.size)
    have u := u.trans (hw9.mono u.size)
    have u := u.trans (hw10.mono u.size)
    have u := u.trans (hw11.mono u.size)
    exact eg_ret_tmp rfl rfl ⟨_, rfl, r11, rfl, (m11.more (by omega)).cast (by rw [ofInnerO, ndOnly, if_neg (by omega), if_pos ⟨by omega, rfl⟩, eaL]; simp only [List.append_assoc]), u⟩
  · refine zh 3 rfl rfl rfl rfl rfl (by kernel_rfl) (fun _ _ _ h => h) (fun q hq => yb (decide_eq_false c6) (yi_eql rfl rfl rfl)) ?_
    refine hg_one 0 (by rfl) (by kernel_rfl) (want_none (by rfl)) ?_
    refine lg_callw (want_none (by rfl)) (rputNum_S 2 1 (Sl.nil _ 0) (by omega) (by first | omega | (simp only [List.length_nil]; omega))) (by kernel_rfl) rfl rfl rfl (by decide) ?_
    rintro _ w12 ⟨r12, rfl, m12, hw12⟩
    have zw12 := hw12.size
    rw [List.nil_append] at m12
    have wk12 := widthK_le 1
    refine hg_next hw12 ?_
    refine hg_up hw12 ?_
    refine hg_one 4 (by rfl) (by kernel_rfl) (want_none (by rfl)) ?_
    refine lg_callw (want_none (by rfl)) (rputFlag_S false m12 (by omega) (by first | omega | (simp only [numOct_length]; omega))) (by kernel_rfl) rfl rfl rfl (by decide) ?_
    rintro _ w13 ⟨r13, rfl, m13, hw13⟩
    have zw13 := hw13.size
    refine hg_next hw13 ?_
    refine hg_up hw13 ?_
    refine zh 5 rfl rfl rfl rfl rfl (by kernel_rfl) (fun _ _ _ h => h) (fun q hq => y_assign rfl rfl) ?_
    refine hg_done (by kernel_rfl) ?_
    refine nx (zk5 1 2 6 7 8 rfl rfl rfl rfl rfl fn) ?_
    refine cg_seq ?_
    refine cg_seq ?_
    refine cg_region ?_
    refine za rfl (y_fld (off := 0) (by kernel_rfl) rfl rfl) rfl rfl ?_
    have r3 := RowAt.below hw12 r3.lt r3
    have r3 := RowAt.below hw13 r3.lt r3
    refine za rfl (y_cellv (v := nv ((ndAs L).kind)) r3 rfl (by kernel_rfl) rfl rfl) rfl rfl ?_
    refine za rfl (yb (decide_eq_false c6) (yi_eql rfl rfl rfl)) rfl rfl ?_
    refine lg_nil ?_
    refine nx (zk5 1 2 6 7 8 rfl rfl rfl rfl rfl (zk1 18 rfl fn)) ?_
    refine cg_cf rfl ?_
    refine cg_skip ?_
    refine nx (zk3 1 2 6 rfl rfl rfl (zk1 8 rfl fn)) ?_
    refine cg_seq ?_
    refine cg_region ?_
    refine zM rfl rfl rfl rfl rfl ?_
    refine zM rfl rfl rfl rfl rfl ?_
    have h := h.below (n1.below.mono (by omega))
    have h := h.below (hw2.mono (by omega))
    have h := h.below (n3.below.mono (by omega))
    have h := h.set o4 rfl s4
    have h := h.below (dW5.mono (by omega))
    have h := h.below (hw12.mono (by omega))
    have h := h.below (hw13.mono (by omega))
    refine lg_callw (want_none (by rfl)) (rputBytes_S m13 h (by omega) (by omega) (by first | omega | (simp only [List.length_append, numOct_length, flagOct_length]; omega)) (by first | omega | (simp only [List.length_append, numOct_length, flagOct_length]; omega))) (by kernel_rfl) rfl rfl rfl (by decide) ?_
    rintro _ w14 ⟨r14, rfl, m14, hw14⟩
    have zw14 := hw14.size
    have lb14 := bytesOct_le xs
    refine zM rfl rfl rfl rfl rfl ?_
    have h2 := h2.below (n1.below.mono (by omega))
    have h2 := h2.below (hw2.mono (by omega))
    have h2 := h2.below (n3.below.mono (by omega))
    have h2 := h2.set o4 rfl s4
    have h2 := h2.below (dW5.mono (by omega))
    have h2 := h2.below (hw12.mono (by omega))
    have h2 := h2.below (hw13.mono (by omega))
    have h2 := h2.below (hw14.mono (by omega))
    refine lg_callw (want_none (by rfl)) (rputBytes_S m14 h2 (by omega) (by omega) (by first | omega | (simp only [List.length_append, numOct_length, flagOct_length]; omega)) (by first | omega | (simp only [List.length_append, numOct_length, flagOct_length]; omega))) (by kernel_rfl) rfl rfl rfl (by decide) ?_
    rintro _ w15 ⟨r15, rfl, m15, hw15⟩
    have zw15 := hw15.size
    have lb15 := bytesOct_le ys
    refine zA rfl rfl rfl rfl rfl ?_
    refine lg_nil ?_
    refine nx (zk1 6 rfl fn) ?_
    refine cg_ret ?_
    have u := u.trans (n1.below.mono u.size)
    have u := u.trans (hw2.mono u.size)
    have u := u.trans (n3.below.mono u.size)
    have u := u.trans (s4.below _ (by omega))
    have u := u.trans (dW5.mono u.size)
    have u := u.trans (hw12.mono u.size)
    have u := u.trans (hw13.mono u.size)
    have u := u.trans (hw14.mono u.size)
    have u := u.trans (hw15.mono u.size)
    exact eg_ret_tmp rfl rfl ⟨_, rfl, r15, rfl, (m15.more (by omega)).cast (by rw [ofInnerO, ndOnly, if_neg (by omega), if_neg (by omega)]), u⟩
end
end Go.Proofs.YtkcpmpbjjnknhaaGreatDoor
