/-
  KitP: LfProg, LfGet, LfPut, PnNum, PnProg, NdProg, NdPut.
-/
import Derived.Test.YtjcnfmmekpiliaaDoorKitN
namespace Go.Proofs.YtjcnfmmekpiliaaDoor
open Go.ChangeShapes Go.WideShapes Go.ChangeAt Go.RowKit
set_option linter.unusedVariables false

/- LfProg:
  leaf.Check and leaf.Same.
-/
theorem large_any {w : World} {B : Nat} {s : SlV} {xs : List Int} (h : Sl w B s xs) : Calls Tryd.prog 75 #[s.v] w fun e w' => e = .returned (.bool (decide (200 < (xs.length : Int)))) ∧ w' = w := by
  refine calls_cg (n := 6) Tryd.func75 rfl Tryd.ntmps75 (by simp) ?_
  show CG _ _ _ [(0, s.v)] _ _
  refine cg_seq ?_
  refine cg_region ?_
  refine zA rfl rfl rfl rfl rfl ?_
  refine lg_nil ?_
  refine nx (zk2 0 2 rfl rfl fn) ?_
  refine cg_seq ?_
  refine cg_region ?_
  refine zM rfl rfl rfl rfl rfl ?_
  refine za rfl (y_lenS (el := 5) h (by kernel_rfl) rfl rfl) rfl rfl ?_
  refine za rfl (yi_gtr rfl rfl rfl) rfl rfl ?_
  refine zA rfl rfl rfl rfl rfl ?_
  refine lg_nil ?_
  refine nx (zk1 2 rfl fn) ?_
  refine cg_ret ?_
  exact eg_ret_tmp rfl rfl ⟨rfl, rfl⟩
theorem known_any (n : Int) (w : World) : Calls Tryd.prog 76 #[nv n] w fun e w' => e = .returned (.bool (decide (1 ≤ n ∧ n ≤ 3))) ∧ w' = w := by
  refine calls_cg (n := 9) Tryd.func76 rfl Tryd.ntmps76 (by simp) ?_
  show CG _ _ _ [(0, nv n)] _ _
  refine cg_seq ?_
  refine cg_region ?_
  refine zA rfl rfl rfl rfl rfl ?_
  refine lg_nil ?_
  refine nx (zk2 0 2 rfl rfl fn) ?_
  refine cg_seq ?_
  refine cg_region ?_
  refine zM rfl rfl rfl rfl rfl ?_
  by_cases c1 : 1 ≤ n
  · refine za rfl (yb (decide_eq_true c1) (yi_geq rfl rfl rfl)) rfl rfl ?_
    refine zM rfl rfl rfl rfl rfl ?_
    refine zt 5 rfl (by kernel_rfl) rfl (y_move rfl rfl) rfl rfl ?_
    by_cases c2 : n ≤ 3
    · refine zt 5 rfl (by kernel_rfl) rfl (yb (decide_eq_true c2) (yi_leq rfl rfl rfl)) rfl rfl ?_
      refine za rfl (y_pick true rfl rfl rfl) rfl rfl ?_
      refine zA rfl rfl rfl rfl rfl ?_
      refine lg_nil ?_
      refine nx (zk1 2 rfl fn) ?_
      refine cg_ret ?_
      exact eg_ret_tmp rfl rfl ⟨congrArg (fun b => Ending.returned (.bool b)) (show true = decide (1 ≤ n ∧ n ≤ 3) from (decide_eq_true (by omega)).symm), rfl⟩
    · refine zt 5 rfl (by kernel_rfl) rfl (yb (decide_eq_false c2) (yi_leq rfl rfl rfl)) rfl rfl ?_
      refine za rfl (y_pick true rfl rfl rfl) rfl rfl ?_
      refine zA rfl rfl rfl rfl rfl ?_
      refine lg_nil ?_
      refine nx (zk1 2 rfl fn) ?_
      refine cg_ret ?_
      exact eg_ret_tmp rfl rfl ⟨congrArg (fun b => Ending.returned (.bool b)) (show false = decide (1 ≤ n ∧ n ≤ 3) from (decide_eq_false (by omega)).symm), rfl⟩
  · refine za rfl (yb (decide_eq_false c1) (yi_geq rfl rfl rfl)) rfl rfl ?_
    refine zM rfl rfl rfl rfl rfl ?_
    refine zf 5 rfl (by kernel_rfl) rfl rfl rfl ?_
    refine zf 5 rfl (by kernel_rfl) rfl rfl rfl ?_
    refine za rfl (y_pick false rfl rfl rfl) rfl rfl ?_
    refine zA rfl rfl rfl rfl rfl ?_
    refine lg_nil ?_
    refine nx (zk1 2 rfl fn) ?_
    refine cg_ret ?_
    exact eg_ret_tmp rfl rfl ⟨congrArg (fun b => Ending.returned (.bool b)) (show false = decide (1 ≤ n ∧ n ≤ 3) from (decide_eq_false (by omega)).symm), rfl⟩
theorem check_any {W : World} {B : Nat} {l : LfV} {L : Lf} (hl : IsLf W B l L) (hB : B ≤ W.heap.size) : Calls Tryd.prog 61 #[.agg (l.cs L)] W fun e W' => ∃ v, e = .returned v ∧ v = nv (lfCheck L) ∧ Below W.heap.size W W' := by
  refine calls_cg (n := 37) Tryd.func61 rfl Tryd.ntmps61 (by simp) ?_
  show CG _ _ _ [(0, .agg (l.cs L))] _ _
  have u := Below.refl W.heap.size W
  refine cg_seq ?_
  refine cg_region ?_
  refine lg_boxw (want_none (by rfl)) rfl rfl (by kernel_rfl) rfl (by decide) fun b1 w1 n1 => ?_
  have r1 := n1.row
  have k1 := n1.blk
  have z1 := n1.size
  have lt1 : b1 < w1.heap.size := by omega
  refine zA rfl rfl rfl rfl rfl ?_
  refine lg_nil ?_
  refine nx (zk2 1 2 rfl rfl fn) ?_
  refine cg_seq ?_
  refine cg_block ?_
  refine cg_seq ?_
  refine cg_region ?_
  refine za rfl (y_fld (off := 0) (by kernel_rfl) rfl rfl) rfl rfl ?_
  refine za rfl (y_cellv (v := l.enc.v) r1 rfl (by kernel_rfl) rfl rfl) rfl rfl ?_
  have hl := hl.below (n1.below.mono (by omega))
  refine za rfl (y_lenS (el := 5) hl.enc (by kernel_rfl) rfl rfl) rfl rfl ?_
  by_cases c2 : (L.enc.length : Int) = 0
  · refine za rfl (yb (decide_eq_true c2) (yi_eql rfl rfl rfl)) rfl rfl ?_
    refine zA rfl rfl rfl rfl rfl ?_
    refine lg_nil ?_
    refine nx (zk3 1 2 3 rfl rfl rfl fn) ?_
    refine cg_ct rfl ?_
    refine cg_seq ?_
    refine cg_region ?_
    refine zA rfl rfl rfl rfl rfl ?_
    refine lg_nil ?_
    refine nx (zk1 2 rfl fn) ?_
    refine cg_ret ?_
    refine eg_block_ret ?_
    refine eg_seq_ret ?_
    have u := u.trans (n1.below.mono u.size)
    exact eg_ret_tmp rfl rfl ⟨_, rfl, congrArg nv (show 5 = lfCheck L by unfold lfCheck; (repeat' split) <;> omega), u⟩
  · refine za rfl (yb (decide_eq_false c2) (yi_eql rfl rfl rfl)) rfl rfl ?_
    refine zA rfl rfl rfl rfl rfl ?_
    refine lg_nil ?_
    refine nx (zk3 1 2 3 rfl rfl rfl fn) ?_
    refine cg_cf rfl ?_
    refine cg_seq ?_
    refine cg_region ?_
    refine za rfl (y_fld (off := 0) (by kernel_rfl) rfl rfl) rfl rfl ?_
    refine za rfl (y_cellv (v := l.enc.v) r1 rfl (by kernel_rfl) rfl rfl) rfl rfl ?_
    by_cases c3 : 200 < (L.enc.length : Int)
    · refine za rfl (yb (decide_eq_true c3) (y_call (large_any hl.enc) (by kernel_rfl) rfl rfl)) rfl rfl ?_
      refine zM rfl rfl rfl rfl rfl ?_
      refine zf 12 rfl (by kernel_rfl) rfl rfl rfl ?_
      refine zf 12 rfl (by kernel_rfl) rfl rfl rfl ?_
      refine zf 12 rfl (by kernel_rfl) rfl rfl rfl ?_
      refine za rfl (y_pick true rfl rfl rfl) rfl rfl ?_
      refine zM rfl rfl rfl rfl rfl ?_
      refine zf 17 rfl (by kernel_rfl) rfl rfl rfl ?_
      refine zf 17 rfl (by kernel_rfl) rfl rfl rfl ?_
      refine zf 17 rfl (by kernel_rfl) rfl rfl rfl ?_
      refine za rfl (y_pick true rfl rfl rfl) rfl rfl ?_
      refine zA rfl rfl rfl rfl rfl ?_
      refine lg_nil ?_
      refine nx (zk3 1 2 8 rfl rfl rfl fn) ?_
      refine cg_ct rfl ?_
      refine cg_seq ?_
      refine cg_region ?_
      refine zA rfl rfl rfl rfl rfl ?_
      refine lg_nil ?_
      refine nx (zk1 2 rfl fn) ?_
      refine cg_ret ?_
      refine eg_block_ret ?_
      refine eg_seq_ret ?_
      have u := u.trans (n1.below.mono u.size)
      exact eg_ret_tmp rfl rfl ⟨_, rfl, congrArg nv (show 4 = lfCheck L by unfold lfCheck; (repeat' split) <;> omega), u⟩
    · refine za rfl (yb (decide_eq_false c3) (y_call (large_any hl.enc) (by kernel_rfl) rfl rfl)) rfl rfl ?_
      refine zM rfl rfl rfl rfl rfl ?_
      refine zt 12 rfl (by kernel_rfl) rfl (y_fld (off := 1) (by kernel_rfl) rfl rfl) rfl rfl ?_
      refine zt 12 rfl (by kernel_rfl) rfl (y_cellv (v := l.cred.v) r1 rfl (by kernel_rfl) rfl rfl) rfl rfl ?_
      by_cases c4 : 200 < (L.cred.length : Int)
      · refine zt 12 rfl (by kernel_rfl) rfl (yb (decide_eq_true c4) (y_call (large_any hl.cred) (by kernel_rfl) rfl rfl)) rfl rfl ?_
        refine za rfl (y_pick false rfl rfl rfl) rfl rfl ?_
        refine zM rfl rfl rfl rfl rfl ?_
        refine zf 17 rfl (by kernel_rfl) rfl rfl rfl ?_
        refine zf 17 rfl (by kernel_rfl) rfl rfl rfl ?_
        refine zf 17 rfl (by kernel_rfl) rfl rfl rfl ?_
        refine za rfl (y_pick true rfl rfl rfl) rfl rfl ?_
        refine zA rfl rfl rfl rfl rfl ?_
        refine lg_nil ?_
        refine nx (zk3 1 2 8 rfl rfl rfl fn) ?_
        refine cg_ct rfl ?_
        refine cg_seq ?_
        refine cg_region ?_
        refine zA rfl rfl rfl rfl rfl ?_
        refine lg_nil ?_
        refine nx (zk1 2 rfl fn) ?_
        refine cg_ret ?_
        refine eg_block_ret ?_
        refine eg_seq_ret ?_
        have u := u.trans (n1.below.mono u.size)
        exact eg_ret_tmp rfl rfl ⟨_, rfl, congrArg nv (show 4 = lfCheck L by unfold lfCheck; (repeat' split) <;> omega), u⟩
      · refine zt 12 rfl (by kernel_rfl) rfl (yb (decide_eq_false c4) (y_call (large_any hl.cred) (by kernel_rfl) rfl rfl)) rfl rfl ?_
        refine za rfl (y_pick false rfl rfl rfl) rfl rfl ?_
        refine zM rfl rfl rfl rfl rfl ?_
        refine zt 17 rfl (by kernel_rfl) rfl (y_fld (off := 3) (by kernel_rfl) rfl rfl) rfl rfl ?_
        refine zt 17 rfl (by kernel_rfl) rfl (y_cellv (v := l.par.v) r1 rfl (by kernel_rfl) rfl rfl) rfl rfl ?_
        by_cases c5 : 200 < (L.par.length : Int)
        · refine zt 17 rfl (by kernel_rfl) rfl (yb (decide_eq_true c5) (y_call (large_any hl.par) (by kernel_rfl) rfl rfl)) rfl rfl ?_
          refine za rfl (y_pick false rfl rfl rfl) rfl rfl ?_
          refine zA rfl rfl rfl rfl rfl ?_
          refine lg_nil ?_
          refine nx (zk3 1 2 8 rfl rfl rfl fn) ?_
          refine cg_ct rfl ?_
          refine cg_seq ?_
          refine cg_region ?_
          refine zA rfl rfl rfl rfl rfl ?_
          refine lg_nil ?_
          refine nx (zk1 2 rfl fn) ?_
          refine cg_ret ?_
          refine eg_block_ret ?_
          refine eg_seq_ret ?_
          have u := u.trans (n1.below.mono u.size)
          exact eg_ret_tmp rfl rfl ⟨_, rfl, congrArg nv (show 4 = lfCheck L by unfold lfCheck; (repeat' split) <;> omega), u⟩
        · refine zt 17 rfl (by kernel_rfl) rfl (yb (decide_eq_false c5) (y_call (large_any hl.par) (by kernel_rfl) rfl rfl)) rfl rfl ?_
          refine za rfl (y_pick false rfl rfl rfl) rfl rfl ?_
          refine zA rfl rfl rfl rfl rfl ?_
          refine lg_nil ?_
          refine nx (zk3 1 2 8 rfl rfl rfl fn) ?_
          refine cg_cf rfl ?_
          refine cg_seq ?_
          refine cg_region ?_
          refine za rfl (y_fld (off := 2) (by kernel_rfl) rfl rfl) rfl rfl ?_
          refine za rfl (y_cellv (v := nv L.src) r1 rfl (by kernel_rfl) rfl rfl) rfl rfl ?_
          by_cases c6 : 1 ≤ L.src ∧ L.src ≤ 3
          · refine za rfl (yb (decide_eq_true c6) (y_call (known_any L.src _) (by kernel_rfl) rfl rfl)) rfl rfl ?_
            refine za rfl (y_bnot rfl rfl) rfl rfl ?_
            refine zA rfl rfl rfl rfl rfl ?_
            refine lg_nil ?_
            refine nx (zk3 1 2 22 rfl rfl rfl fn) ?_
            refine cg_cf rfl ?_
            refine cg_seq ?_
            refine cg_region ?_
            refine za rfl (y_fld (off := 3) (by kernel_rfl) rfl rfl) rfl rfl ?_
            refine za rfl (y_cellv (v := l.par.v) r1 rfl (by kernel_rfl) rfl rfl) rfl rfl ?_
            refine za rfl (y_lenS (el := 5) hl.par (by kernel_rfl) rfl rfl) rfl rfl ?_
            by_cases c7 : 0 < (L.par.length : Int)
            · refine za rfl (yb (decide_eq_true c7) (yi_gtr rfl rfl rfl)) rfl rfl ?_
              refine zM rfl rfl rfl rfl rfl ?_
              refine zt 32 rfl (by kernel_rfl) rfl (y_fld (off := 2) (by kernel_rfl) rfl rfl) rfl rfl ?_
              refine zt 32 rfl (by kernel_rfl) rfl (y_cellv (v := nv L.src) r1 rfl (by kernel_rfl) rfl rfl) rfl rfl ?_
              by_cases c8 : L.src = 3
              · refine zt 32 rfl (by kernel_rfl) rfl (yb (nd_f c8) (yi_neq rfl rfl rfl)) rfl rfl ?_
                refine za rfl (y_pick true rfl rfl rfl) rfl rfl ?_
                refine zA rfl rfl rfl rfl rfl ?_
                refine lg_nil ?_
                refine nx (zk2 2 27 rfl rfl fn) ?_
                refine cg_cf rfl ?_
                refine cg_skip ?_
                refine eg_block_norm ?_
                refine nx (zk1 2 rfl fn) ?_
                refine cg_seq ?_
                refine cg_region ?_
                refine zA rfl rfl rfl rfl rfl ?_
                refine lg_nil ?_
                refine nx (zk1 2 rfl fn) ?_
                refine cg_ret ?_
                have u := u.trans (n1.below.mono u.size)
                exact eg_ret_tmp rfl rfl ⟨_, rfl, congrArg nv (show 0 = lfCheck L by unfold lfCheck; (repeat' split) <;> omega), u⟩
              · refine zt 32 rfl (by kernel_rfl) rfl (yb (nd_t c8) (yi_neq rfl rfl rfl)) rfl rfl ?_
                refine za rfl (y_pick true rfl rfl rfl) rfl rfl ?_
                refine zA rfl rfl rfl rfl rfl ?_
                refine lg_nil ?_
                refine nx (zk2 2 27 rfl rfl fn) ?_
                refine cg_ct rfl ?_
                refine cg_seq ?_
                refine cg_region ?_
                refine zA rfl rfl rfl rfl rfl ?_
                refine lg_nil ?_
                refine nx (zk1 2 rfl fn) ?_
                refine cg_ret ?_
                refine eg_block_ret ?_
                refine eg_seq_ret ?_
                have u := u.trans (n1.below.mono u.size)
                exact eg_ret_tmp rfl rfl ⟨_, rfl, congrArg nv (show 2 = lfCheck L by unfold lfCheck; (repeat' split) <;> omega), u⟩
            · refine za rfl (yb (decide_eq_false c7) (yi_gtr rfl rfl rfl)) rfl rfl ?_
              refine zM rfl rfl rfl rfl rfl ?_
              refine zf 32 rfl (by kernel_rfl) rfl rfl rfl ?_
              refine zf 32 rfl (by kernel_rfl) rfl rfl rfl ?_
              refine zf 32 rfl (by kernel_rfl) rfl rfl rfl ?_
              refine za rfl (y_pick false rfl rfl rfl) rfl rfl ?_
              refine zA rfl rfl rfl rfl rfl ?_
              refine lg_nil ?_
              refine nx (zk2 2 27 rfl rfl fn) ?_
              refine cg_cf rfl ?_
              refine cg_skip ?_
              refine eg_block_norm ?_
              refine nx (zk1 2 rfl fn) ?_
              refine cg_seq ?_
              refine cg_region ?_
              refine zA rfl rfl rfl rfl rfl ?_
              refine lg_nil ?_
              refine nx (zk1 2 rfl fn) ?_
              refine cg_ret ?_
              have u := u.trans (n1.below.mono u.size)
              exact eg_ret_tmp rfl rfl ⟨_, rfl, congrArg nv (show 0 = lfCheck L by unfold lfCheck; (repeat' split) <;> omega), u⟩
          · refine za rfl (yb (decide_eq_false c6) (y_call (known_any L.src _) (by kernel_rfl) rfl rfl)) rfl rfl ?_
            refine za rfl (y_bnot rfl rfl) rfl rfl ?_
            refine zA rfl rfl rfl rfl rfl ?_
            refine lg_nil ?_
            refine nx (zk3 1 2 22 rfl rfl rfl fn) ?_
            refine cg_ct rfl ?_
            refine cg_seq ?_
            refine cg_region ?_
            refine zA rfl rfl rfl rfl rfl ?_
            refine lg_nil ?_
            refine nx (zk1 2 rfl fn) ?_
            refine cg_ret ?_
            refine eg_block_ret ?_
            refine eg_seq_ret ?_
            have u := u.trans (n1.below.mono u.size)
            exact eg_ret_tmp rfl rfl ⟨_, rfl, congrArg nv (show 7 = lfCheck L by unfold lfCheck; (repeat' split) <;> omega), u⟩
theorem same_any {W : World} {B : Nat} {l m : LfV} {L M : Lf} (hl : IsLf W B l L) (hm : IsLf W B m M) (hB : B ≤ W.heap.size) : Calls Tryd.prog 59 #[.agg (l.cs L), .agg (m.cs M)] W fun e W' => ∃ v, e = .returned v ∧ v = .bool (decide (LfSame L M)) ∧ Below W.heap.size W W' := by
  refine calls_cg (n := 31) Tryd.func59 rfl Tryd.ntmps59 (by simp) ?_
  show CG _ _ _ [(0, .agg (l.cs L)), (1, .agg (m.cs M))] _ _
  have u := Below.refl W.heap.size W
  refine cg_seq ?_
  refine cg_region ?_
  refine lg_boxw (want_none (by rfl)) rfl rfl (by kernel_rfl) rfl (by decide) fun b1 w1 n1 => ?_
  have r1 := n1.row
  have k1 := n1.blk
  have z1 := n1.size
  have lt1 : b1 < w1.heap.size := by omega
  refine lg_boxw (want_none (by rfl)) rfl rfl (by kernel_rfl) rfl (by decide) fun b2 w2 n2 => ?_
  have r2 := n2.row
  have k2 := n2.blk
  have z2 := n2.size
  have lt2 : b2 < w2.heap.size := by omega
  refine zA rfl rfl rfl rfl rfl ?_
  refine lg_nil ?_
  refine nx (zk3 2 3 4 rfl rfl rfl fn) ?_
  refine cg_seq ?_
  refine cg_region ?_
  refine za rfl (y_fld (off := 0) (by kernel_rfl) rfl rfl) rfl rfl ?_
  have r1 := n2.keep r1
  refine za rfl (y_cellv (v := l.enc.v) r1 rfl (by kernel_rfl) rfl rfl) rfl rfl ?_
  refine za rfl (y_fld (off := 0) (by kernel_rfl) rfl rfl) rfl rfl ?_
  refine za rfl (y_cellv (v := m.enc.v) r2 rfl (by kernel_rfl) rfl rfl) rfl rfl ?_
  have hl := hl.below (n1.below.mono (by omega))
  have hl := hl.below (n2.below.mono (by omega))
  have hm := hm.below (n1.below.mono (by omega))
  have hm := hm.below (n2.below.mono (by omega))
  by_cases c3 : L.enc = M.enc
  · refine za rfl (yb (decide_eq_true c3) (y_call (bytesEq_S hl.enc hm.enc) (by kernel_rfl) rfl rfl)) rfl rfl ?_
    refine zM rfl rfl rfl rfl rfl ?_
    refine zt 10 rfl (by kernel_rfl) rfl (y_fld (off := 1) (by kernel_rfl) rfl rfl) rfl rfl ?_
    refine zt 10 rfl (by kernel_rfl) rfl (y_cellv (v := l.cred.v) r1 rfl (by kernel_rfl) rfl rfl) rfl rfl ?_
    refine zt 10 rfl (by kernel_rfl) rfl (y_fld (off := 1) (by kernel_rfl) rfl rfl) rfl rfl ?_
    refine zt 10 rfl (by kernel_rfl) rfl (y_cellv (v := m.cred.v) r2 rfl (by kernel_rfl) rfl rfl) rfl rfl ?_
    by_cases c4 : L.cred = M.cred
    · refine zt 10 rfl (by kernel_rfl) rfl (yb (decide_eq_true c4) (y_call (bytesEq_S hl.cred hm.cred) (by kernel_rfl) rfl rfl)) rfl rfl ?_
      refine za rfl (y_pick true rfl rfl rfl) rfl rfl ?_
      refine zM rfl rfl rfl rfl rfl ?_
      refine zt 17 rfl (by kernel_rfl) rfl (y_fld (off := 2) (by kernel_rfl) rfl rfl) rfl rfl ?_
      refine zt 17 rfl (by kernel_rfl) rfl (y_cellv (v := nv L.src) r1 rfl (by kernel_rfl) rfl rfl) rfl rfl ?_
      refine zt 17 rfl (by kernel_rfl) rfl (y_fld (off := 2) (by kernel_rfl) rfl rfl) rfl rfl ?_
      refine zt 17 rfl (by kernel_rfl) rfl (y_cellv (v := nv M.src) r2 rfl (by kernel_rfl) rfl rfl) rfl rfl ?_
      by_cases c5 : L.src = M.src
      · refine zt 17 rfl (by kernel_rfl) rfl (yb (decide_eq_true c5) (yi_eql rfl rfl rfl)) rfl rfl ?_
        refine za rfl (y_pick true rfl rfl rfl) rfl rfl ?_
        refine zM rfl rfl rfl rfl rfl ?_
        refine zt 24 rfl (by kernel_rfl) rfl (y_fld (off := 3) (by kernel_rfl) rfl rfl) rfl rfl ?_
        refine zt 24 rfl (by kernel_rfl) rfl (y_cellv (v := l.par.v) r1 rfl (by kernel_rfl) rfl rfl) rfl rfl ?_
        refine zt 24 rfl (by kernel_rfl) rfl (y_fld (off := 3) (by kernel_rfl) rfl rfl) rfl rfl ?_
        refine zt 24 rfl (by kernel_rfl) rfl (y_cellv (v := m.par.v) r2 rfl (by kernel_rfl) rfl rfl) rfl rfl ?_
        by_cases c6 : L.par = M.par
        · refine zt 24 rfl (by kernel_rfl) rfl (yb (decide_eq_true c6) (y_call (bytesEq_S hl.par hm.par) (by kernel_rfl) rfl rfl)) rfl rfl ?_
          refine za rfl (y_pick true rfl rfl rfl) rfl rfl ?_
          refine zA rfl rfl rfl rfl rfl ?_
          refine lg_nil ?_
          refine nx (zk1 4 rfl fn) ?_
          refine cg_ret ?_
          have u := u.trans (n1.below.mono u.size)
          have u := u.trans (n2.below.mono u.size)
          exact eg_ret_tmp rfl rfl ⟨_, rfl, congrArg Value.bool (show true = decide (LfSame L M) from (decide_eq_true (by simp [LfSame, *])).symm), u⟩
        · refine zt 24 rfl (by kernel_rfl) rfl (yb (decide_eq_false c6) (y_call (bytesEq_S hl.par hm.par) (by kernel_rfl) rfl rfl)) rfl rfl ?_
          refine za rfl (y_pick true rfl rfl rfl) rfl rfl ?_
          refine zA rfl rfl rfl rfl rfl ?_
          refine lg_nil ?_
          refine nx (zk1 4 rfl fn) ?_
          refine cg_ret ?_
          have u := u.trans (n1.below.mono u.size)
          have u := u.trans (n2.below.mono u.size)
          exact eg_ret_tmp rfl rfl ⟨_, rfl, congrArg Value.bool (show false = decide (LfSame L M) from (decide_eq_false (by simp [LfSame, *])).symm), u⟩
      · refine zt 17 rfl (by kernel_rfl) rfl (yb (decide_eq_false c5) (yi_eql rfl rfl rfl)) rfl rfl ?_
        refine za rfl (y_pick true rfl rfl rfl) rfl rfl ?_
        refine zM rfl rfl rfl rfl rfl ?_
        refine zf 24 rfl (by kernel_rfl) rfl rfl rfl ?_
        refine zf 24 rfl (by kernel_rfl) rfl rfl rfl ?_
        refine zf 24 rfl (by kernel_rfl) rfl rfl rfl ?_
        refine zf 24 rfl (by kernel_rfl) rfl rfl rfl ?_
        refine zf 24 rfl (by kernel_rfl) rfl rfl rfl ?_
        refine za rfl (y_pick false rfl rfl rfl) rfl rfl ?_
        refine zA rfl rfl rfl rfl rfl ?_
        refine lg_nil ?_
        refine nx (zk1 4 rfl fn) ?_
        refine cg_ret ?_
        have u := u.trans (n1.below.mono u.size)
        have u := u.trans (n2.below.mono u.size)
        exact eg_ret_tmp rfl rfl ⟨_, rfl, congrArg Value.bool (show false = decide (LfSame L M) from (decide_eq_false (by simp [LfSame, *])).symm), u⟩
    · refine zt 10 rfl (by kernel_rfl) rfl (yb (decide_eq_false c4) (y_call (bytesEq_S hl.cred hm.cred) (by kernel_rfl) rfl rfl)) rfl rfl ?_
      refine za rfl (y_pick true rfl rfl rfl) rfl rfl ?_
      refine zM rfl rfl rfl rfl rfl ?_
      refine zf 17 rfl (by kernel_rfl) rfl rfl rfl ?_
      refine zf 17 rfl (by kernel_rfl) rfl rfl rfl ?_
      refine zf 17 rfl (by kernel_rfl) rfl rfl rfl ?_
      refine zf 17 rfl (by kernel_rfl) rfl rfl rfl ?_
      refine zf 17 rfl (by kernel_rfl) rfl rfl rfl ?_
      refine za rfl (y_pick false rfl rfl rfl) rfl rfl ?_
      refine zM rfl rfl rfl rfl rfl ?_
      refine zf 24 rfl (by kernel_rfl) rfl rfl rfl ?_
      refine zf 24 rfl (by kernel_rfl) rfl rfl rfl ?_
      refine zf 24 rfl (by kernel_rfl) rfl rfl rfl ?_
      refine zf 24 rfl (by kernel_rfl) rfl rfl rfl ?_
      refine zf 24 rfl (by kernel_rfl) rfl rfl rfl ?_
      refine za rfl (y_pick false rfl rfl rfl) rfl rfl ?_
      refine zA rfl rfl rfl rfl rfl ?_
      refine lg_nil ?_
      refine nx (zk1 4 rfl fn) ?_
      refine cg_ret ?_
      have u := u.trans (n1.below.mono u.size)
      have u := u.trans (n2.below.mono u.size)
      exact eg_ret_tmp rfl rfl ⟨_, rfl, congrArg Value.bool (show false = decide (LfSame L M) from (decide_eq_false (by simp [LfSame, *])).symm), u⟩
  · refine za rfl (yb (decide_eq_false c3) (y_call (bytesEq_S hl.enc hm.enc) (by kernel_rfl) rfl rfl)) rfl rfl ?_
    refine zM rfl rfl rfl rfl rfl ?_
    refine zf 10 rfl (by kernel_rfl) rfl rfl rfl ?_
    refine zf 10 rfl (by kernel_rfl) rfl rfl rfl ?_
    refine zf 10 rfl (by kernel_rfl) rfl rfl rfl ?_
    refine zf 10 rfl (by kernel_rfl) rfl rfl rfl ?_
    refine zf 10 rfl (by kernel_rfl) rfl rfl rfl ?_
    refine za rfl (y_pick false rfl rfl rfl) rfl rfl ?_
    refine zM rfl rfl rfl rfl rfl ?_
    refine zf 17 rfl (by kernel_rfl) rfl rfl rfl ?_
    refine zf 17 rfl (by kernel_rfl) rfl rfl rfl ?_
    refine zf 17 rfl (by kernel_rfl) rfl rfl rfl ?_
    refine zf 17 rfl (by kernel_rfl) rfl rfl rfl ?_
    refine zf 17 rfl (by kernel_rfl) rfl rfl rfl ?_
    refine za rfl (y_pick false rfl rfl rfl) rfl rfl ?_
    refine zM rfl rfl rfl rfl rfl ?_
    refine zf 24 rfl (by kernel_rfl) rfl rfl rfl ?_
    refine zf 24 rfl (by kernel_rfl) rfl rfl rfl ?_
    refine zf 24 rfl (by kernel_rfl) rfl rfl rfl ?_
    refine zf 24 rfl (by kernel_rfl) rfl rfl rfl ?_
    refine zf 24 rfl (by kernel_rfl) rfl rfl rfl ?_
    refine za rfl (y_pick false rfl rfl rfl) rfl rfl ?_
    refine zA rfl rfl rfl rfl rfl ?_
    refine lg_nil ?_
    refine nx (zk1 4 rfl fn) ?_
    refine cg_ret ?_
    have u := u.trans (n1.below.mono u.size)
    have u := u.trans (n2.below.mono u.size)
    exact eg_ret_tmp rfl rfl ⟨_, rfl, congrArg Value.bool (show false = decide (LfSame L M) from (decide_eq_false (by simp [LfSame, *])).symm), u⟩
/- LfGet:
  leaf.Get, and its closures.
-/

/- LfPut:
  leaf.Put.
-/

/- PnNum:
  The program's and the document's small questions of lists of whole numbers.
-/
section
variable {w W : World} {B B2 : Nat} {s s2 : SlV} {xs ys : List Int}
theorem has_any (h : SlN w B s xs) (n : Int) : Calls Tryd.prog 26 #[s.v, nv n] w fun e w' => e = .returned (.bool (decide (n ∈ xs))) ∧ w' = w := by
  refine calls_cg (n := 18) Tryd.func26 rfl Tryd.ntmps26 (by simp) ?_
  show CG _ _ _ [(0, s.v), (1, nv n)] _ _
  refine cg_seq ?_
  refine cg_region ?_
  refine zA rfl rfl rfl rfl rfl ?_
  refine lg_nil ?_
  refine nx (zk3 0 1 4 rfl rfl rfl fn) ?_
  refine cg_seq ?_
  refine cg_seq ?_
  refine cg_region ?_
  refine zA rfl rfl rfl rfl rfl ?_
  refine lg_nil ?_
  refine nx (zk3 0 1 4 rfl rfl rfl (zk1 5 rfl fn)) ?_
  refine cg_block ?_
  refine cg_loopE (fun t a v => Holds 18 [(0, s.v), (1, nv n), (5, nv ((t : Nat) : Int))] a ∧ v = w ∧ t ≤ xs.length ∧ (∀ j, j < t → ¬ (xs.getD j 0) = n)) xs.length (fun a ha => ⟨ha.keep (fk rfl (fk rfl (fk rfl fn))), rfl, (Nat.zero_le _), (fun j hj => absurd hj (Nat.not_lt_zero _))⟩) ?_
  rintro t a v ht ⟨ha, rfl, tle, hno⟩
  refine cg_at ha ?_
  clear ha a
  have le_h := h.len; have ca_h := h.cap
  refine cg_seq ?_
  refine cg_seq ?_
  refine cg_region ?_
  refine zM rfl rfl rfl rfl rfl ?_
  refine zM rfl rfl rfl rfl rfl ?_
  refine za rfl (y_lenM (el := 3) h.len (by kernel_rfl) rfl rfl) rfl rfl ?_
  by_cases c1 : ((t : Nat) : Int) < (xs.length : Int)
  · refine za rfl (yb (decide_eq_true c1) (yi_lss rfl rfl rfl)) rfl rfl ?_
    refine lg_nil ?_
    refine nx (zk5 0 1 5 6 7 rfl rfl rfl rfl rfl (zk2 8 9 rfl rfl fn)) ?_
    refine cg_ct rfl ?_
    refine cg_skip ?_
    refine nx (zk5 0 1 5 6 7 rfl rfl rfl rfl rfl (zk2 8 9 rfl rfl fn)) ?_
    refine cg_seq ?_
    refine cg_block ?_
    refine cg_seq ?_
    refine cg_region ?_
    refine zM rfl rfl rfl rfl rfl ?_
    refine zM rfl rfl rfl rfl rfl ?_
    refine za rfl (y_ixT (i := t) (iI := ((t : Nat) : Int)) h (by omega) (by omega) rfl rfl rfl) rfl rfl ?_
    refine za rfl (y_ldT (i := t) h (by omega) rfl rfl) rfl rfl ?_
    refine zM rfl rfl rfl rfl rfl ?_
    by_cases c2 : (xs.getD t 0) = n
    · refine za rfl (yb (decide_eq_true c2) (yi_eql rfl rfl rfl)) rfl rfl ?_
      refine lg_nil ?_
      refine nx (zk5 0 1 5 6 7 rfl rfl rfl rfl rfl (zk5 8 9 12 13 14 rfl rfl rfl rfl rfl (zk3 15 16 17 rfl rfl rfl fn))) ?_
      refine cg_ct rfl ?_
      refine cg_seq ?_
      refine cg_region ?_
      refine zA rfl rfl rfl rfl rfl ?_
      refine lg_nil ?_
      refine nx (zk5 0 1 5 6 7 rfl rfl rfl rfl rfl (zk5 8 9 12 13 14 rfl rfl rfl rfl rfl (zk3 15 16 17 rfl rfl rfl (zk1 4 rfl fn)))) ?_
      refine cg_ret ?_
      refine eg_block_ret ?_
      refine eg_seq_ret ?_
      refine eg_seq_ret ?_
      refine eg_block_ret ?_
      refine eg_seq_ret ?_
      exact eg_ret_tmp rfl rfl ⟨congrArg (fun b => Ending.returned (.bool b)) (decide_eq_true (by rw [← c2]; exact getD_mem (by omega))).symm, rfl⟩
    · refine za rfl (yb (decide_eq_false c2) (yi_eql rfl rfl rfl)) rfl rfl ?_
      refine lg_nil ?_
      refine nx (zk5 0 1 5 6 7 rfl rfl rfl rfl rfl (zk5 8 9 12 13 14 rfl rfl rfl rfl rfl (zk3 15 16 17 rfl rfl rfl fn))) ?_
      refine cg_cf rfl ?_
      refine cg_skip ?_
      refine eg_block_norm ?_
      refine nx (zk5 0 1 5 6 7 rfl rfl rfl rfl rfl (zk5 8 9 12 13 14 rfl rfl rfl rfl rfl (zk3 15 16 17 rfl rfl rfl fn))) ?_
      refine cg_region ?_
      refine zM rfl rfl rfl rfl rfl ?_
      refine za rfl (yv (congrArg nv (show ((t : Nat) : Int) + 1 = ((t + 1 : Nat) : Int) by omega)) (yi_add rfl rfl rfl (by omega) (by omega))) rfl rfl ?_
      refine zA rfl rfl rfl rfl rfl ?_
      refine lg_nil ?_
      exact fun a ha => (show t < xs.length ∧ _ from ⟨(by omega), ha.keep (fk rfl (fk rfl (fk rfl fn))), rfl, (by omega), (fun j hj => if q : j < t then hno j q else by
          obtain rfl : j = t := by omega
          exact c2)⟩)
  · refine za rfl (yb (decide_eq_false c1) (yi_lss rfl rfl rfl)) rfl rfl ?_
    refine lg_nil ?_
    refine nx (zk5 0 1 5 6 7 rfl rfl rfl rfl rfl (zk2 8 9 rfl rfl fn)) ?_
    refine cg_cf rfl ?_
    refine cg_exit ?_
    refine eg_seq_exit ?_
    refine eg_seq_exit ?_
    refine eg_block_exit ?_
    refine nx (E' := []) fn ?_
    refine cg_seq ?_
    refine cg_region ?_
    refine zA rfl rfl rfl rfl rfl ?_
    refine lg_nil ?_
    refine nx (zk1 4 rfl fn) ?_
    refine cg_ret ?_
    exact eg_ret_tmp rfl rfl ⟨congrArg (fun b => Ending.returned (.bool b)) (decide_eq_false (fun q => by obtain ⟨i, hi, e⟩ := mem_getD q; exact hno i (by omega) e)).symm, rfl⟩
theorem outside_any (n : Int) (w : World) : Calls Tryd.prog 79 #[nv n] w fun e w' => e = .returned (.bool (decide (n < 0 ∨ 64 ≤ n))) ∧ w' = w := by
  refine calls_cg (n := 9) Tryd.func79 rfl Tryd.ntmps79 (by simp) ?_
  show CG _ _ _ [(0, nv n)] _ _
  refine cg_seq ?_
  refine cg_region ?_
  refine zA rfl rfl rfl rfl rfl ?_
  refine lg_nil ?_
  refine nx (zk2 0 2 rfl rfl fn) ?_
  refine cg_seq ?_
  refine cg_region ?_
  refine zM rfl rfl rfl rfl rfl ?_
  by_cases c1 : n < 0
  · refine za rfl (yb (decide_eq_true c1) (yi_lss rfl rfl rfl)) rfl rfl ?_
    refine zM rfl rfl rfl rfl rfl ?_
    refine zf 5 rfl (by kernel_rfl) rfl rfl rfl ?_
    refine zf 5 rfl (by kernel_rfl) rfl rfl rfl ?_
    refine za rfl (y_pick true rfl rfl rfl) rfl rfl ?_
    refine zA rfl rfl rfl rfl rfl ?_
    refine lg_nil ?_
    refine nx (zk1 2 rfl fn) ?_
    refine cg_ret ?_
    exact eg_ret_tmp rfl rfl ⟨congrArg (fun b => Ending.returned (.bool b)) (decide_eq_true (by omega)).symm, rfl⟩
  · refine za rfl (yb (decide_eq_false c1) (yi_lss rfl rfl rfl)) rfl rfl ?_
    refine zM rfl rfl rfl rfl rfl ?_
    refine zt 5 rfl (by kernel_rfl) rfl (y_move rfl rfl) rfl rfl ?_
    by_cases c2 : 64 ≤ n
    · refine zt 5 rfl (by kernel_rfl) rfl (yb (decide_eq_true c2) (yi_geq rfl rfl rfl)) rfl rfl ?_
      refine za rfl (y_pick false rfl rfl rfl) rfl rfl ?_
      refine zA rfl rfl rfl rfl rfl ?_
      refine lg_nil ?_
      refine nx (zk1 2 rfl fn) ?_
      refine cg_ret ?_
      exact eg_ret_tmp rfl rfl ⟨congrArg (fun b => Ending.returned (.bool b)) (decide_eq_true (by omega)).symm, rfl⟩
    · refine zt 5 rfl (by kernel_rfl) rfl (yb (decide_eq_false c2) (yi_geq rfl rfl rfl)) rfl rfl ?_
      refine za rfl (y_pick false rfl rfl rfl) rfl rfl ?_
      refine zA rfl rfl rfl rfl rfl ?_
      refine lg_nil ?_
      refine nx (zk1 2 rfl fn) ?_
      refine cg_ret ?_
      exact eg_ret_tmp rfl rfl ⟨congrArg (fun b => Ending.returned (.bool b)) (decide_eq_false (by omega)).symm, rfl⟩
/-- Where the first number stands that no leaf has. -/
def outI (xs : List Int) : Int := if ∃ x ∈ xs, x < 0 ∨ 64 ≤ x then ((xs.takeWhile fun x => !decide (x < 0 ∨ 64 ≤ x)).length : Int) else -1
theorem outI_at : ∀ {xs : List Int} {t : Nat}, (∀ j, j < t → ¬ (xs.getD j 0 < 0 ∨ 64 ≤ xs.getD j 0)) → t < xs.length → (xs.getD t 0 < 0 ∨ 64 ≤ xs.getD t 0) → outI xs = (t : Int) := by
  intro xs t hno ht hx
  have he : ∃ x ∈ xs, x < 0 ∨ 64 ≤ x := ⟨_, getD_mem ht, hx⟩
  rw [outI, if_pos he]
  refine congrArg Int.ofNat ?_
  clear he
  induction xs generalizing t with
  | nil => exact absurd ht (Nat.not_lt_zero _)
  | cons y r ih =>
    cases t with
    | zero =>
      have hx' : y < 0 ∨ 64 ≤ y := hx
      rw [List.takeWhile_cons, decide_eq_true hx']
      rfl
    | succ t =>
      have h0 : ¬ (y < 0 ∨ 64 ≤ y) := hno 0 (by omega)
      rw [List.takeWhile_cons, decide_eq_false h0]
      show (y :: _).length = _
      rw [List.length_cons, ih (fun j hj => hno (j + 1) (by omega)) (by simpa using ht) hx]
theorem outI_no {xs : List Int} (h : ∀ j, j < xs.length → ¬ (xs.getD j 0 < 0 ∨ 64 ≤ xs.getD j 0)) : outI xs = -1 := by
  rw [outI, if_neg]
  rintro ⟨x, hx, h1⟩
  obtain ⟨i, hi, rfl⟩ := mem_getD hx
  exact h i hi h1
theorem outI_iff (xs : List Int) : 0 ≤ outI xs ↔ ∃ x ∈ xs, x < 0 ∨ 64 ≤ x := by
  unfold outI
  split
  · rename_i h
    exact ⟨fun _ => h, fun _ => by omega⟩
  · rename_i h
    exact ⟨fun q => absurd q (by decide), fun q => absurd q h⟩
theorem indexOut_any (h : SlN w B s xs) : Calls Tryd.prog 87 #[s.v, .func (.func 79) #[] #[]] w fun e w' => e = .returned (nv (outI xs)) ∧ w' = w := by
  refine calls_cg (n := 19) Tryd.func87 rfl Tryd.ntmps87 (by simp) ?_
  show CG _ _ _ [(0, s.v), (1, .func (.func 79) #[] #[])] _ _
  refine cg_seq ?_
  refine cg_region ?_
  refine zA rfl rfl rfl rfl rfl ?_
  refine lg_nil ?_
  refine nx (zk3 0 1 4 rfl rfl rfl fn) ?_
  refine cg_seq ?_
  refine cg_seq ?_
  refine cg_region ?_
  refine zM rfl rfl rfl rfl rfl ?_
  refine za rfl (y_lenM (el := 3) h.len (by kernel_rfl) rfl rfl) rfl rfl ?_
  refine zM rfl rfl rfl rfl rfl ?_
  refine lg_nil ?_
  refine nx (zk5 0 1 4 7 8 rfl rfl rfl rfl rfl fn) ?_
  refine cg_block ?_
  refine cg_loopE (fun t a v => Holds 19 [(0, s.v), (1, .func (.func 79) #[] #[]), (7, nv (xs.length : Int)), (8, nv ((t : Nat) : Int))] a ∧ v = w ∧ t ≤ xs.length ∧ (∀ j, j < t → ¬ ((xs.getD j 0) < 0 ∨ 64 ≤ (xs.getD j 0)))) xs.length (fun a ha => ⟨ha.keep (fk rfl (fk rfl (fk rfl (fk rfl fn)))), rfl, (Nat.zero_le _), (fun j hj => absurd hj (Nat.not_lt_zero _))⟩) ?_
  rintro t a v ht ⟨ha, rfl, tle, hno⟩
  refine cg_at ha ?_
  clear ha a
  have le_h := h.len; have ca_h := h.cap
  refine cg_seq ?_
  refine cg_region ?_
  by_cases c1 : ((t : Nat) : Int) < (xs.length : Int)
  · refine za rfl (yb (decide_eq_true c1) (yi_lss rfl rfl rfl)) rfl rfl ?_
    refine lg_nil ?_
    refine nx (zk5 0 1 7 8 9 rfl rfl rfl rfl rfl fn) ?_
    refine cg_seq ?_
    refine cg_ct rfl ?_
    refine cg_skip ?_
    refine nx (zk5 0 1 7 8 9 rfl rfl rfl rfl rfl fn) ?_
    refine cg_seq ?_
    refine cg_block ?_
    refine cg_seq ?_
    refine cg_region ?_
    refine zM rfl rfl rfl rfl rfl ?_
    refine zA rfl rfl rfl rfl rfl ?_
    refine lg_nil ?_
    refine nx (zk5 0 1 7 8 9 rfl rfl rfl rfl rfl (zk2 10 5 rfl rfl fn)) ?_
    refine cg_seq ?_
    refine cg_region ?_
    refine zM rfl rfl rfl rfl rfl ?_
    refine zM rfl rfl rfl rfl rfl ?_
    refine zM rfl rfl rfl rfl rfl ?_
    refine za rfl (y_ixT (i := t) (iI := ((t : Nat) : Int)) h (by omega) (by omega) rfl rfl rfl) rfl rfl ?_
    refine za rfl (y_ldT (i := t) h (by omega) rfl rfl) rfl rfl ?_
    by_cases c2 : (xs.getD t 0) < 0 ∨ 64 ≤ (xs.getD t 0)
    · refine za rfl (yb (decide_eq_true c2) (y_callf (outside_any (xs.getD t 0) _) (by kernel_rfl) rfl rfl rfl)) rfl rfl ?_
      refine lg_nil ?_
      refine nx (zk5 0 1 7 8 9 rfl rfl rfl rfl rfl (zk5 10 5 11 12 13 rfl rfl rfl rfl rfl (zk3 14 15 16 rfl rfl rfl fn))) ?_
      refine cg_ct rfl ?_
      refine cg_seq ?_
      refine cg_region ?_
      refine zM rfl rfl rfl rfl rfl ?_
      refine zA rfl rfl rfl rfl rfl ?_
      refine lg_nil ?_
      refine nx (zk5 0 1 7 8 9 rfl rfl rfl rfl rfl (zk5 10 5 11 12 13 rfl rfl rfl rfl rfl (zk5 14 15 16 17 4 rfl rfl rfl rfl rfl fn))) ?_
      refine cg_ret ?_
      refine eg_block_ret ?_
      refine eg_seq_ret ?_
      refine eg_seq_ret ?_
      refine eg_block_ret ?_
      refine eg_seq_ret ?_
      exact eg_ret_tmp rfl rfl ⟨congrArg (fun b => Ending.returned (nv b)) (outI_at hno (by omega) c2).symm, rfl⟩
    · refine za rfl (yb (decide_eq_false c2) (y_callf (outside_any (xs.getD t 0) _) (by kernel_rfl) rfl rfl rfl)) rfl rfl ?_
      refine lg_nil ?_
      refine nx (zk5 0 1 7 8 9 rfl rfl rfl rfl rfl (zk5 10 5 11 12 13 rfl rfl rfl rfl rfl (zk3 14 15 16 rfl rfl rfl fn))) ?_
      refine cg_cf rfl ?_
      refine cg_skip ?_
      refine eg_block_norm ?_
      refine nx (zk5 0 1 7 8 9 rfl rfl rfl rfl rfl (zk5 10 5 11 12 13 rfl rfl rfl rfl rfl (zk3 14 15 16 rfl rfl rfl fn))) ?_
      refine cg_region ?_
      refine za rfl (yv (congrArg nv (show ((t : Nat) : Int) + 1 = ((t + 1 : Nat) : Int) by omega)) (yi_add rfl rfl rfl (by omega) (by omega))) rfl rfl ?_
      refine zM rfl rfl rfl rfl rfl ?_
      refine lg_nil ?_
      exact fun a ha => (show t < xs.length ∧ _ from ⟨(by omega), ha.keep (fk rfl (fk rfl (fk rfl (fk rfl fn)))), rfl, (by omega), (fun j hj => if q : j < t then hno j q else by
          obtain rfl : j = t := by omega
          exact c2)⟩)
  · refine za rfl (yb (decide_eq_false c1) (yi_lss rfl rfl rfl)) rfl rfl ?_
    refine lg_nil ?_
    refine nx (zk5 0 1 7 8 9 rfl rfl rfl rfl rfl fn) ?_
    refine cg_seq ?_
    refine cg_cf rfl ?_
    refine cg_exit ?_
    refine eg_seq_exit ?_
    refine eg_seq_exit ?_
    refine eg_block_exit ?_
    refine nx (E' := []) fn ?_
    refine cg_seq ?_
    refine cg_region ?_
    refine zA rfl rfl rfl rfl rfl ?_
    refine lg_nil ?_
    refine nx (zk1 4 rfl fn) ?_
    refine cg_ret ?_
    exact eg_ret_tmp rfl rfl ⟨congrArg (fun b => Ending.returned (nv b)) (outI_no fun j hj => hno j (by omega)).symm, rfl⟩
theorem containsOut_any (h : SlN w B s xs) : Calls Tryd.prog 78 #[s.v, .func (.func 79) #[] #[]] w fun e w' => e = .returned (.bool (decide (∃ x ∈ xs, x < 0 ∨ 64 ≤ x))) ∧ w' = w := by
  refine calls_cg (n := 9) Tryd.func78 rfl Tryd.ntmps78 (by simp) ?_
  show CG _ _ _ [(0, s.v), (1, .func (.func 79) #[] #[])] _ _
  refine cg_seq ?_
  refine cg_region ?_
  refine zA rfl rfl rfl rfl rfl ?_
  refine lg_nil ?_
  refine nx (zk3 0 1 4 rfl rfl rfl fn) ?_
  refine cg_seq ?_
  refine cg_region ?_
  refine zM rfl rfl rfl rfl rfl ?_
  refine zM rfl rfl rfl rfl rfl ?_
  refine za rfl (y_call (indexOut_any h) (by kernel_rfl) rfl rfl) rfl rfl ?_
  by_cases c1 : 0 ≤ (outI xs)
  · refine za rfl (yb (decide_eq_true c1) (yi_geq rfl rfl rfl)) rfl rfl ?_
    refine zA rfl rfl rfl rfl rfl ?_
    refine lg_nil ?_
    refine nx (zk1 4 rfl fn) ?_
    refine cg_ret ?_
    exact eg_ret_tmp rfl rfl ⟨congrArg (fun b => Ending.returned (.bool b)) (decide_eq_true ((outI_iff xs).1 c1)).symm, rfl⟩
  · refine za rfl (yb (decide_eq_false c1) (yi_geq rfl rfl rfl)) rfl rfl ?_
    refine zA rfl rfl rfl rfl rfl ?_
    refine lg_nil ?_
    refine nx (zk1 4 rfl fn) ?_
    refine cg_ret ?_
    exact eg_ret_tmp rfl rfl ⟨congrArg (fun b => Ending.returned (.bool b)) (decide_eq_false (fun q => c1 ((outI_iff xs).2 q))).symm, rfl⟩
theorem largeP_any (h : Sl w B s xs) : Calls Tryd.prog 77 #[s.v] w fun e w' => e = .returned (.bool (decide (200 < (xs.length : Int)))) ∧ w' = w := by
  refine calls_cg (n := 6) Tryd.func77 rfl Tryd.ntmps77 (by simp) ?_
  show CG _ _ _ [(0, s.v)] _ _
  refine cg_seq ?_
  refine cg_region ?_
  refine zA rfl rfl rfl rfl rfl ?_
  refine lg_nil ?_
  refine nx (zk2 0 2 rfl rfl fn) ?_
  refine cg_seq ?_
  refine cg_region ?_
  refine zM rfl rfl rfl rfl rfl ?_
  refine za rfl (y_lenS (el := 5) h (by kernel_rfl) rfl rfl) rfl rfl ?_
  refine za rfl (yi_gtr rfl rfl rfl) rfl rfl ?_
  refine zA rfl rfl rfl rfl rfl ?_
  refine lg_nil ?_
  refine nx (zk1 2 rfl fn) ?_
  refine cg_ret ?_
  exact eg_ret_tmp rfl rfl ⟨rfl, rfl⟩
theorem ints_S (h : SlN W B s xs) (h2 : SlN W B2 s2 ys) (hB : B ≤ W.heap.size) (hB2 : B2 ≤ W.heap.size) : Calls Tryd.prog 11 #[s.v, s2.v] W fun e w' => ∃ v, e = .returned v ∧ v = .bool (decide (xs = ys)) ∧ Below W.heap.size W w' := by
  refine calls_cg (n := 26) Tryd.func11 rfl Tryd.ntmps11 (by simp) ?_
  show CG _ _ _ [(0, s.v), (1, s2.v)] _ _
  have u := Below.refl W.heap.size W
  have le_h := h.len; have ca_h := h.cap
  have le_h2 := h2.len; have ca_h2 := h2.cap
  refine cg_seq ?_
  refine cg_region ?_
  refine zA rfl rfl rfl rfl rfl ?_
  refine lg_nil ?_
  refine nx (zk3 0 1 4 rfl rfl rfl fn) ?_
  refine cg_seq ?_
  refine cg_seq ?_
  refine cg_region ?_
  refine zM rfl rfl rfl rfl rfl ?_
  refine za rfl (y_lenM (el := 3) h.len (by kernel_rfl) rfl rfl) rfl rfl ?_
  refine zM rfl rfl rfl rfl rfl ?_
  refine za rfl (y_lenM (el := 3) h2.len (by kernel_rfl) rfl rfl) rfl rfl ?_
  by_cases c1 : (xs.length : Int) = (ys.length : Int)
  · refine za rfl (yb (nd_f c1) (yi_neq rfl rfl rfl)) rfl rfl ?_
    refine lg_nil ?_
    refine nx (zk3 0 1 4 rfl rfl rfl (zk1 10 rfl fn)) ?_
    refine cg_cf rfl ?_
    refine cg_skip ?_
    refine nx (zk3 0 1 4 rfl rfl rfl fn) ?_
    refine cg_seq ?_
    refine cg_seq ?_
    refine cg_region ?_
    refine zA rfl rfl rfl rfl rfl ?_
    refine lg_nil ?_
    refine nx (zk3 0 1 4 rfl rfl rfl (zk1 5 rfl fn)) ?_
    refine cg_block ?_
    refine cg_loopE (fun t a v => Holds 26 [(0, s.v), (1, s2.v), (5, nv ((t : Nat) : Int))] a ∧ SlN v B s xs ∧ SlN v B2 s2 ys ∧ Below W.heap.size W v ∧ t ≤ xs.length ∧ (∀ i, i < t → xs.getD i 0 = ys.getD i 0)) xs.length (fun a ha => ⟨ha.keep (fk rfl (fk rfl (fk rfl fn))), h, h2, u, (Nat.zero_le _), (fun i hi => absurd hi (Nat.not_lt_zero _))⟩) ?_
    rintro t a v ht ⟨ha, h, h2, u, tle, he⟩
    refine cg_at ha ?_
    clear ha a
    have zv := u.size
    refine cg_seq ?_
    refine cg_seq ?_
    refine cg_region ?_
    refine zM rfl rfl rfl rfl rfl ?_
    refine zM rfl rfl rfl rfl rfl ?_
    refine za rfl (y_lenM (el := 3) h.len (by kernel_rfl) rfl rfl) rfl rfl ?_
    by_cases c2 : ((t : Nat) : Int) < (xs.length : Int)
    · refine za rfl (yb (decide_eq_true c2) (yi_lss rfl rfl rfl)) rfl rfl ?_
      refine lg_nil ?_
      refine nx (zk5 0 1 5 11 12 rfl rfl rfl rfl rfl (zk2 13 14 rfl rfl fn)) ?_
      refine cg_ct rfl ?_
      refine cg_skip ?_
      refine nx (zk5 0 1 5 11 12 rfl rfl rfl rfl rfl (zk2 13 14 rfl rfl fn)) ?_
      refine cg_seq ?_
      refine cg_block ?_
      refine cg_seq ?_
      refine cg_still (by kernel_rfl) (by kernel_rfl) fun W3 eW3 => ?_
      have dW3 := below_drew _ _ eW3
      have zW3 := size_drew _ _ eW3
      clear eW3
      refine zsa rfl (y_move rfl rfl) rfl rfl ?_
      refine zsa rfl (y_move rfl rfl) rfl rfl ?_
      have h := h.below (dW3.mono (by omega))
      refine zsa rfl (y_ixT (i := t) (iI := ((t : Nat) : Int)) h (by omega) (by omega) rfl rfl rfl) rfl rfl ?_
      refine zsa rfl (y_ldT (i := t) h (by omega) rfl rfl) rfl rfl ?_
      refine zsa rfl (y_move rfl rfl) rfl rfl ?_
      refine zsa rfl (y_move rfl rfl) rfl rfl ?_
      have h2 := h2.below (dW3.mono (by omega))
      refine zsa rfl (y_ixT (i := t) (iI := ((t : Nat) : Int)) h2 (by omega) (by omega) rfl rfl rfl) rfl rfl ?_
      refine zsa rfl (y_ldT (i := t) h2 (by omega) rfl rfl) rfl rfl ?_
      by_cases c4 : (xs.getD t 0) = (ys.getD t 0)
      · refine zsa rfl (yb (nd_f c4) (yi_neq rfl rfl rfl)) rfl rfl ?_
        refine sg_nil ?_
        refine nx (zk5 0 1 5 11 12 rfl rfl rfl rfl rfl (zk5 13 14 17 18 19 rfl rfl rfl rfl rfl (zk5 20 21 22 23 24 rfl rfl rfl rfl rfl (zk1 25 rfl fn)))) ?_
        refine cg_cf rfl ?_
        refine cg_skip ?_
        refine eg_block_norm ?_
        refine nx (zk5 0 1 5 11 12 rfl rfl rfl rfl rfl (zk5 13 14 17 18 19 rfl rfl rfl rfl rfl (zk5 20 21 22 23 24 rfl rfl rfl rfl rfl (zk1 25 rfl fn)))) ?_
        refine cg_region ?_
        refine zM rfl rfl rfl rfl rfl ?_
        refine za rfl (yv (congrArg nv (show ((t : Nat) : Int) + 1 = ((t + 1 : Nat) : Int) by omega)) (yi_add rfl rfl rfl (by omega) (by omega))) rfl rfl ?_
        refine zA rfl rfl rfl rfl rfl ?_
        refine lg_nil ?_
        have u := u.trans (dW3.mono u.size)
        exact fun a ha => (show t < xs.length ∧ _ from ⟨(by omega), ha.keep (fk rfl (fk rfl (fk rfl fn))), h, h2, u, (by omega), (fun i hi => if q : i < t then he i q else by
            obtain rfl : i = t := by omega
            exact c4)⟩)
      · refine zsa rfl (yb (nd_t c4) (yi_neq rfl rfl rfl)) rfl rfl ?_
        refine sg_nil ?_
        refine nx (zk5 0 1 5 11 12 rfl rfl rfl rfl rfl (zk5 13 14 17 18 19 rfl rfl rfl rfl rfl (zk5 20 21 22 23 24 rfl rfl rfl rfl rfl (zk1 25 rfl fn)))) ?_
        refine cg_ct rfl ?_
        refine cg_seq ?_
        refine cg_region ?_
        refine zA rfl rfl rfl rfl rfl ?_
        refine lg_nil ?_
        refine nx (zk5 0 1 5 11 12 rfl rfl rfl rfl rfl (zk5 13 14 17 18 19 rfl rfl rfl rfl rfl (zk5 20 21 22 23 24 rfl rfl rfl rfl rfl (zk2 25 4 rfl rfl fn)))) ?_
        refine cg_ret ?_
        refine eg_block_ret ?_
        refine eg_seq_ret ?_
        refine eg_seq_ret ?_
        refine eg_block_ret ?_
        refine eg_seq_ret ?_
        have u := u.trans (dW3.mono u.size)
        exact eg_ret_tmp rfl rfl ⟨_, rfl, congrArg Value.bool (decide_eq_false (fun q => c4 (by rw [q]))).symm, u⟩
    · refine za rfl (yb (decide_eq_false c2) (yi_lss rfl rfl rfl)) rfl rfl ?_
      refine lg_nil ?_
      refine nx (zk5 0 1 5 11 12 rfl rfl rfl rfl rfl (zk2 13 14 rfl rfl fn)) ?_
      refine cg_cf rfl ?_
      refine cg_exit ?_
      refine eg_seq_exit ?_
      refine eg_seq_exit ?_
      refine eg_block_exit ?_
      refine nx (E' := []) fn ?_
      refine cg_seq ?_
      refine cg_region ?_
      refine zA rfl rfl rfl rfl rfl ?_
      refine lg_nil ?_
      refine nx (zk1 4 rfl fn) ?_
      refine cg_ret ?_
      exact eg_ret_tmp rfl rfl ⟨_, rfl, congrArg Value.bool (decide_eq_true (list_eq_getD (by omega) fun i hi => he i (by omega))).symm, u⟩
  · refine za rfl (yb (nd_t c1) (yi_neq rfl rfl rfl)) rfl rfl ?_
    refine lg_nil ?_
    refine nx (zk3 0 1 4 rfl rfl rfl (zk1 10 rfl fn)) ?_
    refine cg_ct rfl ?_
    refine cg_seq ?_
    refine cg_region ?_
    refine zA rfl rfl rfl rfl rfl ?_
    refine lg_nil ?_
    refine nx (zk3 0 1 4 rfl rfl rfl fn) ?_
    refine cg_ret ?_
    refine eg_seq_ret ?_
    exact eg_ret_tmp rfl rfl ⟨_, rfl, congrArg Value.bool (decide_eq_false (fun q => by have := congrArg List.length q; omega)).symm, u⟩
theorem equalN_S (h : SlN W B s xs) (h2 : SlN W B2 s2 ys) (hB : B ≤ W.heap.size) (hB2 : B2 ≤ W.heap.size) : Calls Tryd.prog 74 #[s.v, s2.v] W fun e w' => ∃ v, e = .returned v ∧ v = .bool (decide (xs = ys)) ∧ Below W.heap.size W w' := by
  refine calls_cg (n := 26) Tryd.func74 rfl Tryd.ntmps74 (by simp) ?_
  show CG _ _ _ [(0, s.v), (1, s2.v)] _ _
  have u := Below.refl W.heap.size W
  have le_h := h.len; have ca_h := h.cap
  have le_h2 := h2.len; have ca_h2 := h2.cap
  refine cg_seq ?_
  refine cg_region ?_
  refine zA rfl rfl rfl rfl rfl ?_
  refine lg_nil ?_
  refine nx (zk3 0 1 4 rfl rfl rfl fn) ?_
  refine cg_seq ?_
  refine cg_seq ?_
  refine cg_region ?_
  refine zM rfl rfl rfl rfl rfl ?_
  refine za rfl (y_lenM (el := 3) h.len (by kernel_rfl) rfl rfl) rfl rfl ?_
  refine zM rfl rfl rfl rfl rfl ?_
  refine za rfl (y_lenM (el := 3) h2.len (by kernel_rfl) rfl rfl) rfl rfl ?_
  by_cases c1 : (xs.length : Int) = (ys.length : Int)
  · refine za rfl (yb (nd_f c1) (yi_neq rfl rfl rfl)) rfl rfl ?_
    refine lg_nil ?_
    refine nx (zk3 0 1 4 rfl rfl rfl (zk1 10 rfl fn)) ?_
    refine cg_cf rfl ?_
    refine cg_skip ?_
    refine nx (zk3 0 1 4 rfl rfl rfl fn) ?_
    refine cg_seq ?_
    refine cg_seq ?_
    refine cg_region ?_
    refine zM rfl rfl rfl rfl rfl ?_
    refine za rfl (y_lenM (el := 3) h.len (by kernel_rfl) rfl rfl) rfl rfl ?_
    refine zM rfl rfl rfl rfl rfl ?_
    refine lg_nil ?_
    refine nx (zk5 0 1 4 12 13 rfl rfl rfl rfl rfl fn) ?_
    refine cg_block ?_
    refine cg_loopE (fun t a v => Holds 26 [(0, s.v), (1, s2.v), (12, nv (xs.length : Int)), (13, nv ((t : Nat) : Int))] a ∧ SlN v B s xs ∧ SlN v B2 s2 ys ∧ Below W.heap.size W v ∧ t ≤ xs.length ∧ (∀ i, i < t → xs.getD i 0 = ys.getD i 0)) xs.length (fun a ha => ⟨ha.keep (fk rfl (fk rfl (fk rfl (fk rfl fn)))), h, h2, u, (Nat.zero_le _), (fun i hi => absurd hi (Nat.not_lt_zero _))⟩) ?_
    rintro t a v ht ⟨ha, h, h2, u, tle, he⟩
    refine cg_at ha ?_
    clear ha a
    have zv := u.size
    refine cg_seq ?_
    refine cg_region ?_
    by_cases c2 : ((t : Nat) : Int) < (xs.length : Int)
    · refine za rfl (yb (decide_eq_true c2) (yi_lss rfl rfl rfl)) rfl rfl ?_
      refine lg_nil ?_
      refine nx (zk5 0 1 12 13 14 rfl rfl rfl rfl rfl fn) ?_
      refine cg_seq ?_
      refine cg_ct rfl ?_
      refine cg_skip ?_
      refine nx (zk5 0 1 12 13 14 rfl rfl rfl rfl rfl fn) ?_
      refine cg_seq ?_
      refine cg_block ?_
      refine cg_seq ?_
      refine cg_region ?_
      refine zM rfl rfl rfl rfl rfl ?_
      refine zA rfl rfl rfl rfl rfl ?_
      refine lg_nil ?_
      refine nx (zk5 0 1 12 13 14 rfl rfl rfl rfl rfl (zk2 15 5 rfl rfl fn)) ?_
      refine cg_seq ?_
      refine cg_still (by kernel_rfl) (by kernel_rfl) fun W3 eW3 => ?_
      have dW3 := below_drew _ _ eW3
      have zW3 := size_drew _ _ eW3
      clear eW3
      refine zsa rfl (y_move rfl rfl) rfl rfl ?_
      refine zsa rfl (y_move rfl rfl) rfl rfl ?_
      have h := h.below (dW3.mono (by omega))
      refine zsa rfl (y_ixT (i := t) (iI := ((t : Nat) : Int)) h (by omega) (by omega) rfl rfl rfl) rfl rfl ?_
      refine zsa rfl (y_ldT (i := t) h (by omega) rfl rfl) rfl rfl ?_
      refine zsa rfl (y_move rfl rfl) rfl rfl ?_
      refine zsa rfl (y_move rfl rfl) rfl rfl ?_
      have h2 := h2.below (dW3.mono (by omega))
      refine zsa rfl (y_ixT (i := t) (iI := ((t : Nat) : Int)) h2 (by omega) (by omega) rfl rfl rfl) rfl rfl ?_
      refine zsa rfl (y_ldT (i := t) h2 (by omega) rfl rfl) rfl rfl ?_
      by_cases c4 : (xs.getD t 0) = (ys.getD t 0)
      · refine zsa rfl (yb (nd_f c4) (yi_neq rfl rfl rfl)) rfl rfl ?_
        refine sg_nil ?_
        refine nx (zk5 0 1 12 13 14 rfl rfl rfl rfl rfl (zk5 15 5 16 17 18 rfl rfl rfl rfl rfl (zk5 19 20 21 22 23 rfl rfl rfl rfl rfl (zk1 24 rfl fn)))) ?_
        refine cg_cf rfl ?_
        refine cg_skip ?_
        refine eg_block_norm ?_
        refine nx (zk5 0 1 12 13 14 rfl rfl rfl rfl rfl (zk5 15 5 16 17 18 rfl rfl rfl rfl rfl (zk5 19 20 21 22 23 rfl rfl rfl rfl rfl (zk1 24 rfl fn)))) ?_
        refine cg_region ?_
        refine za rfl (yv (congrArg nv (show ((t : Nat) : Int) + 1 = ((t + 1 : Nat) : Int) by omega)) (yi_add rfl rfl rfl (by omega) (by omega))) rfl rfl ?_
        refine zM rfl rfl rfl rfl rfl ?_
        refine lg_nil ?_
        have u := u.trans (dW3.mono u.size)
        exact fun a ha => (show t < xs.length ∧ _ from ⟨(by omega), ha.keep (fk rfl (fk rfl (fk rfl (fk rfl fn)))), h, h2, u, (by omega), (fun i hi => if q : i < t then he i q else by
            obtain rfl : i = t := by omega
            exact c4)⟩)
      · refine zsa rfl (yb (nd_t c4) (yi_neq rfl rfl rfl)) rfl rfl ?_
        refine sg_nil ?_
        refine nx (zk5 0 1 12 13 14 rfl rfl rfl rfl rfl (zk5 15 5 16 17 18 rfl rfl rfl rfl rfl (zk5 19 20 21 22 23 rfl rfl rfl rfl rfl (zk1 24 rfl fn)))) ?_
        refine cg_ct rfl ?_
        refine cg_seq ?_
        refine cg_region ?_
        refine zA rfl rfl rfl rfl rfl ?_
        refine lg_nil ?_
        refine nx (zk5 0 1 12 13 14 rfl rfl rfl rfl rfl (zk5 15 5 16 17 18 rfl rfl rfl rfl rfl (zk5 19 20 21 22 23 rfl rfl rfl rfl rfl (zk2 24 4 rfl rfl fn)))) ?_
        refine cg_ret ?_
        refine eg_block_ret ?_
        refine eg_seq_ret ?_
        refine eg_seq_ret ?_
        refine eg_block_ret ?_
        refine eg_seq_ret ?_
        have u := u.trans (dW3.mono u.size)
        exact eg_ret_tmp rfl rfl ⟨_, rfl, congrArg Value.bool (decide_eq_false (fun q => c4 (by rw [q]))).symm, u⟩
    · refine za rfl (yb (decide_eq_false c2) (yi_lss rfl rfl rfl)) rfl rfl ?_
      refine lg_nil ?_
      refine nx (zk5 0 1 12 13 14 rfl rfl rfl rfl rfl fn) ?_
      refine cg_seq ?_
      refine cg_cf rfl ?_
      refine cg_exit ?_
      refine eg_seq_exit ?_
      refine eg_seq_exit ?_
      refine eg_block_exit ?_
      refine nx (E' := []) fn ?_
      refine cg_seq ?_
      refine cg_region ?_
      refine zA rfl rfl rfl rfl rfl ?_
      refine lg_nil ?_
      refine nx (zk1 4 rfl fn) ?_
      refine cg_ret ?_
      exact eg_ret_tmp rfl rfl ⟨_, rfl, congrArg Value.bool (decide_eq_true (list_eq_getD (by omega) fun i hi => he i (by omega))).symm, u⟩
  · refine za rfl (yb (nd_t c1) (yi_neq rfl rfl rfl)) rfl rfl ?_
    refine lg_nil ?_
    refine nx (zk3 0 1 4 rfl rfl rfl (zk1 10 rfl fn)) ?_
    refine cg_ct rfl ?_
    refine cg_seq ?_
    refine cg_region ?_
    refine zA rfl rfl rfl rfl rfl ?_
    refine lg_nil ?_
    refine nx (zk3 0 1 4 rfl rfl rfl fn) ?_
    refine cg_ret ?_
    refine eg_seq_ret ?_
    exact eg_ret_tmp rfl rfl ⟨_, rfl, congrArg Value.bool (decide_eq_false (fun q => by have := congrArg List.length q; omega)).symm, u⟩
theorem rises_any (h : SlN W B s xs) (hB : B ≤ W.heap.size) : Calls Tryd.prog 80 #[s.v] W fun e w' => ∃ v, e = .returned v ∧ v = .bool (decide (Rising xs)) ∧ Below W.heap.size W w' := by
  refine calls_cg (n := 20) Tryd.func80 rfl Tryd.ntmps80 (by simp) ?_
  show CG _ _ _ [(0, s.v)] _ _
  have u := Below.refl W.heap.size W
  have le_h := h.len; have ca_h := h.cap
  refine cg_seq ?_
  refine cg_region ?_
  refine zA rfl rfl rfl rfl rfl ?_
  refine lg_nil ?_
  refine nx (zk2 0 2 rfl rfl fn) ?_
  refine cg_seq ?_
  refine cg_seq ?_
  refine cg_region ?_
  refine zA rfl rfl rfl rfl rfl ?_
  refine lg_nil ?_
  refine nx (zk3 0 2 3 rfl rfl rfl fn) ?_
  refine cg_block ?_
  refine cg_loopE (fun t a v => Holds 20 [(0, s.v), (3, nv (((t + 1) : Nat) : Int))] a ∧ SlN v B s xs ∧ Below W.heap.size W v ∧ (∀ i, i < t → xs.getD i 0 < xs.getD (i + 1) 0) ∧ (t = 0 ∨ t < xs.length)) xs.length (fun a ha => ⟨ha.keep (fk rfl (fk rfl fn)), h, u, (fun i hi => absurd hi (Nat.not_lt_zero _)), (.inl rfl)⟩) ?_
  rintro t a v ht ⟨ha, h, u, he, tle⟩
  refine cg_at ha ?_
  clear ha a
  have zv := u.size
  refine cg_seq ?_
  refine cg_seq ?_
  refine cg_region ?_
  refine zM rfl rfl rfl rfl rfl ?_
  refine zM rfl rfl rfl rfl rfl ?_
  refine za rfl (y_lenM (el := 3) h.len (by kernel_rfl) rfl rfl) rfl rfl ?_
  by_cases c1 : (((t + 1) : Nat) : Int) < (xs.length : Int)
  · refine za rfl (yb (decide_eq_true c1) (yi_lss rfl rfl rfl)) rfl rfl ?_
    refine lg_nil ?_
    refine nx (zk5 0 3 4 5 6 rfl rfl rfl rfl rfl (zk1 7 rfl fn)) ?_
    refine cg_ct rfl ?_
    refine cg_skip ?_
    refine nx (zk5 0 3 4 5 6 rfl rfl rfl rfl rfl (zk1 7 rfl fn)) ?_
    refine cg_seq ?_
    refine cg_block ?_
    refine cg_seq ?_
    refine cg_still (by kernel_rfl) (by kernel_rfl) fun W2 eW2 => ?_
    have dW2 := below_drew _ _ eW2
    have zW2 := size_drew _ _ eW2
    clear eW2
    refine zsa rfl (y_move rfl rfl) rfl rfl ?_
    refine zsa rfl (y_move rfl rfl) rfl rfl ?_
    have h := h.below (dW2.mono (by omega))
    refine zsa rfl (y_ixT (i := (t + 1)) (iI := (((t + 1) : Nat) : Int)) h (by omega) (by omega) rfl rfl rfl) rfl rfl ?_
    refine zsa rfl (y_ldT (i := (t + 1)) h (by omega) rfl rfl) rfl rfl ?_
    refine zsa rfl (y_move rfl rfl) rfl rfl ?_
    refine zsa rfl (y_move rfl rfl) rfl rfl ?_
    refine zsa rfl (yv (congrArg nv (show ((t + 1 : Nat) : Int) - 1 = ((t : Nat) : Int) by omega)) (yi_sub rfl rfl rfl (by omega) (by omega))) rfl rfl ?_
    refine zsa rfl (y_ixT (i := t) (iI := ((t : Nat) : Int)) h (by omega) (by omega) rfl rfl rfl) rfl rfl ?_
    refine zsa rfl (y_ldT (i := t) h (by omega) rfl rfl) rfl rfl ?_
    by_cases c3 : (xs.getD (t + 1) 0) ≤ (xs.getD t 0)
    · refine zsa rfl (yb (decide_eq_true c3) (yi_leq rfl rfl rfl)) rfl rfl ?_
      refine sg_nil ?_
      refine nx (zk5 0 3 4 5 6 rfl rfl rfl rfl rfl (zk5 7 10 11 12 13 rfl rfl rfl rfl rfl (zk5 14 15 16 17 18 rfl rfl rfl rfl rfl (zk1 19 rfl fn)))) ?_
      refine cg_ct rfl ?_
      refine cg_seq ?_
      refine cg_region ?_
      refine zA rfl rfl rfl rfl rfl ?_
      refine lg_nil ?_
      refine nx (zk5 0 3 4 5 6 rfl rfl rfl rfl rfl (zk5 7 10 11 12 13 rfl rfl rfl rfl rfl (zk5 14 15 16 17 18 rfl rfl rfl rfl rfl (zk2 19 2 rfl rfl fn)))) ?_
      refine cg_ret ?_
      refine eg_block_ret ?_
      refine eg_seq_ret ?_
      refine eg_seq_ret ?_
      refine eg_block_ret ?_
      refine eg_seq_ret ?_
      have u := u.trans (dW2.mono u.size)
      exact eg_ret_tmp rfl rfl ⟨_, rfl, congrArg Value.bool (decide_eq_false (not_rising (by omega) c3)).symm, u⟩
    · refine zsa rfl (yb (decide_eq_false c3) (yi_leq rfl rfl rfl)) rfl rfl ?_
      refine sg_nil ?_
      refine nx (zk5 0 3 4 5 6 rfl rfl rfl rfl rfl (zk5 7 10 11 12 13 rfl rfl rfl rfl rfl (zk5 14 15 16 17 18 rfl rfl rfl rfl rfl (zk1 19 rfl fn)))) ?_
      refine cg_cf rfl ?_
      refine cg_skip ?_
      refine eg_block_norm ?_
      refine nx (zk5 0 3 4 5 6 rfl rfl rfl rfl rfl (zk5 7 10 11 12 13 rfl rfl rfl rfl rfl (zk5 14 15 16 17 18 rfl rfl rfl rfl rfl (zk1 19 rfl fn)))) ?_
      refine cg_region ?_
      refine zM rfl rfl rfl rfl rfl ?_
      refine za rfl (yv (congrArg nv (show ((t + 1 : Nat) : Int) + 1 = ((t + 1 + 1 : Nat) : Int) by omega)) (yi_add rfl rfl rfl (by omega) (by omega))) rfl rfl ?_
      refine zA rfl rfl rfl rfl rfl ?_
      refine lg_nil ?_
      have u := u.trans (dW2.mono u.size)
      exact fun a ha => (show t < xs.length ∧ _ from ⟨(by omega), ha.keep (fk rfl (fk rfl fn)), h, u, (fun i hi => if q : i < t then he i q else by
          obtain rfl : i = t := by omega
          exact Int.not_le.1 c3), (by omega)⟩)
  · refine za rfl (yb (decide_eq_false c1) (yi_lss rfl rfl rfl)) rfl rfl ?_
    refine lg_nil ?_
    refine nx (zk5 0 3 4 5 6 rfl rfl rfl rfl rfl (zk1 7 rfl fn)) ?_
    refine cg_cf rfl ?_
    refine cg_exit ?_
    refine eg_seq_exit ?_
    refine eg_seq_exit ?_
    refine eg_block_exit ?_
    refine nx (E' := []) fn ?_
    refine cg_seq ?_
    refine cg_region ?_
    refine zA rfl rfl rfl rfl rfl ?_
    refine lg_nil ?_
    refine nx (zk1 2 rfl fn) ?_
    refine cg_ret ?_
    exact eg_ret_tmp rfl rfl ⟨_, rfl, congrArg Value.bool (decide_eq_true (rising_of fun i hi => he i (by omega))).symm, u⟩
end
/- PnProg:
  parent.Check, Same, Put and Get.
-/
section
set_option maxHeartbeats 1000000
theorem checkP_any {W : World} {B : Nat} {l : PnV} {L : Pn} (hl : IsPn W B l L) (hB : B ≤ W.heap.size) : Calls Tryd.prog 62 #[.agg (l.cs L)] W fun e W' => ∃ v, e = .returned v ∧ v = nv (pnCheck L) ∧ Below W.heap.size W W' := by
  refine calls_cg (n := 32) Tryd.func62 rfl Tryd.ntmps62 (by simp) ?_
  show CG _ _ _ [(0, .agg (l.cs L))] _ _
  have u := Below.refl W.heap.size W
  refine cg_seq ?_
  refine cg_region ?_
  refine lg_boxw (want_none (by rfl)) rfl rfl (by kernel_rfl) rfl (by decide) fun b1 w1 n1 => ?_
  have r1 := n1.row
  have k1 := n1.blk
  have z1 := n1.size
  have lt1 : b1 < w1.heap.size := by omega
  refine zA rfl rfl rfl rfl rfl ?_
  refine lg_nil ?_
  refine nx (zk2 1 2 rfl rfl fn) ?_
  refine cg_seq ?_
  refine cg_block ?_
  refine cg_seq ?_
  refine cg_region ?_
  refine za rfl (y_fld (off := 0) (by kernel_rfl) rfl rfl) rfl rfl ?_
  refine za rfl (y_cellv (v := l.enc.v) r1 rfl (by kernel_rfl) rfl rfl) rfl rfl ?_
  have hl := hl.below (n1.below.mono (by omega))
  refine za rfl (y_lenS (el := 5) hl.enc (by kernel_rfl) rfl rfl) rfl rfl ?_
  by_cases c2 : (L.enc.length : Int) = 0
  · refine za rfl (yb (decide_eq_true c2) (yi_eql rfl rfl rfl)) rfl rfl ?_
    refine zA rfl rfl rfl rfl rfl ?_
    refine lg_nil ?_
    refine nx (zk3 1 2 3 rfl rfl rfl fn) ?_
    refine cg_ct rfl ?_
    refine cg_seq ?_
    refine cg_region ?_
    refine zA rfl rfl rfl rfl rfl ?_
    refine lg_nil ?_
    refine nx (zk1 2 rfl fn) ?_
    refine cg_ret ?_
    refine eg_block_ret ?_
    refine eg_seq_ret ?_
    have u := u.trans (n1.below.mono u.size)
    exact eg_ret_tmp rfl rfl ⟨_, rfl, congrArg nv (show pnCheck L = 5 from (if_pos c2)).symm, u⟩
  · refine za rfl (yb (decide_eq_false c2) (yi_eql rfl rfl rfl)) rfl rfl ?_
    refine zA rfl rfl rfl rfl rfl ?_
    refine lg_nil ?_
    refine nx (zk3 1 2 3 rfl rfl rfl fn) ?_
    refine cg_cf rfl ?_
    refine cg_seq ?_
    refine cg_region ?_
    refine za rfl (y_fld (off := 0) (by kernel_rfl) rfl rfl) rfl rfl ?_
    refine za rfl (y_cellv (v := l.enc.v) r1 rfl (by kernel_rfl) rfl rfl) rfl rfl ?_
    by_cases c3 : 200 < (L.enc.length : Int)
    · refine za rfl (yb (decide_eq_true c3) (y_call (largeP_any hl.enc) (by kernel_rfl) rfl rfl)) rfl rfl ?_
      refine zM rfl rfl rfl rfl rfl ?_
      refine zf 12 rfl (by kernel_rfl) rfl rfl rfl ?_
      refine zf 12 rfl (by kernel_rfl) rfl rfl rfl ?_
      refine zf 12 rfl (by kernel_rfl) rfl rfl rfl ?_
      refine za rfl (y_pick true rfl rfl rfl) rfl rfl ?_
      refine zM rfl rfl rfl rfl rfl ?_
      refine zf 17 rfl (by kernel_rfl) rfl rfl rfl ?_
      refine zf 17 rfl (by kernel_rfl) rfl rfl rfl ?_
      refine zf 17 rfl (by kernel_rfl) rfl rfl rfl ?_
      refine zf 17 rfl (by kernel_rfl) rfl rfl rfl ?_
      refine za rfl (y_pick true rfl rfl rfl) rfl rfl ?_
      refine zA rfl rfl rfl rfl rfl ?_
      refine lg_nil ?_
      refine nx (zk3 1 2 8 rfl rfl rfl fn) ?_
      refine cg_ct rfl ?_
      refine cg_seq ?_
      refine cg_region ?_
      refine zA rfl rfl rfl rfl rfl ?_
      refine lg_nil ?_
      refine nx (zk1 2 rfl fn) ?_
      refine cg_ret ?_
      refine eg_block_ret ?_
      refine eg_seq_ret ?_
      have u := u.trans (n1.below.mono u.size)
      exact eg_ret_tmp rfl rfl ⟨_, rfl, congrArg nv (show pnCheck L = 4 from ((if_neg c2).trans (if_pos (by omega)))).symm, u⟩
    · refine za rfl (yb (decide_eq_false c3) (y_call (largeP_any hl.enc) (by kernel_rfl) rfl rfl)) rfl rfl ?_
      refine zM rfl rfl rfl rfl rfl ?_
      refine zt 12 rfl (by kernel_rfl) rfl (y_fld (off := 1) (by kernel_rfl) rfl rfl) rfl rfl ?_
      refine zt 12 rfl (by kernel_rfl) rfl (y_cellv (v := l.hash.v) r1 rfl (by kernel_rfl) rfl rfl) rfl rfl ?_
      by_cases c4 : 200 < (L.hash.length : Int)
      · refine zt 12 rfl (by kernel_rfl) rfl (yb (decide_eq_true c4) (y_call (largeP_any hl.hash) (by kernel_rfl) rfl rfl)) rfl rfl ?_
        refine za rfl (y_pick false rfl rfl rfl) rfl rfl ?_
        refine zM rfl rfl rfl rfl rfl ?_
        refine zf 17 rfl (by kernel_rfl) rfl rfl rfl ?_
        refine zf 17 rfl (by kernel_rfl) rfl rfl rfl ?_
        refine zf 17 rfl (by kernel_rfl) rfl rfl rfl ?_
        refine zf 17 rfl (by kernel_rfl) rfl rfl rfl ?_
        refine za rfl (y_pick true rfl rfl rfl) rfl rfl ?_
        refine zA rfl rfl rfl rfl rfl ?_
        refine lg_nil ?_
        refine nx (zk3 1 2 8 rfl rfl rfl fn) ?_
        refine cg_ct rfl ?_
        refine cg_seq ?_
        refine cg_region ?_
        refine zA rfl rfl rfl rfl rfl ?_
        refine lg_nil ?_
        refine nx (zk1 2 rfl fn) ?_
        refine cg_ret ?_
        refine eg_block_ret ?_
        refine eg_seq_ret ?_
        have u := u.trans (n1.below.mono u.size)
        exact eg_ret_tmp rfl rfl ⟨_, rfl, congrArg nv (show pnCheck L = 4 from ((if_neg c2).trans (if_pos (by omega)))).symm, u⟩
      · refine zt 12 rfl (by kernel_rfl) rfl (yb (decide_eq_false c4) (y_call (largeP_any hl.hash) (by kernel_rfl) rfl rfl)) rfl rfl ?_
        refine za rfl (y_pick false rfl rfl rfl) rfl rfl ?_
        refine zM rfl rfl rfl rfl rfl ?_
        refine zt 17 rfl (by kernel_rfl) rfl (y_fld (off := 2) (by kernel_rfl) rfl rfl) rfl rfl ?_
        refine zt 17 rfl (by kernel_rfl) rfl (y_cellv (v := l.unm.v) r1 rfl (by kernel_rfl) rfl rfl) rfl rfl ?_
        refine zt 17 rfl (by kernel_rfl) rfl (y_lenM (el := 3) hl.unm.len (by kernel_rfl) rfl rfl) rfl rfl ?_
        by_cases c5 : 64 < (L.unm.length : Int)
        · refine zt 17 rfl (by kernel_rfl) rfl (yb (decide_eq_true c5) (yi_gtr rfl rfl rfl)) rfl rfl ?_
          refine za rfl (y_pick false rfl rfl rfl) rfl rfl ?_
          refine zA rfl rfl rfl rfl rfl ?_
          refine lg_nil ?_
          refine nx (zk3 1 2 8 rfl rfl rfl fn) ?_
          refine cg_ct rfl ?_
          refine cg_seq ?_
          refine cg_region ?_
          refine zA rfl rfl rfl rfl rfl ?_
          refine lg_nil ?_
          refine nx (zk1 2 rfl fn) ?_
          refine cg_ret ?_
          refine eg_block_ret ?_
          refine eg_seq_ret ?_
          have u := u.trans (n1.below.mono u.size)
          exact eg_ret_tmp rfl rfl ⟨_, rfl, congrArg nv (show pnCheck L = 4 from ((if_neg c2).trans (if_pos (by omega)))).symm, u⟩
        · refine zt 17 rfl (by kernel_rfl) rfl (yb (decide_eq_false c5) (yi_gtr rfl rfl rfl)) rfl rfl ?_
          refine za rfl (y_pick false rfl rfl rfl) rfl rfl ?_
          refine zA rfl rfl rfl rfl rfl ?_
          refine lg_nil ?_
          refine nx (zk3 1 2 8 rfl rfl rfl fn) ?_
          refine cg_cf rfl ?_
          refine cg_seq ?_
          refine cg_region ?_
          refine za rfl (y_fld (off := 2) (by kernel_rfl) rfl rfl) rfl rfl ?_
          refine za rfl (y_cellv (v := l.unm.v) r1 rfl (by kernel_rfl) rfl rfl) rfl rfl ?_
          by_cases c6 : ∃ x ∈ L.unm, x < 0 ∨ 64 ≤ x
          · refine za rfl (yb (decide_eq_true c6) (y_call (containsOut_any hl.unm) (by kernel_rfl) rfl rfl)) rfl rfl ?_
            refine zA rfl rfl rfl rfl rfl ?_
            refine lg_nil ?_
            refine nx (zk3 1 2 23 rfl rfl rfl fn) ?_
            refine cg_ct rfl ?_
            refine cg_seq ?_
            refine cg_region ?_
            refine zA rfl rfl rfl rfl rfl ?_
            refine lg_nil ?_
            refine nx (zk1 2 rfl fn) ?_
            refine cg_ret ?_
            refine eg_block_ret ?_
            refine eg_seq_ret ?_
            have u := u.trans (n1.below.mono u.size)
            exact eg_ret_tmp rfl rfl ⟨_, rfl, congrArg nv (show pnCheck L = 3 from (((if_neg c2).trans (if_neg (by omega))).trans (if_pos c6))).symm, u⟩
          · refine za rfl (yb (decide_eq_false c6) (y_call (containsOut_any hl.unm) (by kernel_rfl) rfl rfl)) rfl rfl ?_
            refine zA rfl rfl rfl rfl rfl ?_
            refine lg_nil ?_
            refine nx (zk3 1 2 23 rfl rfl rfl fn) ?_
            refine cg_cf rfl ?_
            refine cg_seq ?_
            refine cg_region ?_
            refine za rfl (y_fld (off := 2) (by kernel_rfl) rfl rfl) rfl rfl ?_
            refine za rfl (y_cellv (v := l.unm.v) r1 rfl (by kernel_rfl) rfl rfl) rfl rfl ?_
            by_cases c7 : Rising L.unm
            · refine lg_callw (want_none (by rfl)) (rises_any hl.unm (by omega)) (by kernel_rfl) rfl rfl rfl (by decide) ?_
              rintro u8 w8 ⟨e8, hw8⟩
              have zw8 := hw8.size
              obtain rfl : u8 = .bool true := e8.trans (congrArg Value.bool (decide_eq_true c7))
              refine za rfl (y_bnot rfl rfl) rfl rfl ?_
              refine zA rfl rfl rfl rfl rfl ?_
              refine lg_nil ?_
              refine nx (zk2 2 27 rfl rfl fn) ?_
              refine cg_cf rfl ?_
              refine cg_skip ?_
              refine eg_block_norm ?_
              refine nx (zk1 2 rfl fn) ?_
              refine cg_seq ?_
              refine cg_region ?_
              refine zA rfl rfl rfl rfl rfl ?_
              refine lg_nil ?_
              refine nx (zk1 2 rfl fn) ?_
              refine cg_ret ?_
              have u := u.trans (n1.below.mono u.size)
              have u := u.trans (hw8.mono u.size)
              exact eg_ret_tmp rfl rfl ⟨_, rfl, congrArg nv (show pnCheck L = 0 from ((((if_neg c2).trans (if_neg (by omega))).trans (if_neg c6)).trans (if_neg (not_not_intro c7)))).symm, u⟩
            · refine lg_callw (want_none (by rfl)) (rises_any hl.unm (by omega)) (by kernel_rfl) rfl rfl rfl (by decide) ?_
              rintro u9 w9 ⟨e9, hw9⟩
              have zw9 := hw9.size
              obtain rfl : u9 = .bool false := e9.trans (congrArg Value.bool (decide_eq_false c7))
              refine za rfl (y_bnot rfl rfl) rfl rfl ?_
              refine zA rfl rfl rfl rfl rfl ?_
              refine lg_nil ?_
              refine nx (zk2 2 27 rfl rfl fn) ?_
              refine cg_ct rfl ?_
              refine cg_seq ?_
              refine cg_region ?_
              refine zA rfl rfl rfl rfl rfl ?_
              refine lg_nil ?_
              refine nx (zk1 2 rfl fn) ?_
              refine cg_ret ?_
              refine eg_block_ret ?_
              refine eg_seq_ret ?_
              have u := u.trans (n1.below.mono u.size)
              have u := u.trans (hw9.mono u.size)
              exact eg_ret_tmp rfl rfl ⟨_, rfl, congrArg nv (show pnCheck L = 8 from ((((if_neg c2).trans (if_neg (by omega))).trans (if_neg c6)).trans (if_pos c7))).symm, u⟩
theorem sameP_any {W : World} {B : Nat} {l m : PnV} {L M : Pn} (hl : IsPn W B l L) (hm : IsPn W B m M) (hB : B ≤ W.heap.size) : Calls Tryd.prog 60 #[.agg (l.cs L), .agg (m.cs M)] W fun e W' => ∃ v, e = .returned v ∧ v = .bool (decide (PnSame L M)) ∧ Below W.heap.size W W' := by
  refine calls_cg (n := 24) Tryd.func60 rfl Tryd.ntmps60 (by simp) ?_
  show CG _ _ _ [(0, .agg (l.cs L)), (1, .agg (m.cs M))] _ _
  have u := Below.refl W.heap.size W
  refine cg_seq ?_
  refine cg_region ?_
  refine lg_boxw (want_none (by rfl)) rfl rfl (by kernel_rfl) rfl (by decide) fun b1 w1 n1 => ?_
  have r1 := n1.row
  have k1 := n1.blk
  have z1 := n1.size
  have lt1 : b1 < w1.heap.size := by omega
  refine lg_boxw (want_none (by rfl)) rfl rfl (by kernel_rfl) rfl (by decide) fun b2 w2 n2 => ?_
  have r2 := n2.row
  have k2 := n2.blk
  have z2 := n2.size
  have lt2 : b2 < w2.heap.size := by omega
  refine zA rfl rfl rfl rfl rfl ?_
  refine lg_nil ?_
  refine nx (zk3 2 3 4 rfl rfl rfl fn) ?_
  refine cg_seq ?_
  refine cg_region ?_
  refine za rfl (y_fld (off := 0) (by kernel_rfl) rfl rfl) rfl rfl ?_
  have r1 := n2.keep r1
  refine za rfl (y_cellv (v := l.enc.v) r1 rfl (by kernel_rfl) rfl rfl) rfl rfl ?_
  refine za rfl (y_fld (off := 0) (by kernel_rfl) rfl rfl) rfl rfl ?_
  refine za rfl (y_cellv (v := m.enc.v) r2 rfl (by kernel_rfl) rfl rfl) rfl rfl ?_
  have hl := hl.below (n1.below.mono (by omega))
  have hl := hl.below (n2.below.mono (by omega))
  have hm := hm.below (n1.below.mono (by omega))
  have hm := hm.below (n2.below.mono (by omega))
  by_cases c3 : L.enc = M.enc
  · refine za rfl (yb (decide_eq_true c3) (y_call (bytesEq_S hl.enc hm.enc) (by kernel_rfl) rfl rfl)) rfl rfl ?_
    refine zM rfl rfl rfl rfl rfl ?_
    refine zt 10 rfl (by kernel_rfl) rfl (y_fld (off := 1) (by kernel_rfl) rfl rfl) rfl rfl ?_
    refine zt 10 rfl (by kernel_rfl) rfl (y_cellv (v := l.hash.v) r1 rfl (by kernel_rfl) rfl rfl) rfl rfl ?_
    refine zt 10 rfl (by kernel_rfl) rfl (y_fld (off := 1) (by kernel_rfl) rfl rfl) rfl rfl ?_
    refine zt 10 rfl (by kernel_rfl) rfl (y_cellv (v := m.hash.v) r2 rfl (by kernel_rfl) rfl rfl) rfl rfl ?_
    by_cases c4 : L.hash = M.hash
    · refine zt 10 rfl (by kernel_rfl) rfl (yb (decide_eq_true c4) (y_call (bytesEq_S hl.hash hm.hash) (by kernel_rfl) rfl rfl)) rfl rfl ?_
      refine za rfl (y_pick true rfl rfl rfl) rfl rfl ?_
      refine zM rfl rfl rfl rfl rfl ?_
      refine zt 17 rfl (by kernel_rfl) rfl (y_fld (off := 2) (by kernel_rfl) rfl rfl) rfl rfl ?_
      refine zt 17 rfl (by kernel_rfl) rfl (y_cellv (v := l.unm.v) r1 rfl (by kernel_rfl) rfl rfl) rfl rfl ?_
      refine zt 17 rfl (by kernel_rfl) rfl (y_fld (off := 2) (by kernel_rfl) rfl rfl) rfl rfl ?_
      refine zt 17 rfl (by kernel_rfl) rfl (y_cellv (v := m.unm.v) r2 rfl (by kernel_rfl) rfl rfl) rfl rfl ?_
      by_cases c5 : L.unm = M.unm
      · refine lg_callw (want_t (dj := 17) (by rfl) (by kernel_rfl) rfl) (equalN_S hl.unm hm.unm (by omega) (by omega)) (by kernel_rfl) rfl rfl rfl (by decide) ?_
        rintro u6 w6 ⟨e6, hw6⟩
        have zw6 := hw6.size
        obtain rfl : u6 = .bool true := e6.trans (congrArg Value.bool (decide_eq_true c5))
        refine za rfl (y_pick true rfl rfl rfl) rfl rfl ?_
        refine zA rfl rfl rfl rfl rfl ?_
        refine lg_nil ?_
        refine nx (zk1 4 rfl fn) ?_
        refine cg_ret ?_
        have u := u.trans (n1.below.mono u.size)
        have u := u.trans (n2.below.mono u.size)
        have u := u.trans (hw6.mono u.size)
        exact eg_ret_tmp rfl rfl ⟨_, rfl, congrArg Value.bool (show true = decide (PnSame L M) from (decide_eq_true (by simp [PnSame, *])).symm), u⟩
      · refine lg_callw (want_t (dj := 17) (by rfl) (by kernel_rfl) rfl) (equalN_S hl.unm hm.unm (by omega) (by omega)) (by kernel_rfl) rfl rfl rfl (by decide) ?_
        rintro u7 w7 ⟨e7, hw7⟩
        have zw7 := hw7.size
        obtain rfl : u7 = .bool false := e7.trans (congrArg Value.bool (decide_eq_false c5))
        refine za rfl (y_pick true rfl rfl rfl) rfl rfl ?_
        refine zA rfl rfl rfl rfl rfl ?_
        refine lg_nil ?_
        refine nx (zk1 4 rfl fn) ?_
        refine cg_ret ?_
        have u := u.trans (n1.below.mono u.size)
        have u := u.trans (n2.below.mono u.size)
        have u := u.trans (hw7.mono u.size)
        exact eg_ret_tmp rfl rfl ⟨_, rfl, congrArg Value.bool (show false = decide (PnSame L M) from (decide_eq_false (by simp [PnSame, *])).symm), u⟩
    · refine zt 10 rfl (by kernel_rfl) rfl (yb (decide_eq_false c4) (y_call (bytesEq_S hl.hash hm.hash) (by kernel_rfl) rfl rfl)) rfl rfl ?_
      refine za rfl (y_pick true rfl rfl rfl) rfl rfl ?_
      refine zM rfl rfl rfl rfl rfl ?_
      refine zf 17 rfl (by kernel_rfl) rfl rfl rfl ?_
      refine zf 17 rfl (by kernel_rfl) rfl rfl rfl ?_
      refine zf 17 rfl (by kernel_rfl) rfl rfl rfl ?_
      refine zf 17 rfl (by kernel_rfl) rfl rfl rfl ?_
      refine zf 17 rfl (by kernel_rfl) rfl rfl rfl ?_
      refine za rfl (y_pick false rfl rfl rfl) rfl rfl ?_
      refine zA rfl rfl rfl rfl rfl ?_
      refine lg_nil ?_
      refine nx (zk1 4 rfl fn) ?_
      refine cg_ret ?_
      have u := u.trans (n1.below.mono u.size)
      have u := u.trans (n2.below.mono u.size)
      exact eg_ret_tmp rfl rfl ⟨_, rfl, congrArg Value.bool (show false = decide (PnSame L M) from (decide_eq_false (by simp [PnSame, *])).symm), u⟩
  · refine za rfl (yb (decide_eq_false c3) (y_call (bytesEq_S hl.enc hm.enc) (by kernel_rfl) rfl rfl)) rfl rfl ?_
    refine zM rfl rfl rfl rfl rfl ?_
    refine zf 10 rfl (by kernel_rfl) rfl rfl rfl ?_
    refine zf 10 rfl (by kernel_rfl) rfl rfl rfl ?_
    refine zf 10 rfl (by kernel_rfl) rfl rfl rfl ?_
    refine zf 10 rfl (by kernel_rfl) rfl rfl rfl ?_
    refine zf 10 rfl (by kernel_rfl) rfl rfl rfl ?_
    refine za rfl (y_pick false rfl rfl rfl) rfl rfl ?_
    refine zM rfl rfl rfl rfl rfl ?_
    refine zf 17 rfl (by kernel_rfl) rfl rfl rfl ?_
    refine zf 17 rfl (by kernel_rfl) rfl rfl rfl ?_
    refine zf 17 rfl (by kernel_rfl) rfl rfl rfl ?_
    refine zf 17 rfl (by kernel_rfl) rfl rfl rfl ?_
    refine zf 17 rfl (by kernel_rfl) rfl rfl rfl ?_
    refine za rfl (y_pick false rfl rfl rfl) rfl rfl ?_
    refine zA rfl rfl rfl rfl rfl ?_
    refine lg_nil ?_
    refine nx (zk1 4 rfl fn) ?_
    refine cg_ret ?_
    have u := u.trans (n1.below.mono u.size)
    have u := u.trans (n2.below.mono u.size)
    exact eg_ret_tmp rfl rfl ⟨_, rfl, congrArg Value.bool (show false = decide (PnSame L M) from (decide_eq_false (by simp [PnSame, *])).symm), u⟩
end
/- NdProg:
  node.Check, node.Same, and the methods that put and get.
-/
section
set_option maxHeartbeats 1000000
theorem checkN_any {W : World} {B : Nat} {l : NdV} {L : Nd} (hl : IsNd W B l L) (hB : B ≤ W.heap.size) : Calls Tryd.prog 39 #[.agg (l.cs L)] W fun e W' => ∃ v, e = .returned v ∧ v = nv (ndCheck L) ∧ Below W.heap.size W W' := by
  refine calls_cg (n := 48) Tryd.func39 rfl Tryd.ntmps39 (by simp) ?_
  show CG _ _ _ [(0, .agg (l.cs L))] _ _
  have u := Below.refl W.heap.size W
  refine cg_seq ?_
  refine cg_region ?_
  refine lg_boxw (want_none (by rfl)) rfl rfl (by kernel_rfl) rfl (by decide) fun b1 w1 n1 => ?_
  have r1 := n1.row
  have k1 := n1.blk
  have z1 := n1.size
  have lt1 : b1 < w1.heap.size := by omega
  refine zA rfl rfl rfl rfl rfl ?_
  refine lg_nil ?_
  refine nx (zk2 1 2 rfl rfl fn) ?_
  refine cg_seq ?_
  refine cg_block ?_
  refine cg_seq ?_
  refine cg_region ?_
  refine za rfl (y_fld (off := 0) (by kernel_rfl) rfl rfl) rfl rfl ?_
  refine za rfl (y_cellv (v := nv L.kind) r1 rfl (by kernel_rfl) rfl rfl) rfl rfl ?_
  by_cases c2 : L.kind < 0
  · refine za rfl (yb (decide_eq_true c2) (yi_lss rfl rfl rfl)) rfl rfl ?_
    refine zM rfl rfl rfl rfl rfl ?_
    refine zf 7 rfl (by kernel_rfl) rfl rfl rfl ?_
    refine zf 7 rfl (by kernel_rfl) rfl rfl rfl ?_
    refine zf 7 rfl (by kernel_rfl) rfl rfl rfl ?_
    refine za rfl (y_pick true rfl rfl rfl) rfl rfl ?_
    refine zA rfl rfl rfl rfl rfl ?_
    refine lg_nil ?_
    refine nx (zk3 1 2 3 rfl rfl rfl fn) ?_
    refine cg_ct rfl ?_
    refine cg_seq ?_
    refine cg_region ?_
    refine zA rfl rfl rfl rfl rfl ?_
    refine lg_nil ?_
    refine nx (zk1 2 rfl fn) ?_
    refine cg_ret ?_
    refine eg_block_ret ?_
    refine eg_seq_ret ?_
    have u := u.trans (n1.below.mono u.size)
    exact eg_ret_tmp rfl rfl ⟨_, rfl, congrArg nv (show 7 = ndCheck L by simp [ndCheck, c2]), u⟩
  · refine za rfl (yb (decide_eq_false c2) (yi_lss rfl rfl rfl)) rfl rfl ?_
    refine zM rfl rfl rfl rfl rfl ?_
    refine zt 7 rfl (by kernel_rfl) rfl (y_fld (off := 0) (by kernel_rfl) rfl rfl) rfl rfl ?_
    refine zt 7 rfl (by kernel_rfl) rfl (y_cellv (v := nv L.kind) r1 rfl (by kernel_rfl) rfl rfl) rfl rfl ?_
    by_cases c3 : 2 < L.kind
    · refine zt 7 rfl (by kernel_rfl) rfl (yb (decide_eq_true c3) (yi_gtr rfl rfl rfl)) rfl rfl ?_
      refine za rfl (y_pick false rfl rfl rfl) rfl rfl ?_
      refine zA rfl rfl rfl rfl rfl ?_
      refine lg_nil ?_
      refine nx (zk3 1 2 3 rfl rfl rfl fn) ?_
      refine cg_ct rfl ?_
      refine cg_seq ?_
      refine cg_region ?_
      refine zA rfl rfl rfl rfl rfl ?_
      refine lg_nil ?_
      refine nx (zk1 2 rfl fn) ?_
      refine cg_ret ?_
      refine eg_block_ret ?_
      refine eg_seq_ret ?_
      have u := u.trans (n1.below.mono u.size)
      exact eg_ret_tmp rfl rfl ⟨_, rfl, congrArg nv (show 7 = ndCheck L by simp [ndCheck, c2, c3]), u⟩
    · refine zt 7 rfl (by kernel_rfl) rfl (yb (decide_eq_false c3) (yi_gtr rfl rfl rfl)) rfl rfl ?_
      refine za rfl (y_pick false rfl rfl rfl) rfl rfl ?_
      refine zA rfl rfl rfl rfl rfl ?_
      refine lg_nil ?_
      refine nx (zk3 1 2 3 rfl rfl rfl fn) ?_
      refine cg_cf rfl ?_
      refine cg_seq ?_
      refine cg_region ?_
      refine za rfl (y_fld (off := 0) (by kernel_rfl) rfl rfl) rfl rfl ?_
      refine za rfl (y_cellv (v := nv L.kind) r1 rfl (by kernel_rfl) rfl rfl) rfl rfl ?_
      by_cases c4 : L.kind = 1
      · refine za rfl (yb (nd_f c4) (yi_neq rfl rfl rfl)) rfl rfl ?_
        refine zM rfl rfl rfl rfl rfl ?_
        refine zf 16 rfl (by kernel_rfl) rfl rfl rfl ?_
        refine zf 16 rfl (by kernel_rfl) rfl rfl rfl ?_
        refine zf 16 rfl (by kernel_rfl) rfl rfl rfl ?_
        refine zf 16 rfl (by kernel_rfl) rfl rfl rfl ?_
        refine zf 16 rfl (by kernel_rfl) rfl rfl rfl ?_
        refine za rfl (y_pick false rfl rfl rfl) rfl rfl ?_
        refine zA rfl rfl rfl rfl rfl ?_
        refine lg_nil ?_
        refine nx (zk3 1 2 12 rfl rfl rfl fn) ?_
        refine cg_cf rfl ?_
        refine cg_seq ?_
        refine cg_region ?_
        refine za rfl (y_fld (off := 0) (by kernel_rfl) rfl rfl) rfl rfl ?_
        refine za rfl (y_cellv (v := nv L.kind) r1 rfl (by kernel_rfl) rfl rfl) rfl rfl ?_
        refine za rfl (yb (nd_t (show ¬ (L.kind = 2) from (show ¬ (L.kind = 2) by omega))) (yi_neq rfl rfl rfl)) rfl rfl ?_
        refine zM rfl rfl rfl rfl rfl ?_
        refine zt 27 rfl (by kernel_rfl) rfl (y_fld (off := 5) (by kernel_rfl) rfl rfl) rfl rfl ?_
        refine zt 27 rfl (by kernel_rfl) rfl (y_part r1 (m := 3) rfl (show 5+3 ≤ 8 by decide) (by kernel_rfl) (by kernel_rfl) rfl rfl) rfl rfl ?_
        refine zt 27 rfl (by kernel_rfl) rfl (y_build (cs := PnV.zero.cs Pn.zero) rfl rfl (by kernel_rfl)) rfl rfl ?_
        have hl := hl.below (n1.below.mono (by omega))
        by_cases c5 : PnSame L.inner Pn.zero
        · refine lg_callw (want_t (dj := 27) (by rfl) (by kernel_rfl) rfl) (sameP_any (hl.inner.more (B' := w1.heap.size) (by omega)) ((IsPn.zero _ 0).more (B' := w1.heap.size) (by omega)) (Nat.le_refl _)) (by kernel_rfl) rfl rfl rfl (by decide) ?_
          rintro u6 w6 ⟨e6, hw6⟩
          have zw6 := hw6.size
          obtain rfl : u6 = .bool true := e6.trans (congrArg Value.bool (decide_eq_true c5))
          refine zt 27 rfl (by kernel_rfl) rfl (y_bnot rfl rfl) rfl rfl ?_
          refine za rfl (y_pick true rfl rfl rfl) rfl rfl ?_
          refine zA rfl rfl rfl rfl rfl ?_
          refine lg_nil ?_
          refine nx (zk3 1 2 23 rfl rfl rfl fn) ?_
          refine cg_cf rfl ?_
          refine cg_seq ?_
          refine cg_region ?_
          refine za rfl (y_fld (off := 0) (by kernel_rfl) rfl rfl) rfl rfl ?_
          have r1 := RowAt.below hw6 r1.lt r1
          refine za rfl (y_cellv (v := nv L.kind) r1 rfl (by kernel_rfl) rfl rfl) rfl rfl ?_
          refine za rfl (yb (decide_eq_true c4) (yi_eql rfl rfl rfl)) rfl rfl ?_
          refine zA rfl rfl rfl rfl rfl ?_
          refine lg_nil ?_
          refine nx (zk3 1 2 34 rfl rfl rfl fn) ?_
          refine cg_ct rfl ?_
          refine cg_seq ?_
          refine cg_region ?_
          refine za rfl (y_fld (off := 1) (by kernel_rfl) rfl rfl) rfl rfl ?_
          refine za rfl (y_part r1 (m := 4) rfl (show 1+4 ≤ 8 by decide) (by kernel_rfl) (by kernel_rfl) rfl rfl) rfl rfl ?_
          have hl := hl.below (hw6.mono (by omega))
          refine lg_callw (want_none (by rfl)) (check_any (hl.leaf.more (B' := w6.heap.size) (by omega)) (Nat.le_refl _)) (by kernel_rfl) rfl rfl rfl (by decide) ?_
          rintro _ w7 ⟨rfl, hw7⟩
          have zw7 := hw7.size
          refine zA rfl rfl rfl rfl rfl ?_
          refine lg_nil ?_
          refine nx (zk1 2 rfl fn) ?_
          refine cg_ret ?_
          refine eg_block_ret ?_
          refine eg_seq_ret ?_
          have u := u.trans (n1.below.mono u.size)
          have u := u.trans (hw6.mono u.size)
          have u := u.trans (hw7.mono u.size)
          exact eg_ret_tmp rfl rfl ⟨_, rfl, congrArg nv (show (lfCheck L.leaf) = ndCheck L by simp [ndCheck, c4, c5]), u⟩
        · refine lg_callw (want_t (dj := 27) (by rfl) (by kernel_rfl) rfl) (sameP_any (hl.inner.more (B' := w1.heap.size) (by omega)) ((IsPn.zero _ 0).more (B' := w1.heap.size) (by omega)) (Nat.le_refl _)) (by kernel_rfl) rfl rfl rfl (by decide) ?_
          rintro u8 w8 ⟨e8, hw8⟩
          have zw8 := hw8.size
          obtain rfl : u8 = .bool false := e8.trans (congrArg Value.bool (decide_eq_false c5))
          refine zt 27 rfl (by kernel_rfl) rfl (y_bnot rfl rfl) rfl rfl ?_
          refine za rfl (y_pick true rfl rfl rfl) rfl rfl ?_
          refine zA rfl rfl rfl rfl rfl ?_
          refine lg_nil ?_
          refine nx (zk3 1 2 23 rfl rfl rfl fn) ?_
          refine cg_ct rfl ?_
          refine cg_seq ?_
          refine cg_region ?_
          refine zA rfl rfl rfl rfl rfl ?_
          refine lg_nil ?_
          refine nx (zk1 2 rfl fn) ?_
          refine cg_ret ?_
          refine eg_block_ret ?_
          refine eg_seq_ret ?_
          have u := u.trans (n1.below.mono u.size)
          have u := u.trans (hw8.mono u.size)
          exact eg_ret_tmp rfl rfl ⟨_, rfl, congrArg nv (show 2 = ndCheck L by simp [ndCheck, c4, c5]), u⟩
      · refine za rfl (yb (nd_t c4) (yi_neq rfl rfl rfl)) rfl rfl ?_
        refine zM rfl rfl rfl rfl rfl ?_
        refine zt 16 rfl (by kernel_rfl) rfl (y_fld (off := 1) (by kernel_rfl) rfl rfl) rfl rfl ?_
        refine zt 16 rfl (by kernel_rfl) rfl (y_part r1 (m := 4) rfl (show 1+4 ≤ 8 by decide) (by kernel_rfl) (by kernel_rfl) rfl rfl) rfl rfl ?_
        refine zt 16 rfl (by kernel_rfl) rfl (y_build (cs := LfV.zero.cs Lf.zero) rfl rfl (by kernel_rfl)) rfl rfl ?_
        have hl := hl.below (n1.below.mono (by omega))
        by_cases c9 : LfSame L.leaf Lf.zero
        · refine lg_callw (want_t (dj := 16) (by rfl) (by kernel_rfl) rfl) (same_any (hl.leaf.more (B' := w1.heap.size) (by omega)) ((IsLf.zero _ 0).more (B' := w1.heap.size) (by omega)) (Nat.le_refl _)) (by kernel_rfl) rfl rfl rfl (by decide) ?_
          rintro u10 w10 ⟨e10, hw10⟩
          have zw10 := hw10.size
          obtain rfl : u10 = .bool true := e10.trans (congrArg Value.bool (decide_eq_true c9))
          refine zt 16 rfl (by kernel_rfl) rfl (y_bnot rfl rfl) rfl rfl ?_
          refine za rfl (y_pick true rfl rfl rfl) rfl rfl ?_
          refine zA rfl rfl rfl rfl rfl ?_
          refine lg_nil ?_
          refine nx (zk3 1 2 12 rfl rfl rfl fn) ?_
          refine cg_cf rfl ?_
          refine cg_seq ?_
          refine cg_region ?_
          refine za rfl (y_fld (off := 0) (by kernel_rfl) rfl rfl) rfl rfl ?_
          have r1 := RowAt.below hw10 r1.lt r1
          refine za rfl (y_cellv (v := nv L.kind) r1 rfl (by kernel_rfl) rfl rfl) rfl rfl ?_
          by_cases c11 : L.kind = 2
          · refine za rfl (yb (nd_f c11) (yi_neq rfl rfl rfl)) rfl rfl ?_
            refine zM rfl rfl rfl rfl rfl ?_
            refine zf 27 rfl (by kernel_rfl) rfl rfl rfl ?_
            refine zf 27 rfl (by kernel_rfl) rfl rfl rfl ?_
            refine zf 27 rfl (by kernel_rfl) rfl rfl rfl ?_
            refine zf 27 rfl (by kernel_rfl) rfl rfl rfl ?_
            refine zf 27 rfl (by kernel_rfl) rfl rfl rfl ?_
            refine za rfl (y_pick false rfl rfl rfl) rfl rfl ?_
            refine zA rfl rfl rfl rfl rfl ?_
            refine lg_nil ?_
            refine nx (zk3 1 2 23 rfl rfl rfl fn) ?_
            refine cg_cf rfl ?_
            refine cg_seq ?_
            refine cg_region ?_
            refine za rfl (y_fld (off := 0) (by kernel_rfl) rfl rfl) rfl rfl ?_
            refine za rfl (y_cellv (v := nv L.kind) r1 rfl (by kernel_rfl) rfl rfl) rfl rfl ?_
            refine za rfl (yb (decide_eq_false c4) (yi_eql rfl rfl rfl)) rfl rfl ?_
            refine zA rfl rfl rfl rfl rfl ?_
            refine lg_nil ?_
            refine nx (zk3 1 2 34 rfl rfl rfl fn) ?_
            refine cg_cf rfl ?_
            refine cg_seq ?_
            refine cg_region ?_
            refine za rfl (y_fld (off := 0) (by kernel_rfl) rfl rfl) rfl rfl ?_
            refine za rfl (y_cellv (v := nv L.kind) r1 rfl (by kernel_rfl) rfl rfl) rfl rfl ?_
            refine za rfl (yb (decide_eq_true c11) (yi_eql rfl rfl rfl)) rfl rfl ?_
            refine zA rfl rfl rfl rfl rfl ?_
            refine lg_nil ?_
            refine nx (zk3 1 2 41 rfl rfl rfl fn) ?_
            refine cg_ct rfl ?_
            refine cg_seq ?_
            refine cg_region ?_
            refine za rfl (y_fld (off := 5) (by kernel_rfl) rfl rfl) rfl rfl ?_
            refine za rfl (y_part r1 (m := 3) rfl (show 5+3 ≤ 8 by decide) (by kernel_rfl) (by kernel_rfl) rfl rfl) rfl rfl ?_
            have hl := hl.below (hw10.mono (by omega))
            refine lg_callw (want_none (by rfl)) (checkP_any (hl.inner.more (B' := w10.heap.size) (by omega)) (Nat.le_refl _)) (by kernel_rfl) rfl rfl rfl (by decide) ?_
            rintro _ w12 ⟨rfl, hw12⟩
            have zw12 := hw12.size
            refine zA rfl rfl rfl rfl rfl ?_
            refine lg_nil ?_
            refine nx (zk1 2 rfl fn) ?_
            refine cg_ret ?_
            refine eg_block_ret ?_
            refine eg_seq_ret ?_
            have u := u.trans (n1.below.mono u.size)
            have u := u.trans (hw10.mono u.size)
            have u := u.trans (hw12.mono u.size)
            exact eg_ret_tmp rfl rfl ⟨_, rfl, congrArg nv (show (pnCheck L.inner) = ndCheck L by simp [ndCheck, c9, c11]), u⟩
          · refine za rfl (yb (nd_t c11) (yi_neq rfl rfl rfl)) rfl rfl ?_
            refine zM rfl rfl rfl rfl rfl ?_
            refine zt 27 rfl (by kernel_rfl) rfl (y_fld (off := 5) (by kernel_rfl) rfl rfl) rfl rfl ?_
            refine zt 27 rfl (by kernel_rfl) rfl (y_part r1 (m := 3) rfl (show 5+3 ≤ 8 by decide) (by kernel_rfl) (by kernel_rfl) rfl rfl) rfl rfl ?_
            refine zt 27 rfl (by kernel_rfl) rfl (y_build (cs := PnV.zero.cs Pn.zero) rfl rfl (by kernel_rfl)) rfl rfl ?_
            have hl := hl.below (hw10.mono (by omega))
            by_cases c13 : PnSame L.inner Pn.zero
            · refine lg_callw (want_t (dj := 27) (by rfl) (by kernel_rfl) rfl) (sameP_any (hl.inner.more (B' := w10.heap.size) (by omega)) ((IsPn.zero _ 0).more (B' := w10.heap.size) (by omega)) (Nat.le_refl _)) (by kernel_rfl) rfl rfl rfl (by decide) ?_
              rintro u14 w14 ⟨e14, hw14⟩
              have zw14 := hw14.size
              obtain rfl : u14 = .bool true := e14.trans (congrArg Value.bool (decide_eq_true c13))
              refine zt 27 rfl (by kernel_rfl) rfl (y_bnot rfl rfl) rfl rfl ?_
              refine za rfl (y_pick true rfl rfl rfl) rfl rfl ?_
              refine zA rfl rfl rfl rfl rfl ?_
              refine lg_nil ?_
              refine nx (zk3 1 2 23 rfl rfl rfl fn) ?_
              refine cg_cf rfl ?_
              refine cg_seq ?_
              refine cg_region ?_
              refine za rfl (y_fld (off := 0) (by kernel_rfl) rfl rfl) rfl rfl ?_
              have r1 := RowAt.below hw14 r1.lt r1
              refine za rfl (y_cellv (v := nv L.kind) r1 rfl (by kernel_rfl) rfl rfl) rfl rfl ?_
              refine za rfl (yb (decide_eq_false c4) (yi_eql rfl rfl rfl)) rfl rfl ?_
              refine zA rfl rfl rfl rfl rfl ?_
              refine lg_nil ?_
              refine nx (zk3 1 2 34 rfl rfl rfl fn) ?_
              refine cg_cf rfl ?_
              refine cg_seq ?_
              refine cg_region ?_
              refine za rfl (y_fld (off := 0) (by kernel_rfl) rfl rfl) rfl rfl ?_
              refine za rfl (y_cellv (v := nv L.kind) r1 rfl (by kernel_rfl) rfl rfl) rfl rfl ?_
              refine za rfl (yb (decide_eq_false c11) (yi_eql rfl rfl rfl)) rfl rfl ?_
              refine zA rfl rfl rfl rfl rfl ?_
              refine lg_nil ?_
              refine nx (zk3 1 2 41 rfl rfl rfl fn) ?_
              refine cg_cf rfl ?_
              refine cg_skip ?_
              refine eg_block_norm ?_
              refine nx (zk1 2 rfl fn) ?_
              refine cg_seq ?_
              refine cg_region ?_
              refine zA rfl rfl rfl rfl rfl ?_
              refine lg_nil ?_
              refine nx (zk1 2 rfl fn) ?_
              refine cg_ret ?_
              have u := u.trans (n1.below.mono u.size)
              have u := u.trans (hw10.mono u.size)
              have u := u.trans (hw14.mono u.size)
              exact eg_ret_tmp rfl rfl ⟨_, rfl, congrArg nv (show 0 = ndCheck L by simp [ndCheck, c2, c3, c4, c9, c11, c13]), u⟩
            · refine lg_callw (want_t (dj := 27) (by rfl) (by kernel_rfl) rfl) (sameP_any (hl.inner.more (B' := w10.heap.size) (by omega)) ((IsPn.zero _ 0).more (B' := w10.heap.size) (by omega)) (Nat.le_refl _)) (by kernel_rfl) rfl rfl rfl (by decide) ?_
              rintro u15 w15 ⟨e15, hw15⟩
              have zw15 := hw15.size
              obtain rfl : u15 = .bool false := e15.trans (congrArg Value.bool (decide_eq_false c13))
              refine zt 27 rfl (by kernel_rfl) rfl (y_bnot rfl rfl) rfl rfl ?_
              refine za rfl (y_pick true rfl rfl rfl) rfl rfl ?_
              refine zA rfl rfl rfl rfl rfl ?_
              refine lg_nil ?_
              refine nx (zk3 1 2 23 rfl rfl rfl fn) ?_
              refine cg_ct rfl ?_
              refine cg_seq ?_
              refine cg_region ?_
              refine zA rfl rfl rfl rfl rfl ?_
              refine lg_nil ?_
              refine nx (zk1 2 rfl fn) ?_
              refine cg_ret ?_
              refine eg_block_ret ?_
              refine eg_seq_ret ?_
              have u := u.trans (n1.below.mono u.size)
              have u := u.trans (hw10.mono u.size)
              have u := u.trans (hw15.mono u.size)
              exact eg_ret_tmp rfl rfl ⟨_, rfl, congrArg nv (show 2 = ndCheck L by simp [ndCheck, c2, c3, c4, c9, c11, c13]), u⟩
        · refine lg_callw (want_t (dj := 16) (by rfl) (by kernel_rfl) rfl) (same_any (hl.leaf.more (B' := w1.heap.size) (by omega)) ((IsLf.zero _ 0).more (B' := w1.heap.size) (by omega)) (Nat.le_refl _)) (by kernel_rfl) rfl rfl rfl (by decide) ?_
          rintro u16 w16 ⟨e16, hw16⟩
          have zw16 := hw16.size
          obtain rfl : u16 = .bool false := e16.trans (congrArg Value.bool (decide_eq_false c9))
          refine zt 16 rfl (by kernel_rfl) rfl (y_bnot rfl rfl) rfl rfl ?_
          refine za rfl (y_pick true rfl rfl rfl) rfl rfl ?_
          refine zA rfl rfl rfl rfl rfl ?_
          refine lg_nil ?_
          refine nx (zk3 1 2 12 rfl rfl rfl fn) ?_
          refine cg_ct rfl ?_
          refine cg_seq ?_
          refine cg_region ?_
          refine zA rfl rfl rfl rfl rfl ?_
          refine lg_nil ?_
          refine nx (zk1 2 rfl fn) ?_
          refine cg_ret ?_
          refine eg_block_ret ?_
          refine eg_seq_ret ?_
          have u := u.trans (n1.below.mono u.size)
          have u := u.trans (hw16.mono u.size)
          exact eg_ret_tmp rfl rfl ⟨_, rfl, congrArg nv (show 2 = ndCheck L by simp [ndCheck, c2, c3, c4, c9]), u⟩
end
/- NdPut:
  node.Put, Get, and what is summed up.
-/
section
set_option maxHeartbeats 1000000
end
end Go.Proofs.YtjcnfmmekpiliaaDoor
