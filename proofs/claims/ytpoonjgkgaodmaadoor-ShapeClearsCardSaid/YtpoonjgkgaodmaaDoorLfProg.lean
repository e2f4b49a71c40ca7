/-
  leaf.Check and leaf.Same.
-/
import Derived.Test.YtpoonjgkgaodmaaDoorLfBase
namespace Go.Proofs.YtpoonjgkgaodmaaDoor
open Go.ChangeShapes Go.WideShapes Go.ChangeAt Go.RowKit
set_option linter.unusedVariables false

theorem large_any {w : World} {B : Nat} {s : SlV} {xs : List Int} (h : Sl w B s xs) : Calls Tryd.prog 63 #[s.v] w fun e w' => e = .returned (.bool (decide (200 < (xs.length : Int)))) ∧ w' = w := by
  refine calls_cg (n := 6) Tryd.func63 rfl Tryd.ntmps63 (by simp) ?_
  show CG _ _ _ [(0, s.v)] _ _
  refine cg_seq ?_
  refine cg_region ?_
  refine lsw (want_none (by rfl)) (y_assign rfl rfl) rfl (by decide) ?_
  refine lg_nil ?_
  refine nx (E' := [(0, _), (2, _)]) (fk rfl (fk rfl fn)) ?_
  refine cg_seq ?_
  refine cg_region ?_
  refine lsw (want_none (by rfl)) (y_move rfl rfl) rfl (by decide) ?_
  refine lsw (want_none (by rfl)) (y_lenS (el := 5) h (by kernel_rfl) rfl rfl) rfl (by decide) ?_
  refine lsw (want_none (by rfl)) (yi_gtr rfl rfl rfl) rfl (by decide) ?_
  refine lsw (want_none (by rfl)) (y_assign rfl rfl) rfl (by decide) ?_
  refine lg_nil ?_
  refine nx (E' := [(2, _)]) (fk rfl fn) ?_
  refine cg_ret ?_
  exact eg_ret_tmp rfl rfl ⟨rfl, rfl⟩
theorem known_any (n : Int) (w : World) : Calls Tryd.prog 64 #[nv n] w fun e w' => e = .returned (.bool (decide (1 ≤ n ∧ n ≤ 3))) ∧ w' = w := by
  refine calls_cg (n := 9) Tryd.func64 rfl Tryd.ntmps64 (by simp) ?_
  show CG _ _ _ [(0, nv n)] _ _
  refine cg_seq ?_
  refine cg_region ?_
  refine lsw (want_none (by rfl)) (y_assign rfl rfl) rfl (by decide) ?_
  refine lg_nil ?_
  refine nx (E' := [(0, _), (2, _)]) (fk rfl (fk rfl fn)) ?_
  refine cg_seq ?_
  refine cg_region ?_
  refine lsw (want_none (by rfl)) (y_move rfl rfl) rfl (by decide) ?_
  by_cases c1 : 1 ≤ n
  · refine lsw (want_none (by rfl)) (yb (decide_eq_true c1) (yi_geq rfl rfl rfl)) rfl (by decide) ?_
    refine lsw (want_none (by rfl)) (y_move rfl rfl) rfl (by decide) ?_
    refine lsw (want_t (dj := 5) (by rfl) (by kernel_rfl) rfl) (y_move rfl rfl) rfl (by decide) ?_
    by_cases c2 : n ≤ 3
    · refine lsw (want_t (dj := 5) (by rfl) (by kernel_rfl) rfl) (yb (decide_eq_true c2) (yi_leq rfl rfl rfl)) rfl (by decide) ?_
      refine lsw (want_none (by rfl)) (y_pick true rfl rfl rfl) rfl (by decide) ?_
      refine lsw (want_none (by rfl)) (y_assign rfl rfl) rfl (by decide) ?_
      refine lg_nil ?_
      refine nx (E' := [(2, _)]) (fk rfl fn) ?_
      refine cg_ret ?_
      exact eg_ret_tmp rfl rfl ⟨congrArg (fun b => Ending.returned (.bool b)) (show true = decide (1 ≤ n ∧ n ≤ 3) from (decide_eq_true (by omega)).symm), rfl⟩
    · refine lsw (want_t (dj := 5) (by rfl) (by kernel_rfl) rfl) (yb (decide_eq_false c2) (yi_leq rfl rfl rfl)) rfl (by decide) ?_
      refine lsw (want_none (by rfl)) (y_pick true rfl rfl rfl) rfl (by decide) ?_
      refine lsw (want_none (by rfl)) (y_assign rfl rfl) rfl (by decide) ?_
      refine lg_nil ?_
      refine nx (E' := [(2, _)]) (fk rfl fn) ?_
      refine cg_ret ?_
      exact eg_ret_tmp rfl rfl ⟨congrArg (fun b => Ending.returned (.bool b)) (show false = decide (1 ≤ n ∧ n ≤ 3) from (decide_eq_false (by omega)).symm), rfl⟩
  · refine lsw (want_none (by rfl)) (yb (decide_eq_false c1) (yi_geq rfl rfl rfl)) rfl (by decide) ?_
    refine lsw (want_none (by rfl)) (y_move rfl rfl) rfl (by decide) ?_
    refine lsk (want_f (dj := 5) (by rfl) (by kernel_rfl) rfl) rfl (by decide) ?_
    refine lsk (want_f (dj := 5) (by rfl) (by kernel_rfl) rfl) rfl (by decide) ?_
    refine lsw (want_none (by rfl)) (y_pick false rfl rfl rfl) rfl (by decide) ?_
    refine lsw (want_none (by rfl)) (y_assign rfl rfl) rfl (by decide) ?_
    refine lg_nil ?_
    refine nx (E' := [(2, _)]) (fk rfl fn) ?_
    refine cg_ret ?_
    exact eg_ret_tmp rfl rfl ⟨congrArg (fun b => Ending.returned (.bool b)) (show false = decide (1 ≤ n ∧ n ≤ 3) from (decide_eq_false (by omega)).symm), rfl⟩
theorem check_any {W : World} {B : Nat} {l : LfV} {L : Lf} (hl : IsLf W B l L) (hB : B ≤ W.heap.size) : Calls Tryd.prog 50 #[.agg (l.cs L)] W fun e W' => ∃ v, e = .returned v ∧ v = nv (lfCheck L) ∧ Below W.heap.size W W' := by
  refine calls_cg (n := 37) Tryd.func50 rfl Tryd.ntmps50 (by simp) ?_
  show CG _ _ _ [(0, .agg (l.cs L))] _ _
  have u := Below.refl W.heap.size W
  refine cg_seq ?_
  refine cg_region ?_
  refine lg_boxw (want_none (by rfl)) rfl rfl (by kernel_rfl) rfl (by decide) fun b1 w1 n1 => ?_
  have r1 := n1.row
  have k1 := n1.blk
  have z1 := n1.size
  have lt1 : b1 < w1.heap.size := by omega
  refine lsw (want_none (by rfl)) (y_assign rfl rfl) rfl (by decide) ?_
  refine lg_nil ?_
  refine nx (E' := [(1, _), (2, _)]) (fk rfl (fk rfl fn)) ?_
  refine cg_seq ?_
  refine cg_block ?_
  refine cg_seq ?_
  refine cg_region ?_
  refine lsw (want_none (by rfl)) (y_fld (off := 0) (by kernel_rfl) rfl rfl) rfl (by decide) ?_
  refine lsw (want_none (by rfl)) (y_cellv (v := l.enc.v) r1 rfl (by kernel_rfl) rfl rfl) rfl (by decide) ?_
  have hl := hl.below (n1.below.mono (by omega))
  refine lsw (want_none (by rfl)) (y_lenS (el := 5) hl.enc (by kernel_rfl) rfl rfl) rfl (by decide) ?_
  by_cases c2 : (L.enc.length : Int) = 0
  · refine lsw (want_none (by rfl)) (yb (decide_eq_true c2) (yi_eql rfl rfl rfl)) rfl (by decide) ?_
    refine lsw (want_none (by rfl)) (y_assign rfl rfl) rfl (by decide) ?_
    refine lg_nil ?_
    refine nx (E' := [(1, _), (2, _), (3, _)]) (fk rfl (fk rfl (fk rfl fn))) ?_
    refine cg_ct rfl ?_
    refine cg_seq ?_
    refine cg_region ?_
    refine lsw (want_none (by rfl)) (y_assign rfl rfl) rfl (by decide) ?_
    refine lg_nil ?_
    refine nx (E' := [(2, _)]) (fk rfl fn) ?_
    refine cg_ret ?_
    refine eg_block_ret ?_
    refine eg_seq_ret ?_
    have u := u.trans (n1.below.mono u.size)
    exact eg_ret_tmp rfl rfl ⟨_, rfl, congrArg nv (show 5 = lfCheck L by unfold lfCheck; (repeat' split) <;> omega), u⟩
  · refine lsw (want_none (by rfl)) (yb (decide_eq_false c2) (yi_eql rfl rfl rfl)) rfl (by decide) ?_
    refine lsw (want_none (by rfl)) (y_assign rfl rfl) rfl (by decide) ?_
    refine lg_nil ?_
    refine nx (E' := [(1, _), (2, _), (3, _)]) (fk rfl (fk rfl (fk rfl fn))) ?_
    refine cg_cf rfl ?_
    refine cg_seq ?_
    refine cg_region ?_
    refine lsw (want_none (by rfl)) (y_fld (off := 0) (by kernel_rfl) rfl rfl) rfl (by decide) ?_
    refine lsw (want_none (by rfl)) (y_cellv (v := l.enc.v) r1 rfl (by kernel_rfl) rfl rfl) rfl (by decide) ?_
    by_cases c3 : 200 < (L.enc.length : Int)
    · refine lsw (want_none (by rfl)) (yb (decide_eq_true c3) (y_call (large_any hl.enc) (by kernel_rfl) rfl rfl)) rfl (by decide) ?_
      refine lsw (want_none (by rfl)) (y_move rfl rfl) rfl (by decide) ?_
      refine lsk (want_f (dj := 12) (by rfl) (by kernel_rfl) rfl) rfl (by decide) ?_
      refine lsk (want_f (dj := 12) (by rfl) (by kernel_rfl) rfl) rfl (by decide) ?_
      refine lsk (want_f (dj := 12) (by rfl) (by kernel_rfl) rfl) rfl (by decide) ?_
      refine lsw (want_none (by rfl)) (y_pick true rfl rfl rfl) rfl (by decide) ?_
      refine lsw (want_none (by rfl)) (y_move rfl rfl) rfl (by decide) ?_
      refine lsk (want_f (dj := 17) (by rfl) (by kernel_rfl) rfl) rfl (by decide) ?_
      refine lsk (want_f (dj := 17) (by rfl) (by kernel_rfl) rfl) rfl (by decide) ?_
      refine lsk (want_f (dj := 17) (by rfl) (by kernel_rfl) rfl) rfl (by decide) ?_
      refine lsw (want_none (by rfl)) (y_pick true rfl rfl rfl) rfl (by decide) ?_
      refine lsw (want_none (by rfl)) (y_assign rfl rfl) rfl (by decide) ?_
      refine lg_nil ?_
      refine nx (E' := [(1, _), (2, _), (8, _)]) (fk rfl (fk rfl (fk rfl fn))) ?_
      refine cg_ct rfl ?_
      refine cg_seq ?_
      refine cg_region ?_
      refine lsw (want_none (by rfl)) (y_assign rfl rfl) rfl (by decide) ?_
      refine lg_nil ?_
      refine nx (E' := [(2, _)]) (fk rfl fn) ?_
      refine cg_ret ?_
      refine eg_block_ret ?_
      refine eg_seq_ret ?_
      have u := u.trans (n1.below.mono u.size)
      exact eg_ret_tmp rfl rfl ⟨_, rfl, congrArg nv (show 4 = lfCheck L by unfold lfCheck; (repeat' split) <;> omega), u⟩
    · refine lsw (want_none (by rfl)) (yb (decide_eq_false c3) (y_call (large_any hl.enc) (by kernel_rfl) rfl rfl)) rfl (by decide) ?_
      refine lsw (want_none (by rfl)) (y_move rfl rfl) rfl (by decide) ?_
      refine lsw (want_t (dj := 12) (by rfl) (by kernel_rfl) rfl) (y_fld (off := 1) (by kernel_rfl) rfl rfl) rfl (by decide) ?_
      refine lsw (want_t (dj := 12) (by rfl) (by kernel_rfl) rfl) (y_cellv (v := l.cred.v) r1 rfl (by kernel_rfl) rfl rfl) rfl (by decide) ?_
      by_cases c4 : 200 < (L.cred.length : Int)
      · refine lsw (want_t (dj := 12) (by rfl) (by kernel_rfl) rfl) (yb (decide_eq_true c4) (y_call (large_any hl.cred) (by kernel_rfl) rfl rfl)) rfl (by decide) ?_
        refine lsw (want_none (by rfl)) (y_pick false rfl rfl rfl) rfl (by decide) ?_
        refine lsw (want_none (by rfl)) (y_move rfl rfl) rfl (by decide) ?_
        refine lsk (want_f (dj := 17) (by rfl) (by kernel_rfl) rfl) rfl (by decide) ?_
        refine lsk (want_f (dj := 17) (by rfl) (by kernel_rfl) rfl) rfl (by decide) ?_
        refine lsk (want_f (dj := 17) (by rfl) (by kernel_rfl) rfl) rfl (by decide) ?_
        refine lsw (want_none (by rfl)) (y_pick true rfl rfl rfl) rfl (by decide) ?_
        refine lsw (want_none (by rfl)) (y_assign rfl rfl) rfl (by decide) ?_
        refine lg_nil ?_
        refine nx (E' := [(1, _), (2, _), (8, _)]) (fk rfl (fk rfl (fk rfl fn))) ?_
        refine cg_ct rfl ?_
        refine cg_seq ?_
        refine cg_region ?_
        refine lsw (want_none (by rfl)) (y_assign rfl rfl) rfl (by decide) ?_
        refine lg_nil ?_
        refine nx (E' := [(2, _)]) (fk rfl fn) ?_
        refine cg_ret ?_
        refine eg_block_ret ?_
        refine eg_seq_ret ?_
        have u := u.trans (n1.below.mono u.size)
        exact eg_ret_tmp rfl rfl ⟨_, rfl, congrArg nv (show 4 = lfCheck L by unfold lfCheck; (repeat' split) <;> omega), u⟩
      · refine lsw (want_t (dj := 12) (by rfl) (by kernel_rfl) rfl) (yb (decide_eq_false c4) (y_call (large_any hl.cred) (by kernel_rfl) rfl rfl)) rfl (by decide) ?_
        refine lsw (want_none (by rfl)) (y_pick false rfl rfl rfl) rfl (by decide) ?_
        refine lsw (want_none (by rfl)) (y_move rfl rfl) rfl (by decide) ?_
        refine lsw (want_t (dj := 17) (by rfl) (by kernel_rfl) rfl) (y_fld (off := 3) (by kernel_rfl) rfl rfl) rfl (by decide) ?_
        refine lsw (want_t (dj := 17) (by rfl) (by kernel_rfl) rfl) (y_cellv (v := l.par.v) r1 rfl (by kernel_rfl) rfl rfl) rfl (by decide) ?_
        by_cases c5 : 200 < (L.par.length : Int)
        · refine lsw (want_t (dj := 17) (by rfl) (by kernel_rfl) rfl) (yb (decide_eq_true c5) (y_call (large_any hl.par) (by kernel_rfl) rfl rfl)) rfl (by decide) ?_
          refine lsw (want_none (by rfl)) (y_pick false rfl rfl rfl) rfl (by decide) ?_
          refine lsw (want_none (by rfl)) (y_assign rfl rfl) rfl (by decide) ?_
          refine lg_nil ?_
          refine nx (E' := [(1, _), (2, _), (8, _)]) (fk rfl (fk rfl (fk rfl fn))) ?_
          refine cg_ct rfl ?_
          refine cg_seq ?_
          refine cg_region ?_
          refine lsw (want_none (by rfl)) (y_assign rfl rfl) rfl (by decide) ?_
          refine lg_nil ?_
          refine nx (E' := [(2, _)]) (fk rfl fn) ?_
          refine cg_ret ?_
          refine eg_block_ret ?_
          refine eg_seq_ret ?_
          have u := u.trans (n1.below.mono u.size)
          exact eg_ret_tmp rfl rfl ⟨_, rfl, congrArg nv (show 4 = lfCheck L by unfold lfCheck; (repeat' split) <;> omega), u⟩
        · refine lsw (want_t (dj := 17) (by rfl) (by kernel_rfl) rfl) (yb (decide_eq_false c5) (y_call (large_any hl.par) (by kernel_rfl) rfl rfl)) rfl (by decide) ?_
          refine lsw (want_none (by rfl)) (y_pick false rfl rfl rfl) rfl (by decide) ?_
          refine lsw (want_none (by rfl)) (y_assign rfl rfl) rfl (by decide) ?_
          refine lg_nil ?_
          refine nx (E' := [(1, _), (2, _), (8, _)]) (fk rfl (fk rfl (fk rfl fn))) ?_
          refine cg_cf rfl ?_
          refine cg_seq ?_
          refine cg_region ?_
          refine lsw (want_none (by rfl)) (y_fld (off := 2) (by kernel_rfl) rfl rfl) rfl (by decide) ?_
          refine lsw (want_none (by rfl)) (y_cellv (v := nv L.src) r1 rfl (by kernel_rfl) rfl rfl) rfl (by decide) ?_
          by_cases c6 : 1 ≤ L.src ∧ L.src ≤ 3
          · refine lsw (want_none (by rfl)) (yb (decide_eq_true c6) (y_call (known_any L.src _) (by kernel_rfl) rfl rfl)) rfl (by decide) ?_
            refine lsw (want_none (by rfl)) (y_bnot rfl rfl) rfl (by decide) ?_
            refine lsw (want_none (by rfl)) (y_assign rfl rfl) rfl (by decide) ?_
            refine lg_nil ?_
            refine nx (E' := [(1, _), (2, _), (22, _)]) (fk rfl (fk rfl (fk rfl fn))) ?_
            refine cg_cf rfl ?_
            refine cg_seq ?_
            refine cg_region ?_
            refine lsw (want_none (by rfl)) (y_fld (off := 3) (by kernel_rfl) rfl rfl) rfl (by decide) ?_
            refine lsw (want_none (by rfl)) (y_cellv (v := l.par.v) r1 rfl (by kernel_rfl) rfl rfl) rfl (by decide) ?_
            refine lsw (want_none (by rfl)) (y_lenS (el := 5) hl.par (by kernel_rfl) rfl rfl) rfl (by decide) ?_
            by_cases c7 : 0 < (L.par.length : Int)
            · refine lsw (want_none (by rfl)) (yb (decide_eq_true c7) (yi_gtr rfl rfl rfl)) rfl (by decide) ?_
              refine lsw (want_none (by rfl)) (y_move rfl rfl) rfl (by decide) ?_
              refine lsw (want_t (dj := 32) (by rfl) (by kernel_rfl) rfl) (y_fld (off := 2) (by kernel_rfl) rfl rfl) rfl (by decide) ?_
              refine lsw (want_t (dj := 32) (by rfl) (by kernel_rfl) rfl) (y_cellv (v := nv L.src) r1 rfl (by kernel_rfl) rfl rfl) rfl (by decide) ?_
              by_cases c8 : L.src = 3
              · refine lsw (want_t (dj := 32) (by rfl) (by kernel_rfl) rfl) (yb (nd_f c8) (yi_neq rfl rfl rfl)) rfl (by decide) ?_
                refine lsw (want_none (by rfl)) (y_pick true rfl rfl rfl) rfl (by decide) ?_
                refine lsw (want_none (by rfl)) (y_assign rfl rfl) rfl (by decide) ?_
                refine lg_nil ?_
                refine nx (E' := [(2, _), (27, _)]) (fk rfl (fk rfl fn)) ?_
                refine cg_cf rfl ?_
                refine cg_skip ?_
                refine eg_block_norm ?_
                refine nx (E' := [(2, _)]) (fk rfl fn) ?_
                refine cg_seq ?_
                refine cg_region ?_
                refine lsw (want_none (by rfl)) (y_assign rfl rfl) rfl (by decide) ?_
                refine lg_nil ?_
                refine nx (E' := [(2, _)]) (fk rfl fn) ?_
                refine cg_ret ?_
                have u := u.trans (n1.below.mono u.size)
                exact eg_ret_tmp rfl rfl ⟨_, rfl, congrArg nv (show 0 = lfCheck L by unfold lfCheck; (repeat' split) <;> omega), u⟩
              · refine lsw (want_t (dj := 32) (by rfl) (by kernel_rfl) rfl) (yb (nd_t c8) (yi_neq rfl rfl rfl)) rfl (by decide) ?_
                refine lsw (want_none (by rfl)) (y_pick true rfl rfl rfl) rfl (by decide) ?_
                refine lsw (want_none (by rfl)) (y_assign rfl rfl) rfl (by decide) ?_
                refine lg_nil ?_
                refine nx (E' := [(2, _), (27, _)]) (fk rfl (fk rfl fn)) ?_
                refine cg_ct rfl ?_
                refine cg_seq ?_
                refine cg_region ?_
                refine lsw (want_none (by rfl)) (y_assign rfl rfl) rfl (by decide) ?_
                refine lg_nil ?_
                refine nx (E' := [(2, _)]) (fk rfl fn) ?_
                refine cg_ret ?_
                refine eg_block_ret ?_
                refine eg_seq_ret ?_
                have u := u.trans (n1.below.mono u.size)
                exact eg_ret_tmp rfl rfl ⟨_, rfl, congrArg nv (show 2 = lfCheck L by unfold lfCheck; (repeat' split) <;> omega), u⟩
            · refine lsw (want_none (by rfl)) (yb (decide_eq_false c7) (yi_gtr rfl rfl rfl)) rfl (by decide) ?_
              refine lsw (want_none (by rfl)) (y_move rfl rfl) rfl (by decide) ?_
              refine lsk (want_f (dj := 32) (by rfl) (by kernel_rfl) rfl) rfl (by decide) ?_
              refine lsk (want_f (dj := 32) (by rfl) (by kernel_rfl) rfl) rfl (by decide) ?_
              refine lsk (want_f (dj := 32) (by rfl) (by kernel_rfl) rfl) rfl (by decide) ?_
              refine lsw (want_none (by rfl)) (y_pick false rfl rfl rfl) rfl (by decide) ?_
              refine lsw (want_none (by rfl)) (y_assign rfl rfl) rfl (by decide) ?_
              refine lg_nil ?_
              refine nx (E' := [(2, _), (27, _)]) (fk rfl (fk rfl fn)) ?_
              refine cg_cf rfl ?_
              refine cg_skip ?_
              refine eg_block_norm ?_
              refine nx (E' := [(2, _)]) (fk rfl fn) ?_
              refine cg_seq ?_
              refine cg_region ?_
              refine lsw (want_none (by rfl)) (y_assign rfl rfl) rfl (by decide) ?_
              refine lg_nil ?_
              refine nx (E' := [(2, _)]) (fk rfl fn) ?_
              refine cg_ret ?_
              have u := u.trans (n1.below.mono u.size)
              exact eg_ret_tmp rfl rfl ⟨_, rfl, congrArg nv (show 0 = lfCheck L by unfold lfCheck; (repeat' split) <;> omega), u⟩
          · refine lsw (want_none (by rfl)) (yb (decide_eq_false c6) (y_call (known_any L.src _) (by kernel_rfl) rfl rfl)) rfl (by decide) ?_
            refine lsw (want_none (by rfl)) (y_bnot rfl rfl) rfl (by decide) ?_
            refine lsw (want_none (by rfl)) (y_assign rfl rfl) rfl (by decide) ?_
            refine lg_nil ?_
            refine nx (E' := [(1, _), (2, _), (22, _)]) (fk rfl (fk rfl (fk rfl fn))) ?_
            refine cg_ct rfl ?_
            refine cg_seq ?_
            refine cg_region ?_
            refine lsw (want_none (by rfl)) (y_assign rfl rfl) rfl (by decide) ?_
            refine lg_nil ?_
            refine nx (E' := [(2, _)]) (fk rfl fn) ?_
            refine cg_ret ?_
            refine eg_block_ret ?_
            refine eg_seq_ret ?_
            have u := u.trans (n1.below.mono u.size)
            exact eg_ret_tmp rfl rfl ⟨_, rfl, congrArg nv (show 7 = lfCheck L by unfold lfCheck; (repeat' split) <;> omega), u⟩
theorem same_any {W : World} {B : Nat} {l m : LfV} {L M : Lf} (hl : IsLf W B l L) (hm : IsLf W B m M) (hB : B ≤ W.heap.size) : Calls Tryd.prog 48 #[.agg (l.cs L), .agg (m.cs M)] W fun e W' => ∃ v, e = .returned v ∧ v = .bool (decide (LfSame L M)) ∧ Below W.heap.size W W' := by
  refine calls_cg (n := 31) Tryd.func48 rfl Tryd.ntmps48 (by simp) ?_
  show CG _ _ _ [(0, .agg (l.cs L)), (1, .agg (m.cs M))] _ _
  have u := Below.refl W.heap.size W
  refine cg_seq ?_
  refine cg_region ?_
  refine lg_boxw (want_none (by rfl)) rfl rfl (by kernel_rfl) rfl (by decide) fun b1 w1 n1 => ?_
  have r1 := n1.row
  have k1 := n1.blk
  have z1 := n1.size
  have lt1 : b1 < w1.heap.size := by omega
  refine lg_boxw (want_none (by rfl)) rfl rfl (by kernel_rfl) rfl (by decide) fun b2 w2 n2 => ?_
  have r2 := n2.row
  have k2 := n2.blk
  have z2 := n2.size
  have lt2 : b2 < w2.heap.size := by omega
  refine lsw (want_none (by rfl)) (y_assign rfl rfl) rfl (by decide) ?_
  refine lg_nil ?_
  refine nx (E' := [(2, _), (3, _), (4, _)]) (fk rfl (fk rfl (fk rfl fn))) ?_
  refine cg_seq ?_
  refine cg_region ?_
  refine lsw (want_none (by rfl)) (y_fld (off := 0) (by kernel_rfl) rfl rfl) rfl (by decide) ?_
  have r1 := n2.keep r1
  refine lsw (want_none (by rfl)) (y_cellv (v := l.enc.v) r1 rfl (by kernel_rfl) rfl rfl) rfl (by decide) ?_
  refine lsw (want_none (by rfl)) (y_fld (off := 0) (by kernel_rfl) rfl rfl) rfl (by decide) ?_
  refine lsw (want_none (by rfl)) (y_cellv (v := m.enc.v) r2 rfl (by kernel_rfl) rfl rfl) rfl (by decide) ?_
  have hl := hl.below (n1.below.mono (by omega))
  have hl := hl.below (n2.below.mono (by omega))
  have hm := hm.below (n1.below.mono (by omega))
  have hm := hm.below (n2.below.mono (by omega))
  by_cases c3 : L.enc = M.enc
  · refine lsw (want_none (by rfl)) (yb (decide_eq_true c3) (y_call (bytesEq_S hl.enc hm.enc) (by kernel_rfl) rfl rfl)) rfl (by decide) ?_
    refine lsw (want_none (by rfl)) (y_move rfl rfl) rfl (by decide) ?_
    refine lsw (want_t (dj := 10) (by rfl) (by kernel_rfl) rfl) (y_fld (off := 1) (by kernel_rfl) rfl rfl) rfl (by decide) ?_
    refine lsw (want_t (dj := 10) (by rfl) (by kernel_rfl) rfl) (y_cellv (v := l.cred.v) r1 rfl (by kernel_rfl) rfl rfl) rfl (by decide) ?_
    refine lsw (want_t (dj := 10) (by rfl) (by kernel_rfl) rfl) (y_fld (off := 1) (by kernel_rfl) rfl rfl) rfl (by decide) ?_
    refine lsw (want_t (dj := 10) (by rfl) (by kernel_rfl) rfl) (y_cellv (v := m.cred.v) r2 rfl (by kernel_rfl) rfl rfl) rfl (by decide) ?_
    by_cases c4 : L.cred = M.cred
    · refine lsw (want_t (dj := 10) (by rfl) (by kernel_rfl) rfl) (yb (decide_eq_true c4) (y_call (bytesEq_S hl.cred hm.cred) (by kernel_rfl) rfl rfl)) rfl (by decide) ?_
      refine lsw (want_none (by rfl)) (y_pick true rfl rfl rfl) rfl (by decide) ?_
      refine lsw (want_none (by rfl)) (y_move rfl rfl) rfl (by decide) ?_
      refine lsw (want_t (dj := 17) (by rfl) (by kernel_rfl) rfl) (y_fld (off := 2) (by kernel_rfl) rfl rfl) rfl (by decide) ?_
      refine lsw (want_t (dj := 17) (by rfl) (by kernel_rfl) rfl) (y_cellv (v := nv L.src) r1 rfl (by kernel_rfl) rfl rfl) rfl (by decide) ?_
      refine lsw (want_t (dj := 17) (by rfl) (by kernel_rfl) rfl) (y_fld (off := 2) (by kernel_rfl) rfl rfl) rfl (by decide) ?_
      refine lsw (want_t (dj := 17) (by rfl) (by kernel_rfl) rfl) (y_cellv (v := nv M.src) r2 rfl (by kernel_rfl) rfl rfl) rfl (by decide) ?_
      by_cases c5 : L.src = M.src
      · refine lsw (want_t (dj := 17) (by rfl) (by kernel_rfl) rfl) (yb (decide_eq_true c5) (yi_eql rfl rfl rfl)) rfl (by decide) ?_
        refine lsw (want_none (by rfl)) (y_pick true rfl rfl rfl) rfl (by decide) ?_
        refine lsw (want_none (by rfl)) (y_move rfl rfl) rfl (by decide) ?_
        refine lsw (want_t (dj := 24) (by rfl) (by kernel_rfl) rfl) (y_fld (off := 3) (by kernel_rfl) rfl rfl) rfl (by decide) ?_
        refine lsw (want_t (dj := 24) (by rfl) (by kernel_rfl) rfl) (y_cellv (v := l.par.v) r1 rfl (by kernel_rfl) rfl rfl) rfl (by decide) ?_
        refine lsw (want_t (dj := 24) (by rfl) (by kernel_rfl) rfl) (y_fld (off := 3) (by kernel_rfl) rfl rfl) rfl (by decide) ?_
        refine lsw (want_t (dj := 24) (by rfl) (by kernel_rfl) rfl) (y_cellv (v := m.par.v) r2 rfl (by kernel_rfl) rfl rfl) rfl (by decide) ?_
        by_cases c6 : L.par = M.par
        · refine lsw (want_t (dj := 24) (by rfl) (by kernel_rfl) rfl) (yb (decide_eq_true c6) (y_call (bytesEq_S hl.par hm.par) (by kernel_rfl) rfl rfl)) rfl (by decide) ?_
          refine lsw (want_none (by rfl)) (y_pick true rfl rfl rfl) rfl (by decide) ?_
          refine lsw (want_none (by rfl)) (y_assign rfl rfl) rfl (by decide) ?_
          refine lg_nil ?_
          refine nx (E' := [(4, _)]) (fk rfl fn) ?_
          refine cg_ret ?_
          have u := u.trans (n1.below.mono u.size)
          have u := u.trans (n2.below.mono u.size)
          exact eg_ret_tmp rfl rfl ⟨_, rfl, congrArg Value.bool (show true = decide (LfSame L M) from (decide_eq_true (by simp [LfSame, *])).symm), u⟩
        · refine lsw (want_t (dj := 24) (by rfl) (by kernel_rfl) rfl) (yb (decide_eq_false c6) (y_call (bytesEq_S hl.par hm.par) (by kernel_rfl) rfl rfl)) rfl (by decide) ?_
          refine lsw (want_none (by rfl)) (y_pick true rfl rfl rfl) rfl (by decide) ?_
          refine lsw (want_none (by rfl)) (y_assign rfl rfl) rfl (by decide) ?_
          refine lg_nil ?_
          refine nx (E' := [(4, _)]) (fk rfl fn) ?_
          refine cg_ret ?_
          have u := u.trans (n1.below.mono u.size)
          have u := u.trans (n2.below.mono u.size)
          exact eg_ret_tmp rfl rfl ⟨_, rfl, congrArg Value.bool (show false = decide (LfSame L M) from (decide_eq_false (by simp [LfSame, *])).symm), u⟩
      · refine lsw (want_t (dj := 17) (by rfl) (by kernel_rfl) rfl) (yb (decide_eq_false c5) (yi_eql rfl rfl rfl)) rfl (by decide) ?_
        refine lsw (want_none (by rfl)) (y_pick true rfl rfl rfl) rfl (by decide) ?_
        refine lsw (want_none (by rfl)) (y_move rfl rfl) rfl (by decide) ?_
        refine lsk (want_f (dj := 24) (by rfl) (by kernel_rfl) rfl) rfl (by decide) ?_
        refine lsk (want_f (dj := 24) (by rfl) (by kernel_rfl) rfl) rfl (by decide) ?_
        refine lsk (want_f (dj := 24) (by rfl) (by kernel_rfl) rfl) rfl (by decide) ?_
        refine lsk (want_f (dj := 24) (by rfl) (by kernel_rfl) rfl) rfl (by decide) ?_
        refine lsk (want_f (dj := 24) (by rfl) (by kernel_rfl) rfl) rfl (by decide) ?_
        refine lsw (want_none (by rfl)) (y_pick false rfl rfl rfl) rfl (by decide) ?_
        refine lsw (want_none (by rfl)) (y_assign rfl rfl) rfl (by decide) ?_
        refine lg_nil ?_
        refine nx (E' := [(4, _)]) (fk rfl fn) ?_
        refine cg_ret ?_
        have u := u.trans (n1.below.mono u.size)
        have u := u.trans (n2.below.mono u.size)
        exact eg_ret_tmp rfl rfl ⟨_, rfl, congrArg Value.bool (show false = decide (LfSame L M) from (decide_eq_false (by simp [LfSame, *])).symm), u⟩
    · refine lsw (want_t (dj := 10) (by rfl) (by kernel_rfl) rfl) (yb (decide_eq_false c4) (y_call (bytesEq_S hl.cred hm.cred) (by kernel_rfl) rfl rfl)) rfl (by decide) ?_
      refine lsw (want_none (by rfl)) (y_pick true rfl rfl rfl) rfl (by decide) ?_
      refine lsw (want_none (by rfl)) (y_move rfl rfl) rfl (by decide) ?_
      refine lsk (want_f (dj := 17) (by rfl) (by kernel_rfl) rfl) rfl (by decide) ?_
      refine lsk (want_f (dj := 17) (by rfl) (by kernel_rfl) rfl) rfl (by decide) ?_
      refine lsk (want_f (dj := 17) (by rfl) (by kernel_rfl) rfl) rfl (by decide) ?_
      refine lsk (want_f (dj := 17) (by rfl) (by kernel_rfl) rfl) rfl (by decide) ?_
      refine lsk (want_f (dj := 17) (by rfl) (by kernel_rfl) rfl) rfl (by decide) ?_
      refine lsw (want_none (by rfl)) (y_pick false rfl rfl rfl) rfl (by decide) ?_
      refine lsw (want_none (by rfl)) (y_move rfl rfl) rfl (by decide) ?_
      refine lsk (want_f (dj := 24) (by rfl) (by kernel_rfl) rfl) rfl (by decide) ?_
      refine lsk (want_f (dj := 24) (by rfl) (by kernel_rfl) rfl) rfl (by decide) ?_
      refine lsk (want_f (dj := 24) (by rfl) (by kernel_rfl) rfl) rfl (by decide) ?_
      refine lsk (want_f (dj := 24) (by rfl) (by kernel_rfl) rfl) rfl (by decide) ?_
      refine lsk (want_f (dj := 24) (by rfl) (by kernel_rfl) rfl) rfl (by decide) ?_
      refine lsw (want_none (by rfl)) (y_pick false rfl rfl rfl) rfl (by decide) ?_
      refine lsw (want_none (by rfl)) (y_assign rfl rfl) rfl (by decide) ?_
      refine lg_nil ?_
      refine nx (E' := [(4, _)]) (fk rfl fn) ?_
      refine cg_ret ?_
      have u := u.trans (n1.below.mono u.size)
      have u := u.trans (n2.below.mono u.size)
      exact eg_ret_tmp rfl rfl ⟨_, rfl, congrArg Value.bool (show false = decide (LfSame L M) from (decide_eq_false (by simp [LfSame, *])).symm), u⟩
  · refine lsw (want_none (by rfl)) (yb (decide_eq_false c3) (y_call (bytesEq_S hl.enc hm.enc) (by kernel_rfl) rfl rfl)) rfl (by decide) ?_
    refine lsw (want_none (by rfl)) (y_move rfl rfl) rfl (by decide) ?_
    refine lsk (want_f (dj := 10) (by rfl) (by kernel_rfl) rfl) rfl (by decide) ?_
    refine lsk (want_f (dj := 10) (by rfl) (by kernel_rfl) rfl) rfl (by decide) ?_
    refine lsk (want_f (dj := 10) (by rfl) (by kernel_rfl) rfl) rfl (by decide) ?_
    refine lsk (want_f (dj := 10) (by rfl) (by kernel_rfl) rfl) rfl (by decide) ?_
    refine lsk (want_f (dj := 10) (by rfl) (by kernel_rfl) rfl) rfl (by decide) ?_
    refine lsw (want_none (by rfl)) (y_pick false rfl rfl rfl) rfl (by decide) ?_
    refine lsw (want_none (by rfl)) (y_move rfl rfl) rfl (by decide) ?_
    refine lsk (want_f (dj := 17) (by rfl) (by kernel_rfl) rfl) rfl (by decide) ?_
    refine lsk (want_f (dj := 17) (by rfl) (by kernel_rfl) rfl) rfl (by decide) ?_
    refine lsk (want_f (dj := 17) (by rfl) (by kernel_rfl) rfl) rfl (by decide) ?_
    refine lsk (want_f (dj := 17) (by rfl) (by kernel_rfl) rfl) rfl (by decide) ?_
    refine lsk (want_f (dj := 17) (by rfl) (by kernel_rfl) rfl) rfl (by decide) ?_
    refine lsw (want_none (by rfl)) (y_pick false rfl rfl rfl) rfl (by decide) ?_
    refine lsw (want_none (by rfl)) (y_move rfl rfl) rfl (by decide) ?_
    refine lsk (want_f (dj := 24) (by rfl) (by kernel_rfl) rfl) rfl (by decide) ?_
    refine lsk (want_f (dj := 24) (by rfl) (by kernel_rfl) rfl) rfl (by decide) ?_
    refine lsk (want_f (dj := 24) (by rfl) (by kernel_rfl) rfl) rfl (by decide) ?_
    refine lsk (want_f (dj := 24) (by rfl) (by kernel_rfl) rfl) rfl (by decide) ?_
    refine lsk (want_f (dj := 24) (by rfl) (by kernel_rfl) rfl) rfl (by decide) ?_
    refine lsw (want_none (by rfl)) (y_pick false rfl rfl rfl) rfl (by decide) ?_
    refine lsw (want_none (by rfl)) (y_assign rfl rfl) rfl (by decide) ?_
    refine lg_nil ?_
    refine nx (E' := [(4, _)]) (fk rfl fn) ?_
    refine cg_ret ?_
    have u := u.trans (n1.below.mono u.size)
    have u := u.trans (n2.below.mono u.size)
    exact eg_ret_tmp rfl rfl ⟨_, rfl, congrArg Value.bool (show false = decide (LfSame L M) from (decide_eq_false (by simp [LfSame, *])).symm), u⟩
end Go.Proofs.YtpoonjgkgaodmaaDoor
