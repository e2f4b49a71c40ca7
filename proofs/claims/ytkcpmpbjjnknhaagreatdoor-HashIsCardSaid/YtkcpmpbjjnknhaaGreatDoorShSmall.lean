/-
  Contracts of the small functions of the sum and of the document: new states, what a state counts as, states handed on.
-/
import Derived.Test.YtkcpmpbjjnknhaaGreatDoorShBase
namespace Go.Proofs.YtkcpmpbjjnknhaaGreatDoor
open Go.ChangeShapes Go.WideShapes Go.ChangeAt Go.RowKit
set_option linter.unusedVariables false
set_option maxRecDepth 20000
theorem new_any (w : World) : Calls Tryz.prog 60 #[] w fun e w' => ∃ v, e = .returned v ∧ StR w S.new v w' := by
  refine calls_cg (n := 3) Tryz.func60 rfl Tryz.ntmps60 (by simp) ?_
  show CG _ _ _ [] _ _
  have u := Below.refl w.heap.size w
  refine cg_seq ?_
  refine cg_region ?_
  refine lg_allocw (want_none (by rfl)) rfl hzS rfl (by decide) fun b1 w1 n1 => ?_
  have r1 := n1.row
  have k1 := n1.blk
  have z1 := n1.size
  refine lg_nil ?_
  refine nx (zk1 0 rfl fn) ?_
  refine cg_seq ?_
  refine cg_region ?_
  refine lg_callw (want_none (by rfl)) (first_any _) (by kernel_rfl) rfl rfl rfl (by decide) ?_
  rintro _ w2 ⟨rfl, hw2⟩
  have zw2 := hw2.size
  refine za rfl (y_build rfl rfl (bS1 _)) rfl rfl ?_
  have r1 := RowAt.below hw2 r1.lt r1
  have qw3 := r1
  refine lg_stw (want_none (by rfl)) r1 rfl rfl rfl (hsS _ _ _) (cS_one _ _ _ _ _) rfl rfl fun w3 sw3 => ?_
  have r1 := sw3.row
  have zw3 := sw3.size
  refine lg_nil ?_
  refine nx (zk1 0 rfl fn) ?_
  refine cg_ret ?_
  have u := u.trans (n1.below.mono u.size)
  have u := u.trans (hw2.mono u.size)
  have u := u.trans (sw3.below _ (by omega))
  exact eg_ret_agg rfl rfl r1 (by kernel_rfl) (hsS _ _ _) ⟨_, rfl, none, 0, 0, rfl, Oct.nil _ _ _, u⟩
theorem rnew_any (w : World) : Calls Tryz.prog 105 #[] w fun e w' => ∃ v, e = .returned v ∧ StR w S.new v w' := by
  refine calls_cg (n := 3) Tryz.func105 rfl Tryz.ntmps105 (by simp) ?_
  show CG _ _ _ [] _ _
  have u := Below.refl w.heap.size w
  refine cg_seq ?_
  refine cg_region ?_
  refine lg_allocw (want_none (by rfl)) rfl hzR rfl (by decide) fun b1 w1 n1 => ?_
  have r1 := n1.row
  have k1 := n1.blk
  have z1 := n1.size
  refine lg_nil ?_
  refine nx (zk1 0 rfl fn) ?_
  refine cg_seq ?_
  refine cg_region ?_
  refine lg_callw (want_none (by rfl)) (rfirst_any _) (by kernel_rfl) rfl rfl rfl (by decide) ?_
  rintro _ w2 ⟨rfl, hw2⟩
  have zw2 := hw2.size
  refine za rfl (y_build rfl rfl (bR1 _)) rfl rfl ?_
  have r1 := RowAt.below hw2 r1.lt r1
  have qw3 := r1
  refine lg_stw (want_none (by rfl)) r1 rfl rfl rfl (hsR _ _ _) (cS_one _ _ _ _ _) rfl rfl fun w3 sw3 => ?_
  have r1 := sw3.row
  have zw3 := sw3.size
  refine lg_nil ?_
  refine nx (zk1 0 rfl fn) ?_
  refine cg_ret ?_
  have u := u.trans (n1.below.mono u.size)
  have u := u.trans (hw2.mono u.size)
  have u := u.trans (sw3.below _ (by omega))
  exact eg_ret_agg rfl rfl r1 (by kernel_rfl) (hsR _ _ _) ⟨_, rfl, none, 0, 0, rfl, Oct.nil _ _ _, u⟩
theorem counted_any (k : Int) (w : World) : Calls Tryz.prog 136 #[nv k] w fun e w' => e = .returned (.bool (decide (0 ≤ k ∧ k ≤ 1125899906842624))) ∧ w' = w := by
  by_cases h0 : 0 ≤ k
  · refine calls_cg (n := 9) Tryz.func136 rfl Tryz.ntmps136 (by simp) ?_
    show CG _ _ _ [(0, nv k)] _ _
    have u := Below.refl w.heap.size w
    refine cg_seq ?_
    refine cg_region ?_
    refine zA rfl rfl rfl rfl rfl ?_
    refine lg_nil ?_
    refine nx (zk2 0 2 rfl rfl fn) ?_
    refine cg_seq ?_
    refine cg_region ?_
    refine zM rfl rfl rfl rfl rfl ?_
    refine za rfl (yb (decide_eq_true h0) (yi_geq rfl rfl rfl)) rfl rfl ?_
    refine zM rfl rfl rfl rfl rfl ?_
    refine zt 5 rfl (by kernel_rfl) rfl (y_move rfl rfl) rfl rfl ?_
    refine zt 5 rfl (by kernel_rfl) rfl (yi_leq rfl rfl rfl) rfl rfl ?_
    refine za rfl (y_pick true rfl rfl rfl) rfl rfl ?_
    refine zA rfl rfl rfl rfl rfl ?_
    refine lg_nil ?_
    refine nx (zk1 2 rfl fn) ?_
    refine cg_ret ?_
    exact eg_ret_tmp rfl rfl ⟨by simp [h0], rfl⟩
  · refine calls_cg (n := 9) Tryz.func136 rfl Tryz.ntmps136 (by simp) ?_
    show CG _ _ _ [(0, nv k)] _ _
    have u := Below.refl w.heap.size w
    refine cg_seq ?_
    refine cg_region ?_
    refine zA rfl rfl rfl rfl rfl ?_
    refine lg_nil ?_
    refine nx (zk2 0 2 rfl rfl fn) ?_
    refine cg_seq ?_
    refine cg_region ?_
    refine zM rfl rfl rfl rfl rfl ?_
    refine za rfl (yb (decide_eq_false h0) (yi_geq rfl rfl rfl)) rfl rfl ?_
    refine zM rfl rfl rfl rfl rfl ?_
    refine zf 5 rfl (by kernel_rfl) rfl rfl rfl ?_
    refine zf 5 rfl (by kernel_rfl) rfl rfl rfl ?_
    refine za rfl (y_pick false rfl rfl rfl) rfl rfl ?_
    refine zA rfl rfl rfl rfl rfl ?_
    refine lg_nil ?_
    refine nx (zk1 2 rfl fn) ?_
    refine cg_ret ?_
    exact eg_ret_tmp rfl rfl ⟨by simp [h0], rfl⟩
theorem sound_any (s : S) (A : Option Addr) (m c : Nat) (w : World) (o0 : Oct w w.heap.size A m s.b) : Calls Tryz.prog 93 #[.agg (cS s.h (.slice A m c) s.n)] w fun e w' => ∃ v, e = .returned v ∧ StR w s.as v w' := by
  have hl := o0.1
  by_cases h64 : 64 ≤ m
  · refine calls_cg (n := 15) Tryz.func93 rfl Tryz.ntmps93 (by simp) ?_
    show CG _ _ _ [(0, .agg (cS s.h (.slice A m c) s.n))] _ _
    have u := Below.refl w.heap.size w
    refine cg_seq ?_
    refine cg_region ?_
    refine lg_boxw (want_none (by rfl)) rfl rfl (hsS _ _ _) rfl (by decide) fun b1 w1 n1 => ?_
    have r1 := n1.row
    have k1 := n1.blk
    have z1 := n1.size
    refine lg_allocw (want_none (by rfl)) rfl hzS rfl (by decide) fun b2 w2 n2 => ?_
    have r2 := n2.row
    have k2 := n2.blk
    have z2 := n2.size
    refine lg_nil ?_
    refine nx (zk2 1 2 rfl rfl fn) ?_
    refine cg_seq ?_
    refine cg_seq ?_
    refine cg_region ?_
    refine za rfl (y_fld (off := 8) (by kernel_rfl) rfl rfl) rfl rfl ?_
    have r1 := n2.keep r1
    refine za rfl (y_cellv r1 (cS_8 _ _ _) (by kernel_rfl) rfl rfl) rfl rfl ?_
    refine za rfl (y_len (el := 5) (by kernel_rfl) rfl rfl) rfl rfl ?_
    refine za rfl (yb (decide_eq_true (by omega)) (yi_geq rfl rfl rfl)) rfl rfl ?_
    refine zM rfl rfl rfl rfl rfl ?_
    refine zf 7 rfl (by kernel_rfl) rfl rfl rfl ?_
    refine zf 7 rfl (by kernel_rfl) rfl rfl rfl ?_
    refine zf 7 rfl (by kernel_rfl) rfl rfl rfl ?_
    refine zf 7 rfl (by kernel_rfl) rfl rfl rfl ?_
    refine za rfl (y_pick true rfl rfl rfl) rfl rfl ?_
    refine lg_nil ?_
    refine nx (zk3 1 2 12 rfl rfl rfl fn) ?_
    refine cg_ct rfl ?_
    refine cg_seq ?_
    refine cg_region ?_
    refine lg_callw (want_none (by rfl)) (new_any _) (by kernel_rfl) rfl rfl rfl (by decide) ?_
    rintro _ w3 ⟨A3, m3, c3, rfl, o3, hw3⟩
    have zw3 := hw3.size
    have r2 := RowAt.below hw3 r2.lt r2
    have qw4 := r2
    refine lg_stw (want_none (by rfl)) r2 rfl rfl rfl (hsS _ _ _) (cS_one _ _ _ _ _) rfl rfl fun w4 sw4 => ?_
    have r2 := sw4.row
    have zw4 := sw4.size
    refine lg_nil ?_
    refine nx (zk2 1 2 rfl rfl fn) ?_
    refine cg_ret ?_
    refine eg_seq_ret ?_
    have u := u.trans (n1.below.mono u.size)
    have u := u.trans (n2.below.mono u.size)
    have u := u.trans (hw3.mono u.size)
    have u := u.trans (sw4.below _ (by omega))
    have o3 := o3.set qw4 cS_no sw4
    exact eg_ret_agg rfl rfl r2 (by kernel_rfl) (hsS _ _ _) (by rw [S.as_no (by unfold S.ok; omega)]; exact ⟨_, rfl, _, _, _, rfl, o3.more (by omega), u⟩)
  · by_cases hk : 0 ≤ s.n ∧ s.n ≤ 1125899906842624
    · refine calls_cg (n := 15) Tryz.func93 rfl Tryz.ntmps93 (by simp) ?_
      show CG _ _ _ [(0, .agg (cS s.h (.slice A m c) s.n))] _ _
      have u := Below.refl w.heap.size w
      refine cg_seq ?_
      refine cg_region ?_
      refine lg_boxw (want_none (by rfl)) rfl rfl (hsS _ _ _) rfl (by decide) fun b1 w1 n1 => ?_
      have r1 := n1.row
      have k1 := n1.blk
      have z1 := n1.size
      refine lg_allocw (want_none (by rfl)) rfl hzS rfl (by decide) fun b2 w2 n2 => ?_
      have r2 := n2.row
      have k2 := n2.blk
      have z2 := n2.size
      refine lg_nil ?_
      refine nx (zk2 1 2 rfl rfl fn) ?_
      refine cg_seq ?_
      refine cg_seq ?_
      refine cg_region ?_
      refine za rfl (y_fld (off := 8) (by kernel_rfl) rfl rfl) rfl rfl ?_
      have r1 := n2.keep r1
      refine za rfl (y_cellv r1 (cS_8 _ _ _) (by kernel_rfl) rfl rfl) rfl rfl ?_
      refine za rfl (y_len (el := 5) (by kernel_rfl) rfl rfl) rfl rfl ?_
      refine za rfl (yb (decide_eq_false (by omega)) (yi_geq rfl rfl rfl)) rfl rfl ?_
      refine zM rfl rfl rfl rfl rfl ?_
      refine zt 7 rfl (by kernel_rfl) rfl (y_fld (off := 9) (by kernel_rfl) rfl rfl) rfl rfl ?_
      refine zt 7 rfl (by kernel_rfl) rfl (y_cellv r1 (cS_9 _ _ _) (by kernel_rfl) rfl rfl) rfl rfl ?_
      refine zt 7 rfl (by kernel_rfl) rfl (yb (decide_eq_true hk) (y_call (counted_any _ _) (by kernel_rfl) rfl rfl)) rfl rfl ?_
      refine zt 7 rfl (by kernel_rfl) rfl (y_bnot rfl rfl) rfl rfl ?_
      refine za rfl (y_pick false rfl rfl rfl) rfl rfl ?_
      refine lg_nil ?_
      refine nx (zk3 1 2 12 rfl rfl rfl fn) ?_
      refine cg_cf rfl ?_
      refine cg_skip ?_
      refine nx (zk2 1 2 rfl rfl fn) ?_
      refine cg_seq ?_
      refine cg_region ?_
      refine za rfl (y_part r1 (m := 10) (cS_all _ _ _) (by show _ ≤ 10; omega) (by kernel_rfl) (by kernel_rfl) rfl rfl) rfl rfl ?_
      have qw3 := r2
      refine lg_stw (want_none (by rfl)) r2 rfl rfl rfl (hsS _ _ _) (cS_one _ _ _ _ _) rfl rfl fun w3 sw3 => ?_
      have r2 := sw3.row
      have zw3 := sw3.size
      refine lg_nil ?_
      refine nx (zk1 2 rfl fn) ?_
      refine cg_ret ?_
      have u := u.trans (n1.below.mono u.size)
      have u := u.trans (n2.below.mono u.size)
      have u := u.trans (sw3.below _ (by omega))
      have o0 := o0.below (n1.below.mono (by omega))
      have o0 := o0.below (n2.below.mono (by omega))
      have o0 := o0.set qw3 cS_no sw3
      exact eg_ret_agg rfl rfl r2 (by kernel_rfl) (hsS _ _ _) (by rw [S.as_ok ⟨by omega, by omega, by omega⟩]; exact ⟨_, rfl, _, _, _, rfl, o0.more u.size, u⟩)
    · refine calls_cg (n := 15) Tryz.func93 rfl Tryz.ntmps93 (by simp) ?_
      show CG _ _ _ [(0, .agg (cS s.h (.slice A m c) s.n))] _ _
      have u := Below.refl w.heap.size w
      refine cg_seq ?_
      refine cg_region ?_
      refine lg_boxw (want_none (by rfl)) rfl rfl (hsS _ _ _) rfl (by decide) fun b1 w1 n1 => ?_
      have r1 := n1.row
      have k1 := n1.blk
      have z1 := n1.size
      refine lg_allocw (want_none (by rfl)) rfl hzS rfl (by decide) fun b2 w2 n2 => ?_
      have r2 := n2.row
      have k2 := n2.blk
      have z2 := n2.size
      refine lg_nil ?_
      refine nx (zk2 1 2 rfl rfl fn) ?_
      refine cg_seq ?_
      refine cg_seq ?_
      refine cg_region ?_
      refine za rfl (y_fld (off := 8) (by kernel_rfl) rfl rfl) rfl rfl ?_
      have r1 := n2.keep r1
      refine za rfl (y_cellv r1 (cS_8 _ _ _) (by kernel_rfl) rfl rfl) rfl rfl ?_
      refine za rfl (y_len (el := 5) (by kernel_rfl) rfl rfl) rfl rfl ?_
      refine za rfl (yb (decide_eq_false (by omega)) (yi_geq rfl rfl rfl)) rfl rfl ?_
      refine zM rfl rfl rfl rfl rfl ?_
      refine zt 7 rfl (by kernel_rfl) rfl (y_fld (off := 9) (by kernel_rfl) rfl rfl) rfl rfl ?_
      refine zt 7 rfl (by kernel_rfl) rfl (y_cellv r1 (cS_9 _ _ _) (by kernel_rfl) rfl rfl) rfl rfl ?_
      refine zt 7 rfl (by kernel_rfl) rfl (yb (decide_eq_false hk) (y_call (counted_any _ _) (by kernel_rfl) rfl rfl)) rfl rfl ?_
      refine zt 7 rfl (by kernel_rfl) rfl (y_bnot rfl rfl) rfl rfl ?_
      refine za rfl (y_pick false rfl rfl rfl) rfl rfl ?_
      refine lg_nil ?_
      refine nx (zk3 1 2 12 rfl rfl rfl fn) ?_
      refine cg_ct rfl ?_
      refine cg_seq ?_
      refine cg_region ?_
      refine lg_callw (want_none (by rfl)) (new_any _) (by kernel_rfl) rfl rfl rfl (by decide) ?_
      rintro _ w3 ⟨A3, m3, c3, rfl, o3, hw3⟩
      have zw3 := hw3.size
      have r2 := RowAt.below hw3 r2.lt r2
      have qw4 := r2
      refine lg_stw (want_none (by rfl)) r2 rfl rfl rfl (hsS _ _ _) (cS_one _ _ _ _ _) rfl rfl fun w4 sw4 => ?_
      have r2 := sw4.row
      have zw4 := sw4.size
      refine lg_nil ?_
      refine nx (zk2 1 2 rfl rfl fn) ?_
      refine cg_ret ?_
      refine eg_seq_ret ?_
      have u := u.trans (n1.below.mono u.size)
      have u := u.trans (n2.below.mono u.size)
      have u := u.trans (hw3.mono u.size)
      have u := u.trans (sw4.below _ (by omega))
      have o3 := o3.set qw4 cS_no sw4
      exact eg_ret_agg rfl rfl r2 (by kernel_rfl) (hsS _ _ _) (by rw [S.as_no (by unfold S.ok; omega)]; exact ⟨_, rfl, _, _, _, rfl, o3.more (by omega), u⟩)
theorem ras_any (s : S) (A : Option Addr) (m c : Nat) (w : World) (o0 : Oct w w.heap.size A m s.b) : Calls Tryz.prog 140 #[.agg (cS s.h (.slice A m c) s.n)] w fun e w' => ∃ v, e = .returned v ∧ StR w s.as v w' := by
  have hl := o0.1
  by_cases h64 : 64 ≤ m
  · refine calls_cg (n := 19) Tryz.func140 rfl Tryz.ntmps140 (by simp) ?_
    show CG _ _ _ [(0, .agg (cS s.h (.slice A m c) s.n))] _ _
    have u := Below.refl w.heap.size w
    refine cg_seq ?_
    refine cg_region ?_
    refine lg_boxw (want_none (by rfl)) rfl rfl (hsR _ _ _) rfl (by decide) fun b1 w1 n1 => ?_
    have r1 := n1.row
    have k1 := n1.blk
    have z1 := n1.size
    refine lg_allocw (want_none (by rfl)) rfl hzR rfl (by decide) fun b2 w2 n2 => ?_
    have r2 := n2.row
    have k2 := n2.blk
    have z2 := n2.size
    refine lg_nil ?_
    refine nx (zk2 1 2 rfl rfl fn) ?_
    refine cg_seq ?_
    refine cg_seq ?_
    refine cg_region ?_
    refine za rfl (y_fld (off := 8) (by kernel_rfl) rfl rfl) rfl rfl ?_
    have r1 := n2.keep r1
    refine za rfl (y_cellv r1 (cS_8 _ _ _) (by kernel_rfl) rfl rfl) rfl rfl ?_
    refine za rfl (y_len (el := 5) (by kernel_rfl) rfl rfl) rfl rfl ?_
    refine za rfl (yb (decide_eq_true (by omega)) (yi_geq rfl rfl rfl)) rfl rfl ?_
    refine zM rfl rfl rfl rfl rfl ?_
    refine zf 7 rfl (by kernel_rfl) rfl rfl rfl ?_
    refine zf 7 rfl (by kernel_rfl) rfl rfl rfl ?_
    refine zf 7 rfl (by kernel_rfl) rfl rfl rfl ?_
    refine za rfl (y_pick true rfl rfl rfl) rfl rfl ?_
    refine zM rfl rfl rfl rfl rfl ?_
    refine zf 12 rfl (by kernel_rfl) rfl rfl rfl ?_
    refine zf 12 rfl (by kernel_rfl) rfl rfl rfl ?_
    refine zf 12 rfl (by kernel_rfl) rfl rfl rfl ?_
    refine za rfl (y_pick true rfl rfl rfl) rfl rfl ?_
    refine lg_nil ?_
    refine nx (zk3 1 2 16 rfl rfl rfl fn) ?_
    refine cg_ct rfl ?_
    refine cg_seq ?_
    refine cg_region ?_
    refine lg_callw (want_none (by rfl)) (rnew_any _) (by kernel_rfl) rfl rfl rfl (by decide) ?_
    rintro _ w3 ⟨A3, m3, c3, rfl, o3, hw3⟩
    have zw3 := hw3.size
    have r2 := RowAt.below hw3 r2.lt r2
    have qw4 := r2
    refine lg_stw (want_none (by rfl)) r2 rfl rfl rfl (hsR _ _ _) (cS_one _ _ _ _ _) rfl rfl fun w4 sw4 => ?_
    have r2 := sw4.row
    have zw4 := sw4.size
    refine lg_nil ?_
    refine nx (zk2 1 2 rfl rfl fn) ?_
    refine cg_ret ?_
    refine eg_seq_ret ?_
    have u := u.trans (n1.below.mono u.size)
    have u := u.trans (n2.below.mono u.size)
    have u := u.trans (hw3.mono u.size)
    have u := u.trans (sw4.below _ (by omega))
    have o3 := o3.set qw4 cS_no sw4
    exact eg_ret_agg rfl rfl r2 (by kernel_rfl) (hsR _ _ _) (by rw [S.as_no (by unfold S.ok; omega)]; exact ⟨_, rfl, _, _, _, rfl, o3.more (by omega), u⟩)
  · by_cases hk : s.n < 0
    · refine calls_cg (n := 19) Tryz.func140 rfl Tryz.ntmps140 (by simp) ?_
      show CG _ _ _ [(0, .agg (cS s.h (.slice A m c) s.n))] _ _
      have u := Below.refl w.heap.size w
      refine cg_seq ?_
      refine cg_region ?_
      refine lg_boxw (want_none (by rfl)) rfl rfl (hsR _ _ _) rfl (by decide) fun b1 w1 n1 => ?_
      have r1 := n1.row
      have k1 := n1.blk
      have z1 := n1.size
      refine lg_allocw (want_none (by rfl)) rfl hzR rfl (by decide) fun b2 w2 n2 => ?_
      have r2 := n2.row
      have k2 := n2.blk
      have z2 := n2.size
      refine lg_nil ?_
      refine nx (zk2 1 2 rfl rfl fn) ?_
      refine cg_seq ?_
      refine cg_seq ?_
      refine cg_region ?_
      refine za rfl (y_fld (off := 8) (by kernel_rfl) rfl rfl) rfl rfl ?_
      have r1 := n2.keep r1
      refine za rfl (y_cellv r1 (cS_8 _ _ _) (by kernel_rfl) rfl rfl) rfl rfl ?_
      refine za rfl (y_len (el := 5) (by kernel_rfl) rfl rfl) rfl rfl ?_
      refine za rfl (yb (decide_eq_false (by omega)) (yi_geq rfl rfl rfl)) rfl rfl ?_
      refine zM rfl rfl rfl rfl rfl ?_
      refine zt 7 rfl (by kernel_rfl) rfl (y_fld (off := 9) (by kernel_rfl) rfl rfl) rfl rfl ?_
      refine zt 7 rfl (by kernel_rfl) rfl (y_cellv r1 (cS_9 _ _ _) (by kernel_rfl) rfl rfl) rfl rfl ?_
      refine zt 7 rfl (by kernel_rfl) rfl (yb (decide_eq_true hk) (yi_lss rfl rfl rfl)) rfl rfl ?_
      refine za rfl (y_pick false rfl rfl rfl) rfl rfl ?_
      refine zM rfl rfl rfl rfl rfl ?_
      refine zf 12 rfl (by kernel_rfl) rfl rfl rfl ?_
      refine zf 12 rfl (by kernel_rfl) rfl rfl rfl ?_
      refine zf 12 rfl (by kernel_rfl) rfl rfl rfl ?_
      refine za rfl (y_pick true rfl rfl rfl) rfl rfl ?_
      refine lg_nil ?_
      refine nx (zk3 1 2 16 rfl rfl rfl fn) ?_
      refine cg_ct rfl ?_
      refine cg_seq ?_
      refine cg_region ?_
      refine lg_callw (want_none (by rfl)) (rnew_any _) (by kernel_rfl) rfl rfl rfl (by decide) ?_
      rintro _ w3 ⟨A3, m3, c3, rfl, o3, hw3⟩
      have zw3 := hw3.size
      have r2 := RowAt.below hw3 r2.lt r2
      have qw4 := r2
      refine lg_stw (want_none (by rfl)) r2 rfl rfl rfl (hsR _ _ _) (cS_one _ _ _ _ _) rfl rfl fun w4 sw4 => ?_
      have r2 := sw4.row
      have zw4 := sw4.size
      refine lg_nil ?_
      refine nx (zk2 1 2 rfl rfl fn) ?_
      refine cg_ret ?_
      refine eg_seq_ret ?_
      have u := u.trans (n1.below.mono u.size)
      have u := u.trans (n2.below.mono u.size)
      have u := u.trans (hw3.mono u.size)
      have u := u.trans (sw4.below _ (by omega))
      have o3 := o3.set qw4 cS_no sw4
      exact eg_ret_agg rfl rfl r2 (by kernel_rfl) (hsR _ _ _) (by rw [S.as_no (by unfold S.ok; omega)]; exact ⟨_, rfl, _, _, _, rfl, o3.more (by omega), u⟩)
    · by_cases hk2 : 1125899906842624 < s.n
      · refine calls_cg (n := 19) Tryz.func140 rfl Tryz.ntmps140 (by simp) ?_
        show CG _ _ _ [(0, .agg (cS s.h (.slice A m c) s.n))] _ _
        have u := Below.refl w.heap.size w
        refine cg_seq ?_
        refine cg_region ?_
        refine lg_boxw (want_none (by rfl)) rfl rfl (hsR _ _ _) rfl (by decide) fun b1 w1 n1 => ?_
        have r1 := n1.row
        have k1 := n1.blk
        have z1 := n1.size
        refine lg_allocw (want_none (by rfl)) rfl hzR rfl (by decide) fun b2 w2 n2 => ?_
        have r2 := n2.row
        have k2 := n2.blk
        have z2 := n2.size
        refine lg_nil ?_
        refine nx (zk2 1 2 rfl rfl fn) ?_
        refine cg_seq ?_
        refine cg_seq ?_
        refine cg_region ?_
        refine za rfl (y_fld (off := 8) (by kernel_rfl) rfl rfl) rfl rfl ?_
        have r1 := n2.keep r1
        refine za rfl (y_cellv r1 (cS_8 _ _ _) (by kernel_rfl) rfl rfl) rfl rfl ?_
        refine za rfl (y_len (el := 5) (by kernel_rfl) rfl rfl) rfl rfl ?_
        refine za rfl (yb (decide_eq_false (by omega)) (yi_geq rfl rfl rfl)) rfl rfl ?_
        refine zM rfl rfl rfl rfl rfl ?_
        refine zt 7 rfl (by kernel_rfl) rfl (y_fld (off := 9) (by kernel_rfl) rfl rfl) rfl rfl ?_
        refine zt 7 rfl (by kernel_rfl) rfl (y_cellv r1 (cS_9 _ _ _) (by kernel_rfl) rfl rfl) rfl rfl ?_
        refine zt 7 rfl (by kernel_rfl) rfl (yb (decide_eq_false hk) (yi_lss rfl rfl rfl)) rfl rfl ?_
        refine za rfl (y_pick false rfl rfl rfl) rfl rfl ?_
        refine zM rfl rfl rfl rfl rfl ?_
        refine zt 12 rfl (by kernel_rfl) rfl (y_fld (off := 9) (by kernel_rfl) rfl rfl) rfl rfl ?_
        refine zt 12 rfl (by kernel_rfl) rfl (y_cellv r1 (cS_9 _ _ _) (by kernel_rfl) rfl rfl) rfl rfl ?_
        refine zt 12 rfl (by kernel_rfl) rfl (yb (decide_eq_true hk2) (yi_gtr rfl rfl rfl)) rfl rfl ?_
        refine za rfl (y_pick false rfl rfl rfl) rfl rfl ?_
        refine lg_nil ?_
        refine nx (zk3 1 2 16 rfl rfl rfl fn) ?_
        refine cg_ct rfl ?_
        refine cg_seq ?_
        refine cg_region ?_
        refine lg_callw (want_none (by rfl)) (rnew_any _) (by kernel_rfl) rfl rfl rfl (by decide) ?_
        rintro _ w3 ⟨A3, m3, c3, rfl, o3, hw3⟩
        have zw3 := hw3.size
        have r2 := RowAt.below hw3 r2.lt r2
        have qw4 := r2
        refine lg_stw (want_none (by rfl)) r2 rfl rfl rfl (hsR _ _ _) (cS_one _ _ _ _ _) rfl rfl fun w4 sw4 => ?_
        have r2 := sw4.row
        have zw4 := sw4.size
        refine lg_nil ?_
        refine nx (zk2 1 2 rfl rfl fn) ?_
        refine cg_ret ?_
        refine eg_seq_ret ?_
        have u := u.trans (n1.below.mono u.size)
        have u := u.trans (n2.below.mono u.size)
        have u := u.trans (hw3.mono u.size)
        have u := u.trans (sw4.below _ (by omega))
        have o3 := o3.set qw4 cS_no sw4
        exact eg_ret_agg rfl rfl r2 (by kernel_rfl) (hsR _ _ _) (by rw [S.as_no (by unfold S.ok; omega)]; exact ⟨_, rfl, _, _, _, rfl, o3.more (by omega), u⟩)
      · refine calls_cg (n := 19) Tryz.func140 rfl Tryz.ntmps140 (by simp) ?_
        show CG _ _ _ [(0, .agg (cS s.h (.slice A m c) s.n))] _ _
        have u := Below.refl w.heap.size w
        refine cg_seq ?_
        refine cg_region ?_
        refine lg_boxw (want_none (by rfl)) rfl rfl (hsR _ _ _) rfl (by decide) fun b1 w1 n1 => ?_
        have r1 := n1.row
        have k1 := n1.blk
        have z1 := n1.size
        refine lg_allocw (want_none (by rfl)) rfl hzR rfl (by decide) fun b2 w2 n2 => ?_
        have r2 := n2.row
        have k2 := n2.blk
        have z2 := n2.size
        refine lg_nil ?_
        refine nx (zk2 1 2 rfl rfl fn) ?_
        refine cg_seq ?_
        refine cg_seq ?_
        refine cg_region ?_
        refine za rfl (y_fld (off := 8) (by kernel_rfl) rfl rfl) rfl rfl ?_
        have r1 := n2.keep r1
        refine za rfl (y_cellv r1 (cS_8 _ _ _) (by kernel_rfl) rfl rfl) rfl rfl ?_
        refine za rfl (y_len (el := 5) (by kernel_rfl) rfl rfl) rfl rfl ?_
        refine za rfl (yb (decide_eq_false (by omega)) (yi_geq rfl rfl rfl)) rfl rfl ?_
        refine zM rfl rfl rfl rfl rfl ?_
        refine zt 7 rfl (by kernel_rfl) rfl (y_fld (off := 9) (by kernel_rfl) rfl rfl) rfl rfl ?_
        refine zt 7 rfl (by kernel_rfl) rfl (y_cellv r1 (cS_9 _ _ _) (by kernel_rfl) rfl rfl) rfl rfl ?_
        refine zt 7 rfl (by kernel_rfl) rfl (yb (decide_eq_false hk) (yi_lss rfl rfl rfl)) rfl rfl ?_
        refine za rfl (y_pick false rfl rfl rfl) rfl rfl ?_
        refine zM rfl rfl rfl rfl rfl ?_
        refine zt 12 rfl (by kernel_rfl) rfl (y_fld (off := 9) (by kernel_rfl) rfl rfl) rfl rfl ?_
        refine zt 12 rfl (by kernel_rfl) rfl (y_cellv r1 (cS_9 _ _ _) (by kernel_rfl) rfl rfl) rfl rfl ?_
        refine zt 12 rfl (by kernel_rfl) rfl (yb (decide_eq_false hk2) (yi_gtr rfl rfl rfl)) rfl rfl ?_
        refine za rfl (y_pick false rfl rfl rfl) rfl rfl ?_
        refine lg_nil ?_
        refine nx (zk3 1 2 16 rfl rfl rfl fn) ?_
        refine cg_cf rfl ?_
        refine cg_skip ?_
        refine nx (zk2 1 2 rfl rfl fn) ?_
        refine cg_seq ?_
        refine cg_region ?_
        refine za rfl (y_part r1 (m := 10) (cS_all _ _ _) (by show _ ≤ 10; omega) (by kernel_rfl) (by kernel_rfl) rfl rfl) rfl rfl ?_
        have qw3 := r2
        refine lg_stw (want_none (by rfl)) r2 rfl rfl rfl (hsR _ _ _) (cS_one _ _ _ _ _) rfl rfl fun w3 sw3 => ?_
        have r2 := sw3.row
        have zw3 := sw3.size
        refine lg_nil ?_
        refine nx (zk1 2 rfl fn) ?_
        refine cg_ret ?_
        have u := u.trans (n1.below.mono u.size)
        have u := u.trans (n2.below.mono u.size)
        have u := u.trans (sw3.below _ (by omega))
        have o0 := o0.below (n1.below.mono (by omega))
        have o0 := o0.below (n2.below.mono (by omega))
        have o0 := o0.set qw3 cS_no sw3
        exact eg_ret_agg rfl rfl r2 (by kernel_rfl) (hsR _ _ _) (by rw [S.as_ok ⟨by omega, by omega, by omega⟩]; exact ⟨_, rfl, _, _, _, rfl, o0.more u.size, u⟩)
end Go.Proofs.YtkcpmpbjjnknhaaGreatDoor
