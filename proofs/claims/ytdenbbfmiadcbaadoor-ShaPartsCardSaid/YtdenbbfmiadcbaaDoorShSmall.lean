/-
  Contracts of the small functions of the sum and of the document: new states, what a state counts as, states handed on.
-/
import Derived.Test.YtdenbbfmiadcbaaDoorShBase
namespace Go.Proofs.YtdenbbfmiadcbaaDoor
open Go.ChangeShapes Go.WideShapes Go.ChangeAt Go.RowKit
set_option linter.unusedVariables false
set_option maxRecDepth 20000
theorem new_any (w : World) : Calls Tryd.prog 10 #[] w fun e w' => ∃ v, e = .returned v ∧ StR w S.new v w' := by
  refine calls_cg (n := 3) Tryd.func10 rfl Tryd.ntmps10 (by simp) ?_
  show CG _ _ _ [] _ _
  have u := Below.refl w.heap.size w
  refine cg_seq ?_
  refine cg_region ?_
  refine lg_allocw (want_none (by rfl)) rfl hzS rfl (by decide) fun b1 w1 n1 => ?_
  have r1 := n1.row
  have k1 := n1.blk
  have z1 := n1.size
  refine lg_nil ?_
  refine nx (E' := [(0, _)]) (fk rfl fn) ?_
  refine cg_seq ?_
  refine cg_region ?_
  refine lg_callw (want_none (by rfl)) (first_any _) (by kernel_rfl) rfl rfl rfl (by decide) ?_
  rintro _ w2 ⟨rfl, hw2⟩
  have zw2 := hw2.size
  refine lsw (want_none (by rfl)) (y_build rfl rfl (bS1 _)) rfl (by decide) ?_
  have r1 := RowAt.below hw2 r1.lt r1
  have qw3 := r1
  refine lg_stw (want_none (by rfl)) r1 rfl rfl rfl (hsS _ _ _) (cS_one _ _ _ _ _) rfl rfl fun w3 sw3 => ?_
  have r1 := sw3.row
  have zw3 := sw3.size
  refine lg_nil ?_
  refine nx (E' := [(0, _)]) (fk rfl fn) ?_
  refine cg_ret ?_
  have u := u.trans (n1.below.mono u.size)
  have u := u.trans (hw2.mono u.size)
  have u := u.trans (sw3.below _ (by omega))
  exact eg_ret_agg rfl rfl r1 (by kernel_rfl) (hsS _ _ _) ⟨_, rfl, none, 0, 0, rfl, Oct.nil _ _ _, u⟩
theorem rnew_any (w : World) : Calls Tryd.prog 11 #[] w fun e w' => ∃ v, e = .returned v ∧ StR w S.new v w' := by
  refine calls_cg (n := 3) Tryd.func11 rfl Tryd.ntmps11 (by simp) ?_
  show CG _ _ _ [] _ _
  have u := Below.refl w.heap.size w
  refine cg_seq ?_
  refine cg_region ?_
  refine lg_allocw (want_none (by rfl)) rfl hzR rfl (by decide) fun b1 w1 n1 => ?_
  have r1 := n1.row
  have k1 := n1.blk
  have z1 := n1.size
  refine lg_nil ?_
  refine nx (E' := [(0, _)]) (fk rfl fn) ?_
  refine cg_seq ?_
  refine cg_region ?_
  refine lg_callw (want_none (by rfl)) (rfirst_any _) (by kernel_rfl) rfl rfl rfl (by decide) ?_
  rintro _ w2 ⟨rfl, hw2⟩
  have zw2 := hw2.size
  refine lsw (want_none (by rfl)) (y_build rfl rfl (bR1 _)) rfl (by decide) ?_
  have r1 := RowAt.below hw2 r1.lt r1
  have qw3 := r1
  refine lg_stw (want_none (by rfl)) r1 rfl rfl rfl (hsR _ _ _) (cS_one _ _ _ _ _) rfl rfl fun w3 sw3 => ?_
  have r1 := sw3.row
  have zw3 := sw3.size
  refine lg_nil ?_
  refine nx (E' := [(0, _)]) (fk rfl fn) ?_
  refine cg_ret ?_
  have u := u.trans (n1.below.mono u.size)
  have u := u.trans (hw2.mono u.size)
  have u := u.trans (sw3.below _ (by omega))
  exact eg_ret_agg rfl rfl r1 (by kernel_rfl) (hsR _ _ _) ⟨_, rfl, none, 0, 0, rfl, Oct.nil _ _ _, u⟩
theorem theirs_any (h : Nat → BitVec 32) (A : Option Addr) (m c : Nat) (k : Int) (w : World) : Calls Tryd.prog 9 #[.agg (cS h (.slice A m c) k)] w fun e w' => ∃ v, e = .returned v ∧ v = .agg (cS h (.slice A m c) k) ∧ Below w.heap.size w w' := by
  refine calls_cg (n := 10) Tryd.func9 rfl Tryd.ntmps9 (by simp) ?_
  show CG _ _ _ [(0, .agg (cS h (.slice A m c) k))] _ _
  have u := Below.refl w.heap.size w
  refine cg_seq ?_
  refine cg_region ?_
  refine lg_boxw (want_none (by rfl)) rfl rfl (hsS _ _ _) rfl (by decide) fun b1 w1 n1 => ?_
  have r1 := n1.row
  have k1 := n1.blk
  have z1 := n1.size
  refine lg_allocw (want_none (by rfl)) rfl hzR rfl (by decide) fun b2 w2 n2 => ?_
  have r2 := n2.row
  have k2 := n2.blk
  have z2 := n2.size
  refine lg_nil ?_
  refine nx (E' := [(1, _), (2, _)]) (fk rfl (fk rfl fn)) ?_
  refine cg_seq ?_
  refine cg_region ?_
  refine lsw (want_none (by rfl)) (y_fld (off := 0) (by kernel_rfl) rfl rfl) rfl (by decide) ?_
  have r1 := n2.keep r1
  refine lsw (want_none (by rfl)) (y_part r1 (m := 8) (cS_part _ _ _) (by show _ ≤ 10; omega) (by kernel_rfl) (by kernel_rfl) rfl rfl) rfl (by decide) ?_
  refine lsw (want_none (by rfl)) (y_fld (off := 8) (by kernel_rfl) rfl rfl) rfl (by decide) ?_
  refine lsw (want_none (by rfl)) (y_cellv r1 (cS_8 _ _ _) (by kernel_rfl) rfl rfl) rfl (by decide) ?_
  refine lsw (want_none (by rfl)) (y_fld (off := 9) (by kernel_rfl) rfl rfl) rfl (by decide) ?_
  refine lsw (want_none (by rfl)) (y_cellv r1 (cS_9 _ _ _) (by kernel_rfl) rfl rfl) rfl (by decide) ?_
  refine lsw (want_none (by rfl)) (y_build rfl rfl (bR3 _ () _)) rfl (by decide) ?_
  have qw3 := r2
  refine lg_stw (want_none (by rfl)) r2 rfl rfl rfl (hsR _ _ _) (cS_one _ _ _ _ _) rfl rfl fun w3 sw3 => ?_
  have r2 := sw3.row
  have zw3 := sw3.size
  refine lg_nil ?_
  refine nx (E' := [(2, _)]) (fk rfl fn) ?_
  refine cg_ret ?_
  have u := u.trans (n1.below.mono u.size)
  have u := u.trans (n2.below.mono u.size)
  have u := u.trans (sw3.below _ (by omega))
  exact eg_ret_agg rfl rfl r2 (by kernel_rfl) (hsR _ _ _) ⟨_, rfl, rfl, u⟩
theorem ours_any (h : Nat → BitVec 32) (A : Option Addr) (m c : Nat) (k : Int) (w : World) : Calls Tryd.prog 13 #[.agg (cS h (.slice A m c) k)] w fun e w' => ∃ v, e = .returned v ∧ v = .agg (cS h (.slice A m c) k) ∧ Below w.heap.size w w' := by
  refine calls_cg (n := 10) Tryd.func13 rfl Tryd.ntmps13 (by simp) ?_
  show CG _ _ _ [(0, .agg (cS h (.slice A m c) k))] _ _
  have u := Below.refl w.heap.size w
  refine cg_seq ?_
  refine cg_region ?_
  refine lg_boxw (want_none (by rfl)) rfl rfl (hsR _ _ _) rfl (by decide) fun b1 w1 n1 => ?_
  have r1 := n1.row
  have k1 := n1.blk
  have z1 := n1.size
  refine lg_allocw (want_none (by rfl)) rfl hzS rfl (by decide) fun b2 w2 n2 => ?_
  have r2 := n2.row
  have k2 := n2.blk
  have z2 := n2.size
  refine lg_nil ?_
  refine nx (E' := [(1, _), (2, _)]) (fk rfl (fk rfl fn)) ?_
  refine cg_seq ?_
  refine cg_region ?_
  refine lsw (want_none (by rfl)) (y_fld (off := 0) (by kernel_rfl) rfl rfl) rfl (by decide) ?_
  have r1 := n2.keep r1
  refine lsw (want_none (by rfl)) (y_part r1 (m := 8) (cS_part _ _ _) (by show _ ≤ 10; omega) (by kernel_rfl) (by kernel_rfl) rfl rfl) rfl (by decide) ?_
  refine lsw (want_none (by rfl)) (y_fld (off := 8) (by kernel_rfl) rfl rfl) rfl (by decide) ?_
  refine lsw (want_none (by rfl)) (y_cellv r1 (cS_8 _ _ _) (by kernel_rfl) rfl rfl) rfl (by decide) ?_
  refine lsw (want_none (by rfl)) (y_fld (off := 9) (by kernel_rfl) rfl rfl) rfl (by decide) ?_
  refine lsw (want_none (by rfl)) (y_cellv r1 (cS_9 _ _ _) (by kernel_rfl) rfl rfl) rfl (by decide) ?_
  refine lsw (want_none (by rfl)) (y_build rfl rfl (bS3 _ () _)) rfl (by decide) ?_
  have qw3 := r2
  refine lg_stw (want_none (by rfl)) r2 rfl rfl rfl (hsS _ _ _) (cS_one _ _ _ _ _) rfl rfl fun w3 sw3 => ?_
  have r2 := sw3.row
  have zw3 := sw3.size
  refine lg_nil ?_
  refine nx (E' := [(2, _)]) (fk rfl fn) ?_
  refine cg_ret ?_
  have u := u.trans (n1.below.mono u.size)
  have u := u.trans (n2.below.mono u.size)
  have u := u.trans (sw3.below _ (by omega))
  exact eg_ret_agg rfl rfl r2 (by kernel_rfl) (hsS _ _ _) ⟨_, rfl, rfl, u⟩
theorem counted_any (k : Int) (w : World) : Calls Tryd.prog 30 #[nv k] w fun e w' => e = .returned (.bool (decide (0 ≤ k ∧ k ≤ 1125899906842624))) ∧ w' = w := by
  by_cases h0 : 0 ≤ k
  · refine calls_cg (n := 9) Tryd.func30 rfl Tryd.ntmps30 (by simp) ?_
    show CG _ _ _ [(0, nv k)] _ _
    have u := Below.refl w.heap.size w
    refine cg_seq ?_
    refine cg_region ?_
    refine lsw (want_none (by rfl)) (y_assign rfl rfl) rfl (by decide) ?_
    refine lg_nil ?_
    refine nx (E' := [(0, _), (2, _)]) (fk rfl (fk rfl fn)) ?_
    refine cg_seq ?_
    refine cg_region ?_
    refine lsw (want_none (by rfl)) (y_move rfl rfl) rfl (by decide) ?_
    refine lsw (want_none (by rfl)) (yb (decide_eq_true h0) (yi_geq rfl rfl rfl)) rfl (by decide) ?_
    refine lsw (want_none (by rfl)) (y_move rfl rfl) rfl (by decide) ?_
    refine lsw (want_t (dj := 5) (by rfl) (by kernel_rfl) rfl) (y_move rfl rfl) rfl (by decide) ?_
    refine lsw (want_t (dj := 5) (by rfl) (by kernel_rfl) rfl) (yi_leq rfl rfl rfl) rfl (by decide) ?_
    refine lsw (want_none (by rfl)) (y_pick true rfl rfl rfl) rfl (by decide) ?_
    refine lsw (want_none (by rfl)) (y_assign rfl rfl) rfl (by decide) ?_
    refine lg_nil ?_
    refine nx (E' := [(2, _)]) (fk rfl fn) ?_
    refine cg_ret ?_
    exact eg_ret_tmp rfl rfl ⟨by simp [h0], rfl⟩
  · refine calls_cg (n := 9) Tryd.func30 rfl Tryd.ntmps30 (by simp) ?_
    show CG _ _ _ [(0, nv k)] _ _
    have u := Below.refl w.heap.size w
    refine cg_seq ?_
    refine cg_region ?_
    refine lsw (want_none (by rfl)) (y_assign rfl rfl) rfl (by decide) ?_
    refine lg_nil ?_
    refine nx (E' := [(0, _), (2, _)]) (fk rfl (fk rfl fn)) ?_
    refine cg_seq ?_
    refine cg_region ?_
    refine lsw (want_none (by rfl)) (y_move rfl rfl) rfl (by decide) ?_
    refine lsw (want_none (by rfl)) (yb (decide_eq_false h0) (yi_geq rfl rfl rfl)) rfl (by decide) ?_
    refine lsw (want_none (by rfl)) (y_move rfl rfl) rfl (by decide) ?_
    refine lsk (want_f (dj := 5) (by rfl) (by kernel_rfl) rfl) rfl (by decide) ?_
    refine lsk (want_f (dj := 5) (by rfl) (by kernel_rfl) rfl) rfl (by decide) ?_
    refine lsw (want_none (by rfl)) (y_pick false rfl rfl rfl) rfl (by decide) ?_
    refine lsw (want_none (by rfl)) (y_assign rfl rfl) rfl (by decide) ?_
    refine lg_nil ?_
    refine nx (E' := [(2, _)]) (fk rfl fn) ?_
    refine cg_ret ?_
    exact eg_ret_tmp rfl rfl ⟨by simp [h0], rfl⟩
theorem sound_any (s : S) (A : Option Addr) (m c : Nat) (w : World) (o0 : Oct w w.heap.size A m s.b) : Calls Tryd.prog 24 #[.agg (cS s.h (.slice A m c) s.n)] w fun e w' => ∃ v, e = .returned v ∧ StR w s.as v w' := by
  have hl := o0.1
  by_cases h64 : 64 ≤ m
  · refine calls_cg (n := 15) Tryd.func24 rfl Tryd.ntmps24 (by simp) ?_
    show CG _ _ _ [(0, .agg (cS s.h (.slice A m c) s.n))] _ _
    have u := Below.refl w.heap.size w
    refine cg_seq ?_
    refine cg_region ?_
    refine lg_boxw (want_none (by rfl)) rfl rfl (hsS _ _ _) rfl (by decide) fun b1 w1 n1 => ?_
    have r1 := n1.row
    have k1 := n1.blk
    have z1 := n1.size
    refine lg_allocw (want_none (by rfl)) rfl hzS rfl (by decide) fun b2 w2 n2 => ?_
    have r2 := n2.row
    have k2 := n2.blk
    have z2 := n2.size
    refine lg_nil ?_
    refine nx (E' := [(1, _), (2, _)]) (fk rfl (fk rfl fn)) ?_
    refine cg_seq ?_
    refine cg_seq ?_
    refine cg_region ?_
    refine lsw (want_none (by rfl)) (y_fld (off := 8) (by kernel_rfl) rfl rfl) rfl (by decide) ?_
    have r1 := n2.keep r1
    refine lsw (want_none (by rfl)) (y_cellv r1 (cS_8 _ _ _) (by kernel_rfl) rfl rfl) rfl (by decide) ?_
    refine lsw (want_none (by rfl)) (y_len (el := 5) (by kernel_rfl) rfl rfl) rfl (by decide) ?_
    refine lsw (want_none (by rfl)) (yb (decide_eq_true (by omega)) (yi_geq rfl rfl rfl)) rfl (by decide) ?_
    refine lsw (want_none (by rfl)) (y_move rfl rfl) rfl (by decide) ?_
    refine lsk (want_f (dj := 7) (by rfl) (by kernel_rfl) rfl) rfl (by decide) ?_
    refine lsk (want_f (dj := 7) (by rfl) (by kernel_rfl) rfl) rfl (by decide) ?_
    refine lsk (want_f (dj := 7) (by rfl) (by kernel_rfl) rfl) rfl (by decide) ?_
    refine lsk (want_f (dj := 7) (by rfl) (by kernel_rfl) rfl) rfl (by decide) ?_
    refine lsw (want_none (by rfl)) (y_pick true rfl rfl rfl) rfl (by decide) ?_
    refine lg_nil ?_
    refine nx (E' := [(1, _), (2, _), (12, _)]) (fk rfl (fk rfl (fk rfl fn))) ?_
    refine cg_ct rfl ?_
    refine cg_seq ?_
    refine cg_region ?_
    refine lg_callw (want_none (by rfl)) (new_any _) (by kernel_rfl) rfl rfl rfl (by decide) ?_
    rintro _ w3 ⟨A3, m3, c3, rfl, o3, hw3⟩
    have zw3 := hw3.size
    have r2 := RowAt.below hw3 r2.lt r2
    have qw4 := r2
    refine lg_stw (want_none (by rfl)) r2 rfl rfl rfl (hsS _ _ _) (cS_one _ _ _ _ _) rfl rfl fun w4 sw4 => ?_
    have r2 := sw4.row
    have zw4 := sw4.size
    refine lg_nil ?_
    refine nx (E' := [(1, _), (2, _)]) (fk rfl (fk rfl fn)) ?_
    refine cg_ret ?_
    refine eg_seq_ret ?_
    have u := u.trans (n1.below.mono u.size)
    have u := u.trans (n2.below.mono u.size)
    have u := u.trans (hw3.mono u.size)
    have u := u.trans (sw4.below _ (by omega))
    have o3 := o3.set qw4 cS_no sw4
    exact eg_ret_agg rfl rfl r2 (by kernel_rfl) (hsS _ _ _) (by rw [S.as_no (by unfold S.ok; omega)]; exact ⟨_, rfl, _, _, _, rfl, o3.more (by omega), u⟩)
  · by_cases hk : 0 ≤ s.n ∧ s.n ≤ 1125899906842624
    · refine calls_cg (n := 15) Tryd.func24 rfl Tryd.ntmps24 (by simp) ?_
      show CG _ _ _ [(0, .agg (cS s.h (.slice A m c) s.n))] _ _
      have u := Below.refl w.heap.size w
      refine cg_seq ?_
      refine cg_region ?_
      refine lg_boxw (want_none (by rfl)) rfl rfl (hsS _ _ _) rfl (by decide) fun b1 w1 n1 => ?_
      have r1 := n1.row
      have k1 := n1.blk
      have z1 := n1.size
      refine lg_allocw (want_none (by rfl)) rfl hzS rfl (by decide) fun b2 w2 n2 => ?_
      have r2 := n2.row
      have k2 := n2.blk
      have z2 := n2.size
      refine lg_nil ?_
      refine nx (E' := [(1, _), (2, _)]) (fk rfl (fk rfl fn)) ?_
      refine cg_seq ?_
      refine cg_seq ?_
      refine cg_region ?_
      refine lsw (want_none (by rfl)) (y_fld (off := 8) (by kernel_rfl) rfl rfl) rfl (by decide) ?_
      have r1 := n2.keep r1
      refine lsw (want_none (by rfl)) (y_cellv r1 (cS_8 _ _ _) (by kernel_rfl) rfl rfl) rfl (by decide) ?_
      refine lsw (want_none (by rfl)) (y_len (el := 5) (by kernel_rfl) rfl rfl) rfl (by decide) ?_
      refine lsw (want_none (by rfl)) (yb (decide_eq_false (by omega)) (yi_geq rfl rfl rfl)) rfl (by decide) ?_
      refine lsw (want_none (by rfl)) (y_move rfl rfl) rfl (by decide) ?_
      refine lsw (want_t (dj := 7) (by rfl) (by kernel_rfl) rfl) (y_fld (off := 9) (by kernel_rfl) rfl rfl) rfl (by decide) ?_
      refine lsw (want_t (dj := 7) (by rfl) (by kernel_rfl) rfl) (y_cellv r1 (cS_9 _ _ _) (by kernel_rfl) rfl rfl) rfl (by decide) ?_
      refine lsw (want_t (dj := 7) (by rfl) (by kernel_rfl) rfl) (yb (decide_eq_true hk) (y_call (counted_any _ _) (by kernel_rfl) rfl rfl)) rfl (by decide) ?_
      refine lsw (want_t (dj := 7) (by rfl) (by kernel_rfl) rfl) (y_bnot rfl rfl) rfl (by decide) ?_
      refine lsw (want_none (by rfl)) (y_pick false rfl rfl rfl) rfl (by decide) ?_
      refine lg_nil ?_
      refine nx (E' := [(1, _), (2, _), (12, _)]) (fk rfl (fk rfl (fk rfl fn))) ?_
      refine cg_cf rfl ?_
      refine cg_skip ?_
      refine nx (E' := [(1, _), (2, _)]) (fk rfl (fk rfl fn)) ?_
      refine cg_seq ?_
      refine cg_region ?_
      refine lsw (want_none (by rfl)) (y_part r1 (m := 10) (cS_all _ _ _) (by show _ ≤ 10; omega) (by kernel_rfl) (by kernel_rfl) rfl rfl) rfl (by decide) ?_
      have qw3 := r2
      refine lg_stw (want_none (by rfl)) r2 rfl rfl rfl (hsS _ _ _) (cS_one _ _ _ _ _) rfl rfl fun w3 sw3 => ?_
      have r2 := sw3.row
      have zw3 := sw3.size
      refine lg_nil ?_
      refine nx (E' := [(2, _)]) (fk rfl fn) ?_
      refine cg_ret ?_
      have u := u.trans (n1.below.mono u.size)
      have u := u.trans (n2.below.mono u.size)
      have u := u.trans (sw3.below _ (by omega))
      have o0 := o0.below (n1.below.mono (by omega))
      have o0 := o0.below (n2.below.mono (by omega))
      have o0 := o0.set qw3 cS_no sw3
      exact eg_ret_agg rfl rfl r2 (by kernel_rfl) (hsS _ _ _) (by rw [S.as_ok ⟨by omega, by omega, by omega⟩]; exact ⟨_, rfl, _, _, _, rfl, o0.more u.size, u⟩)
    · refine calls_cg (n := 15) Tryd.func24 rfl Tryd.ntmps24 (by simp) ?_
      show CG _ _ _ [(0, .agg (cS s.h (.slice A m c) s.n))] _ _
      have u := Below.refl w.heap.size w
      refine cg_seq ?_
      refine cg_region ?_
      refine lg_boxw (want_none (by rfl)) rfl rfl (hsS _ _ _) rfl (by decide) fun b1 w1 n1 => ?_
      have r1 := n1.row
      have k1 := n1.blk
      have z1 := n1.size
      refine lg_allocw (want_none (by rfl)) rfl hzS rfl (by decide) fun b2 w2 n2 => ?_
      have r2 := n2.row
      have k2 := n2.blk
      have z2 := n2.size
      refine lg_nil ?_
      refine nx (E' := [(1, _), (2, _)]) (fk rfl (fk rfl fn)) ?_
      refine cg_seq ?_
      refine cg_seq ?_
      refine cg_region ?_
      refine lsw (want_none (by rfl)) (y_fld (off := 8) (by kernel_rfl) rfl rfl) rfl (by decide) ?_
      have r1 := n2.keep r1
      refine lsw (want_none (by rfl)) (y_cellv r1 (cS_8 _ _ _) (by kernel_rfl) rfl rfl) rfl (by decide) ?_
      refine lsw (want_none (by rfl)) (y_len (el := 5) (by kernel_rfl) rfl rfl) rfl (by decide) ?_
      refine lsw (want_none (by rfl)) (yb (decide_eq_false (by omega)) (yi_geq rfl rfl rfl)) rfl (by decide) ?_
      refine lsw (want_none (by rfl)) (y_move rfl rfl) rfl (by decide) ?_
      refine lsw (want_t (dj := 7) (by rfl) (by kernel_rfl) rfl) (y_fld (off := 9) (by kernel_rfl) rfl rfl) rfl (by decide) ?_
      refine lsw (want_t (dj := 7) (by rfl) (by kernel_rfl) rfl) (y_cellv r1 (cS_9 _ _ _) (by kernel_rfl) rfl rfl) rfl (by decide) ?_
      refine lsw (want_t (dj := 7) (by rfl) (by kernel_rfl) rfl) (yb (decide_eq_false hk) (y_call (counted_any _ _) (by kernel_rfl) rfl rfl)) rfl (by decide) ?_
      refine lsw (want_t (dj := 7) (by rfl) (by kernel_rfl) rfl) (y_bnot rfl rfl) rfl (by decide) ?_
      refine lsw (want_none (by rfl)) (y_pick false rfl rfl rfl) rfl (by decide) ?_
      refine lg_nil ?_
      refine nx (E' := [(1, _), (2, _), (12, _)]) (fk rfl (fk rfl (fk rfl fn))) ?_
      refine cg_ct rfl ?_
      refine cg_seq ?_
      refine cg_region ?_
      refine lg_callw (want_none (by rfl)) (new_any _) (by kernel_rfl) rfl rfl rfl (by decide) ?_
      rintro _ w3 ⟨A3, m3, c3, rfl, o3, hw3⟩
      have zw3 := hw3.size
      have r2 := RowAt.below hw3 r2.lt r2
      have qw4 := r2
      refine lg_stw (want_none (by rfl)) r2 rfl rfl rfl (hsS _ _ _) (cS_one _ _ _ _ _) rfl rfl fun w4 sw4 => ?_
      have r2 := sw4.row
      have zw4 := sw4.size
      refine lg_nil ?_
      refine nx (E' := [(1, _), (2, _)]) (fk rfl (fk rfl fn)) ?_
      refine cg_ret ?_
      refine eg_seq_ret ?_
      have u := u.trans (n1.below.mono u.size)
      have u := u.trans (n2.below.mono u.size)
      have u := u.trans (hw3.mono u.size)
      have u := u.trans (sw4.below _ (by omega))
      have o3 := o3.set qw4 cS_no sw4
      exact eg_ret_agg rfl rfl r2 (by kernel_rfl) (hsS _ _ _) (by rw [S.as_no (by unfold S.ok; omega)]; exact ⟨_, rfl, _, _, _, rfl, o3.more (by omega), u⟩)
theorem ras_any (s : S) (A : Option Addr) (m c : Nat) (w : World) (o0 : Oct w w.heap.size A m s.b) : Calls Tryd.prog 27 #[.agg (cS s.h (.slice A m c) s.n)] w fun e w' => ∃ v, e = .returned v ∧ StR w s.as v w' := by
  have hl := o0.1
  by_cases h64 : 64 ≤ m
  · refine calls_cg (n := 19) Tryd.func27 rfl Tryd.ntmps27 (by simp) ?_
    show CG _ _ _ [(0, .agg (cS s.h (.slice A m c) s.n))] _ _
    have u := Below.refl w.heap.size w
    refine cg_seq ?_
    refine cg_region ?_
    refine lg_boxw (want_none (by rfl)) rfl rfl (hsR _ _ _) rfl (by decide) fun b1 w1 n1 => ?_
    have r1 := n1.row
    have k1 := n1.blk
    have z1 := n1.size
    refine lg_allocw (want_none (by rfl)) rfl hzR rfl (by decide) fun b2 w2 n2 => ?_
    have r2 := n2.row
    have k2 := n2.blk
    have z2 := n2.size
    refine lg_nil ?_
    refine nx (E' := [(1, _), (2, _)]) (fk rfl (fk rfl fn)) ?_
    refine cg_seq ?_
    refine cg_seq ?_
    refine cg_region ?_
    refine lsw (want_none (by rfl)) (y_fld (off := 8) (by kernel_rfl) rfl rfl) rfl (by decide) ?_
    have r1 := n2.keep r1
    refine lsw (want_none (by rfl)) (y_cellv r1 (cS_8 _ _ _) (by kernel_rfl) rfl rfl) rfl (by decide) ?_
    refine lsw (want_none (by rfl)) (y_len (el := 5) (by kernel_rfl) rfl rfl) rfl (by decide) ?_
    refine lsw (want_none (by rfl)) (yb (decide_eq_true (by omega)) (yi_geq rfl rfl rfl)) rfl (by decide) ?_
    refine lsw (want_none (by rfl)) (y_move rfl rfl) rfl (by decide) ?_
    refine lsk (want_f (dj := 7) (by rfl) (by kernel_rfl) rfl) rfl (by decide) ?_
    refine lsk (want_f (dj := 7) (by rfl) (by kernel_rfl) rfl) rfl (by decide) ?_
    refine lsk (want_f (dj := 7) (by rfl) (by kernel_rfl) rfl) rfl (by decide) ?_
    refine lsw (want_none (by rfl)) (y_pick true rfl rfl rfl) rfl (by decide) ?_
    refine lsw (want_none (by rfl)) (y_move rfl rfl) rfl (by decide) ?_
    refine lsk (want_f (dj := 12) (by rfl) (by kernel_rfl) rfl) rfl (by decide) ?_
    refine lsk (want_f (dj := 12) (by rfl) (by kernel_rfl) rfl) rfl (by decide) ?_
    refine lsk (want_f (dj := 12) (by rfl) (by kernel_rfl) rfl) rfl (by decide) ?_
    refine lsw (want_none (by rfl)) (y_pick true rfl rfl rfl) rfl (by decide) ?_
    refine lg_nil ?_
    refine nx (E' := [(1, _), (2, _), (16, _)]) (fk rfl (fk rfl (fk rfl fn))) ?_
    refine cg_ct rfl ?_
    refine cg_seq ?_
    refine cg_region ?_
    refine lg_callw (want_none (by rfl)) (rnew_any _) (by kernel_rfl) rfl rfl rfl (by decide) ?_
    rintro _ w3 ⟨A3, m3, c3, rfl, o3, hw3⟩
    have zw3 := hw3.size
    have r2 := RowAt.below hw3 r2.lt r2
    have qw4 := r2
    refine lg_stw (want_none (by rfl)) r2 rfl rfl rfl (hsR _ _ _) (cS_one _ _ _ _ _) rfl rfl fun w4 sw4 => ?_
    have r2 := sw4.row
    have zw4 := sw4.size
    refine lg_nil ?_
    refine nx (E' := [(1, _), (2, _)]) (fk rfl (fk rfl fn)) ?_
    refine cg_ret ?_
    refine eg_seq_ret ?_
    have u := u.trans (n1.below.mono u.size)
    have u := u.trans (n2.below.mono u.size)
    have u := u.trans (hw3.mono u.size)
    have u := u.trans (sw4.below _ (by omega))
    have o3 := o3.set qw4 cS_no sw4
    exact eg_ret_agg rfl rfl r2 (by kernel_rfl) (hsR _ _ _) (by rw [S.as_no (by unfold S.ok; omega)]; exact ⟨_, rfl, _, _, _, rfl, o3.more (by omega), u⟩)
  · by_cases hk : s.n < 0
    · refine calls_cg (n := 19) Tryd.func27 rfl Tryd.ntmps27 (by simp) ?_
      show CG _ _ _ [(0, .agg (cS s.h (.slice A m c) s.n))] _ _
      have u := Below.refl w.heap.size w
      refine cg_seq ?_
      refine cg_region ?_
      refine lg_boxw (want_none (by rfl)) rfl rfl (hsR _ _ _) rfl (by decide) fun b1 w1 n1 => ?_
      have r1 := n1.row
      have k1 := n1.blk
      have z1 := n1.size
      refine lg_allocw (want_none (by rfl)) rfl hzR rfl (by decide) fun b2 w2 n2 => ?_
      have r2 := n2.row
      have k2 := n2.blk
      have z2 := n2.size
      refine lg_nil ?_
      refine nx (E' := [(1, _), (2, _)]) (fk rfl (fk rfl fn)) ?_
      refine cg_seq ?_
      refine cg_seq ?_
      refine cg_region ?_
      refine lsw (want_none (by rfl)) (y_fld (off := 8) (by kernel_rfl) rfl rfl) rfl (by decide) ?_
      have r1 := n2.keep r1
      refine lsw (want_none (by rfl)) (y_cellv r1 (cS_8 _ _ _) (by kernel_rfl) rfl rfl) rfl (by decide) ?_
      refine lsw (want_none (by rfl)) (y_len (el := 5) (by kernel_rfl) rfl rfl) rfl (by decide) ?_
      refine lsw (want_none (by rfl)) (yb (decide_eq_false (by omega)) (yi_geq rfl rfl rfl)) rfl (by decide) ?_
      refine lsw (want_none (by rfl)) (y_move rfl rfl) rfl (by decide) ?_
      refine lsw (want_t (dj := 7) (by rfl) (by kernel_rfl) rfl) (y_fld (off := 9) (by kernel_rfl) rfl rfl) rfl (by decide) ?_
      refine lsw (want_t (dj := 7) (by rfl) (by kernel_rfl) rfl) (y_cellv r1 (cS_9 _ _ _) (by kernel_rfl) rfl rfl) rfl (by decide) ?_
      refine lsw (want_t (dj := 7) (by rfl) (by kernel_rfl) rfl) (yb (decide_eq_true hk) (yi_lss rfl rfl rfl)) rfl (by decide) ?_
      refine lsw (want_none (by rfl)) (y_pick false rfl rfl rfl) rfl (by decide) ?_
      refine lsw (want_none (by rfl)) (y_move rfl rfl) rfl (by decide) ?_
      refine lsk (want_f (dj := 12) (by rfl) (by kernel_rfl) rfl) rfl (by decide) ?_
      refine lsk (want_f (dj := 12) (by rfl) (by kernel_rfl) rfl) rfl (by decide) ?_
      refine lsk (want_f (dj := 12) (by rfl) (by kernel_rfl) rfl) rfl (by decide) ?_
      refine lsw (want_none (by rfl)) (y_pick true rfl rfl rfl) rfl (by decide) ?_
      refine lg_nil ?_
      refine nx (E' := [(1, _), (2, _), (16, _)]) (fk rfl (fk rfl (fk rfl fn))) ?_
      refine cg_ct rfl ?_
      refine cg_seq ?_
      refine cg_region ?_
      refine lg_callw (want_none (by rfl)) (rnew_any _) (by kernel_rfl) rfl rfl rfl (by decide) ?_
      rintro _ w3 ⟨A3, m3, c3, rfl, o3, hw3⟩
      have zw3 := hw3.size
      have r2 := RowAt.below hw3 r2.lt r2
      have qw4 := r2
      refine lg_stw (want_none (by rfl)) r2 rfl rfl rfl (hsR _ _ _) (cS_one _ _ _ _ _) rfl rfl fun w4 sw4 => ?_
      have r2 := sw4.row
      have zw4 := sw4.size
      refine lg_nil ?_
      refine nx (E' := [(1, _), (2, _)]) (fk rfl (fk rfl fn)) ?_
      refine cg_ret ?_
      refine eg_seq_ret ?_
      have u := u.trans (n1.below.mono u.size)
      have u := u.trans (n2.below.mono u.size)
      have u := u.trans (hw3.mono u.size)
      have u := u.trans (sw4.below _ (by omega))
      have o3 := o3.set qw4 cS_no sw4
      exact eg_ret_agg rfl rfl r2 (by kernel_rfl) (hsR _ _ _) (by rw [S.as_no (by unfold S.ok; omega)]; exact ⟨_, rfl, _, _, _, rfl, o3.more (by omega), u⟩)
    · by_cases hk2 : 1125899906842624 < s.n
      · refine calls_cg (n := 19) Tryd.func27 rfl Tryd.ntmps27 (by simp) ?_
        show CG _ _ _ [(0, .agg (cS s.h (.slice A m c) s.n))] _ _
        have u := Below.refl w.heap.size w
        refine cg_seq ?_
        refine cg_region ?_
        refine lg_boxw (want_none (by rfl)) rfl rfl (hsR _ _ _) rfl (by decide) fun b1 w1 n1 => ?_
        have r1 := n1.row
        have k1 := n1.blk
        have z1 := n1.size
        refine lg_allocw (want_none (by rfl)) rfl hzR rfl (by decide) fun b2 w2 n2 => ?_
        have r2 := n2.row
        have k2 := n2.blk
        have z2 := n2.size
        refine lg_nil ?_
        refine nx (E' := [(1, _), (2, _)]) (fk rfl (fk rfl fn)) ?_
        refine cg_seq ?_
        refine cg_seq ?_
        refine cg_region ?_
        refine lsw (want_none (by rfl)) (y_fld (off := 8) (by kernel_rfl) rfl rfl) rfl (by decide) ?_
        have r1 := n2.keep r1
        refine lsw (want_none (by rfl)) (y_cellv r1 (cS_8 _ _ _) (by kernel_rfl) rfl rfl) rfl (by decide) ?_
        refine lsw (want_none (by rfl)) (y_len (el := 5) (by kernel_rfl) rfl rfl) rfl (by decide) ?_
        refine lsw (want_none (by rfl)) (yb (decide_eq_false (by omega)) (yi_geq rfl rfl rfl)) rfl (by decide) ?_
        refine lsw (want_none (by rfl)) (y_move rfl rfl) rfl (by decide) ?_
        refine lsw (want_t (dj := 7) (by rfl) (by kernel_rfl) rfl) (y_fld (off := 9) (by kernel_rfl) rfl rfl) rfl (by decide) ?_
        refine lsw (want_t (dj := 7) (by rfl) (by kernel_rfl) rfl) (y_cellv r1 (cS_9 _ _ _) (by kernel_rfl) rfl rfl) rfl (by decide) ?_
        refine lsw (want_t (dj := 7) (by rfl) (by kernel_rfl) rfl) (yb (decide_eq_false hk) (yi_lss rfl rfl rfl)) rfl (by decide) ?_
        refine lsw (want_none (by rfl)) (y_pick false rfl rfl rfl) rfl (by decide) ?_
        refine lsw (want_none (by rfl)) (y_move rfl rfl) rfl (by decide) ?_
        refine lsw (want_t (dj := 12) (by rfl) (by kernel_rfl) rfl) (y_fld (off := 9) (by kernel_rfl) rfl rfl) rfl (by decide) ?_
        refine lsw (want_t (dj := 12) (by rfl) (by kernel_rfl) rfl) (y_cellv r1 (cS_9 _ _ _) (by kernel_rfl) rfl rfl) rfl (by decide) ?_
        refine lsw (want_t (dj := 12) (by rfl) (by kernel_rfl) rfl) (yb (decide_eq_true hk2) (yi_gtr rfl rfl rfl)) rfl (by decide) ?_
        refine lsw (want_none (by rfl)) (y_pick false rfl rfl rfl) rfl (by decide) ?_
        refine lg_nil ?_
        refine nx (E' := [(1, _), (2, _), (16, _)]) (fk rfl (fk rfl (fk rfl fn))) ?_
        refine cg_ct rfl ?_
        refine cg_seq ?_
        refine cg_region ?_
        refine lg_callw (want_none (by rfl)) (rnew_any _) (by kernel_rfl) rfl rfl rfl (by decide) ?_
        rintro _ w3 ⟨A3, m3, c3, rfl, o3, hw3⟩
        have zw3 := hw3.size
        have r2 := RowAt.below hw3 r2.lt r2
        have qw4 := r2
        refine lg_stw (want_none (by rfl)) r2 rfl rfl rfl (hsR _ _ _) (cS_one _ _ _ _ _) rfl rfl fun w4 sw4 => ?_
        have r2 := sw4.row
        have zw4 := sw4.size
        refine lg_nil ?_
        refine nx (E' := [(1, _), (2, _)]) (fk rfl (fk rfl fn)) ?_
        refine cg_ret ?_
        refine eg_seq_ret ?_
        have u := u.trans (n1.below.mono u.size)
        have u := u.trans (n2.below.mono u.size)
        have u := u.trans (hw3.mono u.size)
        have u := u.trans (sw4.below _ (by omega))
        have o3 := o3.set qw4 cS_no sw4
        exact eg_ret_agg rfl rfl r2 (by kernel_rfl) (hsR _ _ _) (by rw [S.as_no (by unfold S.ok; omega)]; exact ⟨_, rfl, _, _, _, rfl, o3.more (by omega), u⟩)
      · refine calls_cg (n := 19) Tryd.func27 rfl Tryd.ntmps27 (by simp) ?_
        show CG _ _ _ [(0, .agg (cS s.h (.slice A m c) s.n))] _ _
        have u := Below.refl w.heap.size w
        refine cg_seq ?_
        refine cg_region ?_
        refine lg_boxw (want_none (by rfl)) rfl rfl (hsR _ _ _) rfl (by decide) fun b1 w1 n1 => ?_
        have r1 := n1.row
        have k1 := n1.blk
        have z1 := n1.size
        refine lg_allocw (want_none (by rfl)) rfl hzR rfl (by decide) fun b2 w2 n2 => ?_
        have r2 := n2.row
        have k2 := n2.blk
        have z2 := n2.size
        refine lg_nil ?_
        refine nx (E' := [(1, _), (2, _)]) (fk rfl (fk rfl fn)) ?_
        refine cg_seq ?_
        refine cg_seq ?_
        refine cg_region ?_
        refine lsw (want_none (by rfl)) (y_fld (off := 8) (by kernel_rfl) rfl rfl) rfl (by decide) ?_
        have r1 := n2.keep r1
        refine lsw (want_none (by rfl)) (y_cellv r1 (cS_8 _ _ _) (by kernel_rfl) rfl rfl) rfl (by decide) ?_
        refine lsw (want_none (by rfl)) (y_len (el := 5) (by kernel_rfl) rfl rfl) rfl (by decide) ?_
        refine lsw (want_none (by rfl)) (yb (decide_eq_false (by omega)) (yi_geq rfl rfl rfl)) rfl (by decide) ?_
        refine lsw (want_none (by rfl)) (y_move rfl rfl) rfl (by decide) ?_
        refine lsw (want_t (dj := 7) (by rfl) (by kernel_rfl) rfl) (y_fld (off := 9) (by kernel_rfl) rfl rfl) rfl (by decide) ?_
        refine lsw (want_t (dj := 7) (by rfl) (by kernel_rfl) rfl) (y_cellv r1 (cS_9 _ _ _) (by kernel_rfl) rfl rfl) rfl (by decide) ?_
        refine lsw (want_t (dj := 7) (by rfl) (by kernel_rfl) rfl) (yb (decide_eq_false hk) (yi_lss rfl rfl rfl)) rfl (by decide) ?_
        refine lsw (want_none (by rfl)) (y_pick false rfl rfl rfl) rfl (by decide) ?_
        refine lsw (want_none (by rfl)) (y_move rfl rfl) rfl (by decide) ?_
        refine lsw (want_t (dj := 12) (by rfl) (by kernel_rfl) rfl) (y_fld (off := 9) (by kernel_rfl) rfl rfl) rfl (by decide) ?_
        refine lsw (want_t (dj := 12) (by rfl) (by kernel_rfl) rfl) (y_cellv r1 (cS_9 _ _ _) (by kernel_rfl) rfl rfl) rfl (by decide) ?_
        refine lsw (want_t (dj := 12) (by rfl) (by kernel_rfl) rfl) (yb (decide_eq_false hk2) (yi_gtr rfl rfl rfl)) rfl (by decide) ?_
        refine lsw (want_none (by rfl)) (y_pick false rfl rfl rfl) rfl (by decide) ?_
        refine lg_nil ?_
        refine nx (E' := [(1, _), (2, _), (16, _)]) (fk rfl (fk rfl (fk rfl fn))) ?_
        refine cg_cf rfl ?_
        refine cg_skip ?_
        refine nx (E' := [(1, _), (2, _)]) (fk rfl (fk rfl fn)) ?_
        refine cg_seq ?_
        refine cg_region ?_
        refine lsw (want_none (by rfl)) (y_part r1 (m := 10) (cS_all _ _ _) (by show _ ≤ 10; omega) (by kernel_rfl) (by kernel_rfl) rfl rfl) rfl (by decide) ?_
        have qw3 := r2
        refine lg_stw (want_none (by rfl)) r2 rfl rfl rfl (hsR _ _ _) (cS_one _ _ _ _ _) rfl rfl fun w3 sw3 => ?_
        have r2 := sw3.row
        have zw3 := sw3.size
        refine lg_nil ?_
        refine nx (E' := [(2, _)]) (fk rfl fn) ?_
        refine cg_ret ?_
        have u := u.trans (n1.below.mono u.size)
        have u := u.trans (n2.below.mono u.size)
        have u := u.trans (sw3.below _ (by omega))
        have o0 := o0.below (n1.below.mono (by omega))
        have o0 := o0.below (n2.below.mono (by omega))
        have o0 := o0.set qw3 cS_no sw3
        exact eg_ret_agg rfl rfl r2 (by kernel_rfl) (hsR _ _ _) (by rw [S.as_ok ⟨by omega, by omega, by omega⟩]; exact ⟨_, rfl, _, _, _, rfl, o0.more u.size, u⟩)
end Go.Proofs.YtdenbbfmiadcbaaDoor
