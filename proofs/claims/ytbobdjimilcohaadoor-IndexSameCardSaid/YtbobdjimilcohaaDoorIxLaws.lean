/-
  Four of the statements about where nodes stand in a row.
-/
import Derived.Test.YtbobdjimilcohaaDoorIxAwake
namespace Go.Proofs.YtbobdjimilcohaaDoor
open Go.ChangeShapes Go.WideShapes Go.ChangeAt Go.RowKit
set_option linter.unusedVariables false
set_option maxRecDepth 20000
theorem ixis_any (x w : Int) (W : World) (rg : Tb W) : Calls Tryd.prog 3 #[nv x, nv w] W fun e w' => e = .returned (.bool true) ∧ w' = W := by
  refine calls_cg (n := 74) Tryd.func3 rfl Tryd.ntmps3 (by simp) ?_
  show CG _ _ _ [(0, nv x), (1, nv w)] _ _
  refine cg_seq ?_
  refine cg_region ?_
  refine lsw (want_none (by rfl)) (y_assign rfl rfl) rfl (by decide) ?_
  refine lg_nil ?_
  refine nx (E' := [(0, _), (1, _), (4, _)]) (fk rfl (fk rfl (fk rfl fn))) ?_
  refine cg_seq ?_
  refine cg_region ?_
  refine lsw (want_none (by rfl)) (y_call (awake_any _ rg) (by kernel_rfl) rfl rfl) rfl (by decide) ?_
  refine lsw (want_none (by rfl)) (y_assign rfl rfl) rfl (by decide) ?_
  refine lg_nil ?_
  refine nx (E' := [(0, _), (1, _), (4, _), (5, _)]) (fk rfl (fk rfl (fk rfl (fk rfl fn)))) ?_
  refine cg_seq ?_
  refine cg_region ?_
  refine lsw (want_none (by rfl)) (y_move rfl rfl) rfl (by decide) ?_
  refine lsw (want_none (by rfl)) (y_move rfl rfl) rfl (by decide) ?_
  refine lsw (want_t (dj := 8) (by rfl) (by kernel_rfl) rfl) (y_move rfl rfl) rfl (by decide) ?_
  refine lsw (want_t (dj := 8) (by rfl) (by kernel_rfl) rfl) (y_call (whole_any w _ rg) (by kernel_rfl) rfl rfl) rfl (by decide) ?_
  refine lsw (want_t (dj := 8) (by rfl) (by kernel_rfl) rfl) (y_move rfl rfl) rfl (by decide) ?_
  refine lsw (want_t (dj := 8) (by rfl) (by kernel_rfl) rfl) (y_call (rwhole_any w _ rg) (by kernel_rfl) rfl rfl) rfl (by decide) ?_
  refine lsw (want_t (dj := 8) (by rfl) (by kernel_rfl) rfl) (yb (beq_self_eq_true _) (y_beq hubo rfl rfl rfl)) rfl (by decide) ?_
  refine lsw (want_none (by rfl)) (y_pick true rfl rfl rfl) rfl (by decide) ?_
  refine lsw (want_none (by rfl)) (y_move rfl rfl) rfl (by decide) ?_
  refine lsw (want_t (dj := 15) (by rfl) (by kernel_rfl) rfl) (y_move rfl rfl) rfl (by decide) ?_
  refine lsw (want_t (dj := 15) (by rfl) (by kernel_rfl) rfl) (y_move rfl rfl) rfl (by decide) ?_
  refine lsw (want_t (dj := 15) (by rfl) (by kernel_rfl) rfl) (y_call (is_any x w _ rg) (by kernel_rfl) rfl rfl) rfl (by decide) ?_
  refine lsw (want_t (dj := 15) (by rfl) (by kernel_rfl) rfl) (y_move rfl rfl) rfl (by decide) ?_
  refine lsw (want_t (dj := 15) (by rfl) (by kernel_rfl) rfl) (y_move rfl rfl) rfl (by decide) ?_
  refine lsw (want_t (dj := 15) (by rfl) (by kernel_rfl) rfl) (y_call (ris_any x w _ rg) (by kernel_rfl) rfl rfl) rfl (by decide) ?_
  refine lsw (want_t (dj := 15) (by rfl) (by kernel_rfl) rfl) (yb (beq_self_eq_true _) (y_beq hubo rfl rfl rfl)) rfl (by decide) ?_
  refine lsw (want_none (by rfl)) (y_pick true rfl rfl rfl) rfl (by decide) ?_
  refine lsw (want_none (by rfl)) (y_move rfl rfl) rfl (by decide) ?_
  refine lsw (want_t (dj := 24) (by rfl) (by kernel_rfl) rfl) (y_move rfl rfl) rfl (by decide) ?_
  refine lsw (want_t (dj := 24) (by rfl) (by kernel_rfl) rfl) (y_call (level_any x _ rg) (by kernel_rfl) rfl rfl) rfl (by decide) ?_
  refine lsw (want_t (dj := 24) (by rfl) (by kernel_rfl) rfl) (y_move rfl rfl) rfl (by decide) ?_
  refine lsw (want_t (dj := 24) (by rfl) (by kernel_rfl) rfl) (y_call (rlevel_any x _ rg) (by kernel_rfl) rfl rfl) rfl (by decide) ?_
  refine lsw (want_t (dj := 24) (by rfl) (by kernel_rfl) rfl) (yb (decide_eq_true rfl) (yi_eql rfl rfl rfl)) rfl (by decide) ?_
  refine lsw (want_none (by rfl)) (y_pick true rfl rfl rfl) rfl (by decide) ?_
  refine lsw (want_none (by rfl)) (y_move rfl rfl) rfl (by decide) ?_
  refine lsw (want_t (dj := 31) (by rfl) (by kernel_rfl) rfl) (y_move rfl rfl) rfl (by decide) ?_
  refine lsw (want_t (dj := 31) (by rfl) (by kernel_rfl) rfl) (y_call (root_any w _ rg) (by kernel_rfl) rfl rfl) rfl (by decide) ?_
  refine lsw (want_t (dj := 31) (by rfl) (by kernel_rfl) rfl) (y_move rfl rfl) rfl (by decide) ?_
  refine lsw (want_t (dj := 31) (by rfl) (by kernel_rfl) rfl) (y_call (rroot_any w _ rg) (by kernel_rfl) rfl rfl) rfl (by decide) ?_
  refine lsw (want_t (dj := 31) (by rfl) (by kernel_rfl) rfl) (yb (decide_eq_true rfl) (yi_eql rfl rfl rfl)) rfl (by decide) ?_
  refine lsw (want_none (by rfl)) (y_pick true rfl rfl rfl) rfl (by decide) ?_
  refine lsw (want_none (by rfl)) (y_move rfl rfl) rfl (by decide) ?_
  refine lsw (want_t (dj := 38) (by rfl) (by kernel_rfl) rfl) (y_move rfl rfl) rfl (by decide) ?_
  refine lsw (want_t (dj := 38) (by rfl) (by kernel_rfl) rfl) (y_move rfl rfl) rfl (by decide) ?_
  refine lsw (want_t (dj := 38) (by rfl) (by kernel_rfl) rfl) (y_call (left_any x w _ rg) (by kernel_rfl) rfl rfl) rfl (by decide) ?_
  refine lsw (want_t (dj := 38) (by rfl) (by kernel_rfl) rfl) (y_move rfl rfl) rfl (by decide) ?_
  refine lsw (want_t (dj := 38) (by rfl) (by kernel_rfl) rfl) (y_move rfl rfl) rfl (by decide) ?_
  refine lsw (want_t (dj := 38) (by rfl) (by kernel_rfl) rfl) (y_call (rleft_any x w _ rg) (by kernel_rfl) rfl rfl) rfl (by decide) ?_
  refine lsw (want_t (dj := 38) (by rfl) (by kernel_rfl) rfl) (yb (decide_eq_true rfl) (yi_eql rfl rfl rfl)) rfl (by decide) ?_
  refine lsw (want_none (by rfl)) (y_pick true rfl rfl rfl) rfl (by decide) ?_
  refine lsw (want_none (by rfl)) (y_move rfl rfl) rfl (by decide) ?_
  refine lsw (want_t (dj := 47) (by rfl) (by kernel_rfl) rfl) (y_move rfl rfl) rfl (by decide) ?_
  refine lsw (want_t (dj := 47) (by rfl) (by kernel_rfl) rfl) (y_move rfl rfl) rfl (by decide) ?_
  refine lsw (want_t (dj := 47) (by rfl) (by kernel_rfl) rfl) (y_call (right_any x w _ rg) (by kernel_rfl) rfl rfl) rfl (by decide) ?_
  refine lsw (want_t (dj := 47) (by rfl) (by kernel_rfl) rfl) (y_move rfl rfl) rfl (by decide) ?_
  refine lsw (want_t (dj := 47) (by rfl) (by kernel_rfl) rfl) (y_move rfl rfl) rfl (by decide) ?_
  refine lsw (want_t (dj := 47) (by rfl) (by kernel_rfl) rfl) (y_call (rright_any x w _ rg) (by kernel_rfl) rfl rfl) rfl (by decide) ?_
  refine lsw (want_t (dj := 47) (by rfl) (by kernel_rfl) rfl) (yb (decide_eq_true rfl) (yi_eql rfl rfl rfl)) rfl (by decide) ?_
  refine lsw (want_none (by rfl)) (y_pick true rfl rfl rfl) rfl (by decide) ?_
  refine lsw (want_none (by rfl)) (y_move rfl rfl) rfl (by decide) ?_
  refine lsw (want_t (dj := 56) (by rfl) (by kernel_rfl) rfl) (y_move rfl rfl) rfl (by decide) ?_
  refine lsw (want_t (dj := 56) (by rfl) (by kernel_rfl) rfl) (y_move rfl rfl) rfl (by decide) ?_
  refine lsw (want_t (dj := 56) (by rfl) (by kernel_rfl) rfl) (y_call (parent_any x w _ rg) (by kernel_rfl) rfl rfl) rfl (by decide) ?_
  refine lsw (want_t (dj := 56) (by rfl) (by kernel_rfl) rfl) (y_move rfl rfl) rfl (by decide) ?_
  refine lsw (want_t (dj := 56) (by rfl) (by kernel_rfl) rfl) (y_move rfl rfl) rfl (by decide) ?_
  refine lsw (want_t (dj := 56) (by rfl) (by kernel_rfl) rfl) (y_call (rparent_any x w _ rg) (by kernel_rfl) rfl rfl) rfl (by decide) ?_
  refine lsw (want_t (dj := 56) (by rfl) (by kernel_rfl) rfl) (yb (decide_eq_true rfl) (yi_eql rfl rfl rfl)) rfl (by decide) ?_
  refine lsw (want_none (by rfl)) (y_pick true rfl rfl rfl) rfl (by decide) ?_
  refine lsw (want_none (by rfl)) (y_move rfl rfl) rfl (by decide) ?_
  refine lsw (want_t (dj := 65) (by rfl) (by kernel_rfl) rfl) (y_move rfl rfl) rfl (by decide) ?_
  refine lsw (want_t (dj := 65) (by rfl) (by kernel_rfl) rfl) (y_move rfl rfl) rfl (by decide) ?_
  refine lsw (want_t (dj := 65) (by rfl) (by kernel_rfl) rfl) (y_call (sibling_any x w _ rg) (by kernel_rfl) rfl rfl) rfl (by decide) ?_
  refine lsw (want_t (dj := 65) (by rfl) (by kernel_rfl) rfl) (y_move rfl rfl) rfl (by decide) ?_
  refine lsw (want_t (dj := 65) (by rfl) (by kernel_rfl) rfl) (y_move rfl rfl) rfl (by decide) ?_
  refine lsw (want_t (dj := 65) (by rfl) (by kernel_rfl) rfl) (y_call (rsibling_any x w _ rg) (by kernel_rfl) rfl rfl) rfl (by decide) ?_
  refine lsw (want_t (dj := 65) (by rfl) (by kernel_rfl) rfl) (yb (decide_eq_true rfl) (yi_eql rfl rfl rfl)) rfl (by decide) ?_
  refine lsw (want_none (by rfl)) (y_pick true rfl rfl rfl) rfl (by decide) ?_
  refine lsw (want_none (by rfl)) (y_assign rfl rfl) rfl (by decide) ?_
  refine lg_nil ?_
  refine nx (E' := [(4, _)]) (fk rfl fn) ?_
  refine cg_ret ?_
  exact eg_ret_tmp rfl rfl ⟨rfl, rfl⟩
theorem ixback_any (x w : Int) (W : World) (rg : Tb W) : Calls Tryd.prog 4 #[nv x, nv w] W fun e w' => e = .returned (.bool true) ∧ w' = W := by
  by_cases hn : isN x w
  · refine calls_cg (n := 135) Tryd.func4 rfl Tryd.ntmps4 (by simp) ?_
    show CG _ _ _ [(0, nv x), (1, nv w)] _ _
    refine cg_seq ?_
    refine cg_region ?_
    refine lsw (want_none (by rfl)) (y_assign rfl rfl) rfl (by decide) ?_
    refine lg_nil ?_
    refine nx (E' := [(0, _), (1, _), (4, _)]) (fk rfl (fk rfl (fk rfl fn))) ?_
    refine cg_seq ?_
    refine cg_region ?_
    refine lsw (want_none (by rfl)) (y_call (awake_any _ rg) (by kernel_rfl) rfl rfl) rfl (by decide) ?_
    refine lsw (want_none (by rfl)) (y_assign rfl rfl) rfl (by decide) ?_
    refine lg_nil ?_
    refine nx (E' := [(0, _), (1, _), (4, _), (5, _)]) (fk rfl (fk rfl (fk rfl (fk rfl fn)))) ?_
    refine cg_seq ?_
    refine cg_region ?_
    refine lsw (want_none (by rfl)) (y_move rfl rfl) rfl (by decide) ?_
    refine lsw (want_none (by rfl)) (y_move rfl rfl) rfl (by decide) ?_
    refine lsw (want_none (by rfl)) (y_call (left_any x w _ rg) (by kernel_rfl) rfl rfl) rfl (by decide) ?_
    refine lsw (want_none (by rfl)) (y_assign rfl rfl) rfl (by decide) ?_
    refine lg_nil ?_
    refine nx (E' := [(0, _), (1, _), (4, _), (5, _), (6, _)]) (fk rfl (fk rfl (fk rfl (fk rfl (fk rfl fn))))) ?_
    refine cg_seq ?_
    refine cg_region ?_
    refine lsw (want_none (by rfl)) (y_move rfl rfl) rfl (by decide) ?_
    refine lsw (want_none (by rfl)) (y_move rfl rfl) rfl (by decide) ?_
    refine lsw (want_none (by rfl)) (y_call (right_any x w _ rg) (by kernel_rfl) rfl rfl) rfl (by decide) ?_
    refine lsw (want_none (by rfl)) (y_assign rfl rfl) rfl (by decide) ?_
    refine lg_nil ?_
    refine nx (E' := [(0, _), (1, _), (4, _), (5, _), (6, _), (7, _)]) (fk rfl (fk rfl (fk rfl (fk rfl (fk rfl (fk rfl fn)))))) ?_
    refine cg_seq ?_
    refine cg_seq ?_
    refine cg_region ?_
    refine lsw (want_none (by rfl)) (y_move rfl rfl) rfl (by decide) ?_
    refine lsw (want_none (by rfl)) (y_move rfl rfl) rfl (by decide) ?_
    have f1 : isN x w := fin2 (p := fun x w => isN x w) (by kernel_rfl) hn
    refine lsw (want_none (by rfl)) (yb (decide_eq_true f1) (y_call (is_any x w _ rg) (by kernel_rfl) rfl rfl)) rfl (by decide) ?_
    refine lsw (want_none (by rfl)) (y_bnot rfl rfl) rfl (by decide) ?_
    refine lg_nil ?_
    refine nx (E' := [(0, _), (1, _), (4, _), (5, _), (6, _), (7, _), (19, _)]) (fk rfl (fk rfl (fk rfl (fk rfl (fk rfl (fk rfl (fk rfl fn))))))) ?_
    refine cg_cf rfl ?_
    refine cg_skip ?_
    refine nx (E' := [(0, _), (1, _), (4, _), (5, _), (6, _), (7, _)]) (fk rfl (fk rfl (fk rfl (fk rfl (fk rfl (fk rfl fn)))))) ?_
    refine cg_seq ?_
    refine cg_region ?_
    refine lsw (want_none (by rfl)) (y_move rfl rfl) rfl (by decide) ?_
    refine lsw (want_none (by rfl)) (y_call (level_any x _ rg) (by kernel_rfl) rfl rfl) rfl (by decide) ?_
    refine lsw (want_none (by rfl)) (y_assign rfl rfl) rfl (by decide) ?_
    refine lg_nil ?_
    refine nx (E' := [(0, _), (1, _), (4, _), (5, _), (6, _), (7, _), (8, _)]) (fk rfl (fk rfl (fk rfl (fk rfl (fk rfl (fk rfl (fk rfl fn))))))) ?_
    refine cg_seq ?_
    refine cg_seq ?_
    refine cg_region ?_
    refine lsw (want_none (by rfl)) (y_move rfl rfl) rfl (by decide) ?_
    have f2 : 0 ≤ x := fin2 (p := fun x w => 0 ≤ x) (by kernel_rfl) hn
    refine lsw (want_none (by rfl)) (yi_rem rfl rfl rfl f2 (by decide)) rfl (by decide) ?_
    by_cases c3 : (x % 2) = 0
    · have f4 : (x % 2) = 0 := fin2 (p := fun x w => (x % 2) = 0 → (x % 2) = 0) (by kernel_rfl) hn c3
      refine lsw (want_none (by rfl)) (yb (decide_eq_true f4) (yi_eql rfl rfl rfl)) rfl (by decide) ?_
      refine lg_nil ?_
      refine nx (E' := [(0, _), (1, _), (4, _), (5, _), (6, _), (7, _), (8, _), (45, _)]) (fk rfl (fk rfl (fk rfl (fk rfl (fk rfl (fk rfl (fk rfl (fk rfl fn)))))))) ?_
      refine cg_ct rfl ?_
      refine cg_seq ?_
      refine cg_region ?_
      refine lsw (want_none (by rfl)) (y_move rfl rfl) rfl (by decide) ?_
      refine lsw (want_none (by rfl)) (y_move rfl rfl) rfl (by decide) ?_
      refine lsw (want_t (dj := 47) (by rfl) (by kernel_rfl) rfl) (y_move rfl rfl) rfl (by decide) ?_
      have f5 : (leftI x w) = (-1) := fin2 (p := fun x w => (x % 2) = 0 → (leftI x w) = (-1)) (by kernel_rfl) hn c3
      refine lsw (want_t (dj := 47) (by rfl) (by kernel_rfl) rfl) (yb (decide_eq_true f5) (yi_eql rfl rfl rfl)) rfl (by decide) ?_
      refine lsw (want_none (by rfl)) (y_pick true rfl rfl rfl) rfl (by decide) ?_
      refine lsw (want_none (by rfl)) (y_move rfl rfl) rfl (by decide) ?_
      refine lsw (want_t (dj := 51) (by rfl) (by kernel_rfl) rfl) (y_move rfl rfl) rfl (by decide) ?_
      have f6 : (rightI x w) = (-1) := fin2 (p := fun x w => (x % 2) = 0 → (rightI x w) = (-1)) (by kernel_rfl) hn c3
      refine lsw (want_t (dj := 51) (by rfl) (by kernel_rfl) rfl) (yb (decide_eq_true f6) (yi_eql rfl rfl rfl)) rfl (by decide) ?_
      refine lsw (want_none (by rfl)) (y_pick true rfl rfl rfl) rfl (by decide) ?_
      refine lsw (want_none (by rfl)) (y_move rfl rfl) rfl (by decide) ?_
      refine lsw (want_t (dj := 55) (by rfl) (by kernel_rfl) rfl) (y_move rfl rfl) rfl (by decide) ?_
      have f7 : (lvl x) = 0 := fin2 (p := fun x w => (x % 2) = 0 → (lvl x) = 0) (by kernel_rfl) hn c3
      refine lsw (want_t (dj := 55) (by rfl) (by kernel_rfl) rfl) (yb (decide_eq_true f7) (yi_eql rfl rfl rfl)) rfl (by decide) ?_
      refine lsw (want_none (by rfl)) (y_pick true rfl rfl rfl) rfl (by decide) ?_
      refine lsw (want_none (by rfl)) (y_assign rfl rfl) rfl (by decide) ?_
      refine lg_nil ?_
      refine nx (E' := [(0, _), (1, _), (5, _), (6, _), (7, _), (8, _), (4, _)]) (fk rfl (fk rfl (fk rfl (fk rfl (fk rfl (fk rfl (fk rfl fn))))))) ?_
      refine cg_ret ?_
      refine eg_seq_ret ?_
      exact eg_ret_tmp rfl rfl ⟨rfl, rfl⟩
    · have f8 : ¬ ((x % 2) = 0) := fin2 (p := fun x w => ¬ ((x % 2) = 0) → ¬ ((x % 2) = 0)) (by kernel_rfl) hn c3
      refine lsw (want_none (by rfl)) (yb (decide_eq_false f8) (yi_eql rfl rfl rfl)) rfl (by decide) ?_
      refine lg_nil ?_
      refine nx (E' := [(0, _), (1, _), (4, _), (5, _), (6, _), (7, _), (8, _), (45, _)]) (fk rfl (fk rfl (fk rfl (fk rfl (fk rfl (fk rfl (fk rfl (fk rfl fn)))))))) ?_
      refine cg_cf rfl ?_
      refine cg_skip ?_
      refine nx (E' := [(0, _), (1, _), (4, _), (5, _), (6, _), (7, _), (8, _)]) (fk rfl (fk rfl (fk rfl (fk rfl (fk rfl (fk rfl (fk rfl fn))))))) ?_
      refine cg_seq ?_
      refine cg_region ?_
      refine lsw (want_none (by rfl)) (y_move rfl rfl) rfl (by decide) ?_
      refine lsw (want_none (by rfl)) (y_move rfl rfl) rfl (by decide) ?_
      refine lsw (want_t (dj := 60) (by rfl) (by kernel_rfl) rfl) (y_move rfl rfl) rfl (by decide) ?_
      have f9 : 0 < (lvl x) := fin2 (p := fun x w => ¬ ((x % 2) = 0) → 0 < (lvl x)) (by kernel_rfl) hn c3
      refine lsw (want_t (dj := 60) (by rfl) (by kernel_rfl) rfl) (yb (decide_eq_true f9) (yi_gtr rfl rfl rfl)) rfl (by decide) ?_
      refine lsw (want_none (by rfl)) (y_pick true rfl rfl rfl) rfl (by decide) ?_
      refine lsw (want_none (by rfl)) (y_move rfl rfl) rfl (by decide) ?_
      refine lsw (want_t (dj := 64) (by rfl) (by kernel_rfl) rfl) (y_move rfl rfl) rfl (by decide) ?_
      refine lsw (want_t (dj := 64) (by rfl) (by kernel_rfl) rfl) (y_move rfl rfl) rfl (by decide) ?_
      have f10 : isN (leftI x w) w := fin2 (p := fun x w => ¬ ((x % 2) = 0) → isN (leftI x w) w) (by kernel_rfl) hn c3
      refine lsw (want_t (dj := 64) (by rfl) (by kernel_rfl) rfl) (yb (decide_eq_true f10) (y_call (is_any (leftI x w) w _ rg) (by kernel_rfl) rfl rfl)) rfl (by decide) ?_
      refine lsw (want_none (by rfl)) (y_pick true rfl rfl rfl) rfl (by decide) ?_
      refine lsw (want_none (by rfl)) (y_move rfl rfl) rfl (by decide) ?_
      refine lsw (want_t (dj := 69) (by rfl) (by kernel_rfl) rfl) (y_move rfl rfl) rfl (by decide) ?_
      refine lsw (want_t (dj := 69) (by rfl) (by kernel_rfl) rfl) (y_move rfl rfl) rfl (by decide) ?_
      have f11 : isN (rightI x w) w := fin2 (p := fun x w => ¬ ((x % 2) = 0) → isN (rightI x w) w) (by kernel_rfl) hn c3
      refine lsw (want_t (dj := 69) (by rfl) (by kernel_rfl) rfl) (yb (decide_eq_true f11) (y_call (is_any (rightI x w) w _ rg) (by kernel_rfl) rfl rfl)) rfl (by decide) ?_
      refine lsw (want_none (by rfl)) (y_pick true rfl rfl rfl) rfl (by decide) ?_
      refine lsw (want_none (by rfl)) (y_move rfl rfl) rfl (by decide) ?_
      refine lsw (want_t (dj := 74) (by rfl) (by kernel_rfl) rfl) (y_move rfl rfl) rfl (by decide) ?_
      refine lsw (want_t (dj := 74) (by rfl) (by kernel_rfl) rfl) (y_move rfl rfl) rfl (by decide) ?_
      have f12 : (leftI x w) < x := fin2 (p := fun x w => ¬ ((x % 2) = 0) → (leftI x w) < x) (by kernel_rfl) hn c3
      refine lsw (want_t (dj := 74) (by rfl) (by kernel_rfl) rfl) (yb (decide_eq_true f12) (yi_lss rfl rfl rfl)) rfl (by decide) ?_
      refine lsw (want_none (by rfl)) (y_pick true rfl rfl rfl) rfl (by decide) ?_
      refine lsw (want_none (by rfl)) (y_move rfl rfl) rfl (by decide) ?_
      refine lsw (want_t (dj := 79) (by rfl) (by kernel_rfl) rfl) (y_move rfl rfl) rfl (by decide) ?_
      refine lsw (want_t (dj := 79) (by rfl) (by kernel_rfl) rfl) (y_move rfl rfl) rfl (by decide) ?_
      have f13 : x < (rightI x w) := fin2 (p := fun x w => ¬ ((x % 2) = 0) → x < (rightI x w)) (by kernel_rfl) hn c3
      refine lsw (want_t (dj := 79) (by rfl) (by kernel_rfl) rfl) (yb (decide_eq_true f13) (yi_lss rfl rfl rfl)) rfl (by decide) ?_
      refine lsw (want_none (by rfl)) (y_pick true rfl rfl rfl) rfl (by decide) ?_
      refine lsw (want_none (by rfl)) (y_move rfl rfl) rfl (by decide) ?_
      refine lsw (want_t (dj := 84) (by rfl) (by kernel_rfl) rfl) (y_move rfl rfl) rfl (by decide) ?_
      refine lsw (want_t (dj := 84) (by rfl) (by kernel_rfl) rfl) (y_move rfl rfl) rfl (by decide) ?_
      refine lsw (want_t (dj := 84) (by rfl) (by kernel_rfl) rfl) (y_call (parent_any (leftI x w) w _ rg) (by kernel_rfl) rfl rfl) rfl (by decide) ?_
      refine lsw (want_t (dj := 84) (by rfl) (by kernel_rfl) rfl) (y_move rfl rfl) rfl (by decide) ?_
      have f14 : (parI (leftI x w) w) = x := fin2 (p := fun x w => ¬ ((x % 2) = 0) → (parI (leftI x w) w) = x) (by kernel_rfl) hn c3
      refine lsw (want_t (dj := 84) (by rfl) (by kernel_rfl) rfl) (yb (decide_eq_true f14) (yi_eql rfl rfl rfl)) rfl (by decide) ?_
      refine lsw (want_none (by rfl)) (y_pick true rfl rfl rfl) rfl (by decide) ?_
      refine lsw (want_none (by rfl)) (y_move rfl rfl) rfl (by decide) ?_
      refine lsw (want_t (dj := 91) (by rfl) (by kernel_rfl) rfl) (y_move rfl rfl) rfl (by decide) ?_
      refine lsw (want_t (dj := 91) (by rfl) (by kernel_rfl) rfl) (y_move rfl rfl) rfl (by decide) ?_
      refine lsw (want_t (dj := 91) (by rfl) (by kernel_rfl) rfl) (y_call (parent_any (rightI x w) w _ rg) (by kernel_rfl) rfl rfl) rfl (by decide) ?_
      refine lsw (want_t (dj := 91) (by rfl) (by kernel_rfl) rfl) (y_move rfl rfl) rfl (by decide) ?_
      have f15 : (parI (rightI x w) w) = x := fin2 (p := fun x w => ¬ ((x % 2) = 0) → (parI (rightI x w) w) = x) (by kernel_rfl) hn c3
      refine lsw (want_t (dj := 91) (by rfl) (by kernel_rfl) rfl) (yb (decide_eq_true f15) (yi_eql rfl rfl rfl)) rfl (by decide) ?_
      refine lsw (want_none (by rfl)) (y_pick true rfl rfl rfl) rfl (by decide) ?_
      refine lsw (want_none (by rfl)) (y_move rfl rfl) rfl (by decide) ?_
      refine lsw (want_t (dj := 98) (by rfl) (by kernel_rfl) rfl) (y_move rfl rfl) rfl (by decide) ?_
      refine lsw (want_t (dj := 98) (by rfl) (by kernel_rfl) rfl) (y_move rfl rfl) rfl (by decide) ?_
      refine lsw (want_t (dj := 98) (by rfl) (by kernel_rfl) rfl) (y_call (sibling_any (leftI x w) w _ rg) (by kernel_rfl) rfl rfl) rfl (by decide) ?_
      refine lsw (want_t (dj := 98) (by rfl) (by kernel_rfl) rfl) (y_move rfl rfl) rfl (by decide) ?_
      have f16 : (sibI (leftI x w) w) = (rightI x w) := fin2 (p := fun x w => ¬ ((x % 2) = 0) → (sibI (leftI x w) w) = (rightI x w)) (by kernel_rfl) hn c3
      refine lsw (want_t (dj := 98) (by rfl) (by kernel_rfl) rfl) (yb (decide_eq_true f16) (yi_eql rfl rfl rfl)) rfl (by decide) ?_
      refine lsw (want_none (by rfl)) (y_pick true rfl rfl rfl) rfl (by decide) ?_
      refine lsw (want_none (by rfl)) (y_move rfl rfl) rfl (by decide) ?_
      refine lsw (want_t (dj := 105) (by rfl) (by kernel_rfl) rfl) (y_move rfl rfl) rfl (by decide) ?_
      refine lsw (want_t (dj := 105) (by rfl) (by kernel_rfl) rfl) (y_move rfl rfl) rfl (by decide) ?_
      refine lsw (want_t (dj := 105) (by rfl) (by kernel_rfl) rfl) (y_call (sibling_any (rightI x w) w _ rg) (by kernel_rfl) rfl rfl) rfl (by decide) ?_
      refine lsw (want_t (dj := 105) (by rfl) (by kernel_rfl) rfl) (y_move rfl rfl) rfl (by decide) ?_
      have f17 : (sibI (rightI x w) w) = (leftI x w) := fin2 (p := fun x w => ¬ ((x % 2) = 0) → (sibI (rightI x w) w) = (leftI x w)) (by kernel_rfl) hn c3
      refine lsw (want_t (dj := 105) (by rfl) (by kernel_rfl) rfl) (yb (decide_eq_true f17) (yi_eql rfl rfl rfl)) rfl (by decide) ?_
      refine lsw (want_none (by rfl)) (y_pick true rfl rfl rfl) rfl (by decide) ?_
      refine lsw (want_none (by rfl)) (y_move rfl rfl) rfl (by decide) ?_
      refine lsw (want_t (dj := 112) (by rfl) (by kernel_rfl) rfl) (y_move rfl rfl) rfl (by decide) ?_
      refine lsw (want_t (dj := 112) (by rfl) (by kernel_rfl) rfl) (y_call (level_any (leftI x w) _ rg) (by kernel_rfl) rfl rfl) rfl (by decide) ?_
      refine lsw (want_t (dj := 112) (by rfl) (by kernel_rfl) rfl) (y_move rfl rfl) rfl (by decide) ?_
      have f18 : -9223372036854775808 ≤ ((lvl x) - 1) ∧ ((lvl x) - 1) < 9223372036854775808 := fin2 (p := fun x w => ¬ ((x % 2) = 0) → -9223372036854775808 ≤ ((lvl x) - 1) ∧ ((lvl x) - 1) < 9223372036854775808) (by kernel_rfl) hn c3
      refine lsw (want_t (dj := 112) (by rfl) (by kernel_rfl) rfl) (yi_sub rfl rfl rfl f18.1 f18.2) rfl (by decide) ?_
      have f19 : (lvl (leftI x w)) = ((lvl x) - 1) := fin2 (p := fun x w => ¬ ((x % 2) = 0) → (lvl (leftI x w)) = ((lvl x) - 1)) (by kernel_rfl) hn c3
      refine lsw (want_t (dj := 112) (by rfl) (by kernel_rfl) rfl) (yb (decide_eq_true f19) (yi_eql rfl rfl rfl)) rfl (by decide) ?_
      refine lsw (want_none (by rfl)) (y_pick true rfl rfl rfl) rfl (by decide) ?_
      refine lsw (want_none (by rfl)) (y_move rfl rfl) rfl (by decide) ?_
      refine lsw (want_t (dj := 119) (by rfl) (by kernel_rfl) rfl) (y_move rfl rfl) rfl (by decide) ?_
      refine lsw (want_t (dj := 119) (by rfl) (by kernel_rfl) rfl) (y_call (level_any (rightI x w) _ rg) (by kernel_rfl) rfl rfl) rfl (by decide) ?_
      refine lsw (want_t (dj := 119) (by rfl) (by kernel_rfl) rfl) (y_move rfl rfl) rfl (by decide) ?_
      have f20 : -9223372036854775808 ≤ ((lvl x) - 1) ∧ ((lvl x) - 1) < 9223372036854775808 := fin2 (p := fun x w => ¬ ((x % 2) = 0) → -9223372036854775808 ≤ ((lvl x) - 1) ∧ ((lvl x) - 1) < 9223372036854775808) (by kernel_rfl) hn c3
      refine lsw (want_t (dj := 119) (by rfl) (by kernel_rfl) rfl) (yi_sub rfl rfl rfl f20.1 f20.2) rfl (by decide) ?_
      have f21 : (lvl (rightI x w)) = ((lvl x) - 1) := fin2 (p := fun x w => ¬ ((x % 2) = 0) → (lvl (rightI x w)) = ((lvl x) - 1)) (by kernel_rfl) hn c3
      refine lsw (want_t (dj := 119) (by rfl) (by kernel_rfl) rfl) (yb (decide_eq_true f21) (yi_eql rfl rfl rfl)) rfl (by decide) ?_
      refine lsw (want_none (by rfl)) (y_pick true rfl rfl rfl) rfl (by decide) ?_
      refine lsw (want_none (by rfl)) (y_move rfl rfl) rfl (by decide) ?_
      refine lsw (want_t (dj := 126) (by rfl) (by kernel_rfl) rfl) (y_move rfl rfl) rfl (by decide) ?_
      refine lsw (want_t (dj := 126) (by rfl) (by kernel_rfl) rfl) (y_move rfl rfl) rfl (by decide) ?_
      have f22 : -9223372036854775808 ≤ (x - (leftI x w)) ∧ (x - (leftI x w)) < 9223372036854775808 := fin2 (p := fun x w => ¬ ((x % 2) = 0) → -9223372036854775808 ≤ (x - (leftI x w)) ∧ (x - (leftI x w)) < 9223372036854775808) (by kernel_rfl) hn c3
      refine lsw (want_t (dj := 126) (by rfl) (by kernel_rfl) rfl) (yi_sub rfl rfl rfl f22.1 f22.2) rfl (by decide) ?_
      refine lsw (want_t (dj := 126) (by rfl) (by kernel_rfl) rfl) (y_move rfl rfl) rfl (by decide) ?_
      refine lsw (want_t (dj := 126) (by rfl) (by kernel_rfl) rfl) (y_move rfl rfl) rfl (by decide) ?_
      have f23 : -9223372036854775808 ≤ ((rightI x w) - x) ∧ ((rightI x w) - x) < 9223372036854775808 := fin2 (p := fun x w => ¬ ((x % 2) = 0) → -9223372036854775808 ≤ ((rightI x w) - x) ∧ ((rightI x w) - x) < 9223372036854775808) (by kernel_rfl) hn c3
      refine lsw (want_t (dj := 126) (by rfl) (by kernel_rfl) rfl) (yi_sub rfl rfl rfl f23.1 f23.2) rfl (by decide) ?_
      have f24 : (x - (leftI x w)) = ((rightI x w) - x) := fin2 (p := fun x w => ¬ ((x % 2) = 0) → (x - (leftI x w)) = ((rightI x w) - x)) (by kernel_rfl) hn c3
      refine lsw (want_t (dj := 126) (by rfl) (by kernel_rfl) rfl) (yb (decide_eq_true f24) (yi_eql rfl rfl rfl)) rfl (by decide) ?_
      refine lsw (want_none (by rfl)) (y_pick true rfl rfl rfl) rfl (by decide) ?_
      refine lsw (want_none (by rfl)) (y_assign rfl rfl) rfl (by decide) ?_
      refine lg_nil ?_
      refine nx (E' := [(4, _)]) (fk rfl fn) ?_
      refine cg_ret ?_
      exact eg_ret_tmp rfl rfl ⟨rfl, rfl⟩
  · refine calls_cg (n := 135) Tryd.func4 rfl Tryd.ntmps4 (by simp) ?_
    show CG _ _ _ [(0, nv x), (1, nv w)] _ _
    refine cg_seq ?_
    refine cg_region ?_
    refine lsw (want_none (by rfl)) (y_assign rfl rfl) rfl (by decide) ?_
    refine lg_nil ?_
    refine nx (E' := [(0, _), (1, _), (4, _)]) (fk rfl (fk rfl (fk rfl fn))) ?_
    refine cg_seq ?_
    refine cg_region ?_
    refine lsw (want_none (by rfl)) (y_call (awake_any _ rg) (by kernel_rfl) rfl rfl) rfl (by decide) ?_
    refine lsw (want_none (by rfl)) (y_assign rfl rfl) rfl (by decide) ?_
    refine lg_nil ?_
    refine nx (E' := [(0, _), (1, _), (4, _), (5, _)]) (fk rfl (fk rfl (fk rfl (fk rfl fn)))) ?_
    refine cg_seq ?_
    refine cg_region ?_
    refine lsw (want_none (by rfl)) (y_move rfl rfl) rfl (by decide) ?_
    refine lsw (want_none (by rfl)) (y_move rfl rfl) rfl (by decide) ?_
    refine lsw (want_none (by rfl)) (y_call (left_any x w _ rg) (by kernel_rfl) rfl rfl) rfl (by decide) ?_
    refine lsw (want_none (by rfl)) (y_assign rfl rfl) rfl (by decide) ?_
    refine lg_nil ?_
    refine nx (E' := [(0, _), (1, _), (4, _), (5, _), (6, _)]) (fk rfl (fk rfl (fk rfl (fk rfl (fk rfl fn))))) ?_
    refine cg_seq ?_
    refine cg_region ?_
    refine lsw (want_none (by rfl)) (y_move rfl rfl) rfl (by decide) ?_
    refine lsw (want_none (by rfl)) (y_move rfl rfl) rfl (by decide) ?_
    refine lsw (want_none (by rfl)) (y_call (right_any x w _ rg) (by kernel_rfl) rfl rfl) rfl (by decide) ?_
    refine lsw (want_none (by rfl)) (y_assign rfl rfl) rfl (by decide) ?_
    refine lg_nil ?_
    refine nx (E' := [(0, _), (1, _), (4, _), (5, _), (6, _), (7, _)]) (fk rfl (fk rfl (fk rfl (fk rfl (fk rfl (fk rfl fn)))))) ?_
    refine cg_seq ?_
    refine cg_seq ?_
    refine cg_region ?_
    refine lsw (want_none (by rfl)) (y_move rfl rfl) rfl (by decide) ?_
    refine lsw (want_none (by rfl)) (y_move rfl rfl) rfl (by decide) ?_
    refine lsw (want_none (by rfl)) (yb (decide_eq_false hn) (y_call (is_any x w _ rg) (by kernel_rfl) rfl rfl)) rfl (by decide) ?_
    refine lsw (want_none (by rfl)) (y_bnot rfl rfl) rfl (by decide) ?_
    refine lg_nil ?_
    refine nx (E' := [(0, _), (1, _), (4, _), (5, _), (6, _), (7, _), (19, _)]) (fk rfl (fk rfl (fk rfl (fk rfl (fk rfl (fk rfl (fk rfl fn))))))) ?_
    refine cg_ct rfl ?_
    refine cg_seq ?_
    refine cg_region ?_
    refine lsw (want_none (by rfl)) (y_move rfl rfl) rfl (by decide) ?_
    refine lsw (want_none (by rfl)) (y_move rfl rfl) rfl (by decide) ?_
    refine lsw (want_t (dj := 21) (by rfl) (by kernel_rfl) rfl) (y_move rfl rfl) rfl (by decide) ?_
    refine lsw (want_t (dj := 21) (by rfl) (by kernel_rfl) rfl) (yb (decide_eq_true (left_no hn)) (yi_eql rfl rfl rfl)) rfl (by decide) ?_
    refine lsw (want_none (by rfl)) (y_pick true rfl rfl rfl) rfl (by decide) ?_
    refine lsw (want_none (by rfl)) (y_move rfl rfl) rfl (by decide) ?_
    refine lsw (want_t (dj := 25) (by rfl) (by kernel_rfl) rfl) (y_move rfl rfl) rfl (by decide) ?_
    refine lsw (want_t (dj := 25) (by rfl) (by kernel_rfl) rfl) (yb (decide_eq_true (right_no hn)) (yi_eql rfl rfl rfl)) rfl (by decide) ?_
    refine lsw (want_none (by rfl)) (y_pick true rfl rfl rfl) rfl (by decide) ?_
    refine lsw (want_none (by rfl)) (y_move rfl rfl) rfl (by decide) ?_
    refine lsw (want_t (dj := 29) (by rfl) (by kernel_rfl) rfl) (y_move rfl rfl) rfl (by decide) ?_
    refine lsw (want_t (dj := 29) (by rfl) (by kernel_rfl) rfl) (y_move rfl rfl) rfl (by decide) ?_
    refine lsw (want_t (dj := 29) (by rfl) (by kernel_rfl) rfl) (y_call (parent_any x w _ rg) (by kernel_rfl) rfl rfl) rfl (by decide) ?_
    refine lsw (want_t (dj := 29) (by rfl) (by kernel_rfl) rfl) (yb (decide_eq_true (par_no hn)) (yi_eql rfl rfl rfl)) rfl (by decide) ?_
    refine lsw (want_none (by rfl)) (y_pick true rfl rfl rfl) rfl (by decide) ?_
    refine lsw (want_none (by rfl)) (y_move rfl rfl) rfl (by decide) ?_
    refine lsw (want_t (dj := 35) (by rfl) (by kernel_rfl) rfl) (y_move rfl rfl) rfl (by decide) ?_
    refine lsw (want_t (dj := 35) (by rfl) (by kernel_rfl) rfl) (y_move rfl rfl) rfl (by decide) ?_
    refine lsw (want_t (dj := 35) (by rfl) (by kernel_rfl) rfl) (y_call (sibling_any x w _ rg) (by kernel_rfl) rfl rfl) rfl (by decide) ?_
    refine lsw (want_t (dj := 35) (by rfl) (by kernel_rfl) rfl) (yb (decide_eq_true (sib_no hn)) (yi_eql rfl rfl rfl)) rfl (by decide) ?_
    refine lsw (want_none (by rfl)) (y_pick true rfl rfl rfl) rfl (by decide) ?_
    refine lsw (want_none (by rfl)) (y_assign rfl rfl) rfl (by decide) ?_
    refine lg_nil ?_
    refine nx (E' := [(0, _), (1, _), (5, _), (6, _), (7, _), (4, _)]) (fk rfl (fk rfl (fk rfl (fk rfl (fk rfl (fk rfl fn)))))) ?_
    refine cg_ret ?_
    refine eg_seq_ret ?_
    exact eg_ret_tmp rfl rfl ⟨rfl, rfl⟩
theorem ixgrows_any (x w : Int) (W : World) (rg : Tb W) : Calls Tryd.prog 6 #[nv x, nv w] W fun e w' => e = .returned (.bool true) ∧ w' = W := by
  by_cases hn : isN x w
  · refine calls_cg (n := 77) Tryd.func6 rfl Tryd.ntmps6 (by simp) ?_
    show CG _ _ _ [(0, nv x), (1, nv w)] _ _
    refine cg_seq ?_
    refine cg_region ?_
    refine lsw (want_none (by rfl)) (y_assign rfl rfl) rfl (by decide) ?_
    refine lg_nil ?_
    refine nx (E' := [(0, _), (1, _), (4, _)]) (fk rfl (fk rfl (fk rfl fn))) ?_
    refine cg_seq ?_
    refine cg_region ?_
    refine lsw (want_none (by rfl)) (y_call (awake_any _ rg) (by kernel_rfl) rfl rfl) rfl (by decide) ?_
    refine lsw (want_none (by rfl)) (y_assign rfl rfl) rfl (by decide) ?_
    refine lg_nil ?_
    refine nx (E' := [(0, _), (1, _), (4, _), (5, _)]) (fk rfl (fk rfl (fk rfl (fk rfl fn)))) ?_
    refine cg_seq ?_
    refine cg_region ?_
    refine lsw (want_none (by rfl)) (y_move rfl rfl) rfl (by decide) ?_
    have f1 : -9223372036854775808 ≤ (2 * w) ∧ (2 * w) < 9223372036854775808 := fin2 (p := fun x w => -9223372036854775808 ≤ (2 * w) ∧ (2 * w) < 9223372036854775808) (by kernel_rfl) hn
    refine lsw (want_none (by rfl)) (yi_mul rfl rfl rfl f1.1 f1.2) rfl (by decide) ?_
    have f2 : -9223372036854775808 ≤ ((2 * w) + 1) ∧ ((2 * w) + 1) < 9223372036854775808 := fin2 (p := fun x w => -9223372036854775808 ≤ ((2 * w) + 1) ∧ ((2 * w) + 1) < 9223372036854775808) (by kernel_rfl) hn
    refine lsw (want_none (by rfl)) (yi_add rfl rfl rfl f2.1 f2.2) rfl (by decide) ?_
    refine lsw (want_none (by rfl)) (y_assign rfl rfl) rfl (by decide) ?_
    refine lg_nil ?_
    refine nx (E' := [(0, _), (1, _), (4, _), (5, _), (6, _)]) (fk rfl (fk rfl (fk rfl (fk rfl (fk rfl fn))))) ?_
    refine cg_seq ?_
    refine cg_seq ?_
    refine cg_region ?_
    refine lsw (want_none (by rfl)) (y_move rfl rfl) rfl (by decide) ?_
    refine lsw (want_none (by rfl)) (y_move rfl rfl) rfl (by decide) ?_
    have f3 : isN x w := fin2 (p := fun x w => isN x w) (by kernel_rfl) hn
    refine lsw (want_none (by rfl)) (yb (decide_eq_true f3) (y_call (is_any x w _ rg) (by kernel_rfl) rfl rfl)) rfl (by decide) ?_
    refine lsw (want_none (by rfl)) (y_bnot rfl rfl) rfl (by decide) ?_
    refine lsw (want_none (by rfl)) (y_move rfl rfl) rfl (by decide) ?_
    refine lsw (want_t (dj := 15) (by rfl) (by kernel_rfl) rfl) (y_move rfl rfl) rfl (by decide) ?_
    by_cases c4 : isW ((2 * w) + 1)
    · have f5 : isW ((2 * w) + 1) := fin2 (p := fun x w => isW ((2 * w) + 1) → isW ((2 * w) + 1)) (by kernel_rfl) hn c4
      refine lsw (want_t (dj := 15) (by rfl) (by kernel_rfl) rfl) (yb (decide_eq_true f5) (y_call (whole_any ((2 * w) + 1) _ rg) (by kernel_rfl) rfl rfl)) rfl (by decide) ?_
      refine lsw (want_t (dj := 15) (by rfl) (by kernel_rfl) rfl) (y_bnot rfl rfl) rfl (by decide) ?_
      refine lsw (want_none (by rfl)) (y_pick false rfl rfl rfl) rfl (by decide) ?_
      refine lg_nil ?_
      refine nx (E' := [(0, _), (1, _), (4, _), (5, _), (6, _), (19, _)]) (fk rfl (fk rfl (fk rfl (fk rfl (fk rfl (fk rfl fn)))))) ?_
      refine cg_cf rfl ?_
      refine cg_skip ?_
      refine nx (E' := [(0, _), (1, _), (4, _), (5, _), (6, _)]) (fk rfl (fk rfl (fk rfl (fk rfl (fk rfl fn))))) ?_
      refine cg_seq ?_
      refine cg_seq ?_
      refine cg_region ?_
      refine lsw (want_none (by rfl)) (y_move rfl rfl) rfl (by decide) ?_
      refine lsw (want_none (by rfl)) (y_move rfl rfl) rfl (by decide) ?_
      refine lsw (want_none (by rfl)) (y_call (left_any x w _ rg) (by kernel_rfl) rfl rfl) rfl (by decide) ?_
      refine lsw (want_none (by rfl)) (y_move rfl rfl) rfl (by decide) ?_
      refine lsw (want_none (by rfl)) (y_move rfl rfl) rfl (by decide) ?_
      refine lsw (want_none (by rfl)) (y_call (left_any x ((2 * w) + 1) _ rg) (by kernel_rfl) rfl rfl) rfl (by decide) ?_
      have f6 : (leftI x w) = (leftI x ((2 * w) + 1)) := fin2 (p := fun x w => isW ((2 * w) + 1) → (leftI x w) = (leftI x ((2 * w) + 1))) (by kernel_rfl) hn c4
      refine lsw (want_none (by rfl)) (yb (nd_f f6) (yi_neq rfl rfl rfl)) rfl (by decide) ?_
      refine lsw (want_none (by rfl)) (y_move rfl rfl) rfl (by decide) ?_
      refine lsw (want_t (dj := 28) (by rfl) (by kernel_rfl) rfl) (y_move rfl rfl) rfl (by decide) ?_
      refine lsw (want_t (dj := 28) (by rfl) (by kernel_rfl) rfl) (y_move rfl rfl) rfl (by decide) ?_
      refine lsw (want_t (dj := 28) (by rfl) (by kernel_rfl) rfl) (y_call (right_any x w _ rg) (by kernel_rfl) rfl rfl) rfl (by decide) ?_
      refine lsw (want_t (dj := 28) (by rfl) (by kernel_rfl) rfl) (y_move rfl rfl) rfl (by decide) ?_
      refine lsw (want_t (dj := 28) (by rfl) (by kernel_rfl) rfl) (y_move rfl rfl) rfl (by decide) ?_
      refine lsw (want_t (dj := 28) (by rfl) (by kernel_rfl) rfl) (y_call (right_any x ((2 * w) + 1) _ rg) (by kernel_rfl) rfl rfl) rfl (by decide) ?_
      have f7 : (rightI x w) = (rightI x ((2 * w) + 1)) := fin2 (p := fun x w => isW ((2 * w) + 1) → (rightI x w) = (rightI x ((2 * w) + 1))) (by kernel_rfl) hn c4
      refine lsw (want_t (dj := 28) (by rfl) (by kernel_rfl) rfl) (yb (nd_f f7) (yi_neq rfl rfl rfl)) rfl (by decide) ?_
      refine lsw (want_none (by rfl)) (y_pick false rfl rfl rfl) rfl (by decide) ?_
      refine lg_nil ?_
      refine nx (E' := [(0, _), (1, _), (4, _), (5, _), (6, _), (36, _)]) (fk rfl (fk rfl (fk rfl (fk rfl (fk rfl (fk rfl fn)))))) ?_
      refine cg_cf rfl ?_
      refine cg_skip ?_
      refine nx (E' := [(0, _), (1, _), (4, _), (5, _), (6, _)]) (fk rfl (fk rfl (fk rfl (fk rfl (fk rfl fn))))) ?_
      refine cg_seq ?_
      refine cg_seq ?_
      refine cg_region ?_
      refine lsw (want_none (by rfl)) (y_move rfl rfl) rfl (by decide) ?_
      refine lsw (want_none (by rfl)) (y_move rfl rfl) rfl (by decide) ?_
      refine lsw (want_none (by rfl)) (y_call (root_any w _ rg) (by kernel_rfl) rfl rfl) rfl (by decide) ?_
      by_cases c8 : x = (rootI w)
      · have f9 : x = (rootI w) := fin2 (p := fun x w => isW ((2 * w) + 1) → x = (rootI w) → x = (rootI w)) (by kernel_rfl) hn c4 c8
        refine lsw (want_none (by rfl)) (yb (decide_eq_true f9) (yi_eql rfl rfl rfl)) rfl (by decide) ?_
        refine lg_nil ?_
        refine nx (E' := [(0, _), (1, _), (4, _), (5, _), (6, _), (40, _)]) (fk rfl (fk rfl (fk rfl (fk rfl (fk rfl (fk rfl fn)))))) ?_
        refine cg_ct rfl ?_
        refine cg_seq ?_
        refine cg_region ?_
        refine lsw (want_none (by rfl)) (y_move rfl rfl) rfl (by decide) ?_
        refine lsw (want_none (by rfl)) (y_move rfl rfl) rfl (by decide) ?_
        refine lsw (want_t (dj := 42) (by rfl) (by kernel_rfl) rfl) (y_move rfl rfl) rfl (by decide) ?_
        refine lsw (want_t (dj := 42) (by rfl) (by kernel_rfl) rfl) (y_move rfl rfl) rfl (by decide) ?_
        refine lsw (want_t (dj := 42) (by rfl) (by kernel_rfl) rfl) (y_call (parent_any x ((2 * w) + 1) _ rg) (by kernel_rfl) rfl rfl) rfl (by decide) ?_
        refine lsw (want_t (dj := 42) (by rfl) (by kernel_rfl) rfl) (y_move rfl rfl) rfl (by decide) ?_
        refine lsw (want_t (dj := 42) (by rfl) (by kernel_rfl) rfl) (y_call (root_any ((2 * w) + 1) _ rg) (by kernel_rfl) rfl rfl) rfl (by decide) ?_
        have f10 : (parI x ((2 * w) + 1)) = (rootI ((2 * w) + 1)) := fin2 (p := fun x w => isW ((2 * w) + 1) → x = (rootI w) → (parI x ((2 * w) + 1)) = (rootI ((2 * w) + 1))) (by kernel_rfl) hn c4 c8
        refine lsw (want_t (dj := 42) (by rfl) (by kernel_rfl) rfl) (yb (decide_eq_true f10) (yi_eql rfl rfl rfl)) rfl (by decide) ?_
        refine lsw (want_none (by rfl)) (y_pick true rfl rfl rfl) rfl (by decide) ?_
        refine lsw (want_none (by rfl)) (y_move rfl rfl) rfl (by decide) ?_
        refine lsw (want_t (dj := 50) (by rfl) (by kernel_rfl) rfl) (y_move rfl rfl) rfl (by decide) ?_
        refine lsw (want_t (dj := 50) (by rfl) (by kernel_rfl) rfl) (y_call (root_any ((2 * w) + 1) _ rg) (by kernel_rfl) rfl rfl) rfl (by decide) ?_
        refine lsw (want_t (dj := 50) (by rfl) (by kernel_rfl) rfl) (y_move rfl rfl) rfl (by decide) ?_
        refine lsw (want_t (dj := 50) (by rfl) (by kernel_rfl) rfl) (y_call (left_any (rootI ((2 * w) + 1)) ((2 * w) + 1) _ rg) (by kernel_rfl) rfl rfl) rfl (by decide) ?_
        refine lsw (want_t (dj := 50) (by rfl) (by kernel_rfl) rfl) (y_move rfl rfl) rfl (by decide) ?_
        have f11 : (leftI (rootI ((2 * w) + 1)) ((2 * w) + 1)) = x := fin2 (p := fun x w => isW ((2 * w) + 1) → x = (rootI w) → (leftI (rootI ((2 * w) + 1)) ((2 * w) + 1)) = x) (by kernel_rfl) hn c4 c8
        refine lsw (want_t (dj := 50) (by rfl) (by kernel_rfl) rfl) (yb (decide_eq_true f11) (yi_eql rfl rfl rfl)) rfl (by decide) ?_
        refine lsw (want_none (by rfl)) (y_pick true rfl rfl rfl) rfl (by decide) ?_
        refine lsw (want_none (by rfl)) (y_assign rfl rfl) rfl (by decide) ?_
        refine lg_nil ?_
        refine nx (E' := [(0, _), (1, _), (5, _), (6, _), (4, _)]) (fk rfl (fk rfl (fk rfl (fk rfl (fk rfl fn))))) ?_
        refine cg_ret ?_
        refine eg_seq_ret ?_
        exact eg_ret_tmp rfl rfl ⟨rfl, rfl⟩
      · have f12 : ¬ (x = (rootI w)) := fin2 (p := fun x w => isW ((2 * w) + 1) → ¬ (x = (rootI w)) → ¬ (x = (rootI w))) (by kernel_rfl) hn c4 c8
        refine lsw (want_none (by rfl)) (yb (decide_eq_false f12) (yi_eql rfl rfl rfl)) rfl (by decide) ?_
        refine lg_nil ?_
        refine nx (E' := [(0, _), (1, _), (4, _), (5, _), (6, _), (40, _)]) (fk rfl (fk rfl (fk rfl (fk rfl (fk rfl (fk rfl fn)))))) ?_
        refine cg_cf rfl ?_
        refine cg_skip ?_
        refine nx (E' := [(0, _), (1, _), (4, _), (5, _), (6, _)]) (fk rfl (fk rfl (fk rfl (fk rfl (fk rfl fn))))) ?_
        refine cg_seq ?_
        refine cg_region ?_
        refine lsw (want_none (by rfl)) (y_move rfl rfl) rfl (by decide) ?_
        refine lsw (want_none (by rfl)) (y_move rfl rfl) rfl (by decide) ?_
        refine lsw (want_t (dj := 59) (by rfl) (by kernel_rfl) rfl) (y_move rfl rfl) rfl (by decide) ?_
        refine lsw (want_t (dj := 59) (by rfl) (by kernel_rfl) rfl) (y_move rfl rfl) rfl (by decide) ?_
        refine lsw (want_t (dj := 59) (by rfl) (by kernel_rfl) rfl) (y_call (parent_any x w _ rg) (by kernel_rfl) rfl rfl) rfl (by decide) ?_
        refine lsw (want_t (dj := 59) (by rfl) (by kernel_rfl) rfl) (y_move rfl rfl) rfl (by decide) ?_
        refine lsw (want_t (dj := 59) (by rfl) (by kernel_rfl) rfl) (y_move rfl rfl) rfl (by decide) ?_
        refine lsw (want_t (dj := 59) (by rfl) (by kernel_rfl) rfl) (y_call (parent_any x ((2 * w) + 1) _ rg) (by kernel_rfl) rfl rfl) rfl (by decide) ?_
        have f13 : (parI x w) = (parI x ((2 * w) + 1)) := fin2 (p := fun x w => isW ((2 * w) + 1) → ¬ (x = (rootI w)) → (parI x w) = (parI x ((2 * w) + 1))) (by kernel_rfl) hn c4 c8
        refine lsw (want_t (dj := 59) (by rfl) (by kernel_rfl) rfl) (yb (decide_eq_true f13) (yi_eql rfl rfl rfl)) rfl (by decide) ?_
        refine lsw (want_none (by rfl)) (y_pick true rfl rfl rfl) rfl (by decide) ?_
        refine lsw (want_none (by rfl)) (y_move rfl rfl) rfl (by decide) ?_
        refine lsw (want_t (dj := 68) (by rfl) (by kernel_rfl) rfl) (y_move rfl rfl) rfl (by decide) ?_
        refine lsw (want_t (dj := 68) (by rfl) (by kernel_rfl) rfl) (y_move rfl rfl) rfl (by decide) ?_
        refine lsw (want_t (dj := 68) (by rfl) (by kernel_rfl) rfl) (y_call (sibling_any x w _ rg) (by kernel_rfl) rfl rfl) rfl (by decide) ?_
        refine lsw (want_t (dj := 68) (by rfl) (by kernel_rfl) rfl) (y_move rfl rfl) rfl (by decide) ?_
        refine lsw (want_t (dj := 68) (by rfl) (by kernel_rfl) rfl) (y_move rfl rfl) rfl (by decide) ?_
        refine lsw (want_t (dj := 68) (by rfl) (by kernel_rfl) rfl) (y_call (sibling_any x ((2 * w) + 1) _ rg) (by kernel_rfl) rfl rfl) rfl (by decide) ?_
        have f14 : (sibI x w) = (sibI x ((2 * w) + 1)) := fin2 (p := fun x w => isW ((2 * w) + 1) → ¬ (x = (rootI w)) → (sibI x w) = (sibI x ((2 * w) + 1))) (by kernel_rfl) hn c4 c8
        refine lsw (want_t (dj := 68) (by rfl) (by kernel_rfl) rfl) (yb (decide_eq_true f14) (yi_eql rfl rfl rfl)) rfl (by decide) ?_
        refine lsw (want_none (by rfl)) (y_pick true rfl rfl rfl) rfl (by decide) ?_
        refine lsw (want_none (by rfl)) (y_assign rfl rfl) rfl (by decide) ?_
        refine lg_nil ?_
        refine nx (E' := [(4, _)]) (fk rfl fn) ?_
        refine cg_ret ?_
        exact eg_ret_tmp rfl rfl ⟨rfl, rfl⟩
    · have f15 : ¬ (isW ((2 * w) + 1)) := fin2 (p := fun x w => ¬ (isW ((2 * w) + 1)) → ¬ (isW ((2 * w) + 1))) (by kernel_rfl) hn c4
      refine lsw (want_t (dj := 15) (by rfl) (by kernel_rfl) rfl) (yb (decide_eq_false f15) (y_call (whole_any ((2 * w) + 1) _ rg) (by kernel_rfl) rfl rfl)) rfl (by decide) ?_
      refine lsw (want_t (dj := 15) (by rfl) (by kernel_rfl) rfl) (y_bnot rfl rfl) rfl (by decide) ?_
      refine lsw (want_none (by rfl)) (y_pick false rfl rfl rfl) rfl (by decide) ?_
      refine lg_nil ?_
      refine nx (E' := [(0, _), (1, _), (4, _), (5, _), (6, _), (19, _)]) (fk rfl (fk rfl (fk rfl (fk rfl (fk rfl (fk rfl fn)))))) ?_
      refine cg_ct rfl ?_
      refine cg_seq ?_
      refine cg_region ?_
      refine lsw (want_none (by rfl)) (y_move rfl rfl) rfl (by decide) ?_
      refine lsw (want_none (by rfl)) (y_assign rfl rfl) rfl (by decide) ?_
      refine lg_nil ?_
      refine nx (E' := [(0, _), (1, _), (5, _), (6, _), (4, _)]) (fk rfl (fk rfl (fk rfl (fk rfl (fk rfl fn))))) ?_
      refine cg_ret ?_
      refine eg_seq_ret ?_
      exact eg_ret_tmp rfl rfl ⟨rfl, rfl⟩
  · refine calls_cg (n := 77) Tryd.func6 rfl Tryd.ntmps6 (by simp) ?_
    show CG _ _ _ [(0, nv x), (1, nv w)] _ _
    refine cg_seq ?_
    refine cg_region ?_
    refine lsw (want_none (by rfl)) (y_assign rfl rfl) rfl (by decide) ?_
    refine lg_nil ?_
    refine nx (E' := [(0, _), (1, _), (4, _)]) (fk rfl (fk rfl (fk rfl fn))) ?_
    refine cg_seq ?_
    refine cg_region ?_
    refine lsw (want_none (by rfl)) (y_call (awake_any _ rg) (by kernel_rfl) rfl rfl) rfl (by decide) ?_
    refine lsw (want_none (by rfl)) (y_assign rfl rfl) rfl (by decide) ?_
    refine lg_nil ?_
    refine nx (E' := [(0, _), (1, _), (4, _), (5, _)]) (fk rfl (fk rfl (fk rfl (fk rfl fn)))) ?_
    refine cg_seq ?_
    refine cg_region ?_
    refine lsw (want_none (by rfl)) (y_move rfl rfl) rfl (by decide) ?_
    refine lsw (want_none (by rfl)) (yi_mulw rfl rfl rfl) rfl (by decide) ?_
    refine lsw (want_none (by rfl)) (yi_addw rfl rfl rfl) rfl (by decide) ?_
    refine lsw (want_none (by rfl)) (y_assign rfl rfl) rfl (by decide) ?_
    refine lg_nil ?_
    refine nx (E' := [(0, _), (1, _), (4, _), (5, _), (6, _)]) (fk rfl (fk rfl (fk rfl (fk rfl (fk rfl fn))))) ?_
    refine cg_seq ?_
    refine cg_seq ?_
    refine cg_region ?_
    refine lsw (want_none (by rfl)) (y_move rfl rfl) rfl (by decide) ?_
    refine lsw (want_none (by rfl)) (y_move rfl rfl) rfl (by decide) ?_
    refine lsw (want_none (by rfl)) (yb (decide_eq_false hn) (y_call (is_any x w _ rg) (by kernel_rfl) rfl rfl)) rfl (by decide) ?_
    refine lsw (want_none (by rfl)) (y_bnot rfl rfl) rfl (by decide) ?_
    refine lsw (want_none (by rfl)) (y_move rfl rfl) rfl (by decide) ?_
    refine lsk (want_f (dj := 15) (by rfl) (by kernel_rfl) rfl) rfl (by decide) ?_
    refine lsk (want_f (dj := 15) (by rfl) (by kernel_rfl) rfl) rfl (by decide) ?_
    refine lsk (want_f (dj := 15) (by rfl) (by kernel_rfl) rfl) rfl (by decide) ?_
    refine lsw (want_none (by rfl)) (y_pick true rfl rfl rfl) rfl (by decide) ?_
    refine lg_nil ?_
    refine nx (E' := [(0, _), (1, _), (4, _), (5, _), (6, _), (19, _)]) (fk rfl (fk rfl (fk rfl (fk rfl (fk rfl (fk rfl fn)))))) ?_
    refine cg_ct rfl ?_
    refine cg_seq ?_
    refine cg_region ?_
    refine lsw (want_none (by rfl)) (y_move rfl rfl) rfl (by decide) ?_
    refine lsw (want_none (by rfl)) (y_assign rfl rfl) rfl (by decide) ?_
    refine lg_nil ?_
    refine nx (E' := [(0, _), (1, _), (5, _), (6, _), (4, _)]) (fk rfl (fk rfl (fk rfl (fk rfl (fk rfl fn))))) ?_
    refine cg_ret ?_
    refine eg_seq_ret ?_
    exact eg_ret_tmp rfl rfl ⟨rfl, rfl⟩
theorem ixsame_any (x w : Int) (W : World) (rg : Tb W) : Calls Tryd.prog 8 #[nv x, nv w] W fun e w' => e = .returned (.bool true) ∧ w' = W := by
  by_cases hn : isN x w
  · refine calls_cg (n := 111) Tryd.func8 rfl Tryd.ntmps8 (by simp) ?_
    show CG _ _ _ [(0, nv x), (1, nv w)] _ _
    refine cg_seq ?_
    refine cg_region ?_
    refine lsw (want_none (by rfl)) (y_assign rfl rfl) rfl (by decide) ?_
    refine lg_nil ?_
    refine nx (E' := [(0, _), (1, _), (4, _)]) (fk rfl (fk rfl (fk rfl fn))) ?_
    refine cg_seq ?_
    refine cg_region ?_
    refine lsw (want_none (by rfl)) (y_call (awake_any _ rg) (by kernel_rfl) rfl rfl) rfl (by decide) ?_
    refine lsw (want_none (by rfl)) (y_assign rfl rfl) rfl (by decide) ?_
    refine lg_nil ?_
    refine nx (E' := [(0, _), (1, _), (4, _), (5, _)]) (fk rfl (fk rfl (fk rfl (fk rfl fn)))) ?_
    refine cg_seq ?_
    refine cg_region ?_
    refine lsw (want_none (by rfl)) (y_move rfl rfl) rfl (by decide) ?_
    have f1 : -9223372036854775808 ≤ (w - 1) ∧ (w - 1) < 9223372036854775808 := fin2 (p := fun x w => -9223372036854775808 ≤ (w - 1) ∧ (w - 1) < 9223372036854775808) (by kernel_rfl) hn
    refine lsw (want_none (by rfl)) (yi_sub rfl rfl rfl f1.1 f1.2) rfl (by decide) ?_
    have f2 : 0 ≤ (w - 1) := fin2 (p := fun x w => 0 ≤ (w - 1)) (by kernel_rfl) hn
    have f3 : (w - 1) < 9223372036854775808 := fin2 (p := fun x w => (w - 1) < 9223372036854775808) (by kernel_rfl) hn
    refine lsw (want_none (by rfl)) (yi_quo rfl rfl rfl f2 (by decide) f3) rfl (by decide) ?_
    refine lsw (want_none (by rfl)) (y_assign rfl rfl) rfl (by decide) ?_
    refine lg_nil ?_
    refine nx (E' := [(0, _), (1, _), (4, _), (5, _), (6, _)]) (fk rfl (fk rfl (fk rfl (fk rfl (fk rfl fn))))) ?_
    refine cg_seq ?_
    refine cg_seq ?_
    refine cg_region ?_
    refine lsw (want_none (by rfl)) (y_move rfl rfl) rfl (by decide) ?_
    refine lsw (want_none (by rfl)) (y_move rfl rfl) rfl (by decide) ?_
    have f4 : isN x w := fin2 (p := fun x w => isN x w) (by kernel_rfl) hn
    refine lsw (want_none (by rfl)) (yb (decide_eq_true f4) (y_call (is_any x w _ rg) (by kernel_rfl) rfl rfl)) rfl (by decide) ?_
    refine lsw (want_none (by rfl)) (y_bnot rfl rfl) rfl (by decide) ?_
    refine lsw (want_none (by rfl)) (y_move rfl rfl) rfl (by decide) ?_
    refine lsw (want_t (dj := 16) (by rfl) (by kernel_rfl) rfl) (y_move rfl rfl) rfl (by decide) ?_
    refine lsw (want_t (dj := 16) (by rfl) (by kernel_rfl) rfl) (y_move rfl rfl) rfl (by decide) ?_
    by_cases c5 : ((w - 1) / 2) ≤ x
    · have f6 : ((w - 1) / 2) ≤ x := fin2 (p := fun x w => ((w - 1) / 2) ≤ x → ((w - 1) / 2) ≤ x) (by kernel_rfl) hn c5
      refine lsw (want_t (dj := 16) (by rfl) (by kernel_rfl) rfl) (yb (decide_eq_true f6) (yi_geq rfl rfl rfl)) rfl (by decide) ?_
      refine lsw (want_none (by rfl)) (y_pick false rfl rfl rfl) rfl (by decide) ?_
      refine lsw (want_none (by rfl)) (y_move rfl rfl) rfl (by decide) ?_
      refine lsk (want_f (dj := 21) (by rfl) (by kernel_rfl) rfl) rfl (by decide) ?_
      refine lsk (want_f (dj := 21) (by rfl) (by kernel_rfl) rfl) rfl (by decide) ?_
      refine lsw (want_none (by rfl)) (y_pick true rfl rfl rfl) rfl (by decide) ?_
      refine lg_nil ?_
      refine nx (E' := [(0, _), (1, _), (4, _), (5, _), (6, _), (24, _)]) (fk rfl (fk rfl (fk rfl (fk rfl (fk rfl (fk rfl fn)))))) ?_
      refine cg_ct rfl ?_
      refine cg_seq ?_
      refine cg_region ?_
      refine lsw (want_none (by rfl)) (y_move rfl rfl) rfl (by decide) ?_
      refine lsw (want_none (by rfl)) (y_assign rfl rfl) rfl (by decide) ?_
      refine lg_nil ?_
      refine nx (E' := [(0, _), (1, _), (5, _), (6, _), (4, _)]) (fk rfl (fk rfl (fk rfl (fk rfl (fk rfl fn))))) ?_
      refine cg_ret ?_
      refine eg_seq_ret ?_
      exact eg_ret_tmp rfl rfl ⟨rfl, rfl⟩
    · have f7 : ¬ (((w - 1) / 2) ≤ x) := fin2 (p := fun x w => ¬ (((w - 1) / 2) ≤ x) → ¬ (((w - 1) / 2) ≤ x)) (by kernel_rfl) hn c5
      refine lsw (want_t (dj := 16) (by rfl) (by kernel_rfl) rfl) (yb (decide_eq_false f7) (yi_geq rfl rfl rfl)) rfl (by decide) ?_
      refine lsw (want_none (by rfl)) (y_pick false rfl rfl rfl) rfl (by decide) ?_
      refine lsw (want_none (by rfl)) (y_move rfl rfl) rfl (by decide) ?_
      refine lsw (want_t (dj := 21) (by rfl) (by kernel_rfl) rfl) (y_move rfl rfl) rfl (by decide) ?_
      have f8 : ¬ (w < 3) := fin2 (p := fun x w => ¬ (((w - 1) / 2) ≤ x) → ¬ (w < 3)) (by kernel_rfl) hn c5
      refine lsw (want_t (dj := 21) (by rfl) (by kernel_rfl) rfl) (yb (decide_eq_false f8) (yi_lss rfl rfl rfl)) rfl (by decide) ?_
      refine lsw (want_none (by rfl)) (y_pick false rfl rfl rfl) rfl (by decide) ?_
      refine lg_nil ?_
      refine nx (E' := [(0, _), (1, _), (4, _), (5, _), (6, _), (24, _)]) (fk rfl (fk rfl (fk rfl (fk rfl (fk rfl (fk rfl fn)))))) ?_
      refine cg_cf rfl ?_
      refine cg_skip ?_
      refine nx (E' := [(0, _), (1, _), (4, _), (5, _), (6, _)]) (fk rfl (fk rfl (fk rfl (fk rfl (fk rfl fn))))) ?_
      refine cg_seq ?_
      refine cg_region ?_
      refine lsw (want_none (by rfl)) (y_move rfl rfl) rfl (by decide) ?_
      refine lsw (want_none (by rfl)) (y_move rfl rfl) rfl (by decide) ?_
      have f9 : -9223372036854775808 ≤ (x + ((w - 1) / 2)) ∧ (x + ((w - 1) / 2)) < 9223372036854775808 := fin2 (p := fun x w => ¬ (((w - 1) / 2) ≤ x) → -9223372036854775808 ≤ (x + ((w - 1) / 2)) ∧ (x + ((w - 1) / 2)) < 9223372036854775808) (by kernel_rfl) hn c5
      refine lsw (want_none (by rfl)) (yi_add rfl rfl rfl f9.1 f9.2) rfl (by decide) ?_
      have f10 : -9223372036854775808 ≤ ((x + ((w - 1) / 2)) + 1) ∧ ((x + ((w - 1) / 2)) + 1) < 9223372036854775808 := fin2 (p := fun x w => ¬ (((w - 1) / 2) ≤ x) → -9223372036854775808 ≤ ((x + ((w - 1) / 2)) + 1) ∧ ((x + ((w - 1) / 2)) + 1) < 9223372036854775808) (by kernel_rfl) hn c5
      refine lsw (want_none (by rfl)) (yi_add rfl rfl rfl f10.1 f10.2) rfl (by decide) ?_
      refine lsw (want_none (by rfl)) (y_assign rfl rfl) rfl (by decide) ?_
      refine lg_nil ?_
      refine nx (E' := [(0, _), (1, _), (4, _), (5, _), (6, _), (7, _)]) (fk rfl (fk rfl (fk rfl (fk rfl (fk rfl (fk rfl fn)))))) ?_
      refine cg_seq ?_
      refine cg_seq ?_
      refine cg_region ?_
      refine lsw (want_none (by rfl)) (y_move rfl rfl) rfl (by decide) ?_
      refine lsw (want_none (by rfl)) (y_move rfl rfl) rfl (by decide) ?_
      refine lsw (want_none (by rfl)) (y_call (left_any x w _ rg) (by kernel_rfl) rfl rfl) rfl (by decide) ?_
      by_cases c11 : 0 ≤ (leftI x w)
      · have f12 : 0 ≤ (leftI x w) := fin2 (p := fun x w => ¬ (((w - 1) / 2) ≤ x) → 0 ≤ (leftI x w) → 0 ≤ (leftI x w)) (by kernel_rfl) hn c5 c11
        refine lsw (want_none (by rfl)) (yb (decide_eq_true f12) (yi_geq rfl rfl rfl)) rfl (by decide) ?_
        refine lsw (want_none (by rfl)) (y_move rfl rfl) rfl (by decide) ?_
        refine lsw (want_t (dj := 34) (by rfl) (by kernel_rfl) rfl) (y_move rfl rfl) rfl (by decide) ?_
        refine lsw (want_t (dj := 34) (by rfl) (by kernel_rfl) rfl) (y_move rfl rfl) rfl (by decide) ?_
        refine lsw (want_t (dj := 34) (by rfl) (by kernel_rfl) rfl) (y_call (left_any ((x + ((w - 1) / 2)) + 1) w _ rg) (by kernel_rfl) rfl rfl) rfl (by decide) ?_
        refine lsw (want_t (dj := 34) (by rfl) (by kernel_rfl) rfl) (y_move rfl rfl) rfl (by decide) ?_
        refine lsw (want_t (dj := 34) (by rfl) (by kernel_rfl) rfl) (y_move rfl rfl) rfl (by decide) ?_
        refine lsw (want_t (dj := 34) (by rfl) (by kernel_rfl) rfl) (y_call (left_any x w _ rg) (by kernel_rfl) rfl rfl) rfl (by decide) ?_
        refine lsw (want_t (dj := 34) (by rfl) (by kernel_rfl) rfl) (y_move rfl rfl) rfl (by decide) ?_
        have f13 : -9223372036854775808 ≤ ((leftI x w) + ((w - 1) / 2)) ∧ ((leftI x w) + ((w - 1) / 2)) < 9223372036854775808 := fin2 (p := fun x w => ¬ (((w - 1) / 2) ≤ x) → 0 ≤ (leftI x w) → -9223372036854775808 ≤ ((leftI x w) + ((w - 1) / 2)) ∧ ((leftI x w) + ((w - 1) / 2)) < 9223372036854775808) (by kernel_rfl) hn c5 c11
        refine lsw (want_t (dj := 34) (by rfl) (by kernel_rfl) rfl) (yi_add rfl rfl rfl f13.1 f13.2) rfl (by decide) ?_
        have f14 : -9223372036854775808 ≤ (((leftI x w) + ((w - 1) / 2)) + 1) ∧ (((leftI x w) + ((w - 1) / 2)) + 1) < 9223372036854775808 := fin2 (p := fun x w => ¬ (((w - 1) / 2) ≤ x) → 0 ≤ (leftI x w) → -9223372036854775808 ≤ (((leftI x w) + ((w - 1) / 2)) + 1) ∧ (((leftI x w) + ((w - 1) / 2)) + 1) < 9223372036854775808) (by kernel_rfl) hn c5 c11
        refine lsw (want_t (dj := 34) (by rfl) (by kernel_rfl) rfl) (yi_add rfl rfl rfl f14.1 f14.2) rfl (by decide) ?_
        have f15 : (leftI ((x + ((w - 1) / 2)) + 1) w) = (((leftI x w) + ((w - 1) / 2)) + 1) := fin2 (p := fun x w => ¬ (((w - 1) / 2) ≤ x) → 0 ≤ (leftI x w) → (leftI ((x + ((w - 1) / 2)) + 1) w) = (((leftI x w) + ((w - 1) / 2)) + 1)) (by kernel_rfl) hn c5 c11
        refine lsw (want_t (dj := 34) (by rfl) (by kernel_rfl) rfl) (yb (nd_f f15) (yi_neq rfl rfl rfl)) rfl (by decide) ?_
        refine lsw (want_t (dj := 34) (by rfl) (by kernel_rfl) rfl) (y_move rfl rfl) rfl (by decide) ?_
        refine lsw (want_t (dj := 45) (by rfl) (by kernel_rfl) rfl) (y_move rfl rfl) rfl (by decide) ?_
        refine lsw (want_t (dj := 45) (by rfl) (by kernel_rfl) rfl) (y_move rfl rfl) rfl (by decide) ?_
        refine lsw (want_t (dj := 45) (by rfl) (by kernel_rfl) rfl) (y_call (right_any ((x + ((w - 1) / 2)) + 1) w _ rg) (by kernel_rfl) rfl rfl) rfl (by decide) ?_
        refine lsw (want_t (dj := 45) (by rfl) (by kernel_rfl) rfl) (y_move rfl rfl) rfl (by decide) ?_
        refine lsw (want_t (dj := 45) (by rfl) (by kernel_rfl) rfl) (y_move rfl rfl) rfl (by decide) ?_
        refine lsw (want_t (dj := 45) (by rfl) (by kernel_rfl) rfl) (y_call (right_any x w _ rg) (by kernel_rfl) rfl rfl) rfl (by decide) ?_
        refine lsw (want_t (dj := 45) (by rfl) (by kernel_rfl) rfl) (y_move rfl rfl) rfl (by decide) ?_
        have f16 : -9223372036854775808 ≤ ((rightI x w) + ((w - 1) / 2)) ∧ ((rightI x w) + ((w - 1) / 2)) < 9223372036854775808 := fin2 (p := fun x w => ¬ (((w - 1) / 2) ≤ x) → 0 ≤ (leftI x w) → -9223372036854775808 ≤ ((rightI x w) + ((w - 1) / 2)) ∧ ((rightI x w) + ((w - 1) / 2)) < 9223372036854775808) (by kernel_rfl) hn c5 c11
        refine lsw (want_t (dj := 45) (by rfl) (by kernel_rfl) rfl) (yi_add rfl rfl rfl f16.1 f16.2) rfl (by decide) ?_
        have f17 : -9223372036854775808 ≤ (((rightI x w) + ((w - 1) / 2)) + 1) ∧ (((rightI x w) + ((w - 1) / 2)) + 1) < 9223372036854775808 := fin2 (p := fun x w => ¬ (((w - 1) / 2) ≤ x) → 0 ≤ (leftI x w) → -9223372036854775808 ≤ (((rightI x w) + ((w - 1) / 2)) + 1) ∧ (((rightI x w) + ((w - 1) / 2)) + 1) < 9223372036854775808) (by kernel_rfl) hn c5 c11
        refine lsw (want_t (dj := 45) (by rfl) (by kernel_rfl) rfl) (yi_add rfl rfl rfl f17.1 f17.2) rfl (by decide) ?_
        have f18 : (rightI ((x + ((w - 1) / 2)) + 1) w) = (((rightI x w) + ((w - 1) / 2)) + 1) := fin2 (p := fun x w => ¬ (((w - 1) / 2) ≤ x) → 0 ≤ (leftI x w) → (rightI ((x + ((w - 1) / 2)) + 1) w) = (((rightI x w) + ((w - 1) / 2)) + 1)) (by kernel_rfl) hn c5 c11
        refine lsw (want_t (dj := 45) (by rfl) (by kernel_rfl) rfl) (yb (nd_f f18) (yi_neq rfl rfl rfl)) rfl (by decide) ?_
        refine lsw (want_t (dj := 34) (by rfl) (by kernel_rfl) rfl) (y_pick false rfl rfl rfl) rfl (by decide) ?_
        refine lsw (want_none (by rfl)) (y_pick true rfl rfl rfl) rfl (by decide) ?_
        refine lg_nil ?_
        refine nx (E' := [(0, _), (1, _), (4, _), (5, _), (6, _), (7, _), (57, _)]) (fk rfl (fk rfl (fk rfl (fk rfl (fk rfl (fk rfl (fk rfl fn))))))) ?_
        refine cg_cf rfl ?_
        refine cg_skip ?_
        refine nx (E' := [(0, _), (1, _), (4, _), (5, _), (6, _), (7, _)]) (fk rfl (fk rfl (fk rfl (fk rfl (fk rfl (fk rfl fn)))))) ?_
        refine cg_seq ?_
        refine cg_seq ?_
        refine cg_region ?_
        refine lsw (want_none (by rfl)) (y_move rfl rfl) rfl (by decide) ?_
        refine lsw (want_none (by rfl)) (y_move rfl rfl) rfl (by decide) ?_
        refine lsw (want_none (by rfl)) (y_call (root_any ((w - 1) / 2) _ rg) (by kernel_rfl) rfl rfl) rfl (by decide) ?_
        by_cases c19 : x = (rootI ((w - 1) / 2))
        · have f20 : x = (rootI ((w - 1) / 2)) := fin2 (p := fun x w => ¬ (((w - 1) / 2) ≤ x) → 0 ≤ (leftI x w) → x = (rootI ((w - 1) / 2)) → x = (rootI ((w - 1) / 2))) (by kernel_rfl) hn c5 c11 c19
          refine lsw (want_none (by rfl)) (yb (decide_eq_true f20) (yi_eql rfl rfl rfl)) rfl (by decide) ?_
          refine lg_nil ?_
          refine nx (E' := [(0, _), (1, _), (4, _), (5, _), (6, _), (7, _), (61, _)]) (fk rfl (fk rfl (fk rfl (fk rfl (fk rfl (fk rfl (fk rfl fn))))))) ?_
          refine cg_ct rfl ?_
          refine cg_seq ?_
          refine cg_region ?_
          refine lsw (want_none (by rfl)) (y_move rfl rfl) rfl (by decide) ?_
          refine lsw (want_none (by rfl)) (y_move rfl rfl) rfl (by decide) ?_
          refine lsw (want_t (dj := 63) (by rfl) (by kernel_rfl) rfl) (y_move rfl rfl) rfl (by decide) ?_
          refine lsw (want_t (dj := 63) (by rfl) (by kernel_rfl) rfl) (y_move rfl rfl) rfl (by decide) ?_
          refine lsw (want_t (dj := 63) (by rfl) (by kernel_rfl) rfl) (y_call (parent_any x w _ rg) (by kernel_rfl) rfl rfl) rfl (by decide) ?_
          refine lsw (want_t (dj := 63) (by rfl) (by kernel_rfl) rfl) (y_move rfl rfl) rfl (by decide) ?_
          refine lsw (want_t (dj := 63) (by rfl) (by kernel_rfl) rfl) (y_call (root_any w _ rg) (by kernel_rfl) rfl rfl) rfl (by decide) ?_
          have f21 : (parI x w) = (rootI w) := fin2 (p := fun x w => ¬ (((w - 1) / 2) ≤ x) → 0 ≤ (leftI x w) → x = (rootI ((w - 1) / 2)) → (parI x w) = (rootI w)) (by kernel_rfl) hn c5 c11 c19
          refine lsw (want_t (dj := 63) (by rfl) (by kernel_rfl) rfl) (yb (decide_eq_true f21) (yi_eql rfl rfl rfl)) rfl (by decide) ?_
          refine lsw (want_none (by rfl)) (y_pick true rfl rfl rfl) rfl (by decide) ?_
          refine lsw (want_none (by rfl)) (y_move rfl rfl) rfl (by decide) ?_
          refine lsw (want_t (dj := 71) (by rfl) (by kernel_rfl) rfl) (y_move rfl rfl) rfl (by decide) ?_
          refine lsw (want_t (dj := 71) (by rfl) (by kernel_rfl) rfl) (y_move rfl rfl) rfl (by decide) ?_
          refine lsw (want_t (dj := 71) (by rfl) (by kernel_rfl) rfl) (y_call (parent_any ((x + ((w - 1) / 2)) + 1) w _ rg) (by kernel_rfl) rfl rfl) rfl (by decide) ?_
          refine lsw (want_t (dj := 71) (by rfl) (by kernel_rfl) rfl) (y_move rfl rfl) rfl (by decide) ?_
          refine lsw (want_t (dj := 71) (by rfl) (by kernel_rfl) rfl) (y_call (root_any w _ rg) (by kernel_rfl) rfl rfl) rfl (by decide) ?_
          have f22 : (parI ((x + ((w - 1) / 2)) + 1) w) = (rootI w) := fin2 (p := fun x w => ¬ (((w - 1) / 2) ≤ x) → 0 ≤ (leftI x w) → x = (rootI ((w - 1) / 2)) → (parI ((x + ((w - 1) / 2)) + 1) w) = (rootI w)) (by kernel_rfl) hn c5 c11 c19
          refine lsw (want_t (dj := 71) (by rfl) (by kernel_rfl) rfl) (yb (decide_eq_true f22) (yi_eql rfl rfl rfl)) rfl (by decide) ?_
          refine lsw (want_none (by rfl)) (y_pick true rfl rfl rfl) rfl (by decide) ?_
          refine lsw (want_none (by rfl)) (y_move rfl rfl) rfl (by decide) ?_
          refine lsw (want_t (dj := 79) (by rfl) (by kernel_rfl) rfl) (y_move rfl rfl) rfl (by decide) ?_
          refine lsw (want_t (dj := 79) (by rfl) (by kernel_rfl) rfl) (y_move rfl rfl) rfl (by decide) ?_
          refine lsw (want_t (dj := 79) (by rfl) (by kernel_rfl) rfl) (y_call (sibling_any x w _ rg) (by kernel_rfl) rfl rfl) rfl (by decide) ?_
          refine lsw (want_t (dj := 79) (by rfl) (by kernel_rfl) rfl) (y_move rfl rfl) rfl (by decide) ?_
          have f23 : (sibI x w) = ((x + ((w - 1) / 2)) + 1) := fin2 (p := fun x w => ¬ (((w - 1) / 2) ≤ x) → 0 ≤ (leftI x w) → x = (rootI ((w - 1) / 2)) → (sibI x w) = ((x + ((w - 1) / 2)) + 1)) (by kernel_rfl) hn c5 c11 c19
          refine lsw (want_t (dj := 79) (by rfl) (by kernel_rfl) rfl) (yb (decide_eq_true f23) (yi_eql rfl rfl rfl)) rfl (by decide) ?_
          refine lsw (want_none (by rfl)) (y_pick true rfl rfl rfl) rfl (by decide) ?_
          refine lsw (want_none (by rfl)) (y_assign rfl rfl) rfl (by decide) ?_
          refine lg_nil ?_
          refine nx (E' := [(0, _), (1, _), (5, _), (6, _), (7, _), (4, _)]) (fk rfl (fk rfl (fk rfl (fk rfl (fk rfl (fk rfl fn)))))) ?_
          refine cg_ret ?_
          refine eg_seq_ret ?_
          exact eg_ret_tmp rfl rfl ⟨rfl, rfl⟩
        · have f24 : ¬ (x = (rootI ((w - 1) / 2))) := fin2 (p := fun x w => ¬ (((w - 1) / 2) ≤ x) → 0 ≤ (leftI x w) → ¬ (x = (rootI ((w - 1) / 2))) → ¬ (x = (rootI ((w - 1) / 2)))) (by kernel_rfl) hn c5 c11 c19
          refine lsw (want_none (by rfl)) (yb (decide_eq_false f24) (yi_eql rfl rfl rfl)) rfl (by decide) ?_
          refine lg_nil ?_
          refine nx (E' := [(0, _), (1, _), (4, _), (5, _), (6, _), (7, _), (61, _)]) (fk rfl (fk rfl (fk rfl (fk rfl (fk rfl (fk rfl (fk rfl fn))))))) ?_
          refine cg_cf rfl ?_
          refine cg_skip ?_
          refine nx (E' := [(0, _), (1, _), (4, _), (5, _), (6, _), (7, _)]) (fk rfl (fk rfl (fk rfl (fk rfl (fk rfl (fk rfl fn)))))) ?_
          refine cg_seq ?_
          refine cg_region ?_
          refine lsw (want_none (by rfl)) (y_move rfl rfl) rfl (by decide) ?_
          refine lsw (want_none (by rfl)) (y_move rfl rfl) rfl (by decide) ?_
          refine lsw (want_t (dj := 87) (by rfl) (by kernel_rfl) rfl) (y_move rfl rfl) rfl (by decide) ?_
          refine lsw (want_t (dj := 87) (by rfl) (by kernel_rfl) rfl) (y_move rfl rfl) rfl (by decide) ?_
          refine lsw (want_t (dj := 87) (by rfl) (by kernel_rfl) rfl) (y_call (parent_any ((x + ((w - 1) / 2)) + 1) w _ rg) (by kernel_rfl) rfl rfl) rfl (by decide) ?_
          refine lsw (want_t (dj := 87) (by rfl) (by kernel_rfl) rfl) (y_move rfl rfl) rfl (by decide) ?_
          refine lsw (want_t (dj := 87) (by rfl) (by kernel_rfl) rfl) (y_move rfl rfl) rfl (by decide) ?_
          refine lsw (want_t (dj := 87) (by rfl) (by kernel_rfl) rfl) (y_call (parent_any x w _ rg) (by kernel_rfl) rfl rfl) rfl (by decide) ?_
          refine lsw (want_t (dj := 87) (by rfl) (by kernel_rfl) rfl) (y_move rfl rfl) rfl (by decide) ?_
          have f25 : -9223372036854775808 ≤ ((parI x w) + ((w - 1) / 2)) ∧ ((parI x w) + ((w - 1) / 2)) < 9223372036854775808 := fin2 (p := fun x w => ¬ (((w - 1) / 2) ≤ x) → 0 ≤ (leftI x w) → ¬ (x = (rootI ((w - 1) / 2))) → -9223372036854775808 ≤ ((parI x w) + ((w - 1) / 2)) ∧ ((parI x w) + ((w - 1) / 2)) < 9223372036854775808) (by kernel_rfl) hn c5 c11 c19
          refine lsw (want_t (dj := 87) (by rfl) (by kernel_rfl) rfl) (yi_add rfl rfl rfl f25.1 f25.2) rfl (by decide) ?_
          have f26 : -9223372036854775808 ≤ (((parI x w) + ((w - 1) / 2)) + 1) ∧ (((parI x w) + ((w - 1) / 2)) + 1) < 9223372036854775808 := fin2 (p := fun x w => ¬ (((w - 1) / 2) ≤ x) → 0 ≤ (leftI x w) → ¬ (x = (rootI ((w - 1) / 2))) → -9223372036854775808 ≤ (((parI x w) + ((w - 1) / 2)) + 1) ∧ (((parI x w) + ((w - 1) / 2)) + 1) < 9223372036854775808) (by kernel_rfl) hn c5 c11 c19
          refine lsw (want_t (dj := 87) (by rfl) (by kernel_rfl) rfl) (yi_add rfl rfl rfl f26.1 f26.2) rfl (by decide) ?_
          have f27 : (parI ((x + ((w - 1) / 2)) + 1) w) = (((parI x w) + ((w - 1) / 2)) + 1) := fin2 (p := fun x w => ¬ (((w - 1) / 2) ≤ x) → 0 ≤ (leftI x w) → ¬ (x = (rootI ((w - 1) / 2))) → (parI ((x + ((w - 1) / 2)) + 1) w) = (((parI x w) + ((w - 1) / 2)) + 1)) (by kernel_rfl) hn c5 c11 c19
          refine lsw (want_t (dj := 87) (by rfl) (by kernel_rfl) rfl) (yb (decide_eq_true f27) (yi_eql rfl rfl rfl)) rfl (by decide) ?_
          refine lsw (want_none (by rfl)) (y_pick true rfl rfl rfl) rfl (by decide) ?_
          refine lsw (want_none (by rfl)) (y_move rfl rfl) rfl (by decide) ?_
          refine lsw (want_t (dj := 99) (by rfl) (by kernel_rfl) rfl) (y_move rfl rfl) rfl (by decide) ?_
          refine lsw (want_t (dj := 99) (by rfl) (by kernel_rfl) rfl) (y_move rfl rfl) rfl (by decide) ?_
          refine lsw (want_t (dj := 99) (by rfl) (by kernel_rfl) rfl) (y_call (sibling_any ((x + ((w - 1) / 2)) + 1) w _ rg) (by kernel_rfl) rfl rfl) rfl (by decide) ?_
          refine lsw (want_t (dj := 99) (by rfl) (by kernel_rfl) rfl) (y_move rfl rfl) rfl (by decide) ?_
          refine lsw (want_t (dj := 99) (by rfl) (by kernel_rfl) rfl) (y_move rfl rfl) rfl (by decide) ?_
          refine lsw (want_t (dj := 99) (by rfl) (by kernel_rfl) rfl) (y_call (sibling_any x w _ rg) (by kernel_rfl) rfl rfl) rfl (by decide) ?_
          refine lsw (want_t (dj := 99) (by rfl) (by kernel_rfl) rfl) (y_move rfl rfl) rfl (by decide) ?_
          have f28 : -9223372036854775808 ≤ ((sibI x w) + ((w - 1) / 2)) ∧ ((sibI x w) + ((w - 1) / 2)) < 9223372036854775808 := fin2 (p := fun x w => ¬ (((w - 1) / 2) ≤ x) → 0 ≤ (leftI x w) → ¬ (x = (rootI ((w - 1) / 2))) → -9223372036854775808 ≤ ((sibI x w) + ((w - 1) / 2)) ∧ ((sibI x w) + ((w - 1) / 2)) < 9223372036854775808) (by kernel_rfl) hn c5 c11 c19
          refine lsw (want_t (dj := 99) (by rfl) (by kernel_rfl) rfl) (yi_add rfl rfl rfl f28.1 f28.2) rfl (by decide) ?_
          have f29 : -9223372036854775808 ≤ (((sibI x w) + ((w - 1) / 2)) + 1) ∧ (((sibI x w) + ((w - 1) / 2)) + 1) < 9223372036854775808 := fin2 (p := fun x w => ¬ (((w - 1) / 2) ≤ x) → 0 ≤ (leftI x w) → ¬ (x = (rootI ((w - 1) / 2))) → -9223372036854775808 ≤ (((sibI x w) + ((w - 1) / 2)) + 1) ∧ (((sibI x w) + ((w - 1) / 2)) + 1) < 9223372036854775808) (by kernel_rfl) hn c5 c11 c19
          refine lsw (want_t (dj := 99) (by rfl) (by kernel_rfl) rfl) (yi_add rfl rfl rfl f29.1 f29.2) rfl (by decide) ?_
          have f30 : (sibI ((x + ((w - 1) / 2)) + 1) w) = (((sibI x w) + ((w - 1) / 2)) + 1) := fin2 (p := fun x w => ¬ (((w - 1) / 2) ≤ x) → 0 ≤ (leftI x w) → ¬ (x = (rootI ((w - 1) / 2))) → (sibI ((x + ((w - 1) / 2)) + 1) w) = (((sibI x w) + ((w - 1) / 2)) + 1)) (by kernel_rfl) hn c5 c11 c19
          refine lsw (want_t (dj := 99) (by rfl) (by kernel_rfl) rfl) (yb (decide_eq_true f30) (yi_eql rfl rfl rfl)) rfl (by decide) ?_
          refine lsw (want_none (by rfl)) (y_pick true rfl rfl rfl) rfl (by decide) ?_
          refine lsw (want_none (by rfl)) (y_assign rfl rfl) rfl (by decide) ?_
          refine lg_nil ?_
          refine nx (E' := [(4, _)]) (fk rfl fn) ?_
          refine cg_ret ?_
          exact eg_ret_tmp rfl rfl ⟨rfl, rfl⟩
      · have f31 : ¬ (0 ≤ (leftI x w)) := fin2 (p := fun x w => ¬ (((w - 1) / 2) ≤ x) → ¬ (0 ≤ (leftI x w)) → ¬ (0 ≤ (leftI x w))) (by kernel_rfl) hn c5 c11
        refine lsw (want_none (by rfl)) (yb (decide_eq_false f31) (yi_geq rfl rfl rfl)) rfl (by decide) ?_
        refine lsw (want_none (by rfl)) (y_move rfl rfl) rfl (by decide) ?_
        refine lsk (want_f (dj := 34) (by rfl) (by kernel_rfl) rfl) rfl (by decide) ?_
        refine lsk (want_f (dj := 34) (by rfl) (by kernel_rfl) rfl) rfl (by decide) ?_
        refine lsk (want_f (dj := 34) (by rfl) (by kernel_rfl) rfl) rfl (by decide) ?_
        refine lsk (want_f (dj := 34) (by rfl) (by kernel_rfl) rfl) rfl (by decide) ?_
        refine lsk (want_f (dj := 34) (by rfl) (by kernel_rfl) rfl) rfl (by decide) ?_
        refine lsk (want_f (dj := 34) (by rfl) (by kernel_rfl) rfl) rfl (by decide) ?_
        refine lsk (want_f (dj := 34) (by rfl) (by kernel_rfl) rfl) rfl (by decide) ?_
        refine lsk (want_f (dj := 34) (by rfl) (by kernel_rfl) rfl) rfl (by decide) ?_
        refine lsk (want_f (dj := 34) (by rfl) (by kernel_rfl) rfl) rfl (by decide) ?_
        refine lsk (want_f (dj := 34) (by rfl) (by kernel_rfl) rfl) rfl (by decide) ?_
        refine lsk (want_f (dj := 34) (by rfl) (by kernel_rfl) rfl) rfl (by decide) ?_
        refine lsk (want_u (dj := 45) (by rfl) (by kernel_rfl) rfl) rfl (by decide) ?_
        refine lsk (want_u (dj := 45) (by rfl) (by kernel_rfl) rfl) rfl (by decide) ?_
        refine lsk (want_u (dj := 45) (by rfl) (by kernel_rfl) rfl) rfl (by decide) ?_
        refine lsk (want_u (dj := 45) (by rfl) (by kernel_rfl) rfl) rfl (by decide) ?_
        refine lsk (want_u (dj := 45) (by rfl) (by kernel_rfl) rfl) rfl (by decide) ?_
        refine lsk (want_u (dj := 45) (by rfl) (by kernel_rfl) rfl) rfl (by decide) ?_
        refine lsk (want_u (dj := 45) (by rfl) (by kernel_rfl) rfl) rfl (by decide) ?_
        refine lsk (want_u (dj := 45) (by rfl) (by kernel_rfl) rfl) rfl (by decide) ?_
        refine lsk (want_u (dj := 45) (by rfl) (by kernel_rfl) rfl) rfl (by decide) ?_
        refine lsk (want_u (dj := 45) (by rfl) (by kernel_rfl) rfl) rfl (by decide) ?_
        refine lsk (want_f (dj := 34) (by rfl) (by kernel_rfl) rfl) rfl (by decide) ?_
        refine lsw (want_none (by rfl)) (y_pick false rfl rfl rfl) rfl (by decide) ?_
        refine lg_nil ?_
        refine nx (E' := [(0, _), (1, _), (4, _), (5, _), (6, _), (7, _), (57, _)]) (fk rfl (fk rfl (fk rfl (fk rfl (fk rfl (fk rfl (fk rfl fn))))))) ?_
        refine cg_cf rfl ?_
        refine cg_skip ?_
        refine nx (E' := [(0, _), (1, _), (4, _), (5, _), (6, _), (7, _)]) (fk rfl (fk rfl (fk rfl (fk rfl (fk rfl (fk rfl fn)))))) ?_
        refine cg_seq ?_
        refine cg_seq ?_
        refine cg_region ?_
        refine lsw (want_none (by rfl)) (y_move rfl rfl) rfl (by decide) ?_
        refine lsw (want_none (by rfl)) (y_move rfl rfl) rfl (by decide) ?_
        refine lsw (want_none (by rfl)) (y_call (root_any ((w - 1) / 2) _ rg) (by kernel_rfl) rfl rfl) rfl (by decide) ?_
        by_cases c32 : x = (rootI ((w - 1) / 2))
        · have f33 : x = (rootI ((w - 1) / 2)) := fin2 (p := fun x w => ¬ (((w - 1) / 2) ≤ x) → ¬ (0 ≤ (leftI x w)) → x = (rootI ((w - 1) / 2)) → x = (rootI ((w - 1) / 2))) (by kernel_rfl) hn c5 c11 c32
          refine lsw (want_none (by rfl)) (yb (decide_eq_true f33) (yi_eql rfl rfl rfl)) rfl (by decide) ?_
          refine lg_nil ?_
          refine nx (E' := [(0, _), (1, _), (4, _), (5, _), (6, _), (7, _), (61, _)]) (fk rfl (fk rfl (fk rfl (fk rfl (fk rfl (fk rfl (fk rfl fn))))))) ?_
          refine cg_ct rfl ?_
          refine cg_seq ?_
          refine cg_region ?_
          refine lsw (want_none (by rfl)) (y_move rfl rfl) rfl (by decide) ?_
          refine lsw (want_none (by rfl)) (y_move rfl rfl) rfl (by decide) ?_
          refine lsw (want_t (dj := 63) (by rfl) (by kernel_rfl) rfl) (y_move rfl rfl) rfl (by decide) ?_
          refine lsw (want_t (dj := 63) (by rfl) (by kernel_rfl) rfl) (y_move rfl rfl) rfl (by decide) ?_
          refine lsw (want_t (dj := 63) (by rfl) (by kernel_rfl) rfl) (y_call (parent_any x w _ rg) (by kernel_rfl) rfl rfl) rfl (by decide) ?_
          refine lsw (want_t (dj := 63) (by rfl) (by kernel_rfl) rfl) (y_move rfl rfl) rfl (by decide) ?_
          refine lsw (want_t (dj := 63) (by rfl) (by kernel_rfl) rfl) (y_call (root_any w _ rg) (by kernel_rfl) rfl rfl) rfl (by decide) ?_
          have f34 : (parI x w) = (rootI w) := fin2 (p := fun x w => ¬ (((w - 1) / 2) ≤ x) → ¬ (0 ≤ (leftI x w)) → x = (rootI ((w - 1) / 2)) → (parI x w) = (rootI w)) (by kernel_rfl) hn c5 c11 c32
          refine lsw (want_t (dj := 63) (by rfl) (by kernel_rfl) rfl) (yb (decide_eq_true f34) (yi_eql rfl rfl rfl)) rfl (by decide) ?_
          refine lsw (want_none (by rfl)) (y_pick true rfl rfl rfl) rfl (by decide) ?_
          refine lsw (want_none (by rfl)) (y_move rfl rfl) rfl (by decide) ?_
          refine lsw (want_t (dj := 71) (by rfl) (by kernel_rfl) rfl) (y_move rfl rfl) rfl (by decide) ?_
          refine lsw (want_t (dj := 71) (by rfl) (by kernel_rfl) rfl) (y_move rfl rfl) rfl (by decide) ?_
          refine lsw (want_t (dj := 71) (by rfl) (by kernel_rfl) rfl) (y_call (parent_any ((x + ((w - 1) / 2)) + 1) w _ rg) (by kernel_rfl) rfl rfl) rfl (by decide) ?_
          refine lsw (want_t (dj := 71) (by rfl) (by kernel_rfl) rfl) (y_move rfl rfl) rfl (by decide) ?_
          refine lsw (want_t (dj := 71) (by rfl) (by kernel_rfl) rfl) (y_call (root_any w _ rg) (by kernel_rfl) rfl rfl) rfl (by decide) ?_
          have f35 : (parI ((x + ((w - 1) / 2)) + 1) w) = (rootI w) := fin2 (p := fun x w => ¬ (((w - 1) / 2) ≤ x) → ¬ (0 ≤ (leftI x w)) → x = (rootI ((w - 1) / 2)) → (parI ((x + ((w - 1) / 2)) + 1) w) = (rootI w)) (by kernel_rfl) hn c5 c11 c32
          refine lsw (want_t (dj := 71) (by rfl) (by kernel_rfl) rfl) (yb (decide_eq_true f35) (yi_eql rfl rfl rfl)) rfl (by decide) ?_
          refine lsw (want_none (by rfl)) (y_pick true rfl rfl rfl) rfl (by decide) ?_
          refine lsw (want_none (by rfl)) (y_move rfl rfl) rfl (by decide) ?_
          refine lsw (want_t (dj := 79) (by rfl) (by kernel_rfl) rfl) (y_move rfl rfl) rfl (by decide) ?_
          refine lsw (want_t (dj := 79) (by rfl) (by kernel_rfl) rfl) (y_move rfl rfl) rfl (by decide) ?_
          refine lsw (want_t (dj := 79) (by rfl) (by kernel_rfl) rfl) (y_call (sibling_any x w _ rg) (by kernel_rfl) rfl rfl) rfl (by decide) ?_
          refine lsw (want_t (dj := 79) (by rfl) (by kernel_rfl) rfl) (y_move rfl rfl) rfl (by decide) ?_
          have f36 : (sibI x w) = ((x + ((w - 1) / 2)) + 1) := fin2 (p := fun x w => ¬ (((w - 1) / 2) ≤ x) → ¬ (0 ≤ (leftI x w)) → x = (rootI ((w - 1) / 2)) → (sibI x w) = ((x + ((w - 1) / 2)) + 1)) (by kernel_rfl) hn c5 c11 c32
          refine lsw (want_t (dj := 79) (by rfl) (by kernel_rfl) rfl) (yb (decide_eq_true f36) (yi_eql rfl rfl rfl)) rfl (by decide) ?_
          refine lsw (want_none (by rfl)) (y_pick true rfl rfl rfl) rfl (by decide) ?_
          refine lsw (want_none (by rfl)) (y_assign rfl rfl) rfl (by decide) ?_
          refine lg_nil ?_
          refine nx (E' := [(0, _), (1, _), (5, _), (6, _), (7, _), (4, _)]) (fk rfl (fk rfl (fk rfl (fk rfl (fk rfl (fk rfl fn)))))) ?_
          refine cg_ret ?_
          refine eg_seq_ret ?_
          exact eg_ret_tmp rfl rfl ⟨rfl, rfl⟩
        · have f37 : ¬ (x = (rootI ((w - 1) / 2))) := fin2 (p := fun x w => ¬ (((w - 1) / 2) ≤ x) → ¬ (0 ≤ (leftI x w)) → ¬ (x = (rootI ((w - 1) / 2))) → ¬ (x = (rootI ((w - 1) / 2)))) (by kernel_rfl) hn c5 c11 c32
          refine lsw (want_none (by rfl)) (yb (decide_eq_false f37) (yi_eql rfl rfl rfl)) rfl (by decide) ?_
          refine lg_nil ?_
          refine nx (E' := [(0, _), (1, _), (4, _), (5, _), (6, _), (7, _), (61, _)]) (fk rfl (fk rfl (fk rfl (fk rfl (fk rfl (fk rfl (fk rfl fn))))))) ?_
          refine cg_cf rfl ?_
          refine cg_skip ?_
          refine nx (E' := [(0, _), (1, _), (4, _), (5, _), (6, _), (7, _)]) (fk rfl (fk rfl (fk rfl (fk rfl (fk rfl (fk rfl fn)))))) ?_
          refine cg_seq ?_
          refine cg_region ?_
          refine lsw (want_none (by rfl)) (y_move rfl rfl) rfl (by decide) ?_
          refine lsw (want_none (by rfl)) (y_move rfl rfl) rfl (by decide) ?_
          refine lsw (want_t (dj := 87) (by rfl) (by kernel_rfl) rfl) (y_move rfl rfl) rfl (by decide) ?_
          refine lsw (want_t (dj := 87) (by rfl) (by kernel_rfl) rfl) (y_move rfl rfl) rfl (by decide) ?_
          refine lsw (want_t (dj := 87) (by rfl) (by kernel_rfl) rfl) (y_call (parent_any ((x + ((w - 1) / 2)) + 1) w _ rg) (by kernel_rfl) rfl rfl) rfl (by decide) ?_
          refine lsw (want_t (dj := 87) (by rfl) (by kernel_rfl) rfl) (y_move rfl rfl) rfl (by decide) ?_
          refine lsw (want_t (dj := 87) (by rfl) (by kernel_rfl) rfl) (y_move rfl rfl) rfl (by decide) ?_
          refine lsw (want_t (dj := 87) (by rfl) (by kernel_rfl) rfl) (y_call (parent_any x w _ rg) (by kernel_rfl) rfl rfl) rfl (by decide) ?_
          refine lsw (want_t (dj := 87) (by rfl) (by kernel_rfl) rfl) (y_move rfl rfl) rfl (by decide) ?_
          have f38 : -9223372036854775808 ≤ ((parI x w) + ((w - 1) / 2)) ∧ ((parI x w) + ((w - 1) / 2)) < 9223372036854775808 := fin2 (p := fun x w => ¬ (((w - 1) / 2) ≤ x) → ¬ (0 ≤ (leftI x w)) → ¬ (x = (rootI ((w - 1) / 2))) → -9223372036854775808 ≤ ((parI x w) + ((w - 1) / 2)) ∧ ((parI x w) + ((w - 1) / 2)) < 9223372036854775808) (by kernel_rfl) hn c5 c11 c32
          refine lsw (want_t (dj := 87) (by rfl) (by kernel_rfl) rfl) (yi_add rfl rfl rfl f38.1 f38.2) rfl (by decide) ?_
          have f39 : -9223372036854775808 ≤ (((parI x w) + ((w - 1) / 2)) + 1) ∧ (((parI x w) + ((w - 1) / 2)) + 1) < 9223372036854775808 := fin2 (p := fun x w => ¬ (((w - 1) / 2) ≤ x) → ¬ (0 ≤ (leftI x w)) → ¬ (x = (rootI ((w - 1) / 2))) → -9223372036854775808 ≤ (((parI x w) + ((w - 1) / 2)) + 1) ∧ (((parI x w) + ((w - 1) / 2)) + 1) < 9223372036854775808) (by kernel_rfl) hn c5 c11 c32
          refine lsw (want_t (dj := 87) (by rfl) (by kernel_rfl) rfl) (yi_add rfl rfl rfl f39.1 f39.2) rfl (by decide) ?_
          have f40 : (parI ((x + ((w - 1) / 2)) + 1) w) = (((parI x w) + ((w - 1) / 2)) + 1) := fin2 (p := fun x w => ¬ (((w - 1) / 2) ≤ x) → ¬ (0 ≤ (leftI x w)) → ¬ (x = (rootI ((w - 1) / 2))) → (parI ((x + ((w - 1) / 2)) + 1) w) = (((parI x w) + ((w - 1) / 2)) + 1)) (by kernel_rfl) hn c5 c11 c32
          refine lsw (want_t (dj := 87) (by rfl) (by kernel_rfl) rfl) (yb (decide_eq_true f40) (yi_eql rfl rfl rfl)) rfl (by decide) ?_
          refine lsw (want_none (by rfl)) (y_pick true rfl rfl rfl) rfl (by decide) ?_
          refine lsw (want_none (by rfl)) (y_move rfl rfl) rfl (by decide) ?_
          refine lsw (want_t (dj := 99) (by rfl) (by kernel_rfl) rfl) (y_move rfl rfl) rfl (by decide) ?_
          refine lsw (want_t (dj := 99) (by rfl) (by kernel_rfl) rfl) (y_move rfl rfl) rfl (by decide) ?_
          refine lsw (want_t (dj := 99) (by rfl) (by kernel_rfl) rfl) (y_call (sibling_any ((x + ((w - 1) / 2)) + 1) w _ rg) (by kernel_rfl) rfl rfl) rfl (by decide) ?_
          refine lsw (want_t (dj := 99) (by rfl) (by kernel_rfl) rfl) (y_move rfl rfl) rfl (by decide) ?_
          refine lsw (want_t (dj := 99) (by rfl) (by kernel_rfl) rfl) (y_move rfl rfl) rfl (by decide) ?_
          refine lsw (want_t (dj := 99) (by rfl) (by kernel_rfl) rfl) (y_call (sibling_any x w _ rg) (by kernel_rfl) rfl rfl) rfl (by decide) ?_
          refine lsw (want_t (dj := 99) (by rfl) (by kernel_rfl) rfl) (y_move rfl rfl) rfl (by decide) ?_
          have f41 : -9223372036854775808 ≤ ((sibI x w) + ((w - 1) / 2)) ∧ ((sibI x w) + ((w - 1) / 2)) < 9223372036854775808 := fin2 (p := fun x w => ¬ (((w - 1) / 2) ≤ x) → ¬ (0 ≤ (leftI x w)) → ¬ (x = (rootI ((w - 1) / 2))) → -9223372036854775808 ≤ ((sibI x w) + ((w - 1) / 2)) ∧ ((sibI x w) + ((w - 1) / 2)) < 9223372036854775808) (by kernel_rfl) hn c5 c11 c32
          refine lsw (want_t (dj := 99) (by rfl) (by kernel_rfl) rfl) (yi_add rfl rfl rfl f41.1 f41.2) rfl (by decide) ?_
          have f42 : -9223372036854775808 ≤ (((sibI x w) + ((w - 1) / 2)) + 1) ∧ (((sibI x w) + ((w - 1) / 2)) + 1) < 9223372036854775808 := fin2 (p := fun x w => ¬ (((w - 1) / 2) ≤ x) → ¬ (0 ≤ (leftI x w)) → ¬ (x = (rootI ((w - 1) / 2))) → -9223372036854775808 ≤ (((sibI x w) + ((w - 1) / 2)) + 1) ∧ (((sibI x w) + ((w - 1) / 2)) + 1) < 9223372036854775808) (by kernel_rfl) hn c5 c11 c32
          refine lsw (want_t (dj := 99) (by rfl) (by kernel_rfl) rfl) (yi_add rfl rfl rfl f42.1 f42.2) rfl (by decide) ?_
          have f43 : (sibI ((x + ((w - 1) / 2)) + 1) w) = (((sibI x w) + ((w - 1) / 2)) + 1) := fin2 (p := fun x w => ¬ (((w - 1) / 2) ≤ x) → ¬ (0 ≤ (leftI x w)) → ¬ (x = (rootI ((w - 1) / 2))) → (sibI ((x + ((w - 1) / 2)) + 1) w) = (((sibI x w) + ((w - 1) / 2)) + 1)) (by kernel_rfl) hn c5 c11 c32
          refine lsw (want_t (dj := 99) (by rfl) (by kernel_rfl) rfl) (yb (decide_eq_true f43) (yi_eql rfl rfl rfl)) rfl (by decide) ?_
          refine lsw (want_none (by rfl)) (y_pick true rfl rfl rfl) rfl (by decide) ?_
          refine lsw (want_none (by rfl)) (y_assign rfl rfl) rfl (by decide) ?_
          refine lg_nil ?_
          refine nx (E' := [(4, _)]) (fk rfl fn) ?_
          refine cg_ret ?_
          exact eg_ret_tmp rfl rfl ⟨rfl, rfl⟩
  · refine calls_cg (n := 111) Tryd.func8 rfl Tryd.ntmps8 (by simp) ?_
    show CG _ _ _ [(0, nv x), (1, nv w)] _ _
    refine cg_seq ?_
    refine cg_region ?_
    refine lsw (want_none (by rfl)) (y_assign rfl rfl) rfl (by decide) ?_
    refine lg_nil ?_
    refine nx (E' := [(0, _), (1, _), (4, _)]) (fk rfl (fk rfl (fk rfl fn))) ?_
    refine cg_seq ?_
    refine cg_region ?_
    refine lsw (want_none (by rfl)) (y_call (awake_any _ rg) (by kernel_rfl) rfl rfl) rfl (by decide) ?_
    refine lsw (want_none (by rfl)) (y_assign rfl rfl) rfl (by decide) ?_
    refine lg_nil ?_
    refine nx (E' := [(0, _), (1, _), (4, _), (5, _)]) (fk rfl (fk rfl (fk rfl (fk rfl fn)))) ?_
    refine cg_seq ?_
    refine cg_region ?_
    refine lsw (want_none (by rfl)) (y_move rfl rfl) rfl (by decide) ?_
    refine lsw (want_none (by rfl)) (yi_subw rfl rfl rfl) rfl (by decide) ?_
    refine lsw (want_none (by rfl)) (yi_quow (by decide) rfl rfl rfl) rfl (by decide) ?_
    refine lsw (want_none (by rfl)) (y_assign rfl rfl) rfl (by decide) ?_
    refine lg_nil ?_
    refine nx (E' := [(0, _), (1, _), (4, _), (5, _), (6, _)]) (fk rfl (fk rfl (fk rfl (fk rfl (fk rfl fn))))) ?_
    refine cg_seq ?_
    refine cg_seq ?_
    refine cg_region ?_
    refine lsw (want_none (by rfl)) (y_move rfl rfl) rfl (by decide) ?_
    refine lsw (want_none (by rfl)) (y_move rfl rfl) rfl (by decide) ?_
    refine lsw (want_none (by rfl)) (yb (decide_eq_false hn) (y_call (is_any x w _ rg) (by kernel_rfl) rfl rfl)) rfl (by decide) ?_
    refine lsw (want_none (by rfl)) (y_bnot rfl rfl) rfl (by decide) ?_
    refine lsw (want_none (by rfl)) (y_move rfl rfl) rfl (by decide) ?_
    refine lsk (want_f (dj := 16) (by rfl) (by kernel_rfl) rfl) rfl (by decide) ?_
    refine lsk (want_f (dj := 16) (by rfl) (by kernel_rfl) rfl) rfl (by decide) ?_
    refine lsk (want_f (dj := 16) (by rfl) (by kernel_rfl) rfl) rfl (by decide) ?_
    refine lsw (want_none (by rfl)) (y_pick true rfl rfl rfl) rfl (by decide) ?_
    refine lsw (want_none (by rfl)) (y_move rfl rfl) rfl (by decide) ?_
    refine lsk (want_f (dj := 21) (by rfl) (by kernel_rfl) rfl) rfl (by decide) ?_
    refine lsk (want_f (dj := 21) (by rfl) (by kernel_rfl) rfl) rfl (by decide) ?_
    refine lsw (want_none (by rfl)) (y_pick true rfl rfl rfl) rfl (by decide) ?_
    refine lg_nil ?_
    refine nx (E' := [(0, _), (1, _), (4, _), (5, _), (6, _), (24, _)]) (fk rfl (fk rfl (fk rfl (fk rfl (fk rfl (fk rfl fn)))))) ?_
    refine cg_ct rfl ?_
    refine cg_seq ?_
    refine cg_region ?_
    refine lsw (want_none (by rfl)) (y_move rfl rfl) rfl (by decide) ?_
    refine lsw (want_none (by rfl)) (y_assign rfl rfl) rfl (by decide) ?_
    refine lg_nil ?_
    refine nx (E' := [(0, _), (1, _), (5, _), (6, _), (4, _)]) (fk rfl (fk rfl (fk rfl (fk rfl (fk rfl fn))))) ?_
    refine cg_ret ?_
    refine eg_seq_ret ?_
    exact eg_ret_tmp rfl rfl ⟨rfl, rfl⟩
end Go.Proofs.YtbobdjimilcohaaDoor
