/-
  The two statements that go up, and count levels.
-/
import Derived.Test.YtbobdjimilcohaaDoorIxAwake
namespace Go.Proofs.YtbobdjimilcohaaDoor
open Go.ChangeShapes Go.WideShapes Go.ChangeAt Go.RowKit
set_option linter.unusedVariables false
set_option maxRecDepth 20000
theorem ixup_any (x w : Int) (W : World) (rg : Tb W) : Calls Tryd.prog 5 #[nv x, nv w] W fun e w' => e = .returned (.bool true) ∧ w' = W := by
  by_cases hn : isN x w
  · refine calls_cg (n := 75) Tryd.func5 rfl Tryd.ntmps5 (by simp) ?_
    show CG _ _ _ [(0, nv x), (1, nv w)] _ _
    refine cg_seq ?_
    refine cg_region ?_
    refine lsw (want_none (by rfl)) (y_assign rfl rfl) rfl (by decide) ?_
    refine lg_nil ?_
    refine nx (E' := [(0, _), (1, _), (4, _)]) (fk rfl (fk rfl (fk rfl fn))) ?_
    refine cg_seq ?_
    refine cg_region ?_
    refine lsw (want_none (by rfl)) (y_call (awake_any _ rg) (by kernel_rfl) rfl rfl) rfl (by decide) ?_
    refine lsw (want_none (by rfl)) (y_assign rfl rfl) rfl (by decide) ?_
    refine lg_nil ?_
    refine nx (E' := [(0, _), (1, _), (4, _), (5, _)]) (fk rfl (fk rfl (fk rfl (fk rfl fn)))) ?_
    refine cg_seq ?_
    refine cg_seq ?_
    refine cg_region ?_
    refine lsw (want_none (by rfl)) (y_move rfl rfl) rfl (by decide) ?_
    refine lsw (want_none (by rfl)) (y_move rfl rfl) rfl (by decide) ?_
    have f1 : isN x w := fin2 (p := fun x w => isN x w) (by kernel_rfl) hn
    refine lsw (want_none (by rfl)) (yb (decide_eq_true f1) (y_call (is_any x w _ rg) (by kernel_rfl) rfl rfl)) rfl (by decide) ?_
    refine lsw (want_none (by rfl)) (y_bnot rfl rfl) rfl (by decide) ?_
    refine lg_nil ?_
    refine nx (E' := [(0, _), (1, _), (4, _), (5, _), (13, _)]) (fk rfl (fk rfl (fk rfl (fk rfl (fk rfl fn))))) ?_
    refine cg_cf rfl ?_
    refine cg_skip ?_
    refine nx (E' := [(0, _), (1, _), (4, _), (5, _)]) (fk rfl (fk rfl (fk rfl (fk rfl fn)))) ?_
    refine cg_seq ?_
    refine cg_region ?_
    refine lsw (want_none (by rfl)) (y_move rfl rfl) rfl (by decide) ?_
    refine lsw (want_none (by rfl)) (y_assign rfl rfl) rfl (by decide) ?_
    refine lg_nil ?_
    refine nx (E' := [(1, _), (4, _), (5, _), (6, _)]) (fk rfl (fk rfl (fk rfl (fk rfl fn)))) ?_
    refine cg_seq ?_
    refine cg_seq ?_
    refine cg_region ?_
    refine lsw (want_none (by rfl)) (y_assign rfl rfl) rfl (by decide) ?_
    refine lg_nil ?_
    refine nx (E' := [(1, _), (4, _), (5, _), (6, _), (7, _)]) (fk rfl (fk rfl (fk rfl (fk rfl (fk rfl fn))))) ?_
    refine cg_block ?_
    refine cg_loopE (fun t a v => ∃ (y : Int) (i : Int), Holds 75 [(1, nv w), (5, .bool true), (6, nv y), (7, nv i)] a ∧ v = W ∧ Tb v ∧ isN y w ∧ i = (t : Int) ∧ i ≤ lvl y) 7 (fun a ha => ⟨x, 0, ha.keep (fk rfl (fk rfl (fk rfl (fk rfl fn)))), rfl, rg, hn, rfl, (fin2 (p := fun x w => 0 ≤ lvl x) (by kernel_rfl) hn)⟩) ?_
    rintro t a v ht ⟨y, i, ha, hv, rg, hy, hi, hl⟩
    refine cg_at ha ?_
    clear ha a
    have f2 : lvl y ≤ 6 := fin2 (p := fun y w => lvl y ≤ 6) (by kernel_rfl) hy
    refine cg_seq ?_
    refine cg_seq ?_
    refine cg_region ?_
    refine lsw (want_none (by rfl)) (y_move rfl rfl) rfl (by decide) ?_
    refine lsw (want_none (by rfl)) (yb (decide_eq_true (by omega)) (yi_lss rfl rfl rfl)) rfl (by decide) ?_
    refine lsw (want_none (by rfl)) (y_move rfl rfl) rfl (by decide) ?_
    refine lsw (want_t (dj := 18) (by rfl) (by kernel_rfl) rfl) (y_move rfl rfl) rfl (by decide) ?_
    refine lsw (want_t (dj := 18) (by rfl) (by kernel_rfl) rfl) (y_move rfl rfl) rfl (by decide) ?_
    refine lsw (want_t (dj := 18) (by rfl) (by kernel_rfl) rfl) (y_call (root_any w _ rg) (by kernel_rfl) rfl rfl) rfl (by decide) ?_
    by_cases c3 : y = (rootI w)
    · have f4 : y = (rootI w) := fin2 (p := fun y w => y = (rootI w) → y = (rootI w)) (by kernel_rfl) hy c3
      refine lsw (want_t (dj := 18) (by rfl) (by kernel_rfl) rfl) (yb (nd_f f4) (yi_neq rfl rfl rfl)) rfl (by decide) ?_
      refine lsw (want_none (by rfl)) (y_pick true rfl rfl rfl) rfl (by decide) ?_
      refine lg_nil ?_
      refine nx (E' := [(1, _), (5, _), (6, _), (7, _), (16, _), (17, _), (18, _), (19, _), (20, _), (21, _), (22, _), (23, _)]) (fk rfl (fk rfl (fk rfl (fk rfl (fk rfl (fk rfl (fk rfl (fk rfl (fk rfl (fk rfl (fk rfl (fk rfl fn)))))))))))) ?_
      refine cg_cf rfl ?_
      refine cg_exit ?_
      refine eg_seq_exit ?_
      refine eg_seq_exit ?_
      refine eg_block_exit ?_
      refine nx (E' := [(1, _), (5, _), (6, _)]) (fk rfl (fk rfl (fk rfl fn))) ?_
      refine cg_seq ?_
      refine cg_region ?_
      refine lsw (want_none (by rfl)) (y_move rfl rfl) rfl (by decide) ?_
      refine lsw (want_none (by rfl)) (y_move rfl rfl) rfl (by decide) ?_
      refine lsw (want_t (dj := 57) (by rfl) (by kernel_rfl) rfl) (y_move rfl rfl) rfl (by decide) ?_
      refine lsw (want_t (dj := 57) (by rfl) (by kernel_rfl) rfl) (y_move rfl rfl) rfl (by decide) ?_
      refine lsw (want_t (dj := 57) (by rfl) (by kernel_rfl) rfl) (y_call (root_any w _ rg) (by kernel_rfl) rfl rfl) rfl (by decide) ?_
      have f5 : y = (rootI w) := fin2 (p := fun y w => y = (rootI w) → y = (rootI w)) (by kernel_rfl) hy c3
      refine lsw (want_t (dj := 57) (by rfl) (by kernel_rfl) rfl) (yb (decide_eq_true f5) (yi_eql rfl rfl rfl)) rfl (by decide) ?_
      refine lsw (want_none (by rfl)) (y_pick true rfl rfl rfl) rfl (by decide) ?_
      refine lsw (want_none (by rfl)) (y_move rfl rfl) rfl (by decide) ?_
      refine lsw (want_t (dj := 63) (by rfl) (by kernel_rfl) rfl) (y_move rfl rfl) rfl (by decide) ?_
      refine lsw (want_t (dj := 63) (by rfl) (by kernel_rfl) rfl) (y_move rfl rfl) rfl (by decide) ?_
      refine lsw (want_t (dj := 63) (by rfl) (by kernel_rfl) rfl) (y_call (parent_any y w _ rg) (by kernel_rfl) rfl rfl) rfl (by decide) ?_
      have f6 : (parI y w) = (-1) := fin2 (p := fun y w => y = (rootI w) → (parI y w) = (-1)) (by kernel_rfl) hy c3
      refine lsw (want_t (dj := 63) (by rfl) (by kernel_rfl) rfl) (yb (decide_eq_true f6) (yi_eql rfl rfl rfl)) rfl (by decide) ?_
      refine lsw (want_none (by rfl)) (y_pick true rfl rfl rfl) rfl (by decide) ?_
      refine lsw (want_none (by rfl)) (y_move rfl rfl) rfl (by decide) ?_
      refine lsw (want_t (dj := 69) (by rfl) (by kernel_rfl) rfl) (y_move rfl rfl) rfl (by decide) ?_
      refine lsw (want_t (dj := 69) (by rfl) (by kernel_rfl) rfl) (y_move rfl rfl) rfl (by decide) ?_
      refine lsw (want_t (dj := 69) (by rfl) (by kernel_rfl) rfl) (y_call (sibling_any y w _ rg) (by kernel_rfl) rfl rfl) rfl (by decide) ?_
      have f7 : (sibI y w) = (-1) := fin2 (p := fun y w => y = (rootI w) → (sibI y w) = (-1)) (by kernel_rfl) hy c3
      refine lsw (want_t (dj := 69) (by rfl) (by kernel_rfl) rfl) (yb (decide_eq_true f7) (yi_eql rfl rfl rfl)) rfl (by decide) ?_
      refine lsw (want_none (by rfl)) (y_pick true rfl rfl rfl) rfl (by decide) ?_
      refine lsw (want_none (by rfl)) (y_assign rfl rfl) rfl (by decide) ?_
      refine lg_nil ?_
      refine nx (E' := [(4, _)]) (fk rfl fn) ?_
      refine cg_ret ?_
      exact eg_ret_tmp rfl rfl ⟨rfl, hv⟩
    · have f8 : ¬ (y = (rootI w)) := fin2 (p := fun y w => ¬ (y = (rootI w)) → ¬ (y = (rootI w))) (by kernel_rfl) hy c3
      refine lsw (want_t (dj := 18) (by rfl) (by kernel_rfl) rfl) (yb (nd_t f8) (yi_neq rfl rfl rfl)) rfl (by decide) ?_
      refine lsw (want_none (by rfl)) (y_pick true rfl rfl rfl) rfl (by decide) ?_
      refine lg_nil ?_
      refine nx (E' := [(1, _), (5, _), (6, _), (7, _), (16, _), (17, _), (18, _), (19, _), (20, _), (21, _), (22, _), (23, _)]) (fk rfl (fk rfl (fk rfl (fk rfl (fk rfl (fk rfl (fk rfl (fk rfl (fk rfl (fk rfl (fk rfl (fk rfl fn)))))))))))) ?_
      refine cg_ct rfl ?_
      refine cg_skip ?_
      refine nx (E' := [(1, _), (5, _), (6, _), (7, _), (16, _), (17, _), (18, _), (19, _), (20, _), (21, _), (22, _), (23, _)]) (fk rfl (fk rfl (fk rfl (fk rfl (fk rfl (fk rfl (fk rfl (fk rfl (fk rfl (fk rfl (fk rfl (fk rfl fn)))))))))))) ?_
      refine cg_seq ?_
      refine cg_block ?_
      refine cg_seq ?_
      refine cg_region ?_
      refine lsw (want_none (by rfl)) (y_move rfl rfl) rfl (by decide) ?_
      refine lsw (want_none (by rfl)) (y_move rfl rfl) rfl (by decide) ?_
      refine lsw (want_none (by rfl)) (y_call (parent_any y w _ rg) (by kernel_rfl) rfl rfl) rfl (by decide) ?_
      refine lsw (want_none (by rfl)) (y_assign rfl rfl) rfl (by decide) ?_
      refine lg_nil ?_
      refine nx (E' := [(1, _), (5, _), (6, _), (7, _), (16, _), (17, _), (18, _), (19, _), (20, _), (21, _), (22, _), (23, _), (26, _), (27, _), (28, _), (8, _)]) (fk rfl (fk rfl (fk rfl (fk rfl (fk rfl (fk rfl (fk rfl (fk rfl (fk rfl (fk rfl (fk rfl (fk rfl (fk rfl (fk rfl (fk rfl (fk rfl fn)))))))))))))))) ?_
      refine cg_seq ?_
      refine cg_seq ?_
      refine cg_region ?_
      refine lsw (want_none (by rfl)) (y_move rfl rfl) rfl (by decide) ?_
      refine lsw (want_none (by rfl)) (y_move rfl rfl) rfl (by decide) ?_
      have f9 : isN (parI y w) w := fin2 (p := fun y w => ¬ (y = (rootI w)) → isN (parI y w) w) (by kernel_rfl) hy c3
      refine lsw (want_none (by rfl)) (yb (decide_eq_true f9) (y_call (is_any (parI y w) w _ rg) (by kernel_rfl) rfl rfl)) rfl (by decide) ?_
      refine lsw (want_none (by rfl)) (y_bnot rfl rfl) rfl (by decide) ?_
      refine lsw (want_none (by rfl)) (y_move rfl rfl) rfl (by decide) ?_
      refine lsw (want_t (dj := 33) (by rfl) (by kernel_rfl) rfl) (y_move rfl rfl) rfl (by decide) ?_
      refine lsw (want_t (dj := 33) (by rfl) (by kernel_rfl) rfl) (y_call (level_any (parI y w) _ rg) (by kernel_rfl) rfl rfl) rfl (by decide) ?_
      refine lsw (want_t (dj := 33) (by rfl) (by kernel_rfl) rfl) (y_move rfl rfl) rfl (by decide) ?_
      refine lsw (want_t (dj := 33) (by rfl) (by kernel_rfl) rfl) (y_call (level_any y _ rg) (by kernel_rfl) rfl rfl) rfl (by decide) ?_
      have f10 : -9223372036854775808 ≤ ((lvl y) + 1) ∧ ((lvl y) + 1) < 9223372036854775808 := fin2 (p := fun y w => ¬ (y = (rootI w)) → -9223372036854775808 ≤ ((lvl y) + 1) ∧ ((lvl y) + 1) < 9223372036854775808) (by kernel_rfl) hy c3
      refine lsw (want_t (dj := 33) (by rfl) (by kernel_rfl) rfl) (yi_add rfl rfl rfl f10.1 f10.2) rfl (by decide) ?_
      have f11 : (lvl (parI y w)) = ((lvl y) + 1) := fin2 (p := fun y w => ¬ (y = (rootI w)) → (lvl (parI y w)) = ((lvl y) + 1)) (by kernel_rfl) hy c3
      refine lsw (want_t (dj := 33) (by rfl) (by kernel_rfl) rfl) (yb (nd_f f11) (yi_neq rfl rfl rfl)) rfl (by decide) ?_
      refine lsw (want_none (by rfl)) (y_pick false rfl rfl rfl) rfl (by decide) ?_
      refine lsw (want_none (by rfl)) (y_move rfl rfl) rfl (by decide) ?_
      refine lsw (want_t (dj := 41) (by rfl) (by kernel_rfl) rfl) (y_move rfl rfl) rfl (by decide) ?_
      refine lsw (want_t (dj := 41) (by rfl) (by kernel_rfl) rfl) (y_move rfl rfl) rfl (by decide) ?_
      refine lsw (want_t (dj := 41) (by rfl) (by kernel_rfl) rfl) (y_call (left_any (parI y w) w _ rg) (by kernel_rfl) rfl rfl) rfl (by decide) ?_
      refine lsw (want_t (dj := 41) (by rfl) (by kernel_rfl) rfl) (y_move rfl rfl) rfl (by decide) ?_
      by_cases c12 : (leftI (parI y w) w) = y
      · have f13 : (leftI (parI y w) w) = y := fin2 (p := fun y w => ¬ (y = (rootI w)) → (leftI (parI y w) w) = y → (leftI (parI y w) w) = y) (by kernel_rfl) hy c3 c12
        refine lsw (want_t (dj := 41) (by rfl) (by kernel_rfl) rfl) (yb (nd_f f13) (yi_neq rfl rfl rfl)) rfl (by decide) ?_
        refine lsw (want_t (dj := 41) (by rfl) (by kernel_rfl) rfl) (y_move rfl rfl) rfl (by decide) ?_
        refine lsk (want_f (dj := 47) (by rfl) (by kernel_rfl) rfl) rfl (by decide) ?_
        refine lsk (want_f (dj := 47) (by rfl) (by kernel_rfl) rfl) rfl (by decide) ?_
        refine lsk (want_f (dj := 47) (by rfl) (by kernel_rfl) rfl) rfl (by decide) ?_
        refine lsk (want_f (dj := 47) (by rfl) (by kernel_rfl) rfl) rfl (by decide) ?_
        refine lsk (want_f (dj := 47) (by rfl) (by kernel_rfl) rfl) rfl (by decide) ?_
        refine lsw (want_t (dj := 41) (by rfl) (by kernel_rfl) rfl) (y_pick false rfl rfl rfl) rfl (by decide) ?_
        refine lsw (want_none (by rfl)) (y_pick false rfl rfl rfl) rfl (by decide) ?_
        refine lg_nil ?_
        refine nx (E' := [(1, _), (5, _), (6, _), (7, _), (16, _), (17, _), (18, _), (19, _), (20, _), (21, _), (22, _), (23, _), (26, _), (27, _), (28, _), (8, _), (29, _), (30, _), (31, _), (32, _), (33, _), (34, _), (35, _), (36, _), (37, _), (38, _), (39, _), (40, _), (41, _), (42, _), (43, _), (44, _), (45, _), (46, _), (47, _), (53, _), (54, _)]) (fk rfl (fk rfl (fk rfl (fk rfl (fk rfl (fk rfl (fk rfl (fk rfl (fk rfl (fk rfl (fk rfl (fk rfl (fk rfl (fk rfl (fk rfl (fk rfl (fk rfl (fk rfl (fk rfl (fk rfl (fk rfl (fk rfl (fk rfl (fk rfl (fk rfl (fk rfl (fk rfl (fk rfl (fk rfl (fk rfl (fk rfl (fk rfl (fk rfl (fk rfl (fk rfl (fk rfl (fk rfl fn))))))))))))))))))))))))))))))))))))) ?_
        refine cg_cf rfl ?_
        refine cg_skip ?_
        refine nx (E' := [(1, _), (5, _), (6, _), (7, _), (16, _), (17, _), (18, _), (19, _), (20, _), (21, _), (22, _), (23, _), (26, _), (27, _), (28, _), (8, _), (29, _), (30, _), (31, _), (32, _), (33, _), (34, _), (35, _), (36, _), (37, _), (38, _), (39, _), (40, _), (41, _), (42, _), (43, _), (44, _), (45, _), (46, _), (47, _), (53, _), (54, _)]) (fk rfl (fk rfl (fk rfl (fk rfl (fk rfl (fk rfl (fk rfl (fk rfl (fk rfl (fk rfl (fk rfl (fk rfl (fk rfl (fk rfl (fk rfl (fk rfl (fk rfl (fk rfl (fk rfl (fk rfl (fk rfl (fk rfl (fk rfl (fk rfl (fk rfl (fk rfl (fk rfl (fk rfl (fk rfl (fk rfl (fk rfl (fk rfl (fk rfl (fk rfl (fk rfl (fk rfl (fk rfl fn))))))))))))))))))))))))))))))))))))) ?_
        refine cg_region ?_
        refine lsw (want_none (by rfl)) (y_move rfl rfl) rfl (by decide) ?_
        refine lsw (want_none (by rfl)) (y_assign rfl rfl) rfl (by decide) ?_
        refine lg_nil ?_
        refine eg_block_norm ?_
        refine nx (E' := [(1, _), (5, _), (7, _), (16, _), (17, _), (18, _), (19, _), (20, _), (21, _), (22, _), (23, _), (26, _), (27, _), (28, _), (8, _), (29, _), (30, _), (31, _), (32, _), (33, _), (34, _), (35, _), (36, _), (37, _), (38, _), (39, _), (40, _), (41, _), (42, _), (43, _), (44, _), (45, _), (46, _), (47, _), (53, _), (54, _), (55, _), (6, _)]) (fk rfl (fk rfl (fk rfl (fk rfl (fk rfl (fk rfl (fk rfl (fk rfl (fk rfl (fk rfl (fk rfl (fk rfl (fk rfl (fk rfl (fk rfl (fk rfl (fk rfl (fk rfl (fk rfl (fk rfl (fk rfl (fk rfl (fk rfl (fk rfl (fk rfl (fk rfl (fk rfl (fk rfl (fk rfl (fk rfl (fk rfl (fk rfl (fk rfl (fk rfl (fk rfl (fk rfl (fk rfl (fk rfl fn)))))))))))))))))))))))))))))))))))))) ?_
        refine cg_region ?_
        refine lsw (want_none (by rfl)) (y_move rfl rfl) rfl (by decide) ?_
        refine lsw (want_none (by rfl)) (yi_add rfl rfl rfl (by omega) (by omega)) rfl (by decide) ?_
        refine lsw (want_none (by rfl)) (y_assign rfl rfl) rfl (by decide) ?_
        refine lg_nil ?_
        have f14 : isN (parI y w) w ∧ lvl (parI y w) = lvl y + 1 := fin2 (p := fun y w => ¬ (y = (rootI w)) → (leftI (parI y w) w) = y → isN (parI y w) w ∧ lvl (parI y w) = lvl y + 1) (by kernel_rfl) hy c3 c12
        have f15 : lvl (parI y w) ≤ 6 := fin2 (p := fun y w => ¬ (y = (rootI w)) → (leftI (parI y w) w) = y → lvl (parI y w) ≤ 6) (by kernel_rfl) hy c3 c12
        exact fun a ha => (show t < 7 ∧ _ from ⟨(by omega), (parI y w), (i + 1), ha.keep (fk rfl (fk rfl (fk rfl (fk rfl fn)))), hv, rg, f14.1, (by omega), (by omega)⟩)
      · have f16 : ¬ ((leftI (parI y w) w) = y) := fin2 (p := fun y w => ¬ (y = (rootI w)) → ¬ ((leftI (parI y w) w) = y) → ¬ ((leftI (parI y w) w) = y)) (by kernel_rfl) hy c3 c12
        refine lsw (want_t (dj := 41) (by rfl) (by kernel_rfl) rfl) (yb (nd_t f16) (yi_neq rfl rfl rfl)) rfl (by decide) ?_
        refine lsw (want_t (dj := 41) (by rfl) (by kernel_rfl) rfl) (y_move rfl rfl) rfl (by decide) ?_
        refine lsw (want_t (dj := 47) (by rfl) (by kernel_rfl) rfl) (y_move rfl rfl) rfl (by decide) ?_
        refine lsw (want_t (dj := 47) (by rfl) (by kernel_rfl) rfl) (y_move rfl rfl) rfl (by decide) ?_
        refine lsw (want_t (dj := 47) (by rfl) (by kernel_rfl) rfl) (y_call (right_any (parI y w) w _ rg) (by kernel_rfl) rfl rfl) rfl (by decide) ?_
        refine lsw (want_t (dj := 47) (by rfl) (by kernel_rfl) rfl) (y_move rfl rfl) rfl (by decide) ?_
        have f17 : (rightI (parI y w) w) = y := fin2 (p := fun y w => ¬ (y = (rootI w)) → ¬ ((leftI (parI y w) w) = y) → (rightI (parI y w) w) = y) (by kernel_rfl) hy c3 c12
        refine lsw (want_t (dj := 47) (by rfl) (by kernel_rfl) rfl) (yb (nd_f f17) (yi_neq rfl rfl rfl)) rfl (by decide) ?_
        refine lsw (want_t (dj := 41) (by rfl) (by kernel_rfl) rfl) (y_pick true rfl rfl rfl) rfl (by decide) ?_
        refine lsw (want_none (by rfl)) (y_pick false rfl rfl rfl) rfl (by decide) ?_
        refine lg_nil ?_
        refine nx (E' := [(1, _), (5, _), (6, _), (7, _), (16, _), (17, _), (18, _), (19, _), (20, _), (21, _), (22, _), (23, _), (26, _), (27, _), (28, _), (8, _), (29, _), (30, _), (31, _), (32, _), (33, _), (34, _), (35, _), (36, _), (37, _), (38, _), (39, _), (40, _), (41, _), (42, _), (43, _), (44, _), (45, _), (46, _), (47, _), (48, _), (49, _), (50, _), (51, _), (52, _), (53, _), (54, _)]) (fk rfl (fk rfl (fk rfl (fk rfl (fk rfl (fk rfl (fk rfl (fk rfl (fk rfl (fk rfl (fk rfl (fk rfl (fk rfl (fk rfl (fk rfl (fk rfl (fk rfl (fk rfl (fk rfl (fk rfl (fk rfl (fk rfl (fk rfl (fk rfl (fk rfl (fk rfl (fk rfl (fk rfl (fk rfl (fk rfl (fk rfl (fk rfl (fk rfl (fk rfl (fk rfl (fk rfl (fk rfl (fk rfl (fk rfl (fk rfl (fk rfl (fk rfl fn)))))))))))))))))))))))))))))))))))))))))) ?_
        refine cg_cf rfl ?_
        refine cg_skip ?_
        refine nx (E' := [(1, _), (5, _), (6, _), (7, _), (16, _), (17, _), (18, _), (19, _), (20, _), (21, _), (22, _), (23, _), (26, _), (27, _), (28, _), (8, _), (29, _), (30, _), (31, _), (32, _), (33, _), (34, _), (35, _), (36, _), (37, _), (38, _), (39, _), (40, _), (41, _), (42, _), (43, _), (44, _), (45, _), (46, _), (47, _), (48, _), (49, _), (50, _), (51, _), (52, _), (53, _), (54, _)]) (fk rfl (fk rfl (fk rfl (fk rfl (fk rfl (fk rfl (fk rfl (fk rfl (fk rfl (fk rfl (fk rfl (fk rfl (fk rfl (fk rfl (fk rfl (fk rfl (fk rfl (fk rfl (fk rfl (fk rfl (fk rfl (fk rfl (fk rfl (fk rfl (fk rfl (fk rfl (fk rfl (fk rfl (fk rfl (fk rfl (fk rfl (fk rfl (fk rfl (fk rfl (fk rfl (fk rfl (fk rfl (fk rfl (fk rfl (fk rfl (fk rfl (fk rfl fn)))))))))))))))))))))))))))))))))))))))))) ?_
        refine cg_region ?_
        refine lsw (want_none (by rfl)) (y_move rfl rfl) rfl (by decide) ?_
        refine lsw (want_none (by rfl)) (y_assign rfl rfl) rfl (by decide) ?_
        refine lg_nil ?_
        refine eg_block_norm ?_
        refine nx (E' := [(1, _), (5, _), (7, _), (16, _), (17, _), (18, _), (19, _), (20, _), (21, _), (22, _), (23, _), (26, _), (27, _), (28, _), (8, _), (29, _), (30, _), (31, _), (32, _), (33, _), (34, _), (35, _), (36, _), (37, _), (38, _), (39, _), (40, _), (41, _), (42, _), (43, _), (44, _), (45, _), (46, _), (47, _), (48, _), (49, _), (50, _), (51, _), (52, _), (53, _), (54, _), (55, _), (6, _)]) (fk rfl (fk rfl (fk rfl (fk rfl (fk rfl (fk rfl (fk rfl (fk rfl (fk rfl (fk rfl (fk rfl (fk rfl (fk rfl (fk rfl (fk rfl (fk rfl (fk rfl (fk rfl (fk rfl (fk rfl (fk rfl (fk rfl (fk rfl (fk rfl (fk rfl (fk rfl (fk rfl (fk rfl (fk rfl (fk rfl (fk rfl (fk rfl (fk rfl (fk rfl (fk rfl (fk rfl (fk rfl (fk rfl (fk rfl (fk rfl (fk rfl (fk rfl (fk rfl fn))))))))))))))))))))))))))))))))))))))))))) ?_
        refine cg_region ?_
        refine lsw (want_none (by rfl)) (y_move rfl rfl) rfl (by decide) ?_
        refine lsw (want_none (by rfl)) (yi_add rfl rfl rfl (by omega) (by omega)) rfl (by decide) ?_
        refine lsw (want_none (by rfl)) (y_assign rfl rfl) rfl (by decide) ?_
        refine lg_nil ?_
        have f18 : isN (parI y w) w ∧ lvl (parI y w) = lvl y + 1 := fin2 (p := fun y w => ¬ (y = (rootI w)) → ¬ ((leftI (parI y w) w) = y) → isN (parI y w) w ∧ lvl (parI y w) = lvl y + 1) (by kernel_rfl) hy c3 c12
        have f19 : lvl (parI y w) ≤ 6 := fin2 (p := fun y w => ¬ (y = (rootI w)) → ¬ ((leftI (parI y w) w) = y) → lvl (parI y w) ≤ 6) (by kernel_rfl) hy c3 c12
        exact fun a ha => (show t < 7 ∧ _ from ⟨(by omega), (parI y w), (i + 1), ha.keep (fk rfl (fk rfl (fk rfl (fk rfl fn)))), hv, rg, f18.1, (by omega), (by omega)⟩)
  · refine calls_cg (n := 75) Tryd.func5 rfl Tryd.ntmps5 (by simp) ?_
    show CG _ _ _ [(0, nv x), (1, nv w)] _ _
    refine cg_seq ?_
    refine cg_region ?_
    refine lsw (want_none (by rfl)) (y_assign rfl rfl) rfl (by decide) ?_
    refine lg_nil ?_
    refine nx (E' := [(0, _), (1, _), (4, _)]) (fk rfl (fk rfl (fk rfl fn))) ?_
    refine cg_seq ?_
    refine cg_region ?_
    refine lsw (want_none (by rfl)) (y_call (awake_any _ rg) (by kernel_rfl) rfl rfl) rfl (by decide) ?_
    refine lsw (want_none (by rfl)) (y_assign rfl rfl) rfl (by decide) ?_
    refine lg_nil ?_
    refine nx (E' := [(0, _), (1, _), (4, _), (5, _)]) (fk rfl (fk rfl (fk rfl (fk rfl fn)))) ?_
    refine cg_seq ?_
    refine cg_seq ?_
    refine cg_region ?_
    refine lsw (want_none (by rfl)) (y_move rfl rfl) rfl (by decide) ?_
    refine lsw (want_none (by rfl)) (y_move rfl rfl) rfl (by decide) ?_
    refine lsw (want_none (by rfl)) (yb (decide_eq_false hn) (y_call (is_any x w _ rg) (by kernel_rfl) rfl rfl)) rfl (by decide) ?_
    refine lsw (want_none (by rfl)) (y_bnot rfl rfl) rfl (by decide) ?_
    refine lg_nil ?_
    refine nx (E' := [(0, _), (1, _), (4, _), (5, _), (13, _)]) (fk rfl (fk rfl (fk rfl (fk rfl (fk rfl fn))))) ?_
    refine cg_ct rfl ?_
    refine cg_seq ?_
    refine cg_region ?_
    refine lsw (want_none (by rfl)) (y_move rfl rfl) rfl (by decide) ?_
    refine lsw (want_none (by rfl)) (y_assign rfl rfl) rfl (by decide) ?_
    refine lg_nil ?_
    refine nx (E' := [(0, _), (1, _), (5, _), (4, _)]) (fk rfl (fk rfl (fk rfl (fk rfl fn)))) ?_
    refine cg_ret ?_
    refine eg_seq_ret ?_
    exact eg_ret_tmp rfl rfl ⟨rfl, rfl⟩
theorem ixleaves_any (x w : Int) (W : World) (rg : Tb W) : Calls Tryd.prog 7 #[nv x, nv w] W fun e w' => e = .returned (.bool true) ∧ w' = W := by
  by_cases hn : isN x w
  · refine calls_cg (n := 83) Tryd.func7 rfl Tryd.ntmps7 (by simp) ?_
    show CG _ _ _ [(0, nv x), (1, nv w)] _ _
    refine cg_seq ?_
    refine cg_region ?_
    refine lsw (want_none (by rfl)) (y_assign rfl rfl) rfl (by decide) ?_
    refine lg_nil ?_
    refine nx (E' := [(0, _), (1, _), (4, _)]) (fk rfl (fk rfl (fk rfl fn))) ?_
    refine cg_seq ?_
    refine cg_region ?_
    refine lsw (want_none (by rfl)) (y_call (awake_any _ rg) (by kernel_rfl) rfl rfl) rfl (by decide) ?_
    refine lsw (want_none (by rfl)) (y_assign rfl rfl) rfl (by decide) ?_
    refine lg_nil ?_
    refine nx (E' := [(0, _), (1, _), (4, _), (5, _)]) (fk rfl (fk rfl (fk rfl (fk rfl fn)))) ?_
    refine cg_seq ?_
    refine cg_seq ?_
    refine cg_region ?_
    refine lsw (want_none (by rfl)) (y_move rfl rfl) rfl (by decide) ?_
    refine lsw (want_none (by rfl)) (y_move rfl rfl) rfl (by decide) ?_
    have f1 : isN x w := fin2 (p := fun x w => isN x w) (by kernel_rfl) hn
    refine lsw (want_none (by rfl)) (yb (decide_eq_true f1) (y_call (is_any x w _ rg) (by kernel_rfl) rfl rfl)) rfl (by decide) ?_
    refine lsw (want_none (by rfl)) (y_bnot rfl rfl) rfl (by decide) ?_
    refine lg_nil ?_
    refine nx (E' := [(0, _), (1, _), (4, _), (5, _), (14, _)]) (fk rfl (fk rfl (fk rfl (fk rfl (fk rfl fn))))) ?_
    refine cg_cf rfl ?_
    refine cg_skip ?_
    refine nx (E' := [(0, _), (1, _), (4, _), (5, _)]) (fk rfl (fk rfl (fk rfl (fk rfl fn)))) ?_
    refine cg_seq ?_
    refine cg_region ?_
    refine lsw (want_none (by rfl)) (y_assign rfl rfl) rfl (by decide) ?_
    refine lg_nil ?_
    refine nx (E' := [(0, _), (1, _), (4, _), (5, _), (6, _)]) (fk rfl (fk rfl (fk rfl (fk rfl (fk rfl fn))))) ?_
    refine cg_seq ?_
    refine cg_seq ?_
    refine cg_region ?_
    refine lsw (want_none (by rfl)) (y_assign rfl rfl) rfl (by decide) ?_
    refine lg_nil ?_
    refine nx (E' := [(0, _), (1, _), (4, _), (5, _), (6, _), (7, _)]) (fk rfl (fk rfl (fk rfl (fk rfl (fk rfl (fk rfl fn)))))) ?_
    refine cg_block ?_
    refine cg_loopE (fun t a v => ∃ (n : Int) (i : Int), Holds 83 [(0, nv x), (1, nv w), (5, .bool true), (6, nv n), (7, nv i)] a ∧ v = W ∧ Tb v ∧ i = (t : Int) ∧ n = pw (t : Int) ∧ i ≤ lvl (rootI w)) 7 (fun a ha => ⟨1, 0, ha.keep (fk rfl (fk rfl (fk rfl (fk rfl (fk rfl fn))))), rfl, rg, rfl, rfl, (fin2 (p := fun x w => 0 ≤ lvl (rootI w)) (by kernel_rfl) hn)⟩) ?_
    rintro t a v ht ⟨n, i, ha, hv, rg, hi, hp, hik⟩
    refine cg_at ha ?_
    clear ha a
    have f2 : lvl (rootI w) ≤ 6 := fin2 (p := fun x w => lvl (rootI w) ≤ 6) (by kernel_rfl) hn
    have hb := pw_bound (k := t) (by omega)
    refine cg_seq ?_
    refine cg_seq ?_
    refine cg_region ?_
    refine lsw (want_none (by rfl)) (y_move rfl rfl) rfl (by decide) ?_
    refine lsw (want_none (by rfl)) (y_move rfl rfl) rfl (by decide) ?_
    refine lsw (want_none (by rfl)) (y_call (root_any w _ rg) (by kernel_rfl) rfl rfl) rfl (by decide) ?_
    refine lsw (want_none (by rfl)) (y_call (level_any (rootI w) _ rg) (by kernel_rfl) rfl rfl) rfl (by decide) ?_
    by_cases c3 : i < (lvl (rootI w))
    · refine lsw (want_none (by rfl)) (yb (decide_eq_true c3) (yi_lss rfl rfl rfl)) rfl (by decide) ?_
      refine lsw (want_none (by rfl)) (y_move rfl rfl) rfl (by decide) ?_
      refine lsw (want_t (dj := 21) (by rfl) (by kernel_rfl) rfl) (y_move rfl rfl) rfl (by decide) ?_
      refine lsw (want_t (dj := 21) (by rfl) (by kernel_rfl) rfl) (yb (decide_eq_true (by omega)) (yi_lss rfl rfl rfl)) rfl (by decide) ?_
      refine lsw (want_none (by rfl)) (y_pick true rfl rfl rfl) rfl (by decide) ?_
      refine lg_nil ?_
      refine nx (E' := [(0, _), (1, _), (5, _), (6, _), (7, _), (16, _), (17, _), (18, _), (19, _), (20, _), (21, _), (22, _), (23, _), (24, _)]) (fk rfl (fk rfl (fk rfl (fk rfl (fk rfl (fk rfl (fk rfl (fk rfl (fk rfl (fk rfl (fk rfl (fk rfl (fk rfl (fk rfl fn)))))))))))))) ?_
      refine cg_ct rfl ?_
      refine cg_skip ?_
      refine nx (E' := [(0, _), (1, _), (5, _), (6, _), (7, _), (16, _), (17, _), (18, _), (19, _), (20, _), (21, _), (22, _), (23, _), (24, _)]) (fk rfl (fk rfl (fk rfl (fk rfl (fk rfl (fk rfl (fk rfl (fk rfl (fk rfl (fk rfl (fk rfl (fk rfl (fk rfl (fk rfl fn)))))))))))))) ?_
      refine cg_seq ?_
      refine cg_block ?_
      refine cg_region ?_
      refine lsw (want_none (by rfl)) (y_move rfl rfl) rfl (by decide) ?_
      refine lsw (want_none (by rfl)) (yi_mul rfl rfl rfl (by omega) (by omega)) rfl (by decide) ?_
      refine lsw (want_none (by rfl)) (y_assign rfl rfl) rfl (by decide) ?_
      refine lg_nil ?_
      refine eg_block_norm ?_
      refine nx (E' := [(0, _), (1, _), (5, _), (7, _), (16, _), (17, _), (18, _), (19, _), (20, _), (21, _), (22, _), (23, _), (24, _), (27, _), (28, _), (6, _)]) (fk rfl (fk rfl (fk rfl (fk rfl (fk rfl (fk rfl (fk rfl (fk rfl (fk rfl (fk rfl (fk rfl (fk rfl (fk rfl (fk rfl (fk rfl (fk rfl fn)))))))))))))))) ?_
      refine cg_region ?_
      refine lsw (want_none (by rfl)) (y_move rfl rfl) rfl (by decide) ?_
      refine lsw (want_none (by rfl)) (yi_add rfl rfl rfl (by omega) (by omega)) rfl (by decide) ?_
      refine lsw (want_none (by rfl)) (y_assign rfl rfl) rfl (by decide) ?_
      refine lg_nil ?_
      exact fun a ha => (show t < 7 ∧ _ from ⟨(by omega), (2 * n), (i + 1), ha.keep (fk rfl (fk rfl (fk rfl (fk rfl (fk rfl fn))))), hv, rg, (by omega), (by rw [hp]; exact pw_succ.symm), (by omega)⟩)
    · refine lsw (want_none (by rfl)) (yb (decide_eq_false c3) (yi_lss rfl rfl rfl)) rfl (by decide) ?_
      refine lsw (want_none (by rfl)) (y_move rfl rfl) rfl (by decide) ?_
      refine lsk (want_f (dj := 21) (by rfl) (by kernel_rfl) rfl) rfl (by decide) ?_
      refine lsk (want_f (dj := 21) (by rfl) (by kernel_rfl) rfl) rfl (by decide) ?_
      refine lsw (want_none (by rfl)) (y_pick false rfl rfl rfl) rfl (by decide) ?_
      refine lg_nil ?_
      refine nx (E' := [(0, _), (1, _), (5, _), (6, _), (7, _), (16, _), (17, _), (18, _), (19, _), (20, _), (21, _), (24, _)]) (fk rfl (fk rfl (fk rfl (fk rfl (fk rfl (fk rfl (fk rfl (fk rfl (fk rfl (fk rfl (fk rfl (fk rfl fn)))))))))))) ?_
      refine cg_cf rfl ?_
      obtain rfl : n = pw (lvl (rootI w)) := by rw [hp, show lvl (rootI w) = (t : Int) by omega]
      refine cg_exit ?_
      refine eg_seq_exit ?_
      refine eg_seq_exit ?_
      refine eg_block_exit ?_
      refine nx (E' := [(0, _), (1, _), (5, _), (6, _)]) (fk rfl (fk rfl (fk rfl (fk rfl fn)))) ?_
      refine cg_seq ?_
      refine cg_region ?_
      refine lsw (want_none (by rfl)) (y_assign rfl rfl) rfl (by decide) ?_
      refine lg_nil ?_
      refine nx (E' := [(0, _), (1, _), (5, _), (6, _), (8, _)]) (fk rfl (fk rfl (fk rfl (fk rfl (fk rfl fn))))) ?_
      refine cg_seq ?_
      refine cg_seq ?_
      refine cg_region ?_
      refine lsw (want_none (by rfl)) (y_assign rfl rfl) rfl (by decide) ?_
      refine lg_nil ?_
      refine nx (E' := [(0, _), (1, _), (5, _), (6, _), (8, _), (9, _)]) (fk rfl (fk rfl (fk rfl (fk rfl (fk rfl (fk rfl fn)))))) ?_
      refine cg_block ?_
      refine cg_loopE (fun s a v => ∃ (q : Int) (j : Int), Holds 83 [(0, nv x), (1, nv w), (5, .bool true), (6, nv (pw (lvl (rootI w)))), (8, nv q), (9, nv j)] a ∧ v = W ∧ Tb v ∧ j = (s : Int) ∧ q = pw (s : Int) ∧ j ≤ lvl x) 7 (fun a ha => ⟨1, 0, ha.keep (fk rfl (fk rfl (fk rfl (fk rfl (fk rfl (fk rfl fn)))))), hv, rg, rfl, rfl, (fin2 (p := fun x w => 0 ≤ lvl x) (by kernel_rfl) hn)⟩) ?_
      rintro s a v ht ⟨q, j, ha, hv, rg, hj, hq, hjk⟩
      refine cg_at ha ?_
      clear ha a
      have f4 : lvl x ≤ 6 := fin2 (p := fun x w => lvl x ≤ 6) (by kernel_rfl) hn
      have hb := pw_bound (k := s) (by omega)
      refine cg_seq ?_
      refine cg_seq ?_
      refine cg_region ?_
      refine lsw (want_none (by rfl)) (y_move rfl rfl) rfl (by decide) ?_
      refine lsw (want_none (by rfl)) (y_move rfl rfl) rfl (by decide) ?_
      refine lsw (want_none (by rfl)) (y_call (level_any x _ rg) (by kernel_rfl) rfl rfl) rfl (by decide) ?_
      by_cases c5 : j < (lvl x)
      · refine lsw (want_none (by rfl)) (yb (decide_eq_true c5) (yi_lss rfl rfl rfl)) rfl (by decide) ?_
        refine lsw (want_none (by rfl)) (y_move rfl rfl) rfl (by decide) ?_
        refine lsw (want_t (dj := 33) (by rfl) (by kernel_rfl) rfl) (y_move rfl rfl) rfl (by decide) ?_
        refine lsw (want_t (dj := 33) (by rfl) (by kernel_rfl) rfl) (yb (decide_eq_true (by omega)) (yi_lss rfl rfl rfl)) rfl (by decide) ?_
        refine lsw (want_none (by rfl)) (y_pick true rfl rfl rfl) rfl (by decide) ?_
        refine lg_nil ?_
        refine nx (E' := [(0, _), (1, _), (5, _), (6, _), (8, _), (9, _), (29, _), (30, _), (31, _), (32, _), (33, _), (34, _), (35, _), (36, _)]) (fk rfl (fk rfl (fk rfl (fk rfl (fk rfl (fk rfl (fk rfl (fk rfl (fk rfl (fk rfl (fk rfl (fk rfl (fk rfl (fk rfl fn)))))))))))))) ?_
        refine cg_ct rfl ?_
        refine cg_skip ?_
        refine nx (E' := [(0, _), (1, _), (5, _), (6, _), (8, _), (9, _), (29, _), (30, _), (31, _), (32, _), (33, _), (34, _), (35, _), (36, _)]) (fk rfl (fk rfl (fk rfl (fk rfl (fk rfl (fk rfl (fk rfl (fk rfl (fk rfl (fk rfl (fk rfl (fk rfl (fk rfl (fk rfl fn)))))))))))))) ?_
        refine cg_seq ?_
        refine cg_block ?_
        refine cg_region ?_
        refine lsw (want_none (by rfl)) (y_move rfl rfl) rfl (by decide) ?_
        refine lsw (want_none (by rfl)) (yi_mul rfl rfl rfl (by omega) (by omega)) rfl (by decide) ?_
        refine lsw (want_none (by rfl)) (y_assign rfl rfl) rfl (by decide) ?_
        refine lg_nil ?_
        refine eg_block_norm ?_
        refine nx (E' := [(0, _), (1, _), (5, _), (6, _), (9, _), (29, _), (30, _), (31, _), (32, _), (33, _), (34, _), (35, _), (36, _), (39, _), (40, _), (8, _)]) (fk rfl (fk rfl (fk rfl (fk rfl (fk rfl (fk rfl (fk rfl (fk rfl (fk rfl (fk rfl (fk rfl (fk rfl (fk rfl (fk rfl (fk rfl (fk rfl fn)))))))))))))))) ?_
        refine cg_region ?_
        refine lsw (want_none (by rfl)) (y_move rfl rfl) rfl (by decide) ?_
        refine lsw (want_none (by rfl)) (yi_add rfl rfl rfl (by omega) (by omega)) rfl (by decide) ?_
        refine lsw (want_none (by rfl)) (y_assign rfl rfl) rfl (by decide) ?_
        refine lg_nil ?_
        exact fun a ha => (show s < 7 ∧ _ from ⟨(by omega), (2 * q), (j + 1), ha.keep (fk rfl (fk rfl (fk rfl (fk rfl (fk rfl (fk rfl fn)))))), hv, rg, (by omega), (by rw [hq]; exact pw_succ.symm), (by omega)⟩)
      · refine lsw (want_none (by rfl)) (yb (decide_eq_false c5) (yi_lss rfl rfl rfl)) rfl (by decide) ?_
        refine lsw (want_none (by rfl)) (y_move rfl rfl) rfl (by decide) ?_
        refine lsk (want_f (dj := 33) (by rfl) (by kernel_rfl) rfl) rfl (by decide) ?_
        refine lsk (want_f (dj := 33) (by rfl) (by kernel_rfl) rfl) rfl (by decide) ?_
        refine lsw (want_none (by rfl)) (y_pick false rfl rfl rfl) rfl (by decide) ?_
        refine lg_nil ?_
        refine nx (E' := [(0, _), (1, _), (5, _), (6, _), (8, _), (9, _), (29, _), (30, _), (31, _), (32, _), (33, _), (36, _)]) (fk rfl (fk rfl (fk rfl (fk rfl (fk rfl (fk rfl (fk rfl (fk rfl (fk rfl (fk rfl (fk rfl (fk rfl fn)))))))))))) ?_
        refine cg_cf rfl ?_
        obtain rfl : q = pw (lvl x) := by rw [hq, show lvl x = (s : Int) by omega]
        refine cg_exit ?_
        refine eg_seq_exit ?_
        refine eg_seq_exit ?_
        refine eg_block_exit ?_
        refine nx (E' := [(0, _), (1, _), (5, _), (6, _), (8, _)]) (fk rfl (fk rfl (fk rfl (fk rfl (fk rfl fn))))) ?_
        refine cg_seq ?_
        refine cg_region ?_
        refine lsw (want_none (by rfl)) (y_move rfl rfl) rfl (by decide) ?_
        refine lsw (want_none (by rfl)) (y_move rfl rfl) rfl (by decide) ?_
        refine lsw (want_t (dj := 42) (by rfl) (by kernel_rfl) rfl) (y_move rfl rfl) rfl (by decide) ?_
        have f6 : 0 ≤ x := fin2 (p := fun x w => 0 ≤ x) (by kernel_rfl) hn
        refine lsw (want_t (dj := 42) (by rfl) (by kernel_rfl) rfl) (yi_rem rfl rfl rfl f6 (by decide)) rfl (by decide) ?_
        by_cases c7 : (x % 2) = 0
        · have f8 : (x % 2) = 0 := fin2 (p := fun x w => (x % 2) = 0 → (x % 2) = 0) (by kernel_rfl) hn c7
          refine lsw (want_t (dj := 42) (by rfl) (by kernel_rfl) rfl) (yb (decide_eq_true f8) (yi_eql rfl rfl rfl)) rfl (by decide) ?_
          refine lsw (want_t (dj := 42) (by rfl) (by kernel_rfl) rfl) (y_move rfl rfl) rfl (by decide) ?_
          refine lsw (want_t (dj := 42) (by rfl) (by kernel_rfl) rfl) (y_call (level_any x _ rg) (by kernel_rfl) rfl rfl) rfl (by decide) ?_
          have f9 : (lvl x) = 0 := fin2 (p := fun x w => (x % 2) = 0 → (lvl x) = 0) (by kernel_rfl) hn c7
          refine lsw (want_t (dj := 42) (by rfl) (by kernel_rfl) rfl) (yb (decide_eq_true f9) (yi_eql rfl rfl rfl)) rfl (by decide) ?_
          refine lsw (want_t (dj := 42) (by rfl) (by kernel_rfl) rfl) (yb (b := (true == true)) (show (true == true) = true from rfl) (y_beq (a := true) (b := true) hubo rfl rfl rfl)) rfl (by decide) ?_
          refine lsw (want_none (by rfl)) (y_pick true rfl rfl rfl) rfl (by decide) ?_
          refine lsw (want_none (by rfl)) (y_move rfl rfl) rfl (by decide) ?_
          refine lsw (want_t (dj := 51) (by rfl) (by kernel_rfl) rfl) (y_move rfl rfl) rfl (by decide) ?_
          have f10 : -9223372036854775808 ≤ (2 * (pw (lvl (rootI w)))) ∧ (2 * (pw (lvl (rootI w)))) < 9223372036854775808 := fin2 (p := fun x w => (x % 2) = 0 → -9223372036854775808 ≤ (2 * (pw (lvl (rootI w)))) ∧ (2 * (pw (lvl (rootI w)))) < 9223372036854775808) (by kernel_rfl) hn c7
          refine lsw (want_t (dj := 51) (by rfl) (by kernel_rfl) rfl) (yi_mul rfl rfl rfl f10.1 f10.2) rfl (by decide) ?_
          have f11 : -9223372036854775808 ≤ ((2 * (pw (lvl (rootI w)))) - 1) ∧ ((2 * (pw (lvl (rootI w)))) - 1) < 9223372036854775808 := fin2 (p := fun x w => (x % 2) = 0 → -9223372036854775808 ≤ ((2 * (pw (lvl (rootI w)))) - 1) ∧ ((2 * (pw (lvl (rootI w)))) - 1) < 9223372036854775808) (by kernel_rfl) hn c7
          refine lsw (want_t (dj := 51) (by rfl) (by kernel_rfl) rfl) (yi_sub rfl rfl rfl f11.1 f11.2) rfl (by decide) ?_
          refine lsw (want_t (dj := 51) (by rfl) (by kernel_rfl) rfl) (y_move rfl rfl) rfl (by decide) ?_
          have f12 : ((2 * (pw (lvl (rootI w)))) - 1) = w := fin2 (p := fun x w => (x % 2) = 0 → ((2 * (pw (lvl (rootI w)))) - 1) = w) (by kernel_rfl) hn c7
          refine lsw (want_t (dj := 51) (by rfl) (by kernel_rfl) rfl) (yb (decide_eq_true f12) (yi_eql rfl rfl rfl)) rfl (by decide) ?_
          refine lsw (want_none (by rfl)) (y_pick true rfl rfl rfl) rfl (by decide) ?_
          refine lsw (want_none (by rfl)) (y_move rfl rfl) rfl (by decide) ?_
          refine lsw (want_t (dj := 58) (by rfl) (by kernel_rfl) rfl) (y_move rfl rfl) rfl (by decide) ?_
          refine lsw (want_t (dj := 58) (by rfl) (by kernel_rfl) rfl) (y_move rfl rfl) rfl (by decide) ?_
          have f13 : -9223372036854775808 ≤ ((pw (lvl x)) - 1) ∧ ((pw (lvl x)) - 1) < 9223372036854775808 := fin2 (p := fun x w => (x % 2) = 0 → -9223372036854775808 ≤ ((pw (lvl x)) - 1) ∧ ((pw (lvl x)) - 1) < 9223372036854775808) (by kernel_rfl) hn c7
          refine lsw (want_t (dj := 58) (by rfl) (by kernel_rfl) rfl) (yi_sub rfl rfl rfl f13.1 f13.2) rfl (by decide) ?_
          have f14 : -9223372036854775808 ≤ (x - ((pw (lvl x)) - 1)) ∧ (x - ((pw (lvl x)) - 1)) < 9223372036854775808 := fin2 (p := fun x w => (x % 2) = 0 → -9223372036854775808 ≤ (x - ((pw (lvl x)) - 1)) ∧ (x - ((pw (lvl x)) - 1)) < 9223372036854775808) (by kernel_rfl) hn c7
          refine lsw (want_t (dj := 58) (by rfl) (by kernel_rfl) rfl) (yi_sub rfl rfl rfl f14.1 f14.2) rfl (by decide) ?_
          have f15 : 0 ≤ (x - ((pw (lvl x)) - 1)) := fin2 (p := fun x w => (x % 2) = 0 → 0 ≤ (x - ((pw (lvl x)) - 1))) (by kernel_rfl) hn c7
          refine lsw (want_t (dj := 58) (by rfl) (by kernel_rfl) rfl) (yb (decide_eq_true f15) (yi_geq rfl rfl rfl)) rfl (by decide) ?_
          refine lsw (want_none (by rfl)) (y_pick true rfl rfl rfl) rfl (by decide) ?_
          refine lsw (want_none (by rfl)) (y_move rfl rfl) rfl (by decide) ?_
          refine lsw (want_t (dj := 65) (by rfl) (by kernel_rfl) rfl) (y_move rfl rfl) rfl (by decide) ?_
          refine lsw (want_t (dj := 65) (by rfl) (by kernel_rfl) rfl) (y_move rfl rfl) rfl (by decide) ?_
          have f16 : -9223372036854775808 ≤ ((pw (lvl x)) - 1) ∧ ((pw (lvl x)) - 1) < 9223372036854775808 := fin2 (p := fun x w => (x % 2) = 0 → -9223372036854775808 ≤ ((pw (lvl x)) - 1) ∧ ((pw (lvl x)) - 1) < 9223372036854775808) (by kernel_rfl) hn c7
          refine lsw (want_t (dj := 65) (by rfl) (by kernel_rfl) rfl) (yi_sub rfl rfl rfl f16.1 f16.2) rfl (by decide) ?_
          have f17 : -9223372036854775808 ≤ (x + ((pw (lvl x)) - 1)) ∧ (x + ((pw (lvl x)) - 1)) < 9223372036854775808 := fin2 (p := fun x w => (x % 2) = 0 → -9223372036854775808 ≤ (x + ((pw (lvl x)) - 1)) ∧ (x + ((pw (lvl x)) - 1)) < 9223372036854775808) (by kernel_rfl) hn c7
          refine lsw (want_t (dj := 65) (by rfl) (by kernel_rfl) rfl) (yi_add rfl rfl rfl f17.1 f17.2) rfl (by decide) ?_
          refine lsw (want_t (dj := 65) (by rfl) (by kernel_rfl) rfl) (y_move rfl rfl) rfl (by decide) ?_
          have f18 : (x + ((pw (lvl x)) - 1)) < w := fin2 (p := fun x w => (x % 2) = 0 → (x + ((pw (lvl x)) - 1)) < w) (by kernel_rfl) hn c7
          refine lsw (want_t (dj := 65) (by rfl) (by kernel_rfl) rfl) (yb (decide_eq_true f18) (yi_lss rfl rfl rfl)) rfl (by decide) ?_
          refine lsw (want_none (by rfl)) (y_pick true rfl rfl rfl) rfl (by decide) ?_
          refine lsw (want_none (by rfl)) (y_move rfl rfl) rfl (by decide) ?_
          refine lsw (want_t (dj := 73) (by rfl) (by kernel_rfl) rfl) (y_move rfl rfl) rfl (by decide) ?_
          refine lsw (want_t (dj := 73) (by rfl) (by kernel_rfl) rfl) (y_move rfl rfl) rfl (by decide) ?_
          have f19 : -9223372036854775808 ≤ ((pw (lvl x)) - 1) ∧ ((pw (lvl x)) - 1) < 9223372036854775808 := fin2 (p := fun x w => (x % 2) = 0 → -9223372036854775808 ≤ ((pw (lvl x)) - 1) ∧ ((pw (lvl x)) - 1) < 9223372036854775808) (by kernel_rfl) hn c7
          refine lsw (want_t (dj := 73) (by rfl) (by kernel_rfl) rfl) (yi_sub rfl rfl rfl f19.1 f19.2) rfl (by decide) ?_
          have f20 : -9223372036854775808 ≤ (x - ((pw (lvl x)) - 1)) ∧ (x - ((pw (lvl x)) - 1)) < 9223372036854775808 := fin2 (p := fun x w => (x % 2) = 0 → -9223372036854775808 ≤ (x - ((pw (lvl x)) - 1)) ∧ (x - ((pw (lvl x)) - 1)) < 9223372036854775808) (by kernel_rfl) hn c7
          refine lsw (want_t (dj := 73) (by rfl) (by kernel_rfl) rfl) (yi_sub rfl rfl rfl f20.1 f20.2) rfl (by decide) ?_
          refine lsw (want_t (dj := 73) (by rfl) (by kernel_rfl) rfl) (y_move rfl rfl) rfl (by decide) ?_
          have f21 : -9223372036854775808 ≤ (2 * (pw (lvl x))) ∧ (2 * (pw (lvl x))) < 9223372036854775808 := fin2 (p := fun x w => (x % 2) = 0 → -9223372036854775808 ≤ (2 * (pw (lvl x))) ∧ (2 * (pw (lvl x))) < 9223372036854775808) (by kernel_rfl) hn c7
          refine lsw (want_t (dj := 73) (by rfl) (by kernel_rfl) rfl) (yi_mul rfl rfl rfl f21.1 f21.2) rfl (by decide) ?_
          have f22 : 0 ≤ (x - ((pw (lvl x)) - 1)) := fin2 (p := fun x w => (x % 2) = 0 → 0 ≤ (x - ((pw (lvl x)) - 1))) (by kernel_rfl) hn c7
          have f23 : 0 < (2 * (pw (lvl x))) := fin2 (p := fun x w => (x % 2) = 0 → 0 < (2 * (pw (lvl x)))) (by kernel_rfl) hn c7
          refine lsw (want_t (dj := 73) (by rfl) (by kernel_rfl) rfl) (yi_rem rfl rfl rfl f22 f23) rfl (by decide) ?_
          have f24 : ((x - ((pw (lvl x)) - 1)) % (2 * (pw (lvl x)))) = 0 := fin2 (p := fun x w => (x % 2) = 0 → ((x - ((pw (lvl x)) - 1)) % (2 * (pw (lvl x)))) = 0) (by kernel_rfl) hn c7
          refine lsw (want_t (dj := 73) (by rfl) (by kernel_rfl) rfl) (yb (decide_eq_true f24) (yi_eql rfl rfl rfl)) rfl (by decide) ?_
          refine lsw (want_none (by rfl)) (y_pick true rfl rfl rfl) rfl (by decide) ?_
          refine lsw (want_none (by rfl)) (y_assign rfl rfl) rfl (by decide) ?_
          refine lg_nil ?_
          refine nx (E' := [(4, _)]) (fk rfl fn) ?_
          refine cg_ret ?_
          exact eg_ret_tmp rfl rfl ⟨rfl, hv⟩
        · have f25 : ¬ ((x % 2) = 0) := fin2 (p := fun x w => ¬ ((x % 2) = 0) → ¬ ((x % 2) = 0)) (by kernel_rfl) hn c7
          refine lsw (want_t (dj := 42) (by rfl) (by kernel_rfl) rfl) (yb (decide_eq_false f25) (yi_eql rfl rfl rfl)) rfl (by decide) ?_
          refine lsw (want_t (dj := 42) (by rfl) (by kernel_rfl) rfl) (y_move rfl rfl) rfl (by decide) ?_
          refine lsw (want_t (dj := 42) (by rfl) (by kernel_rfl) rfl) (y_call (level_any x _ rg) (by kernel_rfl) rfl rfl) rfl (by decide) ?_
          have f26 : ¬ ((lvl x) = 0) := fin2 (p := fun x w => ¬ ((x % 2) = 0) → ¬ ((lvl x) = 0)) (by kernel_rfl) hn c7
          refine lsw (want_t (dj := 42) (by rfl) (by kernel_rfl) rfl) (yb (decide_eq_false f26) (yi_eql rfl rfl rfl)) rfl (by decide) ?_
          refine lsw (want_t (dj := 42) (by rfl) (by kernel_rfl) rfl) (yb (b := (false == false)) (show (false == false) = true from rfl) (y_beq (a := false) (b := false) hubo rfl rfl rfl)) rfl (by decide) ?_
          refine lsw (want_none (by rfl)) (y_pick true rfl rfl rfl) rfl (by decide) ?_
          refine lsw (want_none (by rfl)) (y_move rfl rfl) rfl (by decide) ?_
          refine lsw (want_t (dj := 51) (by rfl) (by kernel_rfl) rfl) (y_move rfl rfl) rfl (by decide) ?_
          have f27 : -9223372036854775808 ≤ (2 * (pw (lvl (rootI w)))) ∧ (2 * (pw (lvl (rootI w)))) < 9223372036854775808 := fin2 (p := fun x w => ¬ ((x % 2) = 0) → -9223372036854775808 ≤ (2 * (pw (lvl (rootI w)))) ∧ (2 * (pw (lvl (rootI w)))) < 9223372036854775808) (by kernel_rfl) hn c7
          refine lsw (want_t (dj := 51) (by rfl) (by kernel_rfl) rfl) (yi_mul rfl rfl rfl f27.1 f27.2) rfl (by decide) ?_
          have f28 : -9223372036854775808 ≤ ((2 * (pw (lvl (rootI w)))) - 1) ∧ ((2 * (pw (lvl (rootI w)))) - 1) < 9223372036854775808 := fin2 (p := fun x w => ¬ ((x % 2) = 0) → -9223372036854775808 ≤ ((2 * (pw (lvl (rootI w)))) - 1) ∧ ((2 * (pw (lvl (rootI w)))) - 1) < 9223372036854775808) (by kernel_rfl) hn c7
          refine lsw (want_t (dj := 51) (by rfl) (by kernel_rfl) rfl) (yi_sub rfl rfl rfl f28.1 f28.2) rfl (by decide) ?_
          refine lsw (want_t (dj := 51) (by rfl) (by kernel_rfl) rfl) (y_move rfl rfl) rfl (by decide) ?_
          have f29 : ((2 * (pw (lvl (rootI w)))) - 1) = w := fin2 (p := fun x w => ¬ ((x % 2) = 0) → ((2 * (pw (lvl (rootI w)))) - 1) = w) (by kernel_rfl) hn c7
          refine lsw (want_t (dj := 51) (by rfl) (by kernel_rfl) rfl) (yb (decide_eq_true f29) (yi_eql rfl rfl rfl)) rfl (by decide) ?_
          refine lsw (want_none (by rfl)) (y_pick true rfl rfl rfl) rfl (by decide) ?_
          refine lsw (want_none (by rfl)) (y_move rfl rfl) rfl (by decide) ?_
          refine lsw (want_t (dj := 58) (by rfl) (by kernel_rfl) rfl) (y_move rfl rfl) rfl (by decide) ?_
          refine lsw (want_t (dj := 58) (by rfl) (by kernel_rfl) rfl) (y_move rfl rfl) rfl (by decide) ?_
          have f30 : -9223372036854775808 ≤ ((pw (lvl x)) - 1) ∧ ((pw (lvl x)) - 1) < 9223372036854775808 := fin2 (p := fun x w => ¬ ((x % 2) = 0) → -9223372036854775808 ≤ ((pw (lvl x)) - 1) ∧ ((pw (lvl x)) - 1) < 9223372036854775808) (by kernel_rfl) hn c7
          refine lsw (want_t (dj := 58) (by rfl) (by kernel_rfl) rfl) (yi_sub rfl rfl rfl f30.1 f30.2) rfl (by decide) ?_
          have f31 : -9223372036854775808 ≤ (x - ((pw (lvl x)) - 1)) ∧ (x - ((pw (lvl x)) - 1)) < 9223372036854775808 := fin2 (p := fun x w => ¬ ((x % 2) = 0) → -9223372036854775808 ≤ (x - ((pw (lvl x)) - 1)) ∧ (x - ((pw (lvl x)) - 1)) < 9223372036854775808) (by kernel_rfl) hn c7
          refine lsw (want_t (dj := 58) (by rfl) (by kernel_rfl) rfl) (yi_sub rfl rfl rfl f31.1 f31.2) rfl (by decide) ?_
          have f32 : 0 ≤ (x - ((pw (lvl x)) - 1)) := fin2 (p := fun x w => ¬ ((x % 2) = 0) → 0 ≤ (x - ((pw (lvl x)) - 1))) (by kernel_rfl) hn c7
          refine lsw (want_t (dj := 58) (by rfl) (by kernel_rfl) rfl) (yb (decide_eq_true f32) (yi_geq rfl rfl rfl)) rfl (by decide) ?_
          refine lsw (want_none (by rfl)) (y_pick true rfl rfl rfl) rfl (by decide) ?_
          refine lsw (want_none (by rfl)) (y_move rfl rfl) rfl (by decide) ?_
          refine lsw (want_t (dj := 65) (by rfl) (by kernel_rfl) rfl) (y_move rfl rfl) rfl (by decide) ?_
          refine lsw (want_t (dj := 65) (by rfl) (by kernel_rfl) rfl) (y_move rfl rfl) rfl (by decide) ?_
          have f33 : -9223372036854775808 ≤ ((pw (lvl x)) - 1) ∧ ((pw (lvl x)) - 1) < 9223372036854775808 := fin2 (p := fun x w => ¬ ((x % 2) = 0) → -9223372036854775808 ≤ ((pw (lvl x)) - 1) ∧ ((pw (lvl x)) - 1) < 9223372036854775808) (by kernel_rfl) hn c7
          refine lsw (want_t (dj := 65) (by rfl) (by kernel_rfl) rfl) (yi_sub rfl rfl rfl f33.1 f33.2) rfl (by decide) ?_
          have f34 : -9223372036854775808 ≤ (x + ((pw (lvl x)) - 1)) ∧ (x + ((pw (lvl x)) - 1)) < 9223372036854775808 := fin2 (p := fun x w => ¬ ((x % 2) = 0) → -9223372036854775808 ≤ (x + ((pw (lvl x)) - 1)) ∧ (x + ((pw (lvl x)) - 1)) < 9223372036854775808) (by kernel_rfl) hn c7
          refine lsw (want_t (dj := 65) (by rfl) (by kernel_rfl) rfl) (yi_add rfl rfl rfl f34.1 f34.2) rfl (by decide) ?_
          refine lsw (want_t (dj := 65) (by rfl) (by kernel_rfl) rfl) (y_move rfl rfl) rfl (by decide) ?_
          have f35 : (x + ((pw (lvl x)) - 1)) < w := fin2 (p := fun x w => ¬ ((x % 2) = 0) → (x + ((pw (lvl x)) - 1)) < w) (by kernel_rfl) hn c7
          refine lsw (want_t (dj := 65) (by rfl) (by kernel_rfl) rfl) (yb (decide_eq_true f35) (yi_lss rfl rfl rfl)) rfl (by decide) ?_
          refine lsw (want_none (by rfl)) (y_pick true rfl rfl rfl) rfl (by decide) ?_
          refine lsw (want_none (by rfl)) (y_move rfl rfl) rfl (by decide) ?_
          refine lsw (want_t (dj := 73) (by rfl) (by kernel_rfl) rfl) (y_move rfl rfl) rfl (by decide) ?_
          refine lsw (want_t (dj := 73) (by rfl) (by kernel_rfl) rfl) (y_move rfl rfl) rfl (by decide) ?_
          have f36 : -9223372036854775808 ≤ ((pw (lvl x)) - 1) ∧ ((pw (lvl x)) - 1) < 9223372036854775808 := fin2 (p := fun x w => ¬ ((x % 2) = 0) → -9223372036854775808 ≤ ((pw (lvl x)) - 1) ∧ ((pw (lvl x)) - 1) < 9223372036854775808) (by kernel_rfl) hn c7
          refine lsw (want_t (dj := 73) (by rfl) (by kernel_rfl) rfl) (yi_sub rfl rfl rfl f36.1 f36.2) rfl (by decide) ?_
          have f37 : -9223372036854775808 ≤ (x - ((pw (lvl x)) - 1)) ∧ (x - ((pw (lvl x)) - 1)) < 9223372036854775808 := fin2 (p := fun x w => ¬ ((x % 2) = 0) → -9223372036854775808 ≤ (x - ((pw (lvl x)) - 1)) ∧ (x - ((pw (lvl x)) - 1)) < 9223372036854775808) (by kernel_rfl) hn c7
          refine lsw (want_t (dj := 73) (by rfl) (by kernel_rfl) rfl) (yi_sub rfl rfl rfl f37.1 f37.2) rfl (by decide) ?_
          refine lsw (want_t (dj := 73) (by rfl) (by kernel_rfl) rfl) (y_move rfl rfl) rfl (by decide) ?_
          have f38 : -9223372036854775808 ≤ (2 * (pw (lvl x))) ∧ (2 * (pw (lvl x))) < 9223372036854775808 := fin2 (p := fun x w => ¬ ((x % 2) = 0) → -9223372036854775808 ≤ (2 * (pw (lvl x))) ∧ (2 * (pw (lvl x))) < 9223372036854775808) (by kernel_rfl) hn c7
          refine lsw (want_t (dj := 73) (by rfl) (by kernel_rfl) rfl) (yi_mul rfl rfl rfl f38.1 f38.2) rfl (by decide) ?_
          have f39 : 0 ≤ (x - ((pw (lvl x)) - 1)) := fin2 (p := fun x w => ¬ ((x % 2) = 0) → 0 ≤ (x - ((pw (lvl x)) - 1))) (by kernel_rfl) hn c7
          have f40 : 0 < (2 * (pw (lvl x))) := fin2 (p := fun x w => ¬ ((x % 2) = 0) → 0 < (2 * (pw (lvl x)))) (by kernel_rfl) hn c7
          refine lsw (want_t (dj := 73) (by rfl) (by kernel_rfl) rfl) (yi_rem rfl rfl rfl f39 f40) rfl (by decide) ?_
          have f41 : ((x - ((pw (lvl x)) - 1)) % (2 * (pw (lvl x)))) = 0 := fin2 (p := fun x w => ¬ ((x % 2) = 0) → ((x - ((pw (lvl x)) - 1)) % (2 * (pw (lvl x)))) = 0) (by kernel_rfl) hn c7
          refine lsw (want_t (dj := 73) (by rfl) (by kernel_rfl) rfl) (yb (decide_eq_true f41) (yi_eql rfl rfl rfl)) rfl (by decide) ?_
          refine lsw (want_none (by rfl)) (y_pick true rfl rfl rfl) rfl (by decide) ?_
          refine lsw (want_none (by rfl)) (y_assign rfl rfl) rfl (by decide) ?_
          refine lg_nil ?_
          refine nx (E' := [(4, _)]) (fk rfl fn) ?_
          refine cg_ret ?_
          exact eg_ret_tmp rfl rfl ⟨rfl, hv⟩
  · refine calls_cg (n := 83) Tryd.func7 rfl Tryd.ntmps7 (by simp) ?_
    show CG _ _ _ [(0, nv x), (1, nv w)] _ _
    refine cg_seq ?_
    refine cg_region ?_
    refine lsw (want_none (by rfl)) (y_assign rfl rfl) rfl (by decide) ?_
    refine lg_nil ?_
    refine nx (E' := [(0, _), (1, _), (4, _)]) (fk rfl (fk rfl (fk rfl fn))) ?_
    refine cg_seq ?_
    refine cg_region ?_
    refine lsw (want_none (by rfl)) (y_call (awake_any _ rg) (by kernel_rfl) rfl rfl) rfl (by decide) ?_
    refine lsw (want_none (by rfl)) (y_assign rfl rfl) rfl (by decide) ?_
    refine lg_nil ?_
    refine nx (E' := [(0, _), (1, _), (4, _), (5, _)]) (fk rfl (fk rfl (fk rfl (fk rfl fn)))) ?_
    refine cg_seq ?_
    refine cg_seq ?_
    refine cg_region ?_
    refine lsw (want_none (by rfl)) (y_move rfl rfl) rfl (by decide) ?_
    refine lsw (want_none (by rfl)) (y_move rfl rfl) rfl (by decide) ?_
    refine lsw (want_none (by rfl)) (yb (decide_eq_false hn) (y_call (is_any x w _ rg) (by kernel_rfl) rfl rfl)) rfl (by decide) ?_
    refine lsw (want_none (by rfl)) (y_bnot rfl rfl) rfl (by decide) ?_
    refine lg_nil ?_
    refine nx (E' := [(0, _), (1, _), (4, _), (5, _), (14, _)]) (fk rfl (fk rfl (fk rfl (fk rfl (fk rfl fn))))) ?_
    refine cg_ct rfl ?_
    refine cg_seq ?_
    refine cg_region ?_
    refine lsw (want_none (by rfl)) (y_move rfl rfl) rfl (by decide) ?_
    refine lsw (want_none (by rfl)) (y_assign rfl rfl) rfl (by decide) ?_
    refine lg_nil ?_
    refine nx (E' := [(0, _), (1, _), (5, _), (4, _)]) (fk rfl (fk rfl (fk rfl (fk rfl fn)))) ?_
    refine cg_ret ?_
    refine eg_seq_ret ?_
    exact eg_ret_tmp rfl rfl ⟨rfl, rfl⟩
end Go.Proofs.YtbobdjimilcohaaDoor
