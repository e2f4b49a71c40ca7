/-
  Leaves stand in a row.
-/
import Derived.Test.YtgcneppjdhnacaaDoorWaAwake
import Derived.Test.YtgcneppjdhnacaaDoorWaMore
namespace Go.Proofs.YtgcneppjdhnacaaDoor
open Go.ChangeShapes Go.WideShapes Go.ChangeAt Go.RowKit
set_option linter.unusedVariables false
set_option maxRecDepth 20000
theorem waBelow_any (x leaf w : Int) (W : World) (rg : Tb W) : Calls Tryd.prog 6 #[nv x, nv leaf, nv w] W fun e W' => ∃ v, e = .returned v ∧ v = .bool true ∧ Below W.heap.size W W' := by
  have hk := and_63 leaf
  obtain ⟨k, ek⟩ : ∃ k, bits .and .i64 leaf 63 = k := ⟨_, rfl⟩
  rw [ek] at hk
  by_cases hn : isN x w
  · refine calls_cg (n := 121) Tryd.func6 rfl Tryd.ntmps6 (by simp) ?_
    show CG _ _ _ [(0, nv x), (1, nv leaf), (2, nv w)] _ _
    have u := Below.refl W.heap.size W
    have lh := low_hig2 hn
    refine cg_seq ?_
    refine cg_region ?_
    refine lsw (want_none (by rfl)) (y_assign rfl rfl) rfl (by decide) ?_
    refine lg_nil ?_
    refine nx (E' := [(0, _), (1, _), (2, _), (6, _)]) (fk rfl (fk rfl (fk rfl (fk rfl fn)))) ?_
    refine cg_seq ?_
    refine cg_region ?_
    refine lg_callw (want_none (by rfl)) (wawake_any _ (rg.up u)) (by kernel_rfl) rfl rfl rfl (by decide) ?_
    rintro _ w1 ⟨rfl, hw1⟩
    have zw1 := hw1.size
    refine lsw (want_none (by rfl)) (y_assign rfl rfl) rfl (by decide) ?_
    refine lg_nil ?_
    refine nx (E' := [(0, _), (1, _), (2, _), (6, _), (7, _)]) (fk rfl (fk rfl (fk rfl (fk rfl (fk rfl fn))))) ?_
    refine cg_seq ?_
    refine cg_region ?_
    refine lsw (want_none (by rfl)) (y_move rfl rfl) rfl (by decide) ?_
    refine lsw (want_none (by rfl)) (y_move rfl rfl) rfl (by decide) ?_
    have u := u.trans (hw1.mono u.size)
    refine lsw (want_none (by rfl)) (y_call (below_any x w _ (rg.up u)) (by kernel_rfl) rfl rfl) rfl (by decide) ?_
    refine lsw (want_none (by rfl)) (y_move rfl rfl) rfl (by decide) ?_
    refine lsw (want_none (by rfl)) (y_extract rfl rfl rfl) rfl (by decide) ?_
    refine lsw (want_none (by rfl)) (y_extract rfl rfl rfl) rfl (by decide) ?_
    refine lsw (want_none (by rfl)) (y_assign rfl rfl) rfl (by decide) ?_
    refine lsw (want_none (by rfl)) (y_assign rfl rfl) rfl (by decide) ?_
    refine lg_nil ?_
    refine nx (E' := [(0, _), (1, _), (2, _), (6, _), (7, _), (8, _), (9, _)]) (fk rfl (fk rfl (fk rfl (fk rfl (fk rfl (fk rfl (fk rfl fn))))))) ?_
    refine cg_seq ?_
    refine cg_seq ?_
    refine cg_region ?_
    refine lsw (want_none (by rfl)) (y_move rfl rfl) rfl (by decide) ?_
    refine lsw (want_none (by rfl)) (y_move rfl rfl) rfl (by decide) ?_
    have f2 : isN x w := fin2 (p := fun x w => isN x w) (by kernel_rfl) hn
    refine lsw (want_none (by rfl)) (yb (decide_eq_true f2) (y_call (is_any x w _ (rg.up u)) (by kernel_rfl) rfl rfl)) rfl (by decide) ?_
    refine lsw (want_none (by rfl)) (y_bnot rfl rfl) rfl (by decide) ?_
    refine lg_nil ?_
    refine nx (E' := [(0, _), (1, _), (2, _), (6, _), (7, _), (8, _), (9, _), (27, _)]) (fk rfl (fk rfl (fk rfl (fk rfl (fk rfl (fk rfl (fk rfl (fk rfl fn)))))))) ?_
    refine cg_cf rfl ?_
    refine cg_skip ?_
    refine nx (E' := [(0, _), (1, _), (2, _), (6, _), (7, _), (8, _), (9, _)]) (fk rfl (fk rfl (fk rfl (fk rfl (fk rfl (fk rfl (fk rfl fn))))))) ?_
    refine cg_seq ?_
    refine cg_region ?_
    refine lsw (want_none (by rfl)) (y_assign rfl rfl) rfl (by decide) ?_
    refine lg_nil ?_
    refine nx (E' := [(0, _), (1, _), (2, _), (6, _), (7, _), (8, _), (9, _), (10, _)]) (fk rfl (fk rfl (fk rfl (fk rfl (fk rfl (fk rfl (fk rfl (fk rfl fn)))))))) ?_
    refine cg_seq ?_
    refine cg_seq ?_
    refine cg_region ?_
    refine lsw (want_none (by rfl)) (y_assign rfl rfl) rfl (by decide) ?_
    refine lg_nil ?_
    refine nx (E' := [(0, _), (1, _), (2, _), (6, _), (7, _), (8, _), (9, _), (10, _), (11, _)]) (fk rfl (fk rfl (fk rfl (fk rfl (fk rfl (fk rfl (fk rfl (fk rfl (fk rfl fn))))))))) ?_
    refine cg_block ?_
    refine cg_loopE (fun t a v => ∃ (n : Int) (i : Int), Holds 121 [(0, nv x), (1, nv leaf), (2, nv w), (7, .bool true), (8, nv (lowI x w)), (9, nv (higI x w)), (10, nv n), (11, nv i)] a ∧ Below W.heap.size W v ∧ i = (t : Int) ∧ n = pw (t : Int) ∧ i ≤ lvl x) 7 (fun a ha => ⟨1, 0, ha.keep (fk rfl (fk rfl (fk rfl (fk rfl (fk rfl (fk rfl (fk rfl (fk rfl fn)))))))), u, rfl, rfl, (fin2 (p := fun x w => 0 ≤ lvl x) (by kernel_rfl) hn)⟩) ?_
    rintro t a v ht ⟨n, i, ha, u, hi, hp, hik⟩
    refine cg_at ha ?_
    clear ha a
    have zv := u.size
    have f3 : lvl x ≤ 6 := fin2 (p := fun x w => lvl x ≤ 6) (by kernel_rfl) hn
    have hb := pw_bound (k := t) (by omega)
    refine cg_seq ?_
    refine cg_seq ?_
    refine cg_region ?_
    refine lsw (want_none (by rfl)) (y_move rfl rfl) rfl (by decide) ?_
    refine lsw (want_none (by rfl)) (y_move rfl rfl) rfl (by decide) ?_
    refine lsw (want_none (by rfl)) (y_call (level_any x _ (rg.up u)) (by kernel_rfl) rfl rfl) rfl (by decide) ?_
    by_cases c4 : i < (lvl x)
    · refine lsw (want_none (by rfl)) (yb (decide_eq_true c4) (yi_lss rfl rfl rfl)) rfl (by decide) ?_
      refine lsw (want_none (by rfl)) (y_move rfl rfl) rfl (by decide) ?_
      refine lsw (want_t (dj := 41) (by rfl) (by kernel_rfl) rfl) (y_move rfl rfl) rfl (by decide) ?_
      refine lsw (want_t (dj := 41) (by rfl) (by kernel_rfl) rfl) (yb (decide_eq_true (by omega)) (yi_lss rfl rfl rfl)) rfl (by decide) ?_
      refine lsw (want_none (by rfl)) (y_pick true rfl rfl rfl) rfl (by decide) ?_
      refine lg_nil ?_
      refine nx (E' := [(0, _), (1, _), (2, _), (7, _), (8, _), (9, _), (10, _), (11, _), (37, _), (38, _), (39, _), (40, _), (41, _), (42, _), (43, _), (44, _)]) (fk rfl (fk rfl (fk rfl (fk rfl (fk rfl (fk rfl (fk rfl (fk rfl (fk rfl (fk rfl (fk rfl (fk rfl (fk rfl (fk rfl (fk rfl (fk rfl fn)))))))))))))))) ?_
      refine cg_ct rfl ?_
      refine cg_skip ?_
      refine nx (E' := [(0, _), (1, _), (2, _), (7, _), (8, _), (9, _), (10, _), (11, _), (37, _), (38, _), (39, _), (40, _), (41, _), (42, _), (43, _), (44, _)]) (fk rfl (fk rfl (fk rfl (fk rfl (fk rfl (fk rfl (fk rfl (fk rfl (fk rfl (fk rfl (fk rfl (fk rfl (fk rfl (fk rfl (fk rfl (fk rfl fn)))))))))))))))) ?_
      refine cg_seq ?_
      refine cg_block ?_
      refine cg_region ?_
      refine lsw (want_none (by rfl)) (y_move rfl rfl) rfl (by decide) ?_
      refine lsw (want_none (by rfl)) (yi_mul rfl rfl rfl (by omega) (by omega)) rfl (by decide) ?_
      refine lsw (want_none (by rfl)) (y_assign rfl rfl) rfl (by decide) ?_
      refine lg_nil ?_
      refine eg_block_norm ?_
      refine nx (E' := [(0, _), (1, _), (2, _), (7, _), (8, _), (9, _), (11, _), (37, _), (38, _), (39, _), (40, _), (41, _), (42, _), (43, _), (44, _), (47, _), (48, _), (10, _)]) (fk rfl (fk rfl (fk rfl (fk rfl (fk rfl (fk rfl (fk rfl (fk rfl (fk rfl (fk rfl (fk rfl (fk rfl (fk rfl (fk rfl (fk rfl (fk rfl (fk rfl (fk rfl fn)))))))))))))))))) ?_
      refine cg_region ?_
      refine lsw (want_none (by rfl)) (y_move rfl rfl) rfl (by decide) ?_
      refine lsw (want_none (by rfl)) (yi_add rfl rfl rfl (by omega) (by omega)) rfl (by decide) ?_
      refine lsw (want_none (by rfl)) (y_assign rfl rfl) rfl (by decide) ?_
      refine lg_nil ?_
      exact fun a ha => (show t < 7 ∧ _ from ⟨(by omega), (2 * n), (i + 1), ha.keep (fk rfl (fk rfl (fk rfl (fk rfl (fk rfl (fk rfl (fk rfl (fk rfl fn)))))))), u, (by omega), (by rw [hp]; exact pw_succ.symm), (by omega)⟩)
    · refine lsw (want_none (by rfl)) (yb (decide_eq_false c4) (yi_lss rfl rfl rfl)) rfl (by decide) ?_
      refine lsw (want_none (by rfl)) (y_move rfl rfl) rfl (by decide) ?_
      refine lsk (want_f (dj := 41) (by rfl) (by kernel_rfl) rfl) rfl (by decide) ?_
      refine lsk (want_f (dj := 41) (by rfl) (by kernel_rfl) rfl) rfl (by decide) ?_
      refine lsw (want_none (by rfl)) (y_pick false rfl rfl rfl) rfl (by decide) ?_
      refine lg_nil ?_
      refine nx (E' := [(0, _), (1, _), (2, _), (7, _), (8, _), (9, _), (10, _), (11, _), (37, _), (38, _), (39, _), (40, _), (41, _), (44, _)]) (fk rfl (fk rfl (fk rfl (fk rfl (fk rfl (fk rfl (fk rfl (fk rfl (fk rfl (fk rfl (fk rfl (fk rfl (fk rfl (fk rfl fn)))))))))))))) ?_
      refine cg_cf rfl ?_
      obtain rfl : n = pw (lvl x) := by rw [hp, show lvl x = (t : Int) by omega]
      refine cg_exit ?_
      refine eg_seq_exit ?_
      refine eg_seq_exit ?_
      refine eg_block_exit ?_
      refine nx (E' := [(0, _), (1, _), (2, _), (7, _), (8, _), (9, _), (10, _)]) (fk rfl (fk rfl (fk rfl (fk rfl (fk rfl (fk rfl (fk rfl fn))))))) ?_
      refine cg_seq ?_
      refine cg_region ?_
      refine lsw (want_none (by rfl)) (y_move rfl rfl) rfl (by decide) ?_
      refine lsw (want_none (by rfl)) (yv (congrArg nv ek) (yi_and rfl rfl rfl)) rfl (by decide) ?_
      refine lsw (want_none (by rfl)) (y_assign rfl rfl) rfl (by decide) ?_
      refine lg_nil ?_
      refine nx (E' := [(0, _), (2, _), (7, _), (8, _), (9, _), (10, _), (12, _)]) (fk rfl (fk rfl (fk rfl (fk rfl (fk rfl (fk rfl (fk rfl fn))))))) ?_
      refine cg_seq ?_
      refine cg_seq ?_
      refine cg_region ?_
      refine lsw (want_none (by rfl)) (y_move rfl rfl) rfl (by decide) ?_
      refine lsw (want_none (by rfl)) (y_move rfl rfl) rfl (by decide) ?_
      have f5 : -9223372036854775808 ≤ ((higI x w) - (lowI x w)) ∧ ((higI x w) - (lowI x w)) < 9223372036854775808 := fin2 (p := fun x w => -9223372036854775808 ≤ ((higI x w) - (lowI x w)) ∧ ((higI x w) - (lowI x w)) < 9223372036854775808) (by kernel_rfl) hn
      refine lsw (want_none (by rfl)) (yi_sub rfl rfl rfl f5.1 f5.2) rfl (by decide) ?_
      have f6 : -9223372036854775808 ≤ (((higI x w) - (lowI x w)) + 1) ∧ (((higI x w) - (lowI x w)) + 1) < 9223372036854775808 := fin2 (p := fun x w => -9223372036854775808 ≤ (((higI x w) - (lowI x w)) + 1) ∧ (((higI x w) - (lowI x w)) + 1) < 9223372036854775808) (by kernel_rfl) hn
      refine lsw (want_none (by rfl)) (yi_add rfl rfl rfl f6.1 f6.2) rfl (by decide) ?_
      refine lsw (want_none (by rfl)) (y_move rfl rfl) rfl (by decide) ?_
      have f7 : (((higI x w) - (lowI x w)) + 1) = (pw (lvl x)) := fin2 (p := fun x w => (((higI x w) - (lowI x w)) + 1) = (pw (lvl x))) (by kernel_rfl) hn
      refine lsw (want_none (by rfl)) (yb (nd_f f7) (yi_neq rfl rfl rfl)) rfl (by decide) ?_
      refine lsw (want_none (by rfl)) (y_move rfl rfl) rfl (by decide) ?_
      refine lsw (want_t (dj := 57) (by rfl) (by kernel_rfl) rfl) (y_move rfl rfl) rfl (by decide) ?_
      refine lsw (want_t (dj := 57) (by rfl) (by kernel_rfl) rfl) (yi_mul rfl rfl rfl (by omega) (by omega)) rfl (by decide) ?_
      refine lsw (want_t (dj := 57) (by rfl) (by kernel_rfl) rfl) (y_move rfl rfl) rfl (by decide) ?_
      by_cases c8 : isN (2 * k) w
      · refine lsw (want_t (dj := 57) (by rfl) (by kernel_rfl) rfl) (yb (decide_eq_true c8) (y_call (is_any (2 * k) w _ (rg.up u)) (by kernel_rfl) rfl rfl)) rfl (by decide) ?_
        refine lsw (want_t (dj := 57) (by rfl) (by kernel_rfl) rfl) (y_move rfl rfl) rfl (by decide) ?_
        refine lsw (want_t (dj := 62) (by rfl) (by kernel_rfl) rfl) (y_move rfl rfl) rfl (by decide) ?_
        refine lsw (want_t (dj := 62) (by rfl) (by kernel_rfl) rfl) (yi_mul rfl rfl rfl (by omega) (by omega)) rfl (by decide) ?_
        refine lsw (want_t (dj := 62) (by rfl) (by kernel_rfl) rfl) (y_move rfl rfl) rfl (by decide) ?_
        refine lsw (want_t (dj := 62) (by rfl) (by kernel_rfl) rfl) (y_move rfl rfl) rfl (by decide) ?_
        by_cases c9 : undI (2 * k) x w
        · refine lg_callw (want_t (dj := 62) (by rfl) (by kernel_rfl) rfl) (under_any (2 * k) x w _ (rg.up u)) (by kernel_rfl) rfl rfl rfl (by decide) ?_
          rintro u10 w10 ⟨e10, hw10⟩
          have zw10 := hw10.size
          obtain rfl : u10 = .bool true := e10.trans (congrArg Value.bool (decide_eq_true c9))
          refine lsw (want_t (dj := 62) (by rfl) (by kernel_rfl) rfl) (y_move rfl rfl) rfl (by decide) ?_
          refine lsw (want_t (dj := 62) (by rfl) (by kernel_rfl) rfl) (y_move rfl rfl) rfl (by decide) ?_
          by_cases c11 : (lowI x w) ≤ k
          · refine lsw (want_t (dj := 62) (by rfl) (by kernel_rfl) rfl) (yb (decide_eq_true c11) (yi_leq rfl rfl rfl)) rfl (by decide) ?_
            refine lsw (want_t (dj := 62) (by rfl) (by kernel_rfl) rfl) (y_move rfl rfl) rfl (by decide) ?_
            refine lsw (want_t (dj := 71) (by rfl) (by kernel_rfl) rfl) (y_move rfl rfl) rfl (by decide) ?_
            refine lsw (want_t (dj := 71) (by rfl) (by kernel_rfl) rfl) (y_move rfl rfl) rfl (by decide) ?_
            by_cases c12 : k ≤ (higI x w)
            · refine lsw (want_t (dj := 71) (by rfl) (by kernel_rfl) rfl) (yb (decide_eq_true c12) (yi_leq rfl rfl rfl)) rfl (by decide) ?_
              refine lsw (want_t (dj := 62) (by rfl) (by kernel_rfl) rfl) (y_pick true rfl rfl rfl) rfl (by decide) ?_
              refine lsw (want_t (dj := 62) (by rfl) (by kernel_rfl) rfl) (yb (b := (!(true == true))) (show (!(true == true)) = false from rfl) (y_bne (a := true) (b := true) hubo rfl rfl rfl)) rfl (by decide) ?_
              refine lsw (want_t (dj := 57) (by rfl) (by kernel_rfl) rfl) (y_pick true rfl rfl rfl) rfl (by decide) ?_
              refine lsw (want_none (by rfl)) (y_pick false rfl rfl rfl) rfl (by decide) ?_
              refine lg_nil ?_
              refine nx (E' := [(0, _), (2, _), (7, _), (8, _), (9, _), (10, _), (78, _)]) (fk rfl (fk rfl (fk rfl (fk rfl (fk rfl (fk rfl (fk rfl fn))))))) ?_
              refine cg_cf rfl ?_
              refine cg_skip ?_
              refine nx (E' := [(0, _), (2, _), (7, _), (8, _), (9, _), (10, _)]) (fk rfl (fk rfl (fk rfl (fk rfl (fk rfl (fk rfl fn)))))) ?_
              refine cg_seq ?_
              refine cg_seq ?_
              refine cg_region ?_
              refine lsw (want_none (by rfl)) (y_move rfl rfl) rfl (by decide) ?_
              by_cases c13 : (pw (lvl x)) = 1
              · have f14 : (pw (lvl x)) = 1 := fin2 (p := fun x w => (pw (lvl x)) = 1 → (pw (lvl x)) = 1) (by kernel_rfl) hn c13
                refine lsw (want_none (by rfl)) (yb (decide_eq_true f14) (yi_eql rfl rfl rfl)) rfl (by decide) ?_
                refine lg_nil ?_
                refine nx (E' := [(0, _), (2, _), (7, _), (8, _), (9, _), (80, _)]) (fk rfl (fk rfl (fk rfl (fk rfl (fk rfl (fk rfl fn)))))) ?_
                refine cg_ct rfl ?_
                refine cg_seq ?_
                refine cg_region ?_
                refine lsw (want_none (by rfl)) (y_move rfl rfl) rfl (by decide) ?_
                refine lsw (want_none (by rfl)) (y_move rfl rfl) rfl (by decide) ?_
                refine lsw (want_t (dj := 82) (by rfl) (by kernel_rfl) rfl) (y_move rfl rfl) rfl (by decide) ?_
                refine lsw (want_t (dj := 82) (by rfl) (by kernel_rfl) rfl) (y_move rfl rfl) rfl (by decide) ?_
                have f15 : 0 ≤ x := fin2 (p := fun x w => (pw (lvl x)) = 1 → 0 ≤ x) (by kernel_rfl) hn c13
                have f16 : x < 9223372036854775808 := fin2 (p := fun x w => (pw (lvl x)) = 1 → x < 9223372036854775808) (by kernel_rfl) hn c13
                refine lsw (want_t (dj := 82) (by rfl) (by kernel_rfl) rfl) (yi_quo rfl rfl rfl f15 (by decide) f16) rfl (by decide) ?_
                have f17 : (lowI x w) = (x / 2) := fin2 (p := fun x w => (pw (lvl x)) = 1 → (lowI x w) = (x / 2)) (by kernel_rfl) hn c13
                refine lsw (want_t (dj := 82) (by rfl) (by kernel_rfl) rfl) (yb (decide_eq_true f17) (yi_eql rfl rfl rfl)) rfl (by decide) ?_
                refine lsw (want_none (by rfl)) (y_pick true rfl rfl rfl) rfl (by decide) ?_
                refine lsw (want_none (by rfl)) (y_assign rfl rfl) rfl (by decide) ?_
                refine lg_nil ?_
                refine nx (E' := [(0, _), (2, _), (7, _), (8, _), (9, _), (6, _)]) (fk rfl (fk rfl (fk rfl (fk rfl (fk rfl (fk rfl fn)))))) ?_
                refine cg_ret ?_
                refine eg_seq_ret ?_
                have u := u.trans (hw10.mono u.size)
                exact eg_ret_tmp rfl rfl ⟨_, rfl, rfl, u⟩
              · have f18 : ¬ ((pw (lvl x)) = 1) := fin2 (p := fun x w => ¬ ((pw (lvl x)) = 1) → ¬ ((pw (lvl x)) = 1)) (by kernel_rfl) hn c13
                refine lsw (want_none (by rfl)) (yb (decide_eq_false f18) (yi_eql rfl rfl rfl)) rfl (by decide) ?_
                refine lg_nil ?_
                refine nx (E' := [(0, _), (2, _), (7, _), (8, _), (9, _), (80, _)]) (fk rfl (fk rfl (fk rfl (fk rfl (fk rfl (fk rfl fn)))))) ?_
                refine cg_cf rfl ?_
                refine cg_skip ?_
                refine nx (E' := [(0, _), (2, _), (7, _), (8, _), (9, _)]) (fk rfl (fk rfl (fk rfl (fk rfl (fk rfl fn))))) ?_
                refine cg_seq ?_
                refine cg_region ?_
                refine lsw (want_none (by rfl)) (y_move rfl rfl) rfl (by decide) ?_
                refine lsw (want_none (by rfl)) (y_move rfl rfl) rfl (by decide) ?_
                have u := u.trans (hw10.mono u.size)
                refine lsw (want_none (by rfl)) (y_call (left_any x w _ (rg.up u)) (by kernel_rfl) rfl rfl) rfl (by decide) ?_
                refine lsw (want_none (by rfl)) (y_move rfl rfl) rfl (by decide) ?_
                refine lsw (want_none (by rfl)) (y_call (below_any (leftI x w) w _ (rg.up u)) (by kernel_rfl) rfl rfl) rfl (by decide) ?_
                refine lsw (want_none (by rfl)) (y_move rfl rfl) rfl (by decide) ?_
                refine lsw (want_none (by rfl)) (y_extract rfl rfl rfl) rfl (by decide) ?_
                refine lsw (want_none (by rfl)) (y_extract rfl rfl rfl) rfl (by decide) ?_
                refine lsw (want_none (by rfl)) (y_assign rfl rfl) rfl (by decide) ?_
                refine lsw (want_none (by rfl)) (y_assign rfl rfl) rfl (by decide) ?_
                refine lg_nil ?_
                refine nx (E' := [(0, _), (2, _), (7, _), (8, _), (9, _), (13, _), (14, _)]) (fk rfl (fk rfl (fk rfl (fk rfl (fk rfl (fk rfl (fk rfl fn))))))) ?_
                refine cg_seq ?_
                refine cg_region ?_
                refine lsw (want_none (by rfl)) (y_move rfl rfl) rfl (by decide) ?_
                refine lsw (want_none (by rfl)) (y_move rfl rfl) rfl (by decide) ?_
                refine lsw (want_none (by rfl)) (y_call (right_any x w _ (rg.up u)) (by kernel_rfl) rfl rfl) rfl (by decide) ?_
                refine lsw (want_none (by rfl)) (y_move rfl rfl) rfl (by decide) ?_
                refine lsw (want_none (by rfl)) (y_call (below_any (rightI x w) w _ (rg.up u)) (by kernel_rfl) rfl rfl) rfl (by decide) ?_
                refine lsw (want_none (by rfl)) (y_move rfl rfl) rfl (by decide) ?_
                refine lsw (want_none (by rfl)) (y_extract rfl rfl rfl) rfl (by decide) ?_
                refine lsw (want_none (by rfl)) (y_extract rfl rfl rfl) rfl (by decide) ?_
                refine lsw (want_none (by rfl)) (y_assign rfl rfl) rfl (by decide) ?_
                refine lsw (want_none (by rfl)) (y_assign rfl rfl) rfl (by decide) ?_
                refine lg_nil ?_
                refine nx (E' := [(7, _), (8, _), (9, _), (13, _), (14, _), (15, _), (16, _)]) (fk rfl (fk rfl (fk rfl (fk rfl (fk rfl (fk rfl (fk rfl fn))))))) ?_
                refine cg_seq ?_
                refine cg_region ?_
                refine lsw (want_none (by rfl)) (y_move rfl rfl) rfl (by decide) ?_
                refine lsw (want_none (by rfl)) (y_move rfl rfl) rfl (by decide) ?_
                refine lsw (want_t (dj := 105) (by rfl) (by kernel_rfl) rfl) (y_move rfl rfl) rfl (by decide) ?_
                refine lsw (want_t (dj := 105) (by rfl) (by kernel_rfl) rfl) (y_move rfl rfl) rfl (by decide) ?_
                have f19 : (lowI (leftI x w) w) = (lowI x w) := fin2 (p := fun x w => ¬ ((pw (lvl x)) = 1) → (lowI (leftI x w) w) = (lowI x w)) (by kernel_rfl) hn c13
                refine lsw (want_t (dj := 105) (by rfl) (by kernel_rfl) rfl) (yb (decide_eq_true f19) (yi_eql rfl rfl rfl)) rfl (by decide) ?_
                refine lsw (want_none (by rfl)) (y_pick true rfl rfl rfl) rfl (by decide) ?_
                refine lsw (want_none (by rfl)) (y_move rfl rfl) rfl (by decide) ?_
                refine lsw (want_t (dj := 110) (by rfl) (by kernel_rfl) rfl) (y_move rfl rfl) rfl (by decide) ?_
                refine lsw (want_t (dj := 110) (by rfl) (by kernel_rfl) rfl) (y_move rfl rfl) rfl (by decide) ?_
                have f20 : (higI (rightI x w) w) = (higI x w) := fin2 (p := fun x w => ¬ ((pw (lvl x)) = 1) → (higI (rightI x w) w) = (higI x w)) (by kernel_rfl) hn c13
                refine lsw (want_t (dj := 110) (by rfl) (by kernel_rfl) rfl) (yb (decide_eq_true f20) (yi_eql rfl rfl rfl)) rfl (by decide) ?_
                refine lsw (want_none (by rfl)) (y_pick true rfl rfl rfl) rfl (by decide) ?_
                refine lsw (want_none (by rfl)) (y_move rfl rfl) rfl (by decide) ?_
                refine lsw (want_t (dj := 115) (by rfl) (by kernel_rfl) rfl) (y_move rfl rfl) rfl (by decide) ?_
                refine lsw (want_t (dj := 115) (by rfl) (by kernel_rfl) rfl) (y_move rfl rfl) rfl (by decide) ?_
                have f21 : -9223372036854775808 ≤ ((higI (leftI x w) w) + 1) ∧ ((higI (leftI x w) w) + 1) < 9223372036854775808 := fin2 (p := fun x w => ¬ ((pw (lvl x)) = 1) → -9223372036854775808 ≤ ((higI (leftI x w) w) + 1) ∧ ((higI (leftI x w) w) + 1) < 9223372036854775808) (by kernel_rfl) hn c13
                refine lsw (want_t (dj := 115) (by rfl) (by kernel_rfl) rfl) (yi_add rfl rfl rfl f21.1 f21.2) rfl (by decide) ?_
                have f22 : (lowI (rightI x w) w) = ((higI (leftI x w) w) + 1) := fin2 (p := fun x w => ¬ ((pw (lvl x)) = 1) → (lowI (rightI x w) w) = ((higI (leftI x w) w) + 1)) (by kernel_rfl) hn c13
                refine lsw (want_t (dj := 115) (by rfl) (by kernel_rfl) rfl) (yb (decide_eq_true f22) (yi_eql rfl rfl rfl)) rfl (by decide) ?_
                refine lsw (want_none (by rfl)) (y_pick true rfl rfl rfl) rfl (by decide) ?_
                refine lsw (want_none (by rfl)) (y_assign rfl rfl) rfl (by decide) ?_
                refine lg_nil ?_
                refine nx (E' := [(6, _)]) (fk rfl fn) ?_
                refine cg_ret ?_
                exact eg_ret_tmp rfl rfl ⟨_, rfl, rfl, u⟩
            · exact absurd ((und_below hn c8 (by omega)).1 c9) (fun q => by have := c12; omega)
          · exact absurd ((und_below hn c8 (by omega)).1 c9) (fun q => by have := c11; omega)
        · refine lg_callw (want_t (dj := 62) (by rfl) (by kernel_rfl) rfl) (under_any (2 * k) x w _ (rg.up u)) (by kernel_rfl) rfl rfl rfl (by decide) ?_
          rintro u23 w23 ⟨e23, hw23⟩
          have zw23 := hw23.size
          obtain rfl : u23 = .bool false := e23.trans (congrArg Value.bool (decide_eq_false c9))
          refine lsw (want_t (dj := 62) (by rfl) (by kernel_rfl) rfl) (y_move rfl rfl) rfl (by decide) ?_
          refine lsw (want_t (dj := 62) (by rfl) (by kernel_rfl) rfl) (y_move rfl rfl) rfl (by decide) ?_
          by_cases c24 : (lowI x w) ≤ k
          · refine lsw (want_t (dj := 62) (by rfl) (by kernel_rfl) rfl) (yb (decide_eq_true c24) (yi_leq rfl rfl rfl)) rfl (by decide) ?_
            refine lsw (want_t (dj := 62) (by rfl) (by kernel_rfl) rfl) (y_move rfl rfl) rfl (by decide) ?_
            refine lsw (want_t (dj := 71) (by rfl) (by kernel_rfl) rfl) (y_move rfl rfl) rfl (by decide) ?_
            refine lsw (want_t (dj := 71) (by rfl) (by kernel_rfl) rfl) (y_move rfl rfl) rfl (by decide) ?_
            by_cases c25 : k ≤ (higI x w)
            · exact absurd ((und_below hn c8 (by omega)).2 ⟨by have := c24; omega, by have := c25; omega⟩) c9
            · refine lsw (want_t (dj := 71) (by rfl) (by kernel_rfl) rfl) (yb (decide_eq_false c25) (yi_leq rfl rfl rfl)) rfl (by decide) ?_
              refine lsw (want_t (dj := 62) (by rfl) (by kernel_rfl) rfl) (y_pick true rfl rfl rfl) rfl (by decide) ?_
              refine lsw (want_t (dj := 62) (by rfl) (by kernel_rfl) rfl) (yb (b := (!(false == false))) (show (!(false == false)) = false from rfl) (y_bne (a := false) (b := false) hubo rfl rfl rfl)) rfl (by decide) ?_
              refine lsw (want_t (dj := 57) (by rfl) (by kernel_rfl) rfl) (y_pick true rfl rfl rfl) rfl (by decide) ?_
              refine lsw (want_none (by rfl)) (y_pick false rfl rfl rfl) rfl (by decide) ?_
              refine lg_nil ?_
              refine nx (E' := [(0, _), (2, _), (7, _), (8, _), (9, _), (10, _), (78, _)]) (fk rfl (fk rfl (fk rfl (fk rfl (fk rfl (fk rfl (fk rfl fn))))))) ?_
              refine cg_cf rfl ?_
              refine cg_skip ?_
              refine nx (E' := [(0, _), (2, _), (7, _), (8, _), (9, _), (10, _)]) (fk rfl (fk rfl (fk rfl (fk rfl (fk rfl (fk rfl fn)))))) ?_
              refine cg_seq ?_
              refine cg_seq ?_
              refine cg_region ?_
              refine lsw (want_none (by rfl)) (y_move rfl rfl) rfl (by decide) ?_
              by_cases c26 : (pw (lvl x)) = 1
              · have f27 : (pw (lvl x)) = 1 := fin2 (p := fun x w => (pw (lvl x)) = 1 → (pw (lvl x)) = 1) (by kernel_rfl) hn c26
                refine lsw (want_none (by rfl)) (yb (decide_eq_true f27) (yi_eql rfl rfl rfl)) rfl (by decide) ?_
                refine lg_nil ?_
                refine nx (E' := [(0, _), (2, _), (7, _), (8, _), (9, _), (80, _)]) (fk rfl (fk rfl (fk rfl (fk rfl (fk rfl (fk rfl fn)))))) ?_
                refine cg_ct rfl ?_
                refine cg_seq ?_
                refine cg_region ?_
                refine lsw (want_none (by rfl)) (y_move rfl rfl) rfl (by decide) ?_
                refine lsw (want_none (by rfl)) (y_move rfl rfl) rfl (by decide) ?_
                refine lsw (want_t (dj := 82) (by rfl) (by kernel_rfl) rfl) (y_move rfl rfl) rfl (by decide) ?_
                refine lsw (want_t (dj := 82) (by rfl) (by kernel_rfl) rfl) (y_move rfl rfl) rfl (by decide) ?_
                have f28 : 0 ≤ x := fin2 (p := fun x w => (pw (lvl x)) = 1 → 0 ≤ x) (by kernel_rfl) hn c26
                have f29 : x < 9223372036854775808 := fin2 (p := fun x w => (pw (lvl x)) = 1 → x < 9223372036854775808) (by kernel_rfl) hn c26
                refine lsw (want_t (dj := 82) (by rfl) (by kernel_rfl) rfl) (yi_quo rfl rfl rfl f28 (by decide) f29) rfl (by decide) ?_
                have f30 : (lowI x w) = (x / 2) := fin2 (p := fun x w => (pw (lvl x)) = 1 → (lowI x w) = (x / 2)) (by kernel_rfl) hn c26
                refine lsw (want_t (dj := 82) (by rfl) (by kernel_rfl) rfl) (yb (decide_eq_true f30) (yi_eql rfl rfl rfl)) rfl (by decide) ?_
                refine lsw (want_none (by rfl)) (y_pick true rfl rfl rfl) rfl (by decide) ?_
                refine lsw (want_none (by rfl)) (y_assign rfl rfl) rfl (by decide) ?_
                refine lg_nil ?_
                refine nx (E' := [(0, _), (2, _), (7, _), (8, _), (9, _), (6, _)]) (fk rfl (fk rfl (fk rfl (fk rfl (fk rfl (fk rfl fn)))))) ?_
                refine cg_ret ?_
                refine eg_seq_ret ?_
                have u := u.trans (hw23.mono u.size)
                exact eg_ret_tmp rfl rfl ⟨_, rfl, rfl, u⟩
              · have f31 : ¬ ((pw (lvl x)) = 1) := fin2 (p := fun x w => ¬ ((pw (lvl x)) = 1) → ¬ ((pw (lvl x)) = 1)) (by kernel_rfl) hn c26
                refine lsw (want_none (by rfl)) (yb (decide_eq_false f31) (yi_eql rfl rfl rfl)) rfl (by decide) ?_
                refine lg_nil ?_
                refine nx (E' := [(0, _), (2, _), (7, _), (8, _), (9, _), (80, _)]) (fk rfl (fk rfl (fk rfl (fk rfl (fk rfl (fk rfl fn)))))) ?_
                refine cg_cf rfl ?_
                refine cg_skip ?_
                refine nx (E' := [(0, _), (2, _), (7, _), (8, _), (9, _)]) (fk rfl (fk rfl (fk rfl (fk rfl (fk rfl fn))))) ?_
                refine cg_seq ?_
                refine cg_region ?_
                refine lsw (want_none (by rfl)) (y_move rfl rfl) rfl (by decide) ?_
                refine lsw (want_none (by rfl)) (y_move rfl rfl) rfl (by decide) ?_
                have u := u.trans (hw23.mono u.size)
                refine lsw (want_none (by rfl)) (y_call (left_any x w _ (rg.up u)) (by kernel_rfl) rfl rfl) rfl (by decide) ?_
                refine lsw (want_none (by rfl)) (y_move rfl rfl) rfl (by decide) ?_
                refine lsw (want_none (by rfl)) (y_call (below_any (leftI x w) w _ (rg.up u)) (by kernel_rfl) rfl rfl) rfl (by decide) ?_
                refine lsw (want_none (by rfl)) (y_move rfl rfl) rfl (by decide) ?_
                refine lsw (want_none (by rfl)) (y_extract rfl rfl rfl) rfl (by decide) ?_
                refine lsw (want_none (by rfl)) (y_extract rfl rfl rfl) rfl (by decide) ?_
                refine lsw (want_none (by rfl)) (y_assign rfl rfl) rfl (by decide) ?_
                refine lsw (want_none (by rfl)) (y_assign rfl rfl) rfl (by decide) ?_
                refine lg_nil ?_
                refine nx (E' := [(0, _), (2, _), (7, _), (8, _), (9, _), (13, _), (14, _)]) (fk rfl (fk rfl (fk rfl (fk rfl (fk rfl (fk rfl (fk rfl fn))))))) ?_
                refine cg_seq ?_
                refine cg_region ?_
                refine lsw (want_none (by rfl)) (y_move rfl rfl) rfl (by decide) ?_
                refine lsw (want_none (by rfl)) (y_move rfl rfl) rfl (by decide) ?_
                refine lsw (want_none (by rfl)) (y_call (right_any x w _ (rg.up u)) (by kernel_rfl) rfl rfl) rfl (by decide) ?_
                refine lsw (want_none (by rfl)) (y_move rfl rfl) rfl (by decide) ?_
                refine lsw (want_none (by rfl)) (y_call (below_any (rightI x w) w _ (rg.up u)) (by kernel_rfl) rfl rfl) rfl (by decide) ?_
                refine lsw (want_none (by rfl)) (y_move rfl rfl) rfl (by decide) ?_
                refine lsw (want_none (by rfl)) (y_extract rfl rfl rfl) rfl (by decide) ?_
                refine lsw (want_none (by rfl)) (y_extract rfl rfl rfl) rfl (by decide) ?_
                refine lsw (want_none (by rfl)) (y_assign rfl rfl) rfl (by decide) ?_
                refine lsw (want_none (by rfl)) (y_assign rfl rfl) rfl (by decide) ?_
                refine lg_nil ?_
                refine nx (E' := [(7, _), (8, _), (9, _), (13, _), (14, _), (15, _), (16, _)]) (fk rfl (fk rfl (fk rfl (fk rfl (fk rfl (fk rfl (fk rfl fn))))))) ?_
                refine cg_seq ?_
                refine cg_region ?_
                refine lsw (want_none (by rfl)) (y_move rfl rfl) rfl (by decide) ?_
                refine lsw (want_none (by rfl)) (y_move rfl rfl) rfl (by decide) ?_
                refine lsw (want_t (dj := 105) (by rfl) (by kernel_rfl) rfl) (y_move rfl rfl) rfl (by decide) ?_
                refine lsw (want_t (dj := 105) (by rfl) (by kernel_rfl) rfl) (y_move rfl rfl) rfl (by decide) ?_
                have f32 : (lowI (leftI x w) w) = (lowI x w) := fin2 (p := fun x w => ¬ ((pw (lvl x)) = 1) → (lowI (leftI x w) w) = (lowI x w)) (by kernel_rfl) hn c26
                refine lsw (want_t (dj := 105) (by rfl) (by kernel_rfl) rfl) (yb (decide_eq_true f32) (yi_eql rfl rfl rfl)) rfl (by decide) ?_
                refine lsw (want_none (by rfl)) (y_pick true rfl rfl rfl) rfl (by decide) ?_
                refine lsw (want_none (by rfl)) (y_move rfl rfl) rfl (by decide) ?_
                refine lsw (want_t (dj := 110) (by rfl) (by kernel_rfl) rfl) (y_move rfl rfl) rfl (by decide) ?_
                refine lsw (want_t (dj := 110) (by rfl) (by kernel_rfl) rfl) (y_move rfl rfl) rfl (by decide) ?_
                have f33 : (higI (rightI x w) w) = (higI x w) := fin2 (p := fun x w => ¬ ((pw (lvl x)) = 1) → (higI (rightI x w) w) = (higI x w)) (by kernel_rfl) hn c26
                refine lsw (want_t (dj := 110) (by rfl) (by kernel_rfl) rfl) (yb (decide_eq_true f33) (yi_eql rfl rfl rfl)) rfl (by decide) ?_
                refine lsw (want_none (by rfl)) (y_pick true rfl rfl rfl) rfl (by decide) ?_
                refine lsw (want_none (by rfl)) (y_move rfl rfl) rfl (by decide) ?_
                refine lsw (want_t (dj := 115) (by rfl) (by kernel_rfl) rfl) (y_move rfl rfl) rfl (by decide) ?_
                refine lsw (want_t (dj := 115) (by rfl) (by kernel_rfl) rfl) (y_move rfl rfl) rfl (by decide) ?_
                have f34 : -9223372036854775808 ≤ ((higI (leftI x w) w) + 1) ∧ ((higI (leftI x w) w) + 1) < 9223372036854775808 := fin2 (p := fun x w => ¬ ((pw (lvl x)) = 1) → -9223372036854775808 ≤ ((higI (leftI x w) w) + 1) ∧ ((higI (leftI x w) w) + 1) < 9223372036854775808) (by kernel_rfl) hn c26
                refine lsw (want_t (dj := 115) (by rfl) (by kernel_rfl) rfl) (yi_add rfl rfl rfl f34.1 f34.2) rfl (by decide) ?_
                have f35 : (lowI (rightI x w) w) = ((higI (leftI x w) w) + 1) := fin2 (p := fun x w => ¬ ((pw (lvl x)) = 1) → (lowI (rightI x w) w) = ((higI (leftI x w) w) + 1)) (by kernel_rfl) hn c26
                refine lsw (want_t (dj := 115) (by rfl) (by kernel_rfl) rfl) (yb (decide_eq_true f35) (yi_eql rfl rfl rfl)) rfl (by decide) ?_
                refine lsw (want_none (by rfl)) (y_pick true rfl rfl rfl) rfl (by decide) ?_
                refine lsw (want_none (by rfl)) (y_assign rfl rfl) rfl (by decide) ?_
                refine lg_nil ?_
                refine nx (E' := [(6, _)]) (fk rfl fn) ?_
                refine cg_ret ?_
                exact eg_ret_tmp rfl rfl ⟨_, rfl, rfl, u⟩
          · refine lsw (want_t (dj := 62) (by rfl) (by kernel_rfl) rfl) (yb (decide_eq_false c24) (yi_leq rfl rfl rfl)) rfl (by decide) ?_
            refine lsw (want_t (dj := 62) (by rfl) (by kernel_rfl) rfl) (y_move rfl rfl) rfl (by decide) ?_
            refine lsk (want_f (dj := 71) (by rfl) (by kernel_rfl) rfl) rfl (by decide) ?_
            refine lsk (want_f (dj := 71) (by rfl) (by kernel_rfl) rfl) rfl (by decide) ?_
            refine lsk (want_f (dj := 71) (by rfl) (by kernel_rfl) rfl) rfl (by decide) ?_
            refine lsw (want_t (dj := 62) (by rfl) (by kernel_rfl) rfl) (y_pick false rfl rfl rfl) rfl (by decide) ?_
            refine lsw (want_t (dj := 62) (by rfl) (by kernel_rfl) rfl) (yb (b := (!(false == false))) (show (!(false == false)) = false from rfl) (y_bne (a := false) (b := false) hubo rfl rfl rfl)) rfl (by decide) ?_
            refine lsw (want_t (dj := 57) (by rfl) (by kernel_rfl) rfl) (y_pick true rfl rfl rfl) rfl (by decide) ?_
            refine lsw (want_none (by rfl)) (y_pick false rfl rfl rfl) rfl (by decide) ?_
            refine lg_nil ?_
            refine nx (E' := [(0, _), (2, _), (7, _), (8, _), (9, _), (10, _), (78, _)]) (fk rfl (fk rfl (fk rfl (fk rfl (fk rfl (fk rfl (fk rfl fn))))))) ?_
            refine cg_cf rfl ?_
            refine cg_skip ?_
            refine nx (E' := [(0, _), (2, _), (7, _), (8, _), (9, _), (10, _)]) (fk rfl (fk rfl (fk rfl (fk rfl (fk rfl (fk rfl fn)))))) ?_
            refine cg_seq ?_
            refine cg_seq ?_
            refine cg_region ?_
            refine lsw (want_none (by rfl)) (y_move rfl rfl) rfl (by decide) ?_
            by_cases c36 : (pw (lvl x)) = 1
            · have f37 : (pw (lvl x)) = 1 := fin2 (p := fun x w => (pw (lvl x)) = 1 → (pw (lvl x)) = 1) (by kernel_rfl) hn c36
              refine lsw (want_none (by rfl)) (yb (decide_eq_true f37) (yi_eql rfl rfl rfl)) rfl (by decide) ?_
              refine lg_nil ?_
              refine nx (E' := [(0, _), (2, _), (7, _), (8, _), (9, _), (80, _)]) (fk rfl (fk rfl (fk rfl (fk rfl (fk rfl (fk rfl fn)))))) ?_
              refine cg_ct rfl ?_
              refine cg_seq ?_
              refine cg_region ?_
              refine lsw (want_none (by rfl)) (y_move rfl rfl) rfl (by decide) ?_
              refine lsw (want_none (by rfl)) (y_move rfl rfl) rfl (by decide) ?_
              refine lsw (want_t (dj := 82) (by rfl) (by kernel_rfl) rfl) (y_move rfl rfl) rfl (by decide) ?_
              refine lsw (want_t (dj := 82) (by rfl) (by kernel_rfl) rfl) (y_move rfl rfl) rfl (by decide) ?_
              have f38 : 0 ≤ x := fin2 (p := fun x w => (pw (lvl x)) = 1 → 0 ≤ x) (by kernel_rfl) hn c36
              have f39 : x < 9223372036854775808 := fin2 (p := fun x w => (pw (lvl x)) = 1 → x < 9223372036854775808) (by kernel_rfl) hn c36
              refine lsw (want_t (dj := 82) (by rfl) (by kernel_rfl) rfl) (yi_quo rfl rfl rfl f38 (by decide) f39) rfl (by decide) ?_
              have f40 : (lowI x w) = (x / 2) := fin2 (p := fun x w => (pw (lvl x)) = 1 → (lowI x w) = (x / 2)) (by kernel_rfl) hn c36
              refine lsw (want_t (dj := 82) (by rfl) (by kernel_rfl) rfl) (yb (decide_eq_true f40) (yi_eql rfl rfl rfl)) rfl (by decide) ?_
              refine lsw (want_none (by rfl)) (y_pick true rfl rfl rfl) rfl (by decide) ?_
              refine lsw (want_none (by rfl)) (y_assign rfl rfl) rfl (by decide) ?_
              refine lg_nil ?_
              refine nx (E' := [(0, _), (2, _), (7, _), (8, _), (9, _), (6, _)]) (fk rfl (fk rfl (fk rfl (fk rfl (fk rfl (fk rfl fn)))))) ?_
              refine cg_ret ?_
              refine eg_seq_ret ?_
              have u := u.trans (hw23.mono u.size)
              exact eg_ret_tmp rfl rfl ⟨_, rfl, rfl, u⟩
            · have f41 : ¬ ((pw (lvl x)) = 1) := fin2 (p := fun x w => ¬ ((pw (lvl x)) = 1) → ¬ ((pw (lvl x)) = 1)) (by kernel_rfl) hn c36
              refine lsw (want_none (by rfl)) (yb (decide_eq_false f41) (yi_eql rfl rfl rfl)) rfl (by decide) ?_
              refine lg_nil ?_
              refine nx (E' := [(0, _), (2, _), (7, _), (8, _), (9, _), (80, _)]) (fk rfl (fk rfl (fk rfl (fk rfl (fk rfl (fk rfl fn)))))) ?_
              refine cg_cf rfl ?_
              refine cg_skip ?_
              refine nx (E' := [(0, _), (2, _), (7, _), (8, _), (9, _)]) (fk rfl (fk rfl (fk rfl (fk rfl (fk rfl fn))))) ?_
              refine cg_seq ?_
              refine cg_region ?_
              refine lsw (want_none (by rfl)) (y_move rfl rfl) rfl (by decide) ?_
              refine lsw (want_none (by rfl)) (y_move rfl rfl) rfl (by decide) ?_
              have u := u.trans (hw23.mono u.size)
              refine lsw (want_none (by rfl)) (y_call (left_any x w _ (rg.up u)) (by kernel_rfl) rfl rfl) rfl (by decide) ?_
              refine lsw (want_none (by rfl)) (y_move rfl rfl) rfl (by decide) ?_
              refine lsw (want_none (by rfl)) (y_call (below_any (leftI x w) w _ (rg.up u)) (by kernel_rfl) rfl rfl) rfl (by decide) ?_
              refine lsw (want_none (by rfl)) (y_move rfl rfl) rfl (by decide) ?_
              refine lsw (want_none (by rfl)) (y_extract rfl rfl rfl) rfl (by decide) ?_
              refine lsw (want_none (by rfl)) (y_extract rfl rfl rfl) rfl (by decide) ?_
              refine lsw (want_none (by rfl)) (y_assign rfl rfl) rfl (by decide) ?_
              refine lsw (want_none (by rfl)) (y_assign rfl rfl) rfl (by decide) ?_
              refine lg_nil ?_
              refine nx (E' := [(0, _), (2, _), (7, _), (8, _), (9, _), (13, _), (14, _)]) (fk rfl (fk rfl (fk rfl (fk rfl (fk rfl (fk rfl (fk rfl fn))))))) ?_
              refine cg_seq ?_
              refine cg_region ?_
              refine lsw (want_none (by rfl)) (y_move rfl rfl) rfl (by decide) ?_
              refine lsw (want_none (by rfl)) (y_move rfl rfl) rfl (by decide) ?_
              refine lsw (want_none (by rfl)) (y_call (right_any x w _ (rg.up u)) (by kernel_rfl) rfl rfl) rfl (by decide) ?_
              refine lsw (want_none (by rfl)) (y_move rfl rfl) rfl (by decide) ?_
              refine lsw (want_none (by rfl)) (y_call (below_any (rightI x w) w _ (rg.up u)) (by kernel_rfl) rfl rfl) rfl (by decide) ?_
              refine lsw (want_none (by rfl)) (y_move rfl rfl) rfl (by decide) ?_
              refine lsw (want_none (by rfl)) (y_extract rfl rfl rfl) rfl (by decide) ?_
              refine lsw (want_none (by rfl)) (y_extract rfl rfl rfl) rfl (by decide) ?_
              refine lsw (want_none (by rfl)) (y_assign rfl rfl) rfl (by decide) ?_
              refine lsw (want_none (by rfl)) (y_assign rfl rfl) rfl (by decide) ?_
              refine lg_nil ?_
              refine nx (E' := [(7, _), (8, _), (9, _), (13, _), (14, _), (15, _), (16, _)]) (fk rfl (fk rfl (fk rfl (fk rfl (fk rfl (fk rfl (fk rfl fn))))))) ?_
              refine cg_seq ?_
              refine cg_region ?_
              refine lsw (want_none (by rfl)) (y_move rfl rfl) rfl (by decide) ?_
              refine lsw (want_none (by rfl)) (y_move rfl rfl) rfl (by decide) ?_
              refine lsw (want_t (dj := 105) (by rfl) (by kernel_rfl) rfl) (y_move rfl rfl) rfl (by decide) ?_
              refine lsw (want_t (dj := 105) (by rfl) (by kernel_rfl) rfl) (y_move rfl rfl) rfl (by decide) ?_
              have f42 : (lowI (leftI x w) w) = (lowI x w) := fin2 (p := fun x w => ¬ ((pw (lvl x)) = 1) → (lowI (leftI x w) w) = (lowI x w)) (by kernel_rfl) hn c36
              refine lsw (want_t (dj := 105) (by rfl) (by kernel_rfl) rfl) (yb (decide_eq_true f42) (yi_eql rfl rfl rfl)) rfl (by decide) ?_
              refine lsw (want_none (by rfl)) (y_pick true rfl rfl rfl) rfl (by decide) ?_
              refine lsw (want_none (by rfl)) (y_move rfl rfl) rfl (by decide) ?_
              refine lsw (want_t (dj := 110) (by rfl) (by kernel_rfl) rfl) (y_move rfl rfl) rfl (by decide) ?_
              refine lsw (want_t (dj := 110) (by rfl) (by kernel_rfl) rfl) (y_move rfl rfl) rfl (by decide) ?_
              have f43 : (higI (rightI x w) w) = (higI x w) := fin2 (p := fun x w => ¬ ((pw (lvl x)) = 1) → (higI (rightI x w) w) = (higI x w)) (by kernel_rfl) hn c36
              refine lsw (want_t (dj := 110) (by rfl) (by kernel_rfl) rfl) (yb (decide_eq_true f43) (yi_eql rfl rfl rfl)) rfl (by decide) ?_
              refine lsw (want_none (by rfl)) (y_pick true rfl rfl rfl) rfl (by decide) ?_
              refine lsw (want_none (by rfl)) (y_move rfl rfl) rfl (by decide) ?_
              refine lsw (want_t (dj := 115) (by rfl) (by kernel_rfl) rfl) (y_move rfl rfl) rfl (by decide) ?_
              refine lsw (want_t (dj := 115) (by rfl) (by kernel_rfl) rfl) (y_move rfl rfl) rfl (by decide) ?_
              have f44 : -9223372036854775808 ≤ ((higI (leftI x w) w) + 1) ∧ ((higI (leftI x w) w) + 1) < 9223372036854775808 := fin2 (p := fun x w => ¬ ((pw (lvl x)) = 1) → -9223372036854775808 ≤ ((higI (leftI x w) w) + 1) ∧ ((higI (leftI x w) w) + 1) < 9223372036854775808) (by kernel_rfl) hn c36
              refine lsw (want_t (dj := 115) (by rfl) (by kernel_rfl) rfl) (yi_add rfl rfl rfl f44.1 f44.2) rfl (by decide) ?_
              have f45 : (lowI (rightI x w) w) = ((higI (leftI x w) w) + 1) := fin2 (p := fun x w => ¬ ((pw (lvl x)) = 1) → (lowI (rightI x w) w) = ((higI (leftI x w) w) + 1)) (by kernel_rfl) hn c36
              refine lsw (want_t (dj := 115) (by rfl) (by kernel_rfl) rfl) (yb (decide_eq_true f45) (yi_eql rfl rfl rfl)) rfl (by decide) ?_
              refine lsw (want_none (by rfl)) (y_pick true rfl rfl rfl) rfl (by decide) ?_
              refine lsw (want_none (by rfl)) (y_assign rfl rfl) rfl (by decide) ?_
              refine lg_nil ?_
              refine nx (E' := [(6, _)]) (fk rfl fn) ?_
              refine cg_ret ?_
              exact eg_ret_tmp rfl rfl ⟨_, rfl, rfl, u⟩
      · refine lsw (want_t (dj := 57) (by rfl) (by kernel_rfl) rfl) (yb (decide_eq_false c8) (y_call (is_any (2 * k) w _ (rg.up u)) (by kernel_rfl) rfl rfl)) rfl (by decide) ?_
        refine lsw (want_t (dj := 57) (by rfl) (by kernel_rfl) rfl) (y_move rfl rfl) rfl (by decide) ?_
        refine lsk (want_f (dj := 62) (by rfl) (by kernel_rfl) rfl) rfl (by decide) ?_
        refine lsk (want_f (dj := 62) (by rfl) (by kernel_rfl) rfl) rfl (by decide) ?_
        refine lsk (want_f (dj := 62) (by rfl) (by kernel_rfl) rfl) rfl (by decide) ?_
        refine lsk (want_f (dj := 62) (by rfl) (by kernel_rfl) rfl) rfl (by decide) ?_
        refine lsk (want_f (dj := 62) (by rfl) (by kernel_rfl) rfl) rfl (by decide) ?_
        refine lsk (want_f (dj := 62) (by rfl) (by kernel_rfl) rfl) rfl (by decide) ?_
        refine lsk (want_f (dj := 62) (by rfl) (by kernel_rfl) rfl) rfl (by decide) ?_
        refine lsk (want_f (dj := 62) (by rfl) (by kernel_rfl) rfl) rfl (by decide) ?_
        refine lsk (want_f (dj := 62) (by rfl) (by kernel_rfl) rfl) rfl (by decide) ?_
        refine lsk (want_u (dj := 71) (by rfl) (by kernel_rfl) rfl) rfl (by decide) ?_
        refine lsk (want_u (dj := 71) (by rfl) (by kernel_rfl) rfl) rfl (by decide) ?_
        refine lsk (want_u (dj := 71) (by rfl) (by kernel_rfl) rfl) rfl (by decide) ?_
        refine lsk (want_f (dj := 62) (by rfl) (by kernel_rfl) rfl) rfl (by decide) ?_
        refine lsk (want_f (dj := 62) (by rfl) (by kernel_rfl) rfl) rfl (by decide) ?_
        refine lsw (want_t (dj := 57) (by rfl) (by kernel_rfl) rfl) (y_pick false rfl rfl rfl) rfl (by decide) ?_
        refine lsw (want_none (by rfl)) (y_pick false rfl rfl rfl) rfl (by decide) ?_
        refine lg_nil ?_
        refine nx (E' := [(0, _), (2, _), (7, _), (8, _), (9, _), (10, _), (78, _)]) (fk rfl (fk rfl (fk rfl (fk rfl (fk rfl (fk rfl (fk rfl fn))))))) ?_
        refine cg_cf rfl ?_
        refine cg_skip ?_
        refine nx (E' := [(0, _), (2, _), (7, _), (8, _), (9, _), (10, _)]) (fk rfl (fk rfl (fk rfl (fk rfl (fk rfl (fk rfl fn)))))) ?_
        refine cg_seq ?_
        refine cg_seq ?_
        refine cg_region ?_
        refine lsw (want_none (by rfl)) (y_move rfl rfl) rfl (by decide) ?_
        by_cases c46 : (pw (lvl x)) = 1
        · have f47 : (pw (lvl x)) = 1 := fin2 (p := fun x w => (pw (lvl x)) = 1 → (pw (lvl x)) = 1) (by kernel_rfl) hn c46
          refine lsw (want_none (by rfl)) (yb (decide_eq_true f47) (yi_eql rfl rfl rfl)) rfl (by decide) ?_
          refine lg_nil ?_
          refine nx (E' := [(0, _), (2, _), (7, _), (8, _), (9, _), (80, _)]) (fk rfl (fk rfl (fk rfl (fk rfl (fk rfl (fk rfl fn)))))) ?_
          refine cg_ct rfl ?_
          refine cg_seq ?_
          refine cg_region ?_
          refine lsw (want_none (by rfl)) (y_move rfl rfl) rfl (by decide) ?_
          refine lsw (want_none (by rfl)) (y_move rfl rfl) rfl (by decide) ?_
          refine lsw (want_t (dj := 82) (by rfl) (by kernel_rfl) rfl) (y_move rfl rfl) rfl (by decide) ?_
          refine lsw (want_t (dj := 82) (by rfl) (by kernel_rfl) rfl) (y_move rfl rfl) rfl (by decide) ?_
          have f48 : 0 ≤ x := fin2 (p := fun x w => (pw (lvl x)) = 1 → 0 ≤ x) (by kernel_rfl) hn c46
          have f49 : x < 9223372036854775808 := fin2 (p := fun x w => (pw (lvl x)) = 1 → x < 9223372036854775808) (by kernel_rfl) hn c46
          refine lsw (want_t (dj := 82) (by rfl) (by kernel_rfl) rfl) (yi_quo rfl rfl rfl f48 (by decide) f49) rfl (by decide) ?_
          have f50 : (lowI x w) = (x / 2) := fin2 (p := fun x w => (pw (lvl x)) = 1 → (lowI x w) = (x / 2)) (by kernel_rfl) hn c46
          refine lsw (want_t (dj := 82) (by rfl) (by kernel_rfl) rfl) (yb (decide_eq_true f50) (yi_eql rfl rfl rfl)) rfl (by decide) ?_
          refine lsw (want_none (by rfl)) (y_pick true rfl rfl rfl) rfl (by decide) ?_
          refine lsw (want_none (by rfl)) (y_assign rfl rfl) rfl (by decide) ?_
          refine lg_nil ?_
          refine nx (E' := [(0, _), (2, _), (7, _), (8, _), (9, _), (6, _)]) (fk rfl (fk rfl (fk rfl (fk rfl (fk rfl (fk rfl fn)))))) ?_
          refine cg_ret ?_
          refine eg_seq_ret ?_
          exact eg_ret_tmp rfl rfl ⟨_, rfl, rfl, u⟩
        · have f51 : ¬ ((pw (lvl x)) = 1) := fin2 (p := fun x w => ¬ ((pw (lvl x)) = 1) → ¬ ((pw (lvl x)) = 1)) (by kernel_rfl) hn c46
          refine lsw (want_none (by rfl)) (yb (decide_eq_false f51) (yi_eql rfl rfl rfl)) rfl (by decide) ?_
          refine lg_nil ?_
          refine nx (E' := [(0, _), (2, _), (7, _), (8, _), (9, _), (80, _)]) (fk rfl (fk rfl (fk rfl (fk rfl (fk rfl (fk rfl fn)))))) ?_
          refine cg_cf rfl ?_
          refine cg_skip ?_
          refine nx (E' := [(0, _), (2, _), (7, _), (8, _), (9, _)]) (fk rfl (fk rfl (fk rfl (fk rfl (fk rfl fn))))) ?_
          refine cg_seq ?_
          refine cg_region ?_
          refine lsw (want_none (by rfl)) (y_move rfl rfl) rfl (by decide) ?_
          refine lsw (want_none (by rfl)) (y_move rfl rfl) rfl (by decide) ?_
          refine lsw (want_none (by rfl)) (y_call (left_any x w _ (rg.up u)) (by kernel_rfl) rfl rfl) rfl (by decide) ?_
          refine lsw (want_none (by rfl)) (y_move rfl rfl) rfl (by decide) ?_
          refine lsw (want_none (by rfl)) (y_call (below_any (leftI x w) w _ (rg.up u)) (by kernel_rfl) rfl rfl) rfl (by decide) ?_
          refine lsw (want_none (by rfl)) (y_move rfl rfl) rfl (by decide) ?_
          refine lsw (want_none (by rfl)) (y_extract rfl rfl rfl) rfl (by decide) ?_
          refine lsw (want_none (by rfl)) (y_extract rfl rfl rfl) rfl (by decide) ?_
          refine lsw (want_none (by rfl)) (y_assign rfl rfl) rfl (by decide) ?_
          refine lsw (want_none (by rfl)) (y_assign rfl rfl) rfl (by decide) ?_
          refine lg_nil ?_
          refine nx (E' := [(0, _), (2, _), (7, _), (8, _), (9, _), (13, _), (14, _)]) (fk rfl (fk rfl (fk rfl (fk rfl (fk rfl (fk rfl (fk rfl fn))))))) ?_
          refine cg_seq ?_
          refine cg_region ?_
          refine lsw (want_none (by rfl)) (y_move rfl rfl) rfl (by decide) ?_
          refine lsw (want_none (by rfl)) (y_move rfl rfl) rfl (by decide) ?_
          refine lsw (want_none (by rfl)) (y_call (right_any x w _ (rg.up u)) (by kernel_rfl) rfl rfl) rfl (by decide) ?_
          refine lsw (want_none (by rfl)) (y_move rfl rfl) rfl (by decide) ?_
          refine lsw (want_none (by rfl)) (y_call (below_any (rightI x w) w _ (rg.up u)) (by kernel_rfl) rfl rfl) rfl (by decide) ?_
          refine lsw (want_none (by rfl)) (y_move rfl rfl) rfl (by decide) ?_
          refine lsw (want_none (by rfl)) (y_extract rfl rfl rfl) rfl (by decide) ?_
          refine lsw (want_none (by rfl)) (y_extract rfl rfl rfl) rfl (by decide) ?_
          refine lsw (want_none (by rfl)) (y_assign rfl rfl) rfl (by decide) ?_
          refine lsw (want_none (by rfl)) (y_assign rfl rfl) rfl (by decide) ?_
          refine lg_nil ?_
          refine nx (E' := [(7, _), (8, _), (9, _), (13, _), (14, _), (15, _), (16, _)]) (fk rfl (fk rfl (fk rfl (fk rfl (fk rfl (fk rfl (fk rfl fn))))))) ?_
          refine cg_seq ?_
          refine cg_region ?_
          refine lsw (want_none (by rfl)) (y_move rfl rfl) rfl (by decide) ?_
          refine lsw (want_none (by rfl)) (y_move rfl rfl) rfl (by decide) ?_
          refine lsw (want_t (dj := 105) (by rfl) (by kernel_rfl) rfl) (y_move rfl rfl) rfl (by decide) ?_
          refine lsw (want_t (dj := 105) (by rfl) (by kernel_rfl) rfl) (y_move rfl rfl) rfl (by decide) ?_
          have f52 : (lowI (leftI x w) w) = (lowI x w) := fin2 (p := fun x w => ¬ ((pw (lvl x)) = 1) → (lowI (leftI x w) w) = (lowI x w)) (by kernel_rfl) hn c46
          refine lsw (want_t (dj := 105) (by rfl) (by kernel_rfl) rfl) (yb (decide_eq_true f52) (yi_eql rfl rfl rfl)) rfl (by decide) ?_
          refine lsw (want_none (by rfl)) (y_pick true rfl rfl rfl) rfl (by decide) ?_
          refine lsw (want_none (by rfl)) (y_move rfl rfl) rfl (by decide) ?_
          refine lsw (want_t (dj := 110) (by rfl) (by kernel_rfl) rfl) (y_move rfl rfl) rfl (by decide) ?_
          refine lsw (want_t (dj := 110) (by rfl) (by kernel_rfl) rfl) (y_move rfl rfl) rfl (by decide) ?_
          have f53 : (higI (rightI x w) w) = (higI x w) := fin2 (p := fun x w => ¬ ((pw (lvl x)) = 1) → (higI (rightI x w) w) = (higI x w)) (by kernel_rfl) hn c46
          refine lsw (want_t (dj := 110) (by rfl) (by kernel_rfl) rfl) (yb (decide_eq_true f53) (yi_eql rfl rfl rfl)) rfl (by decide) ?_
          refine lsw (want_none (by rfl)) (y_pick true rfl rfl rfl) rfl (by decide) ?_
          refine lsw (want_none (by rfl)) (y_move rfl rfl) rfl (by decide) ?_
          refine lsw (want_t (dj := 115) (by rfl) (by kernel_rfl) rfl) (y_move rfl rfl) rfl (by decide) ?_
          refine lsw (want_t (dj := 115) (by rfl) (by kernel_rfl) rfl) (y_move rfl rfl) rfl (by decide) ?_
          have f54 : -9223372036854775808 ≤ ((higI (leftI x w) w) + 1) ∧ ((higI (leftI x w) w) + 1) < 9223372036854775808 := fin2 (p := fun x w => ¬ ((pw (lvl x)) = 1) → -9223372036854775808 ≤ ((higI (leftI x w) w) + 1) ∧ ((higI (leftI x w) w) + 1) < 9223372036854775808) (by kernel_rfl) hn c46
          refine lsw (want_t (dj := 115) (by rfl) (by kernel_rfl) rfl) (yi_add rfl rfl rfl f54.1 f54.2) rfl (by decide) ?_
          have f55 : (lowI (rightI x w) w) = ((higI (leftI x w) w) + 1) := fin2 (p := fun x w => ¬ ((pw (lvl x)) = 1) → (lowI (rightI x w) w) = ((higI (leftI x w) w) + 1)) (by kernel_rfl) hn c46
          refine lsw (want_t (dj := 115) (by rfl) (by kernel_rfl) rfl) (yb (decide_eq_true f55) (yi_eql rfl rfl rfl)) rfl (by decide) ?_
          refine lsw (want_none (by rfl)) (y_pick true rfl rfl rfl) rfl (by decide) ?_
          refine lsw (want_none (by rfl)) (y_assign rfl rfl) rfl (by decide) ?_
          refine lg_nil ?_
          refine nx (E' := [(6, _)]) (fk rfl fn) ?_
          refine cg_ret ?_
          exact eg_ret_tmp rfl rfl ⟨_, rfl, rfl, u⟩
  · refine calls_cg (n := 121) Tryd.func6 rfl Tryd.ntmps6 (by simp) ?_
    show CG _ _ _ [(0, nv x), (1, nv leaf), (2, nv w)] _ _
    have u := Below.refl W.heap.size W
    refine cg_seq ?_
    refine cg_region ?_
    refine lsw (want_none (by rfl)) (y_assign rfl rfl) rfl (by decide) ?_
    refine lg_nil ?_
    refine nx (E' := [(0, _), (1, _), (2, _), (6, _)]) (fk rfl (fk rfl (fk rfl (fk rfl fn)))) ?_
    refine cg_seq ?_
    refine cg_region ?_
    refine lg_callw (want_none (by rfl)) (wawake_any _ (rg.up u)) (by kernel_rfl) rfl rfl rfl (by decide) ?_
    rintro _ w1 ⟨rfl, hw1⟩
    have zw1 := hw1.size
    refine lsw (want_none (by rfl)) (y_assign rfl rfl) rfl (by decide) ?_
    refine lg_nil ?_
    refine nx (E' := [(0, _), (1, _), (2, _), (6, _), (7, _)]) (fk rfl (fk rfl (fk rfl (fk rfl (fk rfl fn))))) ?_
    refine cg_seq ?_
    refine cg_region ?_
    refine lsw (want_none (by rfl)) (y_move rfl rfl) rfl (by decide) ?_
    refine lsw (want_none (by rfl)) (y_move rfl rfl) rfl (by decide) ?_
    have u := u.trans (hw1.mono u.size)
    refine lsw (want_none (by rfl)) (y_call (below_any x w _ (rg.up u)) (by kernel_rfl) rfl rfl) rfl (by decide) ?_
    refine lsw (want_none (by rfl)) (y_move rfl rfl) rfl (by decide) ?_
    refine lsw (want_none (by rfl)) (y_extract rfl rfl rfl) rfl (by decide) ?_
    refine lsw (want_none (by rfl)) (y_extract rfl rfl rfl) rfl (by decide) ?_
    refine lsw (want_none (by rfl)) (y_assign rfl rfl) rfl (by decide) ?_
    refine lsw (want_none (by rfl)) (y_assign rfl rfl) rfl (by decide) ?_
    refine lg_nil ?_
    refine nx (E' := [(0, _), (1, _), (2, _), (6, _), (7, _), (8, _), (9, _)]) (fk rfl (fk rfl (fk rfl (fk rfl (fk rfl (fk rfl (fk rfl fn))))))) ?_
    refine cg_seq ?_
    refine cg_seq ?_
    refine cg_region ?_
    refine lsw (want_none (by rfl)) (y_move rfl rfl) rfl (by decide) ?_
    refine lsw (want_none (by rfl)) (y_move rfl rfl) rfl (by decide) ?_
    refine lsw (want_none (by rfl)) (yb (decide_eq_false hn) (y_call (is_any x w _ (rg.up u)) (by kernel_rfl) rfl rfl)) rfl (by decide) ?_
    refine lsw (want_none (by rfl)) (y_bnot rfl rfl) rfl (by decide) ?_
    refine lg_nil ?_
    refine nx (E' := [(0, _), (1, _), (2, _), (6, _), (7, _), (8, _), (9, _), (27, _)]) (fk rfl (fk rfl (fk rfl (fk rfl (fk rfl (fk rfl (fk rfl (fk rfl fn)))))))) ?_
    refine cg_ct rfl ?_
    refine cg_seq ?_
    refine cg_region ?_
    refine lsw (want_none (by rfl)) (y_move rfl rfl) rfl (by decide) ?_
    refine lsw (want_none (by rfl)) (y_move rfl rfl) rfl (by decide) ?_
    refine lsw (want_t (dj := 29) (by rfl) (by kernel_rfl) rfl) (y_move rfl rfl) rfl (by decide) ?_
    refine lsw (want_t (dj := 29) (by rfl) (by kernel_rfl) rfl) (yb (decide_eq_true (low_no hn)) (yi_eql rfl rfl rfl)) rfl (by decide) ?_
    refine lsw (want_none (by rfl)) (y_pick true rfl rfl rfl) rfl (by decide) ?_
    refine lsw (want_none (by rfl)) (y_move rfl rfl) rfl (by decide) ?_
    refine lsw (want_t (dj := 33) (by rfl) (by kernel_rfl) rfl) (y_move rfl rfl) rfl (by decide) ?_
    refine lsw (want_t (dj := 33) (by rfl) (by kernel_rfl) rfl) (yb (decide_eq_true (hig_no hn)) (yi_eql rfl rfl rfl)) rfl (by decide) ?_
    refine lsw (want_none (by rfl)) (y_pick true rfl rfl rfl) rfl (by decide) ?_
    refine lsw (want_none (by rfl)) (y_assign rfl rfl) rfl (by decide) ?_
    refine lg_nil ?_
    refine nx (E' := [(0, _), (1, _), (2, _), (7, _), (8, _), (9, _), (6, _)]) (fk rfl (fk rfl (fk rfl (fk rfl (fk rfl (fk rfl (fk rfl fn))))))) ?_
    refine cg_ret ?_
    refine eg_seq_ret ?_
    exact eg_ret_tmp rfl rfl ⟨_, rfl, rfl, u⟩
end Go.Proofs.YtgcneppjdhnacaaDoor
