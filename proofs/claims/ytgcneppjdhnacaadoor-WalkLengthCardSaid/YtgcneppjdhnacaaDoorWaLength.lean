/-
  The way is as long as the levels above.
-/
import Derived.Test.YtgcneppjdhnacaaDoorWaAwake
import Derived.Test.YtgcneppjdhnacaaDoorWaMore
namespace Go.Proofs.YtgcneppjdhnacaaDoor
open Go.ChangeShapes Go.WideShapes Go.ChangeAt Go.RowKit
set_option linter.unusedVariables false
set_option maxRecDepth 20000
theorem waLength_any (x w : Int) (W : World) (rg : Tb W) : Calls Tryd.prog 7 #[nv x, nv w] W fun e W' => ∃ v, e = .returned v ∧ v = .bool true ∧ Below W.heap.size W W' := by
  by_cases hn : isN x w
  · refine calls_cg (n := 66) Tryd.func7 rfl Tryd.ntmps7 (by simp) ?_
    show CG _ _ _ [(0, nv x), (1, nv w)] _ _
    have u := Below.refl W.heap.size W
    have dl0 := (dir_len hn).1
    have lv := fin2 (p := fun x w => -1 ≤ lvl x ∧ lvl x ≤ 7 ∧ -1 ≤ lvl (rootI w) ∧ lvl (rootI w) ≤ 7) (by kernel_rfl) hn
    refine cg_seq ?_
    refine cg_region ?_
    refine lsw (want_none (by rfl)) (y_assign rfl rfl) rfl (by decide) ?_
    refine lg_nil ?_
    refine nx (E' := [(0, _), (1, _), (4, _)]) (fk rfl (fk rfl (fk rfl fn))) ?_
    refine cg_seq ?_
    refine cg_region ?_
    refine lg_callw (want_none (by rfl)) (wawake_any _ (rg.up u)) (by kernel_rfl) rfl rfl rfl (by decide) ?_
    rintro _ w1 ⟨rfl, hw1⟩
    have zw1 := hw1.size
    refine lsw (want_none (by rfl)) (y_assign rfl rfl) rfl (by decide) ?_
    refine lg_nil ?_
    refine nx (E' := [(0, _), (1, _), (4, _), (5, _)]) (fk rfl (fk rfl (fk rfl (fk rfl fn)))) ?_
    refine cg_seq ?_
    refine cg_region ?_
    refine lsw (want_none (by rfl)) (y_move rfl rfl) rfl (by decide) ?_
    refine lsw (want_none (by rfl)) (y_move rfl rfl) rfl (by decide) ?_
    have u := u.trans (hw1.mono u.size)
    refine lg_callw (want_none (by rfl)) (direct_any x w _ (rg.up u)) (by kernel_rfl) rfl rfl rfl (by decide) ?_
    rintro _ w2 ⟨A2, c2, rfl, i2, m2, hw2⟩
    have zw2 := hw2.size
    have ml2 := m2.1
    have dl2 := dirL x w
    refine lsw (want_none (by rfl)) (y_assign rfl rfl) rfl (by decide) ?_
    refine lg_nil ?_
    refine nx (E' := [(0, _), (1, _), (4, _), (5, _), (6, _)]) (fk rfl (fk rfl (fk rfl (fk rfl (fk rfl fn))))) ?_
    refine cg_seq ?_
    refine cg_seq ?_
    refine cg_region ?_
    refine lsw (want_none (by rfl)) (y_move rfl rfl) rfl (by decide) ?_
    refine lsw (want_none (by rfl)) (y_move rfl rfl) rfl (by decide) ?_
    have u := u.trans (hw2.mono u.size)
    refine lsw (want_none (by rfl)) (yb (decide_eq_true hn) (y_call (is_any x w _ (rg.up u)) (by kernel_rfl) rfl rfl)) rfl (by decide) ?_
    refine lsw (want_none (by rfl)) (y_bnot rfl rfl) rfl (by decide) ?_
    refine lg_nil ?_
    refine nx (E' := [(0, _), (1, _), (4, _), (5, _), (6, _), (15, _)]) (fk rfl (fk rfl (fk rfl (fk rfl (fk rfl (fk rfl fn)))))) ?_
    refine cg_cf rfl ?_
    refine cg_skip ?_
    refine nx (E' := [(0, _), (1, _), (4, _), (5, _), (6, _)]) (fk rfl (fk rfl (fk rfl (fk rfl (fk rfl fn))))) ?_
    refine cg_seq ?_
    refine cg_seq ?_
    refine cg_still (by kernel_rfl) (by kernel_rfl) fun W3 eW3 => ?_
    have dW3 := below_drew _ _ eW3
    have zW3 := size_drew _ _ eW3
    clear eW3
    refine stw (want_none (by rfl)) (y_move rfl rfl) rfl (by decide) ?_
    refine stw (want_none (by rfl)) (y_len (el := 3) (by kernel_rfl) rfl rfl) rfl (by decide) ?_
    refine stw (want_none (by rfl)) (y_move rfl rfl) rfl (by decide) ?_
    have u := u.trans (dW3.mono u.size)
    refine stw (want_none (by rfl)) (y_call (root_any w _ (rg.up u)) (by kernel_rfl) rfl rfl) rfl (by decide) ?_
    refine stw (want_none (by rfl)) (y_call (level_any (rootI w) _ (rg.up u)) (by kernel_rfl) rfl rfl) rfl (by decide) ?_
    refine stw (want_none (by rfl)) (y_move rfl rfl) rfl (by decide) ?_
    refine stw (want_none (by rfl)) (y_call (level_any x _ (rg.up u)) (by kernel_rfl) rfl rfl) rfl (by decide) ?_
    refine stw (want_none (by rfl)) (yi_sub rfl rfl rfl (by omega) (by omega)) rfl (by decide) ?_
    refine stw (want_none (by rfl)) (yb (nd_f dl0) (yi_neq rfl rfl rfl)) rfl (by decide) ?_
    refine stw (want_none (by rfl)) (y_move rfl rfl) rfl (by decide) ?_
    refine stw (want_t (dj := 31) (by rfl) (by kernel_rfl) rfl) (y_move rfl rfl) rfl (by decide) ?_
    refine stw (want_t (dj := 31) (by rfl) (by kernel_rfl) rfl) (y_len (el := 3) (by kernel_rfl) rfl rfl) rfl (by decide) ?_
    by_cases c4 : 0 < ((dirI x w).length : Int)
    · refine stw (want_t (dj := 31) (by rfl) (by kernel_rfl) rfl) (yb (decide_eq_true c4) (yi_gtr rfl rfl rfl)) rfl (by decide) ?_
      refine stw (want_t (dj := 31) (by rfl) (by kernel_rfl) rfl) (y_move rfl rfl) rfl (by decide) ?_
      refine stw (want_t (dj := 35) (by rfl) (by kernel_rfl) rfl) (y_move rfl rfl) rfl (by decide) ?_
      refine stw (want_t (dj := 35) (by rfl) (by kernel_rfl) rfl) (y_move rfl rfl) rfl (by decide) ?_
      refine stw (want_t (dj := 35) (by rfl) (by kernel_rfl) rfl) (y_len (el := 3) (by kernel_rfl) rfl rfl) rfl (by decide) ?_
      refine stw (want_t (dj := 35) (by rfl) (by kernel_rfl) rfl) (yi_sub rfl rfl rfl (by omega) (by omega)) rfl (by decide) ?_
      have m2 := m2.below (dW3.mono (by omega))
      refine stw (want_t (dj := 35) (by rfl) (by kernel_rfl) rfl) (y_ixN (i := ((dirI x w).length - 1)) (iI := (((dirI x w).length : Int) - 1)) m2 (by omega) (by omega) rfl rfl rfl) rfl (by decide) ?_
      refine stw (want_t (dj := 35) (by rfl) (by kernel_rfl) rfl) (y_ldN (i := ((dirI x w).length - 1)) m2 (by omega) rfl rfl) rfl (by decide) ?_
      refine stw (want_t (dj := 35) (by rfl) (by kernel_rfl) rfl) (y_move rfl rfl) rfl (by decide) ?_
      refine stw (want_t (dj := 35) (by rfl) (by kernel_rfl) rfl) (y_call (root_any w _ (rg.up u)) (by kernel_rfl) rfl rfl) rfl (by decide) ?_
      refine stw (want_t (dj := 35) (by rfl) (by kernel_rfl) rfl) (yb (nd_f ((way_at hn (i := (dirI x w).length - 1) (by omega)).2.2.2.2.2.2 (by omega))) (yi_neq rfl rfl rfl)) rfl (by decide) ?_
      refine stw (want_t (dj := 31) (by rfl) (by kernel_rfl) rfl) (y_pick true rfl rfl rfl) rfl (by decide) ?_
      refine stw (want_none (by rfl)) (y_pick false rfl rfl rfl) rfl (by decide) ?_
      refine sg_nil ?_
      refine nx (E' := [(1, _), (4, _), (5, _), (6, _), (46, _)]) (fk rfl (fk rfl (fk rfl (fk rfl (fk rfl fn))))) ?_
      refine cg_cf rfl ?_
      refine cg_skip ?_
      refine nx (E' := [(1, _), (4, _), (5, _), (6, _)]) (fk rfl (fk rfl (fk rfl (fk rfl fn)))) ?_
      refine cg_seq ?_
      refine cg_seq ?_
      refine cg_region ?_
      refine lsw (want_none (by rfl)) (y_assign rfl rfl) rfl (by decide) ?_
      refine lg_nil ?_
      refine nx (E' := [(1, _), (4, _), (5, _), (6, _), (7, _)]) (fk rfl (fk rfl (fk rfl (fk rfl (fk rfl fn))))) ?_
      refine cg_block ?_
      have bm2 : W3.heap.size = W3.heap.size := rfl
      have cm2 := i2
      refine cg_loopE (fun t a v => ∃ (j : Int), Holds 66 [(1, nv w), (5, .bool true), (6, (.slice A2 (dirI x w).length c2)), (7, nv j)] a ∧ Nums v W3.heap.size A2 (dirI x w).length (dirI x w) ∧ W3.heap.size ≤ v.heap.size ∧ Below W.heap.size W v ∧ (j = (t : Int) ∧ t ≤ (dirI x w).length)) (dirI x w).length (fun a ha => ⟨0, ha.keep (fk rfl (fk rfl (fk rfl (fk rfl fn)))), (m2.more (by omega)), (Nat.le_refl _), u, ⟨rfl, Nat.zero_le _⟩⟩) ?_
      rintro t a v ht ⟨j, ha, m2, hs, u, hj⟩
      refine cg_at ha ?_
      clear ha a
      have zv := u.size
      refine cg_seq ?_
      refine cg_seq ?_
      refine cg_region ?_
      refine lsw (want_none (by rfl)) (y_move rfl rfl) rfl (by decide) ?_
      refine lsw (want_none (by rfl)) (y_move rfl rfl) rfl (by decide) ?_
      refine lsw (want_none (by rfl)) (y_len (el := 3) (by kernel_rfl) rfl rfl) rfl (by decide) ?_
      by_cases c5 : j < ((dirI x w).length : Int)
      · have hw := way_at hn (i := t) (by omega)
        have dl2 := dirL ((dirI x w).getD t 0) w
        refine lsw (want_none (by rfl)) (yb (decide_eq_true c5) (yi_lss rfl rfl rfl)) rfl (by decide) ?_
        refine lg_nil ?_
        refine nx (E' := [(1, _), (5, _), (6, _), (7, _), (47, _), (48, _), (49, _), (50, _)]) (fk rfl (fk rfl (fk rfl (fk rfl (fk rfl (fk rfl (fk rfl (fk rfl fn)))))))) ?_
        refine cg_ct rfl ?_
        refine cg_skip ?_
        refine nx (E' := [(1, _), (5, _), (6, _), (7, _), (47, _), (48, _), (49, _), (50, _)]) (fk rfl (fk rfl (fk rfl (fk rfl (fk rfl (fk rfl (fk rfl (fk rfl fn)))))))) ?_
        refine cg_seq ?_
        refine cg_block ?_
        refine cg_seq ?_
        refine cg_held (by kernel_rfl) fun W6 eW6 => ?_
        have dW6 := below_drew _ _ eW6
        have zW6 := size_drew _ _ eW6
        clear eW6
        refine hg_take 0 (by rfl) (want_none (by rfl)) (by rfl) rfl (by decide) (by kernel_rfl) (by kernel_rfl) (by kernel_rfl) (fun _ _ _ h => h) (Below.refl _ _) (fun q hq => y_move rfl rfl) ?_
        refine hg_take 1 (by rfl) (want_none (by rfl)) (by rfl) rfl (by decide) (by kernel_rfl) (by kernel_rfl) (by kernel_rfl) (fun _ _ _ h => h) (Below.refl _ _) (fun q hq => y_move rfl rfl) ?_
        have m2 := m2.below (dW6.mono (by omega))
        refine hg_take 2 (by rfl) (want_none (by rfl)) (by rfl) rfl (by decide) (by kernel_rfl) (by kernel_rfl) (by kernel_rfl) (fun _ _ _ h => h) (Below.refl _ _) (fun q hq => y_ixN (i := t) (iI := j) (m2.below (hq.mono (by omega))) (by omega) (by omega) rfl rfl rfl) ?_
        refine hg_take 3 (by rfl) (want_none (by rfl)) (by rfl) rfl (by decide) (by kernel_rfl) (by kernel_rfl) (by kernel_rfl) (fun _ _ _ h => h) (Below.refl _ _) (fun q hq => y_ldN (i := t) (m2.below (hq.mono (by omega))) (by omega) rfl rfl) ?_
        refine hg_take 4 (by rfl) (want_none (by rfl)) (by rfl) rfl (by decide) (by kernel_rfl) (by kernel_rfl) (by kernel_rfl) (fun _ _ _ h => h) (Below.refl _ _) (fun q hq => y_move rfl rfl) ?_
        refine hg_take 6 (by rfl) (want_none (by rfl)) (by rfl) rfl (by decide) (by kernel_rfl) (by kernel_rfl) (by kernel_rfl) (fun _ _ _ h => h) (Below.refl _ _) (fun q hq => y_move rfl rfl) ?_
        refine hg_take 7 (by rfl) (want_none (by rfl)) (by rfl) rfl (by decide) (by kernel_rfl) (by kernel_rfl) (by kernel_rfl) (fun _ _ _ h => h) (Below.refl _ _) (fun q hq => y_move rfl rfl) ?_
        refine hg_take 8 (by rfl) (want_none (by rfl)) (by rfl) rfl (by decide) (by kernel_rfl) (by kernel_rfl) (by kernel_rfl) (fun _ _ _ h => h) (Below.refl _ _) (fun q hq => yi_add rfl rfl rfl (by omega) (by omega)) ?_
        have cu7 := m2.cutA ((t + 1)) c2 (by omega) (by omega)
        refine hg_take 9 (by rfl) (want_none (by rfl)) (by rfl) rfl (by decide) (by kernel_rfl) (by kernel_rfl) (by kernel_rfl) (fun _ _ _ h => h) (Below.refl _ _) (fun q hq => y_cutN_l (m := (dirI x w).length) (c := c2) ((t + 1)) (lo := (j + 1)) (by omega) (by omega) rfl rfl rfl) ?_
        have u := u.trans (dW6.mono u.size)
        refine hg_one 5 (by rfl) (by kernel_rfl) (want_none (by rfl)) ?_
        refine lg_callw (want_none (by rfl)) (direct_any ((dirI x w).getD t 0) w _ (rg.up u)) (by kernel_rfl) rfl rfl rfl (by decide) ?_
        rintro _ w8 ⟨A8, c8, rfl, i8, m8, hw8⟩
        have zw8 := hw8.size
        have ml8 := m8.1
        have dl8 := dirL ((dirI x w).getD t 0) w
        refine hg_next hw8 ?_
        refine hg_up hw8 ?_
        have cu7 := cu7.below (hw8.mono (by omega))
        refine hg_one 10 (by rfl) (by kernel_rfl) (want_none (by rfl)) ?_
        refine lg_callw (want_none (by rfl)) (ints_any _ _ _ _ _ _ _ _ _ (m8.more (by omega)) (cu7.more (by omega)) (by unfold maxLen; omega) (by unfold maxLen; omega)) (by kernel_rfl) rfl rfl rfl (by decide) ?_
        rintro u9 w9 ⟨e9, hw9⟩
        have zw9 := hw9.size
        obtain rfl : u9 = .bool true := e9.trans (congrArg Value.bool (decide_eq_true hw.2.1))
        refine hg_next hw9 ?_
        refine hg_up hw9 ?_
        refine hg_take 11 (by rfl) (want_none (by rfl)) (by rfl) rfl (by decide) (by kernel_rfl) (by kernel_rfl) (by kernel_rfl) (fun _ _ _ h => h) (Below.refl _ _) (fun q hq => y_bnot rfl rfl) ?_
        refine hg_done (by kernel_rfl) ?_
        refine nx (E' := [(1, _), (5, _), (6, _), (7, _), (47, _), (48, _), (49, _), (50, _), (53, _), (54, _), (55, _), (56, _), (57, _), (59, _), (60, _), (61, _), (62, _), (58, _), (63, _), (64, _)]) (fk rfl (fk rfl (fk rfl (fk rfl (fk rfl (fk rfl (fk rfl (fk rfl (fk rfl (fk rfl (fk rfl (fk rfl (fk rfl (fk rfl (fk rfl (fk rfl (fk rfl (fk rfl (fk rfl (fk rfl fn)))))))))))))))))))) ?_
        refine cg_cf rfl ?_
        refine cg_skip ?_
        refine eg_block_norm ?_
        refine nx (E' := [(1, _), (5, _), (6, _), (7, _), (47, _), (48, _), (49, _), (50, _), (53, _), (54, _), (55, _), (56, _), (57, _), (59, _), (60, _), (61, _), (62, _), (58, _), (63, _), (64, _)]) (fk rfl (fk rfl (fk rfl (fk rfl (fk rfl (fk rfl (fk rfl (fk rfl (fk rfl (fk rfl (fk rfl (fk rfl (fk rfl (fk rfl (fk rfl (fk rfl (fk rfl (fk rfl (fk rfl (fk rfl fn)))))))))))))))))))) ?_
        refine cg_region ?_
        refine lsw (want_none (by rfl)) (y_move rfl rfl) rfl (by decide) ?_
        refine lsw (want_none (by rfl)) (yi_add rfl rfl rfl (by omega) (by omega)) rfl (by decide) ?_
        refine lsw (want_none (by rfl)) (y_assign rfl rfl) rfl (by decide) ?_
        refine lg_nil ?_
        have m2 := m2.below (hw8.mono (by omega))
        have m2 := m2.below (hw9.mono (by omega))
        have hs := (show W3.heap.size ≤ W6.heap.size by omega)
        have hs := (show W3.heap.size ≤ w8.heap.size by omega)
        have hs := (show W3.heap.size ≤ w9.heap.size by omega)
        have u := u.trans (hw8.mono u.size)
        have u := u.trans (hw9.mono u.size)
        exact fun a ha => (show t < (dirI x w).length ∧ _ from ⟨(by omega), (j + 1), ha.keep (fk rfl (fk rfl (fk rfl (fk rfl fn)))), m2, hs, u, ⟨(by omega), (by omega)⟩⟩)
      · refine lsw (want_none (by rfl)) (yb (decide_eq_false c5) (yi_lss rfl rfl rfl)) rfl (by decide) ?_
        refine lg_nil ?_
        refine nx (E' := [(1, _), (5, _), (6, _), (7, _), (47, _), (48, _), (49, _), (50, _)]) (fk rfl (fk rfl (fk rfl (fk rfl (fk rfl (fk rfl (fk rfl (fk rfl fn)))))))) ?_
        refine cg_cf rfl ?_
        refine cg_exit ?_
        refine eg_seq_exit ?_
        refine eg_seq_exit ?_
        refine eg_block_exit ?_
        refine nx (E' := [(5, _)]) (fk rfl fn) ?_
        refine cg_seq ?_
        refine cg_region ?_
        refine lsw (want_none (by rfl)) (y_move rfl rfl) rfl (by decide) ?_
        refine lsw (want_none (by rfl)) (y_assign rfl rfl) rfl (by decide) ?_
        refine lg_nil ?_
        refine nx (E' := [(4, _)]) (fk rfl fn) ?_
        refine cg_ret ?_
        exact eg_ret_tmp rfl rfl ⟨_, rfl, rfl, u⟩
    · refine stw (want_t (dj := 31) (by rfl) (by kernel_rfl) rfl) (yb (decide_eq_false c4) (yi_gtr rfl rfl rfl)) rfl (by decide) ?_
      refine stw (want_t (dj := 31) (by rfl) (by kernel_rfl) rfl) (y_move rfl rfl) rfl (by decide) ?_
      refine stk (want_f (dj := 35) (by rfl) (by kernel_rfl) rfl) rfl (by decide) ?_
      refine stk (want_f (dj := 35) (by rfl) (by kernel_rfl) rfl) rfl (by decide) ?_
      refine stk (want_f (dj := 35) (by rfl) (by kernel_rfl) rfl) rfl (by decide) ?_
      refine stk (want_f (dj := 35) (by rfl) (by kernel_rfl) rfl) rfl (by decide) ?_
      refine stk (want_f (dj := 35) (by rfl) (by kernel_rfl) rfl) rfl (by decide) ?_
      refine stk (want_f (dj := 35) (by rfl) (by kernel_rfl) rfl) rfl (by decide) ?_
      refine stk (want_f (dj := 35) (by rfl) (by kernel_rfl) rfl) rfl (by decide) ?_
      refine stk (want_f (dj := 35) (by rfl) (by kernel_rfl) rfl) rfl (by decide) ?_
      refine stk (want_f (dj := 35) (by rfl) (by kernel_rfl) rfl) rfl (by decide) ?_
      refine stw (want_t (dj := 31) (by rfl) (by kernel_rfl) rfl) (y_pick false rfl rfl rfl) rfl (by decide) ?_
      refine stw (want_none (by rfl)) (y_pick false rfl rfl rfl) rfl (by decide) ?_
      refine sg_nil ?_
      refine nx (E' := [(1, _), (4, _), (5, _), (6, _), (46, _)]) (fk rfl (fk rfl (fk rfl (fk rfl (fk rfl fn))))) ?_
      refine cg_cf rfl ?_
      refine cg_skip ?_
      refine nx (E' := [(1, _), (4, _), (5, _), (6, _)]) (fk rfl (fk rfl (fk rfl (fk rfl fn)))) ?_
      refine cg_seq ?_
      refine cg_seq ?_
      refine cg_region ?_
      refine lsw (want_none (by rfl)) (y_assign rfl rfl) rfl (by decide) ?_
      refine lg_nil ?_
      refine nx (E' := [(1, _), (4, _), (5, _), (6, _), (7, _)]) (fk rfl (fk rfl (fk rfl (fk rfl (fk rfl fn))))) ?_
      refine cg_block ?_
      have bm2 : W3.heap.size = W3.heap.size := rfl
      have m2 := m2.below (dW3.mono (by omega))
      have cm2 := i2
      refine cg_loopE (fun t a v => ∃ (j : Int), Holds 66 [(1, nv w), (5, .bool true), (6, (.slice A2 (dirI x w).length c2)), (7, nv j)] a ∧ Nums v W3.heap.size A2 (dirI x w).length (dirI x w) ∧ W3.heap.size ≤ v.heap.size ∧ Below W.heap.size W v ∧ (j = (t : Int) ∧ t ≤ (dirI x w).length)) (dirI x w).length (fun a ha => ⟨0, ha.keep (fk rfl (fk rfl (fk rfl (fk rfl fn)))), (m2.more (by omega)), (Nat.le_refl _), u, ⟨rfl, Nat.zero_le _⟩⟩) ?_
      rintro t a v ht ⟨j, ha, m2, hs, u, hj⟩
      refine cg_at ha ?_
      clear ha a
      have zv := u.size
      refine cg_seq ?_
      refine cg_seq ?_
      refine cg_region ?_
      refine lsw (want_none (by rfl)) (y_move rfl rfl) rfl (by decide) ?_
      refine lsw (want_none (by rfl)) (y_move rfl rfl) rfl (by decide) ?_
      refine lsw (want_none (by rfl)) (y_len (el := 3) (by kernel_rfl) rfl rfl) rfl (by decide) ?_
      by_cases c10 : j < ((dirI x w).length : Int)
      · have hw := way_at hn (i := t) (by omega)
        have dl2 := dirL ((dirI x w).getD t 0) w
        refine lsw (want_none (by rfl)) (yb (decide_eq_true c10) (yi_lss rfl rfl rfl)) rfl (by decide) ?_
        refine lg_nil ?_
        refine nx (E' := [(1, _), (5, _), (6, _), (7, _), (47, _), (48, _), (49, _), (50, _)]) (fk rfl (fk rfl (fk rfl (fk rfl (fk rfl (fk rfl (fk rfl (fk rfl fn)))))))) ?_
        refine cg_ct rfl ?_
        refine cg_skip ?_
        refine nx (E' := [(1, _), (5, _), (6, _), (7, _), (47, _), (48, _), (49, _), (50, _)]) (fk rfl (fk rfl (fk rfl (fk rfl (fk rfl (fk rfl (fk rfl (fk rfl fn)))))))) ?_
        refine cg_seq ?_
        refine cg_block ?_
        refine cg_seq ?_
        refine cg_held (by kernel_rfl) fun W11 eW11 => ?_
        have dW11 := below_drew _ _ eW11
        have zW11 := size_drew _ _ eW11
        clear eW11
        refine hg_take 0 (by rfl) (want_none (by rfl)) (by rfl) rfl (by decide) (by kernel_rfl) (by kernel_rfl) (by kernel_rfl) (fun _ _ _ h => h) (Below.refl _ _) (fun q hq => y_move rfl rfl) ?_
        refine hg_take 1 (by rfl) (want_none (by rfl)) (by rfl) rfl (by decide) (by kernel_rfl) (by kernel_rfl) (by kernel_rfl) (fun _ _ _ h => h) (Below.refl _ _) (fun q hq => y_move rfl rfl) ?_
        have m2 := m2.below (dW11.mono (by omega))
        refine hg_take 2 (by rfl) (want_none (by rfl)) (by rfl) rfl (by decide) (by kernel_rfl) (by kernel_rfl) (by kernel_rfl) (fun _ _ _ h => h) (Below.refl _ _) (fun q hq => y_ixN (i := t) (iI := j) (m2.below (hq.mono (by omega))) (by omega) (by omega) rfl rfl rfl) ?_
        refine hg_take 3 (by rfl) (want_none (by rfl)) (by rfl) rfl (by decide) (by kernel_rfl) (by kernel_rfl) (by kernel_rfl) (fun _ _ _ h => h) (Below.refl _ _) (fun q hq => y_ldN (i := t) (m2.below (hq.mono (by omega))) (by omega) rfl rfl) ?_
        refine hg_take 4 (by rfl) (want_none (by rfl)) (by rfl) rfl (by decide) (by kernel_rfl) (by kernel_rfl) (by kernel_rfl) (fun _ _ _ h => h) (Below.refl _ _) (fun q hq => y_move rfl rfl) ?_
        refine hg_take 6 (by rfl) (want_none (by rfl)) (by rfl) rfl (by decide) (by kernel_rfl) (by kernel_rfl) (by kernel_rfl) (fun _ _ _ h => h) (Below.refl _ _) (fun q hq => y_move rfl rfl) ?_
        refine hg_take 7 (by rfl) (want_none (by rfl)) (by rfl) rfl (by decide) (by kernel_rfl) (by kernel_rfl) (by kernel_rfl) (fun _ _ _ h => h) (Below.refl _ _) (fun q hq => y_move rfl rfl) ?_
        refine hg_take 8 (by rfl) (want_none (by rfl)) (by rfl) rfl (by decide) (by kernel_rfl) (by kernel_rfl) (by kernel_rfl) (fun _ _ _ h => h) (Below.refl _ _) (fun q hq => yi_add rfl rfl rfl (by omega) (by omega)) ?_
        have cu12 := m2.cutA ((t + 1)) c2 (by omega) (by omega)
        refine hg_take 9 (by rfl) (want_none (by rfl)) (by rfl) rfl (by decide) (by kernel_rfl) (by kernel_rfl) (by kernel_rfl) (fun _ _ _ h => h) (Below.refl _ _) (fun q hq => y_cutN_l (m := (dirI x w).length) (c := c2) ((t + 1)) (lo := (j + 1)) (by omega) (by omega) rfl rfl rfl) ?_
        have u := u.trans (dW11.mono u.size)
        refine hg_one 5 (by rfl) (by kernel_rfl) (want_none (by rfl)) ?_
        refine lg_callw (want_none (by rfl)) (direct_any ((dirI x w).getD t 0) w _ (rg.up u)) (by kernel_rfl) rfl rfl rfl (by decide) ?_
        rintro _ w13 ⟨A13, c13, rfl, i13, m13, hw13⟩
        have zw13 := hw13.size
        have ml13 := m13.1
        have dl13 := dirL ((dirI x w).getD t 0) w
        refine hg_next hw13 ?_
        refine hg_up hw13 ?_
        have cu12 := cu12.below (hw13.mono (by omega))
        refine hg_one 10 (by rfl) (by kernel_rfl) (want_none (by rfl)) ?_
        refine lg_callw (want_none (by rfl)) (ints_any _ _ _ _ _ _ _ _ _ (m13.more (by omega)) (cu12.more (by omega)) (by unfold maxLen; omega) (by unfold maxLen; omega)) (by kernel_rfl) rfl rfl rfl (by decide) ?_
        rintro u14 w14 ⟨e14, hw14⟩
        have zw14 := hw14.size
        obtain rfl : u14 = .bool true := e14.trans (congrArg Value.bool (decide_eq_true hw.2.1))
        refine hg_next hw14 ?_
        refine hg_up hw14 ?_
        refine hg_take 11 (by rfl) (want_none (by rfl)) (by rfl) rfl (by decide) (by kernel_rfl) (by kernel_rfl) (by kernel_rfl) (fun _ _ _ h => h) (Below.refl _ _) (fun q hq => y_bnot rfl rfl) ?_
        refine hg_done (by kernel_rfl) ?_
        refine nx (E' := [(1, _), (5, _), (6, _), (7, _), (47, _), (48, _), (49, _), (50, _), (53, _), (54, _), (55, _), (56, _), (57, _), (59, _), (60, _), (61, _), (62, _), (58, _), (63, _), (64, _)]) (fk rfl (fk rfl (fk rfl (fk rfl (fk rfl (fk rfl (fk rfl (fk rfl (fk rfl (fk rfl (fk rfl (fk rfl (fk rfl (fk rfl (fk rfl (fk rfl (fk rfl (fk rfl (fk rfl (fk rfl fn)))))))))))))))))))) ?_
        refine cg_cf rfl ?_
        refine cg_skip ?_
        refine eg_block_norm ?_
        refine nx (E' := [(1, _), (5, _), (6, _), (7, _), (47, _), (48, _), (49, _), (50, _), (53, _), (54, _), (55, _), (56, _), (57, _), (59, _), (60, _), (61, _), (62, _), (58, _), (63, _), (64, _)]) (fk rfl (fk rfl (fk rfl (fk rfl (fk rfl (fk rfl (fk rfl (fk rfl (fk rfl (fk rfl (fk rfl (fk rfl (fk rfl (fk rfl (fk rfl (fk rfl (fk rfl (fk rfl (fk rfl (fk rfl fn)))))))))))))))))))) ?_
        refine cg_region ?_
        refine lsw (want_none (by rfl)) (y_move rfl rfl) rfl (by decide) ?_
        refine lsw (want_none (by rfl)) (yi_add rfl rfl rfl (by omega) (by omega)) rfl (by decide) ?_
        refine lsw (want_none (by rfl)) (y_assign rfl rfl) rfl (by decide) ?_
        refine lg_nil ?_
        have m2 := m2.below (hw13.mono (by omega))
        have m2 := m2.below (hw14.mono (by omega))
        have hs := (show W3.heap.size ≤ W11.heap.size by omega)
        have hs := (show W3.heap.size ≤ w13.heap.size by omega)
        have hs := (show W3.heap.size ≤ w14.heap.size by omega)
        have u := u.trans (hw13.mono u.size)
        have u := u.trans (hw14.mono u.size)
        exact fun a ha => (show t < (dirI x w).length ∧ _ from ⟨(by omega), (j + 1), ha.keep (fk rfl (fk rfl (fk rfl (fk rfl fn)))), m2, hs, u, ⟨(by omega), (by omega)⟩⟩)
      · refine lsw (want_none (by rfl)) (yb (decide_eq_false c10) (yi_lss rfl rfl rfl)) rfl (by decide) ?_
        refine lg_nil ?_
        refine nx (E' := [(1, _), (5, _), (6, _), (7, _), (47, _), (48, _), (49, _), (50, _)]) (fk rfl (fk rfl (fk rfl (fk rfl (fk rfl (fk rfl (fk rfl (fk rfl fn)))))))) ?_
        refine cg_cf rfl ?_
        refine cg_exit ?_
        refine eg_seq_exit ?_
        refine eg_seq_exit ?_
        refine eg_block_exit ?_
        refine nx (E' := [(5, _)]) (fk rfl fn) ?_
        refine cg_seq ?_
        refine cg_region ?_
        refine lsw (want_none (by rfl)) (y_move rfl rfl) rfl (by decide) ?_
        refine lsw (want_none (by rfl)) (y_assign rfl rfl) rfl (by decide) ?_
        refine lg_nil ?_
        refine nx (E' := [(4, _)]) (fk rfl fn) ?_
        refine cg_ret ?_
        exact eg_ret_tmp rfl rfl ⟨_, rfl, rfl, u⟩
  · refine calls_cg (n := 66) Tryd.func7 rfl Tryd.ntmps7 (by simp) ?_
    show CG _ _ _ [(0, nv x), (1, nv w)] _ _
    have u := Below.refl W.heap.size W
    have d0 : (dirI x w).length = 0 := by rw [dir_no hn]; rfl
    refine cg_seq ?_
    refine cg_region ?_
    refine lsw (want_none (by rfl)) (y_assign rfl rfl) rfl (by decide) ?_
    refine lg_nil ?_
    refine nx (E' := [(0, _), (1, _), (4, _)]) (fk rfl (fk rfl (fk rfl fn))) ?_
    refine cg_seq ?_
    refine cg_region ?_
    refine lg_callw (want_none (by rfl)) (wawake_any _ (rg.up u)) (by kernel_rfl) rfl rfl rfl (by decide) ?_
    rintro _ w1 ⟨rfl, hw1⟩
    have zw1 := hw1.size
    refine lsw (want_none (by rfl)) (y_assign rfl rfl) rfl (by decide) ?_
    refine lg_nil ?_
    refine nx (E' := [(0, _), (1, _), (4, _), (5, _)]) (fk rfl (fk rfl (fk rfl (fk rfl fn)))) ?_
    refine cg_seq ?_
    refine cg_region ?_
    refine lsw (want_none (by rfl)) (y_move rfl rfl) rfl (by decide) ?_
    refine lsw (want_none (by rfl)) (y_move rfl rfl) rfl (by decide) ?_
    have u := u.trans (hw1.mono u.size)
    refine lg_callw (want_none (by rfl)) (direct_any x w _ (rg.up u)) (by kernel_rfl) rfl rfl rfl (by decide) ?_
    rintro _ w2 ⟨A2, c2, rfl, i2, m2, hw2⟩
    have zw2 := hw2.size
    have ml2 := m2.1
    have dl2 := dirL x w
    refine lsw (want_none (by rfl)) (y_assign rfl rfl) rfl (by decide) ?_
    refine lg_nil ?_
    refine nx (E' := [(0, _), (1, _), (4, _), (5, _), (6, _)]) (fk rfl (fk rfl (fk rfl (fk rfl (fk rfl fn))))) ?_
    refine cg_seq ?_
    refine cg_seq ?_
    refine cg_region ?_
    refine lsw (want_none (by rfl)) (y_move rfl rfl) rfl (by decide) ?_
    refine lsw (want_none (by rfl)) (y_move rfl rfl) rfl (by decide) ?_
    have u := u.trans (hw2.mono u.size)
    refine lsw (want_none (by rfl)) (yb (decide_eq_false hn) (y_call (is_any x w _ (rg.up u)) (by kernel_rfl) rfl rfl)) rfl (by decide) ?_
    refine lsw (want_none (by rfl)) (y_bnot rfl rfl) rfl (by decide) ?_
    refine lg_nil ?_
    refine nx (E' := [(0, _), (1, _), (4, _), (5, _), (6, _), (15, _)]) (fk rfl (fk rfl (fk rfl (fk rfl (fk rfl (fk rfl fn)))))) ?_
    refine cg_ct rfl ?_
    refine cg_seq ?_
    refine cg_region ?_
    refine lsw (want_none (by rfl)) (y_move rfl rfl) rfl (by decide) ?_
    refine lsw (want_none (by rfl)) (y_move rfl rfl) rfl (by decide) ?_
    refine lsw (want_t (dj := 17) (by rfl) (by kernel_rfl) rfl) (y_move rfl rfl) rfl (by decide) ?_
    refine lsw (want_t (dj := 17) (by rfl) (by kernel_rfl) rfl) (y_len (el := 3) (by kernel_rfl) rfl rfl) rfl (by decide) ?_
    refine lsw (want_t (dj := 17) (by rfl) (by kernel_rfl) rfl) (yb (decide_eq_true (by omega)) (yi_eql rfl rfl rfl)) rfl (by decide) ?_
    refine lsw (want_none (by rfl)) (y_pick true rfl rfl rfl) rfl (by decide) ?_
    refine lsw (want_none (by rfl)) (y_assign rfl rfl) rfl (by decide) ?_
    refine lg_nil ?_
    refine nx (E' := [(0, _), (1, _), (5, _), (6, _), (4, _)]) (fk rfl (fk rfl (fk rfl (fk rfl (fk rfl fn))))) ?_
    refine cg_ret ?_
    refine eg_seq_ret ?_
    exact eg_ret_tmp rfl rfl ⟨_, rfl, rfl, u⟩
end Go.Proofs.YtgcneppjdhnacaaDoor
