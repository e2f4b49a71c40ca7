/-
  Two ways meet, and stay together.
-/
import Derived.Test.YtgcneppjdhnacaaDoorWaAwake
import Derived.Test.YtgcneppjdhnacaaDoorWaMore
namespace Go.Proofs.YtgcneppjdhnacaaDoor
open Go.ChangeShapes Go.WideShapes Go.ChangeAt Go.RowKit
set_option linter.unusedVariables false
set_option maxRecDepth 20000
theorem waMeets_any (x y w : Int) (W : World) (rg : Tb W) : Calls Tryd.prog 8 #[nv x, nv y, nv w] W fun e W' => ∃ v, e = .returned v ∧ v = .bool true ∧ Below W.heap.size W W' := by
  by_cases hx : isN x w
  · by_cases hy : isN y w
    · refine calls_cg (n := 115) Tryd.func8 rfl Tryd.ntmps8 (by simp) ?_
      show CG _ _ _ [(0, nv x), (1, nv y), (2, nv w)] _ _
      have u := Below.refl W.heap.size W
      have cf := com_facts hx hy
      have mx := meets hx hy
      have my := meets hy hx
      rw [cf.2.1] at my
      have mx1 := mx.1
      have my1 := my.1
      have c0 := cf.1.2.1
      refine cg_seq ?_
      refine cg_region ?_
      refine lsw (want_none (by rfl)) (y_assign rfl rfl) rfl (by decide) ?_
      refine lg_nil ?_
      refine nx (E' := [(0, _), (1, _), (2, _), (6, _)]) (fk rfl (fk rfl (fk rfl (fk rfl fn)))) ?_
      refine cg_seq ?_
      refine cg_region ?_
      refine lg_callw (want_none (by rfl)) (wawake_any _ (rg.up u)) (by kernel_rfl) rfl rfl rfl (by decide) ?_
      rintro _ w1 ⟨rfl, hw1⟩
      have zw1 := hw1.size
      refine lsw (want_none (by rfl)) (y_assign rfl rfl) rfl (by decide) ?_
      refine lg_nil ?_
      refine nx (E' := [(0, _), (1, _), (2, _), (6, _), (7, _)]) (fk rfl (fk rfl (fk rfl (fk rfl (fk rfl fn))))) ?_
      refine cg_seq ?_
      refine cg_region ?_
      refine lsw (want_none (by rfl)) (y_move rfl rfl) rfl (by decide) ?_
      refine lsw (want_none (by rfl)) (y_move rfl rfl) rfl (by decide) ?_
      refine lsw (want_none (by rfl)) (y_move rfl rfl) rfl (by decide) ?_
      have u := u.trans (hw1.mono u.size)
      refine lg_callw (want_none (by rfl)) (common_any x y w _ (rg.up u)) (by kernel_rfl) rfl rfl rfl (by decide) ?_
      rintro _ w2 ⟨rfl, hw2⟩
      have zw2 := hw2.size
      refine lsw (want_none (by rfl)) (y_assign rfl rfl) rfl (by decide) ?_
      refine lg_nil ?_
      refine nx (E' := [(0, _), (1, _), (2, _), (6, _), (7, _), (8, _)]) (fk rfl (fk rfl (fk rfl (fk rfl (fk rfl (fk rfl fn)))))) ?_
      refine cg_seq ?_
      refine cg_seq ?_
      refine cg_region ?_
      refine lsw (want_none (by rfl)) (y_move rfl rfl) rfl (by decide) ?_
      refine lsw (want_none (by rfl)) (yb (decide_eq_false (by omega)) (yi_lss rfl rfl rfl)) rfl (by decide) ?_
      refine lg_nil ?_
      refine nx (E' := [(0, _), (1, _), (2, _), (6, _), (7, _), (8, _), (20, _)]) (fk rfl (fk rfl (fk rfl (fk rfl (fk rfl (fk rfl (fk rfl fn))))))) ?_
      refine cg_cf rfl ?_
      refine cg_skip ?_
      refine nx (E' := [(0, _), (1, _), (2, _), (6, _), (7, _), (8, _)]) (fk rfl (fk rfl (fk rfl (fk rfl (fk rfl (fk rfl fn)))))) ?_
      refine cg_seq ?_
      refine cg_region ?_
      refine lsw (want_none (by rfl)) (y_move rfl rfl) rfl (by decide) ?_
      refine lsw (want_none (by rfl)) (y_move rfl rfl) rfl (by decide) ?_
      have u := u.trans (hw2.mono u.size)
      refine lg_callw (want_none (by rfl)) (direct_any x w _ (rg.up u)) (by kernel_rfl) rfl rfl rfl (by decide) ?_
      rintro _ w3 ⟨A3, c3, rfl, i3, m3, hw3⟩
      have zw3 := hw3.size
      have ml3 := m3.1
      have dl3 := dirL x w
      refine lsw (want_none (by rfl)) (y_assign rfl rfl) rfl (by decide) ?_
      refine lg_nil ?_
      refine nx (E' := [(1, _), (2, _), (6, _), (7, _), (8, _), (9, _)]) (fk rfl (fk rfl (fk rfl (fk rfl (fk rfl (fk rfl fn)))))) ?_
      refine cg_seq ?_
      refine cg_region ?_
      refine lsw (want_none (by rfl)) (y_move rfl rfl) rfl (by decide) ?_
      refine lsw (want_none (by rfl)) (y_move rfl rfl) rfl (by decide) ?_
      have u := u.trans (hw3.mono u.size)
      refine lg_callw (want_none (by rfl)) (direct_any y w _ (rg.up u)) (by kernel_rfl) rfl rfl rfl (by decide) ?_
      rintro _ w4 ⟨A4, c4, rfl, i4, m4, hw4⟩
      have zw4 := hw4.size
      have ml4 := m4.1
      have dl4 := dirL y w
      refine lsw (want_none (by rfl)) (y_assign rfl rfl) rfl (by decide) ?_
      refine lg_nil ?_
      refine nx (E' := [(2, _), (6, _), (7, _), (8, _), (9, _), (10, _)]) (fk rfl (fk rfl (fk rfl (fk rfl (fk rfl (fk rfl fn)))))) ?_
      refine cg_seq ?_
      refine cg_region ?_
      refine lsw (want_none (by rfl)) (y_move rfl rfl) rfl (by decide) ?_
      refine lsw (want_none (by rfl)) (y_move rfl rfl) rfl (by decide) ?_
      have u := u.trans (hw4.mono u.size)
      refine lg_callw (want_none (by rfl)) (direct_any (comI x y w) w _ (rg.up u)) (by kernel_rfl) rfl rfl rfl (by decide) ?_
      rintro _ w5 ⟨A5, c5, rfl, i5, m5, hw5⟩
      have zw5 := hw5.size
      have ml5 := m5.1
      have dl5 := dirL (comI x y w) w
      refine lsw (want_none (by rfl)) (y_assign rfl rfl) rfl (by decide) ?_
      refine lg_nil ?_
      refine nx (E' := [(6, _), (7, _), (8, _), (9, _), (10, _), (11, _)]) (fk rfl (fk rfl (fk rfl (fk rfl (fk rfl (fk rfl fn)))))) ?_
      refine cg_seq ?_
      refine cg_seq ?_
      refine cg_region ?_
      refine lsw (want_none (by rfl)) (y_move rfl rfl) rfl (by decide) ?_
      refine lsw (want_none (by rfl)) (y_len (el := 3) (by kernel_rfl) rfl rfl) rfl (by decide) ?_
      refine lsw (want_none (by rfl)) (y_move rfl rfl) rfl (by decide) ?_
      refine lsw (want_none (by rfl)) (y_len (el := 3) (by kernel_rfl) rfl rfl) rfl (by decide) ?_
      refine lsw (want_none (by rfl)) (yb (decide_eq_false (by omega)) (yi_lss rfl rfl rfl)) rfl (by decide) ?_
      refine lsw (want_none (by rfl)) (y_move rfl rfl) rfl (by decide) ?_
      refine lsw (want_t (dj := 48) (by rfl) (by kernel_rfl) rfl) (y_move rfl rfl) rfl (by decide) ?_
      refine lsw (want_t (dj := 48) (by rfl) (by kernel_rfl) rfl) (y_len (el := 3) (by kernel_rfl) rfl rfl) rfl (by decide) ?_
      refine lsw (want_t (dj := 48) (by rfl) (by kernel_rfl) rfl) (y_move rfl rfl) rfl (by decide) ?_
      refine lsw (want_t (dj := 48) (by rfl) (by kernel_rfl) rfl) (y_len (el := 3) (by kernel_rfl) rfl rfl) rfl (by decide) ?_
      refine lsw (want_t (dj := 48) (by rfl) (by kernel_rfl) rfl) (yb (decide_eq_false (by omega)) (yi_lss rfl rfl rfl)) rfl (by decide) ?_
      refine lsw (want_none (by rfl)) (y_pick false rfl rfl rfl) rfl (by decide) ?_
      refine lsw (want_none (by rfl)) (y_move rfl rfl) rfl (by decide) ?_
      refine lsw (want_t (dj := 55) (by rfl) (by kernel_rfl) rfl) (y_move rfl rfl) rfl (by decide) ?_
      refine lsw (want_t (dj := 55) (by rfl) (by kernel_rfl) rfl) (y_move rfl rfl) rfl (by decide) ?_
      refine lsw (want_t (dj := 55) (by rfl) (by kernel_rfl) rfl) (y_len (el := 3) (by kernel_rfl) rfl rfl) rfl (by decide) ?_
      refine lsw (want_t (dj := 55) (by rfl) (by kernel_rfl) rfl) (y_move rfl rfl) rfl (by decide) ?_
      refine lsw (want_t (dj := 55) (by rfl) (by kernel_rfl) rfl) (y_len (el := 3) (by kernel_rfl) rfl rfl) rfl (by decide) ?_
      refine lsw (want_t (dj := 55) (by rfl) (by kernel_rfl) rfl) (yi_sub rfl rfl rfl (by omega) (by omega)) rfl (by decide) ?_
      have m3 := m3.below (hw4.mono (by omega))
      have m3 := m3.below (hw5.mono (by omega))
      have cu6 := m3.cutA (((dirI x w).length - (dirI (comI x y w) w).length)) c3 (by omega) (by omega)
      refine lsw (want_t (dj := 55) (by rfl) (by kernel_rfl) rfl) (y_cutN_l (m := (dirI x w).length) (c := c3) (((dirI x w).length - (dirI (comI x y w) w).length)) (lo := (((dirI x w).length : Int) - ((dirI (comI x y w) w).length : Int))) (by omega) (by omega) rfl rfl rfl) rfl (by decide) ?_
      refine lsw (want_t (dj := 55) (by rfl) (by kernel_rfl) rfl) (y_move rfl rfl) rfl (by decide) ?_
      refine lg_callw (want_t (dj := 55) (by rfl) (by kernel_rfl) rfl) (ints_any _ _ _ _ _ _ _ _ _ (cu6.more (by omega)) (m5.more (by omega)) (by unfold maxLen; omega) (by unfold maxLen; omega)) (by kernel_rfl) rfl rfl rfl (by decide) ?_
      rintro u7 w7 ⟨e7, hw7⟩
      have zw7 := hw7.size
      obtain rfl : u7 = .bool true := e7.trans (congrArg Value.bool (decide_eq_true mx.2.1))
      refine lsw (want_t (dj := 55) (by rfl) (by kernel_rfl) rfl) (y_bnot rfl rfl) rfl (by decide) ?_
      refine lsw (want_none (by rfl)) (y_pick false rfl rfl rfl) rfl (by decide) ?_
      refine lsw (want_none (by rfl)) (y_move rfl rfl) rfl (by decide) ?_
      refine lsw (want_t (dj := 67) (by rfl) (by kernel_rfl) rfl) (y_move rfl rfl) rfl (by decide) ?_
      refine lsw (want_t (dj := 67) (by rfl) (by kernel_rfl) rfl) (y_move rfl rfl) rfl (by decide) ?_
      refine lsw (want_t (dj := 67) (by rfl) (by kernel_rfl) rfl) (y_len (el := 3) (by kernel_rfl) rfl rfl) rfl (by decide) ?_
      refine lsw (want_t (dj := 67) (by rfl) (by kernel_rfl) rfl) (y_move rfl rfl) rfl (by decide) ?_
      refine lsw (want_t (dj := 67) (by rfl) (by kernel_rfl) rfl) (y_len (el := 3) (by kernel_rfl) rfl rfl) rfl (by decide) ?_
      refine lsw (want_t (dj := 67) (by rfl) (by kernel_rfl) rfl) (yi_sub rfl rfl rfl (by omega) (by omega)) rfl (by decide) ?_
      have m4 := m4.below (hw5.mono (by omega))
      have m4 := m4.below (hw7.mono (by omega))
      have cu8 := m4.cutA (((dirI y w).length - (dirI (comI x y w) w).length)) c4 (by omega) (by omega)
      refine lsw (want_t (dj := 67) (by rfl) (by kernel_rfl) rfl) (y_cutN_l (m := (dirI y w).length) (c := c4) (((dirI y w).length - (dirI (comI x y w) w).length)) (lo := (((dirI y w).length : Int) - ((dirI (comI x y w) w).length : Int))) (by omega) (by omega) rfl rfl rfl) rfl (by decide) ?_
      refine lsw (want_t (dj := 67) (by rfl) (by kernel_rfl) rfl) (y_move rfl rfl) rfl (by decide) ?_
      have m5 := m5.below (hw7.mono (by omega))
      refine lg_callw (want_t (dj := 67) (by rfl) (by kernel_rfl) rfl) (ints_any _ _ _ _ _ _ _ _ _ (cu8.more (by omega)) (m5.more (by omega)) (by unfold maxLen; omega) (by unfold maxLen; omega)) (by kernel_rfl) rfl rfl rfl (by decide) ?_
      rintro u9 w9 ⟨e9, hw9⟩
      have zw9 := hw9.size
      obtain rfl : u9 = .bool true := e9.trans (congrArg Value.bool (decide_eq_true my.2.1))
      refine lsw (want_t (dj := 67) (by rfl) (by kernel_rfl) rfl) (y_bnot rfl rfl) rfl (by decide) ?_
      refine lsw (want_none (by rfl)) (y_pick false rfl rfl rfl) rfl (by decide) ?_
      refine lg_nil ?_
      refine nx (E' := [(6, _), (7, _), (8, _), (9, _), (10, _), (11, _), (78, _)]) (fk rfl (fk rfl (fk rfl (fk rfl (fk rfl (fk rfl (fk rfl fn))))))) ?_
      refine cg_cf rfl ?_
      refine cg_skip ?_
      refine nx (E' := [(6, _), (7, _), (8, _), (9, _), (10, _), (11, _)]) (fk rfl (fk rfl (fk rfl (fk rfl (fk rfl (fk rfl fn)))))) ?_
      refine cg_seq ?_
      refine cg_seq ?_
      refine cg_region ?_
      refine lsw (want_none (by rfl)) (y_assign rfl rfl) rfl (by decide) ?_
      refine lg_nil ?_
      refine nx (E' := [(6, _), (7, _), (8, _), (9, _), (10, _), (11, _), (12, _)]) (fk rfl (fk rfl (fk rfl (fk rfl (fk rfl (fk rfl (fk rfl fn))))))) ?_
      refine cg_block ?_
      have m3 := m3.below (hw7.mono (by omega))
      have m3 := m3.below (hw9.mono (by omega))
      have m4 := m4.below (hw9.mono (by omega))
      have m5 := m5.below (hw9.mono (by omega))
      have u := u.trans (hw5.mono u.size)
      have u := u.trans (hw7.mono u.size)
      have u := u.trans (hw9.mono u.size)
      refine cg_loopE (fun t a v => ∃ (i : Int), Holds 115 [(7, .bool true), (8, nv (comI x y w)), (9, (.slice A3 (dirI x w).length c3)), (10, (.slice A4 (dirI y w).length c4)), (11, (.slice A5 (dirI (comI x y w) w).length c5)), (12, nv i)] a ∧ Nums v w9.heap.size A3 (dirI x w).length (dirI x w) ∧ Nums v w9.heap.size A4 (dirI y w).length (dirI y w) ∧ Nums v w9.heap.size A5 (dirI (comI x y w) w).length (dirI (comI x y w) w) ∧ w9.heap.size ≤ v.heap.size ∧ Below W.heap.size W v ∧ (i = (t : Int) ∧ t ≤ ((dirI x w).length - (dirI (comI x y w) w).length))) ((dirI x w).length - (dirI (comI x y w) w).length) (fun a ha => ⟨0, ha.keep (fk rfl (fk rfl (fk rfl (fk rfl (fk rfl (fk rfl fn)))))), (m3.more (by omega)), (m4.more (by omega)), (m5.more (by omega)), (by omega), u, ⟨rfl, Nat.zero_le _⟩⟩) ?_
      rintro t a v ht ⟨i, ha, m3, m4, m5, hs, u, hi⟩
      refine cg_at ha ?_
      clear ha a
      have zv := u.size
      refine cg_seq ?_
      refine cg_seq ?_
      refine cg_region ?_
      refine lsw (want_none (by rfl)) (y_move rfl rfl) rfl (by decide) ?_
      refine lsw (want_none (by rfl)) (y_move rfl rfl) rfl (by decide) ?_
      refine lsw (want_none (by rfl)) (y_len (el := 3) (by kernel_rfl) rfl rfl) rfl (by decide) ?_
      refine lsw (want_none (by rfl)) (y_move rfl rfl) rfl (by decide) ?_
      refine lsw (want_none (by rfl)) (y_len (el := 3) (by kernel_rfl) rfl rfl) rfl (by decide) ?_
      refine lsw (want_none (by rfl)) (yi_sub rfl rfl rfl (by omega) (by omega)) rfl (by decide) ?_
      by_cases c10 : i < (((dirI x w).length : Int) - ((dirI (comI x y w) w).length : Int))
      · refine lsw (want_none (by rfl)) (yb (decide_eq_true c10) (yi_lss rfl rfl rfl)) rfl (by decide) ?_
        refine lg_nil ?_
        refine nx (E' := [(7, _), (8, _), (9, _), (10, _), (11, _), (12, _), (79, _), (80, _), (81, _), (82, _), (83, _), (84, _), (85, _)]) (fk rfl (fk rfl (fk rfl (fk rfl (fk rfl (fk rfl (fk rfl (fk rfl (fk rfl (fk rfl (fk rfl (fk rfl (fk rfl fn))))))))))))) ?_
        refine cg_ct rfl ?_
        refine cg_skip ?_
        refine nx (E' := [(7, _), (8, _), (9, _), (10, _), (11, _), (12, _), (79, _), (80, _), (81, _), (82, _), (83, _), (84, _), (85, _)]) (fk rfl (fk rfl (fk rfl (fk rfl (fk rfl (fk rfl (fk rfl (fk rfl (fk rfl (fk rfl (fk rfl (fk rfl (fk rfl fn))))))))))))) ?_
        refine cg_seq ?_
        refine cg_block ?_
        refine cg_seq ?_
        refine cg_region ?_
        refine lsw (want_none (by rfl)) (y_assign rfl rfl) rfl (by decide) ?_
        refine lg_nil ?_
        refine nx (E' := [(7, _), (8, _), (9, _), (10, _), (11, _), (12, _), (79, _), (80, _), (81, _), (82, _), (83, _), (84, _), (85, _), (13, _)]) (fk rfl (fk rfl (fk rfl (fk rfl (fk rfl (fk rfl (fk rfl (fk rfl (fk rfl (fk rfl (fk rfl (fk rfl (fk rfl (fk rfl fn)))))))))))))) ?_
        refine cg_block ?_
        refine cg_loopE (fun s a v => ∃ (k : Int), Holds 115 [(7, .bool true), (8, nv (comI x y w)), (9, (.slice A3 (dirI x w).length c3)), (10, (.slice A4 (dirI y w).length c4)), (11, (.slice A5 (dirI (comI x y w) w).length c5)), (12, nv i), (13, nv k)] a ∧ Nums v w9.heap.size A3 (dirI x w).length (dirI x w) ∧ Nums v w9.heap.size A4 (dirI y w).length (dirI y w) ∧ Nums v w9.heap.size A5 (dirI (comI x y w) w).length (dirI (comI x y w) w) ∧ w9.heap.size ≤ v.heap.size ∧ Below W.heap.size W v ∧ (k = (s : Int) ∧ s ≤ ((dirI y w).length - (dirI (comI x y w) w).length))) ((dirI y w).length - (dirI (comI x y w) w).length) (fun a ha => ⟨0, ha.keep (fk rfl (fk rfl (fk rfl (fk rfl (fk rfl (fk rfl (fk rfl fn))))))), m3, m4, m5, (by omega), u, ⟨rfl, Nat.zero_le _⟩⟩) ?_
        rintro s a v ht ⟨k, ha, m3, m4, m5, hs, u, hk⟩
        refine cg_at ha ?_
        clear ha a
        have zv := u.size
        refine cg_seq ?_
        refine cg_seq ?_
        refine cg_region ?_
        refine lsw (want_none (by rfl)) (y_move rfl rfl) rfl (by decide) ?_
        refine lsw (want_none (by rfl)) (y_move rfl rfl) rfl (by decide) ?_
        refine lsw (want_none (by rfl)) (y_len (el := 3) (by kernel_rfl) rfl rfl) rfl (by decide) ?_
        refine lsw (want_none (by rfl)) (y_move rfl rfl) rfl (by decide) ?_
        refine lsw (want_none (by rfl)) (y_len (el := 3) (by kernel_rfl) rfl rfl) rfl (by decide) ?_
        refine lsw (want_none (by rfl)) (yi_sub rfl rfl rfl (by omega) (by omega)) rfl (by decide) ?_
        by_cases c11 : k < (((dirI y w).length : Int) - ((dirI (comI x y w) w).length : Int))
        · refine lsw (want_none (by rfl)) (yb (decide_eq_true c11) (yi_lss rfl rfl rfl)) rfl (by decide) ?_
          refine lg_nil ?_
          refine nx (E' := [(7, _), (8, _), (9, _), (10, _), (11, _), (12, _), (13, _), (88, _), (89, _), (90, _), (91, _), (92, _), (93, _), (94, _)]) (fk rfl (fk rfl (fk rfl (fk rfl (fk rfl (fk rfl (fk rfl (fk rfl (fk rfl (fk rfl (fk rfl (fk rfl (fk rfl (fk rfl fn)))))))))))))) ?_
          refine cg_ct rfl ?_
          refine cg_skip ?_
          refine nx (E' := [(7, _), (8, _), (9, _), (10, _), (11, _), (12, _), (13, _), (88, _), (89, _), (90, _), (91, _), (92, _), (93, _), (94, _)]) (fk rfl (fk rfl (fk rfl (fk rfl (fk rfl (fk rfl (fk rfl (fk rfl (fk rfl (fk rfl (fk rfl (fk rfl (fk rfl (fk rfl fn)))))))))))))) ?_
          refine cg_seq ?_
          refine cg_block ?_
          refine cg_seq ?_
          refine cg_still (by kernel_rfl) (by kernel_rfl) fun W12 eW12 => ?_
          have dW12 := below_drew _ _ eW12
          have zW12 := size_drew _ _ eW12
          clear eW12
          refine stw (want_none (by rfl)) (y_move rfl rfl) rfl (by decide) ?_
          refine stw (want_none (by rfl)) (y_move rfl rfl) rfl (by decide) ?_
          have m3 := m3.below (dW12.mono (by omega))
          refine stw (want_none (by rfl)) (y_ixN (i := t) (iI := i) m3 (by omega) (by omega) rfl rfl rfl) rfl (by decide) ?_
          refine stw (want_none (by rfl)) (y_ldN (i := t) m3 (by omega) rfl rfl) rfl (by decide) ?_
          refine stw (want_none (by rfl)) (y_move rfl rfl) rfl (by decide) ?_
          refine stw (want_none (by rfl)) (y_move rfl rfl) rfl (by decide) ?_
          have m4 := m4.below (dW12.mono (by omega))
          refine stw (want_none (by rfl)) (y_ixN (i := s) (iI := k) m4 (by omega) (by omega) rfl rfl rfl) rfl (by decide) ?_
          refine stw (want_none (by rfl)) (y_ldN (i := s) m4 (by omega) rfl rfl) rfl (by decide) ?_
          by_cases c13 : ((dirI x w).getD t 0) = ((dirI y w).getD s 0)
          · refine stw (want_none (by rfl)) (yb (decide_eq_true c13) (yi_eql rfl rfl rfl)) rfl (by decide) ?_
            refine stw (want_none (by rfl)) (y_move rfl rfl) rfl (by decide) ?_
            refine stw (want_t (dj := 106) (by rfl) (by kernel_rfl) rfl) (y_move rfl rfl) rfl (by decide) ?_
            refine stw (want_t (dj := 106) (by rfl) (by kernel_rfl) rfl) (y_move rfl rfl) rfl (by decide) ?_
            refine stw (want_t (dj := 106) (by rfl) (by kernel_rfl) rfl) (y_ixN (i := t) (iI := i) m3 (by omega) (by omega) rfl rfl rfl) rfl (by decide) ?_
            refine stw (want_t (dj := 106) (by rfl) (by kernel_rfl) rfl) (y_ldN (i := t) m3 (by omega) rfl rfl) rfl (by decide) ?_
            refine stw (want_t (dj := 106) (by rfl) (by kernel_rfl) rfl) (y_move rfl rfl) rfl (by decide) ?_
            refine stw (want_t (dj := 106) (by rfl) (by kernel_rfl) rfl) (yb (nd_f (mx.2.2 t s (by omega) (by omega) c13)) (yi_neq rfl rfl rfl)) rfl (by decide) ?_
            refine stw (want_none (by rfl)) (y_pick true rfl rfl rfl) rfl (by decide) ?_
            refine sg_nil ?_
            refine nx (E' := [(7, _), (8, _), (9, _), (10, _), (11, _), (12, _), (13, _), (88, _), (89, _), (90, _), (91, _), (92, _), (93, _), (94, _), (97, _), (98, _), (99, _), (100, _), (101, _), (102, _), (103, _), (104, _), (105, _), (106, _), (107, _), (108, _), (109, _), (110, _), (111, _), (112, _), (113, _)]) (fk rfl (fk rfl (fk rfl (fk rfl (fk rfl (fk rfl (fk rfl (fk rfl (fk rfl (fk rfl (fk rfl (fk rfl (fk rfl (fk rfl (fk rfl (fk rfl (fk rfl (fk rfl (fk rfl (fk rfl (fk rfl (fk rfl (fk rfl (fk rfl (fk rfl (fk rfl (fk rfl (fk rfl (fk rfl (fk rfl (fk rfl fn))))))))))))))))))))))))))))))) ?_
            refine cg_cf rfl ?_
            refine cg_skip ?_
            refine eg_block_norm ?_
            refine nx (E' := [(7, _), (8, _), (9, _), (10, _), (11, _), (12, _), (13, _), (88, _), (89, _), (90, _), (91, _), (92, _), (93, _), (94, _), (97, _), (98, _), (99, _), (100, _), (101, _), (102, _), (103, _), (104, _), (105, _), (106, _), (107, _), (108, _), (109, _), (110, _), (111, _), (112, _), (113, _)]) (fk rfl (fk rfl (fk rfl (fk rfl (fk rfl (fk rfl (fk rfl (fk rfl (fk rfl (fk rfl (fk rfl (fk rfl (fk rfl (fk rfl (fk rfl (fk rfl (fk rfl (fk rfl (fk rfl (fk rfl (fk rfl (fk rfl (fk rfl (fk rfl (fk rfl (fk rfl (fk rfl (fk rfl (fk rfl (fk rfl (fk rfl fn))))))))))))))))))))))))))))))) ?_
            refine cg_region ?_
            refine lsw (want_none (by rfl)) (y_move rfl rfl) rfl (by decide) ?_
            refine lsw (want_none (by rfl)) (yi_add rfl rfl rfl (by omega) (by omega)) rfl (by decide) ?_
            refine lsw (want_none (by rfl)) (y_assign rfl rfl) rfl (by decide) ?_
            refine lg_nil ?_
            have m5 := m5.below (dW12.mono (by omega))
            have hs := (show w9.heap.size ≤ W12.heap.size by omega)
            have u := u.trans (dW12.mono u.size)
            exact fun a ha => (show s < ((dirI y w).length - (dirI (comI x y w) w).length) ∧ _ from ⟨(by omega), (k + 1), ha.keep (fk rfl (fk rfl (fk rfl (fk rfl (fk rfl (fk rfl (fk rfl fn))))))), m3, m4, m5, hs, u, ⟨(by omega), (by omega)⟩⟩)
          · refine stw (want_none (by rfl)) (yb (decide_eq_false c13) (yi_eql rfl rfl rfl)) rfl (by decide) ?_
            refine stw (want_none (by rfl)) (y_move rfl rfl) rfl (by decide) ?_
            refine stk (want_f (dj := 106) (by rfl) (by kernel_rfl) rfl) rfl (by decide) ?_
            refine stk (want_f (dj := 106) (by rfl) (by kernel_rfl) rfl) rfl (by decide) ?_
            refine stk (want_f (dj := 106) (by rfl) (by kernel_rfl) rfl) rfl (by decide) ?_
            refine stk (want_f (dj := 106) (by rfl) (by kernel_rfl) rfl) rfl (by decide) ?_
            refine stk (want_f (dj := 106) (by rfl) (by kernel_rfl) rfl) rfl (by decide) ?_
            refine stk (want_f (dj := 106) (by rfl) (by kernel_rfl) rfl) rfl (by decide) ?_
            refine stw (want_none (by rfl)) (y_pick false rfl rfl rfl) rfl (by decide) ?_
            refine sg_nil ?_
            refine nx (E' := [(7, _), (8, _), (9, _), (10, _), (11, _), (12, _), (13, _), (88, _), (89, _), (90, _), (91, _), (92, _), (93, _), (94, _), (97, _), (98, _), (99, _), (100, _), (101, _), (102, _), (103, _), (104, _), (105, _), (106, _), (113, _)]) (fk rfl (fk rfl (fk rfl (fk rfl (fk rfl (fk rfl (fk rfl (fk rfl (fk rfl (fk rfl (fk rfl (fk rfl (fk rfl (fk rfl (fk rfl (fk rfl (fk rfl (fk rfl (fk rfl (fk rfl (fk rfl (fk rfl (fk rfl (fk rfl (fk rfl fn))))))))))))))))))))))))) ?_
            refine cg_cf rfl ?_
            refine cg_skip ?_
            refine eg_block_norm ?_
            refine nx (E' := [(7, _), (8, _), (9, _), (10, _), (11, _), (12, _), (13, _), (88, _), (89, _), (90, _), (91, _), (92, _), (93, _), (94, _), (97, _), (98, _), (99, _), (100, _), (101, _), (102, _), (103, _), (104, _), (105, _), (106, _), (113, _)]) (fk rfl (fk rfl (fk rfl (fk rfl (fk rfl (fk rfl (fk rfl (fk rfl (fk rfl (fk rfl (fk rfl (fk rfl (fk rfl (fk rfl (fk rfl (fk rfl (fk rfl (fk rfl (fk rfl (fk rfl (fk rfl (fk rfl (fk rfl (fk rfl (fk rfl fn))))))))))))))))))))))))) ?_
            refine cg_region ?_
            refine lsw (want_none (by rfl)) (y_move rfl rfl) rfl (by decide) ?_
            refine lsw (want_none (by rfl)) (yi_add rfl rfl rfl (by omega) (by omega)) rfl (by decide) ?_
            refine lsw (want_none (by rfl)) (y_assign rfl rfl) rfl (by decide) ?_
            refine lg_nil ?_
            have m5 := m5.below (dW12.mono (by omega))
            have hs := (show w9.heap.size ≤ W12.heap.size by omega)
            have u := u.trans (dW12.mono u.size)
            exact fun a ha => (show s < ((dirI y w).length - (dirI (comI x y w) w).length) ∧ _ from ⟨(by omega), (k + 1), ha.keep (fk rfl (fk rfl (fk rfl (fk rfl (fk rfl (fk rfl (fk rfl fn))))))), m3, m4, m5, hs, u, ⟨(by omega), (by omega)⟩⟩)
        · refine lsw (want_none (by rfl)) (yb (decide_eq_false c11) (yi_lss rfl rfl rfl)) rfl (by decide) ?_
          refine lg_nil ?_
          refine nx (E' := [(7, _), (8, _), (9, _), (10, _), (11, _), (12, _), (13, _), (88, _), (89, _), (90, _), (91, _), (92, _), (93, _), (94, _)]) (fk rfl (fk rfl (fk rfl (fk rfl (fk rfl (fk rfl (fk rfl (fk rfl (fk rfl (fk rfl (fk rfl (fk rfl (fk rfl (fk rfl fn)))))))))))))) ?_
          refine cg_cf rfl ?_
          refine cg_exit ?_
          refine eg_seq_exit ?_
          refine eg_seq_exit ?_
          refine eg_block_exit ?_
          refine eg_block_norm ?_
          refine nx (E' := [(7, _), (8, _), (9, _), (10, _), (11, _), (12, _), (13, _), (88, _), (89, _), (90, _), (91, _), (92, _), (93, _), (94, _)]) (fk rfl (fk rfl (fk rfl (fk rfl (fk rfl (fk rfl (fk rfl (fk rfl (fk rfl (fk rfl (fk rfl (fk rfl (fk rfl (fk rfl fn)))))))))))))) ?_
          refine cg_region ?_
          refine lsw (want_none (by rfl)) (y_move rfl rfl) rfl (by decide) ?_
          refine lsw (want_none (by rfl)) (yi_add rfl rfl rfl (by omega) (by omega)) rfl (by decide) ?_
          refine lsw (want_none (by rfl)) (y_assign rfl rfl) rfl (by decide) ?_
          refine lg_nil ?_
          exact fun a ha => (show t < ((dirI x w).length - (dirI (comI x y w) w).length) ∧ _ from ⟨(by omega), (i + 1), ha.keep (fk rfl (fk rfl (fk rfl (fk rfl (fk rfl (fk rfl fn)))))), m3, m4, m5, hs, u, ⟨(by omega), (by omega)⟩⟩)
      · refine lsw (want_none (by rfl)) (yb (decide_eq_false c10) (yi_lss rfl rfl rfl)) rfl (by decide) ?_
        refine lg_nil ?_
        refine nx (E' := [(7, _), (8, _), (9, _), (10, _), (11, _), (12, _), (79, _), (80, _), (81, _), (82, _), (83, _), (84, _), (85, _)]) (fk rfl (fk rfl (fk rfl (fk rfl (fk rfl (fk rfl (fk rfl (fk rfl (fk rfl (fk rfl (fk rfl (fk rfl (fk rfl fn))))))))))))) ?_
        refine cg_cf rfl ?_
        refine cg_exit ?_
        refine eg_seq_exit ?_
        refine eg_seq_exit ?_
        refine eg_block_exit ?_
        refine nx (E' := [(7, _)]) (fk rfl fn) ?_
        refine cg_seq ?_
        refine cg_region ?_
        refine lsw (want_none (by rfl)) (y_move rfl rfl) rfl (by decide) ?_
        refine lsw (want_none (by rfl)) (y_assign rfl rfl) rfl (by decide) ?_
        refine lg_nil ?_
        refine nx (E' := [(6, _)]) (fk rfl fn) ?_
        refine cg_ret ?_
        exact eg_ret_tmp rfl rfl ⟨_, rfl, rfl, u⟩
    · refine calls_cg (n := 115) Tryd.func8 rfl Tryd.ntmps8 (by simp) ?_
      show CG _ _ _ [(0, nv x), (1, nv y), (2, nv w)] _ _
      have u := Below.refl W.heap.size W
      refine cg_seq ?_
      refine cg_region ?_
      refine lsw (want_none (by rfl)) (y_assign rfl rfl) rfl (by decide) ?_
      refine lg_nil ?_
      refine nx (E' := [(0, _), (1, _), (2, _), (6, _)]) (fk rfl (fk rfl (fk rfl (fk rfl fn)))) ?_
      refine cg_seq ?_
      refine cg_region ?_
      refine lg_callw (want_none (by rfl)) (wawake_any _ (rg.up u)) (by kernel_rfl) rfl rfl rfl (by decide) ?_
      rintro _ w1 ⟨rfl, hw1⟩
      have zw1 := hw1.size
      refine lsw (want_none (by rfl)) (y_assign rfl rfl) rfl (by decide) ?_
      refine lg_nil ?_
      refine nx (E' := [(0, _), (1, _), (2, _), (6, _), (7, _)]) (fk rfl (fk rfl (fk rfl (fk rfl (fk rfl fn))))) ?_
      refine cg_seq ?_
      refine cg_region ?_
      refine lsw (want_none (by rfl)) (y_move rfl rfl) rfl (by decide) ?_
      refine lsw (want_none (by rfl)) (y_move rfl rfl) rfl (by decide) ?_
      refine lsw (want_none (by rfl)) (y_move rfl rfl) rfl (by decide) ?_
      have u := u.trans (hw1.mono u.size)
      refine lg_callw (want_none (by rfl)) (common_any x y w _ (rg.up u)) (by kernel_rfl) rfl rfl rfl (by decide) ?_
      rintro _ w2 ⟨rfl, hw2⟩
      have zw2 := hw2.size
      refine lsw (want_none (by rfl)) (y_assign rfl rfl) rfl (by decide) ?_
      refine lg_nil ?_
      refine nx (E' := [(0, _), (1, _), (2, _), (6, _), (7, _), (8, _)]) (fk rfl (fk rfl (fk rfl (fk rfl (fk rfl (fk rfl fn)))))) ?_
      refine cg_seq ?_
      refine cg_seq ?_
      refine cg_region ?_
      refine lsw (want_none (by rfl)) (y_move rfl rfl) rfl (by decide) ?_
      refine lsw (want_none (by rfl)) (yb (decide_eq_true (by rw [com_no fun q => hy q.2]; decide)) (yi_lss rfl rfl rfl)) rfl (by decide) ?_
      refine lg_nil ?_
      refine nx (E' := [(0, _), (1, _), (2, _), (6, _), (7, _), (8, _), (20, _)]) (fk rfl (fk rfl (fk rfl (fk rfl (fk rfl (fk rfl (fk rfl fn))))))) ?_
      refine cg_ct rfl ?_
      refine cg_seq ?_
      refine cg_region ?_
      refine lsw (want_none (by rfl)) (y_move rfl rfl) rfl (by decide) ?_
      refine lsw (want_none (by rfl)) (y_move rfl rfl) rfl (by decide) ?_
      refine lsw (want_t (dj := 22) (by rfl) (by kernel_rfl) rfl) (y_move rfl rfl) rfl (by decide) ?_
      refine lsw (want_t (dj := 22) (by rfl) (by kernel_rfl) rfl) (y_move rfl rfl) rfl (by decide) ?_
      have u := u.trans (hw2.mono u.size)
      refine lsw (want_t (dj := 22) (by rfl) (by kernel_rfl) rfl) (yb (decide_eq_true hx) (y_call (is_any x w _ (rg.up u)) (by kernel_rfl) rfl rfl)) rfl (by decide) ?_
      refine lsw (want_t (dj := 22) (by rfl) (by kernel_rfl) rfl) (y_bnot rfl rfl) rfl (by decide) ?_
      refine lsw (want_t (dj := 22) (by rfl) (by kernel_rfl) rfl) (y_move rfl rfl) rfl (by decide) ?_
      refine lsw (want_t (dj := 27) (by rfl) (by kernel_rfl) rfl) (y_move rfl rfl) rfl (by decide) ?_
      refine lsw (want_t (dj := 27) (by rfl) (by kernel_rfl) rfl) (y_move rfl rfl) rfl (by decide) ?_
      refine lsw (want_t (dj := 27) (by rfl) (by kernel_rfl) rfl) (yb (decide_eq_false hy) (y_call (is_any y w _ (rg.up u)) (by kernel_rfl) rfl rfl)) rfl (by decide) ?_
      refine lsw (want_t (dj := 27) (by rfl) (by kernel_rfl) rfl) (y_bnot rfl rfl) rfl (by decide) ?_
      refine lsw (want_t (dj := 22) (by rfl) (by kernel_rfl) rfl) (y_pick false rfl rfl rfl) rfl (by decide) ?_
      refine lsw (want_none (by rfl)) (y_pick true rfl rfl rfl) rfl (by decide) ?_
      refine lsw (want_none (by rfl)) (y_assign rfl rfl) rfl (by decide) ?_
      refine lg_nil ?_
      refine nx (E' := [(0, _), (1, _), (2, _), (7, _), (8, _), (6, _)]) (fk rfl (fk rfl (fk rfl (fk rfl (fk rfl (fk rfl fn)))))) ?_
      refine cg_ret ?_
      refine eg_seq_ret ?_
      exact eg_ret_tmp rfl rfl ⟨_, rfl, rfl, u⟩
  · refine calls_cg (n := 115) Tryd.func8 rfl Tryd.ntmps8 (by simp) ?_
    show CG _ _ _ [(0, nv x), (1, nv y), (2, nv w)] _ _
    have u := Below.refl W.heap.size W
    refine cg_seq ?_
    refine cg_region ?_
    refine lsw (want_none (by rfl)) (y_assign rfl rfl) rfl (by decide) ?_
    refine lg_nil ?_
    refine nx (E' := [(0, _), (1, _), (2, _), (6, _)]) (fk rfl (fk rfl (fk rfl (fk rfl fn)))) ?_
    refine cg_seq ?_
    refine cg_region ?_
    refine lg_callw (want_none (by rfl)) (wawake_any _ (rg.up u)) (by kernel_rfl) rfl rfl rfl (by decide) ?_
    rintro _ w1 ⟨rfl, hw1⟩
    have zw1 := hw1.size
    refine lsw (want_none (by rfl)) (y_assign rfl rfl) rfl (by decide) ?_
    refine lg_nil ?_
    refine nx (E' := [(0, _), (1, _), (2, _), (6, _), (7, _)]) (fk rfl (fk rfl (fk rfl (fk rfl (fk rfl fn))))) ?_
    refine cg_seq ?_
    refine cg_region ?_
    refine lsw (want_none (by rfl)) (y_move rfl rfl) rfl (by decide) ?_
    refine lsw (want_none (by rfl)) (y_move rfl rfl) rfl (by decide) ?_
    refine lsw (want_none (by rfl)) (y_move rfl rfl) rfl (by decide) ?_
    have u := u.trans (hw1.mono u.size)
    refine lg_callw (want_none (by rfl)) (common_any x y w _ (rg.up u)) (by kernel_rfl) rfl rfl rfl (by decide) ?_
    rintro _ w2 ⟨rfl, hw2⟩
    have zw2 := hw2.size
    refine lsw (want_none (by rfl)) (y_assign rfl rfl) rfl (by decide) ?_
    refine lg_nil ?_
    refine nx (E' := [(0, _), (1, _), (2, _), (6, _), (7, _), (8, _)]) (fk rfl (fk rfl (fk rfl (fk rfl (fk rfl (fk rfl fn)))))) ?_
    refine cg_seq ?_
    refine cg_seq ?_
    refine cg_region ?_
    refine lsw (want_none (by rfl)) (y_move rfl rfl) rfl (by decide) ?_
    refine lsw (want_none (by rfl)) (yb (decide_eq_true (by rw [com_no fun q => hx q.1]; decide)) (yi_lss rfl rfl rfl)) rfl (by decide) ?_
    refine lg_nil ?_
    refine nx (E' := [(0, _), (1, _), (2, _), (6, _), (7, _), (8, _), (20, _)]) (fk rfl (fk rfl (fk rfl (fk rfl (fk rfl (fk rfl (fk rfl fn))))))) ?_
    refine cg_ct rfl ?_
    refine cg_seq ?_
    refine cg_region ?_
    refine lsw (want_none (by rfl)) (y_move rfl rfl) rfl (by decide) ?_
    refine lsw (want_none (by rfl)) (y_move rfl rfl) rfl (by decide) ?_
    refine lsw (want_t (dj := 22) (by rfl) (by kernel_rfl) rfl) (y_move rfl rfl) rfl (by decide) ?_
    refine lsw (want_t (dj := 22) (by rfl) (by kernel_rfl) rfl) (y_move rfl rfl) rfl (by decide) ?_
    have u := u.trans (hw2.mono u.size)
    refine lsw (want_t (dj := 22) (by rfl) (by kernel_rfl) rfl) (yb (decide_eq_false hx) (y_call (is_any x w _ (rg.up u)) (by kernel_rfl) rfl rfl)) rfl (by decide) ?_
    refine lsw (want_t (dj := 22) (by rfl) (by kernel_rfl) rfl) (y_bnot rfl rfl) rfl (by decide) ?_
    refine lsw (want_t (dj := 22) (by rfl) (by kernel_rfl) rfl) (y_move rfl rfl) rfl (by decide) ?_
    refine lsk (want_f (dj := 27) (by rfl) (by kernel_rfl) rfl) rfl (by decide) ?_
    refine lsk (want_f (dj := 27) (by rfl) (by kernel_rfl) rfl) rfl (by decide) ?_
    refine lsk (want_f (dj := 27) (by rfl) (by kernel_rfl) rfl) rfl (by decide) ?_
    refine lsk (want_f (dj := 27) (by rfl) (by kernel_rfl) rfl) rfl (by decide) ?_
    refine lsw (want_t (dj := 22) (by rfl) (by kernel_rfl) rfl) (y_pick true rfl rfl rfl) rfl (by decide) ?_
    refine lsw (want_none (by rfl)) (y_pick true rfl rfl rfl) rfl (by decide) ?_
    refine lsw (want_none (by rfl)) (y_assign rfl rfl) rfl (by decide) ?_
    refine lg_nil ?_
    refine nx (E' := [(0, _), (1, _), (2, _), (7, _), (8, _), (6, _)]) (fk rfl (fk rfl (fk rfl (fk rfl (fk rfl (fk rfl fn)))))) ?_
    refine cg_ret ?_
    refine eg_seq_ret ?_
    exact eg_ret_tmp rfl rfl ⟨_, rfl, rfl, u⟩
end Go.Proofs.YtgcneppjdhnacaaDoor
