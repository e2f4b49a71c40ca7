/-
  Of any numbers the answers are the document's.
-/
import Derived.Test.YtgcneppjdhnacaaDoorWaAwake
namespace Go.Proofs.YtgcneppjdhnacaaDoor
open Go.ChangeShapes Go.WideShapes Go.ChangeAt Go.RowKit
set_option linter.unusedVariables false
set_option maxRecDepth 20000
theorem waIs_any (x y w : Int) (W : World) (rg : Tb W) : Calls Tryd.prog 3 #[nv x, nv y, nv w] W fun e W' => ∃ v, e = .returned v ∧ v = .bool true ∧ Below W.heap.size W W' := by
  refine calls_cg (n := 76) Tryd.func3 rfl Tryd.ntmps3 (by simp) ?_
  show CG _ _ _ [(0, nv x), (1, nv y), (2, nv w)] _ _
  have u := Below.refl W.heap.size W
  refine cg_seq ?_
  refine cg_region ?_
  refine lsw (want_none (by rfl)) (y_assign rfl rfl) rfl (by decide) ?_
  refine lg_nil ?_
  refine nx (E' := [(0, _), (1, _), (2, _), (6, _)]) (fk rfl (fk rfl (fk rfl (fk rfl fn)))) ?_
  refine cg_seq ?_
  refine cg_region ?_
  refine lg_callw (want_none (by rfl)) (wawake_any _ (rg.up u)) (by kernel_rfl) rfl rfl rfl (by decide) ?_
  rintro _ w1 ⟨rfl, hw1⟩
  have zw1 := hw1.size
  refine lsw (want_none (by rfl)) (y_assign rfl rfl) rfl (by decide) ?_
  refine lg_nil ?_
  refine nx (E' := [(0, _), (1, _), (2, _), (6, _), (7, _)]) (fk rfl (fk rfl (fk rfl (fk rfl (fk rfl fn))))) ?_
  refine cg_seq ?_
  refine cg_region ?_
  refine lsw (want_none (by rfl)) (y_move rfl rfl) rfl (by decide) ?_
  refine lsw (want_none (by rfl)) (y_move rfl rfl) rfl (by decide) ?_
  have u := u.trans (hw1.mono u.size)
  refine lsw (want_none (by rfl)) (y_call (below_any x w _ (rg.up u)) (by kernel_rfl) rfl rfl) rfl (by decide) ?_
  refine lsw (want_none (by rfl)) (y_move rfl rfl) rfl (by decide) ?_
  refine lsw (want_none (by rfl)) (y_extract rfl rfl rfl) rfl (by decide) ?_
  refine lsw (want_none (by rfl)) (y_extract rfl rfl rfl) rfl (by decide) ?_
  refine lsw (want_none (by rfl)) (y_assign rfl rfl) rfl (by decide) ?_
  refine lsw (want_none (by rfl)) (y_assign rfl rfl) rfl (by decide) ?_
  refine lg_nil ?_
  refine nx (E' := [(0, _), (1, _), (2, _), (6, _), (7, _), (8, _), (9, _)]) (fk rfl (fk rfl (fk rfl (fk rfl (fk rfl (fk rfl (fk rfl fn))))))) ?_
  refine cg_seq ?_
  refine cg_region ?_
  refine lsw (want_none (by rfl)) (y_move rfl rfl) rfl (by decide) ?_
  refine lsw (want_none (by rfl)) (y_move rfl rfl) rfl (by decide) ?_
  refine lg_callw (want_none (by rfl)) (rbelow_any x w _ (rg.up u)) (by kernel_rfl) rfl rfl rfl (by decide) ?_
  rintro _ w2 ⟨rfl, hw2⟩
  have zw2 := hw2.size
  refine lsw (want_none (by rfl)) (y_move rfl rfl) rfl (by decide) ?_
  refine lsw (want_none (by rfl)) (y_extract rfl rfl rfl) rfl (by decide) ?_
  refine lsw (want_none (by rfl)) (y_extract rfl rfl rfl) rfl (by decide) ?_
  refine lsw (want_none (by rfl)) (y_assign rfl rfl) rfl (by decide) ?_
  refine lsw (want_none (by rfl)) (y_assign rfl rfl) rfl (by decide) ?_
  refine lg_nil ?_
  refine nx (E' := [(0, _), (1, _), (2, _), (6, _), (7, _), (8, _), (9, _), (10, _), (11, _)]) (fk rfl (fk rfl (fk rfl (fk rfl (fk rfl (fk rfl (fk rfl (fk rfl (fk rfl fn))))))))) ?_
  refine cg_seq ?_
  refine cg_region ?_
  refine lsw (want_none (by rfl)) (y_move rfl rfl) rfl (by decide) ?_
  refine lsw (want_none (by rfl)) (y_move rfl rfl) rfl (by decide) ?_
  refine lsw (want_t (dj := 26) (by rfl) (by kernel_rfl) rfl) (y_move rfl rfl) rfl (by decide) ?_
  refine lsw (want_t (dj := 26) (by rfl) (by kernel_rfl) rfl) (y_move rfl rfl) rfl (by decide) ?_
  have u := u.trans (hw2.mono u.size)
  refine lg_callw (want_t (dj := 26) (by rfl) (by kernel_rfl) rfl) (direct_any x w _ (rg.up u)) (by kernel_rfl) rfl rfl rfl (by decide) ?_
  rintro _ w3 ⟨A3, c3, rfl, i3, m3, hw3⟩
  have zw3 := hw3.size
  have ml3 := m3.1
  have dl3 := dirL x w
  refine lsw (want_t (dj := 26) (by rfl) (by kernel_rfl) rfl) (y_move rfl rfl) rfl (by decide) ?_
  refine lsw (want_t (dj := 26) (by rfl) (by kernel_rfl) rfl) (y_move rfl rfl) rfl (by decide) ?_
  have u := u.trans (hw3.mono u.size)
  refine lg_callw (want_t (dj := 26) (by rfl) (by kernel_rfl) rfl) (rdirect_any x w _ (rg.up u)) (by kernel_rfl) rfl rfl rfl (by decide) ?_
  rintro _ w4 ⟨A4, c4, rfl, i4, m4, hw4⟩
  have zw4 := hw4.size
  have ml4 := m4.1
  have dl4 := dirL x w
  have m3 := m3.below (hw4.mono (by omega))
  refine lg_callw (want_t (dj := 26) (by rfl) (by kernel_rfl) rfl) (ints_any _ _ _ _ _ _ _ _ _ (m3.more (by omega)) (m4.more (by omega)) (by unfold maxLen; omega) (by unfold maxLen; omega)) (by kernel_rfl) rfl rfl rfl (by decide) ?_
  rintro u5 w5 ⟨e5, hw5⟩
  have zw5 := hw5.size
  obtain rfl : u5 = .bool true := e5.trans (congrArg Value.bool (decide_eq_true rfl))
  refine lsw (want_none (by rfl)) (y_pick true rfl rfl rfl) rfl (by decide) ?_
  refine lsw (want_none (by rfl)) (y_move rfl rfl) rfl (by decide) ?_
  refine lsw (want_t (dj := 35) (by rfl) (by kernel_rfl) rfl) (y_move rfl rfl) rfl (by decide) ?_
  refine lsw (want_t (dj := 35) (by rfl) (by kernel_rfl) rfl) (y_move rfl rfl) rfl (by decide) ?_
  have u := u.trans (hw4.mono u.size)
  have u := u.trans (hw5.mono u.size)
  refine lg_callw (want_t (dj := 35) (by rfl) (by kernel_rfl) rfl) (copath_any x w _ (rg.up u)) (by kernel_rfl) rfl rfl rfl (by decide) ?_
  rintro _ w6 ⟨A6, c6, rfl, i6, m6, hw6⟩
  have zw6 := hw6.size
  have ml6 := m6.1
  have dl6 := cop_len x w
  refine lsw (want_t (dj := 35) (by rfl) (by kernel_rfl) rfl) (y_move rfl rfl) rfl (by decide) ?_
  refine lsw (want_t (dj := 35) (by rfl) (by kernel_rfl) rfl) (y_move rfl rfl) rfl (by decide) ?_
  have u := u.trans (hw6.mono u.size)
  refine lg_callw (want_t (dj := 35) (by rfl) (by kernel_rfl) rfl) (rcopath_any x w _ (rg.up u)) (by kernel_rfl) rfl rfl rfl (by decide) ?_
  rintro _ w7 ⟨A7, c7, rfl, i7, m7, hw7⟩
  have zw7 := hw7.size
  have ml7 := m7.1
  have dl7 := cop_len x w
  have m6 := m6.below (hw7.mono (by omega))
  refine lg_callw (want_t (dj := 35) (by rfl) (by kernel_rfl) rfl) (ints_any _ _ _ _ _ _ _ _ _ (m6.more (by omega)) (m7.more (by omega)) (by unfold maxLen; omega) (by unfold maxLen; omega)) (by kernel_rfl) rfl rfl rfl (by decide) ?_
  rintro u8 w8 ⟨e8, hw8⟩
  have zw8 := hw8.size
  obtain rfl : u8 = .bool true := e8.trans (congrArg Value.bool (decide_eq_true rfl))
  refine lsw (want_none (by rfl)) (y_pick true rfl rfl rfl) rfl (by decide) ?_
  refine lsw (want_none (by rfl)) (y_move rfl rfl) rfl (by decide) ?_
  refine lsw (want_t (dj := 44) (by rfl) (by kernel_rfl) rfl) (y_move rfl rfl) rfl (by decide) ?_
  refine lsw (want_t (dj := 44) (by rfl) (by kernel_rfl) rfl) (y_move rfl rfl) rfl (by decide) ?_
  refine lsw (want_t (dj := 44) (by rfl) (by kernel_rfl) rfl) (y_move rfl rfl) rfl (by decide) ?_
  have u := u.trans (hw7.mono u.size)
  have u := u.trans (hw8.mono u.size)
  refine lg_callw (want_t (dj := 44) (by rfl) (by kernel_rfl) rfl) (common_any x y w _ (rg.up u)) (by kernel_rfl) rfl rfl rfl (by decide) ?_
  rintro _ w9 ⟨rfl, hw9⟩
  have zw9 := hw9.size
  refine lsw (want_t (dj := 44) (by rfl) (by kernel_rfl) rfl) (y_move rfl rfl) rfl (by decide) ?_
  refine lsw (want_t (dj := 44) (by rfl) (by kernel_rfl) rfl) (y_move rfl rfl) rfl (by decide) ?_
  refine lsw (want_t (dj := 44) (by rfl) (by kernel_rfl) rfl) (y_move rfl rfl) rfl (by decide) ?_
  have u := u.trans (hw9.mono u.size)
  refine lg_callw (want_t (dj := 44) (by rfl) (by kernel_rfl) rfl) (rcommon_any x y w _ (rg.up u)) (by kernel_rfl) rfl rfl rfl (by decide) ?_
  rintro _ w10 ⟨rfl, hw10⟩
  have zw10 := hw10.size
  refine lsw (want_t (dj := 44) (by rfl) (by kernel_rfl) rfl) (yb (decide_eq_true rfl) (yi_eql rfl rfl rfl)) rfl (by decide) ?_
  refine lsw (want_none (by rfl)) (y_pick true rfl rfl rfl) rfl (by decide) ?_
  refine lsw (want_none (by rfl)) (y_move rfl rfl) rfl (by decide) ?_
  refine lsw (want_t (dj := 55) (by rfl) (by kernel_rfl) rfl) (y_move rfl rfl) rfl (by decide) ?_
  refine lsw (want_t (dj := 55) (by rfl) (by kernel_rfl) rfl) (y_move rfl rfl) rfl (by decide) ?_
  refine lsw (want_t (dj := 55) (by rfl) (by kernel_rfl) rfl) (y_move rfl rfl) rfl (by decide) ?_
  have u := u.trans (hw10.mono u.size)
  refine lg_callw (want_t (dj := 55) (by rfl) (by kernel_rfl) rfl) (under_any x y w _ (rg.up u)) (by kernel_rfl) rfl rfl rfl (by decide) ?_
  rintro u11 w11 ⟨e11, hw11⟩
  have zw11 := hw11.size
  subst e11
  refine lsw (want_t (dj := 55) (by rfl) (by kernel_rfl) rfl) (y_move rfl rfl) rfl (by decide) ?_
  refine lsw (want_t (dj := 55) (by rfl) (by kernel_rfl) rfl) (y_move rfl rfl) rfl (by decide) ?_
  refine lsw (want_t (dj := 55) (by rfl) (by kernel_rfl) rfl) (y_move rfl rfl) rfl (by decide) ?_
  have u := u.trans (hw11.mono u.size)
  refine lg_callw (want_t (dj := 55) (by rfl) (by kernel_rfl) rfl) (runder_any x y w _ (rg.up u)) (by kernel_rfl) rfl rfl rfl (by decide) ?_
  rintro u12 w12 ⟨e12, hw12⟩
  have zw12 := hw12.size
  subst e12
  refine lsw (want_t (dj := 55) (by rfl) (by kernel_rfl) rfl) (yb (beq_self_eq_true _) (y_beq hubo rfl rfl rfl)) rfl (by decide) ?_
  refine lsw (want_none (by rfl)) (y_pick true rfl rfl rfl) rfl (by decide) ?_
  refine lsw (want_none (by rfl)) (y_move rfl rfl) rfl (by decide) ?_
  refine lsw (want_t (dj := 66) (by rfl) (by kernel_rfl) rfl) (y_move rfl rfl) rfl (by decide) ?_
  refine lsw (want_t (dj := 66) (by rfl) (by kernel_rfl) rfl) (y_move rfl rfl) rfl (by decide) ?_
  refine lsw (want_t (dj := 66) (by rfl) (by kernel_rfl) rfl) (yb (decide_eq_true rfl) (yi_eql rfl rfl rfl)) rfl (by decide) ?_
  refine lsw (want_none (by rfl)) (y_pick true rfl rfl rfl) rfl (by decide) ?_
  refine lsw (want_none (by rfl)) (y_move rfl rfl) rfl (by decide) ?_
  refine lsw (want_t (dj := 71) (by rfl) (by kernel_rfl) rfl) (y_move rfl rfl) rfl (by decide) ?_
  refine lsw (want_t (dj := 71) (by rfl) (by kernel_rfl) rfl) (y_move rfl rfl) rfl (by decide) ?_
  refine lsw (want_t (dj := 71) (by rfl) (by kernel_rfl) rfl) (yb (decide_eq_true rfl) (yi_eql rfl rfl rfl)) rfl (by decide) ?_
  refine lsw (want_none (by rfl)) (y_pick true rfl rfl rfl) rfl (by decide) ?_
  refine lsw (want_none (by rfl)) (y_assign rfl rfl) rfl (by decide) ?_
  refine lg_nil ?_
  refine nx (E' := [(6, _)]) (fk rfl fn) ?_
  refine cg_ret ?_
  have u := u.trans (hw12.mono u.size)
  exact eg_ret_tmp rfl rfl ⟨_, rfl, rfl, u⟩
end Go.Proofs.YtgcneppjdhnacaaDoor
