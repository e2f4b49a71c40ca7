/-
  The chapter's example.
-/
import Derived.Test.YtgcneppjdhnacaaDoorWaRef
import Derived.Test.YtgcneppjdhnacaaDoorInts
namespace Go.Proofs.YtgcneppjdhnacaaDoor
open Go.ChangeShapes Go.WideShapes Go.ChangeAt Go.RowKit
set_option linter.unusedVariables false
set_option maxRecDepth 20000
theorem wawake_any (W : World) (rg : Tb W) : Calls Tryd.prog 9 #[] W fun e W' => ∃ v, e = .returned v ∧ v = .bool true ∧ Below W.heap.size W W' := by
  refine calls_cg (n := 34) Tryd.func9 rfl Tryd.ntmps9 (by simp) ?_
  show CG _ _ _ [] _ _
  have u := Below.refl W.heap.size W
  refine cg_seq ?_
  refine cg_region ?_
  refine lsw (want_none (by rfl)) (y_assign rfl rfl) rfl (by decide) ?_
  refine lg_nil ?_
  refine nx (E' := [(0, _)]) (fk rfl fn) ?_
  refine cg_seq ?_
  refine cg_region ?_
  refine lsw (want_none (by rfl)) (y_call (below_any 5 7 _ (rg.up u)) (by kernel_rfl) rfl rfl) rfl (by decide) ?_
  refine lsw (want_none (by rfl)) (y_move rfl rfl) rfl (by decide) ?_
  refine lsw (want_none (by rfl)) (y_extract rfl rfl rfl) rfl (by decide) ?_
  refine lsw (want_none (by rfl)) (y_extract rfl rfl rfl) rfl (by decide) ?_
  refine lsw (want_none (by rfl)) (y_assign rfl rfl) rfl (by decide) ?_
  refine lsw (want_none (by rfl)) (y_assign rfl rfl) rfl (by decide) ?_
  refine lg_nil ?_
  refine nx (E' := [(0, _), (1, _), (2, _)]) (fk rfl (fk rfl (fk rfl fn))) ?_
  refine cg_seq ?_
  refine cg_region ?_
  refine lg_callw (want_none (by rfl)) (direct_any 4 7 _ (rg.up u)) (by kernel_rfl) rfl rfl rfl (by decide) ?_
  rintro _ w1 ⟨A1, c1, rfl, i1, m1, hw1⟩
  have zw1 := hw1.size
  have ml1 := m1.1
  have dl1 := dirL 4 7
  refine lg_bs2N (want_none (by rfl)) rfl rfl rfl rfl (by decide) fun b2 w2 n2 => ?_
  have r2 := n2.row
  have k2 := n2.blk
  have z2 := n2.size
  have m2 := nums_new2 n2
  have m1 := m1.below (n2.below.mono (by omega))
  have f3 : (dirI 4 7) = [5, 3] := of_decide_eq_true (by kernel_rfl)
  refine lg_callw (want_none (by rfl)) (ints_any _ _ _ _ _ _ _ _ _ (m1.more (by omega)) (m2.more (by omega)) (by unfold maxLen; omega) (by unfold maxLen; omega)) (by kernel_rfl) rfl rfl rfl (by decide) ?_
  rintro u4 w4 ⟨e4, hw4⟩
  have zw4 := hw4.size
  obtain rfl : u4 = .bool true := e4.trans (congrArg Value.bool (decide_eq_true f3))
  refine lsw (want_none (by rfl)) (y_move rfl rfl) rfl (by decide) ?_
  have u := u.trans (hw1.mono u.size)
  have u := u.trans (n2.below.mono u.size)
  have u := u.trans (hw4.mono u.size)
  refine lg_callw (want_t (dj := 10) (by rfl) (by kernel_rfl) rfl) (copath_any 4 7 _ (rg.up u)) (by kernel_rfl) rfl rfl rfl (by decide) ?_
  rintro _ w5 ⟨A5, c5, rfl, i5, m5, hw5⟩
  have zw5 := hw5.size
  have ml5 := m5.1
  have dl5 := cop_len 4 7
  refine lg_bs2N (want_t (dj := 10) (by rfl) (by kernel_rfl) rfl) rfl rfl rfl rfl (by decide) fun b6 w6 n6 => ?_
  have r6 := n6.row
  have k6 := n6.blk
  have z6 := n6.size
  have m6 := nums_new2 n6
  have m5 := m5.below (n6.below.mono (by omega))
  have f7 : (copI 4 7) = [6, 1] := of_decide_eq_true (by kernel_rfl)
  refine lg_callw (want_t (dj := 10) (by rfl) (by kernel_rfl) rfl) (ints_any _ _ _ _ _ _ _ _ _ (m5.more (by omega)) (m6.more (by omega)) (by unfold maxLen; omega) (by unfold maxLen; omega)) (by kernel_rfl) rfl rfl rfl (by decide) ?_
  rintro u8 w8 ⟨e8, hw8⟩
  have zw8 := hw8.size
  obtain rfl : u8 = .bool true := e8.trans (congrArg Value.bool (decide_eq_true f7))
  refine lsw (want_none (by rfl)) (y_pick true rfl rfl rfl) rfl (by decide) ?_
  refine lsw (want_none (by rfl)) (y_move rfl rfl) rfl (by decide) ?_
  have u := u.trans (hw5.mono u.size)
  have u := u.trans (n6.below.mono u.size)
  have u := u.trans (hw8.mono u.size)
  refine lg_callw (want_t (dj := 15) (by rfl) (by kernel_rfl) rfl) (common_any 0 2 7 _ (rg.up u)) (by kernel_rfl) rfl rfl rfl (by decide) ?_
  rintro _ w9 ⟨rfl, hw9⟩
  have zw9 := hw9.size
  have f10 : (comI 0 2 7) = 1 := of_decide_eq_true (by kernel_rfl)
  refine lsw (want_t (dj := 15) (by rfl) (by kernel_rfl) rfl) (yb (decide_eq_true f10) (yi_eql rfl rfl rfl)) rfl (by decide) ?_
  refine lsw (want_none (by rfl)) (y_pick true rfl rfl rfl) rfl (by decide) ?_
  refine lsw (want_none (by rfl)) (y_move rfl rfl) rfl (by decide) ?_
  refine lsw (want_t (dj := 19) (by rfl) (by kernel_rfl) rfl) (y_move rfl rfl) rfl (by decide) ?_
  have f11 : (lowI 5 7) = 2 := of_decide_eq_true (by kernel_rfl)
  refine lsw (want_t (dj := 19) (by rfl) (by kernel_rfl) rfl) (yb (decide_eq_true f11) (yi_eql rfl rfl rfl)) rfl (by decide) ?_
  refine lsw (want_none (by rfl)) (y_pick true rfl rfl rfl) rfl (by decide) ?_
  refine lsw (want_none (by rfl)) (y_move rfl rfl) rfl (by decide) ?_
  refine lsw (want_t (dj := 23) (by rfl) (by kernel_rfl) rfl) (y_move rfl rfl) rfl (by decide) ?_
  have f12 : (higI 5 7) = 3 := of_decide_eq_true (by kernel_rfl)
  refine lsw (want_t (dj := 23) (by rfl) (by kernel_rfl) rfl) (yb (decide_eq_true f12) (yi_eql rfl rfl rfl)) rfl (by decide) ?_
  refine lsw (want_none (by rfl)) (y_pick true rfl rfl rfl) rfl (by decide) ?_
  refine lsw (want_none (by rfl)) (y_move rfl rfl) rfl (by decide) ?_
  have u := u.trans (hw9.mono u.size)
  have f13 : undI 4 3 7 := of_decide_eq_true (by kernel_rfl)
  refine lg_callw (want_t (dj := 27) (by rfl) (by kernel_rfl) rfl) (under_any 4 3 7 _ (rg.up u)) (by kernel_rfl) rfl rfl rfl (by decide) ?_
  rintro u14 w14 ⟨e14, hw14⟩
  have zw14 := hw14.size
  obtain rfl : u14 = .bool true := e14.trans (congrArg Value.bool (decide_eq_true f13))
  refine lsw (want_none (by rfl)) (y_pick true rfl rfl rfl) rfl (by decide) ?_
  refine lsw (want_none (by rfl)) (y_move rfl rfl) rfl (by decide) ?_
  have u := u.trans (hw14.mono u.size)
  have f15 : ¬ (undI 3 4 7) := of_decide_eq_true (by kernel_rfl)
  refine lg_callw (want_t (dj := 30) (by rfl) (by kernel_rfl) rfl) (under_any 3 4 7 _ (rg.up u)) (by kernel_rfl) rfl rfl rfl (by decide) ?_
  rintro u16 w16 ⟨e16, hw16⟩
  have zw16 := hw16.size
  obtain rfl : u16 = .bool false := e16.trans (congrArg Value.bool (decide_eq_false f15))
  refine lsw (want_t (dj := 30) (by rfl) (by kernel_rfl) rfl) (y_bnot rfl rfl) rfl (by decide) ?_
  refine lsw (want_none (by rfl)) (y_pick true rfl rfl rfl) rfl (by decide) ?_
  refine lsw (want_none (by rfl)) (y_assign rfl rfl) rfl (by decide) ?_
  refine lg_nil ?_
  refine nx (E' := [(0, _)]) (fk rfl fn) ?_
  refine cg_ret ?_
  have u := u.trans (hw16.mono u.size)
  exact eg_ret_tmp rfl rfl ⟨_, rfl, rfl, u⟩
end Go.Proofs.YtgcneppjdhnacaaDoor
