/-
  The chapter's example.
-/
import Derived.Test.YtbobdjimilcohaaDoorIxProg
import Derived.Test.YtbobdjimilcohaaDoorIxRef
namespace Go.Proofs.YtbobdjimilcohaaDoor
open Go.ChangeShapes Go.WideShapes Go.ChangeAt Go.RowKit
set_option linter.unusedVariables false
set_option maxRecDepth 20000
theorem awake_any (W : World) (rg : Tb W) : Calls Tryd.prog 9 #[] W fun e w' => e = .returned (.bool true) ∧ w' = W := by
  refine calls_cg (n := 37) Tryd.func9 rfl Tryd.ntmps9 (by simp) ?_
  show CG _ _ _ [] _ _
  refine cg_seq ?_
  refine cg_region ?_
  refine lsw (want_none (by rfl)) (y_assign rfl rfl) rfl (by decide) ?_
  refine lg_nil ?_
  refine nx (E' := [(0, _)]) (fk rfl fn) ?_
  refine cg_seq ?_
  refine cg_region ?_
  refine lsw (want_none (by rfl)) (y_call (root_any 7 _ rg) (by kernel_rfl) rfl rfl) rfl (by decide) ?_
  have f1 : (rootI 7) = 3 := of_decide_eq_true (by kernel_rfl)
  refine lsw (want_none (by rfl)) (yb (decide_eq_true f1) (yi_eql rfl rfl rfl)) rfl (by decide) ?_
  refine lsw (want_none (by rfl)) (y_move rfl rfl) rfl (by decide) ?_
  refine lsw (want_t (dj := 3) (by rfl) (by kernel_rfl) rfl) (y_call (left_any 3 7 _ rg) (by kernel_rfl) rfl rfl) rfl (by decide) ?_
  have f2 : (leftI 3 7) = 1 := of_decide_eq_true (by kernel_rfl)
  refine lsw (want_t (dj := 3) (by rfl) (by kernel_rfl) rfl) (yb (decide_eq_true f2) (yi_eql rfl rfl rfl)) rfl (by decide) ?_
  refine lsw (want_none (by rfl)) (y_pick true rfl rfl rfl) rfl (by decide) ?_
  refine lsw (want_none (by rfl)) (y_move rfl rfl) rfl (by decide) ?_
  refine lsw (want_t (dj := 7) (by rfl) (by kernel_rfl) rfl) (y_call (right_any 3 7 _ rg) (by kernel_rfl) rfl rfl) rfl (by decide) ?_
  have f3 : (rightI 3 7) = 5 := of_decide_eq_true (by kernel_rfl)
  refine lsw (want_t (dj := 7) (by rfl) (by kernel_rfl) rfl) (yb (decide_eq_true f3) (yi_eql rfl rfl rfl)) rfl (by decide) ?_
  refine lsw (want_none (by rfl)) (y_pick true rfl rfl rfl) rfl (by decide) ?_
  refine lsw (want_none (by rfl)) (y_move rfl rfl) rfl (by decide) ?_
  refine lsw (want_t (dj := 11) (by rfl) (by kernel_rfl) rfl) (y_call (parent_any 4 7 _ rg) (by kernel_rfl) rfl rfl) rfl (by decide) ?_
  have f4 : (parI 4 7) = 5 := of_decide_eq_true (by kernel_rfl)
  refine lsw (want_t (dj := 11) (by rfl) (by kernel_rfl) rfl) (yb (decide_eq_true f4) (yi_eql rfl rfl rfl)) rfl (by decide) ?_
  refine lsw (want_none (by rfl)) (y_pick true rfl rfl rfl) rfl (by decide) ?_
  refine lsw (want_none (by rfl)) (y_move rfl rfl) rfl (by decide) ?_
  refine lsw (want_t (dj := 15) (by rfl) (by kernel_rfl) rfl) (y_call (sibling_any 4 7 _ rg) (by kernel_rfl) rfl rfl) rfl (by decide) ?_
  have f5 : (sibI 4 7) = 6 := of_decide_eq_true (by kernel_rfl)
  refine lsw (want_t (dj := 15) (by rfl) (by kernel_rfl) rfl) (yb (decide_eq_true f5) (yi_eql rfl rfl rfl)) rfl (by decide) ?_
  refine lsw (want_none (by rfl)) (y_pick true rfl rfl rfl) rfl (by decide) ?_
  refine lsw (want_none (by rfl)) (y_move rfl rfl) rfl (by decide) ?_
  have f6 : isW 127 := of_decide_eq_true (by kernel_rfl)
  refine lsw (want_t (dj := 19) (by rfl) (by kernel_rfl) rfl) (yb (decide_eq_true f6) (y_call (whole_any 127 _ rg) (by kernel_rfl) rfl rfl)) rfl (by decide) ?_
  refine lsw (want_none (by rfl)) (y_pick true rfl rfl rfl) rfl (by decide) ?_
  refine lsw (want_none (by rfl)) (y_move rfl rfl) rfl (by decide) ?_
  have f7 : ¬ (isW 5) := of_decide_eq_true (by kernel_rfl)
  refine lsw (want_t (dj := 22) (by rfl) (by kernel_rfl) rfl) (yb (decide_eq_false f7) (y_call (whole_any 5 _ rg) (by kernel_rfl) rfl rfl)) rfl (by decide) ?_
  refine lsw (want_t (dj := 22) (by rfl) (by kernel_rfl) rfl) (y_bnot rfl rfl) rfl (by decide) ?_
  refine lsw (want_none (by rfl)) (y_pick true rfl rfl rfl) rfl (by decide) ?_
  refine lsw (want_none (by rfl)) (y_move rfl rfl) rfl (by decide) ?_
  refine lsw (want_t (dj := 26) (by rfl) (by kernel_rfl) rfl) (y_call (level_any 3 _ rg) (by kernel_rfl) rfl rfl) rfl (by decide) ?_
  have f8 : (lvl 3) = 2 := of_decide_eq_true (by kernel_rfl)
  refine lsw (want_t (dj := 26) (by rfl) (by kernel_rfl) rfl) (yb (decide_eq_true f8) (yi_eql rfl rfl rfl)) rfl (by decide) ?_
  refine lsw (want_none (by rfl)) (y_pick true rfl rfl rfl) rfl (by decide) ?_
  refine lsw (want_none (by rfl)) (y_move rfl rfl) rfl (by decide) ?_
  have f9 : isN 6 7 := of_decide_eq_true (by kernel_rfl)
  refine lsw (want_t (dj := 30) (by rfl) (by kernel_rfl) rfl) (yb (decide_eq_true f9) (y_call (is_any 6 7 _ rg) (by kernel_rfl) rfl rfl)) rfl (by decide) ?_
  refine lsw (want_none (by rfl)) (y_pick true rfl rfl rfl) rfl (by decide) ?_
  refine lsw (want_none (by rfl)) (y_move rfl rfl) rfl (by decide) ?_
  have f10 : ¬ (isN 7 7) := of_decide_eq_true (by kernel_rfl)
  refine lsw (want_t (dj := 33) (by rfl) (by kernel_rfl) rfl) (yb (decide_eq_false f10) (y_call (is_any 7 7 _ rg) (by kernel_rfl) rfl rfl)) rfl (by decide) ?_
  refine lsw (want_t (dj := 33) (by rfl) (by kernel_rfl) rfl) (y_bnot rfl rfl) rfl (by decide) ?_
  refine lsw (want_none (by rfl)) (y_pick true rfl rfl rfl) rfl (by decide) ?_
  refine lsw (want_none (by rfl)) (y_assign rfl rfl) rfl (by decide) ?_
  refine lg_nil ?_
  refine nx (E' := [(0, _)]) (fk rfl fn) ?_
  refine cg_ret ?_
  exact eg_ret_tmp rfl rfl ⟨rfl, rfl⟩
end Go.Proofs.YtbobdjimilcohaaDoor
