/-
  The contract of one of the sixty-four steps.
-/
import Derived.Test.YtkcpmpbjjnknhaaGreatDoorBlRule
namespace Go.Proofs.YtkcpmpbjjnknhaaGreatDoor
open Go.ChangeShapes Go.WideShapes Go.ChangeAt Go.RowKit
set_option linter.unusedVariables false
set_option maxRecDepth 20000
theorem step_any (h : Nat → BitVec 32) (nw : BitVec 32) (w : World) : Calls Tryz.prog 161 #[.agg (cW 8 h), wv nw] w fun e w' => ∃ v, e = .returned v ∧ v = .agg (cW 8 (stepF h nw)) ∧ Below w.heap.size w w' := by
  refine calls_cg (n := 74) Tryz.func161 rfl Tryz.ntmps161 (by simp) ?_
  show CG _ _ _ [(0, .agg (cW 8 h)), (1, wv nw)] _ _
  have u := Below.refl w.heap.size w
  refine cg_seq (cg_region ?_)
  refine lg_box rfl rfl (hs8 _) rfl rfl (by decide) fun b1 w1 n1 => ?_
  have r1 := n1.row
  have k1 := n1.blk
  have z1 := n1.size
  have u : Below w.heap.size w w1 := u.trans (n1.below.mono u.size)
  refine lg_alloc rfl hz8 rfl rfl (by decide) fun b2 w2 n2 => ?_
  have r1 := n2.keep r1
  have r2 := n2.row
  have k2 := n2.blk
  have z2 := n2.size
  have u : Below w.heap.size w w2 := u.trans (n2.below.mono u.size)
  refine lg_nil (nx (E' := [(1, _), (2, _), (4, _)]) (fk rfl (fk rfl (fk rfl fn))) ?_)
  refine cg_seq (cg_still (by kernel_rfl) (by kernel_rfl) fun W3 hW3 => ?_)
  have r1 := (show RowAt W3 b1 _ _ from by subst hW3; exact r1)
  have r2 := (show RowAt W3 b2 _ _ from by subst hW3; exact r2)
  have zW3 : W3.heap.size = w2.heap.size := by subst hW3; rfl
  have u : Below w.heap.size w W3 := by subst hW3; exact u.drew
  clear hW3
  refine st (y_ixa (j := 0) hu8 hsw (by omega) rfl rfl rfl) rfl rfl (by decide) ?_
  refine st (y_cell r1 (cW_get (by omega)) huw rfl rfl) rfl rfl (by decide) ?_
  refine st (y_ixa (j := 1) hu8 hsw (by omega) rfl rfl rfl) rfl rfl (by decide) ?_
  refine st (y_cell r1 (cW_get (by omega)) huw rfl rfl) rfl rfl (by decide) ?_
  refine st (y_ixa (j := 2) hu8 hsw (by omega) rfl rfl rfl) rfl rfl (by decide) ?_
  refine st (y_cell r1 (cW_get (by omega)) huw rfl rfl) rfl rfl (by decide) ?_
  refine st (y_ixa (j := 3) hu8 hsw (by omega) rfl rfl rfl) rfl rfl (by decide) ?_
  refine st (y_cell r1 (cW_get (by omega)) huw rfl rfl) rfl rfl (by decide) ?_
  refine st (y_ixa (j := 4) hu8 hsw (by omega) rfl rfl rfl) rfl rfl (by decide) ?_
  refine st (y_cell r1 (cW_get (by omega)) huw rfl rfl) rfl rfl (by decide) ?_
  refine st (y_ixa (j := 5) hu8 hsw (by omega) rfl rfl rfl) rfl rfl (by decide) ?_
  refine st (y_cell r1 (cW_get (by omega)) huw rfl rfl) rfl rfl (by decide) ?_
  refine st (y_ixa (j := 6) hu8 hsw (by omega) rfl rfl rfl) rfl rfl (by decide) ?_
  refine st (y_cell r1 (cW_get (by omega)) huw rfl rfl) rfl rfl (by decide) ?_
  refine st (y_ixa (j := 7) hu8 hsw (by omega) rfl rfl rfl) rfl rfl (by decide) ?_
  refine st (y_cell r1 (cW_get (by omega)) huw rfl rfl) rfl rfl (by decide) ?_
  refine st (y_assign rfl rfl) rfl rfl (by decide) ?_
  refine st (y_assign rfl rfl) rfl rfl (by decide) ?_
  refine st (y_assign rfl rfl) rfl rfl (by decide) ?_
  refine st (y_assign rfl rfl) rfl rfl (by decide) ?_
  refine st (y_assign rfl rfl) rfl rfl (by decide) ?_
  refine st (y_assign rfl rfl) rfl rfl (by decide) ?_
  refine st (y_assign rfl rfl) rfl rfl (by decide) ?_
  refine st (y_assign rfl rfl) rfl rfl (by decide) ?_
  refine sg_nil (nx (E' := [(1, _), (4, _), (5, _), (6, _), (7, _), (8, _), (9, _), (10, _), (11, _), (12, _)]) (fk rfl (fk rfl (fk rfl (fk rfl (fk rfl (fk rfl (fk rfl (fk rfl (fk rfl (fk rfl fn)))))))))) ?_)
  refine cg_seq (cg_region ?_)
  refine ls (y_move rfl rfl) rfl rfl (by decide) ?_
  refine ls (y_move rfl rfl) rfl rfl (by decide) ?_
  refine ls (y_call (turned_any _ 6 (by decide) (by decide) _) (by kernel_rfl) rfl rfl) rfl rfl (by decide) ?_
  refine ls (y_move rfl rfl) rfl rfl (by decide) ?_
  refine ls (y_call (turned_any _ 11 (by decide) (by decide) _) (by kernel_rfl) rfl rfl) rfl rfl (by decide) ?_
  refine ls (y_xor rfl rfl rfl) rfl rfl (by decide) ?_
  refine ls (y_move rfl rfl) rfl rfl (by decide) ?_
  refine ls (y_call (turned_any _ 25 (by decide) (by decide) _) (by kernel_rfl) rfl rfl) rfl rfl (by decide) ?_
  refine ls (y_xor rfl rfl rfl) rfl rfl (by decide) ?_
  refine ls (y_add rfl rfl rfl) rfl rfl (by decide) ?_
  refine ls (y_move rfl rfl) rfl rfl (by decide) ?_
  refine ls (y_move rfl rfl) rfl rfl (by decide) ?_
  refine ls (y_move rfl rfl) rfl rfl (by decide) ?_
  refine ls (y_call (chosen_any _ _ _ _) (by kernel_rfl) rfl rfl) rfl rfl (by decide) ?_
  refine ls (y_add rfl rfl rfl) rfl rfl (by decide) ?_
  refine ls (y_move rfl rfl) rfl rfl (by decide) ?_
  refine ls (y_add rfl rfl rfl) rfl rfl (by decide) ?_
  refine ls (y_assign rfl rfl) rfl rfl (by decide) ?_
  refine lg_nil (nx (E' := [(4, _), (5, _), (6, _), (7, _), (8, _), (9, _), (10, _), (11, _), (13, _)]) (fk rfl (fk rfl (fk rfl (fk rfl (fk rfl (fk rfl (fk rfl (fk rfl (fk rfl fn))))))))) ?_)
  refine cg_seq (cg_region ?_)
  refine ls (y_move rfl rfl) rfl rfl (by decide) ?_
  refine ls (y_call (turned_any _ 2 (by decide) (by decide) _) (by kernel_rfl) rfl rfl) rfl rfl (by decide) ?_
  refine ls (y_move rfl rfl) rfl rfl (by decide) ?_
  refine ls (y_call (turned_any _ 13 (by decide) (by decide) _) (by kernel_rfl) rfl rfl) rfl rfl (by decide) ?_
  refine ls (y_xor rfl rfl rfl) rfl rfl (by decide) ?_
  refine ls (y_move rfl rfl) rfl rfl (by decide) ?_
  refine ls (y_call (turned_any _ 22 (by decide) (by decide) _) (by kernel_rfl) rfl rfl) rfl rfl (by decide) ?_
  refine ls (y_xor rfl rfl rfl) rfl rfl (by decide) ?_
  refine ls (y_move rfl rfl) rfl rfl (by decide) ?_
  refine ls (y_move rfl rfl) rfl rfl (by decide) ?_
  refine ls (y_move rfl rfl) rfl rfl (by decide) ?_
  refine ls (y_call (most_any _ _ _ _) (by kernel_rfl) rfl rfl) rfl rfl (by decide) ?_
  refine ls (y_add rfl rfl rfl) rfl rfl (by decide) ?_
  refine ls (y_assign rfl rfl) rfl rfl (by decide) ?_
  refine lg_nil (nx (E' := [(4, _), (5, _), (6, _), (7, _), (8, _), (9, _), (10, _), (11, _), (13, _), (14, _)]) (fk rfl (fk rfl (fk rfl (fk rfl (fk rfl (fk rfl (fk rfl (fk rfl (fk rfl (fk rfl fn)))))))))) ?_)
  refine cg_seq (cg_region ?_)
  refine ls (y_move rfl rfl) rfl rfl (by decide) ?_
  refine ls (y_move rfl rfl) rfl rfl (by decide) ?_
  refine ls (y_add rfl rfl rfl) rfl rfl (by decide) ?_
  refine ls (y_move rfl rfl) rfl rfl (by decide) ?_
  refine ls (y_move rfl rfl) rfl rfl (by decide) ?_
  refine ls (y_move rfl rfl) rfl rfl (by decide) ?_
  refine ls (y_move rfl rfl) rfl rfl (by decide) ?_
  refine ls (y_move rfl rfl) rfl rfl (by decide) ?_
  refine ls (y_add rfl rfl rfl) rfl rfl (by decide) ?_
  refine ls (y_move rfl rfl) rfl rfl (by decide) ?_
  refine ls (y_move rfl rfl) rfl rfl (by decide) ?_
  refine ls (y_move rfl rfl) rfl rfl (by decide) ?_
  refine ls (y_build (cs := cW 8 (stepF h nw)) rfl rfl (by kernel_rfl)) rfl rfl (by decide) ?_
  refine lg_store_row r2 rfl rfl rfl (hs8 _) (by rw [cW_size, cW_size]) (cW_one _ _) rfl rfl fun w4 sw4 => ?_
  have r1 := sw4.keep r1 (by omega)
  have r2 := sw4.row
  have zw4 := sw4.size
  have u : Below w.heap.size w w4 := u.trans (sw4.below _ (by omega))
  refine lg_nil (nx (E' := [(4, _)]) (fk rfl fn) ?_)
  exact ret_row rfl rfl r2 hu8 (hs8 _) ⟨_, rfl, rfl, u⟩
end Go.Proofs.YtkcpmpbjjnknhaaGreatDoor
