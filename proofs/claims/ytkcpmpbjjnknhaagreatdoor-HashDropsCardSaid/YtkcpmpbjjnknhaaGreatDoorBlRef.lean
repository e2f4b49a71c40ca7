/-
  The contracts of First, and of the answers of the document.
-/
import Derived.Test.YtkcpmpbjjnknhaaGreatDoorBlRule
import Derived.Test.YtkcpmpbjjnknhaaGreatDoorBlMore
namespace Go.Proofs.YtkcpmpbjjnknhaaGreatDoor
open Go.ChangeShapes Go.WideShapes Go.ChangeAt Go.RowKit
set_option linter.unusedVariables false
set_option maxRecDepth 20000
theorem first_any (w : World) : Calls Tryz.prog 98 #[] w fun e w' => ∃ v, e = .returned v ∧ v = .agg (cW 8 firstF) ∧ Below w.heap.size w w' := by
  refine calls_cg (n := 2) Tryz.func98 rfl Tryz.ntmps98 (by simp) ?_
  show CG _ _ _ [] _ _
  have u := Below.refl w.heap.size w
  refine cg_seq (cg_region ?_)
  refine lg_alloc rfl hz8 rfl rfl (by decide) fun b1 w1 n1 => ?_
  have r1 := n1.row
  have k1 := n1.blk
  have z1 := n1.size
  have u : Below w.heap.size w w1 := u.trans (n1.below.mono u.size)
  refine lg_nil (nx (E' := [(0, _)]) (fk rfl fn) ?_)
  refine cg_seq (cg_region ?_)
  refine ls (y_build (cs := cW 8 firstF) rfl rfl (by kernel_rfl)) rfl rfl (by decide) ?_
  refine lg_store_row r1 rfl rfl rfl (hs8 _) (by simp only [cW_size]) (cW_one _ _) rfl rfl fun w2 sw2 => ?_
  have r1 := sw2.row
  have zw2 := sw2.size
  have u : Below w.heap.size w w2 := u.trans (sw2.below _ (by omega))
  refine lg_nil (nx (E' := [(0, _)]) (fk rfl fn) ?_)
  exact ret_row rfl rfl r1 hu8 (hs8 _) ⟨_, rfl, rfl, u⟩
end Go.Proofs.YtkcpmpbjjnknhaaGreatDoor
