/-
  The contracts of First, and of the answers of the document.
-/
import Derived.Test.YtkcpmpbjjnknhaaGreatDoorBlRule
import Derived.Test.YtkcpmpbjjnknhaaGreatDoorBlMore
namespace Go.Proofs.YtkcpmpbjjnknhaaGreatDoor
open Go.ChangeShapes Go.WideShapes Go.ChangeAt Go.RowKit
set_option linter.unusedVariables false
set_option maxRecDepth 20000
theorem first_any (w : World) : Calls Tryz.prog 98 #[] w fun e w' => ∃ v, e = .returned v ∧ v = .agg (cW 8 firstF) ∧ Below w.heap.size w w' := by
  refine calls_cg (n := 2) Tryz.func98 rfl Tryz.ntmps98 (by simp) ?_
  show CG _ _ _ [] _ _
  have u := Below.refl w.heap.size w
  refine cg_seq (cg_region ?_)
  refine lg_alloc rfl hz8 rfl rfl (by decide) fun b1 w1 n1 => ?_
  have r1 := n1.row
  have k1 := n1.blk
  have z1 := n1.size
  have u : Below w.heap.size w w1 := u.trans (n1.below.mono u.size)
  refine lg_nil (nx (E' := [(0, _)]) (fk rfl fn) ?_)
  refine cg_seq (cg_region ?_)
  refine ls (y_build (cs := cW 8 firstF) rfl rfl (by kernel_rfl)) rfl rfl (by decide) ?_
  refine lg_store_row r1 rfl rfl rfl (hs8 _) (by simp only [cW_size]) (cW_one _ _) rfl rfl fun w2 sw2 => ?_
  have r1 := sw2.row
  have zw2 := sw2.size
  have u : Below w.heap.size w w2 := u.trans (sw2.below _ (by omega))
  refine lg_nil (nx (E' := [(0, _)]) (fk rfl fn) ?_)
  exact ret_row rfl rfl r1 hu8 (hs8 _) ⟨_, rfl, rfl, u⟩
theorem rfirst_any (w : World) : Calls Tryz.prog 143 #[] w fun e w' => ∃ v, e = .returned v ∧ v = .agg (cW 8 firstF) ∧ Below w.heap.size w w' := by
  refine calls_cg (n := 2) Tryz.func143 rfl Tryz.ntmps143 (by simp) ?_
  show CG _ _ _ [] _ _
  have u := Below.refl w.heap.size w
  refine cg_seq (cg_region ?_)
  refine lg_alloc rfl hz8 rfl rfl (by decide) fun b1 w1 n1 => ?_
  have r1 := n1.row
  have k1 := n1.blk
  have z1 := n1.size
  have u : Below w.heap.size w w1 := u.trans (n1.below.mono u.size)
  refine lg_nil (nx (E' := [(0, _)]) (fk rfl fn) ?_)
  refine cg_seq (cg_region ?_)
  refine ls (y_build (cs := cW 8 firstF) rfl rfl (by kernel_rfl)) rfl rfl (by decide) ?_
  refine lg_store_row r1 rfl rfl rfl (hs8 _) (by simp only [cW_size]) (cW_one _ _) rfl rfl fun w2 sw2 => ?_
  have r1 := sw2.row
  have zw2 := sw2.size
  have u : Below w.heap.size w w2 := u.trans (sw2.below _ (by omega))
  refine lg_nil (nx (E' := [(0, _)]) (fk rfl fn) ?_)
  exact ret_row rfl rfl r1 hu8 (hs8 _) ⟨_, rfl, rfl, u⟩
theorem rnumbers_any (w : World) : Calls Tryz.prog 163 #[] w fun e w' => ∃ v, e = .returned v ∧ ∃ b, v = .slice (some ⟨b, 0, none⟩) 64 64 ∧ RowAt w' b 82 (cW 64 num) ∧ w.heap.size ≤ b ∧ Below w.heap.size w w' := by
  refine calls_cg (n := 2) Tryz.func163 rfl Tryz.ntmps163 (by simp) ?_
  show CG _ _ _ [] _ _
  have u := Below.refl w.heap.size w
  refine cg_seq (cg_region ?_)
  refine ls (y_assign rfl rfl) rfl rfl (by decide) ?_
  refine lg_nil (nx (E' := []) fn ?_)
  refine cg_seq (cg_region ?_)
  refine lg_bslice (cs := cW 64 num) hus hzw (by decide) (by decide) rfl rfl (by kernel_rfl) rfl rfl (by decide) fun b1 w1 n1 => ?_
  have u : Below w.heap.size w w1 := u.trans (n1.below.mono u.size)
  have k1 := n1.blk
  refine ls (y_assign rfl rfl) rfl rfl (by decide) ?_
  refine lg_nil (nx (E' := [(0, _)]) (fk rfl fn) ?_)
  exact ret_tmp rfl rfl ⟨_, rfl, b1, rfl, n1.row, by omega, u⟩
theorem rspread_any (b : Nat → BitVec 8) (w : World) : Calls Tryz.prog 162 #[.agg (cB 64 b)] w fun e w' => ∃ v, e = .returned v ∧ v = .agg (cW 64 (spr b)) ∧ Below w.heap.size w w' := by
  refine calls_cg (n := 90) Tryz.func162 rfl Tryz.ntmps162 (by simp) ?_
  show CG _ _ _ [(0, .agg (cB 64 b))] _ _
  have u := Below.refl w.heap.size w
  refine cg_seq (cg_region ?_)
  refine lg_box rfl rfl (hso _) rfl rfl (by decide) fun b1 w1 n1 => ?_
  have r1 := n1.row
  have k1 := n1.blk
  have z1 := n1.size
  have u : Below w.heap.size w w1 := u.trans (n1.below.mono u.size)
  refine lg_alloc rfl hz64 rfl rfl (by decide) fun b2 w2 n2 => ?_
  have r1 := n2.keep r1
  have r2 := n2.row
  have k2 := n2.blk
  have z2 := n2.size
  have u : Below w.heap.size w w2 := u.trans (n2.below.mono u.size)
  refine lg_nil (nx (E' := [(1, _), (2, _)]) (fk rfl (fk rfl fn)) ?_)
  refine cg_seq (cg_region ?_)
  refine ls (y_build (cs := cW 64 fun _ => 0) rfl rfl (by kernel_rfl)) rfl rfl (by decide) ?_
  refine lg_alloc rfl hz64 rfl rfl (by decide) fun b3 w3 n3 => ?_
  have r1 := n3.keep r1
  have r2 := n3.keep r2
  have r3 := n3.row
  have k3 := n3.blk
  have z3 := n3.size
  have u : Below w.heap.size w w3 := u.trans (n3.below.mono u.size)
  refine lg_store_row r3 rfl rfl rfl (hs64 _) (by simp only [cW_size]) (cW_one _ _) rfl rfl fun w4 sw4 => ?_
  have r1 := sw4.keep r1 (by omega)
  have r2 := sw4.keep r2 (by omega)
  have r3 := sw4.row
  have zw4 := sw4.size
  have u : Below w.heap.size w w4 := u.trans (sw4.below _ (by omega))
  refine lg_nil (nx (E' := [(1, _), (2, _), (3, _)]) (fk rfl (fk rfl (fk rfl fn))) ?_)
  refine cg_seq ?_
  refine cg_seq (cg_region ?_)
  refine ls (y_assign (v := iv 0) rfl rfl) rfl rfl (by decide) ?_
  refine lg_nil (nx (E' := [(1, _), (2, _), (3, _), (4, _)]) (fk rfl (fk rfl (fk rfl (fk rfl fn)))) ?_)
  refine cg_block fun a ha => ?_
  refine cg_loop (fun t a v => Holds 90 [(1, pv b1 0), (2, pv b2 0), (3, pv b3 0), (4, iv t)] a ∧ RowAt v b1 138 (cB 64 b) ∧ RowAt v b2 155 (cW 64 fun _ => 0) ∧ RowAt v b3 155 (cW 64 (head b t)) ∧ v.heap.size = w4.heap.size ∧ Below w.heap.size w v) 16 ⟨ha.keep (fk rfl (fk rfl (fk rfl (fk rfl fn)))), r1, r2, r3, rfl, u⟩ ?_
  clear a ha
  rintro t a v ht ⟨ha, r1, r2, r3, zv, u⟩
  refine cg_at ha ?_
  clear a ha
  refine cg_seq ?_
  refine cg_seq (cg_region ?_)
  refine ls (y_move rfl rfl) rfl rfl (by decide) ?_
  refine ls (y_ilss (t) (16) rfl rfl rfl) rfl rfl (by decide) ?_
  refine lg_nil (nx (E' := [(1, _), (2, _), (3, _), (4, _), (12, _)]) (fk rfl (fk rfl (fk rfl (fk rfl (fk rfl fn))))) ?_)
  refine cg_cond (decide (t < 16)) rfl (fun hlt => ?_) (fun hge => ?_)
  · have hlt : t < 16 := of_decide_eq_true hlt
    refine cg_skip (nx (E' := [(1, _), (2, _), (3, _), (4, _)]) (fk rfl (fk rfl (fk rfl (fk rfl fn)))) ?_)
    refine cg_seq (cg_block ?_)
    refine cg_tail 31 (by kernel_rfl) (by kernel_rfl) fun W5 hW5 => ?_
    have r1 := (show RowAt W5 b1 _ _ from by subst hW5; exact r1)
    have r2 := (show RowAt W5 b2 _ _ from by subst hW5; exact r2)
    have r3 := (show RowAt W5 b3 _ _ from by subst hW5; exact r3)
    have zW5 : W5.heap.size = v.heap.size := by subst hW5; rfl
    have u : Below w.heap.size w W5 := by subst hW5; exact u.drew
    clear hW5
    simp only [List.take_succ_cons, List.take_zero, List.drop_succ_cons, List.drop_zero]
    refine st (y_move rfl rfl) rfl rfl (by decide) ?_
    refine st (y_move rfl rfl) rfl rfl (by decide) ?_
    refine st (y_imul (4) (t) (by omega) rfl rfl rfl) rfl rfl (by decide) ?_
    refine st (y_ixa (j := 4 * t) huo hsb (by omega) rfl rfl rfl) rfl rfl (by decide) ?_
    refine st (y_cell r1 (cB_get (by omega)) hub rfl rfl) rfl rfl (by decide) ?_
    refine st (y_bw rfl rfl) rfl rfl (by decide) ?_
    refine st (y_mul (Y := 16777216#32) rfl rfl (by kernel_rfl)) rfl rfl (by decide) ?_
    refine st (y_move rfl rfl) rfl rfl (by decide) ?_
    refine st (y_imul (4) (t) (by omega) rfl rfl rfl) rfl rfl (by decide) ?_
    refine st (y_iadd (4 * t) (1) (by omega) rfl rfl rfl) rfl rfl (by decide) ?_
    refine st (y_ixa (j := (4 * t) + 1) huo hsb (by omega) rfl rfl rfl) rfl rfl (by decide) ?_
    refine st (y_cell r1 (cB_get (by omega)) hub rfl rfl) rfl rfl (by decide) ?_
    refine st (y_bw rfl rfl) rfl rfl (by decide) ?_
    refine st (y_mul (Y := 65536#32) rfl rfl (by kernel_rfl)) rfl rfl (by decide) ?_
    refine st (y_add rfl rfl rfl) rfl rfl (by decide) ?_
    refine st (y_move rfl rfl) rfl rfl (by decide) ?_
    refine st (y_imul (4) (t) (by omega) rfl rfl rfl) rfl rfl (by decide) ?_
    refine st (y_iadd (4 * t) (2) (by omega) rfl rfl rfl) rfl rfl (by decide) ?_
    refine st (y_ixa (j := (4 * t) + 2) huo hsb (by omega) rfl rfl rfl) rfl rfl (by decide) ?_
    refine st (y_cell r1 (cB_get (by omega)) hub rfl rfl) rfl rfl (by decide) ?_
    refine st (y_bw rfl rfl) rfl rfl (by decide) ?_
    refine st (y_mul (Y := 256#32) rfl rfl (by kernel_rfl)) rfl rfl (by decide) ?_
    refine st (y_add rfl rfl rfl) rfl rfl (by decide) ?_
    refine st (y_move rfl rfl) rfl rfl (by decide) ?_
    refine st (y_imul (4) (t) (by omega) rfl rfl rfl) rfl rfl (by decide) ?_
    refine st (y_iadd (4 * t) (3) (by omega) rfl rfl rfl) rfl rfl (by decide) ?_
    refine st (y_ixa (j := (4 * t) + 3) huo hsb (by omega) rfl rfl rfl) rfl rfl (by decide) ?_
    refine st (y_cell r1 (cB_get (by omega)) hub rfl rfl) rfl rfl (by decide) ?_
    refine st (y_bw rfl rfl) rfl rfl (by decide) ?_
    refine st (y_add rfl rfl rfl) rfl rfl (by decide) ?_
    refine st (y_ixa (j := t) hu64 hsw (by omega) rfl rfl rfl) rfl rfl (by decide) ?_
    refine sg_lg ?_
    refine lg_store r3 (by rw [cW_size]; omega) rfl rfl rfl rfl hsw rfl rfl fun w6 sw6 => ?_
    rw [cW_set] at sw6
    have r1 := sw6.keep r1 (by omega)
    have r2 := sw6.keep r2 (by omega)
    have r3 := sw6.row
    have zw6 := sw6.size
    have u : Below w.heap.size w w6 := u.trans (sw6.below _ (by omega))
    rw [wd_sum] at r3
    refine lg_nil (nxb (E' := [(1, _), (2, _), (3, _), (4, _)]) (fk rfl (fk rfl (fk rfl (fk rfl fn)))) ?_)
    refine cg_region ?_
    refine ls (y_move rfl rfl) rfl rfl (by decide) ?_
    refine ls (y_iadd (t) (1) (by omega) rfl rfl rfl) rfl rfl (by decide) ?_
    refine ls (y_assign rfl rfl) rfl rfl (by decide) ?_
    exact lg_nil fun a ha => (show t < 16 ∧ _ from ⟨hlt, ha.keep (fk rfl (fk rfl (fk rfl (fk rfl fn)))), r1, r2, r3, by omega, u⟩)
  · have hge := of_decide_eq_false hge
    obtain rfl : t = 16 := by omega
    refine cg_exit (ex_out ?_)
    refine nx (zk3 1 2 3 rfl rfl rfl fn) ?_
    refine cg_seq ?_
    refine cg_seq (cg_region ?_)
    refine ls (y_assign (v := iv 16) rfl rfl) rfl rfl (by decide) ?_
    refine lg_nil (nx (E' := [(1, _), (2, _), (3, _), (5, _)]) (fk rfl (fk rfl (fk rfl (fk rfl fn)))) ?_)
    clear ht hge
    have zq := zv
    clear zv
    refine cg_block fun a ha => ?_
    refine cg_loop (fun k a v => Holds 90 [(1, pv b1 0), (2, pv b2 0), (3, pv b3 0), (5, iv (16 + k))] a ∧ RowAt v b1 138 (cB 64 b) ∧ RowAt v b2 155 (cW 64 fun _ => 0) ∧ RowAt v b3 155 (cW 64 (tailF b k)) ∧ v.heap.size = w4.heap.size ∧ Below w.heap.size w v) 48 ⟨ha.keep (fk rfl (fk rfl (fk rfl (fk rfl fn)))), r1, r2, r3, zq, u⟩ ?_
    clear a ha
    rintro k a v ht ⟨ha, r1, r2, r3, zv, u⟩
    refine cg_at ha ?_
    clear a ha
    refine cg_seq ?_
    refine cg_seq (cg_region ?_)
    refine ls (y_move rfl rfl) rfl rfl (by decide) ?_
    refine ls (y_ilss (16 + k) (64) rfl rfl rfl) rfl rfl (by decide) ?_
    refine lg_nil (nx (E' := [(1, _), (2, _), (3, _), (5, _), (47, _)]) (fk rfl (fk rfl (fk rfl (fk rfl (fk rfl fn))))) ?_)
    refine cg_cond (decide (16 + k < 64)) rfl (fun hlt => ?_) (fun hge => ?_)
    · have hlt : 16 + k < 64 := of_decide_eq_true hlt
      refine cg_skip (nx (E' := [(1, _), (2, _), (3, _), (5, _)]) (fk rfl (fk rfl (fk rfl (fk rfl fn)))) ?_)
      refine cg_seq (cg_block ?_)
      refine cg_seq (cg_region ?_)
      refine ls (y_move rfl rfl) rfl rfl (by decide) ?_
      refine ls (y_isub (16 + k) (15) (by omega) (by omega) rfl rfl rfl) rfl rfl (by decide) ?_
      refine ls (y_ixa (j := (16 + k) - 15) hu64 hsw (by omega) rfl rfl rfl) rfl rfl (by decide) ?_
      refine ls (y_cell r3 (cW_get (by omega)) huw rfl rfl) rfl rfl (by decide) ?_
      refine ls (y_assign rfl rfl) rfl rfl (by decide) ?_
      refine lg_nil (nx (E' := [(1, _), (2, _), (3, _), (5, _), (6, _)]) (fk rfl (fk rfl (fk rfl (fk rfl (fk rfl fn))))) ?_)
      refine cg_seq (cg_region ?_)
      refine ls (y_move rfl rfl) rfl rfl (by decide) ?_
      refine ls (y_isub (16 + k) (2) (by omega) (by omega) rfl rfl rfl) rfl rfl (by decide) ?_
      refine ls (y_ixa (j := (16 + k) - 2) hu64 hsw (by omega) rfl rfl rfl) rfl rfl (by decide) ?_
      refine ls (y_cell r3 (cW_get (by omega)) huw rfl rfl) rfl rfl (by decide) ?_
      refine ls (y_assign rfl rfl) rfl rfl (by decide) ?_
      refine lg_nil (nx (E' := [(1, _), (2, _), (3, _), (5, _), (6, _), (7, _)]) (fk rfl (fk rfl (fk rfl (fk rfl (fk rfl (fk rfl fn)))))) ?_)
      refine cg_seq (cg_region ?_)
      refine ls (y_move rfl rfl) rfl rfl (by decide) ?_
      refine ls (y_call (rturned_any _ 7 (by decide) (by decide) _) (by kernel_rfl) rfl rfl) rfl rfl (by decide) ?_
      refine ls (y_move rfl rfl) rfl rfl (by decide) ?_
      refine ls (y_call (rturned_any _ 18 (by decide) (by decide) _) (by kernel_rfl) rfl rfl) rfl rfl (by decide) ?_
      refine ls (y_xor rfl rfl rfl) rfl rfl (by decide) ?_
      refine ls (y_move rfl rfl) rfl rfl (by decide) ?_
      refine ls (y_call (rmoved_any _ 3 (by decide) (by decide) _) (by kernel_rfl) rfl rfl) rfl rfl (by decide) ?_
      refine ls (y_xor rfl rfl rfl) rfl rfl (by decide) ?_
      refine ls (y_assign rfl rfl) rfl rfl (by decide) ?_
      refine lg_nil (nx (E' := [(1, _), (2, _), (3, _), (5, _), (7, _), (8, _)]) (fk rfl (fk rfl (fk rfl (fk rfl (fk rfl (fk rfl fn)))))) ?_)
      refine cg_seq (cg_region ?_)
      refine ls (y_move rfl rfl) rfl rfl (by decide) ?_
      refine ls (y_call (rturned_any _ 17 (by decide) (by decide) _) (by kernel_rfl) rfl rfl) rfl rfl (by decide) ?_
      refine ls (y_move rfl rfl) rfl rfl (by decide) ?_
      refine ls (y_call (rturned_any _ 19 (by decide) (by decide) _) (by kernel_rfl) rfl rfl) rfl rfl (by decide) ?_
      refine ls (y_xor rfl rfl rfl) rfl rfl (by decide) ?_
      refine ls (y_move rfl rfl) rfl rfl (by decide) ?_
      refine ls (y_call (rmoved_any _ 10 (by decide) (by decide) _) (by kernel_rfl) rfl rfl) rfl rfl (by decide) ?_
      refine ls (y_xor rfl rfl rfl) rfl rfl (by decide) ?_
      refine ls (y_assign rfl rfl) rfl rfl (by decide) ?_
      refine lg_nil (nx (E' := [(1, _), (2, _), (3, _), (5, _), (8, _), (9, _)]) (fk rfl (fk rfl (fk rfl (fk rfl (fk rfl (fk rfl fn)))))) ?_)
      refine cg_tail 15 (by kernel_rfl) (by kernel_rfl) fun W5 hW5 => ?_
      have r1 := (show RowAt W5 b1 _ _ from by subst hW5; exact r1)
      have r2 := (show RowAt W5 b2 _ _ from by subst hW5; exact r2)
      have r3 := (show RowAt W5 b3 _ _ from by subst hW5; exact r3)
      have zW5 : W5.heap.size = v.heap.size := by subst hW5; rfl
      have u : Below w.heap.size w W5 := by subst hW5; exact u.drew
      clear hW5
      simp only [List.take_succ_cons, List.take_zero, List.drop_succ_cons, List.drop_zero]
      refine st (y_move rfl rfl) rfl rfl (by decide) ?_
      refine st (y_move rfl rfl) rfl rfl (by decide) ?_
      refine st (y_isub (16 + k) (16) (by omega) (by omega) rfl rfl rfl) rfl rfl (by decide) ?_
      refine st (y_ixa (j := (16 + k) - 16) hu64 hsw (by omega) rfl rfl rfl) rfl rfl (by decide) ?_
      refine st (y_cell r3 (cW_get (by omega)) huw rfl rfl) rfl rfl (by decide) ?_
      refine st (y_move rfl rfl) rfl rfl (by decide) ?_
      refine st (y_add rfl rfl rfl) rfl rfl (by decide) ?_
      refine st (y_move rfl rfl) rfl rfl (by decide) ?_
      refine st (y_isub (16 + k) (7) (by omega) (by omega) rfl rfl rfl) rfl rfl (by decide) ?_
      refine st (y_ixa (j := (16 + k) - 7) hu64 hsw (by omega) rfl rfl rfl) rfl rfl (by decide) ?_
      refine st (y_cell r3 (cW_get (by omega)) huw rfl rfl) rfl rfl (by decide) ?_
      refine st (y_add rfl rfl rfl) rfl rfl (by decide) ?_
      refine st (y_move rfl rfl) rfl rfl (by decide) ?_
      refine st (y_add rfl rfl rfl) rfl rfl (by decide) ?_
      refine st (y_ixa (j := 16 + k) hu64 hsw (by omega) rfl rfl rfl) rfl rfl (by decide) ?_
      refine sg_lg ?_
      refine lg_store r3 (by rw [cW_size]; omega) rfl rfl rfl rfl hsw rfl rfl fun w6 sw6 => ?_
      rw [cW_set] at sw6
      have r1 := sw6.keep r1 (by omega)
      have r2 := sw6.keep r2 (by omega)
      have r3 := sw6.row
      have zw6 := sw6.size
      have u : Below w.heap.size w w6 := u.trans (sw6.below _ (by omega))
      refine lg_nil (nxb (E' := [(1, _), (2, _), (3, _), (5, _)]) (fk rfl (fk rfl (fk rfl (fk rfl fn)))) ?_)
      refine cg_region ?_
      refine ls (y_move rfl rfl) rfl rfl (by decide) ?_
      refine ls (y_iadd (16 + k) (1) (by omega) rfl rfl rfl) rfl rfl (by decide) ?_
      refine ls (y_assign rfl rfl) rfl rfl (by decide) ?_
      exact lg_nil fun a ha => (show k < 48 ∧ _ from ⟨by omega, ha.keep (fk rfl (fk rfl (fk rfl (fk rfl fn)))), r1, r2, r3, by omega, u⟩)
    · have hge := of_decide_eq_false hge
      obtain rfl : k = 48 := by omega
      refine cg_exit (ex_out ?_)
      refine nx (zk2 2 3 rfl rfl fn) ?_
      refine cg_seq (cg_region ?_)
      refine ls (y_row r3 hu64 (hs64 _) rfl rfl) rfl rfl (by decide) ?_
      refine lg_store_row r2 rfl rfl rfl (hs64 _) (by simp only [cW_size]) (cW_one _ _) rfl rfl fun w5 sw5 => ?_
      have r1 := sw5.keep r1 (by omega)
      have r2 := sw5.row
      have r3 := sw5.keep r3 (by omega)
      have zw5 := sw5.size
      have u : Below w.heap.size w w5 := u.trans (sw5.below _ (by omega))
      refine lg_nil (nx (E' := [(2, _)]) (fk rfl fn) ?_)
      exact ret_row rfl rfl r2 hu64 (hs64 _) ⟨_, rfl, rfl, u⟩
def stepR (h : Nat → BitVec 32) (k s : BitVec 32) : Nat → BitVec 32 :=
  st8 ((h 7 + bigE (h 4) + chw (h 4) (h 5) (h 6) + k + s) + pQ h) (h 0) (h 1) (h 2) (h 3 + (h 7 + bigE (h 4) + chw (h 4) (h 5) (h 6) + k + s)) (h 4) (h 5) (h 6)
theorem stepR_eq (h : Nat → BitVec 32) (k s : BitVec 32) : stepR h k s = stepF h (k + s) := by
  unfold stepR stepF pP
  rw [BitVec.add_assoc (h 7 + bigE (h 4) + chw (h 4) (h 5) (h 6)) k s]
def gR (h V : Nat → BitVec 32) : Nat → Nat → BitVec 32
  | 0 => h
  | i + 1 => upd (gR h V i) i (h i + V i)
theorem gR_eq (h V : Nat → BitVec 32) : ∀ i, i < 8 → gR h V 8 i = (fun i => h i + V i) i := by
  have key : ∀ n i, gR h V n i = if i < n then h i + V i else h i := by
    intro n
    induction n with
    | zero => intro i; simp [gR]
    | succ n ih =>
      intro i
      simp only [gR, upd, ih]
      by_cases e : i = n
      · subst e; simp
      · by_cases l : i < n
        · simp [e, l, show i < n + 1 by omega]
        · simp [e, l, show ¬ i < n + 1 by omega]
  intro i hi
  rw [key, if_pos hi]
theorem rmix_any (h : Nat → BitVec 32) (b : Nat → BitVec 8) (w : World) : Calls Tryz.prog 142 #[.agg (cW 8 h), .agg (cB 64 b)] w fun e w' => ∃ v, e = .returned v ∧ v = .agg (cW 8 (mixF h b)) ∧ Below w.heap.size w w' := by
  refine calls_cg (n := 117) Tryz.func142 rfl Tryz.ntmps142 (by simp) ?_
  show CG _ _ _ [(0, .agg (cW 8 h)), (1, .agg (cB 64 b))] _ _
  have u := Below.refl w.heap.size w
  refine cg_seq (cg_region ?_)
  refine lg_box rfl rfl (hs8 _) rfl rfl (by decide) fun b1 w1 n1 => ?_
  have r1 := n1.row
  have k1 := n1.blk
  have z1 := n1.size
  have u : Below w.heap.size w w1 := u.trans (n1.below.mono u.size)
  refine lg_box rfl rfl (hso _) rfl rfl (by decide) fun b2 w2 n2 => ?_
  have r1 := n2.keep r1
  have r2 := n2.row
  have k2 := n2.blk
  have z2 := n2.size
  have u : Below w.heap.size w w2 := u.trans (n2.below.mono u.size)
  refine lg_alloc rfl hz8 rfl rfl (by decide) fun b3 w3 n3 => ?_
  have r1 := n3.keep r1
  have r2 := n3.keep r2
  have r3 := n3.row
  have k3 := n3.blk
  have z3 := n3.size
  have u : Below w.heap.size w w3 := u.trans (n3.below.mono u.size)
  refine lg_nil (nx (E' := [(2, _), (3, _), (4, _)]) (fk rfl (fk rfl (fk rfl fn))) ?_)
  refine cg_seq (cg_region ?_)
  refine ls (y_row r2 huo (hso _) rfl rfl) rfl rfl (by decide) ?_
  refine lg_call (rspread_any _ _) (by kernel_rfl) rfl rfl rfl rfl (by decide) ?_
  rintro _ w4 ⟨rfl, hw4⟩
  have r1 := r1.below hw4 r1.lt
  have r2 := r2.below hw4 r2.lt
  have r3 := r3.below hw4 r3.lt
  have zw4 := hw4.size
  have u : Below w.heap.size w w4 := u.trans (hw4.mono u.size)
  refine lg_alloc rfl hz64 rfl rfl (by decide) fun b5 w5 n5 => ?_
  have r1 := n5.keep r1
  have r2 := n5.keep r2
  have r3 := n5.keep r3
  have r5 := n5.row
  have k5 := n5.blk
  have z5 := n5.size
  have u : Below w.heap.size w w5 := u.trans (n5.below.mono u.size)
  refine lg_store_row r5 rfl rfl rfl (hs64 _) (by simp only [cW_size]) (cW_one _ _) rfl rfl fun w6 sw6 => ?_
  have r1 := sw6.keep r1 (by omega)
  have r2 := sw6.keep r2 (by omega)
  have r3 := sw6.keep r3 (by omega)
  have r5 := sw6.row
  have zw6 := sw6.size
  have u : Below w.heap.size w w6 := u.trans (sw6.below _ (by omega))
  refine lg_nil (nx (E' := [(2, _), (4, _), (5, _)]) (fk rfl (fk rfl (fk rfl fn))) ?_)
  refine cg_seq (cg_region ?_)
  refine lg_call (rnumbers_any _) (by kernel_rfl) rfl rfl rfl rfl (by decide) ?_
  rintro _ w7 ⟨b7, rfl, r7, k7, hw7⟩
  have r1 := r1.below hw7 r1.lt
  have r2 := r2.below hw7 r2.lt
  have r3 := r3.below hw7 r3.lt
  have r5 := r5.below hw7 r5.lt
  have zw7 := hw7.size
  have k7q := r7.lt
  have u : Below w.heap.size w w7 := u.trans (hw7.mono u.size)
  refine ls (y_assign rfl rfl) rfl rfl (by decide) ?_
  refine lg_nil (nx (E' := [(2, _), (4, _), (5, _), (6, _)]) (fk rfl (fk rfl (fk rfl (fk rfl fn)))) ?_)
  refine cg_seq (cg_region ?_)
  refine ls (y_row r1 hu8 (hs8 _) rfl rfl) rfl rfl (by decide) ?_
  refine lg_alloc rfl hz8 rfl rfl (by decide) fun b8 w8 n8 => ?_
  have r1 := n8.keep r1
  have r2 := n8.keep r2
  have r3 := n8.keep r3
  have r5 := n8.keep r5
  have r7 := n8.keep r7
  have r8 := n8.row
  have k8 := n8.blk
  have z8 := n8.size
  have u : Below w.heap.size w w8 := u.trans (n8.below.mono u.size)
  refine lg_store_row r8 rfl rfl rfl (hs8 _) (by simp only [cW_size]) (cW_one _ _) rfl rfl fun w9 sw9 => ?_
  have r1 := sw9.keep r1 (by omega)
  have r2 := sw9.keep r2 (by omega)
  have r3 := sw9.keep r3 (by omega)
  have r5 := sw9.keep r5 (by omega)
  have r7 := sw9.keep r7 (by omega)
  have r8 := sw9.row
  have zw9 := sw9.size
  have u : Below w.heap.size w w9 := u.trans (sw9.below _ (by omega))
  refine lg_nil (nx (E' := [(2, _), (4, _), (5, _), (6, _), (7, _)]) (fk rfl (fk rfl (fk rfl (fk rfl (fk rfl fn))))) ?_)
  refine cg_seq ?_
  refine cg_seq (cg_region ?_)
  refine ls (y_assign (v := iv 0) rfl rfl) rfl rfl (by decide) ?_
  refine lg_nil (nx (E' := [(2, _), (4, _), (5, _), (6, _), (7, _), (8, _)]) (fk rfl (fk rfl (fk rfl (fk rfl (fk rfl (fk rfl fn)))))) ?_)
  refine cg_block fun a ha => ?_
  refine cg_loop (fun t a v => Holds 117 [(2, pv b1 0), (4, pv b3 0), (5, pv b5 0), (6, .slice (some ⟨b7, 0, none⟩) 64 64), (7, pv b8 0), (8, iv t)] a ∧ RowAt v b1 83 (cW 8 h) ∧ RowAt v b3 83 (cW 8 fun _ => 0) ∧ RowAt v b5 155 (cW 64 (spr b)) ∧ RowAt v b7 82 (cW 64 num) ∧ RowAt v b8 83 (cW 8 (vF h b t)) ∧ v.heap.size = w9.heap.size ∧ Below w.heap.size w v) 64 ⟨ha.keep (fk rfl (fk rfl (fk rfl (fk rfl (fk rfl (fk rfl fn)))))), r1, r3, r5, r7, r8, rfl, u⟩ ?_
  clear a ha
  rintro t a v ht ⟨ha, r1, r3, r5, r7, r8, zv, u⟩
  refine cg_at ha ?_
  clear a ha
  refine cg_seq ?_
  refine cg_seq (cg_region ?_)
  refine ls (y_move rfl rfl) rfl rfl (by decide) ?_
  refine ls (y_ilss (t) (64) rfl rfl rfl) rfl rfl (by decide) ?_
  refine lg_nil (nx (E' := [(2, _), (4, _), (5, _), (6, _), (7, _), (8, _), (20, _)]) (fk rfl (fk rfl (fk rfl (fk rfl (fk rfl (fk rfl (fk rfl fn))))))) ?_)
  refine cg_cond (decide (t < 64)) rfl (fun hlt => ?_) (fun hge => ?_)
  · have hlt : t < 64 := of_decide_eq_true hlt
    refine cg_skip (nx (E' := [(2, _), (4, _), (5, _), (6, _), (7, _), (8, _)]) (fk rfl (fk rfl (fk rfl (fk rfl (fk rfl (fk rfl fn)))))) ?_)
    refine cg_seq (cg_block ?_)
    refine cg_seq (cg_region ?_)
    refine ls (y_ixa (j := 4) hu8 hsw (by omega) rfl rfl rfl) rfl rfl (by decide) ?_
    refine ls (y_cell r8 (cW_get (by omega)) huw rfl rfl) rfl rfl (by decide) ?_
    refine ls (y_assign rfl rfl) rfl rfl (by decide) ?_
    refine lg_nil (nx (E' := [(2, _), (4, _), (5, _), (6, _), (7, _), (8, _), (9, _)]) (fk rfl (fk rfl (fk rfl (fk rfl (fk rfl (fk rfl (fk rfl fn))))))) ?_)
    refine cg_seq (cg_region ?_)
    refine ls (y_ixa (j := 0) hu8 hsw (by omega) rfl rfl rfl) rfl rfl (by decide) ?_
    refine ls (y_cell r8 (cW_get (by omega)) huw rfl rfl) rfl rfl (by decide) ?_
    refine ls (y_assign rfl rfl) rfl rfl (by decide) ?_
    refine lg_nil (nx (E' := [(2, _), (4, _), (5, _), (6, _), (7, _), (8, _), (9, _), (10, _)]) (fk rfl (fk rfl (fk rfl (fk rfl (fk rfl (fk rfl (fk rfl (fk rfl fn)))))))) ?_)
    refine cg_seq (cg_still (by kernel_rfl) (by kernel_rfl) fun W10 hW10 => ?_)
    have r1 := (show RowAt W10 b1 _ _ from by subst hW10; exact r1)
    have r3 := (show RowAt W10 b3 _ _ from by subst hW10; exact r3)
    have r5 := (show RowAt W10 b5 _ _ from by subst hW10; exact r5)
    have r7 := (show RowAt W10 b7 _ _ from by subst hW10; exact r7)
    have r8 := (show RowAt W10 b8 _ _ from by subst hW10; exact r8)
    have zW10 : W10.heap.size = v.heap.size := by subst hW10; rfl
    have u : Below w.heap.size w W10 := by subst hW10; exact u.drew
    clear hW10
    refine st (y_ixa (j := 7) hu8 hsw (by omega) rfl rfl rfl) rfl rfl (by decide) ?_
    refine st (y_cell r8 (cW_get (by omega)) huw rfl rfl) rfl rfl (by decide) ?_
    refine st (y_move rfl rfl) rfl rfl (by decide) ?_
    refine st (y_call (rturned_any _ 6 (by decide) (by decide) _) (by kernel_rfl) rfl rfl) rfl rfl (by decide) ?_
    refine st (y_move rfl rfl) rfl rfl (by decide) ?_
    refine st (y_call (rturned_any _ 11 (by decide) (by decide) _) (by kernel_rfl) rfl rfl) rfl rfl (by decide) ?_
    refine st (y_xor rfl rfl rfl) rfl rfl (by decide) ?_
    refine st (y_move rfl rfl) rfl rfl (by decide) ?_
    refine st (y_call (rturned_any _ 25 (by decide) (by decide) _) (by kernel_rfl) rfl rfl) rfl rfl (by decide) ?_
    refine st (y_xor rfl rfl rfl) rfl rfl (by decide) ?_
    refine st (y_add rfl rfl rfl) rfl rfl (by decide) ?_
    refine st (y_move rfl rfl) rfl rfl (by decide) ?_
    refine st (y_ixa (j := 5) hu8 hsw (by omega) rfl rfl rfl) rfl rfl (by decide) ?_
    refine st (y_cell r8 (cW_get (by omega)) huw rfl rfl) rfl rfl (by decide) ?_
    refine st (y_and rfl rfl rfl) rfl rfl (by decide) ?_
    refine st (y_move rfl rfl) rfl rfl (by decide) ?_
    refine st (y_not rfl rfl) rfl rfl (by decide) ?_
    refine st (y_ixa (j := 6) hu8 hsw (by omega) rfl rfl rfl) rfl rfl (by decide) ?_
    refine st (y_cell r8 (cW_get (by omega)) huw rfl rfl) rfl rfl (by decide) ?_
    refine st (y_and rfl rfl rfl) rfl rfl (by decide) ?_
    refine st (y_or rfl rfl rfl) rfl rfl (by decide) ?_
    refine st (y_add rfl rfl rfl) rfl rfl (by decide) ?_
    refine st (y_move rfl rfl) rfl rfl (by decide) ?_
    refine st (y_move rfl rfl) rfl rfl (by decide) ?_
    refine st (y_ixs (j := t) hus hsw (by omega) rfl rfl rfl) rfl rfl (by decide) ?_
    refine st (y_cell r7 (cW_get (by omega)) huw rfl rfl) rfl rfl (by decide) ?_
    refine st (y_add rfl rfl rfl) rfl rfl (by decide) ?_
    refine st (y_move rfl rfl) rfl rfl (by decide) ?_
    refine st (y_ixa (j := t) hu64 hsw (by omega) rfl rfl rfl) rfl rfl (by decide) ?_
    refine st (y_cell r5 (cW_get (by omega)) huw rfl rfl) rfl rfl (by decide) ?_
    refine st (y_add rfl rfl rfl) rfl rfl (by decide) ?_
    refine st (y_assign rfl rfl) rfl rfl (by decide) ?_
    refine sg_nil (nx (E' := [(2, _), (4, _), (5, _), (6, _), (7, _), (8, _), (10, _), (11, _)]) (fk rfl (fk rfl (fk rfl (fk rfl (fk rfl (fk rfl (fk rfl (fk rfl fn)))))))) ?_)
    refine cg_seq (cg_still (by kernel_rfl) (by kernel_rfl) fun W11 hW11 => ?_)
    have r1 := (show RowAt W11 b1 _ _ from by subst hW11; exact r1)
    have r3 := (show RowAt W11 b3 _ _ from by subst hW11; exact r3)
    have r5 := (show RowAt W11 b5 _ _ from by subst hW11; exact r5)
    have r7 := (show RowAt W11 b7 _ _ from by subst hW11; exact r7)
    have r8 := (show RowAt W11 b8 _ _ from by subst hW11; exact r8)
    have zW11 : W11.heap.size = W10.heap.size := by subst hW11; rfl
    have u : Below w.heap.size w W11 := by subst hW11; exact u.drew
    clear hW11
    refine st (y_move rfl rfl) rfl rfl (by decide) ?_
    refine st (y_call (rturned_any _ 2 (by decide) (by decide) _) (by kernel_rfl) rfl rfl) rfl rfl (by decide) ?_
    refine st (y_move rfl rfl) rfl rfl (by decide) ?_
    refine st (y_call (rturned_any _ 13 (by decide) (by decide) _) (by kernel_rfl) rfl rfl) rfl rfl (by decide) ?_
    refine st (y_xor rfl rfl rfl) rfl rfl (by decide) ?_
    refine st (y_move rfl rfl) rfl rfl (by decide) ?_
    refine st (y_call (rturned_any _ 22 (by decide) (by decide) _) (by kernel_rfl) rfl rfl) rfl rfl (by decide) ?_
    refine st (y_xor rfl rfl rfl) rfl rfl (by decide) ?_
    refine st (y_move rfl rfl) rfl rfl (by decide) ?_
    refine st (y_ixa (j := 1) hu8 hsw (by omega) rfl rfl rfl) rfl rfl (by decide) ?_
    refine st (y_cell r8 (cW_get (by omega)) huw rfl rfl) rfl rfl (by decide) ?_
    refine st (y_and rfl rfl rfl) rfl rfl (by decide) ?_
    refine st (y_move rfl rfl) rfl rfl (by decide) ?_
    refine st (y_ixa (j := 2) hu8 hsw (by omega) rfl rfl rfl) rfl rfl (by decide) ?_
    refine st (y_cell r8 (cW_get (by omega)) huw rfl rfl) rfl rfl (by decide) ?_
    refine st (y_and rfl rfl rfl) rfl rfl (by decide) ?_
    refine st (y_or rfl rfl rfl) rfl rfl (by decide) ?_
    refine st (y_ixa (j := 1) hu8 hsw (by omega) rfl rfl rfl) rfl rfl (by decide) ?_
    refine st (y_cell r8 (cW_get (by omega)) huw rfl rfl) rfl rfl (by decide) ?_
    refine st (y_ixa (j := 2) hu8 hsw (by omega) rfl rfl rfl) rfl rfl (by decide) ?_
    refine st (y_cell r8 (cW_get (by omega)) huw rfl rfl) rfl rfl (by decide) ?_
    refine st (y_and rfl rfl rfl) rfl rfl (by decide) ?_
    refine st (y_or rfl rfl rfl) rfl rfl (by decide) ?_
    refine st (y_add rfl rfl rfl) rfl rfl (by decide) ?_
    refine st (y_assign rfl rfl) rfl rfl (by decide) ?_
    refine sg_nil (nx (E' := [(2, _), (4, _), (5, _), (6, _), (7, _), (8, _), (11, _), (12, _)]) (fk rfl (fk rfl (fk rfl (fk rfl (fk rfl (fk rfl (fk rfl (fk rfl fn)))))))) ?_)
    refine cg_region ?_
    refine ls (y_move rfl rfl) rfl rfl (by decide) ?_
    refine ls (y_move rfl rfl) rfl rfl (by decide) ?_
    refine ls (y_add rfl rfl rfl) rfl rfl (by decide) ?_
    refine ls (y_ixa (j := 0) hu8 hsw (by omega) rfl rfl rfl) rfl rfl (by decide) ?_
    refine ls (y_cell r8 (cW_get (by omega)) huw rfl rfl) rfl rfl (by decide) ?_
    refine ls (y_ixa (j := 1) hu8 hsw (by omega) rfl rfl rfl) rfl rfl (by decide) ?_
    refine ls (y_cell r8 (cW_get (by omega)) huw rfl rfl) rfl rfl (by decide) ?_
    refine ls (y_ixa (j := 2) hu8 hsw (by omega) rfl rfl rfl) rfl rfl (by decide) ?_
    refine ls (y_cell r8 (cW_get (by omega)) huw rfl rfl) rfl rfl (by decide) ?_
    refine ls (y_ixa (j := 3) hu8 hsw (by omega) rfl rfl rfl) rfl rfl (by decide) ?_
    refine ls (y_cell r8 (cW_get (by omega)) huw rfl rfl) rfl rfl (by decide) ?_
    refine ls (y_move rfl rfl) rfl rfl (by decide) ?_
    refine ls (y_add rfl rfl rfl) rfl rfl (by decide) ?_
    refine ls (y_ixa (j := 4) hu8 hsw (by omega) rfl rfl rfl) rfl rfl (by decide) ?_
    refine ls (y_cell r8 (cW_get (by omega)) huw rfl rfl) rfl rfl (by decide) ?_
    refine ls (y_ixa (j := 5) hu8 hsw (by omega) rfl rfl rfl) rfl rfl (by decide) ?_
    refine ls (y_cell r8 (cW_get (by omega)) huw rfl rfl) rfl rfl (by decide) ?_
    refine ls (y_ixa (j := 6) hu8 hsw (by omega) rfl rfl rfl) rfl rfl (by decide) ?_
    refine ls (y_cell r8 (cW_get (by omega)) huw rfl rfl) rfl rfl (by decide) ?_
    refine ls (y_build (cs := cW 8 (stepR (vF h b t) (num t) (spr b t))) rfl rfl (by kernel_rfl)) rfl rfl (by decide) ?_
    refine lg_store_row r8 rfl rfl rfl (hs8 _) (by simp only [cW_size]) (cW_one _ _) rfl rfl fun w12 sw12 => ?_
    have r1 := sw12.keep r1 (by omega)
    have r3 := sw12.keep r3 (by omega)
    have r5 := sw12.keep r5 (by omega)
    have r7 := sw12.keep r7 (by omega)
    have r8 := sw12.row
    have zw12 := sw12.size
    have u : Below w.heap.size w w12 := u.trans (sw12.below _ (by omega))
    rw [stepR_eq] at r8
    refine lg_nil (nxb (E' := [(2, _), (4, _), (5, _), (6, _), (7, _), (8, _)]) (fk rfl (fk rfl (fk rfl (fk rfl (fk rfl (fk rfl fn)))))) ?_)
    refine cg_region ?_
    refine ls (y_move rfl rfl) rfl rfl (by decide) ?_
    refine ls (y_iadd (t) (1) (by omega) rfl rfl rfl) rfl rfl (by decide) ?_
    refine ls (y_assign rfl rfl) rfl rfl (by decide) ?_
    exact lg_nil fun a ha => (show t < 64 ∧ _ from ⟨hlt, ha.keep (fk rfl (fk rfl (fk rfl (fk rfl (fk rfl (fk rfl fn)))))), r1, r3, r5, r7, r8, by omega, u⟩)
  · have hge := of_decide_eq_false hge
    obtain rfl : t = 64 := by omega
    refine cg_exit (ex_out ?_)
    refine nx (zk3 2 4 7 rfl rfl rfl fn) ?_
    refine cg_seq (cg_region ?_)
    refine ls (y_row r1 hu8 (hs8 _) rfl rfl) rfl rfl (by decide) ?_
    refine lg_alloc rfl hz8 rfl rfl (by decide) fun b10 w10 n10 => ?_
    have r1 := n10.keep r1
    have r3 := n10.keep r3
    have r5 := n10.keep r5
    have r7 := n10.keep r7
    have r8 := n10.keep r8
    have r10 := n10.row
    have k10 := n10.blk
    have z10 := n10.size
    have u : Below w.heap.size w w10 := u.trans (n10.below.mono u.size)
    refine lg_store_row r10 rfl rfl rfl (hs8 _) (by simp only [cW_size]) (cW_one _ _) rfl rfl fun w11 sw11 => ?_
    have r1 := sw11.keep r1 (by omega)
    have r3 := sw11.keep r3 (by omega)
    have r5 := sw11.keep r5 (by omega)
    have r7 := sw11.keep r7 (by omega)
    have r8 := sw11.keep r8 (by omega)
    have r10 := sw11.row
    have zw11 := sw11.size
    have u : Below w.heap.size w w11 := u.trans (sw11.below _ (by omega))
    refine lg_nil (nx (E' := [(2, _), (4, _), (7, _), (13, _)]) (fk rfl (fk rfl (fk rfl (fk rfl fn)))) ?_)
    refine cg_seq ?_
    refine cg_seq (cg_region ?_)
    refine ls (y_assign (v := iv 0) rfl rfl) rfl rfl (by decide) ?_
    refine lg_nil (nx (E' := [(2, _), (4, _), (7, _), (13, _), (14, _)]) (fk rfl (fk rfl (fk rfl (fk rfl (fk rfl fn))))) ?_)
    clear ht hge
    have zq := zv
    clear zv
    have zr : w11.heap.size = w11.heap.size := rfl
    refine cg_block fun a ha => ?_
    refine cg_loop (fun i a v => Holds 117 [(2, pv b1 0), (4, pv b3 0), (7, pv b8 0), (13, pv b10 0), (14, iv i)] a ∧ RowAt v b1 83 (cW 8 h) ∧ RowAt v b3 83 (cW 8 fun _ => 0) ∧ RowAt v b8 83 (cW 8 (vF h b 64)) ∧ RowAt v b10 83 (cW 8 (gR h (vF h b 64) i)) ∧ v.heap.size = w11.heap.size ∧ Below w.heap.size w v) 8 ⟨ha.keep (fk rfl (fk rfl (fk rfl (fk rfl (fk rfl fn))))), r1, r3, r8, r10, rfl, u⟩ ?_
    clear a ha
    rintro i a v ht ⟨ha, r1, r3, r8, r10, zv, u⟩
    refine cg_at ha ?_
    clear a ha
    refine cg_seq ?_
    refine cg_seq (cg_region ?_)
    refine ls (y_move rfl rfl) rfl rfl (by decide) ?_
    refine ls (y_ilss (i) (8) rfl rfl rfl) rfl rfl (by decide) ?_
    refine lg_nil (nx (E' := [(2, _), (4, _), (7, _), (13, _), (14, _), (104, _)]) (fk rfl (fk rfl (fk rfl (fk rfl (fk rfl (fk rfl fn)))))) ?_)
    refine cg_cond (decide (i < 8)) rfl (fun hlt => ?_) (fun hge => ?_)
    · have hlt : i < 8 := of_decide_eq_true hlt
      refine cg_skip (nx (E' := [(2, _), (4, _), (7, _), (13, _), (14, _)]) (fk rfl (fk rfl (fk rfl (fk rfl (fk rfl fn))))) ?_)
      refine cg_seq (cg_block ?_)
      refine cg_tail 9 (by kernel_rfl) (by kernel_rfl) fun W12 hW12 => ?_
      have r1 := (show RowAt W12 b1 _ _ from by subst hW12; exact r1)
      have r3 := (show RowAt W12 b3 _ _ from by subst hW12; exact r3)
      have r8 := (show RowAt W12 b8 _ _ from by subst hW12; exact r8)
      have r10 := (show RowAt W12 b10 _ _ from by subst hW12; exact r10)
      have zW12 : W12.heap.size = v.heap.size := by subst hW12; rfl
      have u : Below w.heap.size w W12 := by subst hW12; exact u.drew
      clear hW12
      simp only [List.take_succ_cons, List.take_zero, List.drop_succ_cons, List.drop_zero]
      refine st (y_move rfl rfl) rfl rfl (by decide) ?_
      refine st (y_move rfl rfl) rfl rfl (by decide) ?_
      refine st (y_ixa (j := i) hu8 hsw (by omega) rfl rfl rfl) rfl rfl (by decide) ?_
      refine st (y_cell r1 (cW_get (by omega)) huw rfl rfl) rfl rfl (by decide) ?_
      refine st (y_move rfl rfl) rfl rfl (by decide) ?_
      refine st (y_ixa (j := i) hu8 hsw (by omega) rfl rfl rfl) rfl rfl (by decide) ?_
      refine st (y_cell r8 (cW_get (by omega)) huw rfl rfl) rfl rfl (by decide) ?_
      refine st (y_add rfl rfl rfl) rfl rfl (by decide) ?_
      refine st (y_ixa (j := i) hu8 hsw (by omega) rfl rfl rfl) rfl rfl (by decide) ?_
      refine sg_lg ?_
      refine lg_store r10 (by rw [cW_size]; omega) rfl rfl rfl rfl hsw rfl rfl fun w13 sw13 => ?_
      rw [cW_set] at sw13
      have r1 := sw13.keep r1 (by omega)
      have r3 := sw13.keep r3 (by omega)
      have r8 := sw13.keep r8 (by omega)
      have r10 := sw13.row
      have zw13 := sw13.size
      have u : Below w.heap.size w w13 := u.trans (sw13.below _ (by omega))
      refine lg_nil (nxb (E' := [(2, _), (4, _), (7, _), (13, _), (14, _)]) (fk rfl (fk rfl (fk rfl (fk rfl (fk rfl fn))))) ?_)
      refine cg_region ?_
      refine ls (y_move rfl rfl) rfl rfl (by decide) ?_
      refine ls (y_iadd (i) (1) (by omega) rfl rfl rfl) rfl rfl (by decide) ?_
      refine ls (y_assign rfl rfl) rfl rfl (by decide) ?_
      exact lg_nil fun a ha => (show i < 8 ∧ _ from ⟨hlt, ha.keep (fk rfl (fk rfl (fk rfl (fk rfl (fk rfl fn))))), r1, r3, r8, r10, by omega, u⟩)
    · have hge := of_decide_eq_false hge
      obtain rfl : i = 8 := by omega
      refine cg_exit (ex_out ?_)
      refine nx (zk2 4 13 rfl rfl fn) ?_
      refine cg_seq (cg_region ?_)
      refine ls (y_row r10 hu8 (hs8 _) rfl rfl) rfl rfl (by decide) ?_
      refine lg_store_row r3 rfl rfl rfl (hs8 _) (by simp only [cW_size]) (cW_one _ _) rfl rfl fun w12 sw12 => ?_
      have r1 := sw12.keep r1 (by omega)
      have r3 := sw12.row
      have r8 := sw12.keep r8 (by omega)
      have r10 := sw12.keep r10 (by omega)
      have zw12 := sw12.size
      have u : Below w.heap.size w w12 := u.trans (sw12.below _ (by omega))
      refine lg_nil (nx (E' := [(4, _)]) (fk rfl fn) ?_)
      rw [cW_ext (gR_eq h (vF h b 64))] at r3
      exact ret_row rfl rfl r3 hu8 (hs8 _) ⟨_, rfl, rfl, u⟩
end Go.Proofs.YtkcpmpbjjnknhaaGreatDoor
