/-
  The contract of Spread.
-/
import Derived.Test.YtkcpmpbjjnknhaaGreatDoorBlRule
namespace Go.Proofs.YtkcpmpbjjnknhaaGreatDoor
open Go.ChangeShapes Go.WideShapes Go.ChangeAt Go.RowKit
set_option linter.unusedVariables false
set_option maxRecDepth 20000
theorem spread_any (b : Nat → BitVec 8) (w : World) : Calls Tryz.prog 160 #[.agg (cB 64 b)] w fun e w' => ∃ v, e = .returned v ∧ v = .agg (cW 64 (spr b)) ∧ Below w.heap.size w w' := by
  refine calls_cg (n := 76) Tryz.func160 rfl Tryz.ntmps160 (by simp) ?_
  show CG _ _ _ [(0, .agg (cB 64 b))] _ _
  have u := Below.refl w.heap.size w
  refine cg_seq (cg_region ?_)
  refine lg_box rfl rfl (hso _) rfl rfl (by decide) fun b1 w1 n1 => ?_
  have r1 := n1.row
  have k1 := n1.blk
  have z1 := n1.size
  have u : Below w.heap.size w w1 := u.trans (n1.below.mono u.size)
  refine lg_alloc rfl hz64 rfl rfl (by decide) fun b2 w2 n2 => ?_
  have r1 := n2.keep r1
  have r2 := n2.row
  have k2 := n2.blk
  have z2 := n2.size
  have u : Below w.heap.size w w2 := u.trans (n2.below.mono u.size)
  refine lg_nil (nx (E' := [(1, _), (2, _)]) (fk rfl (fk rfl fn)) ?_)
  refine cg_seq (cg_region ?_)
  refine lg_alloc rfl hz64 rfl rfl (by decide) fun b3 w3 n3 => ?_
  have r1 := n3.keep r1
  have r2 := n3.keep r2
  have r3 := n3.row
  have k3 := n3.blk
  have z3 := n3.size
  have u : Below w.heap.size w w3 := u.trans (n3.below.mono u.size)
  refine lg_nil (nx (E' := [(1, _), (2, _), (3, _)]) (fk rfl (fk rfl (fk rfl fn))) ?_)
  refine cg_seq ?_
  refine cg_seq (cg_region ?_)
  refine ls (y_move (v := iv 0) rfl rfl) rfl rfl (by decide) ?_
  refine lg_nil (nx (E' := [(1, _), (2, _), (3, _), (8, _)]) (fk rfl (fk rfl (fk rfl (fk rfl fn)))) ?_)
  refine cg_block fun a ha => ?_
  refine cg_loop (fun t a v => Holds 76 [(1, pv b1 0), (2, pv b2 0), (3, pv b3 0), (8, iv t)] a ∧ RowAt v b1 138 (cB 64 b) ∧ RowAt v b2 155 (cW 64 fun _ => 0) ∧ RowAt v b3 155 (cW 64 (head b t)) ∧ v.heap.size = w3.heap.size ∧ Below w.heap.size w v) 16 ⟨ha.keep (fk rfl (fk rfl (fk rfl (fk rfl fn)))), r1, r2, r3, rfl, u⟩ ?_
  clear a ha
  rintro t a v ht ⟨ha, r1, r2, r3, zv, u⟩
  refine cg_at ha ?_
  clear a ha
  refine cg_seq (cg_region ?_)
  refine ls (y_ilss (t) (16) rfl rfl rfl) rfl rfl (by decide) ?_
  refine lg_nil (nx (E' := [(1, _), (2, _), (3, _), (8, _), (9, _)]) (fk rfl (fk rfl (fk rfl (fk rfl (fk rfl fn))))) ?_)
  refine cg_seq (cg_cond (decide (t < 16)) rfl (fun hlt => ?_) (fun hge => ?_))
  · have hlt : t < 16 := of_decide_eq_true hlt
    refine cg_skip (nx (E' := [(1, _), (2, _), (3, _), (8, _)]) (fk rfl (fk rfl (fk rfl (fk rfl fn)))) ?_)
    refine cg_seq (cg_block ?_)
    refine cg_seq (cg_region ?_)
    refine ls (y_move rfl rfl) rfl rfl (by decide) ?_
    refine ls (y_assign rfl rfl) rfl rfl (by decide) ?_
    refine lg_nil (nx (E' := [(1, _), (2, _), (3, _), (4, _), (8, _)]) (fk rfl (fk rfl (fk rfl (fk rfl (fk rfl fn))))) ?_)
    refine cg_tail 22 (by kernel_rfl) (by kernel_rfl) fun W4 hW4 => ?_
    have r1 := (show RowAt W4 b1 _ _ from by subst hW4; exact r1)
    have r2 := (show RowAt W4 b2 _ _ from by subst hW4; exact r2)
    have r3 := (show RowAt W4 b3 _ _ from by subst hW4; exact r3)
    have zW4 : W4.heap.size = v.heap.size := by subst hW4; rfl
    have u : Below w.heap.size w W4 := by subst hW4; exact u.drew
    clear hW4
    simp only [List.take_succ_cons, List.take_zero, List.drop_succ_cons, List.drop_zero]
    refine st (y_move rfl rfl) rfl rfl (by decide) ?_
    refine st (y_move rfl rfl) rfl rfl (by decide) ?_
    refine st (y_imul (4) (t) (by omega) rfl rfl rfl) rfl rfl (by decide) ?_
    refine st (y_ixa (j := 4 * t) huo hsb (by omega) rfl rfl rfl) rfl rfl (by decide) ?_
    refine st (y_cell r1 (cB_get (by omega)) hub rfl rfl) rfl rfl (by decide) ?_
    refine st (y_move rfl rfl) rfl rfl (by decide) ?_
    refine st (y_imul (4) (t) (by omega) rfl rfl rfl) rfl rfl (by decide) ?_
    refine st (y_iadd (4 * t) (1) (by omega) rfl rfl rfl) rfl rfl (by decide) ?_
    refine st (y_ixa (j := (4 * t) + 1) huo hsb (by omega) rfl rfl rfl) rfl rfl (by decide) ?_
    refine st (y_cell r1 (cB_get (by omega)) hub rfl rfl) rfl rfl (by decide) ?_
    refine st (y_move rfl rfl) rfl rfl (by decide) ?_
    refine st (y_imul (4) (t) (by omega) rfl rfl rfl) rfl rfl (by decide) ?_
    refine st (y_iadd (4 * t) (2) (by omega) rfl rfl rfl) rfl rfl (by decide) ?_
    refine st (y_ixa (j := (4 * t) + 2) huo hsb (by omega) rfl rfl rfl) rfl rfl (by decide) ?_
    refine st (y_cell r1 (cB_get (by omega)) hub rfl rfl) rfl rfl (by decide) ?_
    refine st (y_move rfl rfl) rfl rfl (by decide) ?_
    refine st (y_imul (4) (t) (by omega) rfl rfl rfl) rfl rfl (by decide) ?_
    refine st (y_iadd (4 * t) (3) (by omega) rfl rfl rfl) rfl rfl (by decide) ?_
    refine st (y_ixa (j := (4 * t) + 3) huo hsb (by omega) rfl rfl rfl) rfl rfl (by decide) ?_
    refine st (y_cell r1 (cB_get (by omega)) hub rfl rfl) rfl rfl (by decide) ?_
    refine st (y_call (word_any _ _ _ _ _) (by kernel_rfl) rfl rfl) rfl rfl (by decide) ?_
    refine st (y_ixa (j := t) hu64 hsw (by omega) rfl rfl rfl) rfl rfl (by decide) ?_
    refine sg_lg ?_
    refine lg_store r3 (by rw [cW_size]; omega) rfl rfl rfl rfl hsw rfl rfl fun w5 sw5 => ?_
    rw [cW_set] at sw5
    have r1 := sw5.keep r1 (by omega)
    have r2 := sw5.keep r2 (by omega)
    have r3 := sw5.row
    have zw5 := sw5.size
    have u : Below w.heap.size w w5 := u.trans (sw5.below _ (by omega))
    refine lg_nil (nxb (E' := [(1, _), (2, _), (3, _), (8, _)]) (fk rfl (fk rfl (fk rfl (fk rfl fn)))) ?_)
    refine cg_region ?_
    refine ls (y_iadd (t) (1) (by omega) rfl rfl rfl) rfl rfl (by decide) ?_
    refine ls (y_move rfl rfl) rfl rfl (by decide) ?_
    exact lg_nil fun a ha => (show t < 16 ∧ _ from ⟨hlt, ha.keep (fk rfl (fk rfl (fk rfl (fk rfl fn)))), r1, r2, r3, by omega, u⟩)
  · have hge := of_decide_eq_false hge
    obtain rfl : t = 16 := by omega
    refine cg_exit (ex_out ?_)
    refine nx (zk3 1 2 3 rfl rfl rfl fn) ?_
    refine cg_seq ?_
    refine cg_seq (cg_region ?_)
    refine ls (y_assign (v := iv 16) rfl rfl) rfl rfl (by decide) ?_
    refine lg_nil (nx (E' := [(1, _), (2, _), (3, _), (5, _)]) (fk rfl (fk rfl (fk rfl (fk rfl fn)))) ?_)
    clear ht hge
    have zq := zv
    clear zv
    refine cg_block fun a ha => ?_
    refine cg_loop (fun k a v => Holds 76 [(1, pv b1 0), (2, pv b2 0), (3, pv b3 0), (5, iv (16 + k))] a ∧ RowAt v b1 138 (cB 64 b) ∧ RowAt v b2 155 (cW 64 fun _ => 0) ∧ RowAt v b3 155 (cW 64 (tailF b k)) ∧ v.heap.size = w3.heap.size ∧ Below w.heap.size w v) 48 ⟨ha.keep (fk rfl (fk rfl (fk rfl (fk rfl fn)))), r1, r2, r3, zq, u⟩ ?_
    clear a ha
    rintro k a v ht ⟨ha, r1, r2, r3, zv, u⟩
    refine cg_at ha ?_
    clear a ha
    refine cg_seq ?_
    refine cg_seq (cg_region ?_)
    refine ls (y_move rfl rfl) rfl rfl (by decide) ?_
    refine ls (y_ilss (16 + k) (64) rfl rfl rfl) rfl rfl (by decide) ?_
    refine lg_nil (nx (E' := [(1, _), (2, _), (3, _), (5, _), (35, _)]) (fk rfl (fk rfl (fk rfl (fk rfl (fk rfl fn))))) ?_)
    refine cg_cond (decide (16 + k < 64)) rfl (fun hlt => ?_) (fun hge => ?_)
    · have hlt : 16 + k < 64 := of_decide_eq_true hlt
      refine cg_skip (nx (E' := [(1, _), (2, _), (3, _), (5, _)]) (fk rfl (fk rfl (fk rfl (fk rfl fn)))) ?_)
      refine cg_seq (cg_block ?_)
      refine cg_seq (cg_still (by kernel_rfl) (by kernel_rfl) fun W4 hW4 => ?_)
      have r1 := (show RowAt W4 b1 _ _ from by subst hW4; exact r1)
      have r2 := (show RowAt W4 b2 _ _ from by subst hW4; exact r2)
      have r3 := (show RowAt W4 b3 _ _ from by subst hW4; exact r3)
      have zW4 : W4.heap.size = v.heap.size := by subst hW4; rfl
      have u : Below w.heap.size w W4 := by subst hW4; exact u.drew
      clear hW4
      refine st (y_move rfl rfl) rfl rfl (by decide) ?_
      refine st (y_isub (16 + k) (15) (by omega) (by omega) rfl rfl rfl) rfl rfl (by decide) ?_
      refine st (y_ixa (j := (16 + k) - 15) hu64 hsw (by omega) rfl rfl rfl) rfl rfl (by decide) ?_
      refine st (y_cell r3 (cW_get (by omega)) huw rfl rfl) rfl rfl (by decide) ?_
      refine st (y_move rfl rfl) rfl rfl (by decide) ?_
      refine st (y_isub (16 + k) (2) (by omega) (by omega) rfl rfl rfl) rfl rfl (by decide) ?_
      refine st (y_ixa (j := (16 + k) - 2) hu64 hsw (by omega) rfl rfl rfl) rfl rfl (by decide) ?_
      refine st (y_cell r3 (cW_get (by omega)) huw rfl rfl) rfl rfl (by decide) ?_
      refine st (y_assign rfl rfl) rfl rfl (by decide) ?_
      refine st (y_assign rfl rfl) rfl rfl (by decide) ?_
      refine sg_nil (nx (E' := [(1, _), (2, _), (3, _), (5, _), (6, _), (7, _)]) (fk rfl (fk rfl (fk rfl (fk rfl (fk rfl (fk rfl fn)))))) ?_)
      refine cg_tail 29 (by kernel_rfl) (by kernel_rfl) fun W5 hW5 => ?_
      have r1 := (show RowAt W5 b1 _ _ from by subst hW5; exact r1)
      have r2 := (show RowAt W5 b2 _ _ from by subst hW5; exact r2)
      have r3 := (show RowAt W5 b3 _ _ from by subst hW5; exact r3)
      have zW5 : W5.heap.size = W4.heap.size := by subst hW5; rfl
      have u : Below w.heap.size w W5 := by subst hW5; exact u.drew
      clear hW5
      simp only [List.take_succ_cons, List.take_zero, List.drop_succ_cons, List.drop_zero]
      refine st (y_move rfl rfl) rfl rfl (by decide) ?_
      refine st (y_move rfl rfl) rfl rfl (by decide) ?_
      refine st (y_isub (16 + k) (16) (by omega) (by omega) rfl rfl rfl) rfl rfl (by decide) ?_
      refine st (y_ixa (j := (16 + k) - 16) hu64 hsw (by omega) rfl rfl rfl) rfl rfl (by decide) ?_
      refine st (y_cell r3 (cW_get (by omega)) huw rfl rfl) rfl rfl (by decide) ?_
      refine st (y_move rfl rfl) rfl rfl (by decide) ?_
      refine st (y_call (turned_any _ 7 (by decide) (by decide) _) (by kernel_rfl) rfl rfl) rfl rfl (by decide) ?_
      refine st (y_move rfl rfl) rfl rfl (by decide) ?_
      refine st (y_call (turned_any _ 18 (by decide) (by decide) _) (by kernel_rfl) rfl rfl) rfl rfl (by decide) ?_
      refine st (y_xor rfl rfl rfl) rfl rfl (by decide) ?_
      refine st (y_move rfl rfl) rfl rfl (by decide) ?_
      refine st (y_shr (3) .u64 (by first | decide | omega) rfl rfl rfl) rfl rfl (by decide) ?_
      refine st (y_xor rfl rfl rfl) rfl rfl (by decide) ?_
      refine st (y_add rfl rfl rfl) rfl rfl (by decide) ?_
      refine st (y_move rfl rfl) rfl rfl (by decide) ?_
      refine st (y_isub (16 + k) (7) (by omega) (by omega) rfl rfl rfl) rfl rfl (by decide) ?_
      refine st (y_ixa (j := (16 + k) - 7) hu64 hsw (by omega) rfl rfl rfl) rfl rfl (by decide) ?_
      refine st (y_cell r3 (cW_get (by omega)) huw rfl rfl) rfl rfl (by decide) ?_
      refine st (y_add rfl rfl rfl) rfl rfl (by decide) ?_
      refine st (y_move rfl rfl) rfl rfl (by decide) ?_
      refine st (y_call (turned_any _ 17 (by decide) (by decide) _) (by kernel_rfl) rfl rfl) rfl rfl (by decide) ?_
      refine st (y_move rfl rfl) rfl rfl (by decide) ?_
      refine st (y_call (turned_any _ 19 (by decide) (by decide) _) (by kernel_rfl) rfl rfl) rfl rfl (by decide) ?_
      refine st (y_xor rfl rfl rfl) rfl rfl (by decide) ?_
      refine st (y_move rfl rfl) rfl rfl (by decide) ?_
      refine st (y_shr (10) .u64 (by first | decide | omega) rfl rfl rfl) rfl rfl (by decide) ?_
      refine st (y_xor rfl rfl rfl) rfl rfl (by decide) ?_
      refine st (y_add rfl rfl rfl) rfl rfl (by decide) ?_
      refine st (y_ixa (j := 16 + k) hu64 hsw (by omega) rfl rfl rfl) rfl rfl (by decide) ?_
      refine sg_lg ?_
      refine lg_store r3 (by rw [cW_size]; omega) rfl rfl rfl rfl hsw rfl rfl fun w6 sw6 => ?_
      rw [cW_set] at sw6
      have r1 := sw6.keep r1 (by omega)
      have r2 := sw6.keep r2 (by omega)
      have r3 := sw6.row
      have zw6 := sw6.size
      have u : Below w.heap.size w w6 := u.trans (sw6.below _ (by omega))
      refine lg_nil (nxb (E' := [(1, _), (2, _), (3, _), (5, _)]) (fk rfl (fk rfl (fk rfl (fk rfl fn)))) ?_)
      refine cg_region ?_
      refine ls (y_move rfl rfl) rfl rfl (by decide) ?_
      refine ls (y_iadd (16 + k) (1) (by omega) rfl rfl rfl) rfl rfl (by decide) ?_
      refine ls (y_assign rfl rfl) rfl rfl (by decide) ?_
      exact lg_nil fun a ha => (show k < 48 ∧ _ from ⟨by omega, ha.keep (fk rfl (fk rfl (fk rfl (fk rfl fn)))), r1, r2, r3, by omega, u⟩)
    · have hge := of_decide_eq_false hge
      obtain rfl : k = 48 := by omega
      refine cg_exit (ex_out ?_)
      refine nx (zk2 2 3 rfl rfl fn) ?_
      refine cg_seq (cg_region ?_)
      refine ls (y_row r3 hu64 (hs64 _) rfl rfl) rfl rfl (by decide) ?_
      refine lg_store_row r2 rfl rfl rfl (hs64 _) (by rw [cW_size, cW_size]) (cW_one _ _) rfl rfl fun w4 sw4 => ?_
      have r1 := sw4.keep r1 (by omega)
      have r2 := sw4.row
      have r3 := sw4.keep r3 (by omega)
      have zw4 := sw4.size
      have u : Below w.heap.size w w4 := u.trans (sw4.below _ (by omega))
      refine lg_nil (nx (E' := [(2, _)]) (fk rfl fn) ?_)
      exact ret_row rfl rfl r2 hu64 (hs64 _) ⟨_, rfl, rfl, u⟩
end Go.Proofs.YtkcpmpbjjnknhaaGreatDoor
