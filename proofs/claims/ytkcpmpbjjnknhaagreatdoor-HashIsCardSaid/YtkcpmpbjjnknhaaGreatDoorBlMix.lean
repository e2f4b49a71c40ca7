/-
  The contract of Mix.
-/
import Derived.Test.YtkcpmpbjjnknhaaGreatDoorBlRule
import Derived.Test.YtkcpmpbjjnknhaaGreatDoorBlStep
import Derived.Test.YtkcpmpbjjnknhaaGreatDoorBlSpread
namespace Go.Proofs.YtkcpmpbjjnknhaaGreatDoor
open Go.ChangeShapes Go.WideShapes Go.ChangeAt Go.RowKit
set_option linter.unusedVariables false
set_option maxRecDepth 20000
def gF (h V : Nat → BitVec 32) : Nat → Nat → BitVec 32
  | 0 => h
  | i + 1 => upd (gF h V i) i (gF h V i i + V i)
theorem gF_eq (h V : Nat → BitVec 32) : ∀ i, i < 8 → gF h V 8 i = (fun i => h i + V i) i := by
  have key : ∀ n i, gF h V n i = if i < n then h i + V i else h i := by
    intro n
    induction n with
    | zero => intro i; simp [gF]
    | succ n ih =>
      intro i
      simp only [gF, upd, ih]
      by_cases e : i = n
      · subst e; simp
      · by_cases l : i < n
        · simp [e, l, show i < n + 1 by omega]
        · simp [e, l, show ¬ i < n + 1 by omega]
  intro i hi
  rw [key, if_pos hi]
theorem mix_any (h : Nat → BitVec 32) (b : Nat → BitVec 8) (w : World) {tg : TypeId} (rg : RowAt w 0 tg (cW 64 num)) : Calls Tryz.prog 137 #[.agg (cW 8 h), .agg (cB 64 b)] w fun e w' => ∃ v, e = .returned v ∧ v = .agg (cW 8 (mixF h b)) ∧ Below w.heap.size w w' := by
  refine calls_cg (n := 37) Tryz.func137 rfl Tryz.ntmps137 (by simp) ?_
  show CG _ _ _ [(0, .agg (cW 8 h)), (1, .agg (cB 64 b))] _ _
  have u := Below.refl w.heap.size w
  have kg := rg.lt
  refine cg_seq (cg_region ?_)
  refine lg_box rfl rfl (hs8 _) rfl rfl (by decide) fun b1 w1 n1 => ?_
  have rg := n1.keep rg
  have r1 := n1.row
  have k1 := n1.blk
  have z1 := n1.size
  have u : Below w.heap.size w w1 := u.trans (n1.below.mono u.size)
  refine lg_box rfl rfl (hso _) rfl rfl (by decide) fun b2 w2 n2 => ?_
  have rg := n2.keep rg
  have r1 := n2.keep r1
  have r2 := n2.row
  have k2 := n2.blk
  have z2 := n2.size
  have u : Below w.heap.size w w2 := u.trans (n2.below.mono u.size)
  refine lg_alloc rfl hz8 rfl rfl (by decide) fun b3 w3 n3 => ?_
  have rg := n3.keep rg
  have r1 := n3.keep r1
  have r2 := n3.keep r2
  have r3 := n3.row
  have k3 := n3.blk
  have z3 := n3.size
  have u : Below w.heap.size w w3 := u.trans (n3.below.mono u.size)
  refine lg_nil (nx (E' := [(2, _), (3, _), (4, _)]) (fk rfl (fk rfl (fk rfl fn))) ?_)
  refine cg_seq (cg_region ?_)
  refine ls (y_row r1 hu8 (hs8 _) rfl rfl) rfl rfl (by decide) ?_
  refine lg_alloc rfl hz8 rfl rfl (by decide) fun b4 w4 n4 => ?_
  have rg := n4.keep rg
  have r1 := n4.keep r1
  have r2 := n4.keep r2
  have r3 := n4.keep r3
  have r4 := n4.row
  have k4 := n4.blk
  have z4 := n4.size
  have u : Below w.heap.size w w4 := u.trans (n4.below.mono u.size)
  refine lg_store_row r4 rfl rfl rfl (hs8 _) (by simp only [cW_size]) (cW_one _ _) rfl rfl fun w5 sw5 => ?_
  have rg := sw5.keep rg (by omega)
  have r1 := sw5.keep r1 (by omega)
  have r2 := sw5.keep r2 (by omega)
  have r3 := sw5.keep r3 (by omega)
  have r4 := sw5.row
  have zw5 := sw5.size
  have u : Below w.heap.size w w5 := u.trans (sw5.below _ (by omega))
  refine lg_nil (nx (E' := [(2, _), (3, _), (4, _), (5, _)]) (fk rfl (fk rfl (fk rfl (fk rfl fn)))) ?_)
  refine cg_seq ?_
  refine cg_seq (cg_region ?_)
  refine ls (y_row r2 huo (hso _) rfl rfl) rfl rfl (by decide) ?_
  refine lg_call (spread_any _ _) (by kernel_rfl) rfl rfl rfl rfl (by decide) ?_
  rintro _ w6 ⟨rfl, hw6⟩
  have rg := rg.below hw6 rg.lt
  have r1 := r1.below hw6 r1.lt
  have r2 := r2.below hw6 r2.lt
  have r3 := r3.below hw6 r3.lt
  have r4 := r4.below hw6 r4.lt
  have zw6 := hw6.size
  have u : Below w.heap.size w w6 := u.trans (hw6.mono u.size)
  refine ls (y_move (v := iv 0) rfl rfl) rfl rfl (by decide) ?_
  refine lg_nil (nx (E' := [(2, _), (4, _), (5, _), (11, _), (12, _)]) (fk rfl (fk rfl (fk rfl (fk rfl (fk rfl fn))))) ?_)
  refine cg_block fun a ha => ?_
  refine cg_loop (fun t a v => Holds 37 [(2, pv b1 0), (4, pv b3 0), (5, pv b4 0), (11, .agg (cW 64 (spr b))), (12, iv t)] a ∧ RowAt v 0 tg (cW 64 num) ∧ RowAt v b1 83 (cW 8 (h)) ∧ RowAt v b3 83 (cW 8 fun _ => 0) ∧ RowAt v b4 83 (cW 8 (vF h b t)) ∧ w6.heap.size ≤ v.heap.size ∧ Below w.heap.size w v) 64 ⟨ha.keep (fk rfl (fk rfl (fk rfl (fk rfl (fk rfl fn))))), rg, r1, r3, r4, Nat.le_refl _, u⟩ ?_
  clear a ha
  rintro t a v ht ⟨ha, rg, r1, r3, r4, zv, u⟩
  refine cg_at ha ?_
  clear a ha
  refine cg_seq (cg_region ?_)
  refine ls (y_ilss (t) (64) rfl rfl rfl) rfl rfl (by decide) ?_
  refine lg_nil (nx (E' := [(2, _), (4, _), (5, _), (11, _), (12, _), (13, _)]) (fk rfl (fk rfl (fk rfl (fk rfl (fk rfl (fk rfl fn)))))) ?_)
  refine cg_seq (cg_cond (decide (t < 64)) rfl (fun hlt => ?_) (fun hge => ?_))
  · have hlt : t < 64 := of_decide_eq_true hlt
    refine cg_skip (nx (E' := [(2, _), (4, _), (5, _), (11, _), (12, _)]) (fk rfl (fk rfl (fk rfl (fk rfl (fk rfl fn))))) ?_)
    refine cg_seq (cg_block ?_)
    refine cg_seq (cg_region ?_)
    refine ls (y_move rfl rfl) rfl rfl (by decide) ?_
    refine ls (y_idx (j := t) hu64 hsw huw (by omega) (cW_get (by omega)) rfl rfl rfl) rfl rfl (by decide) ?_
    refine ls (y_assign rfl rfl) rfl rfl (by decide) ?_
    refine ls (y_assign rfl rfl) rfl rfl (by decide) ?_
    refine lg_nil (nx (E' := [(2, _), (4, _), (5, _), (6, _), (7, _), (11, _), (12, _)]) (fk rfl (fk rfl (fk rfl (fk rfl (fk rfl (fk rfl (fk rfl fn))))))) ?_)
    refine cg_tail 6 (by kernel_rfl) (by kernel_rfl) fun W7 hW7 => ?_
    have rg := (show RowAt W7 0 _ _ from by subst hW7; exact rg)
    have r1 := (show RowAt W7 b1 _ _ from by subst hW7; exact r1)
    have r3 := (show RowAt W7 b3 _ _ from by subst hW7; exact r3)
    have r4 := (show RowAt W7 b4 _ _ from by subst hW7; exact r4)
    have zW7 : W7.heap.size = v.heap.size := by subst hW7; rfl
    have u : Below w.heap.size w W7 := by subst hW7; exact u.drew
    clear hW7
    simp only [List.take_succ_cons, List.take_zero, List.drop_succ_cons, List.drop_zero]
    refine st (y_row r4 hu8 (hs8 _) rfl rfl) rfl rfl (by decide) ?_
    refine st (y_move rfl rfl) rfl rfl (by decide) ?_
    refine st (y_ixa (j := t) hu64 hsw (by omega) rfl rfl rfl) rfl rfl (by decide) ?_
    refine st (y_cell rg (cW_get (by omega)) huw rfl rfl) rfl rfl (by decide) ?_
    refine st (y_move rfl rfl) rfl rfl (by decide) ?_
    refine st (y_add rfl rfl rfl) rfl rfl (by decide) ?_
    refine sg_lg ?_
    refine lg_call (step_any _ _ _) (by kernel_rfl) rfl rfl rfl rfl (by decide) ?_
    rintro _ w8 ⟨rfl, hw8⟩
    have rg := rg.below hw8 rg.lt
    have r1 := r1.below hw8 r1.lt
    have r3 := r3.below hw8 r3.lt
    have r4 := r4.below hw8 r4.lt
    have zw8 := hw8.size
    have u : Below w.heap.size w w8 := u.trans (hw8.mono u.size)
    refine lg_store_row r4 rfl rfl rfl (hs8 _) (by simp only [cW_size]) (cW_one _ _) rfl rfl fun w9 sw9 => ?_
    have rg := sw9.keep rg (by omega)
    have r1 := sw9.keep r1 (by omega)
    have r3 := sw9.keep r3 (by omega)
    have r4 := sw9.row
    have zw9 := sw9.size
    have u : Below w.heap.size w w9 := u.trans (sw9.below _ (by omega))
    refine lg_nil (nxb (E' := [(2, _), (4, _), (5, _), (11, _), (12, _)]) (fk rfl (fk rfl (fk rfl (fk rfl (fk rfl fn))))) ?_)
    refine cg_region ?_
    refine ls (y_iadd (t) (1) (by omega) rfl rfl rfl) rfl rfl (by decide) ?_
    refine ls (y_move rfl rfl) rfl rfl (by decide) ?_
    exact lg_nil fun a ha => (show t < 64 ∧ _ from ⟨hlt, ha.keep (fk rfl (fk rfl (fk rfl (fk rfl (fk rfl fn))))), rg, r1, r3, r4, by omega, u⟩)
  · have hge := of_decide_eq_false hge
    obtain rfl : t = 64 := by omega
    refine cg_exit (ex_out ?_)
    refine nx (zk3 2 4 5 rfl rfl rfl fn) ?_
    refine cg_seq ?_
    refine cg_seq (cg_region ?_)
    refine ls (y_move (v := iv 0) rfl rfl) rfl rfl (by decide) ?_
    refine lg_nil (nx (E' := [(2, _), (4, _), (5, _), (24, _)]) (fk rfl (fk rfl (fk rfl (fk rfl fn)))) ?_)
    clear ht hge
    refine cg_block fun a ha => ?_
    refine cg_loop (fun i a v => Holds 37 [(2, pv b1 0), (4, pv b3 0), (5, pv b4 0), (24, iv i)] a ∧ RowAt v 0 tg (cW 64 num) ∧ RowAt v b1 83 (cW 8 (gF h (vF h b 64) i)) ∧ RowAt v b3 83 (cW 8 fun _ => 0) ∧ RowAt v b4 83 (cW 8 (vF h b 64)) ∧ w6.heap.size ≤ v.heap.size ∧ Below w.heap.size w v) 8 ⟨ha.keep (fk rfl (fk rfl (fk rfl (fk rfl fn)))), rg, r1, r3, r4, zv, u⟩ ?_
    clear a ha
    rintro i a v ht ⟨ha, rg, r1, r3, r4, zv, u⟩
    refine cg_at ha ?_
    clear a ha
    refine cg_seq (cg_region ?_)
    refine ls (y_ilss (i) (8) rfl rfl rfl) rfl rfl (by decide) ?_
    refine lg_nil (nx (E' := [(2, _), (4, _), (5, _), (24, _), (25, _)]) (fk rfl (fk rfl (fk rfl (fk rfl (fk rfl fn))))) ?_)
    refine cg_seq (cg_cond (decide (i < 8)) rfl (fun hlt => ?_) (fun hge => ?_))
    · have hlt : i < 8 := of_decide_eq_true hlt
      refine cg_skip (nx (E' := [(2, _), (4, _), (5, _), (24, _)]) (fk rfl (fk rfl (fk rfl (fk rfl fn)))) ?_)
      refine cg_seq (cg_block ?_)
      refine cg_seq (cg_region ?_)
      refine ls (y_move rfl rfl) rfl rfl (by decide) ?_
      refine ls (y_assign rfl rfl) rfl rfl (by decide) ?_
      refine lg_nil (nx (E' := [(2, _), (4, _), (5, _), (8, _), (24, _)]) (fk rfl (fk rfl (fk rfl (fk rfl (fk rfl fn))))) ?_)
      refine cg_tail 8 (by kernel_rfl) (by kernel_rfl) fun W7 hW7 => ?_
      have rg := (show RowAt W7 0 _ _ from by subst hW7; exact rg)
      have r1 := (show RowAt W7 b1 _ _ from by subst hW7; exact r1)
      have r3 := (show RowAt W7 b3 _ _ from by subst hW7; exact r3)
      have r4 := (show RowAt W7 b4 _ _ from by subst hW7; exact r4)
      have zW7 : W7.heap.size = v.heap.size := by subst hW7; rfl
      have u : Below w.heap.size w W7 := by subst hW7; exact u.drew
      clear hW7
      simp only [List.take_succ_cons, List.take_zero, List.drop_succ_cons, List.drop_zero]
      refine st (y_move rfl rfl) rfl rfl (by decide) ?_
      refine st (y_ixa (j := i) hu8 hsw (by omega) rfl rfl rfl) rfl rfl (by decide) ?_
      refine st (y_cell r1 (cW_get (by omega)) huw rfl rfl) rfl rfl (by decide) ?_
      refine st (y_move rfl rfl) rfl rfl (by decide) ?_
      refine st (y_ixa (j := i) hu8 hsw (by omega) rfl rfl rfl) rfl rfl (by decide) ?_
      refine st (y_cell r4 (cW_get (by omega)) huw rfl rfl) rfl rfl (by decide) ?_
      refine st (y_add rfl rfl rfl) rfl rfl (by decide) ?_
      refine st (y_ixa (j := i) hu8 hsw (by omega) rfl rfl rfl) rfl rfl (by decide) ?_
      refine sg_lg ?_
      refine lg_store r1 (by rw [cW_size]; omega) rfl rfl rfl rfl hsw rfl rfl fun w8 sw8 => ?_
      rw [cW_set] at sw8
      have rg := sw8.keep rg (by omega)
      have r1 := sw8.row
      have r3 := sw8.keep r3 (by omega)
      have r4 := sw8.keep r4 (by omega)
      have zw8 := sw8.size
      have u : Below w.heap.size w w8 := u.trans (sw8.below _ (by omega))
      refine lg_nil (nxb (E' := [(2, _), (4, _), (5, _), (24, _)]) (fk rfl (fk rfl (fk rfl (fk rfl fn)))) ?_)
      refine cg_region ?_
      refine ls (y_iadd (i) (1) (by omega) rfl rfl rfl) rfl rfl (by decide) ?_
      refine ls (y_move rfl rfl) rfl rfl (by decide) ?_
      exact lg_nil fun a ha => (show i < 8 ∧ _ from ⟨hlt, ha.keep (fk rfl (fk rfl (fk rfl (fk rfl fn)))), rg, r1, r3, r4, by omega, u⟩)
    · have hge := of_decide_eq_false hge
      obtain rfl : i = 8 := by omega
      refine cg_exit (ex_out ?_)
      refine nx (zk2 2 4 rfl rfl fn) ?_
      refine cg_seq (cg_region ?_)
      refine ls (y_row r1 hu8 (hs8 _) rfl rfl) rfl rfl (by decide) ?_
      refine lg_store_row r3 rfl rfl rfl (hs8 _) (by simp only [cW_size]) (cW_one _ _) rfl rfl fun w7 sw7 => ?_
      have rg := sw7.keep rg (by omega)
      have r1 := sw7.keep r1 (by omega)
      have r3 := sw7.row
      have r4 := sw7.keep r4 (by omega)
      have zw7 := sw7.size
      have u : Below w.heap.size w w7 := u.trans (sw7.below _ (by omega))
      refine lg_nil (nx (E' := [(4, _)]) (fk rfl fn) ?_)
      rw [cW_ext (gF_eq h (vF h b 64))] at r3
      exact ret_row rfl rfl r3 hu8 (hs8 _) ⟨_, rfl, rfl, u⟩
end Go.Proofs.YtkcpmpbjjnknhaaGreatDoor
