/-
  The walk of a law.
-/
import Derived.Test.YtnogmcldjfbfoaaDoorBlRule
import Derived.Test.YtnogmcldjfbfoaaDoorBlAwake
import Derived.Test.YtnogmcldjfbfoaaDoorBlMath
namespace Go.Proofs.YtnogmcldjfbfoaaDoor
open Go.ChangeShapes Go.WideShapes Go.ChangeAt Go.RowKit
set_option linter.unusedVariables false
set_option maxRecDepth 20000
theorem spread_law (b : Nat → BitVec 8) (w : World) {tg : TypeId} (rg : RowAt w 0 tg (cW 64 num)) : Calls Tryd.prog 4 #[.agg (cB 64 b)] w fun e w' => e = .returned (.bool true) ∧ Below w.heap.size w w' := by
  refine calls_cg (n := 106) Tryd.func4 rfl Tryd.ntmps4 (by simp) ?_
  show CG _ _ _ [(0, .agg (cB 64 b))] _ _
  have u := Below.refl w.heap.size w
  have kg := rg.lt
  refine cg_seq (cg_region ?_)
  refine lg_box rfl rfl (hso _) rfl rfl (by decide) fun b1 w1 n1 => ?_
  have rg := n1.keep rg
  have r1 := n1.row
  have k1 := n1.blk
  have z1 := n1.size
  have u : Below w.heap.size w w1 := u.trans (n1.below.mono u.size)
  refine ls (y_assign rfl rfl) rfl rfl (by decide) ?_
  refine lg_nil (nx (E' := [(1, _)]) (fk rfl fn) ?_)
  refine cg_seq (cg_region ?_)
  refine lg_call (awake_any _ rg) (by kernel_rfl) rfl rfl rfl rfl (by decide) ?_
  rintro _ w2 ⟨rfl, hw2⟩
  have rg := rg.below hw2 rg.lt
  have r1 := r1.below hw2 r1.lt
  have zw2 := hw2.size
  have u : Below w.heap.size w w2 := u.trans (hw2.mono u.size)
  refine ls (y_assign rfl rfl) rfl rfl (by decide) ?_
  refine lg_nil (nx (E' := [(1, _), (3, _)]) (fk rfl (fk rfl fn)) ?_)
  refine cg_seq (cg_region ?_)
  refine ls (y_row r1 huo (hso _) rfl rfl) rfl rfl (by decide) ?_
  refine lg_call (spread_any _ _) (by kernel_rfl) rfl rfl rfl rfl (by decide) ?_
  rintro _ w3 ⟨rfl, hw3⟩
  have rg := rg.below hw3 rg.lt
  have r1 := r1.below hw3 r1.lt
  have zw3 := hw3.size
  have u : Below w.heap.size w w3 := u.trans (hw3.mono u.size)
  refine lg_alloc rfl hz64 rfl rfl (by decide) fun b4 w4 n4 => ?_
  have rg := n4.keep rg
  have r1 := n4.keep r1
  have r4 := n4.row
  have k4 := n4.blk
  have z4 := n4.size
  have u : Below w.heap.size w w4 := u.trans (n4.below.mono u.size)
  refine lg_store_row r4 rfl rfl rfl (hs64 _) (by simp only [cW_size]) (cW_one _ _) rfl rfl fun w5 sw5 => ?_
  have rg := sw5.keep rg (by omega)
  have r1 := sw5.keep r1 (by omega)
  have r4 := sw5.row
  have zw5 := sw5.size
  have u : Below w.heap.size w w5 := u.trans (sw5.below _ (by omega))
  refine lg_nil (nx (E' := [(1, _), (3, _), (4, _)]) (fk rfl (fk rfl (fk rfl fn))) ?_)
  refine cg_seq ?_
  refine cg_seq (cg_region ?_)
  refine ls (y_assign (v := iv 0) rfl rfl) rfl rfl (by decide) ?_
  refine lg_nil (nx (E' := [(1, _), (3, _), (4, _), (5, _)]) (fk rfl (fk rfl (fk rfl (fk rfl fn)))) ?_)
  refine cg_block fun a ha => ?_
  refine cg_loop (fun t a v => Holds 106 [(1, pv b1 0), (3, .bool true), (4, pv b4 0), (5, iv t)] a ∧ RowAt v b1 24 (cB 64 b) ∧ RowAt v b4 27 (cW 64 (spr b)) ∧ Below w.heap.size w v) 16 ⟨ha.keep (fk rfl (fk rfl (fk rfl (fk rfl fn)))), r1, r4, u⟩ ?_
  clear a ha
  rintro t a v ht ⟨ha, r1, r4, u⟩
  refine cg_at ha ?_
  clear a ha
  have zu := u.size
  have q1 := r1.lt
  have q4 := r4.lt
  refine cg_seq ?_
  refine cg_seq (cg_region ?_)
  refine ls (y_move rfl rfl) rfl rfl (by decide) ?_
  refine ls (y_ilss (t) (16) rfl rfl rfl) rfl rfl (by decide) ?_
  refine lg_nil (nx (E' := [(1, _), (3, _), (4, _), (5, _), (16, _)]) (fk rfl (fk rfl (fk rfl (fk rfl (fk rfl fn))))) ?_)
  refine cg_cond (decide (t < 16)) rfl (fun hlt => ?_) (fun hge => ?_)
  · have hlt : t < 16 := of_decide_eq_true hlt
    refine cg_skip (nx (E' := [(1, _), (3, _), (4, _), (5, _)]) (fk rfl (fk rfl (fk rfl (fk rfl fn)))) ?_)
    refine cg_seq (cg_block ?_)
    refine cg_seq (cg_region ?_)
    refine ls (y_assign (v := iv 0) rfl rfl) rfl rfl (by decide) ?_
    refine lg_nil (nx (E' := [(1, _), (3, _), (4, _), (5, _), (6, _)]) (fk rfl (fk rfl (fk rfl (fk rfl (fk rfl fn))))) ?_)
    refine cg_block fun a ha => ?_
    refine cg_loop (fun k a v => Holds 106 [(1, pv b1 0), (3, .bool true), (4, pv b4 0), (5, iv t), (6, iv k)] a ∧ RowAt v b1 24 (cB 64 b) ∧ RowAt v b4 27 (cW 64 (spr b)) ∧ Below w.heap.size w v) 4 ⟨ha.keep (fk rfl (fk rfl (fk rfl (fk rfl (fk rfl fn))))), r1, r4, u⟩ ?_
    clear a ha
    rintro k a v ht ⟨ha, r1, r4, u⟩
    refine cg_at ha ?_
    clear a ha
    have zu := u.size
    have q1 := r1.lt
    have q4 := r4.lt
    refine cg_seq ?_
    refine cg_seq (cg_region ?_)
    refine ls (y_move rfl rfl) rfl rfl (by decide) ?_
    refine ls (y_ilss (k) (4) rfl rfl rfl) rfl rfl (by decide) ?_
    refine lg_nil (nx (E' := [(1, _), (3, _), (4, _), (5, _), (6, _), (20, _)]) (fk rfl (fk rfl (fk rfl (fk rfl (fk rfl (fk rfl fn)))))) ?_)
    refine cg_cond (decide (k < 4)) rfl (fun hlt => ?_) (fun hge => ?_)
    · have hk : k < 4 := of_decide_eq_true (by assumption)
      refine cg_skip (nx (E' := [(1, _), (3, _), (4, _), (5, _), (6, _)]) (fk rfl (fk rfl (fk rfl (fk rfl (fk rfl fn))))) ?_)
      refine cg_seq (cg_block ?_)
      have hB := byte_of b t k (by omega) (by omega)
      refine cg_seq (cg_still (by kernel_rfl) (by kernel_rfl) fun W6 hW6 => ?_)
      have r1 := (show RowAt W6 b1 _ _ from by subst hW6; exact r1)
      have r4 := (show RowAt W6 b4 _ _ from by subst hW6; exact r4)
      have zW6 : W6.heap.size = v.heap.size := by subst hW6; rfl
      have u : Below w.heap.size w W6 := by subst hW6; exact u.drew
      clear hW6
      refine st (y_move rfl rfl) rfl rfl (by decide) ?_
      refine st (y_ixa (j := t) hu64 hsw (by omega) rfl rfl rfl) rfl rfl (by decide) ?_
      refine st (y_cell r4 (cW_get (by omega)) huw rfl rfl) rfl rfl (by decide) ?_
      refine st (y_move rfl rfl) rfl rfl (by decide) ?_
      refine st (y_imul (8) (k) (by omega) rfl rfl rfl) rfl rfl (by decide) ?_
      refine st (y_isub (24) (8 * k) (by omega) (by omega) rfl rfl rfl) rfl rfl (by decide) ?_
      refine st (y_iu (24 - (8 * k)) (by omega) hui hu31 rfl rfl) rfl rfl (by decide) ?_
      refine st (y_shr (24 - (8 * k)) .u64 (by first | decide | omega) rfl rfl rfl) rfl rfl (by decide) ?_
      refine st (y_and (Y := 255#32) rfl rfl (by kernel_rfl)) rfl rfl (by decide) ?_
      refine st (y_wb rfl rfl) rfl rfl (by decide) ?_
      refine st (y_move rfl rfl) rfl rfl (by decide) ?_
      refine st (y_imul (4) (t) (by omega) rfl rfl rfl) rfl rfl (by decide) ?_
      refine st (y_move rfl rfl) rfl rfl (by decide) ?_
      refine st (y_iadd (4 * t) (k) (by omega) rfl rfl rfl) rfl rfl (by decide) ?_
      refine st (y_ixa (j := (4 * t) + k) huo hsb (by omega) rfl rfl rfl) rfl rfl (by decide) ?_
      refine st (y_cell r1 (cB_get (by omega)) hub rfl rfl) rfl rfl (by decide) ?_
      refine st (y_one_f hB rfl rfl rfl) rfl rfl (by decide) ?_
      refine sg_nil (nx (E' := [(1, _), (3, _), (4, _), (5, _), (6, _), (39, _)]) (fk rfl (fk rfl (fk rfl (fk rfl (fk rfl (fk rfl fn)))))) ?_)
      refine cg_cond false rfl (fun h => by cases h) (fun _ => ?_)
      refine cg_skip (nxb (E' := [(1, _), (3, _), (4, _), (5, _), (6, _)]) (fk rfl (fk rfl (fk rfl (fk rfl (fk rfl fn))))) ?_)
      refine cg_region ?_
      refine ls (y_move rfl rfl) rfl rfl (by decide) ?_
      refine ls (y_iadd (k) (1) (by omega) rfl rfl rfl) rfl rfl (by decide) ?_
      refine ls (y_assign rfl rfl) rfl rfl (by decide) ?_
      exact lg_nil fun a ha => (show k < 4 ∧ _ from ⟨by omega, ha.keep (fk rfl (fk rfl (fk rfl (fk rfl (fk rfl fn))))), r1, r4, u⟩)
    · have hge := of_decide_eq_false hge
      refine cg_exit (ex_out ?_)
      refine nxb (E' := [(1, _), (3, _), (4, _), (5, _)]) (fk rfl (fk rfl (fk rfl (fk rfl fn)))) ?_
      refine cg_region ?_
      refine ls (y_move rfl rfl) rfl rfl (by decide) ?_
      refine ls (y_iadd (t) (1) (by omega) rfl rfl rfl) rfl rfl (by decide) ?_
      refine ls (y_assign rfl rfl) rfl rfl (by decide) ?_
      exact lg_nil fun a ha => (show t < 16 ∧ _ from ⟨by omega, ha.keep (fk rfl (fk rfl (fk rfl (fk rfl fn)))), r1, r4, u⟩)
  · clear hge
    refine cg_exit (ex_out ?_)
    refine nx (E' := [(1, _), (3, _), (4, _)]) (fk rfl (fk rfl (fk rfl fn))) ?_
    refine cg_seq (cg_region ?_)
    refine ls (y_row r4 hu64 (hs64 _) rfl rfl) rfl rfl (by decide) ?_
    refine lg_alloc rfl hz64 rfl rfl (by decide) fun b6 w6 n6 => ?_
    have r1 := n6.keep r1
    have r4 := n6.keep r4
    have r6 := n6.row
    have k6 := n6.blk
    have z6 := n6.size
    have u : Below w.heap.size w w6 := u.trans (n6.below.mono u.size)
    refine lg_store_row r6 rfl rfl rfl (hs64 _) (by simp only [cW_size]) (cW_one _ _) rfl rfl fun w7 sw7 => ?_
    have r1 := sw7.keep r1 (by omega)
    have r4 := sw7.keep r4 (by omega)
    have r6 := sw7.row
    have zw7 := sw7.size
    have u : Below w.heap.size w w7 := u.trans (sw7.below _ (by omega))
    refine lg_nil (nx (E' := [(1, _), (3, _), (4, _), (7, _)]) (fk rfl (fk rfl (fk rfl (fk rfl fn)))) ?_)
    refine cg_seq ?_
    refine cg_seq (cg_region ?_)
    refine ls (y_assign (v := iv 0) rfl rfl) rfl rfl (by decide) ?_
    refine lg_nil (nx (E' := [(3, _), (4, _), (7, _), (8, _)]) (fk rfl (fk rfl (fk rfl (fk rfl fn)))) ?_)
    have zV : w.heap.size ≤ b6 := by omega
    have zVW : b6 ≠ b4 := by omega
    clear ht
    refine cg_block fun a ha => ?_
    refine cg_loop (fun k a v => Holds 106 [(3, .bool true), (4, pv b4 0), (7, pv b6 0), (8, iv k)] a ∧ RowAt v b4 27 (cW 64 (spr b)) ∧ RowAt v b6 27 (cW 64 (zF (spr b) k)) ∧ Below w.heap.size w v) 48 ⟨ha.keep (fk rfl (fk rfl (fk rfl (fk rfl fn)))), r4, r6, u⟩ ?_
    clear a ha
    rintro k a v ht ⟨ha, r4, r6, u⟩
    refine cg_at ha ?_
    clear a ha
    have zu := u.size
    have q4 := r4.lt
    have q6 := r6.lt
    refine cg_seq ?_
    refine cg_seq (cg_region ?_)
    refine ls (y_move rfl rfl) rfl rfl (by decide) ?_
    refine ls (y_ilss (k) (48) rfl rfl rfl) rfl rfl (by decide) ?_
    refine lg_nil (nx (E' := [(3, _), (4, _), (7, _), (8, _), (42, _)]) (fk rfl (fk rfl (fk rfl (fk rfl (fk rfl fn))))) ?_)
    refine cg_cond (decide (k < 48)) rfl (fun hlt => ?_) (fun hge => ?_)
    · have hlt : k < 48 := of_decide_eq_true hlt
      refine cg_skip (nx (E' := [(3, _), (4, _), (7, _), (8, _)]) (fk rfl (fk rfl (fk rfl (fk rfl fn)))) ?_)
      refine cg_seq (cg_block ?_)
      refine cg_region ?_
      refine ls (y_move rfl rfl) rfl rfl (by decide) ?_
      refine ls (y_ixa (j := k) hu64 hsw (by omega) rfl rfl rfl) rfl rfl (by decide) ?_
      refine lg_store (v := wv 0#32) r6 (by rw [cW_size]; omega) rfl rfl rfl (by kernel_rfl) hsw rfl rfl fun w8 sw8 => ?_
      rw [cW_set] at sw8
      have r4 := sw8.keep r4 (by omega)
      have r6 := sw8.row
      have zw8 := sw8.size
      have u : Below w.heap.size w w8 := u.trans (sw8.below _ (by omega))
      refine lg_nil (nxb (E' := [(3, _), (4, _), (7, _), (8, _)]) (fk rfl (fk rfl (fk rfl (fk rfl fn)))) ?_)
      refine cg_region ?_
      refine ls (y_move rfl rfl) rfl rfl (by decide) ?_
      refine ls (y_iadd (k) (1) (by omega) rfl rfl rfl) rfl rfl (by decide) ?_
      refine ls (y_assign rfl rfl) rfl rfl (by decide) ?_
      exact lg_nil fun a ha => (show k < 48 ∧ _ from ⟨by omega, ha.keep (fk rfl (fk rfl (fk rfl (fk rfl fn)))), r4, r6, u⟩)
    · have hge := of_decide_eq_false hge
      obtain rfl : k = 48 := by omega
      refine cg_exit (ex_out ?_)
      refine nx (E' := [(3, _), (4, _), (7, _)]) (fk rfl (fk rfl (fk rfl fn))) ?_
      refine cg_seq ?_
      refine cg_seq (cg_region ?_)
      refine ls (y_assign (v := iv 63) rfl rfl) rfl rfl (by decide) ?_
      refine lg_nil (nx (E' := [(3, _), (4, _), (7, _), (9, _)]) (fk rfl (fk rfl (fk rfl (fk rfl fn)))) ?_)
      clear ht hge
      refine cg_block fun a ha => ?_
      refine cg_loop (fun k a v => Holds 106 [(3, .bool true), (4, pv b4 0), (7, pv b6 0), (9, iv (63 - k))] a ∧ RowAt v b4 27 (cW 64 (spr b)) ∧ RowAt v b6 27 (cW 64 (bk (spr b) k)) ∧ Below w.heap.size w v) 48 ⟨ha.keep (fk rfl (fk rfl (fk rfl (fk rfl fn)))), r4, r6, u⟩ ?_
      clear a ha
      rintro k a v ht ⟨ha, r4, r6, u⟩
      refine cg_at ha ?_
      clear a ha
      have zu := u.size
      have q4 := r4.lt
      have q6 := r6.lt
      refine cg_seq ?_
      refine cg_seq (cg_region ?_)
      refine ls (y_move rfl rfl) rfl rfl (by decide) ?_
      refine ls (y_igeq (63 - k) (16) rfl rfl rfl) rfl rfl (by decide) ?_
      refine lg_nil (nx (E' := [(3, _), (4, _), (7, _), (9, _), (48, _)]) (fk rfl (fk rfl (fk rfl (fk rfl (fk rfl fn))))) ?_)
      refine cg_cond (decide (16 ≤ 63 - k)) rfl (fun hlt => ?_) (fun hge => ?_)
      · have hlt : 16 ≤ 63 - k := of_decide_eq_true hlt
        refine cg_skip (nx (E' := [(3, _), (4, _), (7, _), (9, _)]) (fk rfl (fk rfl (fk rfl (fk rfl fn)))) ?_)
        refine cg_seq (cg_block ?_)
        refine cg_seq (cg_region ?_)
        refine ls (y_move rfl rfl) rfl rfl (by decide) ?_
        refine ls (y_isub (63 - k) (15) (by omega) (by omega) rfl rfl rfl) rfl rfl (by decide) ?_
        refine ls (y_ixa (j := (63 - k) - 15) hu64 hsw (by omega) rfl rfl rfl) rfl rfl (by decide) ?_
        refine ls (y_cell r6 (cW_get (by omega)) huw rfl rfl) rfl rfl (by decide) ?_
        refine ls (y_assign rfl rfl) rfl rfl (by decide) ?_
        refine lg_nil (nx (E' := [(3, _), (4, _), (7, _), (9, _), (10, _)]) (fk rfl (fk rfl (fk rfl (fk rfl (fk rfl fn))))) ?_)
        refine cg_seq (cg_region ?_)
        refine ls (y_move rfl rfl) rfl rfl (by decide) ?_
        refine ls (y_isub (63 - k) (2) (by omega) (by omega) rfl rfl rfl) rfl rfl (by decide) ?_
        refine ls (y_ixa (j := (63 - k) - 2) hu64 hsw (by omega) rfl rfl rfl) rfl rfl (by decide) ?_
        refine ls (y_cell r6 (cW_get (by omega)) huw rfl rfl) rfl rfl (by decide) ?_
        refine ls (y_assign rfl rfl) rfl rfl (by decide) ?_
        refine lg_nil (nx (E' := [(3, _), (4, _), (7, _), (9, _), (10, _), (11, _)]) (fk rfl (fk rfl (fk rfl (fk rfl (fk rfl (fk rfl fn)))))) ?_)
        refine cg_tail 41 (by kernel_rfl) (by kernel_rfl) fun W8 hW8 => ?_
        have r4 := (show RowAt W8 b4 _ _ from by subst hW8; exact r4)
        have r6 := (show RowAt W8 b6 _ _ from by subst hW8; exact r6)
        have zW8 : W8.heap.size = v.heap.size := by subst hW8; rfl
        have u : Below w.heap.size w W8 := by subst hW8; exact u.drew
        clear hW8
        simp only [List.take_succ_cons, List.take_zero, List.drop_succ_cons, List.drop_zero]
        refine st (y_move rfl rfl) rfl rfl (by decide) ?_
        refine st (y_isub (63 - k) (16) (by omega) (by omega) rfl rfl rfl) rfl rfl (by decide) ?_
        refine st (y_move rfl rfl) rfl rfl (by decide) ?_
        refine st (y_ixa (j := 63 - k) hu64 hsw (by omega) rfl rfl rfl) rfl rfl (by decide) ?_
        refine st (y_cell r6 (cW_get (by omega)) huw rfl rfl) rfl rfl (by decide) ?_
        refine st (y_move rfl rfl) rfl rfl (by decide) ?_
        refine st (y_shr (7) .u64 (by first | decide | omega) rfl rfl rfl) rfl rfl (by decide) ?_
        refine st (y_move rfl rfl) rfl rfl (by decide) ?_
        refine st (y_shl (25) .u64 (by first | decide | omega) rfl rfl rfl) rfl rfl (by decide) ?_
        refine st (y_or rfl rfl rfl) rfl rfl (by decide) ?_
        refine st (y_move rfl rfl) rfl rfl (by decide) ?_
        refine st (y_shr (18) .u64 (by first | decide | omega) rfl rfl rfl) rfl rfl (by decide) ?_
        refine st (y_move rfl rfl) rfl rfl (by decide) ?_
        refine st (y_shl (14) .u64 (by first | decide | omega) rfl rfl rfl) rfl rfl (by decide) ?_
        refine st (y_or rfl rfl rfl) rfl rfl (by decide) ?_
        refine st (y_xor rfl rfl rfl) rfl rfl (by decide) ?_
        refine st (y_move rfl rfl) rfl rfl (by decide) ?_
        refine st (y_shr (3) .u64 (by first | decide | omega) rfl rfl rfl) rfl rfl (by decide) ?_
        refine st (y_xor rfl rfl rfl) rfl rfl (by decide) ?_
        refine st (y_sub rfl rfl rfl) rfl rfl (by decide) ?_
        refine st (y_move rfl rfl) rfl rfl (by decide) ?_
        refine st (y_isub (63 - k) (7) (by omega) (by omega) rfl rfl rfl) rfl rfl (by decide) ?_
        refine st (y_ixa (j := (63 - k) - 7) hu64 hsw (by omega) rfl rfl rfl) rfl rfl (by decide) ?_
        refine st (y_cell r6 (cW_get (by omega)) huw rfl rfl) rfl rfl (by decide) ?_
        refine st (y_sub rfl rfl rfl) rfl rfl (by decide) ?_
        refine st (y_move rfl rfl) rfl rfl (by decide) ?_
        refine st (y_shr (17) .u64 (by first | decide | omega) rfl rfl rfl) rfl rfl (by decide) ?_
        refine st (y_move rfl rfl) rfl rfl (by decide) ?_
        refine st (y_shl (15) .u64 (by first | decide | omega) rfl rfl rfl) rfl rfl (by decide) ?_
        refine st (y_or rfl rfl rfl) rfl rfl (by decide) ?_
        refine st (y_move rfl rfl) rfl rfl (by decide) ?_
        refine st (y_shr (19) .u64 (by first | decide | omega) rfl rfl rfl) rfl rfl (by decide) ?_
        refine st (y_move rfl rfl) rfl rfl (by decide) ?_
        refine st (y_shl (13) .u64 (by first | decide | omega) rfl rfl rfl) rfl rfl (by decide) ?_
        refine st (y_or rfl rfl rfl) rfl rfl (by decide) ?_
        refine st (y_xor rfl rfl rfl) rfl rfl (by decide) ?_
        refine st (y_move rfl rfl) rfl rfl (by decide) ?_
        refine st (y_shr (10) .u64 (by first | decide | omega) rfl rfl rfl) rfl rfl (by decide) ?_
        refine st (y_xor rfl rfl rfl) rfl rfl (by decide) ?_
        refine st (y_sub rfl rfl rfl) rfl rfl (by decide) ?_
        refine st (y_ixa (j := (63 - k) - 16) hu64 hsw (by omega) rfl rfl rfl) rfl rfl (by decide) ?_
        refine sg_lg ?_
        refine lg_store r6 (by rw [cW_size]; omega) rfl rfl rfl rfl hsw rfl rfl fun w9 sw9 => ?_
        rw [cW_set] at sw9
        have r4 := sw9.keep r4 (by omega)
        have r6 := sw9.row
        have zw9 := sw9.size
        have u : Below w.heap.size w w9 := u.trans (sw9.below _ (by omega))
        refine lg_nil (nxb (E' := [(3, _), (4, _), (7, _), (9, _)]) (fk rfl (fk rfl (fk rfl (fk rfl fn)))) ?_)
        refine cg_region ?_
        refine ls (y_move rfl rfl) rfl rfl (by decide) ?_
        refine ls (y_isub (63 - k) (1) (by omega) (by omega) rfl rfl rfl) rfl rfl (by decide) ?_
        refine ls (y_assign rfl rfl) rfl rfl (by decide) ?_
        exact lg_nil fun a ha => (show k < 48 ∧ _ from ⟨by omega, ha.keep (fk rfl (fk rfl (fk rfl (fk rfl fn)))), r4, r6, u⟩)
      · have hge := of_decide_eq_false hge
        obtain rfl : k = 48 := by omega
        refine cg_exit (ex_out ?_)
        refine nx (E' := [(3, _), (4, _), (7, _)]) (fk rfl (fk rfl (fk rfl fn))) ?_
        rw [bk_end] at r6
        refine cg_seq (cg_region ?_)
        refine ls (y_move rfl rfl) rfl rfl (by decide) ?_
        refine ls (y_move rfl rfl) rfl rfl (by decide) ?_
        refine lsw (want_t (dj := 101) (by rfl) (by kernel_rfl) rfl) (y_row r6 hu64 (hs64 _) rfl rfl) rfl (by decide) ?_
        refine lsw (want_t (dj := 101) (by rfl) (by kernel_rfl) rfl) (y_row r4 hu64 (hs64 _) rfl rfl) rfl (by decide) ?_
        refine lsw (want_t (dj := 101) (by rfl) (by kernel_rfl) rfl) (y_aeq g64 hu64 hsw huw cW_int rfl rfl rfl) rfl (by decide) ?_
        refine ls (y_pick true rfl rfl rfl) rfl rfl (by decide) ?_
        refine ls (y_assign rfl rfl) rfl rfl (by decide) ?_
        refine lg_nil (nx (E' := [(2, _)]) (fk rfl fn) ?_)
        exact ret_tmp rfl rfl ⟨rfl, u⟩
end Go.Proofs.YtnogmcldjfbfoaaDoor
