/-
  The walk of a law.
-/
import Derived.Test.YtnogmcldjfbfoaaDoorBlRule
import Derived.Test.YtnogmcldjfbfoaaDoorBlAwake
import Derived.Test.YtnogmcldjfbfoaaDoorBlMath
namespace Go.Proofs.YtnogmcldjfbfoaaDoor
open Go.ChangeShapes Go.WideShapes Go.ChangeAt Go.RowKit
set_option linter.unusedVariables false
set_option maxRecDepth 20000
theorem undo_law (h : Nat → BitVec 32) (kk : Int) (y : BitVec 32) (b : Nat → BitVec 8) (w : World) {tg : TypeId} (rg : RowAt w 0 tg (cW 64 num)) : Calls Tryd.prog 5 #[.agg (cW 8 h), .int .i64 kk, wv y, .agg (cB 64 b)] w fun e w' => e = .returned (.bool true) ∧ Below w.heap.size w w' := by
  refine calls_cg (n := 62) Tryd.func5 rfl Tryd.ntmps5 (by simp) ?_
  show CG _ _ _ [(0, .agg (cW 8 h)), (1, .int .i64 kk), (2, wv y), (3, .agg (cB 64 b))] _ _
  have u := Below.refl w.heap.size w
  have kg := rg.lt
  refine cg_seq (cg_region ?_)
  refine lg_box rfl rfl (hs8 _) rfl rfl (by decide) fun b1 w1 n1 => ?_
  have rg := n1.keep rg
  have r1 := n1.row
  have k1 := n1.blk
  have z1 := n1.size
  have u : Below w.heap.size w w1 := u.trans (n1.below.mono u.size)
  refine lg_box rfl rfl (hso _) rfl rfl (by decide) fun b2 w2 n2 => ?_
  have rg := n2.keep rg
  have r1 := n2.keep r1
  have r2 := n2.row
  have k2 := n2.blk
  have z2 := n2.size
  have u : Below w.heap.size w w2 := u.trans (n2.below.mono u.size)
  refine ls (y_assign rfl rfl) rfl rfl (by decide) ?_
  refine lg_nil (nx (E' := [(1, _), (2, _), (4, _), (7, _)]) (fk rfl (fk rfl (fk rfl (fk rfl fn)))) ?_)
  refine cg_seq (cg_region ?_)
  refine lg_call (awake_any _ rg) (by kernel_rfl) rfl rfl rfl rfl (by decide) ?_
  rintro _ w3 ⟨rfl, hw3⟩
  have rg := rg.below hw3 rg.lt
  have r1 := r1.below hw3 r1.lt
  have r2 := r2.below hw3 r2.lt
  have zw3 := hw3.size
  have u : Below w.heap.size w w3 := u.trans (hw3.mono u.size)
  refine ls (y_assign rfl rfl) rfl rfl (by decide) ?_
  refine lg_nil (nx (E' := [(1, _), (2, _), (4, _), (7, _), (9, _)]) (fk rfl (fk rfl (fk rfl (fk rfl (fk rfl fn))))) ?_)
  refine cg_seq (cg_region ?_)
  refine ls (y_move rfl rfl) rfl rfl (by decide) ?_
  refine ls (y_iand 7 (by decide) rfl rfl rfl) rfl rfl (by decide) ?_
  refine ls (y_assign rfl rfl) rfl rfl (by decide) ?_
  refine lg_nil (nx (E' := [(2, _), (4, _), (7, _), (9, _), (10, _)]) (fk rfl (fk rfl (fk rfl (fk rfl (fk rfl fn))))) ?_)
  have hi : (BitVec.ofInt 64 kk &&& BitVec.ofNat 64 7).toNat < 8 := by
    rw [BitVec.toNat_and]
    exact Nat.lt_of_le_of_lt Nat.and_le_right (by decide)
  generalize (BitVec.ofInt 64 kk &&& BitVec.ofNat 64 7).toNat = i at hi ⊢
  refine cg_seq (cg_region ?_)
  refine ls (y_row r1 hu8 (hs8 _) rfl rfl) rfl rfl (by decide) ?_
  refine lg_alloc rfl hz8 rfl rfl (by decide) fun b4 w4 n4 => ?_
  have rg := n4.keep rg
  have r1 := n4.keep r1
  have r2 := n4.keep r2
  have r4 := n4.row
  have k4 := n4.blk
  have z4 := n4.size
  have u : Below w.heap.size w w4 := u.trans (n4.below.mono u.size)
  refine lg_store_row r4 rfl rfl rfl (hs8 _) (by simp only [cW_size]) (cW_one _ _) rfl rfl fun w5 sw5 => ?_
  have rg := sw5.keep rg (by omega)
  have r1 := sw5.keep r1 (by omega)
  have r2 := sw5.keep r2 (by omega)
  have r4 := sw5.row
  have zw5 := sw5.size
  have u : Below w.heap.size w w5 := u.trans (sw5.below _ (by omega))
  refine lg_nil (nx (E' := [(2, _), (4, _), (7, _), (9, _), (10, _), (11, _)]) (fk rfl (fk rfl (fk rfl (fk rfl (fk rfl (fk rfl fn)))))) ?_)
  refine cg_seq (cg_region ?_)
  refine ls (y_move rfl rfl) rfl rfl (by decide) ?_
  refine ls (y_move rfl rfl) rfl rfl (by decide) ?_
  refine ls (y_ixa (j := i) hu8 hsw (by omega) rfl rfl rfl) rfl rfl (by decide) ?_
  refine ls (y_cell r1 (cW_get (by omega)) huw rfl rfl) rfl rfl (by decide) ?_
  refine ls (y_move rfl rfl) rfl rfl (by decide) ?_
  refine ls (y_xor rfl rfl rfl) rfl rfl (by decide) ?_
  refine ls (y_ixa (j := i) hu8 hsw (by omega) rfl rfl rfl) rfl rfl (by decide) ?_
  refine lg_store r4 (by rw [cW_size]; omega) rfl rfl rfl rfl hsw rfl rfl fun w6 sw6 => ?_
  rw [cW_set] at sw6
  have rg := sw6.keep rg (by omega)
  have r1 := sw6.keep r1 (by omega)
  have r2 := sw6.keep r2 (by omega)
  have r4 := sw6.row
  have zw6 := sw6.size
  have u : Below w.heap.size w w6 := u.trans (sw6.below _ (by omega))
  refine lg_nil (nx (E' := [(2, _), (4, _), (7, _), (9, _), (11, _)]) (fk rfl (fk rfl (fk rfl (fk rfl (fk rfl fn))))) ?_)
  refine cg_seq (cg_region ?_)
  refine ls (y_row r1 hu8 (hs8 _) rfl rfl) rfl rfl (by decide) ?_
  refine ls (y_row r2 huo (hso _) rfl rfl) rfl rfl (by decide) ?_
  refine lg_call (mix_any _ _ _ rg) (by kernel_rfl) rfl rfl rfl rfl (by decide) ?_
  rintro _ w7 ⟨rfl, hw7⟩
  have rg := rg.below hw7 rg.lt
  have r1 := r1.below hw7 r1.lt
  have r2 := r2.below hw7 r2.lt
  have r4 := r4.below hw7 r4.lt
  have zw7 := hw7.size
  have u : Below w.heap.size w w7 := u.trans (hw7.mono u.size)
  refine lg_alloc rfl hz8 rfl rfl (by decide) fun b8 w8 n8 => ?_
  have rg := n8.keep rg
  have r1 := n8.keep r1
  have r2 := n8.keep r2
  have r4 := n8.keep r4
  have r8 := n8.row
  have k8 := n8.blk
  have z8 := n8.size
  have u : Below w.heap.size w w8 := u.trans (n8.below.mono u.size)
  refine lg_store_row r8 rfl rfl rfl (hs8 _) (by simp only [cW_size]) (cW_one _ _) rfl rfl fun w9 sw9 => ?_
  have rg := sw9.keep rg (by omega)
  have r1 := sw9.keep r1 (by omega)
  have r2 := sw9.keep r2 (by omega)
  have r4 := sw9.keep r4 (by omega)
  have r8 := sw9.row
  have zw9 := sw9.size
  have u : Below w.heap.size w w9 := u.trans (sw9.below _ (by omega))
  refine lg_nil (nx (E' := [(2, _), (4, _), (7, _), (9, _), (11, _), (12, _)]) (fk rfl (fk rfl (fk rfl (fk rfl (fk rfl (fk rfl fn)))))) ?_)
  refine cg_seq (cg_region ?_)
  refine ls (y_row r4 hu8 (hs8 _) rfl rfl) rfl rfl (by decide) ?_
  refine ls (y_row r2 huo (hso _) rfl rfl) rfl rfl (by decide) ?_
  refine lg_call (mix_any _ _ _ rg) (by kernel_rfl) rfl rfl rfl rfl (by decide) ?_
  rintro _ w10 ⟨rfl, hw10⟩
  have rg := rg.below hw10 rg.lt
  have r1 := r1.below hw10 r1.lt
  have r2 := r2.below hw10 r2.lt
  have r4 := r4.below hw10 r4.lt
  have r8 := r8.below hw10 r8.lt
  have zw10 := hw10.size
  have u : Below w.heap.size w w10 := u.trans (hw10.mono u.size)
  refine lg_alloc rfl hz8 rfl rfl (by decide) fun b11 w11 n11 => ?_
  have rg := n11.keep rg
  have r1 := n11.keep r1
  have r2 := n11.keep r2
  have r4 := n11.keep r4
  have r8 := n11.keep r8
  have r11 := n11.row
  have k11 := n11.blk
  have z11 := n11.size
  have u : Below w.heap.size w w11 := u.trans (n11.below.mono u.size)
  refine lg_store_row r11 rfl rfl rfl (hs8 _) (by simp only [cW_size]) (cW_one _ _) rfl rfl fun w12 sw12 => ?_
  have rg := sw12.keep rg (by omega)
  have r1 := sw12.keep r1 (by omega)
  have r2 := sw12.keep r2 (by omega)
  have r4 := sw12.keep r4 (by omega)
  have r8 := sw12.keep r8 (by omega)
  have r11 := sw12.row
  have zw12 := sw12.size
  have u : Below w.heap.size w w12 := u.trans (sw12.below _ (by omega))
  refine lg_nil (nx (E' := [(2, _), (4, _), (9, _), (11, _), (12, _), (13, _)]) (fk rfl (fk rfl (fk rfl (fk rfl (fk rfl (fk rfl fn)))))) ?_)
  refine cg_seq (cg_region ?_)
  refine ls (y_assign rfl rfl) rfl rfl (by decide) ?_
  refine lg_nil (nx (E' := [(2, _), (4, _), (9, _), (11, _), (12, _), (13, _), (14, _)]) (fk rfl (fk rfl (fk rfl (fk rfl (fk rfl (fk rfl (fk rfl fn))))))) ?_)
  refine cg_seq ?_
  refine cg_seq (cg_region ?_)
  refine ls (y_assign (v := iv 0) rfl rfl) rfl rfl (by decide) ?_
  refine lg_nil (nx (E' := [(2, _), (4, _), (9, _), (11, _), (12, _), (13, _), (14, _), (15, _)]) (fk rfl (fk rfl (fk rfl (fk rfl (fk rfl (fk rfl (fk rfl (fk rfl fn)))))))) ?_)
  refine cg_block fun a ha => ?_
  refine cg_loop (fun n a v => Holds 62 [(2, wv y), (4, pv b1 0), (9, .bool true), (11, pv b4 0), (12, pv b8 0), (13, pv b11 0), (14, .bool (sm (mixF h b) h (mixF (upd h i (h i ^^^ y)) b) (upd h i (h i ^^^ y)) n)), (15, iv n)] a ∧ RowAt v b1 23 (cW 8 h) ∧ RowAt v b4 23 (cW 8 (upd h i (h i ^^^ y))) ∧ RowAt v b8 23 (cW 8 (mixF h b)) ∧ RowAt v b11 23 (cW 8 (mixF (upd h i (h i ^^^ y)) b)) ∧ Below w.heap.size w v) 8 ⟨ha.keep (fk rfl (fk rfl (fk rfl (fk rfl (fk rfl (fk rfl (fk rfl (fk rfl fn)))))))), r1, r4, r8, r11, u⟩ ?_
  clear a ha
  rintro n a v ht ⟨ha, r1, r4, r8, r11, u⟩
  refine cg_at ha ?_
  clear a ha
  have zu := u.size
  have q1 := r1.lt
  have q4 := r4.lt
  have q8 := r8.lt
  have q11 := r11.lt
  refine cg_seq ?_
  refine cg_seq (cg_region ?_)
  refine ls (y_move rfl rfl) rfl rfl (by decide) ?_
  refine ls (y_ilss (n) (8) rfl rfl rfl) rfl rfl (by decide) ?_
  refine lg_nil (nx (E' := [(2, _), (4, _), (9, _), (11, _), (12, _), (13, _), (14, _), (15, _), (34, _)]) (fk rfl (fk rfl (fk rfl (fk rfl (fk rfl (fk rfl (fk rfl (fk rfl (fk rfl fn))))))))) ?_)
  refine cg_cond (decide (n < 8)) rfl (fun hlt => ?_) (fun hge => ?_)
  · have hlt : n < 8 := of_decide_eq_true hlt
    refine cg_skip (nx (E' := [(2, _), (4, _), (9, _), (11, _), (12, _), (13, _), (14, _), (15, _)]) (fk rfl (fk rfl (fk rfl (fk rfl (fk rfl (fk rfl (fk rfl (fk rfl fn)))))))) ?_)
    refine cg_seq (cg_block ?_)
    cases hs : sm (mixF h b) h (mixF (upd h i (h i ^^^ y)) b) (upd h i (h i ^^^ y)) n
    · have es : sm (mixF h b) h (mixF (upd h i (h i ^^^ y)) b) (upd h i (h i ^^^ y)) (n + 1) = false := by simp [sm, hs]
      refine cg_still (by kernel_rfl) (by kernel_rfl) fun W13 hW13 => ?_
      have r1 := (show RowAt W13 b1 _ _ from by subst hW13; exact r1)
      have r4 := (show RowAt W13 b4 _ _ from by subst hW13; exact r4)
      have r8 := (show RowAt W13 b8 _ _ from by subst hW13; exact r8)
      have r11 := (show RowAt W13 b11 _ _ from by subst hW13; exact r11)
      have zW13 : W13.heap.size = v.heap.size := by subst hW13; rfl
      have u : Below w.heap.size w W13 := by subst hW13; exact u.drew
      clear hW13
      refine st (y_move rfl rfl) rfl rfl (by decide) ?_
      refine st (y_move rfl rfl) rfl rfl (by decide) ?_
      refine stk (want_f (dj := 38) (by rfl) (by kernel_rfl) rfl) rfl (by decide) ?_
      refine stk (want_f (dj := 38) (by rfl) (by kernel_rfl) rfl) rfl (by decide) ?_
      refine stk (want_f (dj := 38) (by rfl) (by kernel_rfl) rfl) rfl (by decide) ?_
      refine stk (want_f (dj := 38) (by rfl) (by kernel_rfl) rfl) rfl (by decide) ?_
      refine stk (want_f (dj := 38) (by rfl) (by kernel_rfl) rfl) rfl (by decide) ?_
      refine stk (want_f (dj := 38) (by rfl) (by kernel_rfl) rfl) rfl (by decide) ?_
      refine stk (want_f (dj := 38) (by rfl) (by kernel_rfl) rfl) rfl (by decide) ?_
      refine stk (want_f (dj := 38) (by rfl) (by kernel_rfl) rfl) rfl (by decide) ?_
      refine stk (want_f (dj := 38) (by rfl) (by kernel_rfl) rfl) rfl (by decide) ?_
      refine stk (want_f (dj := 38) (by rfl) (by kernel_rfl) rfl) rfl (by decide) ?_
      refine stk (want_f (dj := 38) (by rfl) (by kernel_rfl) rfl) rfl (by decide) ?_
      refine stk (want_f (dj := 38) (by rfl) (by kernel_rfl) rfl) rfl (by decide) ?_
      refine stk (want_f (dj := 38) (by rfl) (by kernel_rfl) rfl) rfl (by decide) ?_
      refine stk (want_f (dj := 38) (by rfl) (by kernel_rfl) rfl) rfl (by decide) ?_
      refine stk (want_f (dj := 38) (by rfl) (by kernel_rfl) rfl) rfl (by decide) ?_
      refine st (y_pick false rfl rfl rfl) rfl rfl (by decide) ?_
      refine st (y_assign rfl rfl) rfl rfl (by decide) ?_
      refine sg_nil (nxb (E' := [(2, _), (4, _), (9, _), (11, _), (12, _), (13, _), (14, _), (15, _)]) (fk rfl (fk rfl (fk rfl (fk rfl (fk rfl (fk rfl (fk rfl (fk rfl fn)))))))) ?_)
      refine cg_region ?_
      refine ls (y_move rfl rfl) rfl rfl (by decide) ?_
      refine ls (y_iadd (n) (1) (by omega) rfl rfl rfl) rfl rfl (by decide) ?_
      refine ls (y_assign rfl rfl) rfl rfl (by decide) ?_
      exact lg_nil fun a ha => (show n < 8 ∧ _ from ⟨by omega, (by rw [es]; exact ha.keep (fk rfl (fk rfl (fk rfl (fk rfl (fk rfl (fk rfl (fk rfl (fk rfl fn))))))))), r1, r4, r8, r11, u⟩)
    · have es : sm (mixF h b) h (mixF (upd h i (h i ^^^ y)) b) (upd h i (h i ^^^ y)) (n + 1) = decide (mixF h b n - h n = mixF (upd h i (h i ^^^ y)) b n - (upd h i (h i ^^^ y)) n) := by simp [sm, hs]
      refine cg_still (by kernel_rfl) (by kernel_rfl) fun W13 hW13 => ?_
      have r1 := (show RowAt W13 b1 _ _ from by subst hW13; exact r1)
      have r4 := (show RowAt W13 b4 _ _ from by subst hW13; exact r4)
      have r8 := (show RowAt W13 b8 _ _ from by subst hW13; exact r8)
      have r11 := (show RowAt W13 b11 _ _ from by subst hW13; exact r11)
      have zW13 : W13.heap.size = v.heap.size := by subst hW13; rfl
      have u : Below w.heap.size w W13 := by subst hW13; exact u.drew
      clear hW13
      refine st (y_move rfl rfl) rfl rfl (by decide) ?_
      refine st (y_move rfl rfl) rfl rfl (by decide) ?_
      refine stw (want_t (dj := 38) (by rfl) (by kernel_rfl) rfl) (y_move rfl rfl) rfl (by decide) ?_
      refine stw (want_t (dj := 38) (by rfl) (by kernel_rfl) rfl) (y_ixa (j := n) hu8 hsw (by omega) rfl rfl rfl) rfl (by decide) ?_
      refine stw (want_t (dj := 38) (by rfl) (by kernel_rfl) rfl) (y_cell r8 (cW_get (by omega)) huw rfl rfl) rfl (by decide) ?_
      refine stw (want_t (dj := 38) (by rfl) (by kernel_rfl) rfl) (y_move rfl rfl) rfl (by decide) ?_
      refine stw (want_t (dj := 38) (by rfl) (by kernel_rfl) rfl) (y_ixa (j := n) hu8 hsw (by omega) rfl rfl rfl) rfl (by decide) ?_
      refine stw (want_t (dj := 38) (by rfl) (by kernel_rfl) rfl) (y_cell r1 (cW_get (by omega)) huw rfl rfl) rfl (by decide) ?_
      refine stw (want_t (dj := 38) (by rfl) (by kernel_rfl) rfl) (y_sub rfl rfl rfl) rfl (by decide) ?_
      refine stw (want_t (dj := 38) (by rfl) (by kernel_rfl) rfl) (y_move rfl rfl) rfl (by decide) ?_
      refine stw (want_t (dj := 38) (by rfl) (by kernel_rfl) rfl) (y_ixa (j := n) hu8 hsw (by omega) rfl rfl rfl) rfl (by decide) ?_
      refine stw (want_t (dj := 38) (by rfl) (by kernel_rfl) rfl) (y_cell r11 (cW_get (by omega)) huw rfl rfl) rfl (by decide) ?_
      refine stw (want_t (dj := 38) (by rfl) (by kernel_rfl) rfl) (y_move rfl rfl) rfl (by decide) ?_
      refine stw (want_t (dj := 38) (by rfl) (by kernel_rfl) rfl) (y_ixa (j := n) hu8 hsw (by omega) rfl rfl rfl) rfl (by decide) ?_
      refine stw (want_t (dj := 38) (by rfl) (by kernel_rfl) rfl) (y_cell r4 (cW_get (by omega)) huw rfl rfl) rfl (by decide) ?_
      refine stw (want_t (dj := 38) (by rfl) (by kernel_rfl) rfl) (y_sub rfl rfl rfl) rfl (by decide) ?_
      refine stw (want_t (dj := 38) (by rfl) (by kernel_rfl) rfl) (y_weq rfl rfl rfl) rfl (by decide) ?_
      refine st (y_pick true rfl rfl rfl) rfl rfl (by decide) ?_
      refine st (y_assign rfl rfl) rfl rfl (by decide) ?_
      refine sg_nil (nxb (E' := [(2, _), (4, _), (9, _), (11, _), (12, _), (13, _), (14, _), (15, _)]) (fk rfl (fk rfl (fk rfl (fk rfl (fk rfl (fk rfl (fk rfl (fk rfl fn)))))))) ?_)
      refine cg_region ?_
      refine ls (y_move rfl rfl) rfl rfl (by decide) ?_
      refine ls (y_iadd (n) (1) (by omega) rfl rfl rfl) rfl rfl (by decide) ?_
      refine ls (y_assign rfl rfl) rfl rfl (by decide) ?_
      exact lg_nil fun a ha => (show n < 8 ∧ _ from ⟨by omega, (by rw [es]; exact ha.keep (fk rfl (fk rfl (fk rfl (fk rfl (fk rfl (fk rfl (fk rfl (fk rfl fn))))))))), r1, r4, r8, r11, u⟩)
  · have hge := of_decide_eq_false hge
    obtain rfl : n = 8 := by omega
    refine cg_exit (ex_out ?_)
    refine nx (E' := [(2, _), (9, _), (14, _)]) (fk rfl (fk rfl (fk rfl fn))) ?_
    rw [undo_sm h b i y hi]
    refine cg_seq (cg_region ?_)
    refine ls (y_move rfl rfl) rfl rfl (by decide) ?_
    refine ls (y_move rfl rfl) rfl rfl (by decide) ?_
    refine lsw (want_t (dj := 56) (by rfl) (by kernel_rfl) rfl) (y_move rfl rfl) rfl (by decide) ?_
    refine lsw (want_t (dj := 56) (by rfl) (by kernel_rfl) rfl) (y_move rfl rfl) rfl (by decide) ?_
    refine lsw (want_t (dj := 56) (by rfl) (by kernel_rfl) rfl) (y_weq (Y := 0#32) rfl rfl (by kernel_rfl)) rfl (by decide) ?_
    refine lsw (want_t (dj := 56) (by rfl) (by kernel_rfl) rfl) (y_beq_t hubo rfl rfl rfl rfl) rfl (by decide) ?_
    refine ls (y_pick true rfl rfl rfl) rfl rfl (by decide) ?_
    refine ls (y_assign rfl rfl) rfl rfl (by decide) ?_
    refine lg_nil (nx (E' := [(8, _)]) (fk rfl fn) ?_)
    exact ret_tmp rfl rfl ⟨rfl, u⟩
end Go.Proofs.YtnogmcldjfbfoaaDoor
