/-
  The walk of a law.
-/
import Derived.Test.YtnogmcldjfbfoaaDoorBlRule
import Derived.Test.YtnogmcldjfbfoaaDoorBlAwake
import Derived.Test.YtnogmcldjfbfoaaDoorBlMath
namespace Go.Proofs.YtnogmcldjfbfoaaDoor
open Go.ChangeShapes Go.WideShapes Go.ChangeAt Go.RowKit
set_option linter.unusedVariables false
set_option maxRecDepth 20000
theorem words_law (h : Nat → BitVec 32) (b : Nat → BitVec 8) (kk : Int) (y : BitVec 8) (w : World) {tg : TypeId} (rg : RowAt w 0 tg (cW 64 num)) : Calls Tryd.prog 6 #[.agg (cW 8 h), .agg (cB 64 b), .int .i64 kk, ov y] w fun e w' => e = .returned (.bool true) ∧ Below w.heap.size w w' := by
  refine calls_cg (n := 69) Tryd.func6 rfl Tryd.ntmps6 (by simp) ?_
  show CG _ _ _ [(0, .agg (cW 8 h)), (1, .agg (cB 64 b)), (2, .int .i64 kk), (3, ov y)] _ _
  have u := Below.refl w.heap.size w
  have kg := rg.lt
  refine cg_seq (cg_region ?_)
  refine lg_box rfl rfl (hs8 _) rfl rfl (by decide) fun b1 w1 n1 => ?_
  have rg := n1.keep rg
  have r1 := n1.row
  have k1 := n1.blk
  have z1 := n1.size
  have u : Below w.heap.size w w1 := u.trans (n1.below.mono u.size)
  refine lg_box rfl rfl (hso _) rfl rfl (by decide) fun b2 w2 n2 => ?_
  have rg := n2.keep rg
  have r1 := n2.keep r1
  have r2 := n2.row
  have k2 := n2.blk
  have z2 := n2.size
  have u : Below w.heap.size w w2 := u.trans (n2.below.mono u.size)
  refine ls (y_assign rfl rfl) rfl rfl (by decide) ?_
  refine lg_nil (nx (E' := [(2, _), (3, _), (4, _), (5, _)]) (fk rfl (fk rfl (fk rfl (fk rfl fn)))) ?_)
  refine cg_seq (cg_region ?_)
  refine lg_call (awake_any _ rg) (by kernel_rfl) rfl rfl rfl rfl (by decide) ?_
  rintro _ w3 ⟨rfl, hw3⟩
  have rg := rg.below hw3 rg.lt
  have r1 := r1.below hw3 r1.lt
  have r2 := r2.below hw3 r2.lt
  have zw3 := hw3.size
  have u : Below w.heap.size w w3 := u.trans (hw3.mono u.size)
  refine ls (y_assign rfl rfl) rfl rfl (by decide) ?_
  refine lg_nil (nx (E' := [(2, _), (3, _), (4, _), (5, _), (9, _)]) (fk rfl (fk rfl (fk rfl (fk rfl (fk rfl fn))))) ?_)
  refine cg_seq (cg_region ?_)
  refine ls (y_row r2 huo (hso _) rfl rfl) rfl rfl (by decide) ?_
  refine lg_alloc rfl hzo rfl rfl (by decide) fun b4 w4 n4 => ?_
  have rg := n4.keep rg
  have r1 := n4.keep r1
  have r2 := n4.keep r2
  have r4 := n4.row
  have k4 := n4.blk
  have z4 := n4.size
  have u : Below w.heap.size w w4 := u.trans (n4.below.mono u.size)
  refine lg_store_row r4 rfl rfl rfl (hso _) (by simp only [cB_size]) (cB_one _ _) rfl rfl fun w5 sw5 => ?_
  have rg := sw5.keep rg (by omega)
  have r1 := sw5.keep r1 (by omega)
  have r2 := sw5.keep r2 (by omega)
  have r4 := sw5.row
  have zw5 := sw5.size
  have u : Below w.heap.size w w5 := u.trans (sw5.below _ (by omega))
  refine lg_nil (nx (E' := [(2, _), (3, _), (4, _), (5, _), (9, _), (10, _)]) (fk rfl (fk rfl (fk rfl (fk rfl (fk rfl (fk rfl fn)))))) ?_)
  refine cg_seq (cg_region ?_)
  refine ls (y_move rfl rfl) rfl rfl (by decide) ?_
  refine ls (y_iand 63 (by decide) rfl rfl rfl) rfl rfl (by decide) ?_
  refine ls (y_assign rfl rfl) rfl rfl (by decide) ?_
  refine lg_nil (nx (E' := [(3, _), (4, _), (5, _), (9, _), (10, _), (11, _)]) (fk rfl (fk rfl (fk rfl (fk rfl (fk rfl (fk rfl fn)))))) ?_)
  have hi : (BitVec.ofInt 64 kk &&& BitVec.ofNat 64 63).toNat < 64 := by
    rw [BitVec.toNat_and]
    exact Nat.lt_of_le_of_lt Nat.and_le_right (by decide)
  generalize (BitVec.ofInt 64 kk &&& BitVec.ofNat 64 63).toNat = i at hi ⊢
  refine cg_seq (cg_region ?_)
  refine ls (y_move rfl rfl) rfl rfl (by decide) ?_
  refine ls (y_move rfl rfl) rfl rfl (by decide) ?_
  refine ls (y_ixa (j := i) huo hsb (by omega) rfl rfl rfl) rfl rfl (by decide) ?_
  refine ls (y_cell r2 (cB_get (by omega)) hub rfl rfl) rfl rfl (by decide) ?_
  refine ls (y_move rfl rfl) rfl rfl (by decide) ?_
  refine ls (y_oxor rfl rfl rfl) rfl rfl (by decide) ?_
  refine ls (y_ixa (j := i) huo hsb (by omega) rfl rfl rfl) rfl rfl (by decide) ?_
  refine lg_store r4 (by rw [cB_size]; omega) rfl rfl rfl rfl hsb rfl rfl fun w6 sw6 => ?_
  rw [cB_set] at sw6
  have rg := sw6.keep rg (by omega)
  have r1 := sw6.keep r1 (by omega)
  have r2 := sw6.keep r2 (by omega)
  have r4 := sw6.row
  have zw6 := sw6.size
  have u : Below w.heap.size w w6 := u.trans (sw6.below _ (by omega))
  refine lg_nil (nx (E' := [(3, _), (4, _), (5, _), (9, _), (10, _), (11, _)]) (fk rfl (fk rfl (fk rfl (fk rfl (fk rfl (fk rfl fn)))))) ?_)
  refine cg_seq (cg_region ?_)
  refine ls (y_row r2 huo (hso _) rfl rfl) rfl rfl (by decide) ?_
  refine lg_call (spread_any _ _) (by kernel_rfl) rfl rfl rfl rfl (by decide) ?_
  rintro _ w7 ⟨rfl, hw7⟩
  have rg := rg.below hw7 rg.lt
  have r1 := r1.below hw7 r1.lt
  have r2 := r2.below hw7 r2.lt
  have r4 := r4.below hw7 r4.lt
  have zw7 := hw7.size
  have u : Below w.heap.size w w7 := u.trans (hw7.mono u.size)
  refine lg_alloc rfl hz64 rfl rfl (by decide) fun b8 w8 n8 => ?_
  have rg := n8.keep rg
  have r1 := n8.keep r1
  have r2 := n8.keep r2
  have r4 := n8.keep r4
  have r8 := n8.row
  have k8 := n8.blk
  have z8 := n8.size
  have u : Below w.heap.size w w8 := u.trans (n8.below.mono u.size)
  refine lg_store_row r8 rfl rfl rfl (hs64 _) (by simp only [cW_size]) (cW_one _ _) rfl rfl fun w9 sw9 => ?_
  have rg := sw9.keep rg (by omega)
  have r1 := sw9.keep r1 (by omega)
  have r2 := sw9.keep r2 (by omega)
  have r4 := sw9.keep r4 (by omega)
  have r8 := sw9.row
  have zw9 := sw9.size
  have u : Below w.heap.size w w9 := u.trans (sw9.below _ (by omega))
  refine lg_nil (nx (E' := [(3, _), (4, _), (5, _), (9, _), (10, _), (11, _), (12, _)]) (fk rfl (fk rfl (fk rfl (fk rfl (fk rfl (fk rfl (fk rfl fn))))))) ?_)
  refine cg_seq (cg_region ?_)
  refine ls (y_row r4 huo (hso _) rfl rfl) rfl rfl (by decide) ?_
  refine lg_call (spread_any _ _) (by kernel_rfl) rfl rfl rfl rfl (by decide) ?_
  rintro _ w10 ⟨rfl, hw10⟩
  have rg := rg.below hw10 rg.lt
  have r1 := r1.below hw10 r1.lt
  have r2 := r2.below hw10 r2.lt
  have r4 := r4.below hw10 r4.lt
  have r8 := r8.below hw10 r8.lt
  have zw10 := hw10.size
  have u : Below w.heap.size w w10 := u.trans (hw10.mono u.size)
  refine lg_alloc rfl hz64 rfl rfl (by decide) fun b11 w11 n11 => ?_
  have rg := n11.keep rg
  have r1 := n11.keep r1
  have r2 := n11.keep r2
  have r4 := n11.keep r4
  have r8 := n11.keep r8
  have r11 := n11.row
  have k11 := n11.blk
  have z11 := n11.size
  have u : Below w.heap.size w w11 := u.trans (n11.below.mono u.size)
  refine lg_store_row r11 rfl rfl rfl (hs64 _) (by simp only [cW_size]) (cW_one _ _) rfl rfl fun w12 sw12 => ?_
  have rg := sw12.keep rg (by omega)
  have r1 := sw12.keep r1 (by omega)
  have r2 := sw12.keep r2 (by omega)
  have r4 := sw12.keep r4 (by omega)
  have r8 := sw12.keep r8 (by omega)
  have r11 := sw12.row
  have zw12 := sw12.size
  have u : Below w.heap.size w w12 := u.trans (sw12.below _ (by omega))
  refine lg_nil (nx (E' := [(3, _), (4, _), (5, _), (9, _), (10, _), (11, _), (12, _), (13, _)]) (fk rfl (fk rfl (fk rfl (fk rfl (fk rfl (fk rfl (fk rfl (fk rfl fn)))))))) ?_)
  refine cg_seq ?_
  refine cg_seq (cg_region ?_)
  refine ls (y_assign (v := iv 0) rfl rfl) rfl rfl (by decide) ?_
  refine lg_nil (nx (E' := [(3, _), (4, _), (5, _), (9, _), (10, _), (11, _), (12, _), (13, _), (14, _)]) (fk rfl (fk rfl (fk rfl (fk rfl (fk rfl (fk rfl (fk rfl (fk rfl (fk rfl fn))))))))) ?_)
  refine cg_block fun a ha => ?_
  refine cg_loop (fun t a v => Holds 69 [(3, ov y), (4, pv b1 0), (5, pv b2 0), (9, .bool true), (10, pv b4 0), (11, iv i), (12, pv b8 0), (13, pv b11 0), (14, iv t)] a ∧ RowAt v 0 tg (cW 64 num) ∧ RowAt v b1 23 (cW 8 h) ∧ RowAt v b2 24 (cB 64 b) ∧ RowAt v b4 24 (cB 64 (upd b i (b i ^^^ y))) ∧ RowAt v b8 27 (cW 64 (spr b)) ∧ RowAt v b11 27 (cW 64 (spr (upd b i (b i ^^^ y)))) ∧ Below w.heap.size w v) 16 ⟨ha.keep (fk rfl (fk rfl (fk rfl (fk rfl (fk rfl (fk rfl (fk rfl (fk rfl (fk rfl fn))))))))), rg, r1, r2, r4, r8, r11, u⟩ ?_
  clear a ha
  rintro t a v ht ⟨ha, rg, r1, r2, r4, r8, r11, u⟩
  refine cg_at ha ?_
  clear a ha
  have zu := u.size
  have qg0 := rg.lt
  have q1 := r1.lt
  have q2 := r2.lt
  have q4 := r4.lt
  have q8 := r8.lt
  have q11 := r11.lt
  refine cg_seq ?_
  refine cg_seq (cg_region ?_)
  refine ls (y_move rfl rfl) rfl rfl (by decide) ?_
  refine ls (y_ilss (t) (16) rfl rfl rfl) rfl rfl (by decide) ?_
  refine lg_nil (nx (E' := [(3, _), (4, _), (5, _), (9, _), (10, _), (11, _), (12, _), (13, _), (14, _), (31, _)]) (fk rfl (fk rfl (fk rfl (fk rfl (fk rfl (fk rfl (fk rfl (fk rfl (fk rfl (fk rfl fn)))))))))) ?_)
  refine cg_cond (decide (t < 16)) rfl (fun hlt => ?_) (fun hge => ?_)
  · have hlt : t < 16 := of_decide_eq_true hlt
    refine cg_skip (nx (E' := [(3, _), (4, _), (5, _), (9, _), (10, _), (11, _), (12, _), (13, _), (14, _)]) (fk rfl (fk rfl (fk rfl (fk rfl (fk rfl (fk rfl (fk rfl (fk rfl (fk rfl fn))))))))) ?_)
    refine cg_seq (cg_block ?_)
    have hw := words_iff b i t y hlt
    by_cases hy : y = 0#8
    · have hE : decide (spr b t = spr (upd b i (b i ^^^ y)) t) = true := by
        exact decide_eq_true (hw.2 (.inl hy))
      refine cg_seq (cg_still (by kernel_rfl) (by kernel_rfl) fun W13 hW13 => ?_)
      have rg := (show RowAt W13 0 _ _ from by subst hW13; exact rg)
      have r1 := (show RowAt W13 b1 _ _ from by subst hW13; exact r1)
      have r2 := (show RowAt W13 b2 _ _ from by subst hW13; exact r2)
      have r4 := (show RowAt W13 b4 _ _ from by subst hW13; exact r4)
      have r8 := (show RowAt W13 b8 _ _ from by subst hW13; exact r8)
      have r11 := (show RowAt W13 b11 _ _ from by subst hW13; exact r11)
      have zW13 : W13.heap.size = v.heap.size := by subst hW13; rfl
      have u : Below w.heap.size w W13 := by subst hW13; exact u.drew
      clear hW13
      refine st (y_move rfl rfl) rfl rfl (by decide) ?_
      refine st (y_ixa (j := t) hu64 hsw (by omega) rfl rfl rfl) rfl rfl (by decide) ?_
      refine st (y_cell r8 (cW_get (by omega)) huw rfl rfl) rfl rfl (by decide) ?_
      refine st (y_move rfl rfl) rfl rfl (by decide) ?_
      refine st (y_ixa (j := t) hu64 hsw (by omega) rfl rfl rfl) rfl rfl (by decide) ?_
      refine st (y_cell r11 (cW_get (by omega)) huw rfl rfl) rfl rfl (by decide) ?_
      refine st (y_weq rfl rfl rfl) rfl rfl (by decide) ?_
      refine st (y_move rfl rfl) rfl rfl (by decide) ?_
      refine st (y_oeq_t (Y := 0#8) hy rfl rfl (by kernel_rfl)) rfl rfl (by decide) ?_
      refine st (y_move rfl rfl) rfl rfl (by decide) ?_
      refine stk (want_f (dj := 43) (by rfl) (by kernel_rfl) rfl) rfl (by decide) ?_
      refine stk (want_f (dj := 43) (by rfl) (by kernel_rfl) rfl) rfl (by decide) ?_
      refine stk (want_f (dj := 43) (by rfl) (by kernel_rfl) rfl) rfl (by decide) ?_
      refine stk (want_f (dj := 43) (by rfl) (by kernel_rfl) rfl) rfl (by decide) ?_
      refine st (y_pick true rfl rfl rfl) rfl rfl (by decide) ?_
      refine st (y_bne_f hubo hE rfl rfl rfl) rfl rfl (by decide) ?_
      refine sg_nil (nx (E' := [(3, _), (4, _), (5, _), (9, _), (10, _), (11, _), (12, _), (13, _), (14, _), (49, _)]) (fk rfl (fk rfl (fk rfl (fk rfl (fk rfl (fk rfl (fk rfl (fk rfl (fk rfl (fk rfl fn)))))))))) ?_)
      refine cg_cond false rfl (fun h => by cases h) (fun _ => ?_)
      refine cg_skip (nxb (E' := [(3, _), (4, _), (5, _), (9, _), (10, _), (11, _), (12, _), (13, _), (14, _)]) (fk rfl (fk rfl (fk rfl (fk rfl (fk rfl (fk rfl (fk rfl (fk rfl (fk rfl fn))))))))) ?_)
      refine cg_region ?_
      refine ls (y_move rfl rfl) rfl rfl (by decide) ?_
      refine ls (y_iadd (t) (1) (by omega) rfl rfl rfl) rfl rfl (by decide) ?_
      refine ls (y_assign rfl rfl) rfl rfl (by decide) ?_
      exact lg_nil fun a ha => (show t < 16 ∧ _ from ⟨by omega, ha.keep (fk rfl (fk rfl (fk rfl (fk rfl (fk rfl (fk rfl (fk rfl (fk rfl (fk rfl fn))))))))), rg, r1, r2, r4, r8, r11, u⟩)
    · have hE : decide (spr b t = spr (upd b i (b i ^^^ y)) t) = !decide (t = i / 4) := by
        by_cases q : t = i / 4
        · rw [decide_eq_false (fun e => (hw.1 e).elim hy (fun z => z q)), decide_eq_true q]
          rfl
        · rw [decide_eq_true (hw.2 (.inr q)), decide_eq_false q]
          rfl
      refine cg_seq (cg_still (by kernel_rfl) (by kernel_rfl) fun W13 hW13 => ?_)
      have rg := (show RowAt W13 0 _ _ from by subst hW13; exact rg)
      have r1 := (show RowAt W13 b1 _ _ from by subst hW13; exact r1)
      have r2 := (show RowAt W13 b2 _ _ from by subst hW13; exact r2)
      have r4 := (show RowAt W13 b4 _ _ from by subst hW13; exact r4)
      have r8 := (show RowAt W13 b8 _ _ from by subst hW13; exact r8)
      have r11 := (show RowAt W13 b11 _ _ from by subst hW13; exact r11)
      have zW13 : W13.heap.size = v.heap.size := by subst hW13; rfl
      have u : Below w.heap.size w W13 := by subst hW13; exact u.drew
      clear hW13
      refine st (y_move rfl rfl) rfl rfl (by decide) ?_
      refine st (y_ixa (j := t) hu64 hsw (by omega) rfl rfl rfl) rfl rfl (by decide) ?_
      refine st (y_cell r8 (cW_get (by omega)) huw rfl rfl) rfl rfl (by decide) ?_
      refine st (y_move rfl rfl) rfl rfl (by decide) ?_
      refine st (y_ixa (j := t) hu64 hsw (by omega) rfl rfl rfl) rfl rfl (by decide) ?_
      refine st (y_cell r11 (cW_get (by omega)) huw rfl rfl) rfl rfl (by decide) ?_
      refine st (y_weq rfl rfl rfl) rfl rfl (by decide) ?_
      refine st (y_move rfl rfl) rfl rfl (by decide) ?_
      refine st (y_oeq_f (Y := 0#8) hy rfl rfl (by kernel_rfl)) rfl rfl (by decide) ?_
      refine st (y_move rfl rfl) rfl rfl (by decide) ?_
      refine stw (want_t (dj := 43) (by rfl) (by kernel_rfl) rfl) (y_move rfl rfl) rfl (by decide) ?_
      refine stw (want_t (dj := 43) (by rfl) (by kernel_rfl) rfl) (y_move rfl rfl) rfl (by decide) ?_
      refine stw (want_t (dj := 43) (by rfl) (by kernel_rfl) rfl) (y_iquo (i) (4) (by omega) (by omega) rfl rfl rfl) rfl (by decide) ?_
      refine stw (want_t (dj := 43) (by rfl) (by kernel_rfl) rfl) (y_ine (t) (i / 4) rfl rfl rfl) rfl (by decide) ?_
      refine st (y_pick false rfl rfl rfl) rfl rfl (by decide) ?_
      refine st (y_bne_f hubo hE rfl rfl rfl) rfl rfl (by decide) ?_
      refine sg_nil (nx (E' := [(3, _), (4, _), (5, _), (9, _), (10, _), (11, _), (12, _), (13, _), (14, _), (49, _)]) (fk rfl (fk rfl (fk rfl (fk rfl (fk rfl (fk rfl (fk rfl (fk rfl (fk rfl (fk rfl fn)))))))))) ?_)
      refine cg_cond false rfl (fun h => by cases h) (fun _ => ?_)
      refine cg_skip (nxb (E' := [(3, _), (4, _), (5, _), (9, _), (10, _), (11, _), (12, _), (13, _), (14, _)]) (fk rfl (fk rfl (fk rfl (fk rfl (fk rfl (fk rfl (fk rfl (fk rfl (fk rfl fn))))))))) ?_)
      refine cg_region ?_
      refine ls (y_move rfl rfl) rfl rfl (by decide) ?_
      refine ls (y_iadd (t) (1) (by omega) rfl rfl rfl) rfl rfl (by decide) ?_
      refine ls (y_assign rfl rfl) rfl rfl (by decide) ?_
      exact lg_nil fun a ha => (show t < 16 ∧ _ from ⟨by omega, ha.keep (fk rfl (fk rfl (fk rfl (fk rfl (fk rfl (fk rfl (fk rfl (fk rfl (fk rfl fn))))))))), rg, r1, r2, r4, r8, r11, u⟩)
  · have hge := of_decide_eq_false hge
    refine cg_exit (ex_out ?_)
    refine nx (E' := [(3, _), (4, _), (5, _), (9, _), (10, _), (12, _), (13, _)]) (fk rfl (fk rfl (fk rfl (fk rfl (fk rfl (fk rfl (fk rfl fn))))))) ?_
    by_cases hy : y = 0#8
    · subst hy
      rw [upd_same] at r4 r11
      refine cg_seq (cg_held (by kernel_rfl) fun W13 hW13 => ?_)
      have rg := (show RowAt W13 0 _ _ from by subst hW13; exact rg)
      have r1 := (show RowAt W13 b1 _ _ from by subst hW13; exact r1)
      have r2 := (show RowAt W13 b2 _ _ from by subst hW13; exact r2)
      have r4 := (show RowAt W13 b4 _ _ from by subst hW13; exact r4)
      have r8 := (show RowAt W13 b8 _ _ from by subst hW13; exact r8)
      have r11 := (show RowAt W13 b11 _ _ from by subst hW13; exact r11)
      have zW13 : W13.heap.size = v.heap.size := by subst hW13; rfl
      have u : Below w.heap.size w W13 := by subst hW13; exact u.drew
      clear hW13
      have p := Below.refl W13.heap.size W13
      have Rg0 := rg
      have lg0 := rg.lt
      have R1 := r1
      have l1 := r1.lt
      have R2 := r2
      have l2 := r2.lt
      have R4 := r4
      have l4 := r4.lt
      have R8 := r8
      have l8 := r8.lt
      have R11 := r11
      have l11 := r11.lt
      refine hg_take 0 (by rfl) (want_none (by rfl)) (by rfl) rfl (by decide) (by kernel_rfl) (by kernel_rfl) (by kernel_rfl) (fun _ _ _ h => h) p (fun q hq => y_move rfl rfl) ?_
      refine hg_take 1 (by rfl) (want_none (by rfl)) (by rfl) rfl (by decide) (by kernel_rfl) (by kernel_rfl) (by kernel_rfl) (fun _ _ _ h => h) p (fun q hq => y_move rfl rfl) ?_
      refine hg_take 2 (by rfl) (want_t (dj := 51) (by rfl) (by kernel_rfl) rfl) (by rfl) rfl (by decide) (by kernel_rfl) (by kernel_rfl) (by kernel_rfl) (fun _ _ _ h => h) p (fun q hq => y_move rfl rfl) ?_
      refine hg_take 3 (by rfl) (want_t (dj := 51) (by rfl) (by kernel_rfl) rfl) (by rfl) rfl (by decide) (by kernel_rfl) (by kernel_rfl) (by kernel_rfl) (fun _ _ _ h => h) p (fun q hq => y_one_f (Y := 0#8) rfl rfl rfl (by kernel_rfl)) ?_
      refine hg_take 4 (by rfl) (want_t (dj := 51) (by rfl) (by kernel_rfl) rfl) (by rfl) rfl (by decide) (by kernel_rfl) (by kernel_rfl) (by kernel_rfl) (fun _ _ _ h => h) p (fun q hq => y_move rfl rfl) ?_
      refine hg_take 5 (by rfl) (want_t (dj := 54) (by rfl) (by kernel_rfl) rfl) (by rfl) rfl (by decide) (by kernel_rfl) (by kernel_rfl) (by kernel_rfl) (fun _ _ _ h => h) p (fun q hq => y_row (R8.below hq l8) hu64 (hs64 _) rfl rfl) ?_
      refine hg_take 6 (by rfl) (want_t (dj := 54) (by rfl) (by kernel_rfl) rfl) (by rfl) rfl (by decide) (by kernel_rfl) (by kernel_rfl) (by kernel_rfl) (fun _ _ _ h => h) p (fun q hq => y_row (R11.below hq l11) hu64 (hs64 _) rfl rfl) ?_
      refine hg_take 7 (by rfl) (want_t (dj := 54) (by rfl) (by kernel_rfl) rfl) (by rfl) rfl (by decide) (by kernel_rfl) (by kernel_rfl) (by kernel_rfl) (fun _ _ _ h => h) p (fun q hq => y_aeq g64 hu64 hsw huw cW_int rfl rfl rfl) ?_
      refine hg_take 8 (by rfl) (want_t (dj := 54) (by rfl) (by kernel_rfl) rfl) (by rfl) rfl (by decide) (by kernel_rfl) (by kernel_rfl) (by kernel_rfl) (fun _ _ _ h => h) p (fun q hq => y_move rfl rfl) ?_
      refine hg_take 9 (by rfl) (want_t (dj := 58) (by rfl) (by kernel_rfl) rfl) (by rfl) rfl (by decide) (by kernel_rfl) (by kernel_rfl) (by kernel_rfl) (fun _ _ _ h => h) p (fun q hq => y_row (R1.below hq l1) hu8 (hs8 _) rfl rfl) ?_
      refine hg_take 10 (by rfl) (want_t (dj := 58) (by rfl) (by kernel_rfl) rfl) (by rfl) rfl (by decide) (by kernel_rfl) (by kernel_rfl) (by kernel_rfl) (fun _ _ _ h => h) p (fun q hq => y_row (R2.below hq l2) huo (hso _) rfl rfl) ?_
      refine hg_take 12 (by rfl) (want_t (dj := 58) (by rfl) (by kernel_rfl) rfl) (by rfl) rfl (by decide) (by kernel_rfl) (by kernel_rfl) (by kernel_rfl) (fun _ _ _ h => h) p (fun q hq => y_row (R1.below hq l1) hu8 (hs8 _) rfl rfl) ?_
      refine hg_take 13 (by rfl) (want_t (dj := 58) (by rfl) (by kernel_rfl) rfl) (by rfl) rfl (by decide) (by kernel_rfl) (by kernel_rfl) (by kernel_rfl) (fun _ _ _ h => h) p (fun q hq => y_row (R4.below hq l4) huo (hso _) rfl rfl) ?_
      refine hg_one 11 (by rfl) (by kernel_rfl) (want_t (dj := 58) (by rfl) (by kernel_rfl) rfl) ?_
      refine lg_callw (want_t (dj := 58) (by rfl) (by kernel_rfl) rfl) (mix_any _ _ _ rg) (by kernel_rfl) rfl rfl rfl (by decide) ?_
      rintro _ w14 ⟨rfl, hw14⟩
      have rg := rg.below hw14 rg.lt
      have r1 := r1.below hw14 r1.lt
      have r2 := r2.below hw14 r2.lt
      have r4 := r4.below hw14 r4.lt
      have r8 := r8.below hw14 r8.lt
      have r11 := r11.below hw14 r11.lt
      have zw14 := hw14.size
      have u : Below w.heap.size w w14 := u.trans (hw14.mono u.size)
      have p : Below W13.heap.size W13 w14 := p.trans (hw14.mono p.size)
      refine hg_next p ?_
      refine hg_one 14 (by rfl) (by kernel_rfl) (want_t (dj := 58) (by rfl) (by kernel_rfl) rfl) ?_
      refine lg_callw (want_t (dj := 58) (by rfl) (by kernel_rfl) rfl) (mix_any _ _ _ rg) (by kernel_rfl) rfl rfl rfl (by decide) ?_
      rintro _ w15 ⟨rfl, hw15⟩
      have rg := rg.below hw15 rg.lt
      have r1 := r1.below hw15 r1.lt
      have r2 := r2.below hw15 r2.lt
      have r4 := r4.below hw15 r4.lt
      have r8 := r8.below hw15 r8.lt
      have r11 := r11.below hw15 r11.lt
      have zw15 := hw15.size
      have u : Below w.heap.size w w15 := u.trans (hw15.mono u.size)
      have p : Below W13.heap.size W13 w15 := p.trans (hw15.mono p.size)
      refine hg_next p ?_
      refine hg_take 15 (by rfl) (want_t (dj := 58) (by rfl) (by kernel_rfl) rfl) (by rfl) rfl (by decide) (by kernel_rfl) (by kernel_rfl) (by kernel_rfl) (fun _ _ _ h => h) p (fun q hq => y_aeq g8 hu8 hsw huw cW_int rfl rfl rfl) ?_
      refine hg_take 16 (by rfl) (want_t (dj := 54) (by rfl) (by kernel_rfl) rfl) (by rfl) rfl (by decide) (by kernel_rfl) (by kernel_rfl) (by kernel_rfl) (fun _ _ _ h => h) p (fun q hq => y_pick true rfl rfl rfl) ?_
      refine hg_take 17 (by rfl) (want_t (dj := 51) (by rfl) (by kernel_rfl) rfl) (by rfl) rfl (by decide) (by kernel_rfl) (by kernel_rfl) (by kernel_rfl) (fun _ _ _ h => h) p (fun q hq => y_pick false rfl rfl rfl) ?_
      refine hg_take 18 (by rfl) (want_none (by rfl)) (by rfl) rfl (by decide) (by kernel_rfl) (by kernel_rfl) (by kernel_rfl) (fun _ _ _ h => h) p (fun q hq => y_pick true rfl rfl rfl) ?_
      refine hg_take 19 (by rfl) (want_none (by rfl)) (by rfl) rfl (by decide) (by kernel_rfl) (by kernel_rfl) (by kernel_rfl) (fun _ _ _ h => h) p (fun q hq => y_assign rfl rfl) ?_
      refine hg_done (by kernel_rfl) (nx (E' := [(8, _)]) (fk rfl fn) ?_)
      exact ret_tmp rfl rfl ⟨rfl, u⟩
    · refine cg_seq (cg_held (by kernel_rfl) fun W13 hW13 => ?_)
      have rg := (show RowAt W13 0 _ _ from by subst hW13; exact rg)
      have r1 := (show RowAt W13 b1 _ _ from by subst hW13; exact r1)
      have r2 := (show RowAt W13 b2 _ _ from by subst hW13; exact r2)
      have r4 := (show RowAt W13 b4 _ _ from by subst hW13; exact r4)
      have r8 := (show RowAt W13 b8 _ _ from by subst hW13; exact r8)
      have r11 := (show RowAt W13 b11 _ _ from by subst hW13; exact r11)
      have zW13 : W13.heap.size = v.heap.size := by subst hW13; rfl
      have u : Below w.heap.size w W13 := by subst hW13; exact u.drew
      clear hW13
      have p := Below.refl W13.heap.size W13
      have Rg0 := rg
      have lg0 := rg.lt
      have R1 := r1
      have l1 := r1.lt
      have R2 := r2
      have l2 := r2.lt
      have R4 := r4
      have l4 := r4.lt
      have R8 := r8
      have l8 := r8.lt
      have R11 := r11
      have l11 := r11.lt
      refine hg_take 0 (by rfl) (want_none (by rfl)) (by rfl) rfl (by decide) (by kernel_rfl) (by kernel_rfl) (by kernel_rfl) (fun _ _ _ h => h) p (fun q hq => y_move rfl rfl) ?_
      refine hg_take 1 (by rfl) (want_none (by rfl)) (by rfl) rfl (by decide) (by kernel_rfl) (by kernel_rfl) (by kernel_rfl) (fun _ _ _ h => h) p (fun q hq => y_move rfl rfl) ?_
      refine hg_take 2 (by rfl) (want_t (dj := 51) (by rfl) (by kernel_rfl) rfl) (by rfl) rfl (by decide) (by kernel_rfl) (by kernel_rfl) (by kernel_rfl) (fun _ _ _ h => h) p (fun q hq => y_move rfl rfl) ?_
      refine hg_take 3 (by rfl) (want_t (dj := 51) (by rfl) (by kernel_rfl) rfl) (by rfl) rfl (by decide) (by kernel_rfl) (by kernel_rfl) (by kernel_rfl) (fun _ _ _ h => h) p (fun q hq => y_one_t (Y := 0#8) hy rfl rfl (by kernel_rfl)) ?_
      refine hg_take 4 (by rfl) (want_t (dj := 51) (by rfl) (by kernel_rfl) rfl) (by rfl) rfl (by decide) (by kernel_rfl) (by kernel_rfl) (by kernel_rfl) (fun _ _ _ h => h) p (fun q hq => y_move rfl rfl) ?_
      refine hg_skip 5 (by rfl) (want_f (dj := 54) (by rfl) (by kernel_rfl) rfl) rfl (by decide) (by kernel_rfl) (by kernel_rfl) (by kernel_rfl) (fun _ _ _ h => h) p ?_
      refine hg_skip 6 (by rfl) (want_f (dj := 54) (by rfl) (by kernel_rfl) rfl) rfl (by decide) (by kernel_rfl) (by kernel_rfl) (by kernel_rfl) (fun _ _ _ h => h) p ?_
      refine hg_skip 7 (by rfl) (want_f (dj := 54) (by rfl) (by kernel_rfl) rfl) rfl (by decide) (by kernel_rfl) (by kernel_rfl) (by kernel_rfl) (fun _ _ _ h => h) p ?_
      refine hg_skip 8 (by rfl) (want_f (dj := 54) (by rfl) (by kernel_rfl) rfl) rfl (by decide) (by kernel_rfl) (by kernel_rfl) (by kernel_rfl) (fun _ _ _ h => h) p ?_
      refine hg_skip 9 (by rfl) (want_u (dj := 58) (by rfl) (by kernel_rfl) rfl) rfl (by decide) (by kernel_rfl) (by kernel_rfl) (by kernel_rfl) (fun _ _ _ h => h) p ?_
      refine hg_skip 10 (by rfl) (want_u (dj := 58) (by rfl) (by kernel_rfl) rfl) rfl (by decide) (by kernel_rfl) (by kernel_rfl) (by kernel_rfl) (fun _ _ _ h => h) p ?_
      refine hg_skip 12 (by rfl) (want_u (dj := 58) (by rfl) (by kernel_rfl) rfl) rfl (by decide) (by kernel_rfl) (by kernel_rfl) (by kernel_rfl) (fun _ _ _ h => h) p ?_
      refine hg_skip 13 (by rfl) (want_u (dj := 58) (by rfl) (by kernel_rfl) rfl) rfl (by decide) (by kernel_rfl) (by kernel_rfl) (by kernel_rfl) (fun _ _ _ h => h) p ?_
      refine hg_skip1 11 p (by rfl) (want_u (dj := 58) (by rfl) (by kernel_rfl) rfl) rfl (by decide) (by kernel_rfl) ?_
      refine hg_skip1 14 p (by rfl) (want_u (dj := 58) (by rfl) (by kernel_rfl) rfl) rfl (by decide) (by kernel_rfl) ?_
      refine hg_skip 15 (by rfl) (want_u (dj := 58) (by rfl) (by kernel_rfl) rfl) rfl (by decide) (by kernel_rfl) (by kernel_rfl) (by kernel_rfl) (fun _ _ _ h => h) p ?_
      refine hg_skip 16 (by rfl) (want_f (dj := 54) (by rfl) (by kernel_rfl) rfl) rfl (by decide) (by kernel_rfl) (by kernel_rfl) (by kernel_rfl) (fun _ _ _ h => h) p ?_
      refine hg_take 17 (by rfl) (want_t (dj := 51) (by rfl) (by kernel_rfl) rfl) (by rfl) rfl (by decide) (by kernel_rfl) (by kernel_rfl) (by kernel_rfl) (fun _ _ _ h => h) p (fun q hq => y_pick true rfl rfl rfl) ?_
      refine hg_take 18 (by rfl) (want_none (by rfl)) (by rfl) rfl (by decide) (by kernel_rfl) (by kernel_rfl) (by kernel_rfl) (fun _ _ _ h => h) p (fun q hq => y_pick true rfl rfl rfl) ?_
      refine hg_take 19 (by rfl) (want_none (by rfl)) (by rfl) rfl (by decide) (by kernel_rfl) (by kernel_rfl) (by kernel_rfl) (fun _ _ _ h => h) p (fun q hq => y_assign rfl rfl) ?_
      refine hg_done (by kernel_rfl) (nx (E' := [(8, _)]) (fk rfl fn) ?_)
      exact ret_tmp rfl rfl ⟨rfl, u⟩
end Go.Proofs.YtnogmcldjfbfoaaDoor
