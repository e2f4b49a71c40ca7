/-
  The contract of the example, and of the law that the answers are those of the document.
-/
import Derived.Test.YtnogmcldjfbfoaaDoorBlRule
import Derived.Test.YtnogmcldjfbfoaaDoorBlMix
import Derived.Test.YtnogmcldjfbfoaaDoorBlRef
import Derived.Test.YtnogmcldjfbfoaaDoorBlVal
namespace Go.Proofs.YtnogmcldjfbfoaaDoor
open Go.ChangeShapes Go.WideShapes Go.ChangeAt Go.RowKit
set_option linter.unusedVariables false
set_option maxRecDepth 20000
theorem awake_any (w : World) {tg : TypeId} (rg : RowAt w 0 tg (cW 64 num)) : Calls Tryd.prog 7 #[] w fun e w' => ∃ v, e = .returned v ∧ v = .bool true ∧ Below w.heap.size w w' := by
  refine calls_cg (n := 29) Tryd.func7 rfl Tryd.ntmps7 (by simp) ?_
  show CG _ _ _ [] _ _
  have u := Below.refl w.heap.size w
  have kg := rg.lt
  refine cg_seq (cg_region ?_)
  refine ls (y_assign rfl rfl) rfl rfl (by decide) ?_
  refine lg_nil (nx (E' := []) fn ?_)
  refine cg_seq (cg_region ?_)
  refine ls (y_build (cs := cB 64 fun _ => 0) rfl rfl (by kernel_rfl)) rfl rfl (by decide) ?_
  refine lg_alloc rfl hzo rfl rfl (by decide) fun b1 w1 n1 => ?_
  have rg := n1.keep rg
  have r1 := n1.row
  have k1 := n1.blk
  have z1 := n1.size
  have u : Below w.heap.size w w1 := u.trans (n1.below.mono u.size)
  refine lg_store_row r1 rfl rfl rfl (hso _) (by simp only [cB_size]) (cB_one _ _) rfl rfl fun w2 sw2 => ?_
  have rg := sw2.keep rg (by omega)
  have r1 := sw2.row
  have zw2 := sw2.size
  have u : Below w.heap.size w w2 := u.trans (sw2.below _ (by omega))
  refine lg_nil (nx (E' := [(1, _)]) (fk rfl fn) ?_)
  refine cg_seq (cg_region ?_)
  refine ls (y_ixa (j := 0) huo hsb (by omega) rfl rfl rfl) rfl rfl (by decide) ?_
  refine lg_store (v := ov 128#8) r1 (by rw [cB_size]; omega) rfl rfl rfl (by kernel_rfl) hsb rfl rfl fun w3 sw3 => ?_
  rw [cB_set] at sw3
  have rg := sw3.keep rg (by omega)
  have r1 := sw3.row
  have zw3 := sw3.size
  have u : Below w.heap.size w w3 := u.trans (sw3.below _ (by omega))
  refine lg_nil (nx (E' := [(1, _)]) (fk rfl fn) ?_)
  refine cg_cut (fun v E' => ∃ c, E' = [(1, pv b1 0), (2, pv c 0)] ∧ RowAt v 0 tg (cW 64 num) ∧ RowAt v b1 24 (cB 64 b0) ∧ RowAt v c 23 (cW 8 (mixF firstF b0)) ∧ Below w.heap.size w v) (cg_held (by kernel_rfl) fun W4 hW4 => ?_) ?_
  · have rg := (show RowAt W4 0 _ _ from by subst hW4; exact rg)
    have r1 := (show RowAt W4 b1 _ _ from by subst hW4; exact r1)
    have zW4 : W4.heap.size = w3.heap.size := by subst hW4; rfl
    have u : Below w.heap.size w W4 := by subst hW4; exact u.drew
    clear hW4
    have p := Below.refl W4.heap.size W4
    have Rg0 := rg
    have lg0 := rg.lt
    have R1 := r1
    have l1 := r1.lt
    refine hg_take 1 (by rfl) (want_none (by rfl)) (by rfl) rfl (by decide) (by kernel_rfl) (by kernel_rfl) (by kernel_rfl) (fun _ _ _ h => h) p (fun q hq => y_row (R1.below hq l1) huo (hso _) rfl rfl) ?_
    refine hg_two 0 3 (by rfl) (by rfl) (by kernel_rfl) (want_none (by rfl)) (want_none (by rfl)) ?_ ?_
    · refine lg_callw (want_none (by rfl)) (first_any _) (by kernel_rfl) rfl rfl rfl (by decide) ?_
      rintro _ w5 ⟨rfl, hw5⟩
      have rg := rg.below hw5 rg.lt
      have r1 := r1.below hw5 r1.lt
      have zw5 := hw5.size
      have u : Below w.heap.size w w5 := u.trans (hw5.mono u.size)
      have p : Below W4.heap.size W4 w5 := p.trans (hw5.mono p.size)
      refine hg_next p ?_
      refine hg_two 2 3 (by rfl) (by rfl) (by kernel_rfl) (want_none (by rfl)) (want_none (by rfl)) ?_ ?_
      · refine lg_callw (want_none (by rfl)) (mix_any _ _ _ rg) (by kernel_rfl) rfl rfl rfl (by decide) ?_
        rintro _ w6 ⟨rfl, hw6⟩
        have rg := rg.below hw6 rg.lt
        have r1 := r1.below hw6 r1.lt
        have zw6 := hw6.size
        have u : Below w.heap.size w w6 := u.trans (hw6.mono u.size)
        have p : Below W4.heap.size W4 w6 := p.trans (hw6.mono p.size)
        refine hg_next p ?_
        refine hg_one 3 (by rfl) (by kernel_rfl) (want_none (by rfl)) ?_
        refine lg_alloc rfl hz8 rfl rfl (by decide) fun b7 w7 n7 => ?_
        have rg := n7.keep rg
        have r1 := n7.keep r1
        have r7 := n7.row
        have k7 := n7.blk
        have z7 := n7.size
        have u : Below w.heap.size w w7 := u.trans (n7.below.mono u.size)
        have p : Below W4.heap.size W4 w7 := p.trans (n7.below.mono p.size)
        refine hg_next p ?_
        refine hg_one 4 (by rfl) (by kernel_rfl) (want_none (by rfl)) ?_
        refine lg_store_row r7 rfl rfl rfl (hs8 _) (by simp only [cW_size]) (cW_one _ _) rfl rfl fun w8 sw8 => ?_
        have rg := sw8.keep rg (by omega)
        have r1 := sw8.keep r1 (by omega)
        have r7 := sw8.row
        have zw8 := sw8.size
        have u : Below w.heap.size w w8 := u.trans (sw8.below _ (by omega))
        have p : Below W4.heap.size W4 w8 := p.trans (sw8.below _ (by omega))
        refine hg_next p ?_
        exact hg_done (by kernel_rfl) fun a ha => (show ∃ E', _ from ⟨[(1, _), (2, _)], ⟨b7, rfl, rg, r1, r7, u⟩, ha.keep (fk rfl (fk rfl fn))⟩)
      · refine lg_alloc rfl hz8 rfl rfl (by decide) fun b6 w6 n6 => ?_
        have rg := n6.keep rg
        have r1 := n6.keep r1
        have r6 := n6.row
        have k6 := n6.blk
        have z6 := n6.size
        have u : Below w.heap.size w w6 := u.trans (n6.below.mono u.size)
        have p : Below W4.heap.size W4 w6 := p.trans (n6.below.mono p.size)
        refine hg_next p ?_
        refine hg_one 2 (by rfl) (by kernel_rfl) (want_none (by rfl)) ?_
        refine lg_callw (want_none (by rfl)) (mix_any _ _ _ rg) (by kernel_rfl) rfl rfl rfl (by decide) ?_
        rintro _ w7 ⟨rfl, hw7⟩
        have rg := rg.below hw7 rg.lt
        have r1 := r1.below hw7 r1.lt
        have r6 := r6.below hw7 r6.lt
        have zw7 := hw7.size
        have u : Below w.heap.size w w7 := u.trans (hw7.mono u.size)
        have p : Below W4.heap.size W4 w7 := p.trans (hw7.mono p.size)
        refine hg_next p ?_
        refine hg_one 4 (by rfl) (by kernel_rfl) (want_none (by rfl)) ?_
        refine lg_store_row r6 rfl rfl rfl (hs8 _) (by simp only [cW_size]) (cW_one _ _) rfl rfl fun w8 sw8 => ?_
        have rg := sw8.keep rg (by omega)
        have r1 := sw8.keep r1 (by omega)
        have r6 := sw8.row
        have zw8 := sw8.size
        have u : Below w.heap.size w w8 := u.trans (sw8.below _ (by omega))
        have p : Below W4.heap.size W4 w8 := p.trans (sw8.below _ (by omega))
        refine hg_next p ?_
        exact hg_done (by kernel_rfl) fun a ha => (show ∃ E', _ from ⟨[(1, _), (2, _)], ⟨b6, rfl, rg, r1, r6, u⟩, ha.keep (fk rfl (fk rfl fn))⟩)
    · refine lg_alloc rfl hz8 rfl rfl (by decide) fun b5 w5 n5 => ?_
      have rg := n5.keep rg
      have r1 := n5.keep r1
      have r5 := n5.row
      have k5 := n5.blk
      have z5 := n5.size
      have u : Below w.heap.size w w5 := u.trans (n5.below.mono u.size)
      have p : Below W4.heap.size W4 w5 := p.trans (n5.below.mono p.size)
      refine hg_next p ?_
      refine hg_one 0 (by rfl) (by kernel_rfl) (want_none (by rfl)) ?_
      refine lg_callw (want_none (by rfl)) (first_any _) (by kernel_rfl) rfl rfl rfl (by decide) ?_
      rintro _ w6 ⟨rfl, hw6⟩
      have rg := rg.below hw6 rg.lt
      have r1 := r1.below hw6 r1.lt
      have r5 := r5.below hw6 r5.lt
      have zw6 := hw6.size
      have u : Below w.heap.size w w6 := u.trans (hw6.mono u.size)
      have p : Below W4.heap.size W4 w6 := p.trans (hw6.mono p.size)
      refine hg_next p ?_
      refine hg_one 2 (by rfl) (by kernel_rfl) (want_none (by rfl)) ?_
      refine lg_callw (want_none (by rfl)) (mix_any _ _ _ rg) (by kernel_rfl) rfl rfl rfl (by decide) ?_
      rintro _ w7 ⟨rfl, hw7⟩
      have rg := rg.below hw7 rg.lt
      have r1 := r1.below hw7 r1.lt
      have r5 := r5.below hw7 r5.lt
      have zw7 := hw7.size
      have u : Below w.heap.size w w7 := u.trans (hw7.mono u.size)
      have p : Below W4.heap.size W4 w7 := p.trans (hw7.mono p.size)
      refine hg_next p ?_
      refine hg_one 4 (by rfl) (by kernel_rfl) (want_none (by rfl)) ?_
      refine lg_store_row r5 rfl rfl rfl (hs8 _) (by simp only [cW_size]) (cW_one _ _) rfl rfl fun w8 sw8 => ?_
      have rg := sw8.keep rg (by omega)
      have r1 := sw8.keep r1 (by omega)
      have r5 := sw8.row
      have zw8 := sw8.size
      have u : Below w.heap.size w w8 := u.trans (sw8.below _ (by omega))
      have p : Below W4.heap.size W4 w8 := p.trans (sw8.below _ (by omega))
      refine hg_next p ?_
      exact hg_done (by kernel_rfl) fun a ha => (show ∃ E', _ from ⟨[(1, _), (2, _)], ⟨b5, rfl, rg, r1, r5, u⟩, ha.keep (fk rfl (fk rfl fn))⟩)
  rintro v _ ⟨b77, rfl, rg, r1, r77, u⟩
  have kg := rg.lt
  have q1 := r1.lt
  have q77 := r77.lt
  have zu := u.size
  refine cg_seq (cg_region ?_)
  refine ls (y_row r1 huo (hso _) rfl rfl) rfl rfl (by decide) ?_
  refine lg_call (spread_any _ _) (by kernel_rfl) rfl rfl rfl rfl (by decide) ?_
  rintro _ w5 ⟨rfl, hw5⟩
  have rg := rg.below hw5 rg.lt
  have r1 := r1.below hw5 r1.lt
  have r77 := r77.below hw5 r77.lt
  have zw5 := hw5.size
  have u : Below w.heap.size w w5 := u.trans (hw5.mono u.size)
  refine lg_alloc rfl hz64 rfl rfl (by decide) fun b6 w6 n6 => ?_
  have rg := n6.keep rg
  have r1 := n6.keep r1
  have r77 := n6.keep r77
  have r6 := n6.row
  have k6 := n6.blk
  have z6 := n6.size
  have u : Below w.heap.size w w6 := u.trans (n6.below.mono u.size)
  refine lg_store_row r6 rfl rfl rfl (hs64 _) (by simp only [cW_size]) (cW_one _ _) rfl rfl fun w7 sw7 => ?_
  have rg := sw7.keep rg (by omega)
  have r1 := sw7.keep r1 (by omega)
  have r77 := sw7.keep r77 (by omega)
  have r6 := sw7.row
  have zw7 := sw7.size
  have u : Below w.heap.size w w7 := u.trans (sw7.below _ (by omega))
  refine lg_nil (nx (E' := [(2, _), (3, _)]) (fk rfl (fk rfl fn)) ?_)
  refine cg_seq (cg_region ?_)
  refine ls (y_ixa (j := 0) hu8 hsw (by omega) rfl rfl rfl) rfl rfl (by decide) ?_
  refine ls (y_cell r77 (cW_get (by omega)) huw rfl rfl) rfl rfl (by decide) ?_
  refine ls (y_weq_t (Y := 3820012610#32) first_of rfl rfl (by kernel_rfl)) rfl rfl (by decide) ?_
  refine ls (y_move rfl rfl) rfl rfl (by decide) ?_
  refine lsw (want_t (dj := 14) (by rfl) (by kernel_rfl) rfl) (y_ixa (j := 0) hu64 hsw (by omega) rfl rfl rfl) rfl (by decide) ?_
  refine lsw (want_t (dj := 14) (by rfl) (by kernel_rfl) rfl) (y_cell r6 (cW_get (by omega)) huw rfl rfl) rfl (by decide) ?_
  refine lsw (want_t (dj := 14) (by rfl) (by kernel_rfl) rfl) (y_weq_t (Y := 2147483648#32) e0 rfl rfl (by kernel_rfl)) rfl (by decide) ?_
  refine ls (y_pick true rfl rfl rfl) rfl rfl (by decide) ?_
  refine ls (y_move rfl rfl) rfl rfl (by decide) ?_
  refine lsw (want_t (dj := 19) (by rfl) (by kernel_rfl) rfl) (y_ixa (j := 1) hu64 hsw (by omega) rfl rfl rfl) rfl (by decide) ?_
  refine lsw (want_t (dj := 19) (by rfl) (by kernel_rfl) rfl) (y_cell r6 (cW_get (by omega)) huw rfl rfl) rfl (by decide) ?_
  refine lsw (want_t (dj := 19) (by rfl) (by kernel_rfl) rfl) (y_weq_t (Y := 0#32) e1 rfl rfl (by kernel_rfl)) rfl (by decide) ?_
  refine ls (y_pick true rfl rfl rfl) rfl rfl (by decide) ?_
  refine ls (y_move rfl rfl) rfl rfl (by decide) ?_
  refine lsw (want_t (dj := 24) (by rfl) (by kernel_rfl) rfl) (y_ixa (j := 16) hu64 hsw (by omega) rfl rfl rfl) rfl (by decide) ?_
  refine lsw (want_t (dj := 24) (by rfl) (by kernel_rfl) rfl) (y_cell r6 (cW_get (by omega)) huw rfl rfl) rfl (by decide) ?_
  refine lsw (want_t (dj := 24) (by rfl) (by kernel_rfl) rfl) (y_weq_t (Y := 2147483648#32) e16 rfl rfl (by kernel_rfl)) rfl (by decide) ?_
  refine ls (y_pick true rfl rfl rfl) rfl rfl (by decide) ?_
  refine ls (y_assign rfl rfl) rfl rfl (by decide) ?_
  refine lg_nil (nx (E' := [(0, _)]) (fk rfl fn) ?_)
  exact ret_tmp rfl rfl ⟨_, rfl, rfl, u⟩
theorem is_any (h : Nat → BitVec 32) (b : Nat → BitVec 8) (w : World) {tg : TypeId} (rg : RowAt w 0 tg (cW 64 num)) : Calls Tryd.prog 3 #[.agg (cW 8 h), .agg (cB 64 b)] w fun e w' => e = .returned (.bool true) ∧ Below w.heap.size w w' := by
  refine calls_cg (n := 29) Tryd.func3 rfl Tryd.ntmps3 (by simp) ?_
  show CG _ _ _ [(0, .agg (cW 8 h)), (1, .agg (cB 64 b))] _ _
  have u := Below.refl w.heap.size w
  have kg := rg.lt
  refine cg_seq (cg_region ?_)
  refine lg_box rfl rfl (hs8 _) rfl rfl (by decide) fun b1 w1 n1 => ?_
  have rg := n1.keep rg
  have r1 := n1.row
  have k1 := n1.blk
  have z1 := n1.size
  have u : Below w.heap.size w w1 := u.trans (n1.below.mono u.size)
  refine lg_box rfl rfl (hso _) rfl rfl (by decide) fun b2 w2 n2 => ?_
  have rg := n2.keep rg
  have r1 := n2.keep r1
  have r2 := n2.row
  have k2 := n2.blk
  have z2 := n2.size
  have u : Below w.heap.size w w2 := u.trans (n2.below.mono u.size)
  refine ls (y_assign rfl rfl) rfl rfl (by decide) ?_
  refine lg_nil (nx (E' := [(2, _), (3, _)]) (fk rfl (fk rfl fn)) ?_)
  refine cg_seq (cg_region ?_)
  refine lg_call (awake_any _ rg) (by kernel_rfl) rfl rfl rfl rfl (by decide) ?_
  rintro _ w3 ⟨rfl, hw3⟩
  have rg := rg.below hw3 rg.lt
  have r1 := r1.below hw3 r1.lt
  have r2 := r2.below hw3 r2.lt
  have zw3 := hw3.size
  have u : Below w.heap.size w w3 := u.trans (hw3.mono u.size)
  refine ls (y_assign rfl rfl) rfl rfl (by decide) ?_
  refine lg_nil (nx (E' := [(2, _), (3, _), (5, _)]) (fk rfl (fk rfl (fk rfl fn))) ?_)
  refine cg_seq (cg_held (by kernel_rfl) fun W4 hW4 => ?_)
  have rg := (show RowAt W4 0 _ _ from by subst hW4; exact rg)
  have r1 := (show RowAt W4 b1 _ _ from by subst hW4; exact r1)
  have r2 := (show RowAt W4 b2 _ _ from by subst hW4; exact r2)
  have zW4 : W4.heap.size = w3.heap.size := by subst hW4; rfl
  have u : Below w.heap.size w W4 := by subst hW4; exact u.drew
  clear hW4
  have p := Below.refl W4.heap.size W4
  have Rg0 := rg
  have lg0 := rg.lt
  have R1 := r1
  have l1 := r1.lt
  have R2 := r2
  have l2 := r2.lt
  refine hg_take 0 (by rfl) (want_none (by rfl)) (by rfl) rfl (by decide) (by kernel_rfl) (by kernel_rfl) (by kernel_rfl) (fun _ _ _ h => h) p (fun q hq => y_move rfl rfl) ?_
  refine hg_take 1 (by rfl) (want_none (by rfl)) (by rfl) rfl (by decide) (by kernel_rfl) (by kernel_rfl) (by kernel_rfl) (fun _ _ _ h => h) p (fun q hq => y_move rfl rfl) ?_
  refine hg_one 2 (by rfl) (by kernel_rfl) (want_t (dj := 8) (by rfl) (by kernel_rfl) rfl) ?_
  refine lg_callw (want_t (dj := 8) (by rfl) (by kernel_rfl) rfl) (first_any _) (by kernel_rfl) rfl rfl rfl (by decide) ?_
  rintro _ w5 ⟨rfl, hw5⟩
  have rg := rg.below hw5 rg.lt
  have r1 := r1.below hw5 r1.lt
  have r2 := r2.below hw5 r2.lt
  have zw5 := hw5.size
  have u : Below w.heap.size w w5 := u.trans (hw5.mono u.size)
  have p : Below W4.heap.size W4 w5 := p.trans (hw5.mono p.size)
  refine hg_next p ?_
  refine hg_one 3 (by rfl) (by kernel_rfl) (want_t (dj := 8) (by rfl) (by kernel_rfl) rfl) ?_
  refine lg_callw (want_t (dj := 8) (by rfl) (by kernel_rfl) rfl) (rfirst_any _) (by kernel_rfl) rfl rfl rfl (by decide) ?_
  rintro _ w6 ⟨rfl, hw6⟩
  have rg := rg.below hw6 rg.lt
  have r1 := r1.below hw6 r1.lt
  have r2 := r2.below hw6 r2.lt
  have zw6 := hw6.size
  have u : Below w.heap.size w w6 := u.trans (hw6.mono u.size)
  have p : Below W4.heap.size W4 w6 := p.trans (hw6.mono p.size)
  refine hg_next p ?_
  refine hg_take 4 (by rfl) (want_t (dj := 8) (by rfl) (by kernel_rfl) rfl) (by rfl) rfl (by decide) (by kernel_rfl) (by kernel_rfl) (by kernel_rfl) (fun _ _ _ h => h) p (fun q hq => y_aeq g8 hu8 hsw huw cW_int rfl rfl rfl) ?_
  refine hg_take 5 (by rfl) (want_none (by rfl)) (by rfl) rfl (by decide) (by kernel_rfl) (by kernel_rfl) (by kernel_rfl) (fun _ _ _ h => h) p (fun q hq => y_pick true rfl rfl rfl) ?_
  refine hg_take 6 (by rfl) (want_none (by rfl)) (by rfl) rfl (by decide) (by kernel_rfl) (by kernel_rfl) (by kernel_rfl) (fun _ _ _ h => h) p (fun q hq => y_move rfl rfl) ?_
  refine hg_take 7 (by rfl) (want_t (dj := 13) (by rfl) (by kernel_rfl) rfl) (by rfl) rfl (by decide) (by kernel_rfl) (by kernel_rfl) (by kernel_rfl) (fun _ _ _ h => h) p (fun q hq => y_row (R2.below hq l2) huo (hso _) rfl rfl) ?_
  refine hg_take 9 (by rfl) (want_t (dj := 13) (by rfl) (by kernel_rfl) rfl) (by rfl) rfl (by decide) (by kernel_rfl) (by kernel_rfl) (by kernel_rfl) (fun _ _ _ h => h) p (fun q hq => y_row (R2.below hq l2) huo (hso _) rfl rfl) ?_
  refine hg_one 8 (by rfl) (by kernel_rfl) (want_t (dj := 13) (by rfl) (by kernel_rfl) rfl) ?_
  refine lg_callw (want_t (dj := 13) (by rfl) (by kernel_rfl) rfl) (spread_any _ _) (by kernel_rfl) rfl rfl rfl (by decide) ?_
  rintro _ w7 ⟨rfl, hw7⟩
  have rg := rg.below hw7 rg.lt
  have r1 := r1.below hw7 r1.lt
  have r2 := r2.below hw7 r2.lt
  have zw7 := hw7.size
  have u : Below w.heap.size w w7 := u.trans (hw7.mono u.size)
  have p : Below W4.heap.size W4 w7 := p.trans (hw7.mono p.size)
  refine hg_next p ?_
  refine hg_one 10 (by rfl) (by kernel_rfl) (want_t (dj := 13) (by rfl) (by kernel_rfl) rfl) ?_
  refine lg_callw (want_t (dj := 13) (by rfl) (by kernel_rfl) rfl) (rspread_any _ _) (by kernel_rfl) rfl rfl rfl (by decide) ?_
  rintro _ w8 ⟨rfl, hw8⟩
  have rg := rg.below hw8 rg.lt
  have r1 := r1.below hw8 r1.lt
  have r2 := r2.below hw8 r2.lt
  have zw8 := hw8.size
  have u : Below w.heap.size w w8 := u.trans (hw8.mono u.size)
  have p : Below W4.heap.size W4 w8 := p.trans (hw8.mono p.size)
  refine hg_next p ?_
  refine hg_take 11 (by rfl) (want_t (dj := 13) (by rfl) (by kernel_rfl) rfl) (by rfl) rfl (by decide) (by kernel_rfl) (by kernel_rfl) (by kernel_rfl) (fun _ _ _ h => h) p (fun q hq => y_aeq g64 hu64 hsw huw cW_int rfl rfl rfl) ?_
  refine hg_take 12 (by rfl) (want_none (by rfl)) (by rfl) rfl (by decide) (by kernel_rfl) (by kernel_rfl) (by kernel_rfl) (fun _ _ _ h => h) p (fun q hq => y_pick true rfl rfl rfl) ?_
  refine hg_take 13 (by rfl) (want_none (by rfl)) (by rfl) rfl (by decide) (by kernel_rfl) (by kernel_rfl) (by kernel_rfl) (fun _ _ _ h => h) p (fun q hq => y_move rfl rfl) ?_
  refine hg_take 14 (by rfl) (want_t (dj := 20) (by rfl) (by kernel_rfl) rfl) (by rfl) rfl (by decide) (by kernel_rfl) (by kernel_rfl) (by kernel_rfl) (fun _ _ _ h => h) p (fun q hq => y_row (R1.below hq l1) hu8 (hs8 _) rfl rfl) ?_
  refine hg_take 15 (by rfl) (want_t (dj := 20) (by rfl) (by kernel_rfl) rfl) (by rfl) rfl (by decide) (by kernel_rfl) (by kernel_rfl) (by kernel_rfl) (fun _ _ _ h => h) p (fun q hq => y_row (R2.below hq l2) huo (hso _) rfl rfl) ?_
  refine hg_take 17 (by rfl) (want_t (dj := 20) (by rfl) (by kernel_rfl) rfl) (by rfl) rfl (by decide) (by kernel_rfl) (by kernel_rfl) (by kernel_rfl) (fun _ _ _ h => h) p (fun q hq => y_row (R1.below hq l1) hu8 (hs8 _) rfl rfl) ?_
  refine hg_take 18 (by rfl) (want_t (dj := 20) (by rfl) (by kernel_rfl) rfl) (by rfl) rfl (by decide) (by kernel_rfl) (by kernel_rfl) (by kernel_rfl) (fun _ _ _ h => h) p (fun q hq => y_row (R2.below hq l2) huo (hso _) rfl rfl) ?_
  refine hg_one 16 (by rfl) (by kernel_rfl) (want_t (dj := 20) (by rfl) (by kernel_rfl) rfl) ?_
  refine lg_callw (want_t (dj := 20) (by rfl) (by kernel_rfl) rfl) (mix_any _ _ _ rg) (by kernel_rfl) rfl rfl rfl (by decide) ?_
  rintro _ w9 ⟨rfl, hw9⟩
  have rg := rg.below hw9 rg.lt
  have r1 := r1.below hw9 r1.lt
  have r2 := r2.below hw9 r2.lt
  have zw9 := hw9.size
  have u : Below w.heap.size w w9 := u.trans (hw9.mono u.size)
  have p : Below W4.heap.size W4 w9 := p.trans (hw9.mono p.size)
  refine hg_next p ?_
  refine hg_one 19 (by rfl) (by kernel_rfl) (want_t (dj := 20) (by rfl) (by kernel_rfl) rfl) ?_
  refine lg_callw (want_t (dj := 20) (by rfl) (by kernel_rfl) rfl) (rmix_any _ _ _) (by kernel_rfl) rfl rfl rfl (by decide) ?_
  rintro _ w10 ⟨rfl, hw10⟩
  have rg := rg.below hw10 rg.lt
  have r1 := r1.below hw10 r1.lt
  have r2 := r2.below hw10 r2.lt
  have zw10 := hw10.size
  have u : Below w.heap.size w w10 := u.trans (hw10.mono u.size)
  have p : Below W4.heap.size W4 w10 := p.trans (hw10.mono p.size)
  refine hg_next p ?_
  refine hg_take 20 (by rfl) (want_t (dj := 20) (by rfl) (by kernel_rfl) rfl) (by rfl) rfl (by decide) (by kernel_rfl) (by kernel_rfl) (by kernel_rfl) (fun _ _ _ h => h) p (fun q hq => y_aeq g8 hu8 hsw huw cW_int rfl rfl rfl) ?_
  refine hg_take 21 (by rfl) (want_none (by rfl)) (by rfl) rfl (by decide) (by kernel_rfl) (by kernel_rfl) (by kernel_rfl) (fun _ _ _ h => h) p (fun q hq => y_pick true rfl rfl rfl) ?_
  refine hg_take 22 (by rfl) (want_none (by rfl)) (by rfl) rfl (by decide) (by kernel_rfl) (by kernel_rfl) (by kernel_rfl) (fun _ _ _ h => h) p (fun q hq => y_assign rfl rfl) ?_
  refine hg_done (by kernel_rfl) (nx (E' := [(4, _)]) (fk rfl fn) ?_)
  exact ret_tmp rfl rfl ⟨rfl, u⟩
end Go.Proofs.YtnogmcldjfbfoaaDoor
