/-
  The walk of the law of block by block.
-/
import Derived.Test.YtdenbbfmiadcbaaDoorShMore
namespace Go.Proofs.YtdenbbfmiadcbaaDoor
open Go.ChangeShapes Go.WideShapes Go.ChangeAt Go.RowKit
set_option linter.unusedVariables false
set_option maxRecDepth 20000
theorem folds_any (A : Option Addr) (m c : Nat) (ys : List Int) (w : World) {tg : TypeId} (rg : RowAt w 0 tg (cW 64 num)) (oi : Oct w w.heap.size A m ys) (hnc : m ≤ c) : Calls Tryd.prog 6 #[.slice A m c] w fun e w' => ∃ v, e = .returned v ∧ v = .bool true ∧ Below w.heap.size w w' := by
  refine calls_cg (n := 61) Tryd.func6 rfl Tryd.ntmps6 (by simp) ?_
  show CG _ _ _ [(0, .slice A m c)] _ _
  have u := Below.refl w.heap.size w
  have h0 := rg.lt
  have hl := oi.1
  refine cg_seq ?_
  refine cg_region ?_
  refine lsw (want_none (by rfl)) (y_assign rfl rfl) rfl (by decide) ?_
  refine lg_nil ?_
  refine nx (E' := [(0, _), (2, _)]) (fk rfl (fk rfl fn)) ?_
  refine cg_seq ?_
  refine cg_region ?_
  refine lg_callw (want_none (by rfl)) (awake_any _ rg) (by kernel_rfl) rfl rfl rfl (by decide) ?_
  rintro _ w1 ⟨rfl, hw1⟩
  have zw1 := hw1.size
  refine lsw (want_none (by rfl)) (y_assign rfl rfl) rfl (by decide) ?_
  refine lg_nil ?_
  refine nx (E' := [(0, _), (2, _), (3, _)]) (fk rfl (fk rfl (fk rfl fn))) ?_
  refine cg_seq ?_
  refine cg_seq ?_
  refine cg_region ?_
  refine lsw (want_none (by rfl)) (y_move rfl rfl) rfl (by decide) ?_
  refine lsw (want_none (by rfl)) (y_len (el := 5) (by kernel_rfl) rfl rfl) rfl (by decide) ?_
  refine lsw (want_none (by rfl)) (yi_gtr rfl rfl rfl) rfl (by decide) ?_
  refine lg_nil ?_
  refine nx (E' := [(0, _), (2, _), (3, _), (12, _)]) (fk rfl (fk rfl (fk rfl (fk rfl fn)))) ?_
  refine cg_if rfl (fun hc12 => ?_) (fun hc12 => ?_)
  · refine cg_seq ?_
    refine cg_region ?_
    refine lsw (want_none (by rfl)) (y_move rfl rfl) rfl (by decide) ?_
    refine lsw (want_none (by rfl)) (y_assign rfl rfl) rfl (by decide) ?_
    refine lg_nil ?_
    refine nx (E' := [(0, _), (3, _), (2, _)]) (fk rfl (fk rfl (fk rfl fn))) ?_
    refine cg_ret ?_
    refine eg_seq_ret ?_
    have u := u.trans (hw1.mono u.size)
    exact eg_ret_tmp rfl rfl ⟨_, rfl, rfl, u⟩
  · refine cg_skip ?_
    refine nx (E' := [(0, _), (2, _), (3, _)]) (fk rfl (fk rfl (fk rfl fn))) ?_
    refine cg_seq ?_
    refine cg_region ?_
    refine lg_callw (want_none (by rfl)) (first_any _) (by kernel_rfl) rfl rfl rfl (by decide) ?_
    rintro _ w2 ⟨rfl, hw2⟩
    have zw2 := hw2.size
    refine lg_allocw (want_none (by rfl)) rfl hz8 rfl (by decide) fun b3 w3 n3 => ?_
    have r3 := n3.row
    have k3 := n3.blk
    have z3 := n3.size
    have qw4 := r3
    refine lg_stw (want_none (by rfl)) r3 rfl rfl rfl (hs8 _) (cW_one _ _) (by simp only [cW_size]) rfl fun w4 sw4 => ?_
    have r3 := sw4.row
    have zw4 := sw4.size
    refine lg_nil ?_
    refine nx (E' := [(0, _), (2, _), (3, _), (4, _)]) (fk rfl (fk rfl (fk rfl (fk rfl fn)))) ?_
    refine cg_seq ?_
    refine cg_region ?_
    refine lsw (want_none (by rfl)) (y_move rfl rfl) rfl (by decide) ?_
    refine lsw (want_none (by rfl)) (y_assign rfl rfl) rfl (by decide) ?_
    refine lg_nil ?_
    refine nx (E' := [(0, _), (2, _), (3, _), (4, _), (5, _)]) (fk rfl (fk rfl (fk rfl (fk rfl (fk rfl fn))))) ?_
    refine cg_seq ?_
    refine cg_block ?_
    have u := u.trans (hw1.mono u.size)
    have u := u.trans (hw2.mono u.size)
    have u := u.trans (n3.below.mono u.size)
    have u := u.trans (sw4.below _ (by omega))
    have oi := oi.below (hw1.mono (by omega))
    have oi := oi.below (hw2.mono (by omega))
    have oi := oi.below (n3.below.mono (by omega))
    have oi := oi.set qw4 cW_no sw4
    have rg := RowAt.below hw1 rg.lt rg
    have rg := RowAt.below hw2 rg.lt rg
    have rg := n3.keep rg
    have rg := sw4.keep rg (by omega)
    refine cg_loopE (fun t a v => ∃ (Aq : Option Addr) (mq : Nat) (cq : Nat), Holds 61 [(0, .slice A m c), (3, .bool true), (4, pv b3 0), (5, .slice Aq mq cq)] a ∧ RowAt v 0 tg (cW 64 num) ∧ RowAt v b3 23 (cW 8 (fold firstF ys t)) ∧ Oct v w.heap.size A m ys ∧ Oct v w.heap.size Aq mq (ys.drop (64 * t)) ∧ w.heap.size ≤ v.heap.size ∧ mq ≤ cq ∧ 64 * t + mq = ys.length ∧ Below w.heap.size w v) (ys.length / 64) (fun a ha => ⟨_, _, _, ha.keep (fk rfl (fk rfl (fk rfl (fk rfl fn)))), rg, r3, oi, oi, u.size, hnc, by omega, u⟩) ?_
    rintro t a v ht ⟨Aq, mq, cq, ha, rg, r4, oi, o3, hbx, hc3, hs, u⟩
    refine cg_at ha ?_
    clear ha a
    have zv := u.size
    have l_rg := rg.lt
    have l_r4 := r4.lt
    refine cg_seq ?_
    refine cg_seq ?_
    refine cg_region ?_
    refine lsw (want_none (by rfl)) (y_move rfl rfl) rfl (by decide) ?_
    refine lsw (want_none (by rfl)) (y_len (el := 5) (by kernel_rfl) rfl rfl) rfl (by decide) ?_
    refine lsw (want_none (by rfl)) (yi_geq rfl rfl rfl) rfl (by decide) ?_
    refine lg_nil ?_
    refine nx (E' := [(0, _), (3, _), (4, _), (5, _), (16, _), (17, _), (18, _)]) (fk rfl (fk rfl (fk rfl (fk rfl (fk rfl (fk rfl (fk rfl fn))))))) ?_
    refine cg_if rfl (fun hc18 => ?_) (fun hc18 => ?_)
    · have h64 : 64 ≤ mq := by omega
      have l4 := r4.lt
      obtain ⟨bq, oq, rfl, hq, _⟩ := o3.2.2 (by omega)
      refine cg_skip ?_
      refine nx (E' := [(0, _), (3, _), (4, _), (5, _), (16, _), (17, _), (18, _)]) (fk rfl (fk rfl (fk rfl (fk rfl (fk rfl (fk rfl (fk rfl fn))))))) ?_
      refine cg_block ?_
      refine cg_seq ?_
      refine cg_region ?_
      refine lsw (want_none (by rfl)) (y_build rfl rfl bO) rfl (by decide) ?_
      refine lg_allocw (want_none (by rfl)) rfl hzo rfl (by decide) fun b5 w5 n5 => ?_
      have r5 := n5.row
      have k5 := n5.blk
      have z5 := n5.size
      refine lg_stw (want_none (by rfl)) r5 rfl rfl rfl (hso _) (cB_one _ _) (by simp only [cB_size]) rfl fun w6 sw6 => ?_
      have r5 := sw6.row
      have zw6 := sw6.size
      refine lg_nil ?_
      refine nx (E' := [(0, _), (3, _), (4, _), (5, _), (16, _), (17, _), (18, _), (19, _), (6, _)]) (fk rfl (fk rfl (fk rfl (fk rfl (fk rfl (fk rfl (fk rfl (fk rfl (fk rfl fn))))))))) ?_
      refine cg_seq ?_
      refine cg_seq ?_
      refine cg_region ?_
      refine lsw (want_none (by rfl)) (y_assign rfl rfl) rfl (by decide) ?_
      refine lg_nil ?_
      refine nx (E' := [(0, _), (3, _), (4, _), (5, _), (16, _), (17, _), (18, _), (19, _), (6, _), (7, _)]) (fk rfl (fk rfl (fk rfl (fk rfl (fk rfl (fk rfl (fk rfl (fk rfl (fk rfl (fk rfl fn)))))))))) ?_
      refine cg_block ?_
      have rg := n5.keep rg
      have rg := sw6.keep rg (by omega)
      have r4 := n5.keep r4
      have r4 := sw6.keep r4 (by omega)
      have oi := oi.below (n5.below.mono (by omega))
      have oi := oi.below (sw6.below _ (by omega))
      have o3 := o3.below (n5.below.mono (by omega))
      have o3 := o3.below (sw6.below _ (by omega))
      have u := u.trans (n5.below.mono u.size)
      have u := u.trans (sw6.below _ (by omega))
      have l7 := r5.lt
      refine cg_loopE (fun i a v => Holds 61 [(0, .slice A m c), (3, .bool true), (4, pv b3 0), (5, .slice (some ⟨bq, oq, none⟩) mq cq), (6, pv b5 0), (7, iv i)] a ∧ RowAt v 0 tg (cW 64 num) ∧ RowAt v b3 23 (cW 8 (fold firstF ys t)) ∧ Oct v w.heap.size A m ys ∧ Oct v w.heap.size (some ⟨bq, oq, none⟩) mq (ys.drop (64 * t)) ∧ w.heap.size ≤ v.heap.size ∧ Below w.heap.size w v ∧ RowAt v b5 44 (cB 64 (bF ys t i))) 64 (fun a ha => ⟨ha.keep (fk rfl (fk rfl (fk rfl (fk rfl (fk rfl (fk rfl fn)))))), rg, r4, oi, o3, by omega, u, r5⟩) ?_
      rintro i a v ht ⟨ha, rg, r4, oi, o3, hbx, u, r7⟩
      refine cg_at ha ?_
      clear ha a
      have zv := u.size
      have l_rg := rg.lt
      have l_r4 := r4.lt
      have l_r7 := r7.lt
      refine cg_seq ?_
      refine cg_seq ?_
      refine cg_region ?_
      refine lsw (want_none (by rfl)) (y_move rfl rfl) rfl (by decide) ?_
      refine lsw (want_none (by rfl)) (yi_lss rfl rfl rfl) rfl (by decide) ?_
      refine lg_nil ?_
      refine nx (E' := [(0, _), (3, _), (4, _), (5, _), (6, _), (7, _), (20, _), (21, _)]) (fk rfl (fk rfl (fk rfl (fk rfl (fk rfl (fk rfl (fk rfl (fk rfl fn)))))))) ?_
      refine cg_if rfl (fun hc21 => ?_) (fun hc21 => ?_)
      · refine cg_skip ?_
        refine nx (E' := [(0, _), (3, _), (4, _), (5, _), (6, _), (7, _), (20, _), (21, _)]) (fk rfl (fk rfl (fk rfl (fk rfl (fk rfl (fk rfl (fk rfl (fk rfl fn)))))))) ?_
        refine cg_seq ?_
        refine cg_block ?_
        refine cg_region ?_
        refine lsw (want_none (by rfl)) (y_move rfl rfl) rfl (by decide) ?_
        refine lsw (want_none (by rfl)) (y_move rfl rfl) rfl (by decide) ?_
        refine lsw (want_none (by rfl)) (y_move rfl rfl) rfl (by decide) ?_
        refine lsw (want_none (by rfl)) (y_ixo (i := i) rfl (by omega) rfl rfl rfl) rfl (by decide) ?_
        refine lsw (want_none (by rfl)) (y_celld (o3.cellv (by omega)) (by kernel_rfl) rfl rfl) rfl (by decide) ?_
        refine lsw (want_none (by rfl)) (y_ixa (j := i) huo hsb (by omega) rfl rfl rfl) rfl (by decide) ?_
        refine lg_st1 (want_none (by rfl)) r7 rfl rfl rfl (by kernel_rfl) rfl (by rw [cB_size]; omega) cB_set rfl fun w7 sw7 => ?_
        have r7 := sw7.row
        have zw7 := sw7.size
        refine lg_nil ?_
        refine eg_block_norm ?_
        refine nx (E' := [(0, _), (3, _), (4, _), (5, _), (6, _), (7, _), (20, _), (21, _), (24, _), (25, _), (26, _), (27, _), (28, _), (29, _)]) (fk rfl (fk rfl (fk rfl (fk rfl (fk rfl (fk rfl (fk rfl (fk rfl (fk rfl (fk rfl (fk rfl (fk rfl (fk rfl (fk rfl fn)))))))))))))) ?_
        refine cg_region ?_
        refine lsw (want_none (by rfl)) (y_move rfl rfl) rfl (by decide) ?_
        refine lsw (want_none (by rfl)) (yi_add rfl rfl rfl (by omega) (by omega)) rfl (by decide) ?_
        refine lsw (want_none (by rfl)) (y_assign rfl rfl) rfl (by decide) ?_
        refine lg_nil ?_
        have rg := sw7.keep rg (by omega)
        have r4 := sw7.keep r4 (by omega)
        have oi := oi.below (sw7.below _ (by omega))
        have o3 := o3.below (sw7.below _ (by omega))
        have u := u.trans (sw7.below _ (by omega))
        exact fun a ha => (show i < 64 ∧ _ from ⟨(by omega), ha.keep (fk rfl (fk rfl (fk rfl (fk rfl (fk rfl (fk rfl fn)))))), rg, r4, oi, o3, by omega, u, r7⟩)
      · obtain rfl : i = 64 := by omega
        rw [cB_ext (bF_eq ys t)] at r7
        refine cg_exit ?_
        refine eg_seq_exit ?_
        refine eg_seq_exit ?_
        refine eg_block_exit ?_
        refine nx (E' := [(0, _), (3, _), (4, _), (5, _), (6, _), (7, _), (20, _), (21, _)]) (fk rfl (fk rfl (fk rfl (fk rfl (fk rfl (fk rfl (fk rfl (fk rfl fn)))))))) ?_
        refine cg_seq ?_
        refine cg_region ?_
        refine lsw (want_none (by rfl)) (y_part r4 (m := 8) (cW8_part _) (by rw [cW_size]; omega) (by kernel_rfl) (by kernel_rfl) rfl rfl) rfl (by decide) ?_
        refine lsw (want_none (by rfl)) (y_part r7 (m := 64) (cB64_part _) (by rw [cB_size]; omega) (by kernel_rfl) (by kernel_rfl) rfl rfl) rfl (by decide) ?_
        refine lg_callw (want_none (by rfl)) (mix_any _ _ _ rg) (by kernel_rfl) rfl rfl rfl (by decide) ?_
        rintro _ w8 ⟨rfl, hw8⟩
        have zw8 := hw8.size
        have r4 := RowAt.below hw8 r4.lt r4
        have qw9 := r4
        refine lg_stw (want_none (by rfl)) r4 rfl rfl rfl (hs8 _) (cW_one _ _) (by simp only [cW_size]) rfl fun w9 sw9 => ?_
        have r4 := sw9.row
        have zw9 := sw9.size
        refine lg_nil ?_
        refine nx (E' := [(0, _), (3, _), (4, _), (5, _), (6, _), (7, _), (20, _), (21, _), (30, _), (31, _), (32, _)]) (fk rfl (fk rfl (fk rfl (fk rfl (fk rfl (fk rfl (fk rfl (fk rfl (fk rfl (fk rfl (fk rfl fn))))))))))) ?_
        refine cg_region ?_
        refine lsw (want_none (by rfl)) (y_move rfl rfl) rfl (by decide) ?_
        refine lsw (want_none (by rfl)) (y_cut_l 64 rfl (by omega) rfl rfl rfl) rfl (by decide) ?_
        refine lsw (want_none (by rfl)) (y_assign rfl rfl) rfl (by decide) ?_
        refine lg_nil ?_
        refine eg_block_norm ?_
        have o3 := o3.below (hw8.mono (by omega))
        have o3 := o3.set qw9 cW_no sw9
        have o3 := o3.cutA 64 cq hc3 (by omega)
        rw [List.drop_drop, show 64 * t + 64 = 64 * (t + 1) by omega] at o3
        have rg := RowAt.below hw8 rg.lt rg
        have rg := sw9.keep rg (by omega)
        have oi := oi.below (hw8.mono (by omega))
        have oi := oi.set qw9 cW_no sw9
        have u := u.trans (hw8.mono u.size)
        have u := u.trans (sw9.below _ (by omega))
        exact fun a ha => (show t < (ys.length / 64) ∧ _ from ⟨(by omega), _, _, _, ha.keep (fk rfl (fk rfl (fk rfl (fk rfl fn)))), rg, (show RowAt _ _ _ (cW 8 (fold firstF ys (t + 1))) from r4), oi, o3, by omega, by omega, by omega, u⟩)
    · have hN : ys.length / 64 = t := by omega
      have ew := new_wr ys (by omega)
      have eh : fold firstF ys t = (S.new.wr ys).h := by rw [ew]; show _ = fold firstF ys (ys.length / 64); rw [hN]
      have er : ys.drop (64 * t) = (S.new.wr ys).b := by rw [ew]; show _ = ys.drop (64 * (ys.length / 64)); rw [hN]
      rw [eh] at r4
      rw [er] at o3
      have en : (S.new.wr ys).wr [] = S.new.wr ys := by rw [S.wr_wr _ _ _ (by rw [new_as]; simp only [List.length_nil]; omega), List.append_nil]
      refine cg_exit ?_
      refine eg_seq_exit ?_
      refine eg_seq_exit ?_
      refine eg_block_exit ?_
      refine nx (E' := [(0, _), (3, _), (4, _), (5, _)]) (fk rfl (fk rfl (fk rfl (fk rfl fn)))) ?_
      refine cg_seq ?_
      refine cg_region ?_
      refine lg_callw (want_none (by rfl)) (new_any _) (by kernel_rfl) rfl rfl rfl (by decide) ?_
      rintro _ w10 ⟨A10, m10, c10, rfl, o10, hw10⟩
      have zw10 := hw10.size
      refine lsw (want_none (by rfl)) (y_move rfl rfl) rfl (by decide) ?_
      have rg := RowAt.below hw10 rg.lt rg
      have oi := oi.below (hw10.mono (by omega))
      refine lg_callw (want_none (by rfl)) (write_any (S.new) _ _ _ _ _ _ (ys) _ rg (o10.more (by omega)) (oi.more (by omega)) hnc (by omega)) (by kernel_rfl) rfl rfl rfl (by decide) ?_
      rintro _ w11 ⟨A11, m11, c11, rfl, o11, hw11⟩
      have zw11 := hw11.size
      refine lg_allocw (want_none (by rfl)) rfl hzS rfl (by decide) fun b12 w12 n12 => ?_
      have r12 := n12.row
      have k12 := n12.blk
      have z12 := n12.size
      have qw13 := r12
      refine lg_stw (want_none (by rfl)) r12 rfl rfl rfl (hsS _ _ _) (cS_one _ _ _ _ _) rfl rfl fun w13 sw13 => ?_
      have r12 := sw13.row
      have zw13 := sw13.size
      refine lg_nil ?_
      refine nx (E' := [(3, _), (4, _), (5, _), (8, _)]) (fk rfl (fk rfl (fk rfl (fk rfl fn)))) ?_
      refine cg_seq ?_
      refine cg_held (by kernel_rfl) fun W14 eW14 => ?_
      have dW14 := below_drew _ _ eW14
      have zW14 := size_drew _ _ eW14
      clear eW14
      refine hg_take 0 (by rfl) (want_none (by rfl)) (by rfl) rfl (by decide) (by kernel_rfl) (by kernel_rfl) (by kernel_rfl) (fun _ _ _ h => h) (Below.refl _ _) (fun q hq => y_move rfl rfl) ?_
      refine hg_take 1 (by rfl) (want_none (by rfl)) (by rfl) rfl (by decide) (by kernel_rfl) (by kernel_rfl) (by kernel_rfl) (fun _ _ _ h => h) (Below.refl _ _) (fun q hq => y_move rfl rfl) ?_
      refine hg_take 2 (by rfl) (want_t (dj := 39) (by rfl) (by kernel_rfl) rfl) (by rfl) rfl (by decide) (by kernel_rfl) (by kernel_rfl) (by kernel_rfl) (fun _ _ _ h => h) (Below.refl _ _) (fun q hq => y_fld (off := 0) (by kernel_rfl) rfl rfl) ?_
      have r12 := RowAt.below dW14 r12.lt r12
      refine hg_take 3 (by rfl) (want_t (dj := 39) (by rfl) (by kernel_rfl) rfl) (by rfl) rfl (by decide) (by kernel_rfl) (by kernel_rfl) (by kernel_rfl) (fun _ _ _ h => h) (Below.refl _ _) (fun q hq => y_part (RowAt.below hq r12.lt r12) (m := 8) (cS_part _ _ _) (by show _ ≤ 10; omega) (by kernel_rfl) (by kernel_rfl) rfl rfl) ?_
      have r4 := RowAt.below hw10 r4.lt r4
      have r4 := RowAt.below hw11 r4.lt r4
      have r4 := n12.keep r4
      have r4 := sw13.keep r4 (by omega)
      have r4 := RowAt.below dW14 r4.lt r4
      refine hg_take 4 (by rfl) (want_t (dj := 39) (by rfl) (by kernel_rfl) rfl) (by rfl) rfl (by decide) (by kernel_rfl) (by kernel_rfl) (by kernel_rfl) (fun _ _ _ h => h) (Below.refl _ _) (fun q hq => y_part (RowAt.below hq r4.lt r4) (m := 8) (cW8_part _) (by rw [cW_size]; omega) (by kernel_rfl) (by kernel_rfl) rfl rfl) ?_
      refine hg_take 5 (by rfl) (want_t (dj := 39) (by rfl) (by kernel_rfl) rfl) (by rfl) rfl (by decide) (by kernel_rfl) (by kernel_rfl) (by kernel_rfl) (fun _ _ _ h => h) (Below.refl _ _) (fun q hq => y_aeq g8 hu8 hsw huw cW_int rfl rfl rfl) ?_
      refine hg_take 6 (by rfl) (want_none (by rfl)) (by rfl) rfl (by decide) (by kernel_rfl) (by kernel_rfl) (by kernel_rfl) (fun _ _ _ h => h) (Below.refl _ _) (fun q hq => y_pick true rfl rfl rfl) ?_
      refine hg_take 7 (by rfl) (want_none (by rfl)) (by rfl) rfl (by decide) (by kernel_rfl) (by kernel_rfl) (by kernel_rfl) (fun _ _ _ h => h) (Below.refl _ _) (fun q hq => y_move rfl rfl) ?_
      refine hg_take 8 (by rfl) (want_t (dj := 45) (by rfl) (by kernel_rfl) rfl) (by rfl) rfl (by decide) (by kernel_rfl) (by kernel_rfl) (by kernel_rfl) (fun _ _ _ h => h) (Below.refl _ _) (fun q hq => y_fld (off := 8) (by kernel_rfl) rfl rfl) ?_
      refine hg_take 9 (by rfl) (want_t (dj := 45) (by rfl) (by kernel_rfl) rfl) (by rfl) rfl (by decide) (by kernel_rfl) (by kernel_rfl) (by kernel_rfl) (fun _ _ _ h => h) (Below.refl _ _) (fun q hq => y_cellv (RowAt.below hq r12.lt r12) (cS_8 _ _ _) (by kernel_rfl) rfl rfl) ?_
      have o11 := o11.below (n12.below.mono (by omega))
      have o11 := o11.set qw13 cS_no sw13
      have o11 := o11.below (dW14.mono (by omega))
      refine hg_take 10 (by rfl) (want_t (dj := 45) (by rfl) (by kernel_rfl) rfl) (by rfl) rfl (by decide) (by kernel_rfl) (by kernel_rfl) (by kernel_rfl) (fun _ _ _ h => h) (Below.refl _ _) (fun q hq => y_str (o11.below (hq.mono (by omega))) rfl rfl) ?_
      refine hg_take 11 (by rfl) (want_t (dj := 45) (by rfl) (by kernel_rfl) rfl) (by rfl) rfl (by decide) (by kernel_rfl) (by kernel_rfl) (by kernel_rfl) (fun _ _ _ h => h) (Below.refl _ _) (fun q hq => y_move rfl rfl) ?_
      have o3 := o3.below (hw10.mono (by omega))
      have o3 := o3.below (hw11.mono (by omega))
      have o3 := o3.below (n12.below.mono (by omega))
      have o3 := o3.set qw13 cS_no sw13
      have o3 := o3.below (dW14.mono (by omega))
      refine hg_take 12 (by rfl) (want_t (dj := 45) (by rfl) (by kernel_rfl) rfl) (by rfl) rfl (by decide) (by kernel_rfl) (by kernel_rfl) (by kernel_rfl) (fun _ _ _ h => h) (Below.refl _ _) (fun q hq => y_str (o3.below (hq.mono (by omega))) rfl rfl) ?_
      refine hg_take 13 (by rfl) (want_t (dj := 45) (by rfl) (by kernel_rfl) rfl) (by rfl) rfl (by decide) (by kernel_rfl) (by kernel_rfl) (by kernel_rfl) (fun _ _ _ h => h) (Below.refl _ _) (fun q hq => y_streq_t rfl rfl rfl rfl) ?_
      refine hg_take 14 (by rfl) (want_none (by rfl)) (by rfl) rfl (by decide) (by kernel_rfl) (by kernel_rfl) (by kernel_rfl) (fun _ _ _ h => h) (Below.refl _ _) (fun q hq => y_pick true rfl rfl rfl) ?_
      refine hg_take 15 (by rfl) (want_none (by rfl)) (by rfl) rfl (by decide) (by kernel_rfl) (by kernel_rfl) (by kernel_rfl) (fun _ _ _ h => h) (Below.refl _ _) (fun q hq => y_move rfl rfl) ?_
      refine hg_take 16 (by rfl) (want_t (dj := 53) (by rfl) (by kernel_rfl) rfl) (by rfl) rfl (by decide) (by kernel_rfl) (by kernel_rfl) (by kernel_rfl) (fun _ _ _ h => h) (Below.refl _ _) (fun q hq => y_part (RowAt.below hq r12.lt r12) (m := 10) (cS_all _ _ _) (by show _ ≤ 10; omega) (by kernel_rfl) (by kernel_rfl) rfl rfl) ?_
      refine hg_take 19 (by rfl) (want_t (dj := 53) (by rfl) (by kernel_rfl) rfl) (by rfl) rfl (by decide) (by kernel_rfl) (by kernel_rfl) (by kernel_rfl) (fun _ _ _ h => h) (Below.refl _ _) (fun q hq => y_part (RowAt.below hq r12.lt r12) (m := 10) (cS_all _ _ _) (by show _ ≤ 10; omega) (by kernel_rfl) (by kernel_rfl) rfl rfl) ?_
      refine hg_one 17 (by rfl) (by kernel_rfl) (want_t (dj := 53) (by rfl) (by kernel_rfl) rfl) ?_
      have rg := RowAt.below hw11 rg.lt rg
      have rg := n12.keep rg
      have rg := sw13.keep rg (by omega)
      have rg := RowAt.below dW14 rg.lt rg
      refine lg_callw (want_t (dj := 53) (by rfl) (by kernel_rfl) rfl) ((write_any (S.new.wr ys) _ none _ _ 0 0 [] _ rg (o11.more (by omega)) (Oct.nil _ _ _) (Nat.le_refl _) (by decide)).mono fun e v hh => (show ∃ u, e = .returned u ∧ StR _ (S.new.wr ys) u v by rw [en] at hh; exact hh)) (by kernel_rfl) rfl rfl rfl (by decide) ?_
      rintro _ w15 ⟨A15, m15, c15, rfl, o15, hw15⟩
      have zw15 := hw15.size
      refine hg_next hw15 ?_
      refine hg_up hw15 ?_
      refine hg_one 18 (by rfl) (by kernel_rfl) (want_t (dj := 53) (by rfl) (by kernel_rfl) rfl) ?_
      refine lg_callw (want_t (dj := 53) (by rfl) (by kernel_rfl) rfl) (theirs_any _ _ _ _ _ _) (by kernel_rfl) rfl rfl rfl (by decide) ?_
      rintro _ w16 ⟨rfl, hw16⟩
      have zw16 := hw16.size
      refine hg_next hw16 ?_
      refine hg_up hw16 ?_
      refine hg_one 20 (by rfl) (by kernel_rfl) (want_t (dj := 53) (by rfl) (by kernel_rfl) rfl) ?_
      refine lg_callw (want_t (dj := 53) (by rfl) (by kernel_rfl) rfl) (theirs_any _ _ _ _ _ _) (by kernel_rfl) rfl rfl rfl (by decide) ?_
      rintro _ w17 ⟨rfl, hw17⟩
      have zw17 := hw17.size
      refine hg_next hw17 ?_
      refine hg_up hw17 ?_
      refine hg_one 21 (by rfl) (by kernel_rfl) (want_t (dj := 53) (by rfl) (by kernel_rfl) rfl) ?_
      have o15 := o15.below (hw16.mono (by omega))
      have o15 := o15.below (hw17.mono (by omega))
      have o11 := o11.below (hw15.mono (by omega))
      have o11 := o11.below (hw16.mono (by omega))
      have o11 := o11.below (hw17.mono (by omega))
      refine lg_callw (want_t (dj := 53) (by rfl) (by kernel_rfl) rfl) (same_any _ _ _ _ _ _ _ _ _ _ (o15.more (by omega)) (o11.more (by omega))) (by kernel_rfl) rfl rfl rfl (by decide) ?_
      rintro _ w18 ⟨rfl, hw18⟩
      have zw18 := hw18.size
      refine hg_next hw18 ?_
      refine hg_up hw18 ?_
      refine hg_take 22 (by rfl) (want_none (by rfl)) (by rfl) rfl (by decide) (by kernel_rfl) (by kernel_rfl) (by kernel_rfl) (fun _ _ _ h => h) (Below.refl _ _) (fun q hq => y_pick true rfl rfl rfl) ?_
      refine hg_take 23 (by rfl) (want_none (by rfl)) (by rfl) rfl (by decide) (by kernel_rfl) (by kernel_rfl) (by kernel_rfl) (fun _ _ _ h => h) (Below.refl _ _) (fun q hq => y_assign rfl rfl) ?_
      refine hg_done (by kernel_rfl) ?_
      refine nx (E' := [(2, _)]) (fk rfl fn) ?_
      refine cg_ret ?_
      have u := u.trans (hw10.mono u.size)
      have u := u.trans (hw11.mono u.size)
      have u := u.trans (n12.below.mono u.size)
      have u := u.trans (sw13.below _ (by omega))
      have u := u.trans (dW14.mono u.size)
      have u := u.trans (hw15.mono u.size)
      have u := u.trans (hw16.mono u.size)
      have u := u.trans (hw17.mono u.size)
      have u := u.trans (hw18.mono u.size)
      exact eg_ret_tmp rfl rfl ⟨_, rfl, rfl, u⟩
end Go.Proofs.YtdenbbfmiadcbaaDoor
