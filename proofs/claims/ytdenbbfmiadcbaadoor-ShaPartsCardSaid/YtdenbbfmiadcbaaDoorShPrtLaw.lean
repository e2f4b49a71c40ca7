/-
  The walk of the law of pieces.
-/
import Derived.Test.YtdenbbfmiadcbaaDoorShMore
namespace Go.Proofs.YtdenbbfmiadcbaaDoor
open Go.ChangeShapes Go.WideShapes Go.ChangeAt Go.RowKit
set_option linter.unusedVariables false
set_option maxRecDepth 20000
theorem cut_at (i : Int) (m : Nat) : ∃ p : Nat, i % 65536 % ((m : Int) + 1) = (p : Int) ∧ p ≤ m := by
  have h1 := Int.emod_nonneg (i % 65536) (show (m : Int) + 1 ≠ 0 by omega)
  have h2 := Int.emod_lt_of_pos (i % 65536) (show (0 : Int) < (m : Int) + 1 by omega)
  exact ⟨(i % 65536 % ((m : Int) + 1)).toNat, by omega, by omega⟩
set_option maxHeartbeats 2000000 in
theorem parts_any (A : Option Addr) (m c : Nat) (i k : Int) (xs : List Int) (w : World) {tg : TypeId} (rg : RowAt w 0 tg (cW 64 num)) (oi : Oct w w.heap.size A m xs) (hnc : m ≤ c) : Calls Tryd.prog 4 #[.slice A m c, nv i, nv k] w fun e w' => ∃ v, e = .returned v ∧ v = .bool true ∧ Below w.heap.size w w' := by
  refine calls_cg (n := 89) Tryd.func4 rfl Tryd.ntmps4 (by simp) ?_
  show CG _ _ _ [(0, .slice A m c), (1, nv i), (2, nv k)] _ _
  have u := Below.refl w.heap.size w
  have h0 := rg.lt
  have hl := oi.1
  refine cg_seq ?_
  refine cg_region ?_
  refine lsw (want_none (by rfl)) (y_assign rfl rfl) rfl (by decide) ?_
  refine lg_nil ?_
  refine nx (E' := [(0, _), (1, _), (2, _), (6, _)]) (fk rfl (fk rfl (fk rfl (fk rfl fn)))) ?_
  refine cg_seq ?_
  refine cg_region ?_
  refine lg_callw (want_none (by rfl)) (awake_any _ rg) (by kernel_rfl) rfl rfl rfl (by decide) ?_
  rintro _ w1 ⟨rfl, hw1⟩
  have zw1 := hw1.size
  refine lsw (want_none (by rfl)) (y_assign rfl rfl) rfl (by decide) ?_
  refine lg_nil ?_
  refine nx (E' := [(0, _), (1, _), (2, _), (6, _), (7, _)]) (fk rfl (fk rfl (fk rfl (fk rfl (fk rfl fn))))) ?_
  refine cg_seq ?_
  refine cg_seq ?_
  refine cg_region ?_
  refine lsw (want_none (by rfl)) (y_move rfl rfl) rfl (by decide) ?_
  refine lsw (want_none (by rfl)) (y_len (el := 5) (by kernel_rfl) rfl rfl) rfl (by decide) ?_
  refine lsw (want_none (by rfl)) (yi_gtr rfl rfl rfl) rfl (by decide) ?_
  refine lg_nil ?_
  refine nx (E' := [(0, _), (1, _), (2, _), (6, _), (7, _), (15, _)]) (fk rfl (fk rfl (fk rfl (fk rfl (fk rfl (fk rfl fn)))))) ?_
  refine cg_if rfl (fun hc15 => ?_) (fun hc15 => ?_)
  · refine cg_seq ?_
    refine cg_region ?_
    refine lsw (want_none (by rfl)) (y_move rfl rfl) rfl (by decide) ?_
    refine lsw (want_none (by rfl)) (y_assign rfl rfl) rfl (by decide) ?_
    refine lg_nil ?_
    refine nx (E' := [(0, _), (1, _), (2, _), (7, _), (6, _)]) (fk rfl (fk rfl (fk rfl (fk rfl (fk rfl fn))))) ?_
    refine cg_ret ?_
    refine eg_seq_ret ?_
    have u := u.trans (hw1.mono u.size)
    exact eg_ret_tmp rfl rfl ⟨_, rfl, rfl, u⟩
  · refine cg_skip ?_
    refine nx (E' := [(0, _), (1, _), (2, _), (6, _), (7, _)]) (fk rfl (fk rfl (fk rfl (fk rfl (fk rfl fn))))) ?_
    refine cg_seq ?_
    obtain ⟨p, hp, hpm⟩ := cut_at i m
    obtain ⟨r, hr, hrm⟩ := cut_at k (m - p)
    refine cg_region ?_
    refine lsw (want_none (by rfl)) (y_move rfl rfl) rfl (by decide) ?_
    refine lsw (want_none (by rfl)) (yv (show nv _ = nv _ from congrArg nv (and_65535 _)) (yi_and rfl rfl rfl)) rfl (by decide) ?_
    refine lsw (want_none (by rfl)) (y_move rfl rfl) rfl (by decide) ?_
    refine lsw (want_none (by rfl)) (y_len (el := 5) (by kernel_rfl) rfl rfl) rfl (by decide) ?_
    refine lsw (want_none (by rfl)) (yi_add rfl rfl rfl (by omega) (by omega)) rfl (by decide) ?_
    refine lsw (want_none (by rfl)) (yv (show nv _ = iv p from congrArg nv hp) (yi_rem rfl rfl rfl (Int.emod_nonneg _ (by decide)) (by omega))) rfl (by decide) ?_
    refine lsw (want_none (by rfl)) (y_assign rfl rfl) rfl (by decide) ?_
    refine lg_nil ?_
    refine nx (E' := [(0, _), (2, _), (6, _), (7, _), (8, _)]) (fk rfl (fk rfl (fk rfl (fk rfl (fk rfl fn))))) ?_
    refine cg_seq ?_
    refine cg_region ?_
    refine lsw (want_none (by rfl)) (y_move rfl rfl) rfl (by decide) ?_
    refine lsw (want_none (by rfl)) (y_move rfl rfl) rfl (by decide) ?_
    refine lsw (want_none (by rfl)) (yv (show nv _ = nv _ from congrArg nv (and_65535 _)) (yi_and rfl rfl rfl)) rfl (by decide) ?_
    refine lsw (want_none (by rfl)) (y_move rfl rfl) rfl (by decide) ?_
    refine lsw (want_none (by rfl)) (y_len (el := 5) (by kernel_rfl) rfl rfl) rfl (by decide) ?_
    refine lsw (want_none (by rfl)) (y_move rfl rfl) rfl (by decide) ?_
    refine lsw (want_none (by rfl)) (yi_sub rfl rfl rfl (by omega) (by omega)) rfl (by decide) ?_
    refine lsw (want_none (by rfl)) (yi_add rfl rfl rfl (by omega) (by omega)) rfl (by decide) ?_
    refine lsw (want_none (by rfl)) (yv (show nv (k % 65536 % ((m : Int) - (p : Int) + 1)) = iv r from congrArg nv (by rw [show (m : Int) - (p : Int) + 1 = ((m - p : Nat) : Int) + 1 by omega]; exact hr)) (yi_rem rfl rfl rfl (Int.emod_nonneg _ (by decide)) (by omega))) rfl (by decide) ?_
    refine lsw (want_none (by rfl)) (yv (show nv ((p : Int) + (r : Int)) = iv (p + r) from congrArg nv (by omega)) (yi_add rfl rfl rfl (by omega) (by omega))) rfl (by decide) ?_
    refine lsw (want_none (by rfl)) (y_assign rfl rfl) rfl (by decide) ?_
    refine lg_nil ?_
    refine nx (E' := [(0, _), (6, _), (7, _), (8, _), (9, _)]) (fk rfl (fk rfl (fk rfl (fk rfl (fk rfl fn))))) ?_
    refine cg_cut (fun v E' => ∃ (b10 : Nat) (Aq : Option Addr) (mq : Nat) (cq : Nat), E' = [(0, .slice A m c), (7, .bool true), (8, iv p), (9, iv (p + r)), (10, pv b10 0)] ∧ RowAt v 0 tg (cW 64 num) ∧ Oct v w.heap.size A m xs ∧ RowAt v b10 30 (cS (S.new.wr xs).h (.slice Aq mq cq) (S.new.wr xs).n) ∧ Oct v v.heap.size Aq mq (S.new.wr xs).b ∧ w.heap.size ≤ b10 ∧ Below w.heap.size w v) ?_ ?_
    · have hq : p + r ≤ m := by omega
      clear hp hr
      have eS : ((S.new.wr (xs.take p)).wr ((xs.take (p + r)).drop p)).wr (xs.drop (p + r)) = S.new.wr xs := by
        have hx : xs.length ≤ 1000 := by omega
        have e1 : xs.take p ++ (xs.take (p + r)).drop p = xs.take (p + r) := by
          have h2 := List.take_append_drop p (xs.take (p + r))
          rw [List.take_take, show min p (p + r) = p by omega] at h2
          exact h2
        have g1 : (xs.take p).length ≤ 1000 := by rw [List.length_take]; omega
        have g2 : ((xs.take (p + r)).drop p).length ≤ 1000 := by rw [List.length_drop, List.length_take]; omega
        have g3 : (xs.drop (p + r)).length ≤ 1000 := by rw [List.length_drop]; omega
        have g4 : (xs.take (p + r)).length ≤ 1000 := by rw [List.length_take]; omega
        have h12 : (S.new.wr (xs.take p)).wr ((xs.take (p + r)).drop p) = S.new.wr (xs.take (p + r)) := by rw [S.wr_wr _ _ _ (by rw [new_as]; omega), e1]
        rw [h12, S.wr_wr _ _ _ (by rw [new_as]; omega), List.take_append_drop]
      refine cg_held (by kernel_rfl) fun W2 eW2 => ?_
      have dW2 := below_drew _ _ eW2
      have zW2 := size_drew _ _ eW2
      clear eW2
      have pb := Below.refl W2.heap.size W2
      refine hg_take 1 (by rfl) (want_none (by rfl)) (by rfl) rfl (by decide) (by kernel_rfl) (by kernel_rfl) (by kernel_rfl) (fun _ _ _ h => h) pb (fun q hq => y_move rfl rfl) ?_
      refine hg_take 2 (by rfl) (want_none (by rfl)) (by rfl) rfl (by decide) (by kernel_rfl) (by kernel_rfl) (by kernel_rfl) (fun _ _ _ h => h) pb (fun q hq => y_move rfl rfl) ?_
      have oi := oi.below (hw1.mono (by omega))
      have oi := oi.below (dW2.mono (by omega))
      have oa := oi.upto p (by omega)
      refine hg_take 3 (by rfl) (want_none (by rfl)) (by rfl) rfl (by decide) (by kernel_rfl) (by kernel_rfl) (by kernel_rfl) (fun _ _ _ h => h) pb (fun q hq => y_cut_h (m := m) (c := c) p rfl (by omega) rfl rfl rfl) ?_
      refine hg_take 5 (by rfl) (want_none (by rfl)) (by rfl) rfl (by decide) (by kernel_rfl) (by kernel_rfl) (by kernel_rfl) (fun _ _ _ h => h) pb (fun q hq => y_move rfl rfl) ?_
      refine hg_take 6 (by rfl) (want_none (by rfl)) (by rfl) rfl (by decide) (by kernel_rfl) (by kernel_rfl) (by kernel_rfl) (fun _ _ _ h => h) pb (fun q hq => y_move rfl rfl) ?_
      refine hg_take 7 (by rfl) (want_none (by rfl)) (by rfl) rfl (by decide) (by kernel_rfl) (by kernel_rfl) (by kernel_rfl) (fun _ _ _ h => h) pb (fun q hq => y_move rfl rfl) ?_
      have ob := (oi.upto (p + r) (by omega)).cutA p c (by omega) (by omega)
      refine hg_take 8 (by rfl) (want_none (by rfl)) (by rfl) rfl (by decide) (by kernel_rfl) (by kernel_rfl) (by kernel_rfl) (fun _ _ _ h => h) pb (fun q hq => y_cut_lh (m := m) (c := c) p (p + r) rfl rfl (by omega) (by omega) rfl rfl rfl rfl) ?_
      refine hg_take 10 (by rfl) (want_none (by rfl)) (by rfl) rfl (by decide) (by kernel_rfl) (by kernel_rfl) (by kernel_rfl) (fun _ _ _ h => h) pb (fun q hq => y_move rfl rfl) ?_
      refine hg_take 11 (by rfl) (want_none (by rfl)) (by rfl) rfl (by decide) (by kernel_rfl) (by kernel_rfl) (by kernel_rfl) (fun _ _ _ h => h) pb (fun q hq => y_move rfl rfl) ?_
      have oe := oi.cutA (p + r) c (by omega) (by omega)
      refine hg_take 12 (by rfl) (want_none (by rfl)) (by rfl) rfl (by decide) (by kernel_rfl) (by kernel_rfl) (by kernel_rfl) (fun _ _ _ h => h) pb (fun q hq => y_cut_l (m := m) (c := c) (p + r) rfl (by omega) rfl rfl rfl) ?_
      refine hg_two 0 14 (by rfl) (by rfl) (by kernel_rfl) (want_none (by rfl)) (want_none (by rfl)) ?_ ?_
      · refine lg_callw (want_none (by rfl)) (new_any _) (by kernel_rfl) rfl rfl rfl (by decide) ?_
        rintro _ w3 ⟨A3, m3, c3, rfl, o3, hw3⟩
        have zw3 := hw3.size
        have pb := pb.trans (hw3.mono pb.size)
        refine hg_next pb ?_
        refine hg_two 4 14 (by rfl) (by rfl) (by kernel_rfl) (want_none (by rfl)) (want_none (by rfl)) ?_ ?_
        · have rg := RowAt.below hw1 rg.lt rg
          have rg := RowAt.below dW2 rg.lt rg
          have rg := RowAt.below hw3 rg.lt rg
          have oa := oa.below (hw3.mono (by omega))
          refine lg_callw (want_none (by rfl)) (write_any (S.new) _ _ _ _ _ _ (xs.take p) _ rg (o3.more (by omega)) (oa.more (by omega)) (by omega) (by omega)) (by kernel_rfl) rfl rfl rfl (by decide) ?_
          rintro _ w4 ⟨A4, m4, c4, rfl, o4, hw4⟩
          have zw4 := hw4.size
          have pb := pb.trans (hw4.mono pb.size)
          refine hg_next pb ?_
          refine hg_two 9 14 (by rfl) (by rfl) (by kernel_rfl) (want_none (by rfl)) (want_none (by rfl)) ?_ ?_
          · have rg := RowAt.below hw4 rg.lt rg
            have ob := ob.below (hw3.mono (by omega))
            have ob := ob.below (hw4.mono (by omega))
            refine lg_callw (want_none (by rfl)) (write_any ((S.new).wr (xs.take p)) _ _ _ _ _ _ ((xs.take (p + r)).drop p) _ rg (o4.more (by omega)) (ob.more (by omega)) (by omega) (by omega)) (by kernel_rfl) rfl rfl rfl (by decide) ?_
            rintro _ w5 ⟨A5, m5, c5, rfl, o5, hw5⟩
            have zw5 := hw5.size
            have pb := pb.trans (hw5.mono pb.size)
            refine hg_next pb ?_
            refine hg_two 13 14 (by rfl) (by rfl) (by kernel_rfl) (want_none (by rfl)) (want_none (by rfl)) ?_ ?_
            · have rg := RowAt.below hw5 rg.lt rg
              have oe := oe.below (hw3.mono (by omega))
              have oe := oe.below (hw4.mono (by omega))
              have oe := oe.below (hw5.mono (by omega))
              refine lg_callw (want_none (by rfl)) (write_any (((S.new).wr (xs.take p)).wr ((xs.take (p + r)).drop p)) _ _ _ _ _ _ (xs.drop (p + r)) _ rg (o5.more (by omega)) (oe.more (by omega)) (by omega) (by omega)) (by kernel_rfl) rfl rfl rfl (by decide) ?_
              rintro _ w6 ⟨A6, m6, c6, rfl, o6, hw6⟩
              have zw6 := hw6.size
              have pb := pb.trans (hw6.mono pb.size)
              refine hg_next pb ?_
              refine hg_one 14 (by rfl) (by kernel_rfl) (want_none (by rfl)) ?_
              refine lg_allocw (want_none (by rfl)) rfl hzS rfl (by decide) fun b7 w7 n7 => ?_
              have r7 := n7.row
              have k7 := n7.blk
              have z7 := n7.size
              have pb := pb.trans (n7.below.mono pb.size)
              refine hg_next pb ?_
              refine hg_one 15 (by rfl) (by kernel_rfl) (want_none (by rfl)) ?_
              have qw8 := r7
              refine lg_stw (want_none (by rfl)) r7 rfl rfl rfl (hsS _ _ _) (cS_one _ _ _ _ _) rfl rfl fun w8 sw8 => ?_
              have r7 := sw8.row
              have zw8 := sw8.size
              have pb := pb.trans (sw8.below _ (by omega))
              refine hg_next pb ?_
              refine hg_done (by kernel_rfl) ?_
              have o6 := o6.below (n7.below.mono (by omega))
              have o6 := o6.set qw8 cS_no sw8
              have u := u.trans (hw1.mono u.size)
              have u := u.trans (dW2.mono u.size)
              have u := u.trans (hw3.mono u.size)
              have u := u.trans (hw4.mono u.size)
              have u := u.trans (hw5.mono u.size)
              have u := u.trans (hw6.mono u.size)
              have u := u.trans (n7.below.mono u.size)
              have u := u.trans (sw8.below _ (by omega))
              have rg := RowAt.below hw6 rg.lt rg
              have rg := n7.keep rg
              have rg := sw8.keep rg (by omega)
              have oi := oi.below (hw3.mono (by omega))
              have oi := oi.below (hw4.mono (by omega))
              have oi := oi.below (hw5.mono (by omega))
              have oi := oi.below (hw6.mono (by omega))
              have oi := oi.below (n7.below.mono (by omega))
              have oi := oi.set qw8 cS_no sw8
              rw [eS] at r7
              rw [eS] at o6
              exact fun a ha => ⟨_, ⟨b7, _, _, _, rfl, rg, oi, r7, o6.more (by omega), by omega, u⟩, ha.keep (fk rfl (fk rfl (fk rfl (fk rfl (fk rfl fn)))))⟩
            · refine lg_allocw (want_none (by rfl)) rfl hzS rfl (by decide) fun b9 w9 n9 => ?_
              have r9 := n9.row
              have k9 := n9.blk
              have z9 := n9.size
              have pb := pb.trans (n9.below.mono pb.size)
              refine hg_next pb ?_
              refine hg_one 13 (by rfl) (by kernel_rfl) (want_none (by rfl)) ?_
              have rg := RowAt.below hw5 rg.lt rg
              have rg := n9.keep rg
              have o5 := o5.below (n9.below.mono (by omega))
              have oe := oe.below (hw3.mono (by omega))
              have oe := oe.below (hw4.mono (by omega))
              have oe := oe.below (hw5.mono (by omega))
              have oe := oe.below (n9.below.mono (by omega))
              refine lg_callw (want_none (by rfl)) (write_any (((S.new).wr (xs.take p)).wr ((xs.take (p + r)).drop p)) _ _ _ _ _ _ (xs.drop (p + r)) _ rg (o5.more (by omega)) (oe.more (by omega)) (by omega) (by omega)) (by kernel_rfl) rfl rfl rfl (by decide) ?_
              rintro _ w10 ⟨A10, m10, c10, rfl, o10, hw10⟩
              have zw10 := hw10.size
              have pb := pb.trans (hw10.mono pb.size)
              refine hg_next pb ?_
              refine hg_one 15 (by rfl) (by kernel_rfl) (want_none (by rfl)) ?_
              have r9 := RowAt.below hw10 r9.lt r9
              have qw11 := r9
              refine lg_stw (want_none (by rfl)) r9 rfl rfl rfl (hsS _ _ _) (cS_one _ _ _ _ _) rfl rfl fun w11 sw11 => ?_
              have r9 := sw11.row
              have zw11 := sw11.size
              have pb := pb.trans (sw11.below _ (by omega))
              refine hg_next pb ?_
              refine hg_done (by kernel_rfl) ?_
              have o10 := o10.set qw11 cS_no sw11
              have u := u.trans (hw1.mono u.size)
              have u := u.trans (dW2.mono u.size)
              have u := u.trans (hw3.mono u.size)
              have u := u.trans (hw4.mono u.size)
              have u := u.trans (hw5.mono u.size)
              have u := u.trans (n9.below.mono u.size)
              have u := u.trans (hw10.mono u.size)
              have u := u.trans (sw11.below _ (by omega))
              have rg := RowAt.below hw10 rg.lt rg
              have rg := sw11.keep rg (by omega)
              have oi := oi.below (hw3.mono (by omega))
              have oi := oi.below (hw4.mono (by omega))
              have oi := oi.below (hw5.mono (by omega))
              have oi := oi.below (n9.below.mono (by omega))
              have oi := oi.below (hw10.mono (by omega))
              have oi := oi.set qw11 cS_no sw11
              rw [eS] at r9
              rw [eS] at o10
              exact fun a ha => ⟨_, ⟨b9, _, _, _, rfl, rg, oi, r9, o10.more (by omega), by omega, u⟩, ha.keep (fk rfl (fk rfl (fk rfl (fk rfl (fk rfl fn)))))⟩
          · refine lg_allocw (want_none (by rfl)) rfl hzS rfl (by decide) fun b12 w12 n12 => ?_
            have r12 := n12.row
            have k12 := n12.blk
            have z12 := n12.size
            have pb := pb.trans (n12.below.mono pb.size)
            refine hg_next pb ?_
            refine hg_one 9 (by rfl) (by kernel_rfl) (want_none (by rfl)) ?_
            have rg := RowAt.below hw4 rg.lt rg
            have rg := n12.keep rg
            have o4 := o4.below (n12.below.mono (by omega))
            have ob := ob.below (hw3.mono (by omega))
            have ob := ob.below (hw4.mono (by omega))
            have ob := ob.below (n12.below.mono (by omega))
            refine lg_callw (want_none (by rfl)) (write_any ((S.new).wr (xs.take p)) _ _ _ _ _ _ ((xs.take (p + r)).drop p) _ rg (o4.more (by omega)) (ob.more (by omega)) (by omega) (by omega)) (by kernel_rfl) rfl rfl rfl (by decide) ?_
            rintro _ w13 ⟨A13, m13, c13, rfl, o13, hw13⟩
            have zw13 := hw13.size
            have pb := pb.trans (hw13.mono pb.size)
            refine hg_next pb ?_
            refine hg_one 13 (by rfl) (by kernel_rfl) (want_none (by rfl)) ?_
            have rg := RowAt.below hw13 rg.lt rg
            have oe := oe.below (hw3.mono (by omega))
            have oe := oe.below (hw4.mono (by omega))
            have oe := oe.below (n12.below.mono (by omega))
            have oe := oe.below (hw13.mono (by omega))
            refine lg_callw (want_none (by rfl)) (write_any (((S.new).wr (xs.take p)).wr ((xs.take (p + r)).drop p)) _ _ _ _ _ _ (xs.drop (p + r)) _ rg (o13.more (by omega)) (oe.more (by omega)) (by omega) (by omega)) (by kernel_rfl) rfl rfl rfl (by decide) ?_
            rintro _ w14 ⟨A14, m14, c14, rfl, o14, hw14⟩
            have zw14 := hw14.size
            have pb := pb.trans (hw14.mono pb.size)
            refine hg_next pb ?_
            refine hg_one 15 (by rfl) (by kernel_rfl) (want_none (by rfl)) ?_
            have r12 := RowAt.below hw13 r12.lt r12
            have r12 := RowAt.below hw14 r12.lt r12
            have qw15 := r12
            refine lg_stw (want_none (by rfl)) r12 rfl rfl rfl (hsS _ _ _) (cS_one _ _ _ _ _) rfl rfl fun w15 sw15 => ?_
            have r12 := sw15.row
            have zw15 := sw15.size
            have pb := pb.trans (sw15.below _ (by omega))
            refine hg_next pb ?_
            refine hg_done (by kernel_rfl) ?_
            have o14 := o14.set qw15 cS_no sw15
            have u := u.trans (hw1.mono u.size)
            have u := u.trans (dW2.mono u.size)
            have u := u.trans (hw3.mono u.size)
            have u := u.trans (hw4.mono u.size)
            have u := u.trans (n12.below.mono u.size)
            have u := u.trans (hw13.mono u.size)
            have u := u.trans (hw14.mono u.size)
            have u := u.trans (sw15.below _ (by omega))
            have rg := RowAt.below hw14 rg.lt rg
            have rg := sw15.keep rg (by omega)
            have oi := oi.below (hw3.mono (by omega))
            have oi := oi.below (hw4.mono (by omega))
            have oi := oi.below (n12.below.mono (by omega))
            have oi := oi.below (hw13.mono (by omega))
            have oi := oi.below (hw14.mono (by omega))
            have oi := oi.set qw15 cS_no sw15
            rw [eS] at r12
            rw [eS] at o14
            exact fun a ha => ⟨_, ⟨b12, _, _, _, rfl, rg, oi, r12, o14.more (by omega), by omega, u⟩, ha.keep (fk rfl (fk rfl (fk rfl (fk rfl (fk rfl fn)))))⟩
        · refine lg_allocw (want_none (by rfl)) rfl hzS rfl (by decide) fun b16 w16 n16 => ?_
          have r16 := n16.row
          have k16 := n16.blk
          have z16 := n16.size
          have pb := pb.trans (n16.below.mono pb.size)
          refine hg_next pb ?_
          refine hg_one 4 (by rfl) (by kernel_rfl) (want_none (by rfl)) ?_
          have rg := RowAt.below hw1 rg.lt rg
          have rg := RowAt.below dW2 rg.lt rg
          have rg := RowAt.below hw3 rg.lt rg
          have rg := n16.keep rg
          have o3 := o3.below (n16.below.mono (by omega))
          have oa := oa.below (hw3.mono (by omega))
          have oa := oa.below (n16.below.mono (by omega))
          refine lg_callw (want_none (by rfl)) (write_any (S.new) _ _ _ _ _ _ (xs.take p) _ rg (o3.more (by omega)) (oa.more (by omega)) (by omega) (by omega)) (by kernel_rfl) rfl rfl rfl (by decide) ?_
          rintro _ w17 ⟨A17, m17, c17, rfl, o17, hw17⟩
          have zw17 := hw17.size
          have pb := pb.trans (hw17.mono pb.size)
          refine hg_next pb ?_
          refine hg_one 9 (by rfl) (by kernel_rfl) (want_none (by rfl)) ?_
          have rg := RowAt.below hw17 rg.lt rg
          have ob := ob.below (hw3.mono (by omega))
          have ob := ob.below (n16.below.mono (by omega))
          have ob := ob.below (hw17.mono (by omega))
          refine lg_callw (want_none (by rfl)) (write_any ((S.new).wr (xs.take p)) _ _ _ _ _ _ ((xs.take (p + r)).drop p) _ rg (o17.more (by omega)) (ob.more (by omega)) (by omega) (by omega)) (by kernel_rfl) rfl rfl rfl (by decide) ?_
          rintro _ w18 ⟨A18, m18, c18, rfl, o18, hw18⟩
          have zw18 := hw18.size
          have pb := pb.trans (hw18.mono pb.size)
          refine hg_next pb ?_
          refine hg_one 13 (by rfl) (by kernel_rfl) (want_none (by rfl)) ?_
          have rg := RowAt.below hw18 rg.lt rg
          have oe := oe.below (hw3.mono (by omega))
          have oe := oe.below (n16.below.mono (by omega))
          have oe := oe.below (hw17.mono (by omega))
          have oe := oe.below (hw18.mono (by omega))
          refine lg_callw (want_none (by rfl)) (write_any (((S.new).wr (xs.take p)).wr ((xs.take (p + r)).drop p)) _ _ _ _ _ _ (xs.drop (p + r)) _ rg (o18.more (by omega)) (oe.more (by omega)) (by omega) (by omega)) (by kernel_rfl) rfl rfl rfl (by decide) ?_
          rintro _ w19 ⟨A19, m19, c19, rfl, o19, hw19⟩
          have zw19 := hw19.size
          have pb := pb.trans (hw19.mono pb.size)
          refine hg_next pb ?_
          refine hg_one 15 (by rfl) (by kernel_rfl) (want_none (by rfl)) ?_
          have r16 := RowAt.below hw17 r16.lt r16
          have r16 := RowAt.below hw18 r16.lt r16
          have r16 := RowAt.below hw19 r16.lt r16
          have qw20 := r16
          refine lg_stw (want_none (by rfl)) r16 rfl rfl rfl (hsS _ _ _) (cS_one _ _ _ _ _) rfl rfl fun w20 sw20 => ?_
          have r16 := sw20.row
          have zw20 := sw20.size
          have pb := pb.trans (sw20.below _ (by omega))
          refine hg_next pb ?_
          refine hg_done (by kernel_rfl) ?_
          have o19 := o19.set qw20 cS_no sw20
          have u := u.trans (hw1.mono u.size)
          have u := u.trans (dW2.mono u.size)
          have u := u.trans (hw3.mono u.size)
          have u := u.trans (n16.below.mono u.size)
          have u := u.trans (hw17.mono u.size)
          have u := u.trans (hw18.mono u.size)
          have u := u.trans (hw19.mono u.size)
          have u := u.trans (sw20.below _ (by omega))
          have rg := RowAt.below hw19 rg.lt rg
          have rg := sw20.keep rg (by omega)
          have oi := oi.below (hw3.mono (by omega))
          have oi := oi.below (n16.below.mono (by omega))
          have oi := oi.below (hw17.mono (by omega))
          have oi := oi.below (hw18.mono (by omega))
          have oi := oi.below (hw19.mono (by omega))
          have oi := oi.set qw20 cS_no sw20
          rw [eS] at r16
          rw [eS] at o19
          exact fun a ha => ⟨_, ⟨b16, _, _, _, rfl, rg, oi, r16, o19.more (by omega), by omega, u⟩, ha.keep (fk rfl (fk rfl (fk rfl (fk rfl (fk rfl fn)))))⟩
      · refine lg_allocw (want_none (by rfl)) rfl hzS rfl (by decide) fun b21 w21 n21 => ?_
        have r21 := n21.row
        have k21 := n21.blk
        have z21 := n21.size
        have pb := pb.trans (n21.below.mono pb.size)
        refine hg_next pb ?_
        refine hg_one 0 (by rfl) (by kernel_rfl) (want_none (by rfl)) ?_
        refine lg_callw (want_none (by rfl)) (new_any _) (by kernel_rfl) rfl rfl rfl (by decide) ?_
        rintro _ w22 ⟨A22, m22, c22, rfl, o22, hw22⟩
        have zw22 := hw22.size
        have pb := pb.trans (hw22.mono pb.size)
        refine hg_next pb ?_
        refine hg_one 4 (by rfl) (by kernel_rfl) (want_none (by rfl)) ?_
        have rg := RowAt.below hw1 rg.lt rg
        have rg := RowAt.below dW2 rg.lt rg
        have rg := n21.keep rg
        have rg := RowAt.below hw22 rg.lt rg
        have oa := oa.below (n21.below.mono (by omega))
        have oa := oa.below (hw22.mono (by omega))
        refine lg_callw (want_none (by rfl)) (write_any (S.new) _ _ _ _ _ _ (xs.take p) _ rg (o22.more (by omega)) (oa.more (by omega)) (by omega) (by omega)) (by kernel_rfl) rfl rfl rfl (by decide) ?_
        rintro _ w23 ⟨A23, m23, c23, rfl, o23, hw23⟩
        have zw23 := hw23.size
        have pb := pb.trans (hw23.mono pb.size)
        refine hg_next pb ?_
        refine hg_one 9 (by rfl) (by kernel_rfl) (want_none (by rfl)) ?_
        have rg := RowAt.below hw23 rg.lt rg
        have ob := ob.below (n21.below.mono (by omega))
        have ob := ob.below (hw22.mono (by omega))
        have ob := ob.below (hw23.mono (by omega))
        refine lg_callw (want_none (by rfl)) (write_any ((S.new).wr (xs.take p)) _ _ _ _ _ _ ((xs.take (p + r)).drop p) _ rg (o23.more (by omega)) (ob.more (by omega)) (by omega) (by omega)) (by kernel_rfl) rfl rfl rfl (by decide) ?_
        rintro _ w24 ⟨A24, m24, c24, rfl, o24, hw24⟩
        have zw24 := hw24.size
        have pb := pb.trans (hw24.mono pb.size)
        refine hg_next pb ?_
        refine hg_one 13 (by rfl) (by kernel_rfl) (want_none (by rfl)) ?_
        have rg := RowAt.below hw24 rg.lt rg
        have oe := oe.below (n21.below.mono (by omega))
        have oe := oe.below (hw22.mono (by omega))
        have oe := oe.below (hw23.mono (by omega))
        have oe := oe.below (hw24.mono (by omega))
        refine lg_callw (want_none (by rfl)) (write_any (((S.new).wr (xs.take p)).wr ((xs.take (p + r)).drop p)) _ _ _ _ _ _ (xs.drop (p + r)) _ rg (o24.more (by omega)) (oe.more (by omega)) (by omega) (by omega)) (by kernel_rfl) rfl rfl rfl (by decide) ?_
        rintro _ w25 ⟨A25, m25, c25, rfl, o25, hw25⟩
        have zw25 := hw25.size
        have pb := pb.trans (hw25.mono pb.size)
        refine hg_next pb ?_
        refine hg_one 15 (by rfl) (by kernel_rfl) (want_none (by rfl)) ?_
        have r21 := RowAt.below hw22 r21.lt r21
        have r21 := RowAt.below hw23 r21.lt r21
        have r21 := RowAt.below hw24 r21.lt r21
        have r21 := RowAt.below hw25 r21.lt r21
        have qw26 := r21
        refine lg_stw (want_none (by rfl)) r21 rfl rfl rfl (hsS _ _ _) (cS_one _ _ _ _ _) rfl rfl fun w26 sw26 => ?_
        have r21 := sw26.row
        have zw26 := sw26.size
        have pb := pb.trans (sw26.below _ (by omega))
        refine hg_next pb ?_
        refine hg_done (by kernel_rfl) ?_
        have o25 := o25.set qw26 cS_no sw26
        have u := u.trans (hw1.mono u.size)
        have u := u.trans (dW2.mono u.size)
        have u := u.trans (n21.below.mono u.size)
        have u := u.trans (hw22.mono u.size)
        have u := u.trans (hw23.mono u.size)
        have u := u.trans (hw24.mono u.size)
        have u := u.trans (hw25.mono u.size)
        have u := u.trans (sw26.below _ (by omega))
        have rg := RowAt.below hw25 rg.lt rg
        have rg := sw26.keep rg (by omega)
        have oi := oi.below (n21.below.mono (by omega))
        have oi := oi.below (hw22.mono (by omega))
        have oi := oi.below (hw23.mono (by omega))
        have oi := oi.below (hw24.mono (by omega))
        have oi := oi.below (hw25.mono (by omega))
        have oi := oi.set qw26 cS_no sw26
        rw [eS] at r21
        rw [eS] at o25
        exact fun a ha => ⟨_, ⟨b21, _, _, _, rfl, rg, oi, r21, o25.more (by omega), by omega, u⟩, ha.keep (fk rfl (fk rfl (fk rfl (fk rfl (fk rfl fn)))))⟩
    · rintro vc27 _ ⟨b10, Aq, mq, cq, rfl, rg, oi, r10, ox, hb10, u⟩
      have zv := u.size
      have l_rg := rg.lt
      have l_r10 := r10.lt
      refine cg_seq ?_
      refine cg_region ?_
      refine lg_callw (want_none (by rfl)) (new_any _) (by kernel_rfl) rfl rfl rfl (by decide) ?_
      rintro _ w28 ⟨A28, m28, c28, rfl, o28, hw28⟩
      have zw28 := hw28.size
      refine lsw (want_none (by rfl)) (y_move rfl rfl) rfl (by decide) ?_
      have rg := RowAt.below hw28 rg.lt rg
      have oi := oi.below (hw28.mono (by omega))
      refine lg_callw (want_none (by rfl)) (write_any (S.new) _ _ _ _ _ _ (xs) _ rg (o28.more (by omega)) (oi.more (by omega)) hnc (by omega)) (by kernel_rfl) rfl rfl rfl (by decide) ?_
      rintro _ w29 ⟨A29, m29, c29, rfl, o29, hw29⟩
      have zw29 := hw29.size
      refine lg_allocw (want_none (by rfl)) rfl hzS rfl (by decide) fun b30 w30 n30 => ?_
      have r30 := n30.row
      have k30 := n30.blk
      have z30 := n30.size
      have qw31 := r30
      refine lg_stw (want_none (by rfl)) r30 rfl rfl rfl (hsS _ _ _) (cS_one _ _ _ _ _) rfl rfl fun w31 sw31 => ?_
      have r30 := sw31.row
      have zw31 := sw31.size
      refine lg_nil ?_
      refine nx (E' := [(0, _), (7, _), (10, _), (11, _)]) (fk rfl (fk rfl (fk rfl (fk rfl fn)))) ?_
      refine cg_seq ?_
      have ox := ox.below (hw28.mono (by omega))
      have ox := ox.below (hw29.mono (by omega))
      have ox := ox.below (n30.below.mono (by omega))
      have ox := ox.set qw31 cS_no sw31
      have ew := new_wr xs (by omega)
      have hN : (S.new.wr xs).n = (m : Int) := by rw [ew]; show (xs.length : Int) = _; omega
      have hM : mq = m % 64 := by have := ox.1; rw [ew] at this; rw [← this, ← hl]; exact rest_len xs
      refine cg_held (by kernel_rfl) fun W32 eW32 => ?_
      have dW32 := below_drew _ _ eW32
      have zW32 := size_drew _ _ eW32
      clear eW32
      refine hg_take 0 (by rfl) (want_none (by rfl)) (by rfl) rfl (by decide) (by kernel_rfl) (by kernel_rfl) (by kernel_rfl) (fun _ _ _ h => h) (Below.refl _ _) (fun q hq => y_move rfl rfl) ?_
      refine hg_take 1 (by rfl) (want_none (by rfl)) (by rfl) rfl (by decide) (by kernel_rfl) (by kernel_rfl) (by kernel_rfl) (fun _ _ _ h => h) (Below.refl _ _) (fun q hq => y_move rfl rfl) ?_
      have r10 := RowAt.below hw28 r10.lt r10
      have r10 := RowAt.below hw29 r10.lt r10
      have r10 := n30.keep r10
      have r10 := sw31.keep r10 (by omega)
      have r10 := RowAt.below dW32 r10.lt r10
      refine hg_take 2 (by rfl) (want_t (dj := 51) (by rfl) (by kernel_rfl) rfl) (by rfl) rfl (by decide) (by kernel_rfl) (by kernel_rfl) (by kernel_rfl) (fun _ _ _ h => h) (Below.refl _ _) (fun q hq => y_part (RowAt.below hq r10.lt r10) (m := 10) (cS_all _ _ _) (by show _ ≤ 10; omega) (by kernel_rfl) (by kernel_rfl) rfl rfl) ?_
      have r30 := RowAt.below dW32 r30.lt r30
      refine hg_take 4 (by rfl) (want_t (dj := 51) (by rfl) (by kernel_rfl) rfl) (by rfl) rfl (by decide) (by kernel_rfl) (by kernel_rfl) (by kernel_rfl) (fun _ _ _ h => h) (Below.refl _ _) (fun q hq => y_part (RowAt.below hq r30.lt r30) (m := 10) (cS_all _ _ _) (by show _ ≤ 10; omega) (by kernel_rfl) (by kernel_rfl) rfl rfl) ?_
      refine hg_one 3 (by rfl) (by kernel_rfl) (want_t (dj := 51) (by rfl) (by kernel_rfl) rfl) ?_
      refine lg_callw (want_t (dj := 51) (by rfl) (by kernel_rfl) rfl) (theirs_any _ _ _ _ _ _) (by kernel_rfl) rfl rfl rfl (by decide) ?_
      rintro _ w33 ⟨rfl, hw33⟩
      have zw33 := hw33.size
      refine hg_next hw33 ?_
      refine hg_up hw33 ?_
      refine hg_one 5 (by rfl) (by kernel_rfl) (want_t (dj := 51) (by rfl) (by kernel_rfl) rfl) ?_
      refine lg_callw (want_t (dj := 51) (by rfl) (by kernel_rfl) rfl) (theirs_any _ _ _ _ _ _) (by kernel_rfl) rfl rfl rfl (by decide) ?_
      rintro _ w34 ⟨rfl, hw34⟩
      have zw34 := hw34.size
      refine hg_next hw34 ?_
      refine hg_up hw34 ?_
      refine hg_one 6 (by rfl) (by kernel_rfl) (want_t (dj := 51) (by rfl) (by kernel_rfl) rfl) ?_
      have ox := ox.below (dW32.mono (by omega))
      have ox := ox.below (hw33.mono (by omega))
      have ox := ox.below (hw34.mono (by omega))
      have o29 := o29.below (n30.below.mono (by omega))
      have o29 := o29.set qw31 cS_no sw31
      have o29 := o29.below (dW32.mono (by omega))
      have o29 := o29.below (hw33.mono (by omega))
      have o29 := o29.below (hw34.mono (by omega))
      refine lg_callw (want_t (dj := 51) (by rfl) (by kernel_rfl) rfl) (same_any _ _ _ _ _ _ _ _ _ _ (ox.more (by omega)) (o29.more (by omega))) (by kernel_rfl) rfl rfl rfl (by decide) ?_
      rintro _ w35 ⟨rfl, hw35⟩
      have zw35 := hw35.size
      refine hg_next hw35 ?_
      refine hg_up hw35 ?_
      refine hg_take 7 (by rfl) (want_none (by rfl)) (by rfl) rfl (by decide) (by kernel_rfl) (by kernel_rfl) (by kernel_rfl) (fun _ _ _ h => h) (Below.refl _ _) (fun q hq => y_pick true rfl rfl rfl) ?_
      refine hg_take 8 (by rfl) (want_none (by rfl)) (by rfl) rfl (by decide) (by kernel_rfl) (by kernel_rfl) (by kernel_rfl) (fun _ _ _ h => h) (Below.refl _ _) (fun q hq => y_move rfl rfl) ?_
      have r10 := RowAt.below hw33 r10.lt r10
      have r10 := RowAt.below hw34 r10.lt r10
      have r10 := RowAt.below hw35 r10.lt r10
      refine hg_take 9 (by rfl) (want_t (dj := 58) (by rfl) (by kernel_rfl) rfl) (by rfl) rfl (by decide) (by kernel_rfl) (by kernel_rfl) (by kernel_rfl) (fun _ _ _ h => h) (Below.refl _ _) (fun q hq => y_part (RowAt.below hq r10.lt r10) (m := 10) (cS_all _ _ _) (by show _ ≤ 10; omega) (by kernel_rfl) (by kernel_rfl) rfl rfl) ?_
      refine hg_take 12 (by rfl) (want_t (dj := 58) (by rfl) (by kernel_rfl) rfl) (by rfl) rfl (by decide) (by kernel_rfl) (by kernel_rfl) (by kernel_rfl) (fun _ _ _ h => h) (Below.refl _ _) (fun q hq => y_move rfl rfl) ?_
      refine hg_one 10 (by rfl) (by kernel_rfl) (want_t (dj := 58) (by rfl) (by kernel_rfl) rfl) ?_
      have rg := RowAt.below hw29 rg.lt rg
      have rg := n30.keep rg
      have rg := sw31.keep rg (by omega)
      have rg := RowAt.below dW32 rg.lt rg
      have rg := RowAt.below hw33 rg.lt rg
      have rg := RowAt.below hw34 rg.lt rg
      have rg := RowAt.below hw35 rg.lt rg
      have ox := ox.below (hw35.mono (by omega))
      refine lg_callw (want_t (dj := 58) (by rfl) (by kernel_rfl) rfl) (done_any (S.new.wr xs) _ _ _ _ rg (ox.more (by omega))) (by kernel_rfl) rfl rfl rfl (by decide) ?_
      rintro _ w36 ⟨A36, m36, c36, rfl, hc36, o36, hw36⟩
      have zw36 := hw36.size
      refine hg_next hw36 ?_
      refine hg_up hw36 ?_
      refine hg_take 11 (by rfl) (want_t (dj := 58) (by rfl) (by kernel_rfl) rfl) (by rfl) rfl (by decide) (by kernel_rfl) (by kernel_rfl) (by kernel_rfl) (fun _ _ _ h => h) (Below.refl _ _) (fun q hq => y_str (o36.below (hq.mono (by omega))) rfl rfl) ?_
      refine hg_one 13 (by rfl) (by kernel_rfl) (want_t (dj := 58) (by rfl) (by kernel_rfl) rfl) ?_
      have rg := RowAt.below hw36 rg.lt rg
      have oi := oi.below (hw29.mono (by omega))
      have oi := oi.below (n30.below.mono (by omega))
      have oi := oi.set qw31 cS_no sw31
      have oi := oi.below (dW32.mono (by omega))
      have oi := oi.below (hw33.mono (by omega))
      have oi := oi.below (hw34.mono (by omega))
      have oi := oi.below (hw35.mono (by omega))
      have oi := oi.below (hw36.mono (by omega))
      refine lg_callw (want_t (dj := 58) (by rfl) (by kernel_rfl) rfl) (sum_any _ _ _ _ _ rg (oi.more (by omega)) hnc (by omega)) (by kernel_rfl) rfl rfl rfl (by decide) ?_
      rintro _ w37 ⟨A37, m37, c37, rfl, hc37, o37, hw37⟩
      have zw37 := hw37.size
      refine hg_next hw37 ?_
      refine hg_up hw37 ?_
      refine hg_take 14 (by rfl) (want_t (dj := 58) (by rfl) (by kernel_rfl) rfl) (by rfl) rfl (by decide) (by kernel_rfl) (by kernel_rfl) (by kernel_rfl) (fun _ _ _ h => h) (Below.refl _ _) (fun q hq => y_str (o37.below (hq.mono (by omega))) rfl rfl) ?_
      refine hg_take 15 (by rfl) (want_t (dj := 58) (by rfl) (by kernel_rfl) rfl) (by rfl) rfl (by decide) (by kernel_rfl) (by kernel_rfl) (by kernel_rfl) (fun _ _ _ h => h) (Below.refl _ _) (fun q hq => y_streq_t rfl rfl rfl rfl) ?_
      refine hg_take 16 (by rfl) (want_none (by rfl)) (by rfl) rfl (by decide) (by kernel_rfl) (by kernel_rfl) (by kernel_rfl) (fun _ _ _ h => h) (Below.refl _ _) (fun q hq => y_pick true rfl rfl rfl) ?_
      refine hg_take 17 (by rfl) (want_none (by rfl)) (by rfl) rfl (by decide) (by kernel_rfl) (by kernel_rfl) (by kernel_rfl) (fun _ _ _ h => h) (Below.refl _ _) (fun q hq => y_move rfl rfl) ?_
      have r30 := RowAt.below hw33 r30.lt r30
      have r30 := RowAt.below hw34 r30.lt r30
      have r30 := RowAt.below hw35 r30.lt r30
      have r30 := RowAt.below hw36 r30.lt r30
      have r30 := RowAt.below hw37 r30.lt r30
      refine hg_take 18 (by rfl) (want_t (dj := 67) (by rfl) (by kernel_rfl) rfl) (by rfl) rfl (by decide) (by kernel_rfl) (by kernel_rfl) (by kernel_rfl) (fun _ _ _ h => h) (Below.refl _ _) (fun q hq => y_part (RowAt.below hq r30.lt r30) (m := 10) (cS_all _ _ _) (by show _ ≤ 10; omega) (by kernel_rfl) (by kernel_rfl) rfl rfl) ?_
      refine hg_one 19 (by rfl) (by kernel_rfl) (want_t (dj := 67) (by rfl) (by kernel_rfl) rfl) ?_
      have rg := RowAt.below hw37 rg.lt rg
      have o29 := o29.below (hw35.mono (by omega))
      have o29 := o29.below (hw36.mono (by omega))
      have o29 := o29.below (hw37.mono (by omega))
      refine lg_callw (want_t (dj := 67) (by rfl) (by kernel_rfl) rfl) (done_any ((S.new).wr (xs)) _ _ _ _ rg (o29.more (by omega))) (by kernel_rfl) rfl rfl rfl (by decide) ?_
      rintro _ w38 ⟨A38, m38, c38, rfl, hc38, o38, hw38⟩
      have zw38 := hw38.size
      refine hg_next hw38 ?_
      refine hg_up hw38 ?_
      refine hg_take 20 (by rfl) (want_t (dj := 67) (by rfl) (by kernel_rfl) rfl) (by rfl) rfl (by decide) (by kernel_rfl) (by kernel_rfl) (by kernel_rfl) (fun _ _ _ h => h) (Below.refl _ _) (fun q hq => y_len (el := 5) (by kernel_rfl) rfl rfl) ?_
      refine hg_take 21 (by rfl) (want_t (dj := 67) (by rfl) (by kernel_rfl) rfl) (by rfl) rfl (by decide) (by kernel_rfl) (by kernel_rfl) (by kernel_rfl) (fun _ _ _ h => h) (Below.refl _ _) (fun q hq => yb2 (yi_eql rfl rfl rfl) (decide_eq_true (by have hq := o38.1; rw [done_len] at hq; omega))) ?_
      refine hg_take 22 (by rfl) (want_none (by rfl)) (by rfl) rfl (by decide) (by kernel_rfl) (by kernel_rfl) (by kernel_rfl) (fun _ _ _ h => h) (Below.refl _ _) (fun q hq => y_pick true rfl rfl rfl) ?_
      refine hg_take 23 (by rfl) (want_none (by rfl)) (by rfl) rfl (by decide) (by kernel_rfl) (by kernel_rfl) (by kernel_rfl) (fun _ _ _ h => h) (Below.refl _ _) (fun q hq => y_move rfl rfl) ?_
      refine hg_take 24 (by rfl) (want_t (dj := 73) (by rfl) (by kernel_rfl) rfl) (by rfl) rfl (by decide) (by kernel_rfl) (by kernel_rfl) (by kernel_rfl) (fun _ _ _ h => h) (Below.refl _ _) (fun q hq => y_fld (off := 9) (by kernel_rfl) rfl rfl) ?_
      have r10 := RowAt.below hw36 r10.lt r10
      have r10 := RowAt.below hw37 r10.lt r10
      have r10 := RowAt.below hw38 r10.lt r10
      refine hg_take 25 (by rfl) (want_t (dj := 73) (by rfl) (by kernel_rfl) rfl) (by rfl) rfl (by decide) (by kernel_rfl) (by kernel_rfl) (by kernel_rfl) (fun _ _ _ h => h) (Below.refl _ _) (fun q hq => y_cellv (RowAt.below hq r10.lt r10) (cS_9 _ _ _) (by kernel_rfl) rfl rfl) ?_
      refine hg_take 26 (by rfl) (want_t (dj := 73) (by rfl) (by kernel_rfl) rfl) (by rfl) rfl (by decide) (by kernel_rfl) (by kernel_rfl) (by kernel_rfl) (fun _ _ _ h => h) (Below.refl _ _) (fun q hq => y_move rfl rfl) ?_
      refine hg_take 27 (by rfl) (want_t (dj := 73) (by rfl) (by kernel_rfl) rfl) (by rfl) rfl (by decide) (by kernel_rfl) (by kernel_rfl) (by kernel_rfl) (fun _ _ _ h => h) (Below.refl _ _) (fun q hq => y_len (el := 5) (by kernel_rfl) rfl rfl) ?_
      refine hg_take 28 (by rfl) (want_t (dj := 73) (by rfl) (by kernel_rfl) rfl) (by rfl) rfl (by decide) (by kernel_rfl) (by kernel_rfl) (by kernel_rfl) (fun _ _ _ h => h) (Below.refl _ _) (fun q hq => yb2 (yi_eql rfl rfl rfl) (decide_eq_true hN)) ?_
      refine hg_take 29 (by rfl) (want_none (by rfl)) (by rfl) rfl (by decide) (by kernel_rfl) (by kernel_rfl) (by kernel_rfl) (fun _ _ _ h => h) (Below.refl _ _) (fun q hq => y_pick true rfl rfl rfl) ?_
      refine hg_take 30 (by rfl) (want_none (by rfl)) (by rfl) rfl (by decide) (by kernel_rfl) (by kernel_rfl) (by kernel_rfl) (fun _ _ _ h => h) (Below.refl _ _) (fun q hq => y_move rfl rfl) ?_
      refine hg_take 31 (by rfl) (want_t (dj := 80) (by rfl) (by kernel_rfl) rfl) (by rfl) rfl (by decide) (by kernel_rfl) (by kernel_rfl) (by kernel_rfl) (fun _ _ _ h => h) (Below.refl _ _) (fun q hq => y_fld (off := 8) (by kernel_rfl) rfl rfl) ?_
      refine hg_take 32 (by rfl) (want_t (dj := 80) (by rfl) (by kernel_rfl) rfl) (by rfl) rfl (by decide) (by kernel_rfl) (by kernel_rfl) (by kernel_rfl) (fun _ _ _ h => h) (Below.refl _ _) (fun q hq => y_cellv (RowAt.below hq r10.lt r10) (cS_8 _ _ _) (by kernel_rfl) rfl rfl) ?_
      refine hg_take 33 (by rfl) (want_t (dj := 80) (by rfl) (by kernel_rfl) rfl) (by rfl) rfl (by decide) (by kernel_rfl) (by kernel_rfl) (by kernel_rfl) (fun _ _ _ h => h) (Below.refl _ _) (fun q hq => y_len (el := 5) (by kernel_rfl) rfl rfl) ?_
      refine hg_take 34 (by rfl) (want_t (dj := 80) (by rfl) (by kernel_rfl) rfl) (by rfl) rfl (by decide) (by kernel_rfl) (by kernel_rfl) (by kernel_rfl) (fun _ _ _ h => h) (Below.refl _ _) (fun q hq => y_move rfl rfl) ?_
      refine hg_take 35 (by rfl) (want_t (dj := 80) (by rfl) (by kernel_rfl) rfl) (by rfl) rfl (by decide) (by kernel_rfl) (by kernel_rfl) (by kernel_rfl) (fun _ _ _ h => h) (Below.refl _ _) (fun q hq => y_len (el := 5) (by kernel_rfl) rfl rfl) ?_
      refine hg_take 36 (by rfl) (want_t (dj := 80) (by rfl) (by kernel_rfl) rfl) (by rfl) rfl (by decide) (by kernel_rfl) (by kernel_rfl) (by kernel_rfl) (fun _ _ _ h => h) (Below.refl _ _) (fun q hq => yi_rem rfl rfl rfl (by omega) (by omega)) ?_
      refine hg_take 37 (by rfl) (want_t (dj := 80) (by rfl) (by kernel_rfl) rfl) (by rfl) rfl (by decide) (by kernel_rfl) (by kernel_rfl) (by kernel_rfl) (fun _ _ _ h => h) (Below.refl _ _) (fun q hq => yb2 (yi_eql rfl rfl rfl) (decide_eq_true (by omega))) ?_
      refine hg_take 38 (by rfl) (want_none (by rfl)) (by rfl) rfl (by decide) (by kernel_rfl) (by kernel_rfl) (by kernel_rfl) (fun _ _ _ h => h) (Below.refl _ _) (fun q hq => y_pick true rfl rfl rfl) ?_
      refine hg_take 39 (by rfl) (want_none (by rfl)) (by rfl) rfl (by decide) (by kernel_rfl) (by kernel_rfl) (by kernel_rfl) (fun _ _ _ h => h) (Below.refl _ _) (fun q hq => y_assign rfl rfl) ?_
      refine hg_done (by kernel_rfl) ?_
      refine nx (E' := [(6, _)]) (fk rfl fn) ?_
      refine cg_ret ?_
      have u := u.trans (hw28.mono u.size)
      have u := u.trans (hw29.mono u.size)
      have u := u.trans (n30.below.mono u.size)
      have u := u.trans (sw31.below _ (by omega))
      have u := u.trans (dW32.mono u.size)
      have u := u.trans (hw33.mono u.size)
      have u := u.trans (hw34.mono u.size)
      have u := u.trans (hw35.mono u.size)
      have u := u.trans (hw36.mono u.size)
      have u := u.trans (hw37.mono u.size)
      have u := u.trans (hw38.mono u.size)
      exact eg_ret_tmp rfl rfl ⟨_, rfl, rfl, u⟩
end Go.Proofs.YtdenbbfmiadcbaaDoor
