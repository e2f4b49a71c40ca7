/-
  The two sums of octets: what they answer, and where it lies.
-/
import Derived.Test.YtkcpmpbjjnknhaaGreatDoorShRef
import Derived.Test.YtkcpmpbjjnknhaaGreatDoorKitA
namespace Go.Proofs.YtkcpmpbjjnknhaaGreatDoor
open Go.ChangeShapes Go.WideShapes Go.ChangeAt Go.RowKit
set_option linter.unusedVariables false
set_option maxRecDepth 20000
/-- It lies in a row of octets. -/
def U8 (w : World) (A : Option Addr) : Prop := ∀ p, A = some p → ∃ cs, w.heap[p.block]? = some (.cells cs 5 (0, 0))
theorem own_u8 {w : World} {base k n c : Nat} {A : Option Addr} {xs : List Value} (h : w.ownsRow base 5 1 (.slice A n c) k xs) : U8 w A := by
  rcases h.2 with ⟨e, _⟩ | ⟨g, cap, cur, e, hg, hh, _⟩
  · cases e
    intro p q
    cases q
  · cases e
    intro p q
    cases q
    exact ⟨cur, hh⟩
/-- Octets of one's own, in a row of octets. -/
def SlT (w : World) (xs : List Int) (v : Value) (w' : World) : Prop :=
  ∃ A m c, v = .slice A m c ∧ m ≤ c ∧ (c ≤ maxLen ∧ U8 w' A) ∧ Oct w' w'.heap.size A m xs ∧ Below w.heap.size w w'
theorem octetsT_any (h : Nat → BitVec 32) (w : World) : Calls Tryz.prog 94 #[.agg (cW 8 h)] w fun e w' => ∃ v, e = .returned v ∧ SlT w (outF h 8) v w' := by
  refine calls_cg (n := 27) Tryz.func94 rfl Tryz.ntmps94 (by simp) ?_
  show CG _ _ _ [(0, .agg (cW 8 h))] _ _
  have u := Below.refl w.heap.size w
  refine cg_seq ?_
  refine cg_region ?_
  refine lg_boxw (want_none (by rfl)) rfl rfl (hs8 _) rfl (by decide) fun b1 w1 n1 => ?_
  have r1 := n1.row
  have k1 := n1.blk
  have z1 := n1.size
  refine zA rfl rfl rfl rfl rfl ?_
  refine lg_nil ?_
  refine nx (zk2 1 2 rfl rfl fn) ?_
  refine cg_seq ?_
  refine cg_region ?_
  refine lg_mk0 32 (want_none (by rfl)) rfl (by decide) rfl rfl rfl rfl (by decide) fun u2 w2 p2 hw2 => ?_
  have zw2 := hw2.size
  refine zA rfl rfl rfl rfl rfl ?_
  refine lg_nil ?_
  refine nx (zk3 1 2 3 rfl rfl rfl fn) ?_
  refine cg_seq ?_
  refine cg_seq ?_
  refine cg_region ?_
  have r1 := RowAt.below hw2 r1.lt r1
  refine za rfl (y_part r1 (m := 8) (cW8_part _) (by rw [cW_size]; omega) (by kernel_rfl) (by kernel_rfl) rfl rfl) rfl rfl ?_
  refine zM rfl rfl rfl rfl rfl ?_
  refine lg_nil ?_
  refine nx (zk3 2 3 7 rfl rfl rfl (zk1 8 rfl fn)) ?_
  refine cg_block ?_
  have u := u.trans (n1.below.mono u.size)
  have u := u.trans (hw2.mono u.size)
  refine cg_loopE (fun i a v => ∃ (ur : Value), Holds 27 [(7, .agg (cW 8 h)), (8, iv i), (3, ur)] a ∧ v.ownsRow w1.heap.size 5 1 ur (outF h i).length ((outF h i).map (Value.int .u8)) ∧ w1.heap.size ≤ v.heap.size ∧ Below w.heap.size w v) 8 (fun a ha => ⟨_, ha.keep (fk rfl (fk rfl (fk rfl fn))), p2, by omega, u⟩) ?_
  rintro i a v ht ⟨ur, ha, po, hbs, u⟩
  refine cg_at ha ?_
  clear ha a
  have zv := u.size
  refine cg_seq ?_
  refine cg_region ?_
  refine za rfl (yi_lss rfl rfl rfl) rfl rfl ?_
  refine lg_nil ?_
  refine nx (zk3 7 8 3 rfl rfl rfl (zk1 9 rfl fn)) ?_
  refine cg_seq ?_
  refine cg_if rfl (fun hc9 => ?_) (fun hc9 => ?_)
  · refine cg_skip ?_
    refine nx (zk3 7 8 3 rfl rfl rfl (zk1 9 rfl fn)) ?_
    refine cg_seq ?_
    refine cg_block ?_
    refine cg_seq ?_
    refine cg_region ?_
    refine za rfl (y_idx (j := i) hu8 hsw huw (by omega) (cW_get (by omega)) rfl rfl rfl) rfl rfl ?_
    refine zA rfl rfl rfl rfl rfl ?_
    refine lg_nil ?_
    refine nx (zk5 7 8 3 9 10 rfl rfl rfl rfl rfl (zk1 5 rfl fn)) ?_
    refine cg_region ?_
    refine zM rfl rfl rfl rfl rfl ?_
    refine zM rfl rfl rfl rfl rfl ?_
    refine za rfl (y_shr 24 .u64 (by decide) rfl rfl rfl) rfl rfl ?_
    refine za rfl (y_wb rfl rfl) rfl rfl ?_
    refine zM rfl rfl rfl rfl rfl ?_
    refine za rfl (y_shr 16 .u64 (by decide) rfl rfl rfl) rfl rfl ?_
    refine za rfl (y_wb rfl rfl) rfl rfl ?_
    refine zM rfl rfl rfl rfl rfl ?_
    refine za rfl (y_shr 8 .u64 (by decide) rfl rfl rfl) rfl rfl ?_
    refine za rfl (y_wb rfl rfl) rfl rfl ?_
    refine zM rfl rfl rfl rfl rfl ?_
    refine za rfl (y_wb rfl rfl) rfl rfl ?_
    refine lg_bslice (el := 5) (by kernel_rfl) (z := .int .u8 0) (by kernel_rfl) (by decide) (by decide) rfl rfl (cs := #[ov ((h i >>> 24).setWidth 8), ov ((h i >>> 16).setWidth 8), ov ((h i >>> 8).setWidth 8), ov ((h i).setWidth 8)]) (by kernel_rfl) rfl rfl (by decide) fun b3 w3 n3 => ?_
    have r3 := n3.row
    have k3 := n3.blk
    have z3 := n3.size
    have o3 := oct_lit r3 (xs := be4 (h i)) rfl (be4_rng _)
    have po := own_below po n3.below
    refine lg_append po o3 (by have ho := o3.1; have := outF_len h i; have : (be4 (h i)).length = 4 := rfl; omega) (by omega) (want_none (by rfl)) rfl rfl rfl rfl rfl (by decide) fun u4 w4 po hw4 => ?_
    have zw4 := hw4.size
    refine zA rfl rfl rfl rfl rfl ?_
    refine lg_nil ?_
    refine eg_block_norm ?_
    refine nx (zk5 7 8 9 10 5 rfl rfl rfl rfl rfl (zk5 11 12 13 14 15 rfl rfl rfl rfl rfl (zk5 16 17 18 19 20 rfl rfl rfl rfl rfl (zk5 21 22 23 24 3 rfl rfl rfl rfl rfl fn)))) ?_
    refine cg_region ?_
    refine za rfl (yi_add rfl rfl rfl (by omega) (by omega)) rfl rfl ?_
    refine zM rfl rfl rfl rfl rfl ?_
    refine lg_nil ?_
    have u := u.trans (n3.below.mono u.size)
    have u := u.trans (hw4.mono (by omega))
    exact fun a ha => (show i < 8 ∧ _ from ⟨(by omega), _, ha.keep (fk rfl (fk rfl (fk rfl fn))), po, by omega, u⟩)
  · obtain rfl : i = 8 := by omega
    refine cg_exit ?_
    refine eg_seq_exit ?_
    refine eg_seq_exit ?_
    refine eg_block_exit ?_
    refine nx (zk1 3 rfl fn) ?_
    refine cg_seq ?_
    refine cg_region ?_
    refine zM rfl rfl rfl rfl rfl ?_
    refine zA rfl rfl rfl rfl rfl ?_
    refine lg_nil ?_
    refine nx (zk1 2 rfl fn) ?_
    refine cg_ret ?_
    obtain ⟨A9, c9, rfl, hc9, x9, o9⟩ := own_sl po (outF_rng h 8)
    exact eg_ret_tmp rfl rfl ⟨_, rfl, A9, _, c9, rfl, hc9, ⟨x9, own_u8 po⟩, o9, u⟩
theorem doneT_any (s : S) (A : Option Addr) (m c : Nat) (w : World) {tg : TypeId} (rg : RowAt w 0 tg (cW 64 num)) (o1 : Oct w w.heap.size A m s.b) : Calls Tryz.prog 58 #[.agg (cS s.h (.slice A m c) s.n)] w fun e w' => ∃ v, e = .returned v ∧ SlT w s.done v w' := by
  refine calls_cg (n := 12) Tryz.func58 rfl Tryz.ntmps58 (by simp) ?_
  show CG _ _ _ [(0, .agg (cS s.h (.slice A m c) s.n))] _ _
  have u := Below.refl w.heap.size w
  have hl1 := o1.1
  have h0 := rg.lt
  refine cg_seq ?_
  refine cg_region ?_
  refine lg_boxw (want_none (by rfl)) rfl rfl (hsS _ _ _) rfl (by decide) fun b1 w1 n1 => ?_
  have r1 := n1.row
  have k1 := n1.blk
  have z1 := n1.size
  refine zA rfl rfl rfl rfl rfl ?_
  refine lg_nil ?_
  refine nx (zk2 1 2 rfl rfl fn) ?_
  refine cg_seq ?_
  refine cg_region ?_
  refine za rfl (y_part r1 (m := 10) (cS_all _ _ _) (by show _ ≤ 10; omega) (by kernel_rfl) (by kernel_rfl) rfl rfl) rfl rfl ?_
  have o1 := o1.below (n1.below.mono (by omega))
  refine lg_callw (want_none (by rfl)) (sound_any s _ _ _ _ (o1.more (by omega))) (by kernel_rfl) rfl rfl rfl (by decide) ?_
  rintro _ w2 ⟨A2, m2, c2, rfl, o2, hw2⟩
  have zw2 := hw2.size
  have r1 := RowAt.below hw2 r1.lt r1
  have qw3 := r1
  refine lg_stw (want_none (by rfl)) r1 rfl rfl rfl (hsS _ _ _) (cS_one _ _ _ _ _) rfl rfl fun w3 sw3 => ?_
  have r1 := sw3.row
  have zw3 := sw3.size
  refine lg_nil ?_
  refine nx (zk2 1 2 rfl rfl fn) ?_
  refine cg_seq ?_
  refine cg_held (by kernel_rfl) fun W4 eW4 => ?_
  have dW4 := below_drew _ _ eW4
  have zW4 := size_drew _ _ eW4
  clear eW4
  have r1 := RowAt.below dW4 r1.lt r1
  refine zh 0 rfl rfl rfl rfl rfl (by kernel_rfl) (fun _ _ _ h => h) (fun q hq => y_part (RowAt.below hq r1.lt r1) (m := 10) (cS_all _ _ _) (by show _ ≤ 10; omega) (by kernel_rfl) (by kernel_rfl) rfl rfl) ?_
  refine zh 1 rfl rfl rfl rfl rfl (by kernel_rfl) (fun _ _ _ h => h) (fun q hq => y_fld (off := 9) (by kernel_rfl) rfl rfl) ?_
  refine zh 2 rfl rfl rfl rfl rfl (by kernel_rfl) (fun _ _ _ h => h) (fun q hq => y_cellv (RowAt.below hq r1.lt r1) (cS_9 _ _ _) (by kernel_rfl) rfl rfl) ?_
  refine hg_one 3 (by rfl) (by kernel_rfl) (want_none (by rfl)) ?_
  refine lg_callw (want_none (by rfl)) (pad_any _ _) (by kernel_rfl) rfl rfl rfl (by decide) ?_
  rintro _ w5 ⟨A5, m5, c5, rfl, hc5, o5, hw5⟩
  have zw5 := hw5.size
  refine hg_next hw5 ?_
  refine hg_up hw5 ?_
  refine hg_one 4 (by rfl) (by kernel_rfl) (want_none (by rfl)) ?_
  have o2 := o2.set qw3 cS_no sw3
  have o2 := o2.below (dW4.mono (by omega))
  have o2 := o2.below (hw5.mono (by omega))
  have rg := n1.keep rg
  have rg := RowAt.below hw2 rg.lt rg
  have rg := sw3.keep rg (by omega)
  have rg := RowAt.below dW4 rg.lt rg
  have rg := RowAt.below hw5 rg.lt rg
  refine lg_callw (want_none (by rfl)) (write_any s.as _ _ _ _ _ _ _ _ rg (o2.more (by omega)) (o5.more (by omega)) hc5 (by have := o5.1; have := padL_le s.as.n; omega)) (by kernel_rfl) rfl rfl rfl (by decide) ?_
  rintro _ w6 ⟨A6, m6, c6, rfl, o6, hw6⟩
  have zw6 := hw6.size
  refine hg_next hw6 ?_
  refine hg_up hw6 ?_
  refine zh 5 rfl rfl rfl rfl rfl (by kernel_rfl) (fun _ _ _ h => h) (fun q hq => y_fieldp (m := 8) (off := 0) (ft := 83) (by kernel_rfl) (by kernel_rfl) (by kernel_rfl) rfl rfl (cS_part _ _ _)) ?_
  refine hg_one 6 (by rfl) (by kernel_rfl) (want_none (by rfl)) ?_
  refine lg_callw (want_none (by rfl)) (octetsT_any _ _) (by kernel_rfl) rfl rfl rfl (by decide) ?_
  rintro _ w7 ⟨A7, m7, c7, rfl, hc7, x7, o7, hw7⟩
  have zw7 := hw7.size
  refine hg_next hw7 ?_
  refine hg_up hw7 ?_
  refine zh 7 rfl rfl rfl rfl rfl (by kernel_rfl) (fun _ _ _ h => h) (fun q hq => y_assign rfl rfl) ?_
  refine hg_done (by kernel_rfl) ?_
  refine nx (zk1 2 rfl fn) ?_
  refine cg_ret ?_
  have u := u.trans (n1.below.mono u.size)
  have u := u.trans (hw2.mono u.size)
  have u := u.trans (sw3.below _ (by omega))
  have u := u.trans (dW4.mono u.size)
  have u := u.trans (hw5.mono u.size)
  have u := u.trans (hw6.mono u.size)
  have u := u.trans (hw7.mono u.size)
  exact eg_ret_tmp rfl rfl ⟨_, rfl, _, _, _, rfl, hc7, x7, o7.more (by omega), u⟩
theorem sumT_any (A : Option Addr) (m c : Nat) (xs : List Int) (w : World) {tg : TypeId} (rg : RowAt w 0 tg (cW 64 num)) (oi : Oct w w.heap.size A m xs) (hnc : m ≤ c) (hm2 : m ≤ 281474976710656) : Calls Tryz.prog 30 #[.slice A m c] w fun e w' => ∃ v, e = .returned v ∧ SlT w (sumL xs) v w' := by
  refine calls_cg (n := 7) Tryz.func30 rfl Tryz.ntmps30 (by simp) ?_
  show CG _ _ _ [(0, .slice A m c)] _ _
  have u := Below.refl w.heap.size w
  have hl1 := oi.1
  have h0 := rg.lt
  refine cg_seq ?_
  refine cg_region ?_
  refine zA rfl rfl rfl rfl rfl ?_
  refine lg_nil ?_
  refine nx (zk2 0 2 rfl rfl fn) ?_
  refine cg_seq ?_
  refine cg_region ?_
  refine lg_callw (want_none (by rfl)) (new_any _) (by kernel_rfl) rfl rfl rfl (by decide) ?_
  rintro _ w1 ⟨A1, m1, c1, rfl, o1, hw1⟩
  have zw1 := hw1.size
  refine zM rfl rfl rfl rfl rfl ?_
  have oi := oi.below (hw1.mono (by omega))
  have rg := RowAt.below hw1 rg.lt rg
  refine lg_callw (want_none (by rfl)) (write_any S.new _ _ _ _ _ _ xs _ rg (o1.more (by omega)) (oi.more (by omega)) hnc hm2) (by kernel_rfl) rfl rfl rfl (by decide) ?_
  rintro _ w2 ⟨A2, m2, c2, rfl, o2, hw2⟩
  have zw2 := hw2.size
  have rg := RowAt.below hw2 rg.lt rg
  refine lg_callw (want_none (by rfl)) (doneT_any (S.new.wr xs) _ _ _ _ rg (o2.more (by omega))) (by kernel_rfl) rfl rfl rfl (by decide) ?_
  rintro _ w3 ⟨A3, m3, c3, rfl, hc3, x3, o3, hw3⟩
  have zw3 := hw3.size
  refine zA rfl rfl rfl rfl rfl ?_
  refine lg_nil ?_
  refine nx (zk1 2 rfl fn) ?_
  refine cg_ret ?_
  have u := u.trans (hw1.mono u.size)
  have u := u.trans (hw2.mono u.size)
  have u := u.trans (hw3.mono u.size)
  exact eg_ret_tmp rfl rfl ⟨_, rfl, _, _, _, rfl, hc3, x3, o3.more (by omega), u⟩
theorem rdoneT_any (s : S) (A : Option Addr) (m c : Nat) (w : World) (oi : Oct w w.heap.size A m s.b) : Calls Tryz.prog 103 #[.agg (cS s.h (.slice A m c) s.n)] w fun e w' => ∃ v, e = .returned v ∧ SlT w s.done v w' := by
  refine calls_cg (n := 41) Tryz.func103 rfl Tryz.ntmps103 (by simp) ?_
  show CG _ _ _ [(0, .agg (cS s.h (.slice A m c) s.n))] _ _
  have u := Below.refl w.heap.size w
  have hl1 := oi.1
  refine cg_seq ?_
  refine cg_region ?_
  refine lg_boxw (want_none (by rfl)) rfl rfl (hsR _ _ _) rfl (by decide) fun b1 w1 n1 => ?_
  have r1 := n1.row
  have k1 := n1.blk
  have z1 := n1.size
  refine zA rfl rfl rfl rfl rfl ?_
  refine lg_nil ?_
  refine nx (zk2 1 2 rfl rfl fn) ?_
  refine cg_seq ?_
  refine cg_region ?_
  refine za rfl (y_part r1 (m := 10) (cS_all _ _ _) (by show _ ≤ 10; omega) (by kernel_rfl) (by kernel_rfl) rfl rfl) rfl rfl ?_
  have oi := oi.below (n1.below.mono (by omega))
  refine lg_callw (want_none (by rfl)) (ras_any s _ _ _ _ (oi.more (by omega))) (by kernel_rfl) rfl rfl rfl (by decide) ?_
  rintro _ w2 ⟨A2, m2, c2, rfl, o2, hw2⟩
  have zw2 := hw2.size
  refine lg_allocw (want_none (by rfl)) rfl hzR rfl (by decide) fun b3 w3 n3 => ?_
  have r3 := n3.row
  have k3 := n3.blk
  have z3 := n3.size
  have qw4 := r3
  refine lg_stw (want_none (by rfl)) r3 rfl rfl rfl (hsR _ _ _) (cS_one _ _ _ _ _) rfl rfl fun w4 sw4 => ?_
  have r3 := sw4.row
  have zw4 := sw4.size
  refine lg_nil ?_
  refine nx (zk2 2 3 rfl rfl fn) ?_
  refine cg_cut (fun v E' => ∃ (b4 : Nat) (Aq : Option Addr) (mq : Nat) (cq : Nat), E' = [(4, pv b4 0)] ∧ RowAt v b4 119 (cS (s.as.wr (padL s.as.n)).h (.slice Aq mq cq) (s.as.wr (padL s.as.n)).n) ∧ w.heap.size ≤ b4 ∧ Below w.heap.size w v) ?_ ?_
  · refine cg_held (by kernel_rfl) fun W5 eW5 => ?_
    have dW5 := below_drew _ _ eW5
    have zW5 := size_drew _ _ eW5
    clear eW5
    have pb := Below.refl W5.heap.size W5
    have r3 := RowAt.below dW5 r3.lt r3
    refine hg_take 0 (by rfl) (want_none (by rfl)) (by rfl) rfl (by decide) (by kernel_rfl) (by kernel_rfl) (by kernel_rfl) (fun _ _ _ h => h) pb (fun q hq => y_part (RowAt.below hq r3.lt r3) (m := 10) (cS_all _ _ _) (by show _ ≤ 10; omega) (by kernel_rfl) (by kernel_rfl) rfl rfl) ?_
    refine hg_take 1 (by rfl) (want_none (by rfl)) (by rfl) rfl (by decide) (by kernel_rfl) (by kernel_rfl) (by kernel_rfl) (fun _ _ _ h => h) pb (fun q hq => y_fld (off := 9) (by kernel_rfl) rfl rfl) ?_
    refine hg_take 2 (by rfl) (want_none (by rfl)) (by rfl) rfl (by decide) (by kernel_rfl) (by kernel_rfl) (by kernel_rfl) (fun _ _ _ h => h) pb (fun q hq => y_cellv (RowAt.below hq r3.lt r3) (cS_9 _ _ _) (by kernel_rfl) rfl rfl) ?_
    refine hg_two 3 5 (by rfl) (by rfl) (by kernel_rfl) (want_none (by rfl)) (want_none (by rfl)) ?_ ?_
    · refine lg_callw (want_none (by rfl)) (rpad_any _ _) (by kernel_rfl) rfl rfl rfl (by decide) ?_
      rintro _ w6 ⟨A6, m6, c6, rfl, hc6, o6, hw6⟩
      have zw6 := hw6.size
      have pb := pb.trans (hw6.mono pb.size)
      refine hg_next pb ?_
      refine hg_two 4 5 (by rfl) (by rfl) (by kernel_rfl) (want_none (by rfl)) (want_none (by rfl)) ?_ ?_
      · have o2 := o2.below (n3.below.mono (by omega))
        have o2 := o2.set qw4 cS_no sw4
        have o2 := o2.below (dW5.mono (by omega))
        have o2 := o2.below (hw6.mono (by omega))
        refine lg_callw (want_none (by rfl)) (rwrite_any s.as _ _ _ _ _ _ _ _ (o2.more (by omega)) (o6.more (by omega)) (by have := o6.1; have := padL_le s.as.n; omega)) (by kernel_rfl) rfl rfl rfl (by decide) ?_
        rintro _ w7 ⟨A7, m7, c7, rfl, o7, hw7⟩
        have zw7 := hw7.size
        have pb := pb.trans (hw7.mono pb.size)
        refine hg_next pb ?_
        refine hg_one 5 (by rfl) (by kernel_rfl) (want_none (by rfl)) ?_
        refine lg_allocw (want_none (by rfl)) rfl hzR rfl (by decide) fun b8 w8 n8 => ?_
        have r8 := n8.row
        have k8 := n8.blk
        have z8 := n8.size
        have pb := pb.trans (n8.below.mono pb.size)
        refine hg_next pb ?_
        refine hg_one 6 (by rfl) (by kernel_rfl) (want_none (by rfl)) ?_
        have qw9 := r8
        refine lg_stw (want_none (by rfl)) r8 rfl rfl rfl (hsR _ _ _) (cS_one _ _ _ _ _) rfl rfl fun w9 sw9 => ?_
        have r8 := sw9.row
        have zw9 := sw9.size
        have pb := pb.trans (sw9.below _ (by omega))
        refine hg_next pb ?_
        refine hg_done (by kernel_rfl) ?_
        have u := u.trans (n1.below.mono u.size)
        have u := u.trans (hw2.mono u.size)
        have u := u.trans (n3.below.mono u.size)
        have u := u.trans (sw4.below _ (by omega))
        have u := u.trans (dW5.mono u.size)
        have u := u.trans (hw6.mono u.size)
        have u := u.trans (hw7.mono u.size)
        have u := u.trans (n8.below.mono u.size)
        have u := u.trans (sw9.below _ (by omega))
        exact fun a ha => ⟨_, ⟨b8, _, _, _, rfl, r8, by omega, u⟩, ha.keep (fk rfl fn)⟩
      · refine lg_allocw (want_none (by rfl)) rfl hzR rfl (by decide) fun b10 w10 n10 => ?_
        have r10 := n10.row
        have k10 := n10.blk
        have z10 := n10.size
        have pb := pb.trans (n10.below.mono pb.size)
        refine hg_next pb ?_
        refine hg_one 4 (by rfl) (by kernel_rfl) (want_none (by rfl)) ?_
        have o2 := o2.below (n3.below.mono (by omega))
        have o2 := o2.set qw4 cS_no sw4
        have o2 := o2.below (dW5.mono (by omega))
        have o2 := o2.below (hw6.mono (by omega))
        have o2 := o2.below (n10.below.mono (by omega))
        have o6 := o6.below (n10.below.mono (by omega))
        refine lg_callw (want_none (by rfl)) (rwrite_any s.as _ _ _ _ _ _ _ _ (o2.more (by omega)) (o6.more (by omega)) (by have := o6.1; have := padL_le s.as.n; omega)) (by kernel_rfl) rfl rfl rfl (by decide) ?_
        rintro _ w11 ⟨A11, m11, c11, rfl, o11, hw11⟩
        have zw11 := hw11.size
        have pb := pb.trans (hw11.mono pb.size)
        refine hg_next pb ?_
        refine hg_one 6 (by rfl) (by kernel_rfl) (want_none (by rfl)) ?_
        have r10 := RowAt.below hw11 r10.lt r10
        have qw12 := r10
        refine lg_stw (want_none (by rfl)) r10 rfl rfl rfl (hsR _ _ _) (cS_one _ _ _ _ _) rfl rfl fun w12 sw12 => ?_
        have r10 := sw12.row
        have zw12 := sw12.size
        have pb := pb.trans (sw12.below _ (by omega))
        refine hg_next pb ?_
        refine hg_done (by kernel_rfl) ?_
        have u := u.trans (n1.below.mono u.size)
        have u := u.trans (hw2.mono u.size)
        have u := u.trans (n3.below.mono u.size)
        have u := u.trans (sw4.below _ (by omega))
        have u := u.trans (dW5.mono u.size)
        have u := u.trans (hw6.mono u.size)
        have u := u.trans (n10.below.mono u.size)
        have u := u.trans (hw11.mono u.size)
        have u := u.trans (sw12.below _ (by omega))
        exact fun a ha => ⟨_, ⟨b10, _, _, _, rfl, r10, by omega, u⟩, ha.keep (fk rfl fn)⟩
    · refine lg_allocw (want_none (by rfl)) rfl hzR rfl (by decide) fun b13 w13 n13 => ?_
      have r13 := n13.row
      have k13 := n13.blk
      have z13 := n13.size
      have pb := pb.trans (n13.below.mono pb.size)
      refine hg_next pb ?_
      refine hg_one 3 (by rfl) (by kernel_rfl) (want_none (by rfl)) ?_
      refine lg_callw (want_none (by rfl)) (rpad_any _ _) (by kernel_rfl) rfl rfl rfl (by decide) ?_
      rintro _ w14 ⟨A14, m14, c14, rfl, hc14, o14, hw14⟩
      have zw14 := hw14.size
      have pb := pb.trans (hw14.mono pb.size)
      refine hg_next pb ?_
      refine hg_one 4 (by rfl) (by kernel_rfl) (want_none (by rfl)) ?_
      have o2 := o2.below (n3.below.mono (by omega))
      have o2 := o2.set qw4 cS_no sw4
      have o2 := o2.below (dW5.mono (by omega))
      have o2 := o2.below (n13.below.mono (by omega))
      have o2 := o2.below (hw14.mono (by omega))
      refine lg_callw (want_none (by rfl)) (rwrite_any s.as _ _ _ _ _ _ _ _ (o2.more (by omega)) (o14.more (by omega)) (by have := o14.1; have := padL_le s.as.n; omega)) (by kernel_rfl) rfl rfl rfl (by decide) ?_
      rintro _ w15 ⟨A15, m15, c15, rfl, o15, hw15⟩
      have zw15 := hw15.size
      have pb := pb.trans (hw15.mono pb.size)
      refine hg_next pb ?_
      refine hg_one 6 (by rfl) (by kernel_rfl) (want_none (by rfl)) ?_
      have r13 := RowAt.below hw14 r13.lt r13
      have r13 := RowAt.below hw15 r13.lt r13
      have qw16 := r13
      refine lg_stw (want_none (by rfl)) r13 rfl rfl rfl (hsR _ _ _) (cS_one _ _ _ _ _) rfl rfl fun w16 sw16 => ?_
      have r13 := sw16.row
      have zw16 := sw16.size
      have pb := pb.trans (sw16.below _ (by omega))
      refine hg_next pb ?_
      refine hg_done (by kernel_rfl) ?_
      have u := u.trans (n1.below.mono u.size)
      have u := u.trans (hw2.mono u.size)
      have u := u.trans (n3.below.mono u.size)
      have u := u.trans (sw4.below _ (by omega))
      have u := u.trans (dW5.mono u.size)
      have u := u.trans (n13.below.mono u.size)
      have u := u.trans (hw14.mono u.size)
      have u := u.trans (hw15.mono u.size)
      have u := u.trans (sw16.below _ (by omega))
      exact fun a ha => ⟨_, ⟨b13, _, _, _, rfl, r13, by omega, u⟩, ha.keep (fk rfl fn)⟩
  · rintro vc17 _ ⟨b4, Aq, mq, cq, rfl, r4, hb4, u⟩
    have zv := u.size
    refine cg_seq ?_
    refine cg_region ?_
    refine zA rfl rfl rfl rfl rfl ?_
    refine lg_nil ?_
    refine nx (zk2 4 5 rfl rfl fn) ?_
    refine cg_seq ?_
    refine cg_seq ?_
    refine cg_region ?_
    refine zA rfl rfl rfl rfl rfl ?_
    refine lg_nil ?_
    refine nx (zk3 4 5 6 rfl rfl rfl fn) ?_
    refine cg_block ?_
    have po := own_nil vc17
    refine cg_loopE (fun i a v => ∃ (ur : Value), Holds 41 [(4, pv b4 0), (5, ur), (6, iv i)] a ∧ RowAt v b4 119 (cS (s.as.wr (padL s.as.n)).h (.slice Aq mq cq) (s.as.wr (padL s.as.n)).n) ∧ v.ownsRow vc17.heap.size 5 1 ur (outF (s.as.wr (padL s.as.n)).h i).length ((outF (s.as.wr (padL s.as.n)).h i).map (Value.int .u8)) ∧ vc17.heap.size ≤ v.heap.size ∧ w.heap.size ≤ vc17.heap.size ∧ b4 < vc17.heap.size ∧ Below w.heap.size w v) 8 (fun a ha => ⟨_, ha.keep (fk rfl (fk rfl (fk rfl fn))), r4, po, Nat.le_refl _, u.size, r4.lt, u⟩) ?_
    rintro i a v ht ⟨ur, ha, r4, po, hbs, hbw, hbb, u⟩
    refine cg_at ha ?_
    clear ha a
    have zv := u.size
    refine cg_seq ?_
    refine cg_seq ?_
    refine cg_region ?_
    refine zM rfl rfl rfl rfl rfl ?_
    refine za rfl (yi_lss rfl rfl rfl) rfl rfl ?_
    refine lg_nil ?_
    refine nx (zk5 4 5 6 15 16 rfl rfl rfl rfl rfl fn) ?_
    refine cg_if rfl (fun hc16 => ?_) (fun hc16 => ?_)
    · refine cg_skip ?_
      refine nx (zk5 4 5 6 15 16 rfl rfl rfl rfl rfl fn) ?_
      refine cg_seq ?_
      refine cg_block ?_
      refine cg_seq ?_
      refine cg_region ?_
      refine zM rfl rfl rfl rfl rfl ?_
      refine za rfl (y_fld (off := 0) (by kernel_rfl) rfl rfl) rfl rfl ?_
      refine za rfl (y_ixa (j := i) hu8 hsw (by omega) rfl rfl rfl) rfl rfl ?_
      refine za rfl (y_cellv r4 (cS_w _ _ _ (by omega)) (by kernel_rfl) rfl rfl) rfl rfl ?_
      refine zA rfl rfl rfl rfl rfl ?_
      refine lg_nil ?_
      refine nx (zk5 4 5 6 15 16 rfl rfl rfl rfl rfl (zk5 19 20 21 22 7 rfl rfl rfl rfl rfl fn)) ?_
      refine cg_region ?_
      refine zM rfl rfl rfl rfl rfl ?_
      refine zM rfl rfl rfl rfl rfl ?_
      refine za rfl (y_shr 24 .u64 (by decide) rfl rfl rfl) rfl rfl ?_
      refine za rfl (y_wb rfl rfl) rfl rfl ?_
      refine zM rfl rfl rfl rfl rfl ?_
      refine za rfl (y_shr 16 .u64 (by decide) rfl rfl rfl) rfl rfl ?_
      refine za rfl (y_and (Y := 255#32) rfl rfl (by kernel_rfl)) rfl rfl ?_
      refine za rfl (yv (show ov _ = ov _ from congrArg (fun z => ov z) (and255 _)) (y_wb rfl rfl)) rfl rfl ?_
      refine zM rfl rfl rfl rfl rfl ?_
      refine za rfl (y_shr 8 .u64 (by decide) rfl rfl rfl) rfl rfl ?_
      refine za rfl (y_and (Y := 255#32) rfl rfl (by kernel_rfl)) rfl rfl ?_
      refine za rfl (yv (show ov _ = ov _ from congrArg (fun z => ov z) (and255 _)) (y_wb rfl rfl)) rfl rfl ?_
      refine zM rfl rfl rfl rfl rfl ?_
      refine za rfl (y_and (Y := 255#32) rfl rfl (by kernel_rfl)) rfl rfl ?_
      refine za rfl (yv (show ov _ = ov _ from congrArg (fun z => ov z) (and255 _)) (y_wb rfl rfl)) rfl rfl ?_
      refine lg_bslice (el := 5) (by kernel_rfl) (z := .int .u8 0) (by kernel_rfl) (by decide) (by decide) rfl rfl (cs := #[ov (((s.as.wr (padL s.as.n)).h i >>> 24).setWidth 8), ov (((s.as.wr (padL s.as.n)).h i >>> 16).setWidth 8), ov (((s.as.wr (padL s.as.n)).h i >>> 8).setWidth 8), ov (((s.as.wr (padL s.as.n)).h i).setWidth 8)]) (by kernel_rfl) rfl rfl (by decide) fun b18 w18 n18 => ?_
      have r18 := n18.row
      have k18 := n18.blk
      have z18 := n18.size
      have o18 := oct_lit r18 (xs := be4 ((s.as.wr (padL s.as.n)).h i)) rfl (be4_rng _)
      have po := own_below po n18.below
      refine lg_append po o18 (by have ho := o18.1; have := outF_len (s.as.wr (padL s.as.n)).h i; have : (be4 ((s.as.wr (padL s.as.n)).h i)).length = 4 := rfl; omega) (by omega) (want_none (by rfl)) rfl rfl rfl rfl rfl (by decide) fun u19 w19 po hw19 => ?_
      have zw19 := hw19.size
      refine zA rfl rfl rfl rfl rfl ?_
      refine lg_nil ?_
      refine eg_block_norm ?_
      refine nx (zk5 4 6 15 16 19 rfl rfl rfl rfl rfl (zk5 20 21 22 7 23 rfl rfl rfl rfl rfl (zk5 24 25 26 27 28 rfl rfl rfl rfl rfl (zk5 29 30 31 32 33 rfl rfl rfl rfl rfl (zk5 34 35 36 37 38 rfl rfl rfl rfl rfl (zk2 39 5 rfl rfl fn)))))) ?_
      refine cg_region ?_
      refine zM rfl rfl rfl rfl rfl ?_
      refine za rfl (yi_add rfl rfl rfl (by omega) (by omega)) rfl rfl ?_
      refine zA rfl rfl rfl rfl rfl ?_
      refine lg_nil ?_
      have r4 := n18.keep r4
      have r4 := RowAt.below hw19 (by omega) r4
      have u := u.trans (n18.below.mono u.size)
      have u := u.trans (hw19.mono (by omega))
      exact fun a ha => (show i < 8 ∧ _ from ⟨(by omega), _, ha.keep (fk rfl (fk rfl (fk rfl fn))), r4, po, by omega, hbw, hbb, u⟩)
    · obtain rfl : i = 8 := by omega
      refine cg_exit ?_
      refine eg_seq_exit ?_
      refine eg_seq_exit ?_
      refine eg_block_exit ?_
      refine nx (zk1 5 rfl fn) ?_
      refine cg_seq ?_
      refine cg_region ?_
      refine zM rfl rfl rfl rfl rfl ?_
      refine zA rfl rfl rfl rfl rfl ?_
      refine lg_nil ?_
      refine nx (zk1 2 rfl fn) ?_
      refine cg_ret ?_
      obtain ⟨A9, c9, rfl, hc9, x9, o9⟩ := own_sl po (outF_rng _ 8)
      exact eg_ret_tmp rfl rfl ⟨_, rfl, A9, _, c9, rfl, hc9, ⟨x9, own_u8 po⟩, o9, u⟩
theorem rsumT_any (A : Option Addr) (m c : Nat) (xs : List Int) (w : World) (oi : Oct w w.heap.size A m xs) (hm2 : m ≤ 100000) : Calls Tryz.prog 67 #[.slice A m c] w fun e w' => ∃ v, e = .returned v ∧ SlT w (sumL xs) v w' := by
  refine calls_cg (n := 7) Tryz.func67 rfl Tryz.ntmps67 (by simp) ?_
  show CG _ _ _ [(0, .slice A m c)] _ _
  have u := Below.refl w.heap.size w
  have hl1 := oi.1
  refine cg_seq ?_
  refine cg_region ?_
  refine zA rfl rfl rfl rfl rfl ?_
  refine lg_nil ?_
  refine nx (zk2 0 2 rfl rfl fn) ?_
  refine cg_seq ?_
  refine cg_region ?_
  refine lg_callw (want_none (by rfl)) (rnew_any _) (by kernel_rfl) rfl rfl rfl (by decide) ?_
  rintro _ w1 ⟨A1, m1, c1, rfl, o1, hw1⟩
  have zw1 := hw1.size
  refine zM rfl rfl rfl rfl rfl ?_
  have oi := oi.below (hw1.mono (by omega))
  refine lg_callw (want_none (by rfl)) (rwrite_any S.new _ _ _ _ _ _ xs _ (o1.more (by omega)) (oi.more (by omega)) hm2) (by kernel_rfl) rfl rfl rfl (by decide) ?_
  rintro _ w2 ⟨A2, m2, c2, rfl, o2, hw2⟩
  have zw2 := hw2.size
  refine lg_callw (want_none (by rfl)) (rdoneT_any (S.new.wr xs) _ _ _ _ (o2.more (by omega))) (by kernel_rfl) rfl rfl rfl (by decide) ?_
  rintro _ w3 ⟨A3, m3, c3, rfl, hc3, x3, o3, hw3⟩
  have zw3 := hw3.size
  refine zA rfl rfl rfl rfl rfl ?_
  refine lg_nil ?_
  refine nx (zk1 2 rfl fn) ?_
  refine cg_ret ?_
  have u := u.trans (hw1.mono u.size)
  have u := u.trans (hw2.mono u.size)
  have u := u.trans (hw3.mono u.size)
  exact eg_ret_tmp rfl rfl ⟨_, rfl, _, _, _, rfl, hc3, x3, o3.more (by omega), u⟩
theorem sumL_length (xs : List Int) : (sumL xs).length = 32 := outF_len _ 8
end Go.Proofs.YtkcpmpbjjnknhaaGreatDoor
