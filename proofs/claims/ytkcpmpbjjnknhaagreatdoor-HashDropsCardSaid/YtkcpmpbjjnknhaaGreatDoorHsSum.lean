/-
  The two sums of octets: what they answer, and where it lies.
-/
import Derived.Test.YtkcpmpbjjnknhaaGreatDoorShRef
import Derived.Test.YtkcpmpbjjnknhaaGreatDoorKitA
namespace Go.Proofs.YtkcpmpbjjnknhaaGreatDoor
open Go.ChangeShapes Go.WideShapes Go.ChangeAt Go.RowKit
set_option linter.unusedVariables false
set_option maxRecDepth 20000
/-- It lies in a row of octets. -/
def U8 (w : World) (A : Option Addr) : Prop := ∀ p, A = some p → ∃ cs, w.heap[p.block]? = some (.cells cs 5 (0, 0))
theorem own_u8 {w : World} {base k n c : Nat} {A : Option Addr} {xs : List Value} (h : w.ownsRow base 5 1 (.slice A n c) k xs) : U8 w A := by
  rcases h.2 with ⟨e, _⟩ | ⟨g, cap, cur, e, hg, hh, _⟩
  · cases e
    intro p q
    cases q
  · cases e
    intro p q
    cases q
    exact ⟨cur, hh⟩
/-- Octets of one's own, in a row of octets. -/
def SlT (w : World) (xs : List Int) (v : Value) (w' : World) : Prop :=
  ∃ A m c, v = .slice A m c ∧ m ≤ c ∧ (c ≤ maxLen ∧ U8 w' A) ∧ Oct w' w'.heap.size A m xs ∧ Below w.heap.size w w'
theorem octetsT_any (h : Nat → BitVec 32) (w : World) : Calls Tryz.prog 94 #[.agg (cW 8 h)] w fun e w' => ∃ v, e = .returned v ∧ SlT w (outF h 8) v w' := by
  refine calls_cg (n := 27) Tryz.func94 rfl Tryz.ntmps94 (by simp) ?_
  show CG _ _ _ [(0, .agg (cW 8 h))] _ _
  have u := Below.refl w.heap.size w
  refine cg_seq ?_
  refine cg_region ?_
  refine lg_boxw (want_none (by rfl)) rfl rfl (hs8 _) rfl (by decide) fun b1 w1 n1 => ?_
  have r1 := n1.row
  have k1 := n1.blk
  have z1 := n1.size
  refine zA rfl rfl rfl rfl rfl ?_
  refine lg_nil ?_
  refine nx (zk2 1 2 rfl rfl fn) ?_
  refine cg_seq ?_
  refine cg_region ?_
  refine lg_mk0 32 (want_none (by rfl)) rfl (by decide) rfl rfl rfl rfl (by decide) fun u2 w2 p2 hw2 => ?_
  have zw2 := hw2.size
  refine zA rfl rfl rfl rfl rfl ?_
  refine lg_nil ?_
  refine nx (zk3 1 2 3 rfl rfl rfl fn) ?_
  refine cg_seq ?_
  refine cg_seq ?_
  refine cg_region ?_
  have r1 := RowAt.below hw2 r1.lt r1
  refine za rfl (y_part r1 (m := 8) (cW8_part _) (by rw [cW_size]; omega) (by kernel_rfl) (by kernel_rfl) rfl rfl) rfl rfl ?_
  refine zM rfl rfl rfl rfl rfl ?_
  refine lg_nil ?_
  refine nx (zk3 2 3 7 rfl rfl rfl (zk1 8 rfl fn)) ?_
  refine cg_block ?_
  have u := u.trans (n1.below.mono u.size)
  have u := u.trans (hw2.mono u.size)
  refine cg_loopE (fun i a v => ∃ (ur : Value), Holds 27 [(7, .agg (cW 8 h)), (8, iv i), (3, ur)] a ∧ v.ownsRow w1.heap.size 5 1 ur (outF h i).length ((outF h i).map (Value.int .u8)) ∧ w1.heap.size ≤ v.heap.size ∧ Below w.heap.size w v) 8 (fun a ha => ⟨_, ha.keep (fk rfl (fk rfl (fk rfl fn))), p2, by omega, u⟩) ?_
  rintro i a v ht ⟨ur, ha, po, hbs, u⟩
  refine cg_at ha ?_
  clear ha a
  have zv := u.size
  refine cg_seq ?_
  refine cg_region ?_
  refine za rfl (yi_lss rfl rfl rfl) rfl rfl ?_
  refine lg_nil ?_
  refine nx (zk3 7 8 3 rfl rfl rfl (zk1 9 rfl fn)) ?_
  refine cg_seq ?_
  refine cg_if rfl (fun hc9 => ?_) (fun hc9 => ?_)
  · refine cg_skip ?_
    refine nx (zk3 7 8 3 rfl rfl rfl (zk1 9 rfl fn)) ?_
    refine cg_seq ?_
    refine cg_block ?_
    refine cg_seq ?_
    refine cg_region ?_
    refine za rfl (y_idx (j := i) hu8 hsw huw (by omega) (cW_get (by omega)) rfl rfl rfl) rfl rfl ?_
    refine zA rfl rfl rfl rfl rfl ?_
    refine lg_nil ?_
    refine nx (zk5 7 8 3 9 10 rfl rfl rfl rfl rfl (zk1 5 rfl fn)) ?_
    refine cg_region ?_
    refine zM rfl rfl rfl rfl rfl ?_
    refine zM rfl rfl rfl rfl rfl ?_
    refine za rfl (y_shr 24 .u64 (by decide) rfl rfl rfl) rfl rfl ?_
    refine za rfl (y_wb rfl rfl) rfl rfl ?_
    refine zM rfl rfl rfl rfl rfl ?_
    refine za rfl (y_shr 16 .u64 (by decide) rfl rfl rfl) rfl rfl ?_
    refine za rfl (y_wb rfl rfl) rfl rfl ?_
    refine zM rfl rfl rfl rfl rfl ?_
    refine za rfl (y_shr 8 .u64 (by decide) rfl rfl rfl) rfl rfl ?_
    refine za rfl (y_wb rfl rfl) rfl rfl ?_
    refine zM rfl rfl rfl rfl rfl ?_
    refine za rfl (y_wb rfl rfl) rfl rfl ?_
    refine lg_bslice (el := 5) (by kernel_rfl) (z := .int .u8 0) (by kernel_rfl) (by decide) (by decide) rfl rfl (cs := #[ov ((h i >>> 24).setWidth 8), ov ((h i >>> 16).setWidth 8), ov ((h i >>> 8).setWidth 8), ov ((h i).setWidth 8)]) (by kernel_rfl) rfl rfl (by decide) fun b3 w3 n3 => ?_
    have r3 := n3.row
    have k3 := n3.blk
    have z3 := n3.size
    have o3 := oct_lit r3 (xs := be4 (h i)) rfl (be4_rng _)
    have po := own_below po n3.below
    refine lg_append po o3 (by have ho := o3.1; have := outF_len h i; have : (be4 (h i)).length = 4 := rfl; omega) (by omega) (want_none (by rfl)) rfl rfl rfl rfl rfl (by decide) fun u4 w4 po hw4 => ?_
    have zw4 := hw4.size
    refine zA rfl rfl rfl rfl rfl ?_
    refine lg_nil ?_
    refine eg_block_norm ?_
    refine nx (zk5 7 8 9 10 5 rfl rfl rfl rfl rfl (zk5 11 12 13 14 15 rfl rfl rfl rfl rfl (zk5 16 17 18 19 20 rfl rfl rfl rfl rfl (zk5 21 22 23 24 3 rfl rfl rfl rfl rfl fn)))) ?_
    refine cg_region ?_
    refine za rfl (yi_add rfl rfl rfl (by omega) (by omega)) rfl rfl ?_
    refine zM rfl rfl rfl rfl rfl ?_
    refine lg_nil ?_
    have u := u.trans (n3.below.mono u.size)
    have u := u.trans (hw4.mono (by omega))
    exact fun a ha => (show i < 8 ∧ _ from ⟨(by omega), _, ha.keep (fk rfl (fk rfl (fk rfl fn))), po, by omega, u⟩)
  · obtain rfl : i = 8 := by omega
    refine cg_exit ?_
    refine eg_seq_exit ?_
    refine eg_seq_exit ?_
    refine eg_block_exit ?_
    refine nx (zk1 3 rfl fn) ?_
    refine cg_seq ?_
    refine cg_region ?_
    refine zM rfl rfl rfl rfl rfl ?_
    refine zA rfl rfl rfl rfl rfl ?_
    refine lg_nil ?_
    refine nx (zk1 2 rfl fn) ?_
    refine cg_ret ?_
    obtain ⟨A9, c9, rfl, hc9, x9, o9⟩ := own_sl po (outF_rng h 8)
    exact eg_ret_tmp rfl rfl ⟨_, rfl, A9, _, c9, rfl, hc9, ⟨x9, own_u8 po⟩, o9, u⟩
theorem doneT_any (s : S) (A : Option Addr) (m c : Nat) (w : World) {tg : TypeId} (rg : RowAt w 0 tg (cW 64 num)) (o1 : Oct w w.heap.size A m s.b) : Calls Tryz.prog 58 #[.agg (cS s.h (.slice A m c) s.n)] w fun e w' => ∃ v, e = .returned v ∧ SlT w s.done v w' := by
  refine calls_cg (n := 12) Tryz.func58 rfl Tryz.ntmps58 (by simp) ?_
  show CG _ _ _ [(0, .agg (cS s.h (.slice A m c) s.n))] _ _
  have u := Below.refl w.heap.size w
  have hl1 := o1.1
  have h0 := rg.lt
  refine cg_seq ?_
  refine cg_region ?_
  refine lg_boxw (want_none (by rfl)) rfl rfl (hsS _ _ _) rfl (by decide) fun b1 w1 n1 => ?_
  have r1 := n1.row
  have k1 := n1.blk
  have z1 := n1.size
  refine zA rfl rfl rfl rfl rfl ?_
  refine lg_nil ?_
  refine nx (zk2 1 2 rfl rfl fn) ?_
  refine cg_seq ?_
  refine cg_region ?_
  refine za rfl (y_part r1 (m := 10) (cS_all _ _ _) (by show _ ≤ 10; omega) (by kernel_rfl) (by kernel_rfl) rfl rfl) rfl rfl ?_
  have o1 := o1.below (n1.below.mono (by omega))
  refine lg_callw (want_none (by rfl)) (sound_any s _ _ _ _ (o1.more (by omega))) (by kernel_rfl) rfl rfl rfl (by decide) ?_
  rintro _ w2 ⟨A2, m2, c2, rfl, o2, hw2⟩
  have zw2 := hw2.size
  have r1 := RowAt.below hw2 r1.lt r1
  have qw3 := r1
  refine lg_stw (want_none (by rfl)) r1 rfl rfl rfl (hsS _ _ _) (cS_one _ _ _ _ _) rfl rfl fun w3 sw3 => ?_
  have r1 := sw3.row
  have zw3 := sw3.size
  refine lg_nil ?_
  refine nx (zk2 1 2 rfl rfl fn) ?_
  refine cg_seq ?_
  refine cg_held (by kernel_rfl) fun W4 eW4 => ?_
  have dW4 := below_drew _ _ eW4
  have zW4 := size_drew _ _ eW4
  clear eW4
  have r1 := RowAt.below dW4 r1.lt r1
  refine zh 0 rfl rfl rfl rfl rfl (by kernel_rfl) (fun _ _ _ h => h) (fun q hq => y_part (RowAt.below hq r1.lt r1) (m := 10) (cS_all _ _ _) (by show _ ≤ 10; omega) (by kernel_rfl) (by kernel_rfl) rfl rfl) ?_
  refine zh 1 rfl rfl rfl rfl rfl (by kernel_rfl) (fun _ _ _ h => h) (fun q hq => y_fld (off := 9) (by kernel_rfl) rfl rfl) ?_
  refine zh 2 rfl rfl rfl rfl rfl (by kernel_rfl) (fun _ _ _ h => h) (fun q hq => y_cellv (RowAt.below hq r1.lt r1) (cS_9 _ _ _) (by kernel_rfl) rfl rfl) ?_
  refine hg_one 3 (by rfl) (by kernel_rfl) (want_none (by rfl)) ?_
  refine lg_callw (want_none (by rfl)) (pad_any _ _) (by kernel_rfl) rfl rfl rfl (by decide) ?_
  rintro _ w5 ⟨A5, m5, c5, rfl, hc5, o5, hw5⟩
  have zw5 := hw5.size
  refine hg_next hw5 ?_
  refine hg_up hw5 ?_
  refine hg_one 4 (by rfl) (by kernel_rfl) (want_none (by rfl)) ?_
  have o2 := o2.set qw3 cS_no sw3
  have o2 := o2.below (dW4.mono (by omega))
  have o2 := o2.below (hw5.mono (by omega))
  have rg := n1.keep rg
  have rg := RowAt.below hw2 rg.lt rg
  have rg := sw3.keep rg (by omega)
  have rg := RowAt.below dW4 rg.lt rg
  have rg := RowAt.below hw5 rg.lt rg
  refine lg_callw (want_none (by rfl)) (write_any s.as _ _ _ _ _ _ _ _ rg (o2.more (by omega)) (o5.more (by omega)) hc5 (by have := o5.1; have := padL_le s.as.n; omega)) (by kernel_rfl) rfl rfl rfl (by decide) ?_
  rintro _ w6 ⟨A6, m6, c6, rfl, o6, hw6⟩
  have zw6 := hw6.size
  refine hg_next hw6 ?_
  refine hg_up hw6 ?_
  refine zh 5 rfl rfl rfl rfl rfl (by kernel_rfl) (fun _ _ _ h => h) (fun q hq => y_fieldp (m := 8) (off := 0) (ft := 83) (by kernel_rfl) (by kernel_rfl) (by kernel_rfl) rfl rfl (cS_part _ _ _)) ?_
  refine hg_one 6 (by rfl) (by kernel_rfl) (want_none (by rfl)) ?_
  refine lg_callw (want_none (by rfl)) (octetsT_any _ _) (by kernel_rfl) rfl rfl rfl (by decide) ?_
  rintro _ w7 ⟨A7, m7, c7, rfl, hc7, x7, o7, hw7⟩
  have zw7 := hw7.size
  refine hg_next hw7 ?_
  refine hg_up hw7 ?_
  refine zh 7 rfl rfl rfl rfl rfl (by kernel_rfl) (fun _ _ _ h => h) (fun q hq => y_assign rfl rfl) ?_
  refine hg_done (by kernel_rfl) ?_
  refine nx (zk1 2 rfl fn) ?_
  refine cg_ret ?_
  have u := u.trans (n1.below.mono u.size)
  have u := u.trans (hw2.mono u.size)
  have u := u.trans (sw3.below _ (by omega))
  have u := u.trans (dW4.mono u.size)
  have u := u.trans (hw5.mono u.size)
  have u := u.trans (hw6.mono u.size)
  have u := u.trans (hw7.mono u.size)
  exact eg_ret_tmp rfl rfl ⟨_, rfl, _, _, _, rfl, hc7, x7, o7.more (by omega), u⟩
theorem sumT_any (A : Option Addr) (m c : Nat) (xs : List Int) (w : World) {tg : TypeId} (rg : RowAt w 0 tg (cW 64 num)) (oi : Oct w w.heap.size A m xs) (hnc : m ≤ c) (hm2 : m ≤ 281474976710656) : Calls Tryz.prog 30 #[.slice A m c] w fun e w' => ∃ v, e = .returned v ∧ SlT w (sumL xs) v w' := by
  refine calls_cg (n := 7) Tryz.func30 rfl Tryz.ntmps30 (by simp) ?_
  show CG _ _ _ [(0, .slice A m c)] _ _
  have u := Below.refl w.heap.size w
  have hl1 := oi.1
  have h0 := rg.lt
  refine cg_seq ?_
  refine cg_region ?_
  refine zA rfl rfl rfl rfl rfl ?_
  refine lg_nil ?_
  refine nx (zk2 0 2 rfl rfl fn) ?_
  refine cg_seq ?_
  refine cg_region ?_
  refine lg_callw (want_none (by rfl)) (new_any _) (by kernel_rfl) rfl rfl rfl (by decide) ?_
  rintro _ w1 ⟨A1, m1, c1, rfl, o1, hw1⟩
  have zw1 := hw1.size
  refine zM rfl rfl rfl rfl rfl ?_
  have oi := oi.below (hw1.mono (by omega))
  have rg := RowAt.below hw1 rg.lt rg
  refine lg_callw (want_none (by rfl)) (write_any S.new _ _ _ _ _ _ xs _ rg (o1.more (by omega)) (oi.more (by omega)) hnc hm2) (by kernel_rfl) rfl rfl rfl (by decide) ?_
  rintro _ w2 ⟨A2, m2, c2, rfl, o2, hw2⟩
  have zw2 := hw2.size
  have rg := RowAt.below hw2 rg.lt rg
  refine lg_callw (want_none (by rfl)) (doneT_any (S.new.wr xs) _ _ _ _ rg (o2.more (by omega))) (by kernel_rfl) rfl rfl rfl (by decide) ?_
  rintro _ w3 ⟨A3, m3, c3, rfl, hc3, x3, o3, hw3⟩
  have zw3 := hw3.size
  refine zA rfl rfl rfl rfl rfl ?_
  refine lg_nil ?_
  refine nx (zk1 2 rfl fn) ?_
  refine cg_ret ?_
  have u := u.trans (hw1.mono u.size)
  have u := u.trans (hw2.mono u.size)
  have u := u.trans (hw3.mono u.size)
  exact eg_ret_tmp rfl rfl ⟨_, rfl, _, _, _, rfl, hc3, x3, o3.more (by omega), u⟩
theorem sumL_length (xs : List Int) : (sumL xs).length = 32 := outF_len _ 8
end Go.Proofs.YtkcpmpbjjnknhaaGreatDoor
