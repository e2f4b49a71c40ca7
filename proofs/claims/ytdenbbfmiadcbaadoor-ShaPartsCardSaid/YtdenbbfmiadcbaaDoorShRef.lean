/-
  The document's Pad, Done, Sum and Same.
-/
import Derived.Test.YtdenbbfmiadcbaaDoorShRefW
namespace Go.Proofs.YtdenbbfmiadcbaaDoor
open Go.ChangeShapes Go.WideShapes Go.ChangeAt Go.RowKit
set_option linter.unusedVariables false
set_option maxRecDepth 20000
theorem and_255' (z : Int) : bits .and .i64 z 255 = z % 256 := and_255 z
theorem be8_rng (n : Int) : ∀ t, ∀ z ∈ be8 n t, 0 ≤ z ∧ z ≤ 255
  | 0 => by intro z hz; cases hz
  | t + 1 => by
    intro z hz
    rcases List.mem_append.1 (show z ∈ be8 n t ++ [_] from hz) with h | h
    · exact be8_rng n t z h
    · rw [List.mem_singleton] at h
      omega
theorem rpad_any (n : Int) (w : World) : Calls Tryd.prog 20 #[nv n] w fun e w' => ∃ v, e = .returned v ∧ SlR w (padL n) v w' := by
  by_cases hlo : n < 0
  · refine calls_cg (n := 38) Tryd.func20 rfl Tryd.ntmps20 (by simp) ?_
    show CG _ _ _ [(0, nv n)] _ _
    have u := Below.refl w.heap.size w
    refine cg_seq ?_
    refine cg_region ?_
    refine lsw (want_none (by rfl)) (y_assign rfl rfl) rfl (by decide) ?_
    refine lg_nil ?_
    refine nx (E' := [(0, _), (2, _)]) (fk rfl (fk rfl fn)) ?_
    refine cg_seq ?_
    refine cg_seq ?_
    refine cg_region ?_
    refine lsw (want_none (by rfl)) (y_move rfl rfl) rfl (by decide) ?_
    refine lsw (want_none (by rfl)) (yb (decide_eq_true hlo) (yi_lss rfl rfl rfl)) rfl (by decide) ?_
    refine lsw (want_none (by rfl)) (y_move rfl rfl) rfl (by decide) ?_
    refine lsk (want_f (dj := 7) (by rfl) (by kernel_rfl) rfl) rfl (by decide) ?_
    refine lsk (want_f (dj := 7) (by rfl) (by kernel_rfl) rfl) rfl (by decide) ?_
    refine lsw (want_none (by rfl)) (y_pick true rfl rfl rfl) rfl (by decide) ?_
    refine lg_nil ?_
    refine nx (E' := [(0, _), (2, _), (10, _)]) (fk rfl (fk rfl (fk rfl fn))) ?_
    refine cg_ct rfl ?_
    refine cg_seq ?_
    refine cg_region ?_
    refine lsw (want_none (by rfl)) (y_assign rfl rfl) rfl (by decide) ?_
    refine lg_nil ?_
    refine nx (E' := [(0, _), (2, _)]) (fk rfl (fk rfl fn)) ?_
    refine cg_ret ?_
    refine eg_seq_ret ?_
    exact eg_ret_tmp rfl rfl ⟨_, rfl, none, 0, 0, rfl, Nat.le_refl _, (by rw [padL_no (by omega)]; exact Oct.nil _ _ _), u⟩
  · by_cases hhi : 1125899906842624 < n
    · refine calls_cg (n := 38) Tryd.func20 rfl Tryd.ntmps20 (by simp) ?_
      show CG _ _ _ [(0, nv n)] _ _
      have u := Below.refl w.heap.size w
      refine cg_seq ?_
      refine cg_region ?_
      refine lsw (want_none (by rfl)) (y_assign rfl rfl) rfl (by decide) ?_
      refine lg_nil ?_
      refine nx (E' := [(0, _), (2, _)]) (fk rfl (fk rfl fn)) ?_
      refine cg_seq ?_
      refine cg_seq ?_
      refine cg_region ?_
      refine lsw (want_none (by rfl)) (y_move rfl rfl) rfl (by decide) ?_
      refine lsw (want_none (by rfl)) (yb (decide_eq_false hlo) (yi_lss rfl rfl rfl)) rfl (by decide) ?_
      refine lsw (want_none (by rfl)) (y_move rfl rfl) rfl (by decide) ?_
      refine lsw (want_t (dj := 7) (by rfl) (by kernel_rfl) rfl) (y_move rfl rfl) rfl (by decide) ?_
      refine lsw (want_t (dj := 7) (by rfl) (by kernel_rfl) rfl) (yb (decide_eq_true hhi) (yi_gtr rfl rfl rfl)) rfl (by decide) ?_
      refine lsw (want_none (by rfl)) (y_pick false rfl rfl rfl) rfl (by decide) ?_
      refine lg_nil ?_
      refine nx (E' := [(0, _), (2, _), (10, _)]) (fk rfl (fk rfl (fk rfl fn))) ?_
      refine cg_ct rfl ?_
      refine cg_seq ?_
      refine cg_region ?_
      refine lsw (want_none (by rfl)) (y_assign rfl rfl) rfl (by decide) ?_
      refine lg_nil ?_
      refine nx (E' := [(0, _), (2, _)]) (fk rfl (fk rfl fn)) ?_
      refine cg_ret ?_
      refine eg_seq_ret ?_
      exact eg_ret_tmp rfl rfl ⟨_, rfl, none, 0, 0, rfl, Nat.le_refl _, (by rw [padL_no (by omega)]; exact Oct.nil _ _ _), u⟩
    · refine calls_cg (n := 38) Tryd.func20 rfl Tryd.ntmps20 (by simp) ?_
      show CG _ _ _ [(0, nv n)] _ _
      have u := Below.refl w.heap.size w
      have hz := zeroN_lt n
      have hk : 0 ≤ n ∧ n ≤ 1125899906842624 := by omega
      refine cg_seq ?_
      refine cg_region ?_
      refine lsw (want_none (by rfl)) (y_assign rfl rfl) rfl (by decide) ?_
      refine lg_nil ?_
      refine nx (E' := [(0, _), (2, _)]) (fk rfl (fk rfl fn)) ?_
      refine cg_seq ?_
      refine cg_seq ?_
      refine cg_region ?_
      refine lsw (want_none (by rfl)) (y_move rfl rfl) rfl (by decide) ?_
      refine lsw (want_none (by rfl)) (yb (decide_eq_false hlo) (yi_lss rfl rfl rfl)) rfl (by decide) ?_
      refine lsw (want_none (by rfl)) (y_move rfl rfl) rfl (by decide) ?_
      refine lsw (want_t (dj := 7) (by rfl) (by kernel_rfl) rfl) (y_move rfl rfl) rfl (by decide) ?_
      refine lsw (want_t (dj := 7) (by rfl) (by kernel_rfl) rfl) (yb (decide_eq_false hhi) (yi_gtr rfl rfl rfl)) rfl (by decide) ?_
      refine lsw (want_none (by rfl)) (y_pick false rfl rfl rfl) rfl (by decide) ?_
      refine lg_nil ?_
      refine nx (E' := [(0, _), (2, _), (10, _)]) (fk rfl (fk rfl (fk rfl fn))) ?_
      refine cg_cf rfl ?_
      refine cg_skip ?_
      refine nx (E' := [(0, _), (2, _)]) (fk rfl (fk rfl fn)) ?_
      refine cg_seq ?_
      refine cg_region ?_
      refine lg_bslice (el := 5) (by kernel_rfl) (z := .int .u8 0) (by kernel_rfl) (by decide) (by decide) rfl rfl (cs := #[ov 128#8]) (by kernel_rfl) rfl rfl (by decide) fun b1 w1 n1 => ?_
      have r1 := n1.row
      have k1 := n1.blk
      have z1 := n1.size
      have o1 := oct_lit r1 (xs := [128]) rfl (by intro z hz; simp at hz; omega)
      refine lsw (want_none (by rfl)) (y_assign rfl rfl) rfl (by decide) ?_
      refine lg_nil ?_
      refine nx (E' := [(0, _), (2, _), (3, _)]) (fk rfl (fk rfl (fk rfl fn))) ?_
      refine cg_seq ?_
      refine cg_block ?_
      have po := own_lit (xs := [128]) r1 (Nat.le_of_eq k1.symm) rfl rfl (by decide)
      have u := u.trans (n1.below.mono u.size)
      refine cg_loopE (fun t a v => ∃ (ur : Value), Holds 38 [(0, nv n), (3, ur)] a ∧ v.ownsRow w.heap.size 5 1 ur (128 :: List.replicate t 0).length ((128 :: List.replicate t 0).map (Value.int .u8)) ∧ Below w.heap.size w v) (zeroN n) (fun a ha => ⟨_, ha.keep (fk rfl (fk rfl fn)), po, u⟩) ?_
      rintro t a v ht ⟨ur, ha, po, u⟩
      refine cg_at ha ?_
      clear ha a
      have zv := u.size
      have hln : (128 :: List.replicate t (0 : Int)).length = t + 1 := by simp
      refine cg_seq ?_
      refine cg_seq ?_
      refine cg_region ?_
      refine lsw (want_none (by rfl)) (y_move rfl rfl) rfl (by decide) ?_
      refine lsw (want_none (by rfl)) (y_move rfl rfl) rfl (by decide) ?_
      refine lsw (want_none (by rfl)) (y_lenown po rfl rfl) rfl (by decide) ?_
      refine lsw (want_none (by rfl)) (yi_add rfl rfl rfl (by omega) (by omega)) rfl (by decide) ?_
      refine lsw (want_none (by rfl)) (yi_add rfl rfl rfl (by omega) (by omega)) rfl (by decide) ?_
      refine lsw (want_none (by rfl)) (yi_rem rfl rfl rfl (by omega) (by omega)) rfl (by decide) ?_
      refine lsw (want_none (by rfl)) (yi_neq rfl rfl rfl) rfl (by decide) ?_
      refine lg_nil ?_
      refine nx (E' := [(0, _), (3, _), (12, _), (13, _), (14, _), (15, _), (16, _), (17, _), (18, _)]) (fk rfl (fk rfl (fk rfl (fk rfl (fk rfl (fk rfl (fk rfl (fk rfl (fk rfl fn))))))))) ?_
      refine cg_ifn rfl (fun hc18 => ?_) (fun hc18 => ?_)
      · simp only [List.length_cons, List.length_replicate] at hc18
        refine cg_skip ?_
        refine nx (E' := [(0, _), (3, _), (12, _), (13, _), (14, _), (15, _), (16, _), (17, _), (18, _)]) (fk rfl (fk rfl (fk rfl (fk rfl (fk rfl (fk rfl (fk rfl (fk rfl (fk rfl fn))))))))) ?_
        refine cg_block ?_
        refine cg_region ?_
        refine lsw (want_none (by rfl)) (y_move rfl rfl) rfl (by decide) ?_
        refine lg_bslice (el := 5) (by kernel_rfl) (z := .int .u8 0) (by kernel_rfl) (by decide) (by decide) rfl rfl (cs := #[ov 0#8]) (by kernel_rfl) rfl rfl (by decide) fun b2 w2 n2 => ?_
        have r2 := n2.row
        have k2 := n2.blk
        have z2 := n2.size
        have o2 := oct_lit r2 (xs := [0]) rfl (by intro z hz; simp at hz; omega)
        have po := own_below po n2.below
        refine lg_append po o2 (by have ho := o2.1; simp only [List.length_cons, List.length_append, List.length_replicate, List.length_nil, be8_len] at ho ⊢; omega) (by omega) (want_none (by rfl)) rfl rfl rfl rfl rfl (by decide) fun u3 w3 po hw3 => ?_
        have zw3 := hw3.size
        refine lsw (want_none (by rfl)) (y_assign rfl rfl) rfl (by decide) ?_
        refine lg_nil ?_
        refine eg_block_norm ?_
        have e1 : (128 :: List.replicate t 0) ++ [0] = (128 :: List.replicate (t + 1) (0 : Int)) := by rw [List.replicate_succ', List.cons_append]
        rw [e1] at po
        have u := u.trans (n2.below.mono u.size)
        have u := u.trans (hw3.mono (by omega))
        exact fun a ha => (show t < (zeroN n) ∧ _ from ⟨(by unfold zeroN at *; omega), _, ha.keep (fk rfl (fk rfl fn)), po, u⟩)
      · simp only [List.length_cons, List.length_replicate] at hc18
        have ht2 : t = zeroN n := by unfold zeroN at *; omega
        subst ht2
        refine cg_exit ?_
        refine eg_seq_exit ?_
        refine eg_seq_exit ?_
        refine eg_block_exit ?_
        refine nx (E' := [(0, _), (3, _)]) (fk rfl (fk rfl fn)) ?_
        refine cg_seq ?_
        refine cg_seq ?_
        refine cg_region ?_
        refine lsw (want_none (by rfl)) (y_assign rfl rfl) rfl (by decide) ?_
        refine lg_nil ?_
        refine nx (E' := [(0, _), (3, _), (4, _)]) (fk rfl (fk rfl (fk rfl fn))) ?_
        refine cg_block ?_
        have p0 : (128 :: List.replicate (zeroN n) 0 : List Int) = 128 :: (List.replicate (zeroN n) 0 ++ be8 (n * 8) 0) := by simp [be8]
        rw [p0] at po
        refine cg_loopE (fun j a v => ∃ (ur : Value), Holds 38 [(0, nv n), (3, ur), (4, nv (7 - (j : Int)))] a ∧ v.ownsRow w.heap.size 5 1 ur (128 :: (List.replicate (zeroN n) 0 ++ be8 (n * 8) j)).length ((128 :: (List.replicate (zeroN n) 0 ++ be8 (n * 8) j)).map (Value.int .u8)) ∧ Below w.heap.size w v) 8 (fun a ha => ⟨_, ha.keep (fk rfl (fk rfl (fk rfl fn))), po, u⟩) ?_
        rintro j a v ht ⟨ur, ha, po, u⟩
        refine cg_at ha ?_
        clear ha a
        have zv := u.size
        refine cg_seq ?_
        refine cg_seq ?_
        refine cg_region ?_
        refine lsw (want_none (by rfl)) (y_move rfl rfl) rfl (by decide) ?_
        refine lsw (want_none (by rfl)) (yi_geq rfl rfl rfl) rfl (by decide) ?_
        refine lg_nil ?_
        refine nx (E' := [(0, _), (3, _), (4, _), (22, _), (23, _)]) (fk rfl (fk rfl (fk rfl (fk rfl (fk rfl fn))))) ?_
        refine cg_if rfl (fun hc23 => ?_) (fun hc23 => ?_)
        · refine cg_skip ?_
          refine nx (E' := [(0, _), (3, _), (4, _), (22, _), (23, _)]) (fk rfl (fk rfl (fk rfl (fk rfl (fk rfl fn))))) ?_
          refine cg_seq ?_
          refine cg_block ?_
          refine cg_region ?_
          refine lsw (want_none (by rfl)) (y_move rfl rfl) rfl (by decide) ?_
          refine lsw (want_none (by rfl)) (y_move rfl rfl) rfl (by decide) ?_
          refine lsw (want_none (by rfl)) (yi_mul rfl rfl rfl (by omega) (by omega)) rfl (by decide) ?_
          refine lsw (want_none (by rfl)) (y_move rfl rfl) rfl (by decide) ?_
          refine lsw (want_none (by rfl)) (yi_mul rfl rfl rfl (by omega) (by omega)) rfl (by decide) ?_
          refine lsw (want_none (by rfl)) (y_tou (by omega) (by omega) rfl rfl) rfl (by decide) ?_
          refine lsw (want_none (by rfl)) (yi_shr rfl rfl rfl (by omega) (by omega)) rfl (by decide) ?_
          refine lsw (want_none (by rfl)) (yv (show nv _ = nv _ from congrArg nv (and_255' _)) (yi_and rfl rfl rfl)) rfl (by decide) ?_
          refine lsw (want_none (by rfl)) (y_to8 (by kernel_rfl) rfl rfl) rfl (by decide) ?_
          refine lg_bslice (el := 5) (by kernel_rfl) (z := .int .u8 0) (by kernel_rfl) (by decide) (by decide) rfl rfl (cs := #[ov (toB (n * 8 / 2 ^ (8 * (7 - (j : Int))).toNat % 256))]) (by kernel_rfl) rfl rfl (by decide) fun b4 w4 n4 => ?_
          have r4 := n4.row
          have k4 := n4.blk
          have z4 := n4.size
          have o4 := oct_lit r4 (xs := [vb (toB (n * 8 / 2 ^ (8 * (7 - (j : Int))).toNat % 256))]) rfl (by intro z hz; rw [List.mem_singleton] at hz; subst hz; exact vb_range _)
          have po := own_below po n4.below
          refine lg_append po o4 (by have ho := o4.1; simp only [List.length_cons, List.length_append, List.length_replicate, List.length_nil, be8_len] at ho ⊢; omega) (by omega) (want_none (by rfl)) rfl rfl rfl rfl rfl (by decide) fun u5 w5 po hw5 => ?_
          have zw5 := hw5.size
          refine lsw (want_none (by rfl)) (y_assign rfl rfl) rfl (by decide) ?_
          refine lg_nil ?_
          refine eg_block_norm ?_
          refine nx (E' := [(0, _), (4, _), (22, _), (23, _), (26, _), (27, _), (28, _), (29, _), (30, _), (31, _), (32, _), (33, _), (34, _), (35, _), (36, _), (3, _)]) (fk rfl (fk rfl (fk rfl (fk rfl (fk rfl (fk rfl (fk rfl (fk rfl (fk rfl (fk rfl (fk rfl (fk rfl (fk rfl (fk rfl (fk rfl (fk rfl fn)))))))))))))))) ?_
          refine cg_region ?_
          refine lsw (want_none (by rfl)) (y_move rfl rfl) rfl (by decide) ?_
          refine lsw (want_none (by rfl)) (yv (show nv (7 - (j : Int) - 1) = nv (7 - ((j + 1 : Nat) : Int)) from congrArg nv (by omega)) (yi_sub rfl rfl rfl (by omega) (by omega))) rfl (by decide) ?_
          refine lsw (want_none (by rfl)) (y_assign rfl rfl) rfl (by decide) ?_
          refine lg_nil ?_
          have e2 : (128 :: (List.replicate (zeroN n) 0 ++ be8 (n * 8) j)) ++ [vb (toB (n * 8 / 2 ^ (8 * (7 - (j : Int))).toNat % 256))] = 128 :: (List.replicate (zeroN n) 0 ++ be8 (n * 8) (j + 1)) := by
            rw [vb_toB_mod, Int.emod_emod, show (8 * (7 - (j : Int))).toNat = 8 * (7 - j) by omega, List.cons_append, List.append_assoc]
            rfl
          rw [e2] at po
          have u := u.trans (n4.below.mono u.size)
          have u := u.trans (hw5.mono (by omega))
          exact fun a ha => (show j < 8 ∧ _ from ⟨(by omega), _, ha.keep (fk rfl (fk rfl (fk rfl fn))), po, u⟩)
        · obtain rfl : j = 8 := by omega
          refine cg_exit ?_
          refine eg_seq_exit ?_
          refine eg_seq_exit ?_
          refine eg_block_exit ?_
          refine nx (E' := [(3, _)]) (fk rfl fn) ?_
          refine cg_seq ?_
          refine cg_region ?_
          refine lsw (want_none (by rfl)) (y_move rfl rfl) rfl (by decide) ?_
          refine lsw (want_none (by rfl)) (y_assign rfl rfl) rfl (by decide) ?_
          refine lg_nil ?_
          refine nx (E' := [(2, _)]) (fk rfl fn) ?_
          refine cg_ret ?_
          rw [← padL_ok hk] at po
          obtain ⟨A9, c9, rfl, hc9, _, o9⟩ := own_sl po (padL_rng n)
          exact eg_ret_tmp rfl rfl ⟨_, rfl, A9, _, c9, rfl, hc9, o9, u⟩
theorem rdone_any (s : S) (A : Option Addr) (m c : Nat) (w : World) (oi : Oct w w.heap.size A m s.b) : Calls Tryd.prog 16 #[.agg (cS s.h (.slice A m c) s.n)] w fun e w' => ∃ v, e = .returned v ∧ SlR w s.done v w' := by
  refine calls_cg (n := 41) Tryd.func16 rfl Tryd.ntmps16 (by simp) ?_
  show CG _ _ _ [(0, .agg (cS s.h (.slice A m c) s.n))] _ _
  have u := Below.refl w.heap.size w
  have hl1 := oi.1
  refine cg_seq ?_
  refine cg_region ?_
  refine lg_boxw (want_none (by rfl)) rfl rfl (hsR _ _ _) rfl (by decide) fun b1 w1 n1 => ?_
  have r1 := n1.row
  have k1 := n1.blk
  have z1 := n1.size
  refine lsw (want_none (by rfl)) (y_assign rfl rfl) rfl (by decide) ?_
  refine lg_nil ?_
  refine nx (E' := [(1, _), (2, _)]) (fk rfl (fk rfl fn)) ?_
  refine cg_seq ?_
  refine cg_region ?_
  refine lsw (want_none (by rfl)) (y_part r1 (m := 10) (cS_all _ _ _) (by show _ ≤ 10; omega) (by kernel_rfl) (by kernel_rfl) rfl rfl) rfl (by decide) ?_
  have oi := oi.below (n1.below.mono (by omega))
  refine lg_callw (want_none (by rfl)) (ras_any s _ _ _ _ (oi.more (by omega))) (by kernel_rfl) rfl rfl rfl (by decide) ?_
  rintro _ w2 ⟨A2, m2, c2, rfl, o2, hw2⟩
  have zw2 := hw2.size
  refine lg_allocw (want_none (by rfl)) rfl hzR rfl (by decide) fun b3 w3 n3 => ?_
  have r3 := n3.row
  have k3 := n3.blk
  have z3 := n3.size
  have qw4 := r3
  refine lg_stw (want_none (by rfl)) r3 rfl rfl rfl (hsR _ _ _) (cS_one _ _ _ _ _) rfl rfl fun w4 sw4 => ?_
  have r3 := sw4.row
  have zw4 := sw4.size
  refine lg_nil ?_
  refine nx (E' := [(2, _), (3, _)]) (fk rfl (fk rfl fn)) ?_
  refine cg_cut (fun v E' => ∃ (b4 : Nat) (Aq : Option Addr) (mq : Nat) (cq : Nat), E' = [(4, pv b4 0)] ∧ RowAt v b4 26 (cS (s.as.wr (padL s.as.n)).h (.slice Aq mq cq) (s.as.wr (padL s.as.n)).n) ∧ w.heap.size ≤ b4 ∧ Below w.heap.size w v) ?_ ?_
  · refine cg_held (by kernel_rfl) fun W5 eW5 => ?_
    have dW5 := below_drew _ _ eW5
    have zW5 := size_drew _ _ eW5
    clear eW5
    have pb := Below.refl W5.heap.size W5
    have r3 := RowAt.below dW5 r3.lt r3
    refine hg_take 0 (by rfl) (want_none (by rfl)) (by rfl) rfl (by decide) (by kernel_rfl) (by kernel_rfl) (by kernel_rfl) (fun _ _ _ h => h) pb (fun q hq => y_part (RowAt.below hq r3.lt r3) (m := 10) (cS_all _ _ _) (by show _ ≤ 10; omega) (by kernel_rfl) (by kernel_rfl) rfl rfl) ?_
    refine hg_take 1 (by rfl) (want_none (by rfl)) (by rfl) rfl (by decide) (by kernel_rfl) (by kernel_rfl) (by kernel_rfl) (fun _ _ _ h => h) pb (fun q hq => y_fld (off := 9) (by kernel_rfl) rfl rfl) ?_
    refine hg_take 2 (by rfl) (want_none (by rfl)) (by rfl) rfl (by decide) (by kernel_rfl) (by kernel_rfl) (by kernel_rfl) (fun _ _ _ h => h) pb (fun q hq => y_cellv (RowAt.below hq r3.lt r3) (cS_9 _ _ _) (by kernel_rfl) rfl rfl) ?_
    refine hg_two 3 5 (by rfl) (by rfl) (by kernel_rfl) (want_none (by rfl)) (want_none (by rfl)) ?_ ?_
    · refine lg_callw (want_none (by rfl)) (rpad_any _ _) (by kernel_rfl) rfl rfl rfl (by decide) ?_
      rintro _ w6 ⟨A6, m6, c6, rfl, hc6, o6, hw6⟩
      have zw6 := hw6.size
      have pb := pb.trans (hw6.mono pb.size)
      refine hg_next pb ?_
      refine hg_two 4 5 (by rfl) (by rfl) (by kernel_rfl) (want_none (by rfl)) (want_none (by rfl)) ?_ ?_
      · have o2 := o2.below (n3.below.mono (by omega))
        have o2 := o2.set qw4 cS_no sw4
        have o2 := o2.below (dW5.mono (by omega))
        have o2 := o2.below (hw6.mono (by omega))
        refine lg_callw (want_none (by rfl)) (rwrite_any s.as _ _ _ _ _ _ _ _ (o2.more (by omega)) (o6.more (by omega)) (by have := o6.1; have := padL_le s.as.n; omega)) (by kernel_rfl) rfl rfl rfl (by decide) ?_
        rintro _ w7 ⟨A7, m7, c7, rfl, o7, hw7⟩
        have zw7 := hw7.size
        have pb := pb.trans (hw7.mono pb.size)
        refine hg_next pb ?_
        refine hg_one 5 (by rfl) (by kernel_rfl) (want_none (by rfl)) ?_
        refine lg_allocw (want_none (by rfl)) rfl hzR rfl (by decide) fun b8 w8 n8 => ?_
        have r8 := n8.row
        have k8 := n8.blk
        have z8 := n8.size
        have pb := pb.trans (n8.below.mono pb.size)
        refine hg_next pb ?_
        refine hg_one 6 (by rfl) (by kernel_rfl) (want_none (by rfl)) ?_
        have qw9 := r8
        refine lg_stw (want_none (by rfl)) r8 rfl rfl rfl (hsR _ _ _) (cS_one _ _ _ _ _) rfl rfl fun w9 sw9 => ?_
        have r8 := sw9.row
        have zw9 := sw9.size
        have pb := pb.trans (sw9.below _ (by omega))
        refine hg_next pb ?_
        refine hg_done (by kernel_rfl) ?_
        have u := u.trans (n1.below.mono u.size)
        have u := u.trans (hw2.mono u.size)
        have u := u.trans (n3.below.mono u.size)
        have u := u.trans (sw4.below _ (by omega))
        have u := u.trans (dW5.mono u.size)
        have u := u.trans (hw6.mono u.size)
        have u := u.trans (hw7.mono u.size)
        have u := u.trans (n8.below.mono u.size)
        have u := u.trans (sw9.below _ (by omega))
        exact fun a ha => ⟨_, ⟨b8, _, _, _, rfl, r8, by omega, u⟩, ha.keep (fk rfl fn)⟩
      · refine lg_allocw (want_none (by rfl)) rfl hzR rfl (by decide) fun b10 w10 n10 => ?_
        have r10 := n10.row
        have k10 := n10.blk
        have z10 := n10.size
        have pb := pb.trans (n10.below.mono pb.size)
        refine hg_next pb ?_
        refine hg_one 4 (by rfl) (by kernel_rfl) (want_none (by rfl)) ?_
        have o2 := o2.below (n3.below.mono (by omega))
        have o2 := o2.set qw4 cS_no sw4
        have o2 := o2.below (dW5.mono (by omega))
        have o2 := o2.below (hw6.mono (by omega))
        have o2 := o2.below (n10.below.mono (by omega))
        have o6 := o6.below (n10.below.mono (by omega))
        refine lg_callw (want_none (by rfl)) (rwrite_any s.as _ _ _ _ _ _ _ _ (o2.more (by omega)) (o6.more (by omega)) (by have := o6.1; have := padL_le s.as.n; omega)) (by kernel_rfl) rfl rfl rfl (by decide) ?_
        rintro _ w11 ⟨A11, m11, c11, rfl, o11, hw11⟩
        have zw11 := hw11.size
        have pb := pb.trans (hw11.mono pb.size)
        refine hg_next pb ?_
        refine hg_one 6 (by rfl) (by kernel_rfl) (want_none (by rfl)) ?_
        have r10 := RowAt.below hw11 r10.lt r10
        have qw12 := r10
        refine lg_stw (want_none (by rfl)) r10 rfl rfl rfl (hsR _ _ _) (cS_one _ _ _ _ _) rfl rfl fun w12 sw12 => ?_
        have r10 := sw12.row
        have zw12 := sw12.size
        have pb := pb.trans (sw12.below _ (by omega))
        refine hg_next pb ?_
        refine hg_done (by kernel_rfl) ?_
        have u := u.trans (n1.below.mono u.size)
        have u := u.trans (hw2.mono u.size)
        have u := u.trans (n3.below.mono u.size)
        have u := u.trans (sw4.below _ (by omega))
        have u := u.trans (dW5.mono u.size)
        have u := u.trans (hw6.mono u.size)
        have u := u.trans (n10.below.mono u.size)
        have u := u.trans (hw11.mono u.size)
        have u := u.trans (sw12.below _ (by omega))
        exact fun a ha => ⟨_, ⟨b10, _, _, _, rfl, r10, by omega, u⟩, ha.keep (fk rfl fn)⟩
    · refine lg_allocw (want_none (by rfl)) rfl hzR rfl (by decide) fun b13 w13 n13 => ?_
      have r13 := n13.row
      have k13 := n13.blk
      have z13 := n13.size
      have pb := pb.trans (n13.below.mono pb.size)
      refine hg_next pb ?_
      refine hg_one 3 (by rfl) (by kernel_rfl) (want_none (by rfl)) ?_
      refine lg_callw (want_none (by rfl)) (rpad_any _ _) (by kernel_rfl) rfl rfl rfl (by decide) ?_
      rintro _ w14 ⟨A14, m14, c14, rfl, hc14, o14, hw14⟩
      have zw14 := hw14.size
      have pb := pb.trans (hw14.mono pb.size)
      refine hg_next pb ?_
      refine hg_one 4 (by rfl) (by kernel_rfl) (want_none (by rfl)) ?_
      have o2 := o2.below (n3.below.mono (by omega))
      have o2 := o2.set qw4 cS_no sw4
      have o2 := o2.below (dW5.mono (by omega))
      have o2 := o2.below (n13.below.mono (by omega))
      have o2 := o2.below (hw14.mono (by omega))
      refine lg_callw (want_none (by rfl)) (rwrite_any s.as _ _ _ _ _ _ _ _ (o2.more (by omega)) (o14.more (by omega)) (by have := o14.1; have := padL_le s.as.n; omega)) (by kernel_rfl) rfl rfl rfl (by decide) ?_
      rintro _ w15 ⟨A15, m15, c15, rfl, o15, hw15⟩
      have zw15 := hw15.size
      have pb := pb.trans (hw15.mono pb.size)
      refine hg_next pb ?_
      refine hg_one 6 (by rfl) (by kernel_rfl) (want_none (by rfl)) ?_
      have r13 := RowAt.below hw14 r13.lt r13
      have r13 := RowAt.below hw15 r13.lt r13
      have qw16 := r13
      refine lg_stw (want_none (by rfl)) r13 rfl rfl rfl (hsR _ _ _) (cS_one _ _ _ _ _) rfl rfl fun w16 sw16 => ?_
      have r13 := sw16.row
      have zw16 := sw16.size
      have pb := pb.trans (sw16.below _ (by omega))
      refine hg_next pb ?_
      refine hg_done (by kernel_rfl) ?_
      have u := u.trans (n1.below.mono u.size)
      have u := u.trans (hw2.mono u.size)
      have u := u.trans (n3.below.mono u.size)
      have u := u.trans (sw4.below _ (by omega))
      have u := u.trans (dW5.mono u.size)
      have u := u.trans (n13.below.mono u.size)
      have u := u.trans (hw14.mono u.size)
      have u := u.trans (hw15.mono u.size)
      have u := u.trans (sw16.below _ (by omega))
      exact fun a ha => ⟨_, ⟨b13, _, _, _, rfl, r13, by omega, u⟩, ha.keep (fk rfl fn)⟩
  · rintro vc17 _ ⟨b4, Aq, mq, cq, rfl, r4, hb4, u⟩
    have zv := u.size
    refine cg_seq ?_
    refine cg_region ?_
    refine lsw (want_none (by rfl)) (y_assign rfl rfl) rfl (by decide) ?_
    refine lg_nil ?_
    refine nx (E' := [(4, _), (5, _)]) (fk rfl (fk rfl fn)) ?_
    refine cg_seq ?_
    refine cg_seq ?_
    refine cg_region ?_
    refine lsw (want_none (by rfl)) (y_assign rfl rfl) rfl (by decide) ?_
    refine lg_nil ?_
    refine nx (E' := [(4, _), (5, _), (6, _)]) (fk rfl (fk rfl (fk rfl fn))) ?_
    refine cg_block ?_
    have po := own_nil vc17
    refine cg_loopE (fun i a v => ∃ (ur : Value), Holds 41 [(4, pv b4 0), (5, ur), (6, iv i)] a ∧ RowAt v b4 26 (cS (s.as.wr (padL s.as.n)).h (.slice Aq mq cq) (s.as.wr (padL s.as.n)).n) ∧ v.ownsRow vc17.heap.size 5 1 ur (outF (s.as.wr (padL s.as.n)).h i).length ((outF (s.as.wr (padL s.as.n)).h i).map (Value.int .u8)) ∧ vc17.heap.size ≤ v.heap.size ∧ w.heap.size ≤ vc17.heap.size ∧ b4 < vc17.heap.size ∧ Below w.heap.size w v) 8 (fun a ha => ⟨_, ha.keep (fk rfl (fk rfl (fk rfl fn))), r4, po, Nat.le_refl _, u.size, r4.lt, u⟩) ?_
    rintro i a v ht ⟨ur, ha, r4, po, hbs, hbw, hbb, u⟩
    refine cg_at ha ?_
    clear ha a
    have zv := u.size
    refine cg_seq ?_
    refine cg_seq ?_
    refine cg_region ?_
    refine lsw (want_none (by rfl)) (y_move rfl rfl) rfl (by decide) ?_
    refine lsw (want_none (by rfl)) (yi_lss rfl rfl rfl) rfl (by decide) ?_
    refine lg_nil ?_
    refine nx (E' := [(4, _), (5, _), (6, _), (15, _), (16, _)]) (fk rfl (fk rfl (fk rfl (fk rfl (fk rfl fn))))) ?_
    refine cg_if rfl (fun hc16 => ?_) (fun hc16 => ?_)
    · refine cg_skip ?_
      refine nx (E' := [(4, _), (5, _), (6, _), (15, _), (16, _)]) (fk rfl (fk rfl (fk rfl (fk rfl (fk rfl fn))))) ?_
      refine cg_seq ?_
      refine cg_block ?_
      refine cg_seq ?_
      refine cg_region ?_
      refine lsw (want_none (by rfl)) (y_move rfl rfl) rfl (by decide) ?_
      refine lsw (want_none (by rfl)) (y_fld (off := 0) (by kernel_rfl) rfl rfl) rfl (by decide) ?_
      refine lsw (want_none (by rfl)) (y_ixa (j := i) hu8 hsw (by omega) rfl rfl rfl) rfl (by decide) ?_
      refine lsw (want_none (by rfl)) (y_cellv r4 (cS_w _ _ _ (by omega)) (by kernel_rfl) rfl rfl) rfl (by decide) ?_
      refine lsw (want_none (by rfl)) (y_assign rfl rfl) rfl (by decide) ?_
      refine lg_nil ?_
      refine nx (E' := [(4, _), (5, _), (6, _), (15, _), (16, _), (19, _), (20, _), (21, _), (22, _), (7, _)]) (fk rfl (fk rfl (fk rfl (fk rfl (fk rfl (fk rfl (fk rfl (fk rfl (fk rfl (fk rfl fn)))))))))) ?_
      refine cg_region ?_
      refine lsw (want_none (by rfl)) (y_move rfl rfl) rfl (by decide) ?_
      refine lsw (want_none (by rfl)) (y_move rfl rfl) rfl (by decide) ?_
      refine lsw (want_none (by rfl)) (y_shr 24 .u64 (by decide) rfl rfl rfl) rfl (by decide) ?_
      refine lsw (want_none (by rfl)) (y_wb rfl rfl) rfl (by decide) ?_
      refine lsw (want_none (by rfl)) (y_move rfl rfl) rfl (by decide) ?_
      refine lsw (want_none (by rfl)) (y_shr 16 .u64 (by decide) rfl rfl rfl) rfl (by decide) ?_
      refine lsw (want_none (by rfl)) (y_and (Y := 255#32) rfl rfl (by kernel_rfl)) rfl (by decide) ?_
      refine lsw (want_none (by rfl)) (yv (show ov _ = ov _ from congrArg (fun z => ov z) (and255 _)) (y_wb rfl rfl)) rfl (by decide) ?_
      refine lsw (want_none (by rfl)) (y_move rfl rfl) rfl (by decide) ?_
      refine lsw (want_none (by rfl)) (y_shr 8 .u64 (by decide) rfl rfl rfl) rfl (by decide) ?_
      refine lsw (want_none (by rfl)) (y_and (Y := 255#32) rfl rfl (by kernel_rfl)) rfl (by decide) ?_
      refine lsw (want_none (by rfl)) (yv (show ov _ = ov _ from congrArg (fun z => ov z) (and255 _)) (y_wb rfl rfl)) rfl (by decide) ?_
      refine lsw (want_none (by rfl)) (y_move rfl rfl) rfl (by decide) ?_
      refine lsw (want_none (by rfl)) (y_and (Y := 255#32) rfl rfl (by kernel_rfl)) rfl (by decide) ?_
      refine lsw (want_none (by rfl)) (yv (show ov _ = ov _ from congrArg (fun z => ov z) (and255 _)) (y_wb rfl rfl)) rfl (by decide) ?_
      refine lg_bslice (el := 5) (by kernel_rfl) (z := .int .u8 0) (by kernel_rfl) (by decide) (by decide) rfl rfl (cs := #[ov (((s.as.wr (padL s.as.n)).h i >>> 24).setWidth 8), ov (((s.as.wr (padL s.as.n)).h i >>> 16).setWidth 8), ov (((s.as.wr (padL s.as.n)).h i >>> 8).setWidth 8), ov (((s.as.wr (padL s.as.n)).h i).setWidth 8)]) (by kernel_rfl) rfl rfl (by decide) fun b18 w18 n18 => ?_
      have r18 := n18.row
      have k18 := n18.blk
      have z18 := n18.size
      have o18 := oct_lit r18 (xs := be4 ((s.as.wr (padL s.as.n)).h i)) rfl (be4_rng _)
      have po := own_below po n18.below
      refine lg_append po o18 (by have ho := o18.1; have := outF_len (s.as.wr (padL s.as.n)).h i; have : (be4 ((s.as.wr (padL s.as.n)).h i)).length = 4 := rfl; omega) (by omega) (want_none (by rfl)) rfl rfl rfl rfl rfl (by decide) fun u19 w19 po hw19 => ?_
      have zw19 := hw19.size
      refine lsw (want_none (by rfl)) (y_assign rfl rfl) rfl (by decide) ?_
      refine lg_nil ?_
      refine eg_block_norm ?_
      refine nx (E' := [(4, _), (6, _), (15, _), (16, _), (19, _), (20, _), (21, _), (22, _), (7, _), (23, _), (24, _), (25, _), (26, _), (27, _), (28, _), (29, _), (30, _), (31, _), (32, _), (33, _), (34, _), (35, _), (36, _), (37, _), (38, _), (39, _), (5, _)]) (fk rfl (fk rfl (fk rfl (fk rfl (fk rfl (fk rfl (fk rfl (fk rfl (fk rfl (fk rfl (fk rfl (fk rfl (fk rfl (fk rfl (fk rfl (fk rfl (fk rfl (fk rfl (fk rfl (fk rfl (fk rfl (fk rfl (fk rfl (fk rfl (fk rfl (fk rfl (fk rfl fn))))))))))))))))))))))))))) ?_
      refine cg_region ?_
      refine lsw (want_none (by rfl)) (y_move rfl rfl) rfl (by decide) ?_
      refine lsw (want_none (by rfl)) (yi_add rfl rfl rfl (by omega) (by omega)) rfl (by decide) ?_
      refine lsw (want_none (by rfl)) (y_assign rfl rfl) rfl (by decide) ?_
      refine lg_nil ?_
      have r4 := n18.keep r4
      have r4 := RowAt.below hw19 (by omega) r4
      have u := u.trans (n18.below.mono u.size)
      have u := u.trans (hw19.mono (by omega))
      exact fun a ha => (show i < 8 ∧ _ from ⟨(by omega), _, ha.keep (fk rfl (fk rfl (fk rfl fn))), r4, po, by omega, hbw, hbb, u⟩)
    · obtain rfl : i = 8 := by omega
      refine cg_exit ?_
      refine eg_seq_exit ?_
      refine eg_seq_exit ?_
      refine eg_block_exit ?_
      refine nx (E' := [(5, _)]) (fk rfl fn) ?_
      refine cg_seq ?_
      refine cg_region ?_
      refine lsw (want_none (by rfl)) (y_move rfl rfl) rfl (by decide) ?_
      refine lsw (want_none (by rfl)) (y_assign rfl rfl) rfl (by decide) ?_
      refine lg_nil ?_
      refine nx (E' := [(2, _)]) (fk rfl fn) ?_
      refine cg_ret ?_
      obtain ⟨A9, c9, rfl, hc9, _, o9⟩ := own_sl po (outF_rng _ 8)
      exact eg_ret_tmp rfl rfl ⟨_, rfl, A9, _, c9, rfl, hc9, o9, u⟩
theorem rsum_any (A : Option Addr) (m c : Nat) (xs : List Int) (w : World) (oi : Oct w w.heap.size A m xs) (hm2 : m ≤ 100000) : Calls Tryd.prog 18 #[.slice A m c] w fun e w' => ∃ v, e = .returned v ∧ SlR w (sumL xs) v w' := by
  refine calls_cg (n := 7) Tryd.func18 rfl Tryd.ntmps18 (by simp) ?_
  show CG _ _ _ [(0, .slice A m c)] _ _
  have u := Below.refl w.heap.size w
  have hl1 := oi.1
  refine cg_seq ?_
  refine cg_region ?_
  refine lsw (want_none (by rfl)) (y_assign rfl rfl) rfl (by decide) ?_
  refine lg_nil ?_
  refine nx (E' := [(0, _), (2, _)]) (fk rfl (fk rfl fn)) ?_
  refine cg_seq ?_
  refine cg_region ?_
  refine lg_callw (want_none (by rfl)) (rnew_any _) (by kernel_rfl) rfl rfl rfl (by decide) ?_
  rintro _ w1 ⟨A1, m1, c1, rfl, o1, hw1⟩
  have zw1 := hw1.size
  refine lsw (want_none (by rfl)) (y_move rfl rfl) rfl (by decide) ?_
  have oi := oi.below (hw1.mono (by omega))
  refine lg_callw (want_none (by rfl)) (rwrite_any S.new _ _ _ _ _ _ xs _ (o1.more (by omega)) (oi.more (by omega)) hm2) (by kernel_rfl) rfl rfl rfl (by decide) ?_
  rintro _ w2 ⟨A2, m2, c2, rfl, o2, hw2⟩
  have zw2 := hw2.size
  refine lg_callw (want_none (by rfl)) (rdone_any (S.new.wr xs) _ _ _ _ (o2.more (by omega))) (by kernel_rfl) rfl rfl rfl (by decide) ?_
  rintro _ w3 ⟨A3, m3, c3, rfl, hc3, o3, hw3⟩
  have zw3 := hw3.size
  refine lsw (want_none (by rfl)) (y_assign rfl rfl) rfl (by decide) ?_
  refine lg_nil ?_
  refine nx (E' := [(2, _)]) (fk rfl fn) ?_
  refine cg_ret ?_
  have u := u.trans (hw1.mono u.size)
  have u := u.trans (hw2.mono u.size)
  have u := u.trans (hw3.mono u.size)
  exact eg_ret_tmp rfl rfl ⟨_, rfl, _, _, _, rfl, hc3, o3.more (by omega), u⟩
theorem same_any (h : Nat → BitVec 32) (A A2 : Option Addr) (m c m2 c2 : Nat) (k : Int) (xs : List Int) (w : World) (oi : Oct w w.heap.size A m xs) (oj : Oct w w.heap.size A2 m2 xs) : Calls Tryd.prog 8 #[.agg (cS h (.slice A m c) k), .agg (cS h (.slice A2 m2 c2) k)] w fun e w' => ∃ v, e = .returned v ∧ v = .bool true ∧ Below w.heap.size w w' := by
  refine calls_cg (n := 26) Tryd.func8 rfl Tryd.ntmps8 (by simp) ?_
  show CG _ _ _ [(0, .agg (cS h (.slice A m c) k)), (1, .agg (cS h (.slice A2 m2 c2) k))] _ _
  have u := Below.refl w.heap.size w
  refine cg_seq ?_
  refine cg_region ?_
  refine lg_boxw (want_none (by rfl)) rfl rfl (hsR _ _ _) rfl (by decide) fun b1 w1 n1 => ?_
  have r1 := n1.row
  have k1 := n1.blk
  have z1 := n1.size
  refine lg_boxw (want_none (by rfl)) rfl rfl (hsR _ _ _) rfl (by decide) fun b2 w2 n2 => ?_
  have r2 := n2.row
  have k2 := n2.blk
  have z2 := n2.size
  refine lsw (want_none (by rfl)) (y_assign rfl rfl) rfl (by decide) ?_
  refine lg_nil ?_
  refine nx (E' := [(2, _), (3, _), (4, _)]) (fk rfl (fk rfl (fk rfl fn))) ?_
  refine cg_seq ?_
  refine cg_region ?_
  refine lsw (want_none (by rfl)) (y_fld (off := 0) (by kernel_rfl) rfl rfl) rfl (by decide) ?_
  have r1 := n2.keep r1
  refine lsw (want_none (by rfl)) (y_part r1 (m := 8) (cS_part _ _ _) (by show _ ≤ 10; omega) (by kernel_rfl) (by kernel_rfl) rfl rfl) rfl (by decide) ?_
  refine lsw (want_none (by rfl)) (y_fld (off := 0) (by kernel_rfl) rfl rfl) rfl (by decide) ?_
  refine lsw (want_none (by rfl)) (y_part r2 (m := 8) (cS_part _ _ _) (by show _ ≤ 10; omega) (by kernel_rfl) (by kernel_rfl) rfl rfl) rfl (by decide) ?_
  refine lsw (want_none (by rfl)) (y_aeq g8 hu8 hsw huw cW_int rfl rfl rfl) rfl (by decide) ?_
  refine lsw (want_none (by rfl)) (y_move rfl rfl) rfl (by decide) ?_
  refine lsw (want_t (dj := 10) (by rfl) (by kernel_rfl) rfl) (y_fld (off := 8) (by kernel_rfl) rfl rfl) rfl (by decide) ?_
  refine lsw (want_t (dj := 10) (by rfl) (by kernel_rfl) rfl) (y_cellv r1 (cS_8 _ _ _) (by kernel_rfl) rfl rfl) rfl (by decide) ?_
  have oi := oi.below (n1.below.mono (by omega))
  have oi := oi.below (n2.below.mono (by omega))
  refine lsw (want_t (dj := 10) (by rfl) (by kernel_rfl) rfl) (y_str oi rfl rfl) rfl (by decide) ?_
  refine lsw (want_t (dj := 10) (by rfl) (by kernel_rfl) rfl) (y_fld (off := 8) (by kernel_rfl) rfl rfl) rfl (by decide) ?_
  refine lsw (want_t (dj := 10) (by rfl) (by kernel_rfl) rfl) (y_cellv r2 (cS_8 _ _ _) (by kernel_rfl) rfl rfl) rfl (by decide) ?_
  have oj := oj.below (n1.below.mono (by omega))
  have oj := oj.below (n2.below.mono (by omega))
  refine lsw (want_t (dj := 10) (by rfl) (by kernel_rfl) rfl) (y_str oj rfl rfl) rfl (by decide) ?_
  refine lsw (want_t (dj := 10) (by rfl) (by kernel_rfl) rfl) (y_streq_t rfl rfl rfl rfl) rfl (by decide) ?_
  refine lsw (want_none (by rfl)) (y_pick true rfl rfl rfl) rfl (by decide) ?_
  refine lsw (want_none (by rfl)) (y_move rfl rfl) rfl (by decide) ?_
  refine lsw (want_t (dj := 19) (by rfl) (by kernel_rfl) rfl) (y_fld (off := 9) (by kernel_rfl) rfl rfl) rfl (by decide) ?_
  refine lsw (want_t (dj := 19) (by rfl) (by kernel_rfl) rfl) (y_cellv r1 (cS_9 _ _ _) (by kernel_rfl) rfl rfl) rfl (by decide) ?_
  refine lsw (want_t (dj := 19) (by rfl) (by kernel_rfl) rfl) (y_fld (off := 9) (by kernel_rfl) rfl rfl) rfl (by decide) ?_
  refine lsw (want_t (dj := 19) (by rfl) (by kernel_rfl) rfl) (y_cellv r2 (cS_9 _ _ _) (by kernel_rfl) rfl rfl) rfl (by decide) ?_
  refine lsw (want_t (dj := 19) (by rfl) (by kernel_rfl) rfl) (yb (decide_eq_true rfl) (yi_eql rfl rfl rfl)) rfl (by decide) ?_
  refine lsw (want_none (by rfl)) (y_pick true rfl rfl rfl) rfl (by decide) ?_
  refine lsw (want_none (by rfl)) (y_assign rfl rfl) rfl (by decide) ?_
  refine lg_nil ?_
  refine nx (E' := [(4, _)]) (fk rfl fn) ?_
  refine cg_ret ?_
  have u := u.trans (n1.below.mono u.size)
  have u := u.trans (n2.below.mono u.size)
  exact eg_ret_tmp rfl rfl ⟨_, rfl, rfl, u⟩
end Go.Proofs.YtdenbbfmiadcbaaDoor
