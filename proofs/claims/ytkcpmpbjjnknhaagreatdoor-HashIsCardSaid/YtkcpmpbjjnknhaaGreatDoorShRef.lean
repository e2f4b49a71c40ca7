/-
  The document's Pad, Done, Sum and Same.
-/
import Derived.Test.YtkcpmpbjjnknhaaGreatDoorShRefW
namespace Go.Proofs.YtkcpmpbjjnknhaaGreatDoor
open Go.ChangeShapes Go.WideShapes Go.ChangeAt Go.RowKit
set_option linter.unusedVariables false
set_option maxRecDepth 20000
theorem and_255' (z : Int) : bits .and .i64 z 255 = z % 256 := and_255 z
theorem rpad_any (n : Int) (w : World) : Calls Tryz.prog 141 #[nv n] w fun e w' => ∃ v, e = .returned v ∧ SlR w (padL n) v w' := by
  by_cases hlo : n < 0
  · refine calls_cg (n := 38) Tryz.func141 rfl Tryz.ntmps141 (by simp) ?_
    show CG _ _ _ [(0, nv n)] _ _
    have u := Below.refl w.heap.size w
    refine cg_seq ?_
    refine cg_region ?_
    refine zA rfl rfl rfl rfl rfl ?_
    refine lg_nil ?_
    refine nx (zk2 0 2 rfl rfl fn) ?_
    refine cg_seq ?_
    refine cg_seq ?_
    refine cg_region ?_
    refine zM rfl rfl rfl rfl rfl ?_
    refine za rfl (yb (decide_eq_true hlo) (yi_lss rfl rfl rfl)) rfl rfl ?_
    refine zM rfl rfl rfl rfl rfl ?_
    refine zf 7 rfl (by kernel_rfl) rfl rfl rfl ?_
    refine zf 7 rfl (by kernel_rfl) rfl rfl rfl ?_
    refine za rfl (y_pick true rfl rfl rfl) rfl rfl ?_
    refine lg_nil ?_
    refine nx (zk3 0 2 10 rfl rfl rfl fn) ?_
    refine cg_ct rfl ?_
    refine cg_seq ?_
    refine cg_region ?_
    refine zA rfl rfl rfl rfl rfl ?_
    refine lg_nil ?_
    refine nx (zk2 0 2 rfl rfl fn) ?_
    refine cg_ret ?_
    refine eg_seq_ret ?_
    exact eg_ret_tmp rfl rfl ⟨_, rfl, none, 0, 0, rfl, Nat.le_refl _, (by rw [padL_no (by omega)]; exact Oct.nil _ _ _), u⟩
  · by_cases hhi : 1125899906842624 < n
    · refine calls_cg (n := 38) Tryz.func141 rfl Tryz.ntmps141 (by simp) ?_
      show CG _ _ _ [(0, nv n)] _ _
      have u := Below.refl w.heap.size w
      refine cg_seq ?_
      refine cg_region ?_
      refine zA rfl rfl rfl rfl rfl ?_
      refine lg_nil ?_
      refine nx (zk2 0 2 rfl rfl fn) ?_
      refine cg_seq ?_
      refine cg_seq ?_
      refine cg_region ?_
      refine zM rfl rfl rfl rfl rfl ?_
      refine za rfl (yb (decide_eq_false hlo) (yi_lss rfl rfl rfl)) rfl rfl ?_
      refine zM rfl rfl rfl rfl rfl ?_
      refine zt 7 rfl (by kernel_rfl) rfl (y_move rfl rfl) rfl rfl ?_
      refine zt 7 rfl (by kernel_rfl) rfl (yb (decide_eq_true hhi) (yi_gtr rfl rfl rfl)) rfl rfl ?_
      refine za rfl (y_pick false rfl rfl rfl) rfl rfl ?_
      refine lg_nil ?_
      refine nx (zk3 0 2 10 rfl rfl rfl fn) ?_
      refine cg_ct rfl ?_
      refine cg_seq ?_
      refine cg_region ?_
      refine zA rfl rfl rfl rfl rfl ?_
      refine lg_nil ?_
      refine nx (zk2 0 2 rfl rfl fn) ?_
      refine cg_ret ?_
      refine eg_seq_ret ?_
      exact eg_ret_tmp rfl rfl ⟨_, rfl, none, 0, 0, rfl, Nat.le_refl _, (by rw [padL_no (by omega)]; exact Oct.nil _ _ _), u⟩
    · refine calls_cg (n := 38) Tryz.func141 rfl Tryz.ntmps141 (by simp) ?_
      show CG _ _ _ [(0, nv n)] _ _
      have u := Below.refl w.heap.size w
      have hz := zeroN_lt n
      have hk : 0 ≤ n ∧ n ≤ 1125899906842624 := by omega
      refine cg_seq ?_
      refine cg_region ?_
      refine zA rfl rfl rfl rfl rfl ?_
      refine lg_nil ?_
      refine nx (zk2 0 2 rfl rfl fn) ?_
      refine cg_seq ?_
      refine cg_seq ?_
      refine cg_region ?_
      refine zM rfl rfl rfl rfl rfl ?_
      refine za rfl (yb (decide_eq_false hlo) (yi_lss rfl rfl rfl)) rfl rfl ?_
      refine zM rfl rfl rfl rfl rfl ?_
      refine zt 7 rfl (by kernel_rfl) rfl (y_move rfl rfl) rfl rfl ?_
      refine zt 7 rfl (by kernel_rfl) rfl (yb (decide_eq_false hhi) (yi_gtr rfl rfl rfl)) rfl rfl ?_
      refine za rfl (y_pick false rfl rfl rfl) rfl rfl ?_
      refine lg_nil ?_
      refine nx (zk3 0 2 10 rfl rfl rfl fn) ?_
      refine cg_cf rfl ?_
      refine cg_skip ?_
      refine nx (zk2 0 2 rfl rfl fn) ?_
      refine cg_seq ?_
      refine cg_region ?_
      refine lg_bslice (el := 5) (by kernel_rfl) (z := .int .u8 0) (by kernel_rfl) (by decide) (by decide) rfl rfl (cs := #[ov 128#8]) (by kernel_rfl) rfl rfl (by decide) fun b1 w1 n1 => ?_
      have r1 := n1.row
      have k1 := n1.blk
      have z1 := n1.size
      have o1 := oct_lit r1 (xs := [128]) rfl (by intro z hz; simp at hz; omega)
      refine zA rfl rfl rfl rfl rfl ?_
      refine lg_nil ?_
      refine nx (zk3 0 2 3 rfl rfl rfl fn) ?_
      refine cg_seq ?_
      refine cg_block ?_
      have po := own_lit (xs := [128]) r1 (Nat.le_of_eq k1.symm) rfl rfl (by decide)
      have u := u.trans (n1.below.mono u.size)
      refine cg_loopE (fun t a v => ∃ (ur : Value), Holds 38 [(0, nv n), (3, ur)] a ∧ v.ownsRow w.heap.size 5 1 ur (128 :: List.replicate t 0).length ((128 :: List.replicate t 0).map (Value.int .u8)) ∧ Below w.heap.size w v) (zeroN n) (fun a ha => ⟨_, ha.keep (fk rfl (fk rfl fn)), po, u⟩) ?_
      rintro t a v ht ⟨ur, ha, po, u⟩
      refine cg_at ha ?_
      clear ha a
      have zv := u.size
      have hln : (128 :: List.replicate t (0 : Int)).length = t + 1 := by simp
      refine cg_seq ?_
      refine cg_seq ?_
      refine cg_region ?_
      refine zM rfl rfl rfl rfl rfl ?_
      refine zM rfl rfl rfl rfl rfl ?_
      refine za rfl (y_lenown po rfl rfl) rfl rfl ?_
      refine za rfl (yi_add rfl rfl rfl (by omega) (by omega)) rfl rfl ?_
      refine za rfl (yi_add rfl rfl rfl (by omega) (by omega)) rfl rfl ?_
      refine za rfl (yi_rem rfl rfl rfl (by omega) (by omega)) rfl rfl ?_
      refine za rfl (yi_neq rfl rfl rfl) rfl rfl ?_
      refine lg_nil ?_
      refine nx (zk5 0 3 12 13 14 rfl rfl rfl rfl rfl (zk3 15 16 17 rfl rfl rfl (zk1 18 rfl fn))) ?_
      refine cg_ifn rfl (fun hc18 => ?_) (fun hc18 => ?_)
      · simp only [List.length_cons, List.length_replicate] at hc18
        refine cg_skip ?_
        refine nx (zk5 0 3 12 13 14 rfl rfl rfl rfl rfl (zk3 15 16 17 rfl rfl rfl (zk1 18 rfl fn))) ?_
        refine cg_block ?_
        refine cg_region ?_
        refine zM rfl rfl rfl rfl rfl ?_
        refine lg_bslice (el := 5) (by kernel_rfl) (z := .int .u8 0) (by kernel_rfl) (by decide) (by decide) rfl rfl (cs := #[ov 0#8]) (by kernel_rfl) rfl rfl (by decide) fun b2 w2 n2 => ?_
        have r2 := n2.row
        have k2 := n2.blk
        have z2 := n2.size
        have o2 := oct_lit r2 (xs := [0]) rfl (by intro z hz; simp at hz; omega)
        have po := own_below po n2.below
        refine lg_append po o2 (by have ho := o2.1; simp only [List.length_cons, List.length_replicate, List.length_nil] at ho ⊢; omega) (by omega) (want_none (by rfl)) rfl rfl rfl rfl rfl (by decide) fun u3 w3 po hw3 => ?_
        have zw3 := hw3.size
        refine zA rfl rfl rfl rfl rfl ?_
        refine lg_nil ?_
        refine eg_block_norm ?_
        have e1 : (128 :: List.replicate t 0) ++ [0] = (128 :: List.replicate (t + 1) (0 : Int)) := by rw [List.replicate_succ', List.cons_append]
        rw [e1] at po
        have u := u.trans (n2.below.mono u.size)
        have u := u.trans (hw3.mono (by omega))
        exact fun a ha => (show t < (zeroN n) ∧ _ from ⟨(by unfold zeroN at *; omega), _, ha.keep (fk rfl (fk rfl fn)), po, u⟩)
      · simp only [List.length_cons, List.length_replicate] at hc18
        have ht2 : t = zeroN n := by unfold zeroN at *; omega
        subst ht2
        refine cg_exit ?_
        refine eg_seq_exit ?_
        refine eg_seq_exit ?_
        refine eg_block_exit ?_
        refine nx (zk2 0 3 rfl rfl fn) ?_
        refine cg_seq ?_
        refine cg_seq ?_
        refine cg_region ?_
        refine zA rfl rfl rfl rfl rfl ?_
        refine lg_nil ?_
        refine nx (zk3 0 3 4 rfl rfl rfl fn) ?_
        refine cg_block ?_
        have p0 : (128 :: List.replicate (zeroN n) 0 : List Int) = 128 :: (List.replicate (zeroN n) 0 ++ be8 (n * 8) 0) := by simp [be8]
        rw [p0] at po
        refine cg_loopE (fun j a v => ∃ (ur : Value), Holds 38 [(0, nv n), (3, ur), (4, nv (7 - (j : Int)))] a ∧ v.ownsRow w.heap.size 5 1 ur (128 :: (List.replicate (zeroN n) 0 ++ be8 (n * 8) j)).length ((128 :: (List.replicate (zeroN n) 0 ++ be8 (n * 8) j)).map (Value.int .u8)) ∧ Below w.heap.size w v) 8 (fun a ha => ⟨_, ha.keep (fk rfl (fk rfl (fk rfl fn))), po, u⟩) ?_
        rintro j a v ht ⟨ur, ha, po, u⟩
        refine cg_at ha ?_
        clear ha a
        have zv := u.size
        refine cg_seq ?_
        refine cg_seq ?_
        refine cg_region ?_
        refine zM rfl rfl rfl rfl rfl ?_
        refine za rfl (yi_geq rfl rfl rfl) rfl rfl ?_
        refine lg_nil ?_
        refine nx (zk5 0 3 4 22 23 rfl rfl rfl rfl rfl fn) ?_
        refine cg_if rfl (fun hc23 => ?_) (fun hc23 => ?_)
        · refine cg_skip ?_
          refine nx (zk5 0 3 4 22 23 rfl rfl rfl rfl rfl fn) ?_
          refine cg_seq ?_
          refine cg_block ?_
          refine cg_region ?_
          refine zM rfl rfl rfl rfl rfl ?_
          refine zM rfl rfl rfl rfl rfl ?_
          refine za rfl (yi_mul rfl rfl rfl (by omega) (by omega)) rfl rfl ?_
          refine zM rfl rfl rfl rfl rfl ?_
          refine za rfl (yi_mul rfl rfl rfl (by omega) (by omega)) rfl rfl ?_
          refine za rfl (y_tou (by omega) (by omega) rfl rfl) rfl rfl ?_
          refine za rfl (yi_shr rfl rfl rfl (by omega) (by omega)) rfl rfl ?_
          refine za rfl (yv (show nv _ = nv _ from congrArg nv (and_255' _)) (yi_and rfl rfl rfl)) rfl rfl ?_
          refine za rfl (y_to8 (by kernel_rfl) rfl rfl) rfl rfl ?_
          refine lg_bslice (el := 5) (by kernel_rfl) (z := .int .u8 0) (by kernel_rfl) (by decide) (by decide) rfl rfl (cs := #[ov (toB (n * 8 / 2 ^ (8 * (7 - (j : Int))).toNat % 256))]) (by kernel_rfl) rfl rfl (by decide) fun b4 w4 n4 => ?_
          have r4 := n4.row
          have k4 := n4.blk
          have z4 := n4.size
          have o4 := oct_lit r4 (xs := [vb (toB (n * 8 / 2 ^ (8 * (7 - (j : Int))).toNat % 256))]) rfl (by intro z hz; rw [List.mem_singleton] at hz; subst hz; exact vb_range _)
          have po := own_below po n4.below
          refine lg_append po o4 (by have ho := o4.1; simp only [List.length_cons, List.length_append, List.length_replicate, List.length_nil, be8_len] at ho ⊢; omega) (by omega) (want_none (by rfl)) rfl rfl rfl rfl rfl (by decide) fun u5 w5 po hw5 => ?_
          have zw5 := hw5.size
          refine zA rfl rfl rfl rfl rfl ?_
          refine lg_nil ?_
          refine eg_block_norm ?_
          refine nx (zk5 0 4 22 23 26 rfl rfl rfl rfl rfl (zk5 27 28 29 30 31 rfl rfl rfl rfl rfl (zk5 32 33 34 35 36 rfl rfl rfl rfl rfl (zk1 3 rfl fn)))) ?_
          refine cg_region ?_
          refine zM rfl rfl rfl rfl rfl ?_
          refine za rfl (yv (show nv (7 - (j : Int) - 1) = nv (7 - ((j + 1 : Nat) : Int)) from congrArg nv (by omega)) (yi_sub rfl rfl rfl (by omega) (by omega))) rfl rfl ?_
          refine zA rfl rfl rfl rfl rfl ?_
          refine lg_nil ?_
          have e2 : (128 :: (List.replicate (zeroN n) 0 ++ be8 (n * 8) j)) ++ [vb (toB (n * 8 / 2 ^ (8 * (7 - (j : Int))).toNat % 256))] = 128 :: (List.replicate (zeroN n) 0 ++ be8 (n * 8) (j + 1)) := by
            rw [vb_toB_mod, Int.emod_emod, show (8 * (7 - (j : Int))).toNat = 8 * (7 - j) by omega, List.cons_append, List.append_assoc]
            rfl
          rw [e2] at po
          have u := u.trans (n4.below.mono u.size)
          have u := u.trans (hw5.mono (by omega))
          exact fun a ha => (show j < 8 ∧ _ from ⟨(by omega), _, ha.keep (fk rfl (fk rfl (fk rfl fn))), po, u⟩)
        · obtain rfl : j = 8 := by omega
          refine cg_exit ?_
          refine eg_seq_exit ?_
          refine eg_seq_exit ?_
          refine eg_block_exit ?_
          refine nx (zk1 3 rfl fn) ?_
          refine cg_seq ?_
          refine cg_region ?_
          refine zM rfl rfl rfl rfl rfl ?_
          refine zA rfl rfl rfl rfl rfl ?_
          refine lg_nil ?_
          refine nx (zk1 2 rfl fn) ?_
          refine cg_ret ?_
          rw [← padL_ok hk] at po
          obtain ⟨A9, c9, rfl, hc9, _, o9⟩ := own_sl po (padL_rng n)
          exact eg_ret_tmp rfl rfl ⟨_, rfl, A9, _, c9, rfl, hc9, o9, u⟩
end Go.Proofs.YtkcpmpbjjnknhaaGreatDoor
