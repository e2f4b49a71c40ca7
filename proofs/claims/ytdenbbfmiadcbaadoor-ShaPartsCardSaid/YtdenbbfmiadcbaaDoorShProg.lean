/-
  Contracts of the sum's exported functions.
-/
import Derived.Test.YtdenbbfmiadcbaaDoorShCut
namespace Go.Proofs.YtdenbbfmiadcbaaDoor
open Go.ChangeShapes Go.WideShapes Go.ChangeAt Go.RowKit
set_option linter.unusedVariables false
set_option maxRecDepth 20000
theorem write_any (s : S) (A A2 : Option Addr) (m c m2 c2 : Nat) (ys : List Int) (w : World) {tg : TypeId} (rg : RowAt w 0 tg (cW 64 num)) (o1 : Oct w w.heap.size A m s.b) (o2 : Oct w w.heap.size A2 m2 ys) (hnc : m2 ≤ c2) (hm2 : m2 ≤ 281474976710656) : Calls Tryd.prog 12 #[.agg (cS s.h (.slice A m c) s.n), .slice A2 m2 c2] w fun e w' => ∃ v, e = .returned v ∧ StR w (s.wr ys) v w' := by
  refine calls_cg (n := 33) Tryd.func12 rfl Tryd.ntmps12 (by simp) ?_
  show CG _ _ _ [(0, .agg (cS s.h (.slice A m c) s.n)), (1, .slice A2 m2 c2)] _ _
  have u := Below.refl w.heap.size w
  have hl1 := o1.1
  have hl2 := o2.1
  have hb := s.as_b
  have hn := s.as_n
  have h0 := rg.lt
  refine cg_seq ?_
  refine cg_region ?_
  refine lg_boxw (want_none (by rfl)) rfl rfl (hsS _ _ _) rfl (by decide) fun b1 w1 n1 => ?_
  have r1 := n1.row
  have k1 := n1.blk
  have z1 := n1.size
  refine lg_allocw (want_none (by rfl)) rfl hzS rfl (by decide) fun b2 w2 n2 => ?_
  have r2 := n2.row
  have k2 := n2.blk
  have z2 := n2.size
  refine lg_nil ?_
  refine nx (E' := [(1, _), (2, _), (4, _)]) (fk rfl (fk rfl (fk rfl fn))) ?_
  refine cg_seq ?_
  refine cg_region ?_
  have r1 := n2.keep r1
  refine lsw (want_none (by rfl)) (y_part r1 (m := 10) (cS_all _ _ _) (by show _ ≤ 10; omega) (by kernel_rfl) (by kernel_rfl) rfl rfl) rfl (by decide) ?_
  have o1 := o1.below (n1.below.mono (by omega))
  have o1 := o1.below (n2.below.mono (by omega))
  refine lg_callw (want_none (by rfl)) (sound_any s _ _ _ _ (o1.more (by omega))) (by kernel_rfl) rfl rfl rfl (by decide) ?_
  rintro _ w3 ⟨A3, m3, c3, rfl, o3, hw3⟩
  have zw3 := hw3.size
  have r1 := RowAt.below hw3 r1.lt r1
  have qw4 := r1
  refine lg_stw (want_none (by rfl)) r1 rfl rfl rfl (hsS _ _ _) (cS_one _ _ _ _ _) rfl rfl fun w4 sw4 => ?_
  have r1 := sw4.row
  have zw4 := sw4.size
  refine lg_nil ?_
  refine nx (E' := [(1, _), (2, _), (4, _)]) (fk rfl (fk rfl (fk rfl fn))) ?_
  refine cg_seq ?_
  refine cg_seq ?_
  refine cg_region ?_
  refine lsw (want_none (by rfl)) (y_fld (off := 9) (by kernel_rfl) rfl rfl) rfl (by decide) ?_
  refine lsw (want_none (by rfl)) (y_cellv r1 (cS_9 _ _ _) (by kernel_rfl) rfl rfl) rfl (by decide) ?_
  refine lsw (want_none (by rfl)) (y_move rfl rfl) rfl (by decide) ?_
  refine lsw (want_none (by rfl)) (y_len (el := 5) (by kernel_rfl) rfl rfl) rfl (by decide) ?_
  refine lsw (want_none (by rfl)) (yi_add rfl rfl rfl (by omega) (by omega)) rfl (by decide) ?_
  refine lsw (want_none (by rfl)) (yi_gtr rfl rfl rfl) rfl (by decide) ?_
  refine lg_nil ?_
  refine nx (E' := [(1, _), (2, _), (4, _), (14, _)]) (fk rfl (fk rfl (fk rfl (fk rfl fn)))) ?_
  refine cg_if rfl (fun hc14 => ?_) (fun hc14 => ?_)
  · have ew : s.wr ys = S.new := if_pos (by omega)
    refine cg_seq ?_
    refine cg_region ?_
    refine lg_callw (want_none (by rfl)) (new_any _) (by kernel_rfl) rfl rfl rfl (by decide) ?_
    rintro _ w5 ⟨A5, m5, c5, rfl, o5, hw5⟩
    have zw5 := hw5.size
    have r2 := RowAt.below hw3 r2.lt r2
    have r2 := sw4.keep r2 (by omega)
    have r2 := RowAt.below hw5 r2.lt r2
    have qw6 := r2
    refine lg_stw (want_none (by rfl)) r2 rfl rfl rfl (hsS _ _ _) (cS_one _ _ _ _ _) rfl rfl fun w6 sw6 => ?_
    have r2 := sw6.row
    have zw6 := sw6.size
    refine lg_nil ?_
    refine nx (E' := [(1, _), (2, _), (4, _)]) (fk rfl (fk rfl (fk rfl fn))) ?_
    refine cg_ret ?_
    refine eg_seq_ret ?_
    have u := u.trans (n1.below.mono u.size)
    have u := u.trans (n2.below.mono u.size)
    have u := u.trans (hw3.mono u.size)
    have u := u.trans (sw4.below _ (by omega))
    have u := u.trans (hw5.mono u.size)
    have u := u.trans (sw6.below _ (by omega))
    have o5 := o5.set qw6 cS_no sw6
    exact eg_ret_agg rfl rfl r2 (by kernel_rfl) (hsS _ _ _) ⟨_, rfl, (by rw [ew]; exact ⟨_, _, _, (by first | rfl | rw [hl2]), o5.more (by omega), u⟩)⟩
  · have ew : s.wr ys = ⟨hOf s.as.h (s.as.b ++ ys), rest (s.as.b ++ ys), s.as.n + ys.length⟩ := if_neg (by omega)
    refine cg_skip ?_
    refine nx (E' := [(1, _), (2, _), (4, _)]) (fk rfl (fk rfl (fk rfl fn))) ?_
    refine cg_seq ?_
    refine cg_region ?_
    refine lsw (want_none (by rfl)) (y_fld (off := 0) (by kernel_rfl) rfl rfl) rfl (by decide) ?_
    refine lsw (want_none (by rfl)) (y_part r1 (m := 8) (cS_part _ _ _) (by show _ ≤ 10; omega) (by kernel_rfl) (by kernel_rfl) rfl rfl) rfl (by decide) ?_
    refine lsw (want_none (by rfl)) (y_build rfl rfl (bM _)) rfl (by decide) ?_
    refine lg_allocw (want_none (by rfl)) rfl hzM rfl (by decide) fun b7 w7 n7 => ?_
    have r7 := n7.row
    have k7 := n7.blk
    have z7 := n7.size
    have qw8 := r7
    refine lg_stw (want_none (by rfl)) r7 rfl rfl rfl (hsM _) (cW_one _ _) (by rw [cW_size, cW_size]) rfl fun w8 sw8 => ?_
    have r7 := sw8.row
    have zw8 := sw8.size
    refine lg_nil ?_
    refine nx (E' := [(1, _), (2, _), (4, _), (5, _)]) (fk rfl (fk rfl (fk rfl (fk rfl fn)))) ?_
    refine cg_seq ?_
    refine cg_region ?_
    refine lsw (want_none (by rfl)) (y_fld (off := 8) (by kernel_rfl) rfl rfl) rfl (by decide) ?_
    have r1 := n7.keep r1
    have r1 := sw8.keep r1 (by omega)
    refine lsw (want_none (by rfl)) (y_cellv r1 (cS_8 _ _ _) (by kernel_rfl) rfl rfl) rfl (by decide) ?_
    refine lsw (want_none (by rfl)) (y_move rfl rfl) rfl (by decide) ?_
    refine lsw (want_none (by rfl)) (y_mkf (xs := [.tmp 5]) (ys := []) rfl rfl rfl) rfl (by decide) ?_
    have o3 := o3.set qw4 cS_no sw4
    have o3 := o3.below (n7.below.mono (by omega))
    have o3 := o3.set qw8 cW_no sw8
    have o2 := o2.below (n1.below.mono (by omega))
    have o2 := o2.below (n2.below.mono (by omega))
    have o2 := o2.below (hw3.mono (by omega))
    have o2 := o2.set qw4 cS_no sw4
    have o2 := o2.below (n7.below.mono (by omega))
    have o2 := o2.set qw8 cW_no sw8
    have rg := n1.keep rg
    have rg := n2.keep rg
    have rg := RowAt.below hw3 rg.lt rg
    have rg := sw4.keep rg (by omega)
    have rg := n7.keep rg
    have rg := sw8.keep rg (by omega)
    have qm := r7
    refine lg_callw (want_none (by rfl)) (cut_any _ _ _ _ _ _ _ _ _ _ _ rg r7 (by omega) (o3.more (by omega)) (o2.more (by omega)) (by have := o3.1; omega) hnc) (by kernel_rfl) rfl rfl rfl (by decide) ?_
    rintro _ w9 ⟨A9, m9, c9, rfl, o9, r7, hw9⟩
    have zw9 := hw9.size
    refine lsw (want_none (by rfl)) (y_assign rfl rfl) rfl (by decide) ?_
    refine lg_nil ?_
    refine nx (E' := [(1, _), (2, _), (4, _), (5, _), (6, _)]) (fk rfl (fk rfl (fk rfl (fk rfl (fk rfl fn))))) ?_
    refine cg_seq ?_
    refine cg_region ?_
    refine lsw (want_none (by rfl)) (y_fld (off := 0) (by kernel_rfl) rfl rfl) rfl (by decide) ?_
    refine lsw (want_none (by rfl)) (y_part r7 (m := 8) (cW8_part _) (by rw [cW_size]; omega) (by kernel_rfl) (by kernel_rfl) rfl rfl) rfl (by decide) ?_
    refine lsw (want_none (by rfl)) (y_move rfl rfl) rfl (by decide) ?_
    refine lsw (want_none (by rfl)) (y_fld (off := 9) (by kernel_rfl) rfl rfl) rfl (by decide) ?_
    have r1 := hw9.keep r1 (by omega)
    refine lsw (want_none (by rfl)) (y_cellv r1 (cS_9 _ _ _) (by kernel_rfl) rfl rfl) rfl (by decide) ?_
    refine lsw (want_none (by rfl)) (y_move rfl rfl) rfl (by decide) ?_
    refine lsw (want_none (by rfl)) (y_len (el := 5) (by kernel_rfl) rfl rfl) rfl (by decide) ?_
    refine lsw (want_none (by rfl)) (yi_add rfl rfl rfl (by omega) (by omega)) rfl (by decide) ?_
    refine lsw (want_none (by rfl)) (y_build rfl rfl (bS3 _ () _)) rfl (by decide) ?_
    have r2 := RowAt.below hw3 r2.lt r2
    have r2 := sw4.keep r2 (by omega)
    have r2 := n7.keep r2
    have r2 := sw8.keep r2 (by omega)
    have r2 := hw9.keep r2 (by omega)
    have qw10 := r2
    refine lg_stw (want_none (by rfl)) r2 rfl rfl rfl (hsS _ _ _) (cS_one _ _ _ _ _) rfl rfl fun w10 sw10 => ?_
    have r2 := sw10.row
    have zw10 := sw10.size
    refine lg_nil ?_
    refine nx (E' := [(4, _)]) (fk rfl fn) ?_
    refine cg_ret ?_
    have u := u.trans (n1.below.mono u.size)
    have u := u.trans (n2.below.mono u.size)
    have u := u.trans (hw3.mono u.size)
    have u := u.trans (sw4.below _ (by omega))
    have u := u.trans (n7.below.mono u.size)
    have u := u.trans (sw8.below _ (by omega))
    have u := u.trans (hw9.below _ (by omega) (by omega))
    have u := u.trans (sw10.below _ (by omega))
    have o9 := o9.set qw10 cS_no sw10
    exact eg_ret_agg rfl rfl r2 (by kernel_rfl) (hsS _ _ _) ⟨_, rfl, (by rw [ew]; exact ⟨_, _, _, (by first | rfl | rw [hl2]), o9.more (by omega), u⟩)⟩
theorem be4_rng (x : BitVec 32) : ∀ z ∈ be4 x, 0 ≤ z ∧ z ≤ 255 := by
  intro z hz
  simp only [be4, List.mem_cons, List.not_mem_nil, or_false] at hz
  rcases hz with rfl | rfl | rfl | rfl <;> exact vb_range _
theorem outF_len (h : Nat → BitVec 32) : ∀ i, (outF h i).length = 4 * i
  | 0 => rfl
  | i + 1 => by
    show (outF h i ++ be4 (h i)).length = _
    rw [List.length_append, outF_len h i]
    show 4 * i + 4 = _
    omega
theorem outF_rng (h : Nat → BitVec 32) : ∀ i, ∀ z ∈ outF h i, 0 ≤ z ∧ z ≤ 255
  | 0 => by intro z hz; cases hz
  | i + 1 => by
    intro z hz
    rcases List.mem_append.1 (show z ∈ outF h i ++ be4 (h i) from hz) with h1 | h1
    · exact outF_rng h i z h1
    · exact be4_rng _ z h1
theorem octets_any (h : Nat → BitVec 32) (w : World) : Calls Tryd.prog 29 #[.agg (cW 8 h)] w fun e w' => ∃ v, e = .returned v ∧ SlR w (outF h 8) v w' := by
  refine calls_cg (n := 27) Tryd.func29 rfl Tryd.ntmps29 (by simp) ?_
  show CG _ _ _ [(0, .agg (cW 8 h))] _ _
  have u := Below.refl w.heap.size w
  refine cg_seq ?_
  refine cg_region ?_
  refine lg_boxw (want_none (by rfl)) rfl rfl (hs8 _) rfl (by decide) fun b1 w1 n1 => ?_
  have r1 := n1.row
  have k1 := n1.blk
  have z1 := n1.size
  refine lsw (want_none (by rfl)) (y_assign rfl rfl) rfl (by decide) ?_
  refine lg_nil ?_
  refine nx (E' := [(1, _), (2, _)]) (fk rfl (fk rfl fn)) ?_
  refine cg_seq ?_
  refine cg_region ?_
  refine lg_mk0 32 (want_none (by rfl)) rfl (by decide) rfl rfl rfl rfl (by decide) fun u2 w2 p2 hw2 => ?_
  have zw2 := hw2.size
  refine lsw (want_none (by rfl)) (y_assign rfl rfl) rfl (by decide) ?_
  refine lg_nil ?_
  refine nx (E' := [(1, _), (2, _), (3, _)]) (fk rfl (fk rfl (fk rfl fn))) ?_
  refine cg_seq ?_
  refine cg_seq ?_
  refine cg_region ?_
  have r1 := RowAt.below hw2 r1.lt r1
  refine lsw (want_none (by rfl)) (y_part r1 (m := 8) (cW8_part _) (by rw [cW_size]; omega) (by kernel_rfl) (by kernel_rfl) rfl rfl) rfl (by decide) ?_
  refine lsw (want_none (by rfl)) (y_move rfl rfl) rfl (by decide) ?_
  refine lg_nil ?_
  refine nx (E' := [(2, _), (3, _), (7, _), (8, _)]) (fk rfl (fk rfl (fk rfl (fk rfl fn)))) ?_
  refine cg_block ?_
  have u := u.trans (n1.below.mono u.size)
  have u := u.trans (hw2.mono u.size)
  refine cg_loopE (fun i a v => ∃ (ur : Value), Holds 27 [(7, .agg (cW 8 h)), (8, iv i), (3, ur)] a ∧ v.ownsRow w1.heap.size 5 1 ur (outF h i).length ((outF h i).map (Value.int .u8)) ∧ w1.heap.size ≤ v.heap.size ∧ Below w.heap.size w v) 8 (fun a ha => ⟨_, ha.keep (fk rfl (fk rfl (fk rfl fn))), p2, by omega, u⟩) ?_
  rintro i a v ht ⟨ur, ha, po, hbs, u⟩
  refine cg_at ha ?_
  clear ha a
  have zv := u.size
  refine cg_seq ?_
  refine cg_region ?_
  refine lsw (want_none (by rfl)) (yi_lss rfl rfl rfl) rfl (by decide) ?_
  refine lg_nil ?_
  refine nx (E' := [(7, _), (8, _), (3, _), (9, _)]) (fk rfl (fk rfl (fk rfl (fk rfl fn)))) ?_
  refine cg_seq ?_
  refine cg_if rfl (fun hc9 => ?_) (fun hc9 => ?_)
  · refine cg_skip ?_
    refine nx (E' := [(7, _), (8, _), (3, _), (9, _)]) (fk rfl (fk rfl (fk rfl (fk rfl fn)))) ?_
    refine cg_seq ?_
    refine cg_block ?_
    refine cg_seq ?_
    refine cg_region ?_
    refine lsw (want_none (by rfl)) (y_idx (j := i) hu8 hsw huw (by omega) (cW_get (by omega)) rfl rfl rfl) rfl (by decide) ?_
    refine lsw (want_none (by rfl)) (y_assign rfl rfl) rfl (by decide) ?_
    refine lg_nil ?_
    refine nx (E' := [(7, _), (8, _), (3, _), (9, _), (10, _), (5, _)]) (fk rfl (fk rfl (fk rfl (fk rfl (fk rfl (fk rfl fn)))))) ?_
    refine cg_region ?_
    refine lsw (want_none (by rfl)) (y_move rfl rfl) rfl (by decide) ?_
    refine lsw (want_none (by rfl)) (y_move rfl rfl) rfl (by decide) ?_
    refine lsw (want_none (by rfl)) (y_shr 24 .u64 (by decide) rfl rfl rfl) rfl (by decide) ?_
    refine lsw (want_none (by rfl)) (y_wb rfl rfl) rfl (by decide) ?_
    refine lsw (want_none (by rfl)) (y_move rfl rfl) rfl (by decide) ?_
    refine lsw (want_none (by rfl)) (y_shr 16 .u64 (by decide) rfl rfl rfl) rfl (by decide) ?_
    refine lsw (want_none (by rfl)) (y_wb rfl rfl) rfl (by decide) ?_
    refine lsw (want_none (by rfl)) (y_move rfl rfl) rfl (by decide) ?_
    refine lsw (want_none (by rfl)) (y_shr 8 .u64 (by decide) rfl rfl rfl) rfl (by decide) ?_
    refine lsw (want_none (by rfl)) (y_wb rfl rfl) rfl (by decide) ?_
    refine lsw (want_none (by rfl)) (y_move rfl rfl) rfl (by decide) ?_
    refine lsw (want_none (by rfl)) (y_wb rfl rfl) rfl (by decide) ?_
    refine lg_bslice (el := 5) (by kernel_rfl) (z := .int .u8 0) (by kernel_rfl) (by decide) (by decide) rfl rfl (cs := #[ov ((h i >>> 24).setWidth 8), ov ((h i >>> 16).setWidth 8), ov ((h i >>> 8).setWidth 8), ov ((h i).setWidth 8)]) (by kernel_rfl) rfl rfl (by decide) fun b3 w3 n3 => ?_
    have r3 := n3.row
    have k3 := n3.blk
    have z3 := n3.size
    have o3 := oct_lit r3 (xs := be4 (h i)) rfl (be4_rng _)
    have po := own_below po n3.below
    refine lg_append po o3 (by have ho := o3.1; have := outF_len h i; have : (be4 (h i)).length = 4 := rfl; omega) (by omega) (want_none (by rfl)) rfl rfl rfl rfl rfl (by decide) fun u4 w4 po hw4 => ?_
    have zw4 := hw4.size
    refine lsw (want_none (by rfl)) (y_assign rfl rfl) rfl (by decide) ?_
    refine lg_nil ?_
    refine eg_block_norm ?_
    refine nx (E' := [(7, _), (8, _), (9, _), (10, _), (5, _), (11, _), (12, _), (13, _), (14, _), (15, _), (16, _), (17, _), (18, _), (19, _), (20, _), (21, _), (22, _), (23, _), (24, _), (3, _)]) (fk rfl (fk rfl (fk rfl (fk rfl (fk rfl (fk rfl (fk rfl (fk rfl (fk rfl (fk rfl (fk rfl (fk rfl (fk rfl (fk rfl (fk rfl (fk rfl (fk rfl (fk rfl (fk rfl (fk rfl fn)))))))))))))))))))) ?_
    refine cg_region ?_
    refine lsw (want_none (by rfl)) (yi_add rfl rfl rfl (by omega) (by omega)) rfl (by decide) ?_
    refine lsw (want_none (by rfl)) (y_move rfl rfl) rfl (by decide) ?_
    refine lg_nil ?_
    have u := u.trans (n3.below.mono u.size)
    have u := u.trans (hw4.mono (by omega))
    exact fun a ha => (show i < 8 ∧ _ from ⟨(by omega), _, ha.keep (fk rfl (fk rfl (fk rfl fn))), po, by omega, u⟩)
  · obtain rfl : i = 8 := by omega
    refine cg_exit ?_
    refine eg_seq_exit ?_
    refine eg_seq_exit ?_
    refine eg_block_exit ?_
    refine nx (E' := [(3, _)]) (fk rfl fn) ?_
    refine cg_seq ?_
    refine cg_region ?_
    refine lsw (want_none (by rfl)) (y_move rfl rfl) rfl (by decide) ?_
    refine lsw (want_none (by rfl)) (y_assign rfl rfl) rfl (by decide) ?_
    refine lg_nil ?_
    refine nx (E' := [(2, _)]) (fk rfl fn) ?_
    refine cg_ret ?_
    obtain ⟨A9, c9, rfl, hc9, _, o9⟩ := own_sl po (outF_rng h 8)
    exact eg_ret_tmp rfl rfl ⟨_, rfl, A9, _, c9, rfl, hc9, o9, u⟩
def padW (n : Int) (k : Nat) : Nat → Nat → BitVec 8
  | 0 => upd (fun _ => 0) (0 + 0) 128#8
  | i + 1 => upd (padW n k i) (0 + (k - 1 - i)) (toB (n * 8 / 2 ^ (8 * (i : Int)).toNat))
theorem padW_at (n : Int) (k : Nat) : ∀ t, t ≤ 8 → 9 ≤ k → ∀ j, j < k → padW n k t j = if j = 0 then 128#8 else if k - 1 - j < t then toB (n * 8 / 2 ^ (8 * (k - 1 - j))) else 0
  | 0, _, hk, j, hj => by
    by_cases e : j = 0
    · subst e; simp [padW, upd]
    · simp [padW, upd, e]
  | t + 1, ht, hk, j, hj => by
    show (if j = 0 + (k - 1 - t) then _ else padW n k t j) = _
    by_cases e : j = 0 + (k - 1 - t)
    · rw [if_pos e, if_neg (by omega), if_pos (by omega), show (8 * (t : Int)).toNat = 8 * (k - 1 - j) by omega]
    · rw [if_neg e, padW_at n k t (by omega) hk j hj]
      by_cases e0 : j = 0
      · simp [e0]
      · rw [if_neg e0, if_neg e0]
        by_cases e1 : k - 1 - j < t
        · rw [if_pos e1, if_pos (by omega)]
        · rw [if_neg e1, if_neg (by omega)]
theorem be8_len (n : Int) : ∀ i, (be8 n i).length = i
  | 0 => rfl
  | i + 1 => by
    show (be8 n i ++ [_]).length = _
    rw [List.length_append, be8_len n i]
    rfl
theorem be8_at (n : Int) : ∀ t i, i < t → (be8 n t)[i]? = some (n / 2 ^ (8 * (7 - i)) % 256)
  | 0, i, h => by omega
  | t + 1, i, h => by
    show (be8 n t ++ [n / 2 ^ (8 * (7 - t)) % 256])[i]? = _
    by_cases e : i < t
    · rw [List.getElem?_append_left (by rw [be8_len]; exact e), be8_at n t i e]
    · have e2 : i = t := by omega
      subst e2
      rw [List.getElem?_append_right (by rw [be8_len]; omega), be8_len, Nat.sub_self]
      rfl
theorem vb_toB_mod (z : Int) : vb (toB z) = z % 256 := by
  unfold vb toB
  rw [BitVec.toNat_ofInt]
  omega
theorem padL_ok {n : Int} (h : 0 ≤ n ∧ n ≤ 1125899906842624) : padL n = 128 :: (List.replicate (zeroN n) 0 ++ be8 (n * 8) 8) := if_pos h
theorem padL_no {n : Int} (h : ¬ (0 ≤ n ∧ n ≤ 1125899906842624)) : padL n = [] := if_neg h
theorem zeroN_lt (n : Int) : zeroN n < 64 := by unfold zeroN; omega
theorem padL_len {n : Int} (h : 0 ≤ n ∧ n ≤ 1125899906842624) : (padL n).length = 9 + zeroN n := by
  rw [padL_ok h, List.length_cons, List.length_append, List.length_replicate, be8_len]
  omega
theorem padL_le (n : Int) : (padL n).length ≤ 72 := by
  by_cases h : 0 ≤ n ∧ n ≤ 1125899906842624
  · have := zeroN_lt n
    rw [padL_len h]
    omega
  · rw [padL_no h]
    exact Nat.zero_le _
theorem padW_end {n : Int} (h : 0 ≤ n ∧ n ≤ 1125899906842624) : rd (padW n (9 + zeroN n) 8) (9 + zeroN n) = padL n := by
  refine List.ext_getElem? fun j => ?_
  by_cases hj : j < 9 + zeroN n
  · have h1 : (rd (padW n (9 + zeroN n) 8) (9 + zeroN n))[j]? = some (vb (padW n (9 + zeroN n) 8 j)) := by simp [rd, hj]
    rw [h1, padW_at n _ 8 (by omega) (by omega) j hj, padL_ok h]
    by_cases e : j = 0
    · subst e
      rfl
    · rw [if_neg e]
      obtain ⟨i, rfl⟩ : ∃ i, j = i + 1 := ⟨j - 1, by omega⟩
      rw [List.getElem?_cons_succ]
      by_cases e1 : i < zeroN n
      · rw [if_neg (by omega), List.getElem?_append_left (by rw [List.length_replicate]; exact e1), List.getElem?_replicate, if_pos e1]
        rfl
      · rw [if_pos (by omega), List.getElem?_append_right (by rw [List.length_replicate]; omega), List.length_replicate, be8_at _ _ _ (by omega), vb_toB_mod]
        rw [show 8 * (9 + zeroN n - 1 - (i + 1)) = 8 * (7 - (i - zeroN n)) by omega]
  · rw [List.getElem?_eq_none (by rw [rd_len]; omega), List.getElem?_eq_none (by rw [padL_len h]; omega)]
theorem padL_rng (n : Int) : ∀ z ∈ padL n, 0 ≤ z ∧ z ≤ 255 := by
  by_cases h : 0 ≤ n ∧ n ≤ 1125899906842624
  · rw [← padW_end h]
    intro z hz
    obtain ⟨i, _, rfl⟩ := List.mem_map.1 hz
    exact vb_range _
  · rw [padL_no h]
    intro z hz
    cases hz
theorem pad_any (n : Int) (w : World) : Calls Tryd.prog 19 #[nv n] w fun e w' => ∃ v, e = .returned v ∧ SlR w (padL n) v w' := by
  by_cases hk : 0 ≤ n ∧ n ≤ 1125899906842624
  · refine calls_cg (n := 41) Tryd.func19 rfl Tryd.ntmps19 (by simp) ?_
    show CG _ _ _ [(0, nv n)] _ _
    have u := Below.refl w.heap.size w
    have hz := zeroN_lt n
    refine cg_seq ?_
    refine cg_region ?_
    refine lsw (want_none (by rfl)) (y_assign rfl rfl) rfl (by decide) ?_
    refine lg_nil ?_
    refine nx (E' := [(0, _), (2, _)]) (fk rfl (fk rfl fn)) ?_
    refine cg_seq ?_
    refine cg_seq ?_
    refine cg_region ?_
    refine lsw (want_none (by rfl)) (y_move rfl rfl) rfl (by decide) ?_
    refine lsw (want_none (by rfl)) (yb (decide_eq_true hk) (y_call (counted_any _ _) (by kernel_rfl) rfl rfl)) rfl (by decide) ?_
    refine lsw (want_none (by rfl)) (y_bnot rfl rfl) rfl (by decide) ?_
    refine lg_nil ?_
    refine nx (E' := [(0, _), (2, _), (9, _)]) (fk rfl (fk rfl (fk rfl fn))) ?_
    refine cg_cf rfl ?_
    refine cg_skip ?_
    refine nx (E' := [(0, _), (2, _)]) (fk rfl (fk rfl fn)) ?_
    refine cg_seq ?_
    refine cg_region ?_
    refine lsw (want_none (by rfl)) (y_move rfl rfl) rfl (by decide) ?_
    refine lsw (want_none (by rfl)) (yi_add rfl rfl rfl (by omega) (by omega)) rfl (by decide) ?_
    refine lsw (want_none (by rfl)) (yi_add rfl rfl rfl (by omega) (by omega)) rfl (by decide) ?_
    refine lsw (want_none (by rfl)) (yi_rem rfl rfl rfl (by omega) (by omega)) rfl (by decide) ?_
    refine lsw (want_none (by rfl)) (y_assign rfl rfl) rfl (by decide) ?_
    refine lg_nil ?_
    refine nx (E' := [(0, _), (2, _), (3, _)]) (fk rfl (fk rfl (fk rfl fn))) ?_
    refine cg_seq ?_
    refine cg_region ?_
    refine lsw (want_none (by rfl)) (y_move rfl rfl) rfl (by decide) ?_
    refine lsw (want_none (by rfl)) (yi_sub rfl rfl rfl (by omega) (by omega)) rfl (by decide) ?_
    refine lsw (want_none (by rfl)) (yi_rem rfl rfl rfl (by omega) (by omega)) rfl (by decide) ?_
    refine lsw (want_none (by rfl)) (y_assign rfl rfl) rfl (by decide) ?_
    refine lg_nil ?_
    refine nx (E' := [(0, _), (2, _), (4, _)]) (fk rfl (fk rfl (fk rfl fn))) ?_
    refine cg_seq ?_
    refine cg_region ?_
    refine lsw (want_none (by rfl)) (y_move rfl rfl) rfl (by decide) ?_
    refine lsw (want_none (by rfl)) (yi_add rfl rfl rfl (by omega) (by omega)) rfl (by decide) ?_
    refine lsw (want_none (by rfl)) (yi_add rfl rfl rfl (by omega) (by omega)) rfl (by decide) ?_
    refine lg_mk (9 + zeroN n) (want_none (by rfl)) (by unfold zeroN; omega) (by have := zeroN_lt n; omega) rfl rfl rfl rfl (by decide) fun b1 w1 n1 => ?_
    have r1 := n1.row
    have k1 := n1.blk
    have z1 := n1.size
    refine lsw (want_none (by rfl)) (y_assign rfl rfl) rfl (by decide) ?_
    refine lg_nil ?_
    refine nx (E' := [(0, _), (2, _), (5, _)]) (fk rfl (fk rfl (fk rfl fn))) ?_
    refine cg_seq ?_
    refine cg_region ?_
    refine lsw (want_none (by rfl)) (y_move rfl rfl) rfl (by decide) ?_
    refine lsw (want_none (by rfl)) (y_ixo (i := 0) (by rfl) (by omega) rfl rfl rfl) rfl (by decide) ?_
    refine lg_st1 (want_none (by rfl)) r1 rfl rfl (u := ov 128#8) (by kernel_rfl) (by kernel_rfl) rfl (by rw [cB_size]; omega) cB_set rfl fun w2 sw2 => ?_
    have r1 := sw2.row
    have zw2 := sw2.size
    refine lg_nil ?_
    refine nx (E' := [(0, _), (2, _), (5, _)]) (fk rfl (fk rfl (fk rfl fn))) ?_
    refine cg_seq ?_
    refine cg_seq ?_
    refine cg_region ?_
    refine lsw (want_none (by rfl)) (y_move rfl rfl) rfl (by decide) ?_
    refine lg_nil ?_
    refine nx (E' := [(0, _), (2, _), (5, _), (23, _)]) (fk rfl (fk rfl (fk rfl (fk rfl fn)))) ?_
    refine cg_block ?_
    have u := u.trans (n1.below.mono u.size)
    have u := u.trans (sw2.below _ (by omega))
    refine cg_loopE (fun i a v => Holds 41 [(0, nv n), (5, .slice (some ⟨b1, 0, none⟩) (9 + zeroN n) (9 + zeroN n)), (23, iv i)] a ∧ RowAt v b1 5 (cB (9 + zeroN n) (padW n (9 + zeroN n) i)) ∧ Below w.heap.size w v) 8 (fun a ha => ⟨ha.keep (fk rfl (fk rfl (fk rfl fn))), r1, u⟩) ?_
    rintro i a v ht ⟨ha, rp, u⟩
    refine cg_at ha ?_
    clear ha a
    have zv := u.size
    refine cg_seq ?_
    refine cg_region ?_
    refine lsw (want_none (by rfl)) (yi_lss rfl rfl rfl) rfl (by decide) ?_
    refine lg_nil ?_
    refine nx (E' := [(0, _), (5, _), (23, _), (24, _)]) (fk rfl (fk rfl (fk rfl (fk rfl fn)))) ?_
    refine cg_seq ?_
    refine cg_if rfl (fun hc24 => ?_) (fun hc24 => ?_)
    · refine cg_skip ?_
      refine nx (E' := [(0, _), (5, _), (23, _), (24, _)]) (fk rfl (fk rfl (fk rfl (fk rfl fn)))) ?_
      refine cg_seq ?_
      refine cg_block ?_
      refine cg_seq ?_
      refine cg_region ?_
      refine lsw (want_none (by rfl)) (y_move rfl rfl) rfl (by decide) ?_
      refine lsw (want_none (by rfl)) (y_assign rfl rfl) rfl (by decide) ?_
      refine lg_nil ?_
      refine nx (E' := [(0, _), (5, _), (23, _), (24, _), (25, _), (6, _)]) (fk rfl (fk rfl (fk rfl (fk rfl (fk rfl (fk rfl fn)))))) ?_
      refine cg_region ?_
      refine lsw (want_none (by rfl)) (y_move rfl rfl) rfl (by decide) ?_
      refine lsw (want_none (by rfl)) (y_move rfl rfl) rfl (by decide) ?_
      refine lsw (want_none (by rfl)) (y_len (el := 5) (by kernel_rfl) rfl rfl) rfl (by decide) ?_
      refine lsw (want_none (by rfl)) (yi_sub rfl rfl rfl (by omega) (by omega)) rfl (by decide) ?_
      refine lsw (want_none (by rfl)) (y_move rfl rfl) rfl (by decide) ?_
      refine lsw (want_none (by rfl)) (yi_sub rfl rfl rfl (by omega) (by omega)) rfl (by decide) ?_
      refine lsw (want_none (by rfl)) (y_move rfl rfl) rfl (by decide) ?_
      refine lsw (want_none (by rfl)) (yi_mul rfl rfl rfl (by omega) (by omega)) rfl (by decide) ?_
      refine lsw (want_none (by rfl)) (y_move rfl rfl) rfl (by decide) ?_
      refine lsw (want_none (by rfl)) (yi_mul rfl rfl rfl (by omega) (by omega)) rfl (by decide) ?_
      refine lsw (want_none (by rfl)) (yi_shr rfl rfl rfl (by omega) (by omega)) rfl (by decide) ?_
      refine lsw (want_none (by rfl)) (y_to8 (by kernel_rfl) rfl rfl) rfl (by decide) ?_
      refine lsw (want_none (by rfl)) (y_ixo (i := 9 + zeroN n - 1 - i) (by omega) (by omega) rfl rfl rfl) rfl (by decide) ?_
      refine lg_st1 (want_none (by rfl)) rp rfl rfl rfl (by kernel_rfl) rfl (by rw [cB_size]; omega) cB_set rfl fun w3 sw3 => ?_
      have rp := sw3.row
      have zw3 := sw3.size
      refine lg_nil ?_
      refine eg_block_norm ?_
      refine nx (E' := [(0, _), (5, _), (23, _), (24, _), (25, _), (6, _), (26, _), (27, _), (28, _), (29, _), (30, _), (31, _), (32, _), (33, _), (34, _), (35, _), (36, _), (37, _), (38, _)]) (fk rfl (fk rfl (fk rfl (fk rfl (fk rfl (fk rfl (fk rfl (fk rfl (fk rfl (fk rfl (fk rfl (fk rfl (fk rfl (fk rfl (fk rfl (fk rfl (fk rfl (fk rfl (fk rfl fn))))))))))))))))))) ?_
      refine cg_region ?_
      refine lsw (want_none (by rfl)) (yi_add rfl rfl rfl (by omega) (by omega)) rfl (by decide) ?_
      refine lsw (want_none (by rfl)) (y_move rfl rfl) rfl (by decide) ?_
      refine lg_nil ?_
      have u := u.trans (sw3.below _ (by omega))
      exact fun a ha => (show i < 8 ∧ _ from ⟨(by omega), ha.keep (fk rfl (fk rfl (fk rfl fn))), rp, u⟩)
    · obtain rfl : i = 8 := by omega
      refine cg_exit ?_
      refine eg_seq_exit ?_
      refine eg_seq_exit ?_
      refine eg_block_exit ?_
      refine nx (E' := [(5, _)]) (fk rfl fn) ?_
      refine cg_seq ?_
      refine cg_region ?_
      refine lsw (want_none (by rfl)) (y_move rfl rfl) rfl (by decide) ?_
      refine lsw (want_none (by rfl)) (y_assign rfl rfl) rfl (by decide) ?_
      refine lg_nil ?_
      refine nx (E' := [(2, _)]) (fk rfl fn) ?_
      refine cg_ret ?_
      have o9 := oct_row rp (Nat.le_refl _)
      rw [padW_end hk] at o9
      exact eg_ret_tmp rfl rfl ⟨_, rfl, _, _, _, rfl, Nat.le_refl _, o9.more (by have := rp.lt; omega), u⟩
  · refine calls_cg (n := 41) Tryd.func19 rfl Tryd.ntmps19 (by simp) ?_
    show CG _ _ _ [(0, nv n)] _ _
    have u := Below.refl w.heap.size w
    refine cg_seq ?_
    refine cg_region ?_
    refine lsw (want_none (by rfl)) (y_assign rfl rfl) rfl (by decide) ?_
    refine lg_nil ?_
    refine nx (E' := [(0, _), (2, _)]) (fk rfl (fk rfl fn)) ?_
    refine cg_seq ?_
    refine cg_seq ?_
    refine cg_region ?_
    refine lsw (want_none (by rfl)) (y_move rfl rfl) rfl (by decide) ?_
    refine lsw (want_none (by rfl)) (yb (decide_eq_false hk) (y_call (counted_any _ _) (by kernel_rfl) rfl rfl)) rfl (by decide) ?_
    refine lsw (want_none (by rfl)) (y_bnot rfl rfl) rfl (by decide) ?_
    refine lg_nil ?_
    refine nx (E' := [(0, _), (2, _), (9, _)]) (fk rfl (fk rfl (fk rfl fn))) ?_
    refine cg_ct rfl ?_
    refine cg_seq ?_
    refine cg_region ?_
    refine lsw (want_none (by rfl)) (y_assign rfl rfl) rfl (by decide) ?_
    refine lg_nil ?_
    refine nx (E' := [(0, _), (2, _)]) (fk rfl (fk rfl fn)) ?_
    refine cg_ret ?_
    refine eg_seq_ret ?_
    exact eg_ret_tmp rfl rfl ⟨_, rfl, none, 0, 0, rfl, Nat.le_refl _, (by rw [padL_no hk]; exact Oct.nil _ _ _), u⟩
theorem done_any (s : S) (A : Option Addr) (m c : Nat) (w : World) {tg : TypeId} (rg : RowAt w 0 tg (cW 64 num)) (o1 : Oct w w.heap.size A m s.b) : Calls Tryd.prog 15 #[.agg (cS s.h (.slice A m c) s.n)] w fun e w' => ∃ v, e = .returned v ∧ SlR w s.done v w' := by
  refine calls_cg (n := 12) Tryd.func15 rfl Tryd.ntmps15 (by simp) ?_
  show CG _ _ _ [(0, .agg (cS s.h (.slice A m c) s.n))] _ _
  have u := Below.refl w.heap.size w
  have hl1 := o1.1
  have h0 := rg.lt
  refine cg_seq ?_
  refine cg_region ?_
  refine lg_boxw (want_none (by rfl)) rfl rfl (hsS _ _ _) rfl (by decide) fun b1 w1 n1 => ?_
  have r1 := n1.row
  have k1 := n1.blk
  have z1 := n1.size
  refine lsw (want_none (by rfl)) (y_assign rfl rfl) rfl (by decide) ?_
  refine lg_nil ?_
  refine nx (E' := [(1, _), (2, _)]) (fk rfl (fk rfl fn)) ?_
  refine cg_seq ?_
  refine cg_region ?_
  refine lsw (want_none (by rfl)) (y_part r1 (m := 10) (cS_all _ _ _) (by show _ ≤ 10; omega) (by kernel_rfl) (by kernel_rfl) rfl rfl) rfl (by decide) ?_
  have o1 := o1.below (n1.below.mono (by omega))
  refine lg_callw (want_none (by rfl)) (sound_any s _ _ _ _ (o1.more (by omega))) (by kernel_rfl) rfl rfl rfl (by decide) ?_
  rintro _ w2 ⟨A2, m2, c2, rfl, o2, hw2⟩
  have zw2 := hw2.size
  have r1 := RowAt.below hw2 r1.lt r1
  have qw3 := r1
  refine lg_stw (want_none (by rfl)) r1 rfl rfl rfl (hsS _ _ _) (cS_one _ _ _ _ _) rfl rfl fun w3 sw3 => ?_
  have r1 := sw3.row
  have zw3 := sw3.size
  refine lg_nil ?_
  refine nx (E' := [(1, _), (2, _)]) (fk rfl (fk rfl fn)) ?_
  refine cg_seq ?_
  refine cg_held (by kernel_rfl) fun W4 eW4 => ?_
  have dW4 := below_drew _ _ eW4
  have zW4 := size_drew _ _ eW4
  clear eW4
  have r1 := RowAt.below dW4 r1.lt r1
  refine hg_take 0 (by rfl) (want_none (by rfl)) (by rfl) rfl (by decide) (by kernel_rfl) (by kernel_rfl) (by kernel_rfl) (fun _ _ _ h => h) (Below.refl _ _) (fun q hq => y_part (RowAt.below hq r1.lt r1) (m := 10) (cS_all _ _ _) (by show _ ≤ 10; omega) (by kernel_rfl) (by kernel_rfl) rfl rfl) ?_
  refine hg_take 1 (by rfl) (want_none (by rfl)) (by rfl) rfl (by decide) (by kernel_rfl) (by kernel_rfl) (by kernel_rfl) (fun _ _ _ h => h) (Below.refl _ _) (fun q hq => y_fld (off := 9) (by kernel_rfl) rfl rfl) ?_
  refine hg_take 2 (by rfl) (want_none (by rfl)) (by rfl) rfl (by decide) (by kernel_rfl) (by kernel_rfl) (by kernel_rfl) (fun _ _ _ h => h) (Below.refl _ _) (fun q hq => y_cellv (RowAt.below hq r1.lt r1) (cS_9 _ _ _) (by kernel_rfl) rfl rfl) ?_
  refine hg_one 3 (by rfl) (by kernel_rfl) (want_none (by rfl)) ?_
  refine lg_callw (want_none (by rfl)) (pad_any _ _) (by kernel_rfl) rfl rfl rfl (by decide) ?_
  rintro _ w5 ⟨A5, m5, c5, rfl, hc5, o5, hw5⟩
  have zw5 := hw5.size
  refine hg_next hw5 ?_
  refine hg_up hw5 ?_
  refine hg_one 4 (by rfl) (by kernel_rfl) (want_none (by rfl)) ?_
  have o2 := o2.set qw3 cS_no sw3
  have o2 := o2.below (dW4.mono (by omega))
  have o2 := o2.below (hw5.mono (by omega))
  have rg := n1.keep rg
  have rg := RowAt.below hw2 rg.lt rg
  have rg := sw3.keep rg (by omega)
  have rg := RowAt.below dW4 rg.lt rg
  have rg := RowAt.below hw5 rg.lt rg
  refine lg_callw (want_none (by rfl)) (write_any s.as _ _ _ _ _ _ _ _ rg (o2.more (by omega)) (o5.more (by omega)) hc5 (by have := o5.1; have := padL_le s.as.n; omega)) (by kernel_rfl) rfl rfl rfl (by decide) ?_
  rintro _ w6 ⟨A6, m6, c6, rfl, o6, hw6⟩
  have zw6 := hw6.size
  refine hg_next hw6 ?_
  refine hg_up hw6 ?_
  refine hg_take 5 (by rfl) (want_none (by rfl)) (by rfl) rfl (by decide) (by kernel_rfl) (by kernel_rfl) (by kernel_rfl) (fun _ _ _ h => h) (Below.refl _ _) (fun q hq => y_fieldp (m := 8) (off := 0) (ft := 23) (by kernel_rfl) (by kernel_rfl) (by kernel_rfl) rfl rfl (cS_part _ _ _)) ?_
  refine hg_one 6 (by rfl) (by kernel_rfl) (want_none (by rfl)) ?_
  refine lg_callw (want_none (by rfl)) (octets_any _ _) (by kernel_rfl) rfl rfl rfl (by decide) ?_
  rintro _ w7 ⟨A7, m7, c7, rfl, hc7, o7, hw7⟩
  have zw7 := hw7.size
  refine hg_next hw7 ?_
  refine hg_up hw7 ?_
  refine hg_take 7 (by rfl) (want_none (by rfl)) (by rfl) rfl (by decide) (by kernel_rfl) (by kernel_rfl) (by kernel_rfl) (fun _ _ _ h => h) (Below.refl _ _) (fun q hq => y_assign rfl rfl) ?_
  refine hg_done (by kernel_rfl) ?_
  refine nx (E' := [(2, _)]) (fk rfl fn) ?_
  refine cg_ret ?_
  have u := u.trans (n1.below.mono u.size)
  have u := u.trans (hw2.mono u.size)
  have u := u.trans (sw3.below _ (by omega))
  have u := u.trans (dW4.mono u.size)
  have u := u.trans (hw5.mono u.size)
  have u := u.trans (hw6.mono u.size)
  have u := u.trans (hw7.mono u.size)
  exact eg_ret_tmp rfl rfl ⟨_, rfl, _, _, _, rfl, hc7, o7.more (by omega), u⟩
theorem sum_any (A : Option Addr) (m c : Nat) (xs : List Int) (w : World) {tg : TypeId} (rg : RowAt w 0 tg (cW 64 num)) (oi : Oct w w.heap.size A m xs) (hnc : m ≤ c) (hm2 : m ≤ 281474976710656) : Calls Tryd.prog 17 #[.slice A m c] w fun e w' => ∃ v, e = .returned v ∧ SlR w (sumL xs) v w' := by
  refine calls_cg (n := 7) Tryd.func17 rfl Tryd.ntmps17 (by simp) ?_
  show CG _ _ _ [(0, .slice A m c)] _ _
  have u := Below.refl w.heap.size w
  have hl1 := oi.1
  have h0 := rg.lt
  refine cg_seq ?_
  refine cg_region ?_
  refine lsw (want_none (by rfl)) (y_assign rfl rfl) rfl (by decide) ?_
  refine lg_nil ?_
  refine nx (E' := [(0, _), (2, _)]) (fk rfl (fk rfl fn)) ?_
  refine cg_seq ?_
  refine cg_region ?_
  refine lg_callw (want_none (by rfl)) (new_any _) (by kernel_rfl) rfl rfl rfl (by decide) ?_
  rintro _ w1 ⟨A1, m1, c1, rfl, o1, hw1⟩
  have zw1 := hw1.size
  refine lsw (want_none (by rfl)) (y_move rfl rfl) rfl (by decide) ?_
  have oi := oi.below (hw1.mono (by omega))
  have rg := RowAt.below hw1 rg.lt rg
  refine lg_callw (want_none (by rfl)) (write_any S.new _ _ _ _ _ _ xs _ rg (o1.more (by omega)) (oi.more (by omega)) hnc hm2) (by kernel_rfl) rfl rfl rfl (by decide) ?_
  rintro _ w2 ⟨A2, m2, c2, rfl, o2, hw2⟩
  have zw2 := hw2.size
  have rg := RowAt.below hw2 rg.lt rg
  refine lg_callw (want_none (by rfl)) (done_any (S.new.wr xs) _ _ _ _ rg (o2.more (by omega))) (by kernel_rfl) rfl rfl rfl (by decide) ?_
  rintro _ w3 ⟨A3, m3, c3, rfl, hc3, o3, hw3⟩
  have zw3 := hw3.size
  refine lsw (want_none (by rfl)) (y_assign rfl rfl) rfl (by decide) ?_
  refine lg_nil ?_
  refine nx (E' := [(2, _)]) (fk rfl fn) ?_
  refine cg_ret ?_
  have u := u.trans (hw1.mono u.size)
  have u := u.trans (hw2.mono u.size)
  have u := u.trans (hw3.mono u.size)
  exact eg_ret_tmp rfl rfl ⟨_, rfl, _, _, _, rfl, hc3, o3.more (by omega), u⟩
end Go.Proofs.YtdenbbfmiadcbaaDoor
