/-
  Contracts of the sum's exported functions.
-/
import Derived.Test.YtkcpmpbjjnknhaaGreatDoorShCut
namespace Go.Proofs.YtkcpmpbjjnknhaaGreatDoor
open Go.ChangeShapes Go.WideShapes Go.ChangeAt Go.RowKit
set_option linter.unusedVariables false
set_option maxRecDepth 20000
theorem write_any (s : S) (A A2 : Option Addr) (m c m2 c2 : Nat) (ys : List Int) (w : World) {tg : TypeId} (rg : RowAt w 0 tg (cW 64 num)) (o1 : Oct w w.heap.size A m s.b) (o2 : Oct w w.heap.size A2 m2 ys) (hnc : m2 ≤ c2) (hm2 : m2 ≤ 281474976710656) : Calls Tryz.prog 59 #[.agg (cS s.h (.slice A m c) s.n), .slice A2 m2 c2] w fun e w' => ∃ v, e = .returned v ∧ StR w (s.wr ys) v w' := by
  refine calls_cg (n := 33) Tryz.func59 rfl Tryz.ntmps59 (by simp) ?_
  show CG _ _ _ [(0, .agg (cS s.h (.slice A m c) s.n)), (1, .slice A2 m2 c2)] _ _
  have u := Below.refl w.heap.size w
  have hl1 := o1.1
  have hl2 := o2.1
  have hb := s.as_b
  have hn := s.as_n
  have h0 := rg.lt
  refine cg_seq ?_
  refine cg_region ?_
  refine lg_boxw (want_none (by rfl)) rfl rfl (hsS _ _ _) rfl (by decide) fun b1 w1 n1 => ?_
  have r1 := n1.row
  have k1 := n1.blk
  have z1 := n1.size
  refine lg_allocw (want_none (by rfl)) rfl hzS rfl (by decide) fun b2 w2 n2 => ?_
  have r2 := n2.row
  have k2 := n2.blk
  have z2 := n2.size
  refine lg_nil ?_
  refine nx (zk3 1 2 4 rfl rfl rfl fn) ?_
  refine cg_seq ?_
  refine cg_region ?_
  have r1 := n2.keep r1
  refine za rfl (y_part r1 (m := 10) (cS_all _ _ _) (by show _ ≤ 10; omega) (by kernel_rfl) (by kernel_rfl) rfl rfl) rfl rfl ?_
  have o1 := o1.below (n1.below.mono (by omega))
  have o1 := o1.below (n2.below.mono (by omega))
  refine lg_callw (want_none (by rfl)) (sound_any s _ _ _ _ (o1.more (by omega))) (by kernel_rfl) rfl rfl rfl (by decide) ?_
  rintro _ w3 ⟨A3, m3, c3, rfl, o3, hw3⟩
  have zw3 := hw3.size
  have r1 := RowAt.below hw3 r1.lt r1
  have qw4 := r1
  refine lg_stw (want_none (by rfl)) r1 rfl rfl rfl (hsS _ _ _) (cS_one _ _ _ _ _) rfl rfl fun w4 sw4 => ?_
  have r1 := sw4.row
  have zw4 := sw4.size
  refine lg_nil ?_
  refine nx (zk3 1 2 4 rfl rfl rfl fn) ?_
  refine cg_seq ?_
  refine cg_seq ?_
  refine cg_region ?_
  refine za rfl (y_fld (off := 9) (by kernel_rfl) rfl rfl) rfl rfl ?_
  refine za rfl (y_cellv r1 (cS_9 _ _ _) (by kernel_rfl) rfl rfl) rfl rfl ?_
  refine zM rfl rfl rfl rfl rfl ?_
  refine za rfl (y_len (el := 5) (by kernel_rfl) rfl rfl) rfl rfl ?_
  refine za rfl (yi_add rfl rfl rfl (by omega) (by omega)) rfl rfl ?_
  refine za rfl (yi_gtr rfl rfl rfl) rfl rfl ?_
  refine lg_nil ?_
  refine nx (zk3 1 2 4 rfl rfl rfl (zk1 14 rfl fn)) ?_
  refine cg_if rfl (fun hc14 => ?_) (fun hc14 => ?_)
  · have ew : s.wr ys = S.new := if_pos (by omega)
    refine cg_seq ?_
    refine cg_region ?_
    refine lg_callw (want_none (by rfl)) (new_any _) (by kernel_rfl) rfl rfl rfl (by decide) ?_
    rintro _ w5 ⟨A5, m5, c5, rfl, o5, hw5⟩
    have zw5 := hw5.size
    have r2 := RowAt.below hw3 r2.lt r2
    have r2 := sw4.keep r2 (by omega)
    have r2 := RowAt.below hw5 r2.lt r2
    have qw6 := r2
    refine lg_stw (want_none (by rfl)) r2 rfl rfl rfl (hsS _ _ _) (cS_one _ _ _ _ _) rfl rfl fun w6 sw6 => ?_
    have r2 := sw6.row
    have zw6 := sw6.size
    refine lg_nil ?_
    refine nx (zk3 1 2 4 rfl rfl rfl fn) ?_
    refine cg_ret ?_
    refine eg_seq_ret ?_
    have u := u.trans (n1.below.mono u.size)
    have u := u.trans (n2.below.mono u.size)
    have u := u.trans (hw3.mono u.size)
    have u := u.trans (sw4.below _ (by omega))
    have u := u.trans (hw5.mono u.size)
    have u := u.trans (sw6.below _ (by omega))
    have o5 := o5.set qw6 cS_no sw6
    exact eg_ret_agg rfl rfl r2 (by kernel_rfl) (hsS _ _ _) ⟨_, rfl, (by rw [ew]; exact ⟨_, _, _, (by first | rfl | rw [hl2]), o5.more (by omega), u⟩)⟩
  · have ew : s.wr ys = ⟨hOf s.as.h (s.as.b ++ ys), rest (s.as.b ++ ys), s.as.n + ys.length⟩ := if_neg (by omega)
    refine cg_skip ?_
    refine nx (zk3 1 2 4 rfl rfl rfl fn) ?_
    refine cg_seq ?_
    refine cg_region ?_
    refine za rfl (y_fld (off := 0) (by kernel_rfl) rfl rfl) rfl rfl ?_
    refine za rfl (y_part r1 (m := 8) (cS_part _ _ _) (by show _ ≤ 10; omega) (by kernel_rfl) (by kernel_rfl) rfl rfl) rfl rfl ?_
    refine za rfl (y_build rfl rfl (bM _)) rfl rfl ?_
    refine lg_allocw (want_none (by rfl)) rfl hzM rfl (by decide) fun b7 w7 n7 => ?_
    have r7 := n7.row
    have k7 := n7.blk
    have z7 := n7.size
    have qw8 := r7
    refine lg_stw (want_none (by rfl)) r7 rfl rfl rfl (hsM _) (cW_one _ _) (by rw [cW_size, cW_size]) rfl fun w8 sw8 => ?_
    have r7 := sw8.row
    have zw8 := sw8.size
    refine lg_nil ?_
    refine nx (zk3 1 2 4 rfl rfl rfl (zk1 5 rfl fn)) ?_
    refine cg_seq ?_
    refine cg_region ?_
    refine za rfl (y_fld (off := 8) (by kernel_rfl) rfl rfl) rfl rfl ?_
    have r1 := n7.keep r1
    have r1 := sw8.keep r1 (by omega)
    refine za rfl (y_cellv r1 (cS_8 _ _ _) (by kernel_rfl) rfl rfl) rfl rfl ?_
    refine zM rfl rfl rfl rfl rfl ?_
    refine za rfl (y_mkf (xs := [.tmp 5]) (ys := []) rfl rfl rfl) rfl rfl ?_
    have o3 := o3.set qw4 cS_no sw4
    have o3 := o3.below (n7.below.mono (by omega))
    have o3 := o3.set qw8 cW_no sw8
    have o2 := o2.below (n1.below.mono (by omega))
    have o2 := o2.below (n2.below.mono (by omega))
    have o2 := o2.below (hw3.mono (by omega))
    have o2 := o2.set qw4 cS_no sw4
    have o2 := o2.below (n7.below.mono (by omega))
    have o2 := o2.set qw8 cW_no sw8
    have rg := n1.keep rg
    have rg := n2.keep rg
    have rg := RowAt.below hw3 rg.lt rg
    have rg := sw4.keep rg (by omega)
    have rg := n7.keep rg
    have rg := sw8.keep rg (by omega)
    have qm := r7
    refine lg_callw (want_none (by rfl)) (cut_any _ _ _ _ _ _ _ _ _ _ _ rg r7 (by omega) (o3.more (by omega)) (o2.more (by omega)) (by have := o3.1; omega) hnc) (by kernel_rfl) rfl rfl rfl (by decide) ?_
    rintro _ w9 ⟨A9, m9, c9, rfl, o9, r7, hw9⟩
    have zw9 := hw9.size
    refine zA rfl rfl rfl rfl rfl ?_
    refine lg_nil ?_
    refine nx (zk5 1 2 4 5 6 rfl rfl rfl rfl rfl fn) ?_
    refine cg_seq ?_
    refine cg_region ?_
    refine za rfl (y_fld (off := 0) (by kernel_rfl) rfl rfl) rfl rfl ?_
    refine za rfl (y_part r7 (m := 8) (cW8_part _) (by rw [cW_size]; omega) (by kernel_rfl) (by kernel_rfl) rfl rfl) rfl rfl ?_
    refine zM rfl rfl rfl rfl rfl ?_
    refine za rfl (y_fld (off := 9) (by kernel_rfl) rfl rfl) rfl rfl ?_
    have r1 := hw9.keep r1 (by omega)
    refine za rfl (y_cellv r1 (cS_9 _ _ _) (by kernel_rfl) rfl rfl) rfl rfl ?_
    refine zM rfl rfl rfl rfl rfl ?_
    refine za rfl (y_len (el := 5) (by kernel_rfl) rfl rfl) rfl rfl ?_
    refine za rfl (yi_add rfl rfl rfl (by omega) (by omega)) rfl rfl ?_
    refine za rfl (y_build rfl rfl (bS3 _ () _)) rfl rfl ?_
    have r2 := RowAt.below hw3 r2.lt r2
    have r2 := sw4.keep r2 (by omega)
    have r2 := n7.keep r2
    have r2 := sw8.keep r2 (by omega)
    have r2 := hw9.keep r2 (by omega)
    have qw10 := r2
    refine lg_stw (want_none (by rfl)) r2 rfl rfl rfl (hsS _ _ _) (cS_one _ _ _ _ _) rfl rfl fun w10 sw10 => ?_
    have r2 := sw10.row
    have zw10 := sw10.size
    refine lg_nil ?_
    refine nx (zk1 4 rfl fn) ?_
    refine cg_ret ?_
    have u := u.trans (n1.below.mono u.size)
    have u := u.trans (n2.below.mono u.size)
    have u := u.trans (hw3.mono u.size)
    have u := u.trans (sw4.below _ (by omega))
    have u := u.trans (n7.below.mono u.size)
    have u := u.trans (sw8.below _ (by omega))
    have u := u.trans (hw9.below _ (by omega) (by omega))
    have u := u.trans (sw10.below _ (by omega))
    have o9 := o9.set qw10 cS_no sw10
    exact eg_ret_agg rfl rfl r2 (by kernel_rfl) (hsS _ _ _) ⟨_, rfl, (by rw [ew]; exact ⟨_, _, _, (by first | rfl | rw [hl2]), o9.more (by omega), u⟩)⟩
theorem be4_rng (x : BitVec 32) : ∀ z ∈ be4 x, 0 ≤ z ∧ z ≤ 255 := by
  intro z hz
  simp only [be4, List.mem_cons, List.not_mem_nil, or_false] at hz
  rcases hz with rfl | rfl | rfl | rfl <;> exact vb_range _
theorem outF_len (h : Nat → BitVec 32) : ∀ i, (outF h i).length = 4 * i
  | 0 => rfl
  | i + 1 => by
    show (outF h i ++ be4 (h i)).length = _
    rw [List.length_append, outF_len h i]
    show 4 * i + 4 = _
    omega
theorem outF_rng (h : Nat → BitVec 32) : ∀ i, ∀ z ∈ outF h i, 0 ≤ z ∧ z ≤ 255
  | 0 => by intro z hz; cases hz
  | i + 1 => by
    intro z hz
    rcases List.mem_append.1 (show z ∈ outF h i ++ be4 (h i) from hz) with h1 | h1
    · exact outF_rng h i z h1
    · exact be4_rng _ z h1
def padW (n : Int) (k : Nat) : Nat → Nat → BitVec 8
  | 0 => upd (fun _ => 0) (0 + 0) 128#8
  | i + 1 => upd (padW n k i) (0 + (k - 1 - i)) (toB (n * 8 / 2 ^ (8 * (i : Int)).toNat))
theorem padW_at (n : Int) (k : Nat) : ∀ t, t ≤ 8 → 9 ≤ k → ∀ j, j < k → padW n k t j = if j = 0 then 128#8 else if k - 1 - j < t then toB (n * 8 / 2 ^ (8 * (k - 1 - j))) else 0
  | 0, _, hk, j, hj => by
    by_cases e : j = 0
    · subst e; simp [padW, upd]
    · simp [padW, upd, e]
  | t + 1, ht, hk, j, hj => by
    show (if j = 0 + (k - 1 - t) then _ else padW n k t j) = _
    by_cases e : j = 0 + (k - 1 - t)
    · rw [if_pos e, if_neg (by omega), if_pos (by omega), show (8 * (t : Int)).toNat = 8 * (k - 1 - j) by omega]
    · rw [if_neg e, padW_at n k t (by omega) hk j hj]
      by_cases e0 : j = 0
      · simp [e0]
      · rw [if_neg e0, if_neg e0]
        by_cases e1 : k - 1 - j < t
        · rw [if_pos e1, if_pos (by omega)]
        · rw [if_neg e1, if_neg (by omega)]
theorem be8_len (n : Int) : ∀ i, (be8 n i).length = i
  | 0 => rfl
  | i + 1 => by
    show (be8 n i ++ [_]).length = _
    rw [List.length_append, be8_len n i]
    rfl
theorem be8_at (n : Int) : ∀ t i, i < t → (be8 n t)[i]? = some (n / 2 ^ (8 * (7 - i)) % 256)
  | 0, i, h => by omega
  | t + 1, i, h => by
    show (be8 n t ++ [n / 2 ^ (8 * (7 - t)) % 256])[i]? = _
    by_cases e : i < t
    · rw [List.getElem?_append_left (by rw [be8_len]; exact e), be8_at n t i e]
    · have e2 : i = t := by omega
      subst e2
      rw [List.getElem?_append_right (by rw [be8_len]; omega), be8_len, Nat.sub_self]
      rfl
theorem vb_toB_mod (z : Int) : vb (toB z) = z % 256 := by
  unfold vb toB
  rw [BitVec.toNat_ofInt]
  omega
theorem padL_ok {n : Int} (h : 0 ≤ n ∧ n ≤ 1125899906842624) : padL n = 128 :: (List.replicate (zeroN n) 0 ++ be8 (n * 8) 8) := if_pos h
theorem padL_no {n : Int} (h : ¬ (0 ≤ n ∧ n ≤ 1125899906842624)) : padL n = [] := if_neg h
theorem zeroN_lt (n : Int) : zeroN n < 64 := by unfold zeroN; omega
theorem padL_len {n : Int} (h : 0 ≤ n ∧ n ≤ 1125899906842624) : (padL n).length = 9 + zeroN n := by
  rw [padL_ok h, List.length_cons, List.length_append, List.length_replicate, be8_len]
  omega
theorem padL_le (n : Int) : (padL n).length ≤ 72 := by
  by_cases h : 0 ≤ n ∧ n ≤ 1125899906842624
  · have := zeroN_lt n
    rw [padL_len h]
    omega
  · rw [padL_no h]
    exact Nat.zero_le _
theorem padW_end {n : Int} (h : 0 ≤ n ∧ n ≤ 1125899906842624) : rd (padW n (9 + zeroN n) 8) (9 + zeroN n) = padL n := by
  refine List.ext_getElem? fun j => ?_
  by_cases hj : j < 9 + zeroN n
  · have h1 : (rd (padW n (9 + zeroN n) 8) (9 + zeroN n))[j]? = some (vb (padW n (9 + zeroN n) 8 j)) := by simp [rd, hj]
    rw [h1, padW_at n _ 8 (by omega) (by omega) j hj, padL_ok h]
    by_cases e : j = 0
    · subst e
      rfl
    · rw [if_neg e]
      obtain ⟨i, rfl⟩ : ∃ i, j = i + 1 := ⟨j - 1, by omega⟩
      rw [List.getElem?_cons_succ]
      by_cases e1 : i < zeroN n
      · rw [if_neg (by omega), List.getElem?_append_left (by rw [List.length_replicate]; exact e1), List.getElem?_replicate, if_pos e1]
        rfl
      · rw [if_pos (by omega), List.getElem?_append_right (by rw [List.length_replicate]; omega), List.length_replicate, be8_at _ _ _ (by omega), vb_toB_mod]
        rw [show 8 * (9 + zeroN n - 1 - (i + 1)) = 8 * (7 - (i - zeroN n)) by omega]
  · rw [List.getElem?_eq_none (by rw [rd_len]; omega), List.getElem?_eq_none (by rw [padL_len h]; omega)]
theorem padL_rng (n : Int) : ∀ z ∈ padL n, 0 ≤ z ∧ z ≤ 255 := by
  by_cases h : 0 ≤ n ∧ n ≤ 1125899906842624
  · rw [← padW_end h]
    intro z hz
    obtain ⟨i, _, rfl⟩ := List.mem_map.1 hz
    exact vb_range _
  · rw [padL_no h]
    intro z hz
    cases hz
theorem pad_any (n : Int) (w : World) : Calls Tryz.prog 95 #[nv n] w fun e w' => ∃ v, e = .returned v ∧ SlR w (padL n) v w' := by
  by_cases hk : 0 ≤ n ∧ n ≤ 1125899906842624
  · refine calls_cg (n := 41) Tryz.func95 rfl Tryz.ntmps95 (by simp) ?_
    show CG _ _ _ [(0, nv n)] _ _
    have u := Below.refl w.heap.size w
    have hz := zeroN_lt n
    refine cg_seq ?_
    refine cg_region ?_
    refine zA rfl rfl rfl rfl rfl ?_
    refine lg_nil ?_
    refine nx (zk2 0 2 rfl rfl fn) ?_
    refine cg_seq ?_
    refine cg_seq ?_
    refine cg_region ?_
    refine zM rfl rfl rfl rfl rfl ?_
    refine za rfl (yb (decide_eq_true hk) (y_call (counted_any _ _) (by kernel_rfl) rfl rfl)) rfl rfl ?_
    refine za rfl (y_bnot rfl rfl) rfl rfl ?_
    refine lg_nil ?_
    refine nx (zk3 0 2 9 rfl rfl rfl fn) ?_
    refine cg_cf rfl ?_
    refine cg_skip ?_
    refine nx (zk2 0 2 rfl rfl fn) ?_
    refine cg_seq ?_
    refine cg_region ?_
    refine zM rfl rfl rfl rfl rfl ?_
    refine za rfl (yi_add rfl rfl rfl (by omega) (by omega)) rfl rfl ?_
    refine za rfl (yi_add rfl rfl rfl (by omega) (by omega)) rfl rfl ?_
    refine za rfl (yi_rem rfl rfl rfl (by omega) (by omega)) rfl rfl ?_
    refine zA rfl rfl rfl rfl rfl ?_
    refine lg_nil ?_
    refine nx (zk3 0 2 3 rfl rfl rfl fn) ?_
    refine cg_seq ?_
    refine cg_region ?_
    refine zM rfl rfl rfl rfl rfl ?_
    refine za rfl (yi_sub rfl rfl rfl (by omega) (by omega)) rfl rfl ?_
    refine za rfl (yi_rem rfl rfl rfl (by omega) (by omega)) rfl rfl ?_
    refine zA rfl rfl rfl rfl rfl ?_
    refine lg_nil ?_
    refine nx (zk3 0 2 4 rfl rfl rfl fn) ?_
    refine cg_seq ?_
    refine cg_region ?_
    refine zM rfl rfl rfl rfl rfl ?_
    refine za rfl (yi_add rfl rfl rfl (by omega) (by omega)) rfl rfl ?_
    refine za rfl (yi_add rfl rfl rfl (by omega) (by omega)) rfl rfl ?_
    refine lg_mk (9 + zeroN n) (want_none (by rfl)) (by unfold zeroN; omega) (by have := zeroN_lt n; omega) rfl rfl rfl rfl (by decide) fun b1 w1 n1 => ?_
    have r1 := n1.row
    have k1 := n1.blk
    have z1 := n1.size
    refine zA rfl rfl rfl rfl rfl ?_
    refine lg_nil ?_
    refine nx (zk3 0 2 5 rfl rfl rfl fn) ?_
    refine cg_seq ?_
    refine cg_region ?_
    refine zM rfl rfl rfl rfl rfl ?_
    refine za rfl (y_ixo (i := 0) (by rfl) (by omega) rfl rfl rfl) rfl rfl ?_
    refine lg_st1 (want_none (by rfl)) r1 rfl rfl (u := ov 128#8) (by kernel_rfl) (by kernel_rfl) rfl (by rw [cB_size]; omega) cB_set rfl fun w2 sw2 => ?_
    have r1 := sw2.row
    have zw2 := sw2.size
    refine lg_nil ?_
    refine nx (zk3 0 2 5 rfl rfl rfl fn) ?_
    refine cg_seq ?_
    refine cg_seq ?_
    refine cg_region ?_
    refine zM rfl rfl rfl rfl rfl ?_
    refine lg_nil ?_
    refine nx (zk3 0 2 5 rfl rfl rfl (zk1 23 rfl fn)) ?_
    refine cg_block ?_
    have u := u.trans (n1.below.mono u.size)
    have u := u.trans (sw2.below _ (by omega))
    refine cg_loopE (fun i a v => Holds 41 [(0, nv n), (5, .slice (some ⟨b1, 0, none⟩) (9 + zeroN n) (9 + zeroN n)), (23, iv i)] a ∧ RowAt v b1 5 (cB (9 + zeroN n) (padW n (9 + zeroN n) i)) ∧ Below w.heap.size w v) 8 (fun a ha => ⟨ha.keep (fk rfl (fk rfl (fk rfl fn))), r1, u⟩) ?_
    rintro i a v ht ⟨ha, rp, u⟩
    refine cg_at ha ?_
    clear ha a
    have zv := u.size
    refine cg_seq ?_
    refine cg_region ?_
    refine za rfl (yi_lss rfl rfl rfl) rfl rfl ?_
    refine lg_nil ?_
    refine nx (zk3 0 5 23 rfl rfl rfl (zk1 24 rfl fn)) ?_
    refine cg_seq ?_
    refine cg_if rfl (fun hc24 => ?_) (fun hc24 => ?_)
    · refine cg_skip ?_
      refine nx (zk3 0 5 23 rfl rfl rfl (zk1 24 rfl fn)) ?_
      refine cg_seq ?_
      refine cg_block ?_
      refine cg_seq ?_
      refine cg_region ?_
      refine zM rfl rfl rfl rfl rfl ?_
      refine zA rfl rfl rfl rfl rfl ?_
      refine lg_nil ?_
      refine nx (zk5 0 5 23 24 25 rfl rfl rfl rfl rfl (zk1 6 rfl fn)) ?_
      refine cg_region ?_
      refine zM rfl rfl rfl rfl rfl ?_
      refine zM rfl rfl rfl rfl rfl ?_
      refine za rfl (y_len (el := 5) (by kernel_rfl) rfl rfl) rfl rfl ?_
      refine za rfl (yi_sub rfl rfl rfl (by omega) (by omega)) rfl rfl ?_
      refine zM rfl rfl rfl rfl rfl ?_
      refine za rfl (yi_sub rfl rfl rfl (by omega) (by omega)) rfl rfl ?_
      refine zM rfl rfl rfl rfl rfl ?_
      refine za rfl (yi_mul rfl rfl rfl (by omega) (by omega)) rfl rfl ?_
      refine zM rfl rfl rfl rfl rfl ?_
      refine za rfl (yi_mul rfl rfl rfl (by omega) (by omega)) rfl rfl ?_
      refine za rfl (yi_shr rfl rfl rfl (by omega) (by omega)) rfl rfl ?_
      refine za rfl (y_to8 (by kernel_rfl) rfl rfl) rfl rfl ?_
      refine za rfl (y_ixo (i := 9 + zeroN n - 1 - i) (by omega) (by omega) rfl rfl rfl) rfl rfl ?_
      refine lg_st1 (want_none (by rfl)) rp rfl rfl rfl (by kernel_rfl) rfl (by rw [cB_size]; omega) cB_set rfl fun w3 sw3 => ?_
      have rp := sw3.row
      have zw3 := sw3.size
      refine lg_nil ?_
      refine eg_block_norm ?_
      refine nx (zk5 0 5 23 24 25 rfl rfl rfl rfl rfl (zk5 6 26 27 28 29 rfl rfl rfl rfl rfl (zk5 30 31 32 33 34 rfl rfl rfl rfl rfl (zk3 35 36 37 rfl rfl rfl (zk1 38 rfl fn))))) ?_
      refine cg_region ?_
      refine za rfl (yi_add rfl rfl rfl (by omega) (by omega)) rfl rfl ?_
      refine zM rfl rfl rfl rfl rfl ?_
      refine lg_nil ?_
      have u := u.trans (sw3.below _ (by omega))
      exact fun a ha => (show i < 8 ∧ _ from ⟨(by omega), ha.keep (fk rfl (fk rfl (fk rfl fn))), rp, u⟩)
    · obtain rfl : i = 8 := by omega
      refine cg_exit ?_
      refine eg_seq_exit ?_
      refine eg_seq_exit ?_
      refine eg_block_exit ?_
      refine nx (zk1 5 rfl fn) ?_
      refine cg_seq ?_
      refine cg_region ?_
      refine zM rfl rfl rfl rfl rfl ?_
      refine zA rfl rfl rfl rfl rfl ?_
      refine lg_nil ?_
      refine nx (zk1 2 rfl fn) ?_
      refine cg_ret ?_
      have o9 := oct_row rp (Nat.le_refl _)
      rw [padW_end hk] at o9
      exact eg_ret_tmp rfl rfl ⟨_, rfl, _, _, _, rfl, Nat.le_refl _, o9.more (by have := rp.lt; omega), u⟩
  · refine calls_cg (n := 41) Tryz.func95 rfl Tryz.ntmps95 (by simp) ?_
    show CG _ _ _ [(0, nv n)] _ _
    have u := Below.refl w.heap.size w
    refine cg_seq ?_
    refine cg_region ?_
    refine zA rfl rfl rfl rfl rfl ?_
    refine lg_nil ?_
    refine nx (zk2 0 2 rfl rfl fn) ?_
    refine cg_seq ?_
    refine cg_seq ?_
    refine cg_region ?_
    refine zM rfl rfl rfl rfl rfl ?_
    refine za rfl (yb (decide_eq_false hk) (y_call (counted_any _ _) (by kernel_rfl) rfl rfl)) rfl rfl ?_
    refine za rfl (y_bnot rfl rfl) rfl rfl ?_
    refine lg_nil ?_
    refine nx (zk3 0 2 9 rfl rfl rfl fn) ?_
    refine cg_ct rfl ?_
    refine cg_seq ?_
    refine cg_region ?_
    refine zA rfl rfl rfl rfl rfl ?_
    refine lg_nil ?_
    refine nx (zk2 0 2 rfl rfl fn) ?_
    refine cg_ret ?_
    refine eg_seq_ret ?_
    exact eg_ret_tmp rfl rfl ⟨_, rfl, none, 0, 0, rfl, Nat.le_refl _, (by rw [padL_no hk]; exact Oct.nil _ _ _), u⟩
end Go.Proofs.YtkcpmpbjjnknhaaGreatDoor
