/-
  Contracts of how blocks are handed on and mixed in.
-/
import Derived.Test.YtkcpmpbjjnknhaaGreatDoorShSmall
import Derived.Test.YtkcpmpbjjnknhaaGreatDoorKitV
namespace Go.Proofs.YtkcpmpbjjnknhaaGreatDoor
open Go.ChangeShapes Go.WideShapes Go.ChangeAt Go.RowKit
set_option linter.unusedVariables false
set_option maxRecDepth 20000
/-- What is laid over what was there, and read. -/
theorem putF_blk {F : Nat → BitVec 8} {xs zs : List Int} {t k : Nat} (hk : k ≤ 64) (h1 : rd F k = (xs.drop (64 * t)).take k) (hl : 64 * t + 64 ≤ xs.length) (hz : zs = xs.drop (64 * t + k)) :
    ∀ i, i < 64 → putF F k (zs.take (64 - k)) i = blkS xs t i := by
  intro i hi
  subst hz
  have hlz : ((xs.drop (64 * t + k)).take (64 - k)).length = 64 - k := by rw [List.length_take, List.length_drop]; omega
  unfold putF blkS
  rw [hlz]
  by_cases h : k ≤ i
  · rw [if_pos ⟨h, by omega⟩]
    refine congrArg toB ?_
    simp only [List.getD]
    rw [List.getElem?_take, if_pos (by omega), List.getElem?_drop]
    rw [show 64 * t + k + (i - k) = 64 * t + i by omega]
  · rw [if_neg (by omega)]
    have h2 : (rd F k)[i]? = ((xs.drop (64 * t)).take k)[i]? := by rw [h1]
    rw [List.getElem?_take, if_pos (by omega), List.getElem?_drop] at h2
    have hik : i < k := by omega
    have h3 : (rd F k)[i]? = some (vb (F i)) := by simp [rd, hik]
    rw [h3] at h2
    simp only [List.getD]
    rw [← h2]
    show F i = toB (vb (F i))
    unfold toB
    rw [vb_ofInt]
theorem putF_rd {F : Nat → BitVec 8} {xs : List Int} (hx : ∀ z ∈ xs, 0 ≤ z ∧ z ≤ 255) : rd (putF F 0 xs) xs.length = xs := by
  refine List.ext_getElem? fun i => ?_
  by_cases h : i < xs.length
  · have h1 : (rd (putF F 0 xs) xs.length)[i]? = some (vb (putF F 0 xs i)) := by simp [rd, h]
    rw [h1, List.getElem?_eq_getElem h]
    unfold putF
    rw [if_pos ⟨Nat.zero_le _, by omega⟩, Nat.sub_zero, List.getD, List.getElem?_eq_getElem h]
    show some (vb (toB xs[i])) = _
    rw [vb_toB (hx _ (List.getElem_mem h))]
  · rw [List.getElem?_eq_none (by rw [rd_len]; omega), List.getElem?_eq_none (by omega)]
theorem mixer_any (h : Nat → BitVec 32) (F : Nat → BitVec 8) (bm : Nat) (w : World) {tg tm : TypeId} (rg : RowAt w 0 tg (cW 64 num)) (rm : RowAt w bm tm (cW 8 h)) (h0 : bm ≠ 0) : Calls Tryz.prog 97 #[pv bm 0, .agg (cB 64 F)] w fun e w' => ∃ v, e = .returned v ∧ v = .tuple #[] ∧ RowAt w' bm tm (cW 8 (mixF h F)) ∧ But w w' bm := by
  refine calls_cg (n := 13) Tryz.func97 rfl Tryz.ntmps97 (by simp) ?_
  show CG _ _ _ [(0, pv bm 0), (1, .agg (cB 64 F))] _ _
  have bu : But w w bm := But.refl bm
  have hm := rm.lt
  refine cg_seq ?_
  refine cg_region ?_
  refine lg_boxw (want_none (by rfl)) rfl rfl (hso _) rfl (by decide) fun b1 w1 n1 => ?_
  have r1 := n1.row
  have k1 := n1.blk
  have z1 := n1.size
  refine lg_nil ?_
  refine nx (zk2 0 3 rfl rfl fn) ?_
  refine cg_heldS (fun q => RowAt q b1 138 (cB 64 F)) (by kernel_rfl) (fun W2 eW2 => RowAt.below (below_drew _ _ eW2) r1.lt r1) fun W2 eW2 => ?_
  have dW2 := below_drew _ _ eW2
  have zW2 := size_drew _ _ eW2
  clear eW2
  have r1 := RowAt.below dW2 r1.lt r1
  refine hgs_take 0 (by rfl) (want_none (by rfl)) (by rfl) rfl (by decide) (by kernel_rfl) (by kernel_rfl) (by kernel_rfl) (fun _ _ _ h => h) r1 (fun q hq => y_move rfl rfl) ?_
  refine hgs_take 1 (by rfl) (want_none (by rfl)) (by rfl) rfl (by decide) (by kernel_rfl) (by kernel_rfl) (by kernel_rfl) (fun _ _ _ h => h) r1 (fun q hq => y_move rfl rfl) ?_
  refine hgs_takev 2 (by rfl) (want_none (by rfl)) rfl (by decide) (by kernel_rfl) (by kernel_rfl) (by kernel_rfl) (fun _ _ _ h => h) r1 (v_nilc rfl rfl) ?_
  refine hgs_take 3 (by rfl) (want_none (by rfl)) (by rfl) rfl (by decide) (by kernel_rfl) (by kernel_rfl) (by kernel_rfl) (fun _ _ _ h => h) r1 (fun q hq => y_fld (off := 0) (by kernel_rfl) rfl rfl) ?_
  refine hgs_take 5 (by rfl) (want_none (by rfl)) (by rfl) rfl (by decide) (by kernel_rfl) (by kernel_rfl) (by kernel_rfl) (fun _ _ _ h => h) r1 (fun q hq => y_part hq (m := 64) (cB64_part _) (by rw [cB_size]; omega) (by kernel_rfl) (by kernel_rfl) rfl rfl) ?_
  refine hgs_one 4 (by rfl) (by kernel_rfl) (want_none (by rfl)) ?_
  have rm := n1.keep rm
  have rm := RowAt.below dW2 rm.lt rm
  refine za rfl (y_part rm (m := 8) (cW8_part _) (by rw [cW_size]; omega) (by kernel_rfl) (by kernel_rfl) rfl rfl) rfl rfl ?_
  refine hgs_next r1 ?_
  refine hgs_one 6 (by rfl) (by kernel_rfl) (want_none (by rfl)) ?_
  have rg := n1.keep rg
  have rg := RowAt.below dW2 rg.lt rg
  refine lg_callw (want_none (by rfl)) (mix_any _ _ _ rg) (by kernel_rfl) rfl rfl rfl (by decide) ?_
  rintro _ w3 ⟨rfl, hw3⟩
  have zw3 := hw3.size
  have r1 := RowAt.below hw3 r1.lt r1
  refine hgs_next r1 ?_
  refine hgs_takev 7 (by rfl) (want_none (by rfl)) rfl (by decide) (by kernel_rfl) (by kernel_rfl) (by kernel_rfl) (fun _ _ _ h => h) r1 (v_nilc rfl rfl) ?_
  refine hgs_take 8 (by rfl) (want_none (by rfl)) (by rfl) rfl (by decide) (by kernel_rfl) (by kernel_rfl) (by kernel_rfl) (fun _ _ _ h => h) r1 (fun q hq => y_fld (off := 0) (by kernel_rfl) rfl rfl) ?_
  refine hgs_one 9 (by rfl) (by kernel_rfl) (want_none (by rfl)) ?_
  have rm := RowAt.below hw3 rm.lt rm
  have qw4 := rm
  refine lg_stw (want_none (by rfl)) rm rfl rfl rfl (hs8 _) (cW_one _ _) (by rw [cW_size, cW_size]) rfl fun w4 sw4 => ?_
  have rm := sw4.row
  have zw4 := sw4.size
  have r1 := sw4.keep r1 (by omega)
  refine hgs_next r1 ?_
  refine hgs_done (by kernel_rfl) ?_
  have bu := bu.grow n1.below
  have bu := bu.grow dW2
  have bu := bu.grow hw3
  have bu := bu.set sw4 (by omega)
  exact eg_end_none rfl ⟨_, rfl, rfl, rm, bu⟩
theorem concat_sl {A1 A2 : Option Addr} {n1 n2 c1 c2 B b : Nat} {x1 x2 : List Int} (B' : Nat) (w : World) (h1 : Oct w B A1 n1 x1) (h2 : Oct w B' A2 n2 x2) {tr : TypeId} (r : RowAt w b tr #[.slice A1 n1 c1, .slice A2 n2 c2]) (hB : B ≤ w.heap.size ∧ B' ≤ w.heap.size) (hn : n1 + n2 ≤ 70368744177664) :
    Calls Tryz.prog 90 #[.slice (some ⟨b, 0, none⟩) 2 2] w fun e w' => ∃ v, e = .returned v ∧ SlR w (x1 ++ x2) v w' := by
  refine (concat_two b n1 n2 c1 c2 w.heap.size A1 A2 x1 x2 w (h1.more hB.1) (h2.more hB.2) (Nat.le_refl _) r.lt ?_ ?_ hn).mono ?_
  · rw [cell_of_row w b 0 _ tr _ r]; rfl
  · rw [cell_of_row w b 1 _ tr _ r]; rfl
  · rintro e w' ⟨v, rfl, ho, hb, hs⟩
    have hy : ∀ y ∈ x1 ++ x2, 0 ≤ y ∧ y ≤ 255 := by
      intro y hy
      rcases List.mem_append.1 hy with h | h
      · exact h1.2.1 y h
      · exact h2.2.1 y h
    obtain ⟨A, c, rfl, h3, _, hO⟩ := own_sl ho hy
    exact ⟨_, rfl, A, _, c, rfl, h3, hO, hb⟩
theorem cut_any (h : Nat → BitVec 32) (A A2 : Option Addr) (m c m2 c2 bm : Nat) (xs ys : List Int) (w : World) {tg tm : TypeId} (rg : RowAt w 0 tg (cW 64 num)) (rm : RowAt w bm tm (cW 8 h)) (h0 : bm ≠ 0)
    (o1 : Oct w w.heap.size A m xs) (o2 : Oct w w.heap.size A2 m2 ys) (h64 : m < 64) (hnc : m2 ≤ c2) :
    Calls Tryz.prog 96 #[.slice A m c, .slice A2 m2 c2, .func (.func 97) #[pv bm 0] #[]] w fun e w' => ∃ v, e = .returned v ∧ ∃ A' m' c', v = .slice A' m' c' ∧ Oct w' w'.heap.size A' m' (rest (xs ++ ys)) ∧ RowAt w' bm tm (cW 8 (hOf h (xs ++ ys))) ∧ But w w' bm := by
  refine calls_cg (n := 31) Tryz.func96 rfl Tryz.ntmps96 (by simp) ?_
  show CG _ _ _ [(0, .slice A m c), (1, .slice A2 m2 c2), (2, .func (.func 97) #[pv bm 0] #[])] _ _
  have bu : But w w bm := But.refl bm
  have hm := rm.lt
  have hl1 := o1.1
  have hl2 := o2.1
  have hall : (xs ++ ys).length = m + m2 := by rw [List.length_append, hl1, hl2]
  refine cg_seq ?_
  refine cg_region ?_
  refine zA rfl rfl rfl rfl rfl ?_
  refine lg_nil ?_
  refine nx (zk3 0 1 2 rfl rfl rfl (zk1 6 rfl fn)) ?_
  refine cg_seq ?_
  refine cg_region ?_
  refine lg_allocw (want_none (by rfl)) rfl hzo rfl (by decide) fun b1 w1 n1 => ?_
  have r1 := n1.row
  have k1 := n1.blk
  have z1 := n1.size
  refine lg_nil ?_
  refine nx (zk5 0 1 2 6 7 rfl rfl rfl rfl rfl fn) ?_
  refine cg_seq ?_
  refine cg_region ?_
  refine za rfl (y_arr_all (N := 64) (by kernel_rfl) hsb (by decide) rfl rfl) rfl rfl ?_
  refine zM rfl rfl rfl rfl rfl ?_
  have o1 := o1.below (n1.below.mono (by omega))
  refine lg_copy r1 o1 (by omega) (want_none (by rfl)) rfl rfl rfl rfl (by decide) fun w2 sw2 => ?_
  have r1 := sw2.row
  have zw2 := sw2.size
  refine za rfl (yv (show iv (min m 64) = iv m by rw [show min m 64 = m by omega]) (y_assign rfl rfl)) rfl rfl ?_
  refine lg_nil ?_
  refine nx (zk5 1 2 6 7 8 rfl rfl rfl rfl rfl fn) ?_
  refine cg_seq ?_
  refine cg_block ?_
  have rm := n1.keep rm
  have rm := sw2.keep rm (by omega)
  have o2 := o2.below (n1.below.mono (by omega))
  have o2 := o2.below (sw2.below _ (by omega))
  have bu := bu.grow n1.below
  have bu := bu.set sw2 (by omega)
  have rg := n1.keep rg
  have rg := sw2.keep rg (by omega)
  have rms : RowAt w2 bm tm (cW 8 (fold h (xs ++ ys) 0)) := rm
  have o2s : Oct w2 w.heap.size A2 m2 ((xs ++ ys).drop (64 * 0 + m)) := by rw [show 64 * 0 + m = xs.length by omega, List.drop_left]; exact o2
  have emin : min m 64 = m := by omega
  have etk : xs.take 64 = xs := List.take_of_length_le (by omega)
  rw [etk] at r1
  have hFs : rd (putF (fun _ => 0) 0 xs) m = ((xs ++ ys).drop (64 * 0)).take m := by rw [Nat.mul_zero, List.drop_zero, ← hl1, putF_rd o1.2.1, List.take_left]
  refine cg_loopE (fun t a v => ∃ (F : Nat → BitVec 8) (k : Nat) (A3 : Option Addr) (m3 : Nat) (c3 : Nat), Holds 31 [(7, pv b1 0), (1, .slice A3 m3 c3), (8, iv k), (2, .func (.func 97) #[pv bm 0] #[])] a ∧ RowAt v 0 tg (cW 64 num) ∧ RowAt v bm tm (cW 8 (fold h (xs ++ ys) t)) ∧ RowAt v b1 138 (cB 64 F) ∧ Oct v w.heap.size A3 m3 ((xs ++ ys).drop (64 * t + k)) ∧ k ≤ 63 ∧ m3 ≤ c3 ∧ 64 * t + k + m3 = m + m2 ∧ rd F k = ((xs ++ ys).drop (64 * t)).take k ∧ But w v bm) ((m + m2) / 64) (fun a ha => ⟨_, m, _, _, _, ha.keep (fk rfl (fk rfl (fk rfl (fk rfl fn)))), rg, rms, r1, o2s, by omega, hnc, by omega, hFs, bu⟩) ?_
  rintro t a v ht ⟨F, k, A3, m3, c3, ha, rg, rm, r1, o3, hk, hc3, hs, hF, bu⟩
  refine cg_at ha ?_
  clear ha a
  have zv := bu.size
  refine cg_seq ?_
  refine cg_seq ?_
  refine cg_region ?_
  refine zM rfl rfl rfl rfl rfl ?_
  refine za rfl (y_len (el := 5) (by kernel_rfl) rfl rfl) rfl rfl ?_
  refine zM rfl rfl rfl rfl rfl ?_
  refine za rfl (yi_sub rfl rfl rfl (by omega) (by omega)) rfl rfl ?_
  refine za rfl (yi_geq rfl rfl rfl) rfl rfl ?_
  refine lg_nil ?_
  refine nx (zk5 7 1 8 2 12 rfl rfl rfl rfl rfl (zk3 13 14 15 rfl rfl rfl (zk1 16 rfl fn))) ?_
  refine cg_if rfl (fun hc16 => ?_) (fun hc16 => ?_)
  · have hle : 64 - k ≤ m3 := by omega
    refine cg_skip ?_
    refine nx (zk5 7 1 8 2 12 rfl rfl rfl rfl rfl (zk3 13 14 15 rfl rfl rfl (zk1 16 rfl fn))) ?_
    refine cg_block ?_
    refine cg_seq ?_
    refine cg_region ?_
    refine zM rfl rfl rfl rfl rfl ?_
    refine zM rfl rfl rfl rfl rfl ?_
    refine za rfl (y_arr_l (N := 64) k (by rfl) (by kernel_rfl) hsb (by omega) rfl rfl rfl) rfl rfl ?_
    refine zM rfl rfl rfl rfl rfl ?_
    refine lg_copy r1 o3 (by omega) (want_none (by rfl)) rfl rfl rfl rfl (by decide) fun w3 sw3 => ?_
    have r1 := sw3.row
    have zw3 := sw3.size
    refine za rfl (y_cut_l (64 - k) (by omega) hle rfl rfl rfl) rfl rfl ?_
    refine zA rfl rfl rfl rfl rfl ?_
    refine lg_nil ?_
    refine nx (zk5 7 8 2 12 13 rfl rfl rfl rfl rfl (zk5 14 15 16 17 18 rfl rfl rfl rfl rfl (zk5 19 20 21 22 1 rfl rfl rfl rfl rfl fn))) ?_
    refine cg_seq ?_
    refine cg_region ?_
    refine zM rfl rfl rfl rfl rfl ?_
    refine za rfl (yv (show (Value.agg (cB 64 (putF F k (((xs ++ ys).drop (64 * t + k)).take (64 - k))))) = .agg (cB 64 (blkS (xs ++ ys) t)) by rw [cB_ext (putF_blk (by omega) hF (by omega) rfl)]) (y_part r1 (m := 64) (cB64_part _) (by rw [cB_size]; omega) (by kernel_rfl) (by kernel_rfl) rfl rfl)) rfl rfl ?_
    have rm := sw3.keep rm (by omega)
    have rg := sw3.keep rg (by omega)
    have qm := rm
    refine lg_callv (want_none (by rfl)) (f := 97) (fs := [pv bm 0]) (us := []) (vs := [.agg (cB 64 (blkS (xs ++ ys) t))]) (mixer_any _ _ _ _ rg rm h0) (by kernel_rfl) rfl rfl rfl rfl (by decide) ?_
    rintro _ w4 ⟨rfl, rm, hw4⟩
    have zw4 := hw4.size
    refine lg_nil ?_
    refine nx (zk5 7 8 2 12 13 rfl rfl rfl rfl rfl (zk5 14 15 16 17 18 rfl rfl rfl rfl rfl (zk5 19 20 21 22 1 rfl rfl rfl rfl rfl (zk2 23 24 rfl rfl fn)))) ?_
    refine cg_region ?_
    refine zA rfl rfl rfl rfl rfl ?_
    refine lg_nil ?_
    refine eg_block_norm ?_
    have o3 := o3.below (sw3.below _ (by omega))
    have o3 := o3.but2 qm cW_no (by omega) hw4
    have o3 := o3.cutA (64 - k) c3 hc3 hle
    rw [List.drop_drop, show 64 * t + k + (64 - k) = 64 * (t + 1) + 0 by omega] at o3
    have rg := hw4.keep rg (by omega)
    have r1 := hw4.keep r1 (by omega)
    have bu := bu.set sw3 (by omega)
    have bu := bu.but hw4
    exact fun a ha => (show t < ((m + m2) / 64) ∧ _ from ⟨(by omega), _, 0, _, _, _, ha.keep (fk rfl (fk rfl (fk rfl (fk rfl fn)))), rg, (show RowAt _ _ _ (cW 8 (fold h (xs ++ ys) (t + 1))) from rm), r1, o3, by omega, by omega, by omega, by simp [rd], bu⟩)
  · have hN : (m + m2) / 64 = t := by omega
    have of := oct_row r1 (k := k) (by omega)
    have hb1 := r1.lt
    refine cg_exit ?_
    refine eg_seq_exit ?_
    refine eg_seq_exit ?_
    refine eg_block_exit ?_
    refine nx (zk3 7 1 8 rfl rfl rfl fn) ?_
    refine cg_seq ?_
    refine cg_region ?_
    refine zM rfl rfl rfl rfl rfl ?_
    refine za rfl (y_arr_h (N := 64) k (by rfl) (by kernel_rfl) hsb (by decide) (by omega) rfl rfl rfl) rfl rfl ?_
    refine zM rfl rfl rfl rfl rfl ?_
    refine lg_bslice (el := 26) (by kernel_rfl) (z := .slice none 0 0) (by kernel_rfl) (by decide) (by decide) rfl rfl (cs := #[.slice (some ⟨b1, 0, none⟩) k 64, .slice A3 m3 c3]) (by kernel_rfl) rfl rfl (by decide) fun b5 w5 n5 => ?_
    have r5 := n5.row
    have k5 := n5.blk
    have z5 := n5.size
    have of := of.below (n5.below.mono (by omega))
    have o3 := o3.below (n5.below.mono (by omega))
    refine lg_callw (want_none (by rfl)) (concat_sl _ _ of o3 r5 (by omega) (by omega)) (by kernel_rfl) rfl rfl rfl (by decide) ?_
    rintro _ w6 ⟨A6, m6, c6, rfl, hc6, o6, hw6⟩
    have zw6 := hw6.size
    refine zA rfl rfl rfl rfl rfl ?_
    refine lg_nil ?_
    refine nx (zk1 6 rfl fn) ?_
    refine cg_ret ?_
    have rm := n5.keep rm
    have rm := RowAt.below hw6 rm.lt rm
    have bu := bu.grow n5.below
    have bu := bu.grow hw6
    have er : rd F k ++ (xs ++ ys).drop (64 * t + k) = rest (xs ++ ys) := by
      unfold rest
      rw [hall, hN, hF, ← List.drop_drop, List.take_append_drop]
    have eh : fold h (xs ++ ys) t = hOf h (xs ++ ys) := by unfold hOf; rw [hall, hN]
    rw [er] at o6
    rw [eh] at rm
    exact eg_ret_tmp rfl rfl ⟨_, rfl, _, _, _, rfl, o6.more (by omega), rm, bu⟩
end Go.Proofs.YtkcpmpbjjnknhaaGreatDoor
