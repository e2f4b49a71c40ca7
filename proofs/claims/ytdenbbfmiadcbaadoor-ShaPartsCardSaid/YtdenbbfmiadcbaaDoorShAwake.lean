/-
  The chapter's examples; the walk of the law of what stands behind.
-/
import Derived.Test.YtdenbbfmiadcbaaDoorShRef
import Derived.Test.YtdenbbfmiadcbaaDoorShVal
namespace Go.Proofs.YtdenbbfmiadcbaaDoor
open Go.ChangeShapes Go.WideShapes Go.ChangeAt Go.RowKit
set_option linter.unusedVariables false
set_option maxRecDepth 20000
theorem cell_freeze (w : World) (a p : Addr) (n : Nat) : (w.freeze a n).cell? p = w.cell? p := by
  unfold World.freeze
  split
  · rfl
  · unfold World.cell?
    simp only [Array.getElem?_modify]
    by_cases hp : a.block = p.block
    · rw [if_pos hp]
      cases hq : w.heap[p.block]? with
      | none => rfl
      | some ob => cases ob <;> rfl
    · rw [if_neg hp]
theorem size_freeze (w : World) (a : Addr) (n : Nat) : (w.freeze a n).heap.size = w.heap.size := by
  unfold World.freeze
  split
  · rfl
  · simp
theorem below_freeze (w : World) (b k n : Nat) : Below b w (w.freeze ⟨b, k, none⟩ n) := by
  have hs := size_freeze w ⟨b, k, none⟩ n
  unfold World.freeze at hs ⊢
  split
  · exact Below.refl _ _
  · refine ⟨rfl, rfl, rfl, by simp, fun i hi => ?_⟩
    simp only [Array.getElem?_modify]
    rw [if_neg (by omega)]
/-- A constant string's octets: the row is marked behind its end. -/
theorem lg_convb {ops : Array Oper} {Q : Exit → Act → World → Prop} {n d : Nat} {E : Env} {o : Oper} {rest : List Oper} {w : World} {x : Operand} {b m c B : Nat} {cs : Array Value} {xs : List Int} (hr : RowAt w b 5 cs) (hO : Oct w B (some ⟨b, 0, none⟩) m xs) (hw : Want ops E o true)
    (ho : o.op = .convert 24 24 x) (hx : val E x = some (.slice (some ⟨b, 0, none⟩) m c)) (hd : o.dst = some d) (hn : d < n)
    (h : ∀ w', Below b w w' → w'.heap.size = w.heap.size → Oct w' B (some ⟨b, 0, none⟩) m xs → LG Tryd.prog ops Q n ((d, .slice (some ⟨b, 0, none⟩) m c) :: E) rest w') : LG Tryd.prog ops Q n E (o :: rest) w := by
  refine lg_do hw (w' := w.freeze ⟨b, cs.size, none⟩ 1) (fun n a ha => ?_) hd hn (h _ (below_freeze _ _ _ _) (size_freeze _ _ _) (hO.keep fun p _ => cell_freeze _ _ _ _))
  have hsh : w.shape? b = some (5, cs.size) := by
    unfold World.shape?
    rw [show w.heap[b]? = _ from hr]
  simp [execOp, ho, ha.eval hx, convert, run_underlying huo24, run_underlying hub, markStringish, hsh]
theorem y_8to {E : Env} {o : Oper} {w : World} {x : Operand} {X : BitVec 8} (ho : o.op = .convert 5 3 x) (hx : val E x = some (ov X)) : Yields Tryd.prog E o w (nv (vb X)) := by
  have h := y_conv_u (w := w) hub (show Tryd.prog.underlying 3 = some (.int .i64) by kernel_rfl) ho hx
  have := vb_range X
  rw [wrap_i64 (by omega) (by omega)] at h
  exact h
theorem Oct.cello {w : World} {B b off m i : Nat} {xs : List Int} (h : Oct w B (some ⟨b, off, none⟩) m xs) (hi : i < m) : w.cell? ⟨b, off + i, none⟩ = some (ov (toB (xs.getD i 0))) := by
  have h2 := Oct.cellv (t := 0) (xs := xs) (by rw [Nat.mul_zero, List.drop_zero]; exact h) hi
  rw [h2]
  unfold blk
  rw [Nat.mul_zero, Nat.zero_add]
theorem padL_at {n : Int} (h : 0 ≤ n ∧ n ≤ 1125899906842624) (i : Nat) : (padL n).getD (i + 1) 0 = (List.replicate (zeroN n) 0 ++ be8 (n * 8) 8).getD i 0 := by
  rw [padL_ok h]
  rfl
theorem padL_0 {n : Int} (h : 0 ≤ n ∧ n ≤ 1125899906842624) : (padL n).getD 0 0 = 128 := by
  rw [padL_ok h]
  rfl
theorem padL_z {n : Int} (h : 0 ≤ n ∧ n ≤ 1125899906842624) {t : Nat} (ht : t < zeroN n) : (padL n).getD (1 + t) 0 = 0 := by
  rw [Nat.add_comm, padL_at h]
  simp only [List.getD]
  rw [List.getElem?_append_left (by rw [List.length_replicate]; exact ht), List.getElem?_replicate, if_pos ht]
  rfl
theorem padL_d {n : Int} (h : 0 ≤ n ∧ n ≤ 1125899906842624) {j : Nat} (hj : j < 8) : (padL n).getD (1 + zeroN n + j) 0 = n * 8 / 2 ^ (8 * (7 - j)) % 256 := by
  rw [show 1 + zeroN n + j = (zeroN n + j) + 1 by omega, padL_at h]
  simp only [List.getD]
  rw [List.getElem?_append_right (by rw [List.length_replicate]; omega), List.length_replicate, show zeroN n + j - zeroN n = j by omega, be8_at _ _ _ hj]
  rfl
theorem digit {n : Int} (h : 0 ≤ n ∧ n ≤ 1125899906842624) {j : Nat} (hj : j < 8) :
    0 ≤ n * 8 / 2 ^ (8 * (8 - j)) ∧ n * 8 / 2 ^ (8 * (8 - j)) * 256 ≤ 9007199254740992 ∧ n * 8 / 2 ^ (8 * (8 - j)) * 256 + vb (toB ((padL n).getD (1 + zeroN n + j) 0)) = n * 8 / 2 ^ (8 * (8 - (j + 1))) := by
  rw [padL_d h hj, vb_toB_mod, Int.emod_emod]
  have e : (2 : Int) ^ (8 * (8 - j)) = 2 ^ (8 * (7 - j)) * 256 := by
    rw [show 8 * (8 - j) = 8 * (7 - j) + 8 by omega, Int.pow_add]
    rfl
  have hp : (0 : Int) < 2 ^ (8 * (7 - j)) := Int.pow_pos (by decide)
  have e2 : n * 8 / 2 ^ (8 * (8 - j)) = n * 8 / 2 ^ (8 * (7 - j)) / 256 := by
    rw [e, Int.ediv_ediv_of_nonneg (by omega)]
  have hq : 0 ≤ n * 8 / 2 ^ (8 * (7 - j)) := Int.ediv_nonneg (by omega) (by omega)
  have hq2 : n * 8 / 2 ^ (8 * (7 - j)) ≤ n * 8 := Int.ediv_le_self _ (by omega)
  rw [e2, show 8 - (j + 1) = 7 - j by omega]
  generalize n * 8 / 2 ^ (8 * (7 - j)) = q at *
  omega
theorem awake_any (w : World) {tg : TypeId} (rg : RowAt w 0 tg (cW 64 num)) : Calls Tryd.prog 7 #[] w fun e w' => ∃ v, e = .returned v ∧ v = .bool true ∧ Below w.heap.size w w' := by
  refine calls_cg (n := 32) Tryd.func7 rfl Tryd.ntmps7 (by simp) ?_
  show CG _ _ _ [] _ _
  have u := Below.refl w.heap.size w
  have h0 := rg.lt
  refine cg_seq ?_
  refine cg_region ?_
  refine lsw (want_none (by rfl)) (y_assign rfl rfl) rfl (by decide) ?_
  refine lg_nil ?_
  refine nx (E' := [(0, _)]) (fk rfl fn) ?_
  refine cg_seq ?_
  refine cg_region ?_
  refine lg_callw (want_none (by rfl)) (sum_any none 0 0 [] _ rg (Oct.nil _ _ _) (Nat.le_refl _) (by decide)) (by kernel_rfl) rfl rfl rfl (by decide) ?_
  rintro _ w1 ⟨A1, m1, c1, rfl, hc1, o1, hw1⟩
  have zw1 := hw1.size
  refine lsw (want_none (by rfl)) (y_assign rfl rfl) rfl (by decide) ?_
  refine lg_nil ?_
  refine nx (E' := [(0, _), (1, _)]) (fk rfl (fk rfl fn)) ?_
  refine cg_seq ?_
  refine cg_region ?_
  refine lg_bslice (el := 5) (by kernel_rfl) (z := .int .u8 0) (by kernel_rfl) (by decide) (by decide) rfl rfl (cs := #[ov 97#8, ov 98#8, ov 99#8]) (by kernel_rfl) rfl rfl (by decide) fun b2 w2 n2 => ?_
  have r2 := n2.row
  have k2 := n2.blk
  have z2 := n2.size
  have o2 := oct_lit r2 (xs := [97, 98, 99]) rfl (by intro z hz; simp at hz; omega)
  refine lg_convb r2 o2 (want_none (by rfl)) rfl rfl rfl (by decide) fun w3 hw3 zw3 o2 => ?_
  have rg := RowAt.below hw1 rg.lt rg
  have rg := n2.keep rg
  have rg := RowAt.below hw3 (by omega) rg
  refine lg_callw (want_none (by rfl)) (sum_any _ _ _ _ _ rg (o2.more (by omega)) (Nat.le_refl _) (by decide)) (by kernel_rfl) rfl rfl rfl (by decide) ?_
  rintro _ w4 ⟨A4, m4, c4, rfl, hc4, o4, hw4⟩
  have zw4 := hw4.size
  refine lsw (want_none (by rfl)) (y_assign rfl rfl) rfl (by decide) ?_
  refine lg_nil ?_
  refine nx (E' := [(0, _), (1, _), (2, _)]) (fk rfl (fk rfl (fk rfl fn))) ?_
  refine cg_seq ?_
  have o1 := o1.below (n2.below.mono (by omega))
  have o1 := o1.below (hw3.mono (by omega))
  have o1 := o1.below (hw4.mono (by omega))
  have lo1 := o1.1
  rw [sumL_len] at lo1
  have to1 := o1.upto 4 (by omega)
  have lo4 := o4.1
  rw [sumL_len] at lo4
  have to4 := o4.upto 4 (by omega)
  refine cg_region ?_
  refine lsw (want_none (by rfl)) (y_move rfl rfl) rfl (by decide) ?_
  refine lsw (want_none (by rfl)) (y_len (el := 5) (by kernel_rfl) rfl rfl) rfl (by decide) ?_
  refine lsw (want_none (by rfl)) (yb (decide_eq_true (by omega)) (yi_eql rfl rfl rfl)) rfl (by decide) ?_
  refine lsw (want_none (by rfl)) (y_move rfl rfl) rfl (by decide) ?_
  refine lsw (want_t (dj := 10) (by rfl) (by kernel_rfl) rfl) (y_move rfl rfl) rfl (by decide) ?_
  refine lsw (want_t (dj := 10) (by rfl) (by kernel_rfl) rfl) (y_len (el := 5) (by kernel_rfl) rfl rfl) rfl (by decide) ?_
  refine lsw (want_t (dj := 10) (by rfl) (by kernel_rfl) rfl) (yb (decide_eq_true (by omega)) (yi_eql rfl rfl rfl)) rfl (by decide) ?_
  refine lsw (want_none (by rfl)) (y_pick true rfl rfl rfl) rfl (by decide) ?_
  refine lsw (want_none (by rfl)) (y_move rfl rfl) rfl (by decide) ?_
  refine lsw (want_t (dj := 15) (by rfl) (by kernel_rfl) rfl) (y_move rfl rfl) rfl (by decide) ?_
  refine lsw (want_t (dj := 15) (by rfl) (by kernel_rfl) rfl) (y_cut_h 4 rfl (by omega) rfl rfl rfl) rfl (by decide) ?_
  refine lsw (want_t (dj := 15) (by rfl) (by kernel_rfl) rfl) (y_str to1 rfl rfl) rfl (by decide) ?_
  refine lsw (want_t (dj := 15) (by rfl) (by kernel_rfl) rfl) (y_streq_t (by rw [sum_none]; first | rfl | decide) rfl rfl rfl) rfl (by decide) ?_
  refine lsw (want_none (by rfl)) (y_pick true rfl rfl rfl) rfl (by decide) ?_
  refine lsw (want_none (by rfl)) (y_move rfl rfl) rfl (by decide) ?_
  refine lsw (want_t (dj := 21) (by rfl) (by kernel_rfl) rfl) (y_move rfl rfl) rfl (by decide) ?_
  refine lsw (want_t (dj := 21) (by rfl) (by kernel_rfl) rfl) (y_cut_h 4 rfl (by omega) rfl rfl rfl) rfl (by decide) ?_
  refine lsw (want_t (dj := 21) (by rfl) (by kernel_rfl) rfl) (y_str to4 rfl rfl) rfl (by decide) ?_
  refine lsw (want_t (dj := 21) (by rfl) (by kernel_rfl) rfl) (y_streq_t (by rw [sum_abc]; first | rfl | decide) rfl rfl rfl) rfl (by decide) ?_
  refine lsw (want_none (by rfl)) (y_pick true rfl rfl rfl) rfl (by decide) ?_
  refine lsw (want_none (by rfl)) (y_move rfl rfl) rfl (by decide) ?_
  refine lg_callw (want_t (dj := 27) (by rfl) (by kernel_rfl) rfl) (pad_any _ _) (by kernel_rfl) rfl rfl rfl (by decide) ?_
  rintro _ w5 ⟨A5, m5, c5, rfl, hc5, o5, hw5⟩
  have zw5 := hw5.size
  refine lsw (want_t (dj := 27) (by rfl) (by kernel_rfl) rfl) (y_len (el := 5) (by kernel_rfl) rfl rfl) rfl (by decide) ?_
  refine lsw (want_t (dj := 27) (by rfl) (by kernel_rfl) rfl) (yb (decide_eq_true (by have hp := pad3; have hq := o5.1; omega)) (yi_eql rfl rfl rfl)) rfl (by decide) ?_
  refine lsw (want_none (by rfl)) (y_pick true rfl rfl rfl) rfl (by decide) ?_
  refine lsw (want_none (by rfl)) (y_assign rfl rfl) rfl (by decide) ?_
  refine lg_nil ?_
  refine nx (E' := [(0, _)]) (fk rfl fn) ?_
  refine cg_ret ?_
  have u := u.trans (hw1.mono u.size)
  have u := u.trans (n2.below.mono u.size)
  have u := u.trans (hw3.mono (by omega))
  have u := u.trans (hw4.mono u.size)
  have u := u.trans (hw5.mono u.size)
  exact eg_ret_tmp rfl rfl ⟨_, rfl, rfl, u⟩
theorem padlaw_any (n : Int) (w : World) {tg : TypeId} (rg : RowAt w 0 tg (cW 64 num)) : Calls Tryd.prog 5 #[nv n] w fun e w' => ∃ v, e = .returned v ∧ v = .bool true ∧ Below w.heap.size w w' := by
  by_cases hlo : n < 0
  · refine calls_cg (n := 81) Tryd.func5 rfl Tryd.ntmps5 (by simp) ?_
    show CG _ _ _ [(0, nv n)] _ _
    have u := Below.refl w.heap.size w
    have h0 := rg.lt
    refine cg_seq ?_
    refine cg_region ?_
    refine lsw (want_none (by rfl)) (y_assign rfl rfl) rfl (by decide) ?_
    refine lg_nil ?_
    refine nx (E' := [(0, _), (2, _)]) (fk rfl (fk rfl fn)) ?_
    refine cg_seq ?_
    refine cg_region ?_
    refine lg_callw (want_none (by rfl)) (awake_any _ rg) (by kernel_rfl) rfl rfl rfl (by decide) ?_
    rintro _ w1 ⟨rfl, hw1⟩
    have zw1 := hw1.size
    refine lsw (want_none (by rfl)) (y_assign rfl rfl) rfl (by decide) ?_
    refine lg_nil ?_
    refine nx (E' := [(0, _), (2, _), (3, _)]) (fk rfl (fk rfl (fk rfl fn))) ?_
    refine cg_seq ?_
    refine cg_region ?_
    refine lsw (want_none (by rfl)) (y_move rfl rfl) rfl (by decide) ?_
    refine lg_callw (want_none (by rfl)) (pad_any _ _) (by kernel_rfl) rfl rfl rfl (by decide) ?_
    rintro _ w2 ⟨A2, m2, c2, rfl, hc2, o2, hw2⟩
    have zw2 := hw2.size
    refine lsw (want_none (by rfl)) (y_assign rfl rfl) rfl (by decide) ?_
    refine lg_nil ?_
    refine nx (E' := [(0, _), (2, _), (3, _), (4, _)]) (fk rfl (fk rfl (fk rfl (fk rfl fn)))) ?_
    refine cg_seq ?_
    refine cg_seq ?_
    refine cg_region ?_
    refine lsw (want_none (by rfl)) (y_move rfl rfl) rfl (by decide) ?_
    refine lsw (want_none (by rfl)) (yb (decide_eq_true hlo) (yi_lss rfl rfl rfl)) rfl (by decide) ?_
    refine lsw (want_none (by rfl)) (y_move rfl rfl) rfl (by decide) ?_
    refine lsk (want_f (dj := 13) (by rfl) (by kernel_rfl) rfl) rfl (by decide) ?_
    refine lsk (want_f (dj := 13) (by rfl) (by kernel_rfl) rfl) rfl (by decide) ?_
    refine lsw (want_none (by rfl)) (y_pick true rfl rfl rfl) rfl (by decide) ?_
    refine lg_nil ?_
    refine nx (E' := [(0, _), (2, _), (3, _), (4, _), (16, _)]) (fk rfl (fk rfl (fk rfl (fk rfl (fk rfl fn))))) ?_
    refine cg_ct rfl ?_
    refine cg_seq ?_
    rw [padL_no (by omega)] at o2
    have lo2 := o2.1
    simp only [List.length_nil] at lo2
    refine cg_region ?_
    refine lsw (want_none (by rfl)) (y_move rfl rfl) rfl (by decide) ?_
    refine lsw (want_none (by rfl)) (y_move rfl rfl) rfl (by decide) ?_
    refine lsw (want_t (dj := 18) (by rfl) (by kernel_rfl) rfl) (y_move rfl rfl) rfl (by decide) ?_
    refine lsw (want_t (dj := 18) (by rfl) (by kernel_rfl) rfl) (y_len (el := 5) (by kernel_rfl) rfl rfl) rfl (by decide) ?_
    refine lsw (want_t (dj := 18) (by rfl) (by kernel_rfl) rfl) (yb (decide_eq_true (by omega)) (yi_eql rfl rfl rfl)) rfl (by decide) ?_
    refine lsw (want_none (by rfl)) (y_pick true rfl rfl rfl) rfl (by decide) ?_
    refine lsw (want_none (by rfl)) (y_assign rfl rfl) rfl (by decide) ?_
    refine lg_nil ?_
    refine nx (E' := [(0, _), (3, _), (4, _), (2, _)]) (fk rfl (fk rfl (fk rfl (fk rfl fn)))) ?_
    refine cg_ret ?_
    refine eg_seq_ret ?_
    have u := u.trans (hw1.mono u.size)
    have u := u.trans (hw2.mono u.size)
    exact eg_ret_tmp rfl rfl ⟨_, rfl, rfl, u⟩
  · by_cases hhi : 1125899906842624 < n
    · refine calls_cg (n := 81) Tryd.func5 rfl Tryd.ntmps5 (by simp) ?_
      show CG _ _ _ [(0, nv n)] _ _
      have u := Below.refl w.heap.size w
      have h0 := rg.lt
      refine cg_seq ?_
      refine cg_region ?_
      refine lsw (want_none (by rfl)) (y_assign rfl rfl) rfl (by decide) ?_
      refine lg_nil ?_
      refine nx (E' := [(0, _), (2, _)]) (fk rfl (fk rfl fn)) ?_
      refine cg_seq ?_
      refine cg_region ?_
      refine lg_callw (want_none (by rfl)) (awake_any _ rg) (by kernel_rfl) rfl rfl rfl (by decide) ?_
      rintro _ w1 ⟨rfl, hw1⟩
      have zw1 := hw1.size
      refine lsw (want_none (by rfl)) (y_assign rfl rfl) rfl (by decide) ?_
      refine lg_nil ?_
      refine nx (E' := [(0, _), (2, _), (3, _)]) (fk rfl (fk rfl (fk rfl fn))) ?_
      refine cg_seq ?_
      refine cg_region ?_
      refine lsw (want_none (by rfl)) (y_move rfl rfl) rfl (by decide) ?_
      refine lg_callw (want_none (by rfl)) (pad_any _ _) (by kernel_rfl) rfl rfl rfl (by decide) ?_
      rintro _ w2 ⟨A2, m2, c2, rfl, hc2, o2, hw2⟩
      have zw2 := hw2.size
      refine lsw (want_none (by rfl)) (y_assign rfl rfl) rfl (by decide) ?_
      refine lg_nil ?_
      refine nx (E' := [(0, _), (2, _), (3, _), (4, _)]) (fk rfl (fk rfl (fk rfl (fk rfl fn)))) ?_
      refine cg_seq ?_
      refine cg_seq ?_
      refine cg_region ?_
      refine lsw (want_none (by rfl)) (y_move rfl rfl) rfl (by decide) ?_
      refine lsw (want_none (by rfl)) (yb (decide_eq_false hlo) (yi_lss rfl rfl rfl)) rfl (by decide) ?_
      refine lsw (want_none (by rfl)) (y_move rfl rfl) rfl (by decide) ?_
      refine lsw (want_t (dj := 13) (by rfl) (by kernel_rfl) rfl) (y_move rfl rfl) rfl (by decide) ?_
      refine lsw (want_t (dj := 13) (by rfl) (by kernel_rfl) rfl) (yb (decide_eq_true hhi) (yi_gtr rfl rfl rfl)) rfl (by decide) ?_
      refine lsw (want_none (by rfl)) (y_pick false rfl rfl rfl) rfl (by decide) ?_
      refine lg_nil ?_
      refine nx (E' := [(0, _), (2, _), (3, _), (4, _), (16, _)]) (fk rfl (fk rfl (fk rfl (fk rfl (fk rfl fn))))) ?_
      refine cg_ct rfl ?_
      refine cg_seq ?_
      rw [padL_no (by omega)] at o2
      have lo2 := o2.1
      simp only [List.length_nil] at lo2
      refine cg_region ?_
      refine lsw (want_none (by rfl)) (y_move rfl rfl) rfl (by decide) ?_
      refine lsw (want_none (by rfl)) (y_move rfl rfl) rfl (by decide) ?_
      refine lsw (want_t (dj := 18) (by rfl) (by kernel_rfl) rfl) (y_move rfl rfl) rfl (by decide) ?_
      refine lsw (want_t (dj := 18) (by rfl) (by kernel_rfl) rfl) (y_len (el := 5) (by kernel_rfl) rfl rfl) rfl (by decide) ?_
      refine lsw (want_t (dj := 18) (by rfl) (by kernel_rfl) rfl) (yb (decide_eq_true (by omega)) (yi_eql rfl rfl rfl)) rfl (by decide) ?_
      refine lsw (want_none (by rfl)) (y_pick true rfl rfl rfl) rfl (by decide) ?_
      refine lsw (want_none (by rfl)) (y_assign rfl rfl) rfl (by decide) ?_
      refine lg_nil ?_
      refine nx (E' := [(0, _), (3, _), (4, _), (2, _)]) (fk rfl (fk rfl (fk rfl (fk rfl fn)))) ?_
      refine cg_ret ?_
      refine eg_seq_ret ?_
      have u := u.trans (hw1.mono u.size)
      have u := u.trans (hw2.mono u.size)
      exact eg_ret_tmp rfl rfl ⟨_, rfl, rfl, u⟩
    · refine calls_cg (n := 81) Tryd.func5 rfl Tryd.ntmps5 (by simp) ?_
      show CG _ _ _ [(0, nv n)] _ _
      have u := Below.refl w.heap.size w
      have h0 := rg.lt
      have hz := zeroN_lt n
      have hk : 0 ≤ n ∧ n ≤ 1125899906842624 := by omega
      have h64 : (n + ((9 + zeroN n : Nat) : Int)) % 64 = 0 := by unfold zeroN; omega
      refine cg_seq ?_
      refine cg_region ?_
      refine lsw (want_none (by rfl)) (y_assign rfl rfl) rfl (by decide) ?_
      refine lg_nil ?_
      refine nx (E' := [(0, _), (2, _)]) (fk rfl (fk rfl fn)) ?_
      refine cg_seq ?_
      refine cg_region ?_
      refine lg_callw (want_none (by rfl)) (awake_any _ rg) (by kernel_rfl) rfl rfl rfl (by decide) ?_
      rintro _ w1 ⟨rfl, hw1⟩
      have zw1 := hw1.size
      refine lsw (want_none (by rfl)) (y_assign rfl rfl) rfl (by decide) ?_
      refine lg_nil ?_
      refine nx (E' := [(0, _), (2, _), (3, _)]) (fk rfl (fk rfl (fk rfl fn))) ?_
      refine cg_seq ?_
      refine cg_region ?_
      refine lsw (want_none (by rfl)) (y_move rfl rfl) rfl (by decide) ?_
      refine lg_callw (want_none (by rfl)) (pad_any _ _) (by kernel_rfl) rfl rfl rfl (by decide) ?_
      rintro _ w2 ⟨A2, m2, c2, rfl, hc2, o2, hw2⟩
      have zw2 := hw2.size
      refine lsw (want_none (by rfl)) (y_assign rfl rfl) rfl (by decide) ?_
      refine lg_nil ?_
      refine nx (E' := [(0, _), (2, _), (3, _), (4, _)]) (fk rfl (fk rfl (fk rfl (fk rfl fn)))) ?_
      refine cg_seq ?_
      refine cg_seq ?_
      refine cg_region ?_
      refine lsw (want_none (by rfl)) (y_move rfl rfl) rfl (by decide) ?_
      refine lsw (want_none (by rfl)) (yb (decide_eq_false hlo) (yi_lss rfl rfl rfl)) rfl (by decide) ?_
      refine lsw (want_none (by rfl)) (y_move rfl rfl) rfl (by decide) ?_
      refine lsw (want_t (dj := 13) (by rfl) (by kernel_rfl) rfl) (y_move rfl rfl) rfl (by decide) ?_
      refine lsw (want_t (dj := 13) (by rfl) (by kernel_rfl) rfl) (yb (decide_eq_false hhi) (yi_gtr rfl rfl rfl)) rfl (by decide) ?_
      refine lsw (want_none (by rfl)) (y_pick false rfl rfl rfl) rfl (by decide) ?_
      refine lg_nil ?_
      refine nx (E' := [(0, _), (2, _), (3, _), (4, _), (16, _)]) (fk rfl (fk rfl (fk rfl (fk rfl (fk rfl fn))))) ?_
      refine cg_cf rfl ?_
      refine cg_skip ?_
      refine nx (E' := [(0, _), (2, _), (3, _), (4, _)]) (fk rfl (fk rfl (fk rfl (fk rfl fn)))) ?_
      refine cg_seq ?_
      refine cg_seq ?_
      have lo2 := o2.1
      rw [padL_len hk] at lo2
      obtain ⟨bp, op, rfl, _, _⟩ := o2.2.2 (by omega)
      subst lo2
      refine cg_region ?_
      refine lsw (want_none (by rfl)) (y_move rfl rfl) rfl (by decide) ?_
      refine lsw (want_none (by rfl)) (y_len (el := 5) (by kernel_rfl) rfl rfl) rfl (by decide) ?_
      refine lsw (want_none (by rfl)) (yb (decide_eq_false (by omega)) (yi_lss rfl rfl rfl)) rfl (by decide) ?_
      refine lsw (want_none (by rfl)) (y_move rfl rfl) rfl (by decide) ?_
      refine lsw (want_t (dj := 26) (by rfl) (by kernel_rfl) rfl) (y_move rfl rfl) rfl (by decide) ?_
      refine lsw (want_t (dj := 26) (by rfl) (by kernel_rfl) rfl) (y_len (el := 5) (by kernel_rfl) rfl rfl) rfl (by decide) ?_
      refine lsw (want_t (dj := 26) (by rfl) (by kernel_rfl) rfl) (yb (decide_eq_false (by omega)) (yi_gtr rfl rfl rfl)) rfl (by decide) ?_
      refine lsw (want_none (by rfl)) (y_pick false rfl rfl rfl) rfl (by decide) ?_
      refine lsw (want_none (by rfl)) (y_move rfl rfl) rfl (by decide) ?_
      refine lsw (want_t (dj := 31) (by rfl) (by kernel_rfl) rfl) (y_move rfl rfl) rfl (by decide) ?_
      refine lsw (want_t (dj := 31) (by rfl) (by kernel_rfl) rfl) (y_move rfl rfl) rfl (by decide) ?_
      refine lsw (want_t (dj := 31) (by rfl) (by kernel_rfl) rfl) (y_len (el := 5) (by kernel_rfl) rfl rfl) rfl (by decide) ?_
      refine lsw (want_t (dj := 31) (by rfl) (by kernel_rfl) rfl) (yi_add rfl rfl rfl (by omega) (by omega)) rfl (by decide) ?_
      refine lsw (want_t (dj := 31) (by rfl) (by kernel_rfl) rfl) (yi_rem rfl rfl rfl (by omega) (by omega)) rfl (by decide) ?_
      refine lsw (want_t (dj := 31) (by rfl) (by kernel_rfl) rfl) (yb (congrArg (!·) (decide_eq_true (by omega))) (yi_neq rfl rfl rfl)) rfl (by decide) ?_
      refine lsw (want_none (by rfl)) (y_pick false rfl rfl rfl) rfl (by decide) ?_
      refine lsw (want_none (by rfl)) (y_move rfl rfl) rfl (by decide) ?_
      refine lsw (want_t (dj := 39) (by rfl) (by kernel_rfl) rfl) (y_move rfl rfl) rfl (by decide) ?_
      refine lsw (want_t (dj := 39) (by rfl) (by kernel_rfl) rfl) (y_ixo (i := 0) rfl (by omega) rfl rfl rfl) rfl (by decide) ?_
      refine lsw (want_t (dj := 39) (by rfl) (by kernel_rfl) rfl) (y_celld (o2.cello (by omega)) (by kernel_rfl) rfl rfl) rfl (by decide) ?_
      refine lsw (want_t (dj := 39) (by rfl) (by kernel_rfl) rfl) (y_one_f (Y := 128#8) (by rw [padL_0 hk]; rfl) rfl rfl (by kernel_rfl)) rfl (by decide) ?_
      refine lsw (want_none (by rfl)) (y_pick false rfl rfl rfl) rfl (by decide) ?_
      refine lg_nil ?_
      refine nx (E' := [(0, _), (2, _), (3, _), (4, _), (44, _)]) (fk rfl (fk rfl (fk rfl (fk rfl (fk rfl fn))))) ?_
      refine cg_cf rfl ?_
      refine cg_skip ?_
      refine nx (E' := [(0, _), (2, _), (3, _), (4, _)]) (fk rfl (fk rfl (fk rfl (fk rfl fn)))) ?_
      refine cg_seq ?_
      refine cg_seq ?_
      refine cg_region ?_
      refine lsw (want_none (by rfl)) (y_assign rfl rfl) rfl (by decide) ?_
      refine lg_nil ?_
      refine nx (E' := [(0, _), (2, _), (3, _), (4, _), (5, _)]) (fk rfl (fk rfl (fk rfl (fk rfl (fk rfl fn))))) ?_
      refine cg_block ?_
      have u := u.trans (hw1.mono u.size)
      have u := u.trans (hw2.mono u.size)
      refine cg_loopE (fun t a v => Holds 81 [(0, nv n), (3, .bool true), (5, nv (1 + (t : Int))), (4, .slice (some ⟨bp, op, none⟩) (9 + zeroN n) c2)] a ∧ Oct v w2.heap.size (some ⟨bp, op, none⟩) (9 + zeroN n) (padL n) ∧ Below w.heap.size w v) (zeroN n) (fun a ha => ⟨ha.keep (fk rfl (fk rfl (fk rfl (fk rfl fn)))), o2.more (by omega), u⟩) ?_
      rintro t a v ht ⟨ha, oP, u⟩
      refine cg_at ha ?_
      clear ha a
      have zv := u.size
      refine cg_seq ?_
      refine cg_seq ?_
      refine cg_region ?_
      refine lsw (want_none (by rfl)) (y_move rfl rfl) rfl (by decide) ?_
      refine lsw (want_none (by rfl)) (y_move rfl rfl) rfl (by decide) ?_
      refine lsw (want_none (by rfl)) (y_len (el := 5) (by kernel_rfl) rfl rfl) rfl (by decide) ?_
      refine lsw (want_none (by rfl)) (yi_sub rfl rfl rfl (by omega) (by omega)) rfl (by decide) ?_
      refine lsw (want_none (by rfl)) (yi_lss rfl rfl rfl) rfl (by decide) ?_
      refine lg_nil ?_
      refine nx (E' := [(0, _), (3, _), (5, _), (4, _), (45, _), (46, _), (47, _), (48, _), (49, _)]) (fk rfl (fk rfl (fk rfl (fk rfl (fk rfl (fk rfl (fk rfl (fk rfl (fk rfl fn))))))))) ?_
      refine cg_if rfl (fun hc49 => ?_) (fun hc49 => ?_)
      · refine cg_skip ?_
        refine nx (E' := [(0, _), (3, _), (5, _), (4, _), (45, _), (46, _), (47, _), (48, _), (49, _)]) (fk rfl (fk rfl (fk rfl (fk rfl (fk rfl (fk rfl (fk rfl (fk rfl (fk rfl fn))))))))) ?_
        refine cg_seq ?_
        refine cg_block ?_
        refine cg_seq ?_
        refine cg_region ?_
        refine lsw (want_none (by rfl)) (y_move rfl rfl) rfl (by decide) ?_
        refine lsw (want_none (by rfl)) (y_move rfl rfl) rfl (by decide) ?_
        refine lsw (want_none (by rfl)) (y_ixo (i := 1 + t) (by omega) (by omega) rfl rfl rfl) rfl (by decide) ?_
        refine lsw (want_none (by rfl)) (y_celld (oP.cello (by omega)) (by kernel_rfl) rfl rfl) rfl (by decide) ?_
        refine lsw (want_none (by rfl)) (y_one_f (Y := 0#8) (by rw [padL_z hk (by omega)]; rfl) rfl rfl (by kernel_rfl)) rfl (by decide) ?_
        refine lg_nil ?_
        refine nx (E' := [(0, _), (3, _), (5, _), (4, _), (45, _), (46, _), (47, _), (48, _), (49, _), (52, _), (53, _), (54, _), (55, _), (56, _)]) (fk rfl (fk rfl (fk rfl (fk rfl (fk rfl (fk rfl (fk rfl (fk rfl (fk rfl (fk rfl (fk rfl (fk rfl (fk rfl (fk rfl fn)))))))))))))) ?_
        refine cg_cf rfl ?_
        refine cg_skip ?_
        refine eg_block_norm ?_
        refine nx (E' := [(0, _), (3, _), (5, _), (4, _), (45, _), (46, _), (47, _), (48, _), (49, _), (52, _), (53, _), (54, _), (55, _), (56, _)]) (fk rfl (fk rfl (fk rfl (fk rfl (fk rfl (fk rfl (fk rfl (fk rfl (fk rfl (fk rfl (fk rfl (fk rfl (fk rfl (fk rfl fn)))))))))))))) ?_
        refine cg_region ?_
        refine lsw (want_none (by rfl)) (y_move rfl rfl) rfl (by decide) ?_
        refine lsw (want_none (by rfl)) (yv (show nv (1 + (t : Int) + 1) = nv (1 + ((t + 1 : Nat) : Int)) from congrArg nv (by omega)) (yi_add rfl rfl rfl (by omega) (by omega))) rfl (by decide) ?_
        refine lsw (want_none (by rfl)) (y_assign rfl rfl) rfl (by decide) ?_
        refine lg_nil ?_
        exact fun a ha => (show t < (zeroN n) ∧ _ from ⟨(by omega), ha.keep (fk rfl (fk rfl (fk rfl (fk rfl fn)))), oP, u⟩)
      · refine cg_exit ?_
        refine eg_seq_exit ?_
        refine eg_seq_exit ?_
        refine eg_block_exit ?_
        refine nx (E' := [(0, _), (3, _), (4, _)]) (fk rfl (fk rfl (fk rfl fn))) ?_
        refine cg_seq ?_
        refine cg_region ?_
        refine lsw (want_none (by rfl)) (yv (show nv 0 = nv (n * 8 / 2 ^ (8 * (8 - 0))) from congrArg nv (by show (0 : Int) = n * 8 / 18446744073709551616; omega)) (y_assign rfl rfl)) rfl (by decide) ?_
        refine lg_nil ?_
        refine nx (E' := [(0, _), (3, _), (4, _), (6, _)]) (fk rfl (fk rfl (fk rfl (fk rfl fn)))) ?_
        refine cg_seq ?_
        refine cg_seq ?_
        refine cg_region ?_
        refine lsw (want_none (by rfl)) (y_move rfl rfl) rfl (by decide) ?_
        refine lsw (want_none (by rfl)) (y_len (el := 5) (by kernel_rfl) rfl rfl) rfl (by decide) ?_
        refine lsw (want_none (by rfl)) (yv (show nv (((9 + zeroN n : Nat) : Int) - 8) = nv (1 + (zeroN n : Int) + ((0 : Nat) : Int)) from congrArg nv (by omega)) (yi_sub rfl rfl rfl (by omega) (by omega))) rfl (by decide) ?_
        refine lsw (want_none (by rfl)) (y_assign rfl rfl) rfl (by decide) ?_
        refine lg_nil ?_
        refine nx (E' := [(0, _), (3, _), (4, _), (6, _), (7, _)]) (fk rfl (fk rfl (fk rfl (fk rfl (fk rfl fn))))) ?_
        refine cg_block ?_
        refine cg_loopE (fun j a v => Holds 81 [(0, nv n), (3, .bool true), (6, nv (n * 8 / 2 ^ (8 * (8 - j)))), (7, nv (1 + (zeroN n : Int) + (j : Int))), (4, .slice (some ⟨bp, op, none⟩) (9 + zeroN n) c2)] a ∧ Oct v w2.heap.size (some ⟨bp, op, none⟩) (9 + zeroN n) (padL n) ∧ Below w.heap.size w v) 8 (fun a ha => ⟨ha.keep (fk rfl (fk rfl (fk rfl (fk rfl (fk rfl fn))))), oP, u⟩) ?_
        rintro j a v ht ⟨ha, oP, u⟩
        refine cg_at ha ?_
        clear ha a
        have zv := u.size
        refine cg_seq ?_
        refine cg_seq ?_
        refine cg_region ?_
        refine lsw (want_none (by rfl)) (y_move rfl rfl) rfl (by decide) ?_
        refine lsw (want_none (by rfl)) (y_move rfl rfl) rfl (by decide) ?_
        refine lsw (want_none (by rfl)) (y_len (el := 5) (by kernel_rfl) rfl rfl) rfl (by decide) ?_
        refine lsw (want_none (by rfl)) (yi_lss rfl rfl rfl) rfl (by decide) ?_
        refine lg_nil ?_
        refine nx (E' := [(0, _), (3, _), (6, _), (7, _), (4, _), (60, _), (61, _), (62, _), (63, _)]) (fk rfl (fk rfl (fk rfl (fk rfl (fk rfl (fk rfl (fk rfl (fk rfl (fk rfl fn))))))))) ?_
        refine cg_if rfl (fun hc63 => ?_) (fun hc63 => ?_)
        · obtain ⟨d0, d1, d2⟩ := digit hk (show j < 8 by omega)
          have d3 := vb_range (toB ((padL n).getD (1 + zeroN n + j) 0))
          refine cg_skip ?_
          refine nx (E' := [(0, _), (3, _), (6, _), (7, _), (4, _), (60, _), (61, _), (62, _), (63, _)]) (fk rfl (fk rfl (fk rfl (fk rfl (fk rfl (fk rfl (fk rfl (fk rfl (fk rfl fn))))))))) ?_
          refine cg_seq ?_
          refine cg_block ?_
          refine cg_region ?_
          refine lsw (want_none (by rfl)) (y_move rfl rfl) rfl (by decide) ?_
          refine lsw (want_none (by rfl)) (yi_mul rfl rfl rfl (by omega) (by omega)) rfl (by decide) ?_
          refine lsw (want_none (by rfl)) (y_move rfl rfl) rfl (by decide) ?_
          refine lsw (want_none (by rfl)) (y_move rfl rfl) rfl (by decide) ?_
          refine lsw (want_none (by rfl)) (y_ixo (i := 1 + zeroN n + j) (by omega) (by omega) rfl rfl rfl) rfl (by decide) ?_
          refine lsw (want_none (by rfl)) (y_celld (oP.cello (by omega)) (by kernel_rfl) rfl rfl) rfl (by decide) ?_
          refine lsw (want_none (by rfl)) (y_8to rfl rfl) rfl (by decide) ?_
          refine lsw (want_none (by rfl)) (yv (show nv _ = nv _ from congrArg nv d2) (yi_add rfl rfl rfl (by omega) (by omega))) rfl (by decide) ?_
          refine lsw (want_none (by rfl)) (y_assign rfl rfl) rfl (by decide) ?_
          refine lg_nil ?_
          refine eg_block_norm ?_
          refine nx (E' := [(0, _), (3, _), (7, _), (4, _), (60, _), (61, _), (62, _), (63, _), (66, _), (67, _), (68, _), (69, _), (70, _), (71, _), (72, _), (73, _), (6, _)]) (fk rfl (fk rfl (fk rfl (fk rfl (fk rfl (fk rfl (fk rfl (fk rfl (fk rfl (fk rfl (fk rfl (fk rfl (fk rfl (fk rfl (fk rfl (fk rfl (fk rfl fn))))))))))))))))) ?_
          refine cg_region ?_
          refine lsw (want_none (by rfl)) (y_move rfl rfl) rfl (by decide) ?_
          refine lsw (want_none (by rfl)) (yv (show nv (1 + (zeroN n : Int) + (j : Int) + 1) = nv (1 + (zeroN n : Int) + ((j + 1 : Nat) : Int)) from congrArg nv (by omega)) (yi_add rfl rfl rfl (by omega) (by omega))) rfl (by decide) ?_
          refine lsw (want_none (by rfl)) (y_assign rfl rfl) rfl (by decide) ?_
          refine lg_nil ?_
          exact fun a ha => (show j < 8 ∧ _ from ⟨(by omega), ha.keep (fk rfl (fk rfl (fk rfl (fk rfl (fk rfl fn))))), oP, u⟩)
        · obtain rfl : j = 8 := by omega
          refine cg_exit ?_
          refine eg_seq_exit ?_
          refine eg_seq_exit ?_
          refine eg_block_exit ?_
          refine nx (E' := [(0, _), (3, _), (6, _)]) (fk rfl (fk rfl (fk rfl fn))) ?_
          refine cg_seq ?_
          refine cg_region ?_
          refine lsw (want_none (by rfl)) (y_move rfl rfl) rfl (by decide) ?_
          refine lsw (want_none (by rfl)) (y_move rfl rfl) rfl (by decide) ?_
          refine lsw (want_t (dj := 75) (by rfl) (by kernel_rfl) rfl) (y_move rfl rfl) rfl (by decide) ?_
          refine lsw (want_t (dj := 75) (by rfl) (by kernel_rfl) rfl) (y_move rfl rfl) rfl (by decide) ?_
          refine lsw (want_t (dj := 75) (by rfl) (by kernel_rfl) rfl) (yi_mul rfl rfl rfl (by omega) (by omega)) rfl (by decide) ?_
          refine lsw (want_t (dj := 75) (by rfl) (by kernel_rfl) rfl) (yb (decide_eq_true (by show n * 8 / 1 = 8 * n; omega)) (yi_eql rfl rfl rfl)) rfl (by decide) ?_
          refine lsw (want_none (by rfl)) (y_pick true rfl rfl rfl) rfl (by decide) ?_
          refine lsw (want_none (by rfl)) (y_assign rfl rfl) rfl (by decide) ?_
          refine lg_nil ?_
          refine nx (E' := [(2, _)]) (fk rfl fn) ?_
          refine cg_ret ?_
          exact eg_ret_tmp rfl rfl ⟨_, rfl, rfl, u⟩
end Go.Proofs.YtdenbbfmiadcbaaDoor
