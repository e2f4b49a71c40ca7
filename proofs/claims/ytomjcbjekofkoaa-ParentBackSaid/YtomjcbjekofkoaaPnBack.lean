/-
  What is put is got.
-/
import Derived.Test.YtomjcbjekofkoaaPnAwake
namespace Go.Proofs.Ytomjcbjekofkoaa
open Go.ChangeShapes Go.WideShapes Go.ChangeAt Go.RowKit
set_option linter.unusedVariables false

set_option maxHeartbeats 4000000 in
theorem parentBack_any {W : World} {l : PnV} {L : Pn} (hl : IsPn W W.heap.size l L) {s : SlV} {ts : List Int} (h : Sl W W.heap.size s ts) (cut : Int) : Calls Try.prog 4 #[.agg (l.cs L), s.v, nv cut] W fun e W' => ∃ v, e = .returned v ∧ v = .bool true ∧ Below W.heap.size W W' := by
  refine calls_cg (n := 85) Try.func4 rfl Try.ntmps4 (by simp) ?_
  show CG _ _ _ [(0, .agg (l.cs L)), (1, s.v), (2, nv cut)] _ _
  have u := Below.refl W.heap.size W
  refine cg_seq ?_
  refine cg_region ?_
  refine lg_boxw (want_none (by rfl)) rfl rfl (by kernel_rfl) rfl (by decide) fun b1 w1 n1 => ?_
  have r1 := n1.row
  have k1 := n1.blk
  have z1 := n1.size
  have lt1 : b1 < w1.heap.size := by omega
  refine lsw (want_none (by rfl)) (y_assign rfl rfl) rfl (by decide) ?_
  refine lg_nil ?_
  refine nx (E' := [(1, _), (2, _), (3, _), (6, _)]) (fk rfl (fk rfl (fk rfl (fk rfl fn)))) ?_
  refine cg_seq ?_
  refine cg_region ?_
  refine lg_callw (want_none (by rfl)) (awakeP_any _) (by kernel_rfl) rfl rfl rfl (by decide) ?_
  rintro _ w2 ⟨rfl, hw2⟩
  have zw2 := hw2.size
  refine lsw (want_none (by rfl)) (y_assign rfl rfl) rfl (by decide) ?_
  refine lg_nil ?_
  refine nx (E' := [(1, _), (2, _), (3, _), (6, _), (7, _)]) (fk rfl (fk rfl (fk rfl (fk rfl (fk rfl fn))))) ?_
  refine cg_seq ?_
  refine cg_seq ?_
  refine cg_region ?_
  have r1 := RowAt.below hw2 r1.lt r1
  refine lsw (want_none (by rfl)) (y_loadA r1 (by kernel_rfl) (by kernel_rfl) rfl rfl) rfl (by decide) ?_
  have hl := hl.below (n1.below.mono (by omega))
  have hl := hl.below (hw2.mono (by omega))
  by_cases c3 : pnFew L
  · refine lg_callw (want_none (by rfl)) (few_any (hl.more (B' := w2.heap.size) (by omega)) (Nat.le_refl _)) (by kernel_rfl) rfl rfl rfl (by decide) ?_
    rintro u4 w4 ⟨e4, hw4⟩
    have zw4 := hw4.size
    obtain rfl : u4 = .bool true := e4.trans (congrArg Value.bool (decide_eq_true c3))
    refine lsw (want_none (by rfl)) (y_bnot rfl rfl) rfl (by decide) ?_
    refine lsw (want_none (by rfl)) (y_move rfl rfl) rfl (by decide) ?_
    refine lsw (want_t (dj := 20) (by rfl) (by kernel_rfl) rfl) (y_move rfl rfl) rfl (by decide) ?_
    have h := h.below (n1.below.mono (by omega))
    have h := h.below (hw2.mono (by omega))
    have h := h.below (hw4.mono (by omega))
    refine lsw (want_t (dj := 20) (by rfl) (by kernel_rfl) rfl) (y_lenS (el := 5) h (by kernel_rfl) rfl rfl) rfl (by decide) ?_
    by_cases c5 : 1000 < (ts.length : Int)
    · refine lsw (want_t (dj := 20) (by rfl) (by kernel_rfl) rfl) (yb (decide_eq_true c5) (yi_gtr rfl rfl rfl)) rfl (by decide) ?_
      refine lsw (want_none (by rfl)) (y_pick false rfl rfl rfl) rfl (by decide) ?_
      refine lg_nil ?_
      refine nx (E' := [(1, _), (2, _), (3, _), (6, _), (7, _), (24, _)]) (fk rfl (fk rfl (fk rfl (fk rfl (fk rfl (fk rfl fn)))))) ?_
      refine cg_ct rfl ?_
      refine cg_seq ?_
      refine cg_region ?_
      refine lsw (want_none (by rfl)) (y_move rfl rfl) rfl (by decide) ?_
      refine lsw (want_none (by rfl)) (y_assign rfl rfl) rfl (by decide) ?_
      refine lg_nil ?_
      refine nx (E' := [(1, _), (2, _), (3, _), (7, _), (6, _)]) (fk rfl (fk rfl (fk rfl (fk rfl (fk rfl fn))))) ?_
      refine cg_ret ?_
      refine eg_seq_ret ?_
      have u := u.trans (n1.below.mono u.size)
      have u := u.trans (hw2.mono u.size)
      have u := u.trans (hw4.mono u.size)
      exact eg_ret_tmp rfl rfl ⟨_, rfl, rfl, u⟩
    · refine lsw (want_t (dj := 20) (by rfl) (by kernel_rfl) rfl) (yb (decide_eq_false c5) (yi_gtr rfl rfl rfl)) rfl (by decide) ?_
      refine lsw (want_none (by rfl)) (y_pick false rfl rfl rfl) rfl (by decide) ?_
      refine lg_nil ?_
      refine nx (E' := [(1, _), (2, _), (3, _), (6, _), (7, _), (24, _)]) (fk rfl (fk rfl (fk rfl (fk rfl (fk rfl (fk rfl fn)))))) ?_
      refine cg_cf rfl ?_
      refine cg_skip ?_
      refine nx (E' := [(1, _), (2, _), (3, _), (6, _), (7, _)]) (fk rfl (fk rfl (fk rfl (fk rfl (fk rfl fn))))) ?_
      refine cg_seq ?_
      refine cg_region ?_
      have r1 := RowAt.below hw4 r1.lt r1
      refine lsw (want_none (by rfl)) (y_loadA r1 (by kernel_rfl) (by kernel_rfl) rfl rfl) rfl (by decide) ?_
      have hl := hl.below (hw4.mono (by omega))
      refine lg_callw (want_none (by rfl)) (putP_any ((Sl.nil _ 0).more (B' := w4.heap.size) (by omega)) (hl.more (B' := w4.heap.size) (by omega)) (Nat.le_refl _) (by first | omega | (simp only [List.length_nil]; omega))) (by kernel_rfl) rfl rfl rfl (by decide) ?_
      rintro _ w6 ⟨r6, rfl, m6, hw6⟩
      have zw6 := hw6.size
      rw [List.nil_append] at m6
      have lp6 := pnPut_le L
      refine lsw (want_none (by rfl)) (y_assign rfl rfl) rfl (by decide) ?_
      refine lg_nil ?_
      refine nx (E' := [(1, _), (2, _), (3, _), (6, _), (7, _), (8, _)]) (fk rfl (fk rfl (fk rfl (fk rfl (fk rfl (fk rfl fn)))))) ?_
      refine cg_seq ?_
      refine cg_seq ?_
      refine cg_region ?_
      have r1 := RowAt.below hw6 r1.lt r1
      refine lsw (want_none (by rfl)) (y_loadA r1 (by kernel_rfl) (by kernel_rfl) rfl rfl) rfl (by decide) ?_
      have hl := hl.below (hw6.mono (by omega))
      refine lg_callw (want_none (by rfl)) (check_any (hl.more (B' := w6.heap.size) (by omega)) (Nat.le_refl _)) (by kernel_rfl) rfl rfl rfl (by decide) ?_
      rintro _ w7 ⟨rfl, hw7⟩
      have zw7 := hw7.size
      by_cases c8 : (pnCheck L) = 0
      · have pos := pnPut_pos c8
        refine lsw (want_none (by rfl)) (yb (nd_f c8) (yi_neq rfl rfl rfl)) rfl (by decide) ?_
        refine lg_nil ?_
        refine nx (E' := [(1, _), (2, _), (3, _), (6, _), (7, _), (8, _), (30, _)]) (fk rfl (fk rfl (fk rfl (fk rfl (fk rfl (fk rfl (fk rfl fn))))))) ?_
        refine cg_cf rfl ?_
        refine cg_skip ?_
        refine nx (E' := [(1, _), (2, _), (3, _), (6, _), (7, _), (8, _)]) (fk rfl (fk rfl (fk rfl (fk rfl (fk rfl (fk rfl fn)))))) ?_
        refine cg_seq ?_
        refine cg_seq ?_
        refine cg_region ?_
        refine lsw (want_none (by rfl)) (y_move rfl rfl) rfl (by decide) ?_
        have m6 := m6.below (hw7.mono (by omega))
        refine lsw (want_none (by rfl)) (y_lenS (el := 5) m6 (by kernel_rfl) rfl rfl) rfl (by decide) ?_
        refine lsw (want_none (by rfl)) (yb (decide_eq_false (show ¬ (((pnPut L).length : Int) = 0) from (by omega))) (yi_eql rfl rfl rfl)) rfl (by decide) ?_
        refine lg_nil ?_
        refine nx (E' := [(1, _), (2, _), (3, _), (6, _), (7, _), (8, _), (39, _)]) (fk rfl (fk rfl (fk rfl (fk rfl (fk rfl (fk rfl (fk rfl fn))))))) ?_
        refine cg_cf rfl ?_
        refine cg_skip ?_
        refine nx (E' := [(1, _), (2, _), (3, _), (6, _), (7, _), (8, _)]) (fk rfl (fk rfl (fk rfl (fk rfl (fk rfl (fk rfl fn)))))) ?_
        refine cg_seq ?_
        refine cg_region ?_
        obtain ⟨bs10, hbs10⟩ : ∃ q, q = w7.heap.size := ⟨_, rfl⟩
        refine lg_bs0 (want_none (by rfl)) rfl rfl (by decide) fun v9 w9 g9 l9 => ?_
        rw [← hbs10] at g9
        have z9 := l9.size
        refine lsw (want_none (by rfl)) (y_move rfl rfl) rfl (by decide) ?_
        have m6 := m6.below (l9.mono (by omega))
        refine lg_appS g9 Bytes.nil m6 (by first | omega | (simp only [List.length_nil]; omega)) (by omega) (want_none (by rfl)) rfl rfl rfl rfl rfl (by decide) fun r11 w11 m11 g11 l11 z11 => ?_
        simp only [List.nil_append] at m11 g11
        refine lsw (want_none (by rfl)) (y_assign rfl rfl) rfl (by decide) ?_
        refine lg_nil ?_
        refine nx (E' := [(1, _), (2, _), (3, _), (6, _), (7, _), (8, _), (9, _)]) (fk rfl (fk rfl (fk rfl (fk rfl (fk rfl (fk rfl (fk rfl fn))))))) ?_
        refine cg_seq ?_
        refine cg_region ?_
        refine lsw (want_none (by rfl)) (y_move rfl rfl) rfl (by decide) ?_
        refine lsw (want_none (by rfl)) (y_move rfl rfl) rfl (by decide) ?_
        have h := h.below (hw6.mono (by omega))
        have h := h.below (hw7.mono (by omega))
        have h := h.below (l9.mono (by omega))
        have h := h.below (l11.mono (by omega))
        refine lg_appS g11 m11.bytes h (by first | omega | (simp only [List.length_append, List.length_nil]; omega)) (by omega) (want_none (by rfl)) rfl rfl rfl rfl rfl (by decide) fun r12 w12 m12 g12 l12 z12 => ?_
        refine lsw (want_none (by rfl)) (y_assign rfl rfl) rfl (by decide) ?_
        refine lg_nil ?_
        refine nx (E' := [(1, _), (2, _), (3, _), (6, _), (7, _), (8, _), (9, _)]) (fk rfl (fk rfl (fk rfl (fk rfl (fk rfl (fk rfl (fk rfl fn))))))) ?_
        refine cg_seq ?_
        refine cg_region ?_
        refine lsw (want_none (by rfl)) (y_move rfl rfl) rfl (by decide) ?_
        refine lg_callw (want_none (by rfl)) (getP_anyE m12 (by omega) (pn_back c8 ts)) (by kernel_rfl) rfl rfl rfl (by decide) ?_
        rintro _ w13 ⟨l13, r13, rfl, m13, n13, hw13⟩
        have zw13 := hw13.size
        refine lsw (want_none (by rfl)) (y_move rfl rfl) rfl (by decide) ?_
        refine lsw (want_none (by rfl)) (y_extract rfl rfl rfl) rfl (by decide) ?_
        refine lsw (want_none (by rfl)) (y_extract rfl rfl rfl) rfl (by decide) ?_
        refine lsw (want_none (by rfl)) (y_extract rfl rfl rfl) rfl (by decide) ?_
        refine lg_allocw (cs := PnV.zero.cs Pn.zero) (want_none (by rfl)) rfl (by kernel_rfl) rfl (by decide) fun b14 w14 n14 => ?_
        have r14 := n14.row
        have k14 := n14.blk
        have z14 := n14.size
        have lt14 : b14 < w14.heap.size := by omega
        have o15 := r14
        refine lg_stw (want_none (by rfl)) r14 rfl rfl rfl (by kernel_rfl) (by kernel_rfl) rfl rfl fun w15 s15 => ?_
        have r14 := s15.row
        have z15 := s15.size
        refine lsw (want_none (by rfl)) (y_assign rfl rfl) rfl (by decide) ?_
        refine lsw (want_none (by rfl)) (y_assign rfl rfl) rfl (by decide) ?_
        refine lg_nil ?_
        refine nx (E' := [(1, _), (2, _), (3, _), (6, _), (7, _), (8, _), (10, _), (11, _), (12, _)]) (fk rfl (fk rfl (fk rfl (fk rfl (fk rfl (fk rfl (fk rfl (fk rfl (fk rfl fn))))))))) ?_
        refine cg_seq ?_
        refine cg_region ?_
        refine lsw (want_none (by rfl)) (y_move rfl rfl) rfl (by decide) ?_
        refine lsw (want_none (by rfl)) (y_move rfl rfl) rfl (by decide) ?_
        refine lsw (want_none (by rfl)) (y_maskW 65535 (by decide) rfl rfl rfl) rfl (by decide) ?_
        refine lsw (want_none (by rfl)) (y_move rfl rfl) rfl (by decide) ?_
        have m6 := m6.below (l11.mono (by omega))
        have m6 := m6.below (l12.mono (by omega))
        have m6 := m6.below (hw13.mono (by omega))
        have m6 := m6.below (n14.below.mono (by omega))
        have m6 := m6.set o15 rfl s15
        refine lsw (want_none (by rfl)) (y_lenS (el := 5) m6 (by kernel_rfl) rfl rfl) rfl (by decide) ?_
        obtain ⟨k16, ek16, ltk16⟩ : ∃ k : Nat, (maskK cut 65535 : Int) % ((pnPut L).length : Int) = (k : Int) ∧ k < (pnPut L).length := rem_nat _ _ (by omega)
        refine lsw (want_none (by rfl)) (yv (congrArg nv ek16) (yi_rem rfl rfl rfl (by omega) (by omega))) rfl (by decide) ?_
        have cu17 := m6.head (k16) (by have q1 := m6.len; have q2 := m6.cap; omega)
        refine lsw (want_none (by rfl)) (y_cutS_h (s := r6) (hi := (k16 : Int)) (k16) (by omega) (by have q1 := m6.len; have q2 := m6.cap; omega) rfl rfl rfl) rfl (by decide) ?_
        refine lg_callw (want_none (by rfl)) (getP_anyE cu17 (by omega) (pn_short c8 k16 (by omega))) (by kernel_rfl) rfl rfl rfl (by decide) ?_
        rintro _ w18 ⟨l18, r18, rfl, m18, n18, hw18⟩
        have zw18 := hw18.size
        refine lsw (want_none (by rfl)) (y_move rfl rfl) rfl (by decide) ?_
        refine lsw (want_none (by rfl)) (y_extract rfl rfl rfl) rfl (by decide) ?_
        refine lsw (want_none (by rfl)) (y_extract rfl rfl rfl) rfl (by decide) ?_
        refine lsw (want_none (by rfl)) (y_extract rfl rfl rfl) rfl (by decide) ?_
        refine lg_allocw (cs := PnV.zero.cs Pn.zero) (want_none (by rfl)) rfl (by kernel_rfl) rfl (by decide) fun b19 w19 n19 => ?_
        have r19 := n19.row
        have k19 := n19.blk
        have z19 := n19.size
        have lt19 : b19 < w19.heap.size := by omega
        have o20 := r19
        refine lg_stw (want_none (by rfl)) r19 rfl rfl rfl (by kernel_rfl) (by kernel_rfl) rfl rfl fun w20 s20 => ?_
        have r19 := s20.row
        have z20 := s20.size
        refine lsw (want_none (by rfl)) (y_assign rfl rfl) rfl (by decide) ?_
        refine lsw (want_none (by rfl)) (y_assign rfl rfl) rfl (by decide) ?_
        refine lg_nil ?_
        refine nx (E' := [(1, _), (3, _), (6, _), (7, _), (10, _), (11, _), (12, _), (15, _)]) (fk rfl (fk rfl (fk rfl (fk rfl (fk rfl (fk rfl (fk rfl (fk rfl fn)))))))) ?_
        refine cg_seq ?_
        refine cg_region ?_
        refine lsw (want_none (by rfl)) (y_move rfl rfl) rfl (by decide) ?_
        refine lsw (want_none (by rfl)) (y_move rfl rfl) rfl (by decide) ?_
        refine lsw (want_t (dj := 65) (by rfl) (by kernel_rfl) rfl) (y_move rfl rfl) rfl (by decide) ?_
        refine lsw (want_t (dj := 65) (by rfl) (by kernel_rfl) rfl) (yb (decide_eq_true rfl) (yi_eql rfl rfl rfl)) rfl (by decide) ?_
        refine lsw (want_none (by rfl)) (y_pick true rfl rfl rfl) rfl (by decide) ?_
        refine lsw (want_none (by rfl)) (y_move rfl rfl) rfl (by decide) ?_
        have r14 := RowAt.below hw18 r14.lt r14
        have r14 := n19.keep r14
        have r14 := s20.keep r14 (by omega)
        refine lsw (want_t (dj := 69) (by rfl) (by kernel_rfl) rfl) (y_loadA r14 (by kernel_rfl) (by kernel_rfl) rfl rfl) rfl (by decide) ?_
        have r1 := RowAt.below hw7 r1.lt r1
        have r1 := RowAt.below l9 r1.lt r1
        have r1 := RowAt.below l11 (by omega) r1
        have r1 := RowAt.below l12 (by omega) r1
        have r1 := RowAt.below hw13 r1.lt r1
        have r1 := n14.keep r1
        have r1 := s15.keep r1 (by omega)
        have r1 := RowAt.below hw18 r1.lt r1
        have r1 := n19.keep r1
        have r1 := s20.keep r1 (by omega)
        refine lsw (want_t (dj := 69) (by rfl) (by kernel_rfl) rfl) (y_loadA r1 (by kernel_rfl) (by kernel_rfl) rfl rfl) rfl (by decide) ?_
        have m13 := m13.below (n14.below.mono (by omega))
        have m13 := m13.set o15 rfl s15
        have m13 := m13.below (hw18.mono (by omega))
        have m13 := m13.below (n19.below.mono (by omega))
        have m13 := m13.set o20 rfl s20
        have hl := hl.below (hw7.mono (by omega))
        have hl := hl.below (l9.mono (by omega))
        have hl := hl.below (l11.mono (by omega))
        have hl := hl.below (l12.mono (by omega))
        have hl := hl.below (hw13.mono (by omega))
        have hl := hl.below (n14.below.mono (by omega))
        have hl := hl.set o15 rfl s15
        have hl := hl.below (hw18.mono (by omega))
        have hl := hl.below (n19.below.mono (by omega))
        have hl := hl.set o20 rfl s20
        refine lg_callw (want_t (dj := 69) (by rfl) (by kernel_rfl) rfl) (rsame_any (m13.more (B' := w20.heap.size) (by omega)) (hl.more (B' := w20.heap.size) (by omega)) (Nat.le_refl _)) (by kernel_rfl) rfl rfl rfl (by decide) ?_
        rintro u21 w21 ⟨e21, hw21⟩
        have zw21 := hw21.size
        obtain rfl : u21 = .bool true := e21.trans (congrArg Value.bool (decide_eq_true (show PnSame L L from ⟨rfl, rfl, rfl⟩)))
        refine lsw (want_none (by rfl)) (y_pick true rfl rfl rfl) rfl (by decide) ?_
        refine lsw (want_none (by rfl)) (y_move rfl rfl) rfl (by decide) ?_
        refine lsw (want_t (dj := 74) (by rfl) (by kernel_rfl) rfl) (y_move rfl rfl) rfl (by decide) ?_
        have n13 := n13.below (n14.below.mono (by omega))
        have n13 := n13.set o15 rfl s15
        have n13 := n13.below (hw18.mono (by omega))
        have n13 := n13.below (n19.below.mono (by omega))
        have n13 := n13.set o20 rfl s20
        have n13 := n13.below (hw21.mono (by omega))
        have by22 : Bytes ts := n13.bytes
        refine lsw (want_t (dj := 74) (by rfl) (by kernel_rfl) rfl) (y_strS n13 rfl rfl) rfl (by decide) ?_
        refine lsw (want_t (dj := 74) (by rfl) (by kernel_rfl) rfl) (y_move rfl rfl) rfl (by decide) ?_
        have h := h.below (l12.mono (by omega))
        have h := h.below (hw13.mono (by omega))
        have h := h.below (n14.below.mono (by omega))
        have h := h.set o15 rfl s15
        have h := h.below (hw18.mono (by omega))
        have h := h.below (n19.below.mono (by omega))
        have h := h.set o20 rfl s20
        have h := h.below (hw21.mono (by omega))
        have by23 : Bytes ts := h.bytes
        refine lsw (want_t (dj := 74) (by rfl) (by kernel_rfl) rfl) (y_strS h rfl rfl) rfl (by decide) ?_
        refine lsw (want_t (dj := 74) (by rfl) (by kernel_rfl) rfl) (yb (decide_eq_true rfl) (y_seqS (xs := ts) (ys := ts) by22 by23 rfl rfl rfl)) rfl (by decide) ?_
        refine lsw (want_none (by rfl)) (y_pick true rfl rfl rfl) rfl (by decide) ?_
        refine lsw (want_none (by rfl)) (y_move rfl rfl) rfl (by decide) ?_
        refine lsw (want_t (dj := 81) (by rfl) (by kernel_rfl) rfl) (y_move rfl rfl) rfl (by decide) ?_
        refine lsw (want_t (dj := 81) (by rfl) (by kernel_rfl) rfl) (yb (decide_eq_true rfl) (yi_eql rfl rfl rfl)) rfl (by decide) ?_
        refine lsw (want_none (by rfl)) (y_pick true rfl rfl rfl) rfl (by decide) ?_
        refine lsw (want_none (by rfl)) (y_assign rfl rfl) rfl (by decide) ?_
        refine lg_nil ?_
        refine nx (E' := [(6, _)]) (fk rfl fn) ?_
        refine cg_ret ?_
        have u := u.trans (n1.below.mono u.size)
        have u := u.trans (hw2.mono u.size)
        have u := u.trans (hw4.mono u.size)
        have u := u.trans (hw6.mono u.size)
        have u := u.trans (hw7.mono u.size)
        have u := u.trans (l9.mono u.size)
        have u := u.trans (l11.mono (by omega))
        have u := u.trans (l12.mono (by omega))
        have u := u.trans (hw13.mono u.size)
        have u := u.trans (n14.below.mono u.size)
        have u := u.trans (s15.below _ (by omega))
        have u := u.trans (hw18.mono u.size)
        have u := u.trans (n19.below.mono u.size)
        have u := u.trans (s20.below _ (by omega))
        have u := u.trans (hw21.mono u.size)
        exact eg_ret_tmp rfl rfl ⟨_, rfl, rfl, u⟩
      · have e0 := pnPut_no c8
        refine lsw (want_none (by rfl)) (yb (nd_t c8) (yi_neq rfl rfl rfl)) rfl (by decide) ?_
        refine lg_nil ?_
        refine nx (E' := [(1, _), (2, _), (3, _), (6, _), (7, _), (8, _), (30, _)]) (fk rfl (fk rfl (fk rfl (fk rfl (fk rfl (fk rfl (fk rfl fn))))))) ?_
        refine cg_ct rfl ?_
        refine cg_seq ?_
        refine cg_region ?_
        refine lsw (want_none (by rfl)) (y_move rfl rfl) rfl (by decide) ?_
        refine lsw (want_none (by rfl)) (y_move rfl rfl) rfl (by decide) ?_
        refine lsw (want_t (dj := 32) (by rfl) (by kernel_rfl) rfl) (y_move rfl rfl) rfl (by decide) ?_
        have m6 := m6.below (hw7.mono (by omega))
        refine lsw (want_t (dj := 32) (by rfl) (by kernel_rfl) rfl) (y_lenS (el := 5) m6 (by kernel_rfl) rfl rfl) rfl (by decide) ?_
        refine lsw (want_t (dj := 32) (by rfl) (by kernel_rfl) rfl) (yb (decide_eq_true (show ((pnPut L).length : Int) = 0 from (by rw [e0]; rfl))) (yi_eql rfl rfl rfl)) rfl (by decide) ?_
        refine lsw (want_none (by rfl)) (y_pick true rfl rfl rfl) rfl (by decide) ?_
        refine lsw (want_none (by rfl)) (y_assign rfl rfl) rfl (by decide) ?_
        refine lg_nil ?_
        refine nx (E' := [(1, _), (2, _), (3, _), (7, _), (8, _), (6, _)]) (fk rfl (fk rfl (fk rfl (fk rfl (fk rfl (fk rfl fn)))))) ?_
        refine cg_ret ?_
        refine eg_seq_ret ?_
        have u := u.trans (n1.below.mono u.size)
        have u := u.trans (hw2.mono u.size)
        have u := u.trans (hw4.mono u.size)
        have u := u.trans (hw6.mono u.size)
        have u := u.trans (hw7.mono u.size)
        exact eg_ret_tmp rfl rfl ⟨_, rfl, rfl, u⟩
  · refine lg_callw (want_none (by rfl)) (few_any (hl.more (B' := w2.heap.size) (by omega)) (Nat.le_refl _)) (by kernel_rfl) rfl rfl rfl (by decide) ?_
    rintro u24 w24 ⟨e24, hw24⟩
    have zw24 := hw24.size
    obtain rfl : u24 = .bool false := e24.trans (congrArg Value.bool (decide_eq_false c3))
    refine lsw (want_none (by rfl)) (y_bnot rfl rfl) rfl (by decide) ?_
    refine lsw (want_none (by rfl)) (y_move rfl rfl) rfl (by decide) ?_
    refine lsk (want_f (dj := 20) (by rfl) (by kernel_rfl) rfl) rfl (by decide) ?_
    refine lsk (want_f (dj := 20) (by rfl) (by kernel_rfl) rfl) rfl (by decide) ?_
    refine lsk (want_f (dj := 20) (by rfl) (by kernel_rfl) rfl) rfl (by decide) ?_
    refine lsw (want_none (by rfl)) (y_pick true rfl rfl rfl) rfl (by decide) ?_
    refine lg_nil ?_
    refine nx (E' := [(1, _), (2, _), (3, _), (6, _), (7, _), (24, _)]) (fk rfl (fk rfl (fk rfl (fk rfl (fk rfl (fk rfl fn)))))) ?_
    refine cg_ct rfl ?_
    refine cg_seq ?_
    refine cg_region ?_
    refine lsw (want_none (by rfl)) (y_move rfl rfl) rfl (by decide) ?_
    refine lsw (want_none (by rfl)) (y_assign rfl rfl) rfl (by decide) ?_
    refine lg_nil ?_
    refine nx (E' := [(1, _), (2, _), (3, _), (7, _), (6, _)]) (fk rfl (fk rfl (fk rfl (fk rfl (fk rfl fn))))) ?_
    refine cg_ret ?_
    refine eg_seq_ret ?_
    have u := u.trans (n1.below.mono u.size)
    have u := u.trans (hw2.mono u.size)
    have u := u.trans (hw24.mono u.size)
    exact eg_ret_tmp rfl rfl ⟨_, rfl, rfl, u⟩
end Go.Proofs.Ytomjcbjekofkoaa
