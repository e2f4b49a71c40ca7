/-
  What is put is got.
-/
import Derived.Test.YtpmakacjhoemeaaNdAwake
import Derived.Test.YtpmakacjhoemeaaNdRef
namespace Go.Proofs.Ytpmakacjhoemeaa
open Go.ChangeShapes Go.WideShapes Go.ChangeAt Go.RowKit
set_option linter.unusedVariables false

set_option maxHeartbeats 4000000 in
theorem nodeBack_any {W : World} {l : NdV} {L : Nd} (hl : IsNd W W.heap.size l L) {s : SlV} {ts : List Int} (h : Sl W W.heap.size s ts) (cut : Int) : Calls Try.prog 4 #[.agg (l.cs L), s.v, nv cut] W fun e W' => ∃ v, e = .returned v ∧ v = .bool true ∧ Below W.heap.size W W' := by
  refine calls_cg (n := 82) Try.func4 rfl Try.ntmps4 (by simp) ?_
  show CG _ _ _ [(0, .agg (l.cs L)), (1, s.v), (2, nv cut)] _ _
  have u := Below.refl W.heap.size W
  have pos := ndPut_pos L
  refine cg_seq ?_
  refine cg_region ?_
  refine lg_boxw (want_none (by rfl)) rfl rfl (by kernel_rfl) rfl (by decide) fun b1 w1 n1 => ?_
  have r1 := n1.row
  have k1 := n1.blk
  have z1 := n1.size
  have lt1 : b1 < w1.heap.size := by omega
  refine lsw (want_none (by rfl)) (y_assign rfl rfl) rfl (by decide) ?_
  refine lg_nil ?_
  refine nx (E' := [(1, _), (2, _), (3, _), (6, _)]) (fk rfl (fk rfl (fk rfl (fk rfl fn)))) ?_
  refine cg_seq ?_
  refine cg_region ?_
  refine lg_callw (want_none (by rfl)) (awakeN_any _) (by kernel_rfl) rfl rfl rfl (by decide) ?_
  rintro _ w2 ⟨rfl, hw2⟩
  have zw2 := hw2.size
  refine lsw (want_none (by rfl)) (y_assign rfl rfl) rfl (by decide) ?_
  refine lg_nil ?_
  refine nx (E' := [(1, _), (2, _), (3, _), (6, _), (7, _)]) (fk rfl (fk rfl (fk rfl (fk rfl (fk rfl fn))))) ?_
  refine cg_seq ?_
  refine cg_seq ?_
  refine cg_region ?_
  have r1 := RowAt.below hw2 r1.lt r1
  refine lsw (want_none (by rfl)) (y_loadA r1 (by kernel_rfl) (by kernel_rfl) rfl rfl) rfl (by decide) ?_
  have hl := hl.below (n1.below.mono (by omega))
  have hl := hl.below (hw2.mono (by omega))
  by_cases c3 : ndFew L
  · refine lg_callw (want_none (by rfl)) (fewN_any (hl.more (B' := w2.heap.size) (by omega)) (Nat.le_refl _)) (by kernel_rfl) rfl rfl rfl (by decide) ?_
    rintro u4 w4 ⟨e4, hw4⟩
    have zw4 := hw4.size
    obtain rfl : u4 = .bool true := e4.trans (congrArg Value.bool (decide_eq_true c3))
    refine lsw (want_none (by rfl)) (y_bnot rfl rfl) rfl (by decide) ?_
    refine lsw (want_none (by rfl)) (y_move rfl rfl) rfl (by decide) ?_
    refine lsw (want_t (dj := 21) (by rfl) (by kernel_rfl) rfl) (y_move rfl rfl) rfl (by decide) ?_
    have h := h.below (n1.below.mono (by omega))
    have h := h.below (hw2.mono (by omega))
    have h := h.below (hw4.mono (by omega))
    refine lsw (want_t (dj := 21) (by rfl) (by kernel_rfl) rfl) (y_lenS (el := 5) h (by kernel_rfl) rfl rfl) rfl (by decide) ?_
    by_cases c5 : 1000 < (ts.length : Int)
    · refine lsw (want_t (dj := 21) (by rfl) (by kernel_rfl) rfl) (yb (decide_eq_true c5) (yi_gtr rfl rfl rfl)) rfl (by decide) ?_
      refine lsw (want_none (by rfl)) (y_pick false rfl rfl rfl) rfl (by decide) ?_
      refine lg_nil ?_
      refine nx (E' := [(1, _), (2, _), (3, _), (6, _), (7, _), (25, _)]) (fk rfl (fk rfl (fk rfl (fk rfl (fk rfl (fk rfl fn)))))) ?_
      refine cg_ct rfl ?_
      refine cg_seq ?_
      refine cg_region ?_
      refine lsw (want_none (by rfl)) (y_move rfl rfl) rfl (by decide) ?_
      refine lsw (want_none (by rfl)) (y_assign rfl rfl) rfl (by decide) ?_
      refine lg_nil ?_
      refine nx (E' := [(1, _), (2, _), (3, _), (7, _), (6, _)]) (fk rfl (fk rfl (fk rfl (fk rfl (fk rfl fn))))) ?_
      refine cg_ret ?_
      refine eg_seq_ret ?_
      have u := u.trans (n1.below.mono u.size)
      have u := u.trans (hw2.mono u.size)
      have u := u.trans (hw4.mono u.size)
      exact eg_ret_tmp rfl rfl ⟨_, rfl, rfl, u⟩
    · refine lsw (want_t (dj := 21) (by rfl) (by kernel_rfl) rfl) (yb (decide_eq_false c5) (yi_gtr rfl rfl rfl)) rfl (by decide) ?_
      refine lsw (want_none (by rfl)) (y_pick false rfl rfl rfl) rfl (by decide) ?_
      refine lg_nil ?_
      refine nx (E' := [(1, _), (2, _), (3, _), (6, _), (7, _), (25, _)]) (fk rfl (fk rfl (fk rfl (fk rfl (fk rfl (fk rfl fn)))))) ?_
      refine cg_cf rfl ?_
      refine cg_skip ?_
      refine nx (E' := [(1, _), (2, _), (3, _), (6, _), (7, _)]) (fk rfl (fk rfl (fk rfl (fk rfl (fk rfl fn))))) ?_
      refine cg_seq ?_
      refine cg_region ?_
      have r1 := RowAt.below hw4 r1.lt r1
      refine lsw (want_none (by rfl)) (y_loadA r1 (by kernel_rfl) (by kernel_rfl) rfl rfl) rfl (by decide) ?_
      have hl := hl.below (hw4.mono (by omega))
      refine lg_callw (want_none (by rfl)) (putN_any ((Sl.nil _ 0).more (B' := w4.heap.size) (by omega)) (hl.more (B' := w4.heap.size) (by omega)) (Nat.le_refl _) (by first | omega | (simp only [List.length_nil]; omega))) (by kernel_rfl) rfl rfl rfl (by decide) ?_
      rintro _ w6 ⟨r6, rfl, m6, hw6⟩
      have zw6 := hw6.size
      rw [List.nil_append] at m6
      have lp6 := ndPut_le L
      refine lsw (want_none (by rfl)) (y_assign rfl rfl) rfl (by decide) ?_
      refine lg_nil ?_
      refine nx (E' := [(1, _), (2, _), (3, _), (6, _), (7, _), (8, _)]) (fk rfl (fk rfl (fk rfl (fk rfl (fk rfl (fk rfl fn)))))) ?_
      refine cg_seq ?_
      refine cg_seq ?_
      refine cg_region ?_
      refine lsw (want_none (by rfl)) (y_move rfl rfl) rfl (by decide) ?_
      refine lsw (want_none (by rfl)) (y_lenS (el := 5) m6 (by kernel_rfl) rfl rfl) rfl (by decide) ?_
      refine lsw (want_none (by rfl)) (yb (decide_eq_false (show ¬ (((ndPut L).length : Int) = 0) from (by omega))) (yi_eql rfl rfl rfl)) rfl (by decide) ?_
      refine lg_nil ?_
      refine nx (E' := [(1, _), (2, _), (3, _), (6, _), (7, _), (8, _), (31, _)]) (fk rfl (fk rfl (fk rfl (fk rfl (fk rfl (fk rfl (fk rfl fn))))))) ?_
      refine cg_cf rfl ?_
      refine cg_skip ?_
      refine nx (E' := [(1, _), (2, _), (3, _), (6, _), (7, _), (8, _)]) (fk rfl (fk rfl (fk rfl (fk rfl (fk rfl (fk rfl fn)))))) ?_
      refine cg_seq ?_
      refine cg_region ?_
      have r1 := RowAt.below hw6 r1.lt r1
      refine lsw (want_none (by rfl)) (y_loadA r1 (by kernel_rfl) (by kernel_rfl) rfl rfl) rfl (by decide) ?_
      refine lg_allocw (cs := NdV.zero.cs Nd.zero) (want_none (by rfl)) rfl (by kernel_rfl) rfl (by decide) fun b7 w7 n7 => ?_
      have r7 := n7.row
      have k7 := n7.blk
      have z7 := n7.size
      have lt7 : b7 < w7.heap.size := by omega
      have o8 := r7
      refine lg_stw (want_none (by rfl)) r7 rfl rfl rfl (by kernel_rfl) (by kernel_rfl) rfl rfl fun w8 s8 => ?_
      have r7 := s8.row
      have z8 := s8.size
      refine lg_nil ?_
      refine nx (E' := [(1, _), (2, _), (3, _), (6, _), (7, _), (8, _), (9, _)]) (fk rfl (fk rfl (fk rfl (fk rfl (fk rfl (fk rfl (fk rfl fn))))))) ?_
      refine cg_seq ?_
      refine cg_seq ?_
      refine cg_region ?_
      have r1 := n7.keep r1
      have r1 := s8.keep r1 (by omega)
      refine lsw (want_none (by rfl)) (y_loadA r1 (by kernel_rfl) (by kernel_rfl) rfl rfl) rfl (by decide) ?_
      have hl := hl.below (hw6.mono (by omega))
      have hl := hl.below (n7.below.mono (by omega))
      have hl := hl.below (s8.below _ (by omega))
      refine lg_callw (want_none (by rfl)) (checkN_any (hl.more (B' := w8.heap.size) (by omega)) (Nat.le_refl _)) (by kernel_rfl) rfl rfl rfl (by decide) ?_
      rintro _ w9 ⟨rfl, hw9⟩
      have zw9 := hw9.size
      by_cases c10 : (ndCheck L) = 0
      · refine lsw (want_none (by rfl)) (yb (nd_f c10) (yi_neq rfl rfl rfl)) rfl (by decide) ?_
        refine lg_nil ?_
        refine nx (E' := [(1, _), (2, _), (6, _), (7, _), (8, _), (9, _), (35, _)]) (fk rfl (fk rfl (fk rfl (fk rfl (fk rfl (fk rfl (fk rfl fn))))))) ?_
        refine cg_cf rfl ?_
        refine cg_skip ?_
        refine nx (E' := [(1, _), (2, _), (6, _), (7, _), (8, _), (9, _)]) (fk rfl (fk rfl (fk rfl (fk rfl (fk rfl (fk rfl fn)))))) ?_
        refine cg_seq ?_
        refine cg_region ?_
        obtain ⟨bs12, hbs12⟩ : ∃ q, q = w9.heap.size := ⟨_, rfl⟩
        refine lg_bs0 (want_none (by rfl)) rfl rfl (by decide) fun v11 w11 g11 l11 => ?_
        rw [← hbs12] at g11
        have z11 := l11.size
        refine lsw (want_none (by rfl)) (y_move rfl rfl) rfl (by decide) ?_
        have m6 := m6.below (n7.below.mono (by omega))
        have m6 := m6.set o8 rfl s8
        have m6 := m6.below (hw9.mono (by omega))
        have m6 := m6.below (l11.mono (by omega))
        refine lg_appS g11 Bytes.nil m6 (by first | omega | (simp only [List.length_nil]; omega)) (by omega) (want_none (by rfl)) rfl rfl rfl rfl rfl (by decide) fun r13 w13 m13 g13 l13 z13 => ?_
        simp only [List.nil_append] at m13 g13
        refine lsw (want_none (by rfl)) (y_assign rfl rfl) rfl (by decide) ?_
        refine lg_nil ?_
        refine nx (E' := [(1, _), (2, _), (6, _), (7, _), (8, _), (9, _), (10, _)]) (fk rfl (fk rfl (fk rfl (fk rfl (fk rfl (fk rfl (fk rfl fn))))))) ?_
        refine cg_seq ?_
        refine cg_region ?_
        refine lsw (want_none (by rfl)) (y_move rfl rfl) rfl (by decide) ?_
        refine lsw (want_none (by rfl)) (y_move rfl rfl) rfl (by decide) ?_
        have h := h.below (hw6.mono (by omega))
        have h := h.below (n7.below.mono (by omega))
        have h := h.set o8 rfl s8
        have h := h.below (hw9.mono (by omega))
        have h := h.below (l11.mono (by omega))
        have h := h.below (l13.mono (by omega))
        refine lg_appS g13 m13.bytes h (by first | omega | (simp only [List.length_append, List.length_nil]; omega)) (by omega) (want_none (by rfl)) rfl rfl rfl rfl rfl (by decide) fun r14 w14 m14 g14 l14 z14 => ?_
        refine lsw (want_none (by rfl)) (y_assign rfl rfl) rfl (by decide) ?_
        refine lg_nil ?_
        refine nx (E' := [(1, _), (2, _), (6, _), (7, _), (8, _), (9, _), (10, _)]) (fk rfl (fk rfl (fk rfl (fk rfl (fk rfl (fk rfl (fk rfl fn))))))) ?_
        refine cg_seq ?_
        refine cg_region ?_
        refine lsw (want_none (by rfl)) (y_move rfl rfl) rfl (by decide) ?_
        refine lg_callw (want_none (by rfl)) (getN_anyE m14 (by omega) (nd_backOk c10 ts)) (by kernel_rfl) rfl rfl rfl (by decide) ?_
        rintro _ w15 ⟨l15, r15, rfl, m15, n15, f15, hw15⟩
        have zw15 := hw15.size
        refine lsw (want_none (by rfl)) (y_move rfl rfl) rfl (by decide) ?_
        refine lsw (want_none (by rfl)) (y_extract rfl rfl rfl) rfl (by decide) ?_
        refine lsw (want_none (by rfl)) (y_extract rfl rfl rfl) rfl (by decide) ?_
        refine lsw (want_none (by rfl)) (y_extract rfl rfl rfl) rfl (by decide) ?_
        refine lg_allocw (cs := NdV.zero.cs Nd.zero) (want_none (by rfl)) rfl (by kernel_rfl) rfl (by decide) fun b16 w16 n16 => ?_
        have r16 := n16.row
        have k16 := n16.blk
        have z16 := n16.size
        have lt16 : b16 < w16.heap.size := by omega
        have o17 := r16
        refine lg_stw (want_none (by rfl)) r16 rfl rfl rfl (by kernel_rfl) (by kernel_rfl) rfl rfl fun w17 s17 => ?_
        have r16 := s17.row
        have z17 := s17.size
        refine lsw (want_none (by rfl)) (y_assign rfl rfl) rfl (by decide) ?_
        refine lsw (want_none (by rfl)) (y_assign rfl rfl) rfl (by decide) ?_
        refine lg_nil ?_
        refine nx (E' := [(1, _), (2, _), (6, _), (7, _), (8, _), (9, _), (11, _), (12, _), (13, _)]) (fk rfl (fk rfl (fk rfl (fk rfl (fk rfl (fk rfl (fk rfl (fk rfl (fk rfl fn))))))))) ?_
        refine cg_seq ?_
        refine cg_region ?_
        refine lsw (want_none (by rfl)) (y_move rfl rfl) rfl (by decide) ?_
        refine lsw (want_none (by rfl)) (y_move rfl rfl) rfl (by decide) ?_
        refine lsw (want_none (by rfl)) (y_maskW 65535 (by decide) rfl rfl rfl) rfl (by decide) ?_
        refine lsw (want_none (by rfl)) (y_move rfl rfl) rfl (by decide) ?_
        have m6 := m6.below (l13.mono (by omega))
        have m6 := m6.below (l14.mono (by omega))
        have m6 := m6.below (hw15.mono (by omega))
        have m6 := m6.below (n16.below.mono (by omega))
        have m6 := m6.set o17 rfl s17
        refine lsw (want_none (by rfl)) (y_lenS (el := 5) m6 (by kernel_rfl) rfl rfl) rfl (by decide) ?_
        obtain ⟨k18, ek18, ltk18⟩ : ∃ k : Nat, (maskK cut 65535 : Int) % ((ndPut L).length : Int) = (k : Int) ∧ k < (ndPut L).length := rem_nat _ _ (by omega)
        refine lsw (want_none (by rfl)) (yv (congrArg nv ek18) (yi_rem rfl rfl rfl (by omega) (by omega))) rfl (by decide) ?_
        have cu19 := m6.head (k18) (by have q1 := m6.len; have q2 := m6.cap; omega)
        refine lsw (want_none (by rfl)) (y_cutS_h (s := r6) (hi := (k18 : Int)) (k18) (by omega) (by have q1 := m6.len; have q2 := m6.cap; omega) rfl rfl rfl) rfl (by decide) ?_
        refine lg_callw (want_none (by rfl)) (getN_anyE cu19 (by omega) (nd_short L k18 (by omega))) (by kernel_rfl) rfl rfl rfl (by decide) ?_
        rintro _ w20 ⟨l20, r20, rfl, m20, n20, f20, hw20⟩
        have zw20 := hw20.size
        refine lsw (want_none (by rfl)) (y_move rfl rfl) rfl (by decide) ?_
        refine lsw (want_none (by rfl)) (y_extract rfl rfl rfl) rfl (by decide) ?_
        refine lsw (want_none (by rfl)) (y_extract rfl rfl rfl) rfl (by decide) ?_
        refine lsw (want_none (by rfl)) (y_extract rfl rfl rfl) rfl (by decide) ?_
        refine lg_allocw (cs := NdV.zero.cs Nd.zero) (want_none (by rfl)) rfl (by kernel_rfl) rfl (by decide) fun b21 w21 n21 => ?_
        have r21 := n21.row
        have k21 := n21.blk
        have z21 := n21.size
        have lt21 : b21 < w21.heap.size := by omega
        have o22 := r21
        refine lg_stw (want_none (by rfl)) r21 rfl rfl rfl (by kernel_rfl) (by kernel_rfl) rfl rfl fun w22 s22 => ?_
        have r21 := s22.row
        have z22 := s22.size
        refine lsw (want_none (by rfl)) (y_assign rfl rfl) rfl (by decide) ?_
        refine lsw (want_none (by rfl)) (y_assign rfl rfl) rfl (by decide) ?_
        refine lg_nil ?_
        refine nx (E' := [(1, _), (6, _), (7, _), (9, _), (11, _), (12, _), (13, _), (16, _)]) (fk rfl (fk rfl (fk rfl (fk rfl (fk rfl (fk rfl (fk rfl (fk rfl fn)))))))) ?_
        refine cg_seq ?_
        refine cg_region ?_
        refine lsw (want_none (by rfl)) (y_move rfl rfl) rfl (by decide) ?_
        refine lsw (want_none (by rfl)) (y_move rfl rfl) rfl (by decide) ?_
        refine lsw (want_t (dj := 62) (by rfl) (by kernel_rfl) rfl) (y_move rfl rfl) rfl (by decide) ?_
        refine lsw (want_t (dj := 62) (by rfl) (by kernel_rfl) rfl) (yb (decide_eq_true rfl) (yi_eql rfl rfl rfl)) rfl (by decide) ?_
        refine lsw (want_none (by rfl)) (y_pick true rfl rfl rfl) rfl (by decide) ?_
        refine lsw (want_none (by rfl)) (y_move rfl rfl) rfl (by decide) ?_
        have r16 := RowAt.below hw20 r16.lt r16
        have r16 := n21.keep r16
        have r16 := s22.keep r16 (by omega)
        refine lsw (want_t (dj := 66) (by rfl) (by kernel_rfl) rfl) (y_loadA r16 (by kernel_rfl) (by kernel_rfl) rfl rfl) rfl (by decide) ?_
        have r7 := RowAt.below hw9 r7.lt r7
        have r7 := RowAt.below l11 r7.lt r7
        have r7 := RowAt.below l13 (by omega) r7
        have r7 := RowAt.below l14 (by omega) r7
        have r7 := RowAt.below hw15 r7.lt r7
        have r7 := n16.keep r7
        have r7 := s17.keep r7 (by omega)
        have r7 := RowAt.below hw20 r7.lt r7
        have r7 := n21.keep r7
        have r7 := s22.keep r7 (by omega)
        refine lsw (want_t (dj := 66) (by rfl) (by kernel_rfl) rfl) (y_loadA r7 (by kernel_rfl) (by kernel_rfl) rfl rfl) rfl (by decide) ?_
        have m15 := m15.below (n16.below.mono (by omega))
        have m15 := m15.below (s17.below _ (by omega))
        have m15 := m15.below (hw20.mono (by omega))
        have m15 := m15.below (n21.below.mono (by omega))
        have m15 := m15.below (s22.below _ (by omega))
        have hl := hl.below (hw9.mono (by omega))
        have hl := hl.below (l11.mono (by omega))
        have hl := hl.below (l13.mono (by omega))
        have hl := hl.below (l14.mono (by omega))
        have hl := hl.below (hw15.mono (by omega))
        have hl := hl.below (n16.below.mono (by omega))
        have hl := hl.below (s17.below _ (by omega))
        have hl := hl.below (hw20.mono (by omega))
        have hl := hl.below (n21.below.mono (by omega))
        have hl := hl.below (s22.below _ (by omega))
        refine lg_callw (want_t (dj := 66) (by rfl) (by kernel_rfl) rfl) (rsameN_any (m15.more (B' := w22.heap.size) (by omega)) (hl.more (B' := w22.heap.size) (by omega)) (Nat.le_refl _)) (by kernel_rfl) rfl rfl rfl (by decide) ?_
        rintro u23 w23 ⟨e23, hw23⟩
        have zw23 := hw23.size
        obtain rfl : u23 = .bool true := e23.trans (congrArg Value.bool (decide_eq_true (show NdSame L L from (nd_same _))))
        refine lsw (want_none (by rfl)) (y_pick true rfl rfl rfl) rfl (by decide) ?_
        refine lsw (want_none (by rfl)) (y_move rfl rfl) rfl (by decide) ?_
        refine lsw (want_t (dj := 71) (by rfl) (by kernel_rfl) rfl) (y_move rfl rfl) rfl (by decide) ?_
        have n15 := n15.below (n16.below.mono (by omega))
        have n15 := n15.set o17 rfl s17
        have n15 := n15.below (hw20.mono (by omega))
        have n15 := n15.below (n21.below.mono (by omega))
        have n15 := n15.set o22 rfl s22
        have n15 := n15.below (hw23.mono (by omega))
        have by24 : Bytes ts := n15.bytes
        refine lsw (want_t (dj := 71) (by rfl) (by kernel_rfl) rfl) (y_strS n15 rfl rfl) rfl (by decide) ?_
        refine lsw (want_t (dj := 71) (by rfl) (by kernel_rfl) rfl) (y_move rfl rfl) rfl (by decide) ?_
        have h := h.below (l14.mono (by omega))
        have h := h.below (hw15.mono (by omega))
        have h := h.below (n16.below.mono (by omega))
        have h := h.set o17 rfl s17
        have h := h.below (hw20.mono (by omega))
        have h := h.below (n21.below.mono (by omega))
        have h := h.set o22 rfl s22
        have h := h.below (hw23.mono (by omega))
        have by25 : Bytes ts := h.bytes
        refine lsw (want_t (dj := 71) (by rfl) (by kernel_rfl) rfl) (y_strS h rfl rfl) rfl (by decide) ?_
        refine lsw (want_t (dj := 71) (by rfl) (by kernel_rfl) rfl) (yb (decide_eq_true rfl) (y_seqS (xs := ts) (ys := ts) by24 by25 rfl rfl rfl)) rfl (by decide) ?_
        refine lsw (want_none (by rfl)) (y_pick true rfl rfl rfl) rfl (by decide) ?_
        refine lsw (want_none (by rfl)) (y_move rfl rfl) rfl (by decide) ?_
        refine lsw (want_t (dj := 78) (by rfl) (by kernel_rfl) rfl) (y_move rfl rfl) rfl (by decide) ?_
        refine lsw (want_t (dj := 78) (by rfl) (by kernel_rfl) rfl) (yb (decide_eq_true rfl) (yi_eql rfl rfl rfl)) rfl (by decide) ?_
        refine lsw (want_none (by rfl)) (y_pick true rfl rfl rfl) rfl (by decide) ?_
        refine lsw (want_none (by rfl)) (y_assign rfl rfl) rfl (by decide) ?_
        refine lg_nil ?_
        refine nx (E' := [(6, _)]) (fk rfl fn) ?_
        refine cg_ret ?_
        have u := u.trans (n1.below.mono u.size)
        have u := u.trans (hw2.mono u.size)
        have u := u.trans (hw4.mono u.size)
        have u := u.trans (hw6.mono u.size)
        have u := u.trans (n7.below.mono u.size)
        have u := u.trans (s8.below _ (by omega))
        have u := u.trans (hw9.mono u.size)
        have u := u.trans (l11.mono u.size)
        have u := u.trans (l13.mono (by omega))
        have u := u.trans (l14.mono (by omega))
        have u := u.trans (hw15.mono u.size)
        have u := u.trans (n16.below.mono u.size)
        have u := u.trans (s17.below _ (by omega))
        have u := u.trans (hw20.mono u.size)
        have u := u.trans (n21.below.mono u.size)
        have u := u.trans (s22.below _ (by omega))
        have u := u.trans (hw23.mono u.size)
        exact eg_ret_tmp rfl rfl ⟨_, rfl, rfl, u⟩
      · refine lsw (want_none (by rfl)) (yb (nd_t c10) (yi_neq rfl rfl rfl)) rfl (by decide) ?_
        refine lg_nil ?_
        refine nx (E' := [(1, _), (2, _), (6, _), (7, _), (8, _), (9, _), (35, _)]) (fk rfl (fk rfl (fk rfl (fk rfl (fk rfl (fk rfl (fk rfl fn))))))) ?_
        refine cg_ct rfl ?_
        refine cg_region ?_
        refine lsw (want_none (by rfl)) (y_build (cs := NdV.zero.cs Nd.zero) rfl rfl (by kernel_rfl)) rfl (by decide) ?_
        have r7 := RowAt.below hw9 r7.lt r7
        have o26 := r7
        refine lg_stw (want_none (by rfl)) r7 rfl rfl rfl (by kernel_rfl) (by kernel_rfl) rfl rfl fun w26 s26 => ?_
        have r7 := s26.row
        have z26 := s26.size
        refine lg_nil ?_
        refine nx (E' := [(1, _), (2, _), (6, _), (7, _), (8, _), (9, _)]) (fk rfl (fk rfl (fk rfl (fk rfl (fk rfl (fk rfl fn)))))) ?_
        refine cg_seq ?_
        refine cg_region ?_
        obtain ⟨bs28, hbs28⟩ : ∃ q, q = w26.heap.size := ⟨_, rfl⟩
        refine lg_bs0 (want_none (by rfl)) rfl rfl (by decide) fun v27 w27 g27 l27 => ?_
        rw [← hbs28] at g27
        have z27 := l27.size
        refine lsw (want_none (by rfl)) (y_move rfl rfl) rfl (by decide) ?_
        have m6 := m6.below (n7.below.mono (by omega))
        have m6 := m6.set o8 rfl s8
        have m6 := m6.below (hw9.mono (by omega))
        have m6 := m6.set o26 rfl s26
        have m6 := m6.below (l27.mono (by omega))
        refine lg_appS g27 Bytes.nil m6 (by first | omega | (simp only [List.length_nil]; omega)) (by omega) (want_none (by rfl)) rfl rfl rfl rfl rfl (by decide) fun r29 w29 m29 g29 l29 z29 => ?_
        simp only [List.nil_append] at m29 g29
        refine lsw (want_none (by rfl)) (y_assign rfl rfl) rfl (by decide) ?_
        refine lg_nil ?_
        refine nx (E' := [(1, _), (2, _), (6, _), (7, _), (8, _), (9, _), (10, _)]) (fk rfl (fk rfl (fk rfl (fk rfl (fk rfl (fk rfl (fk rfl fn))))))) ?_
        refine cg_seq ?_
        refine cg_region ?_
        refine lsw (want_none (by rfl)) (y_move rfl rfl) rfl (by decide) ?_
        refine lsw (want_none (by rfl)) (y_move rfl rfl) rfl (by decide) ?_
        have h := h.below (hw6.mono (by omega))
        have h := h.below (n7.below.mono (by omega))
        have h := h.set o8 rfl s8
        have h := h.below (hw9.mono (by omega))
        have h := h.set o26 rfl s26
        have h := h.below (l27.mono (by omega))
        have h := h.below (l29.mono (by omega))
        refine lg_appS g29 m29.bytes h (by first | omega | (simp only [List.length_append, List.length_nil]; omega)) (by omega) (want_none (by rfl)) rfl rfl rfl rfl rfl (by decide) fun r30 w30 m30 g30 l30 z30 => ?_
        refine lsw (want_none (by rfl)) (y_assign rfl rfl) rfl (by decide) ?_
        refine lg_nil ?_
        refine nx (E' := [(1, _), (2, _), (6, _), (7, _), (8, _), (9, _), (10, _)]) (fk rfl (fk rfl (fk rfl (fk rfl (fk rfl (fk rfl (fk rfl fn))))))) ?_
        refine cg_seq ?_
        refine cg_region ?_
        refine lsw (want_none (by rfl)) (y_move rfl rfl) rfl (by decide) ?_
        refine lg_callw (want_none (by rfl)) (getN_anyE m30 (by omega) (nd_backNo c10 ts)) (by kernel_rfl) rfl rfl rfl (by decide) ?_
        rintro _ w31 ⟨l31, r31, rfl, m31, n31, f31, hw31⟩
        have zw31 := hw31.size
        refine lsw (want_none (by rfl)) (y_move rfl rfl) rfl (by decide) ?_
        refine lsw (want_none (by rfl)) (y_extract rfl rfl rfl) rfl (by decide) ?_
        refine lsw (want_none (by rfl)) (y_extract rfl rfl rfl) rfl (by decide) ?_
        refine lsw (want_none (by rfl)) (y_extract rfl rfl rfl) rfl (by decide) ?_
        refine lg_allocw (cs := NdV.zero.cs Nd.zero) (want_none (by rfl)) rfl (by kernel_rfl) rfl (by decide) fun b32 w32 n32 => ?_
        have r32 := n32.row
        have k32 := n32.blk
        have z32 := n32.size
        have lt32 : b32 < w32.heap.size := by omega
        have o33 := r32
        refine lg_stw (want_none (by rfl)) r32 rfl rfl rfl (by kernel_rfl) (by kernel_rfl) rfl rfl fun w33 s33 => ?_
        have r32 := s33.row
        have z33 := s33.size
        refine lsw (want_none (by rfl)) (y_assign rfl rfl) rfl (by decide) ?_
        refine lsw (want_none (by rfl)) (y_assign rfl rfl) rfl (by decide) ?_
        refine lg_nil ?_
        refine nx (E' := [(1, _), (2, _), (6, _), (7, _), (8, _), (9, _), (11, _), (12, _), (13, _)]) (fk rfl (fk rfl (fk rfl (fk rfl (fk rfl (fk rfl (fk rfl (fk rfl (fk rfl fn))))))))) ?_
        refine cg_seq ?_
        refine cg_region ?_
        refine lsw (want_none (by rfl)) (y_move rfl rfl) rfl (by decide) ?_
        refine lsw (want_none (by rfl)) (y_move rfl rfl) rfl (by decide) ?_
        refine lsw (want_none (by rfl)) (y_maskW 65535 (by decide) rfl rfl rfl) rfl (by decide) ?_
        refine lsw (want_none (by rfl)) (y_move rfl rfl) rfl (by decide) ?_
        have m6 := m6.below (l29.mono (by omega))
        have m6 := m6.below (l30.mono (by omega))
        have m6 := m6.below (hw31.mono (by omega))
        have m6 := m6.below (n32.below.mono (by omega))
        have m6 := m6.set o33 rfl s33
        refine lsw (want_none (by rfl)) (y_lenS (el := 5) m6 (by kernel_rfl) rfl rfl) rfl (by decide) ?_
        obtain ⟨k34, ek34, ltk34⟩ : ∃ k : Nat, (maskK cut 65535 : Int) % ((ndPut L).length : Int) = (k : Int) ∧ k < (ndPut L).length := rem_nat _ _ (by omega)
        refine lsw (want_none (by rfl)) (yv (congrArg nv ek34) (yi_rem rfl rfl rfl (by omega) (by omega))) rfl (by decide) ?_
        have cu35 := m6.head (k34) (by have q1 := m6.len; have q2 := m6.cap; omega)
        refine lsw (want_none (by rfl)) (y_cutS_h (s := r6) (hi := (k34 : Int)) (k34) (by omega) (by have q1 := m6.len; have q2 := m6.cap; omega) rfl rfl rfl) rfl (by decide) ?_
        refine lg_callw (want_none (by rfl)) (getN_anyE cu35 (by omega) (nd_short L k34 (by omega))) (by kernel_rfl) rfl rfl rfl (by decide) ?_
        rintro _ w36 ⟨l36, r36, rfl, m36, n36, f36, hw36⟩
        have zw36 := hw36.size
        refine lsw (want_none (by rfl)) (y_move rfl rfl) rfl (by decide) ?_
        refine lsw (want_none (by rfl)) (y_extract rfl rfl rfl) rfl (by decide) ?_
        refine lsw (want_none (by rfl)) (y_extract rfl rfl rfl) rfl (by decide) ?_
        refine lsw (want_none (by rfl)) (y_extract rfl rfl rfl) rfl (by decide) ?_
        refine lg_allocw (cs := NdV.zero.cs Nd.zero) (want_none (by rfl)) rfl (by kernel_rfl) rfl (by decide) fun b37 w37 n37 => ?_
        have r37 := n37.row
        have k37 := n37.blk
        have z37 := n37.size
        have lt37 : b37 < w37.heap.size := by omega
        have o38 := r37
        refine lg_stw (want_none (by rfl)) r37 rfl rfl rfl (by kernel_rfl) (by kernel_rfl) rfl rfl fun w38 s38 => ?_
        have r37 := s38.row
        have z38 := s38.size
        refine lsw (want_none (by rfl)) (y_assign rfl rfl) rfl (by decide) ?_
        refine lsw (want_none (by rfl)) (y_assign rfl rfl) rfl (by decide) ?_
        refine lg_nil ?_
        refine nx (E' := [(1, _), (6, _), (7, _), (9, _), (11, _), (12, _), (13, _), (16, _)]) (fk rfl (fk rfl (fk rfl (fk rfl (fk rfl (fk rfl (fk rfl (fk rfl fn)))))))) ?_
        refine cg_seq ?_
        refine cg_region ?_
        refine lsw (want_none (by rfl)) (y_move rfl rfl) rfl (by decide) ?_
        refine lsw (want_none (by rfl)) (y_move rfl rfl) rfl (by decide) ?_
        refine lsw (want_t (dj := 62) (by rfl) (by kernel_rfl) rfl) (y_move rfl rfl) rfl (by decide) ?_
        refine lsw (want_t (dj := 62) (by rfl) (by kernel_rfl) rfl) (yb (decide_eq_true rfl) (yi_eql rfl rfl rfl)) rfl (by decide) ?_
        refine lsw (want_none (by rfl)) (y_pick true rfl rfl rfl) rfl (by decide) ?_
        refine lsw (want_none (by rfl)) (y_move rfl rfl) rfl (by decide) ?_
        have r32 := RowAt.below hw36 r32.lt r32
        have r32 := n37.keep r32
        have r32 := s38.keep r32 (by omega)
        refine lsw (want_t (dj := 66) (by rfl) (by kernel_rfl) rfl) (y_loadA r32 (by kernel_rfl) (by kernel_rfl) rfl rfl) rfl (by decide) ?_
        have r7 := RowAt.below l27 r7.lt r7
        have r7 := RowAt.below l29 (by omega) r7
        have r7 := RowAt.below l30 (by omega) r7
        have r7 := RowAt.below hw31 r7.lt r7
        have r7 := n32.keep r7
        have r7 := s33.keep r7 (by omega)
        have r7 := RowAt.below hw36 r7.lt r7
        have r7 := n37.keep r7
        have r7 := s38.keep r7 (by omega)
        refine lsw (want_t (dj := 66) (by rfl) (by kernel_rfl) rfl) (y_loadA r7 (by kernel_rfl) (by kernel_rfl) rfl rfl) rfl (by decide) ?_
        have m31 := m31.below (n32.below.mono (by omega))
        have m31 := m31.below (s33.below _ (by omega))
        have m31 := m31.below (hw36.mono (by omega))
        have m31 := m31.below (n37.below.mono (by omega))
        have m31 := m31.below (s38.below _ (by omega))
        refine lg_callw (want_t (dj := 66) (by rfl) (by kernel_rfl) rfl) (rsameN_any (m31.more (B' := w38.heap.size) (by omega)) ((IsNd.zero _ 0).more (B' := w38.heap.size) (by omega)) (Nat.le_refl _)) (by kernel_rfl) rfl rfl rfl (by decide) ?_
        rintro u39 w39 ⟨e39, hw39⟩
        have zw39 := hw39.size
        obtain rfl : u39 = .bool true := e39.trans (congrArg Value.bool (decide_eq_true (show NdSame Nd.zero Nd.zero from (nd_same _))))
        refine lsw (want_none (by rfl)) (y_pick true rfl rfl rfl) rfl (by decide) ?_
        refine lsw (want_none (by rfl)) (y_move rfl rfl) rfl (by decide) ?_
        refine lsw (want_t (dj := 71) (by rfl) (by kernel_rfl) rfl) (y_move rfl rfl) rfl (by decide) ?_
        have n31 := n31.below (n32.below.mono (by omega))
        have n31 := n31.set o33 rfl s33
        have n31 := n31.below (hw36.mono (by omega))
        have n31 := n31.below (n37.below.mono (by omega))
        have n31 := n31.set o38 rfl s38
        have n31 := n31.below (hw39.mono (by omega))
        have by40 : Bytes ts := n31.bytes
        refine lsw (want_t (dj := 71) (by rfl) (by kernel_rfl) rfl) (y_strS n31 rfl rfl) rfl (by decide) ?_
        refine lsw (want_t (dj := 71) (by rfl) (by kernel_rfl) rfl) (y_move rfl rfl) rfl (by decide) ?_
        have h := h.below (l30.mono (by omega))
        have h := h.below (hw31.mono (by omega))
        have h := h.below (n32.below.mono (by omega))
        have h := h.set o33 rfl s33
        have h := h.below (hw36.mono (by omega))
        have h := h.below (n37.below.mono (by omega))
        have h := h.set o38 rfl s38
        have h := h.below (hw39.mono (by omega))
        have by41 : Bytes ts := h.bytes
        refine lsw (want_t (dj := 71) (by rfl) (by kernel_rfl) rfl) (y_strS h rfl rfl) rfl (by decide) ?_
        refine lsw (want_t (dj := 71) (by rfl) (by kernel_rfl) rfl) (yb (decide_eq_true rfl) (y_seqS (xs := ts) (ys := ts) by40 by41 rfl rfl rfl)) rfl (by decide) ?_
        refine lsw (want_none (by rfl)) (y_pick true rfl rfl rfl) rfl (by decide) ?_
        refine lsw (want_none (by rfl)) (y_move rfl rfl) rfl (by decide) ?_
        refine lsw (want_t (dj := 78) (by rfl) (by kernel_rfl) rfl) (y_move rfl rfl) rfl (by decide) ?_
        refine lsw (want_t (dj := 78) (by rfl) (by kernel_rfl) rfl) (yb (decide_eq_true rfl) (yi_eql rfl rfl rfl)) rfl (by decide) ?_
        refine lsw (want_none (by rfl)) (y_pick true rfl rfl rfl) rfl (by decide) ?_
        refine lsw (want_none (by rfl)) (y_assign rfl rfl) rfl (by decide) ?_
        refine lg_nil ?_
        refine nx (E' := [(6, _)]) (fk rfl fn) ?_
        refine cg_ret ?_
        have u := u.trans (n1.below.mono u.size)
        have u := u.trans (hw2.mono u.size)
        have u := u.trans (hw4.mono u.size)
        have u := u.trans (hw6.mono u.size)
        have u := u.trans (n7.below.mono u.size)
        have u := u.trans (s8.below _ (by omega))
        have u := u.trans (hw9.mono u.size)
        have u := u.trans (s26.below _ (by omega))
        have u := u.trans (l27.mono u.size)
        have u := u.trans (l29.mono (by omega))
        have u := u.trans (l30.mono (by omega))
        have u := u.trans (hw31.mono u.size)
        have u := u.trans (n32.below.mono u.size)
        have u := u.trans (s33.below _ (by omega))
        have u := u.trans (hw36.mono u.size)
        have u := u.trans (n37.below.mono u.size)
        have u := u.trans (s38.below _ (by omega))
        have u := u.trans (hw39.mono u.size)
        exact eg_ret_tmp rfl rfl ⟨_, rfl, rfl, u⟩
  · refine lg_callw (want_none (by rfl)) (fewN_any (hl.more (B' := w2.heap.size) (by omega)) (Nat.le_refl _)) (by kernel_rfl) rfl rfl rfl (by decide) ?_
    rintro u42 w42 ⟨e42, hw42⟩
    have zw42 := hw42.size
    obtain rfl : u42 = .bool false := e42.trans (congrArg Value.bool (decide_eq_false c3))
    refine lsw (want_none (by rfl)) (y_bnot rfl rfl) rfl (by decide) ?_
    refine lsw (want_none (by rfl)) (y_move rfl rfl) rfl (by decide) ?_
    refine lsk (want_f (dj := 21) (by rfl) (by kernel_rfl) rfl) rfl (by decide) ?_
    refine lsk (want_f (dj := 21) (by rfl) (by kernel_rfl) rfl) rfl (by decide) ?_
    refine lsk (want_f (dj := 21) (by rfl) (by kernel_rfl) rfl) rfl (by decide) ?_
    refine lsw (want_none (by rfl)) (y_pick true rfl rfl rfl) rfl (by decide) ?_
    refine lg_nil ?_
    refine nx (E' := [(1, _), (2, _), (3, _), (6, _), (7, _), (25, _)]) (fk rfl (fk rfl (fk rfl (fk rfl (fk rfl (fk rfl fn)))))) ?_
    refine cg_ct rfl ?_
    refine cg_seq ?_
    refine cg_region ?_
    refine lsw (want_none (by rfl)) (y_move rfl rfl) rfl (by decide) ?_
    refine lsw (want_none (by rfl)) (y_assign rfl rfl) rfl (by decide) ?_
    refine lg_nil ?_
    refine nx (E' := [(1, _), (2, _), (3, _), (7, _), (6, _)]) (fk rfl (fk rfl (fk rfl (fk rfl (fk rfl fn))))) ?_
    refine cg_ret ?_
    refine eg_seq_ret ?_
    have u := u.trans (n1.below.mono u.size)
    have u := u.trans (hw2.mono u.size)
    have u := u.trans (hw42.mono u.size)
    exact eg_ret_tmp rfl rfl ⟨_, rfl, rfl, u⟩
end Go.Proofs.Ytpmakacjhoemeaa
