/-
  Trees stay trees.
-/
import Derived.Test.YtpoonjgkgaodmaaDoorTrAwake
import Derived.Test.YtpoonjgkgaodmaaDoorTrClr
namespace Go.Proofs.YtpoonjgkgaodmaaDoor
open Go.ChangeShapes Go.WideShapes Go.ChangeAt Go.RowKit
set_option linter.unusedVariables false

theorem clearL_nil {a : List Nd} {i : Int} (h : ¬ clearE a i = 0) : clearL a i = [] := if_neg h
theorem trIs_clearL (a : List Nd) (i : Int) : trIs (clearL a i) := by
  by_cases h : clearE a i = 0
  · rw [clearL_ok h]
    exact clr_is _ (trIs_set (trAs_is a) (ok_zero _))
  · rw [clearL_nil h]
    exact trIs_nil
theorem keep_leaves {a : List Nd} (h : growE a = 0) : ((leavesA (trAs (growL a)) : Nat) : Int) = max 1 (2 * ((leavesA (trAs a) : Nat) : Int)) := by
  rw [trAs_ok (trIs_growL a)]
  have hl := growL_len h
  have h1 := trIs_len (trAs_is a)
  have e1 : leavesA (growL a) = ((growL a).length + 1) / 2 := rfl
  have e2 : leavesA (trAs a) = ((trAs a).length + 1) / 2 := rfl
  omega
set_option maxHeartbeats 4000000 in
theorem shapeKeeps_any {W : World} {s : SlV} {Ls : List Nd} (h : RwNd W W.heap.size s Ls) (x : Int) {l : NdV} {L : Nd} (hl : IsNd W W.heap.size l L) (rg : Tb W) : Calls Tryd.prog 4 #[s.v, nv x, .agg (l.cs L)] W fun e W' => ∃ v, e = .returned v ∧ v = .bool true ∧ Below W.heap.size W W' := by
  refine calls_cg (n := 102) Tryd.func4 rfl Tryd.ntmps4 (by simp) ?_
  show CG _ _ _ [(0, s.v), (1, nv x), (2, .agg (l.cs L))] _ _
  have u := Below.refl W.heap.size W
  have q5 : leavesA (trAs Ls) ≤ 64 := by have := trAs_le Ls; unfold leavesA; omega
  have q1 := h.len
  have q2 := h.cap
  refine cg_seq ?_
  refine cg_region ?_
  refine lg_boxw (want_none (by rfl)) rfl rfl (by kernel_rfl) rfl (by decide) fun b1 w1 n1 => ?_
  have r1 := n1.row
  have k1 := n1.blk
  have z1 := n1.size
  have lt1 : b1 < w1.heap.size := by omega
  refine lsw (want_none (by rfl)) (y_assign rfl rfl) rfl (by decide) ?_
  refine lg_nil ?_
  refine nx (E' := [(0, _), (1, _), (5, _), (6, _)]) (fk rfl (fk rfl (fk rfl (fk rfl fn)))) ?_
  refine cg_seq ?_
  refine cg_region ?_
  refine lg_callw (want_none (by rfl)) (awakeT_any _) (by kernel_rfl) rfl rfl rfl (by decide) ?_
  rintro _ w2 ⟨rfl, hw2⟩
  have zw2 := hw2.size
  refine lsw (want_none (by rfl)) (y_assign rfl rfl) rfl (by decide) ?_
  refine lg_nil ?_
  refine nx (E' := [(0, _), (1, _), (5, _), (6, _), (7, _)]) (fk rfl (fk rfl (fk rfl (fk rfl (fk rfl fn))))) ?_
  refine cg_seq ?_
  refine cg_seq ?_
  refine cg_region ?_
  refine lsw (want_none (by rfl)) (y_move rfl rfl) rfl (by decide) ?_
  have h := h.below (n1.below.mono (by omega))
  have h := h.below (hw2.mono (by omega))
  by_cases c3 : trFew Ls
  · have fl := c3.2
    refine lg_callw (want_none (by rfl)) (fewR_any (h.more (B' := w2.heap.size) (by omega)) (Nat.le_refl _)) (by kernel_rfl) rfl rfl rfl (by decide) ?_
    rintro u4 w4 ⟨e4, hw4⟩
    have zw4 := hw4.size
    obtain rfl : u4 = .bool true := e4.trans (congrArg Value.bool (decide_eq_true c3))
    refine lsw (want_none (by rfl)) (y_bnot rfl rfl) rfl (by decide) ?_
    refine lg_nil ?_
    refine nx (E' := [(0, _), (1, _), (5, _), (6, _), (7, _), (18, _)]) (fk rfl (fk rfl (fk rfl (fk rfl (fk rfl (fk rfl fn)))))) ?_
    refine cg_cf rfl ?_
    refine cg_skip ?_
    refine nx (E' := [(0, _), (1, _), (5, _), (6, _), (7, _)]) (fk rfl (fk rfl (fk rfl (fk rfl (fk rfl fn))))) ?_
    refine cg_seq ?_
    refine cg_region ?_
    obtain ⟨bs6, hbs6⟩ : ∃ q, q = w4.heap.size := ⟨_, rfl⟩
    refine lg_bs0R (want_none (by rfl)) rfl rfl (by decide) fun v5 w5 g5 l5 => ?_
    rw [← hbs6] at g5
    have z5 := l5.size
    refine lsw (want_none (by rfl)) (y_move rfl rfl) rfl (by decide) ?_
    have h := h.below (hw4.mono (by omega))
    have h := h.below (l5.mono (by omega))
    refine lg_appR g5 (h.src.more (B' := bs6) (by omega)) (Nat.le_refl _) (by first | omega | (simp only [List.length_nil]; omega)) (by omega) (want_none (by rfl)) rfl rfl rfl rfl rfl (by decide) fun r7 w7 g7 m7 l7 z7 => ?_
    rw [List.nil_append] at g7
    clear m7
    refine lsw (want_none (by rfl)) (y_assign rfl rfl) rfl (by decide) ?_
    refine lg_nil ?_
    refine nx (E' := [(0, _), (1, _), (5, _), (6, _), (7, _), (8, _)]) (fk rfl (fk rfl (fk rfl (fk rfl (fk rfl (fk rfl fn)))))) ?_
    refine cg_seq ?_
    refine cg_region ?_
    refine lsw (want_none (by rfl)) (y_move rfl rfl) rfl (by decide) ?_
    refine lsw (want_none (by rfl)) (y_move rfl rfl) rfl (by decide) ?_
    have r1 := RowAt.below hw2 r1.lt r1
    have r1 := RowAt.below hw4 r1.lt r1
    have r1 := RowAt.below l5 r1.lt r1
    have r1 := RowAt.below l7 (by omega) r1
    refine lsw (want_none (by rfl)) (y_loadA r1 (by kernel_rfl) (by kernel_rfl) rfl rfl) rfl (by decide) ?_
    have h := h.below (l7.mono (by omega))
    have hl := hl.below (n1.below.mono (by omega))
    have hl := hl.below (hw2.mono (by omega))
    have hl := hl.below (hw4.mono (by omega))
    have hl := hl.below (l5.mono (by omega))
    have hl := hl.below (l7.mono (by omega))
    refine lg_callw (want_none (by rfl)) (set_any (h.more (B' := w7.heap.size) (by omega)) x (hl.more (B' := w7.heap.size) (by omega)) (Nat.le_refl _)) (by kernel_rfl) rfl rfl rfl (by decide) ?_
    rintro _ w8 ⟨s8, rfl, m8, hw8⟩
    have zw8 := hw8.size
    refine lsw (want_none (by rfl)) (y_move rfl rfl) rfl (by decide) ?_
    refine lsw (want_none (by rfl)) (y_extract rfl rfl rfl) rfl (by decide) ?_
    refine lsw (want_none (by rfl)) (y_extract rfl rfl rfl) rfl (by decide) ?_
    refine lsw (want_none (by rfl)) (y_assign rfl rfl) rfl (by decide) ?_
    refine lsw (want_none (by rfl)) (y_assign rfl rfl) rfl (by decide) ?_
    refine lg_nil ?_
    refine nx (E' := [(0, _), (1, _), (6, _), (7, _), (8, _), (9, _), (10, _)]) (fk rfl (fk rfl (fk rfl (fk rfl (fk rfl (fk rfl (fk rfl fn))))))) ?_
    refine cg_seq ?_
    refine cg_region ?_
    refine lsw (want_none (by rfl)) (y_move rfl rfl) rfl (by decide) ?_
    refine lsw (want_none (by rfl)) (y_move rfl rfl) rfl (by decide) ?_
    have h := h.below (hw8.mono (by omega))
    have u := u.trans (n1.below.mono u.size)
    have u := u.trans (hw2.mono u.size)
    have u := u.trans (hw4.mono u.size)
    have u := u.trans (l5.mono u.size)
    have u := u.trans (l7.mono (by omega))
    have u := u.trans (hw8.mono u.size)
    refine lg_callw (want_none (by rfl)) (clear_any (h.more (B' := w8.heap.size) (by omega)) x (Nat.le_refl _) (rg.up u)) (by kernel_rfl) rfl rfl rfl (by decide) ?_
    rintro _ w9 ⟨s9, rfl, m9, hw9⟩
    have zw9 := hw9.size
    refine lsw (want_none (by rfl)) (y_move rfl rfl) rfl (by decide) ?_
    refine lsw (want_none (by rfl)) (y_extract rfl rfl rfl) rfl (by decide) ?_
    refine lsw (want_none (by rfl)) (y_extract rfl rfl rfl) rfl (by decide) ?_
    refine lsw (want_none (by rfl)) (y_assign rfl rfl) rfl (by decide) ?_
    refine lsw (want_none (by rfl)) (y_assign rfl rfl) rfl (by decide) ?_
    refine lg_nil ?_
    refine nx (E' := [(0, _), (6, _), (7, _), (8, _), (9, _), (10, _), (11, _), (12, _)]) (fk rfl (fk rfl (fk rfl (fk rfl (fk rfl (fk rfl (fk rfl (fk rfl fn)))))))) ?_
    refine cg_seq ?_
    refine cg_region ?_
    refine lsw (want_none (by rfl)) (y_move rfl rfl) rfl (by decide) ?_
    have h := h.below (hw9.mono (by omega))
    refine lg_callw (want_none (by rfl)) (grow_any (h.more (B' := w9.heap.size) (by omega)) (Nat.le_refl _)) (by kernel_rfl) rfl rfl rfl (by decide) ?_
    rintro _ w10 ⟨s10, rfl, m10, hw10⟩
    have zw10 := hw10.size
    refine lsw (want_none (by rfl)) (y_move rfl rfl) rfl (by decide) ?_
    refine lsw (want_none (by rfl)) (y_extract rfl rfl rfl) rfl (by decide) ?_
    refine lsw (want_none (by rfl)) (y_extract rfl rfl rfl) rfl (by decide) ?_
    refine lsw (want_none (by rfl)) (y_assign rfl rfl) rfl (by decide) ?_
    refine lsw (want_none (by rfl)) (y_assign rfl rfl) rfl (by decide) ?_
    refine lg_nil ?_
    refine nx (E' := [(0, _), (6, _), (7, _), (8, _), (9, _), (10, _), (11, _), (12, _), (13, _), (14, _)]) (fk rfl (fk rfl (fk rfl (fk rfl (fk rfl (fk rfl (fk rfl (fk rfl (fk rfl (fk rfl fn)))))))))) ?_
    refine cg_seq ?_
    refine cg_seq ?_
    refine cg_region ?_
    refine lsw (want_none (by rfl)) (y_move rfl rfl) rfl (by decide) ?_
    by_cases c11 : (setE Ls x L) = 0
    · refine lsw (want_none (by rfl)) (yb (nd_f c11) (yi_neq rfl rfl rfl)) rfl (by decide) ?_
      refine lsw (want_none (by rfl)) (y_move rfl rfl) rfl (by decide) ?_
      refine lsk (want_f (dj := 43) (by rfl) (by kernel_rfl) rfl) rfl (by decide) ?_
      refine lsk (want_f (dj := 43) (by rfl) (by kernel_rfl) rfl) rfl (by decide) ?_
      refine lsk (want_f (dj := 43) (by rfl) (by kernel_rfl) rfl) rfl (by decide) ?_
      refine lsw (want_none (by rfl)) (y_pick false rfl rfl rfl) rfl (by decide) ?_
      refine lsw (want_none (by rfl)) (y_move rfl rfl) rfl (by decide) ?_
      refine lsw (want_t (dj := 48) (by rfl) (by kernel_rfl) rfl) (y_move rfl rfl) rfl (by decide) ?_
      by_cases c12 : (clearE Ls x) = 0
      · refine lsw (want_t (dj := 48) (by rfl) (by kernel_rfl) rfl) (yb (nd_f c12) (yi_neq rfl rfl rfl)) rfl (by decide) ?_
        refine lsw (want_t (dj := 48) (by rfl) (by kernel_rfl) rfl) (y_move rfl rfl) rfl (by decide) ?_
        refine lsk (want_f (dj := 51) (by rfl) (by kernel_rfl) rfl) rfl (by decide) ?_
        refine lsk (want_f (dj := 51) (by rfl) (by kernel_rfl) rfl) rfl (by decide) ?_
        refine lsk (want_f (dj := 51) (by rfl) (by kernel_rfl) rfl) rfl (by decide) ?_
        refine lsw (want_t (dj := 48) (by rfl) (by kernel_rfl) rfl) (y_pick false rfl rfl rfl) rfl (by decide) ?_
        refine lsw (want_none (by rfl)) (y_pick false rfl rfl rfl) rfl (by decide) ?_
        refine lsw (want_none (by rfl)) (y_move rfl rfl) rfl (by decide) ?_
        refine lsw (want_t (dj := 57) (by rfl) (by kernel_rfl) rfl) (y_move rfl rfl) rfl (by decide) ?_
        by_cases c13 : (growE Ls) = 0
        · refine lsw (want_t (dj := 57) (by rfl) (by kernel_rfl) rfl) (yb (nd_f c13) (yi_neq rfl rfl rfl)) rfl (by decide) ?_
          refine lsw (want_t (dj := 57) (by rfl) (by kernel_rfl) rfl) (y_move rfl rfl) rfl (by decide) ?_
          refine lsk (want_f (dj := 60) (by rfl) (by kernel_rfl) rfl) rfl (by decide) ?_
          refine lsk (want_f (dj := 60) (by rfl) (by kernel_rfl) rfl) rfl (by decide) ?_
          refine lsk (want_f (dj := 60) (by rfl) (by kernel_rfl) rfl) rfl (by decide) ?_
          refine lsw (want_t (dj := 57) (by rfl) (by kernel_rfl) rfl) (y_pick false rfl rfl rfl) rfl (by decide) ?_
          refine lsw (want_none (by rfl)) (y_pick false rfl rfl rfl) rfl (by decide) ?_
          refine lg_nil ?_
          refine nx (E' := [(0, _), (6, _), (7, _), (8, _), (9, _), (11, _), (13, _), (14, _), (65, _)]) (fk rfl (fk rfl (fk rfl (fk rfl (fk rfl (fk rfl (fk rfl (fk rfl (fk rfl fn))))))))) ?_
          refine cg_cf rfl ?_
          refine cg_skip ?_
          refine nx (E' := [(0, _), (6, _), (7, _), (8, _), (9, _), (11, _), (13, _), (14, _)]) (fk rfl (fk rfl (fk rfl (fk rfl (fk rfl (fk rfl (fk rfl (fk rfl fn)))))))) ?_
          refine cg_seq ?_
          refine cg_region ?_
          refine lsw (want_none (by rfl)) (y_move rfl rfl) rfl (by decide) ?_
          refine lsw (want_none (by rfl)) (y_move rfl rfl) rfl (by decide) ?_
          refine lsw (want_t (dj := 67) (by rfl) (by kernel_rfl) rfl) (y_move rfl rfl) rfl (by decide) ?_
          have m8 := m8.below (hw9.mono (by omega))
          have m8 := m8.below (hw10.mono (by omega))
          refine lg_callw (want_t (dj := 67) (by rfl) (by kernel_rfl) rfl) (sane_any (m8.more (B' := w10.heap.size) (by omega)) (Nat.le_refl _)) (by kernel_rfl) rfl rfl rfl (by decide) ?_
          rintro u14 w14 ⟨e14, hw14⟩
          have zw14 := hw14.size
          obtain rfl : u14 = .bool true := e14.trans (congrArg Value.bool (decide_eq_true (show trIs (setL Ls x L) from (trIs_setL _ _ _))))
          refine lsw (want_none (by rfl)) (y_pick true rfl rfl rfl) rfl (by decide) ?_
          refine lsw (want_none (by rfl)) (y_move rfl rfl) rfl (by decide) ?_
          refine lsw (want_t (dj := 71) (by rfl) (by kernel_rfl) rfl) (y_move rfl rfl) rfl (by decide) ?_
          have m9 := m9.below (hw10.mono (by omega))
          have m9 := m9.below (hw14.mono (by omega))
          refine lg_callw (want_t (dj := 71) (by rfl) (by kernel_rfl) rfl) (sane_any (m9.more (B' := w14.heap.size) (by omega)) (Nat.le_refl _)) (by kernel_rfl) rfl rfl rfl (by decide) ?_
          rintro u15 w15 ⟨e15, hw15⟩
          have zw15 := hw15.size
          obtain rfl : u15 = .bool true := e15.trans (congrArg Value.bool (decide_eq_true (show trIs (clearL Ls x) from (trIs_clearL _ _))))
          refine lsw (want_none (by rfl)) (y_pick true rfl rfl rfl) rfl (by decide) ?_
          refine lsw (want_none (by rfl)) (y_move rfl rfl) rfl (by decide) ?_
          refine lsw (want_t (dj := 75) (by rfl) (by kernel_rfl) rfl) (y_move rfl rfl) rfl (by decide) ?_
          have m10 := m10.below (hw14.mono (by omega))
          have m10 := m10.below (hw15.mono (by omega))
          refine lg_callw (want_t (dj := 75) (by rfl) (by kernel_rfl) rfl) (sane_any (m10.more (B' := w15.heap.size) (by omega)) (Nat.le_refl _)) (by kernel_rfl) rfl rfl rfl (by decide) ?_
          rintro u16 w16 ⟨e16, hw16⟩
          have zw16 := hw16.size
          obtain rfl : u16 = .bool true := e16.trans (congrArg Value.bool (decide_eq_true (show trIs (growL Ls) from (trIs_growL _))))
          refine lsw (want_none (by rfl)) (y_pick true rfl rfl rfl) rfl (by decide) ?_
          refine lsw (want_none (by rfl)) (y_move rfl rfl) rfl (by decide) ?_
          refine lsw (want_t (dj := 79) (by rfl) (by kernel_rfl) rfl) (y_move rfl rfl) rfl (by decide) ?_
          have h := h.below (hw10.mono (by omega))
          have h := h.below (hw14.mono (by omega))
          have h := h.below (hw15.mono (by omega))
          have h := h.below (hw16.mono (by omega))
          refine lg_callw (want_t (dj := 79) (by rfl) (by kernel_rfl) rfl) (trim_any h (by omega)) (by kernel_rfl) rfl rfl rfl (by decide) ?_
          rintro _ w17 ⟨s17, rfl, m17, hw17⟩
          have zw17 := hw17.size
          refine lg_callw (want_t (dj := 79) (by rfl) (by kernel_rfl) rfl) (sane_any (m17.more (B' := w17.heap.size) (by omega)) (Nat.le_refl _)) (by kernel_rfl) rfl rfl rfl (by decide) ?_
          rintro u18 w18 ⟨e18, hw18⟩
          have zw18 := hw18.size
          obtain rfl : u18 = .bool true := e18.trans (congrArg Value.bool (decide_eq_true (show trIs (trimL Ls) from (trIs_trimL _))))
          refine lsw (want_none (by rfl)) (y_pick true rfl rfl rfl) rfl (by decide) ?_
          refine lsw (want_none (by rfl)) (y_move rfl rfl) rfl (by decide) ?_
          refine lsw (want_t (dj := 84) (by rfl) (by kernel_rfl) rfl) (y_move rfl rfl) rfl (by decide) ?_
          refine lsw (want_t (dj := 84) (by rfl) (by kernel_rfl) rfl) (y_move rfl rfl) rfl (by decide) ?_
          have g7 := g7.keep hw8 (by omega)
          have g7 := g7.keep hw9 (by omega)
          have g7 := g7.keep hw10 (by omega)
          have g7 := g7.keep hw14 (by omega)
          have g7 := g7.keep hw15 (by omega)
          have g7 := g7.keep hw16 (by omega)
          have g7 := g7.keep hw17 (by omega)
          have g7 := g7.keep hw18 (by omega)
          have h := h.below (hw17.mono (by omega))
          have h := h.below (hw18.mono (by omega))
          refine lg_callw (want_t (dj := 84) (by rfl) (by kernel_rfl) rfl) (sameR_any ((g7.rowS (by omega)).more (B' := w18.heap.size) (by omega)) (h.more (B' := w18.heap.size) (by omega)) (Nat.le_refl _)) (by kernel_rfl) rfl rfl rfl (by decide) ?_
          rintro u19 w19 ⟨e19, hw19⟩
          have zw19 := hw19.size
          obtain rfl : u19 = .bool true := e19.trans (congrArg Value.bool (decide_eq_true (tr_same _)))
          refine lsw (want_none (by rfl)) (y_pick true rfl rfl rfl) rfl (by decide) ?_
          refine lsw (want_none (by rfl)) (y_move rfl rfl) rfl (by decide) ?_
          refine lsw (want_t (dj := 89) (by rfl) (by kernel_rfl) rfl) (y_move rfl rfl) rfl (by decide) ?_
          refine lsw (want_t (dj := 89) (by rfl) (by kernel_rfl) rfl) (yb (nd_f c13) (yi_neq rfl rfl rfl)) rfl (by decide) ?_
          refine lsw (want_t (dj := 89) (by rfl) (by kernel_rfl) rfl) (y_move rfl rfl) rfl (by decide) ?_
          refine lsw (want_t (dj := 92) (by rfl) (by kernel_rfl) rfl) (y_move rfl rfl) rfl (by decide) ?_
          have m10 := m10.below (hw16.mono (by omega))
          have m10 := m10.below (hw17.mono (by omega))
          have m10 := m10.below (hw18.mono (by omega))
          have m10 := m10.below (hw19.mono (by omega))
          refine lg_callw (want_t (dj := 92) (by rfl) (by kernel_rfl) rfl) (leavesT_any (m10.more (B' := w19.heap.size) (by omega)) (Nat.le_refl _)) (by kernel_rfl) rfl rfl rfl (by decide) ?_
          rintro _ w20 ⟨rfl, hw20⟩
          have zw20 := hw20.size
          refine lsw (want_t (dj := 92) (by rfl) (by kernel_rfl) rfl) (y_move rfl rfl) rfl (by decide) ?_
          have h := h.below (hw19.mono (by omega))
          have h := h.below (hw20.mono (by omega))
          refine lg_callw (want_t (dj := 92) (by rfl) (by kernel_rfl) rfl) (leavesT_any (h.more (B' := w20.heap.size) (by omega)) (Nat.le_refl _)) (by kernel_rfl) rfl rfl rfl (by decide) ?_
          rintro _ w21 ⟨rfl, hw21⟩
          have zw21 := hw21.size
          refine lsw (want_t (dj := 92) (by rfl) (by kernel_rfl) rfl) (yi_mul rfl rfl rfl (by omega) (by omega)) rfl (by decide) ?_
          refine lsw (want_t (dj := 92) (by rfl) (by kernel_rfl) rfl) (y_max rfl rfl rfl) rfl (by decide) ?_
          refine lsw (want_t (dj := 92) (by rfl) (by kernel_rfl) rfl) (yb (decide_eq_true (show ((leavesA (trAs (growL Ls)) : Nat) : Int) = (max 1 (2 * ((leavesA (trAs Ls) : Nat) : Int))) from (keep_leaves c13))) (yi_eql rfl rfl rfl)) rfl (by decide) ?_
          refine lsw (want_t (dj := 89) (by rfl) (by kernel_rfl) rfl) (y_pick false rfl rfl rfl) rfl (by decide) ?_
          refine lsw (want_none (by rfl)) (y_pick true rfl rfl rfl) rfl (by decide) ?_
          refine lsw (want_none (by rfl)) (y_assign rfl rfl) rfl (by decide) ?_
          refine lg_nil ?_
          refine nx (E' := [(6, _)]) (fk rfl fn) ?_
          refine cg_ret ?_
          have u := u.trans (hw9.mono u.size)
          have u := u.trans (hw10.mono u.size)
          have u := u.trans (hw14.mono u.size)
          have u := u.trans (hw15.mono u.size)
          have u := u.trans (hw16.mono u.size)
          have u := u.trans (hw17.mono u.size)
          have u := u.trans (hw18.mono u.size)
          have u := u.trans (hw19.mono u.size)
          have u := u.trans (hw20.mono u.size)
          have u := u.trans (hw21.mono u.size)
          exact eg_ret_tmp rfl rfl ⟨_, rfl, rfl, u⟩
        · refine lsw (want_t (dj := 57) (by rfl) (by kernel_rfl) rfl) (yb (nd_t c13) (yi_neq rfl rfl rfl)) rfl (by decide) ?_
          refine lsw (want_t (dj := 57) (by rfl) (by kernel_rfl) rfl) (y_move rfl rfl) rfl (by decide) ?_
          refine lsw (want_t (dj := 60) (by rfl) (by kernel_rfl) rfl) (y_move rfl rfl) rfl (by decide) ?_
          refine lsw (want_t (dj := 60) (by rfl) (by kernel_rfl) rfl) (y_lenM (el := 30) m10.len (by kernel_rfl) rfl rfl) rfl (by decide) ?_
          refine lsw (want_t (dj := 60) (by rfl) (by kernel_rfl) rfl) (yb (decide_eq_false (show ¬ (0 < ((growL Ls).length : Int)) from (by rw [growL_no c13]; decide))) (yi_gtr rfl rfl rfl)) rfl (by decide) ?_
          refine lsw (want_t (dj := 57) (by rfl) (by kernel_rfl) rfl) (y_pick true rfl rfl rfl) rfl (by decide) ?_
          refine lsw (want_none (by rfl)) (y_pick false rfl rfl rfl) rfl (by decide) ?_
          refine lg_nil ?_
          refine nx (E' := [(0, _), (6, _), (7, _), (8, _), (9, _), (11, _), (13, _), (14, _), (65, _)]) (fk rfl (fk rfl (fk rfl (fk rfl (fk rfl (fk rfl (fk rfl (fk rfl (fk rfl fn))))))))) ?_
          refine cg_cf rfl ?_
          refine cg_skip ?_
          refine nx (E' := [(0, _), (6, _), (7, _), (8, _), (9, _), (11, _), (13, _), (14, _)]) (fk rfl (fk rfl (fk rfl (fk rfl (fk rfl (fk rfl (fk rfl (fk rfl fn)))))))) ?_
          refine cg_seq ?_
          refine cg_region ?_
          refine lsw (want_none (by rfl)) (y_move rfl rfl) rfl (by decide) ?_
          refine lsw (want_none (by rfl)) (y_move rfl rfl) rfl (by decide) ?_
          refine lsw (want_t (dj := 67) (by rfl) (by kernel_rfl) rfl) (y_move rfl rfl) rfl (by decide) ?_
          have m8 := m8.below (hw9.mono (by omega))
          have m8 := m8.below (hw10.mono (by omega))
          refine lg_callw (want_t (dj := 67) (by rfl) (by kernel_rfl) rfl) (sane_any (m8.more (B' := w10.heap.size) (by omega)) (Nat.le_refl _)) (by kernel_rfl) rfl rfl rfl (by decide) ?_
          rintro u22 w22 ⟨e22, hw22⟩
          have zw22 := hw22.size
          obtain rfl : u22 = .bool true := e22.trans (congrArg Value.bool (decide_eq_true (show trIs (setL Ls x L) from (trIs_setL _ _ _))))
          refine lsw (want_none (by rfl)) (y_pick true rfl rfl rfl) rfl (by decide) ?_
          refine lsw (want_none (by rfl)) (y_move rfl rfl) rfl (by decide) ?_
          refine lsw (want_t (dj := 71) (by rfl) (by kernel_rfl) rfl) (y_move rfl rfl) rfl (by decide) ?_
          have m9 := m9.below (hw10.mono (by omega))
          have m9 := m9.below (hw22.mono (by omega))
          refine lg_callw (want_t (dj := 71) (by rfl) (by kernel_rfl) rfl) (sane_any (m9.more (B' := w22.heap.size) (by omega)) (Nat.le_refl _)) (by kernel_rfl) rfl rfl rfl (by decide) ?_
          rintro u23 w23 ⟨e23, hw23⟩
          have zw23 := hw23.size
          obtain rfl : u23 = .bool true := e23.trans (congrArg Value.bool (decide_eq_true (show trIs (clearL Ls x) from (trIs_clearL _ _))))
          refine lsw (want_none (by rfl)) (y_pick true rfl rfl rfl) rfl (by decide) ?_
          refine lsw (want_none (by rfl)) (y_move rfl rfl) rfl (by decide) ?_
          refine lsw (want_t (dj := 75) (by rfl) (by kernel_rfl) rfl) (y_move rfl rfl) rfl (by decide) ?_
          have m10 := m10.below (hw22.mono (by omega))
          have m10 := m10.below (hw23.mono (by omega))
          refine lg_callw (want_t (dj := 75) (by rfl) (by kernel_rfl) rfl) (sane_any (m10.more (B' := w23.heap.size) (by omega)) (Nat.le_refl _)) (by kernel_rfl) rfl rfl rfl (by decide) ?_
          rintro u24 w24 ⟨e24, hw24⟩
          have zw24 := hw24.size
          obtain rfl : u24 = .bool true := e24.trans (congrArg Value.bool (decide_eq_true (show trIs (growL Ls) from (trIs_growL _))))
          refine lsw (want_none (by rfl)) (y_pick true rfl rfl rfl) rfl (by decide) ?_
          refine lsw (want_none (by rfl)) (y_move rfl rfl) rfl (by decide) ?_
          refine lsw (want_t (dj := 79) (by rfl) (by kernel_rfl) rfl) (y_move rfl rfl) rfl (by decide) ?_
          have h := h.below (hw10.mono (by omega))
          have h := h.below (hw22.mono (by omega))
          have h := h.below (hw23.mono (by omega))
          have h := h.below (hw24.mono (by omega))
          refine lg_callw (want_t (dj := 79) (by rfl) (by kernel_rfl) rfl) (trim_any h (by omega)) (by kernel_rfl) rfl rfl rfl (by decide) ?_
          rintro _ w25 ⟨s25, rfl, m25, hw25⟩
          have zw25 := hw25.size
          refine lg_callw (want_t (dj := 79) (by rfl) (by kernel_rfl) rfl) (sane_any (m25.more (B' := w25.heap.size) (by omega)) (Nat.le_refl _)) (by kernel_rfl) rfl rfl rfl (by decide) ?_
          rintro u26 w26 ⟨e26, hw26⟩
          have zw26 := hw26.size
          obtain rfl : u26 = .bool true := e26.trans (congrArg Value.bool (decide_eq_true (show trIs (trimL Ls) from (trIs_trimL _))))
          refine lsw (want_none (by rfl)) (y_pick true rfl rfl rfl) rfl (by decide) ?_
          refine lsw (want_none (by rfl)) (y_move rfl rfl) rfl (by decide) ?_
          refine lsw (want_t (dj := 84) (by rfl) (by kernel_rfl) rfl) (y_move rfl rfl) rfl (by decide) ?_
          refine lsw (want_t (dj := 84) (by rfl) (by kernel_rfl) rfl) (y_move rfl rfl) rfl (by decide) ?_
          have g7 := g7.keep hw8 (by omega)
          have g7 := g7.keep hw9 (by omega)
          have g7 := g7.keep hw10 (by omega)
          have g7 := g7.keep hw22 (by omega)
          have g7 := g7.keep hw23 (by omega)
          have g7 := g7.keep hw24 (by omega)
          have g7 := g7.keep hw25 (by omega)
          have g7 := g7.keep hw26 (by omega)
          have h := h.below (hw25.mono (by omega))
          have h := h.below (hw26.mono (by omega))
          refine lg_callw (want_t (dj := 84) (by rfl) (by kernel_rfl) rfl) (sameR_any ((g7.rowS (by omega)).more (B' := w26.heap.size) (by omega)) (h.more (B' := w26.heap.size) (by omega)) (Nat.le_refl _)) (by kernel_rfl) rfl rfl rfl (by decide) ?_
          rintro u27 w27 ⟨e27, hw27⟩
          have zw27 := hw27.size
          obtain rfl : u27 = .bool true := e27.trans (congrArg Value.bool (decide_eq_true (tr_same _)))
          refine lsw (want_none (by rfl)) (y_pick true rfl rfl rfl) rfl (by decide) ?_
          refine lsw (want_none (by rfl)) (y_move rfl rfl) rfl (by decide) ?_
          refine lsw (want_t (dj := 89) (by rfl) (by kernel_rfl) rfl) (y_move rfl rfl) rfl (by decide) ?_
          refine lsw (want_t (dj := 89) (by rfl) (by kernel_rfl) rfl) (yb (nd_t c13) (yi_neq rfl rfl rfl)) rfl (by decide) ?_
          refine lsw (want_t (dj := 89) (by rfl) (by kernel_rfl) rfl) (y_move rfl rfl) rfl (by decide) ?_
          refine lsk (want_f (dj := 92) (by rfl) (by kernel_rfl) rfl) rfl (by decide) ?_
          refine lsk (want_f (dj := 92) (by rfl) (by kernel_rfl) rfl) rfl (by decide) ?_
          refine lsk (want_f (dj := 92) (by rfl) (by kernel_rfl) rfl) rfl (by decide) ?_
          refine lsk (want_f (dj := 92) (by rfl) (by kernel_rfl) rfl) rfl (by decide) ?_
          refine lsk (want_f (dj := 92) (by rfl) (by kernel_rfl) rfl) rfl (by decide) ?_
          refine lsk (want_f (dj := 92) (by rfl) (by kernel_rfl) rfl) rfl (by decide) ?_
          refine lsk (want_f (dj := 92) (by rfl) (by kernel_rfl) rfl) rfl (by decide) ?_
          refine lsw (want_t (dj := 89) (by rfl) (by kernel_rfl) rfl) (y_pick true rfl rfl rfl) rfl (by decide) ?_
          refine lsw (want_none (by rfl)) (y_pick true rfl rfl rfl) rfl (by decide) ?_
          refine lsw (want_none (by rfl)) (y_assign rfl rfl) rfl (by decide) ?_
          refine lg_nil ?_
          refine nx (E' := [(6, _)]) (fk rfl fn) ?_
          refine cg_ret ?_
          have u := u.trans (hw9.mono u.size)
          have u := u.trans (hw10.mono u.size)
          have u := u.trans (hw22.mono u.size)
          have u := u.trans (hw23.mono u.size)
          have u := u.trans (hw24.mono u.size)
          have u := u.trans (hw25.mono u.size)
          have u := u.trans (hw26.mono u.size)
          have u := u.trans (hw27.mono u.size)
          exact eg_ret_tmp rfl rfl ⟨_, rfl, rfl, u⟩
      · refine lsw (want_t (dj := 48) (by rfl) (by kernel_rfl) rfl) (yb (nd_t c12) (yi_neq rfl rfl rfl)) rfl (by decide) ?_
        refine lsw (want_t (dj := 48) (by rfl) (by kernel_rfl) rfl) (y_move rfl rfl) rfl (by decide) ?_
        refine lsw (want_t (dj := 51) (by rfl) (by kernel_rfl) rfl) (y_move rfl rfl) rfl (by decide) ?_
        have m9 := m9.below (hw10.mono (by omega))
        refine lsw (want_t (dj := 51) (by rfl) (by kernel_rfl) rfl) (y_lenM (el := 30) m9.len (by kernel_rfl) rfl rfl) rfl (by decide) ?_
        refine lsw (want_t (dj := 51) (by rfl) (by kernel_rfl) rfl) (yb (decide_eq_false (show ¬ (0 < ((clearL Ls x).length : Int)) from (by rw [clearL_nil c12]; decide))) (yi_gtr rfl rfl rfl)) rfl (by decide) ?_
        refine lsw (want_t (dj := 48) (by rfl) (by kernel_rfl) rfl) (y_pick true rfl rfl rfl) rfl (by decide) ?_
        refine lsw (want_none (by rfl)) (y_pick false rfl rfl rfl) rfl (by decide) ?_
        refine lsw (want_none (by rfl)) (y_move rfl rfl) rfl (by decide) ?_
        refine lsw (want_t (dj := 57) (by rfl) (by kernel_rfl) rfl) (y_move rfl rfl) rfl (by decide) ?_
        by_cases c28 : (growE Ls) = 0
        · refine lsw (want_t (dj := 57) (by rfl) (by kernel_rfl) rfl) (yb (nd_f c28) (yi_neq rfl rfl rfl)) rfl (by decide) ?_
          refine lsw (want_t (dj := 57) (by rfl) (by kernel_rfl) rfl) (y_move rfl rfl) rfl (by decide) ?_
          refine lsk (want_f (dj := 60) (by rfl) (by kernel_rfl) rfl) rfl (by decide) ?_
          refine lsk (want_f (dj := 60) (by rfl) (by kernel_rfl) rfl) rfl (by decide) ?_
          refine lsk (want_f (dj := 60) (by rfl) (by kernel_rfl) rfl) rfl (by decide) ?_
          refine lsw (want_t (dj := 57) (by rfl) (by kernel_rfl) rfl) (y_pick false rfl rfl rfl) rfl (by decide) ?_
          refine lsw (want_none (by rfl)) (y_pick false rfl rfl rfl) rfl (by decide) ?_
          refine lg_nil ?_
          refine nx (E' := [(0, _), (6, _), (7, _), (8, _), (9, _), (11, _), (13, _), (14, _), (65, _)]) (fk rfl (fk rfl (fk rfl (fk rfl (fk rfl (fk rfl (fk rfl (fk rfl (fk rfl fn))))))))) ?_
          refine cg_cf rfl ?_
          refine cg_skip ?_
          refine nx (E' := [(0, _), (6, _), (7, _), (8, _), (9, _), (11, _), (13, _), (14, _)]) (fk rfl (fk rfl (fk rfl (fk rfl (fk rfl (fk rfl (fk rfl (fk rfl fn)))))))) ?_
          refine cg_seq ?_
          refine cg_region ?_
          refine lsw (want_none (by rfl)) (y_move rfl rfl) rfl (by decide) ?_
          refine lsw (want_none (by rfl)) (y_move rfl rfl) rfl (by decide) ?_
          refine lsw (want_t (dj := 67) (by rfl) (by kernel_rfl) rfl) (y_move rfl rfl) rfl (by decide) ?_
          have m8 := m8.below (hw9.mono (by omega))
          have m8 := m8.below (hw10.mono (by omega))
          refine lg_callw (want_t (dj := 67) (by rfl) (by kernel_rfl) rfl) (sane_any (m8.more (B' := w10.heap.size) (by omega)) (Nat.le_refl _)) (by kernel_rfl) rfl rfl rfl (by decide) ?_
          rintro u29 w29 ⟨e29, hw29⟩
          have zw29 := hw29.size
          obtain rfl : u29 = .bool true := e29.trans (congrArg Value.bool (decide_eq_true (show trIs (setL Ls x L) from (trIs_setL _ _ _))))
          refine lsw (want_none (by rfl)) (y_pick true rfl rfl rfl) rfl (by decide) ?_
          refine lsw (want_none (by rfl)) (y_move rfl rfl) rfl (by decide) ?_
          refine lsw (want_t (dj := 71) (by rfl) (by kernel_rfl) rfl) (y_move rfl rfl) rfl (by decide) ?_
          have m9 := m9.below (hw29.mono (by omega))
          refine lg_callw (want_t (dj := 71) (by rfl) (by kernel_rfl) rfl) (sane_any (m9.more (B' := w29.heap.size) (by omega)) (Nat.le_refl _)) (by kernel_rfl) rfl rfl rfl (by decide) ?_
          rintro u30 w30 ⟨e30, hw30⟩
          have zw30 := hw30.size
          obtain rfl : u30 = .bool true := e30.trans (congrArg Value.bool (decide_eq_true (show trIs (clearL Ls x) from (trIs_clearL _ _))))
          refine lsw (want_none (by rfl)) (y_pick true rfl rfl rfl) rfl (by decide) ?_
          refine lsw (want_none (by rfl)) (y_move rfl rfl) rfl (by decide) ?_
          refine lsw (want_t (dj := 75) (by rfl) (by kernel_rfl) rfl) (y_move rfl rfl) rfl (by decide) ?_
          have m10 := m10.below (hw29.mono (by omega))
          have m10 := m10.below (hw30.mono (by omega))
          refine lg_callw (want_t (dj := 75) (by rfl) (by kernel_rfl) rfl) (sane_any (m10.more (B' := w30.heap.size) (by omega)) (Nat.le_refl _)) (by kernel_rfl) rfl rfl rfl (by decide) ?_
          rintro u31 w31 ⟨e31, hw31⟩
          have zw31 := hw31.size
          obtain rfl : u31 = .bool true := e31.trans (congrArg Value.bool (decide_eq_true (show trIs (growL Ls) from (trIs_growL _))))
          refine lsw (want_none (by rfl)) (y_pick true rfl rfl rfl) rfl (by decide) ?_
          refine lsw (want_none (by rfl)) (y_move rfl rfl) rfl (by decide) ?_
          refine lsw (want_t (dj := 79) (by rfl) (by kernel_rfl) rfl) (y_move rfl rfl) rfl (by decide) ?_
          have h := h.below (hw10.mono (by omega))
          have h := h.below (hw29.mono (by omega))
          have h := h.below (hw30.mono (by omega))
          have h := h.below (hw31.mono (by omega))
          refine lg_callw (want_t (dj := 79) (by rfl) (by kernel_rfl) rfl) (trim_any h (by omega)) (by kernel_rfl) rfl rfl rfl (by decide) ?_
          rintro _ w32 ⟨s32, rfl, m32, hw32⟩
          have zw32 := hw32.size
          refine lg_callw (want_t (dj := 79) (by rfl) (by kernel_rfl) rfl) (sane_any (m32.more (B' := w32.heap.size) (by omega)) (Nat.le_refl _)) (by kernel_rfl) rfl rfl rfl (by decide) ?_
          rintro u33 w33 ⟨e33, hw33⟩
          have zw33 := hw33.size
          obtain rfl : u33 = .bool true := e33.trans (congrArg Value.bool (decide_eq_true (show trIs (trimL Ls) from (trIs_trimL _))))
          refine lsw (want_none (by rfl)) (y_pick true rfl rfl rfl) rfl (by decide) ?_
          refine lsw (want_none (by rfl)) (y_move rfl rfl) rfl (by decide) ?_
          refine lsw (want_t (dj := 84) (by rfl) (by kernel_rfl) rfl) (y_move rfl rfl) rfl (by decide) ?_
          refine lsw (want_t (dj := 84) (by rfl) (by kernel_rfl) rfl) (y_move rfl rfl) rfl (by decide) ?_
          have g7 := g7.keep hw8 (by omega)
          have g7 := g7.keep hw9 (by omega)
          have g7 := g7.keep hw10 (by omega)
          have g7 := g7.keep hw29 (by omega)
          have g7 := g7.keep hw30 (by omega)
          have g7 := g7.keep hw31 (by omega)
          have g7 := g7.keep hw32 (by omega)
          have g7 := g7.keep hw33 (by omega)
          have h := h.below (hw32.mono (by omega))
          have h := h.below (hw33.mono (by omega))
          refine lg_callw (want_t (dj := 84) (by rfl) (by kernel_rfl) rfl) (sameR_any ((g7.rowS (by omega)).more (B' := w33.heap.size) (by omega)) (h.more (B' := w33.heap.size) (by omega)) (Nat.le_refl _)) (by kernel_rfl) rfl rfl rfl (by decide) ?_
          rintro u34 w34 ⟨e34, hw34⟩
          have zw34 := hw34.size
          obtain rfl : u34 = .bool true := e34.trans (congrArg Value.bool (decide_eq_true (tr_same _)))
          refine lsw (want_none (by rfl)) (y_pick true rfl rfl rfl) rfl (by decide) ?_
          refine lsw (want_none (by rfl)) (y_move rfl rfl) rfl (by decide) ?_
          refine lsw (want_t (dj := 89) (by rfl) (by kernel_rfl) rfl) (y_move rfl rfl) rfl (by decide) ?_
          refine lsw (want_t (dj := 89) (by rfl) (by kernel_rfl) rfl) (yb (nd_f c28) (yi_neq rfl rfl rfl)) rfl (by decide) ?_
          refine lsw (want_t (dj := 89) (by rfl) (by kernel_rfl) rfl) (y_move rfl rfl) rfl (by decide) ?_
          refine lsw (want_t (dj := 92) (by rfl) (by kernel_rfl) rfl) (y_move rfl rfl) rfl (by decide) ?_
          have m10 := m10.below (hw31.mono (by omega))
          have m10 := m10.below (hw32.mono (by omega))
          have m10 := m10.below (hw33.mono (by omega))
          have m10 := m10.below (hw34.mono (by omega))
          refine lg_callw (want_t (dj := 92) (by rfl) (by kernel_rfl) rfl) (leavesT_any (m10.more (B' := w34.heap.size) (by omega)) (Nat.le_refl _)) (by kernel_rfl) rfl rfl rfl (by decide) ?_
          rintro _ w35 ⟨rfl, hw35⟩
          have zw35 := hw35.size
          refine lsw (want_t (dj := 92) (by rfl) (by kernel_rfl) rfl) (y_move rfl rfl) rfl (by decide) ?_
          have h := h.below (hw34.mono (by omega))
          have h := h.below (hw35.mono (by omega))
          refine lg_callw (want_t (dj := 92) (by rfl) (by kernel_rfl) rfl) (leavesT_any (h.more (B' := w35.heap.size) (by omega)) (Nat.le_refl _)) (by kernel_rfl) rfl rfl rfl (by decide) ?_
          rintro _ w36 ⟨rfl, hw36⟩
          have zw36 := hw36.size
          refine lsw (want_t (dj := 92) (by rfl) (by kernel_rfl) rfl) (yi_mul rfl rfl rfl (by omega) (by omega)) rfl (by decide) ?_
          refine lsw (want_t (dj := 92) (by rfl) (by kernel_rfl) rfl) (y_max rfl rfl rfl) rfl (by decide) ?_
          refine lsw (want_t (dj := 92) (by rfl) (by kernel_rfl) rfl) (yb (decide_eq_true (show ((leavesA (trAs (growL Ls)) : Nat) : Int) = (max 1 (2 * ((leavesA (trAs Ls) : Nat) : Int))) from (keep_leaves c28))) (yi_eql rfl rfl rfl)) rfl (by decide) ?_
          refine lsw (want_t (dj := 89) (by rfl) (by kernel_rfl) rfl) (y_pick false rfl rfl rfl) rfl (by decide) ?_
          refine lsw (want_none (by rfl)) (y_pick true rfl rfl rfl) rfl (by decide) ?_
          refine lsw (want_none (by rfl)) (y_assign rfl rfl) rfl (by decide) ?_
          refine lg_nil ?_
          refine nx (E' := [(6, _)]) (fk rfl fn) ?_
          refine cg_ret ?_
          have u := u.trans (hw9.mono u.size)
          have u := u.trans (hw10.mono u.size)
          have u := u.trans (hw29.mono u.size)
          have u := u.trans (hw30.mono u.size)
          have u := u.trans (hw31.mono u.size)
          have u := u.trans (hw32.mono u.size)
          have u := u.trans (hw33.mono u.size)
          have u := u.trans (hw34.mono u.size)
          have u := u.trans (hw35.mono u.size)
          have u := u.trans (hw36.mono u.size)
          exact eg_ret_tmp rfl rfl ⟨_, rfl, rfl, u⟩
        · refine lsw (want_t (dj := 57) (by rfl) (by kernel_rfl) rfl) (yb (nd_t c28) (yi_neq rfl rfl rfl)) rfl (by decide) ?_
          refine lsw (want_t (dj := 57) (by rfl) (by kernel_rfl) rfl) (y_move rfl rfl) rfl (by decide) ?_
          refine lsw (want_t (dj := 60) (by rfl) (by kernel_rfl) rfl) (y_move rfl rfl) rfl (by decide) ?_
          refine lsw (want_t (dj := 60) (by rfl) (by kernel_rfl) rfl) (y_lenM (el := 30) m10.len (by kernel_rfl) rfl rfl) rfl (by decide) ?_
          refine lsw (want_t (dj := 60) (by rfl) (by kernel_rfl) rfl) (yb (decide_eq_false (show ¬ (0 < ((growL Ls).length : Int)) from (by rw [growL_no c28]; decide))) (yi_gtr rfl rfl rfl)) rfl (by decide) ?_
          refine lsw (want_t (dj := 57) (by rfl) (by kernel_rfl) rfl) (y_pick true rfl rfl rfl) rfl (by decide) ?_
          refine lsw (want_none (by rfl)) (y_pick false rfl rfl rfl) rfl (by decide) ?_
          refine lg_nil ?_
          refine nx (E' := [(0, _), (6, _), (7, _), (8, _), (9, _), (11, _), (13, _), (14, _), (65, _)]) (fk rfl (fk rfl (fk rfl (fk rfl (fk rfl (fk rfl (fk rfl (fk rfl (fk rfl fn))))))))) ?_
          refine cg_cf rfl ?_
          refine cg_skip ?_
          refine nx (E' := [(0, _), (6, _), (7, _), (8, _), (9, _), (11, _), (13, _), (14, _)]) (fk rfl (fk rfl (fk rfl (fk rfl (fk rfl (fk rfl (fk rfl (fk rfl fn)))))))) ?_
          refine cg_seq ?_
          refine cg_region ?_
          refine lsw (want_none (by rfl)) (y_move rfl rfl) rfl (by decide) ?_
          refine lsw (want_none (by rfl)) (y_move rfl rfl) rfl (by decide) ?_
          refine lsw (want_t (dj := 67) (by rfl) (by kernel_rfl) rfl) (y_move rfl rfl) rfl (by decide) ?_
          have m8 := m8.below (hw9.mono (by omega))
          have m8 := m8.below (hw10.mono (by omega))
          refine lg_callw (want_t (dj := 67) (by rfl) (by kernel_rfl) rfl) (sane_any (m8.more (B' := w10.heap.size) (by omega)) (Nat.le_refl _)) (by kernel_rfl) rfl rfl rfl (by decide) ?_
          rintro u37 w37 ⟨e37, hw37⟩
          have zw37 := hw37.size
          obtain rfl : u37 = .bool true := e37.trans (congrArg Value.bool (decide_eq_true (show trIs (setL Ls x L) from (trIs_setL _ _ _))))
          refine lsw (want_none (by rfl)) (y_pick true rfl rfl rfl) rfl (by decide) ?_
          refine lsw (want_none (by rfl)) (y_move rfl rfl) rfl (by decide) ?_
          refine lsw (want_t (dj := 71) (by rfl) (by kernel_rfl) rfl) (y_move rfl rfl) rfl (by decide) ?_
          have m9 := m9.below (hw37.mono (by omega))
          refine lg_callw (want_t (dj := 71) (by rfl) (by kernel_rfl) rfl) (sane_any (m9.more (B' := w37.heap.size) (by omega)) (Nat.le_refl _)) (by kernel_rfl) rfl rfl rfl (by decide) ?_
          rintro u38 w38 ⟨e38, hw38⟩
          have zw38 := hw38.size
          obtain rfl : u38 = .bool true := e38.trans (congrArg Value.bool (decide_eq_true (show trIs (clearL Ls x) from (trIs_clearL _ _))))
          refine lsw (want_none (by rfl)) (y_pick true rfl rfl rfl) rfl (by decide) ?_
          refine lsw (want_none (by rfl)) (y_move rfl rfl) rfl (by decide) ?_
          refine lsw (want_t (dj := 75) (by rfl) (by kernel_rfl) rfl) (y_move rfl rfl) rfl (by decide) ?_
          have m10 := m10.below (hw37.mono (by omega))
          have m10 := m10.below (hw38.mono (by omega))
          refine lg_callw (want_t (dj := 75) (by rfl) (by kernel_rfl) rfl) (sane_any (m10.more (B' := w38.heap.size) (by omega)) (Nat.le_refl _)) (by kernel_rfl) rfl rfl rfl (by decide) ?_
          rintro u39 w39 ⟨e39, hw39⟩
          have zw39 := hw39.size
          obtain rfl : u39 = .bool true := e39.trans (congrArg Value.bool (decide_eq_true (show trIs (growL Ls) from (trIs_growL _))))
          refine lsw (want_none (by rfl)) (y_pick true rfl rfl rfl) rfl (by decide) ?_
          refine lsw (want_none (by rfl)) (y_move rfl rfl) rfl (by decide) ?_
          refine lsw (want_t (dj := 79) (by rfl) (by kernel_rfl) rfl) (y_move rfl rfl) rfl (by decide) ?_
          have h := h.below (hw10.mono (by omega))
          have h := h.below (hw37.mono (by omega))
          have h := h.below (hw38.mono (by omega))
          have h := h.below (hw39.mono (by omega))
          refine lg_callw (want_t (dj := 79) (by rfl) (by kernel_rfl) rfl) (trim_any h (by omega)) (by kernel_rfl) rfl rfl rfl (by decide) ?_
          rintro _ w40 ⟨s40, rfl, m40, hw40⟩
          have zw40 := hw40.size
          refine lg_callw (want_t (dj := 79) (by rfl) (by kernel_rfl) rfl) (sane_any (m40.more (B' := w40.heap.size) (by omega)) (Nat.le_refl _)) (by kernel_rfl) rfl rfl rfl (by decide) ?_
          rintro u41 w41 ⟨e41, hw41⟩
          have zw41 := hw41.size
          obtain rfl : u41 = .bool true := e41.trans (congrArg Value.bool (decide_eq_true (show trIs (trimL Ls) from (trIs_trimL _))))
          refine lsw (want_none (by rfl)) (y_pick true rfl rfl rfl) rfl (by decide) ?_
          refine lsw (want_none (by rfl)) (y_move rfl rfl) rfl (by decide) ?_
          refine lsw (want_t (dj := 84) (by rfl) (by kernel_rfl) rfl) (y_move rfl rfl) rfl (by decide) ?_
          refine lsw (want_t (dj := 84) (by rfl) (by kernel_rfl) rfl) (y_move rfl rfl) rfl (by decide) ?_
          have g7 := g7.keep hw8 (by omega)
          have g7 := g7.keep hw9 (by omega)
          have g7 := g7.keep hw10 (by omega)
          have g7 := g7.keep hw37 (by omega)
          have g7 := g7.keep hw38 (by omega)
          have g7 := g7.keep hw39 (by omega)
          have g7 := g7.keep hw40 (by omega)
          have g7 := g7.keep hw41 (by omega)
          have h := h.below (hw40.mono (by omega))
          have h := h.below (hw41.mono (by omega))
          refine lg_callw (want_t (dj := 84) (by rfl) (by kernel_rfl) rfl) (sameR_any ((g7.rowS (by omega)).more (B' := w41.heap.size) (by omega)) (h.more (B' := w41.heap.size) (by omega)) (Nat.le_refl _)) (by kernel_rfl) rfl rfl rfl (by decide) ?_
          rintro u42 w42 ⟨e42, hw42⟩
          have zw42 := hw42.size
          obtain rfl : u42 = .bool true := e42.trans (congrArg Value.bool (decide_eq_true (tr_same _)))
          refine lsw (want_none (by rfl)) (y_pick true rfl rfl rfl) rfl (by decide) ?_
          refine lsw (want_none (by rfl)) (y_move rfl rfl) rfl (by decide) ?_
          refine lsw (want_t (dj := 89) (by rfl) (by kernel_rfl) rfl) (y_move rfl rfl) rfl (by decide) ?_
          refine lsw (want_t (dj := 89) (by rfl) (by kernel_rfl) rfl) (yb (nd_t c28) (yi_neq rfl rfl rfl)) rfl (by decide) ?_
          refine lsw (want_t (dj := 89) (by rfl) (by kernel_rfl) rfl) (y_move rfl rfl) rfl (by decide) ?_
          refine lsk (want_f (dj := 92) (by rfl) (by kernel_rfl) rfl) rfl (by decide) ?_
          refine lsk (want_f (dj := 92) (by rfl) (by kernel_rfl) rfl) rfl (by decide) ?_
          refine lsk (want_f (dj := 92) (by rfl) (by kernel_rfl) rfl) rfl (by decide) ?_
          refine lsk (want_f (dj := 92) (by rfl) (by kernel_rfl) rfl) rfl (by decide) ?_
          refine lsk (want_f (dj := 92) (by rfl) (by kernel_rfl) rfl) rfl (by decide) ?_
          refine lsk (want_f (dj := 92) (by rfl) (by kernel_rfl) rfl) rfl (by decide) ?_
          refine lsk (want_f (dj := 92) (by rfl) (by kernel_rfl) rfl) rfl (by decide) ?_
          refine lsw (want_t (dj := 89) (by rfl) (by kernel_rfl) rfl) (y_pick true rfl rfl rfl) rfl (by decide) ?_
          refine lsw (want_none (by rfl)) (y_pick true rfl rfl rfl) rfl (by decide) ?_
          refine lsw (want_none (by rfl)) (y_assign rfl rfl) rfl (by decide) ?_
          refine lg_nil ?_
          refine nx (E' := [(6, _)]) (fk rfl fn) ?_
          refine cg_ret ?_
          have u := u.trans (hw9.mono u.size)
          have u := u.trans (hw10.mono u.size)
          have u := u.trans (hw37.mono u.size)
          have u := u.trans (hw38.mono u.size)
          have u := u.trans (hw39.mono u.size)
          have u := u.trans (hw40.mono u.size)
          have u := u.trans (hw41.mono u.size)
          have u := u.trans (hw42.mono u.size)
          exact eg_ret_tmp rfl rfl ⟨_, rfl, rfl, u⟩
    · refine lsw (want_none (by rfl)) (yb (nd_t c11) (yi_neq rfl rfl rfl)) rfl (by decide) ?_
      refine lsw (want_none (by rfl)) (y_move rfl rfl) rfl (by decide) ?_
      refine lsw (want_t (dj := 43) (by rfl) (by kernel_rfl) rfl) (y_move rfl rfl) rfl (by decide) ?_
      have m8 := m8.below (hw9.mono (by omega))
      have m8 := m8.below (hw10.mono (by omega))
      refine lsw (want_t (dj := 43) (by rfl) (by kernel_rfl) rfl) (y_lenM (el := 30) m8.len (by kernel_rfl) rfl rfl) rfl (by decide) ?_
      refine lsw (want_t (dj := 43) (by rfl) (by kernel_rfl) rfl) (yb (decide_eq_false (show ¬ (0 < ((setL Ls x L).length : Int)) from (by rw [setL_no c11]; decide))) (yi_gtr rfl rfl rfl)) rfl (by decide) ?_
      refine lsw (want_none (by rfl)) (y_pick true rfl rfl rfl) rfl (by decide) ?_
      refine lsw (want_none (by rfl)) (y_move rfl rfl) rfl (by decide) ?_
      refine lsw (want_t (dj := 48) (by rfl) (by kernel_rfl) rfl) (y_move rfl rfl) rfl (by decide) ?_
      by_cases c43 : (clearE Ls x) = 0
      · refine lsw (want_t (dj := 48) (by rfl) (by kernel_rfl) rfl) (yb (nd_f c43) (yi_neq rfl rfl rfl)) rfl (by decide) ?_
        refine lsw (want_t (dj := 48) (by rfl) (by kernel_rfl) rfl) (y_move rfl rfl) rfl (by decide) ?_
        refine lsk (want_f (dj := 51) (by rfl) (by kernel_rfl) rfl) rfl (by decide) ?_
        refine lsk (want_f (dj := 51) (by rfl) (by kernel_rfl) rfl) rfl (by decide) ?_
        refine lsk (want_f (dj := 51) (by rfl) (by kernel_rfl) rfl) rfl (by decide) ?_
        refine lsw (want_t (dj := 48) (by rfl) (by kernel_rfl) rfl) (y_pick false rfl rfl rfl) rfl (by decide) ?_
        refine lsw (want_none (by rfl)) (y_pick false rfl rfl rfl) rfl (by decide) ?_
        refine lsw (want_none (by rfl)) (y_move rfl rfl) rfl (by decide) ?_
        refine lsw (want_t (dj := 57) (by rfl) (by kernel_rfl) rfl) (y_move rfl rfl) rfl (by decide) ?_
        by_cases c44 : (growE Ls) = 0
        · refine lsw (want_t (dj := 57) (by rfl) (by kernel_rfl) rfl) (yb (nd_f c44) (yi_neq rfl rfl rfl)) rfl (by decide) ?_
          refine lsw (want_t (dj := 57) (by rfl) (by kernel_rfl) rfl) (y_move rfl rfl) rfl (by decide) ?_
          refine lsk (want_f (dj := 60) (by rfl) (by kernel_rfl) rfl) rfl (by decide) ?_
          refine lsk (want_f (dj := 60) (by rfl) (by kernel_rfl) rfl) rfl (by decide) ?_
          refine lsk (want_f (dj := 60) (by rfl) (by kernel_rfl) rfl) rfl (by decide) ?_
          refine lsw (want_t (dj := 57) (by rfl) (by kernel_rfl) rfl) (y_pick false rfl rfl rfl) rfl (by decide) ?_
          refine lsw (want_none (by rfl)) (y_pick false rfl rfl rfl) rfl (by decide) ?_
          refine lg_nil ?_
          refine nx (E' := [(0, _), (6, _), (7, _), (8, _), (9, _), (11, _), (13, _), (14, _), (65, _)]) (fk rfl (fk rfl (fk rfl (fk rfl (fk rfl (fk rfl (fk rfl (fk rfl (fk rfl fn))))))))) ?_
          refine cg_cf rfl ?_
          refine cg_skip ?_
          refine nx (E' := [(0, _), (6, _), (7, _), (8, _), (9, _), (11, _), (13, _), (14, _)]) (fk rfl (fk rfl (fk rfl (fk rfl (fk rfl (fk rfl (fk rfl (fk rfl fn)))))))) ?_
          refine cg_seq ?_
          refine cg_region ?_
          refine lsw (want_none (by rfl)) (y_move rfl rfl) rfl (by decide) ?_
          refine lsw (want_none (by rfl)) (y_move rfl rfl) rfl (by decide) ?_
          refine lsw (want_t (dj := 67) (by rfl) (by kernel_rfl) rfl) (y_move rfl rfl) rfl (by decide) ?_
          refine lg_callw (want_t (dj := 67) (by rfl) (by kernel_rfl) rfl) (sane_any (m8.more (B' := w10.heap.size) (by omega)) (Nat.le_refl _)) (by kernel_rfl) rfl rfl rfl (by decide) ?_
          rintro u45 w45 ⟨e45, hw45⟩
          have zw45 := hw45.size
          obtain rfl : u45 = .bool true := e45.trans (congrArg Value.bool (decide_eq_true (show trIs (setL Ls x L) from (trIs_setL _ _ _))))
          refine lsw (want_none (by rfl)) (y_pick true rfl rfl rfl) rfl (by decide) ?_
          refine lsw (want_none (by rfl)) (y_move rfl rfl) rfl (by decide) ?_
          refine lsw (want_t (dj := 71) (by rfl) (by kernel_rfl) rfl) (y_move rfl rfl) rfl (by decide) ?_
          have m9 := m9.below (hw10.mono (by omega))
          have m9 := m9.below (hw45.mono (by omega))
          refine lg_callw (want_t (dj := 71) (by rfl) (by kernel_rfl) rfl) (sane_any (m9.more (B' := w45.heap.size) (by omega)) (Nat.le_refl _)) (by kernel_rfl) rfl rfl rfl (by decide) ?_
          rintro u46 w46 ⟨e46, hw46⟩
          have zw46 := hw46.size
          obtain rfl : u46 = .bool true := e46.trans (congrArg Value.bool (decide_eq_true (show trIs (clearL Ls x) from (trIs_clearL _ _))))
          refine lsw (want_none (by rfl)) (y_pick true rfl rfl rfl) rfl (by decide) ?_
          refine lsw (want_none (by rfl)) (y_move rfl rfl) rfl (by decide) ?_
          refine lsw (want_t (dj := 75) (by rfl) (by kernel_rfl) rfl) (y_move rfl rfl) rfl (by decide) ?_
          have m10 := m10.below (hw45.mono (by omega))
          have m10 := m10.below (hw46.mono (by omega))
          refine lg_callw (want_t (dj := 75) (by rfl) (by kernel_rfl) rfl) (sane_any (m10.more (B' := w46.heap.size) (by omega)) (Nat.le_refl _)) (by kernel_rfl) rfl rfl rfl (by decide) ?_
          rintro u47 w47 ⟨e47, hw47⟩
          have zw47 := hw47.size
          obtain rfl : u47 = .bool true := e47.trans (congrArg Value.bool (decide_eq_true (show trIs (growL Ls) from (trIs_growL _))))
          refine lsw (want_none (by rfl)) (y_pick true rfl rfl rfl) rfl (by decide) ?_
          refine lsw (want_none (by rfl)) (y_move rfl rfl) rfl (by decide) ?_
          refine lsw (want_t (dj := 79) (by rfl) (by kernel_rfl) rfl) (y_move rfl rfl) rfl (by decide) ?_
          have h := h.below (hw10.mono (by omega))
          have h := h.below (hw45.mono (by omega))
          have h := h.below (hw46.mono (by omega))
          have h := h.below (hw47.mono (by omega))
          refine lg_callw (want_t (dj := 79) (by rfl) (by kernel_rfl) rfl) (trim_any h (by omega)) (by kernel_rfl) rfl rfl rfl (by decide) ?_
          rintro _ w48 ⟨s48, rfl, m48, hw48⟩
          have zw48 := hw48.size
          refine lg_callw (want_t (dj := 79) (by rfl) (by kernel_rfl) rfl) (sane_any (m48.more (B' := w48.heap.size) (by omega)) (Nat.le_refl _)) (by kernel_rfl) rfl rfl rfl (by decide) ?_
          rintro u49 w49 ⟨e49, hw49⟩
          have zw49 := hw49.size
          obtain rfl : u49 = .bool true := e49.trans (congrArg Value.bool (decide_eq_true (show trIs (trimL Ls) from (trIs_trimL _))))
          refine lsw (want_none (by rfl)) (y_pick true rfl rfl rfl) rfl (by decide) ?_
          refine lsw (want_none (by rfl)) (y_move rfl rfl) rfl (by decide) ?_
          refine lsw (want_t (dj := 84) (by rfl) (by kernel_rfl) rfl) (y_move rfl rfl) rfl (by decide) ?_
          refine lsw (want_t (dj := 84) (by rfl) (by kernel_rfl) rfl) (y_move rfl rfl) rfl (by decide) ?_
          have g7 := g7.keep hw8 (by omega)
          have g7 := g7.keep hw9 (by omega)
          have g7 := g7.keep hw10 (by omega)
          have g7 := g7.keep hw45 (by omega)
          have g7 := g7.keep hw46 (by omega)
          have g7 := g7.keep hw47 (by omega)
          have g7 := g7.keep hw48 (by omega)
          have g7 := g7.keep hw49 (by omega)
          have h := h.below (hw48.mono (by omega))
          have h := h.below (hw49.mono (by omega))
          refine lg_callw (want_t (dj := 84) (by rfl) (by kernel_rfl) rfl) (sameR_any ((g7.rowS (by omega)).more (B' := w49.heap.size) (by omega)) (h.more (B' := w49.heap.size) (by omega)) (Nat.le_refl _)) (by kernel_rfl) rfl rfl rfl (by decide) ?_
          rintro u50 w50 ⟨e50, hw50⟩
          have zw50 := hw50.size
          obtain rfl : u50 = .bool true := e50.trans (congrArg Value.bool (decide_eq_true (tr_same _)))
          refine lsw (want_none (by rfl)) (y_pick true rfl rfl rfl) rfl (by decide) ?_
          refine lsw (want_none (by rfl)) (y_move rfl rfl) rfl (by decide) ?_
          refine lsw (want_t (dj := 89) (by rfl) (by kernel_rfl) rfl) (y_move rfl rfl) rfl (by decide) ?_
          refine lsw (want_t (dj := 89) (by rfl) (by kernel_rfl) rfl) (yb (nd_f c44) (yi_neq rfl rfl rfl)) rfl (by decide) ?_
          refine lsw (want_t (dj := 89) (by rfl) (by kernel_rfl) rfl) (y_move rfl rfl) rfl (by decide) ?_
          refine lsw (want_t (dj := 92) (by rfl) (by kernel_rfl) rfl) (y_move rfl rfl) rfl (by decide) ?_
          have m10 := m10.below (hw47.mono (by omega))
          have m10 := m10.below (hw48.mono (by omega))
          have m10 := m10.below (hw49.mono (by omega))
          have m10 := m10.below (hw50.mono (by omega))
          refine lg_callw (want_t (dj := 92) (by rfl) (by kernel_rfl) rfl) (leavesT_any (m10.more (B' := w50.heap.size) (by omega)) (Nat.le_refl _)) (by kernel_rfl) rfl rfl rfl (by decide) ?_
          rintro _ w51 ⟨rfl, hw51⟩
          have zw51 := hw51.size
          refine lsw (want_t (dj := 92) (by rfl) (by kernel_rfl) rfl) (y_move rfl rfl) rfl (by decide) ?_
          have h := h.below (hw50.mono (by omega))
          have h := h.below (hw51.mono (by omega))
          refine lg_callw (want_t (dj := 92) (by rfl) (by kernel_rfl) rfl) (leavesT_any (h.more (B' := w51.heap.size) (by omega)) (Nat.le_refl _)) (by kernel_rfl) rfl rfl rfl (by decide) ?_
          rintro _ w52 ⟨rfl, hw52⟩
          have zw52 := hw52.size
          refine lsw (want_t (dj := 92) (by rfl) (by kernel_rfl) rfl) (yi_mul rfl rfl rfl (by omega) (by omega)) rfl (by decide) ?_
          refine lsw (want_t (dj := 92) (by rfl) (by kernel_rfl) rfl) (y_max rfl rfl rfl) rfl (by decide) ?_
          refine lsw (want_t (dj := 92) (by rfl) (by kernel_rfl) rfl) (yb (decide_eq_true (show ((leavesA (trAs (growL Ls)) : Nat) : Int) = (max 1 (2 * ((leavesA (trAs Ls) : Nat) : Int))) from (keep_leaves c44))) (yi_eql rfl rfl rfl)) rfl (by decide) ?_
          refine lsw (want_t (dj := 89) (by rfl) (by kernel_rfl) rfl) (y_pick false rfl rfl rfl) rfl (by decide) ?_
          refine lsw (want_none (by rfl)) (y_pick true rfl rfl rfl) rfl (by decide) ?_
          refine lsw (want_none (by rfl)) (y_assign rfl rfl) rfl (by decide) ?_
          refine lg_nil ?_
          refine nx (E' := [(6, _)]) (fk rfl fn) ?_
          refine cg_ret ?_
          have u := u.trans (hw9.mono u.size)
          have u := u.trans (hw10.mono u.size)
          have u := u.trans (hw45.mono u.size)
          have u := u.trans (hw46.mono u.size)
          have u := u.trans (hw47.mono u.size)
          have u := u.trans (hw48.mono u.size)
          have u := u.trans (hw49.mono u.size)
          have u := u.trans (hw50.mono u.size)
          have u := u.trans (hw51.mono u.size)
          have u := u.trans (hw52.mono u.size)
          exact eg_ret_tmp rfl rfl ⟨_, rfl, rfl, u⟩
        · refine lsw (want_t (dj := 57) (by rfl) (by kernel_rfl) rfl) (yb (nd_t c44) (yi_neq rfl rfl rfl)) rfl (by decide) ?_
          refine lsw (want_t (dj := 57) (by rfl) (by kernel_rfl) rfl) (y_move rfl rfl) rfl (by decide) ?_
          refine lsw (want_t (dj := 60) (by rfl) (by kernel_rfl) rfl) (y_move rfl rfl) rfl (by decide) ?_
          refine lsw (want_t (dj := 60) (by rfl) (by kernel_rfl) rfl) (y_lenM (el := 30) m10.len (by kernel_rfl) rfl rfl) rfl (by decide) ?_
          refine lsw (want_t (dj := 60) (by rfl) (by kernel_rfl) rfl) (yb (decide_eq_false (show ¬ (0 < ((growL Ls).length : Int)) from (by rw [growL_no c44]; decide))) (yi_gtr rfl rfl rfl)) rfl (by decide) ?_
          refine lsw (want_t (dj := 57) (by rfl) (by kernel_rfl) rfl) (y_pick true rfl rfl rfl) rfl (by decide) ?_
          refine lsw (want_none (by rfl)) (y_pick false rfl rfl rfl) rfl (by decide) ?_
          refine lg_nil ?_
          refine nx (E' := [(0, _), (6, _), (7, _), (8, _), (9, _), (11, _), (13, _), (14, _), (65, _)]) (fk rfl (fk rfl (fk rfl (fk rfl (fk rfl (fk rfl (fk rfl (fk rfl (fk rfl fn))))))))) ?_
          refine cg_cf rfl ?_
          refine cg_skip ?_
          refine nx (E' := [(0, _), (6, _), (7, _), (8, _), (9, _), (11, _), (13, _), (14, _)]) (fk rfl (fk rfl (fk rfl (fk rfl (fk rfl (fk rfl (fk rfl (fk rfl fn)))))))) ?_
          refine cg_seq ?_
          refine cg_region ?_
          refine lsw (want_none (by rfl)) (y_move rfl rfl) rfl (by decide) ?_
          refine lsw (want_none (by rfl)) (y_move rfl rfl) rfl (by decide) ?_
          refine lsw (want_t (dj := 67) (by rfl) (by kernel_rfl) rfl) (y_move rfl rfl) rfl (by decide) ?_
          refine lg_callw (want_t (dj := 67) (by rfl) (by kernel_rfl) rfl) (sane_any (m8.more (B' := w10.heap.size) (by omega)) (Nat.le_refl _)) (by kernel_rfl) rfl rfl rfl (by decide) ?_
          rintro u53 w53 ⟨e53, hw53⟩
          have zw53 := hw53.size
          obtain rfl : u53 = .bool true := e53.trans (congrArg Value.bool (decide_eq_true (show trIs (setL Ls x L) from (trIs_setL _ _ _))))
          refine lsw (want_none (by rfl)) (y_pick true rfl rfl rfl) rfl (by decide) ?_
          refine lsw (want_none (by rfl)) (y_move rfl rfl) rfl (by decide) ?_
          refine lsw (want_t (dj := 71) (by rfl) (by kernel_rfl) rfl) (y_move rfl rfl) rfl (by decide) ?_
          have m9 := m9.below (hw10.mono (by omega))
          have m9 := m9.below (hw53.mono (by omega))
          refine lg_callw (want_t (dj := 71) (by rfl) (by kernel_rfl) rfl) (sane_any (m9.more (B' := w53.heap.size) (by omega)) (Nat.le_refl _)) (by kernel_rfl) rfl rfl rfl (by decide) ?_
          rintro u54 w54 ⟨e54, hw54⟩
          have zw54 := hw54.size
          obtain rfl : u54 = .bool true := e54.trans (congrArg Value.bool (decide_eq_true (show trIs (clearL Ls x) from (trIs_clearL _ _))))
          refine lsw (want_none (by rfl)) (y_pick true rfl rfl rfl) rfl (by decide) ?_
          refine lsw (want_none (by rfl)) (y_move rfl rfl) rfl (by decide) ?_
          refine lsw (want_t (dj := 75) (by rfl) (by kernel_rfl) rfl) (y_move rfl rfl) rfl (by decide) ?_
          have m10 := m10.below (hw53.mono (by omega))
          have m10 := m10.below (hw54.mono (by omega))
          refine lg_callw (want_t (dj := 75) (by rfl) (by kernel_rfl) rfl) (sane_any (m10.more (B' := w54.heap.size) (by omega)) (Nat.le_refl _)) (by kernel_rfl) rfl rfl rfl (by decide) ?_
          rintro u55 w55 ⟨e55, hw55⟩
          have zw55 := hw55.size
          obtain rfl : u55 = .bool true := e55.trans (congrArg Value.bool (decide_eq_true (show trIs (growL Ls) from (trIs_growL _))))
          refine lsw (want_none (by rfl)) (y_pick true rfl rfl rfl) rfl (by decide) ?_
          refine lsw (want_none (by rfl)) (y_move rfl rfl) rfl (by decide) ?_
          refine lsw (want_t (dj := 79) (by rfl) (by kernel_rfl) rfl) (y_move rfl rfl) rfl (by decide) ?_
          have h := h.below (hw10.mono (by omega))
          have h := h.below (hw53.mono (by omega))
          have h := h.below (hw54.mono (by omega))
          have h := h.below (hw55.mono (by omega))
          refine lg_callw (want_t (dj := 79) (by rfl) (by kernel_rfl) rfl) (trim_any h (by omega)) (by kernel_rfl) rfl rfl rfl (by decide) ?_
          rintro _ w56 ⟨s56, rfl, m56, hw56⟩
          have zw56 := hw56.size
          refine lg_callw (want_t (dj := 79) (by rfl) (by kernel_rfl) rfl) (sane_any (m56.more (B' := w56.heap.size) (by omega)) (Nat.le_refl _)) (by kernel_rfl) rfl rfl rfl (by decide) ?_
          rintro u57 w57 ⟨e57, hw57⟩
          have zw57 := hw57.size
          obtain rfl : u57 = .bool true := e57.trans (congrArg Value.bool (decide_eq_true (show trIs (trimL Ls) from (trIs_trimL _))))
          refine lsw (want_none (by rfl)) (y_pick true rfl rfl rfl) rfl (by decide) ?_
          refine lsw (want_none (by rfl)) (y_move rfl rfl) rfl (by decide) ?_
          refine lsw (want_t (dj := 84) (by rfl) (by kernel_rfl) rfl) (y_move rfl rfl) rfl (by decide) ?_
          refine lsw (want_t (dj := 84) (by rfl) (by kernel_rfl) rfl) (y_move rfl rfl) rfl (by decide) ?_
          have g7 := g7.keep hw8 (by omega)
          have g7 := g7.keep hw9 (by omega)
          have g7 := g7.keep hw10 (by omega)
          have g7 := g7.keep hw53 (by omega)
          have g7 := g7.keep hw54 (by omega)
          have g7 := g7.keep hw55 (by omega)
          have g7 := g7.keep hw56 (by omega)
          have g7 := g7.keep hw57 (by omega)
          have h := h.below (hw56.mono (by omega))
          have h := h.below (hw57.mono (by omega))
          refine lg_callw (want_t (dj := 84) (by rfl) (by kernel_rfl) rfl) (sameR_any ((g7.rowS (by omega)).more (B' := w57.heap.size) (by omega)) (h.more (B' := w57.heap.size) (by omega)) (Nat.le_refl _)) (by kernel_rfl) rfl rfl rfl (by decide) ?_
          rintro u58 w58 ⟨e58, hw58⟩
          have zw58 := hw58.size
          obtain rfl : u58 = .bool true := e58.trans (congrArg Value.bool (decide_eq_true (tr_same _)))
          refine lsw (want_none (by rfl)) (y_pick true rfl rfl rfl) rfl (by decide) ?_
          refine lsw (want_none (by rfl)) (y_move rfl rfl) rfl (by decide) ?_
          refine lsw (want_t (dj := 89) (by rfl) (by kernel_rfl) rfl) (y_move rfl rfl) rfl (by decide) ?_
          refine lsw (want_t (dj := 89) (by rfl) (by kernel_rfl) rfl) (yb (nd_t c44) (yi_neq rfl rfl rfl)) rfl (by decide) ?_
          refine lsw (want_t (dj := 89) (by rfl) (by kernel_rfl) rfl) (y_move rfl rfl) rfl (by decide) ?_
          refine lsk (want_f (dj := 92) (by rfl) (by kernel_rfl) rfl) rfl (by decide) ?_
          refine lsk (want_f (dj := 92) (by rfl) (by kernel_rfl) rfl) rfl (by decide) ?_
          refine lsk (want_f (dj := 92) (by rfl) (by kernel_rfl) rfl) rfl (by decide) ?_
          refine lsk (want_f (dj := 92) (by rfl) (by kernel_rfl) rfl) rfl (by decide) ?_
          refine lsk (want_f (dj := 92) (by rfl) (by kernel_rfl) rfl) rfl (by decide) ?_
          refine lsk (want_f (dj := 92) (by rfl) (by kernel_rfl) rfl) rfl (by decide) ?_
          refine lsk (want_f (dj := 92) (by rfl) (by kernel_rfl) rfl) rfl (by decide) ?_
          refine lsw (want_t (dj := 89) (by rfl) (by kernel_rfl) rfl) (y_pick true rfl rfl rfl) rfl (by decide) ?_
          refine lsw (want_none (by rfl)) (y_pick true rfl rfl rfl) rfl (by decide) ?_
          refine lsw (want_none (by rfl)) (y_assign rfl rfl) rfl (by decide) ?_
          refine lg_nil ?_
          refine nx (E' := [(6, _)]) (fk rfl fn) ?_
          refine cg_ret ?_
          have u := u.trans (hw9.mono u.size)
          have u := u.trans (hw10.mono u.size)
          have u := u.trans (hw53.mono u.size)
          have u := u.trans (hw54.mono u.size)
          have u := u.trans (hw55.mono u.size)
          have u := u.trans (hw56.mono u.size)
          have u := u.trans (hw57.mono u.size)
          have u := u.trans (hw58.mono u.size)
          exact eg_ret_tmp rfl rfl ⟨_, rfl, rfl, u⟩
      · refine lsw (want_t (dj := 48) (by rfl) (by kernel_rfl) rfl) (yb (nd_t c43) (yi_neq rfl rfl rfl)) rfl (by decide) ?_
        refine lsw (want_t (dj := 48) (by rfl) (by kernel_rfl) rfl) (y_move rfl rfl) rfl (by decide) ?_
        refine lsw (want_t (dj := 51) (by rfl) (by kernel_rfl) rfl) (y_move rfl rfl) rfl (by decide) ?_
        have m9 := m9.below (hw10.mono (by omega))
        refine lsw (want_t (dj := 51) (by rfl) (by kernel_rfl) rfl) (y_lenM (el := 30) m9.len (by kernel_rfl) rfl rfl) rfl (by decide) ?_
        refine lsw (want_t (dj := 51) (by rfl) (by kernel_rfl) rfl) (yb (decide_eq_false (show ¬ (0 < ((clearL Ls x).length : Int)) from (by rw [clearL_nil c43]; decide))) (yi_gtr rfl rfl rfl)) rfl (by decide) ?_
        refine lsw (want_t (dj := 48) (by rfl) (by kernel_rfl) rfl) (y_pick true rfl rfl rfl) rfl (by decide) ?_
        refine lsw (want_none (by rfl)) (y_pick false rfl rfl rfl) rfl (by decide) ?_
        refine lsw (want_none (by rfl)) (y_move rfl rfl) rfl (by decide) ?_
        refine lsw (want_t (dj := 57) (by rfl) (by kernel_rfl) rfl) (y_move rfl rfl) rfl (by decide) ?_
        by_cases c59 : (growE Ls) = 0
        · refine lsw (want_t (dj := 57) (by rfl) (by kernel_rfl) rfl) (yb (nd_f c59) (yi_neq rfl rfl rfl)) rfl (by decide) ?_
          refine lsw (want_t (dj := 57) (by rfl) (by kernel_rfl) rfl) (y_move rfl rfl) rfl (by decide) ?_
          refine lsk (want_f (dj := 60) (by rfl) (by kernel_rfl) rfl) rfl (by decide) ?_
          refine lsk (want_f (dj := 60) (by rfl) (by kernel_rfl) rfl) rfl (by decide) ?_
          refine lsk (want_f (dj := 60) (by rfl) (by kernel_rfl) rfl) rfl (by decide) ?_
          refine lsw (want_t (dj := 57) (by rfl) (by kernel_rfl) rfl) (y_pick false rfl rfl rfl) rfl (by decide) ?_
          refine lsw (want_none (by rfl)) (y_pick false rfl rfl rfl) rfl (by decide) ?_
          refine lg_nil ?_
          refine nx (E' := [(0, _), (6, _), (7, _), (8, _), (9, _), (11, _), (13, _), (14, _), (65, _)]) (fk rfl (fk rfl (fk rfl (fk rfl (fk rfl (fk rfl (fk rfl (fk rfl (fk rfl fn))))))))) ?_
          refine cg_cf rfl ?_
          refine cg_skip ?_
          refine nx (E' := [(0, _), (6, _), (7, _), (8, _), (9, _), (11, _), (13, _), (14, _)]) (fk rfl (fk rfl (fk rfl (fk rfl (fk rfl (fk rfl (fk rfl (fk rfl fn)))))))) ?_
          refine cg_seq ?_
          refine cg_region ?_
          refine lsw (want_none (by rfl)) (y_move rfl rfl) rfl (by decide) ?_
          refine lsw (want_none (by rfl)) (y_move rfl rfl) rfl (by decide) ?_
          refine lsw (want_t (dj := 67) (by rfl) (by kernel_rfl) rfl) (y_move rfl rfl) rfl (by decide) ?_
          refine lg_callw (want_t (dj := 67) (by rfl) (by kernel_rfl) rfl) (sane_any (m8.more (B' := w10.heap.size) (by omega)) (Nat.le_refl _)) (by kernel_rfl) rfl rfl rfl (by decide) ?_
          rintro u60 w60 ⟨e60, hw60⟩
          have zw60 := hw60.size
          obtain rfl : u60 = .bool true := e60.trans (congrArg Value.bool (decide_eq_true (show trIs (setL Ls x L) from (trIs_setL _ _ _))))
          refine lsw (want_none (by rfl)) (y_pick true rfl rfl rfl) rfl (by decide) ?_
          refine lsw (want_none (by rfl)) (y_move rfl rfl) rfl (by decide) ?_
          refine lsw (want_t (dj := 71) (by rfl) (by kernel_rfl) rfl) (y_move rfl rfl) rfl (by decide) ?_
          have m9 := m9.below (hw60.mono (by omega))
          refine lg_callw (want_t (dj := 71) (by rfl) (by kernel_rfl) rfl) (sane_any (m9.more (B' := w60.heap.size) (by omega)) (Nat.le_refl _)) (by kernel_rfl) rfl rfl rfl (by decide) ?_
          rintro u61 w61 ⟨e61, hw61⟩
          have zw61 := hw61.size
          obtain rfl : u61 = .bool true := e61.trans (congrArg Value.bool (decide_eq_true (show trIs (clearL Ls x) from (trIs_clearL _ _))))
          refine lsw (want_none (by rfl)) (y_pick true rfl rfl rfl) rfl (by decide) ?_
          refine lsw (want_none (by rfl)) (y_move rfl rfl) rfl (by decide) ?_
          refine lsw (want_t (dj := 75) (by rfl) (by kernel_rfl) rfl) (y_move rfl rfl) rfl (by decide) ?_
          have m10 := m10.below (hw60.mono (by omega))
          have m10 := m10.below (hw61.mono (by omega))
          refine lg_callw (want_t (dj := 75) (by rfl) (by kernel_rfl) rfl) (sane_any (m10.more (B' := w61.heap.size) (by omega)) (Nat.le_refl _)) (by kernel_rfl) rfl rfl rfl (by decide) ?_
          rintro u62 w62 ⟨e62, hw62⟩
          have zw62 := hw62.size
          obtain rfl : u62 = .bool true := e62.trans (congrArg Value.bool (decide_eq_true (show trIs (growL Ls) from (trIs_growL _))))
          refine lsw (want_none (by rfl)) (y_pick true rfl rfl rfl) rfl (by decide) ?_
          refine lsw (want_none (by rfl)) (y_move rfl rfl) rfl (by decide) ?_
          refine lsw (want_t (dj := 79) (by rfl) (by kernel_rfl) rfl) (y_move rfl rfl) rfl (by decide) ?_
          have h := h.below (hw10.mono (by omega))
          have h := h.below (hw60.mono (by omega))
          have h := h.below (hw61.mono (by omega))
          have h := h.below (hw62.mono (by omega))
          refine lg_callw (want_t (dj := 79) (by rfl) (by kernel_rfl) rfl) (trim_any h (by omega)) (by kernel_rfl) rfl rfl rfl (by decide) ?_
          rintro _ w63 ⟨s63, rfl, m63, hw63⟩
          have zw63 := hw63.size
          refine lg_callw (want_t (dj := 79) (by rfl) (by kernel_rfl) rfl) (sane_any (m63.more (B' := w63.heap.size) (by omega)) (Nat.le_refl _)) (by kernel_rfl) rfl rfl rfl (by decide) ?_
          rintro u64 w64 ⟨e64, hw64⟩
          have zw64 := hw64.size
          obtain rfl : u64 = .bool true := e64.trans (congrArg Value.bool (decide_eq_true (show trIs (trimL Ls) from (trIs_trimL _))))
          refine lsw (want_none (by rfl)) (y_pick true rfl rfl rfl) rfl (by decide) ?_
          refine lsw (want_none (by rfl)) (y_move rfl rfl) rfl (by decide) ?_
          refine lsw (want_t (dj := 84) (by rfl) (by kernel_rfl) rfl) (y_move rfl rfl) rfl (by decide) ?_
          refine lsw (want_t (dj := 84) (by rfl) (by kernel_rfl) rfl) (y_move rfl rfl) rfl (by decide) ?_
          have g7 := g7.keep hw8 (by omega)
          have g7 := g7.keep hw9 (by omega)
          have g7 := g7.keep hw10 (by omega)
          have g7 := g7.keep hw60 (by omega)
          have g7 := g7.keep hw61 (by omega)
          have g7 := g7.keep hw62 (by omega)
          have g7 := g7.keep hw63 (by omega)
          have g7 := g7.keep hw64 (by omega)
          have h := h.below (hw63.mono (by omega))
          have h := h.below (hw64.mono (by omega))
          refine lg_callw (want_t (dj := 84) (by rfl) (by kernel_rfl) rfl) (sameR_any ((g7.rowS (by omega)).more (B' := w64.heap.size) (by omega)) (h.more (B' := w64.heap.size) (by omega)) (Nat.le_refl _)) (by kernel_rfl) rfl rfl rfl (by decide) ?_
          rintro u65 w65 ⟨e65, hw65⟩
          have zw65 := hw65.size
          obtain rfl : u65 = .bool true := e65.trans (congrArg Value.bool (decide_eq_true (tr_same _)))
          refine lsw (want_none (by rfl)) (y_pick true rfl rfl rfl) rfl (by decide) ?_
          refine lsw (want_none (by rfl)) (y_move rfl rfl) rfl (by decide) ?_
          refine lsw (want_t (dj := 89) (by rfl) (by kernel_rfl) rfl) (y_move rfl rfl) rfl (by decide) ?_
          refine lsw (want_t (dj := 89) (by rfl) (by kernel_rfl) rfl) (yb (nd_f c59) (yi_neq rfl rfl rfl)) rfl (by decide) ?_
          refine lsw (want_t (dj := 89) (by rfl) (by kernel_rfl) rfl) (y_move rfl rfl) rfl (by decide) ?_
          refine lsw (want_t (dj := 92) (by rfl) (by kernel_rfl) rfl) (y_move rfl rfl) rfl (by decide) ?_
          have m10 := m10.below (hw62.mono (by omega))
          have m10 := m10.below (hw63.mono (by omega))
          have m10 := m10.below (hw64.mono (by omega))
          have m10 := m10.below (hw65.mono (by omega))
          refine lg_callw (want_t (dj := 92) (by rfl) (by kernel_rfl) rfl) (leavesT_any (m10.more (B' := w65.heap.size) (by omega)) (Nat.le_refl _)) (by kernel_rfl) rfl rfl rfl (by decide) ?_
          rintro _ w66 ⟨rfl, hw66⟩
          have zw66 := hw66.size
          refine lsw (want_t (dj := 92) (by rfl) (by kernel_rfl) rfl) (y_move rfl rfl) rfl (by decide) ?_
          have h := h.below (hw65.mono (by omega))
          have h := h.below (hw66.mono (by omega))
          refine lg_callw (want_t (dj := 92) (by rfl) (by kernel_rfl) rfl) (leavesT_any (h.more (B' := w66.heap.size) (by omega)) (Nat.le_refl _)) (by kernel_rfl) rfl rfl rfl (by decide) ?_
          rintro _ w67 ⟨rfl, hw67⟩
          have zw67 := hw67.size
          refine lsw (want_t (dj := 92) (by rfl) (by kernel_rfl) rfl) (yi_mul rfl rfl rfl (by omega) (by omega)) rfl (by decide) ?_
          refine lsw (want_t (dj := 92) (by rfl) (by kernel_rfl) rfl) (y_max rfl rfl rfl) rfl (by decide) ?_
          refine lsw (want_t (dj := 92) (by rfl) (by kernel_rfl) rfl) (yb (decide_eq_true (show ((leavesA (trAs (growL Ls)) : Nat) : Int) = (max 1 (2 * ((leavesA (trAs Ls) : Nat) : Int))) from (keep_leaves c59))) (yi_eql rfl rfl rfl)) rfl (by decide) ?_
          refine lsw (want_t (dj := 89) (by rfl) (by kernel_rfl) rfl) (y_pick false rfl rfl rfl) rfl (by decide) ?_
          refine lsw (want_none (by rfl)) (y_pick true rfl rfl rfl) rfl (by decide) ?_
          refine lsw (want_none (by rfl)) (y_assign rfl rfl) rfl (by decide) ?_
          refine lg_nil ?_
          refine nx (E' := [(6, _)]) (fk rfl fn) ?_
          refine cg_ret ?_
          have u := u.trans (hw9.mono u.size)
          have u := u.trans (hw10.mono u.size)
          have u := u.trans (hw60.mono u.size)
          have u := u.trans (hw61.mono u.size)
          have u := u.trans (hw62.mono u.size)
          have u := u.trans (hw63.mono u.size)
          have u := u.trans (hw64.mono u.size)
          have u := u.trans (hw65.mono u.size)
          have u := u.trans (hw66.mono u.size)
          have u := u.trans (hw67.mono u.size)
          exact eg_ret_tmp rfl rfl ⟨_, rfl, rfl, u⟩
        · refine lsw (want_t (dj := 57) (by rfl) (by kernel_rfl) rfl) (yb (nd_t c59) (yi_neq rfl rfl rfl)) rfl (by decide) ?_
          refine lsw (want_t (dj := 57) (by rfl) (by kernel_rfl) rfl) (y_move rfl rfl) rfl (by decide) ?_
          refine lsw (want_t (dj := 60) (by rfl) (by kernel_rfl) rfl) (y_move rfl rfl) rfl (by decide) ?_
          refine lsw (want_t (dj := 60) (by rfl) (by kernel_rfl) rfl) (y_lenM (el := 30) m10.len (by kernel_rfl) rfl rfl) rfl (by decide) ?_
          refine lsw (want_t (dj := 60) (by rfl) (by kernel_rfl) rfl) (yb (decide_eq_false (show ¬ (0 < ((growL Ls).length : Int)) from (by rw [growL_no c59]; decide))) (yi_gtr rfl rfl rfl)) rfl (by decide) ?_
          refine lsw (want_t (dj := 57) (by rfl) (by kernel_rfl) rfl) (y_pick true rfl rfl rfl) rfl (by decide) ?_
          refine lsw (want_none (by rfl)) (y_pick false rfl rfl rfl) rfl (by decide) ?_
          refine lg_nil ?_
          refine nx (E' := [(0, _), (6, _), (7, _), (8, _), (9, _), (11, _), (13, _), (14, _), (65, _)]) (fk rfl (fk rfl (fk rfl (fk rfl (fk rfl (fk rfl (fk rfl (fk rfl (fk rfl fn))))))))) ?_
          refine cg_cf rfl ?_
          refine cg_skip ?_
          refine nx (E' := [(0, _), (6, _), (7, _), (8, _), (9, _), (11, _), (13, _), (14, _)]) (fk rfl (fk rfl (fk rfl (fk rfl (fk rfl (fk rfl (fk rfl (fk rfl fn)))))))) ?_
          refine cg_seq ?_
          refine cg_region ?_
          refine lsw (want_none (by rfl)) (y_move rfl rfl) rfl (by decide) ?_
          refine lsw (want_none (by rfl)) (y_move rfl rfl) rfl (by decide) ?_
          refine lsw (want_t (dj := 67) (by rfl) (by kernel_rfl) rfl) (y_move rfl rfl) rfl (by decide) ?_
          refine lg_callw (want_t (dj := 67) (by rfl) (by kernel_rfl) rfl) (sane_any (m8.more (B' := w10.heap.size) (by omega)) (Nat.le_refl _)) (by kernel_rfl) rfl rfl rfl (by decide) ?_
          rintro u68 w68 ⟨e68, hw68⟩
          have zw68 := hw68.size
          obtain rfl : u68 = .bool true := e68.trans (congrArg Value.bool (decide_eq_true (show trIs (setL Ls x L) from (trIs_setL _ _ _))))
          refine lsw (want_none (by rfl)) (y_pick true rfl rfl rfl) rfl (by decide) ?_
          refine lsw (want_none (by rfl)) (y_move rfl rfl) rfl (by decide) ?_
          refine lsw (want_t (dj := 71) (by rfl) (by kernel_rfl) rfl) (y_move rfl rfl) rfl (by decide) ?_
          have m9 := m9.below (hw68.mono (by omega))
          refine lg_callw (want_t (dj := 71) (by rfl) (by kernel_rfl) rfl) (sane_any (m9.more (B' := w68.heap.size) (by omega)) (Nat.le_refl _)) (by kernel_rfl) rfl rfl rfl (by decide) ?_
          rintro u69 w69 ⟨e69, hw69⟩
          have zw69 := hw69.size
          obtain rfl : u69 = .bool true := e69.trans (congrArg Value.bool (decide_eq_true (show trIs (clearL Ls x) from (trIs_clearL _ _))))
          refine lsw (want_none (by rfl)) (y_pick true rfl rfl rfl) rfl (by decide) ?_
          refine lsw (want_none (by rfl)) (y_move rfl rfl) rfl (by decide) ?_
          refine lsw (want_t (dj := 75) (by rfl) (by kernel_rfl) rfl) (y_move rfl rfl) rfl (by decide) ?_
          have m10 := m10.below (hw68.mono (by omega))
          have m10 := m10.below (hw69.mono (by omega))
          refine lg_callw (want_t (dj := 75) (by rfl) (by kernel_rfl) rfl) (sane_any (m10.more (B' := w69.heap.size) (by omega)) (Nat.le_refl _)) (by kernel_rfl) rfl rfl rfl (by decide) ?_
          rintro u70 w70 ⟨e70, hw70⟩
          have zw70 := hw70.size
          obtain rfl : u70 = .bool true := e70.trans (congrArg Value.bool (decide_eq_true (show trIs (growL Ls) from (trIs_growL _))))
          refine lsw (want_none (by rfl)) (y_pick true rfl rfl rfl) rfl (by decide) ?_
          refine lsw (want_none (by rfl)) (y_move rfl rfl) rfl (by decide) ?_
          refine lsw (want_t (dj := 79) (by rfl) (by kernel_rfl) rfl) (y_move rfl rfl) rfl (by decide) ?_
          have h := h.below (hw10.mono (by omega))
          have h := h.below (hw68.mono (by omega))
          have h := h.below (hw69.mono (by omega))
          have h := h.below (hw70.mono (by omega))
          refine lg_callw (want_t (dj := 79) (by rfl) (by kernel_rfl) rfl) (trim_any h (by omega)) (by kernel_rfl) rfl rfl rfl (by decide) ?_
          rintro _ w71 ⟨s71, rfl, m71, hw71⟩
          have zw71 := hw71.size
          refine lg_callw (want_t (dj := 79) (by rfl) (by kernel_rfl) rfl) (sane_any (m71.more (B' := w71.heap.size) (by omega)) (Nat.le_refl _)) (by kernel_rfl) rfl rfl rfl (by decide) ?_
          rintro u72 w72 ⟨e72, hw72⟩
          have zw72 := hw72.size
          obtain rfl : u72 = .bool true := e72.trans (congrArg Value.bool (decide_eq_true (show trIs (trimL Ls) from (trIs_trimL _))))
          refine lsw (want_none (by rfl)) (y_pick true rfl rfl rfl) rfl (by decide) ?_
          refine lsw (want_none (by rfl)) (y_move rfl rfl) rfl (by decide) ?_
          refine lsw (want_t (dj := 84) (by rfl) (by kernel_rfl) rfl) (y_move rfl rfl) rfl (by decide) ?_
          refine lsw (want_t (dj := 84) (by rfl) (by kernel_rfl) rfl) (y_move rfl rfl) rfl (by decide) ?_
          have g7 := g7.keep hw8 (by omega)
          have g7 := g7.keep hw9 (by omega)
          have g7 := g7.keep hw10 (by omega)
          have g7 := g7.keep hw68 (by omega)
          have g7 := g7.keep hw69 (by omega)
          have g7 := g7.keep hw70 (by omega)
          have g7 := g7.keep hw71 (by omega)
          have g7 := g7.keep hw72 (by omega)
          have h := h.below (hw71.mono (by omega))
          have h := h.below (hw72.mono (by omega))
          refine lg_callw (want_t (dj := 84) (by rfl) (by kernel_rfl) rfl) (sameR_any ((g7.rowS (by omega)).more (B' := w72.heap.size) (by omega)) (h.more (B' := w72.heap.size) (by omega)) (Nat.le_refl _)) (by kernel_rfl) rfl rfl rfl (by decide) ?_
          rintro u73 w73 ⟨e73, hw73⟩
          have zw73 := hw73.size
          obtain rfl : u73 = .bool true := e73.trans (congrArg Value.bool (decide_eq_true (tr_same _)))
          refine lsw (want_none (by rfl)) (y_pick true rfl rfl rfl) rfl (by decide) ?_
          refine lsw (want_none (by rfl)) (y_move rfl rfl) rfl (by decide) ?_
          refine lsw (want_t (dj := 89) (by rfl) (by kernel_rfl) rfl) (y_move rfl rfl) rfl (by decide) ?_
          refine lsw (want_t (dj := 89) (by rfl) (by kernel_rfl) rfl) (yb (nd_t c59) (yi_neq rfl rfl rfl)) rfl (by decide) ?_
          refine lsw (want_t (dj := 89) (by rfl) (by kernel_rfl) rfl) (y_move rfl rfl) rfl (by decide) ?_
          refine lsk (want_f (dj := 92) (by rfl) (by kernel_rfl) rfl) rfl (by decide) ?_
          refine lsk (want_f (dj := 92) (by rfl) (by kernel_rfl) rfl) rfl (by decide) ?_
          refine lsk (want_f (dj := 92) (by rfl) (by kernel_rfl) rfl) rfl (by decide) ?_
          refine lsk (want_f (dj := 92) (by rfl) (by kernel_rfl) rfl) rfl (by decide) ?_
          refine lsk (want_f (dj := 92) (by rfl) (by kernel_rfl) rfl) rfl (by decide) ?_
          refine lsk (want_f (dj := 92) (by rfl) (by kernel_rfl) rfl) rfl (by decide) ?_
          refine lsk (want_f (dj := 92) (by rfl) (by kernel_rfl) rfl) rfl (by decide) ?_
          refine lsw (want_t (dj := 89) (by rfl) (by kernel_rfl) rfl) (y_pick true rfl rfl rfl) rfl (by decide) ?_
          refine lsw (want_none (by rfl)) (y_pick true rfl rfl rfl) rfl (by decide) ?_
          refine lsw (want_none (by rfl)) (y_assign rfl rfl) rfl (by decide) ?_
          refine lg_nil ?_
          refine nx (E' := [(6, _)]) (fk rfl fn) ?_
          refine cg_ret ?_
          have u := u.trans (hw9.mono u.size)
          have u := u.trans (hw10.mono u.size)
          have u := u.trans (hw68.mono u.size)
          have u := u.trans (hw69.mono u.size)
          have u := u.trans (hw70.mono u.size)
          have u := u.trans (hw71.mono u.size)
          have u := u.trans (hw72.mono u.size)
          have u := u.trans (hw73.mono u.size)
          exact eg_ret_tmp rfl rfl ⟨_, rfl, rfl, u⟩
  · refine lg_callw (want_none (by rfl)) (fewR_any (h.more (B' := w2.heap.size) (by omega)) (Nat.le_refl _)) (by kernel_rfl) rfl rfl rfl (by decide) ?_
    rintro u74 w74 ⟨e74, hw74⟩
    have zw74 := hw74.size
    obtain rfl : u74 = .bool false := e74.trans (congrArg Value.bool (decide_eq_false c3))
    refine lsw (want_none (by rfl)) (y_bnot rfl rfl) rfl (by decide) ?_
    refine lg_nil ?_
    refine nx (E' := [(0, _), (1, _), (5, _), (6, _), (7, _), (18, _)]) (fk rfl (fk rfl (fk rfl (fk rfl (fk rfl (fk rfl fn)))))) ?_
    refine cg_ct rfl ?_
    refine cg_seq ?_
    refine cg_region ?_
    refine lsw (want_none (by rfl)) (y_move rfl rfl) rfl (by decide) ?_
    refine lsw (want_none (by rfl)) (y_assign rfl rfl) rfl (by decide) ?_
    refine lg_nil ?_
    refine nx (E' := [(0, _), (1, _), (5, _), (7, _), (6, _)]) (fk rfl (fk rfl (fk rfl (fk rfl (fk rfl fn))))) ?_
    refine cg_ret ?_
    refine eg_seq_ret ?_
    have u := u.trans (n1.below.mono u.size)
    have u := u.trans (hw2.mono u.size)
    have u := u.trans (hw74.mono u.size)
    exact eg_ret_tmp rfl rfl ⟨_, rfl, rfl, u⟩
end Go.Proofs.YtpoonjgkgaodmaaDoor
