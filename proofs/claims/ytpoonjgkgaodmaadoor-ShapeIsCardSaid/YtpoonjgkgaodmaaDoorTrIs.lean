/-
  Of any row, numbers and node the answers are the document's.
-/
import Derived.Test.YtpoonjgkgaodmaaDoorTrAwake
import Derived.Test.YtpoonjgkgaodmaaDoorTrClr
namespace Go.Proofs.YtpoonjgkgaodmaaDoor
open Go.ChangeShapes Go.WideShapes Go.ChangeAt Go.RowKit
set_option linter.unusedVariables false

set_option maxHeartbeats 4000000 in
theorem shapeIs_any {W : World} {s : SlV} {Ls : List Nd} (h : RwNd W W.heap.size s Ls) (x : Int) {l : NdV} {L : Nd} (hl : IsNd W W.heap.size l L) (rg : Tb W) : Calls Tryd.prog 3 #[s.v, nv x, .agg (l.cs L)] W fun e W' => ∃ v, e = .returned v ∧ v = .bool true ∧ Below W.heap.size W W' := by
  refine calls_cg (n := 129) Tryd.func3 rfl Tryd.ntmps3 (by simp) ?_
  show CG _ _ _ [(0, s.v), (1, nv x), (2, .agg (l.cs L))] _ _
  have u := Below.refl W.heap.size W
  have q5 : leavesA (trAs Ls) ≤ 64 := by have := trAs_le Ls; unfold leavesA; omega
  refine cg_seq ?_
  refine cg_region ?_
  refine lg_boxw (want_none (by rfl)) rfl rfl (by kernel_rfl) rfl (by decide) fun b1 w1 n1 => ?_
  have r1 := n1.row
  have k1 := n1.blk
  have z1 := n1.size
  have lt1 : b1 < w1.heap.size := by omega
  refine lsw (want_none (by rfl)) (y_assign rfl rfl) rfl (by decide) ?_
  refine lg_nil ?_
  refine nx (E' := [(0, _), (1, _), (5, _), (6, _)]) (fk rfl (fk rfl (fk rfl (fk rfl fn)))) ?_
  refine cg_seq ?_
  refine cg_region ?_
  refine lg_callw (want_none (by rfl)) (awakeT_any _) (by kernel_rfl) rfl rfl rfl (by decide) ?_
  rintro _ w2 ⟨rfl, hw2⟩
  have zw2 := hw2.size
  refine lsw (want_none (by rfl)) (y_assign rfl rfl) rfl (by decide) ?_
  refine lg_nil ?_
  refine nx (E' := [(0, _), (1, _), (5, _), (6, _), (7, _)]) (fk rfl (fk rfl (fk rfl (fk rfl (fk rfl fn))))) ?_
  refine cg_seq ?_
  refine cg_seq ?_
  refine cg_region ?_
  refine lsw (want_none (by rfl)) (y_move rfl rfl) rfl (by decide) ?_
  have h := h.below (n1.below.mono (by omega))
  have h := h.below (hw2.mono (by omega))
  by_cases c3 : trFew Ls
  · refine lg_callw (want_none (by rfl)) (fewR_any (h.more (B' := w2.heap.size) (by omega)) (Nat.le_refl _)) (by kernel_rfl) rfl rfl rfl (by decide) ?_
    rintro u4 w4 ⟨e4, hw4⟩
    have zw4 := hw4.size
    obtain rfl : u4 = .bool true := e4.trans (congrArg Value.bool (decide_eq_true c3))
    refine lsw (want_none (by rfl)) (y_bnot rfl rfl) rfl (by decide) ?_
    refine lg_nil ?_
    refine nx (E' := [(0, _), (1, _), (5, _), (6, _), (7, _), (23, _)]) (fk rfl (fk rfl (fk rfl (fk rfl (fk rfl (fk rfl fn)))))) ?_
    refine cg_cf rfl ?_
    refine cg_skip ?_
    refine nx (E' := [(0, _), (1, _), (5, _), (6, _), (7, _)]) (fk rfl (fk rfl (fk rfl (fk rfl (fk rfl fn))))) ?_
    refine cg_seq ?_
    refine cg_region ?_
    refine lsw (want_none (by rfl)) (y_move rfl rfl) rfl (by decide) ?_
    refine lsw (want_none (by rfl)) (y_move rfl rfl) rfl (by decide) ?_
    have r1 := RowAt.below hw2 r1.lt r1
    have r1 := RowAt.below hw4 r1.lt r1
    refine lsw (want_none (by rfl)) (y_loadA r1 (by kernel_rfl) (by kernel_rfl) rfl rfl) rfl (by decide) ?_
    have h := h.below (hw4.mono (by omega))
    have hl := hl.below (n1.below.mono (by omega))
    have hl := hl.below (hw2.mono (by omega))
    have hl := hl.below (hw4.mono (by omega))
    refine lg_callw (want_none (by rfl)) (set_any (h.more (B' := w4.heap.size) (by omega)) x (hl.more (B' := w4.heap.size) (by omega)) (Nat.le_refl _)) (by kernel_rfl) rfl rfl rfl (by decide) ?_
    rintro _ w5 ⟨s5, rfl, m5, hw5⟩
    have zw5 := hw5.size
    refine lsw (want_none (by rfl)) (y_move rfl rfl) rfl (by decide) ?_
    refine lsw (want_none (by rfl)) (y_extract rfl rfl rfl) rfl (by decide) ?_
    refine lsw (want_none (by rfl)) (y_extract rfl rfl rfl) rfl (by decide) ?_
    refine lsw (want_none (by rfl)) (y_assign rfl rfl) rfl (by decide) ?_
    refine lsw (want_none (by rfl)) (y_assign rfl rfl) rfl (by decide) ?_
    refine lg_nil ?_
    refine nx (E' := [(0, _), (1, _), (5, _), (6, _), (7, _), (8, _), (9, _)]) (fk rfl (fk rfl (fk rfl (fk rfl (fk rfl (fk rfl (fk rfl fn))))))) ?_
    refine cg_seq ?_
    refine cg_region ?_
    refine lsw (want_none (by rfl)) (y_move rfl rfl) rfl (by decide) ?_
    refine lsw (want_none (by rfl)) (y_move rfl rfl) rfl (by decide) ?_
    have r1 := RowAt.below hw5 r1.lt r1
    refine lsw (want_none (by rfl)) (y_loadA r1 (by kernel_rfl) (by kernel_rfl) rfl rfl) rfl (by decide) ?_
    have h := h.below (hw5.mono (by omega))
    have hl := hl.below (hw5.mono (by omega))
    refine lg_callw (want_none (by rfl)) (rset_any (h.more (B' := w5.heap.size) (by omega)) x (hl.more (B' := w5.heap.size) (by omega)) (Nat.le_refl _)) (by kernel_rfl) rfl rfl rfl (by decide) ?_
    rintro _ w6 ⟨s6, rfl, m6, hw6⟩
    have zw6 := hw6.size
    refine lsw (want_none (by rfl)) (y_move rfl rfl) rfl (by decide) ?_
    refine lsw (want_none (by rfl)) (y_extract rfl rfl rfl) rfl (by decide) ?_
    refine lsw (want_none (by rfl)) (y_extract rfl rfl rfl) rfl (by decide) ?_
    refine lsw (want_none (by rfl)) (y_assign rfl rfl) rfl (by decide) ?_
    refine lsw (want_none (by rfl)) (y_assign rfl rfl) rfl (by decide) ?_
    refine lg_nil ?_
    refine nx (E' := [(0, _), (1, _), (6, _), (7, _), (8, _), (9, _), (10, _), (11, _)]) (fk rfl (fk rfl (fk rfl (fk rfl (fk rfl (fk rfl (fk rfl (fk rfl fn)))))))) ?_
    refine cg_seq ?_
    refine cg_region ?_
    refine lsw (want_none (by rfl)) (y_move rfl rfl) rfl (by decide) ?_
    refine lsw (want_none (by rfl)) (y_move rfl rfl) rfl (by decide) ?_
    have h := h.below (hw6.mono (by omega))
    have u := u.trans (n1.below.mono u.size)
    have u := u.trans (hw2.mono u.size)
    have u := u.trans (hw4.mono u.size)
    have u := u.trans (hw5.mono u.size)
    have u := u.trans (hw6.mono u.size)
    refine lg_callw (want_none (by rfl)) (clear_any (h.more (B' := w6.heap.size) (by omega)) x (Nat.le_refl _) (rg.up u)) (by kernel_rfl) rfl rfl rfl (by decide) ?_
    rintro _ w7 ⟨s7, rfl, m7, hw7⟩
    have zw7 := hw7.size
    refine lsw (want_none (by rfl)) (y_move rfl rfl) rfl (by decide) ?_
    refine lsw (want_none (by rfl)) (y_extract rfl rfl rfl) rfl (by decide) ?_
    refine lsw (want_none (by rfl)) (y_extract rfl rfl rfl) rfl (by decide) ?_
    refine lsw (want_none (by rfl)) (y_assign rfl rfl) rfl (by decide) ?_
    refine lsw (want_none (by rfl)) (y_assign rfl rfl) rfl (by decide) ?_
    refine lg_nil ?_
    refine nx (E' := [(0, _), (1, _), (6, _), (7, _), (8, _), (9, _), (10, _), (11, _), (12, _), (13, _)]) (fk rfl (fk rfl (fk rfl (fk rfl (fk rfl (fk rfl (fk rfl (fk rfl (fk rfl (fk rfl fn)))))))))) ?_
    refine cg_seq ?_
    refine cg_region ?_
    refine lsw (want_none (by rfl)) (y_move rfl rfl) rfl (by decide) ?_
    refine lsw (want_none (by rfl)) (y_move rfl rfl) rfl (by decide) ?_
    have h := h.below (hw7.mono (by omega))
    have u := u.trans (hw7.mono u.size)
    refine lg_callw (want_none (by rfl)) (rclear_any (h.more (B' := w7.heap.size) (by omega)) x (Nat.le_refl _) (rg.up u)) (by kernel_rfl) rfl rfl rfl (by decide) ?_
    rintro _ w8 ⟨s8, rfl, m8, hw8⟩
    have zw8 := hw8.size
    refine lsw (want_none (by rfl)) (y_move rfl rfl) rfl (by decide) ?_
    refine lsw (want_none (by rfl)) (y_extract rfl rfl rfl) rfl (by decide) ?_
    refine lsw (want_none (by rfl)) (y_extract rfl rfl rfl) rfl (by decide) ?_
    refine lsw (want_none (by rfl)) (y_assign rfl rfl) rfl (by decide) ?_
    refine lsw (want_none (by rfl)) (y_assign rfl rfl) rfl (by decide) ?_
    refine lg_nil ?_
    refine nx (E' := [(0, _), (6, _), (7, _), (8, _), (9, _), (10, _), (11, _), (12, _), (13, _), (14, _), (15, _)]) (fk rfl (fk rfl (fk rfl (fk rfl (fk rfl (fk rfl (fk rfl (fk rfl (fk rfl (fk rfl (fk rfl fn))))))))))) ?_
    refine cg_seq ?_
    refine cg_region ?_
    refine lsw (want_none (by rfl)) (y_move rfl rfl) rfl (by decide) ?_
    have h := h.below (hw8.mono (by omega))
    refine lg_callw (want_none (by rfl)) (grow_any (h.more (B' := w8.heap.size) (by omega)) (Nat.le_refl _)) (by kernel_rfl) rfl rfl rfl (by decide) ?_
    rintro _ w9 ⟨s9, rfl, m9, hw9⟩
    have zw9 := hw9.size
    refine lsw (want_none (by rfl)) (y_move rfl rfl) rfl (by decide) ?_
    refine lsw (want_none (by rfl)) (y_extract rfl rfl rfl) rfl (by decide) ?_
    refine lsw (want_none (by rfl)) (y_extract rfl rfl rfl) rfl (by decide) ?_
    refine lsw (want_none (by rfl)) (y_assign rfl rfl) rfl (by decide) ?_
    refine lsw (want_none (by rfl)) (y_assign rfl rfl) rfl (by decide) ?_
    refine lg_nil ?_
    refine nx (E' := [(0, _), (6, _), (7, _), (8, _), (9, _), (10, _), (11, _), (12, _), (13, _), (14, _), (15, _), (16, _), (17, _)]) (fk rfl (fk rfl (fk rfl (fk rfl (fk rfl (fk rfl (fk rfl (fk rfl (fk rfl (fk rfl (fk rfl (fk rfl (fk rfl fn))))))))))))) ?_
    refine cg_seq ?_
    refine cg_region ?_
    refine lsw (want_none (by rfl)) (y_move rfl rfl) rfl (by decide) ?_
    have h := h.below (hw9.mono (by omega))
    refine lg_callw (want_none (by rfl)) (rgrow_any (h.more (B' := w9.heap.size) (by omega)) (Nat.le_refl _)) (by kernel_rfl) rfl rfl rfl (by decide) ?_
    rintro _ w10 ⟨s10, rfl, m10, hw10⟩
    have zw10 := hw10.size
    refine lsw (want_none (by rfl)) (y_move rfl rfl) rfl (by decide) ?_
    refine lsw (want_none (by rfl)) (y_extract rfl rfl rfl) rfl (by decide) ?_
    refine lsw (want_none (by rfl)) (y_extract rfl rfl rfl) rfl (by decide) ?_
    refine lsw (want_none (by rfl)) (y_assign rfl rfl) rfl (by decide) ?_
    refine lsw (want_none (by rfl)) (y_assign rfl rfl) rfl (by decide) ?_
    refine lg_nil ?_
    refine nx (E' := [(0, _), (6, _), (7, _), (8, _), (9, _), (10, _), (11, _), (12, _), (13, _), (14, _), (15, _), (16, _), (17, _), (18, _), (19, _)]) (fk rfl (fk rfl (fk rfl (fk rfl (fk rfl (fk rfl (fk rfl (fk rfl (fk rfl (fk rfl (fk rfl (fk rfl (fk rfl (fk rfl (fk rfl fn))))))))))))))) ?_
    refine cg_seq ?_
    refine cg_seq ?_
    refine cg_region ?_
    refine lsw (want_none (by rfl)) (y_move rfl rfl) rfl (by decide) ?_
    refine lsw (want_none (by rfl)) (y_move rfl rfl) rfl (by decide) ?_
    have m5 := m5.below (hw6.mono (by omega))
    have m5 := m5.below (hw7.mono (by omega))
    have m5 := m5.below (hw8.mono (by omega))
    have m5 := m5.below (hw9.mono (by omega))
    have m5 := m5.below (hw10.mono (by omega))
    have m6 := m6.below (hw7.mono (by omega))
    have m6 := m6.below (hw8.mono (by omega))
    have m6 := m6.below (hw9.mono (by omega))
    have m6 := m6.below (hw10.mono (by omega))
    refine lg_callw (want_none (by rfl)) (sameR_any (m5.more (B' := w10.heap.size) (by omega)) (m6.more (B' := w10.heap.size) (by omega)) (Nat.le_refl _)) (by kernel_rfl) rfl rfl rfl (by decide) ?_
    rintro u11 w11 ⟨e11, hw11⟩
    have zw11 := hw11.size
    obtain rfl : u11 = .bool true := e11.trans (congrArg Value.bool (decide_eq_true (tr_same _)))
    refine lsw (want_none (by rfl)) (y_bnot rfl rfl) rfl (by decide) ?_
    refine lsw (want_none (by rfl)) (y_move rfl rfl) rfl (by decide) ?_
    refine lsw (want_t (dj := 65) (by rfl) (by kernel_rfl) rfl) (y_move rfl rfl) rfl (by decide) ?_
    refine lsw (want_t (dj := 65) (by rfl) (by kernel_rfl) rfl) (y_move rfl rfl) rfl (by decide) ?_
    refine lsw (want_t (dj := 65) (by rfl) (by kernel_rfl) rfl) (yb (nd_f rfl) (yi_neq rfl rfl rfl)) rfl (by decide) ?_
    refine lsw (want_none (by rfl)) (y_pick false rfl rfl rfl) rfl (by decide) ?_
    refine lsw (want_none (by rfl)) (y_move rfl rfl) rfl (by decide) ?_
    refine lsw (want_t (dj := 70) (by rfl) (by kernel_rfl) rfl) (y_move rfl rfl) rfl (by decide) ?_
    refine lsw (want_t (dj := 70) (by rfl) (by kernel_rfl) rfl) (y_move rfl rfl) rfl (by decide) ?_
    have m7 := m7.below (hw8.mono (by omega))
    have m7 := m7.below (hw9.mono (by omega))
    have m7 := m7.below (hw10.mono (by omega))
    have m7 := m7.below (hw11.mono (by omega))
    have m8 := m8.below (hw9.mono (by omega))
    have m8 := m8.below (hw10.mono (by omega))
    have m8 := m8.below (hw11.mono (by omega))
    refine lg_callw (want_t (dj := 70) (by rfl) (by kernel_rfl) rfl) (sameR_any (m7.more (B' := w11.heap.size) (by omega)) (m8.more (B' := w11.heap.size) (by omega)) (Nat.le_refl _)) (by kernel_rfl) rfl rfl rfl (by decide) ?_
    rintro u12 w12 ⟨e12, hw12⟩
    have zw12 := hw12.size
    obtain rfl : u12 = .bool true := e12.trans (congrArg Value.bool (decide_eq_true (tr_same _)))
    refine lsw (want_t (dj := 70) (by rfl) (by kernel_rfl) rfl) (y_bnot rfl rfl) rfl (by decide) ?_
    refine lsw (want_none (by rfl)) (y_pick false rfl rfl rfl) rfl (by decide) ?_
    refine lsw (want_none (by rfl)) (y_move rfl rfl) rfl (by decide) ?_
    refine lsw (want_t (dj := 76) (by rfl) (by kernel_rfl) rfl) (y_move rfl rfl) rfl (by decide) ?_
    refine lsw (want_t (dj := 76) (by rfl) (by kernel_rfl) rfl) (y_move rfl rfl) rfl (by decide) ?_
    refine lsw (want_t (dj := 76) (by rfl) (by kernel_rfl) rfl) (yb (nd_f rfl) (yi_neq rfl rfl rfl)) rfl (by decide) ?_
    refine lsw (want_none (by rfl)) (y_pick false rfl rfl rfl) rfl (by decide) ?_
    refine lsw (want_none (by rfl)) (y_move rfl rfl) rfl (by decide) ?_
    refine lsw (want_t (dj := 81) (by rfl) (by kernel_rfl) rfl) (y_move rfl rfl) rfl (by decide) ?_
    refine lsw (want_t (dj := 81) (by rfl) (by kernel_rfl) rfl) (y_move rfl rfl) rfl (by decide) ?_
    have m9 := m9.below (hw10.mono (by omega))
    have m9 := m9.below (hw11.mono (by omega))
    have m9 := m9.below (hw12.mono (by omega))
    have m10 := m10.below (hw11.mono (by omega))
    have m10 := m10.below (hw12.mono (by omega))
    refine lg_callw (want_t (dj := 81) (by rfl) (by kernel_rfl) rfl) (sameR_any (m9.more (B' := w12.heap.size) (by omega)) (m10.more (B' := w12.heap.size) (by omega)) (Nat.le_refl _)) (by kernel_rfl) rfl rfl rfl (by decide) ?_
    rintro u13 w13 ⟨e13, hw13⟩
    have zw13 := hw13.size
    obtain rfl : u13 = .bool true := e13.trans (congrArg Value.bool (decide_eq_true (tr_same _)))
    refine lsw (want_t (dj := 81) (by rfl) (by kernel_rfl) rfl) (y_bnot rfl rfl) rfl (by decide) ?_
    refine lsw (want_none (by rfl)) (y_pick false rfl rfl rfl) rfl (by decide) ?_
    refine lsw (want_none (by rfl)) (y_move rfl rfl) rfl (by decide) ?_
    refine lsw (want_t (dj := 87) (by rfl) (by kernel_rfl) rfl) (y_move rfl rfl) rfl (by decide) ?_
    refine lsw (want_t (dj := 87) (by rfl) (by kernel_rfl) rfl) (y_move rfl rfl) rfl (by decide) ?_
    refine lsw (want_t (dj := 87) (by rfl) (by kernel_rfl) rfl) (yb (nd_f rfl) (yi_neq rfl rfl rfl)) rfl (by decide) ?_
    refine lsw (want_none (by rfl)) (y_pick false rfl rfl rfl) rfl (by decide) ?_
    refine lsw (want_none (by rfl)) (y_move rfl rfl) rfl (by decide) ?_
    refine lsw (want_t (dj := 92) (by rfl) (by kernel_rfl) rfl) (y_move rfl rfl) rfl (by decide) ?_
    have h := h.below (hw10.mono (by omega))
    have h := h.below (hw11.mono (by omega))
    have h := h.below (hw12.mono (by omega))
    have h := h.below (hw13.mono (by omega))
    refine lg_callw (want_t (dj := 92) (by rfl) (by kernel_rfl) rfl) (trim_any h (by omega)) (by kernel_rfl) rfl rfl rfl (by decide) ?_
    rintro _ w14 ⟨s14, rfl, m14, hw14⟩
    have zw14 := hw14.size
    refine lsw (want_t (dj := 92) (by rfl) (by kernel_rfl) rfl) (y_move rfl rfl) rfl (by decide) ?_
    have h := h.below (hw14.mono (by omega))
    refine lg_callw (want_t (dj := 92) (by rfl) (by kernel_rfl) rfl) (rtrim_any h (by omega)) (by kernel_rfl) rfl rfl rfl (by decide) ?_
    rintro _ w15 ⟨s15, rfl, m15, hw15⟩
    have zw15 := hw15.size
    have m14 := m14.below (hw15.mono (by omega))
    refine lg_callw (want_t (dj := 92) (by rfl) (by kernel_rfl) rfl) (sameR_any (m14.more (B' := w15.heap.size) (by omega)) (m15.more (B' := w15.heap.size) (by omega)) (Nat.le_refl _)) (by kernel_rfl) rfl rfl rfl (by decide) ?_
    rintro u16 w16 ⟨e16, hw16⟩
    have zw16 := hw16.size
    obtain rfl : u16 = .bool true := e16.trans (congrArg Value.bool (decide_eq_true (tr_same _)))
    refine lsw (want_t (dj := 92) (by rfl) (by kernel_rfl) rfl) (y_bnot rfl rfl) rfl (by decide) ?_
    refine lsw (want_none (by rfl)) (y_pick false rfl rfl rfl) rfl (by decide) ?_
    refine lg_nil ?_
    refine nx (E' := [(0, _), (6, _), (7, _), (99, _)]) (fk rfl (fk rfl (fk rfl (fk rfl fn)))) ?_
    refine cg_cf rfl ?_
    refine cg_skip ?_
    refine nx (E' := [(0, _), (6, _), (7, _)]) (fk rfl (fk rfl (fk rfl fn))) ?_
    refine cg_seq ?_
    refine cg_region ?_
    refine lsw (want_none (by rfl)) (y_move rfl rfl) rfl (by decide) ?_
    refine lsw (want_none (by rfl)) (y_move rfl rfl) rfl (by decide) ?_
    refine lsw (want_t (dj := 101) (by rfl) (by kernel_rfl) rfl) (y_move rfl rfl) rfl (by decide) ?_
    have h := h.below (hw15.mono (by omega))
    have h := h.below (hw16.mono (by omega))
    by_cases c17 : trIs Ls
    · refine lg_callw (want_t (dj := 101) (by rfl) (by kernel_rfl) rfl) (sane_any (h.more (B' := w16.heap.size) (by omega)) (Nat.le_refl _)) (by kernel_rfl) rfl rfl rfl (by decide) ?_
      rintro u18 w18 ⟨e18, hw18⟩
      have zw18 := hw18.size
      obtain rfl : u18 = .bool true := e18.trans (congrArg Value.bool (decide_eq_true c17))
      refine lsw (want_t (dj := 101) (by rfl) (by kernel_rfl) rfl) (y_move rfl rfl) rfl (by decide) ?_
      have h := h.below (hw18.mono (by omega))
      refine lg_callw (want_t (dj := 101) (by rfl) (by kernel_rfl) rfl) (rsane_any (h.more (B' := w18.heap.size) (by omega)) (Nat.le_refl _)) (by kernel_rfl) rfl rfl rfl (by decide) ?_
      rintro u19 w19 ⟨e19, hw19⟩
      have zw19 := hw19.size
      obtain rfl : u19 = .bool true := e19.trans (congrArg Value.bool (decide_eq_true c17))
      refine lsw (want_t (dj := 101) (by rfl) (by kernel_rfl) rfl) (yb (b := (true == true)) (show (true == true) = true from rfl) (y_beq (a := true) (b := true) hubo rfl rfl rfl)) rfl (by decide) ?_
      refine lsw (want_none (by rfl)) (y_pick true rfl rfl rfl) rfl (by decide) ?_
      refine lsw (want_none (by rfl)) (y_move rfl rfl) rfl (by decide) ?_
      refine lsw (want_t (dj := 108) (by rfl) (by kernel_rfl) rfl) (y_move rfl rfl) rfl (by decide) ?_
      have h := h.below (hw19.mono (by omega))
      refine lg_callw (want_t (dj := 108) (by rfl) (by kernel_rfl) rfl) (leavesT_any (h.more (B' := w19.heap.size) (by omega)) (Nat.le_refl _)) (by kernel_rfl) rfl rfl rfl (by decide) ?_
      rintro _ w20 ⟨rfl, hw20⟩
      have zw20 := hw20.size
      refine lsw (want_t (dj := 108) (by rfl) (by kernel_rfl) rfl) (y_move rfl rfl) rfl (by decide) ?_
      have h := h.below (hw20.mono (by omega))
      refine lg_callw (want_t (dj := 108) (by rfl) (by kernel_rfl) rfl) (rleavesT_any (h.more (B' := w20.heap.size) (by omega)) (Nat.le_refl _)) (by kernel_rfl) rfl rfl rfl (by decide) ?_
      rintro _ w21 ⟨rfl, hw21⟩
      have zw21 := hw21.size
      refine lsw (want_t (dj := 108) (by rfl) (by kernel_rfl) rfl) (yb (decide_eq_true rfl) (yi_eql rfl rfl rfl)) rfl (by decide) ?_
      refine lsw (want_none (by rfl)) (y_pick true rfl rfl rfl) rfl (by decide) ?_
      refine lsw (want_none (by rfl)) (y_move rfl rfl) rfl (by decide) ?_
      refine lsw (want_t (dj := 115) (by rfl) (by kernel_rfl) rfl) (y_move rfl rfl) rfl (by decide) ?_
      have h := h.below (hw21.mono (by omega))
      refine lg_callw (want_t (dj := 115) (by rfl) (by kernel_rfl) rfl) (free_any (h.more (B' := w21.heap.size) (by omega)) (Nat.le_refl _)) (by kernel_rfl) rfl rfl rfl (by decide) ?_
      rintro _ w22 ⟨rfl, hw22⟩
      have zw22 := hw22.size
      refine lsw (want_t (dj := 115) (by rfl) (by kernel_rfl) rfl) (y_move rfl rfl) rfl (by decide) ?_
      have h := h.below (hw22.mono (by omega))
      refine lg_callw (want_t (dj := 115) (by rfl) (by kernel_rfl) rfl) (rfree_any (h.more (B' := w22.heap.size) (by omega)) (Nat.le_refl _)) (by kernel_rfl) rfl rfl rfl (by decide) ?_
      rintro _ w23 ⟨rfl, hw23⟩
      have zw23 := hw23.size
      refine lsw (want_t (dj := 115) (by rfl) (by kernel_rfl) rfl) (yb (decide_eq_true rfl) (yi_eql rfl rfl rfl)) rfl (by decide) ?_
      refine lsw (want_none (by rfl)) (y_pick true rfl rfl rfl) rfl (by decide) ?_
      refine lsw (want_none (by rfl)) (y_move rfl rfl) rfl (by decide) ?_
      refine lsw (want_t (dj := 122) (by rfl) (by kernel_rfl) rfl) (y_move rfl rfl) rfl (by decide) ?_
      have h := h.below (hw23.mono (by omega))
      refine lg_callw (want_t (dj := 122) (by rfl) (by kernel_rfl) rfl) (last_any (h.more (B' := w23.heap.size) (by omega)) (Nat.le_refl _)) (by kernel_rfl) rfl rfl rfl (by decide) ?_
      rintro _ w24 ⟨rfl, hw24⟩
      have zw24 := hw24.size
      refine lsw (want_t (dj := 122) (by rfl) (by kernel_rfl) rfl) (y_move rfl rfl) rfl (by decide) ?_
      have h := h.below (hw24.mono (by omega))
      refine lg_callw (want_t (dj := 122) (by rfl) (by kernel_rfl) rfl) (rlast_any (h.more (B' := w24.heap.size) (by omega)) (Nat.le_refl _)) (by kernel_rfl) rfl rfl rfl (by decide) ?_
      rintro _ w25 ⟨rfl, hw25⟩
      have zw25 := hw25.size
      refine lsw (want_t (dj := 122) (by rfl) (by kernel_rfl) rfl) (yb (decide_eq_true rfl) (yi_eql rfl rfl rfl)) rfl (by decide) ?_
      refine lsw (want_none (by rfl)) (y_pick true rfl rfl rfl) rfl (by decide) ?_
      refine lsw (want_none (by rfl)) (y_assign rfl rfl) rfl (by decide) ?_
      refine lg_nil ?_
      refine nx (E' := [(6, _)]) (fk rfl fn) ?_
      refine cg_ret ?_
      have u := u.trans (hw8.mono u.size)
      have u := u.trans (hw9.mono u.size)
      have u := u.trans (hw10.mono u.size)
      have u := u.trans (hw11.mono u.size)
      have u := u.trans (hw12.mono u.size)
      have u := u.trans (hw13.mono u.size)
      have u := u.trans (hw14.mono u.size)
      have u := u.trans (hw15.mono u.size)
      have u := u.trans (hw16.mono u.size)
      have u := u.trans (hw18.mono u.size)
      have u := u.trans (hw19.mono u.size)
      have u := u.trans (hw20.mono u.size)
      have u := u.trans (hw21.mono u.size)
      have u := u.trans (hw22.mono u.size)
      have u := u.trans (hw23.mono u.size)
      have u := u.trans (hw24.mono u.size)
      have u := u.trans (hw25.mono u.size)
      exact eg_ret_tmp rfl rfl ⟨_, rfl, rfl, u⟩
    · refine lg_callw (want_t (dj := 101) (by rfl) (by kernel_rfl) rfl) (sane_any (h.more (B' := w16.heap.size) (by omega)) (Nat.le_refl _)) (by kernel_rfl) rfl rfl rfl (by decide) ?_
      rintro u26 w26 ⟨e26, hw26⟩
      have zw26 := hw26.size
      obtain rfl : u26 = .bool false := e26.trans (congrArg Value.bool (decide_eq_false c17))
      refine lsw (want_t (dj := 101) (by rfl) (by kernel_rfl) rfl) (y_move rfl rfl) rfl (by decide) ?_
      have h := h.below (hw26.mono (by omega))
      refine lg_callw (want_t (dj := 101) (by rfl) (by kernel_rfl) rfl) (rsane_any (h.more (B' := w26.heap.size) (by omega)) (Nat.le_refl _)) (by kernel_rfl) rfl rfl rfl (by decide) ?_
      rintro u27 w27 ⟨e27, hw27⟩
      have zw27 := hw27.size
      obtain rfl : u27 = .bool false := e27.trans (congrArg Value.bool (decide_eq_false c17))
      refine lsw (want_t (dj := 101) (by rfl) (by kernel_rfl) rfl) (yb (b := (false == false)) (show (false == false) = true from rfl) (y_beq (a := false) (b := false) hubo rfl rfl rfl)) rfl (by decide) ?_
      refine lsw (want_none (by rfl)) (y_pick true rfl rfl rfl) rfl (by decide) ?_
      refine lsw (want_none (by rfl)) (y_move rfl rfl) rfl (by decide) ?_
      refine lsw (want_t (dj := 108) (by rfl) (by kernel_rfl) rfl) (y_move rfl rfl) rfl (by decide) ?_
      have h := h.below (hw27.mono (by omega))
      refine lg_callw (want_t (dj := 108) (by rfl) (by kernel_rfl) rfl) (leavesT_any (h.more (B' := w27.heap.size) (by omega)) (Nat.le_refl _)) (by kernel_rfl) rfl rfl rfl (by decide) ?_
      rintro _ w28 ⟨rfl, hw28⟩
      have zw28 := hw28.size
      refine lsw (want_t (dj := 108) (by rfl) (by kernel_rfl) rfl) (y_move rfl rfl) rfl (by decide) ?_
      have h := h.below (hw28.mono (by omega))
      refine lg_callw (want_t (dj := 108) (by rfl) (by kernel_rfl) rfl) (rleavesT_any (h.more (B' := w28.heap.size) (by omega)) (Nat.le_refl _)) (by kernel_rfl) rfl rfl rfl (by decide) ?_
      rintro _ w29 ⟨rfl, hw29⟩
      have zw29 := hw29.size
      refine lsw (want_t (dj := 108) (by rfl) (by kernel_rfl) rfl) (yb (decide_eq_true rfl) (yi_eql rfl rfl rfl)) rfl (by decide) ?_
      refine lsw (want_none (by rfl)) (y_pick true rfl rfl rfl) rfl (by decide) ?_
      refine lsw (want_none (by rfl)) (y_move rfl rfl) rfl (by decide) ?_
      refine lsw (want_t (dj := 115) (by rfl) (by kernel_rfl) rfl) (y_move rfl rfl) rfl (by decide) ?_
      have h := h.below (hw29.mono (by omega))
      refine lg_callw (want_t (dj := 115) (by rfl) (by kernel_rfl) rfl) (free_any (h.more (B' := w29.heap.size) (by omega)) (Nat.le_refl _)) (by kernel_rfl) rfl rfl rfl (by decide) ?_
      rintro _ w30 ⟨rfl, hw30⟩
      have zw30 := hw30.size
      refine lsw (want_t (dj := 115) (by rfl) (by kernel_rfl) rfl) (y_move rfl rfl) rfl (by decide) ?_
      have h := h.below (hw30.mono (by omega))
      refine lg_callw (want_t (dj := 115) (by rfl) (by kernel_rfl) rfl) (rfree_any (h.more (B' := w30.heap.size) (by omega)) (Nat.le_refl _)) (by kernel_rfl) rfl rfl rfl (by decide) ?_
      rintro _ w31 ⟨rfl, hw31⟩
      have zw31 := hw31.size
      refine lsw (want_t (dj := 115) (by rfl) (by kernel_rfl) rfl) (yb (decide_eq_true rfl) (yi_eql rfl rfl rfl)) rfl (by decide) ?_
      refine lsw (want_none (by rfl)) (y_pick true rfl rfl rfl) rfl (by decide) ?_
      refine lsw (want_none (by rfl)) (y_move rfl rfl) rfl (by decide) ?_
      refine lsw (want_t (dj := 122) (by rfl) (by kernel_rfl) rfl) (y_move rfl rfl) rfl (by decide) ?_
      have h := h.below (hw31.mono (by omega))
      refine lg_callw (want_t (dj := 122) (by rfl) (by kernel_rfl) rfl) (last_any (h.more (B' := w31.heap.size) (by omega)) (Nat.le_refl _)) (by kernel_rfl) rfl rfl rfl (by decide) ?_
      rintro _ w32 ⟨rfl, hw32⟩
      have zw32 := hw32.size
      refine lsw (want_t (dj := 122) (by rfl) (by kernel_rfl) rfl) (y_move rfl rfl) rfl (by decide) ?_
      have h := h.below (hw32.mono (by omega))
      refine lg_callw (want_t (dj := 122) (by rfl) (by kernel_rfl) rfl) (rlast_any (h.more (B' := w32.heap.size) (by omega)) (Nat.le_refl _)) (by kernel_rfl) rfl rfl rfl (by decide) ?_
      rintro _ w33 ⟨rfl, hw33⟩
      have zw33 := hw33.size
      refine lsw (want_t (dj := 122) (by rfl) (by kernel_rfl) rfl) (yb (decide_eq_true rfl) (yi_eql rfl rfl rfl)) rfl (by decide) ?_
      refine lsw (want_none (by rfl)) (y_pick true rfl rfl rfl) rfl (by decide) ?_
      refine lsw (want_none (by rfl)) (y_assign rfl rfl) rfl (by decide) ?_
      refine lg_nil ?_
      refine nx (E' := [(6, _)]) (fk rfl fn) ?_
      refine cg_ret ?_
      have u := u.trans (hw8.mono u.size)
      have u := u.trans (hw9.mono u.size)
      have u := u.trans (hw10.mono u.size)
      have u := u.trans (hw11.mono u.size)
      have u := u.trans (hw12.mono u.size)
      have u := u.trans (hw13.mono u.size)
      have u := u.trans (hw14.mono u.size)
      have u := u.trans (hw15.mono u.size)
      have u := u.trans (hw16.mono u.size)
      have u := u.trans (hw26.mono u.size)
      have u := u.trans (hw27.mono u.size)
      have u := u.trans (hw28.mono u.size)
      have u := u.trans (hw29.mono u.size)
      have u := u.trans (hw30.mono u.size)
      have u := u.trans (hw31.mono u.size)
      have u := u.trans (hw32.mono u.size)
      have u := u.trans (hw33.mono u.size)
      exact eg_ret_tmp rfl rfl ⟨_, rfl, rfl, u⟩
  · refine lg_callw (want_none (by rfl)) (fewR_any (h.more (B' := w2.heap.size) (by omega)) (Nat.le_refl _)) (by kernel_rfl) rfl rfl rfl (by decide) ?_
    rintro u34 w34 ⟨e34, hw34⟩
    have zw34 := hw34.size
    obtain rfl : u34 = .bool false := e34.trans (congrArg Value.bool (decide_eq_false c3))
    refine lsw (want_none (by rfl)) (y_bnot rfl rfl) rfl (by decide) ?_
    refine lg_nil ?_
    refine nx (E' := [(0, _), (1, _), (5, _), (6, _), (7, _), (23, _)]) (fk rfl (fk rfl (fk rfl (fk rfl (fk rfl (fk rfl fn)))))) ?_
    refine cg_ct rfl ?_
    refine cg_seq ?_
    refine cg_region ?_
    refine lsw (want_none (by rfl)) (y_move rfl rfl) rfl (by decide) ?_
    refine lsw (want_none (by rfl)) (y_assign rfl rfl) rfl (by decide) ?_
    refine lg_nil ?_
    refine nx (E' := [(0, _), (1, _), (5, _), (7, _), (6, _)]) (fk rfl (fk rfl (fk rfl (fk rfl (fk rfl fn))))) ?_
    refine cg_ret ?_
    refine eg_seq_ret ?_
    have u := u.trans (n1.below.mono u.size)
    have u := u.trans (hw2.mono u.size)
    have u := u.trans (hw34.mono u.size)
    exact eg_ret_tmp rfl rfl ⟨_, rfl, rfl, u⟩
end Go.Proofs.YtpoonjgkgaodmaaDoor
