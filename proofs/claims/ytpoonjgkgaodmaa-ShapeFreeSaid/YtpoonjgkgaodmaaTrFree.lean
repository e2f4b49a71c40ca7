/-
  The first blank leaf.
-/
import Derived.Test.YtpoonjgkgaodmaaTrAwake
namespace Go.Proofs.Ytpoonjgkgaodmaa
open Go.ChangeShapes Go.WideShapes Go.ChangeAt Go.RowKit
set_option linter.unusedVariables false

theorem free_before {a : List Nd} {j : Nat} {M : Nd} (h1 : j < leavesA a) (h2 : freeA a < 0 ∨ (j : Int) < freeA a) (e : a[2 * j]? = some M) : ¬ M.kind = 0 := by
  rw [← atN_some e]
  rcases freeA_is a with ⟨_, f⟩ | ⟨k, f, _, _, g⟩
  · exact f j h1
  · exact g j (by omega)
theorem free_there {a : List Nd} {M : Nd} (h : ¬ freeA a < 0) (e : a[2 * (freeA a).toNat]? = some M) : M.kind = 0 := by
  rw [← atN_some e]
  rcases freeA_is a with ⟨f, _⟩ | ⟨k, f, _, g, _⟩
  · omega
  · rw [f]
    exact g
theorem last_behind {a : List Nd} {j : Nat} {M : Nd} (h2 : lastA a < (j : Int)) (e : a[j]? = some M) : M.kind = 0 := by
  have hj := (List.getElem?_eq_some_iff.1 e).1
  rw [← atN_some e]
  rcases lastA_is a with ⟨_, f⟩ | ⟨k, f, _, _, g⟩
  · exact f j hj
  · exact g j (by omega) hj
theorem last_there {a : List Nd} {M : Nd} (h : 0 ≤ lastA a) (e : a[(lastA a).toNat]? = some M) : ¬ M.kind = 0 := by
  rw [← atN_some e]
  rcases lastA_is a with ⟨f, _⟩ | ⟨k, f, _, g, _⟩
  · omega
  · rw [f]
    exact g
theorem last_range (a : List Nd) : -1 ≤ lastA a ∧ lastA a < (a.length : Int) := by
  rcases lastA_is a with ⟨f, _⟩ | ⟨k, f, h, _, _⟩
  · omega
  · omega
theorem free_later {a : List Nd} {N : Nd} (ht : trIs a) (h : setE a (2 * freeA a) N = 0) (f0 : ¬ freeA a < 0) (hk : N.kind = 1) : freeA a < freeA (trAs (setL a (2 * freeA a) N)) ∨ freeA (trAs (setL a (2 * freeA a) N)) = -1 := by
  have hf := (set_facts h).1.le
  rw [trAs_ok (trIs_setL _ _ _), setL_ok h, trAs_ok ht]
  rw [trAs_ok ht] at hf
  rcases freeA_is a with ⟨f, _⟩ | ⟨j, f, h1, h2, h3⟩
  · omega
  · rcases freeA_is (a.set (2 * freeA a).toNat N) with ⟨g, _⟩ | ⟨k, g, g1, g2, _⟩
    · exact .inr g
    · refine .inl ?_
      rw [g, f]
      rw [atN_set (by omega)] at g2
      by_cases q : 2 * k = (2 * freeA a).toNat
      · rw [if_pos q] at g2
        omega
      · rw [if_neg q] at g2
        by_cases r : k < j
        · exact absurd g2 (h3 k r)
        · omega
set_option maxHeartbeats 4000000 in
theorem shapeFree_any {W : World} {s : SlV} {Ls : List Nd} (h : RwNd W W.heap.size s Ls) {l : LfV} {L : Lf} (hl : IsLf W W.heap.size l L) : Calls Try.prog 4 #[s.v, .agg (l.cs L)] W fun e W' => ∃ v, e = .returned v ∧ v = .bool true ∧ Below W.heap.size W W' := by
  refine calls_cg (n := 122) Try.func4 rfl Try.ntmps4 (by simp) ?_
  show CG _ _ _ [(0, s.v), (1, .agg (l.cs L))] _ _
  have u := Below.refl W.heap.size W
  have q1 := h.len
  have q2 := h.cap
  have fr := freeA_range (trAs Ls)
  have lr := last_range (trAs Ls)
  have q6 := trAs_le Ls
  have q5 : leavesA (trAs Ls) = ((trAs Ls).length + 1) / 2 := rfl
  refine cg_seq ?_
  refine cg_region ?_
  refine lg_boxw (want_none (by rfl)) rfl rfl (by kernel_rfl) rfl (by decide) fun b1 w1 n1 => ?_
  have r1 := n1.row
  have k1 := n1.blk
  have z1 := n1.size
  have lt1 : b1 < w1.heap.size := by omega
  refine lsw (want_none (by rfl)) (y_assign rfl rfl) rfl (by decide) ?_
  refine lg_nil ?_
  refine nx (E' := [(0, _), (3, _), (4, _)]) (fk rfl (fk rfl (fk rfl fn))) ?_
  refine cg_seq ?_
  refine cg_region ?_
  refine lg_callw (want_none (by rfl)) (awakeT_any _) (by kernel_rfl) rfl rfl rfl (by decide) ?_
  rintro _ w2 ⟨rfl, hw2⟩
  have zw2 := hw2.size
  refine lsw (want_none (by rfl)) (y_assign rfl rfl) rfl (by decide) ?_
  refine lg_nil ?_
  refine nx (E' := [(0, _), (3, _), (4, _), (5, _)]) (fk rfl (fk rfl (fk rfl (fk rfl fn)))) ?_
  refine cg_seq ?_
  refine cg_seq ?_
  refine cg_region ?_
  refine lsw (want_none (by rfl)) (y_move rfl rfl) rfl (by decide) ?_
  have h := h.below (n1.below.mono (by omega))
  have h := h.below (hw2.mono (by omega))
  by_cases c3 : trFew Ls
  · refine lg_callw (want_none (by rfl)) (fewR_any (h.more (B' := w2.heap.size) (by omega)) (Nat.le_refl _)) (by kernel_rfl) rfl rfl rfl (by decide) ?_
    rintro u4 w4 ⟨e4, hw4⟩
    have zw4 := hw4.size
    obtain rfl : u4 = .bool true := e4.trans (congrArg Value.bool (decide_eq_true c3))
    refine lsw (want_none (by rfl)) (y_bnot rfl rfl) rfl (by decide) ?_
    refine lsw (want_none (by rfl)) (y_move rfl rfl) rfl (by decide) ?_
    refine lsw (want_t (dj := 17) (by rfl) (by kernel_rfl) rfl) (y_move rfl rfl) rfl (by decide) ?_
    have h := h.below (hw4.mono (by omega))
    by_cases c5 : trIs Ls
    · have htr := c5
      have htl := trIs_le htr
      have hta := trAs_ok htr
      have fla : freeA Ls = freeA (trAs Ls) := by rw [hta]
      have lla : lastA Ls = lastA (trAs Ls) := by rw [hta]
      have lva : leavesA Ls = leavesA (trAs Ls) := by rw [hta]
      rw [hta] at q5 lr
      refine lg_callw (want_t (dj := 17) (by rfl) (by kernel_rfl) rfl) (sane_any (h.more (B' := w4.heap.size) (by omega)) (Nat.le_refl _)) (by kernel_rfl) rfl rfl rfl (by decide) ?_
      rintro u6 w6 ⟨e6, hw6⟩
      have zw6 := hw6.size
      obtain rfl : u6 = .bool true := e6.trans (congrArg Value.bool (decide_eq_true c5))
      refine lsw (want_t (dj := 17) (by rfl) (by kernel_rfl) rfl) (y_bnot rfl rfl) rfl (by decide) ?_
      refine lsw (want_none (by rfl)) (y_pick false rfl rfl rfl) rfl (by decide) ?_
      refine lg_nil ?_
      refine nx (E' := [(0, _), (3, _), (4, _), (5, _), (21, _)]) (fk rfl (fk rfl (fk rfl (fk rfl (fk rfl fn))))) ?_
      refine cg_cf rfl ?_
      refine cg_skip ?_
      refine nx (E' := [(0, _), (3, _), (4, _), (5, _)]) (fk rfl (fk rfl (fk rfl (fk rfl fn)))) ?_
      refine cg_seq ?_
      refine cg_region ?_
      refine lsw (want_none (by rfl)) (y_move rfl rfl) rfl (by decide) ?_
      have h := h.below (hw6.mono (by omega))
      refine lg_callw (want_none (by rfl)) (free_any (h.more (B' := w6.heap.size) (by omega)) (Nat.le_refl _)) (by kernel_rfl) rfl rfl rfl (by decide) ?_
      rintro _ w7 ⟨rfl, hw7⟩
      have zw7 := hw7.size
      refine lsw (want_none (by rfl)) (y_assign rfl rfl) rfl (by decide) ?_
      refine lg_nil ?_
      refine nx (E' := [(0, _), (3, _), (4, _), (5, _), (6, _)]) (fk rfl (fk rfl (fk rfl (fk rfl (fk rfl fn))))) ?_
      refine cg_seq ?_
      refine cg_region ?_
      refine lsw (want_none (by rfl)) (y_move rfl rfl) rfl (by decide) ?_
      refine lsw (want_none (by rfl)) (y_assign rfl rfl) rfl (by decide) ?_
      refine lg_nil ?_
      refine nx (E' := [(0, _), (3, _), (4, _), (5, _), (6, _), (7, _)]) (fk rfl (fk rfl (fk rfl (fk rfl (fk rfl (fk rfl fn)))))) ?_
      refine cg_seq ?_
      refine cg_seq ?_
      refine cg_region ?_
      refine lsw (want_none (by rfl)) (y_move rfl rfl) rfl (by decide) ?_
      by_cases c8 : (freeA (trAs Ls)) < 0
      · refine lsw (want_none (by rfl)) (yb (decide_eq_true c8) (yi_lss rfl rfl rfl)) rfl (by decide) ?_
        refine lg_nil ?_
        refine nx (E' := [(0, _), (3, _), (4, _), (5, _), (6, _), (7, _), (27, _)]) (fk rfl (fk rfl (fk rfl (fk rfl (fk rfl (fk rfl (fk rfl fn))))))) ?_
        refine cg_ct rfl ?_
        refine cg_region ?_
        refine lsw (want_none (by rfl)) (y_move rfl rfl) rfl (by decide) ?_
        have h := h.below (hw7.mono (by omega))
        refine lg_callw (want_none (by rfl)) (leavesT_any (h.more (B' := w7.heap.size) (by omega)) (Nat.le_refl _)) (by kernel_rfl) rfl rfl rfl (by decide) ?_
        rintro _ w9 ⟨rfl, hw9⟩
        have zw9 := hw9.size
        refine lsw (want_none (by rfl)) (y_assign rfl rfl) rfl (by decide) ?_
        refine lg_nil ?_
        refine nx (E' := [(0, _), (3, _), (4, _), (5, _), (6, _), (7, _)]) (fk rfl (fk rfl (fk rfl (fk rfl (fk rfl (fk rfl fn)))))) ?_
        refine cg_seq ?_
        refine cg_seq ?_
        refine cg_region ?_
        refine lsw (want_none (by rfl)) (y_assign rfl rfl) rfl (by decide) ?_
        refine lg_nil ?_
        refine nx (E' := [(0, _), (3, _), (4, _), (5, _), (6, _), (7, _), (8, _)]) (fk rfl (fk rfl (fk rfl (fk rfl (fk rfl (fk rfl (fk rfl fn))))))) ?_
        refine cg_block ?_
        have h := h.below (hw9.mono (by omega))
        have r1 := RowAt.below hw2 r1.lt r1
        have r1 := RowAt.below hw4 r1.lt r1
        have r1 := RowAt.below hw6 r1.lt r1
        have r1 := RowAt.below hw7 r1.lt r1
        have r1 := RowAt.below hw9 r1.lt r1
        have hl := hl.below (n1.below.mono (by omega))
        have hl := hl.below (hw2.mono (by omega))
        have hl := hl.below (hw4.mono (by omega))
        have hl := hl.below (hw6.mono (by omega))
        have hl := hl.below (hw7.mono (by omega))
        have hl := hl.below (hw9.mono (by omega))
        have u := u.trans (n1.below.mono u.size)
        have u := u.trans (hw2.mono u.size)
        have u := u.trans (hw4.mono u.size)
        have u := u.trans (hw6.mono u.size)
        have u := u.trans (hw7.mono u.size)
        have u := u.trans (hw9.mono u.size)
        refine cg_loopE (fun t a v => Holds 122 [(0, s.v), (3, pv b1 0), (5, .bool true), (6, nv (freeA (trAs Ls))), (7, nv ((leavesA (trAs Ls) : Nat) : Int)), (8, nv ((t : Nat) : Int))] a ∧ RwNd v W.heap.size s Ls ∧ RowAt v b1 32 (l.cs L) ∧ IsLf v W.heap.size l L ∧ Below W.heap.size W v) 200 (fun a ha => ⟨ha.keep (fk rfl (fk rfl (fk rfl (fk rfl (fk rfl (fk rfl fn)))))), h, r1, hl, u⟩) ?_
        rintro t a v ht ⟨ha, h, r1, hl, u⟩
        refine cg_at ha ?_
        clear ha a
        have zv := u.size
        have l_r1 := r1.lt
        have q1 := h.len
        have q2 := h.cap
        refine cg_seq ?_
        refine cg_seq ?_
        refine cg_region ?_
        refine lsw (want_none (by rfl)) (y_move rfl rfl) rfl (by decide) ?_
        refine lsw (want_none (by rfl)) (y_move rfl rfl) rfl (by decide) ?_
        by_cases c10 : ((t : Nat) : Int) < ((leavesA (trAs Ls) : Nat) : Int)
        · refine lsw (want_none (by rfl)) (yb (decide_eq_true c10) (yi_lss rfl rfl rfl)) rfl (by decide) ?_
          refine lg_nil ?_
          refine nx (E' := [(0, _), (3, _), (5, _), (6, _), (7, _), (8, _), (30, _), (31, _), (32, _)]) (fk rfl (fk rfl (fk rfl (fk rfl (fk rfl (fk rfl (fk rfl (fk rfl (fk rfl fn))))))))) ?_
          refine cg_ct rfl ?_
          refine cg_skip ?_
          refine nx (E' := [(0, _), (3, _), (5, _), (6, _), (7, _), (8, _), (30, _), (31, _), (32, _)]) (fk rfl (fk rfl (fk rfl (fk rfl (fk rfl (fk rfl (fk rfl (fk rfl (fk rfl fn))))))))) ?_
          refine cg_seq ?_
          refine cg_block ?_
          refine cg_seq ?_
          refine cg_region ?_
          refine lsw (want_none (by rfl)) (y_move rfl rfl) rfl (by decide) ?_
          refine lsw (want_none (by rfl)) (y_move rfl rfl) rfl (by decide) ?_
          refine lsw (want_none (by rfl)) (yv (congrArg nv (show 2 * ((t : Nat) : Int) = ((2 * t : Nat) : Int) by omega)) (yi_mul rfl rfl rfl (by omega) (by omega))) rfl (by decide) ?_
          obtain ⟨eb11, eo11, el11, eL11, eA11, eB11, eg11, eh11, ec11⟩ := h.at ((2 * t)) (by have := h.len; omega)
          refine lsw (want_none (by rfl)) (y_ixR (s := s) (el := 37) (k := 8) (i := (2 * t)) (iI := ((2 * t : Nat) : Int)) eA11 (by kernel_rfl) (by kernel_rfl) (by omega) (by have := h.len; omega) rfl rfl rfl) rfl (by decide) ?_
          refine lsw (want_none (by rfl)) (y_fld (off := 0) (by kernel_rfl) rfl rfl) rfl (by decide) ?_
          refine lsw (want_none (by rfl)) (y_celld (ec11 0 _ rfl) (by kernel_rfl) rfl rfl) rfl (by decide) ?_
          refine lsw (want_none (by rfl)) (yb (decide_eq_false (show ¬ (eL11.kind = 0) from (free_before (a := Ls) (by omega) (by rw [fla]; exact (.inl c8)) eg11))) (yi_eql rfl rfl rfl)) rfl (by decide) ?_
          refine lg_nil ?_
          refine nx (E' := [(0, _), (3, _), (5, _), (6, _), (7, _), (8, _), (30, _), (31, _), (32, _), (35, _), (36, _), (37, _), (38, _), (39, _), (40, _), (41, _)]) (fk rfl (fk rfl (fk rfl (fk rfl (fk rfl (fk rfl (fk rfl (fk rfl (fk rfl (fk rfl (fk rfl (fk rfl (fk rfl (fk rfl (fk rfl (fk rfl fn)))))))))))))))) ?_
          refine cg_cf rfl ?_
          refine cg_skip ?_
          refine eg_block_norm ?_
          refine nx (E' := [(0, _), (3, _), (5, _), (6, _), (7, _), (8, _), (30, _), (31, _), (32, _), (35, _), (36, _), (37, _), (38, _), (39, _), (40, _), (41, _)]) (fk rfl (fk rfl (fk rfl (fk rfl (fk rfl (fk rfl (fk rfl (fk rfl (fk rfl (fk rfl (fk rfl (fk rfl (fk rfl (fk rfl (fk rfl (fk rfl fn)))))))))))))))) ?_
          refine cg_region ?_
          refine lsw (want_none (by rfl)) (y_move rfl rfl) rfl (by decide) ?_
          refine lsw (want_none (by rfl)) (yv (congrArg nv (show ((t : Nat) : Int) + 1 = ((t + 1 : Nat) : Int) by omega)) (yi_add rfl rfl rfl (by omega) (by omega))) rfl (by decide) ?_
          refine lsw (want_none (by rfl)) (y_assign rfl rfl) rfl (by decide) ?_
          refine lg_nil ?_
          exact fun a ha => (show t < 200 ∧ _ from ⟨(by omega), ha.keep (fk rfl (fk rfl (fk rfl (fk rfl (fk rfl (fk rfl fn)))))), h, r1, hl, u⟩)
        · refine lsw (want_none (by rfl)) (yb (decide_eq_false c10) (yi_lss rfl rfl rfl)) rfl (by decide) ?_
          refine lg_nil ?_
          refine nx (E' := [(0, _), (3, _), (5, _), (6, _), (7, _), (8, _), (30, _), (31, _), (32, _)]) (fk rfl (fk rfl (fk rfl (fk rfl (fk rfl (fk rfl (fk rfl (fk rfl (fk rfl fn))))))))) ?_
          refine cg_cf rfl ?_
          refine cg_exit ?_
          refine eg_seq_exit ?_
          refine eg_seq_exit ?_
          refine eg_block_exit ?_
          refine nx (E' := [(0, _), (3, _), (5, _), (6, _)]) (fk rfl (fk rfl (fk rfl (fk rfl fn)))) ?_
          refine cg_seq ?_
          refine cg_region ?_
          refine lsw (want_none (by rfl)) (y_move rfl rfl) rfl (by decide) ?_
          refine lg_callw (want_none (by rfl)) (last_any (h.more (B' := v.heap.size) (by omega)) (Nat.le_refl _)) (by kernel_rfl) rfl rfl rfl (by decide) ?_
          rintro _ w12 ⟨rfl, hw12⟩
          have zw12 := hw12.size
          refine lsw (want_none (by rfl)) (y_assign rfl rfl) rfl (by decide) ?_
          refine lg_nil ?_
          refine nx (E' := [(0, _), (3, _), (5, _), (6, _), (9, _)]) (fk rfl (fk rfl (fk rfl (fk rfl (fk rfl fn))))) ?_
          refine cg_seq ?_
          refine cg_seq ?_
          refine cg_region ?_
          refine lsw (want_none (by rfl)) (y_move rfl rfl) rfl (by decide) ?_
          refine lsw (want_none (by rfl)) (yv (congrArg nv (show (lastA (trAs Ls)) + 1 = ((((lastA (trAs Ls)) + 1).toNat + 0 : Nat) : Int) by omega)) (yi_add rfl rfl rfl (by omega) (by omega))) rfl (by decide) ?_
          refine lsw (want_none (by rfl)) (y_assign rfl rfl) rfl (by decide) ?_
          refine lg_nil ?_
          refine nx (E' := [(0, _), (3, _), (5, _), (6, _), (9, _), (10, _)]) (fk rfl (fk rfl (fk rfl (fk rfl (fk rfl (fk rfl fn)))))) ?_
          refine cg_block ?_
          have h := h.below (hw12.mono (by omega))
          have r1 := RowAt.below hw12 r1.lt r1
          have hl := hl.below (hw12.mono (by omega))
          have u := u.trans (hw12.mono u.size)
          refine cg_loopE (fun t a v => Holds 122 [(0, s.v), (3, pv b1 0), (5, .bool true), (6, nv (freeA (trAs Ls))), (9, nv (lastA (trAs Ls))), (10, nv ((((lastA (trAs Ls)) + 1).toNat + t : Nat) : Int))] a ∧ RwNd v W.heap.size s Ls ∧ RowAt v b1 32 (l.cs L) ∧ IsLf v W.heap.size l L ∧ Below W.heap.size W v ∧ t ≤ 130) 400 (fun a ha => ⟨ha.keep (fk rfl (fk rfl (fk rfl (fk rfl (fk rfl (fk rfl fn)))))), h, r1, hl, u, (by omega)⟩) ?_
          rintro t a v ht ⟨ha, h, r1, hl, u, tle⟩
          refine cg_at ha ?_
          clear ha a
          have zv := u.size
          have l_r1 := r1.lt
          have q1 := h.len
          have q2 := h.cap
          refine cg_seq ?_
          refine cg_seq ?_
          refine cg_region ?_
          refine lsw (want_none (by rfl)) (y_move rfl rfl) rfl (by decide) ?_
          refine lsw (want_none (by rfl)) (y_move rfl rfl) rfl (by decide) ?_
          refine lsw (want_none (by rfl)) (y_lenM (el := 37) h.len (by kernel_rfl) rfl rfl) rfl (by decide) ?_
          by_cases c13 : ((((lastA (trAs Ls)) + 1).toNat + t : Nat) : Int) < (Ls.length : Int)
          · refine lsw (want_none (by rfl)) (yb (decide_eq_true c13) (yi_lss rfl rfl rfl)) rfl (by decide) ?_
            refine lg_nil ?_
            refine nx (E' := [(0, _), (3, _), (5, _), (6, _), (9, _), (10, _), (46, _), (47, _), (48, _), (49, _)]) (fk rfl (fk rfl (fk rfl (fk rfl (fk rfl (fk rfl (fk rfl (fk rfl (fk rfl (fk rfl fn)))))))))) ?_
            refine cg_ct rfl ?_
            refine cg_skip ?_
            refine nx (E' := [(0, _), (3, _), (5, _), (6, _), (9, _), (10, _), (46, _), (47, _), (48, _), (49, _)]) (fk rfl (fk rfl (fk rfl (fk rfl (fk rfl (fk rfl (fk rfl (fk rfl (fk rfl (fk rfl fn)))))))))) ?_
            refine cg_seq ?_
            refine cg_block ?_
            refine cg_seq ?_
            refine cg_region ?_
            refine lsw (want_none (by rfl)) (y_move rfl rfl) rfl (by decide) ?_
            refine lsw (want_none (by rfl)) (y_move rfl rfl) rfl (by decide) ?_
            obtain ⟨eb14, eo14, el14, eL14, eA14, eB14, eg14, eh14, ec14⟩ := h.at ((((lastA (trAs Ls)) + 1).toNat + t)) (by have := h.len; omega)
            refine lsw (want_none (by rfl)) (y_ixR (s := s) (el := 37) (k := 8) (i := (((lastA (trAs Ls)) + 1).toNat + t)) (iI := ((((lastA (trAs Ls)) + 1).toNat + t : Nat) : Int)) eA14 (by kernel_rfl) (by kernel_rfl) (by omega) (by have := h.len; omega) rfl rfl rfl) rfl (by decide) ?_
            refine lsw (want_none (by rfl)) (y_fld (off := 0) (by kernel_rfl) rfl rfl) rfl (by decide) ?_
            refine lsw (want_none (by rfl)) (y_celld (ec14 0 _ rfl) (by kernel_rfl) rfl rfl) rfl (by decide) ?_
            refine lsw (want_none (by rfl)) (yb (nd_f (show eL14.kind = 0 from (last_behind (a := Ls) (by omega) eg14))) (yi_neq rfl rfl rfl)) rfl (by decide) ?_
            refine lg_nil ?_
            refine nx (E' := [(0, _), (3, _), (5, _), (6, _), (9, _), (10, _), (46, _), (47, _), (48, _), (49, _), (52, _), (53, _), (54, _), (55, _), (56, _), (57, _)]) (fk rfl (fk rfl (fk rfl (fk rfl (fk rfl (fk rfl (fk rfl (fk rfl (fk rfl (fk rfl (fk rfl (fk rfl (fk rfl (fk rfl (fk rfl (fk rfl fn)))))))))))))))) ?_
            refine cg_cf rfl ?_
            refine cg_skip ?_
            refine eg_block_norm ?_
            refine nx (E' := [(0, _), (3, _), (5, _), (6, _), (9, _), (10, _), (46, _), (47, _), (48, _), (49, _), (52, _), (53, _), (54, _), (55, _), (56, _), (57, _)]) (fk rfl (fk rfl (fk rfl (fk rfl (fk rfl (fk rfl (fk rfl (fk rfl (fk rfl (fk rfl (fk rfl (fk rfl (fk rfl (fk rfl (fk rfl (fk rfl fn)))))))))))))))) ?_
            refine cg_region ?_
            refine lsw (want_none (by rfl)) (y_move rfl rfl) rfl (by decide) ?_
            refine lsw (want_none (by rfl)) (yv (congrArg nv (show ((((lastA (trAs Ls)) + 1).toNat + t : Nat) : Int) + 1 = ((((lastA (trAs Ls)) + 1).toNat + (t + 1) : Nat) : Int) by omega)) (yi_add rfl rfl rfl (by omega) (by omega))) rfl (by decide) ?_
            refine lsw (want_none (by rfl)) (y_assign rfl rfl) rfl (by decide) ?_
            refine lg_nil ?_
            exact fun a ha => (show t < 400 ∧ _ from ⟨(by omega), ha.keep (fk rfl (fk rfl (fk rfl (fk rfl (fk rfl (fk rfl fn)))))), h, r1, hl, u, (by omega)⟩)
          · refine lsw (want_none (by rfl)) (yb (decide_eq_false c13) (yi_lss rfl rfl rfl)) rfl (by decide) ?_
            refine lg_nil ?_
            refine nx (E' := [(0, _), (3, _), (5, _), (6, _), (9, _), (10, _), (46, _), (47, _), (48, _), (49, _)]) (fk rfl (fk rfl (fk rfl (fk rfl (fk rfl (fk rfl (fk rfl (fk rfl (fk rfl (fk rfl fn)))))))))) ?_
            refine cg_cf rfl ?_
            refine cg_exit ?_
            refine eg_seq_exit ?_
            refine eg_seq_exit ?_
            refine eg_block_exit ?_
            refine nx (E' := [(0, _), (3, _), (5, _), (6, _), (9, _)]) (fk rfl (fk rfl (fk rfl (fk rfl (fk rfl fn))))) ?_
            refine cg_seq ?_
            refine cg_seq ?_
            refine cg_region ?_
            refine lsw (want_none (by rfl)) (y_move rfl rfl) rfl (by decide) ?_
            refine lsw (want_none (by rfl)) (y_move rfl rfl) rfl (by decide) ?_
            refine lsw (want_none (by rfl)) (y_lenM (el := 37) h.len (by kernel_rfl) rfl rfl) rfl (by decide) ?_
            refine lsw (want_none (by rfl)) (yb (decide_eq_false (show ¬ ((Ls.length : Int) ≤ (lastA (trAs Ls))) from (by omega))) (yi_geq rfl rfl rfl)) rfl (by decide) ?_
            refine lsw (want_none (by rfl)) (y_move rfl rfl) rfl (by decide) ?_
            refine lsw (want_t (dj := 62) (by rfl) (by kernel_rfl) rfl) (y_move rfl rfl) rfl (by decide) ?_
            by_cases c15 : 0 ≤ (lastA (trAs Ls))
            · refine lsw (want_t (dj := 62) (by rfl) (by kernel_rfl) rfl) (yb (decide_eq_true c15) (yi_geq rfl rfl rfl)) rfl (by decide) ?_
              refine lsw (want_t (dj := 62) (by rfl) (by kernel_rfl) rfl) (y_move rfl rfl) rfl (by decide) ?_
              refine lsw (want_t (dj := 65) (by rfl) (by kernel_rfl) rfl) (y_move rfl rfl) rfl (by decide) ?_
              refine lsw (want_t (dj := 65) (by rfl) (by kernel_rfl) rfl) (yv (congrArg nv (show (lastA (trAs Ls)) = (((lastA (trAs Ls)).toNat : Nat) : Int) by omega)) (y_move rfl rfl)) rfl (by decide) ?_
              obtain ⟨eb16, eo16, el16, eL16, eA16, eB16, eg16, eh16, ec16⟩ := h.at (((lastA (trAs Ls)).toNat)) (by have := h.len; omega)
              refine lsw (want_t (dj := 65) (by rfl) (by kernel_rfl) rfl) (y_ixR (s := s) (el := 37) (k := 8) (i := ((lastA (trAs Ls)).toNat)) (iI := (((lastA (trAs Ls)).toNat : Nat) : Int)) eA16 (by kernel_rfl) (by kernel_rfl) (by omega) (by have := h.len; omega) rfl rfl rfl) rfl (by decide) ?_
              refine lsw (want_t (dj := 65) (by rfl) (by kernel_rfl) rfl) (y_fld (off := 0) (by kernel_rfl) rfl rfl) rfl (by decide) ?_
              refine lsw (want_t (dj := 65) (by rfl) (by kernel_rfl) rfl) (y_celld (ec16 0 _ rfl) (by kernel_rfl) rfl rfl) rfl (by decide) ?_
              refine lsw (want_t (dj := 65) (by rfl) (by kernel_rfl) rfl) (yb (decide_eq_false (show ¬ (eL16.kind = 0) from (last_there (a := Ls) (by omega) (by rw [lla]; exact eg16)))) (yi_eql rfl rfl rfl)) rfl (by decide) ?_
              refine lsw (want_t (dj := 62) (by rfl) (by kernel_rfl) rfl) (y_pick true rfl rfl rfl) rfl (by decide) ?_
              refine lsw (want_none (by rfl)) (y_pick false rfl rfl rfl) rfl (by decide) ?_
              refine lsw (want_none (by rfl)) (y_move rfl rfl) rfl (by decide) ?_
              refine lsw (want_t (dj := 74) (by rfl) (by kernel_rfl) rfl) (y_move rfl rfl) rfl (by decide) ?_
              refine lsw (want_t (dj := 74) (by rfl) (by kernel_rfl) rfl) (y_move rfl rfl) rfl (by decide) ?_
              refine lg_callw (want_t (dj := 74) (by rfl) (by kernel_rfl) rfl) (leavesT_any (h.more (B' := v.heap.size) (by omega)) (Nat.le_refl _)) (by kernel_rfl) rfl rfl rfl (by decide) ?_
              rintro _ w17 ⟨rfl, hw17⟩
              have zw17 := hw17.size
              refine lsw (want_t (dj := 74) (by rfl) (by kernel_rfl) rfl) (yb (decide_eq_false (show ¬ (((leavesA (trAs Ls) : Nat) : Int) ≤ (freeA (trAs Ls))) from (by omega))) (yi_geq rfl rfl rfl)) rfl (by decide) ?_
              refine lsw (want_none (by rfl)) (y_pick false rfl rfl rfl) rfl (by decide) ?_
              refine lsw (want_none (by rfl)) (y_move rfl rfl) rfl (by decide) ?_
              refine lsw (want_t (dj := 80) (by rfl) (by kernel_rfl) rfl) (y_move rfl rfl) rfl (by decide) ?_
              refine lsw (want_t (dj := 80) (by rfl) (by kernel_rfl) rfl) (yb (decide_eq_false (show ¬ (0 ≤ (freeA (trAs Ls))) from (by omega))) (yi_geq rfl rfl rfl)) rfl (by decide) ?_
              refine lsw (want_t (dj := 80) (by rfl) (by kernel_rfl) rfl) (y_move rfl rfl) rfl (by decide) ?_
              refine lsk (want_f (dj := 83) (by rfl) (by kernel_rfl) rfl) rfl (by decide) ?_
              refine lsk (want_f (dj := 83) (by rfl) (by kernel_rfl) rfl) rfl (by decide) ?_
              refine lsk (want_f (dj := 83) (by rfl) (by kernel_rfl) rfl) rfl (by decide) ?_
              refine lsk (want_f (dj := 83) (by rfl) (by kernel_rfl) rfl) rfl (by decide) ?_
              refine lsk (want_f (dj := 83) (by rfl) (by kernel_rfl) rfl) rfl (by decide) ?_
              refine lsk (want_f (dj := 83) (by rfl) (by kernel_rfl) rfl) rfl (by decide) ?_
              refine lsk (want_f (dj := 83) (by rfl) (by kernel_rfl) rfl) rfl (by decide) ?_
              refine lsw (want_t (dj := 80) (by rfl) (by kernel_rfl) rfl) (y_pick false rfl rfl rfl) rfl (by decide) ?_
              refine lsw (want_none (by rfl)) (y_pick false rfl rfl rfl) rfl (by decide) ?_
              refine lg_nil ?_
              refine nx (E' := [(0, _), (3, _), (5, _), (6, _), (92, _)]) (fk rfl (fk rfl (fk rfl (fk rfl (fk rfl fn))))) ?_
              refine cg_cf rfl ?_
              refine cg_skip ?_
              refine nx (E' := [(0, _), (3, _), (5, _), (6, _)]) (fk rfl (fk rfl (fk rfl (fk rfl fn)))) ?_
              refine cg_seq ?_
              refine cg_region ?_
              refine lsw (want_none (by rfl)) (y_move rfl rfl) rfl (by decide) ?_
              refine lsw (want_none (by rfl)) (y_move rfl rfl) rfl (by decide) ?_
              refine lsw (want_none (by rfl)) (yi_mul rfl rfl rfl (by omega) (by omega)) rfl (by decide) ?_
              have r1 := RowAt.below hw17 r1.lt r1
              refine lsw (want_none (by rfl)) (y_loadA r1 (by kernel_rfl) (by kernel_rfl) rfl rfl) rfl (by decide) ?_
              refine lsw (want_none (by rfl)) (y_build (cs := (⟨l, PnV.zero⟩ : NdV).cs (⟨1, L, Pn.zero⟩ : Nd)) rfl rfl (by kernel_rfl)) rfl (by decide) ?_
              have h := h.below (hw17.mono (by omega))
              have hl := hl.below (hw17.mono (by omega))
              refine lg_callw (want_none (by rfl)) (set_any (h.more (B' := w17.heap.size) (by omega)) (2 * (freeA (trAs Ls))) (show IsNd w17 w17.heap.size (⟨l, PnV.zero⟩ : NdV) (⟨1, L, Pn.zero⟩ : Nd) from ⟨(hl.more (B' := w17.heap.size) (by omega)), ((IsPn.zero _ 0).more (B' := w17.heap.size) (by omega))⟩) (Nat.le_refl _)) (by kernel_rfl) rfl rfl rfl (by decide) ?_
              rintro _ w18 ⟨s18, rfl, m18, hw18⟩
              have zw18 := hw18.size
              refine lsw (want_none (by rfl)) (y_move rfl rfl) rfl (by decide) ?_
              refine lsw (want_none (by rfl)) (y_extract rfl rfl rfl) rfl (by decide) ?_
              refine lsw (want_none (by rfl)) (y_extract rfl rfl rfl) rfl (by decide) ?_
              refine lsw (want_none (by rfl)) (y_assign rfl rfl) rfl (by decide) ?_
              refine lsw (want_none (by rfl)) (y_assign rfl rfl) rfl (by decide) ?_
              refine lg_nil ?_
              refine nx (E' := [(5, _), (6, _), (11, _), (12, _)]) (fk rfl (fk rfl (fk rfl (fk rfl fn)))) ?_
              refine cg_seq ?_
              refine cg_region ?_
              refine lsw (want_none (by rfl)) (y_move rfl rfl) rfl (by decide) ?_
              refine lsw (want_none (by rfl)) (y_move rfl rfl) rfl (by decide) ?_
              refine lsw (want_t (dj := 103) (by rfl) (by kernel_rfl) rfl) (y_move rfl rfl) rfl (by decide) ?_
              refine lsw (want_t (dj := 103) (by rfl) (by kernel_rfl) rfl) (yb (decide_eq_true c8) (yi_lss rfl rfl rfl)) rfl (by decide) ?_
              refine lsw (want_t (dj := 103) (by rfl) (by kernel_rfl) rfl) (y_move rfl rfl) rfl (by decide) ?_
              refine lsk (want_f (dj := 106) (by rfl) (by kernel_rfl) rfl) rfl (by decide) ?_
              refine lsk (want_f (dj := 106) (by rfl) (by kernel_rfl) rfl) rfl (by decide) ?_
              refine lsw (want_t (dj := 103) (by rfl) (by kernel_rfl) rfl) (y_pick true rfl rfl rfl) rfl (by decide) ?_
              refine lsw (want_t (dj := 103) (by rfl) (by kernel_rfl) rfl) (y_move rfl rfl) rfl (by decide) ?_
              refine lsk (want_f (dj := 110) (by rfl) (by kernel_rfl) rfl) rfl (by decide) ?_
              refine lsk (want_f (dj := 110) (by rfl) (by kernel_rfl) rfl) rfl (by decide) ?_
              refine lsk (want_f (dj := 110) (by rfl) (by kernel_rfl) rfl) rfl (by decide) ?_
              refine lsk (want_f (dj := 110) (by rfl) (by kernel_rfl) rfl) rfl (by decide) ?_
              refine lsw (want_t (dj := 103) (by rfl) (by kernel_rfl) rfl) (y_pick true rfl rfl rfl) rfl (by decide) ?_
              refine lsw (want_t (dj := 103) (by rfl) (by kernel_rfl) rfl) (y_move rfl rfl) rfl (by decide) ?_
              refine lsk (want_f (dj := 116) (by rfl) (by kernel_rfl) rfl) rfl (by decide) ?_
              refine lsk (want_f (dj := 116) (by rfl) (by kernel_rfl) rfl) rfl (by decide) ?_
              refine lsk (want_f (dj := 116) (by rfl) (by kernel_rfl) rfl) rfl (by decide) ?_
              refine lsw (want_t (dj := 103) (by rfl) (by kernel_rfl) rfl) (y_pick true rfl rfl rfl) rfl (by decide) ?_
              refine lsw (want_none (by rfl)) (y_pick true rfl rfl rfl) rfl (by decide) ?_
              refine lsw (want_none (by rfl)) (y_assign rfl rfl) rfl (by decide) ?_
              refine lg_nil ?_
              refine nx (E' := [(4, _)]) (fk rfl fn) ?_
              refine cg_ret ?_
              have u := u.trans (hw17.mono u.size)
              have u := u.trans (hw18.mono u.size)
              exact eg_ret_tmp rfl rfl ⟨_, rfl, rfl, u⟩
            · refine lsw (want_t (dj := 62) (by rfl) (by kernel_rfl) rfl) (yb (decide_eq_false c15) (yi_geq rfl rfl rfl)) rfl (by decide) ?_
              refine lsw (want_t (dj := 62) (by rfl) (by kernel_rfl) rfl) (y_move rfl rfl) rfl (by decide) ?_
              refine lsk (want_f (dj := 65) (by rfl) (by kernel_rfl) rfl) rfl (by decide) ?_
              refine lsk (want_f (dj := 65) (by rfl) (by kernel_rfl) rfl) rfl (by decide) ?_
              refine lsk (want_f (dj := 65) (by rfl) (by kernel_rfl) rfl) rfl (by decide) ?_
              refine lsk (want_f (dj := 65) (by rfl) (by kernel_rfl) rfl) rfl (by decide) ?_
              refine lsk (want_f (dj := 65) (by rfl) (by kernel_rfl) rfl) rfl (by decide) ?_
              refine lsk (want_f (dj := 65) (by rfl) (by kernel_rfl) rfl) rfl (by decide) ?_
              refine lsw (want_t (dj := 62) (by rfl) (by kernel_rfl) rfl) (y_pick false rfl rfl rfl) rfl (by decide) ?_
              refine lsw (want_none (by rfl)) (y_pick false rfl rfl rfl) rfl (by decide) ?_
              refine lsw (want_none (by rfl)) (y_move rfl rfl) rfl (by decide) ?_
              refine lsw (want_t (dj := 74) (by rfl) (by kernel_rfl) rfl) (y_move rfl rfl) rfl (by decide) ?_
              refine lsw (want_t (dj := 74) (by rfl) (by kernel_rfl) rfl) (y_move rfl rfl) rfl (by decide) ?_
              refine lg_callw (want_t (dj := 74) (by rfl) (by kernel_rfl) rfl) (leavesT_any (h.more (B' := v.heap.size) (by omega)) (Nat.le_refl _)) (by kernel_rfl) rfl rfl rfl (by decide) ?_
              rintro _ w19 ⟨rfl, hw19⟩
              have zw19 := hw19.size
              refine lsw (want_t (dj := 74) (by rfl) (by kernel_rfl) rfl) (yb (decide_eq_false (show ¬ (((leavesA (trAs Ls) : Nat) : Int) ≤ (freeA (trAs Ls))) from (by omega))) (yi_geq rfl rfl rfl)) rfl (by decide) ?_
              refine lsw (want_none (by rfl)) (y_pick false rfl rfl rfl) rfl (by decide) ?_
              refine lsw (want_none (by rfl)) (y_move rfl rfl) rfl (by decide) ?_
              refine lsw (want_t (dj := 80) (by rfl) (by kernel_rfl) rfl) (y_move rfl rfl) rfl (by decide) ?_
              refine lsw (want_t (dj := 80) (by rfl) (by kernel_rfl) rfl) (yb (decide_eq_false (show ¬ (0 ≤ (freeA (trAs Ls))) from (by omega))) (yi_geq rfl rfl rfl)) rfl (by decide) ?_
              refine lsw (want_t (dj := 80) (by rfl) (by kernel_rfl) rfl) (y_move rfl rfl) rfl (by decide) ?_
              refine lsk (want_f (dj := 83) (by rfl) (by kernel_rfl) rfl) rfl (by decide) ?_
              refine lsk (want_f (dj := 83) (by rfl) (by kernel_rfl) rfl) rfl (by decide) ?_
              refine lsk (want_f (dj := 83) (by rfl) (by kernel_rfl) rfl) rfl (by decide) ?_
              refine lsk (want_f (dj := 83) (by rfl) (by kernel_rfl) rfl) rfl (by decide) ?_
              refine lsk (want_f (dj := 83) (by rfl) (by kernel_rfl) rfl) rfl (by decide) ?_
              refine lsk (want_f (dj := 83) (by rfl) (by kernel_rfl) rfl) rfl (by decide) ?_
              refine lsk (want_f (dj := 83) (by rfl) (by kernel_rfl) rfl) rfl (by decide) ?_
              refine lsw (want_t (dj := 80) (by rfl) (by kernel_rfl) rfl) (y_pick false rfl rfl rfl) rfl (by decide) ?_
              refine lsw (want_none (by rfl)) (y_pick false rfl rfl rfl) rfl (by decide) ?_
              refine lg_nil ?_
              refine nx (E' := [(0, _), (3, _), (5, _), (6, _), (92, _)]) (fk rfl (fk rfl (fk rfl (fk rfl (fk rfl fn))))) ?_
              refine cg_cf rfl ?_
              refine cg_skip ?_
              refine nx (E' := [(0, _), (3, _), (5, _), (6, _)]) (fk rfl (fk rfl (fk rfl (fk rfl fn)))) ?_
              refine cg_seq ?_
              refine cg_region ?_
              refine lsw (want_none (by rfl)) (y_move rfl rfl) rfl (by decide) ?_
              refine lsw (want_none (by rfl)) (y_move rfl rfl) rfl (by decide) ?_
              refine lsw (want_none (by rfl)) (yi_mul rfl rfl rfl (by omega) (by omega)) rfl (by decide) ?_
              have r1 := RowAt.below hw19 r1.lt r1
              refine lsw (want_none (by rfl)) (y_loadA r1 (by kernel_rfl) (by kernel_rfl) rfl rfl) rfl (by decide) ?_
              refine lsw (want_none (by rfl)) (y_build (cs := (⟨l, PnV.zero⟩ : NdV).cs (⟨1, L, Pn.zero⟩ : Nd)) rfl rfl (by kernel_rfl)) rfl (by decide) ?_
              have h := h.below (hw19.mono (by omega))
              have hl := hl.below (hw19.mono (by omega))
              refine lg_callw (want_none (by rfl)) (set_any (h.more (B' := w19.heap.size) (by omega)) (2 * (freeA (trAs Ls))) (show IsNd w19 w19.heap.size (⟨l, PnV.zero⟩ : NdV) (⟨1, L, Pn.zero⟩ : Nd) from ⟨(hl.more (B' := w19.heap.size) (by omega)), ((IsPn.zero _ 0).more (B' := w19.heap.size) (by omega))⟩) (Nat.le_refl _)) (by kernel_rfl) rfl rfl rfl (by decide) ?_
              rintro _ w20 ⟨s20, rfl, m20, hw20⟩
              have zw20 := hw20.size
              refine lsw (want_none (by rfl)) (y_move rfl rfl) rfl (by decide) ?_
              refine lsw (want_none (by rfl)) (y_extract rfl rfl rfl) rfl (by decide) ?_
              refine lsw (want_none (by rfl)) (y_extract rfl rfl rfl) rfl (by decide) ?_
              refine lsw (want_none (by rfl)) (y_assign rfl rfl) rfl (by decide) ?_
              refine lsw (want_none (by rfl)) (y_assign rfl rfl) rfl (by decide) ?_
              refine lg_nil ?_
              refine nx (E' := [(5, _), (6, _), (11, _), (12, _)]) (fk rfl (fk rfl (fk rfl (fk rfl fn)))) ?_
              refine cg_seq ?_
              refine cg_region ?_
              refine lsw (want_none (by rfl)) (y_move rfl rfl) rfl (by decide) ?_
              refine lsw (want_none (by rfl)) (y_move rfl rfl) rfl (by decide) ?_
              refine lsw (want_t (dj := 103) (by rfl) (by kernel_rfl) rfl) (y_move rfl rfl) rfl (by decide) ?_
              refine lsw (want_t (dj := 103) (by rfl) (by kernel_rfl) rfl) (yb (decide_eq_true c8) (yi_lss rfl rfl rfl)) rfl (by decide) ?_
              refine lsw (want_t (dj := 103) (by rfl) (by kernel_rfl) rfl) (y_move rfl rfl) rfl (by decide) ?_
              refine lsk (want_f (dj := 106) (by rfl) (by kernel_rfl) rfl) rfl (by decide) ?_
              refine lsk (want_f (dj := 106) (by rfl) (by kernel_rfl) rfl) rfl (by decide) ?_
              refine lsw (want_t (dj := 103) (by rfl) (by kernel_rfl) rfl) (y_pick true rfl rfl rfl) rfl (by decide) ?_
              refine lsw (want_t (dj := 103) (by rfl) (by kernel_rfl) rfl) (y_move rfl rfl) rfl (by decide) ?_
              refine lsk (want_f (dj := 110) (by rfl) (by kernel_rfl) rfl) rfl (by decide) ?_
              refine lsk (want_f (dj := 110) (by rfl) (by kernel_rfl) rfl) rfl (by decide) ?_
              refine lsk (want_f (dj := 110) (by rfl) (by kernel_rfl) rfl) rfl (by decide) ?_
              refine lsk (want_f (dj := 110) (by rfl) (by kernel_rfl) rfl) rfl (by decide) ?_
              refine lsw (want_t (dj := 103) (by rfl) (by kernel_rfl) rfl) (y_pick true rfl rfl rfl) rfl (by decide) ?_
              refine lsw (want_t (dj := 103) (by rfl) (by kernel_rfl) rfl) (y_move rfl rfl) rfl (by decide) ?_
              refine lsk (want_f (dj := 116) (by rfl) (by kernel_rfl) rfl) rfl (by decide) ?_
              refine lsk (want_f (dj := 116) (by rfl) (by kernel_rfl) rfl) rfl (by decide) ?_
              refine lsk (want_f (dj := 116) (by rfl) (by kernel_rfl) rfl) rfl (by decide) ?_
              refine lsw (want_t (dj := 103) (by rfl) (by kernel_rfl) rfl) (y_pick true rfl rfl rfl) rfl (by decide) ?_
              refine lsw (want_none (by rfl)) (y_pick true rfl rfl rfl) rfl (by decide) ?_
              refine lsw (want_none (by rfl)) (y_assign rfl rfl) rfl (by decide) ?_
              refine lg_nil ?_
              refine nx (E' := [(4, _)]) (fk rfl fn) ?_
              refine cg_ret ?_
              have u := u.trans (hw19.mono u.size)
              have u := u.trans (hw20.mono u.size)
              exact eg_ret_tmp rfl rfl ⟨_, rfl, rfl, u⟩
      · have fpos := c8
        refine lsw (want_none (by rfl)) (yb (decide_eq_false c8) (yi_lss rfl rfl rfl)) rfl (by decide) ?_
        refine lg_nil ?_
        refine nx (E' := [(0, _), (3, _), (4, _), (5, _), (6, _), (7, _), (27, _)]) (fk rfl (fk rfl (fk rfl (fk rfl (fk rfl (fk rfl (fk rfl fn))))))) ?_
        refine cg_cf rfl ?_
        refine cg_skip ?_
        refine nx (E' := [(0, _), (3, _), (4, _), (5, _), (6, _), (7, _)]) (fk rfl (fk rfl (fk rfl (fk rfl (fk rfl (fk rfl fn)))))) ?_
        refine cg_seq ?_
        refine cg_seq ?_
        refine cg_region ?_
        refine lsw (want_none (by rfl)) (y_assign rfl rfl) rfl (by decide) ?_
        refine lg_nil ?_
        refine nx (E' := [(0, _), (3, _), (4, _), (5, _), (6, _), (7, _), (8, _)]) (fk rfl (fk rfl (fk rfl (fk rfl (fk rfl (fk rfl (fk rfl fn))))))) ?_
        refine cg_block ?_
        have h := h.below (hw7.mono (by omega))
        have r1 := RowAt.below hw2 r1.lt r1
        have r1 := RowAt.below hw4 r1.lt r1
        have r1 := RowAt.below hw6 r1.lt r1
        have r1 := RowAt.below hw7 r1.lt r1
        have hl := hl.below (n1.below.mono (by omega))
        have hl := hl.below (hw2.mono (by omega))
        have hl := hl.below (hw4.mono (by omega))
        have hl := hl.below (hw6.mono (by omega))
        have hl := hl.below (hw7.mono (by omega))
        have u := u.trans (n1.below.mono u.size)
        have u := u.trans (hw2.mono u.size)
        have u := u.trans (hw4.mono u.size)
        have u := u.trans (hw6.mono u.size)
        have u := u.trans (hw7.mono u.size)
        refine cg_loopE (fun t a v => Holds 122 [(0, s.v), (3, pv b1 0), (5, .bool true), (6, nv (freeA (trAs Ls))), (7, nv (freeA (trAs Ls))), (8, nv ((t : Nat) : Int))] a ∧ RwNd v W.heap.size s Ls ∧ RowAt v b1 32 (l.cs L) ∧ IsLf v W.heap.size l L ∧ Below W.heap.size W v) 200 (fun a ha => ⟨ha.keep (fk rfl (fk rfl (fk rfl (fk rfl (fk rfl (fk rfl fn)))))), h, r1, hl, u⟩) ?_
        rintro t a v ht ⟨ha, h, r1, hl, u⟩
        refine cg_at ha ?_
        clear ha a
        have zv := u.size
        have l_r1 := r1.lt
        have q1 := h.len
        have q2 := h.cap
        refine cg_seq ?_
        refine cg_seq ?_
        refine cg_region ?_
        refine lsw (want_none (by rfl)) (y_move rfl rfl) rfl (by decide) ?_
        refine lsw (want_none (by rfl)) (y_move rfl rfl) rfl (by decide) ?_
        by_cases c21 : ((t : Nat) : Int) < (freeA (trAs Ls))
        · refine lsw (want_none (by rfl)) (yb (decide_eq_true c21) (yi_lss rfl rfl rfl)) rfl (by decide) ?_
          refine lg_nil ?_
          refine nx (E' := [(0, _), (3, _), (5, _), (6, _), (7, _), (8, _), (30, _), (31, _), (32, _)]) (fk rfl (fk rfl (fk rfl (fk rfl (fk rfl (fk rfl (fk rfl (fk rfl (fk rfl fn))))))))) ?_
          refine cg_ct rfl ?_
          refine cg_skip ?_
          refine nx (E' := [(0, _), (3, _), (5, _), (6, _), (7, _), (8, _), (30, _), (31, _), (32, _)]) (fk rfl (fk rfl (fk rfl (fk rfl (fk rfl (fk rfl (fk rfl (fk rfl (fk rfl fn))))))))) ?_
          refine cg_seq ?_
          refine cg_block ?_
          refine cg_seq ?_
          refine cg_region ?_
          refine lsw (want_none (by rfl)) (y_move rfl rfl) rfl (by decide) ?_
          refine lsw (want_none (by rfl)) (y_move rfl rfl) rfl (by decide) ?_
          refine lsw (want_none (by rfl)) (yv (congrArg nv (show 2 * ((t : Nat) : Int) = ((2 * t : Nat) : Int) by omega)) (yi_mul rfl rfl rfl (by omega) (by omega))) rfl (by decide) ?_
          obtain ⟨eb22, eo22, el22, eL22, eA22, eB22, eg22, eh22, ec22⟩ := h.at ((2 * t)) (by have := h.len; omega)
          refine lsw (want_none (by rfl)) (y_ixR (s := s) (el := 37) (k := 8) (i := (2 * t)) (iI := ((2 * t : Nat) : Int)) eA22 (by kernel_rfl) (by kernel_rfl) (by omega) (by have := h.len; omega) rfl rfl rfl) rfl (by decide) ?_
          refine lsw (want_none (by rfl)) (y_fld (off := 0) (by kernel_rfl) rfl rfl) rfl (by decide) ?_
          refine lsw (want_none (by rfl)) (y_celld (ec22 0 _ rfl) (by kernel_rfl) rfl rfl) rfl (by decide) ?_
          refine lsw (want_none (by rfl)) (yb (decide_eq_false (show ¬ (eL22.kind = 0) from (free_before (a := Ls) (by omega) (by rw [fla]; exact (.inr (by omega))) eg22))) (yi_eql rfl rfl rfl)) rfl (by decide) ?_
          refine lg_nil ?_
          refine nx (E' := [(0, _), (3, _), (5, _), (6, _), (7, _), (8, _), (30, _), (31, _), (32, _), (35, _), (36, _), (37, _), (38, _), (39, _), (40, _), (41, _)]) (fk rfl (fk rfl (fk rfl (fk rfl (fk rfl (fk rfl (fk rfl (fk rfl (fk rfl (fk rfl (fk rfl (fk rfl (fk rfl (fk rfl (fk rfl (fk rfl fn)))))))))))))))) ?_
          refine cg_cf rfl ?_
          refine cg_skip ?_
          refine eg_block_norm ?_
          refine nx (E' := [(0, _), (3, _), (5, _), (6, _), (7, _), (8, _), (30, _), (31, _), (32, _), (35, _), (36, _), (37, _), (38, _), (39, _), (40, _), (41, _)]) (fk rfl (fk rfl (fk rfl (fk rfl (fk rfl (fk rfl (fk rfl (fk rfl (fk rfl (fk rfl (fk rfl (fk rfl (fk rfl (fk rfl (fk rfl (fk rfl fn)))))))))))))))) ?_
          refine cg_region ?_
          refine lsw (want_none (by rfl)) (y_move rfl rfl) rfl (by decide) ?_
          refine lsw (want_none (by rfl)) (yv (congrArg nv (show ((t : Nat) : Int) + 1 = ((t + 1 : Nat) : Int) by omega)) (yi_add rfl rfl rfl (by omega) (by omega))) rfl (by decide) ?_
          refine lsw (want_none (by rfl)) (y_assign rfl rfl) rfl (by decide) ?_
          refine lg_nil ?_
          exact fun a ha => (show t < 200 ∧ _ from ⟨(by omega), ha.keep (fk rfl (fk rfl (fk rfl (fk rfl (fk rfl (fk rfl fn)))))), h, r1, hl, u⟩)
        · refine lsw (want_none (by rfl)) (yb (decide_eq_false c21) (yi_lss rfl rfl rfl)) rfl (by decide) ?_
          refine lg_nil ?_
          refine nx (E' := [(0, _), (3, _), (5, _), (6, _), (7, _), (8, _), (30, _), (31, _), (32, _)]) (fk rfl (fk rfl (fk rfl (fk rfl (fk rfl (fk rfl (fk rfl (fk rfl (fk rfl fn))))))))) ?_
          refine cg_cf rfl ?_
          refine cg_exit ?_
          refine eg_seq_exit ?_
          refine eg_seq_exit ?_
          refine eg_block_exit ?_
          refine nx (E' := [(0, _), (3, _), (5, _), (6, _)]) (fk rfl (fk rfl (fk rfl (fk rfl fn)))) ?_
          refine cg_seq ?_
          refine cg_region ?_
          refine lsw (want_none (by rfl)) (y_move rfl rfl) rfl (by decide) ?_
          refine lg_callw (want_none (by rfl)) (last_any (h.more (B' := v.heap.size) (by omega)) (Nat.le_refl _)) (by kernel_rfl) rfl rfl rfl (by decide) ?_
          rintro _ w23 ⟨rfl, hw23⟩
          have zw23 := hw23.size
          refine lsw (want_none (by rfl)) (y_assign rfl rfl) rfl (by decide) ?_
          refine lg_nil ?_
          refine nx (E' := [(0, _), (3, _), (5, _), (6, _), (9, _)]) (fk rfl (fk rfl (fk rfl (fk rfl (fk rfl fn))))) ?_
          refine cg_seq ?_
          refine cg_seq ?_
          refine cg_region ?_
          refine lsw (want_none (by rfl)) (y_move rfl rfl) rfl (by decide) ?_
          refine lsw (want_none (by rfl)) (yv (congrArg nv (show (lastA (trAs Ls)) + 1 = ((((lastA (trAs Ls)) + 1).toNat + 0 : Nat) : Int) by omega)) (yi_add rfl rfl rfl (by omega) (by omega))) rfl (by decide) ?_
          refine lsw (want_none (by rfl)) (y_assign rfl rfl) rfl (by decide) ?_
          refine lg_nil ?_
          refine nx (E' := [(0, _), (3, _), (5, _), (6, _), (9, _), (10, _)]) (fk rfl (fk rfl (fk rfl (fk rfl (fk rfl (fk rfl fn)))))) ?_
          refine cg_block ?_
          have h := h.below (hw23.mono (by omega))
          have r1 := RowAt.below hw23 r1.lt r1
          have hl := hl.below (hw23.mono (by omega))
          have u := u.trans (hw23.mono u.size)
          refine cg_loopE (fun t a v => Holds 122 [(0, s.v), (3, pv b1 0), (5, .bool true), (6, nv (freeA (trAs Ls))), (9, nv (lastA (trAs Ls))), (10, nv ((((lastA (trAs Ls)) + 1).toNat + t : Nat) : Int))] a ∧ RwNd v W.heap.size s Ls ∧ RowAt v b1 32 (l.cs L) ∧ IsLf v W.heap.size l L ∧ Below W.heap.size W v ∧ t ≤ 130) 400 (fun a ha => ⟨ha.keep (fk rfl (fk rfl (fk rfl (fk rfl (fk rfl (fk rfl fn)))))), h, r1, hl, u, (by omega)⟩) ?_
          rintro t a v ht ⟨ha, h, r1, hl, u, tle⟩
          refine cg_at ha ?_
          clear ha a
          have zv := u.size
          have l_r1 := r1.lt
          have q1 := h.len
          have q2 := h.cap
          refine cg_seq ?_
          refine cg_seq ?_
          refine cg_region ?_
          refine lsw (want_none (by rfl)) (y_move rfl rfl) rfl (by decide) ?_
          refine lsw (want_none (by rfl)) (y_move rfl rfl) rfl (by decide) ?_
          refine lsw (want_none (by rfl)) (y_lenM (el := 37) h.len (by kernel_rfl) rfl rfl) rfl (by decide) ?_
          by_cases c24 : ((((lastA (trAs Ls)) + 1).toNat + t : Nat) : Int) < (Ls.length : Int)
          · refine lsw (want_none (by rfl)) (yb (decide_eq_true c24) (yi_lss rfl rfl rfl)) rfl (by decide) ?_
            refine lg_nil ?_
            refine nx (E' := [(0, _), (3, _), (5, _), (6, _), (9, _), (10, _), (46, _), (47, _), (48, _), (49, _)]) (fk rfl (fk rfl (fk rfl (fk rfl (fk rfl (fk rfl (fk rfl (fk rfl (fk rfl (fk rfl fn)))))))))) ?_
            refine cg_ct rfl ?_
            refine cg_skip ?_
            refine nx (E' := [(0, _), (3, _), (5, _), (6, _), (9, _), (10, _), (46, _), (47, _), (48, _), (49, _)]) (fk rfl (fk rfl (fk rfl (fk rfl (fk rfl (fk rfl (fk rfl (fk rfl (fk rfl (fk rfl fn)))))))))) ?_
            refine cg_seq ?_
            refine cg_block ?_
            refine cg_seq ?_
            refine cg_region ?_
            refine lsw (want_none (by rfl)) (y_move rfl rfl) rfl (by decide) ?_
            refine lsw (want_none (by rfl)) (y_move rfl rfl) rfl (by decide) ?_
            obtain ⟨eb25, eo25, el25, eL25, eA25, eB25, eg25, eh25, ec25⟩ := h.at ((((lastA (trAs Ls)) + 1).toNat + t)) (by have := h.len; omega)
            refine lsw (want_none (by rfl)) (y_ixR (s := s) (el := 37) (k := 8) (i := (((lastA (trAs Ls)) + 1).toNat + t)) (iI := ((((lastA (trAs Ls)) + 1).toNat + t : Nat) : Int)) eA25 (by kernel_rfl) (by kernel_rfl) (by omega) (by have := h.len; omega) rfl rfl rfl) rfl (by decide) ?_
            refine lsw (want_none (by rfl)) (y_fld (off := 0) (by kernel_rfl) rfl rfl) rfl (by decide) ?_
            refine lsw (want_none (by rfl)) (y_celld (ec25 0 _ rfl) (by kernel_rfl) rfl rfl) rfl (by decide) ?_
            refine lsw (want_none (by rfl)) (yb (nd_f (show eL25.kind = 0 from (last_behind (a := Ls) (by omega) eg25))) (yi_neq rfl rfl rfl)) rfl (by decide) ?_
            refine lg_nil ?_
            refine nx (E' := [(0, _), (3, _), (5, _), (6, _), (9, _), (10, _), (46, _), (47, _), (48, _), (49, _), (52, _), (53, _), (54, _), (55, _), (56, _), (57, _)]) (fk rfl (fk rfl (fk rfl (fk rfl (fk rfl (fk rfl (fk rfl (fk rfl (fk rfl (fk rfl (fk rfl (fk rfl (fk rfl (fk rfl (fk rfl (fk rfl fn)))))))))))))))) ?_
            refine cg_cf rfl ?_
            refine cg_skip ?_
            refine eg_block_norm ?_
            refine nx (E' := [(0, _), (3, _), (5, _), (6, _), (9, _), (10, _), (46, _), (47, _), (48, _), (49, _), (52, _), (53, _), (54, _), (55, _), (56, _), (57, _)]) (fk rfl (fk rfl (fk rfl (fk rfl (fk rfl (fk rfl (fk rfl (fk rfl (fk rfl (fk rfl (fk rfl (fk rfl (fk rfl (fk rfl (fk rfl (fk rfl fn)))))))))))))))) ?_
            refine cg_region ?_
            refine lsw (want_none (by rfl)) (y_move rfl rfl) rfl (by decide) ?_
            refine lsw (want_none (by rfl)) (yv (congrArg nv (show ((((lastA (trAs Ls)) + 1).toNat + t : Nat) : Int) + 1 = ((((lastA (trAs Ls)) + 1).toNat + (t + 1) : Nat) : Int) by omega)) (yi_add rfl rfl rfl (by omega) (by omega))) rfl (by decide) ?_
            refine lsw (want_none (by rfl)) (y_assign rfl rfl) rfl (by decide) ?_
            refine lg_nil ?_
            exact fun a ha => (show t < 400 ∧ _ from ⟨(by omega), ha.keep (fk rfl (fk rfl (fk rfl (fk rfl (fk rfl (fk rfl fn)))))), h, r1, hl, u, (by omega)⟩)
          · refine lsw (want_none (by rfl)) (yb (decide_eq_false c24) (yi_lss rfl rfl rfl)) rfl (by decide) ?_
            refine lg_nil ?_
            refine nx (E' := [(0, _), (3, _), (5, _), (6, _), (9, _), (10, _), (46, _), (47, _), (48, _), (49, _)]) (fk rfl (fk rfl (fk rfl (fk rfl (fk rfl (fk rfl (fk rfl (fk rfl (fk rfl (fk rfl fn)))))))))) ?_
            refine cg_cf rfl ?_
            refine cg_exit ?_
            refine eg_seq_exit ?_
            refine eg_seq_exit ?_
            refine eg_block_exit ?_
            refine nx (E' := [(0, _), (3, _), (5, _), (6, _), (9, _)]) (fk rfl (fk rfl (fk rfl (fk rfl (fk rfl fn))))) ?_
            refine cg_seq ?_
            refine cg_seq ?_
            refine cg_region ?_
            refine lsw (want_none (by rfl)) (y_move rfl rfl) rfl (by decide) ?_
            refine lsw (want_none (by rfl)) (y_move rfl rfl) rfl (by decide) ?_
            refine lsw (want_none (by rfl)) (y_lenM (el := 37) h.len (by kernel_rfl) rfl rfl) rfl (by decide) ?_
            refine lsw (want_none (by rfl)) (yb (decide_eq_false (show ¬ ((Ls.length : Int) ≤ (lastA (trAs Ls))) from (by omega))) (yi_geq rfl rfl rfl)) rfl (by decide) ?_
            refine lsw (want_none (by rfl)) (y_move rfl rfl) rfl (by decide) ?_
            refine lsw (want_t (dj := 62) (by rfl) (by kernel_rfl) rfl) (y_move rfl rfl) rfl (by decide) ?_
            by_cases c26 : 0 ≤ (lastA (trAs Ls))
            · refine lsw (want_t (dj := 62) (by rfl) (by kernel_rfl) rfl) (yb (decide_eq_true c26) (yi_geq rfl rfl rfl)) rfl (by decide) ?_
              refine lsw (want_t (dj := 62) (by rfl) (by kernel_rfl) rfl) (y_move rfl rfl) rfl (by decide) ?_
              refine lsw (want_t (dj := 65) (by rfl) (by kernel_rfl) rfl) (y_move rfl rfl) rfl (by decide) ?_
              refine lsw (want_t (dj := 65) (by rfl) (by kernel_rfl) rfl) (yv (congrArg nv (show (lastA (trAs Ls)) = (((lastA (trAs Ls)).toNat : Nat) : Int) by omega)) (y_move rfl rfl)) rfl (by decide) ?_
              obtain ⟨eb27, eo27, el27, eL27, eA27, eB27, eg27, eh27, ec27⟩ := h.at (((lastA (trAs Ls)).toNat)) (by have := h.len; omega)
              refine lsw (want_t (dj := 65) (by rfl) (by kernel_rfl) rfl) (y_ixR (s := s) (el := 37) (k := 8) (i := ((lastA (trAs Ls)).toNat)) (iI := (((lastA (trAs Ls)).toNat : Nat) : Int)) eA27 (by kernel_rfl) (by kernel_rfl) (by omega) (by have := h.len; omega) rfl rfl rfl) rfl (by decide) ?_
              refine lsw (want_t (dj := 65) (by rfl) (by kernel_rfl) rfl) (y_fld (off := 0) (by kernel_rfl) rfl rfl) rfl (by decide) ?_
              refine lsw (want_t (dj := 65) (by rfl) (by kernel_rfl) rfl) (y_celld (ec27 0 _ rfl) (by kernel_rfl) rfl rfl) rfl (by decide) ?_
              refine lsw (want_t (dj := 65) (by rfl) (by kernel_rfl) rfl) (yb (decide_eq_false (show ¬ (eL27.kind = 0) from (last_there (a := Ls) (by omega) (by rw [lla]; exact eg27)))) (yi_eql rfl rfl rfl)) rfl (by decide) ?_
              refine lsw (want_t (dj := 62) (by rfl) (by kernel_rfl) rfl) (y_pick true rfl rfl rfl) rfl (by decide) ?_
              refine lsw (want_none (by rfl)) (y_pick false rfl rfl rfl) rfl (by decide) ?_
              refine lsw (want_none (by rfl)) (y_move rfl rfl) rfl (by decide) ?_
              refine lsw (want_t (dj := 74) (by rfl) (by kernel_rfl) rfl) (y_move rfl rfl) rfl (by decide) ?_
              refine lsw (want_t (dj := 74) (by rfl) (by kernel_rfl) rfl) (y_move rfl rfl) rfl (by decide) ?_
              refine lg_callw (want_t (dj := 74) (by rfl) (by kernel_rfl) rfl) (leavesT_any (h.more (B' := v.heap.size) (by omega)) (Nat.le_refl _)) (by kernel_rfl) rfl rfl rfl (by decide) ?_
              rintro _ w28 ⟨rfl, hw28⟩
              have zw28 := hw28.size
              refine lsw (want_t (dj := 74) (by rfl) (by kernel_rfl) rfl) (yb (decide_eq_false (show ¬ (((leavesA (trAs Ls) : Nat) : Int) ≤ (freeA (trAs Ls))) from (by omega))) (yi_geq rfl rfl rfl)) rfl (by decide) ?_
              refine lsw (want_none (by rfl)) (y_pick false rfl rfl rfl) rfl (by decide) ?_
              refine lsw (want_none (by rfl)) (y_move rfl rfl) rfl (by decide) ?_
              refine lsw (want_t (dj := 80) (by rfl) (by kernel_rfl) rfl) (y_move rfl rfl) rfl (by decide) ?_
              refine lsw (want_t (dj := 80) (by rfl) (by kernel_rfl) rfl) (yb (decide_eq_true (show 0 ≤ (freeA (trAs Ls)) from (by omega))) (yi_geq rfl rfl rfl)) rfl (by decide) ?_
              refine lsw (want_t (dj := 80) (by rfl) (by kernel_rfl) rfl) (y_move rfl rfl) rfl (by decide) ?_
              refine lsw (want_t (dj := 83) (by rfl) (by kernel_rfl) rfl) (y_move rfl rfl) rfl (by decide) ?_
              refine lsw (want_t (dj := 83) (by rfl) (by kernel_rfl) rfl) (y_move rfl rfl) rfl (by decide) ?_
              refine lsw (want_t (dj := 83) (by rfl) (by kernel_rfl) rfl) (yv (congrArg nv (show 2 * (freeA (trAs Ls)) = ((2 * (freeA (trAs Ls)).toNat : Nat) : Int) by omega)) (yi_mul rfl rfl rfl (by omega) (by omega))) rfl (by decide) ?_
              have h := h.below (hw28.mono (by omega))
              obtain ⟨eb29, eo29, el29, eL29, eA29, eB29, eg29, eh29, ec29⟩ := h.at ((2 * (freeA (trAs Ls)).toNat)) (by have := h.len; omega)
              refine lsw (want_t (dj := 83) (by rfl) (by kernel_rfl) rfl) (y_ixR (s := s) (el := 37) (k := 8) (i := (2 * (freeA (trAs Ls)).toNat)) (iI := ((2 * (freeA (trAs Ls)).toNat : Nat) : Int)) eA29 (by kernel_rfl) (by kernel_rfl) (by omega) (by have := h.len; omega) rfl rfl rfl) rfl (by decide) ?_
              refine lsw (want_t (dj := 83) (by rfl) (by kernel_rfl) rfl) (y_fld (off := 0) (by kernel_rfl) rfl rfl) rfl (by decide) ?_
              refine lsw (want_t (dj := 83) (by rfl) (by kernel_rfl) rfl) (y_celld (ec29 0 _ rfl) (by kernel_rfl) rfl rfl) rfl (by decide) ?_
              refine lsw (want_t (dj := 83) (by rfl) (by kernel_rfl) rfl) (yb (nd_f (show eL29.kind = 0 from (free_there (a := Ls) (by omega) (by rw [fla]; exact eg29)))) (yi_neq rfl rfl rfl)) rfl (by decide) ?_
              refine lsw (want_t (dj := 80) (by rfl) (by kernel_rfl) rfl) (y_pick true rfl rfl rfl) rfl (by decide) ?_
              refine lsw (want_none (by rfl)) (y_pick false rfl rfl rfl) rfl (by decide) ?_
              refine lg_nil ?_
              refine nx (E' := [(0, _), (3, _), (5, _), (6, _), (92, _)]) (fk rfl (fk rfl (fk rfl (fk rfl (fk rfl fn))))) ?_
              refine cg_cf rfl ?_
              refine cg_skip ?_
              refine nx (E' := [(0, _), (3, _), (5, _), (6, _)]) (fk rfl (fk rfl (fk rfl (fk rfl fn)))) ?_
              refine cg_seq ?_
              refine cg_region ?_
              refine lsw (want_none (by rfl)) (y_move rfl rfl) rfl (by decide) ?_
              refine lsw (want_none (by rfl)) (y_move rfl rfl) rfl (by decide) ?_
              refine lsw (want_none (by rfl)) (yi_mul rfl rfl rfl (by omega) (by omega)) rfl (by decide) ?_
              have r1 := RowAt.below hw28 r1.lt r1
              refine lsw (want_none (by rfl)) (y_loadA r1 (by kernel_rfl) (by kernel_rfl) rfl rfl) rfl (by decide) ?_
              refine lsw (want_none (by rfl)) (y_build (cs := (⟨l, PnV.zero⟩ : NdV).cs (⟨1, L, Pn.zero⟩ : Nd)) rfl rfl (by kernel_rfl)) rfl (by decide) ?_
              have hl := hl.below (hw28.mono (by omega))
              refine lg_callw (want_none (by rfl)) (set_any (h.more (B' := w28.heap.size) (by omega)) (2 * (freeA (trAs Ls))) (show IsNd w28 w28.heap.size (⟨l, PnV.zero⟩ : NdV) (⟨1, L, Pn.zero⟩ : Nd) from ⟨(hl.more (B' := w28.heap.size) (by omega)), ((IsPn.zero _ 0).more (B' := w28.heap.size) (by omega))⟩) (Nat.le_refl _)) (by kernel_rfl) rfl rfl rfl (by decide) ?_
              rintro _ w30 ⟨s30, rfl, m30, hw30⟩
              have zw30 := hw30.size
              refine lsw (want_none (by rfl)) (y_move rfl rfl) rfl (by decide) ?_
              refine lsw (want_none (by rfl)) (y_extract rfl rfl rfl) rfl (by decide) ?_
              refine lsw (want_none (by rfl)) (y_extract rfl rfl rfl) rfl (by decide) ?_
              refine lsw (want_none (by rfl)) (y_assign rfl rfl) rfl (by decide) ?_
              refine lsw (want_none (by rfl)) (y_assign rfl rfl) rfl (by decide) ?_
              refine lg_nil ?_
              refine nx (E' := [(5, _), (6, _), (11, _), (12, _)]) (fk rfl (fk rfl (fk rfl (fk rfl fn)))) ?_
              refine cg_seq ?_
              refine cg_region ?_
              refine lsw (want_none (by rfl)) (y_move rfl rfl) rfl (by decide) ?_
              refine lsw (want_none (by rfl)) (y_move rfl rfl) rfl (by decide) ?_
              refine lsw (want_t (dj := 103) (by rfl) (by kernel_rfl) rfl) (y_move rfl rfl) rfl (by decide) ?_
              refine lsw (want_t (dj := 103) (by rfl) (by kernel_rfl) rfl) (yb (decide_eq_false c8) (yi_lss rfl rfl rfl)) rfl (by decide) ?_
              refine lsw (want_t (dj := 103) (by rfl) (by kernel_rfl) rfl) (y_move rfl rfl) rfl (by decide) ?_
              refine lsw (want_t (dj := 106) (by rfl) (by kernel_rfl) rfl) (y_move rfl rfl) rfl (by decide) ?_
              by_cases c31 : (setE Ls (2 * (freeA (trAs Ls))) (⟨1, L, Pn.zero⟩ : Nd)) = 0
              · refine lsw (want_t (dj := 106) (by rfl) (by kernel_rfl) rfl) (yb (nd_f c31) (yi_neq rfl rfl rfl)) rfl (by decide) ?_
                refine lsw (want_t (dj := 103) (by rfl) (by kernel_rfl) rfl) (y_pick false rfl rfl rfl) rfl (by decide) ?_
                refine lsw (want_t (dj := 103) (by rfl) (by kernel_rfl) rfl) (y_move rfl rfl) rfl (by decide) ?_
                refine lsw (want_t (dj := 110) (by rfl) (by kernel_rfl) rfl) (y_move rfl rfl) rfl (by decide) ?_
                refine lg_callw (want_t (dj := 110) (by rfl) (by kernel_rfl) rfl) (free_any (m30.more (B' := w30.heap.size) (by omega)) (Nat.le_refl _)) (by kernel_rfl) rfl rfl rfl (by decide) ?_
                rintro _ w32 ⟨rfl, hw32⟩
                have zw32 := hw32.size
                refine lsw (want_t (dj := 110) (by rfl) (by kernel_rfl) rfl) (y_move rfl rfl) rfl (by decide) ?_
                by_cases c33 : (freeA (trAs Ls)) < (freeA (trAs (setL Ls (2 * (freeA (trAs Ls))) (⟨1, L, Pn.zero⟩ : Nd))))
                · refine lsw (want_t (dj := 110) (by rfl) (by kernel_rfl) rfl) (yb (decide_eq_true c33) (yi_gtr rfl rfl rfl)) rfl (by decide) ?_
                  refine lsw (want_t (dj := 103) (by rfl) (by kernel_rfl) rfl) (y_pick false rfl rfl rfl) rfl (by decide) ?_
                  refine lsw (want_t (dj := 103) (by rfl) (by kernel_rfl) rfl) (y_move rfl rfl) rfl (by decide) ?_
                  refine lsk (want_f (dj := 116) (by rfl) (by kernel_rfl) rfl) rfl (by decide) ?_
                  refine lsk (want_f (dj := 116) (by rfl) (by kernel_rfl) rfl) rfl (by decide) ?_
                  refine lsk (want_f (dj := 116) (by rfl) (by kernel_rfl) rfl) rfl (by decide) ?_
                  refine lsw (want_t (dj := 103) (by rfl) (by kernel_rfl) rfl) (y_pick true rfl rfl rfl) rfl (by decide) ?_
                  refine lsw (want_none (by rfl)) (y_pick true rfl rfl rfl) rfl (by decide) ?_
                  refine lsw (want_none (by rfl)) (y_assign rfl rfl) rfl (by decide) ?_
                  refine lg_nil ?_
                  refine nx (E' := [(4, _)]) (fk rfl fn) ?_
                  refine cg_ret ?_
                  have u := u.trans (hw28.mono u.size)
                  have u := u.trans (hw30.mono u.size)
                  have u := u.trans (hw32.mono u.size)
                  exact eg_ret_tmp rfl rfl ⟨_, rfl, rfl, u⟩
                · refine lsw (want_t (dj := 110) (by rfl) (by kernel_rfl) rfl) (yb (decide_eq_false c33) (yi_gtr rfl rfl rfl)) rfl (by decide) ?_
                  refine lsw (want_t (dj := 103) (by rfl) (by kernel_rfl) rfl) (y_pick false rfl rfl rfl) rfl (by decide) ?_
                  refine lsw (want_t (dj := 103) (by rfl) (by kernel_rfl) rfl) (y_move rfl rfl) rfl (by decide) ?_
                  refine lsw (want_t (dj := 116) (by rfl) (by kernel_rfl) rfl) (y_move rfl rfl) rfl (by decide) ?_
                  have m30 := m30.below (hw32.mono (by omega))
                  refine lg_callw (want_t (dj := 116) (by rfl) (by kernel_rfl) rfl) (free_any (m30.more (B' := w32.heap.size) (by omega)) (Nat.le_refl _)) (by kernel_rfl) rfl rfl rfl (by decide) ?_
                  rintro _ w34 ⟨rfl, hw34⟩
                  have zw34 := hw34.size
                  refine lsw (want_t (dj := 116) (by rfl) (by kernel_rfl) rfl) (yb (decide_eq_true (show (freeA (trAs (setL Ls (2 * (freeA (trAs Ls))) (⟨1, L, Pn.zero⟩ : Nd)))) = (-1) from ((by have z := free_later htr (by rw [fla]; exact c31) (by omega) rfl; rw [fla] at z; exact z.resolve_left c33)))) (yi_eql rfl rfl rfl)) rfl (by decide) ?_
                  refine lsw (want_t (dj := 103) (by rfl) (by kernel_rfl) rfl) (y_pick false rfl rfl rfl) rfl (by decide) ?_
                  refine lsw (want_none (by rfl)) (y_pick true rfl rfl rfl) rfl (by decide) ?_
                  refine lsw (want_none (by rfl)) (y_assign rfl rfl) rfl (by decide) ?_
                  refine lg_nil ?_
                  refine nx (E' := [(4, _)]) (fk rfl fn) ?_
                  refine cg_ret ?_
                  have u := u.trans (hw28.mono u.size)
                  have u := u.trans (hw30.mono u.size)
                  have u := u.trans (hw32.mono u.size)
                  have u := u.trans (hw34.mono u.size)
                  exact eg_ret_tmp rfl rfl ⟨_, rfl, rfl, u⟩
              · refine lsw (want_t (dj := 106) (by rfl) (by kernel_rfl) rfl) (yb (nd_t c31) (yi_neq rfl rfl rfl)) rfl (by decide) ?_
                refine lsw (want_t (dj := 103) (by rfl) (by kernel_rfl) rfl) (y_pick false rfl rfl rfl) rfl (by decide) ?_
                refine lsw (want_t (dj := 103) (by rfl) (by kernel_rfl) rfl) (y_move rfl rfl) rfl (by decide) ?_
                refine lsk (want_f (dj := 110) (by rfl) (by kernel_rfl) rfl) rfl (by decide) ?_
                refine lsk (want_f (dj := 110) (by rfl) (by kernel_rfl) rfl) rfl (by decide) ?_
                refine lsk (want_f (dj := 110) (by rfl) (by kernel_rfl) rfl) rfl (by decide) ?_
                refine lsk (want_f (dj := 110) (by rfl) (by kernel_rfl) rfl) rfl (by decide) ?_
                refine lsw (want_t (dj := 103) (by rfl) (by kernel_rfl) rfl) (y_pick true rfl rfl rfl) rfl (by decide) ?_
                refine lsw (want_t (dj := 103) (by rfl) (by kernel_rfl) rfl) (y_move rfl rfl) rfl (by decide) ?_
                refine lsk (want_f (dj := 116) (by rfl) (by kernel_rfl) rfl) rfl (by decide) ?_
                refine lsk (want_f (dj := 116) (by rfl) (by kernel_rfl) rfl) rfl (by decide) ?_
                refine lsk (want_f (dj := 116) (by rfl) (by kernel_rfl) rfl) rfl (by decide) ?_
                refine lsw (want_t (dj := 103) (by rfl) (by kernel_rfl) rfl) (y_pick true rfl rfl rfl) rfl (by decide) ?_
                refine lsw (want_none (by rfl)) (y_pick true rfl rfl rfl) rfl (by decide) ?_
                refine lsw (want_none (by rfl)) (y_assign rfl rfl) rfl (by decide) ?_
                refine lg_nil ?_
                refine nx (E' := [(4, _)]) (fk rfl fn) ?_
                refine cg_ret ?_
                have u := u.trans (hw28.mono u.size)
                have u := u.trans (hw30.mono u.size)
                exact eg_ret_tmp rfl rfl ⟨_, rfl, rfl, u⟩
            · refine lsw (want_t (dj := 62) (by rfl) (by kernel_rfl) rfl) (yb (decide_eq_false c26) (yi_geq rfl rfl rfl)) rfl (by decide) ?_
              refine lsw (want_t (dj := 62) (by rfl) (by kernel_rfl) rfl) (y_move rfl rfl) rfl (by decide) ?_
              refine lsk (want_f (dj := 65) (by rfl) (by kernel_rfl) rfl) rfl (by decide) ?_
              refine lsk (want_f (dj := 65) (by rfl) (by kernel_rfl) rfl) rfl (by decide) ?_
              refine lsk (want_f (dj := 65) (by rfl) (by kernel_rfl) rfl) rfl (by decide) ?_
              refine lsk (want_f (dj := 65) (by rfl) (by kernel_rfl) rfl) rfl (by decide) ?_
              refine lsk (want_f (dj := 65) (by rfl) (by kernel_rfl) rfl) rfl (by decide) ?_
              refine lsk (want_f (dj := 65) (by rfl) (by kernel_rfl) rfl) rfl (by decide) ?_
              refine lsw (want_t (dj := 62) (by rfl) (by kernel_rfl) rfl) (y_pick false rfl rfl rfl) rfl (by decide) ?_
              refine lsw (want_none (by rfl)) (y_pick false rfl rfl rfl) rfl (by decide) ?_
              refine lsw (want_none (by rfl)) (y_move rfl rfl) rfl (by decide) ?_
              refine lsw (want_t (dj := 74) (by rfl) (by kernel_rfl) rfl) (y_move rfl rfl) rfl (by decide) ?_
              refine lsw (want_t (dj := 74) (by rfl) (by kernel_rfl) rfl) (y_move rfl rfl) rfl (by decide) ?_
              refine lg_callw (want_t (dj := 74) (by rfl) (by kernel_rfl) rfl) (leavesT_any (h.more (B' := v.heap.size) (by omega)) (Nat.le_refl _)) (by kernel_rfl) rfl rfl rfl (by decide) ?_
              rintro _ w35 ⟨rfl, hw35⟩
              have zw35 := hw35.size
              refine lsw (want_t (dj := 74) (by rfl) (by kernel_rfl) rfl) (yb (decide_eq_false (show ¬ (((leavesA (trAs Ls) : Nat) : Int) ≤ (freeA (trAs Ls))) from (by omega))) (yi_geq rfl rfl rfl)) rfl (by decide) ?_
              refine lsw (want_none (by rfl)) (y_pick false rfl rfl rfl) rfl (by decide) ?_
              refine lsw (want_none (by rfl)) (y_move rfl rfl) rfl (by decide) ?_
              refine lsw (want_t (dj := 80) (by rfl) (by kernel_rfl) rfl) (y_move rfl rfl) rfl (by decide) ?_
              refine lsw (want_t (dj := 80) (by rfl) (by kernel_rfl) rfl) (yb (decide_eq_true (show 0 ≤ (freeA (trAs Ls)) from (by omega))) (yi_geq rfl rfl rfl)) rfl (by decide) ?_
              refine lsw (want_t (dj := 80) (by rfl) (by kernel_rfl) rfl) (y_move rfl rfl) rfl (by decide) ?_
              refine lsw (want_t (dj := 83) (by rfl) (by kernel_rfl) rfl) (y_move rfl rfl) rfl (by decide) ?_
              refine lsw (want_t (dj := 83) (by rfl) (by kernel_rfl) rfl) (y_move rfl rfl) rfl (by decide) ?_
              refine lsw (want_t (dj := 83) (by rfl) (by kernel_rfl) rfl) (yv (congrArg nv (show 2 * (freeA (trAs Ls)) = ((2 * (freeA (trAs Ls)).toNat : Nat) : Int) by omega)) (yi_mul rfl rfl rfl (by omega) (by omega))) rfl (by decide) ?_
              have h := h.below (hw35.mono (by omega))
              obtain ⟨eb36, eo36, el36, eL36, eA36, eB36, eg36, eh36, ec36⟩ := h.at ((2 * (freeA (trAs Ls)).toNat)) (by have := h.len; omega)
              refine lsw (want_t (dj := 83) (by rfl) (by kernel_rfl) rfl) (y_ixR (s := s) (el := 37) (k := 8) (i := (2 * (freeA (trAs Ls)).toNat)) (iI := ((2 * (freeA (trAs Ls)).toNat : Nat) : Int)) eA36 (by kernel_rfl) (by kernel_rfl) (by omega) (by have := h.len; omega) rfl rfl rfl) rfl (by decide) ?_
              refine lsw (want_t (dj := 83) (by rfl) (by kernel_rfl) rfl) (y_fld (off := 0) (by kernel_rfl) rfl rfl) rfl (by decide) ?_
              refine lsw (want_t (dj := 83) (by rfl) (by kernel_rfl) rfl) (y_celld (ec36 0 _ rfl) (by kernel_rfl) rfl rfl) rfl (by decide) ?_
              refine lsw (want_t (dj := 83) (by rfl) (by kernel_rfl) rfl) (yb (nd_f (show eL36.kind = 0 from (free_there (a := Ls) (by omega) (by rw [fla]; exact eg36)))) (yi_neq rfl rfl rfl)) rfl (by decide) ?_
              refine lsw (want_t (dj := 80) (by rfl) (by kernel_rfl) rfl) (y_pick true rfl rfl rfl) rfl (by decide) ?_
              refine lsw (want_none (by rfl)) (y_pick false rfl rfl rfl) rfl (by decide) ?_
              refine lg_nil ?_
              refine nx (E' := [(0, _), (3, _), (5, _), (6, _), (92, _)]) (fk rfl (fk rfl (fk rfl (fk rfl (fk rfl fn))))) ?_
              refine cg_cf rfl ?_
              refine cg_skip ?_
              refine nx (E' := [(0, _), (3, _), (5, _), (6, _)]) (fk rfl (fk rfl (fk rfl (fk rfl fn)))) ?_
              refine cg_seq ?_
              refine cg_region ?_
              refine lsw (want_none (by rfl)) (y_move rfl rfl) rfl (by decide) ?_
              refine lsw (want_none (by rfl)) (y_move rfl rfl) rfl (by decide) ?_
              refine lsw (want_none (by rfl)) (yi_mul rfl rfl rfl (by omega) (by omega)) rfl (by decide) ?_
              have r1 := RowAt.below hw35 r1.lt r1
              refine lsw (want_none (by rfl)) (y_loadA r1 (by kernel_rfl) (by kernel_rfl) rfl rfl) rfl (by decide) ?_
              refine lsw (want_none (by rfl)) (y_build (cs := (⟨l, PnV.zero⟩ : NdV).cs (⟨1, L, Pn.zero⟩ : Nd)) rfl rfl (by kernel_rfl)) rfl (by decide) ?_
              have hl := hl.below (hw35.mono (by omega))
              refine lg_callw (want_none (by rfl)) (set_any (h.more (B' := w35.heap.size) (by omega)) (2 * (freeA (trAs Ls))) (show IsNd w35 w35.heap.size (⟨l, PnV.zero⟩ : NdV) (⟨1, L, Pn.zero⟩ : Nd) from ⟨(hl.more (B' := w35.heap.size) (by omega)), ((IsPn.zero _ 0).more (B' := w35.heap.size) (by omega))⟩) (Nat.le_refl _)) (by kernel_rfl) rfl rfl rfl (by decide) ?_
              rintro _ w37 ⟨s37, rfl, m37, hw37⟩
              have zw37 := hw37.size
              refine lsw (want_none (by rfl)) (y_move rfl rfl) rfl (by decide) ?_
              refine lsw (want_none (by rfl)) (y_extract rfl rfl rfl) rfl (by decide) ?_
              refine lsw (want_none (by rfl)) (y_extract rfl rfl rfl) rfl (by decide) ?_
              refine lsw (want_none (by rfl)) (y_assign rfl rfl) rfl (by decide) ?_
              refine lsw (want_none (by rfl)) (y_assign rfl rfl) rfl (by decide) ?_
              refine lg_nil ?_
              refine nx (E' := [(5, _), (6, _), (11, _), (12, _)]) (fk rfl (fk rfl (fk rfl (fk rfl fn)))) ?_
              refine cg_seq ?_
              refine cg_region ?_
              refine lsw (want_none (by rfl)) (y_move rfl rfl) rfl (by decide) ?_
              refine lsw (want_none (by rfl)) (y_move rfl rfl) rfl (by decide) ?_
              refine lsw (want_t (dj := 103) (by rfl) (by kernel_rfl) rfl) (y_move rfl rfl) rfl (by decide) ?_
              refine lsw (want_t (dj := 103) (by rfl) (by kernel_rfl) rfl) (yb (decide_eq_false c8) (yi_lss rfl rfl rfl)) rfl (by decide) ?_
              refine lsw (want_t (dj := 103) (by rfl) (by kernel_rfl) rfl) (y_move rfl rfl) rfl (by decide) ?_
              refine lsw (want_t (dj := 106) (by rfl) (by kernel_rfl) rfl) (y_move rfl rfl) rfl (by decide) ?_
              by_cases c38 : (setE Ls (2 * (freeA (trAs Ls))) (⟨1, L, Pn.zero⟩ : Nd)) = 0
              · refine lsw (want_t (dj := 106) (by rfl) (by kernel_rfl) rfl) (yb (nd_f c38) (yi_neq rfl rfl rfl)) rfl (by decide) ?_
                refine lsw (want_t (dj := 103) (by rfl) (by kernel_rfl) rfl) (y_pick false rfl rfl rfl) rfl (by decide) ?_
                refine lsw (want_t (dj := 103) (by rfl) (by kernel_rfl) rfl) (y_move rfl rfl) rfl (by decide) ?_
                refine lsw (want_t (dj := 110) (by rfl) (by kernel_rfl) rfl) (y_move rfl rfl) rfl (by decide) ?_
                refine lg_callw (want_t (dj := 110) (by rfl) (by kernel_rfl) rfl) (free_any (m37.more (B' := w37.heap.size) (by omega)) (Nat.le_refl _)) (by kernel_rfl) rfl rfl rfl (by decide) ?_
                rintro _ w39 ⟨rfl, hw39⟩
                have zw39 := hw39.size
                refine lsw (want_t (dj := 110) (by rfl) (by kernel_rfl) rfl) (y_move rfl rfl) rfl (by decide) ?_
                by_cases c40 : (freeA (trAs Ls)) < (freeA (trAs (setL Ls (2 * (freeA (trAs Ls))) (⟨1, L, Pn.zero⟩ : Nd))))
                · refine lsw (want_t (dj := 110) (by rfl) (by kernel_rfl) rfl) (yb (decide_eq_true c40) (yi_gtr rfl rfl rfl)) rfl (by decide) ?_
                  refine lsw (want_t (dj := 103) (by rfl) (by kernel_rfl) rfl) (y_pick false rfl rfl rfl) rfl (by decide) ?_
                  refine lsw (want_t (dj := 103) (by rfl) (by kernel_rfl) rfl) (y_move rfl rfl) rfl (by decide) ?_
                  refine lsk (want_f (dj := 116) (by rfl) (by kernel_rfl) rfl) rfl (by decide) ?_
                  refine lsk (want_f (dj := 116) (by rfl) (by kernel_rfl) rfl) rfl (by decide) ?_
                  refine lsk (want_f (dj := 116) (by rfl) (by kernel_rfl) rfl) rfl (by decide) ?_
                  refine lsw (want_t (dj := 103) (by rfl) (by kernel_rfl) rfl) (y_pick true rfl rfl rfl) rfl (by decide) ?_
                  refine lsw (want_none (by rfl)) (y_pick true rfl rfl rfl) rfl (by decide) ?_
                  refine lsw (want_none (by rfl)) (y_assign rfl rfl) rfl (by decide) ?_
                  refine lg_nil ?_
                  refine nx (E' := [(4, _)]) (fk rfl fn) ?_
                  refine cg_ret ?_
                  have u := u.trans (hw35.mono u.size)
                  have u := u.trans (hw37.mono u.size)
                  have u := u.trans (hw39.mono u.size)
                  exact eg_ret_tmp rfl rfl ⟨_, rfl, rfl, u⟩
                · refine lsw (want_t (dj := 110) (by rfl) (by kernel_rfl) rfl) (yb (decide_eq_false c40) (yi_gtr rfl rfl rfl)) rfl (by decide) ?_
                  refine lsw (want_t (dj := 103) (by rfl) (by kernel_rfl) rfl) (y_pick false rfl rfl rfl) rfl (by decide) ?_
                  refine lsw (want_t (dj := 103) (by rfl) (by kernel_rfl) rfl) (y_move rfl rfl) rfl (by decide) ?_
                  refine lsw (want_t (dj := 116) (by rfl) (by kernel_rfl) rfl) (y_move rfl rfl) rfl (by decide) ?_
                  have m37 := m37.below (hw39.mono (by omega))
                  refine lg_callw (want_t (dj := 116) (by rfl) (by kernel_rfl) rfl) (free_any (m37.more (B' := w39.heap.size) (by omega)) (Nat.le_refl _)) (by kernel_rfl) rfl rfl rfl (by decide) ?_
                  rintro _ w41 ⟨rfl, hw41⟩
                  have zw41 := hw41.size
                  refine lsw (want_t (dj := 116) (by rfl) (by kernel_rfl) rfl) (yb (decide_eq_true (show (freeA (trAs (setL Ls (2 * (freeA (trAs Ls))) (⟨1, L, Pn.zero⟩ : Nd)))) = (-1) from ((by have z := free_later htr (by rw [fla]; exact c38) (by omega) rfl; rw [fla] at z; exact z.resolve_left c40)))) (yi_eql rfl rfl rfl)) rfl (by decide) ?_
                  refine lsw (want_t (dj := 103) (by rfl) (by kernel_rfl) rfl) (y_pick false rfl rfl rfl) rfl (by decide) ?_
                  refine lsw (want_none (by rfl)) (y_pick true rfl rfl rfl) rfl (by decide) ?_
                  refine lsw (want_none (by rfl)) (y_assign rfl rfl) rfl (by decide) ?_
                  refine lg_nil ?_
                  refine nx (E' := [(4, _)]) (fk rfl fn) ?_
                  refine cg_ret ?_
                  have u := u.trans (hw35.mono u.size)
                  have u := u.trans (hw37.mono u.size)
                  have u := u.trans (hw39.mono u.size)
                  have u := u.trans (hw41.mono u.size)
                  exact eg_ret_tmp rfl rfl ⟨_, rfl, rfl, u⟩
              · refine lsw (want_t (dj := 106) (by rfl) (by kernel_rfl) rfl) (yb (nd_t c38) (yi_neq rfl rfl rfl)) rfl (by decide) ?_
                refine lsw (want_t (dj := 103) (by rfl) (by kernel_rfl) rfl) (y_pick false rfl rfl rfl) rfl (by decide) ?_
                refine lsw (want_t (dj := 103) (by rfl) (by kernel_rfl) rfl) (y_move rfl rfl) rfl (by decide) ?_
                refine lsk (want_f (dj := 110) (by rfl) (by kernel_rfl) rfl) rfl (by decide) ?_
                refine lsk (want_f (dj := 110) (by rfl) (by kernel_rfl) rfl) rfl (by decide) ?_
                refine lsk (want_f (dj := 110) (by rfl) (by kernel_rfl) rfl) rfl (by decide) ?_
                refine lsk (want_f (dj := 110) (by rfl) (by kernel_rfl) rfl) rfl (by decide) ?_
                refine lsw (want_t (dj := 103) (by rfl) (by kernel_rfl) rfl) (y_pick true rfl rfl rfl) rfl (by decide) ?_
                refine lsw (want_t (dj := 103) (by rfl) (by kernel_rfl) rfl) (y_move rfl rfl) rfl (by decide) ?_
                refine lsk (want_f (dj := 116) (by rfl) (by kernel_rfl) rfl) rfl (by decide) ?_
                refine lsk (want_f (dj := 116) (by rfl) (by kernel_rfl) rfl) rfl (by decide) ?_
                refine lsk (want_f (dj := 116) (by rfl) (by kernel_rfl) rfl) rfl (by decide) ?_
                refine lsw (want_t (dj := 103) (by rfl) (by kernel_rfl) rfl) (y_pick true rfl rfl rfl) rfl (by decide) ?_
                refine lsw (want_none (by rfl)) (y_pick true rfl rfl rfl) rfl (by decide) ?_
                refine lsw (want_none (by rfl)) (y_assign rfl rfl) rfl (by decide) ?_
                refine lg_nil ?_
                refine nx (E' := [(4, _)]) (fk rfl fn) ?_
                refine cg_ret ?_
                have u := u.trans (hw35.mono u.size)
                have u := u.trans (hw37.mono u.size)
                exact eg_ret_tmp rfl rfl ⟨_, rfl, rfl, u⟩
    · refine lg_callw (want_t (dj := 17) (by rfl) (by kernel_rfl) rfl) (sane_any (h.more (B' := w4.heap.size) (by omega)) (Nat.le_refl _)) (by kernel_rfl) rfl rfl rfl (by decide) ?_
      rintro u42 w42 ⟨e42, hw42⟩
      have zw42 := hw42.size
      obtain rfl : u42 = .bool false := e42.trans (congrArg Value.bool (decide_eq_false c5))
      refine lsw (want_t (dj := 17) (by rfl) (by kernel_rfl) rfl) (y_bnot rfl rfl) rfl (by decide) ?_
      refine lsw (want_none (by rfl)) (y_pick false rfl rfl rfl) rfl (by decide) ?_
      refine lg_nil ?_
      refine nx (E' := [(0, _), (3, _), (4, _), (5, _), (21, _)]) (fk rfl (fk rfl (fk rfl (fk rfl (fk rfl fn))))) ?_
      refine cg_ct rfl ?_
      refine cg_seq ?_
      refine cg_region ?_
      refine lsw (want_none (by rfl)) (y_move rfl rfl) rfl (by decide) ?_
      refine lsw (want_none (by rfl)) (y_assign rfl rfl) rfl (by decide) ?_
      refine lg_nil ?_
      refine nx (E' := [(0, _), (3, _), (5, _), (4, _)]) (fk rfl (fk rfl (fk rfl (fk rfl fn)))) ?_
      refine cg_ret ?_
      refine eg_seq_ret ?_
      have u := u.trans (n1.below.mono u.size)
      have u := u.trans (hw2.mono u.size)
      have u := u.trans (hw4.mono u.size)
      have u := u.trans (hw42.mono u.size)
      exact eg_ret_tmp rfl rfl ⟨_, rfl, rfl, u⟩
  · refine lg_callw (want_none (by rfl)) (fewR_any (h.more (B' := w2.heap.size) (by omega)) (Nat.le_refl _)) (by kernel_rfl) rfl rfl rfl (by decide) ?_
    rintro u43 w43 ⟨e43, hw43⟩
    have zw43 := hw43.size
    obtain rfl : u43 = .bool false := e43.trans (congrArg Value.bool (decide_eq_false c3))
    refine lsw (want_none (by rfl)) (y_bnot rfl rfl) rfl (by decide) ?_
    refine lsw (want_none (by rfl)) (y_move rfl rfl) rfl (by decide) ?_
    refine lsk (want_f (dj := 17) (by rfl) (by kernel_rfl) rfl) rfl (by decide) ?_
    refine lsk (want_f (dj := 17) (by rfl) (by kernel_rfl) rfl) rfl (by decide) ?_
    refine lsk (want_f (dj := 17) (by rfl) (by kernel_rfl) rfl) rfl (by decide) ?_
    refine lsw (want_none (by rfl)) (y_pick true rfl rfl rfl) rfl (by decide) ?_
    refine lg_nil ?_
    refine nx (E' := [(0, _), (3, _), (4, _), (5, _), (21, _)]) (fk rfl (fk rfl (fk rfl (fk rfl (fk rfl fn))))) ?_
    refine cg_ct rfl ?_
    refine cg_seq ?_
    refine cg_region ?_
    refine lsw (want_none (by rfl)) (y_move rfl rfl) rfl (by decide) ?_
    refine lsw (want_none (by rfl)) (y_assign rfl rfl) rfl (by decide) ?_
    refine lg_nil ?_
    refine nx (E' := [(0, _), (3, _), (5, _), (4, _)]) (fk rfl (fk rfl (fk rfl (fk rfl fn)))) ?_
    refine cg_ret ?_
    refine eg_seq_ret ?_
    have u := u.trans (n1.below.mono u.size)
    have u := u.trans (hw2.mono u.size)
    have u := u.trans (hw43.mono u.size)
    exact eg_ret_tmp rfl rfl ⟨_, rfl, rfl, u⟩
end Go.Proofs.Ytpoonjgkgaodmaa
