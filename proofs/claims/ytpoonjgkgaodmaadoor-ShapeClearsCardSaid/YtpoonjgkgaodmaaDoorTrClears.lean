/-
  A leaf and its way up.
-/
import Derived.Test.YtpoonjgkgaodmaaDoorTrAwake
import Derived.Test.YtpoonjgkgaodmaaDoorTrClr
namespace Go.Proofs.YtpoonjgkgaodmaaDoor
open Go.ChangeShapes Go.WideShapes Go.ChangeAt Go.RowKit
set_option linter.unusedVariables false

theorem clear_len {a : List Nd} {i : Int} (h : clearE a i = 0) : (clearL a i).length = (trAs a).length := by rw [clearL_ok h, clr_len, List.length_set]
theorem clear_at {a : List Nd} {i : Int} (h : clearE a i = 0) (j : Nat) : atN (clearL a i) j = if (2 * i = (j : Int) ∨ (j : Int) ∈ dirI (2 * i) ((trAs a).length : Int)) then Nd.zero else atN (trAs a) j := by
  have hn := clear_node h
  rw [clearL_ok h, clr_at _ _ _ (dir_pos hn.1), atN_setz]
  by_cases e : (j : Int) ∈ dirI (2 * i) ((trAs a).length : Int)
  · rw [if_pos e, if_pos (.inr e)]
  · rw [if_neg e]
    by_cases e2 : j = (2 * i).toNat
    · rw [if_pos e2, if_pos (.inl (by omega))]
    · rw [if_neg e2, if_neg (fun q => q.elim (fun r => e2 (by omega)) e)]
theorem trIs_clearL {a : List Nd} {i : Int} (h : clearE a i = 0) : trIs (clearL a i) := by
  rw [clearL_ok h]
  exact clr_is _ (trIs_set (trAs_is a) (ok_zero _))
theorem clear_again {a : List Nd} {i : Int} (h : clearE a i = 0) : clearE (clearL a i) i = 0 := by
  have h2 := h
  unfold clearE leavesA at h ⊢
  rw [trAs_ok (trIs_clearL h2), clear_len h2]
  exact h
theorem clear_twice {a : List Nd} {i : Int} (h : clearE a i = 0) : clearL (clearL a i) i = clearL a i := by
  have h2 := clear_again h
  refine list_atN (by rw [clear_len h2, trAs_ok (trIs_clearL h)]) fun j _ => ?_
  rw [clear_at h2, trAs_ok (trIs_clearL h), clear_len h, clear_at h]
  split
  · rfl
  · rfl
theorem clear_under {a : List Nd} {i : Int} {j : Nat} {M : Nd} (ht : trIs a) (h : clearE a i = 0) (u : undI (2 * i) (j : Int) (a.length : Int)) (e : (clearL a i)[j]? = some M) : M.kind = 0 := by
  have hn := clear_node h
  rw [trAs_ok ht] at hn
  have h2 := clear_at h j
  rw [trAs_ok ht, if_pos ((und_dir hn.1 u.2.1).2 u), atN_some e] at h2
  rw [h2]
theorem piece_at {a : List Nd} {j : Nat} (hj : j < a.length) : (a.take (j + 1)).drop j = [atN a j] := by
  refine list_atN (by rw [List.length_drop, List.length_take]; simp; omega) fun q hq => ?_
  rw [List.length_drop, List.length_take] at hq
  obtain rfl : q = 0 := by omega
  rw [atN_drop, atN_take (by omega)]
  rfl
theorem clear_other {a : List Nd} {i : Int} {j : Nat} (ht : trIs a) (h : clearE a i = 0) (hj : j < a.length) (u : ¬ undI (2 * i) (j : Int) (a.length : Int)) : trSame (((clearL a i).take (j + 1)).drop j) ((a.take (j + 1)).drop j) := by
  have hn := clear_node h
  rw [trAs_ok ht] at hn
  have hl := clear_len h
  rw [trAs_ok ht] at hl
  rw [piece_at (by omega), piece_at hj, clear_at h j, trAs_ok ht, if_neg (fun q => u ((und_dir hn.1 (isN_of ht (by omega) (by omega))).1 q))]
  exact tr_same _
set_option maxHeartbeats 4000000 in
theorem shapeClears_any {W : World} {s : SlV} {Ls : List Nd} (h : RwNd W W.heap.size s Ls) (i : Int) (rg : Tb W) : Calls Tryd.prog 5 #[s.v, nv i] W fun e W' => ∃ v, e = .returned v ∧ v = .bool true ∧ Below W.heap.size W W' := by
  refine calls_cg (n := 96) Tryd.func5 rfl Tryd.ntmps5 (by simp) ?_
  show CG _ _ _ [(0, s.v), (1, nv i)] _ _
  have u := Below.refl W.heap.size W
  have q1 := h.len
  have q2 := h.cap
  have q5 : leavesA (trAs Ls) = ((trAs Ls).length + 1) / 2 := rfl
  have q6 := trAs_le Ls
  refine cg_seq ?_
  refine cg_region ?_
  refine lsw (want_none (by rfl)) (y_assign rfl rfl) rfl (by decide) ?_
  refine lg_nil ?_
  refine nx (E' := [(0, _), (1, _), (4, _)]) (fk rfl (fk rfl (fk rfl fn))) ?_
  refine cg_seq ?_
  refine cg_region ?_
  refine lg_callw (want_none (by rfl)) (awakeT_any _) (by kernel_rfl) rfl rfl rfl (by decide) ?_
  rintro _ w1 ⟨rfl, hw1⟩
  have zw1 := hw1.size
  refine lsw (want_none (by rfl)) (y_assign rfl rfl) rfl (by decide) ?_
  refine lg_nil ?_
  refine nx (E' := [(0, _), (1, _), (4, _), (5, _)]) (fk rfl (fk rfl (fk rfl (fk rfl fn)))) ?_
  refine cg_seq ?_
  refine cg_seq ?_
  refine cg_region ?_
  refine lsw (want_none (by rfl)) (y_move rfl rfl) rfl (by decide) ?_
  have h := h.below (hw1.mono (by omega))
  by_cases c2 : trFew Ls
  · refine lg_callw (want_none (by rfl)) (fewR_any (h.more (B' := w1.heap.size) (by omega)) (Nat.le_refl _)) (by kernel_rfl) rfl rfl rfl (by decide) ?_
    rintro u3 w3 ⟨e3, hw3⟩
    have zw3 := hw3.size
    obtain rfl : u3 = .bool true := e3.trans (congrArg Value.bool (decide_eq_true c2))
    refine lsw (want_none (by rfl)) (y_bnot rfl rfl) rfl (by decide) ?_
    refine lsw (want_none (by rfl)) (y_move rfl rfl) rfl (by decide) ?_
    refine lsw (want_t (dj := 15) (by rfl) (by kernel_rfl) rfl) (y_move rfl rfl) rfl (by decide) ?_
    have h := h.below (hw3.mono (by omega))
    by_cases c4 : trIs Ls
    · have htr := c4
      have q7 := trIs_le htr
      refine lg_callw (want_t (dj := 15) (by rfl) (by kernel_rfl) rfl) (sane_any (h.more (B' := w3.heap.size) (by omega)) (Nat.le_refl _)) (by kernel_rfl) rfl rfl rfl (by decide) ?_
      rintro u5 w5 ⟨e5, hw5⟩
      have zw5 := hw5.size
      obtain rfl : u5 = .bool true := e5.trans (congrArg Value.bool (decide_eq_true c4))
      refine lsw (want_t (dj := 15) (by rfl) (by kernel_rfl) rfl) (y_bnot rfl rfl) rfl (by decide) ?_
      refine lsw (want_none (by rfl)) (y_pick false rfl rfl rfl) rfl (by decide) ?_
      refine lg_nil ?_
      refine nx (E' := [(0, _), (1, _), (4, _), (5, _), (19, _)]) (fk rfl (fk rfl (fk rfl (fk rfl (fk rfl fn))))) ?_
      refine cg_cf rfl ?_
      refine cg_skip ?_
      refine nx (E' := [(0, _), (1, _), (4, _), (5, _)]) (fk rfl (fk rfl (fk rfl (fk rfl fn)))) ?_
      refine cg_seq ?_
      refine cg_region ?_
      refine lsw (want_none (by rfl)) (y_move rfl rfl) rfl (by decide) ?_
      refine lsw (want_none (by rfl)) (y_move rfl rfl) rfl (by decide) ?_
      have h := h.below (hw5.mono (by omega))
      have u := u.trans (hw1.mono u.size)
      have u := u.trans (hw3.mono u.size)
      have u := u.trans (hw5.mono u.size)
      refine lg_callw (want_none (by rfl)) (clear_any (h.more (B' := w5.heap.size) (by omega)) i (Nat.le_refl _) (rg.up u)) (by kernel_rfl) rfl rfl rfl (by decide) ?_
      rintro _ w6 ⟨s6, rfl, m6, hw6⟩
      have zw6 := hw6.size
      refine lsw (want_none (by rfl)) (y_move rfl rfl) rfl (by decide) ?_
      refine lsw (want_none (by rfl)) (y_extract rfl rfl rfl) rfl (by decide) ?_
      refine lsw (want_none (by rfl)) (y_extract rfl rfl rfl) rfl (by decide) ?_
      refine lsw (want_none (by rfl)) (y_assign rfl rfl) rfl (by decide) ?_
      refine lsw (want_none (by rfl)) (y_assign rfl rfl) rfl (by decide) ?_
      refine lg_nil ?_
      refine nx (E' := [(0, _), (1, _), (4, _), (5, _), (6, _), (7, _)]) (fk rfl (fk rfl (fk rfl (fk rfl (fk rfl (fk rfl fn)))))) ?_
      refine cg_seq ?_
      refine cg_seq ?_
      refine cg_region ?_
      refine lsw (want_none (by rfl)) (y_move rfl rfl) rfl (by decide) ?_
      by_cases c7 : i < 0
      · refine lsw (want_none (by rfl)) (yb (decide_eq_true c7) (yi_lss rfl rfl rfl)) rfl (by decide) ?_
        refine lsw (want_none (by rfl)) (y_move rfl rfl) rfl (by decide) ?_
        refine lsk (want_f (dj := 29) (by rfl) (by kernel_rfl) rfl) rfl (by decide) ?_
        refine lsk (want_f (dj := 29) (by rfl) (by kernel_rfl) rfl) rfl (by decide) ?_
        refine lsk (want_f (dj := 29) (by rfl) (by kernel_rfl) rfl) rfl (by decide) ?_
        refine lsk (want_f (dj := 29) (by rfl) (by kernel_rfl) rfl) rfl (by decide) ?_
        refine lsw (want_none (by rfl)) (y_pick true rfl rfl rfl) rfl (by decide) ?_
        refine lg_nil ?_
        refine nx (E' := [(0, _), (1, _), (4, _), (5, _), (6, _), (7, _), (34, _)]) (fk rfl (fk rfl (fk rfl (fk rfl (fk rfl (fk rfl (fk rfl fn))))))) ?_
        refine cg_ct rfl ?_
        refine cg_seq ?_
        refine cg_region ?_
        refine lsw (want_none (by rfl)) (y_move rfl rfl) rfl (by decide) ?_
        refine lsw (want_none (by rfl)) (y_move rfl rfl) rfl (by decide) ?_
        refine lsw (want_t (dj := 36) (by rfl) (by kernel_rfl) rfl) (y_move rfl rfl) rfl (by decide) ?_
        refine lsw (want_t (dj := 36) (by rfl) (by kernel_rfl) rfl) (yb (decide_eq_true (show (clearE Ls i) = 3 from (clearE_no (.inl c7)))) (yi_eql rfl rfl rfl)) rfl (by decide) ?_
        refine lsw (want_none (by rfl)) (y_pick true rfl rfl rfl) rfl (by decide) ?_
        refine lsw (want_none (by rfl)) (y_assign rfl rfl) rfl (by decide) ?_
        refine lg_nil ?_
        refine nx (E' := [(0, _), (1, _), (5, _), (6, _), (7, _), (4, _)]) (fk rfl (fk rfl (fk rfl (fk rfl (fk rfl (fk rfl fn)))))) ?_
        refine cg_ret ?_
        refine eg_seq_ret ?_
        have u := u.trans (hw6.mono u.size)
        exact eg_ret_tmp rfl rfl ⟨_, rfl, rfl, u⟩
      · refine lsw (want_none (by rfl)) (yb (decide_eq_false c7) (yi_lss rfl rfl rfl)) rfl (by decide) ?_
        refine lsw (want_none (by rfl)) (y_move rfl rfl) rfl (by decide) ?_
        refine lsw (want_t (dj := 29) (by rfl) (by kernel_rfl) rfl) (y_move rfl rfl) rfl (by decide) ?_
        refine lsw (want_t (dj := 29) (by rfl) (by kernel_rfl) rfl) (y_move rfl rfl) rfl (by decide) ?_
        have h := h.below (hw6.mono (by omega))
        refine lg_callw (want_t (dj := 29) (by rfl) (by kernel_rfl) rfl) (leavesT_any (h.more (B' := w6.heap.size) (by omega)) (Nat.le_refl _)) (by kernel_rfl) rfl rfl rfl (by decide) ?_
        rintro _ w8 ⟨rfl, hw8⟩
        have zw8 := hw8.size
        by_cases c9 : ((leavesA (trAs Ls) : Nat) : Int) ≤ i
        · refine lsw (want_t (dj := 29) (by rfl) (by kernel_rfl) rfl) (yb (decide_eq_true c9) (yi_geq rfl rfl rfl)) rfl (by decide) ?_
          refine lsw (want_none (by rfl)) (y_pick false rfl rfl rfl) rfl (by decide) ?_
          refine lg_nil ?_
          refine nx (E' := [(0, _), (1, _), (4, _), (5, _), (6, _), (7, _), (34, _)]) (fk rfl (fk rfl (fk rfl (fk rfl (fk rfl (fk rfl (fk rfl fn))))))) ?_
          refine cg_ct rfl ?_
          refine cg_seq ?_
          refine cg_region ?_
          refine lsw (want_none (by rfl)) (y_move rfl rfl) rfl (by decide) ?_
          refine lsw (want_none (by rfl)) (y_move rfl rfl) rfl (by decide) ?_
          refine lsw (want_t (dj := 36) (by rfl) (by kernel_rfl) rfl) (y_move rfl rfl) rfl (by decide) ?_
          refine lsw (want_t (dj := 36) (by rfl) (by kernel_rfl) rfl) (yb (decide_eq_true (show (clearE Ls i) = 3 from (clearE_no (.inr c9)))) (yi_eql rfl rfl rfl)) rfl (by decide) ?_
          refine lsw (want_none (by rfl)) (y_pick true rfl rfl rfl) rfl (by decide) ?_
          refine lsw (want_none (by rfl)) (y_assign rfl rfl) rfl (by decide) ?_
          refine lg_nil ?_
          refine nx (E' := [(0, _), (1, _), (5, _), (6, _), (7, _), (4, _)]) (fk rfl (fk rfl (fk rfl (fk rfl (fk rfl (fk rfl fn)))))) ?_
          refine cg_ret ?_
          refine eg_seq_ret ?_
          have u := u.trans (hw6.mono u.size)
          have u := u.trans (hw8.mono u.size)
          exact eg_ret_tmp rfl rfl ⟨_, rfl, rfl, u⟩
        · have ok := clearE_ok (by omega) c9
          have cl := clear_len ok
          rw [trAs_ok htr] at cl
          have i64 := (clear_node ok).2
          refine lsw (want_t (dj := 29) (by rfl) (by kernel_rfl) rfl) (yb (decide_eq_false c9) (yi_geq rfl rfl rfl)) rfl (by decide) ?_
          refine lsw (want_none (by rfl)) (y_pick false rfl rfl rfl) rfl (by decide) ?_
          refine lg_nil ?_
          refine nx (E' := [(0, _), (1, _), (4, _), (5, _), (6, _), (7, _), (34, _)]) (fk rfl (fk rfl (fk rfl (fk rfl (fk rfl (fk rfl (fk rfl fn))))))) ?_
          refine cg_cf rfl ?_
          refine cg_skip ?_
          refine nx (E' := [(0, _), (1, _), (4, _), (5, _), (6, _), (7, _)]) (fk rfl (fk rfl (fk rfl (fk rfl (fk rfl (fk rfl fn)))))) ?_
          refine cg_seq ?_
          refine cg_region ?_
          refine lsw (want_none (by rfl)) (y_move rfl rfl) rfl (by decide) ?_
          refine lsw (want_none (by rfl)) (y_move rfl rfl) rfl (by decide) ?_
          have m6 := m6.below (hw8.mono (by omega))
          have u := u.trans (hw6.mono u.size)
          have u := u.trans (hw8.mono u.size)
          refine lg_callw (want_none (by rfl)) (clear_any (m6.more (B' := w8.heap.size) (by omega)) i (Nat.le_refl _) (rg.up u)) (by kernel_rfl) rfl rfl rfl (by decide) ?_
          rintro _ w10 ⟨s10, rfl, m10, hw10⟩
          have zw10 := hw10.size
          refine lsw (want_none (by rfl)) (y_move rfl rfl) rfl (by decide) ?_
          refine lsw (want_none (by rfl)) (y_extract rfl rfl rfl) rfl (by decide) ?_
          refine lsw (want_none (by rfl)) (y_extract rfl rfl rfl) rfl (by decide) ?_
          refine lsw (want_none (by rfl)) (y_assign rfl rfl) rfl (by decide) ?_
          refine lsw (want_none (by rfl)) (y_assign rfl rfl) rfl (by decide) ?_
          refine lg_nil ?_
          refine nx (E' := [(0, _), (1, _), (4, _), (5, _), (6, _), (7, _), (8, _), (9, _)]) (fk rfl (fk rfl (fk rfl (fk rfl (fk rfl (fk rfl (fk rfl (fk rfl fn)))))))) ?_
          refine cg_seq ?_
          refine cg_seq ?_
          refine cg_region ?_
          refine lsw (want_none (by rfl)) (y_move rfl rfl) rfl (by decide) ?_
          refine lsw (want_none (by rfl)) (yb (nd_f ok) (yi_neq rfl rfl rfl)) rfl (by decide) ?_
          refine lsw (want_none (by rfl)) (y_move rfl rfl) rfl (by decide) ?_
          refine lsw (want_t (dj := 48) (by rfl) (by kernel_rfl) rfl) (y_move rfl rfl) rfl (by decide) ?_
          refine lsw (want_t (dj := 48) (by rfl) (by kernel_rfl) rfl) (yb (nd_f (show (clearE (clearL Ls i) i) = 0 from (clear_again ok))) (yi_neq rfl rfl rfl)) rfl (by decide) ?_
          refine lsw (want_none (by rfl)) (y_pick false rfl rfl rfl) rfl (by decide) ?_
          refine lsw (want_none (by rfl)) (y_move rfl rfl) rfl (by decide) ?_
          refine lsw (want_t (dj := 52) (by rfl) (by kernel_rfl) rfl) (y_move rfl rfl) rfl (by decide) ?_
          have m6 := m6.below (hw10.mono (by omega))
          refine lsw (want_t (dj := 52) (by rfl) (by kernel_rfl) rfl) (y_lenM (el := 30) m6.len (by kernel_rfl) rfl rfl) rfl (by decide) ?_
          refine lsw (want_t (dj := 52) (by rfl) (by kernel_rfl) rfl) (y_move rfl rfl) rfl (by decide) ?_
          have h := h.below (hw8.mono (by omega))
          have h := h.below (hw10.mono (by omega))
          refine lsw (want_t (dj := 52) (by rfl) (by kernel_rfl) rfl) (y_lenM (el := 30) h.len (by kernel_rfl) rfl rfl) rfl (by decide) ?_
          refine lsw (want_t (dj := 52) (by rfl) (by kernel_rfl) rfl) (yb (nd_f (show ((clearL Ls i).length : Int) = (Ls.length : Int) from (by omega))) (yi_neq rfl rfl rfl)) rfl (by decide) ?_
          refine lsw (want_none (by rfl)) (y_pick false rfl rfl rfl) rfl (by decide) ?_
          refine lsw (want_none (by rfl)) (y_move rfl rfl) rfl (by decide) ?_
          refine lsw (want_t (dj := 59) (by rfl) (by kernel_rfl) rfl) (y_move rfl rfl) rfl (by decide) ?_
          refine lsw (want_t (dj := 59) (by rfl) (by kernel_rfl) rfl) (y_move rfl rfl) rfl (by decide) ?_
          refine lg_callw (want_t (dj := 59) (by rfl) (by kernel_rfl) rfl) (sameR_any (m6.more (B' := w10.heap.size) (by omega)) (m10.more (B' := w10.heap.size) (by omega)) (Nat.le_refl _)) (by kernel_rfl) rfl rfl rfl (by decide) ?_
          rintro u11 w11 ⟨e11, hw11⟩
          have zw11 := hw11.size
          obtain rfl : u11 = .bool true := e11.trans (congrArg Value.bool (decide_eq_true (show trSame (clearL Ls i) (clearL (clearL Ls i) i) from (by rw [clear_twice ok]; exact tr_same _))))
          refine lsw (want_t (dj := 59) (by rfl) (by kernel_rfl) rfl) (y_bnot rfl rfl) rfl (by decide) ?_
          refine lsw (want_none (by rfl)) (y_pick false rfl rfl rfl) rfl (by decide) ?_
          refine lg_nil ?_
          refine nx (E' := [(0, _), (1, _), (4, _), (5, _), (6, _), (64, _)]) (fk rfl (fk rfl (fk rfl (fk rfl (fk rfl (fk rfl fn)))))) ?_
          refine cg_cf rfl ?_
          refine cg_skip ?_
          refine nx (E' := [(0, _), (1, _), (4, _), (5, _), (6, _)]) (fk rfl (fk rfl (fk rfl (fk rfl (fk rfl fn))))) ?_
          refine cg_seq ?_
          refine cg_seq ?_
          refine cg_region ?_
          refine lsw (want_none (by rfl)) (y_assign rfl rfl) rfl (by decide) ?_
          refine lg_nil ?_
          refine nx (E' := [(0, _), (1, _), (4, _), (5, _), (6, _), (10, _)]) (fk rfl (fk rfl (fk rfl (fk rfl (fk rfl (fk rfl fn)))))) ?_
          refine cg_block ?_
          obtain ⟨C, hC⟩ : ∃ q, q = w11.heap.size := ⟨_, rfl⟩
          have m6 := m6.below (hw11.mono (by omega))
          have h := h.below (hw11.mono (by omega))
          have u := u.trans (hw10.mono u.size)
          have u := u.trans (hw11.mono u.size)
          refine cg_loopE (fun t a v => ∃ (c : SlV), Holds 96 [(0, s.v), (1, nv i), (5, .bool true), (6, c.v), (10, nv ((t : Nat) : Int))] a ∧ RwNd v W.heap.size s Ls ∧ RwNd v C c (clearL Ls i) ∧ C ≤ v.heap.size ∧ Below W.heap.size W v) (Ls.length + 1) (fun a ha => ⟨s6, ha.keep (fk rfl (fk rfl (fk rfl (fk rfl (fk rfl fn))))), h, (m6.more (by omega)), (Nat.le_of_eq hC), u⟩) ?_
          rintro t a v ht ⟨c, ha, h, hc, hC2, u⟩
          refine cg_at ha ?_
          clear ha a
          have zv := u.size
          have q1 := h.len
          have q2 := h.cap
          have q3 := hc.len
          have q4 := hc.cap
          refine cg_seq ?_
          refine cg_seq ?_
          refine cg_region ?_
          refine lsw (want_none (by rfl)) (y_move rfl rfl) rfl (by decide) ?_
          refine lsw (want_none (by rfl)) (y_move rfl rfl) rfl (by decide) ?_
          refine lsw (want_none (by rfl)) (y_lenM (el := 30) h.len (by kernel_rfl) rfl rfl) rfl (by decide) ?_
          by_cases c12 : ((t : Nat) : Int) < (Ls.length : Int)
          · refine lsw (want_none (by rfl)) (yb (decide_eq_true c12) (yi_lss rfl rfl rfl)) rfl (by decide) ?_
            refine lg_nil ?_
            refine nx (E' := [(0, _), (1, _), (5, _), (6, _), (10, _), (65, _), (66, _), (67, _), (68, _)]) (fk rfl (fk rfl (fk rfl (fk rfl (fk rfl (fk rfl (fk rfl (fk rfl (fk rfl fn))))))))) ?_
            refine cg_ct rfl ?_
            refine cg_skip ?_
            refine nx (E' := [(0, _), (1, _), (5, _), (6, _), (10, _), (65, _), (66, _), (67, _), (68, _)]) (fk rfl (fk rfl (fk rfl (fk rfl (fk rfl (fk rfl (fk rfl (fk rfl (fk rfl fn))))))))) ?_
            refine cg_seq ?_
            refine cg_block ?_
            refine cg_seq ?_
            refine cg_region ?_
            refine lsw (want_none (by rfl)) (y_move rfl rfl) rfl (by decide) ?_
            refine lsw (want_none (by rfl)) (yi_mul rfl rfl rfl (by omega) (by omega)) rfl (by decide) ?_
            refine lsw (want_none (by rfl)) (y_move rfl rfl) rfl (by decide) ?_
            refine lsw (want_none (by rfl)) (y_move rfl rfl) rfl (by decide) ?_
            refine lsw (want_none (by rfl)) (y_lenM (el := 30) h.len (by kernel_rfl) rfl rfl) rfl (by decide) ?_
            by_cases c13 : undI (2 * i) ((t : Nat) : Int) (Ls.length : Int)
            · refine lg_callw (want_none (by rfl)) (under_any (2 * i) ((t : Nat) : Int) (Ls.length : Int) _ (rg.up u)) (by kernel_rfl) rfl rfl rfl (by decide) ?_
              rintro u14 w14 ⟨e14, hw14⟩
              have zw14 := hw14.size
              obtain rfl : u14 = .bool true := e14.trans (congrArg Value.bool (decide_eq_true c13))
              refine lg_nil ?_
              refine nx (E' := [(0, _), (1, _), (5, _), (6, _), (10, _), (65, _), (66, _), (67, _), (68, _), (71, _), (72, _), (73, _), (74, _), (75, _), (76, _)]) (fk rfl (fk rfl (fk rfl (fk rfl (fk rfl (fk rfl (fk rfl (fk rfl (fk rfl (fk rfl (fk rfl (fk rfl (fk rfl (fk rfl (fk rfl fn))))))))))))))) ?_
              refine cg_ct rfl ?_
              refine cg_seq ?_
              refine cg_region ?_
              refine lsw (want_none (by rfl)) (y_move rfl rfl) rfl (by decide) ?_
              refine lsw (want_none (by rfl)) (y_move rfl rfl) rfl (by decide) ?_
              have hc := hc.below (hw14.mono (by omega))
              obtain ⟨eb15, eo15, el15, eL15, eA15, eB15, eg15, eh15, ec15⟩ := hc.at (t) (by have := hc.len; omega)
              refine lsw (want_none (by rfl)) (y_ixR (s := c) (el := 30) (k := 8) (i := t) (iI := ((t : Nat) : Int)) eA15 (by kernel_rfl) (by kernel_rfl) (by omega) (by have := hc.len; omega) rfl rfl rfl) rfl (by decide) ?_
              refine lsw (want_none (by rfl)) (y_fld (off := 0) (by kernel_rfl) rfl rfl) rfl (by decide) ?_
              refine lsw (want_none (by rfl)) (y_celld (ec15 0 _ rfl) (by kernel_rfl) rfl rfl) rfl (by decide) ?_
              refine lsw (want_none (by rfl)) (yb (nd_f (show eL15.kind = 0 from (clear_under htr ok c13 eg15))) (yi_neq rfl rfl rfl)) rfl (by decide) ?_
              refine lg_nil ?_
              refine nx (E' := [(0, _), (1, _), (5, _), (6, _), (10, _), (65, _), (66, _), (67, _), (68, _), (71, _), (72, _), (73, _), (74, _), (75, _), (76, _), (77, _), (78, _), (79, _), (80, _), (81, _), (82, _)]) (fk rfl (fk rfl (fk rfl (fk rfl (fk rfl (fk rfl (fk rfl (fk rfl (fk rfl (fk rfl (fk rfl (fk rfl (fk rfl (fk rfl (fk rfl (fk rfl (fk rfl (fk rfl (fk rfl (fk rfl (fk rfl fn))))))))))))))))))))) ?_
              refine cg_cf rfl ?_
              refine cg_skip ?_
              refine eg_block_norm ?_
              refine nx (E' := [(0, _), (1, _), (5, _), (6, _), (10, _), (65, _), (66, _), (67, _), (68, _), (71, _), (72, _), (73, _), (74, _), (75, _), (76, _), (77, _), (78, _), (79, _), (80, _), (81, _), (82, _)]) (fk rfl (fk rfl (fk rfl (fk rfl (fk rfl (fk rfl (fk rfl (fk rfl (fk rfl (fk rfl (fk rfl (fk rfl (fk rfl (fk rfl (fk rfl (fk rfl (fk rfl (fk rfl (fk rfl (fk rfl (fk rfl fn))))))))))))))))))))) ?_
              refine cg_region ?_
              refine lsw (want_none (by rfl)) (y_move rfl rfl) rfl (by decide) ?_
              refine lsw (want_none (by rfl)) (yv (congrArg nv (show ((t : Nat) : Int) + 1 = ((t + 1 : Nat) : Int) by omega)) (yi_add rfl rfl rfl (by omega) (by omega))) rfl (by decide) ?_
              refine lsw (want_none (by rfl)) (y_assign rfl rfl) rfl (by decide) ?_
              refine lg_nil ?_
              have h := h.below (hw14.mono (by omega))
              have hC2 := (show C ≤ w14.heap.size by omega)
              have u := u.trans (hw14.mono u.size)
              exact fun a ha => (show t < (Ls.length + 1) ∧ _ from ⟨(by omega), c, ha.keep (fk rfl (fk rfl (fk rfl (fk rfl (fk rfl fn))))), h, hc, hC2, u⟩)
            · refine lg_callw (want_none (by rfl)) (under_any (2 * i) ((t : Nat) : Int) (Ls.length : Int) _ (rg.up u)) (by kernel_rfl) rfl rfl rfl (by decide) ?_
              rintro u16 w16 ⟨e16, hw16⟩
              have zw16 := hw16.size
              obtain rfl : u16 = .bool false := e16.trans (congrArg Value.bool (decide_eq_false c13))
              refine lg_nil ?_
              refine nx (E' := [(0, _), (1, _), (5, _), (6, _), (10, _), (65, _), (66, _), (67, _), (68, _), (71, _), (72, _), (73, _), (74, _), (75, _), (76, _)]) (fk rfl (fk rfl (fk rfl (fk rfl (fk rfl (fk rfl (fk rfl (fk rfl (fk rfl (fk rfl (fk rfl (fk rfl (fk rfl (fk rfl (fk rfl fn))))))))))))))) ?_
              refine cg_cf rfl ?_
              refine cg_seq ?_
              refine cg_held (by kernel_rfl) fun W17 eW17 => ?_
              have dW17 := below_drew _ _ eW17
              have zW17 := size_drew _ _ eW17
              clear eW17
              refine hg_take 0 (by rfl) (want_none (by rfl)) (by rfl) rfl (by decide) (by kernel_rfl) (by kernel_rfl) (by kernel_rfl) (fun _ _ _ h => h) (Below.refl _ _) (fun q hq => y_move rfl rfl) ?_
              refine hg_take 1 (by rfl) (want_none (by rfl)) (by rfl) rfl (by decide) (by kernel_rfl) (by kernel_rfl) (by kernel_rfl) (fun _ _ _ h => h) (Below.refl _ _) (fun q hq => y_move rfl rfl) ?_
              refine hg_take 2 (by rfl) (want_none (by rfl)) (by rfl) rfl (by decide) (by kernel_rfl) (by kernel_rfl) (by kernel_rfl) (fun _ _ _ h => h) (Below.refl _ _) (fun q hq => y_move rfl rfl) ?_
              refine hg_take 3 (by rfl) (want_none (by rfl)) (by rfl) rfl (by decide) (by kernel_rfl) (by kernel_rfl) (by kernel_rfl) (fun _ _ _ h => h) (Below.refl _ _) (fun q hq => yv (congrArg nv (show ((t : Nat) : Int) + 1 = ((t + 1 : Nat) : Int) by omega)) (yi_add rfl rfl rfl (by omega) (by omega))) ?_
              have hc := hc.below (hw16.mono (by omega))
              have hc := hc.below (dW17.mono (by omega))
              have cu18 := hc.cut t (t + 1) c.c (by have q1 := hc.len; have q2 := hc.cap; omega) (by have q1 := hc.len; have q2 := hc.cap; omega) (by have q1 := hc.len; have q2 := hc.cap; omega) (by have q1 := hc.len; have q2 := hc.cap; omega)
              refine hg_take 4 (by rfl) (want_none (by rfl)) (by rfl) rfl (by decide) (by kernel_rfl) (by kernel_rfl) (by kernel_rfl) (fun _ _ _ h => h) (Below.refl _ _) (fun q hq => y_cutR_lh (s := c) t (t + 1) (lo := ((t : Nat) : Int)) (hi := ((t + 1 : Nat) : Int)) (by have q1 := hc.len; have q2 := hc.cap; omega) (by have q1 := hc.len; have q2 := hc.cap; omega) (by have q1 := hc.len; have q2 := hc.cap; omega) (by have q1 := hc.len; have q2 := hc.cap; omega) rfl rfl rfl rfl) ?_
              refine hg_take 5 (by rfl) (want_none (by rfl)) (by rfl) rfl (by decide) (by kernel_rfl) (by kernel_rfl) (by kernel_rfl) (fun _ _ _ h => h) (Below.refl _ _) (fun q hq => y_move rfl rfl) ?_
              refine hg_take 6 (by rfl) (want_none (by rfl)) (by rfl) rfl (by decide) (by kernel_rfl) (by kernel_rfl) (by kernel_rfl) (fun _ _ _ h => h) (Below.refl _ _) (fun q hq => y_move rfl rfl) ?_
              refine hg_take 7 (by rfl) (want_none (by rfl)) (by rfl) rfl (by decide) (by kernel_rfl) (by kernel_rfl) (by kernel_rfl) (fun _ _ _ h => h) (Below.refl _ _) (fun q hq => y_move rfl rfl) ?_
              refine hg_take 8 (by rfl) (want_none (by rfl)) (by rfl) rfl (by decide) (by kernel_rfl) (by kernel_rfl) (by kernel_rfl) (fun _ _ _ h => h) (Below.refl _ _) (fun q hq => yv (congrArg nv (show ((t : Nat) : Int) + 1 = ((t + 1 : Nat) : Int) by omega)) (yi_add rfl rfl rfl (by omega) (by omega))) ?_
              have h := h.below (hw16.mono (by omega))
              have h := h.below (dW17.mono (by omega))
              have cu19 := h.cut t (t + 1) s.c (by have q1 := h.len; have q2 := h.cap; omega) (by have q1 := h.len; have q2 := h.cap; omega) (by have q1 := h.len; have q2 := h.cap; omega) (by have q1 := h.len; have q2 := h.cap; omega)
              refine hg_take 9 (by rfl) (want_none (by rfl)) (by rfl) rfl (by decide) (by kernel_rfl) (by kernel_rfl) (by kernel_rfl) (fun _ _ _ h => h) (Below.refl _ _) (fun q hq => y_cutR_lh (s := s) t (t + 1) (lo := ((t : Nat) : Int)) (hi := ((t + 1 : Nat) : Int)) (by have q1 := h.len; have q2 := h.cap; omega) (by have q1 := h.len; have q2 := h.cap; omega) (by have q1 := h.len; have q2 := h.cap; omega) (by have q1 := h.len; have q2 := h.cap; omega) rfl rfl rfl rfl) ?_
              refine hg_one 10 (by rfl) (by kernel_rfl) (want_none (by rfl)) ?_
              refine lg_callw (want_none (by rfl)) (sameR_any (cu18.more (B' := W17.heap.size) (by omega)) (cu19.more (B' := W17.heap.size) (by omega)) (Nat.le_refl _)) (by kernel_rfl) rfl rfl rfl (by decide) ?_
              rintro u20 w20 ⟨e20, hw20⟩
              have zw20 := hw20.size
              obtain rfl : u20 = .bool true := e20.trans (congrArg Value.bool (decide_eq_true (show trSame (((clearL Ls i).take (t + 1)).drop t) ((Ls.take (t + 1)).drop t) from (clear_other htr ok (by omega) c13))))
              refine hg_next hw20 ?_
              refine hg_up hw20 ?_
              refine hg_take 11 (by rfl) (want_none (by rfl)) (by rfl) rfl (by decide) (by kernel_rfl) (by kernel_rfl) (by kernel_rfl) (fun _ _ _ h => h) (Below.refl _ _) (fun q hq => y_bnot rfl rfl) ?_
              refine hg_done (by kernel_rfl) ?_
              refine nx (E' := [(0, _), (1, _), (5, _), (6, _), (10, _), (65, _), (66, _), (67, _), (68, _), (71, _), (72, _), (73, _), (74, _), (75, _), (76, _), (83, _), (84, _), (85, _), (86, _), (87, _), (88, _), (89, _), (90, _), (91, _), (92, _), (93, _), (94, _)]) (fk rfl (fk rfl (fk rfl (fk rfl (fk rfl (fk rfl (fk rfl (fk rfl (fk rfl (fk rfl (fk rfl (fk rfl (fk rfl (fk rfl (fk rfl (fk rfl (fk rfl (fk rfl (fk rfl (fk rfl (fk rfl (fk rfl (fk rfl (fk rfl (fk rfl (fk rfl (fk rfl fn))))))))))))))))))))))))))) ?_
              refine cg_cf rfl ?_
              refine cg_skip ?_
              refine eg_block_norm ?_
              refine nx (E' := [(0, _), (1, _), (5, _), (6, _), (10, _), (65, _), (66, _), (67, _), (68, _), (71, _), (72, _), (73, _), (74, _), (75, _), (76, _), (83, _), (84, _), (85, _), (86, _), (87, _), (88, _), (89, _), (90, _), (91, _), (92, _), (93, _), (94, _)]) (fk rfl (fk rfl (fk rfl (fk rfl (fk rfl (fk rfl (fk rfl (fk rfl (fk rfl (fk rfl (fk rfl (fk rfl (fk rfl (fk rfl (fk rfl (fk rfl (fk rfl (fk rfl (fk rfl (fk rfl (fk rfl (fk rfl (fk rfl (fk rfl (fk rfl (fk rfl (fk rfl fn))))))))))))))))))))))))))) ?_
              refine cg_region ?_
              refine lsw (want_none (by rfl)) (y_move rfl rfl) rfl (by decide) ?_
              refine lsw (want_none (by rfl)) (yv (congrArg nv (show ((t : Nat) : Int) + 1 = ((t + 1 : Nat) : Int) by omega)) (yi_add rfl rfl rfl (by omega) (by omega))) rfl (by decide) ?_
              refine lsw (want_none (by rfl)) (y_assign rfl rfl) rfl (by decide) ?_
              refine lg_nil ?_
              have h := h.below (hw20.mono (by omega))
              have hc := hc.below (hw20.mono (by omega))
              have hC2 := (show C ≤ w16.heap.size by omega)
              have hC2 := (show C ≤ W17.heap.size by omega)
              have hC2 := (show C ≤ w20.heap.size by omega)
              have u := u.trans (hw16.mono u.size)
              have u := u.trans (dW17.mono u.size)
              have u := u.trans (hw20.mono u.size)
              exact fun a ha => (show t < (Ls.length + 1) ∧ _ from ⟨(by omega), c, ha.keep (fk rfl (fk rfl (fk rfl (fk rfl (fk rfl fn))))), h, hc, hC2, u⟩)
          · refine lsw (want_none (by rfl)) (yb (decide_eq_false c12) (yi_lss rfl rfl rfl)) rfl (by decide) ?_
            refine lg_nil ?_
            refine nx (E' := [(0, _), (1, _), (5, _), (6, _), (10, _), (65, _), (66, _), (67, _), (68, _)]) (fk rfl (fk rfl (fk rfl (fk rfl (fk rfl (fk rfl (fk rfl (fk rfl (fk rfl fn))))))))) ?_
            refine cg_cf rfl ?_
            refine cg_exit ?_
            refine eg_seq_exit ?_
            refine eg_seq_exit ?_
            refine eg_block_exit ?_
            refine nx (E' := [(5, _)]) (fk rfl fn) ?_
            refine cg_seq ?_
            refine cg_region ?_
            refine lsw (want_none (by rfl)) (y_move rfl rfl) rfl (by decide) ?_
            refine lsw (want_none (by rfl)) (y_assign rfl rfl) rfl (by decide) ?_
            refine lg_nil ?_
            refine nx (E' := [(4, _)]) (fk rfl fn) ?_
            refine cg_ret ?_
            exact eg_ret_tmp rfl rfl ⟨_, rfl, rfl, u⟩
    · refine lg_callw (want_t (dj := 15) (by rfl) (by kernel_rfl) rfl) (sane_any (h.more (B' := w3.heap.size) (by omega)) (Nat.le_refl _)) (by kernel_rfl) rfl rfl rfl (by decide) ?_
      rintro u21 w21 ⟨e21, hw21⟩
      have zw21 := hw21.size
      obtain rfl : u21 = .bool false := e21.trans (congrArg Value.bool (decide_eq_false c4))
      refine lsw (want_t (dj := 15) (by rfl) (by kernel_rfl) rfl) (y_bnot rfl rfl) rfl (by decide) ?_
      refine lsw (want_none (by rfl)) (y_pick false rfl rfl rfl) rfl (by decide) ?_
      refine lg_nil ?_
      refine nx (E' := [(0, _), (1, _), (4, _), (5, _), (19, _)]) (fk rfl (fk rfl (fk rfl (fk rfl (fk rfl fn))))) ?_
      refine cg_ct rfl ?_
      refine cg_seq ?_
      refine cg_region ?_
      refine lsw (want_none (by rfl)) (y_move rfl rfl) rfl (by decide) ?_
      refine lsw (want_none (by rfl)) (y_assign rfl rfl) rfl (by decide) ?_
      refine lg_nil ?_
      refine nx (E' := [(0, _), (1, _), (5, _), (4, _)]) (fk rfl (fk rfl (fk rfl (fk rfl fn)))) ?_
      refine cg_ret ?_
      refine eg_seq_ret ?_
      have u := u.trans (hw1.mono u.size)
      have u := u.trans (hw3.mono u.size)
      have u := u.trans (hw21.mono u.size)
      exact eg_ret_tmp rfl rfl ⟨_, rfl, rfl, u⟩
  · refine lg_callw (want_none (by rfl)) (fewR_any (h.more (B' := w1.heap.size) (by omega)) (Nat.le_refl _)) (by kernel_rfl) rfl rfl rfl (by decide) ?_
    rintro u22 w22 ⟨e22, hw22⟩
    have zw22 := hw22.size
    obtain rfl : u22 = .bool false := e22.trans (congrArg Value.bool (decide_eq_false c2))
    refine lsw (want_none (by rfl)) (y_bnot rfl rfl) rfl (by decide) ?_
    refine lsw (want_none (by rfl)) (y_move rfl rfl) rfl (by decide) ?_
    refine lsk (want_f (dj := 15) (by rfl) (by kernel_rfl) rfl) rfl (by decide) ?_
    refine lsk (want_f (dj := 15) (by rfl) (by kernel_rfl) rfl) rfl (by decide) ?_
    refine lsk (want_f (dj := 15) (by rfl) (by kernel_rfl) rfl) rfl (by decide) ?_
    refine lsw (want_none (by rfl)) (y_pick true rfl rfl rfl) rfl (by decide) ?_
    refine lg_nil ?_
    refine nx (E' := [(0, _), (1, _), (4, _), (5, _), (19, _)]) (fk rfl (fk rfl (fk rfl (fk rfl (fk rfl fn))))) ?_
    refine cg_ct rfl ?_
    refine cg_seq ?_
    refine cg_region ?_
    refine lsw (want_none (by rfl)) (y_move rfl rfl) rfl (by decide) ?_
    refine lsw (want_none (by rfl)) (y_assign rfl rfl) rfl (by decide) ?_
    refine lg_nil ?_
    refine nx (E' := [(0, _), (1, _), (5, _), (4, _)]) (fk rfl (fk rfl (fk rfl (fk rfl fn)))) ?_
    refine cg_ret ?_
    refine eg_seq_ret ?_
    have u := u.trans (hw1.mono u.size)
    have u := u.trans (hw22.mono u.size)
    exact eg_ret_tmp rfl rfl ⟨_, rfl, rfl, u⟩
end Go.Proofs.YtpoonjgkgaodmaaDoor
