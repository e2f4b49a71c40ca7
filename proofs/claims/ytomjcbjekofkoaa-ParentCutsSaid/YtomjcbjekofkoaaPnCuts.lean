/-
  What is cut is gone, all else is in order.
-/
import Derived.Test.YtomjcbjekofkoaaPnAwake
namespace Go.Proofs.Ytomjcbjekofkoaa
open Go.ChangeShapes Go.WideShapes Go.ChangeAt Go.RowKit
set_option linter.unusedVariables false

set_option maxHeartbeats 4000000 in
theorem parentCuts_any {W : World} {s s2 : SlV} {xs ys : List Int} (h : SlN W W.heap.size s xs) (h2 : SlN W W.heap.size s2 ys) : Calls Try.prog 7 #[s.v, s2.v] W fun e W' => ∃ v, e = .returned v ∧ v = .bool true ∧ Below W.heap.size W W' := by
  refine calls_cg (n := 78) Try.func7 rfl Try.ntmps7 (by simp) ?_
  show CG _ _ _ [(0, s.v), (1, s2.v)] _ _
  have u := Below.refl W.heap.size W
  refine cg_seq ?_
  refine cg_region ?_
  refine lsw (want_none (by rfl)) (y_assign rfl rfl) rfl (by decide) ?_
  refine lg_nil ?_
  refine nx (E' := [(0, _), (1, _), (4, _)]) (fk rfl (fk rfl (fk rfl fn))) ?_
  refine cg_seq ?_
  refine cg_region ?_
  refine lg_callw (want_none (by rfl)) (awakeP_any _) (by kernel_rfl) rfl rfl rfl (by decide) ?_
  rintro _ w1 ⟨rfl, hw1⟩
  have zw1 := hw1.size
  refine lsw (want_none (by rfl)) (y_assign rfl rfl) rfl (by decide) ?_
  refine lg_nil ?_
  refine nx (E' := [(0, _), (1, _), (4, _), (5, _)]) (fk rfl (fk rfl (fk rfl (fk rfl fn)))) ?_
  refine cg_seq ?_
  refine cg_seq ?_
  refine cg_region ?_
  refine lsw (want_none (by rfl)) (y_move rfl rfl) rfl (by decide) ?_
  have h := h.below (hw1.mono (by omega))
  refine lsw (want_none (by rfl)) (y_lenM (el := 3) h.len (by kernel_rfl) rfl rfl) rfl (by decide) ?_
  by_cases c2 : 100 < (xs.length : Int)
  · refine lsw (want_none (by rfl)) (yb (decide_eq_true c2) (yi_gtr rfl rfl rfl)) rfl (by decide) ?_
    refine lsw (want_none (by rfl)) (y_move rfl rfl) rfl (by decide) ?_
    refine lsk (want_f (dj := 13) (by rfl) (by kernel_rfl) rfl) rfl (by decide) ?_
    refine lsk (want_f (dj := 13) (by rfl) (by kernel_rfl) rfl) rfl (by decide) ?_
    refine lsk (want_f (dj := 13) (by rfl) (by kernel_rfl) rfl) rfl (by decide) ?_
    refine lsw (want_none (by rfl)) (y_pick true rfl rfl rfl) rfl (by decide) ?_
    refine lg_nil ?_
    refine nx (E' := [(0, _), (1, _), (4, _), (5, _), (17, _)]) (fk rfl (fk rfl (fk rfl (fk rfl (fk rfl fn))))) ?_
    refine cg_ct rfl ?_
    refine cg_seq ?_
    refine cg_region ?_
    refine lsw (want_none (by rfl)) (y_move rfl rfl) rfl (by decide) ?_
    refine lsw (want_none (by rfl)) (y_assign rfl rfl) rfl (by decide) ?_
    refine lg_nil ?_
    refine nx (E' := [(0, _), (1, _), (5, _), (4, _)]) (fk rfl (fk rfl (fk rfl (fk rfl fn)))) ?_
    refine cg_ret ?_
    refine eg_seq_ret ?_
    have u := u.trans (hw1.mono u.size)
    exact eg_ret_tmp rfl rfl ⟨_, rfl, rfl, u⟩
  · refine lsw (want_none (by rfl)) (yb (decide_eq_false c2) (yi_gtr rfl rfl rfl)) rfl (by decide) ?_
    refine lsw (want_none (by rfl)) (y_move rfl rfl) rfl (by decide) ?_
    refine lsw (want_t (dj := 13) (by rfl) (by kernel_rfl) rfl) (y_move rfl rfl) rfl (by decide) ?_
    have h2 := h2.below (hw1.mono (by omega))
    refine lsw (want_t (dj := 13) (by rfl) (by kernel_rfl) rfl) (y_lenM (el := 3) h2.len (by kernel_rfl) rfl rfl) rfl (by decide) ?_
    by_cases c3 : 100 < (ys.length : Int)
    · refine lsw (want_t (dj := 13) (by rfl) (by kernel_rfl) rfl) (yb (decide_eq_true c3) (yi_gtr rfl rfl rfl)) rfl (by decide) ?_
      refine lsw (want_none (by rfl)) (y_pick false rfl rfl rfl) rfl (by decide) ?_
      refine lg_nil ?_
      refine nx (E' := [(0, _), (1, _), (4, _), (5, _), (17, _)]) (fk rfl (fk rfl (fk rfl (fk rfl (fk rfl fn))))) ?_
      refine cg_ct rfl ?_
      refine cg_seq ?_
      refine cg_region ?_
      refine lsw (want_none (by rfl)) (y_move rfl rfl) rfl (by decide) ?_
      refine lsw (want_none (by rfl)) (y_assign rfl rfl) rfl (by decide) ?_
      refine lg_nil ?_
      refine nx (E' := [(0, _), (1, _), (5, _), (4, _)]) (fk rfl (fk rfl (fk rfl (fk rfl fn)))) ?_
      refine cg_ret ?_
      refine eg_seq_ret ?_
      have u := u.trans (hw1.mono u.size)
      exact eg_ret_tmp rfl rfl ⟨_, rfl, rfl, u⟩
    · refine lsw (want_t (dj := 13) (by rfl) (by kernel_rfl) rfl) (yb (decide_eq_false c3) (yi_gtr rfl rfl rfl)) rfl (by decide) ?_
      refine lsw (want_none (by rfl)) (y_pick false rfl rfl rfl) rfl (by decide) ?_
      refine lg_nil ?_
      refine nx (E' := [(0, _), (1, _), (4, _), (5, _), (17, _)]) (fk rfl (fk rfl (fk rfl (fk rfl (fk rfl fn))))) ?_
      refine cg_cf rfl ?_
      refine cg_skip ?_
      refine nx (E' := [(0, _), (1, _), (4, _), (5, _)]) (fk rfl (fk rfl (fk rfl (fk rfl fn)))) ?_
      refine cg_seq ?_
      refine cg_region ?_
      refine lsw (want_none (by rfl)) (y_move rfl rfl) rfl (by decide) ?_
      refine lsw (want_none (by rfl)) (y_move rfl rfl) rfl (by decide) ?_
      refine lg_callw (want_none (by rfl)) (cutP_any h h2 (by omega) (by omega) (by first | omega | (simp only [List.length_append, List.length_cons, List.length_nil, numOct_length]; omega)) (by first | omega | (simp only [List.length_append, List.length_cons, List.length_nil, numOct_length]; omega))) (by kernel_rfl) rfl rfl rfl (by decide) ?_
      rintro _ w4 ⟨r4, rfl, m4, hw4⟩
      have zw4 := hw4.size
      have cl4 := cutK_length xs ys
      refine lsw (want_none (by rfl)) (y_assign rfl rfl) rfl (by decide) ?_
      refine lg_nil ?_
      refine nx (E' := [(0, _), (1, _), (4, _), (5, _), (6, _)]) (fk rfl (fk rfl (fk rfl (fk rfl (fk rfl fn))))) ?_
      refine cg_seq ?_
      refine cg_region ?_
      refine lsw (want_none (by rfl)) (y_assign rfl rfl) rfl (by decide) ?_
      refine lg_nil ?_
      refine nx (E' := [(0, _), (1, _), (4, _), (5, _), (6, _), (7, _)]) (fk rfl (fk rfl (fk rfl (fk rfl (fk rfl (fk rfl fn)))))) ?_
      refine cg_seq ?_
      refine cg_seq ?_
      refine cg_region ?_
      refine lsw (want_none (by rfl)) (y_assign rfl rfl) rfl (by decide) ?_
      refine lg_nil ?_
      refine nx (E' := [(0, _), (1, _), (4, _), (5, _), (6, _), (7, _), (8, _)]) (fk rfl (fk rfl (fk rfl (fk rfl (fk rfl (fk rfl (fk rfl fn))))))) ?_
      refine cg_block ?_
      obtain ⟨C, hC⟩ : ∃ q, q = w4.heap.size := ⟨_, rfl⟩
      have hj := m4
      rw [← hC] at hj
      have le_h := h.len; have ca_h := h.cap
      have le_j := hj.len; have ca_j := hj.cap
      have h := h.below (hw4.mono (by omega))
      have h2 := h2.below (hw4.mono (by omega))
      have u := u.trans (hw1.mono u.size)
      have u := u.trans (hw4.mono u.size)
      refine cg_loopE (fun t a v => ∃ (kk : Int), Holds 78 [(0, s.v), (1, s2.v), (5, .bool true), (6, r4.v), (7, nv kk), (8, nv ((t : Nat) : Int))] a ∧ SlN v W.heap.size s xs ∧ SlN v W.heap.size s2 ys ∧ SlN v C r4 (cutK xs ys) ∧ Below W.heap.size W v ∧ C ≤ v.heap.size ∧ (t ≤ xs.length) ∧ kk = ((cutK (xs.take t) ys).length : Int)) xs.length (fun a ha => ⟨0, ha.keep (fk rfl (fk rfl (fk rfl (fk rfl (fk rfl (fk rfl fn)))))), h, h2, hj, u, (by omega), (Nat.zero_le _), rfl⟩) ?_
      rintro t a v ht ⟨kk, ha, h, h2, hj, u, cC, tle, hk⟩
      refine cg_at ha ?_
      clear ha a
      have zv := u.size
      refine cg_seq ?_
      refine cg_seq ?_
      refine cg_region ?_
      refine lsw (want_none (by rfl)) (y_move rfl rfl) rfl (by decide) ?_
      refine lsw (want_none (by rfl)) (y_move rfl rfl) rfl (by decide) ?_
      refine lsw (want_none (by rfl)) (y_lenM (el := 3) h.len (by kernel_rfl) rfl rfl) rfl (by decide) ?_
      by_cases c5 : ((t : Nat) : Int) < (xs.length : Int)
      · refine lsw (want_none (by rfl)) (yb (decide_eq_true c5) (yi_lss rfl rfl rfl)) rfl (by decide) ?_
        refine lg_nil ?_
        refine nx (E' := [(0, _), (1, _), (5, _), (6, _), (7, _), (8, _), (22, _), (23, _), (24, _), (25, _)]) (fk rfl (fk rfl (fk rfl (fk rfl (fk rfl (fk rfl (fk rfl (fk rfl (fk rfl (fk rfl fn)))))))))) ?_
        refine cg_ct rfl ?_
        refine cg_skip ?_
        refine nx (E' := [(0, _), (1, _), (5, _), (6, _), (7, _), (8, _), (22, _), (23, _), (24, _), (25, _)]) (fk rfl (fk rfl (fk rfl (fk rfl (fk rfl (fk rfl (fk rfl (fk rfl (fk rfl (fk rfl fn)))))))))) ?_
        refine cg_seq ?_
        refine cg_block ?_
        refine cg_seq ?_
        refine cg_seq ?_
        refine cg_region ?_
        refine lsw (want_none (by rfl)) (y_move rfl rfl) rfl (by decide) ?_
        refine lsw (want_none (by rfl)) (y_move rfl rfl) rfl (by decide) ?_
        refine lsw (want_none (by rfl)) (y_move rfl rfl) rfl (by decide) ?_
        refine lsw (want_none (by rfl)) (y_ixT (i := t) (iI := ((t : Nat) : Int)) h (by omega) (by omega) rfl rfl rfl) rfl (by decide) ?_
        refine lsw (want_none (by rfl)) (y_ldT (i := t) h (by omega) rfl rfl) rfl (by decide) ?_
        by_cases c6 : (xs.getD t 0) ∈ ys
        · refine lsw (want_none (by rfl)) (yb (decide_eq_true c6) (y_call (has_any h2 (xs.getD t 0)) (by kernel_rfl) rfl rfl)) rfl (by decide) ?_
          refine lg_nil ?_
          refine nx (E' := [(0, _), (1, _), (5, _), (6, _), (7, _), (8, _), (22, _), (23, _), (24, _), (25, _), (28, _), (29, _), (30, _), (31, _), (32, _), (33, _)]) (fk rfl (fk rfl (fk rfl (fk rfl (fk rfl (fk rfl (fk rfl (fk rfl (fk rfl (fk rfl (fk rfl (fk rfl (fk rfl (fk rfl (fk rfl (fk rfl fn)))))))))))))))) ?_
          refine cg_ct rfl ?_
          refine cg_exit ?_
          refine eg_seq_exit ?_
          refine eg_block_exit ?_
          refine nx (E' := [(0, _), (1, _), (5, _), (6, _), (7, _), (8, _), (22, _), (23, _), (24, _), (25, _), (28, _), (29, _), (30, _), (31, _), (32, _), (33, _)]) (fk rfl (fk rfl (fk rfl (fk rfl (fk rfl (fk rfl (fk rfl (fk rfl (fk rfl (fk rfl (fk rfl (fk rfl (fk rfl (fk rfl (fk rfl (fk rfl fn)))))))))))))))) ?_
          refine cg_region ?_
          refine lsw (want_none (by rfl)) (y_move rfl rfl) rfl (by decide) ?_
          refine lsw (want_none (by rfl)) (yv (congrArg nv (show ((t : Nat) : Int) + 1 = ((t + 1 : Nat) : Int) by omega)) (yi_add rfl rfl rfl (by omega) (by omega))) rfl (by decide) ?_
          refine lsw (want_none (by rfl)) (y_assign rfl rfl) rfl (by decide) ?_
          refine lg_nil ?_
          exact fun a ha => (show t < xs.length ∧ _ from ⟨(by omega), kk, ha.keep (fk rfl (fk rfl (fk rfl (fk rfl (fk rfl (fk rfl fn)))))), h, h2, hj, u, (by omega), (by omega), (by rw [cutK_take (by omega), if_pos c6, List.append_nil]; exact hk)⟩)
        · obtain ⟨cl1, cl2⟩ := cut_at (by omega) c6
          refine lsw (want_none (by rfl)) (yb (decide_eq_false c6) (y_call (has_any h2 (xs.getD t 0)) (by kernel_rfl) rfl rfl)) rfl (by decide) ?_
          refine lg_nil ?_
          refine nx (E' := [(0, _), (1, _), (5, _), (6, _), (7, _), (8, _), (22, _), (23, _), (24, _), (25, _), (28, _), (29, _), (30, _), (31, _), (32, _), (33, _)]) (fk rfl (fk rfl (fk rfl (fk rfl (fk rfl (fk rfl (fk rfl (fk rfl (fk rfl (fk rfl (fk rfl (fk rfl (fk rfl (fk rfl (fk rfl (fk rfl fn)))))))))))))))) ?_
          refine cg_cf rfl ?_
          refine cg_skip ?_
          refine nx (E' := [(0, _), (1, _), (5, _), (6, _), (7, _), (8, _), (22, _), (23, _), (24, _), (25, _), (28, _), (29, _), (30, _), (31, _), (32, _), (33, _)]) (fk rfl (fk rfl (fk rfl (fk rfl (fk rfl (fk rfl (fk rfl (fk rfl (fk rfl (fk rfl (fk rfl (fk rfl (fk rfl (fk rfl (fk rfl (fk rfl fn)))))))))))))))) ?_
          refine cg_seq ?_
          refine cg_seq ?_
          refine cg_still (by kernel_rfl) (by kernel_rfl) fun W7 eW7 => ?_
          have dW7 := below_drew _ _ eW7
          have zW7 := size_drew _ _ eW7
          clear eW7
          refine stw (want_none (by rfl)) (y_move rfl rfl) rfl (by decide) ?_
          refine stw (want_none (by rfl)) (y_move rfl rfl) rfl (by decide) ?_
          have hj := hj.below (dW7.mono (by omega))
          refine stw (want_none (by rfl)) (y_lenM (el := 3) hj.len (by kernel_rfl) rfl rfl) rfl (by decide) ?_
          refine stw (want_none (by rfl)) (yb (decide_eq_false (show ¬ (((cutK xs ys).length : Int) ≤ kk) from (by omega))) (yi_geq rfl rfl rfl)) rfl (by decide) ?_
          refine stw (want_none (by rfl)) (y_move rfl rfl) rfl (by decide) ?_
          refine stw (want_t (dj := 38) (by rfl) (by kernel_rfl) rfl) (y_move rfl rfl) rfl (by decide) ?_
          refine stw (want_t (dj := 38) (by rfl) (by kernel_rfl) rfl) (y_move rfl rfl) rfl (by decide) ?_
          refine stw (want_t (dj := 38) (by rfl) (by kernel_rfl) rfl) (y_ixT (i := (cutK (xs.take t) ys).length) (iI := kk) hj (by omega) (by first | omega | (simp only [List.length_append, List.length_cons, List.length_nil]; omega)) rfl rfl rfl) rfl (by decide) ?_
          refine stw (want_t (dj := 38) (by rfl) (by kernel_rfl) rfl) (y_ldT (i := (cutK (xs.take t) ys).length) hj (by first | omega | (simp only [List.length_append, List.length_cons, List.length_nil]; omega)) rfl rfl) rfl (by decide) ?_
          refine stw (want_t (dj := 38) (by rfl) (by kernel_rfl) rfl) (y_move rfl rfl) rfl (by decide) ?_
          refine stw (want_t (dj := 38) (by rfl) (by kernel_rfl) rfl) (y_move rfl rfl) rfl (by decide) ?_
          have h := h.below (dW7.mono (by omega))
          refine stw (want_t (dj := 38) (by rfl) (by kernel_rfl) rfl) (y_ixT (i := t) (iI := ((t : Nat) : Int)) h (by omega) (by omega) rfl rfl rfl) rfl (by decide) ?_
          refine stw (want_t (dj := 38) (by rfl) (by kernel_rfl) rfl) (y_ldT (i := t) h (by omega) rfl rfl) rfl (by decide) ?_
          refine stw (want_t (dj := 38) (by rfl) (by kernel_rfl) rfl) (yb (nd_f cl2) (yi_neq rfl rfl rfl)) rfl (by decide) ?_
          refine stw (want_none (by rfl)) (y_pick false rfl rfl rfl) rfl (by decide) ?_
          refine sg_nil ?_
          refine nx (E' := [(0, _), (1, _), (5, _), (6, _), (7, _), (8, _), (22, _), (23, _), (24, _), (25, _), (28, _), (29, _), (30, _), (31, _), (32, _), (33, _), (34, _), (35, _), (36, _), (37, _), (38, _), (39, _), (40, _), (41, _), (42, _), (43, _), (44, _), (45, _), (46, _), (47, _), (48, _)]) (fk rfl (fk rfl (fk rfl (fk rfl (fk rfl (fk rfl (fk rfl (fk rfl (fk rfl (fk rfl (fk rfl (fk rfl (fk rfl (fk rfl (fk rfl (fk rfl (fk rfl (fk rfl (fk rfl (fk rfl (fk rfl (fk rfl (fk rfl (fk rfl (fk rfl (fk rfl (fk rfl (fk rfl (fk rfl (fk rfl (fk rfl fn))))))))))))))))))))))))))))))) ?_
          refine cg_cf rfl ?_
          refine cg_skip ?_
          refine nx (E' := [(0, _), (1, _), (5, _), (6, _), (7, _), (8, _), (22, _), (23, _), (24, _), (25, _), (28, _), (29, _), (30, _), (31, _), (32, _), (33, _), (34, _), (35, _), (36, _), (37, _), (38, _), (39, _), (40, _), (41, _), (42, _), (43, _), (44, _), (45, _), (46, _), (47, _), (48, _)]) (fk rfl (fk rfl (fk rfl (fk rfl (fk rfl (fk rfl (fk rfl (fk rfl (fk rfl (fk rfl (fk rfl (fk rfl (fk rfl (fk rfl (fk rfl (fk rfl (fk rfl (fk rfl (fk rfl (fk rfl (fk rfl (fk rfl (fk rfl (fk rfl (fk rfl (fk rfl (fk rfl (fk rfl (fk rfl (fk rfl (fk rfl fn))))))))))))))))))))))))))))))) ?_
          refine cg_region ?_
          refine lsw (want_none (by rfl)) (y_move rfl rfl) rfl (by decide) ?_
          refine lsw (want_none (by rfl)) (yi_add rfl rfl rfl (by omega) (by omega)) rfl (by decide) ?_
          refine lsw (want_none (by rfl)) (y_assign rfl rfl) rfl (by decide) ?_
          refine lg_nil ?_
          refine eg_block_norm ?_
          refine nx (E' := [(0, _), (1, _), (5, _), (6, _), (8, _), (22, _), (23, _), (24, _), (25, _), (28, _), (29, _), (30, _), (31, _), (32, _), (33, _), (34, _), (35, _), (36, _), (37, _), (38, _), (39, _), (40, _), (41, _), (42, _), (43, _), (44, _), (45, _), (46, _), (47, _), (48, _), (49, _), (50, _), (7, _)]) (fk rfl (fk rfl (fk rfl (fk rfl (fk rfl (fk rfl (fk rfl (fk rfl (fk rfl (fk rfl (fk rfl (fk rfl (fk rfl (fk rfl (fk rfl (fk rfl (fk rfl (fk rfl (fk rfl (fk rfl (fk rfl (fk rfl (fk rfl (fk rfl (fk rfl (fk rfl (fk rfl (fk rfl (fk rfl (fk rfl (fk rfl (fk rfl (fk rfl fn))))))))))))))))))))))))))))))))) ?_
          refine cg_region ?_
          refine lsw (want_none (by rfl)) (y_move rfl rfl) rfl (by decide) ?_
          refine lsw (want_none (by rfl)) (yv (congrArg nv (show ((t : Nat) : Int) + 1 = ((t + 1 : Nat) : Int) by omega)) (yi_add rfl rfl rfl (by omega) (by omega))) rfl (by decide) ?_
          refine lsw (want_none (by rfl)) (y_assign rfl rfl) rfl (by decide) ?_
          refine lg_nil ?_
          have h2 := h2.below (dW7.mono (by omega))
          have u := u.trans (dW7.mono u.size)
          exact fun a ha => (show t < xs.length ∧ _ from ⟨(by omega), (kk + 1), ha.keep (fk rfl (fk rfl (fk rfl (fk rfl (fk rfl (fk rfl fn)))))), h, h2, hj, u, (by omega), (by omega), (by rw [cutK_take (by omega), if_neg c6, List.length_append, hk]; rfl)⟩)
      · rw [List.take_of_length_le (by omega)] at hk
        refine lsw (want_none (by rfl)) (yb (decide_eq_false c5) (yi_lss rfl rfl rfl)) rfl (by decide) ?_
        refine lg_nil ?_
        refine nx (E' := [(0, _), (1, _), (5, _), (6, _), (7, _), (8, _), (22, _), (23, _), (24, _), (25, _)]) (fk rfl (fk rfl (fk rfl (fk rfl (fk rfl (fk rfl (fk rfl (fk rfl (fk rfl (fk rfl fn)))))))))) ?_
        refine cg_cf rfl ?_
        refine cg_exit ?_
        refine eg_seq_exit ?_
        refine eg_seq_exit ?_
        refine eg_block_exit ?_
        refine nx (E' := [(0, _), (1, _), (5, _), (6, _), (7, _)]) (fk rfl (fk rfl (fk rfl (fk rfl (fk rfl fn))))) ?_
        refine cg_seq ?_
        refine cg_region ?_
        refine lsw (want_none (by rfl)) (y_move rfl rfl) rfl (by decide) ?_
        refine lsw (want_none (by rfl)) (y_move rfl rfl) rfl (by decide) ?_
        refine lsw (want_t (dj := 52) (by rfl) (by kernel_rfl) rfl) (y_move rfl rfl) rfl (by decide) ?_
        refine lsw (want_t (dj := 52) (by rfl) (by kernel_rfl) rfl) (y_move rfl rfl) rfl (by decide) ?_
        refine lsw (want_t (dj := 52) (by rfl) (by kernel_rfl) rfl) (y_lenM (el := 3) hj.len (by kernel_rfl) rfl rfl) rfl (by decide) ?_
        refine lsw (want_t (dj := 52) (by rfl) (by kernel_rfl) rfl) (yb (decide_eq_true hk) (yi_eql rfl rfl rfl)) rfl (by decide) ?_
        refine lsw (want_none (by rfl)) (y_pick true rfl rfl rfl) rfl (by decide) ?_
        refine lsw (want_none (by rfl)) (y_move rfl rfl) rfl (by decide) ?_
        refine lsw (want_t (dj := 58) (by rfl) (by kernel_rfl) rfl) (y_move rfl rfl) rfl (by decide) ?_
        refine lsw (want_t (dj := 58) (by rfl) (by kernel_rfl) rfl) (y_move rfl rfl) rfl (by decide) ?_
        refine lg_callw (want_t (dj := 58) (by rfl) (by kernel_rfl) rfl) (cutP_any hj h2 (by omega) (by omega) (by first | omega | (simp only [List.length_append, List.length_cons, List.length_nil, numOct_length]; omega)) (by first | omega | (simp only [List.length_append, List.length_cons, List.length_nil, numOct_length]; omega))) (by kernel_rfl) rfl rfl rfl (by decide) ?_
        rintro _ w8 ⟨r8, rfl, m8, hw8⟩
        have zw8 := hw8.size
        have cl8 := cutK_length (cutK xs ys) ys
        refine lsw (want_t (dj := 58) (by rfl) (by kernel_rfl) rfl) (y_move rfl rfl) rfl (by decide) ?_
        have hj := hj.below (hw8.mono (by omega))
        refine lg_callw (want_t (dj := 58) (by rfl) (by kernel_rfl) rfl) (ints_S m8 hj (by omega) (by omega)) (by kernel_rfl) rfl rfl rfl (by decide) ?_
        rintro u9 w9 ⟨e9, hw9⟩
        have zw9 := hw9.size
        obtain rfl : u9 = .bool true := e9.trans (congrArg Value.bool (decide_eq_true (show (cutK (cutK xs ys) ys) = (cutK xs ys) from (cutK_again _ _))))
        refine lsw (want_none (by rfl)) (y_pick true rfl rfl rfl) rfl (by decide) ?_
        refine lsw (want_none (by rfl)) (y_move rfl rfl) rfl (by decide) ?_
        refine lsw (want_t (dj := 65) (by rfl) (by kernel_rfl) rfl) (y_move rfl rfl) rfl (by decide) ?_
        have h := h.below (hw8.mono (by omega))
        have h := h.below (hw9.mono (by omega))
        refine lg_callw (want_t (dj := 65) (by rfl) (by kernel_rfl) rfl) (cutP_any h (SlN.nil _ _) (by omega) (by omega) (by first | omega | (simp only [List.length_append, List.length_cons, List.length_nil, numOct_length]; omega)) (by first | omega | (simp only [List.length_nil]; omega))) (by kernel_rfl) rfl rfl rfl (by decide) ?_
        rintro _ w10 ⟨r10, rfl, m10, hw10⟩
        have zw10 := hw10.size
        have cl10 := cutK_length xs []
        refine lsw (want_t (dj := 65) (by rfl) (by kernel_rfl) rfl) (y_move rfl rfl) rfl (by decide) ?_
        have h := h.below (hw10.mono (by omega))
        refine lg_callw (want_t (dj := 65) (by rfl) (by kernel_rfl) rfl) (ints_S m10 h (by omega) (by omega)) (by kernel_rfl) rfl rfl rfl (by decide) ?_
        rintro u11 w11 ⟨e11, hw11⟩
        have zw11 := hw11.size
        obtain rfl : u11 = .bool true := e11.trans (congrArg Value.bool (decide_eq_true (show (cutK xs []) = xs from (cutK_nil _))))
        refine lsw (want_none (by rfl)) (y_pick true rfl rfl rfl) rfl (by decide) ?_
        refine lsw (want_none (by rfl)) (y_move rfl rfl) rfl (by decide) ?_
        refine lsw (want_t (dj := 71) (by rfl) (by kernel_rfl) rfl) (y_move rfl rfl) rfl (by decide) ?_
        refine lsw (want_t (dj := 71) (by rfl) (by kernel_rfl) rfl) (y_move rfl rfl) rfl (by decide) ?_
        have h := h.below (hw11.mono (by omega))
        refine lg_callw (want_t (dj := 71) (by rfl) (by kernel_rfl) rfl) (cutP_any h h (by omega) (by omega) (by first | omega | (simp only [List.length_append, List.length_cons, List.length_nil, numOct_length]; omega)) (by first | omega | (simp only [List.length_append, List.length_cons, List.length_nil, numOct_length]; omega))) (by kernel_rfl) rfl rfl rfl (by decide) ?_
        rintro _ w12 ⟨r12, rfl, m12, hw12⟩
        have zw12 := hw12.size
        have cl12 := cutK_length xs xs
        refine lsw (want_t (dj := 71) (by rfl) (by kernel_rfl) rfl) (y_lenM (el := 3) m12.len (by kernel_rfl) rfl rfl) rfl (by decide) ?_
        refine lsw (want_t (dj := 71) (by rfl) (by kernel_rfl) rfl) (yb (decide_eq_true (show ((cutK xs xs).length : Int) = 0 from (by rw [cutK_self]; rfl))) (yi_eql rfl rfl rfl)) rfl (by decide) ?_
        refine lsw (want_none (by rfl)) (y_pick true rfl rfl rfl) rfl (by decide) ?_
        refine lsw (want_none (by rfl)) (y_assign rfl rfl) rfl (by decide) ?_
        refine lg_nil ?_
        refine nx (E' := [(4, _)]) (fk rfl fn) ?_
        refine cg_ret ?_
        have u := u.trans (hw8.mono u.size)
        have u := u.trans (hw9.mono u.size)
        have u := u.trans (hw10.mono u.size)
        have u := u.trans (hw11.mono u.size)
        have u := u.trans (hw12.mono u.size)
        exact eg_ret_tmp rfl rfl ⟨_, rfl, rfl, u⟩
end Go.Proofs.Ytomjcbjekofkoaa
