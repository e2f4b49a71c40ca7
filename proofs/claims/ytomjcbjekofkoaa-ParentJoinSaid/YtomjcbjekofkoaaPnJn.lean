/-
  Joined numbers rise.
-/
import Derived.Test.YtomjcbjekofkoaaPnAwake
namespace Go.Proofs.Ytomjcbjekofkoaa
open Go.ChangeShapes Go.WideShapes Go.ChangeAt Go.RowKit
set_option linter.unusedVariables false

set_option maxHeartbeats 4000000 in
theorem parentJoin_any {W : World} {s : SlV} {xs : List Int} (h : SlN W W.heap.size s xs) (i k : Int) : Calls Try.prog 6 #[s.v, nv i, nv k] W fun e W' => ∃ v, e = .returned v ∧ v = .bool true ∧ Below W.heap.size W W' := by
  refine calls_cg (n := 121) Try.func6 rfl Try.ntmps6 (by simp) ?_
  show CG _ _ _ [(0, s.v), (1, nv i), (2, nv k)] _ _
  have u := Below.refl W.heap.size W
  refine cg_seq ?_
  refine cg_region ?_
  refine lsw (want_none (by rfl)) (y_assign rfl rfl) rfl (by decide) ?_
  refine lg_nil ?_
  refine nx (E' := [(0, _), (1, _), (2, _), (6, _)]) (fk rfl (fk rfl (fk rfl (fk rfl fn)))) ?_
  refine cg_seq ?_
  refine cg_region ?_
  refine lg_callw (want_none (by rfl)) (awakeP_any _) (by kernel_rfl) rfl rfl rfl (by decide) ?_
  rintro _ w1 ⟨rfl, hw1⟩
  have zw1 := hw1.size
  refine lsw (want_none (by rfl)) (y_assign rfl rfl) rfl (by decide) ?_
  refine lg_nil ?_
  refine nx (E' := [(0, _), (1, _), (2, _), (6, _), (7, _)]) (fk rfl (fk rfl (fk rfl (fk rfl (fk rfl fn))))) ?_
  refine cg_seq ?_
  refine cg_seq ?_
  refine cg_region ?_
  refine lsw (want_none (by rfl)) (y_move rfl rfl) rfl (by decide) ?_
  have h := h.below (hw1.mono (by omega))
  refine lsw (want_none (by rfl)) (y_lenM (el := 3) h.len (by kernel_rfl) rfl rfl) rfl (by decide) ?_
  by_cases c2 : 100 < (xs.length : Int)
  · refine lsw (want_none (by rfl)) (yb (decide_eq_true c2) (yi_gtr rfl rfl rfl)) rfl (by decide) ?_
    refine lg_nil ?_
    refine nx (E' := [(0, _), (1, _), (2, _), (6, _), (7, _), (15, _)]) (fk rfl (fk rfl (fk rfl (fk rfl (fk rfl (fk rfl fn)))))) ?_
    refine cg_ct rfl ?_
    refine cg_seq ?_
    refine cg_region ?_
    refine lsw (want_none (by rfl)) (y_move rfl rfl) rfl (by decide) ?_
    refine lsw (want_none (by rfl)) (y_assign rfl rfl) rfl (by decide) ?_
    refine lg_nil ?_
    refine nx (E' := [(0, _), (1, _), (2, _), (7, _), (6, _)]) (fk rfl (fk rfl (fk rfl (fk rfl (fk rfl fn))))) ?_
    refine cg_ret ?_
    refine eg_seq_ret ?_
    have u := u.trans (hw1.mono u.size)
    exact eg_ret_tmp rfl rfl ⟨_, rfl, rfl, u⟩
  · refine lsw (want_none (by rfl)) (yb (decide_eq_false c2) (yi_gtr rfl rfl rfl)) rfl (by decide) ?_
    refine lg_nil ?_
    refine nx (E' := [(0, _), (1, _), (2, _), (6, _), (7, _), (15, _)]) (fk rfl (fk rfl (fk rfl (fk rfl (fk rfl (fk rfl fn)))))) ?_
    refine cg_cf rfl ?_
    refine cg_skip ?_
    refine nx (E' := [(0, _), (1, _), (2, _), (6, _), (7, _)]) (fk rfl (fk rfl (fk rfl (fk rfl (fk rfl fn))))) ?_
    refine cg_seq ?_
    refine cg_region ?_
    refine lsw (want_none (by rfl)) (y_move rfl rfl) rfl (by decide) ?_
    refine lsw (want_none (by rfl)) (y_move rfl rfl) rfl (by decide) ?_
    refine lg_callw (want_none (by rfl)) (joinP_any i h (by omega) (by first | omega | (simp only [List.length_append, List.length_cons, List.length_nil, numOct_length]; omega))) (by kernel_rfl) rfl rfl rfl (by decide) ?_
    rintro _ w3 ⟨r3, rfl, m3, hw3⟩
    have zw3 := hw3.size
    have jl3 := joinK_length xs i
    refine lsw (want_none (by rfl)) (y_assign rfl rfl) rfl (by decide) ?_
    refine lg_nil ?_
    refine nx (E' := [(0, _), (1, _), (2, _), (6, _), (7, _), (8, _)]) (fk rfl (fk rfl (fk rfl (fk rfl (fk rfl (fk rfl fn)))))) ?_
    refine cg_seq ?_
    refine cg_seq ?_
    refine cg_region ?_
    refine lsw (want_none (by rfl)) (y_assign rfl rfl) rfl (by decide) ?_
    refine lg_nil ?_
    refine nx (E' := [(0, _), (1, _), (2, _), (6, _), (7, _), (8, _), (9, _)]) (fk rfl (fk rfl (fk rfl (fk rfl (fk rfl (fk rfl (fk rfl fn))))))) ?_
    refine cg_block ?_
    obtain ⟨C, hC⟩ : ∃ q, q = w3.heap.size := ⟨_, rfl⟩
    have hj := m3
    rw [← hC] at hj
    have le_h := h.len; have ca_h := h.cap
    have le_j := hj.len; have ca_j := hj.cap
    have h := h.below (hw3.mono (by omega))
    have u := u.trans (hw1.mono u.size)
    have u := u.trans (hw3.mono u.size)
    refine cg_loopE (fun t a v => Holds 121 [(0, s.v), (1, nv i), (2, nv k), (7, .bool true), (8, r3.v), (9, nv ((t : Nat) : Int))] a ∧ SlN v W.heap.size s xs ∧ SlN v C r3 (joinK xs i) ∧ Below W.heap.size W v ∧ C ≤ v.heap.size ∧ (t ≤ (joinK xs i).length)) (joinK xs i).length (fun a ha => ⟨ha.keep (fk rfl (fk rfl (fk rfl (fk rfl (fk rfl (fk rfl fn)))))), h, hj, u, (by omega), (Nat.zero_le _)⟩) ?_
    rintro t a v ht ⟨ha, h, hj, u, cC, tle⟩
    refine cg_at ha ?_
    clear ha a
    have zv := u.size
    refine cg_seq ?_
    refine cg_seq ?_
    refine cg_region ?_
    refine lsw (want_none (by rfl)) (y_move rfl rfl) rfl (by decide) ?_
    refine lsw (want_none (by rfl)) (y_move rfl rfl) rfl (by decide) ?_
    refine lsw (want_none (by rfl)) (y_lenM (el := 3) hj.len (by kernel_rfl) rfl rfl) rfl (by decide) ?_
    by_cases c4 : ((t : Nat) : Int) < ((joinK xs i).length : Int)
    · refine lsw (want_none (by rfl)) (yb (decide_eq_true c4) (yi_lss rfl rfl rfl)) rfl (by decide) ?_
      refine lg_nil ?_
      refine nx (E' := [(0, _), (1, _), (2, _), (7, _), (8, _), (9, _), (20, _), (21, _), (22, _), (23, _)]) (fk rfl (fk rfl (fk rfl (fk rfl (fk rfl (fk rfl (fk rfl (fk rfl (fk rfl (fk rfl fn)))))))))) ?_
      refine cg_ct rfl ?_
      refine cg_skip ?_
      refine nx (E' := [(0, _), (1, _), (2, _), (7, _), (8, _), (9, _), (20, _), (21, _), (22, _), (23, _)]) (fk rfl (fk rfl (fk rfl (fk rfl (fk rfl (fk rfl (fk rfl (fk rfl (fk rfl (fk rfl fn)))))))))) ?_
      refine cg_seq ?_
      refine cg_block ?_
      refine cg_seq ?_
      refine cg_still (by kernel_rfl) (by kernel_rfl) fun W5 eW5 => ?_
      have dW5 := below_drew _ _ eW5
      have zW5 := size_drew _ _ eW5
      clear eW5
      refine stw (want_none (by rfl)) (y_move rfl rfl) rfl (by decide) ?_
      by_cases c6 : 0 < ((t : Nat) : Int)
      · refine stw (want_none (by rfl)) (yb (decide_eq_true c6) (yi_gtr rfl rfl rfl)) rfl (by decide) ?_
        refine stw (want_none (by rfl)) (y_move rfl rfl) rfl (by decide) ?_
        refine stw (want_t (dj := 28) (by rfl) (by kernel_rfl) rfl) (y_move rfl rfl) rfl (by decide) ?_
        refine stw (want_t (dj := 28) (by rfl) (by kernel_rfl) rfl) (y_move rfl rfl) rfl (by decide) ?_
        refine stw (want_t (dj := 28) (by rfl) (by kernel_rfl) rfl) (yv (congrArg nv (show ((t : Nat) : Int) - 1 = ((t - 1 : Nat) : Int) by omega)) (yi_sub rfl rfl rfl (by omega) (by omega))) rfl (by decide) ?_
        have hj := hj.below (dW5.mono (by omega))
        refine stw (want_t (dj := 28) (by rfl) (by kernel_rfl) rfl) (y_ixT (i := (t - 1)) (iI := ((t - 1 : Nat) : Int)) hj (by omega) (by first | omega | (simp only [List.length_append, List.length_cons, List.length_nil]; omega)) rfl rfl rfl) rfl (by decide) ?_
        refine stw (want_t (dj := 28) (by rfl) (by kernel_rfl) rfl) (y_ldT (i := (t - 1)) hj (by first | omega | (simp only [List.length_append, List.length_cons, List.length_nil]; omega)) rfl rfl) rfl (by decide) ?_
        refine stw (want_t (dj := 28) (by rfl) (by kernel_rfl) rfl) (y_move rfl rfl) rfl (by decide) ?_
        refine stw (want_t (dj := 28) (by rfl) (by kernel_rfl) rfl) (y_move rfl rfl) rfl (by decide) ?_
        refine stw (want_t (dj := 28) (by rfl) (by kernel_rfl) rfl) (y_ixT (i := t) (iI := ((t : Nat) : Int)) hj (by omega) (by first | omega | (simp only [List.length_append, List.length_cons, List.length_nil]; omega)) rfl rfl rfl) rfl (by decide) ?_
        refine stw (want_t (dj := 28) (by rfl) (by kernel_rfl) rfl) (y_ldT (i := t) hj (by first | omega | (simp only [List.length_append, List.length_cons, List.length_nil]; omega)) rfl rfl) rfl (by decide) ?_
        refine stw (want_t (dj := 28) (by rfl) (by kernel_rfl) rfl) (yb (decide_eq_false (show ¬ (((joinK xs i).getD t 0) ≤ ((joinK xs i).getD (t - 1) 0)) from (Int.not_le.2 (rising_at (joinK_rising _ _) (by omega) (by omega))))) (yi_geq rfl rfl rfl)) rfl (by decide) ?_
        refine stw (want_none (by rfl)) (y_pick true rfl rfl rfl) rfl (by decide) ?_
        refine stw (want_none (by rfl)) (y_move rfl rfl) rfl (by decide) ?_
        refine stw (want_t (dj := 40) (by rfl) (by kernel_rfl) rfl) (y_move rfl rfl) rfl (by decide) ?_
        refine stw (want_t (dj := 40) (by rfl) (by kernel_rfl) rfl) (y_move rfl rfl) rfl (by decide) ?_
        refine stw (want_t (dj := 40) (by rfl) (by kernel_rfl) rfl) (y_ixT (i := t) (iI := ((t : Nat) : Int)) hj (by omega) (by first | omega | (simp only [List.length_append, List.length_cons, List.length_nil]; omega)) rfl rfl rfl) rfl (by decide) ?_
        refine stw (want_t (dj := 40) (by rfl) (by kernel_rfl) rfl) (y_ldT (i := t) hj (by first | omega | (simp only [List.length_append, List.length_cons, List.length_nil]; omega)) rfl rfl) rfl (by decide) ?_
        refine stw (want_t (dj := 40) (by rfl) (by kernel_rfl) rfl) (y_move rfl rfl) rfl (by decide) ?_
        by_cases c7 : ((joinK xs i).getD t 0) = i
        · refine stw (want_t (dj := 40) (by rfl) (by kernel_rfl) rfl) (yb (nd_f c7) (yi_neq rfl rfl rfl)) rfl (by decide) ?_
          refine stw (want_t (dj := 40) (by rfl) (by kernel_rfl) rfl) (y_move rfl rfl) rfl (by decide) ?_
          refine stk (want_f (dj := 47) (by rfl) (by kernel_rfl) rfl) rfl (by decide) ?_
          refine stk (want_f (dj := 47) (by rfl) (by kernel_rfl) rfl) rfl (by decide) ?_
          refine stk (want_f (dj := 47) (by rfl) (by kernel_rfl) rfl) rfl (by decide) ?_
          refine stk (want_f (dj := 47) (by rfl) (by kernel_rfl) rfl) rfl (by decide) ?_
          refine stk (want_f (dj := 47) (by rfl) (by kernel_rfl) rfl) rfl (by decide) ?_
          refine stk (want_f (dj := 47) (by rfl) (by kernel_rfl) rfl) rfl (by decide) ?_
          refine stk (want_f (dj := 47) (by rfl) (by kernel_rfl) rfl) rfl (by decide) ?_
          refine stw (want_t (dj := 40) (by rfl) (by kernel_rfl) rfl) (y_pick false rfl rfl rfl) rfl (by decide) ?_
          refine stw (want_none (by rfl)) (y_pick false rfl rfl rfl) rfl (by decide) ?_
          refine sg_nil ?_
          refine nx (E' := [(0, _), (1, _), (2, _), (7, _), (8, _), (9, _), (20, _), (21, _), (22, _), (23, _), (26, _), (27, _), (28, _), (29, _), (30, _), (31, _), (32, _), (33, _), (34, _), (35, _), (36, _), (37, _), (38, _), (39, _), (40, _), (41, _), (42, _), (43, _), (44, _), (45, _), (46, _), (47, _), (55, _), (56, _)]) (fk rfl (fk rfl (fk rfl (fk rfl (fk rfl (fk rfl (fk rfl (fk rfl (fk rfl (fk rfl (fk rfl (fk rfl (fk rfl (fk rfl (fk rfl (fk rfl (fk rfl (fk rfl (fk rfl (fk rfl (fk rfl (fk rfl (fk rfl (fk rfl (fk rfl (fk rfl (fk rfl (fk rfl (fk rfl (fk rfl (fk rfl (fk rfl (fk rfl (fk rfl fn)))))))))))))))))))))))))))))))))) ?_
          refine cg_cf rfl ?_
          refine cg_skip ?_
          refine eg_block_norm ?_
          refine nx (E' := [(0, _), (1, _), (2, _), (7, _), (8, _), (9, _), (20, _), (21, _), (22, _), (23, _), (26, _), (27, _), (28, _), (29, _), (30, _), (31, _), (32, _), (33, _), (34, _), (35, _), (36, _), (37, _), (38, _), (39, _), (40, _), (41, _), (42, _), (43, _), (44, _), (45, _), (46, _), (47, _), (55, _), (56, _)]) (fk rfl (fk rfl (fk rfl (fk rfl (fk rfl (fk rfl (fk rfl (fk rfl (fk rfl (fk rfl (fk rfl (fk rfl (fk rfl (fk rfl (fk rfl (fk rfl (fk rfl (fk rfl (fk rfl (fk rfl (fk rfl (fk rfl (fk rfl (fk rfl (fk rfl (fk rfl (fk rfl (fk rfl (fk rfl (fk rfl (fk rfl (fk rfl (fk rfl (fk rfl fn)))))))))))))))))))))))))))))))))) ?_
          refine cg_region ?_
          refine lsw (want_none (by rfl)) (y_move rfl rfl) rfl (by decide) ?_
          refine lsw (want_none (by rfl)) (yv (congrArg nv (show ((t : Nat) : Int) + 1 = ((t + 1 : Nat) : Int) by omega)) (yi_add rfl rfl rfl (by omega) (by omega))) rfl (by decide) ?_
          refine lsw (want_none (by rfl)) (y_assign rfl rfl) rfl (by decide) ?_
          refine lg_nil ?_
          have h := h.below (dW5.mono (by omega))
          have u := u.trans (dW5.mono u.size)
          exact fun a ha => (show t < (joinK xs i).length ∧ _ from ⟨(by omega), ha.keep (fk rfl (fk rfl (fk rfl (fk rfl (fk rfl (fk rfl fn)))))), h, hj, u, (by omega), (by omega)⟩)
        · refine stw (want_t (dj := 40) (by rfl) (by kernel_rfl) rfl) (yb (nd_t c7) (yi_neq rfl rfl rfl)) rfl (by decide) ?_
          refine stw (want_t (dj := 40) (by rfl) (by kernel_rfl) rfl) (y_move rfl rfl) rfl (by decide) ?_
          refine stw (want_t (dj := 47) (by rfl) (by kernel_rfl) rfl) (y_move rfl rfl) rfl (by decide) ?_
          refine stw (want_t (dj := 47) (by rfl) (by kernel_rfl) rfl) (y_move rfl rfl) rfl (by decide) ?_
          refine stw (want_t (dj := 47) (by rfl) (by kernel_rfl) rfl) (y_move rfl rfl) rfl (by decide) ?_
          refine stw (want_t (dj := 47) (by rfl) (by kernel_rfl) rfl) (y_ixT (i := t) (iI := ((t : Nat) : Int)) hj (by omega) (by first | omega | (simp only [List.length_append, List.length_cons, List.length_nil]; omega)) rfl rfl rfl) rfl (by decide) ?_
          refine stw (want_t (dj := 47) (by rfl) (by kernel_rfl) rfl) (y_ldT (i := t) hj (by first | omega | (simp only [List.length_append, List.length_cons, List.length_nil]; omega)) rfl rfl) rfl (by decide) ?_
          have h := h.below (dW5.mono (by omega))
          refine stw (want_t (dj := 47) (by rfl) (by kernel_rfl) rfl) (yb (decide_eq_true (show ((joinK xs i).getD t 0) ∈ xs from ((joinK_mem.1 (getD_mem (by omega))).resolve_right c7))) (y_call (has_any h ((joinK xs i).getD t 0)) (by kernel_rfl) rfl rfl)) rfl (by decide) ?_
          refine stw (want_t (dj := 47) (by rfl) (by kernel_rfl) rfl) (y_bnot rfl rfl) rfl (by decide) ?_
          refine stw (want_t (dj := 40) (by rfl) (by kernel_rfl) rfl) (y_pick true rfl rfl rfl) rfl (by decide) ?_
          refine stw (want_none (by rfl)) (y_pick false rfl rfl rfl) rfl (by decide) ?_
          refine sg_nil ?_
          refine nx (E' := [(0, _), (1, _), (2, _), (7, _), (8, _), (9, _), (20, _), (21, _), (22, _), (23, _), (26, _), (27, _), (28, _), (29, _), (30, _), (31, _), (32, _), (33, _), (34, _), (35, _), (36, _), (37, _), (38, _), (39, _), (40, _), (41, _), (42, _), (43, _), (44, _), (45, _), (46, _), (47, _), (48, _), (49, _), (50, _), (51, _), (52, _), (53, _), (54, _), (55, _), (56, _)]) (fk rfl (fk rfl (fk rfl (fk rfl (fk rfl (fk rfl (fk rfl (fk rfl (fk rfl (fk rfl (fk rfl (fk rfl (fk rfl (fk rfl (fk rfl (fk rfl (fk rfl (fk rfl (fk rfl (fk rfl (fk rfl (fk rfl (fk rfl (fk rfl (fk rfl (fk rfl (fk rfl (fk rfl (fk rfl (fk rfl (fk rfl (fk rfl (fk rfl (fk rfl (fk rfl (fk rfl (fk rfl (fk rfl (fk rfl (fk rfl (fk rfl fn))))))))))))))))))))))))))))))))))))))))) ?_
          refine cg_cf rfl ?_
          refine cg_skip ?_
          refine eg_block_norm ?_
          refine nx (E' := [(0, _), (1, _), (2, _), (7, _), (8, _), (9, _), (20, _), (21, _), (22, _), (23, _), (26, _), (27, _), (28, _), (29, _), (30, _), (31, _), (32, _), (33, _), (34, _), (35, _), (36, _), (37, _), (38, _), (39, _), (40, _), (41, _), (42, _), (43, _), (44, _), (45, _), (46, _), (47, _), (48, _), (49, _), (50, _), (51, _), (52, _), (53, _), (54, _), (55, _), (56, _)]) (fk rfl (fk rfl (fk rfl (fk rfl (fk rfl (fk rfl (fk rfl (fk rfl (fk rfl (fk rfl (fk rfl (fk rfl (fk rfl (fk rfl (fk rfl (fk rfl (fk rfl (fk rfl (fk rfl (fk rfl (fk rfl (fk rfl (fk rfl (fk rfl (fk rfl (fk rfl (fk rfl (fk rfl (fk rfl (fk rfl (fk rfl (fk rfl (fk rfl (fk rfl (fk rfl (fk rfl (fk rfl (fk rfl (fk rfl (fk rfl (fk rfl fn))))))))))))))))))))))))))))))))))))))))) ?_
          refine cg_region ?_
          refine lsw (want_none (by rfl)) (y_move rfl rfl) rfl (by decide) ?_
          refine lsw (want_none (by rfl)) (yv (congrArg nv (show ((t : Nat) : Int) + 1 = ((t + 1 : Nat) : Int) by omega)) (yi_add rfl rfl rfl (by omega) (by omega))) rfl (by decide) ?_
          refine lsw (want_none (by rfl)) (y_assign rfl rfl) rfl (by decide) ?_
          refine lg_nil ?_
          have u := u.trans (dW5.mono u.size)
          exact fun a ha => (show t < (joinK xs i).length ∧ _ from ⟨(by omega), ha.keep (fk rfl (fk rfl (fk rfl (fk rfl (fk rfl (fk rfl fn)))))), h, hj, u, (by omega), (by omega)⟩)
      · refine stw (want_none (by rfl)) (yb (decide_eq_false c6) (yi_gtr rfl rfl rfl)) rfl (by decide) ?_
        refine stw (want_none (by rfl)) (y_move rfl rfl) rfl (by decide) ?_
        refine stk (want_f (dj := 28) (by rfl) (by kernel_rfl) rfl) rfl (by decide) ?_
        refine stk (want_f (dj := 28) (by rfl) (by kernel_rfl) rfl) rfl (by decide) ?_
        refine stk (want_f (dj := 28) (by rfl) (by kernel_rfl) rfl) rfl (by decide) ?_
        refine stk (want_f (dj := 28) (by rfl) (by kernel_rfl) rfl) rfl (by decide) ?_
        refine stk (want_f (dj := 28) (by rfl) (by kernel_rfl) rfl) rfl (by decide) ?_
        refine stk (want_f (dj := 28) (by rfl) (by kernel_rfl) rfl) rfl (by decide) ?_
        refine stk (want_f (dj := 28) (by rfl) (by kernel_rfl) rfl) rfl (by decide) ?_
        refine stk (want_f (dj := 28) (by rfl) (by kernel_rfl) rfl) rfl (by decide) ?_
        refine stk (want_f (dj := 28) (by rfl) (by kernel_rfl) rfl) rfl (by decide) ?_
        refine stk (want_f (dj := 28) (by rfl) (by kernel_rfl) rfl) rfl (by decide) ?_
        refine stw (want_none (by rfl)) (y_pick false rfl rfl rfl) rfl (by decide) ?_
        refine stw (want_none (by rfl)) (y_move rfl rfl) rfl (by decide) ?_
        refine stw (want_t (dj := 40) (by rfl) (by kernel_rfl) rfl) (y_move rfl rfl) rfl (by decide) ?_
        refine stw (want_t (dj := 40) (by rfl) (by kernel_rfl) rfl) (y_move rfl rfl) rfl (by decide) ?_
        have hj := hj.below (dW5.mono (by omega))
        refine stw (want_t (dj := 40) (by rfl) (by kernel_rfl) rfl) (y_ixT (i := t) (iI := ((t : Nat) : Int)) hj (by omega) (by first | omega | (simp only [List.length_append, List.length_cons, List.length_nil]; omega)) rfl rfl rfl) rfl (by decide) ?_
        refine stw (want_t (dj := 40) (by rfl) (by kernel_rfl) rfl) (y_ldT (i := t) hj (by first | omega | (simp only [List.length_append, List.length_cons, List.length_nil]; omega)) rfl rfl) rfl (by decide) ?_
        refine stw (want_t (dj := 40) (by rfl) (by kernel_rfl) rfl) (y_move rfl rfl) rfl (by decide) ?_
        by_cases c8 : ((joinK xs i).getD t 0) = i
        · refine stw (want_t (dj := 40) (by rfl) (by kernel_rfl) rfl) (yb (nd_f c8) (yi_neq rfl rfl rfl)) rfl (by decide) ?_
          refine stw (want_t (dj := 40) (by rfl) (by kernel_rfl) rfl) (y_move rfl rfl) rfl (by decide) ?_
          refine stk (want_f (dj := 47) (by rfl) (by kernel_rfl) rfl) rfl (by decide) ?_
          refine stk (want_f (dj := 47) (by rfl) (by kernel_rfl) rfl) rfl (by decide) ?_
          refine stk (want_f (dj := 47) (by rfl) (by kernel_rfl) rfl) rfl (by decide) ?_
          refine stk (want_f (dj := 47) (by rfl) (by kernel_rfl) rfl) rfl (by decide) ?_
          refine stk (want_f (dj := 47) (by rfl) (by kernel_rfl) rfl) rfl (by decide) ?_
          refine stk (want_f (dj := 47) (by rfl) (by kernel_rfl) rfl) rfl (by decide) ?_
          refine stk (want_f (dj := 47) (by rfl) (by kernel_rfl) rfl) rfl (by decide) ?_
          refine stw (want_t (dj := 40) (by rfl) (by kernel_rfl) rfl) (y_pick false rfl rfl rfl) rfl (by decide) ?_
          refine stw (want_none (by rfl)) (y_pick false rfl rfl rfl) rfl (by decide) ?_
          refine sg_nil ?_
          refine nx (E' := [(0, _), (1, _), (2, _), (7, _), (8, _), (9, _), (20, _), (21, _), (22, _), (23, _), (26, _), (27, _), (28, _), (39, _), (40, _), (41, _), (42, _), (43, _), (44, _), (45, _), (46, _), (47, _), (55, _), (56, _)]) (fk rfl (fk rfl (fk rfl (fk rfl (fk rfl (fk rfl (fk rfl (fk rfl (fk rfl (fk rfl (fk rfl (fk rfl (fk rfl (fk rfl (fk rfl (fk rfl (fk rfl (fk rfl (fk rfl (fk rfl (fk rfl (fk rfl (fk rfl (fk rfl fn)))))))))))))))))))))))) ?_
          refine cg_cf rfl ?_
          refine cg_skip ?_
          refine eg_block_norm ?_
          refine nx (E' := [(0, _), (1, _), (2, _), (7, _), (8, _), (9, _), (20, _), (21, _), (22, _), (23, _), (26, _), (27, _), (28, _), (39, _), (40, _), (41, _), (42, _), (43, _), (44, _), (45, _), (46, _), (47, _), (55, _), (56, _)]) (fk rfl (fk rfl (fk rfl (fk rfl (fk rfl (fk rfl (fk rfl (fk rfl (fk rfl (fk rfl (fk rfl (fk rfl (fk rfl (fk rfl (fk rfl (fk rfl (fk rfl (fk rfl (fk rfl (fk rfl (fk rfl (fk rfl (fk rfl (fk rfl fn)))))))))))))))))))))))) ?_
          refine cg_region ?_
          refine lsw (want_none (by rfl)) (y_move rfl rfl) rfl (by decide) ?_
          refine lsw (want_none (by rfl)) (yv (congrArg nv (show ((t : Nat) : Int) + 1 = ((t + 1 : Nat) : Int) by omega)) (yi_add rfl rfl rfl (by omega) (by omega))) rfl (by decide) ?_
          refine lsw (want_none (by rfl)) (y_assign rfl rfl) rfl (by decide) ?_
          refine lg_nil ?_
          have h := h.below (dW5.mono (by omega))
          have u := u.trans (dW5.mono u.size)
          exact fun a ha => (show t < (joinK xs i).length ∧ _ from ⟨(by omega), ha.keep (fk rfl (fk rfl (fk rfl (fk rfl (fk rfl (fk rfl fn)))))), h, hj, u, (by omega), (by omega)⟩)
        · refine stw (want_t (dj := 40) (by rfl) (by kernel_rfl) rfl) (yb (nd_t c8) (yi_neq rfl rfl rfl)) rfl (by decide) ?_
          refine stw (want_t (dj := 40) (by rfl) (by kernel_rfl) rfl) (y_move rfl rfl) rfl (by decide) ?_
          refine stw (want_t (dj := 47) (by rfl) (by kernel_rfl) rfl) (y_move rfl rfl) rfl (by decide) ?_
          refine stw (want_t (dj := 47) (by rfl) (by kernel_rfl) rfl) (y_move rfl rfl) rfl (by decide) ?_
          refine stw (want_t (dj := 47) (by rfl) (by kernel_rfl) rfl) (y_move rfl rfl) rfl (by decide) ?_
          refine stw (want_t (dj := 47) (by rfl) (by kernel_rfl) rfl) (y_ixT (i := t) (iI := ((t : Nat) : Int)) hj (by omega) (by first | omega | (simp only [List.length_append, List.length_cons, List.length_nil]; omega)) rfl rfl rfl) rfl (by decide) ?_
          refine stw (want_t (dj := 47) (by rfl) (by kernel_rfl) rfl) (y_ldT (i := t) hj (by first | omega | (simp only [List.length_append, List.length_cons, List.length_nil]; omega)) rfl rfl) rfl (by decide) ?_
          have h := h.below (dW5.mono (by omega))
          refine stw (want_t (dj := 47) (by rfl) (by kernel_rfl) rfl) (yb (decide_eq_true (show ((joinK xs i).getD t 0) ∈ xs from ((joinK_mem.1 (getD_mem (by omega))).resolve_right c8))) (y_call (has_any h ((joinK xs i).getD t 0)) (by kernel_rfl) rfl rfl)) rfl (by decide) ?_
          refine stw (want_t (dj := 47) (by rfl) (by kernel_rfl) rfl) (y_bnot rfl rfl) rfl (by decide) ?_
          refine stw (want_t (dj := 40) (by rfl) (by kernel_rfl) rfl) (y_pick true rfl rfl rfl) rfl (by decide) ?_
          refine stw (want_none (by rfl)) (y_pick false rfl rfl rfl) rfl (by decide) ?_
          refine sg_nil ?_
          refine nx (E' := [(0, _), (1, _), (2, _), (7, _), (8, _), (9, _), (20, _), (21, _), (22, _), (23, _), (26, _), (27, _), (28, _), (39, _), (40, _), (41, _), (42, _), (43, _), (44, _), (45, _), (46, _), (47, _), (48, _), (49, _), (50, _), (51, _), (52, _), (53, _), (54, _), (55, _), (56, _)]) (fk rfl (fk rfl (fk rfl (fk rfl (fk rfl (fk rfl (fk rfl (fk rfl (fk rfl (fk rfl (fk rfl (fk rfl (fk rfl (fk rfl (fk rfl (fk rfl (fk rfl (fk rfl (fk rfl (fk rfl (fk rfl (fk rfl (fk rfl (fk rfl (fk rfl (fk rfl (fk rfl (fk rfl (fk rfl (fk rfl (fk rfl fn))))))))))))))))))))))))))))))) ?_
          refine cg_cf rfl ?_
          refine cg_skip ?_
          refine eg_block_norm ?_
          refine nx (E' := [(0, _), (1, _), (2, _), (7, _), (8, _), (9, _), (20, _), (21, _), (22, _), (23, _), (26, _), (27, _), (28, _), (39, _), (40, _), (41, _), (42, _), (43, _), (44, _), (45, _), (46, _), (47, _), (48, _), (49, _), (50, _), (51, _), (52, _), (53, _), (54, _), (55, _), (56, _)]) (fk rfl (fk rfl (fk rfl (fk rfl (fk rfl (fk rfl (fk rfl (fk rfl (fk rfl (fk rfl (fk rfl (fk rfl (fk rfl (fk rfl (fk rfl (fk rfl (fk rfl (fk rfl (fk rfl (fk rfl (fk rfl (fk rfl (fk rfl (fk rfl (fk rfl (fk rfl (fk rfl (fk rfl (fk rfl (fk rfl (fk rfl fn))))))))))))))))))))))))))))))) ?_
          refine cg_region ?_
          refine lsw (want_none (by rfl)) (y_move rfl rfl) rfl (by decide) ?_
          refine lsw (want_none (by rfl)) (yv (congrArg nv (show ((t : Nat) : Int) + 1 = ((t + 1 : Nat) : Int) by omega)) (yi_add rfl rfl rfl (by omega) (by omega))) rfl (by decide) ?_
          refine lsw (want_none (by rfl)) (y_assign rfl rfl) rfl (by decide) ?_
          refine lg_nil ?_
          have u := u.trans (dW5.mono u.size)
          exact fun a ha => (show t < (joinK xs i).length ∧ _ from ⟨(by omega), ha.keep (fk rfl (fk rfl (fk rfl (fk rfl (fk rfl (fk rfl fn)))))), h, hj, u, (by omega), (by omega)⟩)
    · refine lsw (want_none (by rfl)) (yb (decide_eq_false c4) (yi_lss rfl rfl rfl)) rfl (by decide) ?_
      refine lg_nil ?_
      refine nx (E' := [(0, _), (1, _), (2, _), (7, _), (8, _), (9, _), (20, _), (21, _), (22, _), (23, _)]) (fk rfl (fk rfl (fk rfl (fk rfl (fk rfl (fk rfl (fk rfl (fk rfl (fk rfl (fk rfl fn)))))))))) ?_
      refine cg_cf rfl ?_
      refine cg_exit ?_
      refine eg_seq_exit ?_
      refine eg_seq_exit ?_
      refine eg_block_exit ?_
      refine nx (E' := [(0, _), (1, _), (2, _), (7, _), (8, _)]) (fk rfl (fk rfl (fk rfl (fk rfl (fk rfl fn))))) ?_
      refine cg_seq ?_
      refine cg_seq ?_
      refine cg_region ?_
      refine lsw (want_none (by rfl)) (y_assign rfl rfl) rfl (by decide) ?_
      refine lg_nil ?_
      refine nx (E' := [(0, _), (1, _), (2, _), (7, _), (8, _), (10, _)]) (fk rfl (fk rfl (fk rfl (fk rfl (fk rfl (fk rfl fn)))))) ?_
      refine cg_block ?_
      refine cg_loopE (fun t a v => Holds 121 [(0, s.v), (1, nv i), (2, nv k), (7, .bool true), (8, r3.v), (10, nv ((t : Nat) : Int))] a ∧ SlN v W.heap.size s xs ∧ SlN v C r3 (joinK xs i) ∧ Below W.heap.size W v ∧ C ≤ v.heap.size ∧ (t ≤ xs.length)) xs.length (fun a ha => ⟨ha.keep (fk rfl (fk rfl (fk rfl (fk rfl (fk rfl (fk rfl fn)))))), h, hj, u, (by omega), (Nat.zero_le _)⟩) ?_
      rintro t a v ht ⟨ha, h, hj, u, cC, tle⟩
      refine cg_at ha ?_
      clear ha a
      have zv := u.size
      refine cg_seq ?_
      refine cg_seq ?_
      refine cg_region ?_
      refine lsw (want_none (by rfl)) (y_move rfl rfl) rfl (by decide) ?_
      refine lsw (want_none (by rfl)) (y_move rfl rfl) rfl (by decide) ?_
      refine lsw (want_none (by rfl)) (y_lenM (el := 3) h.len (by kernel_rfl) rfl rfl) rfl (by decide) ?_
      by_cases c9 : ((t : Nat) : Int) < (xs.length : Int)
      · refine lsw (want_none (by rfl)) (yb (decide_eq_true c9) (yi_lss rfl rfl rfl)) rfl (by decide) ?_
        refine lg_nil ?_
        refine nx (E' := [(0, _), (1, _), (2, _), (7, _), (8, _), (10, _), (57, _), (58, _), (59, _), (60, _)]) (fk rfl (fk rfl (fk rfl (fk rfl (fk rfl (fk rfl (fk rfl (fk rfl (fk rfl (fk rfl fn)))))))))) ?_
        refine cg_ct rfl ?_
        refine cg_skip ?_
        refine nx (E' := [(0, _), (1, _), (2, _), (7, _), (8, _), (10, _), (57, _), (58, _), (59, _), (60, _)]) (fk rfl (fk rfl (fk rfl (fk rfl (fk rfl (fk rfl (fk rfl (fk rfl (fk rfl (fk rfl fn)))))))))) ?_
        refine cg_seq ?_
        refine cg_block ?_
        refine cg_seq ?_
        refine cg_region ?_
        refine lsw (want_none (by rfl)) (y_move rfl rfl) rfl (by decide) ?_
        refine lsw (want_none (by rfl)) (y_move rfl rfl) rfl (by decide) ?_
        refine lsw (want_none (by rfl)) (y_move rfl rfl) rfl (by decide) ?_
        refine lsw (want_none (by rfl)) (y_ixT (i := t) (iI := ((t : Nat) : Int)) h (by omega) (by omega) rfl rfl rfl) rfl (by decide) ?_
        refine lsw (want_none (by rfl)) (y_ldT (i := t) h (by omega) rfl rfl) rfl (by decide) ?_
        refine lsw (want_none (by rfl)) (yb (decide_eq_true (show (xs.getD t 0) ∈ (joinK xs i) from (joinK_mem.2 (.inl (getD_mem (by omega)))))) (y_call (has_any hj (xs.getD t 0)) (by kernel_rfl) rfl rfl)) rfl (by decide) ?_
        refine lsw (want_none (by rfl)) (y_bnot rfl rfl) rfl (by decide) ?_
        refine lg_nil ?_
        refine nx (E' := [(0, _), (1, _), (2, _), (7, _), (8, _), (10, _), (57, _), (58, _), (59, _), (60, _), (63, _), (64, _), (65, _), (66, _), (67, _), (68, _), (69, _)]) (fk rfl (fk rfl (fk rfl (fk rfl (fk rfl (fk rfl (fk rfl (fk rfl (fk rfl (fk rfl (fk rfl (fk rfl (fk rfl (fk rfl (fk rfl (fk rfl (fk rfl fn))))))))))))))))) ?_
        refine cg_cf rfl ?_
        refine cg_skip ?_
        refine eg_block_norm ?_
        refine nx (E' := [(0, _), (1, _), (2, _), (7, _), (8, _), (10, _), (57, _), (58, _), (59, _), (60, _), (63, _), (64, _), (65, _), (66, _), (67, _), (68, _), (69, _)]) (fk rfl (fk rfl (fk rfl (fk rfl (fk rfl (fk rfl (fk rfl (fk rfl (fk rfl (fk rfl (fk rfl (fk rfl (fk rfl (fk rfl (fk rfl (fk rfl (fk rfl fn))))))))))))))))) ?_
        refine cg_region ?_
        refine lsw (want_none (by rfl)) (y_move rfl rfl) rfl (by decide) ?_
        refine lsw (want_none (by rfl)) (yv (congrArg nv (show ((t : Nat) : Int) + 1 = ((t + 1 : Nat) : Int) by omega)) (yi_add rfl rfl rfl (by omega) (by omega))) rfl (by decide) ?_
        refine lsw (want_none (by rfl)) (y_assign rfl rfl) rfl (by decide) ?_
        refine lg_nil ?_
        exact fun a ha => (show t < xs.length ∧ _ from ⟨(by omega), ha.keep (fk rfl (fk rfl (fk rfl (fk rfl (fk rfl (fk rfl fn)))))), h, hj, u, (by omega), (by omega)⟩)
      · refine lsw (want_none (by rfl)) (yb (decide_eq_false c9) (yi_lss rfl rfl rfl)) rfl (by decide) ?_
        refine lg_nil ?_
        refine nx (E' := [(0, _), (1, _), (2, _), (7, _), (8, _), (10, _), (57, _), (58, _), (59, _), (60, _)]) (fk rfl (fk rfl (fk rfl (fk rfl (fk rfl (fk rfl (fk rfl (fk rfl (fk rfl (fk rfl fn)))))))))) ?_
        refine cg_cf rfl ?_
        refine cg_exit ?_
        refine eg_seq_exit ?_
        refine eg_seq_exit ?_
        refine eg_block_exit ?_
        refine nx (E' := [(0, _), (1, _), (2, _), (7, _), (8, _)]) (fk rfl (fk rfl (fk rfl (fk rfl (fk rfl fn))))) ?_
        refine cg_seq ?_
        refine cg_region ?_
        refine lsw (want_none (by rfl)) (y_move rfl rfl) rfl (by decide) ?_
        refine lsw (want_none (by rfl)) (y_move rfl rfl) rfl (by decide) ?_
        refine lg_bsliceW (el := 3) (z := nv 0) (cs := #[nv i]) (want_none (by rfl)) huIs (by kernel_rfl) (by decide) (by decide) rfl rfl (by kernel_rfl) rfl (by decide) fun b10 w10 n10 => ?_
        have r10 := n10.row
        have k10 := n10.blk
        have z10 := n10.size
        have m10 : SlN w10 (b10 + 1) ⟨some ⟨b10, 0, none⟩, 1, 1⟩ [i] := new_SlN (xs := [i]) r10 rfl (of_decide_eq_true (by kernel_rfl))
        have og10 : w10.ownsRow b10 3 1 (.slice (some ⟨b10, 0, none⟩) 1 1) ([i] : List Int).length (([i] : List Int).map (Value.int .i64)) := new_ownN (xs := [i]) n10 rfl (of_decide_eq_true (by kernel_rfl))
        have hj := hj.below (n10.below.mono (by omega))
        refine lg_callw (want_none (by rfl)) (cutP_any hj m10 (by omega) (by omega) (by first | omega | (simp only [List.length_append, List.length_cons, List.length_nil, numOct_length]; omega)) (by first | omega | (simp only [List.length_cons, List.length_nil]; omega))) (by kernel_rfl) rfl rfl rfl (by decide) ?_
        rintro _ w11 ⟨r11, rfl, m11, hw11⟩
        have zw11 := hw11.size
        have cl11 := cutK_length (joinK xs i) ([i] : List Int)
        refine lsw (want_none (by rfl)) (y_assign rfl rfl) rfl (by decide) ?_
        refine lg_nil ?_
        refine nx (E' := [(0, _), (1, _), (2, _), (7, _), (8, _), (11, _)]) (fk rfl (fk rfl (fk rfl (fk rfl (fk rfl (fk rfl fn)))))) ?_
        refine cg_seq ?_
        refine cg_region ?_
        refine lsw (want_none (by rfl)) (y_move rfl rfl) rfl (by decide) ?_
        refine lsw (want_none (by rfl)) (y_move rfl rfl) rfl (by decide) ?_
        refine lsw (want_t (dj := 75) (by rfl) (by kernel_rfl) rfl) (y_move rfl rfl) rfl (by decide) ?_
        refine lsw (want_t (dj := 75) (by rfl) (by kernel_rfl) rfl) (y_move rfl rfl) rfl (by decide) ?_
        have hj := hj.below (hw11.mono (by omega))
        refine lsw (want_t (dj := 75) (by rfl) (by kernel_rfl) rfl) (yb (decide_eq_true (show i ∈ (joinK xs i) from (joinK_mem.2 (.inr rfl)))) (y_call (has_any hj i) (by kernel_rfl) rfl rfl)) rfl (by decide) ?_
        refine lsw (want_none (by rfl)) (y_pick true rfl rfl rfl) rfl (by decide) ?_
        refine lsw (want_none (by rfl)) (y_move rfl rfl) rfl (by decide) ?_
        refine lsw (want_t (dj := 80) (by rfl) (by kernel_rfl) rfl) (y_move rfl rfl) rfl (by decide) ?_
        refine lsw (want_t (dj := 80) (by rfl) (by kernel_rfl) rfl) (y_move rfl rfl) rfl (by decide) ?_
        refine lsw (want_t (dj := 80) (by rfl) (by kernel_rfl) rfl) (yb (decide_eq_false (show ¬ (i ∈ (cutK (joinK xs i) ([i] : List Int))) from (fun q => (cutK_mem.1 q).2 (by simp)))) (y_call (has_any m11 i) (by kernel_rfl) rfl rfl)) rfl (by decide) ?_
        refine lsw (want_t (dj := 80) (by rfl) (by kernel_rfl) rfl) (y_bnot rfl rfl) rfl (by decide) ?_
        refine lsw (want_none (by rfl)) (y_pick true rfl rfl rfl) rfl (by decide) ?_
        refine lsw (want_none (by rfl)) (y_move rfl rfl) rfl (by decide) ?_
        refine lsw (want_t (dj := 86) (by rfl) (by kernel_rfl) rfl) (y_move rfl rfl) rfl (by decide) ?_
        refine lsw (want_t (dj := 86) (by rfl) (by kernel_rfl) rfl) (y_lenM (el := 3) m11.len (by kernel_rfl) rfl rfl) rfl (by decide) ?_
        refine lsw (want_t (dj := 86) (by rfl) (by kernel_rfl) rfl) (y_move rfl rfl) rfl (by decide) ?_
        refine lsw (want_t (dj := 86) (by rfl) (by kernel_rfl) rfl) (y_lenM (el := 3) hj.len (by kernel_rfl) rfl rfl) rfl (by decide) ?_
        refine lsw (want_t (dj := 86) (by rfl) (by kernel_rfl) rfl) (yi_sub rfl rfl rfl (by omega) (by omega)) rfl (by decide) ?_
        refine lsw (want_t (dj := 86) (by rfl) (by kernel_rfl) rfl) (yb (decide_eq_true (show ((cutK (joinK xs i) ([i] : List Int)).length : Int) = (((joinK xs i).length : Int) - 1) from (by have := cutK_one (joinK_rising xs i) (joinK_mem.2 (.inr rfl)); omega))) (yi_eql rfl rfl rfl)) rfl (by decide) ?_
        refine lsw (want_none (by rfl)) (y_pick true rfl rfl rfl) rfl (by decide) ?_
        refine lsw (want_none (by rfl)) (y_move rfl rfl) rfl (by decide) ?_
        refine lsw (want_t (dj := 94) (by rfl) (by kernel_rfl) rfl) (y_move rfl rfl) rfl (by decide) ?_
        refine lsw (want_t (dj := 94) (by rfl) (by kernel_rfl) rfl) (y_move rfl rfl) rfl (by decide) ?_
        refine lg_callw (want_t (dj := 94) (by rfl) (by kernel_rfl) rfl) (joinP_any i hj (by omega) (by first | omega | (simp only [List.length_append, List.length_cons, List.length_nil, numOct_length]; omega))) (by kernel_rfl) rfl rfl rfl (by decide) ?_
        rintro _ w12 ⟨r12, rfl, m12, hw12⟩
        have zw12 := hw12.size
        have jl12 := joinK_length (joinK xs i) i
        refine lsw (want_t (dj := 94) (by rfl) (by kernel_rfl) rfl) (y_move rfl rfl) rfl (by decide) ?_
        have hj := hj.below (hw12.mono (by omega))
        refine lg_callw (want_t (dj := 94) (by rfl) (by kernel_rfl) rfl) (ints_S m12 hj (by omega) (by omega)) (by kernel_rfl) rfl rfl rfl (by decide) ?_
        rintro u13 w13 ⟨e13, hw13⟩
        have zw13 := hw13.size
        obtain rfl : u13 = .bool true := e13.trans (congrArg Value.bool (decide_eq_true (show (joinK (joinK xs i) i) = (joinK xs i) from (join_twice _ _))))
        refine lsw (want_none (by rfl)) (y_pick true rfl rfl rfl) rfl (by decide) ?_
        refine lsw (want_none (by rfl)) (y_move rfl rfl) rfl (by decide) ?_
        refine lsw (want_t (dj := 101) (by rfl) (by kernel_rfl) rfl) (y_move rfl rfl) rfl (by decide) ?_
        refine lsw (want_t (dj := 101) (by rfl) (by kernel_rfl) rfl) (y_move rfl rfl) rfl (by decide) ?_
        have m11 := m11.below (hw12.mono (by omega))
        have m11 := m11.below (hw13.mono (by omega))
        refine lg_callw (want_t (dj := 101) (by rfl) (by kernel_rfl) rfl) (joinP_any i m11 (by omega) (by first | omega | (simp only [List.length_append, List.length_cons, List.length_nil, numOct_length]; omega))) (by kernel_rfl) rfl rfl rfl (by decide) ?_
        rintro _ w14 ⟨r14, rfl, m14, hw14⟩
        have zw14 := hw14.size
        have jl14 := joinK_length (cutK (joinK xs i) ([i] : List Int)) i
        refine lsw (want_t (dj := 101) (by rfl) (by kernel_rfl) rfl) (y_move rfl rfl) rfl (by decide) ?_
        have hj := hj.below (hw13.mono (by omega))
        have hj := hj.below (hw14.mono (by omega))
        refine lg_callw (want_t (dj := 101) (by rfl) (by kernel_rfl) rfl) (ints_S m14 hj (by omega) (by omega)) (by kernel_rfl) rfl rfl rfl (by decide) ?_
        rintro u15 w15 ⟨e15, hw15⟩
        have zw15 := hw15.size
        obtain rfl : u15 = .bool true := e15.trans (congrArg Value.bool (decide_eq_true (show (joinK (cutK (joinK xs i) ([i] : List Int)) i) = (joinK xs i) from (join_back _ _))))
        refine lsw (want_none (by rfl)) (y_pick true rfl rfl rfl) rfl (by decide) ?_
        refine lsw (want_none (by rfl)) (y_move rfl rfl) rfl (by decide) ?_
        refine lsw (want_t (dj := 108) (by rfl) (by kernel_rfl) rfl) (y_move rfl rfl) rfl (by decide) ?_
        refine lsw (want_t (dj := 108) (by rfl) (by kernel_rfl) rfl) (y_move rfl rfl) rfl (by decide) ?_
        have h := h.below (n10.below.mono (by omega))
        have h := h.below (hw11.mono (by omega))
        have h := h.below (hw12.mono (by omega))
        have h := h.below (hw13.mono (by omega))
        have h := h.below (hw14.mono (by omega))
        have h := h.below (hw15.mono (by omega))
        refine lg_callw (want_t (dj := 108) (by rfl) (by kernel_rfl) rfl) (joinP_any i h (by omega) (by first | omega | (simp only [List.length_append, List.length_cons, List.length_nil, numOct_length]; omega))) (by kernel_rfl) rfl rfl rfl (by decide) ?_
        rintro _ w16 ⟨r16, rfl, m16, hw16⟩
        have zw16 := hw16.size
        have jl16 := joinK_length xs i
        refine lsw (want_t (dj := 108) (by rfl) (by kernel_rfl) rfl) (y_move rfl rfl) rfl (by decide) ?_
        refine lg_callw (want_t (dj := 108) (by rfl) (by kernel_rfl) rfl) (joinP_any k m16 (by omega) (by first | omega | (simp only [List.length_append, List.length_cons, List.length_nil, numOct_length]; omega))) (by kernel_rfl) rfl rfl rfl (by decide) ?_
        rintro _ w17 ⟨r17, rfl, m17, hw17⟩
        have zw17 := hw17.size
        have jl17 := joinK_length (joinK xs i) k
        refine lsw (want_t (dj := 108) (by rfl) (by kernel_rfl) rfl) (y_move rfl rfl) rfl (by decide) ?_
        refine lsw (want_t (dj := 108) (by rfl) (by kernel_rfl) rfl) (y_move rfl rfl) rfl (by decide) ?_
        have h := h.below (hw16.mono (by omega))
        have h := h.below (hw17.mono (by omega))
        refine lg_callw (want_t (dj := 108) (by rfl) (by kernel_rfl) rfl) (joinP_any k h (by omega) (by first | omega | (simp only [List.length_append, List.length_cons, List.length_nil, numOct_length]; omega))) (by kernel_rfl) rfl rfl rfl (by decide) ?_
        rintro _ w18 ⟨r18, rfl, m18, hw18⟩
        have zw18 := hw18.size
        have jl18 := joinK_length xs k
        refine lsw (want_t (dj := 108) (by rfl) (by kernel_rfl) rfl) (y_move rfl rfl) rfl (by decide) ?_
        refine lg_callw (want_t (dj := 108) (by rfl) (by kernel_rfl) rfl) (joinP_any i m18 (by omega) (by first | omega | (simp only [List.length_append, List.length_cons, List.length_nil, numOct_length]; omega))) (by kernel_rfl) rfl rfl rfl (by decide) ?_
        rintro _ w19 ⟨r19, rfl, m19, hw19⟩
        have zw19 := hw19.size
        have jl19 := joinK_length (joinK xs k) i
        have m17 := m17.below (hw18.mono (by omega))
        have m17 := m17.below (hw19.mono (by omega))
        refine lg_callw (want_t (dj := 108) (by rfl) (by kernel_rfl) rfl) (ints_S m17 m19 (by omega) (by omega)) (by kernel_rfl) rfl rfl rfl (by decide) ?_
        rintro u20 w20 ⟨e20, hw20⟩
        have zw20 := hw20.size
        obtain rfl : u20 = .bool true := e20.trans (congrArg Value.bool (decide_eq_true (show (joinK (joinK xs i) k) = (joinK (joinK xs k) i) from (join_swap _ _ _))))
        refine lsw (want_none (by rfl)) (y_pick true rfl rfl rfl) rfl (by decide) ?_
        refine lsw (want_none (by rfl)) (y_assign rfl rfl) rfl (by decide) ?_
        refine lg_nil ?_
        refine nx (E' := [(6, _)]) (fk rfl fn) ?_
        refine cg_ret ?_
        have u := u.trans (n10.below.mono u.size)
        have u := u.trans (hw11.mono u.size)
        have u := u.trans (hw12.mono u.size)
        have u := u.trans (hw13.mono u.size)
        have u := u.trans (hw14.mono u.size)
        have u := u.trans (hw15.mono u.size)
        have u := u.trans (hw16.mono u.size)
        have u := u.trans (hw17.mono u.size)
        have u := u.trans (hw18.mono u.size)
        have u := u.trans (hw19.mono u.size)
        have u := u.trans (hw20.mono u.size)
        exact eg_ret_tmp rfl rfl ⟨_, rfl, rfl, u⟩
end Go.Proofs.Ytomjcbjekofkoaa
