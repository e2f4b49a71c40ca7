/-
  What stands beside the way has all others below.
-/
import Derived.Test.YtgcneppjdhnacaaDoorWaAwake
import Derived.Test.YtgcneppjdhnacaaDoorWaMore
namespace Go.Proofs.YtgcneppjdhnacaaDoor
open Go.ChangeShapes Go.WideShapes Go.ChangeAt Go.RowKit
set_option linter.unusedVariables false
set_option maxRecDepth 20000
theorem cnt_le (y w : Int) (l : List Int) {k : Nat} (h : l.length ≤ k) : cntI y w l ≤ k := by
  induction l generalizing k with
  | nil => exact Nat.zero_le _
  | cons c r ih =>
    have h2 : r.length + 1 ≤ k := h
    have := ih (k := k - 1) (by omega)
    show (if 2 * lowI c w ≤ y ∧ y ≤ 2 * higI c w then 1 else 0) + cntI y w r ≤ k
    split <;> omega
theorem waBeside_any (leaf w : Int) (W : World) (rg : Tb W) : Calls Tryd.prog 4 #[nv leaf, nv w] W fun e W' => ∃ v, e = .returned v ∧ v = .bool true ∧ Below W.heap.size W W' := by
  have hk := and_65535 leaf
  obtain ⟨k, ek⟩ : ∃ k, bits .and .i64 leaf 65535 = k := ⟨_, rfl⟩
  rw [ek] at hk
  obtain ⟨x, ex⟩ : ∃ x, 2 * k = x := ⟨_, rfl⟩
  by_cases hn : isN x w
  · refine calls_cg (n := 134) Tryd.func4 rfl Tryd.ntmps4 (by simp) ?_
    show CG _ _ _ [(0, nv leaf), (1, nv w)] _ _
    have u := Below.refl W.heap.size W
    have dl0 := (dir_len hn).2
    refine cg_seq ?_
    refine cg_region ?_
    refine lsw (want_none (by rfl)) (y_assign rfl rfl) rfl (by decide) ?_
    refine lg_nil ?_
    refine nx (E' := [(0, _), (1, _), (4, _)]) (fk rfl (fk rfl (fk rfl fn))) ?_
    refine cg_seq ?_
    refine cg_region ?_
    refine lg_callw (want_none (by rfl)) (wawake_any _ (rg.up u)) (by kernel_rfl) rfl rfl rfl (by decide) ?_
    rintro _ w1 ⟨rfl, hw1⟩
    have zw1 := hw1.size
    refine lsw (want_none (by rfl)) (y_assign rfl rfl) rfl (by decide) ?_
    refine lg_nil ?_
    refine nx (E' := [(0, _), (1, _), (4, _), (5, _)]) (fk rfl (fk rfl (fk rfl (fk rfl fn)))) ?_
    refine cg_seq ?_
    refine cg_region ?_
    refine lsw (want_none (by rfl)) (y_move rfl rfl) rfl (by decide) ?_
    refine lsw (want_none (by rfl)) (yv (congrArg nv ek) (yi_and rfl rfl rfl)) rfl (by decide) ?_
    refine lsw (want_none (by rfl)) (yv (congrArg nv ex) (yi_mul rfl rfl rfl (by omega) (by omega))) rfl (by decide) ?_
    refine lsw (want_none (by rfl)) (y_assign rfl rfl) rfl (by decide) ?_
    refine lg_nil ?_
    refine nx (E' := [(1, _), (4, _), (5, _), (6, _)]) (fk rfl (fk rfl (fk rfl (fk rfl fn)))) ?_
    refine cg_seq ?_
    refine cg_seq ?_
    refine cg_region ?_
    refine lsw (want_none (by rfl)) (y_move rfl rfl) rfl (by decide) ?_
    refine lsw (want_none (by rfl)) (y_move rfl rfl) rfl (by decide) ?_
    have u := u.trans (hw1.mono u.size)
    refine lsw (want_none (by rfl)) (yb (decide_eq_true hn) (y_call (is_any x w _ (rg.up u)) (by kernel_rfl) rfl rfl)) rfl (by decide) ?_
    refine lsw (want_none (by rfl)) (y_bnot rfl rfl) rfl (by decide) ?_
    refine lg_nil ?_
    refine nx (E' := [(1, _), (4, _), (5, _), (6, _), (22, _)]) (fk rfl (fk rfl (fk rfl (fk rfl (fk rfl fn))))) ?_
    refine cg_cf rfl ?_
    refine cg_skip ?_
    refine nx (E' := [(1, _), (4, _), (5, _), (6, _)]) (fk rfl (fk rfl (fk rfl (fk rfl fn)))) ?_
    refine cg_seq ?_
    refine cg_region ?_
    refine lsw (want_none (by rfl)) (y_move rfl rfl) rfl (by decide) ?_
    refine lsw (want_none (by rfl)) (y_move rfl rfl) rfl (by decide) ?_
    refine lg_callw (want_none (by rfl)) (direct_any x w _ (rg.up u)) (by kernel_rfl) rfl rfl rfl (by decide) ?_
    rintro _ w2 ⟨A2, c2, rfl, i2, m2, hw2⟩
    have zw2 := hw2.size
    have ml2 := m2.1
    have dl2 := dirL x w
    refine lsw (want_none (by rfl)) (y_assign rfl rfl) rfl (by decide) ?_
    refine lg_nil ?_
    refine nx (E' := [(1, _), (4, _), (5, _), (6, _), (7, _)]) (fk rfl (fk rfl (fk rfl (fk rfl (fk rfl fn))))) ?_
    refine cg_seq ?_
    refine cg_region ?_
    refine lsw (want_none (by rfl)) (y_move rfl rfl) rfl (by decide) ?_
    refine lsw (want_none (by rfl)) (y_move rfl rfl) rfl (by decide) ?_
    have u := u.trans (hw2.mono u.size)
    refine lg_callw (want_none (by rfl)) (copath_any x w _ (rg.up u)) (by kernel_rfl) rfl rfl rfl (by decide) ?_
    rintro _ w3 ⟨A3, c3, rfl, i3, m3, hw3⟩
    have zw3 := hw3.size
    have ml3 := m3.1
    have dl3 := cop_len x w
    refine lsw (want_none (by rfl)) (y_assign rfl rfl) rfl (by decide) ?_
    refine lg_nil ?_
    refine nx (E' := [(1, _), (4, _), (5, _), (6, _), (7, _), (8, _)]) (fk rfl (fk rfl (fk rfl (fk rfl (fk rfl (fk rfl fn)))))) ?_
    refine cg_seq ?_
    refine cg_seq ?_
    refine cg_region ?_
    refine lsw (want_none (by rfl)) (y_move rfl rfl) rfl (by decide) ?_
    refine lsw (want_none (by rfl)) (y_len (el := 3) (by kernel_rfl) rfl rfl) rfl (by decide) ?_
    refine lsw (want_none (by rfl)) (y_move rfl rfl) rfl (by decide) ?_
    refine lsw (want_none (by rfl)) (y_len (el := 3) (by kernel_rfl) rfl rfl) rfl (by decide) ?_
    refine lsw (want_none (by rfl)) (yb (nd_f (by omega)) (yi_neq rfl rfl rfl)) rfl (by decide) ?_
    refine lg_nil ?_
    refine nx (E' := [(1, _), (4, _), (5, _), (6, _), (7, _), (8, _), (48, _)]) (fk rfl (fk rfl (fk rfl (fk rfl (fk rfl (fk rfl (fk rfl fn))))))) ?_
    refine cg_cf rfl ?_
    refine cg_skip ?_
    refine nx (E' := [(1, _), (4, _), (5, _), (6, _), (7, _), (8, _)]) (fk rfl (fk rfl (fk rfl (fk rfl (fk rfl (fk rfl fn)))))) ?_
    refine cg_seq ?_
    refine cg_seq ?_
    refine cg_region ?_
    refine lsw (want_none (by rfl)) (y_assign rfl rfl) rfl (by decide) ?_
    refine lg_nil ?_
    refine nx (E' := [(1, _), (4, _), (5, _), (6, _), (7, _), (8, _), (9, _)]) (fk rfl (fk rfl (fk rfl (fk rfl (fk rfl (fk rfl (fk rfl fn))))))) ?_
    refine cg_block ?_
    have m2 := m2.below (hw3.mono (by omega))
    have u := u.trans (hw3.mono u.size)
    refine cg_loopE (fun t a v => ∃ (i : Int), Holds 134 [(1, nv w), (5, .bool true), (6, nv x), (7, (.slice A2 (dirI x w).length c2)), (8, (.slice A3 (copI x w).length c3)), (9, nv i)] a ∧ Nums v w3.heap.size A2 (dirI x w).length (dirI x w) ∧ Nums v w3.heap.size A3 (copI x w).length (copI x w) ∧ w3.heap.size ≤ v.heap.size ∧ Below W.heap.size W v ∧ (i = (t : Int) ∧ t ≤ (copI x w).length)) (copI x w).length (fun a ha => ⟨0, ha.keep (fk rfl (fk rfl (fk rfl (fk rfl (fk rfl (fk rfl fn)))))), (m2.more (by omega)), (m3.more (by omega)), (by omega), u, ⟨rfl, Nat.zero_le _⟩⟩) ?_
    rintro t a v ht ⟨i, ha, m2, m3, hs, u, hi⟩
    refine cg_at ha ?_
    clear ha a
    have zv := u.size
    refine cg_seq ?_
    refine cg_seq ?_
    refine cg_region ?_
    refine lsw (want_none (by rfl)) (y_move rfl rfl) rfl (by decide) ?_
    refine lsw (want_none (by rfl)) (y_move rfl rfl) rfl (by decide) ?_
    refine lsw (want_none (by rfl)) (y_len (el := 3) (by kernel_rfl) rfl rfl) rfl (by decide) ?_
    by_cases c4 : i < ((copI x w).length : Int)
    · have hw := way_at hn (i := t) (by omega)
      refine lsw (want_none (by rfl)) (yb (decide_eq_true c4) (yi_lss rfl rfl rfl)) rfl (by decide) ?_
      refine lg_nil ?_
      refine nx (E' := [(1, _), (5, _), (6, _), (7, _), (8, _), (9, _), (49, _), (50, _), (51, _), (52, _)]) (fk rfl (fk rfl (fk rfl (fk rfl (fk rfl (fk rfl (fk rfl (fk rfl (fk rfl (fk rfl fn)))))))))) ?_
      refine cg_ct rfl ?_
      refine cg_skip ?_
      refine nx (E' := [(1, _), (5, _), (6, _), (7, _), (8, _), (9, _), (49, _), (50, _), (51, _), (52, _)]) (fk rfl (fk rfl (fk rfl (fk rfl (fk rfl (fk rfl (fk rfl (fk rfl (fk rfl (fk rfl fn)))))))))) ?_
      refine cg_seq ?_
      refine cg_block ?_
      refine cg_seq ?_
      refine cg_held (by kernel_rfl) fun W5 eW5 => ?_
      have dW5 := below_drew _ _ eW5
      have zW5 := size_drew _ _ eW5
      clear eW5
      refine hg_take 0 (by rfl) (want_none (by rfl)) (by rfl) rfl (by decide) (by kernel_rfl) (by kernel_rfl) (by kernel_rfl) (fun _ _ _ h => h) (Below.refl _ _) (fun q hq => y_move rfl rfl) ?_
      refine hg_take 1 (by rfl) (want_none (by rfl)) (by rfl) rfl (by decide) (by kernel_rfl) (by kernel_rfl) (by kernel_rfl) (fun _ _ _ h => h) (Below.refl _ _) (fun q hq => y_move rfl rfl) ?_
      have m3 := m3.below (dW5.mono (by omega))
      refine hg_take 2 (by rfl) (want_none (by rfl)) (by rfl) rfl (by decide) (by kernel_rfl) (by kernel_rfl) (by kernel_rfl) (fun _ _ _ h => h) (Below.refl _ _) (fun q hq => y_ixN (i := t) (iI := i) (m3.below (hq.mono (by omega))) (by omega) (by omega) rfl rfl rfl) ?_
      refine hg_take 3 (by rfl) (want_none (by rfl)) (by rfl) rfl (by decide) (by kernel_rfl) (by kernel_rfl) (by kernel_rfl) (fun _ _ _ h => h) (Below.refl _ _) (fun q hq => y_ldN (i := t) (m3.below (hq.mono (by omega))) (by omega) rfl rfl) ?_
      refine hg_take 4 (by rfl) (want_none (by rfl)) (by rfl) rfl (by decide) (by kernel_rfl) (by kernel_rfl) (by kernel_rfl) (fun _ _ _ h => h) (Below.refl _ _) (fun q hq => y_move rfl rfl) ?_
      refine hg_take 6 (by rfl) (want_none (by rfl)) (by rfl) rfl (by decide) (by kernel_rfl) (by kernel_rfl) (by kernel_rfl) (fun _ _ _ h => h) (Below.refl _ _) (fun q hq => y_move rfl rfl) ?_
      refine hg_take 7 (by rfl) (want_none (by rfl)) (by rfl) rfl (by decide) (by kernel_rfl) (by kernel_rfl) (by kernel_rfl) (fun _ _ _ h => h) (Below.refl _ _) (fun q hq => y_move rfl rfl) ?_
      have m2 := m2.below (dW5.mono (by omega))
      refine hg_take 8 (by rfl) (want_none (by rfl)) (by rfl) rfl (by decide) (by kernel_rfl) (by kernel_rfl) (by kernel_rfl) (fun _ _ _ h => h) (Below.refl _ _) (fun q hq => y_ixN (i := t) (iI := i) (m2.below (hq.mono (by omega))) (by omega) (by omega) rfl rfl rfl) ?_
      refine hg_take 9 (by rfl) (want_none (by rfl)) (by rfl) rfl (by decide) (by kernel_rfl) (by kernel_rfl) (by kernel_rfl) (fun _ _ _ h => h) (Below.refl _ _) (fun q hq => y_ldN (i := t) (m2.below (hq.mono (by omega))) (by omega) rfl rfl) ?_
      have u := u.trans (dW5.mono u.size)
      refine hg_one 5 (by rfl) (by kernel_rfl) (want_none (by rfl)) ?_
      refine lsw (want_none (by rfl)) (y_call (parent_any ((copI x w).getD t 0) w _ (rg.up u)) (by kernel_rfl) rfl rfl) rfl (by decide) ?_
      refine hg_next (Below.refl _ _) ?_
      refine hg_take 10 (by rfl) (want_none (by rfl)) (by rfl) rfl (by decide) (by kernel_rfl) (by kernel_rfl) (by kernel_rfl) (fun _ _ _ h => h) (Below.refl _ _) (fun q hq => yb (nd_f hw.2.2.2.2.1) (yi_neq rfl rfl rfl)) ?_
      refine hg_take 11 (by rfl) (want_none (by rfl)) (by rfl) rfl (by decide) (by kernel_rfl) (by kernel_rfl) (by kernel_rfl) (fun _ _ _ h => h) (Below.refl _ _) (fun q hq => y_move rfl rfl) ?_
      refine hg_take 12 (by rfl) (want_t (dj := 66) (by rfl) (by kernel_rfl) rfl) (by rfl) rfl (by decide) (by kernel_rfl) (by kernel_rfl) (by kernel_rfl) (fun _ _ _ h => h) (Below.refl _ _) (fun q hq => y_move rfl rfl) ?_
      refine hg_take 13 (by rfl) (want_t (dj := 66) (by rfl) (by kernel_rfl) rfl) (by rfl) rfl (by decide) (by kernel_rfl) (by kernel_rfl) (by kernel_rfl) (fun _ _ _ h => h) (Below.refl _ _) (fun q hq => y_move rfl rfl) ?_
      refine hg_take 14 (by rfl) (want_t (dj := 66) (by rfl) (by kernel_rfl) rfl) (by rfl) rfl (by decide) (by kernel_rfl) (by kernel_rfl) (by kernel_rfl) (fun _ _ _ h => h) (Below.refl _ _) (fun q hq => y_move rfl rfl) ?_
      refine hg_take 15 (by rfl) (want_t (dj := 66) (by rfl) (by kernel_rfl) rfl) (by rfl) rfl (by decide) (by kernel_rfl) (by kernel_rfl) (by kernel_rfl) (fun _ _ _ h => h) (Below.refl _ _) (fun q hq => y_ixN (i := t) (iI := i) (m3.below (hq.mono (by omega))) (by omega) (by omega) rfl rfl rfl) ?_
      refine hg_take 16 (by rfl) (want_t (dj := 66) (by rfl) (by kernel_rfl) rfl) (by rfl) rfl (by decide) (by kernel_rfl) (by kernel_rfl) (by kernel_rfl) (fun _ _ _ h => h) (Below.refl _ _) (fun q hq => y_ldN (i := t) (m3.below (hq.mono (by omega))) (by omega) rfl rfl) ?_
      refine hg_take 17 (by rfl) (want_t (dj := 66) (by rfl) (by kernel_rfl) rfl) (by rfl) rfl (by decide) (by kernel_rfl) (by kernel_rfl) (by kernel_rfl) (fun _ _ _ h => h) (Below.refl _ _) (fun q hq => y_move rfl rfl) ?_
      refine hg_one 18 (by rfl) (by kernel_rfl) (want_t (dj := 66) (by rfl) (by kernel_rfl) rfl) ?_
      refine lg_callw (want_t (dj := 66) (by rfl) (by kernel_rfl) rfl) (under_any x ((copI x w).getD t 0) w _ (rg.up u)) (by kernel_rfl) rfl rfl rfl (by decide) ?_
      rintro u6 w6 ⟨e6, hw6⟩
      have zw6 := hw6.size
      obtain rfl : u6 = .bool false := e6.trans (congrArg Value.bool (decide_eq_false hw.2.2.2.2.2.1))
      refine hg_next hw6 ?_
      refine hg_up hw6 ?_
      refine hg_take 19 (by rfl) (want_none (by rfl)) (by rfl) rfl (by decide) (by kernel_rfl) (by kernel_rfl) (by kernel_rfl) (fun _ _ _ h => h) (Below.refl _ _) (fun q hq => y_pick false rfl rfl rfl) ?_
      refine hg_take 20 (by rfl) (want_none (by rfl)) (by rfl) rfl (by decide) (by kernel_rfl) (by kernel_rfl) (by kernel_rfl) (fun _ _ _ h => h) (Below.refl _ _) (fun q hq => y_move rfl rfl) ?_
      refine hg_take 21 (by rfl) (want_t (dj := 75) (by rfl) (by kernel_rfl) rfl) (by rfl) rfl (by decide) (by kernel_rfl) (by kernel_rfl) (by kernel_rfl) (fun _ _ _ h => h) (Below.refl _ _) (fun q hq => y_move rfl rfl) ?_
      refine hg_take 22 (by rfl) (want_t (dj := 75) (by rfl) (by kernel_rfl) rfl) (by rfl) rfl (by decide) (by kernel_rfl) (by kernel_rfl) (by kernel_rfl) (fun _ _ _ h => h) (Below.refl _ _) (fun q hq => y_move rfl rfl) ?_
      refine hg_take 23 (by rfl) (want_t (dj := 75) (by rfl) (by kernel_rfl) rfl) (by rfl) rfl (by decide) (by kernel_rfl) (by kernel_rfl) (by kernel_rfl) (fun _ _ _ h => h) (Below.refl _ _) (fun q hq => y_move rfl rfl) ?_
      have m2 := m2.below (hw6.mono (by omega))
      refine hg_take 24 (by rfl) (want_t (dj := 75) (by rfl) (by kernel_rfl) rfl) (by rfl) rfl (by decide) (by kernel_rfl) (by kernel_rfl) (by kernel_rfl) (fun _ _ _ h => h) (Below.refl _ _) (fun q hq => y_ixN (i := t) (iI := i) (m2.below (hq.mono (by omega))) (by omega) (by omega) rfl rfl rfl) ?_
      refine hg_take 25 (by rfl) (want_t (dj := 75) (by rfl) (by kernel_rfl) rfl) (by rfl) rfl (by decide) (by kernel_rfl) (by kernel_rfl) (by kernel_rfl) (fun _ _ _ h => h) (Below.refl _ _) (fun q hq => y_ldN (i := t) (m2.below (hq.mono (by omega))) (by omega) rfl rfl) ?_
      refine hg_take 26 (by rfl) (want_t (dj := 75) (by rfl) (by kernel_rfl) rfl) (by rfl) rfl (by decide) (by kernel_rfl) (by kernel_rfl) (by kernel_rfl) (fun _ _ _ h => h) (Below.refl _ _) (fun q hq => y_move rfl rfl) ?_
      have u := u.trans (hw6.mono u.size)
      refine hg_one 27 (by rfl) (by kernel_rfl) (want_t (dj := 75) (by rfl) (by kernel_rfl) rfl) ?_
      refine lg_callw (want_t (dj := 75) (by rfl) (by kernel_rfl) rfl) (under_any x ((dirI x w).getD t 0) w _ (rg.up u)) (by kernel_rfl) rfl rfl rfl (by decide) ?_
      rintro u7 w7 ⟨e7, hw7⟩
      have zw7 := hw7.size
      obtain rfl : u7 = .bool true := e7.trans (congrArg Value.bool (decide_eq_true hw.2.2.1))
      refine hg_next hw7 ?_
      refine hg_up hw7 ?_
      refine hg_take 28 (by rfl) (want_t (dj := 75) (by rfl) (by kernel_rfl) rfl) (by rfl) rfl (by decide) (by kernel_rfl) (by kernel_rfl) (by kernel_rfl) (fun _ _ _ h => h) (Below.refl _ _) (fun q hq => y_bnot rfl rfl) ?_
      refine hg_take 29 (by rfl) (want_none (by rfl)) (by rfl) rfl (by decide) (by kernel_rfl) (by kernel_rfl) (by kernel_rfl) (fun _ _ _ h => h) (Below.refl _ _) (fun q hq => y_pick false rfl rfl rfl) ?_
      refine hg_done (by kernel_rfl) ?_
      refine nx (E' := [(1, _), (5, _), (6, _), (7, _), (8, _), (9, _), (49, _), (50, _), (51, _), (52, _), (55, _), (56, _), (57, _), (58, _), (59, _), (61, _), (62, _), (63, _), (64, _), (60, _), (65, _), (66, _), (67, _), (68, _), (69, _), (70, _), (71, _), (72, _), (73, _), (74, _), (75, _), (76, _), (77, _), (78, _), (79, _), (80, _), (81, _), (82, _), (83, _), (84, _)]) (fk rfl (fk rfl (fk rfl (fk rfl (fk rfl (fk rfl (fk rfl (fk rfl (fk rfl (fk rfl (fk rfl (fk rfl (fk rfl (fk rfl (fk rfl (fk rfl (fk rfl (fk rfl (fk rfl (fk rfl (fk rfl (fk rfl (fk rfl (fk rfl (fk rfl (fk rfl (fk rfl (fk rfl (fk rfl (fk rfl (fk rfl (fk rfl (fk rfl (fk rfl (fk rfl (fk rfl (fk rfl (fk rfl (fk rfl (fk rfl fn)))))))))))))))))))))))))))))))))))))))) ?_
      refine cg_cf rfl ?_
      refine cg_skip ?_
      refine eg_block_norm ?_
      refine nx (E' := [(1, _), (5, _), (6, _), (7, _), (8, _), (9, _), (49, _), (50, _), (51, _), (52, _), (55, _), (56, _), (57, _), (58, _), (59, _), (61, _), (62, _), (63, _), (64, _), (60, _), (65, _), (66, _), (67, _), (68, _), (69, _), (70, _), (71, _), (72, _), (73, _), (74, _), (75, _), (76, _), (77, _), (78, _), (79, _), (80, _), (81, _), (82, _), (83, _), (84, _)]) (fk rfl (fk rfl (fk rfl (fk rfl (fk rfl (fk rfl (fk rfl (fk rfl (fk rfl (fk rfl (fk rfl (fk rfl (fk rfl (fk rfl (fk rfl (fk rfl (fk rfl (fk rfl (fk rfl (fk rfl (fk rfl (fk rfl (fk rfl (fk rfl (fk rfl (fk rfl (fk rfl (fk rfl (fk rfl (fk rfl (fk rfl (fk rfl (fk rfl (fk rfl (fk rfl (fk rfl (fk rfl (fk rfl (fk rfl (fk rfl fn)))))))))))))))))))))))))))))))))))))))) ?_
      refine cg_region ?_
      refine lsw (want_none (by rfl)) (y_move rfl rfl) rfl (by decide) ?_
      refine lsw (want_none (by rfl)) (yi_add rfl rfl rfl (by omega) (by omega)) rfl (by decide) ?_
      refine lsw (want_none (by rfl)) (y_assign rfl rfl) rfl (by decide) ?_
      refine lg_nil ?_
      have m2 := m2.below (hw7.mono (by omega))
      have m3 := m3.below (hw6.mono (by omega))
      have m3 := m3.below (hw7.mono (by omega))
      have hs := (show w3.heap.size ≤ W5.heap.size by omega)
      have hs := (show w3.heap.size ≤ w6.heap.size by omega)
      have hs := (show w3.heap.size ≤ w7.heap.size by omega)
      have u := u.trans (hw7.mono u.size)
      exact fun a ha => (show t < (copI x w).length ∧ _ from ⟨(by omega), (i + 1), ha.keep (fk rfl (fk rfl (fk rfl (fk rfl (fk rfl (fk rfl fn)))))), m2, m3, hs, u, ⟨(by omega), (by omega)⟩⟩)
    · refine lsw (want_none (by rfl)) (yb (decide_eq_false c4) (yi_lss rfl rfl rfl)) rfl (by decide) ?_
      refine lg_nil ?_
      refine nx (E' := [(1, _), (5, _), (6, _), (7, _), (8, _), (9, _), (49, _), (50, _), (51, _), (52, _)]) (fk rfl (fk rfl (fk rfl (fk rfl (fk rfl (fk rfl (fk rfl (fk rfl (fk rfl (fk rfl fn)))))))))) ?_
      refine cg_cf rfl ?_
      refine cg_exit ?_
      refine eg_seq_exit ?_
      refine eg_seq_exit ?_
      refine eg_block_exit ?_
      refine nx (E' := [(1, _), (5, _), (6, _), (8, _)]) (fk rfl (fk rfl (fk rfl (fk rfl fn)))) ?_
      refine cg_seq ?_
      refine cg_seq ?_
      refine cg_region ?_
      refine lsw (want_none (by rfl)) (y_assign rfl rfl) rfl (by decide) ?_
      refine lg_nil ?_
      refine nx (E' := [(1, _), (5, _), (6, _), (8, _), (10, _)]) (fk rfl (fk rfl (fk rfl (fk rfl (fk rfl fn))))) ?_
      refine cg_block ?_
      refine cg_loopE (fun t a v => ∃ (y : Int), Holds 134 [(1, nv w), (5, .bool true), (6, nv x), (8, (.slice A3 (copI x w).length c3)), (10, nv y)] a ∧ Nums v w3.heap.size A3 (copI x w).length (copI x w) ∧ w3.heap.size ≤ v.heap.size ∧ Below W.heap.size W v ∧ y = 2 * (t : Int)) 64 (fun a ha => ⟨0, ha.keep (fk rfl (fk rfl (fk rfl (fk rfl (fk rfl fn))))), m3, (by omega), u, rfl⟩) ?_
      rintro t a v ht ⟨y, ha, m3, hs, u, hy⟩
      refine cg_at ha ?_
      clear ha a
      have zv := u.size
      have hw7 := hn.le
      refine cg_seq ?_
      refine cg_seq ?_
      refine cg_region ?_
      refine lsw (want_none (by rfl)) (y_move rfl rfl) rfl (by decide) ?_
      refine lsw (want_none (by rfl)) (y_move rfl rfl) rfl (by decide) ?_
      by_cases c8 : y < w
      · refine lsw (want_none (by rfl)) (yb (decide_eq_true c8) (yi_lss rfl rfl rfl)) rfl (by decide) ?_
        refine lg_nil ?_
        refine nx (E' := [(1, _), (5, _), (6, _), (8, _), (10, _), (85, _), (86, _), (87, _)]) (fk rfl (fk rfl (fk rfl (fk rfl (fk rfl (fk rfl (fk rfl (fk rfl fn)))))))) ?_
        refine cg_ct rfl ?_
        refine cg_skip ?_
        refine nx (E' := [(1, _), (5, _), (6, _), (8, _), (10, _), (85, _), (86, _), (87, _)]) (fk rfl (fk rfl (fk rfl (fk rfl (fk rfl (fk rfl (fk rfl (fk rfl fn)))))))) ?_
        refine cg_seq ?_
        refine cg_block ?_
        refine cg_seq ?_
        refine cg_region ?_
        refine lsw (want_none (by rfl)) (y_assign rfl rfl) rfl (by decide) ?_
        refine lg_nil ?_
        refine nx (E' := [(1, _), (5, _), (6, _), (8, _), (10, _), (85, _), (86, _), (87, _), (11, _)]) (fk rfl (fk rfl (fk rfl (fk rfl (fk rfl (fk rfl (fk rfl (fk rfl (fk rfl fn))))))))) ?_
        refine cg_seq ?_
        refine cg_seq ?_
        refine cg_region ?_
        refine lsw (want_none (by rfl)) (y_assign rfl rfl) rfl (by decide) ?_
        refine lg_nil ?_
        refine nx (E' := [(1, _), (5, _), (6, _), (8, _), (10, _), (85, _), (86, _), (87, _), (11, _), (12, _)]) (fk rfl (fk rfl (fk rfl (fk rfl (fk rfl (fk rfl (fk rfl (fk rfl (fk rfl (fk rfl fn)))))))))) ?_
        refine cg_block ?_
        refine cg_loopE (fun s a v => ∃ (n : Int) (j : Int), Holds 134 [(1, nv w), (5, .bool true), (6, nv x), (8, (.slice A3 (copI x w).length c3)), (10, nv y), (11, nv n), (12, nv j)] a ∧ Nums v w3.heap.size A3 (copI x w).length (copI x w) ∧ w3.heap.size ≤ v.heap.size ∧ Below W.heap.size W v ∧ (j = (s : Int) ∧ s ≤ (copI x w).length) ∧ n = ((cntI y w ((copI x w).take s) : Nat) : Int)) (copI x w).length (fun a ha => ⟨0, 0, ha.keep (fk rfl (fk rfl (fk rfl (fk rfl (fk rfl (fk rfl (fk rfl fn))))))), m3, (by omega), u, ⟨rfl, Nat.zero_le _⟩, rfl⟩) ?_
        rintro s a v ht ⟨n, j, ha, m3, hs, u, hj, hc⟩
        refine cg_at ha ?_
        clear ha a
        have zv := u.size
        have hcn : cntI y w ((copI x w).take s) ≤ 6 := by rw [] <;> exact cnt_le _ _ _ (by have := cop_len x w; rw [List.length_take]; omega)
        refine cg_seq ?_
        refine cg_seq ?_
        refine cg_region ?_
        refine lsw (want_none (by rfl)) (y_move rfl rfl) rfl (by decide) ?_
        refine lsw (want_none (by rfl)) (y_move rfl rfl) rfl (by decide) ?_
        refine lsw (want_none (by rfl)) (y_len (el := 3) (by kernel_rfl) rfl rfl) rfl (by decide) ?_
        by_cases c9 : j < ((copI x w).length : Int)
        · have hw := way_at hn (i := s) (by omega)
          have lh := low_hig2 hw.2.2.2.1
          refine lsw (want_none (by rfl)) (yb (decide_eq_true c9) (yi_lss rfl rfl rfl)) rfl (by decide) ?_
          refine lg_nil ?_
          refine nx (E' := [(1, _), (5, _), (6, _), (8, _), (10, _), (11, _), (12, _), (90, _), (91, _), (92, _), (93, _)]) (fk rfl (fk rfl (fk rfl (fk rfl (fk rfl (fk rfl (fk rfl (fk rfl (fk rfl (fk rfl (fk rfl fn))))))))))) ?_
          refine cg_ct rfl ?_
          refine cg_skip ?_
          refine nx (E' := [(1, _), (5, _), (6, _), (8, _), (10, _), (11, _), (12, _), (90, _), (91, _), (92, _), (93, _)]) (fk rfl (fk rfl (fk rfl (fk rfl (fk rfl (fk rfl (fk rfl (fk rfl (fk rfl (fk rfl (fk rfl fn))))))))))) ?_
          refine cg_seq ?_
          refine cg_block ?_
          refine cg_seq ?_
          refine cg_region ?_
          refine lsw (want_none (by rfl)) (y_move rfl rfl) rfl (by decide) ?_
          refine lsw (want_none (by rfl)) (y_move rfl rfl) rfl (by decide) ?_
          refine lsw (want_none (by rfl)) (y_ixN (i := s) (iI := j) m3 (by omega) (by omega) rfl rfl rfl) rfl (by decide) ?_
          refine lsw (want_none (by rfl)) (y_ldN (i := s) m3 (by omega) rfl rfl) rfl (by decide) ?_
          refine lsw (want_none (by rfl)) (y_move rfl rfl) rfl (by decide) ?_
          refine lsw (want_none (by rfl)) (y_call (below_any ((copI x w).getD s 0) w _ (rg.up u)) (by kernel_rfl) rfl rfl) rfl (by decide) ?_
          refine lsw (want_none (by rfl)) (y_move rfl rfl) rfl (by decide) ?_
          refine lsw (want_none (by rfl)) (y_extract rfl rfl rfl) rfl (by decide) ?_
          refine lsw (want_none (by rfl)) (y_extract rfl rfl rfl) rfl (by decide) ?_
          refine lsw (want_none (by rfl)) (y_assign rfl rfl) rfl (by decide) ?_
          refine lsw (want_none (by rfl)) (y_assign rfl rfl) rfl (by decide) ?_
          refine lg_nil ?_
          refine nx (E' := [(1, _), (5, _), (6, _), (8, _), (10, _), (11, _), (12, _), (90, _), (91, _), (92, _), (93, _), (97, _), (98, _), (99, _), (100, _), (101, _), (102, _), (96, _), (103, _), (104, _), (13, _), (14, _)]) (fk rfl (fk rfl (fk rfl (fk rfl (fk rfl (fk rfl (fk rfl (fk rfl (fk rfl (fk rfl (fk rfl (fk rfl (fk rfl (fk rfl (fk rfl (fk rfl (fk rfl (fk rfl (fk rfl (fk rfl (fk rfl (fk rfl fn)))))))))))))))))))))) ?_
          refine cg_seq ?_
          refine cg_region ?_
          refine lsw (want_none (by rfl)) (y_move rfl rfl) rfl (by decide) ?_
          refine lsw (want_none (by rfl)) (yi_mul rfl rfl rfl (by omega) (by omega)) rfl (by decide) ?_
          refine lsw (want_none (by rfl)) (y_move rfl rfl) rfl (by decide) ?_
          by_cases c10 : (2 * (lowI ((copI x w).getD s 0) w)) ≤ y
          · refine lsw (want_none (by rfl)) (yb (decide_eq_true c10) (yi_leq rfl rfl rfl)) rfl (by decide) ?_
            refine lsw (want_none (by rfl)) (y_move rfl rfl) rfl (by decide) ?_
            refine lsw (want_t (dj := 109) (by rfl) (by kernel_rfl) rfl) (y_move rfl rfl) rfl (by decide) ?_
            refine lsw (want_t (dj := 109) (by rfl) (by kernel_rfl) rfl) (y_move rfl rfl) rfl (by decide) ?_
            refine lsw (want_t (dj := 109) (by rfl) (by kernel_rfl) rfl) (yi_mul rfl rfl rfl (by omega) (by omega)) rfl (by decide) ?_
            by_cases c11 : y ≤ (2 * (higI ((copI x w).getD s 0) w))
            · refine lsw (want_t (dj := 109) (by rfl) (by kernel_rfl) rfl) (yb (decide_eq_true c11) (yi_leq rfl rfl rfl)) rfl (by decide) ?_
              refine lsw (want_none (by rfl)) (y_pick true rfl rfl rfl) rfl (by decide) ?_
              refine lg_nil ?_
              refine nx (E' := [(1, _), (5, _), (6, _), (8, _), (10, _), (11, _), (12, _), (90, _), (91, _), (92, _), (93, _), (97, _), (98, _), (99, _), (100, _), (101, _), (102, _), (96, _), (103, _), (104, _), (13, _), (14, _), (105, _), (106, _), (107, _), (108, _), (109, _), (110, _), (111, _), (112, _), (113, _), (114, _)]) (fk rfl (fk rfl (fk rfl (fk rfl (fk rfl (fk rfl (fk rfl (fk rfl (fk rfl (fk rfl (fk rfl (fk rfl (fk rfl (fk rfl (fk rfl (fk rfl (fk rfl (fk rfl (fk rfl (fk rfl (fk rfl (fk rfl (fk rfl (fk rfl (fk rfl (fk rfl (fk rfl (fk rfl (fk rfl (fk rfl (fk rfl (fk rfl fn)))))))))))))))))))))))))))))))) ?_
              refine cg_ct rfl ?_
              refine cg_region ?_
              refine lsw (want_none (by rfl)) (y_move rfl rfl) rfl (by decide) ?_
              refine lsw (want_none (by rfl)) (yi_add rfl rfl rfl (by omega) (by omega)) rfl (by decide) ?_
              refine lsw (want_none (by rfl)) (y_assign rfl rfl) rfl (by decide) ?_
              refine lg_nil ?_
              refine eg_block_norm ?_
              refine nx (E' := [(1, _), (5, _), (6, _), (8, _), (10, _), (12, _), (90, _), (91, _), (92, _), (93, _), (97, _), (98, _), (99, _), (100, _), (101, _), (102, _), (96, _), (103, _), (104, _), (13, _), (14, _), (105, _), (106, _), (107, _), (108, _), (109, _), (110, _), (111, _), (112, _), (113, _), (114, _), (115, _), (116, _), (11, _)]) (fk rfl (fk rfl (fk rfl (fk rfl (fk rfl (fk rfl (fk rfl (fk rfl (fk rfl (fk rfl (fk rfl (fk rfl (fk rfl (fk rfl (fk rfl (fk rfl (fk rfl (fk rfl (fk rfl (fk rfl (fk rfl (fk rfl (fk rfl (fk rfl (fk rfl (fk rfl (fk rfl (fk rfl (fk rfl (fk rfl (fk rfl (fk rfl (fk rfl (fk rfl fn)))))))))))))))))))))))))))))))))) ?_
              refine cg_region ?_
              refine lsw (want_none (by rfl)) (y_move rfl rfl) rfl (by decide) ?_
              refine lsw (want_none (by rfl)) (yi_add rfl rfl rfl (by omega) (by omega)) rfl (by decide) ?_
              refine lsw (want_none (by rfl)) (y_assign rfl rfl) rfl (by decide) ?_
              refine lg_nil ?_
              exact fun a ha => (show s < (copI x w).length ∧ _ from ⟨(by omega), (n + 1), (j + 1), ha.keep (fk rfl (fk rfl (fk rfl (fk rfl (fk rfl (fk rfl (fk rfl fn))))))), m3, hs, u, ⟨(by omega), (by omega)⟩, (by rw [take_succ_getD _ _ (by omega), cntI_snoc, if_pos ⟨c10, c11⟩]; omega)⟩)
            · refine lsw (want_t (dj := 109) (by rfl) (by kernel_rfl) rfl) (yb (decide_eq_false c11) (yi_leq rfl rfl rfl)) rfl (by decide) ?_
              refine lsw (want_none (by rfl)) (y_pick true rfl rfl rfl) rfl (by decide) ?_
              refine lg_nil ?_
              refine nx (E' := [(1, _), (5, _), (6, _), (8, _), (10, _), (11, _), (12, _), (90, _), (91, _), (92, _), (93, _), (97, _), (98, _), (99, _), (100, _), (101, _), (102, _), (96, _), (103, _), (104, _), (13, _), (14, _), (105, _), (106, _), (107, _), (108, _), (109, _), (110, _), (111, _), (112, _), (113, _), (114, _)]) (fk rfl (fk rfl (fk rfl (fk rfl (fk rfl (fk rfl (fk rfl (fk rfl (fk rfl (fk rfl (fk rfl (fk rfl (fk rfl (fk rfl (fk rfl (fk rfl (fk rfl (fk rfl (fk rfl (fk rfl (fk rfl (fk rfl (fk rfl (fk rfl (fk rfl (fk rfl (fk rfl (fk rfl (fk rfl (fk rfl (fk rfl (fk rfl fn)))))))))))))))))))))))))))))))) ?_
              refine cg_cf rfl ?_
              refine cg_skip ?_
              refine eg_block_norm ?_
              refine nx (E' := [(1, _), (5, _), (6, _), (8, _), (10, _), (11, _), (12, _), (90, _), (91, _), (92, _), (93, _), (97, _), (98, _), (99, _), (100, _), (101, _), (102, _), (96, _), (103, _), (104, _), (13, _), (14, _), (105, _), (106, _), (107, _), (108, _), (109, _), (110, _), (111, _), (112, _), (113, _), (114, _)]) (fk rfl (fk rfl (fk rfl (fk rfl (fk rfl (fk rfl (fk rfl (fk rfl (fk rfl (fk rfl (fk rfl (fk rfl (fk rfl (fk rfl (fk rfl (fk rfl (fk rfl (fk rfl (fk rfl (fk rfl (fk rfl (fk rfl (fk rfl (fk rfl (fk rfl (fk rfl (fk rfl (fk rfl (fk rfl (fk rfl (fk rfl (fk rfl fn)))))))))))))))))))))))))))))))) ?_
              refine cg_region ?_
              refine lsw (want_none (by rfl)) (y_move rfl rfl) rfl (by decide) ?_
              refine lsw (want_none (by rfl)) (yi_add rfl rfl rfl (by omega) (by omega)) rfl (by decide) ?_
              refine lsw (want_none (by rfl)) (y_assign rfl rfl) rfl (by decide) ?_
              refine lg_nil ?_
              exact fun a ha => (show s < (copI x w).length ∧ _ from ⟨(by omega), n, (j + 1), ha.keep (fk rfl (fk rfl (fk rfl (fk rfl (fk rfl (fk rfl (fk rfl fn))))))), m3, hs, u, ⟨(by omega), (by omega)⟩, (by rw [take_succ_getD _ _ (by omega), cntI_snoc, if_neg (fun q => c11 q.2)]; omega)⟩)
          · refine lsw (want_none (by rfl)) (yb (decide_eq_false c10) (yi_leq rfl rfl rfl)) rfl (by decide) ?_
            refine lsw (want_none (by rfl)) (y_move rfl rfl) rfl (by decide) ?_
            refine lsk (want_f (dj := 109) (by rfl) (by kernel_rfl) rfl) rfl (by decide) ?_
            refine lsk (want_f (dj := 109) (by rfl) (by kernel_rfl) rfl) rfl (by decide) ?_
            refine lsk (want_f (dj := 109) (by rfl) (by kernel_rfl) rfl) rfl (by decide) ?_
            refine lsk (want_f (dj := 109) (by rfl) (by kernel_rfl) rfl) rfl (by decide) ?_
            refine lsw (want_none (by rfl)) (y_pick false rfl rfl rfl) rfl (by decide) ?_
            refine lg_nil ?_
            refine nx (E' := [(1, _), (5, _), (6, _), (8, _), (10, _), (11, _), (12, _), (90, _), (91, _), (92, _), (93, _), (97, _), (98, _), (99, _), (100, _), (101, _), (102, _), (96, _), (103, _), (104, _), (13, _), (14, _), (105, _), (106, _), (107, _), (108, _), (109, _), (114, _)]) (fk rfl (fk rfl (fk rfl (fk rfl (fk rfl (fk rfl (fk rfl (fk rfl (fk rfl (fk rfl (fk rfl (fk rfl (fk rfl (fk rfl (fk rfl (fk rfl (fk rfl (fk rfl (fk rfl (fk rfl (fk rfl (fk rfl (fk rfl (fk rfl (fk rfl (fk rfl (fk rfl (fk rfl fn)))))))))))))))))))))))))))) ?_
            refine cg_cf rfl ?_
            refine cg_skip ?_
            refine eg_block_norm ?_
            refine nx (E' := [(1, _), (5, _), (6, _), (8, _), (10, _), (11, _), (12, _), (90, _), (91, _), (92, _), (93, _), (97, _), (98, _), (99, _), (100, _), (101, _), (102, _), (96, _), (103, _), (104, _), (13, _), (14, _), (105, _), (106, _), (107, _), (108, _), (109, _), (114, _)]) (fk rfl (fk rfl (fk rfl (fk rfl (fk rfl (fk rfl (fk rfl (fk rfl (fk rfl (fk rfl (fk rfl (fk rfl (fk rfl (fk rfl (fk rfl (fk rfl (fk rfl (fk rfl (fk rfl (fk rfl (fk rfl (fk rfl (fk rfl (fk rfl (fk rfl (fk rfl (fk rfl (fk rfl fn)))))))))))))))))))))))))))) ?_
            refine cg_region ?_
            refine lsw (want_none (by rfl)) (y_move rfl rfl) rfl (by decide) ?_
            refine lsw (want_none (by rfl)) (yi_add rfl rfl rfl (by omega) (by omega)) rfl (by decide) ?_
            refine lsw (want_none (by rfl)) (y_assign rfl rfl) rfl (by decide) ?_
            refine lg_nil ?_
            exact fun a ha => (show s < (copI x w).length ∧ _ from ⟨(by omega), n, (j + 1), ha.keep (fk rfl (fk rfl (fk rfl (fk rfl (fk rfl (fk rfl (fk rfl fn))))))), m3, hs, u, ⟨(by omega), (by omega)⟩, (by rw [take_succ_getD _ _ (by omega), cntI_snoc, if_neg (fun q => c10 q.1)]; omega)⟩)
        · refine lsw (want_none (by rfl)) (yb (decide_eq_false c9) (yi_lss rfl rfl rfl)) rfl (by decide) ?_
          refine lg_nil ?_
          refine nx (E' := [(1, _), (5, _), (6, _), (8, _), (10, _), (11, _), (12, _), (90, _), (91, _), (92, _), (93, _)]) (fk rfl (fk rfl (fk rfl (fk rfl (fk rfl (fk rfl (fk rfl (fk rfl (fk rfl (fk rfl (fk rfl fn))))))))))) ?_
          refine cg_cf rfl ?_
          have hb : n = ((if x = y then 0 else 1 : Nat) : Int) := by rw [hc, List.take_of_length_le (by omega), beside hn ⟨hn.1, by omega, by omega⟩ (by omega) (by omega)]
          refine cg_exit ?_
          refine eg_seq_exit ?_
          refine eg_seq_exit ?_
          refine eg_block_exit ?_
          refine nx (E' := [(1, _), (5, _), (6, _), (8, _), (10, _), (11, _), (12, _), (90, _), (91, _), (92, _), (93, _)]) (fk rfl (fk rfl (fk rfl (fk rfl (fk rfl (fk rfl (fk rfl (fk rfl (fk rfl (fk rfl (fk rfl fn))))))))))) ?_
          refine cg_seq ?_
          refine cg_region ?_
          refine lsw (want_none (by rfl)) (y_move rfl rfl) rfl (by decide) ?_
          by_cases c12 : n = 1
          · refine lsw (want_none (by rfl)) (yb (nd_f c12) (yi_neq rfl rfl rfl)) rfl (by decide) ?_
            refine lsw (want_none (by rfl)) (y_move rfl rfl) rfl (by decide) ?_
            refine lsk (want_f (dj := 119) (by rfl) (by kernel_rfl) rfl) rfl (by decide) ?_
            refine lsk (want_f (dj := 119) (by rfl) (by kernel_rfl) rfl) rfl (by decide) ?_
            refine lsk (want_f (dj := 119) (by rfl) (by kernel_rfl) rfl) rfl (by decide) ?_
            refine lsw (want_none (by rfl)) (y_pick false rfl rfl rfl) rfl (by decide) ?_
            refine lsw (want_none (by rfl)) (y_move rfl rfl) rfl (by decide) ?_
            refine lsw (want_t (dj := 124) (by rfl) (by kernel_rfl) rfl) (y_move rfl rfl) rfl (by decide) ?_
            refine lsw (want_t (dj := 124) (by rfl) (by kernel_rfl) rfl) (yb (nd_t (by omega)) (yi_neq rfl rfl rfl)) rfl (by decide) ?_
            refine lsw (want_t (dj := 124) (by rfl) (by kernel_rfl) rfl) (y_move rfl rfl) rfl (by decide) ?_
            refine lsw (want_t (dj := 127) (by rfl) (by kernel_rfl) rfl) (y_move rfl rfl) rfl (by decide) ?_
            refine lsw (want_t (dj := 127) (by rfl) (by kernel_rfl) rfl) (y_move rfl rfl) rfl (by decide) ?_
            refine lsw (want_t (dj := 127) (by rfl) (by kernel_rfl) rfl) (yb (decide_eq_false (fun q => by rw [if_pos q.symm] at hb; omega)) (yi_eql rfl rfl rfl)) rfl (by decide) ?_
            refine lsw (want_t (dj := 124) (by rfl) (by kernel_rfl) rfl) (y_pick true rfl rfl rfl) rfl (by decide) ?_
            refine lsw (want_none (by rfl)) (y_pick false rfl rfl rfl) rfl (by decide) ?_
            refine lg_nil ?_
            refine nx (E' := [(1, _), (5, _), (6, _), (8, _), (10, _), (11, _), (12, _), (90, _), (91, _), (92, _), (93, _), (117, _), (118, _), (119, _), (123, _), (124, _), (125, _), (126, _), (127, _), (128, _), (129, _), (130, _), (131, _), (132, _)]) (fk rfl (fk rfl (fk rfl (fk rfl (fk rfl (fk rfl (fk rfl (fk rfl (fk rfl (fk rfl (fk rfl (fk rfl (fk rfl (fk rfl (fk rfl (fk rfl (fk rfl (fk rfl (fk rfl (fk rfl (fk rfl (fk rfl (fk rfl (fk rfl fn)))))))))))))))))))))))) ?_
            refine cg_cf rfl ?_
            refine cg_skip ?_
            refine eg_block_norm ?_
            refine nx (E' := [(1, _), (5, _), (6, _), (8, _), (10, _), (11, _), (12, _), (90, _), (91, _), (92, _), (93, _), (117, _), (118, _), (119, _), (123, _), (124, _), (125, _), (126, _), (127, _), (128, _), (129, _), (130, _), (131, _), (132, _)]) (fk rfl (fk rfl (fk rfl (fk rfl (fk rfl (fk rfl (fk rfl (fk rfl (fk rfl (fk rfl (fk rfl (fk rfl (fk rfl (fk rfl (fk rfl (fk rfl (fk rfl (fk rfl (fk rfl (fk rfl (fk rfl (fk rfl (fk rfl (fk rfl fn)))))))))))))))))))))))) ?_
            refine cg_region ?_
            refine lsw (want_none (by rfl)) (y_move rfl rfl) rfl (by decide) ?_
            refine lsw (want_none (by rfl)) (yi_add rfl rfl rfl (by omega) (by omega)) rfl (by decide) ?_
            refine lsw (want_none (by rfl)) (y_assign rfl rfl) rfl (by decide) ?_
            refine lg_nil ?_
            exact fun a ha => (show t < 64 ∧ _ from ⟨(by omega), (y + 2), ha.keep (fk rfl (fk rfl (fk rfl (fk rfl (fk rfl fn))))), m3, hs, u, (by omega)⟩)
          · refine lsw (want_none (by rfl)) (yb (nd_t c12) (yi_neq rfl rfl rfl)) rfl (by decide) ?_
            refine lsw (want_none (by rfl)) (y_move rfl rfl) rfl (by decide) ?_
            refine lsw (want_t (dj := 119) (by rfl) (by kernel_rfl) rfl) (y_move rfl rfl) rfl (by decide) ?_
            refine lsw (want_t (dj := 119) (by rfl) (by kernel_rfl) rfl) (y_move rfl rfl) rfl (by decide) ?_
            refine lsw (want_t (dj := 119) (by rfl) (by kernel_rfl) rfl) (yb (nd_f (Classical.byContradiction fun q => by rw [if_neg (fun z => q z.symm)] at hb; omega)) (yi_neq rfl rfl rfl)) rfl (by decide) ?_
            refine lsw (want_none (by rfl)) (y_pick true rfl rfl rfl) rfl (by decide) ?_
            refine lsw (want_none (by rfl)) (y_move rfl rfl) rfl (by decide) ?_
            refine lsw (want_t (dj := 124) (by rfl) (by kernel_rfl) rfl) (y_move rfl rfl) rfl (by decide) ?_
            refine lsw (want_t (dj := 124) (by rfl) (by kernel_rfl) rfl) (yb (nd_f (by split at hb <;> omega)) (yi_neq rfl rfl rfl)) rfl (by decide) ?_
            refine lsw (want_t (dj := 124) (by rfl) (by kernel_rfl) rfl) (y_move rfl rfl) rfl (by decide) ?_
            refine lsk (want_f (dj := 127) (by rfl) (by kernel_rfl) rfl) rfl (by decide) ?_
            refine lsk (want_f (dj := 127) (by rfl) (by kernel_rfl) rfl) rfl (by decide) ?_
            refine lsk (want_f (dj := 127) (by rfl) (by kernel_rfl) rfl) rfl (by decide) ?_
            refine lsw (want_t (dj := 124) (by rfl) (by kernel_rfl) rfl) (y_pick false rfl rfl rfl) rfl (by decide) ?_
            refine lsw (want_none (by rfl)) (y_pick false rfl rfl rfl) rfl (by decide) ?_
            refine lg_nil ?_
            refine nx (E' := [(1, _), (5, _), (6, _), (8, _), (10, _), (11, _), (12, _), (90, _), (91, _), (92, _), (93, _), (117, _), (118, _), (119, _), (120, _), (121, _), (122, _), (123, _), (124, _), (125, _), (126, _), (127, _), (131, _), (132, _)]) (fk rfl (fk rfl (fk rfl (fk rfl (fk rfl (fk rfl (fk rfl (fk rfl (fk rfl (fk rfl (fk rfl (fk rfl (fk rfl (fk rfl (fk rfl (fk rfl (fk rfl (fk rfl (fk rfl (fk rfl (fk rfl (fk rfl (fk rfl (fk rfl fn)))))))))))))))))))))))) ?_
            refine cg_cf rfl ?_
            refine cg_skip ?_
            refine eg_block_norm ?_
            refine nx (E' := [(1, _), (5, _), (6, _), (8, _), (10, _), (11, _), (12, _), (90, _), (91, _), (92, _), (93, _), (117, _), (118, _), (119, _), (120, _), (121, _), (122, _), (123, _), (124, _), (125, _), (126, _), (127, _), (131, _), (132, _)]) (fk rfl (fk rfl (fk rfl (fk rfl (fk rfl (fk rfl (fk rfl (fk rfl (fk rfl (fk rfl (fk rfl (fk rfl (fk rfl (fk rfl (fk rfl (fk rfl (fk rfl (fk rfl (fk rfl (fk rfl (fk rfl (fk rfl (fk rfl (fk rfl fn)))))))))))))))))))))))) ?_
            refine cg_region ?_
            refine lsw (want_none (by rfl)) (y_move rfl rfl) rfl (by decide) ?_
            refine lsw (want_none (by rfl)) (yi_add rfl rfl rfl (by omega) (by omega)) rfl (by decide) ?_
            refine lsw (want_none (by rfl)) (y_assign rfl rfl) rfl (by decide) ?_
            refine lg_nil ?_
            exact fun a ha => (show t < 64 ∧ _ from ⟨(by omega), (y + 2), ha.keep (fk rfl (fk rfl (fk rfl (fk rfl (fk rfl fn))))), m3, hs, u, (by omega)⟩)
      · refine lsw (want_none (by rfl)) (yb (decide_eq_false c8) (yi_lss rfl rfl rfl)) rfl (by decide) ?_
        refine lg_nil ?_
        refine nx (E' := [(1, _), (5, _), (6, _), (8, _), (10, _), (85, _), (86, _), (87, _)]) (fk rfl (fk rfl (fk rfl (fk rfl (fk rfl (fk rfl (fk rfl (fk rfl fn)))))))) ?_
        refine cg_cf rfl ?_
        refine cg_exit ?_
        refine eg_seq_exit ?_
        refine eg_seq_exit ?_
        refine eg_block_exit ?_
        refine nx (E' := [(5, _)]) (fk rfl fn) ?_
        refine cg_seq ?_
        refine cg_region ?_
        refine lsw (want_none (by rfl)) (y_move rfl rfl) rfl (by decide) ?_
        refine lsw (want_none (by rfl)) (y_assign rfl rfl) rfl (by decide) ?_
        refine lg_nil ?_
        refine nx (E' := [(4, _)]) (fk rfl fn) ?_
        refine cg_ret ?_
        exact eg_ret_tmp rfl rfl ⟨_, rfl, rfl, u⟩
  · refine calls_cg (n := 134) Tryd.func4 rfl Tryd.ntmps4 (by simp) ?_
    show CG _ _ _ [(0, nv leaf), (1, nv w)] _ _
    have u := Below.refl W.heap.size W
    have d0 : (dirI x w).length = 0 := by rw [dir_no hn]; rfl
    have c0 : (copI x w).length = 0 := by rw [cop_no hn]; rfl
    refine cg_seq ?_
    refine cg_region ?_
    refine lsw (want_none (by rfl)) (y_assign rfl rfl) rfl (by decide) ?_
    refine lg_nil ?_
    refine nx (E' := [(0, _), (1, _), (4, _)]) (fk rfl (fk rfl (fk rfl fn))) ?_
    refine cg_seq ?_
    refine cg_region ?_
    refine lg_callw (want_none (by rfl)) (wawake_any _ (rg.up u)) (by kernel_rfl) rfl rfl rfl (by decide) ?_
    rintro _ w1 ⟨rfl, hw1⟩
    have zw1 := hw1.size
    refine lsw (want_none (by rfl)) (y_assign rfl rfl) rfl (by decide) ?_
    refine lg_nil ?_
    refine nx (E' := [(0, _), (1, _), (4, _), (5, _)]) (fk rfl (fk rfl (fk rfl (fk rfl fn)))) ?_
    refine cg_seq ?_
    refine cg_region ?_
    refine lsw (want_none (by rfl)) (y_move rfl rfl) rfl (by decide) ?_
    refine lsw (want_none (by rfl)) (yv (congrArg nv ek) (yi_and rfl rfl rfl)) rfl (by decide) ?_
    refine lsw (want_none (by rfl)) (yv (congrArg nv ex) (yi_mul rfl rfl rfl (by omega) (by omega))) rfl (by decide) ?_
    refine lsw (want_none (by rfl)) (y_assign rfl rfl) rfl (by decide) ?_
    refine lg_nil ?_
    refine nx (E' := [(1, _), (4, _), (5, _), (6, _)]) (fk rfl (fk rfl (fk rfl (fk rfl fn)))) ?_
    refine cg_seq ?_
    refine cg_seq ?_
    refine cg_region ?_
    refine lsw (want_none (by rfl)) (y_move rfl rfl) rfl (by decide) ?_
    refine lsw (want_none (by rfl)) (y_move rfl rfl) rfl (by decide) ?_
    have u := u.trans (hw1.mono u.size)
    refine lsw (want_none (by rfl)) (yb (decide_eq_false hn) (y_call (is_any x w _ (rg.up u)) (by kernel_rfl) rfl rfl)) rfl (by decide) ?_
    refine lsw (want_none (by rfl)) (y_bnot rfl rfl) rfl (by decide) ?_
    refine lg_nil ?_
    refine nx (E' := [(1, _), (4, _), (5, _), (6, _), (22, _)]) (fk rfl (fk rfl (fk rfl (fk rfl (fk rfl fn))))) ?_
    refine cg_ct rfl ?_
    refine cg_seq ?_
    refine cg_region ?_
    refine lsw (want_none (by rfl)) (y_move rfl rfl) rfl (by decide) ?_
    refine lsw (want_none (by rfl)) (y_move rfl rfl) rfl (by decide) ?_
    refine lsw (want_t (dj := 24) (by rfl) (by kernel_rfl) rfl) (y_move rfl rfl) rfl (by decide) ?_
    refine lsw (want_t (dj := 24) (by rfl) (by kernel_rfl) rfl) (y_move rfl rfl) rfl (by decide) ?_
    refine lg_callw (want_t (dj := 24) (by rfl) (by kernel_rfl) rfl) (copath_any x w _ (rg.up u)) (by kernel_rfl) rfl rfl rfl (by decide) ?_
    rintro _ w2 ⟨A2, c2, rfl, i2, m2, hw2⟩
    have zw2 := hw2.size
    have ml2 := m2.1
    have dl2 := cop_len x w
    refine lsw (want_t (dj := 24) (by rfl) (by kernel_rfl) rfl) (y_len (el := 3) (by kernel_rfl) rfl rfl) rfl (by decide) ?_
    refine lsw (want_t (dj := 24) (by rfl) (by kernel_rfl) rfl) (yb (decide_eq_true (by omega)) (yi_eql rfl rfl rfl)) rfl (by decide) ?_
    refine lsw (want_none (by rfl)) (y_pick true rfl rfl rfl) rfl (by decide) ?_
    refine lsw (want_none (by rfl)) (y_move rfl rfl) rfl (by decide) ?_
    refine lsw (want_t (dj := 31) (by rfl) (by kernel_rfl) rfl) (y_move rfl rfl) rfl (by decide) ?_
    refine lsw (want_t (dj := 31) (by rfl) (by kernel_rfl) rfl) (y_move rfl rfl) rfl (by decide) ?_
    have u := u.trans (hw2.mono u.size)
    refine lg_callw (want_t (dj := 31) (by rfl) (by kernel_rfl) rfl) (direct_any x w _ (rg.up u)) (by kernel_rfl) rfl rfl rfl (by decide) ?_
    rintro _ w3 ⟨A3, c3, rfl, i3, m3, hw3⟩
    have zw3 := hw3.size
    have ml3 := m3.1
    have dl3 := dirL x w
    refine lsw (want_t (dj := 31) (by rfl) (by kernel_rfl) rfl) (y_len (el := 3) (by kernel_rfl) rfl rfl) rfl (by decide) ?_
    refine lsw (want_t (dj := 31) (by rfl) (by kernel_rfl) rfl) (yb (decide_eq_true (by omega)) (yi_eql rfl rfl rfl)) rfl (by decide) ?_
    refine lsw (want_none (by rfl)) (y_pick true rfl rfl rfl) rfl (by decide) ?_
    refine lsw (want_none (by rfl)) (y_assign rfl rfl) rfl (by decide) ?_
    refine lg_nil ?_
    refine nx (E' := [(1, _), (5, _), (6, _), (4, _)]) (fk rfl (fk rfl (fk rfl (fk rfl fn)))) ?_
    refine cg_ret ?_
    refine eg_seq_ret ?_
    have u := u.trans (hw3.mono u.size)
    exact eg_ret_tmp rfl rfl ⟨_, rfl, rfl, u⟩
end Go.Proofs.YtgcneppjdhnacaaDoor
