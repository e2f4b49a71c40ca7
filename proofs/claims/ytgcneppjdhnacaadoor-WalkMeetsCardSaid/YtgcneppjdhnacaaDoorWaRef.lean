/-
  Ways up: what the document answers.
-/
import Derived.Test.YtgcneppjdhnacaaDoorWaProg
import Derived.Test.YtgcneppjdhnacaaDoorIxRef
namespace Go.Proofs.YtgcneppjdhnacaaDoor
open Go.ChangeShapes Go.WideShapes Go.ChangeAt Go.RowKit
set_option linter.unusedVariables false
set_option maxRecDepth 20000
theorem cop_next {x w : Int} (h : 0 ≤ parI x w) : copI x w = sibI x w :: copI (parI x w) w := by
  have hn : isN x w := Classical.byContradiction fun q => by rw [par_no q] at h; omega
  have := cop_step hn
  rwa [if_neg (by omega)] at this
theorem cop_end {x w : Int} (h : ¬ 0 ≤ parI x w) : copI x w = [] := by
  by_cases hn : isN x w
  · have := cop_step hn
    rwa [if_pos (by omega)] at this
  · exact cop_no hn
theorem par_val (x w : Int) : parI x w = -1 ∨ isN (parI x w) w := by
  by_cases hn : isN x w
  · exact fin2 (p := fun x w => parI x w = -1 ∨ isN (parI x w) w) (by kernel_rfl) hn
  · exact .inl (par_no hn)
theorem cop_len (x w : Int) : (copI x w).length ≤ 6 := by
  by_cases hn : isN x w
  · exact fin2 (p := fun x w => (copI x w).length ≤ 6) (by kernel_rfl) hn
  · rw [cop_no hn]
    exact Nat.zero_le _
theorem dirL (x w : Int) : (dirI x w).length ≤ 6 := by
  by_cases hn : isN x w
  · exact fin2 (p := fun x w => (dirI x w).length ≤ 6) (by kernel_rfl) hn
  · rw [dir_no hn]
    exact Nat.zero_le _
theorem rdirect_any (x w : Int) (W : World) (rg : Tb W) : Calls Tryd.prog 14 #[nv x, nv w] W fun e W' => ∃ v, e = .returned v ∧ ∃ A c, v = .slice A (dirI x w).length c ∧ (dirI x w).length ≤ c ∧ Nums W' W'.heap.size A (dirI x w).length (dirI x w) ∧ Below W.heap.size W W' := by
  refine calls_cg (n := 20) Tryd.func14 rfl Tryd.ntmps14 (by simp) ?_
  show CG _ _ _ [(0, nv x), (1, nv w)] _ _
  have u := Below.refl W.heap.size W
  refine cg_seq ?_
  refine cg_region ?_
  refine lsw (want_none (by rfl)) (y_assign rfl rfl) rfl (by decide) ?_
  refine lg_nil ?_
  refine nx (E' := [(0, _), (1, _), (4, _)]) (fk rfl (fk rfl (fk rfl fn))) ?_
  refine cg_seq ?_
  refine cg_region ?_
  refine lsw (want_none (by rfl)) (y_assign rfl rfl) rfl (by decide) ?_
  refine lg_nil ?_
  refine nx (E' := [(0, _), (1, _), (4, _), (5, _)]) (fk rfl (fk rfl (fk rfl (fk rfl fn)))) ?_
  refine cg_seq ?_
  refine cg_region ?_
  refine lsw (want_none (by rfl)) (y_move rfl rfl) rfl (by decide) ?_
  refine lsw (want_none (by rfl)) (y_move rfl rfl) rfl (by decide) ?_
  refine lsw (want_none (by rfl)) (y_call (rparent_any x w _ (rg.up u)) (by kernel_rfl) rfl rfl) rfl (by decide) ?_
  refine lsw (want_none (by rfl)) (y_assign rfl rfl) rfl (by decide) ?_
  refine lg_nil ?_
  refine nx (E' := [(1, _), (4, _), (5, _), (6, _)]) (fk rfl (fk rfl (fk rfl (fk rfl fn)))) ?_
  refine cg_seq ?_
  refine cg_block ?_
  refine cg_loopE (fun t a v => ∃ (sv : Value) (pre : List Int) (p : Int), Holds 20 [(1, nv w), (5, sv), (6, nv p)] a ∧ Below W.heap.size W v ∧ v.ownsRow W.heap.size 3 1 sv (pre).length ((pre).map (Value.int .i64)) ∧ dirI x w = pre ++ wayI p w ∧ pre.length = t ∧ (p = -1 ∨ isN p w)) 8 (fun a ha => ⟨_, [], (parI x w), ha.keep (fk rfl (fk rfl (fk rfl fn))), u, own_nilN _ _, (way_par x w).symm, rfl, par_val x w⟩) ?_
  rintro t a v ht ⟨sv, pre, p, ha, u, g0, hp, hl, hv⟩
  refine cg_at ha ?_
  clear ha a
  have zv := u.size
  have dl := dirL x w
  have zv := u.size
  have pl := congrArg List.length hp
  simp at pl
  refine cg_seq ?_
  refine cg_seq ?_
  refine cg_region ?_
  refine lsw (want_none (by rfl)) (y_move rfl rfl) rfl (by decide) ?_
  by_cases c1 : 0 ≤ p
  · refine lsw (want_none (by rfl)) (yb (decide_eq_true c1) (yi_geq rfl rfl rfl)) rfl (by decide) ?_
    refine lg_nil ?_
    refine nx (E' := [(1, _), (5, _), (6, _), (10, _), (11, _)]) (fk rfl (fk rfl (fk rfl (fk rfl (fk rfl fn))))) ?_
    refine cg_ct rfl ?_
    refine cg_skip ?_
    refine nx (E' := [(1, _), (5, _), (6, _), (10, _), (11, _)]) (fk rfl (fk rfl (fk rfl (fk rfl (fk rfl fn))))) ?_
    refine cg_block ?_
    refine cg_seq ?_
    refine cg_region ?_
    refine lsw (want_none (by rfl)) (y_move rfl rfl) rfl (by decide) ?_
    refine lsw (want_none (by rfl)) (y_move rfl rfl) rfl (by decide) ?_
    refine lg_bs1N (want_none (by rfl)) rfl rfl rfl (by decide) fun b2 w2 n2 => ?_
    have r2 := n2.row
    have k2 := n2.blk
    have z2 := n2.size
    have m2 := nums_new1 n2
    have g0 := own_below g0 n2.below
    refine lg_appK g0 r2 (by first | omega | (simp; omega)) (by omega) (want_none (by rfl)) rfl rfl rfl rfl rfl (by decide) fun v3 w3 g3 l3 f3 => ?_
    have z3 := l3.size
    obtain ⟨A3, c3, rfl, N3⟩ := own_nums_any g3
    refine lsw (want_none (by rfl)) (y_assign rfl rfl) rfl (by decide) ?_
    refine lg_nil ?_
    refine nx (E' := [(1, _), (6, _), (10, _), (11, _), (12, _), (13, _), (14, _), (15, _), (5, _)]) (fk rfl (fk rfl (fk rfl (fk rfl (fk rfl (fk rfl (fk rfl (fk rfl (fk rfl fn))))))))) ?_
    refine cg_region ?_
    refine lsw (want_none (by rfl)) (y_move rfl rfl) rfl (by decide) ?_
    refine lsw (want_none (by rfl)) (y_move rfl rfl) rfl (by decide) ?_
    have u := u.trans (n2.below.mono u.size)
    have u := u.trans (l3.mono (by omega))
    refine lsw (want_none (by rfl)) (y_call (rparent_any p w _ (rg.up u)) (by kernel_rfl) rfl rfl) rfl (by decide) ?_
    refine lsw (want_none (by rfl)) (y_assign rfl rfl) rfl (by decide) ?_
    refine lg_nil ?_
    refine eg_block_norm ?_
    have hn : isN p w := hv.resolve_left (by omega)
    have hp' : dirI x w = (pre ++ [p]) ++ wayI (parI p w) w := by rw [hp, way_yes hn, List.append_assoc]; rfl
    have hq := congrArg List.length hp'
    simp at hq
    exact fun a ha => (show t < 8 ∧ _ from ⟨(by omega), _, (pre ++ [p]), (parI p w), ha.keep (fk rfl (fk rfl (fk rfl fn))), u, g3, hp', (by simp; omega), par_val p w⟩)
  · refine lsw (want_none (by rfl)) (yb (decide_eq_false c1) (yi_geq rfl rfl rfl)) rfl (by decide) ?_
    refine lg_nil ?_
    refine nx (E' := [(1, _), (5, _), (6, _), (10, _), (11, _)]) (fk rfl (fk rfl (fk rfl (fk rfl (fk rfl fn))))) ?_
    refine cg_cf rfl ?_
    have hne : ¬ isN p w := fun q => c1 q.2.1
    rw [way_no hne, List.append_nil] at hp
    subst hp
    obtain ⟨A0, c0, rfl, N0⟩ := own_nums_any g0
    refine cg_exit ?_
    refine eg_seq_exit ?_
    refine eg_seq_exit ?_
    refine eg_block_exit ?_
    refine nx (E' := [(5, _)]) (fk rfl fn) ?_
    refine cg_seq ?_
    refine cg_region ?_
    refine lsw (want_none (by rfl)) (y_move rfl rfl) rfl (by decide) ?_
    refine lsw (want_none (by rfl)) (y_assign rfl rfl) rfl (by decide) ?_
    refine lg_nil ?_
    refine nx (E' := [(4, _)]) (fk rfl fn) ?_
    refine cg_ret ?_
    exact eg_ret_tmp rfl rfl ⟨_, rfl, A0, c0, rfl, own_capN g0 rfl, own_numsA g0, u⟩
theorem rcopath_any (x w : Int) (W : World) (rg : Tb W) : Calls Tryd.prog 16 #[nv x, nv w] W fun e W' => ∃ v, e = .returned v ∧ ∃ A c, v = .slice A (copI x w).length c ∧ (copI x w).length ≤ c ∧ Nums W' W'.heap.size A (copI x w).length (copI x w) ∧ Below W.heap.size W W' := by
  refine calls_cg (n := 20) Tryd.func16 rfl Tryd.ntmps16 (by simp) ?_
  show CG _ _ _ [(0, nv x), (1, nv w)] _ _
  have u := Below.refl W.heap.size W
  refine cg_seq ?_
  refine cg_region ?_
  refine lsw (want_none (by rfl)) (y_assign rfl rfl) rfl (by decide) ?_
  refine lg_nil ?_
  refine nx (E' := [(0, _), (1, _), (4, _)]) (fk rfl (fk rfl (fk rfl fn))) ?_
  refine cg_seq ?_
  refine cg_region ?_
  refine lsw (want_none (by rfl)) (y_assign rfl rfl) rfl (by decide) ?_
  refine lg_nil ?_
  refine nx (E' := [(0, _), (1, _), (4, _), (5, _)]) (fk rfl (fk rfl (fk rfl (fk rfl fn)))) ?_
  refine cg_seq ?_
  refine cg_block ?_
  refine cg_loopE (fun t a v => ∃ (sv : Value) (pre : List Int) (p : Int), Holds 20 [(0, nv p), (1, nv w), (5, sv)] a ∧ Below W.heap.size W v ∧ v.ownsRow W.heap.size 3 1 sv (pre).length ((pre).map (Value.int .i64)) ∧ copI x w = pre ++ copI p w ∧ pre.length = t) 8 (fun a ha => ⟨_, [], x, ha.keep (fk rfl (fk rfl (fk rfl fn))), u, own_nilN _ _, rfl, rfl⟩) ?_
  rintro t a v ht ⟨sv, pre, p, ha, u, g0, hp, hl⟩
  refine cg_at ha ?_
  clear ha a
  have zv := u.size
  have dl := cop_len x w
  have zv := u.size
  have pl := congrArg List.length hp
  simp at pl
  refine cg_seq ?_
  refine cg_seq ?_
  refine cg_region ?_
  refine lsw (want_none (by rfl)) (y_move rfl rfl) rfl (by decide) ?_
  refine lsw (want_none (by rfl)) (y_move rfl rfl) rfl (by decide) ?_
  refine lsw (want_none (by rfl)) (y_call (rparent_any p w _ (rg.up u)) (by kernel_rfl) rfl rfl) rfl (by decide) ?_
  by_cases c1 : 0 ≤ (parI p w)
  · refine lsw (want_none (by rfl)) (yb (decide_eq_true c1) (yi_geq rfl rfl rfl)) rfl (by decide) ?_
    refine lg_nil ?_
    refine nx (E' := [(0, _), (1, _), (5, _), (6, _), (7, _), (8, _), (9, _)]) (fk rfl (fk rfl (fk rfl (fk rfl (fk rfl (fk rfl (fk rfl fn))))))) ?_
    refine cg_ct rfl ?_
    refine cg_skip ?_
    refine nx (E' := [(0, _), (1, _), (5, _), (6, _), (7, _), (8, _), (9, _)]) (fk rfl (fk rfl (fk rfl (fk rfl (fk rfl (fk rfl (fk rfl fn))))))) ?_
    refine cg_block ?_
    refine cg_seq ?_
    refine cg_region ?_
    refine lsw (want_none (by rfl)) (y_move rfl rfl) rfl (by decide) ?_
    refine lsw (want_none (by rfl)) (y_move rfl rfl) rfl (by decide) ?_
    refine lsw (want_none (by rfl)) (y_move rfl rfl) rfl (by decide) ?_
    refine lsw (want_none (by rfl)) (y_call (rsibling_any p w _ (rg.up u)) (by kernel_rfl) rfl rfl) rfl (by decide) ?_
    refine lg_bs1N (want_none (by rfl)) rfl rfl rfl (by decide) fun b2 w2 n2 => ?_
    have r2 := n2.row
    have k2 := n2.blk
    have z2 := n2.size
    have m2 := nums_new1 n2
    have g0 := own_below g0 n2.below
    refine lg_appK g0 r2 (by first | omega | (simp; omega)) (by omega) (want_none (by rfl)) rfl rfl rfl rfl rfl (by decide) fun v3 w3 g3 l3 f3 => ?_
    have z3 := l3.size
    obtain ⟨A3, c3, rfl, N3⟩ := own_nums_any g3
    refine lsw (want_none (by rfl)) (y_assign rfl rfl) rfl (by decide) ?_
    refine lg_nil ?_
    refine nx (E' := [(0, _), (1, _), (6, _), (7, _), (8, _), (9, _), (10, _), (11, _), (12, _), (13, _), (14, _), (15, _), (5, _)]) (fk rfl (fk rfl (fk rfl (fk rfl (fk rfl (fk rfl (fk rfl (fk rfl (fk rfl (fk rfl (fk rfl (fk rfl (fk rfl fn))))))))))))) ?_
    refine cg_region ?_
    refine lsw (want_none (by rfl)) (y_move rfl rfl) rfl (by decide) ?_
    refine lsw (want_none (by rfl)) (y_move rfl rfl) rfl (by decide) ?_
    have u := u.trans (n2.below.mono u.size)
    have u := u.trans (l3.mono (by omega))
    refine lsw (want_none (by rfl)) (y_call (rparent_any p w _ (rg.up u)) (by kernel_rfl) rfl rfl) rfl (by decide) ?_
    refine lsw (want_none (by rfl)) (y_assign rfl rfl) rfl (by decide) ?_
    refine lg_nil ?_
    refine eg_block_norm ?_
    have hp' : copI x w = (pre ++ [sibI p w]) ++ copI (parI p w) w := by rw [hp, cop_next c1, List.append_assoc]; rfl
    have hq := congrArg List.length hp'
    simp at hq
    exact fun a ha => (show t < 8 ∧ _ from ⟨(by omega), _, (pre ++ [sibI p w]), (parI p w), ha.keep (fk rfl (fk rfl (fk rfl fn))), u, g3, hp', (by simp; omega)⟩)
  · refine lsw (want_none (by rfl)) (yb (decide_eq_false c1) (yi_geq rfl rfl rfl)) rfl (by decide) ?_
    refine lg_nil ?_
    refine nx (E' := [(0, _), (1, _), (5, _), (6, _), (7, _), (8, _), (9, _)]) (fk rfl (fk rfl (fk rfl (fk rfl (fk rfl (fk rfl (fk rfl fn))))))) ?_
    refine cg_cf rfl ?_
    rw [cop_end c1, List.append_nil] at hp
    subst hp
    obtain ⟨A0, c0, rfl, N0⟩ := own_nums_any g0
    refine cg_exit ?_
    refine eg_seq_exit ?_
    refine eg_seq_exit ?_
    refine eg_block_exit ?_
    refine nx (E' := [(5, _)]) (fk rfl fn) ?_
    refine cg_seq ?_
    refine cg_region ?_
    refine lsw (want_none (by rfl)) (y_move rfl rfl) rfl (by decide) ?_
    refine lsw (want_none (by rfl)) (y_assign rfl rfl) rfl (by decide) ?_
    refine lg_nil ?_
    refine nx (E' := [(4, _)]) (fk rfl fn) ?_
    refine cg_ret ?_
    exact eg_ret_tmp rfl rfl ⟨_, rfl, A0, c0, rfl, own_capN g0 rfl, own_numsA g0, u⟩
theorem getD_mem {xs : List Int} {i : Nat} (h : i < xs.length) : xs.getD i 0 ∈ xs := by
  rw [List.getD_eq_getElem?_getD, List.getElem?_eq_getElem h]
  exact List.getElem_mem h
theorem mem_getD {xs : List Int} {x : Int} (h : x ∈ xs) : ∃ i, i < xs.length ∧ xs.getD i 0 = x := by
  obtain ⟨i, hi, e⟩ := List.mem_iff_getElem.1 h
  exact ⟨i, hi, by rw [List.getD_eq_getElem?_getD, List.getElem?_eq_getElem hi]; exact e⟩
theorem rhas_any (A1 : Option Addr) (m1 e1 : Nat) (xs : List Int) (x : Int) (W : World) (n1 : Nums W W.heap.size A1 m1 xs) (b1 : m1 ≤ 1000000) : Calls Tryd.prog 32 #[.slice A1 m1 e1, nv x] W fun e W' => ∃ v, e = .returned v ∧ v = .bool (decide (x ∈ xs)) ∧ Below W.heap.size W W' := by
  have l1 := n1.1
  refine calls_cg (n := 18) Tryd.func32 rfl Tryd.ntmps32 (by simp) ?_
  show CG _ _ _ [(0, .slice A1 m1 e1), (1, nv x)] _ _
  have u := Below.refl W.heap.size W
  refine cg_seq ?_
  refine cg_region ?_
  refine lsw (want_none (by rfl)) (y_assign rfl rfl) rfl (by decide) ?_
  refine lg_nil ?_
  refine nx (E' := [(0, _), (1, _), (4, _)]) (fk rfl (fk rfl (fk rfl fn))) ?_
  refine cg_seq ?_
  refine cg_seq ?_
  refine cg_region ?_
  refine lsw (want_none (by rfl)) (y_assign rfl rfl) rfl (by decide) ?_
  refine lg_nil ?_
  refine nx (E' := [(0, _), (1, _), (4, _), (5, _)]) (fk rfl (fk rfl (fk rfl (fk rfl fn)))) ?_
  refine cg_block ?_
  refine cg_loopE (fun t a v => ∃ (j : Int), Holds 18 [(0, .slice A1 m1 e1), (1, nv x), (5, nv j)] a ∧ Nums v W.heap.size A1 m1 xs ∧ Below W.heap.size W v ∧ (j = (t : Int) ∧ t ≤ m1) ∧ ∀ i, i < t → xs.getD i 0 ≠ x) m1 (fun a ha => ⟨0, ha.keep (fk rfl (fk rfl (fk rfl fn))), n1, u, ⟨rfl, Nat.zero_le _⟩, (fun i hi => absurd hi (by omega))⟩) ?_
  rintro t a v ht ⟨j, ha, n1, u, hj, he⟩
  refine cg_at ha ?_
  clear ha a
  have zv := u.size
  refine cg_seq ?_
  refine cg_seq ?_
  refine cg_region ?_
  refine lsw (want_none (by rfl)) (y_move rfl rfl) rfl (by decide) ?_
  refine lsw (want_none (by rfl)) (y_move rfl rfl) rfl (by decide) ?_
  refine lsw (want_none (by rfl)) (y_len (el := 3) (by kernel_rfl) rfl rfl) rfl (by decide) ?_
  by_cases c1 : j < (m1 : Int)
  · refine lsw (want_none (by rfl)) (yb (decide_eq_true c1) (yi_lss rfl rfl rfl)) rfl (by decide) ?_
    refine lg_nil ?_
    refine nx (E' := [(0, _), (1, _), (5, _), (6, _), (7, _), (8, _), (9, _)]) (fk rfl (fk rfl (fk rfl (fk rfl (fk rfl (fk rfl (fk rfl fn))))))) ?_
    refine cg_ct rfl ?_
    refine cg_skip ?_
    refine nx (E' := [(0, _), (1, _), (5, _), (6, _), (7, _), (8, _), (9, _)]) (fk rfl (fk rfl (fk rfl (fk rfl (fk rfl (fk rfl (fk rfl fn))))))) ?_
    refine cg_seq ?_
    refine cg_block ?_
    refine cg_seq ?_
    refine cg_region ?_
    refine lsw (want_none (by rfl)) (y_move rfl rfl) rfl (by decide) ?_
    refine lsw (want_none (by rfl)) (y_move rfl rfl) rfl (by decide) ?_
    refine lsw (want_none (by rfl)) (y_ixN (i := t) n1 (by omega) (by omega) rfl rfl rfl) rfl (by decide) ?_
    refine lsw (want_none (by rfl)) (y_ldN n1 (by omega) rfl rfl) rfl (by decide) ?_
    refine lsw (want_none (by rfl)) (y_move rfl rfl) rfl (by decide) ?_
    by_cases c2 : (xs.getD t 0) = x
    · refine lsw (want_none (by rfl)) (yb (decide_eq_true c2) (yi_eql rfl rfl rfl)) rfl (by decide) ?_
      refine lg_nil ?_
      refine nx (E' := [(0, _), (1, _), (5, _), (6, _), (7, _), (8, _), (9, _), (12, _), (13, _), (14, _), (15, _), (16, _), (17, _)]) (fk rfl (fk rfl (fk rfl (fk rfl (fk rfl (fk rfl (fk rfl (fk rfl (fk rfl (fk rfl (fk rfl (fk rfl (fk rfl fn))))))))))))) ?_
      refine cg_ct rfl ?_
      refine cg_seq ?_
      refine cg_region ?_
      refine lsw (want_none (by rfl)) (y_assign rfl rfl) rfl (by decide) ?_
      refine lg_nil ?_
      refine nx (E' := [(0, _), (1, _), (5, _), (6, _), (7, _), (8, _), (9, _), (12, _), (13, _), (14, _), (15, _), (16, _), (17, _), (4, _)]) (fk rfl (fk rfl (fk rfl (fk rfl (fk rfl (fk rfl (fk rfl (fk rfl (fk rfl (fk rfl (fk rfl (fk rfl (fk rfl (fk rfl fn)))))))))))))) ?_
      refine cg_ret ?_
      refine eg_block_ret ?_
      refine eg_seq_ret ?_
      refine eg_seq_ret ?_
      refine eg_block_ret ?_
      refine eg_seq_ret ?_
      exact eg_ret_tmp rfl rfl ⟨_, rfl, congrArg Value.bool (decide_eq_true (by rw [← c2]; exact getD_mem (by omega))).symm, u⟩
    · refine lsw (want_none (by rfl)) (yb (decide_eq_false c2) (yi_eql rfl rfl rfl)) rfl (by decide) ?_
      refine lg_nil ?_
      refine nx (E' := [(0, _), (1, _), (5, _), (6, _), (7, _), (8, _), (9, _), (12, _), (13, _), (14, _), (15, _), (16, _), (17, _)]) (fk rfl (fk rfl (fk rfl (fk rfl (fk rfl (fk rfl (fk rfl (fk rfl (fk rfl (fk rfl (fk rfl (fk rfl (fk rfl fn))))))))))))) ?_
      refine cg_cf rfl ?_
      refine cg_skip ?_
      refine eg_block_norm ?_
      refine nx (E' := [(0, _), (1, _), (5, _), (6, _), (7, _), (8, _), (9, _), (12, _), (13, _), (14, _), (15, _), (16, _), (17, _)]) (fk rfl (fk rfl (fk rfl (fk rfl (fk rfl (fk rfl (fk rfl (fk rfl (fk rfl (fk rfl (fk rfl (fk rfl (fk rfl fn))))))))))))) ?_
      refine cg_region ?_
      refine lsw (want_none (by rfl)) (y_move rfl rfl) rfl (by decide) ?_
      refine lsw (want_none (by rfl)) (yi_add rfl rfl rfl (by omega) (by omega)) rfl (by decide) ?_
      refine lsw (want_none (by rfl)) (y_assign rfl rfl) rfl (by decide) ?_
      refine lg_nil ?_
      exact fun a ha => (show t < m1 ∧ _ from ⟨(by omega), (j + 1), ha.keep (fk rfl (fk rfl (fk rfl fn))), n1, u, ⟨(by omega), (by omega)⟩, (fun i hi => by by_cases q : i = t; subst q; exact c2; exact he i (by omega))⟩)
  · refine lsw (want_none (by rfl)) (yb (decide_eq_false c1) (yi_lss rfl rfl rfl)) rfl (by decide) ?_
    refine lg_nil ?_
    refine nx (E' := [(0, _), (1, _), (5, _), (6, _), (7, _), (8, _), (9, _)]) (fk rfl (fk rfl (fk rfl (fk rfl (fk rfl (fk rfl (fk rfl fn))))))) ?_
    refine cg_cf rfl ?_
    refine cg_exit ?_
    refine eg_seq_exit ?_
    refine eg_seq_exit ?_
    refine eg_block_exit ?_
    refine nx (E' := []) fn ?_
    refine cg_seq ?_
    refine cg_region ?_
    refine lsw (want_none (by rfl)) (y_assign rfl rfl) rfl (by decide) ?_
    refine lg_nil ?_
    refine nx (E' := [(4, _)]) (fk rfl fn) ?_
    refine cg_ret ?_
    exact eg_ret_tmp rfl rfl ⟨_, rfl, congrArg Value.bool (decide_eq_false (fun q => by obtain ⟨i, hi, e⟩ := mem_getD q; exact he i (by omega) e)).symm, u⟩
theorem runder_any (x y w : Int) (W : World) (rg : Tb W) : Calls Tryd.prog 20 #[nv x, nv y, nv w] W fun e W' => ∃ v, e = .returned v ∧ v = .bool (decide (undI x y w)) ∧ Below W.heap.size W W' := by
  refine calls_cg (n := 27) Tryd.func20 rfl Tryd.ntmps20 (by simp) ?_
  show CG _ _ _ [(0, nv x), (1, nv y), (2, nv w)] _ _
  have u := Below.refl W.heap.size W
  refine cg_seq ?_
  refine cg_region ?_
  refine lsw (want_none (by rfl)) (y_assign rfl rfl) rfl (by decide) ?_
  refine lg_nil ?_
  refine nx (E' := [(0, _), (1, _), (2, _), (6, _)]) (fk rfl (fk rfl (fk rfl (fk rfl fn)))) ?_
  refine cg_seq ?_
  refine cg_region ?_
  refine lsw (want_none (by rfl)) (y_move rfl rfl) rfl (by decide) ?_
  refine lsw (want_none (by rfl)) (y_move rfl rfl) rfl (by decide) ?_
  by_cases c1 : isN x w
  · refine lsw (want_none (by rfl)) (yb (decide_eq_true c1) (y_call (ris_any x w _ (rg.up u)) (by kernel_rfl) rfl rfl)) rfl (by decide) ?_
    refine lsw (want_none (by rfl)) (y_move rfl rfl) rfl (by decide) ?_
    refine lsw (want_t (dj := 10) (by rfl) (by kernel_rfl) rfl) (y_move rfl rfl) rfl (by decide) ?_
    refine lsw (want_t (dj := 10) (by rfl) (by kernel_rfl) rfl) (y_move rfl rfl) rfl (by decide) ?_
    by_cases c2 : isN y w
    · refine lsw (want_t (dj := 10) (by rfl) (by kernel_rfl) rfl) (yb (decide_eq_true c2) (y_call (ris_any y w _ (rg.up u)) (by kernel_rfl) rfl rfl)) rfl (by decide) ?_
      refine lsw (want_none (by rfl)) (y_pick true rfl rfl rfl) rfl (by decide) ?_
      refine lsw (want_none (by rfl)) (y_move rfl rfl) rfl (by decide) ?_
      refine lsw (want_t (dj := 15) (by rfl) (by kernel_rfl) rfl) (y_move rfl rfl) rfl (by decide) ?_
      refine lsw (want_t (dj := 15) (by rfl) (by kernel_rfl) rfl) (y_move rfl rfl) rfl (by decide) ?_
      by_cases c3 : x = y
      · refine lsw (want_t (dj := 15) (by rfl) (by kernel_rfl) rfl) (yb (decide_eq_true c3) (yi_eql rfl rfl rfl)) rfl (by decide) ?_
        refine lsw (want_t (dj := 15) (by rfl) (by kernel_rfl) rfl) (y_move rfl rfl) rfl (by decide) ?_
        refine lsk (want_f (dj := 19) (by rfl) (by kernel_rfl) rfl) rfl (by decide) ?_
        refine lsk (want_f (dj := 19) (by rfl) (by kernel_rfl) rfl) rfl (by decide) ?_
        refine lsk (want_f (dj := 19) (by rfl) (by kernel_rfl) rfl) rfl (by decide) ?_
        refine lsk (want_f (dj := 19) (by rfl) (by kernel_rfl) rfl) rfl (by decide) ?_
        refine lsk (want_f (dj := 19) (by rfl) (by kernel_rfl) rfl) rfl (by decide) ?_
        refine lsw (want_t (dj := 15) (by rfl) (by kernel_rfl) rfl) (y_pick true rfl rfl rfl) rfl (by decide) ?_
        refine lsw (want_none (by rfl)) (y_pick true rfl rfl rfl) rfl (by decide) ?_
        refine lsw (want_none (by rfl)) (y_assign rfl rfl) rfl (by decide) ?_
        refine lg_nil ?_
        refine nx (E' := [(6, _)]) (fk rfl fn) ?_
        refine cg_ret ?_
        exact eg_ret_tmp rfl rfl ⟨_, rfl, congrArg Value.bool (decide_eq_true ((und_dir c1 c2).1 (.inl c3))).symm, u⟩
      · refine lsw (want_t (dj := 15) (by rfl) (by kernel_rfl) rfl) (yb (decide_eq_false c3) (yi_eql rfl rfl rfl)) rfl (by decide) ?_
        refine lsw (want_t (dj := 15) (by rfl) (by kernel_rfl) rfl) (y_move rfl rfl) rfl (by decide) ?_
        refine lsw (want_t (dj := 19) (by rfl) (by kernel_rfl) rfl) (y_move rfl rfl) rfl (by decide) ?_
        refine lsw (want_t (dj := 19) (by rfl) (by kernel_rfl) rfl) (y_move rfl rfl) rfl (by decide) ?_
        refine lg_callw (want_t (dj := 19) (by rfl) (by kernel_rfl) rfl) (rdirect_any x w _ (rg.up u)) (by kernel_rfl) rfl rfl rfl (by decide) ?_
        rintro _ w4 ⟨A4, c4, rfl, i4, m4, hw4⟩
        have zw4 := hw4.size
        have ml4 := m4.1
        have dl4 := dirL x w
        refine lsw (want_t (dj := 19) (by rfl) (by kernel_rfl) rfl) (y_move rfl rfl) rfl (by decide) ?_
        by_cases c5 : y ∈ (dirI x w)
        · refine lg_callw (want_t (dj := 19) (by rfl) (by kernel_rfl) rfl) (rhas_any _ _ _ _ y _ m4 (Nat.le_trans (dirL _ _) (by decide))) (by kernel_rfl) rfl rfl rfl (by decide) ?_
          rintro u6 w6 ⟨e6, hw6⟩
          have zw6 := hw6.size
          obtain rfl : u6 = .bool true := e6.trans (congrArg Value.bool (decide_eq_true c5))
          refine lsw (want_t (dj := 15) (by rfl) (by kernel_rfl) rfl) (y_pick false rfl rfl rfl) rfl (by decide) ?_
          refine lsw (want_none (by rfl)) (y_pick true rfl rfl rfl) rfl (by decide) ?_
          refine lsw (want_none (by rfl)) (y_assign rfl rfl) rfl (by decide) ?_
          refine lg_nil ?_
          refine nx (E' := [(6, _)]) (fk rfl fn) ?_
          refine cg_ret ?_
          have u := u.trans (hw4.mono u.size)
          have u := u.trans (hw6.mono u.size)
          exact eg_ret_tmp rfl rfl ⟨_, rfl, congrArg Value.bool (decide_eq_true ((und_dir c1 c2).1 (.inr c5))).symm, u⟩
        · refine lg_callw (want_t (dj := 19) (by rfl) (by kernel_rfl) rfl) (rhas_any _ _ _ _ y _ m4 (Nat.le_trans (dirL _ _) (by decide))) (by kernel_rfl) rfl rfl rfl (by decide) ?_
          rintro u7 w7 ⟨e7, hw7⟩
          have zw7 := hw7.size
          obtain rfl : u7 = .bool false := e7.trans (congrArg Value.bool (decide_eq_false c5))
          refine lsw (want_t (dj := 15) (by rfl) (by kernel_rfl) rfl) (y_pick false rfl rfl rfl) rfl (by decide) ?_
          refine lsw (want_none (by rfl)) (y_pick true rfl rfl rfl) rfl (by decide) ?_
          refine lsw (want_none (by rfl)) (y_assign rfl rfl) rfl (by decide) ?_
          refine lg_nil ?_
          refine nx (E' := [(6, _)]) (fk rfl fn) ?_
          refine cg_ret ?_
          have u := u.trans (hw4.mono u.size)
          have u := u.trans (hw7.mono u.size)
          exact eg_ret_tmp rfl rfl ⟨_, rfl, congrArg Value.bool (decide_eq_false (fun q => ((und_dir c1 c2).2 q).elim c3 c5)).symm, u⟩
    · refine lsw (want_t (dj := 10) (by rfl) (by kernel_rfl) rfl) (yb (decide_eq_false c2) (y_call (ris_any y w _ (rg.up u)) (by kernel_rfl) rfl rfl)) rfl (by decide) ?_
      refine lsw (want_none (by rfl)) (y_pick true rfl rfl rfl) rfl (by decide) ?_
      refine lsw (want_none (by rfl)) (y_move rfl rfl) rfl (by decide) ?_
      refine lsk (want_f (dj := 15) (by rfl) (by kernel_rfl) rfl) rfl (by decide) ?_
      refine lsk (want_f (dj := 15) (by rfl) (by kernel_rfl) rfl) rfl (by decide) ?_
      refine lsk (want_f (dj := 15) (by rfl) (by kernel_rfl) rfl) rfl (by decide) ?_
      refine lsk (want_f (dj := 15) (by rfl) (by kernel_rfl) rfl) rfl (by decide) ?_
      refine lsk (want_u (dj := 19) (by rfl) (by kernel_rfl) rfl) rfl (by decide) ?_
      refine lsk (want_u (dj := 19) (by rfl) (by kernel_rfl) rfl) rfl (by decide) ?_
      refine lsk (want_u (dj := 19) (by rfl) (by kernel_rfl) rfl) rfl (by decide) ?_
      refine lsk (want_u (dj := 19) (by rfl) (by kernel_rfl) rfl) rfl (by decide) ?_
      refine lsk (want_u (dj := 19) (by rfl) (by kernel_rfl) rfl) rfl (by decide) ?_
      refine lsk (want_f (dj := 15) (by rfl) (by kernel_rfl) rfl) rfl (by decide) ?_
      refine lsw (want_none (by rfl)) (y_pick false rfl rfl rfl) rfl (by decide) ?_
      refine lsw (want_none (by rfl)) (y_assign rfl rfl) rfl (by decide) ?_
      refine lg_nil ?_
      refine nx (E' := [(6, _)]) (fk rfl fn) ?_
      refine cg_ret ?_
      exact eg_ret_tmp rfl rfl ⟨_, rfl, congrArg Value.bool (decide_eq_false (fun q => c2 q.2.1)).symm, u⟩
  · refine lsw (want_none (by rfl)) (yb (decide_eq_false c1) (y_call (ris_any x w _ (rg.up u)) (by kernel_rfl) rfl rfl)) rfl (by decide) ?_
    refine lsw (want_none (by rfl)) (y_move rfl rfl) rfl (by decide) ?_
    refine lsk (want_f (dj := 10) (by rfl) (by kernel_rfl) rfl) rfl (by decide) ?_
    refine lsk (want_f (dj := 10) (by rfl) (by kernel_rfl) rfl) rfl (by decide) ?_
    refine lsk (want_f (dj := 10) (by rfl) (by kernel_rfl) rfl) rfl (by decide) ?_
    refine lsw (want_none (by rfl)) (y_pick false rfl rfl rfl) rfl (by decide) ?_
    refine lsw (want_none (by rfl)) (y_move rfl rfl) rfl (by decide) ?_
    refine lsk (want_f (dj := 15) (by rfl) (by kernel_rfl) rfl) rfl (by decide) ?_
    refine lsk (want_f (dj := 15) (by rfl) (by kernel_rfl) rfl) rfl (by decide) ?_
    refine lsk (want_f (dj := 15) (by rfl) (by kernel_rfl) rfl) rfl (by decide) ?_
    refine lsk (want_f (dj := 15) (by rfl) (by kernel_rfl) rfl) rfl (by decide) ?_
    refine lsk (want_u (dj := 19) (by rfl) (by kernel_rfl) rfl) rfl (by decide) ?_
    refine lsk (want_u (dj := 19) (by rfl) (by kernel_rfl) rfl) rfl (by decide) ?_
    refine lsk (want_u (dj := 19) (by rfl) (by kernel_rfl) rfl) rfl (by decide) ?_
    refine lsk (want_u (dj := 19) (by rfl) (by kernel_rfl) rfl) rfl (by decide) ?_
    refine lsk (want_u (dj := 19) (by rfl) (by kernel_rfl) rfl) rfl (by decide) ?_
    refine lsk (want_f (dj := 15) (by rfl) (by kernel_rfl) rfl) rfl (by decide) ?_
    refine lsw (want_none (by rfl)) (y_pick false rfl rfl rfl) rfl (by decide) ?_
    refine lsw (want_none (by rfl)) (y_assign rfl rfl) rfl (by decide) ?_
    refine lg_nil ?_
    refine nx (E' := [(6, _)]) (fk rfl fn) ?_
    refine cg_ret ?_
    exact eg_ret_tmp rfl rfl ⟨_, rfl, congrArg Value.bool (decide_eq_false (fun q => c1 q.1)).symm, u⟩
theorem rcommon_any (x y w : Int) (W : World) (rg : Tb W) : Calls Tryd.prog 18 #[nv x, nv y, nv w] W fun e W' => ∃ v, e = .returned v ∧ v = nv (comI x y w) ∧ Below W.heap.size W W' := by
  refine calls_cg (n := 26) Tryd.func18 rfl Tryd.ntmps18 (by simp) ?_
  show CG _ _ _ [(0, nv x), (1, nv y), (2, nv w)] _ _
  have u := Below.refl W.heap.size W
  refine cg_seq ?_
  refine cg_region ?_
  refine lsw (want_none (by rfl)) (y_assign rfl rfl) rfl (by decide) ?_
  refine lg_nil ?_
  refine nx (E' := [(0, _), (1, _), (2, _), (6, _)]) (fk rfl (fk rfl (fk rfl (fk rfl fn)))) ?_
  refine cg_seq ?_
  refine cg_seq ?_
  refine cg_region ?_
  refine lsw (want_none (by rfl)) (y_move rfl rfl) rfl (by decide) ?_
  refine lsw (want_none (by rfl)) (y_move rfl rfl) rfl (by decide) ?_
  by_cases c1 : isN x w
  · refine lsw (want_none (by rfl)) (yb (decide_eq_true c1) (y_call (ris_any x w _ (rg.up u)) (by kernel_rfl) rfl rfl)) rfl (by decide) ?_
    refine lsw (want_none (by rfl)) (y_bnot rfl rfl) rfl (by decide) ?_
    refine lsw (want_none (by rfl)) (y_move rfl rfl) rfl (by decide) ?_
    refine lsw (want_t (dj := 11) (by rfl) (by kernel_rfl) rfl) (y_move rfl rfl) rfl (by decide) ?_
    refine lsw (want_t (dj := 11) (by rfl) (by kernel_rfl) rfl) (y_move rfl rfl) rfl (by decide) ?_
    by_cases c2 : isN y w
    · refine lsw (want_t (dj := 11) (by rfl) (by kernel_rfl) rfl) (yb (decide_eq_true c2) (y_call (ris_any y w _ (rg.up u)) (by kernel_rfl) rfl rfl)) rfl (by decide) ?_
      refine lsw (want_t (dj := 11) (by rfl) (by kernel_rfl) rfl) (y_bnot rfl rfl) rfl (by decide) ?_
      refine lsw (want_none (by rfl)) (y_pick false rfl rfl rfl) rfl (by decide) ?_
      refine lg_nil ?_
      refine nx (E' := [(0, _), (1, _), (2, _), (6, _), (16, _)]) (fk rfl (fk rfl (fk rfl (fk rfl (fk rfl fn))))) ?_
      refine cg_cf rfl ?_
      refine cg_skip ?_
      refine nx (E' := [(0, _), (1, _), (2, _), (6, _)]) (fk rfl (fk rfl (fk rfl (fk rfl fn)))) ?_
      refine cg_seq ?_
      refine cg_block ?_
      refine cg_loopE (fun t a v => ∃ (p : Int), Holds 26 [(0, nv p), (1, nv y), (2, nv w)] a ∧ Below W.heap.size W v ∧ isN p w ∧ comI x y w = comI p y w ∧ (t : Int) ≤ lvl p) 8 (fun a ha => ⟨x, ha.keep (fk rfl (fk rfl (fk rfl fn))), u, c1, rfl, (fin2 (p := fun x w => 0 ≤ lvl x) (by kernel_rfl) c1)⟩) ?_
      rintro t a v ht ⟨p, ha, u, hn, hc, hl⟩
      refine cg_at ha ?_
      clear ha a
      have zv := u.size
      have hl6 : lvl p ≤ 6 := fin2 (p := fun x w => lvl x ≤ 6) (by kernel_rfl) hn
      refine cg_seq ?_
      refine cg_seq ?_
      refine cg_region ?_
      refine lsw (want_none (by rfl)) (y_move rfl rfl) rfl (by decide) ?_
      refine lsw (want_none (by rfl)) (y_move rfl rfl) rfl (by decide) ?_
      refine lsw (want_none (by rfl)) (y_move rfl rfl) rfl (by decide) ?_
      by_cases c3 : undI y p w
      · refine lg_callw (want_none (by rfl)) (runder_any y p w _ (rg.up u)) (by kernel_rfl) rfl rfl rfl (by decide) ?_
        rintro u4 w4 ⟨e4, hw4⟩
        have zw4 := hw4.size
        obtain rfl : u4 = .bool true := e4.trans (congrArg Value.bool (decide_eq_true c3))
        refine lsw (want_none (by rfl)) (y_bnot rfl rfl) rfl (by decide) ?_
        refine lg_nil ?_
        refine nx (E' := [(0, _), (1, _), (2, _), (17, _), (18, _), (19, _), (20, _), (21, _)]) (fk rfl (fk rfl (fk rfl (fk rfl (fk rfl (fk rfl (fk rfl (fk rfl fn)))))))) ?_
        refine cg_cf rfl ?_
        have cs := com_step hn c2
        rw [if_pos c3] at cs
        refine cg_exit ?_
        refine eg_seq_exit ?_
        refine eg_seq_exit ?_
        refine eg_block_exit ?_
        refine nx (E' := [(0, _)]) (fk rfl fn) ?_
        refine cg_seq ?_
        refine cg_region ?_
        refine lsw (want_none (by rfl)) (y_move rfl rfl) rfl (by decide) ?_
        refine lsw (want_none (by rfl)) (y_assign rfl rfl) rfl (by decide) ?_
        refine lg_nil ?_
        refine nx (E' := [(6, _)]) (fk rfl fn) ?_
        refine cg_ret ?_
        have u := u.trans (hw4.mono u.size)
        exact eg_ret_tmp rfl rfl ⟨_, rfl, congrArg nv (by rw [hc, cs]), u⟩
      · refine lg_callw (want_none (by rfl)) (runder_any y p w _ (rg.up u)) (by kernel_rfl) rfl rfl rfl (by decide) ?_
        rintro u5 w5 ⟨e5, hw5⟩
        have zw5 := hw5.size
        obtain rfl : u5 = .bool false := e5.trans (congrArg Value.bool (decide_eq_false c3))
        refine lsw (want_none (by rfl)) (y_bnot rfl rfl) rfl (by decide) ?_
        refine lg_nil ?_
        refine nx (E' := [(0, _), (1, _), (2, _), (17, _), (18, _), (19, _), (20, _), (21, _)]) (fk rfl (fk rfl (fk rfl (fk rfl (fk rfl (fk rfl (fk rfl (fk rfl fn)))))))) ?_
        refine cg_ct rfl ?_
        refine cg_skip ?_
        refine nx (E' := [(0, _), (1, _), (2, _), (17, _), (18, _), (19, _), (20, _), (21, _)]) (fk rfl (fk rfl (fk rfl (fk rfl (fk rfl (fk rfl (fk rfl (fk rfl fn)))))))) ?_
        refine cg_block ?_
        refine cg_region ?_
        refine lsw (want_none (by rfl)) (y_move rfl rfl) rfl (by decide) ?_
        refine lsw (want_none (by rfl)) (y_move rfl rfl) rfl (by decide) ?_
        have u := u.trans (hw5.mono u.size)
        refine lsw (want_none (by rfl)) (y_call (rparent_any p w _ (rg.up u)) (by kernel_rfl) rfl rfl) rfl (by decide) ?_
        refine lsw (want_none (by rfl)) (y_assign rfl rfl) rfl (by decide) ?_
        refine lg_nil ?_
        refine eg_block_norm ?_
        have cs := com_step hn c2
        rw [if_neg c3] at cs
        have pu := (par_up hn).2 cs.1
        have pl6 : lvl (parI p w) ≤ 6 := fin2 (p := fun x w => lvl x ≤ 6) (by kernel_rfl) pu.1
        exact fun a ha => (show t < 8 ∧ _ from ⟨(by omega), (parI p w), ha.keep (fk rfl (fk rfl (fk rfl fn))), u, pu.1, (hc.trans cs.2), (by have := pu.2; omega)⟩)
    · refine lsw (want_t (dj := 11) (by rfl) (by kernel_rfl) rfl) (yb (decide_eq_false c2) (y_call (ris_any y w _ (rg.up u)) (by kernel_rfl) rfl rfl)) rfl (by decide) ?_
      refine lsw (want_t (dj := 11) (by rfl) (by kernel_rfl) rfl) (y_bnot rfl rfl) rfl (by decide) ?_
      refine lsw (want_none (by rfl)) (y_pick false rfl rfl rfl) rfl (by decide) ?_
      refine lg_nil ?_
      refine nx (E' := [(0, _), (1, _), (2, _), (6, _), (16, _)]) (fk rfl (fk rfl (fk rfl (fk rfl (fk rfl fn))))) ?_
      refine cg_ct rfl ?_
      refine cg_seq ?_
      refine cg_region ?_
      refine lsw (want_none (by rfl)) (y_assign rfl rfl) rfl (by decide) ?_
      refine lg_nil ?_
      refine nx (E' := [(0, _), (1, _), (2, _), (6, _)]) (fk rfl (fk rfl (fk rfl (fk rfl fn)))) ?_
      refine cg_ret ?_
      refine eg_seq_ret ?_
      exact eg_ret_tmp rfl rfl ⟨_, rfl, congrArg nv (com_no fun q => c2 q.2).symm, u⟩
  · refine lsw (want_none (by rfl)) (yb (decide_eq_false c1) (y_call (ris_any x w _ (rg.up u)) (by kernel_rfl) rfl rfl)) rfl (by decide) ?_
    refine lsw (want_none (by rfl)) (y_bnot rfl rfl) rfl (by decide) ?_
    refine lsw (want_none (by rfl)) (y_move rfl rfl) rfl (by decide) ?_
    refine lsk (want_f (dj := 11) (by rfl) (by kernel_rfl) rfl) rfl (by decide) ?_
    refine lsk (want_f (dj := 11) (by rfl) (by kernel_rfl) rfl) rfl (by decide) ?_
    refine lsk (want_f (dj := 11) (by rfl) (by kernel_rfl) rfl) rfl (by decide) ?_
    refine lsk (want_f (dj := 11) (by rfl) (by kernel_rfl) rfl) rfl (by decide) ?_
    refine lsw (want_none (by rfl)) (y_pick true rfl rfl rfl) rfl (by decide) ?_
    refine lg_nil ?_
    refine nx (E' := [(0, _), (1, _), (2, _), (6, _), (16, _)]) (fk rfl (fk rfl (fk rfl (fk rfl (fk rfl fn))))) ?_
    refine cg_ct rfl ?_
    refine cg_seq ?_
    refine cg_region ?_
    refine lsw (want_none (by rfl)) (y_assign rfl rfl) rfl (by decide) ?_
    refine lg_nil ?_
    refine nx (E' := [(0, _), (1, _), (2, _), (6, _)]) (fk rfl (fk rfl (fk rfl (fk rfl fn)))) ?_
    refine cg_ret ?_
    refine eg_seq_ret ?_
    exact eg_ret_tmp rfl rfl ⟨_, rfl, congrArg nv (com_no fun q => c1 q.1).symm, u⟩
/-- The first and the last leaf under x among the first t leaves. -/
def fstI (x w : Int) (t : Nat) : Int := if isN x w ∧ lowI x w < (t : Int) then lowI x w else -1
def lstI (x w : Int) (t : Nat) : Int := if isN x w ∧ lowI x w < (t : Int) then (if higI x w < (t : Int) then higI x w else (t : Int) - 1) else -1
theorem low_hig {x w : Int} (h : isN x w) : 0 ≤ lowI x w ∧ lowI x w ≤ higI x w ∧ 2 * higI x w < w :=
  fin2 (p := fun x w => 0 ≤ lowI x w ∧ lowI x w ≤ higI x w ∧ 2 * higI x w < w) (by kernel_rfl) h
theorem fst_yes {x w : Int} {t : Nat} (h : undI (2 * (t : Int)) x w) : (fstI x w t < 0 → fstI x w (t + 1) = t) ∧ (¬ fstI x w t < 0 → fstI x w (t + 1) = fstI x w t) ∧ lstI x w (t + 1) = t := by
  have hx := h.2.1
  have hb := (und_below hx h.1 (by omega)).1 h
  have hl := low_hig hx
  have e : 2 * (t : Int) / 2 = t := by omega
  rw [e] at hb
  unfold fstI lstI
  simp only [hx, true_and]
  refine ⟨fun q => ?_, fun q => ?_, ?_⟩
  · split at q <;> (split <;> omega)
  · split at q
    · rw [if_pos (by omega), if_pos (by omega)]
    · omega
  · rw [if_pos (by omega)]
    split <;> omega
theorem fst_no {x w : Int} {t : Nat} (hi : 2 * (t : Int) < w) (h : ¬ undI (2 * (t : Int)) x w) : fstI x w (t + 1) = fstI x w t ∧ lstI x w (t + 1) = lstI x w t := by
  by_cases hx : isN x w
  · have ht : isN (2 * (t : Int)) w := ⟨hx.1, by omega, hi⟩
    have hb := fun q => h ((und_below hx ht (by omega)).2 q)
    have hl := low_hig hx
    have e : 2 * (t : Int) / 2 = t := by omega
    rw [e] at hb
    unfold fstI lstI
    simp only [hx, true_and]
    by_cases q : lowI x w ≤ (t : Int)
    · have q2 : higI x w < (t : Int) := by
        refine Classical.byContradiction fun z => hb ⟨q, by omega⟩
      rw [if_pos (by omega), if_pos (by omega), if_pos (by omega), if_pos (by omega), if_pos (by omega), if_pos (by omega)]
      exact ⟨rfl, rfl⟩
    · rw [if_neg (by omega), if_neg (by omega), if_neg (by omega), if_neg (by omega)]
      exact ⟨rfl, rfl⟩
  · unfold fstI lstI
    simp [hx]
theorem fst_end {x w : Int} {t : Nat} (h : ¬ 2 * (t : Int) < w ∨ ¬ w ≤ 127) : fstI x w t = lowI x w ∧ lstI x w t = higI x w := by
  by_cases hx : isN x w
  · have hl := low_hig hx
    have hw := hx.le
    unfold fstI lstI
    simp only [hx, true_and]
    rw [if_pos (by omega), if_pos (by omega), if_pos (by omega)]
    exact ⟨rfl, rfl⟩
  · unfold fstI lstI
    simp [hx, low_no hx, hig_no hx]
theorem rbelow_any (x w : Int) (W : World) (rg : Tb W) : Calls Tryd.prog 11 #[nv x, nv w] W fun e W' => ∃ v, e = .returned v ∧ v = .tuple #[nv (lowI x w), nv (higI x w)] ∧ Below W.heap.size W W' := by
  refine calls_cg (n := 30) Tryd.func11 rfl Tryd.ntmps11 (by simp) ?_
  show CG _ _ _ [(0, nv x), (1, nv w)] _ _
  have u := Below.refl W.heap.size W
  refine cg_seq ?_
  refine cg_region ?_
  refine lsw (want_none (by rfl)) (y_assign rfl rfl) rfl (by decide) ?_
  refine lsw (want_none (by rfl)) (y_assign rfl rfl) rfl (by decide) ?_
  refine lg_nil ?_
  refine nx (E' := [(0, _), (1, _), (4, _), (5, _)]) (fk rfl (fk rfl (fk rfl (fk rfl fn)))) ?_
  refine cg_seq ?_
  refine cg_region ?_
  refine lsw (want_none (by rfl)) (y_assign rfl rfl) rfl (by decide) ?_
  refine lg_nil ?_
  refine nx (E' := [(0, _), (1, _), (4, _), (5, _), (6, _)]) (fk rfl (fk rfl (fk rfl (fk rfl (fk rfl fn))))) ?_
  refine cg_seq ?_
  refine cg_region ?_
  refine lsw (want_none (by rfl)) (y_assign rfl rfl) rfl (by decide) ?_
  refine lg_nil ?_
  refine nx (E' := [(0, _), (1, _), (4, _), (5, _), (6, _), (7, _)]) (fk rfl (fk rfl (fk rfl (fk rfl (fk rfl (fk rfl fn)))))) ?_
  refine cg_seq ?_
  refine cg_seq ?_
  refine cg_region ?_
  refine lsw (want_none (by rfl)) (y_assign rfl rfl) rfl (by decide) ?_
  refine lg_nil ?_
  refine nx (E' := [(0, _), (1, _), (4, _), (5, _), (6, _), (7, _), (8, _)]) (fk rfl (fk rfl (fk rfl (fk rfl (fk rfl (fk rfl (fk rfl fn))))))) ?_
  refine cg_block ?_
  refine cg_loopE (fun t a v => ∃ (f : Int) (l : Int) (i : Int), Holds 30 [(0, nv x), (1, nv w), (6, nv f), (7, nv l), (8, nv i)] a ∧ Below W.heap.size W v ∧ f = fstI x w t ∧ l = lstI x w t ∧ i = 2 * (t : Int)) 64 (fun a ha => ⟨(-1), (-1), 0, ha.keep (fk rfl (fk rfl (fk rfl (fk rfl (fk rfl fn))))), u, (by unfold fstI; rw [if_neg (fun q => by have := (low_hig q.1).1; omega)]), (by unfold lstI; rw [if_neg (fun q => by have := (low_hig q.1).1; omega)]), rfl⟩) ?_
  rintro t a v ht ⟨f, l, i, ha, u, hf, hl, hi⟩
  refine cg_at ha ?_
  clear ha a
  have zv := u.size
  refine cg_seq ?_
  refine cg_seq ?_
  refine cg_region ?_
  refine lsw (want_none (by rfl)) (y_move rfl rfl) rfl (by decide) ?_
  refine lsw (want_none (by rfl)) (y_move rfl rfl) rfl (by decide) ?_
  by_cases c1 : i < w
  · refine lsw (want_none (by rfl)) (yb (decide_eq_true c1) (yi_lss rfl rfl rfl)) rfl (by decide) ?_
    refine lsw (want_none (by rfl)) (y_move rfl rfl) rfl (by decide) ?_
    refine lsw (want_t (dj := 12) (by rfl) (by kernel_rfl) rfl) (y_move rfl rfl) rfl (by decide) ?_
    by_cases c2 : w ≤ 127
    · refine lsw (want_t (dj := 12) (by rfl) (by kernel_rfl) rfl) (yb (decide_eq_true c2) (yi_leq rfl rfl rfl)) rfl (by decide) ?_
      refine lsw (want_none (by rfl)) (y_pick true rfl rfl rfl) rfl (by decide) ?_
      refine lg_nil ?_
      refine nx (E' := [(0, _), (1, _), (6, _), (7, _), (8, _), (9, _), (10, _), (11, _), (12, _), (13, _), (14, _), (15, _)]) (fk rfl (fk rfl (fk rfl (fk rfl (fk rfl (fk rfl (fk rfl (fk rfl (fk rfl (fk rfl (fk rfl (fk rfl fn)))))))))))) ?_
      refine cg_ct rfl ?_
      refine cg_skip ?_
      refine nx (E' := [(0, _), (1, _), (6, _), (7, _), (8, _), (9, _), (10, _), (11, _), (12, _), (13, _), (14, _), (15, _)]) (fk rfl (fk rfl (fk rfl (fk rfl (fk rfl (fk rfl (fk rfl (fk rfl (fk rfl (fk rfl (fk rfl (fk rfl fn)))))))))))) ?_
      refine cg_seq ?_
      refine cg_block ?_
      refine cg_seq ?_
      refine cg_region ?_
      refine lsw (want_none (by rfl)) (y_move rfl rfl) rfl (by decide) ?_
      refine lsw (want_none (by rfl)) (y_move rfl rfl) rfl (by decide) ?_
      refine lsw (want_none (by rfl)) (y_move rfl rfl) rfl (by decide) ?_
      by_cases c3 : undI i x w
      · refine lg_callw (want_none (by rfl)) (runder_any i x w _ (rg.up u)) (by kernel_rfl) rfl rfl rfl (by decide) ?_
        rintro u4 w4 ⟨e4, hw4⟩
        have zw4 := hw4.size
        obtain rfl : u4 = .bool true := e4.trans (congrArg Value.bool (decide_eq_true c3))
        refine lg_nil ?_
        refine nx (E' := [(0, _), (1, _), (6, _), (7, _), (8, _), (9, _), (10, _), (11, _), (12, _), (13, _), (14, _), (15, _), (18, _), (19, _), (20, _), (21, _)]) (fk rfl (fk rfl (fk rfl (fk rfl (fk rfl (fk rfl (fk rfl (fk rfl (fk rfl (fk rfl (fk rfl (fk rfl (fk rfl (fk rfl (fk rfl (fk rfl fn)))))))))))))))) ?_
        refine cg_ct rfl ?_
        refine cg_seq ?_
        refine cg_seq ?_
        refine cg_region ?_
        refine lsw (want_none (by rfl)) (y_move rfl rfl) rfl (by decide) ?_
        by_cases c5 : f < 0
        · refine lsw (want_none (by rfl)) (yb (decide_eq_true c5) (yi_lss rfl rfl rfl)) rfl (by decide) ?_
          refine lg_nil ?_
          refine nx (E' := [(0, _), (1, _), (6, _), (7, _), (8, _), (9, _), (10, _), (11, _), (12, _), (13, _), (14, _), (15, _), (18, _), (19, _), (20, _), (21, _), (22, _), (23, _)]) (fk rfl (fk rfl (fk rfl (fk rfl (fk rfl (fk rfl (fk rfl (fk rfl (fk rfl (fk rfl (fk rfl (fk rfl (fk rfl (fk rfl (fk rfl (fk rfl (fk rfl (fk rfl fn)))))))))))))))))) ?_
          refine cg_ct rfl ?_
          refine cg_region ?_
          refine lsw (want_none (by rfl)) (y_move rfl rfl) rfl (by decide) ?_
          refine lsw (want_none (by rfl)) (yi_quo rfl rfl rfl (by omega) (by omega) (by omega)) rfl (by decide) ?_
          refine lsw (want_none (by rfl)) (y_assign rfl rfl) rfl (by decide) ?_
          refine lg_nil ?_
          refine nx (E' := [(0, _), (1, _), (7, _), (8, _), (9, _), (10, _), (11, _), (12, _), (13, _), (14, _), (15, _), (18, _), (19, _), (20, _), (21, _), (22, _), (23, _), (24, _), (25, _), (6, _)]) (fk rfl (fk rfl (fk rfl (fk rfl (fk rfl (fk rfl (fk rfl (fk rfl (fk rfl (fk rfl (fk rfl (fk rfl (fk rfl (fk rfl (fk rfl (fk rfl (fk rfl (fk rfl (fk rfl (fk rfl fn)))))))))))))))))))) ?_
          refine cg_region ?_
          refine lsw (want_none (by rfl)) (y_move rfl rfl) rfl (by decide) ?_
          refine lsw (want_none (by rfl)) (yi_quo rfl rfl rfl (by omega) (by omega) (by omega)) rfl (by decide) ?_
          refine lsw (want_none (by rfl)) (y_assign rfl rfl) rfl (by decide) ?_
          refine lg_nil ?_
          refine eg_block_norm ?_
          refine nx (E' := [(0, _), (1, _), (8, _), (9, _), (10, _), (11, _), (12, _), (13, _), (14, _), (15, _), (18, _), (19, _), (20, _), (21, _), (22, _), (23, _), (24, _), (25, _), (6, _), (26, _), (27, _), (7, _)]) (fk rfl (fk rfl (fk rfl (fk rfl (fk rfl (fk rfl (fk rfl (fk rfl (fk rfl (fk rfl (fk rfl (fk rfl (fk rfl (fk rfl (fk rfl (fk rfl (fk rfl (fk rfl (fk rfl (fk rfl (fk rfl (fk rfl fn)))))))))))))))))))))) ?_
          refine cg_region ?_
          refine lsw (want_none (by rfl)) (y_move rfl rfl) rfl (by decide) ?_
          refine lsw (want_none (by rfl)) (yi_add rfl rfl rfl (by omega) (by omega)) rfl (by decide) ?_
          refine lsw (want_none (by rfl)) (y_assign rfl rfl) rfl (by decide) ?_
          refine lg_nil ?_
          have fy := fst_yes (show undI (2 * (t : Int)) x w from hi ▸ c3)
          have u := u.trans (hw4.mono u.size)
          exact fun a ha => (show t < 64 ∧ _ from ⟨(by omega), (i / 2), (i / 2), (i + 2), ha.keep (fk rfl (fk rfl (fk rfl (fk rfl (fk rfl fn))))), u, (by rw [fy.1 (hf ▸ c5)]; omega), (by rw [fy.2.2]; omega), (by omega)⟩)
        · refine lsw (want_none (by rfl)) (yb (decide_eq_false c5) (yi_lss rfl rfl rfl)) rfl (by decide) ?_
          refine lg_nil ?_
          refine nx (E' := [(0, _), (1, _), (6, _), (7, _), (8, _), (9, _), (10, _), (11, _), (12, _), (13, _), (14, _), (15, _), (18, _), (19, _), (20, _), (21, _), (22, _), (23, _)]) (fk rfl (fk rfl (fk rfl (fk rfl (fk rfl (fk rfl (fk rfl (fk rfl (fk rfl (fk rfl (fk rfl (fk rfl (fk rfl (fk rfl (fk rfl (fk rfl (fk rfl (fk rfl fn)))))))))))))))))) ?_
          refine cg_cf rfl ?_
          refine cg_skip ?_
          refine nx (E' := [(0, _), (1, _), (6, _), (7, _), (8, _), (9, _), (10, _), (11, _), (12, _), (13, _), (14, _), (15, _), (18, _), (19, _), (20, _), (21, _), (22, _), (23, _)]) (fk rfl (fk rfl (fk rfl (fk rfl (fk rfl (fk rfl (fk rfl (fk rfl (fk rfl (fk rfl (fk rfl (fk rfl (fk rfl (fk rfl (fk rfl (fk rfl (fk rfl (fk rfl fn)))))))))))))))))) ?_
          refine cg_region ?_
          refine lsw (want_none (by rfl)) (y_move rfl rfl) rfl (by decide) ?_
          refine lsw (want_none (by rfl)) (yi_quo rfl rfl rfl (by omega) (by omega) (by omega)) rfl (by decide) ?_
          refine lsw (want_none (by rfl)) (y_assign rfl rfl) rfl (by decide) ?_
          refine lg_nil ?_
          refine eg_block_norm ?_
          refine nx (E' := [(0, _), (1, _), (6, _), (8, _), (9, _), (10, _), (11, _), (12, _), (13, _), (14, _), (15, _), (18, _), (19, _), (20, _), (21, _), (22, _), (23, _), (26, _), (27, _), (7, _)]) (fk rfl (fk rfl (fk rfl (fk rfl (fk rfl (fk rfl (fk rfl (fk rfl (fk rfl (fk rfl (fk rfl (fk rfl (fk rfl (fk rfl (fk rfl (fk rfl (fk rfl (fk rfl (fk rfl (fk rfl fn)))))))))))))))))))) ?_
          refine cg_region ?_
          refine lsw (want_none (by rfl)) (y_move rfl rfl) rfl (by decide) ?_
          refine lsw (want_none (by rfl)) (yi_add rfl rfl rfl (by omega) (by omega)) rfl (by decide) ?_
          refine lsw (want_none (by rfl)) (y_assign rfl rfl) rfl (by decide) ?_
          refine lg_nil ?_
          have fy := fst_yes (show undI (2 * (t : Int)) x w from hi ▸ c3)
          have u := u.trans (hw4.mono u.size)
          exact fun a ha => (show t < 64 ∧ _ from ⟨(by omega), f, (i / 2), (i + 2), ha.keep (fk rfl (fk rfl (fk rfl (fk rfl (fk rfl fn))))), u, (by rw [fy.2.1 (hf ▸ c5)]; exact hf), (by rw [fy.2.2]; omega), (by omega)⟩)
      · refine lg_callw (want_none (by rfl)) (runder_any i x w _ (rg.up u)) (by kernel_rfl) rfl rfl rfl (by decide) ?_
        rintro u6 w6 ⟨e6, hw6⟩
        have zw6 := hw6.size
        obtain rfl : u6 = .bool false := e6.trans (congrArg Value.bool (decide_eq_false c3))
        refine lg_nil ?_
        refine nx (E' := [(0, _), (1, _), (6, _), (7, _), (8, _), (9, _), (10, _), (11, _), (12, _), (13, _), (14, _), (15, _), (18, _), (19, _), (20, _), (21, _)]) (fk rfl (fk rfl (fk rfl (fk rfl (fk rfl (fk rfl (fk rfl (fk rfl (fk rfl (fk rfl (fk rfl (fk rfl (fk rfl (fk rfl (fk rfl (fk rfl fn)))))))))))))))) ?_
        refine cg_cf rfl ?_
        refine cg_skip ?_
        refine eg_block_norm ?_
        refine nx (E' := [(0, _), (1, _), (6, _), (7, _), (8, _), (9, _), (10, _), (11, _), (12, _), (13, _), (14, _), (15, _), (18, _), (19, _), (20, _), (21, _)]) (fk rfl (fk rfl (fk rfl (fk rfl (fk rfl (fk rfl (fk rfl (fk rfl (fk rfl (fk rfl (fk rfl (fk rfl (fk rfl (fk rfl (fk rfl (fk rfl fn)))))))))))))))) ?_
        refine cg_region ?_
        refine lsw (want_none (by rfl)) (y_move rfl rfl) rfl (by decide) ?_
        refine lsw (want_none (by rfl)) (yi_add rfl rfl rfl (by omega) (by omega)) rfl (by decide) ?_
        refine lsw (want_none (by rfl)) (y_assign rfl rfl) rfl (by decide) ?_
        refine lg_nil ?_
        have fy := fst_no (x := x) (show 2 * (t : Int) < w from hi ▸ c1) (show ¬ undI (2 * (t : Int)) x w from hi ▸ c3)
        have u := u.trans (hw6.mono u.size)
        exact fun a ha => (show t < 64 ∧ _ from ⟨(by omega), f, l, (i + 2), ha.keep (fk rfl (fk rfl (fk rfl (fk rfl (fk rfl fn))))), u, (by rw [fy.1]; exact hf), (by rw [fy.2]; exact hl), (by omega)⟩)
    · refine lsw (want_t (dj := 12) (by rfl) (by kernel_rfl) rfl) (yb (decide_eq_false c2) (yi_leq rfl rfl rfl)) rfl (by decide) ?_
      refine lsw (want_none (by rfl)) (y_pick true rfl rfl rfl) rfl (by decide) ?_
      refine lg_nil ?_
      refine nx (E' := [(0, _), (1, _), (6, _), (7, _), (8, _), (9, _), (10, _), (11, _), (12, _), (13, _), (14, _), (15, _)]) (fk rfl (fk rfl (fk rfl (fk rfl (fk rfl (fk rfl (fk rfl (fk rfl (fk rfl (fk rfl (fk rfl (fk rfl fn)))))))))))) ?_
      refine cg_cf rfl ?_
      refine cg_exit ?_
      refine eg_seq_exit ?_
      refine eg_seq_exit ?_
      refine eg_block_exit ?_
      refine nx (E' := [(6, _), (7, _)]) (fk rfl (fk rfl fn)) ?_
      refine cg_seq ?_
      refine cg_region ?_
      refine lsw (want_none (by rfl)) (y_move rfl rfl) rfl (by decide) ?_
      refine lsw (want_none (by rfl)) (y_move rfl rfl) rfl (by decide) ?_
      refine lsw (want_none (by rfl)) (y_assign rfl rfl) rfl (by decide) ?_
      refine lsw (want_none (by rfl)) (y_assign rfl rfl) rfl (by decide) ?_
      refine lg_nil ?_
      refine nx (E' := [(4, _), (5, _)]) (fk rfl (fk rfl fn)) ?_
      refine cg_ret ?_
      have fe := fst_end (x := x) (w := w) (t := t) (by omega)
      exact eg_ret_tmp2 rfl rfl rfl ⟨_, rfl, by rw [hf, hl, fe.1, fe.2], u⟩
  · refine lsw (want_none (by rfl)) (yb (decide_eq_false c1) (yi_lss rfl rfl rfl)) rfl (by decide) ?_
    refine lsw (want_none (by rfl)) (y_move rfl rfl) rfl (by decide) ?_
    refine lsk (want_f (dj := 12) (by rfl) (by kernel_rfl) rfl) rfl (by decide) ?_
    refine lsk (want_f (dj := 12) (by rfl) (by kernel_rfl) rfl) rfl (by decide) ?_
    refine lsw (want_none (by rfl)) (y_pick false rfl rfl rfl) rfl (by decide) ?_
    refine lg_nil ?_
    refine nx (E' := [(0, _), (1, _), (6, _), (7, _), (8, _), (9, _), (10, _), (11, _), (12, _), (15, _)]) (fk rfl (fk rfl (fk rfl (fk rfl (fk rfl (fk rfl (fk rfl (fk rfl (fk rfl (fk rfl fn)))))))))) ?_
    refine cg_cf rfl ?_
    refine cg_exit ?_
    refine eg_seq_exit ?_
    refine eg_seq_exit ?_
    refine eg_block_exit ?_
    refine nx (E' := [(6, _), (7, _)]) (fk rfl (fk rfl fn)) ?_
    refine cg_seq ?_
    refine cg_region ?_
    refine lsw (want_none (by rfl)) (y_move rfl rfl) rfl (by decide) ?_
    refine lsw (want_none (by rfl)) (y_move rfl rfl) rfl (by decide) ?_
    refine lsw (want_none (by rfl)) (y_assign rfl rfl) rfl (by decide) ?_
    refine lsw (want_none (by rfl)) (y_assign rfl rfl) rfl (by decide) ?_
    refine lg_nil ?_
    refine nx (E' := [(4, _), (5, _)]) (fk rfl (fk rfl fn)) ?_
    refine cg_ret ?_
    have fe := fst_end (x := x) (w := w) (t := t) (by omega)
    exact eg_ret_tmp2 rfl rfl rfl ⟨_, rfl, by rw [hf, hl, fe.1, fe.2], u⟩
end Go.Proofs.YtgcneppjdhnacaaDoor
