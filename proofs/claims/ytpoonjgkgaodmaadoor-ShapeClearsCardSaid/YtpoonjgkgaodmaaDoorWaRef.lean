/-
  Ways up: what the document answers.
-/
import Derived.Test.YtpoonjgkgaodmaaDoorWaProg
import Derived.Test.YtpoonjgkgaodmaaDoorIxRef
namespace Go.Proofs.YtpoonjgkgaodmaaDoor
open Go.ChangeShapes Go.WideShapes Go.ChangeAt Go.RowKit
set_option linter.unusedVariables false
set_option maxRecDepth 20000
theorem cop_next {x w : Int} (h : 0 ≤ parI x w) : copI x w = sibI x w :: copI (parI x w) w := by
  have hn : isN x w := Classical.byContradiction fun q => by rw [par_no q] at h; omega
  have := cop_step hn
  rwa [if_neg (by omega)] at this
theorem cop_end {x w : Int} (h : ¬ 0 ≤ parI x w) : copI x w = [] := by
  by_cases hn : isN x w
  · have := cop_step hn
    rwa [if_pos (by omega)] at this
  · exact cop_no hn
theorem par_val (x w : Int) : parI x w = -1 ∨ isN (parI x w) w := by
  by_cases hn : isN x w
  · exact fin2 (p := fun x w => parI x w = -1 ∨ isN (parI x w) w) (by kernel_rfl) hn
  · exact .inl (par_no hn)
theorem cop_len (x w : Int) : (copI x w).length ≤ 6 := by
  by_cases hn : isN x w
  · exact fin2 (p := fun x w => (copI x w).length ≤ 6) (by kernel_rfl) hn
  · rw [cop_no hn]
    exact Nat.zero_le _
theorem dirL (x w : Int) : (dirI x w).length ≤ 6 := by
  by_cases hn : isN x w
  · exact fin2 (p := fun x w => (dirI x w).length ≤ 6) (by kernel_rfl) hn
  · rw [dir_no hn]
    exact Nat.zero_le _
theorem rdirect_any (x w : Int) (W : World) (rg : Tb W) : Calls Tryd.prog 38 #[nv x, nv w] W fun e W' => ∃ v, e = .returned v ∧ ∃ A c, v = .slice A (dirI x w).length c ∧ (dirI x w).length ≤ c ∧ Nums W' W'.heap.size A (dirI x w).length (dirI x w) ∧ Below W.heap.size W W' := by
  refine calls_cg (n := 20) Tryd.func38 rfl Tryd.ntmps38 (by simp) ?_
  show CG _ _ _ [(0, nv x), (1, nv w)] _ _
  have u := Below.refl W.heap.size W
  refine cg_seq ?_
  refine cg_region ?_
  refine lsw (want_none (by rfl)) (y_assign rfl rfl) rfl (by decide) ?_
  refine lg_nil ?_
  refine nx (E' := [(0, _), (1, _), (4, _)]) (fk rfl (fk rfl (fk rfl fn))) ?_
  refine cg_seq ?_
  refine cg_region ?_
  refine lsw (want_none (by rfl)) (y_assign rfl rfl) rfl (by decide) ?_
  refine lg_nil ?_
  refine nx (E' := [(0, _), (1, _), (4, _), (5, _)]) (fk rfl (fk rfl (fk rfl (fk rfl fn)))) ?_
  refine cg_seq ?_
  refine cg_region ?_
  refine lsw (want_none (by rfl)) (y_move rfl rfl) rfl (by decide) ?_
  refine lsw (want_none (by rfl)) (y_move rfl rfl) rfl (by decide) ?_
  refine lsw (want_none (by rfl)) (y_call (rparent_any x w _ (rg.up u)) (by kernel_rfl) rfl rfl) rfl (by decide) ?_
  refine lsw (want_none (by rfl)) (y_assign rfl rfl) rfl (by decide) ?_
  refine lg_nil ?_
  refine nx (E' := [(1, _), (4, _), (5, _), (6, _)]) (fk rfl (fk rfl (fk rfl (fk rfl fn)))) ?_
  refine cg_seq ?_
  refine cg_block ?_
  refine cg_loopE (fun t a v => ∃ (sv : Value) (pre : List Int) (p : Int), Holds 20 [(1, nv w), (5, sv), (6, nv p)] a ∧ Below W.heap.size W v ∧ v.ownsRow W.heap.size 3 1 sv (pre).length ((pre).map (Value.int .i64)) ∧ dirI x w = pre ++ wayI p w ∧ pre.length = t ∧ (p = -1 ∨ isN p w)) 8 (fun a ha => ⟨_, [], (parI x w), ha.keep (fk rfl (fk rfl (fk rfl fn))), u, own_nilN _ _, (way_par x w).symm, rfl, par_val x w⟩) ?_
  rintro t a v ht ⟨sv, pre, p, ha, u, g0, hp, hl, hv⟩
  refine cg_at ha ?_
  clear ha a
  have zv := u.size
  have dl := dirL x w
  have zv := u.size
  have pl := congrArg List.length hp
  simp at pl
  refine cg_seq ?_
  refine cg_seq ?_
  refine cg_region ?_
  refine lsw (want_none (by rfl)) (y_move rfl rfl) rfl (by decide) ?_
  by_cases c1 : 0 ≤ p
  · refine lsw (want_none (by rfl)) (yb (decide_eq_true c1) (yi_geq rfl rfl rfl)) rfl (by decide) ?_
    refine lg_nil ?_
    refine nx (E' := [(1, _), (5, _), (6, _), (10, _), (11, _)]) (fk rfl (fk rfl (fk rfl (fk rfl (fk rfl fn))))) ?_
    refine cg_ct rfl ?_
    refine cg_skip ?_
    refine nx (E' := [(1, _), (5, _), (6, _), (10, _), (11, _)]) (fk rfl (fk rfl (fk rfl (fk rfl (fk rfl fn))))) ?_
    refine cg_block ?_
    refine cg_seq ?_
    refine cg_region ?_
    refine lsw (want_none (by rfl)) (y_move rfl rfl) rfl (by decide) ?_
    refine lsw (want_none (by rfl)) (y_move rfl rfl) rfl (by decide) ?_
    refine lg_bs1N (want_none (by rfl)) rfl rfl rfl (by decide) fun b2 w2 n2 => ?_
    have r2 := n2.row
    have k2 := n2.blk
    have z2 := n2.size
    have m2 := nums_new1 n2
    have g0 := own_below g0 n2.below
    refine lg_appK g0 r2 (by first | omega | (simp; omega)) (by omega) (want_none (by rfl)) rfl rfl rfl rfl rfl (by decide) fun v3 w3 g3 l3 f3 => ?_
    have z3 := l3.size
    obtain ⟨A3, c3, rfl, N3⟩ := own_nums_any g3
    refine lsw (want_none (by rfl)) (y_assign rfl rfl) rfl (by decide) ?_
    refine lg_nil ?_
    refine nx (E' := [(1, _), (6, _), (10, _), (11, _), (12, _), (13, _), (14, _), (15, _), (5, _)]) (fk rfl (fk rfl (fk rfl (fk rfl (fk rfl (fk rfl (fk rfl (fk rfl (fk rfl fn))))))))) ?_
    refine cg_region ?_
    refine lsw (want_none (by rfl)) (y_move rfl rfl) rfl (by decide) ?_
    refine lsw (want_none (by rfl)) (y_move rfl rfl) rfl (by decide) ?_
    have u := u.trans (n2.below.mono u.size)
    have u := u.trans (l3.mono (by omega))
    refine lsw (want_none (by rfl)) (y_call (rparent_any p w _ (rg.up u)) (by kernel_rfl) rfl rfl) rfl (by decide) ?_
    refine lsw (want_none (by rfl)) (y_assign rfl rfl) rfl (by decide) ?_
    refine lg_nil ?_
    refine eg_block_norm ?_
    have hn : isN p w := hv.resolve_left (by omega)
    have hp' : dirI x w = (pre ++ [p]) ++ wayI (parI p w) w := by rw [hp, way_yes hn, List.append_assoc]; rfl
    have hq := congrArg List.length hp'
    simp at hq
    exact fun a ha => (show t < 8 ∧ _ from ⟨(by omega), _, (pre ++ [p]), (parI p w), ha.keep (fk rfl (fk rfl (fk rfl fn))), u, g3, hp', (by simp; omega), par_val p w⟩)
  · refine lsw (want_none (by rfl)) (yb (decide_eq_false c1) (yi_geq rfl rfl rfl)) rfl (by decide) ?_
    refine lg_nil ?_
    refine nx (E' := [(1, _), (5, _), (6, _), (10, _), (11, _)]) (fk rfl (fk rfl (fk rfl (fk rfl (fk rfl fn))))) ?_
    refine cg_cf rfl ?_
    have hne : ¬ isN p w := fun q => c1 q.2.1
    rw [way_no hne, List.append_nil] at hp
    subst hp
    obtain ⟨A0, c0, rfl, N0⟩ := own_nums_any g0
    refine cg_exit ?_
    refine eg_seq_exit ?_
    refine eg_seq_exit ?_
    refine eg_block_exit ?_
    refine nx (E' := [(5, _)]) (fk rfl fn) ?_
    refine cg_seq ?_
    refine cg_region ?_
    refine lsw (want_none (by rfl)) (y_move rfl rfl) rfl (by decide) ?_
    refine lsw (want_none (by rfl)) (y_assign rfl rfl) rfl (by decide) ?_
    refine lg_nil ?_
    refine nx (E' := [(4, _)]) (fk rfl fn) ?_
    refine cg_ret ?_
    exact eg_ret_tmp rfl rfl ⟨_, rfl, A0, c0, rfl, own_capN g0 rfl, own_numsA g0, u⟩
theorem getD_mem {xs : List Int} {i : Nat} (h : i < xs.length) : xs.getD i 0 ∈ xs := by
  rw [List.getD_eq_getElem?_getD, List.getElem?_eq_getElem h]
  exact List.getElem_mem h
theorem mem_getD {xs : List Int} {x : Int} (h : x ∈ xs) : ∃ i, i < xs.length ∧ xs.getD i 0 = x := by
  obtain ⟨i, hi, e⟩ := List.mem_iff_getElem.1 h
  exact ⟨i, hi, by rw [List.getD_eq_getElem?_getD, List.getElem?_eq_getElem hi]; exact e⟩
/-- The first and the last leaf under x among the first t leaves. -/
def fstI (x w : Int) (t : Nat) : Int := if isN x w ∧ lowI x w < (t : Int) then lowI x w else -1
def lstI (x w : Int) (t : Nat) : Int := if isN x w ∧ lowI x w < (t : Int) then (if higI x w < (t : Int) then higI x w else (t : Int) - 1) else -1
theorem low_hig {x w : Int} (h : isN x w) : 0 ≤ lowI x w ∧ lowI x w ≤ higI x w ∧ 2 * higI x w < w :=
  fin2 (p := fun x w => 0 ≤ lowI x w ∧ lowI x w ≤ higI x w ∧ 2 * higI x w < w) (by kernel_rfl) h
theorem fst_yes {x w : Int} {t : Nat} (h : undI (2 * (t : Int)) x w) : (fstI x w t < 0 → fstI x w (t + 1) = t) ∧ (¬ fstI x w t < 0 → fstI x w (t + 1) = fstI x w t) ∧ lstI x w (t + 1) = t := by
  have hx := h.2.1
  have hb := (und_below hx h.1 (by omega)).1 h
  have hl := low_hig hx
  have e : 2 * (t : Int) / 2 = t := by omega
  rw [e] at hb
  unfold fstI lstI
  simp only [hx, true_and]
  refine ⟨fun q => ?_, fun q => ?_, ?_⟩
  · split at q <;> (split <;> omega)
  · split at q
    · rw [if_pos (by omega), if_pos (by omega)]
    · omega
  · rw [if_pos (by omega)]
    split <;> omega
theorem fst_no {x w : Int} {t : Nat} (hi : 2 * (t : Int) < w) (h : ¬ undI (2 * (t : Int)) x w) : fstI x w (t + 1) = fstI x w t ∧ lstI x w (t + 1) = lstI x w t := by
  by_cases hx : isN x w
  · have ht : isN (2 * (t : Int)) w := ⟨hx.1, by omega, hi⟩
    have hb := fun q => h ((und_below hx ht (by omega)).2 q)
    have hl := low_hig hx
    have e : 2 * (t : Int) / 2 = t := by omega
    rw [e] at hb
    unfold fstI lstI
    simp only [hx, true_and]
    by_cases q : lowI x w ≤ (t : Int)
    · have q2 : higI x w < (t : Int) := by
        refine Classical.byContradiction fun z => hb ⟨q, by omega⟩
      rw [if_pos (by omega), if_pos (by omega), if_pos (by omega), if_pos (by omega), if_pos (by omega), if_pos (by omega)]
      exact ⟨rfl, rfl⟩
    · rw [if_neg (by omega), if_neg (by omega), if_neg (by omega), if_neg (by omega)]
      exact ⟨rfl, rfl⟩
  · unfold fstI lstI
    simp [hx]
theorem fst_end {x w : Int} {t : Nat} (h : ¬ 2 * (t : Int) < w ∨ ¬ w ≤ 127) : fstI x w t = lowI x w ∧ lstI x w t = higI x w := by
  by_cases hx : isN x w
  · have hl := low_hig hx
    have hw := hx.le
    unfold fstI lstI
    simp only [hx, true_and]
    rw [if_pos (by omega), if_pos (by omega), if_pos (by omega)]
    exact ⟨rfl, rfl⟩
  · unfold fstI lstI
    simp [hx, low_no hx, hig_no hx]
end Go.Proofs.YtpoonjgkgaodmaaDoor
