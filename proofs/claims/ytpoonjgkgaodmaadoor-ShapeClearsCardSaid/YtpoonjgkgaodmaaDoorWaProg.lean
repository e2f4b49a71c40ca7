/-
  Ways up: what the functions of the program answer.
-/
import Derived.Test.YtpoonjgkgaodmaaDoorWaUp
namespace Go.Proofs.YtpoonjgkgaodmaaDoor
open Go.ChangeShapes Go.WideShapes Go.ChangeAt Go.RowKit
set_option linter.unusedVariables false
set_option maxRecDepth 20000
theorem way_nodes (x w : Int) : ∀ z ∈ wayI x w, isN z w := by
  by_cases h : isN x w
  · exact fin2 (p := fun x w => ∀ z ∈ wayI x w, isN z w) (by kernel_rfl) h
  · rw [way_no h]
    exact fun z hz => absurd hz (by simp)
theorem way_und (x y w : Int) : y ∈ wayI x w ↔ undI x y w := by
  by_cases hx : isN x w
  · by_cases hy : isN y w
    · rw [← und_dir hx hy]
      unfold wayI
      rw [if_pos hx, List.mem_cons]
      exact ⟨fun h => h.imp Eq.symm id, fun h => h.imp Eq.symm id⟩
    · exact ⟨fun h => absurd (way_nodes x w y h) hy, fun h => absurd h.2.1 hy⟩
  · rw [way_no hx]
    exact ⟨fun h => absurd h (by simp), fun h => absurd h.1 hx⟩
theorem way_par (x w : Int) : wayI (parI x w) w = dirI x w := by
  by_cases h : isN x w
  · have := way_yes h
    unfold wayI at this ⊢
    rw [if_pos h] at this
    exact (List.cons.inj this).2.symm
  · rw [par_no h, dir_no h]
    exact way_no fun q => by have := q.2.1; omega
theorem com_way {y w k : Int} {rest : List Int} (hy : undI y k w) : ∀ (pre : List Int) (x : Int), wayI x w = pre ++ k :: rest → (∀ z ∈ pre, ¬ undI y z w) → comI x y w = k := by
  intro pre
  induction pre with
  | nil =>
    intro x hp _
    have hx : isN x w := by
      refine Classical.byContradiction fun q => ?_
      rw [way_no q] at hp
      cases hp
    rw [way_yes hx] at hp
    obtain rfl : x = k := (List.cons.inj hp).1
    have := com_step hx hy.1
    rwa [if_pos hy] at this
  | cons z pre ih =>
    intro x hp hn
    have hx : isN x w := by
      refine Classical.byContradiction fun q => ?_
      rw [way_no q] at hp
      cases hp
    rw [way_yes hx] at hp
    obtain ⟨e, hp2⟩ := List.cons.inj hp
    subst e
    have := com_step hx hy.1
    rw [if_neg (hn x (by simp))] at this
    rw [this.2]
    exact ih _ hp2 fun q hq => hn q (by simp [hq])
theorem com_none {x y w : Int} (h : ∀ z ∈ wayI x w, ¬ undI y z w) : comI x y w = -1 := by
  refine com_no fun ⟨hx, hy⟩ => ?_
  have hc := com_facts hx hy
  exact h _ ((way_und _ _ _).2 hc.2.2.1) hc.2.2.2.1
/-- What stands beside some nodes. -/
def sibs (w : Int) (l : List Int) : List Int := (l.map fun k => sibI k w).filter fun s => s ≠ -1
theorem sibs_yes {w k : Int} {l : List Int} (h : sibI k w ≠ -1) : sibs w (l ++ [k]) = sibs w l ++ [sibI k w] := by simp [sibs, h]
theorem sibs_no {w k : Int} {l : List Int} (h : sibI k w = -1) : sibs w (l ++ [k]) = sibs w l := by simp [sibs, h]
theorem sibs_len (w : Int) (l : List Int) : (sibs w l).length ≤ l.length := by
  have := List.length_filter_le (fun s : Int => decide (s ≠ -1)) (l.map fun k => sibI k w)
  simpa [sibs] using this
theorem sibs_way (x w : Int) : sibs w (wayI x w) = copI x w := by
  by_cases h : isN x w
  · exact fin2 (p := fun x w => sibs w (wayI x w) = copI x w) (by kernel_rfl) h
  · rw [way_no h, cop_no h]
    rfl
theorem under_any (x y w : Int) (W : World) (rg : Tb W) : Calls Tryd.prog 25 #[nv x, nv y, nv w] W fun e W' => ∃ v, e = .returned v ∧ v = .bool (decide (undI x y w)) ∧ Below W.heap.size W W' := by
  refine calls_cx (n := 15) Tryd.func25 rfl Tryd.ntmps25 (by simp) (fun _ q => by simp at q) ?_
  show CX none [] _ _ _ [(0, nv x), (1, nv y), (2, nv w)] _ _
  have u := Below.refl W.heap.size W
  refine cx_seq ?_
  refine cx_region ?_
  refine lg_boxs rfl (want_none (by rfl)) rfl rfl rfl (by decide) fun b1 w1 n1 => ?_
  have r1 := n1.row
  have k1 := n1.blk
  have z1 := n1.size
  have lt1 : b1 < w1.heap.size := by omega
  refine lg_allocs (u := .bool false) (by kernel_rfl) rfl (want_none (by rfl)) rfl rfl (by decide) fun b2 w2 n2 => ?_
  have r2 := n2.row
  have k2 := n2.blk
  have z2 := n2.size
  have lt2 : b2 < w2.heap.size := by omega
  refine lg_nil ?_
  refine nxx (E' := [(0, _), (2, _), (4, _), (6, _)]) (fk rfl (fk rfl (fk rfl (fk rfl fn)))) ?_
  refine cx_seq ?_
  refine cx_seq ?_
  refine cx_region ?_
  refine lsw (want_none (by rfl)) (y_move rfl rfl) rfl (by decide) ?_
  refine lsw (want_none (by rfl)) (y_move rfl rfl) rfl (by decide) ?_
  refine lg_callw (want_none (by rfl)) (up_any x w _) (by kernel_rfl) rfl rfl rfl (by decide) ?_
  rintro _ w3 ⟨b3, c3, rfl, x3, y3, i3, j3, hw3⟩
  have zw3 := hw3.size
  have lx3 := x3.lt
  have ly3 := y3.lt
  refine lg_nil ?_
  refine nxx (E' := [(4, _), (6, _), (10, _)]) (fk rfl (fk rfl (fk rfl fn))) ?_
  refine cx_block ?_
  have u := u.trans (n1.below.mono u.size)
  have u := u.trans (n2.below.mono u.size)
  have u := u.trans (hw3.mono u.size)
  have r1 := n2.keep r1
  have r1 := RowAt.below hw3 r1.lt r1
  have r2 := RowAt.below hw3 r2.lt r2
  refine cx_range (N := 8) (enc := nv) (d' := 7) (by kernel_rfl) rfl (up_stops x w b3 c3 _ x3 y3 (rg.up u)) upk_t upk_r upk_b (Below.refl _ _) (by decide)
    (fun pre v => Below W.heap.size W v ∧ RowAt v b1 3 #[nv y] ∧ RowAt v b2 4 #[.bool false] ∧ RowAt v c3 3 #[nv w] ∧ ∀ z ∈ pre, z ≠ y)
    (fun c pre v => c = .ret ∧ Below W.heap.size W v ∧ RowAt v b2 4 #[.bool true] ∧ y ∈ pre)
    (fun pre A B row hs hg hr => by obtain ⟨u, r1, r2, y3, hp⟩ := hs; have hn := fun r e => (hr r e).2; have hb := fun r e => (hr r e).1; exact ⟨below_nc (B := w3.heap.size) u (by omega) (by omega) hg hb, row_nc r1 hg hn, row_nc r2 hg hn, row_nc y3 hg hn, hp⟩)
    (fun c pre A B row hs hg hr => by obtain ⟨hc, u, r2, hq⟩ := hs; have hn := fun r e => (hr r e).2; have hb := fun r e => (hr r e).1; exact ⟨hc, below_nc (B := w3.heap.size) u (by omega) (by omega) hg hb, row_nc r2 hg hn, hq⟩)
    ⟨u, r1, r2, y3, (fun z hz => absurd hz (by simp))⟩
    (fun l x W => as_copy rfl rfl rfl rfl (by decide) l W) ?_ ?_ ?_
  · rintro l4 pre k v4 ⟨u, r1, r2, y3, hp⟩ hlen
    have zv4 := u.size
    have l_r1 := r1.lt
    have l_r2 := r2.lt
    have l_y3 := y3.lt
    have kf := KeepsFrom.refl w3.heap.size v4
    refine cx_block ?_
    refine cx_seq ?_
    refine cx_region ?_
    refine lsw (want_none (by rfl)) (y_move rfl rfl) rfl (by decide) ?_
    refine lsw (want_none (by rfl)) (y_cellv r1 rfl (by kernel_rfl) rfl rfl) rfl (by decide) ?_
    by_cases c5 : k = y
    · refine lsw (want_none (by rfl)) (yb (decide_eq_true c5) (yi_eql rfl rfl rfl)) rfl (by decide) ?_
      refine lg_nil ?_
      refine nxx (E' := [(6, _), (14, _)]) (fk rfl (fk rfl fn)) ?_
      refine cx_ct rfl ?_
      refine cx_seq ?_
      refine cx_region ?_
      have o6 := r2
      refine lg_sts r2 rfl rfl (by kernel_rfl) (want_none (by rfl)) rfl rfl rfl rfl fun w6 s6 => ?_
      have r2 := s6.row
      have z6 := s6.size
      refine lg_nil ?_
      refine nxx (E' := [(6, _)]) (fk rfl fn) ?_
      refine cx_ret ?_
      refine xg_block_ret ?_
      have u := u.trans (s6.below _ (by omega))
      have kf := kf.trans (kf_set s6 o6)
      exact fun a ha => ⟨kf, rfl, u, r2, (by simp [c5])⟩
    · refine lsw (want_none (by rfl)) (yb (decide_eq_false c5) (yi_eql rfl rfl rfl)) rfl (by decide) ?_
      refine lg_nil ?_
      refine nxx (E' := [(6, _), (14, _)]) (fk rfl (fk rfl fn)) ?_
      refine cx_cf rfl ?_
      refine cx_skip ?_
      refine xg_block_norm ?_
      exact fun a ha => ⟨kf, ⟨fun _ => y3, fun _ => (rg.up u)⟩, u, r1, r2, y3, (fun z hz => by rcases List.mem_append.1 hz with h | h; exact hp z h; simp at h; subst h; exact c5)⟩
  · rintro D4d xs v4d hD4d hS ⟨u, r1, r2, y3, hp⟩ hKD4d
    have zv4 := u.size
    have l_r1 := r1.lt
    have l_r2 := r2.lt
    have l_y3 := y3.lt
    refine xg_block_norm ?_
    refine nxx (E' := [(6, _)]) (fk rfl fn) ?_
    refine cx_seq ?_
    refine cx_region ?_
    have o7 := r2
    refine lg_sts r2 rfl rfl (by kernel_rfl) (want_none (by rfl)) rfl rfl rfl rfl fun w7 s7 => ?_
    have r2 := s7.row
    have z7 := s7.size
    refine lg_nil ?_
    refine nxx (E' := [(6, _)]) (fk rfl fn) ?_
    refine cx_ret ?_
    have u := u.trans (s7.below _ (by omega))
    have hKD4d := (s7.other _ (by omega)).trans hKD4d
    exact xg_ret [D4d] ⟨hKD4d, trivial⟩ (res_cell rfl rfl (row_nc r2 (put_grown _ D4d (.deferred none)) (put_nc hKD4d)) (by kernel_rfl)) ⟨_, rfl, congrArg Value.bool (decide_eq_false fun q => (by subst hS; exact hp _ ((way_und _ _ _).2 q) rfl)).symm, (below_nc u (B := D4d) (by omega) (Nat.le_refl _) (put_grown _ D4d (.deferred none)) (fun r e => by cases e; exact Nat.le_refl _))⟩
  · rintro D4s c pre v4s hD4s hS ⟨rfl, u, r2, hq⟩ hKD4s
    have zv4 := u.size
    have l_r2 := r2.lt
    refine cx_ret ?_
    refine xg_block_ret ?_
    refine xg_seq_ret ?_
    exact xg_ret [D4s] ⟨hKD4s, trivial⟩ (res_cell rfl rfl (row_nc r2 (put_grown _ D4s (.deferred none)) (put_nc hKD4s)) (by kernel_rfl)) ⟨_, rfl, congrArg Value.bool (decide_eq_true ((way_und _ _ _).1 (hS.subset hq))).symm, (below_nc u (B := D4s) (by omega) (Nat.le_refl _) (put_grown _ D4s (.deferred none)) (fun r e => by cases e; exact Nat.le_refl _))⟩
theorem direct_any (x w : Int) (W : World) (rg : Tb W) : Calls Tryd.prog 37 #[nv x, nv w] W fun e W' => ∃ v, e = .returned v ∧ ∃ A c, v = .slice A (dirI x w).length c ∧ (dirI x w).length ≤ c ∧ Nums W' W'.heap.size A (dirI x w).length (dirI x w) ∧ Below W.heap.size W W' := by
  refine calls_cx (n := 18) Tryd.func37 rfl Tryd.ntmps37 (by simp) (fun _ q => by simp at q) ?_
  show CX none [] _ _ _ [(0, nv x), (1, nv w)] _ _
  have u := Below.refl W.heap.size W
  refine cx_seq ?_
  refine cx_region ?_
  refine lsw (want_none (by rfl)) (y_assign rfl rfl) rfl (by decide) ?_
  refine lg_nil ?_
  refine nxx (E' := [(0, _), (1, _), (4, _)]) (fk rfl (fk rfl (fk rfl fn))) ?_
  refine cx_seq ?_
  refine cx_region ?_
  refine lg_allocs (u := .slice none 0 0) (by kernel_rfl) rfl (want_none (by rfl)) rfl rfl (by decide) fun b1 w1 n1 => ?_
  have r1 := n1.row
  have k1 := n1.blk
  have z1 := n1.size
  have lt1 : b1 < w1.heap.size := by omega
  refine lg_nil ?_
  refine nxx (E' := [(0, _), (1, _), (4, _), (5, _)]) (fk rfl (fk rfl (fk rfl (fk rfl fn)))) ?_
  refine cx_seq ?_
  refine cx_seq ?_
  refine cx_region ?_
  refine lsw (want_none (by rfl)) (y_move rfl rfl) rfl (by decide) ?_
  refine lsw (want_none (by rfl)) (y_move rfl rfl) rfl (by decide) ?_
  have u := u.trans (n1.below.mono u.size)
  refine lsw (want_none (by rfl)) (y_call (parent_any x w _ (rg.up u)) (by kernel_rfl) rfl rfl) rfl (by decide) ?_
  refine lsw (want_none (by rfl)) (y_move rfl rfl) rfl (by decide) ?_
  refine lg_callw (want_none (by rfl)) (up_any (parI x w) w _) (by kernel_rfl) rfl rfl rfl (by decide) ?_
  rintro _ w2 ⟨b2, c2, rfl, x2, y2, i2, j2, hw2⟩
  have zw2 := hw2.size
  have lx2 := x2.lt
  have ly2 := y2.lt
  refine lg_nil ?_
  refine nxx (E' := [(4, _), (5, _), (11, _)]) (fk rfl (fk rfl (fk rfl fn))) ?_
  refine cx_block ?_
  have u := u.trans (hw2.mono u.size)
  have r1 := RowAt.below hw2 r1.lt r1
  refine cx_range (N := 8) (enc := nv) (d' := 6) (by kernel_rfl) rfl (up_stops (parI x w) w b2 c2 _ x2 y2 (rg.up u)) upk_t upk_r upk_b (Below.refl _ _) (by decide)
    (fun pre v => ∃ (sv : Value), Below W.heap.size W v ∧ RowAt v b1 26 #[sv] ∧ v.ownsRow w2.heap.size 3 1 sv (pre).length ((pre).map (Value.int .i64)) ∧ w2.heap.size ≤ v.heap.size ∧ RowAt v c2 3 #[nv w])
    (fun c pre v => False)
    (fun pre A B row hs hg hr => by obtain ⟨sv, u, r1, g0, hs, y2⟩ := hs; have hn := fun r e => (hr r e).2; have hb := fun r e => (hr r e).1; exact ⟨sv, below_nc (B := w2.heap.size) u (by omega) (by omega) hg hb, row_nc r1 hg hn, owns_nc g0 hg hn, Nat.le_trans hs hg.size, row_nc y2 hg hn⟩)
    (fun c pre A B row hs hg hr => hs)
    ⟨_, u, r1, (own_nilN _ _), (Nat.le_refl _), y2⟩
    (fun l x W => as_copy rfl rfl rfl rfl (by decide) l W) ?_ ?_ ?_
  · rintro l3 pre k v3 ⟨sv, u, r1, g0, hs, y2⟩ hlen
    have zv3 := u.size
    have l_r1 := r1.lt
    have l_y2 := y2.lt
    have kf := KeepsFrom.refl w2.heap.size v3
    refine cx_block ?_
    refine cx_region ?_
    refine lsw (want_none (by rfl)) (y_cellv r1 rfl (by kernel_rfl) rfl rfl) rfl (by decide) ?_
    refine lsw (want_none (by rfl)) (y_move rfl rfl) rfl (by decide) ?_
    refine lg_bs1N (want_none (by rfl)) rfl rfl rfl (by decide) fun b4 w4 n4 => ?_
    have r4 := n4.row
    have k4 := n4.blk
    have z4 := n4.size
    have m4 := nums_new1 n4
    have g0 := own_below g0 n4.below
    refine lg_appK g0 r4 (by first | omega | (simp; omega)) (by omega) (want_none (by rfl)) rfl rfl rfl rfl rfl (by decide) fun v5 w5 g5 l5 f5 => ?_
    have z5 := l5.size
    obtain ⟨A5, c5, rfl, N5⟩ := own_nums_any g5
    have r1 := n4.keep r1
    have r1 := RowAt.below l5 (by omega) r1
    have o6 := r1
    refine lg_sts r1 rfl rfl (by kernel_rfl) (want_none (by rfl)) rfl rfl rfl rfl fun w6 s6 => ?_
    have r1 := s6.row
    have z6 := s6.size
    refine lg_nil ?_
    refine xg_block_norm ?_
    have g5 := own_set g5 s6 o6 (by omega)
    have u := u.trans (n4.below.mono u.size)
    have u := u.trans (l5.mono (by omega))
    have u := u.trans (s6.below _ (by omega))
    have hs := (show w2.heap.size ≤ w4.heap.size by omega)
    have hs := (show w2.heap.size ≤ w5.heap.size by omega)
    have hs := (show w2.heap.size ≤ w6.heap.size by omega)
    have y2 := n4.keep y2
    have y2 := RowAt.below l5 (by omega) y2
    have y2 := s6.keep y2 (by omega)
    have kf := kf.trans (kf_below n4.below)
    have kf := kf.trans (KeepsFrom.zero f5)
    have kf := kf.trans (kf_set s6 o6)
    exact fun a ha => ⟨kf, ⟨fun _ => y2, fun _ => (rg.up u)⟩, _, u, r1, g5, hs, y2⟩
  · rintro D3d xs v3d hD3d hS ⟨sv, u, r1, g0, hs, y2⟩ hKD3d
    have zv3 := u.size
    have l_r1 := r1.lt
    have l_y2 := y2.lt
    rw [way_par x w] at hS
    subst hS
    obtain ⟨A0, c0, rfl, N0⟩ := own_nums_any g0
    refine xg_block_norm ?_
    refine nxx (E' := [(4, _), (5, _)]) (fk rfl (fk rfl fn)) ?_
    refine cx_seq ?_
    refine cx_region ?_
    refine lsw (want_none (by rfl)) (y_cellv r1 rfl (by kernel_rfl) rfl rfl) rfl (by decide) ?_
    refine lsw (want_none (by rfl)) (y_assign rfl rfl) rfl (by decide) ?_
    refine lg_nil ?_
    refine nxx (E' := [(4, _)]) (fk rfl fn) ?_
    refine cx_ret ?_
    exact xg_ret [D3d] ⟨hKD3d, trivial⟩ (res_tmp rfl rfl) ⟨_, rfl, A0, c0, rfl, own_capN g0 rfl, own_numsA (owns_nc g0 (put_grown _ D3d (.deferred none)) (put_nc hKD3d)), (below_nc u (B := D3d) (by omega) (Nat.le_refl _) (put_grown _ D3d (.deferred none)) (fun r e => by cases e; exact Nat.le_refl _))⟩
  · rintro D c pre v hD hS h hK
    exact h.elim
end Go.Proofs.YtpoonjgkgaodmaaDoor
