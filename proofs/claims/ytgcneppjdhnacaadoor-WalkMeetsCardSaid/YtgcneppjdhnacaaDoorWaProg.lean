/-
  Ways up: what the functions of the program answer.
-/
import Derived.Test.YtgcneppjdhnacaaDoorWaUp
namespace Go.Proofs.YtgcneppjdhnacaaDoor
open Go.ChangeShapes Go.WideShapes Go.ChangeAt Go.RowKit
set_option linter.unusedVariables false
set_option maxRecDepth 20000
theorem way_nodes (x w : Int) : ∀ z ∈ wayI x w, isN z w := by
  by_cases h : isN x w
  · exact fin2 (p := fun x w => ∀ z ∈ wayI x w, isN z w) (by kernel_rfl) h
  · rw [way_no h]
    exact fun z hz => absurd hz (by simp)
theorem way_und (x y w : Int) : y ∈ wayI x w ↔ undI x y w := by
  by_cases hx : isN x w
  · by_cases hy : isN y w
    · rw [← und_dir hx hy]
      unfold wayI
      rw [if_pos hx, List.mem_cons]
      exact ⟨fun h => h.imp Eq.symm id, fun h => h.imp Eq.symm id⟩
    · exact ⟨fun h => absurd (way_nodes x w y h) hy, fun h => absurd h.2.1 hy⟩
  · rw [way_no hx]
    exact ⟨fun h => absurd h (by simp), fun h => absurd h.1 hx⟩
theorem way_par (x w : Int) : wayI (parI x w) w = dirI x w := by
  by_cases h : isN x w
  · have := way_yes h
    unfold wayI at this ⊢
    rw [if_pos h] at this
    exact (List.cons.inj this).2.symm
  · rw [par_no h, dir_no h]
    exact way_no fun q => by have := q.2.1; omega
theorem com_way {y w k : Int} {rest : List Int} (hy : undI y k w) : ∀ (pre : List Int) (x : Int), wayI x w = pre ++ k :: rest → (∀ z ∈ pre, ¬ undI y z w) → comI x y w = k := by
  intro pre
  induction pre with
  | nil =>
    intro x hp _
    have hx : isN x w := by
      refine Classical.byContradiction fun q => ?_
      rw [way_no q] at hp
      cases hp
    rw [way_yes hx] at hp
    obtain rfl : x = k := (List.cons.inj hp).1
    have := com_step hx hy.1
    rwa [if_pos hy] at this
  | cons z pre ih =>
    intro x hp hn
    have hx : isN x w := by
      refine Classical.byContradiction fun q => ?_
      rw [way_no q] at hp
      cases hp
    rw [way_yes hx] at hp
    obtain ⟨e, hp2⟩ := List.cons.inj hp
    subst e
    have := com_step hx hy.1
    rw [if_neg (hn x (by simp))] at this
    rw [this.2]
    exact ih _ hp2 fun q hq => hn q (by simp [hq])
theorem com_none {x y w : Int} (h : ∀ z ∈ wayI x w, ¬ undI y z w) : comI x y w = -1 := by
  refine com_no fun ⟨hx, hy⟩ => ?_
  have hc := com_facts hx hy
  exact h _ ((way_und _ _ _).2 hc.2.2.1) hc.2.2.2.1
/-- What stands beside some nodes. -/
def sibs (w : Int) (l : List Int) : List Int := (l.map fun k => sibI k w).filter fun s => s ≠ -1
theorem sibs_yes {w k : Int} {l : List Int} (h : sibI k w ≠ -1) : sibs w (l ++ [k]) = sibs w l ++ [sibI k w] := by simp [sibs, h]
theorem sibs_no {w k : Int} {l : List Int} (h : sibI k w = -1) : sibs w (l ++ [k]) = sibs w l := by simp [sibs, h]
theorem sibs_len (w : Int) (l : List Int) : (sibs w l).length ≤ l.length := by
  have := List.length_filter_le (fun s : Int => decide (s ≠ -1)) (l.map fun k => sibI k w)
  simpa [sibs] using this
theorem sibs_way (x w : Int) : sibs w (wayI x w) = copI x w := by
  by_cases h : isN x w
  · exact fin2 (p := fun x w => sibs w (wayI x w) = copI x w) (by kernel_rfl) h
  · rw [way_no h, cop_no h]
    rfl
theorem under_any (x y w : Int) (W : World) (rg : Tb W) : Calls Tryd.prog 19 #[nv x, nv y, nv w] W fun e W' => ∃ v, e = .returned v ∧ v = .bool (decide (undI x y w)) ∧ Below W.heap.size W W' := by
  refine calls_cx (n := 15) Tryd.func19 rfl Tryd.ntmps19 (by simp) (fun _ q => by simp at q) ?_
  show CX none [] _ _ _ [(0, nv x), (1, nv y), (2, nv w)] _ _
  have u := Below.refl W.heap.size W
  refine cx_seq ?_
  refine cx_region ?_
  refine lg_boxs rfl (want_none (by rfl)) rfl rfl rfl (by decide) fun b1 w1 n1 => ?_
  have r1 := n1.row
  have k1 := n1.blk
  have z1 := n1.size
  have lt1 : b1 < w1.heap.size := by omega
  refine lg_allocs (u := .bool false) (by kernel_rfl) rfl (want_none (by rfl)) rfl rfl (by decide) fun b2 w2 n2 => ?_
  have r2 := n2.row
  have k2 := n2.blk
  have z2 := n2.size
  have lt2 : b2 < w2.heap.size := by omega
  refine lg_nil ?_
  refine nxx (E' := [(0, _), (2, _), (4, _), (6, _)]) (fk rfl (fk rfl (fk rfl (fk rfl fn)))) ?_
  refine cx_seq ?_
  refine cx_seq ?_
  refine cx_region ?_
  refine lsw (want_none (by rfl)) (y_move rfl rfl) rfl (by decide) ?_
  refine lsw (want_none (by rfl)) (y_move rfl rfl) rfl (by decide) ?_
  refine lg_callw (want_none (by rfl)) (up_any x w _) (by kernel_rfl) rfl rfl rfl (by decide) ?_
  rintro _ w3 ⟨b3, c3, rfl, x3, y3, i3, j3, hw3⟩
  have zw3 := hw3.size
  have lx3 := x3.lt
  have ly3 := y3.lt
  refine lg_nil ?_
  refine nxx (E' := [(4, _), (6, _), (10, _)]) (fk rfl (fk rfl (fk rfl fn))) ?_
  refine cx_block ?_
  have u := u.trans (n1.below.mono u.size)
  have u := u.trans (n2.below.mono u.size)
  have u := u.trans (hw3.mono u.size)
  have r1 := n2.keep r1
  have r1 := RowAt.below hw3 r1.lt r1
  have r2 := RowAt.below hw3 r2.lt r2
  refine cx_range (N := 8) (enc := nv) (d' := 7) (by kernel_rfl) rfl (up_stops x w b3 c3 _ x3 y3 (rg.up u)) upk_t upk_r upk_b (Below.refl _ _) (by decide)
    (fun pre v => Below W.heap.size W v ∧ RowAt v b1 3 #[nv y] ∧ RowAt v b2 4 #[.bool false] ∧ RowAt v c3 3 #[nv w] ∧ ∀ z ∈ pre, z ≠ y)
    (fun c pre v => c = .ret ∧ Below W.heap.size W v ∧ RowAt v b2 4 #[.bool true] ∧ y ∈ pre)
    (fun pre A B row hs hg hr => by obtain ⟨u, r1, r2, y3, hp⟩ := hs; have hn := fun r e => (hr r e).2; have hb := fun r e => (hr r e).1; exact ⟨below_nc (B := w3.heap.size) u (by omega) (by omega) hg hb, row_nc r1 hg hn, row_nc r2 hg hn, row_nc y3 hg hn, hp⟩)
    (fun c pre A B row hs hg hr => by obtain ⟨hc, u, r2, hq⟩ := hs; have hn := fun r e => (hr r e).2; have hb := fun r e => (hr r e).1; exact ⟨hc, below_nc (B := w3.heap.size) u (by omega) (by omega) hg hb, row_nc r2 hg hn, hq⟩)
    ⟨u, r1, r2, y3, (fun z hz => absurd hz (by simp))⟩
    (fun l x W => as_copy rfl rfl rfl rfl (by decide) l W) ?_ ?_ ?_
  · rintro l4 pre k v4 ⟨u, r1, r2, y3, hp⟩ hlen
    have zv4 := u.size
    have l_r1 := r1.lt
    have l_r2 := r2.lt
    have l_y3 := y3.lt
    have kf := KeepsFrom.refl w3.heap.size v4
    refine cx_block ?_
    refine cx_seq ?_
    refine cx_region ?_
    refine lsw (want_none (by rfl)) (y_move rfl rfl) rfl (by decide) ?_
    refine lsw (want_none (by rfl)) (y_cellv r1 rfl (by kernel_rfl) rfl rfl) rfl (by decide) ?_
    by_cases c5 : k = y
    · refine lsw (want_none (by rfl)) (yb (decide_eq_true c5) (yi_eql rfl rfl rfl)) rfl (by decide) ?_
      refine lg_nil ?_
      refine nxx (E' := [(6, _), (14, _)]) (fk rfl (fk rfl fn)) ?_
      refine cx_ct rfl ?_
      refine cx_seq ?_
      refine cx_region ?_
      have o6 := r2
      refine lg_sts r2 rfl rfl (by kernel_rfl) (want_none (by rfl)) rfl rfl rfl rfl fun w6 s6 => ?_
      have r2 := s6.row
      have z6 := s6.size
      refine lg_nil ?_
      refine nxx (E' := [(6, _)]) (fk rfl fn) ?_
      refine cx_ret ?_
      refine xg_block_ret ?_
      have u := u.trans (s6.below _ (by omega))
      have kf := kf.trans (kf_set s6 o6)
      exact fun a ha => ⟨kf, rfl, u, r2, (by simp [c5])⟩
    · refine lsw (want_none (by rfl)) (yb (decide_eq_false c5) (yi_eql rfl rfl rfl)) rfl (by decide) ?_
      refine lg_nil ?_
      refine nxx (E' := [(6, _), (14, _)]) (fk rfl (fk rfl fn)) ?_
      refine cx_cf rfl ?_
      refine cx_skip ?_
      refine xg_block_norm ?_
      exact fun a ha => ⟨kf, ⟨fun _ => y3, fun _ => (rg.up u)⟩, u, r1, r2, y3, (fun z hz => by rcases List.mem_append.1 hz with h | h; exact hp z h; simp at h; subst h; exact c5)⟩
  · rintro D4d xs v4d hD4d hS ⟨u, r1, r2, y3, hp⟩ hKD4d
    have zv4 := u.size
    have l_r1 := r1.lt
    have l_r2 := r2.lt
    have l_y3 := y3.lt
    refine xg_block_norm ?_
    refine nxx (E' := [(6, _)]) (fk rfl fn) ?_
    refine cx_seq ?_
    refine cx_region ?_
    have o7 := r2
    refine lg_sts r2 rfl rfl (by kernel_rfl) (want_none (by rfl)) rfl rfl rfl rfl fun w7 s7 => ?_
    have r2 := s7.row
    have z7 := s7.size
    refine lg_nil ?_
    refine nxx (E' := [(6, _)]) (fk rfl fn) ?_
    refine cx_ret ?_
    have u := u.trans (s7.below _ (by omega))
    have hKD4d := (s7.other _ (by omega)).trans hKD4d
    exact xg_ret [D4d] ⟨hKD4d, trivial⟩ (res_cell rfl rfl (row_nc r2 (put_grown _ D4d (.deferred none)) (put_nc hKD4d)) (by kernel_rfl)) ⟨_, rfl, congrArg Value.bool (decide_eq_false fun q => (by subst hS; exact hp _ ((way_und _ _ _).2 q) rfl)).symm, (below_nc u (B := D4d) (by omega) (Nat.le_refl _) (put_grown _ D4d (.deferred none)) (fun r e => by cases e; exact Nat.le_refl _))⟩
  · rintro D4s c pre v4s hD4s hS ⟨rfl, u, r2, hq⟩ hKD4s
    have zv4 := u.size
    have l_r2 := r2.lt
    refine cx_ret ?_
    refine xg_block_ret ?_
    refine xg_seq_ret ?_
    exact xg_ret [D4s] ⟨hKD4s, trivial⟩ (res_cell rfl rfl (row_nc r2 (put_grown _ D4s (.deferred none)) (put_nc hKD4s)) (by kernel_rfl)) ⟨_, rfl, congrArg Value.bool (decide_eq_true ((way_und _ _ _).1 (hS.subset hq))).symm, (below_nc u (B := D4s) (by omega) (Nat.le_refl _) (put_grown _ D4s (.deferred none)) (fun r e => by cases e; exact Nat.le_refl _))⟩
theorem common_any (x y w : Int) (W : World) (rg : Tb W) : Calls Tryd.prog 17 #[nv x, nv y, nv w] W fun e W' => ∃ v, e = .returned v ∧ v = nv (comI x y w) ∧ Below W.heap.size W W' := by
  refine calls_cx (n := 17) Tryd.func17 rfl Tryd.ntmps17 (by simp) (fun _ q => by simp at q) ?_
  show CX none [] _ _ _ [(0, nv x), (1, nv y), (2, nv w)] _ _
  have u := Below.refl W.heap.size W
  refine cx_seq ?_
  refine cx_region ?_
  refine lg_boxs rfl (want_none (by rfl)) rfl rfl rfl (by decide) fun b1 w1 n1 => ?_
  have r1 := n1.row
  have k1 := n1.blk
  have z1 := n1.size
  have lt1 : b1 < w1.heap.size := by omega
  refine lg_boxs rfl (want_none (by rfl)) rfl rfl rfl (by decide) fun b2 w2 n2 => ?_
  have r2 := n2.row
  have k2 := n2.blk
  have z2 := n2.size
  have lt2 : b2 < w2.heap.size := by omega
  refine lg_allocs (u := nv 0) (by kernel_rfl) rfl (want_none (by rfl)) rfl rfl (by decide) fun b3 w3 n3 => ?_
  have r3 := n3.row
  have k3 := n3.blk
  have z3 := n3.size
  have lt3 : b3 < w3.heap.size := by omega
  refine lg_nil ?_
  refine nxx (E' := [(0, _), (4, _), (5, _), (6, _)]) (fk rfl (fk rfl (fk rfl (fk rfl fn)))) ?_
  refine cx_seq ?_
  refine cx_seq ?_
  refine cx_region ?_
  refine lsw (want_none (by rfl)) (y_move rfl rfl) rfl (by decide) ?_
  have r2 := n3.keep r2
  refine lsw (want_none (by rfl)) (y_cellv r2 rfl (by kernel_rfl) rfl rfl) rfl (by decide) ?_
  refine lg_callw (want_none (by rfl)) (up_any x w _) (by kernel_rfl) rfl rfl rfl (by decide) ?_
  rintro _ w4 ⟨b4, c4, rfl, x4, y4, i4, j4, hw4⟩
  have zw4 := hw4.size
  have lx4 := x4.lt
  have ly4 := y4.lt
  refine lg_nil ?_
  refine nxx (E' := [(4, _), (5, _), (6, _), (10, _)]) (fk rfl (fk rfl (fk rfl (fk rfl fn)))) ?_
  refine cx_block ?_
  have u := u.trans (n1.below.mono u.size)
  have u := u.trans (n2.below.mono u.size)
  have u := u.trans (n3.below.mono u.size)
  have u := u.trans (hw4.mono u.size)
  have r1 := n2.keep r1
  have r1 := n3.keep r1
  have r1 := RowAt.below hw4 r1.lt r1
  have r2 := RowAt.below hw4 r2.lt r2
  have r3 := RowAt.below hw4 r3.lt r3
  refine cx_range (N := 8) (enc := nv) (d' := 7) (by kernel_rfl) rfl (up_stops x w b4 c4 _ x4 y4 (rg.up u)) upk_t upk_r upk_b (Below.refl _ _) (by decide)
    (fun pre v => Below W.heap.size W v ∧ RowAt v b1 3 #[nv y] ∧ RowAt v b2 3 #[nv w] ∧ RowAt v b3 3 #[nv 0] ∧ RowAt v c4 3 #[nv w] ∧ ∀ z ∈ pre, ¬ undI y z w)
    (fun c pre v => c = .ret ∧ ∃ (k0 : Int) (l0 : List Int), Below W.heap.size W v ∧ RowAt v b3 3 #[nv k0] ∧ (pre = l0 ++ [k0] ∧ (∀ z ∈ l0, ¬ undI y z w) ∧ undI y k0 w))
    (fun pre A B row hs hg hr => by obtain ⟨u, r1, r2, r3, y4, hp⟩ := hs; have hn := fun r e => (hr r e).2; have hb := fun r e => (hr r e).1; exact ⟨below_nc (B := w4.heap.size) u (by omega) (by omega) hg hb, row_nc r1 hg hn, row_nc r2 hg hn, row_nc r3 hg hn, row_nc y4 hg hn, hp⟩)
    (fun c pre A B row hs hg hr => by obtain ⟨hc, k0, l0, u, r3, hq⟩ := hs; have hn := fun r e => (hr r e).2; have hb := fun r e => (hr r e).1; exact ⟨hc, k0, l0, below_nc (B := w4.heap.size) u (by omega) (by omega) hg hb, row_nc r3 hg hn, hq⟩)
    ⟨u, r1, r2, r3, y4, (fun z hz => absurd hz (by simp))⟩
    (fun l x W => as_copy rfl rfl rfl rfl (by decide) l W) ?_ ?_ ?_
  · rintro l5 pre k v5 ⟨u, r1, r2, r3, y4, hp⟩ hlen
    have zv5 := u.size
    have l_r1 := r1.lt
    have l_r2 := r2.lt
    have l_r3 := r3.lt
    have l_y4 := y4.lt
    have kf := KeepsFrom.refl w4.heap.size v5
    refine cx_block ?_
    refine cx_seq ?_
    refine cx_region ?_
    refine lsw (want_none (by rfl)) (y_cellv r1 rfl (by kernel_rfl) rfl rfl) rfl (by decide) ?_
    refine lsw (want_none (by rfl)) (y_move rfl rfl) rfl (by decide) ?_
    refine lsw (want_none (by rfl)) (y_cellv r2 rfl (by kernel_rfl) rfl rfl) rfl (by decide) ?_
    by_cases c6 : undI y k w
    · refine lg_callw (want_none (by rfl)) (under_any y k w _ (rg.up u)) (by kernel_rfl) rfl rfl rfl (by decide) ?_
      rintro u7 w7 ⟨e7, hw7⟩
      have zw7 := hw7.size
      obtain rfl : u7 = .bool true := e7.trans (congrArg Value.bool (decide_eq_true c6))
      refine lg_nil ?_
      refine nxx (E' := [(6, _), (7, _), (15, _)]) (fk rfl (fk rfl (fk rfl fn))) ?_
      refine cx_ct rfl ?_
      refine cx_seq ?_
      refine cx_region ?_
      refine lsw (want_none (by rfl)) (y_move rfl rfl) rfl (by decide) ?_
      have r3 := RowAt.below hw7 r3.lt r3
      have o8 := r3
      refine lg_sts r3 rfl rfl (by kernel_rfl) (want_none (by rfl)) rfl rfl rfl rfl fun w8 s8 => ?_
      have r3 := s8.row
      have z8 := s8.size
      refine lg_nil ?_
      refine nxx (E' := [(6, _)]) (fk rfl fn) ?_
      refine cx_ret ?_
      refine xg_block_ret ?_
      have u := u.trans (hw7.mono u.size)
      have u := u.trans (s8.below _ (by omega))
      have kf := kf.trans (kf_below hw7)
      have kf := kf.trans (kf_set s8 o8)
      exact fun a ha => ⟨kf, rfl, k, pre, u, r3, ⟨rfl, hp, c6⟩⟩
    · refine lg_callw (want_none (by rfl)) (under_any y k w _ (rg.up u)) (by kernel_rfl) rfl rfl rfl (by decide) ?_
      rintro u9 w9 ⟨e9, hw9⟩
      have zw9 := hw9.size
      obtain rfl : u9 = .bool false := e9.trans (congrArg Value.bool (decide_eq_false c6))
      refine lg_nil ?_
      refine nxx (E' := [(6, _), (7, _), (15, _)]) (fk rfl (fk rfl (fk rfl fn))) ?_
      refine cx_cf rfl ?_
      refine cx_skip ?_
      refine xg_block_norm ?_
      have u := u.trans (hw9.mono u.size)
      have r1 := RowAt.below hw9 r1.lt r1
      have r2 := RowAt.below hw9 r2.lt r2
      have r3 := RowAt.below hw9 r3.lt r3
      have y4 := RowAt.below hw9 y4.lt y4
      have kf := kf.trans (kf_below hw9)
      exact fun a ha => ⟨kf, ⟨fun _ => y4, fun _ => (rg.up u)⟩, u, r1, r2, r3, y4, (fun z hz => by rcases List.mem_append.1 hz with h | h; exact hp z h; simp at h; subst h; exact c6)⟩
  · rintro D5d xs v5d hD5d hS ⟨u, r1, r2, r3, y4, hp⟩ hKD5d
    have zv5 := u.size
    have l_r1 := r1.lt
    have l_r2 := r2.lt
    have l_r3 := r3.lt
    have l_y4 := y4.lt
    refine xg_block_norm ?_
    refine nxx (E' := [(6, _)]) (fk rfl fn) ?_
    refine cx_seq ?_
    refine cx_region ?_
    have o10 := r3
    refine lg_sts r3 rfl rfl (by kernel_rfl) (want_none (by rfl)) rfl rfl rfl rfl fun w10 s10 => ?_
    have r3 := s10.row
    have z10 := s10.size
    refine lg_nil ?_
    refine nxx (E' := [(6, _)]) (fk rfl fn) ?_
    refine cx_ret ?_
    subst hS
    have u := u.trans (s10.below _ (by omega))
    have hKD5d := (s10.other _ (by omega)).trans hKD5d
    exact xg_ret [D5d] ⟨hKD5d, trivial⟩ (res_cell rfl rfl (row_nc r3 (put_grown _ D5d (.deferred none)) (put_nc hKD5d)) (by kernel_rfl)) ⟨_, rfl, congrArg nv (com_none hp).symm, (below_nc u (B := D5d) (by omega) (Nat.le_refl _) (put_grown _ D5d (.deferred none)) (fun r e => by cases e; exact Nat.le_refl _))⟩
  · rintro D5s c pre v5s hD5s hS ⟨rfl, k0, l0, u, r3, hq⟩ hKD5s
    have zv5 := u.size
    have l_r3 := r3.lt
    refine cx_ret ?_
    refine xg_block_ret ?_
    refine xg_seq_ret ?_
    obtain ⟨rfl, hq1, hq2⟩ := hq
    obtain ⟨rest, hr⟩ := hS
    rw [List.append_assoc] at hr
    exact xg_ret [D5s] ⟨hKD5s, trivial⟩ (res_cell rfl rfl (row_nc r3 (put_grown _ D5s (.deferred none)) (put_nc hKD5s)) (by kernel_rfl)) ⟨_, rfl, congrArg nv (com_way hq2 l0 x hr.symm hq1).symm, (below_nc u (B := D5s) (by omega) (Nat.le_refl _) (put_grown _ D5s (.deferred none)) (fun r e => by cases e; exact Nat.le_refl _))⟩
theorem direct_any (x w : Int) (W : World) (rg : Tb W) : Calls Tryd.prog 13 #[nv x, nv w] W fun e W' => ∃ v, e = .returned v ∧ ∃ A c, v = .slice A (dirI x w).length c ∧ (dirI x w).length ≤ c ∧ Nums W' W'.heap.size A (dirI x w).length (dirI x w) ∧ Below W.heap.size W W' := by
  refine calls_cx (n := 18) Tryd.func13 rfl Tryd.ntmps13 (by simp) (fun _ q => by simp at q) ?_
  show CX none [] _ _ _ [(0, nv x), (1, nv w)] _ _
  have u := Below.refl W.heap.size W
  refine cx_seq ?_
  refine cx_region ?_
  refine lsw (want_none (by rfl)) (y_assign rfl rfl) rfl (by decide) ?_
  refine lg_nil ?_
  refine nxx (E' := [(0, _), (1, _), (4, _)]) (fk rfl (fk rfl (fk rfl fn))) ?_
  refine cx_seq ?_
  refine cx_region ?_
  refine lg_allocs (u := .slice none 0 0) (by kernel_rfl) rfl (want_none (by rfl)) rfl rfl (by decide) fun b1 w1 n1 => ?_
  have r1 := n1.row
  have k1 := n1.blk
  have z1 := n1.size
  have lt1 : b1 < w1.heap.size := by omega
  refine lg_nil ?_
  refine nxx (E' := [(0, _), (1, _), (4, _), (5, _)]) (fk rfl (fk rfl (fk rfl (fk rfl fn)))) ?_
  refine cx_seq ?_
  refine cx_seq ?_
  refine cx_region ?_
  refine lsw (want_none (by rfl)) (y_move rfl rfl) rfl (by decide) ?_
  refine lsw (want_none (by rfl)) (y_move rfl rfl) rfl (by decide) ?_
  have u := u.trans (n1.below.mono u.size)
  refine lsw (want_none (by rfl)) (y_call (parent_any x w _ (rg.up u)) (by kernel_rfl) rfl rfl) rfl (by decide) ?_
  refine lsw (want_none (by rfl)) (y_move rfl rfl) rfl (by decide) ?_
  refine lg_callw (want_none (by rfl)) (up_any (parI x w) w _) (by kernel_rfl) rfl rfl rfl (by decide) ?_
  rintro _ w2 ⟨b2, c2, rfl, x2, y2, i2, j2, hw2⟩
  have zw2 := hw2.size
  have lx2 := x2.lt
  have ly2 := y2.lt
  refine lg_nil ?_
  refine nxx (E' := [(4, _), (5, _), (11, _)]) (fk rfl (fk rfl (fk rfl fn))) ?_
  refine cx_block ?_
  have u := u.trans (hw2.mono u.size)
  have r1 := RowAt.below hw2 r1.lt r1
  refine cx_range (N := 8) (enc := nv) (d' := 6) (by kernel_rfl) rfl (up_stops (parI x w) w b2 c2 _ x2 y2 (rg.up u)) upk_t upk_r upk_b (Below.refl _ _) (by decide)
    (fun pre v => ∃ (sv : Value), Below W.heap.size W v ∧ RowAt v b1 26 #[sv] ∧ v.ownsRow w2.heap.size 3 1 sv (pre).length ((pre).map (Value.int .i64)) ∧ w2.heap.size ≤ v.heap.size ∧ RowAt v c2 3 #[nv w])
    (fun c pre v => False)
    (fun pre A B row hs hg hr => by obtain ⟨sv, u, r1, g0, hs, y2⟩ := hs; have hn := fun r e => (hr r e).2; have hb := fun r e => (hr r e).1; exact ⟨sv, below_nc (B := w2.heap.size) u (by omega) (by omega) hg hb, row_nc r1 hg hn, owns_nc g0 hg hn, Nat.le_trans hs hg.size, row_nc y2 hg hn⟩)
    (fun c pre A B row hs hg hr => hs)
    ⟨_, u, r1, (own_nilN _ _), (Nat.le_refl _), y2⟩
    (fun l x W => as_copy rfl rfl rfl rfl (by decide) l W) ?_ ?_ ?_
  · rintro l3 pre k v3 ⟨sv, u, r1, g0, hs, y2⟩ hlen
    have zv3 := u.size
    have l_r1 := r1.lt
    have l_y2 := y2.lt
    have kf := KeepsFrom.refl w2.heap.size v3
    refine cx_block ?_
    refine cx_region ?_
    refine lsw (want_none (by rfl)) (y_cellv r1 rfl (by kernel_rfl) rfl rfl) rfl (by decide) ?_
    refine lsw (want_none (by rfl)) (y_move rfl rfl) rfl (by decide) ?_
    refine lg_bs1N (want_none (by rfl)) rfl rfl rfl (by decide) fun b4 w4 n4 => ?_
    have r4 := n4.row
    have k4 := n4.blk
    have z4 := n4.size
    have m4 := nums_new1 n4
    have g0 := own_below g0 n4.below
    refine lg_appK g0 r4 (by first | omega | (simp; omega)) (by omega) (want_none (by rfl)) rfl rfl rfl rfl rfl (by decide) fun v5 w5 g5 l5 f5 => ?_
    have z5 := l5.size
    obtain ⟨A5, c5, rfl, N5⟩ := own_nums_any g5
    have r1 := n4.keep r1
    have r1 := RowAt.below l5 (by omega) r1
    have o6 := r1
    refine lg_sts r1 rfl rfl (by kernel_rfl) (want_none (by rfl)) rfl rfl rfl rfl fun w6 s6 => ?_
    have r1 := s6.row
    have z6 := s6.size
    refine lg_nil ?_
    refine xg_block_norm ?_
    have g5 := own_set g5 s6 o6 (by omega)
    have u := u.trans (n4.below.mono u.size)
    have u := u.trans (l5.mono (by omega))
    have u := u.trans (s6.below _ (by omega))
    have hs := (show w2.heap.size ≤ w4.heap.size by omega)
    have hs := (show w2.heap.size ≤ w5.heap.size by omega)
    have hs := (show w2.heap.size ≤ w6.heap.size by omega)
    have y2 := n4.keep y2
    have y2 := RowAt.below l5 (by omega) y2
    have y2 := s6.keep y2 (by omega)
    have kf := kf.trans (kf_below n4.below)
    have kf := kf.trans (KeepsFrom.zero f5)
    have kf := kf.trans (kf_set s6 o6)
    exact fun a ha => ⟨kf, ⟨fun _ => y2, fun _ => (rg.up u)⟩, _, u, r1, g5, hs, y2⟩
  · rintro D3d xs v3d hD3d hS ⟨sv, u, r1, g0, hs, y2⟩ hKD3d
    have zv3 := u.size
    have l_r1 := r1.lt
    have l_y2 := y2.lt
    rw [way_par x w] at hS
    subst hS
    obtain ⟨A0, c0, rfl, N0⟩ := own_nums_any g0
    refine xg_block_norm ?_
    refine nxx (E' := [(4, _), (5, _)]) (fk rfl (fk rfl fn)) ?_
    refine cx_seq ?_
    refine cx_region ?_
    refine lsw (want_none (by rfl)) (y_cellv r1 rfl (by kernel_rfl) rfl rfl) rfl (by decide) ?_
    refine lsw (want_none (by rfl)) (y_assign rfl rfl) rfl (by decide) ?_
    refine lg_nil ?_
    refine nxx (E' := [(4, _)]) (fk rfl fn) ?_
    refine cx_ret ?_
    exact xg_ret [D3d] ⟨hKD3d, trivial⟩ (res_tmp rfl rfl) ⟨_, rfl, A0, c0, rfl, own_capN g0 rfl, own_numsA (owns_nc g0 (put_grown _ D3d (.deferred none)) (put_nc hKD3d)), (below_nc u (B := D3d) (by omega) (Nat.le_refl _) (put_grown _ D3d (.deferred none)) (fun r e => by cases e; exact Nat.le_refl _))⟩
  · rintro D c pre v hD hS h hK
    exact h.elim
theorem copath_any (x w : Int) (W : World) (rg : Tb W) : Calls Tryd.prog 15 #[nv x, nv w] W fun e W' => ∃ v, e = .returned v ∧ ∃ A c, v = .slice A (copI x w).length c ∧ (copI x w).length ≤ c ∧ Nums W' W'.heap.size A (copI x w).length (copI x w) ∧ Below W.heap.size W W' := by
  refine calls_cx (n := 22) Tryd.func15 rfl Tryd.ntmps15 (by simp) (fun _ q => by simp at q) ?_
  show CX none [] _ _ _ [(0, nv x), (1, nv w)] _ _
  have u := Below.refl W.heap.size W
  refine cx_seq ?_
  refine cx_region ?_
  refine lg_boxs rfl (want_none (by rfl)) rfl rfl rfl (by decide) fun b1 w1 n1 => ?_
  have r1 := n1.row
  have k1 := n1.blk
  have z1 := n1.size
  have lt1 : b1 < w1.heap.size := by omega
  refine lsw (want_none (by rfl)) (y_assign rfl rfl) rfl (by decide) ?_
  refine lg_nil ?_
  refine nxx (E' := [(0, _), (3, _), (4, _)]) (fk rfl (fk rfl (fk rfl fn))) ?_
  refine cx_seq ?_
  refine cx_region ?_
  refine lg_allocs (u := .slice none 0 0) (by kernel_rfl) rfl (want_none (by rfl)) rfl rfl (by decide) fun b2 w2 n2 => ?_
  have r2 := n2.row
  have k2 := n2.blk
  have z2 := n2.size
  have lt2 : b2 < w2.heap.size := by omega
  refine lg_nil ?_
  refine nxx (E' := [(0, _), (3, _), (4, _), (5, _)]) (fk rfl (fk rfl (fk rfl (fk rfl fn)))) ?_
  refine cx_seq ?_
  refine cx_seq ?_
  refine cx_region ?_
  refine lsw (want_none (by rfl)) (y_move rfl rfl) rfl (by decide) ?_
  have r1 := n2.keep r1
  refine lsw (want_none (by rfl)) (y_cellv r1 rfl (by kernel_rfl) rfl rfl) rfl (by decide) ?_
  refine lg_callw (want_none (by rfl)) (up_any x w _) (by kernel_rfl) rfl rfl rfl (by decide) ?_
  rintro _ w3 ⟨b3, c3, rfl, x3, y3, i3, j3, hw3⟩
  have zw3 := hw3.size
  have lx3 := x3.lt
  have ly3 := y3.lt
  refine lg_nil ?_
  refine nxx (E' := [(3, _), (4, _), (5, _), (10, _)]) (fk rfl (fk rfl (fk rfl (fk rfl fn)))) ?_
  refine cx_block ?_
  have u := u.trans (n1.below.mono u.size)
  have u := u.trans (n2.below.mono u.size)
  have u := u.trans (hw3.mono u.size)
  have r2 := RowAt.below hw3 r2.lt r2
  have r1 := RowAt.below hw3 r1.lt r1
  refine cx_range (N := 8) (enc := nv) (d' := 6) (by kernel_rfl) rfl (up_stops x w b3 c3 _ x3 y3 (rg.up u)) upk_t upk_r upk_b (Below.refl _ _) (by decide)
    (fun pre v => ∃ (sv : Value), Below W.heap.size W v ∧ RowAt v b2 26 #[sv] ∧ v.ownsRow w3.heap.size 3 1 sv (sibs w pre).length ((sibs w pre).map (Value.int .i64)) ∧ w3.heap.size ≤ v.heap.size ∧ RowAt v c3 3 #[nv w] ∧ RowAt v b1 3 #[nv w])
    (fun c pre v => False)
    (fun pre A B row hs hg hr => by obtain ⟨sv, u, r2, g0, hs, y3, r1⟩ := hs; have hn := fun r e => (hr r e).2; have hb := fun r e => (hr r e).1; exact ⟨sv, below_nc (B := w3.heap.size) u (by omega) (by omega) hg hb, row_nc r2 hg hn, owns_nc g0 hg hn, Nat.le_trans hs hg.size, row_nc y3 hg hn, row_nc r1 hg hn⟩)
    (fun c pre A B row hs hg hr => hs)
    ⟨_, u, r2, (own_nilN _ _), (Nat.le_refl _), y3, r1⟩
    (fun l x W => as_copy rfl rfl rfl rfl (by decide) l W) ?_ ?_ ?_
  · rintro l4 pre k v4 ⟨sv, u, r2, g0, hs, y3, r1⟩ hlen
    have zv4 := u.size
    have l_r2 := r2.lt
    have l_y3 := y3.lt
    have l_r1 := r1.lt
    have kf := KeepsFrom.refl w3.heap.size v4
    have sl := sibs_len w pre
    refine cx_block ?_
    refine cx_seq ?_
    refine cx_region ?_
    refine lsw (want_none (by rfl)) (y_move rfl rfl) rfl (by decide) ?_
    refine lsw (want_none (by rfl)) (y_cellv r1 rfl (by kernel_rfl) rfl rfl) rfl (by decide) ?_
    refine lsw (want_none (by rfl)) (y_call (sibling_any k w _ (rg.up u)) (by kernel_rfl) rfl rfl) rfl (by decide) ?_
    refine lsw (want_none (by rfl)) (y_assign rfl rfl) rfl (by decide) ?_
    refine lg_nil ?_
    refine nxx (E' := [(4, _), (5, _), (7, _)]) (fk rfl (fk rfl (fk rfl fn))) ?_
    refine cx_seq ?_
    refine cx_region ?_
    refine lsw (want_none (by rfl)) (y_move rfl rfl) rfl (by decide) ?_
    by_cases c5 : (sibI k w) = (-1)
    · refine lsw (want_none (by rfl)) (yb (nd_f c5) (yi_neq rfl rfl rfl)) rfl (by decide) ?_
      refine lg_nil ?_
      refine nxx (E' := [(4, _), (5, _), (7, _), (16, _)]) (fk rfl (fk rfl (fk rfl (fk rfl fn)))) ?_
      refine cx_cf rfl ?_
      refine cx_skip ?_
      refine xg_block_norm ?_
      exact fun a ha => ⟨kf, ⟨fun _ => y3, fun _ => (rg.up u)⟩, sv, u, r2, (by rw [sibs_no c5]; exact g0), hs, y3, r1⟩
    · refine lsw (want_none (by rfl)) (yb (nd_t c5) (yi_neq rfl rfl rfl)) rfl (by decide) ?_
      refine lg_nil ?_
      refine nxx (E' := [(4, _), (5, _), (7, _), (16, _)]) (fk rfl (fk rfl (fk rfl (fk rfl fn)))) ?_
      refine cx_ct rfl ?_
      refine cx_region ?_
      refine lsw (want_none (by rfl)) (y_cellv r2 rfl (by kernel_rfl) rfl rfl) rfl (by decide) ?_
      refine lsw (want_none (by rfl)) (y_move rfl rfl) rfl (by decide) ?_
      refine lg_bs1N (want_none (by rfl)) rfl rfl rfl (by decide) fun b6 w6 n6 => ?_
      have r6 := n6.row
      have k6 := n6.blk
      have z6 := n6.size
      have m6 := nums_new1 n6
      have g0 := own_below g0 n6.below
      refine lg_appK g0 r6 (by first | omega | (simp; omega)) (by omega) (want_none (by rfl)) rfl rfl rfl rfl rfl (by decide) fun v7 w7 g7 l7 f7 => ?_
      have z7 := l7.size
      obtain ⟨A7, c7, rfl, N7⟩ := own_nums_any g7
      have r2 := n6.keep r2
      have r2 := RowAt.below l7 (by omega) r2
      have o8 := r2
      refine lg_sts r2 rfl rfl (by kernel_rfl) (want_none (by rfl)) rfl rfl rfl rfl fun w8 s8 => ?_
      have r2 := s8.row
      have z8 := s8.size
      refine lg_nil ?_
      refine xg_block_norm ?_
      have g7 := own_set g7 s8 o8 (by omega)
      have u := u.trans (n6.below.mono u.size)
      have u := u.trans (l7.mono (by omega))
      have u := u.trans (s8.below _ (by omega))
      have hs := (show w3.heap.size ≤ w6.heap.size by omega)
      have hs := (show w3.heap.size ≤ w7.heap.size by omega)
      have hs := (show w3.heap.size ≤ w8.heap.size by omega)
      have y3 := n6.keep y3
      have y3 := RowAt.below l7 (by omega) y3
      have y3 := s8.keep y3 (by omega)
      have r1 := n6.keep r1
      have r1 := RowAt.below l7 (by omega) r1
      have r1 := s8.keep r1 (by omega)
      have kf := kf.trans (kf_below n6.below)
      have kf := kf.trans (KeepsFrom.zero f7)
      have kf := kf.trans (kf_set s8 o8)
      exact fun a ha => ⟨kf, ⟨fun _ => y3, fun _ => (rg.up u)⟩, _, u, r2, (by rw [sibs_yes c5]; exact g7), hs, y3, r1⟩
  · rintro D4d xs v4d hD4d hS ⟨sv, u, r2, g0, hs, y3, r1⟩ hKD4d
    have zv4 := u.size
    have l_r2 := r2.lt
    have l_y3 := y3.lt
    have l_r1 := r1.lt
    skip
    subst hS
    rw [sibs_way] at g0
    obtain ⟨A0, c0, rfl, N0⟩ := own_nums_any g0
    refine xg_block_norm ?_
    refine nxx (E' := [(4, _), (5, _)]) (fk rfl (fk rfl fn)) ?_
    refine cx_seq ?_
    refine cx_region ?_
    refine lsw (want_none (by rfl)) (y_cellv r2 rfl (by kernel_rfl) rfl rfl) rfl (by decide) ?_
    refine lsw (want_none (by rfl)) (y_assign rfl rfl) rfl (by decide) ?_
    refine lg_nil ?_
    refine nxx (E' := [(4, _)]) (fk rfl fn) ?_
    refine cx_ret ?_
    exact xg_ret [D4d] ⟨hKD4d, trivial⟩ (res_tmp rfl rfl) ⟨_, rfl, A0, c0, rfl, own_capN g0 rfl, own_numsA (owns_nc g0 (put_grown _ D4d (.deferred none)) (put_nc hKD4d)), (below_nc u (B := D4d) (by omega) (Nat.le_refl _) (put_grown _ D4d (.deferred none)) (fun r e => by cases e; exact Nat.le_refl _))⟩
  · rintro D c pre v hD hS h hK
    exact h.elim
theorem below_any (x w : Int) (W : World) (rg : Tb W) : Calls Tryd.prog 10 #[nv x, nv w] W fun e W' => e = .returned (.tuple #[nv (lowI x w), nv (higI x w)]) ∧ W' = W := by
  by_cases hn : isN x w
  · refine calls_cg (n := 23) Tryd.func10 rfl Tryd.ntmps10 (by simp) ?_
    show CG _ _ _ [(0, nv x), (1, nv w)] _ _
    refine cg_seq ?_
    refine cg_region ?_
    refine lsw (want_none (by rfl)) (y_assign rfl rfl) rfl (by decide) ?_
    refine lsw (want_none (by rfl)) (y_assign rfl rfl) rfl (by decide) ?_
    refine lg_nil ?_
    refine nx (E' := [(0, _), (1, _), (4, _), (5, _)]) (fk rfl (fk rfl (fk rfl (fk rfl fn)))) ?_
    refine cg_seq ?_
    refine cg_seq ?_
    refine cg_region ?_
    refine lsw (want_none (by rfl)) (y_move rfl rfl) rfl (by decide) ?_
    refine lsw (want_none (by rfl)) (y_move rfl rfl) rfl (by decide) ?_
    have f1 : isN x w := fin2 (p := fun x w => isN x w) (by kernel_rfl) hn
    refine lsw (want_none (by rfl)) (yb (decide_eq_true f1) (y_call (is_any x w _ rg) (by kernel_rfl) rfl rfl)) rfl (by decide) ?_
    refine lsw (want_none (by rfl)) (y_bnot rfl rfl) rfl (by decide) ?_
    refine lg_nil ?_
    refine nx (E' := [(0, _), (4, _), (5, _), (10, _)]) (fk rfl (fk rfl (fk rfl (fk rfl fn)))) ?_
    refine cg_cf rfl ?_
    refine cg_skip ?_
    refine nx (E' := [(0, _), (4, _), (5, _)]) (fk rfl (fk rfl (fk rfl fn))) ?_
    refine cg_seq ?_
    refine cg_region ?_
    refine lsw (want_none (by rfl)) (y_move rfl rfl) rfl (by decide) ?_
    refine lsw (want_none (by rfl)) (y_call (level_any x _ rg) (by kernel_rfl) rfl rfl) rfl (by decide) ?_
    have f2 : 0 ≤ (lvl x) ∧ (lvl x) < 63 := fin2 (p := fun x w => 0 ≤ (lvl x) ∧ (lvl x) < 63) (by kernel_rfl) hn
    refine lsw (want_none (by rfl)) (yi_shl1 f2.1 f2.2 rfl rfl rfl) rfl (by decide) ?_
    have f3 : -9223372036854775808 ≤ ((pw (lvl x)) - 1) ∧ ((pw (lvl x)) - 1) < 9223372036854775808 := fin2 (p := fun x w => -9223372036854775808 ≤ ((pw (lvl x)) - 1) ∧ ((pw (lvl x)) - 1) < 9223372036854775808) (by kernel_rfl) hn
    refine lsw (want_none (by rfl)) (yi_sub rfl rfl rfl f3.1 f3.2) rfl (by decide) ?_
    refine lsw (want_none (by rfl)) (y_assign rfl rfl) rfl (by decide) ?_
    refine lg_nil ?_
    refine nx (E' := [(0, _), (4, _), (5, _), (6, _)]) (fk rfl (fk rfl (fk rfl (fk rfl fn)))) ?_
    refine cg_seq ?_
    refine cg_region ?_
    refine lsw (want_none (by rfl)) (y_move rfl rfl) rfl (by decide) ?_
    refine lsw (want_none (by rfl)) (y_move rfl rfl) rfl (by decide) ?_
    have f4 : -9223372036854775808 ≤ (x - ((pw (lvl x)) - 1)) ∧ (x - ((pw (lvl x)) - 1)) < 9223372036854775808 := fin2 (p := fun x w => -9223372036854775808 ≤ (x - ((pw (lvl x)) - 1)) ∧ (x - ((pw (lvl x)) - 1)) < 9223372036854775808) (by kernel_rfl) hn
    refine lsw (want_none (by rfl)) (yi_sub rfl rfl rfl f4.1 f4.2) rfl (by decide) ?_
    have f5 : 0 ≤ (x - ((pw (lvl x)) - 1)) := fin2 (p := fun x w => 0 ≤ (x - ((pw (lvl x)) - 1))) (by kernel_rfl) hn
    have f6 : (x - ((pw (lvl x)) - 1)) < 9223372036854775808 := fin2 (p := fun x w => (x - ((pw (lvl x)) - 1)) < 9223372036854775808) (by kernel_rfl) hn
    refine lsw (want_none (by rfl)) (yi_quo rfl rfl rfl f5 (by decide) f6) rfl (by decide) ?_
    refine lsw (want_none (by rfl)) (y_move rfl rfl) rfl (by decide) ?_
    refine lsw (want_none (by rfl)) (y_move rfl rfl) rfl (by decide) ?_
    have f7 : -9223372036854775808 ≤ (x + ((pw (lvl x)) - 1)) ∧ (x + ((pw (lvl x)) - 1)) < 9223372036854775808 := fin2 (p := fun x w => -9223372036854775808 ≤ (x + ((pw (lvl x)) - 1)) ∧ (x + ((pw (lvl x)) - 1)) < 9223372036854775808) (by kernel_rfl) hn
    refine lsw (want_none (by rfl)) (yi_add rfl rfl rfl f7.1 f7.2) rfl (by decide) ?_
    have f8 : 0 ≤ (x + ((pw (lvl x)) - 1)) := fin2 (p := fun x w => 0 ≤ (x + ((pw (lvl x)) - 1))) (by kernel_rfl) hn
    have f9 : (x + ((pw (lvl x)) - 1)) < 9223372036854775808 := fin2 (p := fun x w => (x + ((pw (lvl x)) - 1)) < 9223372036854775808) (by kernel_rfl) hn
    refine lsw (want_none (by rfl)) (yi_quo rfl rfl rfl f8 (by decide) f9) rfl (by decide) ?_
    refine lsw (want_none (by rfl)) (y_assign rfl rfl) rfl (by decide) ?_
    refine lsw (want_none (by rfl)) (y_assign rfl rfl) rfl (by decide) ?_
    refine lg_nil ?_
    refine nx (E' := [(4, _), (5, _)]) (fk rfl (fk rfl fn)) ?_
    refine cg_ret ?_
    have f10 : ((x - ((pw (lvl x)) - 1)) / 2) = lowI x w := fin2 (p := fun x w => ((x - ((pw (lvl x)) - 1)) / 2) = lowI x w) (by kernel_rfl) hn
    have f11 : ((x + ((pw (lvl x)) - 1)) / 2) = higI x w := fin2 (p := fun x w => ((x + ((pw (lvl x)) - 1)) / 2) = higI x w) (by kernel_rfl) hn
    exact eg_ret_tmp2 rfl rfl rfl ⟨by rw [f10, f11], rfl⟩
  · refine calls_cg (n := 23) Tryd.func10 rfl Tryd.ntmps10 (by simp) ?_
    show CG _ _ _ [(0, nv x), (1, nv w)] _ _
    refine cg_seq ?_
    refine cg_region ?_
    refine lsw (want_none (by rfl)) (y_assign rfl rfl) rfl (by decide) ?_
    refine lsw (want_none (by rfl)) (y_assign rfl rfl) rfl (by decide) ?_
    refine lg_nil ?_
    refine nx (E' := [(0, _), (1, _), (4, _), (5, _)]) (fk rfl (fk rfl (fk rfl (fk rfl fn)))) ?_
    refine cg_seq ?_
    refine cg_seq ?_
    refine cg_region ?_
    refine lsw (want_none (by rfl)) (y_move rfl rfl) rfl (by decide) ?_
    refine lsw (want_none (by rfl)) (y_move rfl rfl) rfl (by decide) ?_
    refine lsw (want_none (by rfl)) (yb (decide_eq_false hn) (y_call (is_any x w _ rg) (by kernel_rfl) rfl rfl)) rfl (by decide) ?_
    refine lsw (want_none (by rfl)) (y_bnot rfl rfl) rfl (by decide) ?_
    refine lg_nil ?_
    refine nx (E' := [(0, _), (4, _), (5, _), (10, _)]) (fk rfl (fk rfl (fk rfl (fk rfl fn)))) ?_
    refine cg_ct rfl ?_
    refine cg_seq ?_
    refine cg_region ?_
    refine lsw (want_none (by rfl)) (y_assign rfl rfl) rfl (by decide) ?_
    refine lsw (want_none (by rfl)) (y_assign rfl rfl) rfl (by decide) ?_
    refine lg_nil ?_
    refine nx (E' := [(0, _), (4, _), (5, _)]) (fk rfl (fk rfl (fk rfl fn))) ?_
    refine cg_ret ?_
    refine eg_seq_ret ?_
    exact eg_ret_tmp2 rfl rfl rfl ⟨by rw [low_no hn, hig_no hn], rfl⟩
end Go.Proofs.YtgcneppjdhnacaaDoor
