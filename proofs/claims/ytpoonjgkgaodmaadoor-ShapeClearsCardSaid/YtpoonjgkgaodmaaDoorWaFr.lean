/-
  Ways up: the numbers that are handed out are new.
-/
import Derived.Test.YtpoonjgkgaodmaaDoorWaRef
namespace Go.Proofs.YtpoonjgkgaodmaaDoor
open Go.ChangeShapes Go.WideShapes Go.ChangeAt Go.RowKit
set_option linter.unusedVariables false

theorem own_dirF {w0 w : World} {base B : Nat} {xs : List Int} {A : Option Addr} {n c : Nat} (h : w.ownsRow base 3 1 (.slice A n c) xs.length (xs.map (Value.int .i64))) (hb : B ≤ base) (g : Below B w0 w) : ∃ v, Ending.returned (.slice A n c) = .returned v ∧ ∃ s : SlV, v = s.v ∧ SlN w w.heap.size s xs ∧ Fr B s ∧ Below B w0 w := by
  obtain ⟨s, e, hs⟩ := own_SlN h
  refine ⟨_, rfl, s, e, hs, fun p q => ?_, g⟩
  obtain ⟨A', m', c'⟩ := s
  obtain rfl : A' = some p := q
  have := (h.lt p.block (by rw [e]; rfl)).1
  omega
theorem directF (x w : Int) (W : World) (rg : Tb W) : Calls Tryd.prog 37 #[nv x, nv w] W fun e W' => ∃ v, e = .returned v ∧ ∃ s : SlV, v = s.v ∧ SlN W' W'.heap.size s (dirI x w) ∧ Fr W.heap.size s ∧ Below W.heap.size W W' := by
  refine calls_cx (n := 18) Tryd.func37 rfl Tryd.ntmps37 (by simp) (fun _ q => by simp at q) ?_
  show CX none [] _ _ _ [(0, nv x), (1, nv w)] _ _
  have u := Below.refl W.heap.size W
  refine cx_seq ?_
  refine cx_region ?_
  refine lsw (want_none (by rfl)) (y_assign rfl rfl) rfl (by decide) ?_
  refine lg_nil ?_
  refine nxx (E' := [(0, _), (1, _), (4, _)]) (fk rfl (fk rfl (fk rfl fn))) ?_
  refine cx_seq ?_
  refine cx_region ?_
  refine lg_allocs (u := .slice none 0 0) (by kernel_rfl) rfl (want_none (by rfl)) rfl rfl (by decide) fun b1 w1 n1 => ?_
  have r1 := n1.row
  have k1 := n1.blk
  have z1 := n1.size
  have lt1 : b1 < w1.heap.size := by omega
  refine lg_nil ?_
  refine nxx (E' := [(0, _), (1, _), (4, _), (5, _)]) (fk rfl (fk rfl (fk rfl (fk rfl fn)))) ?_
  refine cx_seq ?_
  refine cx_seq ?_
  refine cx_region ?_
  refine lsw (want_none (by rfl)) (y_move rfl rfl) rfl (by decide) ?_
  refine lsw (want_none (by rfl)) (y_move rfl rfl) rfl (by decide) ?_
  have u := u.trans (n1.below.mono u.size)
  refine lsw (want_none (by rfl)) (y_call (parent_any x w _ (rg.up u)) (by kernel_rfl) rfl rfl) rfl (by decide) ?_
  refine lsw (want_none (by rfl)) (y_move rfl rfl) rfl (by decide) ?_
  refine lg_callw (want_none (by rfl)) (up_any (parI x w) w _) (by kernel_rfl) rfl rfl rfl (by decide) ?_
  rintro _ w2 ⟨b2, c2, rfl, x2, y2, i2, j2, hw2⟩
  have zw2 := hw2.size
  have lx2 := x2.lt
  have ly2 := y2.lt
  refine lg_nil ?_
  refine nxx (E' := [(4, _), (5, _), (11, _)]) (fk rfl (fk rfl (fk rfl fn))) ?_
  refine cx_block ?_
  have u := u.trans (hw2.mono u.size)
  have r1 := RowAt.below hw2 r1.lt r1
  refine cx_range (N := 8) (enc := nv) (d' := 6) (by kernel_rfl) rfl (up_stops (parI x w) w b2 c2 _ x2 y2 (rg.up u)) upk_t upk_r upk_b (Below.refl _ _) (by decide)
    (fun pre v => ∃ (sv : Value), Below W.heap.size W v ∧ RowAt v b1 26 #[sv] ∧ v.ownsRow w2.heap.size 3 1 sv (pre).length ((pre).map (Value.int .i64)) ∧ w2.heap.size ≤ v.heap.size ∧ RowAt v c2 3 #[nv w])
    (fun c pre v => False)
    (fun pre A B row hs hg hr => by obtain ⟨sv, u, r1, g0, hs, y2⟩ := hs; have hn := fun r e => (hr r e).2; have hb := fun r e => (hr r e).1; exact ⟨sv, below_nc (B := w2.heap.size) u (by omega) (by omega) hg hb, row_nc r1 hg hn, owns_nc g0 hg hn, Nat.le_trans hs hg.size, row_nc y2 hg hn⟩)
    (fun c pre A B row hs hg hr => hs)
    ⟨_, u, r1, (own_nilN _ _), (Nat.le_refl _), y2⟩
    (fun l x W => as_copy rfl rfl rfl rfl (by decide) l W) ?_ ?_ ?_
  · rintro l3 pre k v3 ⟨sv, u, r1, g0, hs, y2⟩ hlen
    have zv3 := u.size
    have l_r1 := r1.lt
    have l_y2 := y2.lt
    have kf := KeepsFrom.refl w2.heap.size v3
    refine cx_block ?_
    refine cx_region ?_
    refine lsw (want_none (by rfl)) (y_cellv r1 rfl (by kernel_rfl) rfl rfl) rfl (by decide) ?_
    refine lsw (want_none (by rfl)) (y_move rfl rfl) rfl (by decide) ?_
    refine lg_bs1N (want_none (by rfl)) rfl rfl rfl (by decide) fun b4 w4 n4 => ?_
    have r4 := n4.row
    have k4 := n4.blk
    have z4 := n4.size
    have m4 := nums_new1 n4
    have g0 := own_below g0 n4.below
    refine lg_appK g0 r4 (by first | omega | (simp; omega)) (by omega) (want_none (by rfl)) rfl rfl rfl rfl rfl (by decide) fun v5 w5 g5 l5 f5 => ?_
    have z5 := l5.size
    obtain ⟨A5, c5, rfl, N5⟩ := own_nums_any g5
    have r1 := n4.keep r1
    have r1 := RowAt.below l5 (by omega) r1
    have o6 := r1
    refine lg_sts r1 rfl rfl (by kernel_rfl) (want_none (by rfl)) rfl rfl rfl rfl fun w6 s6 => ?_
    have r1 := s6.row
    have z6 := s6.size
    refine lg_nil ?_
    refine xg_block_norm ?_
    have g5 := own_set g5 s6 o6 (by omega)
    have u := u.trans (n4.below.mono u.size)
    have u := u.trans (l5.mono (by omega))
    have u := u.trans (s6.below _ (by omega))
    have hs := (show w2.heap.size ≤ w4.heap.size by omega)
    have hs := (show w2.heap.size ≤ w5.heap.size by omega)
    have hs := (show w2.heap.size ≤ w6.heap.size by omega)
    have y2 := n4.keep y2
    have y2 := RowAt.below l5 (by omega) y2
    have y2 := s6.keep y2 (by omega)
    have kf := kf.trans (kf_below n4.below)
    have kf := kf.trans (KeepsFrom.zero f5)
    have kf := kf.trans (kf_set s6 o6)
    exact fun a ha => ⟨kf, ⟨fun _ => y2, fun _ => (rg.up u)⟩, _, u, r1, g5, hs, y2⟩
  · rintro D3d xs v3d hD3d hS ⟨sv, u, r1, g0, hs, y2⟩ hKD3d
    have zv3 := u.size
    have l_r1 := r1.lt
    have l_y2 := y2.lt
    rw [way_par x w] at hS
    subst hS
    obtain ⟨A0, c0, rfl, N0⟩ := own_nums_any g0
    refine xg_block_norm ?_
    refine nxx (E' := [(4, _), (5, _)]) (fk rfl (fk rfl fn)) ?_
    refine cx_seq ?_
    refine cx_region ?_
    refine lsw (want_none (by rfl)) (y_cellv r1 rfl (by kernel_rfl) rfl rfl) rfl (by decide) ?_
    refine lsw (want_none (by rfl)) (y_assign rfl rfl) rfl (by decide) ?_
    refine lg_nil ?_
    refine nxx (E' := [(4, _)]) (fk rfl fn) ?_
    refine cx_ret ?_
    exact xg_ret [D3d] ⟨hKD3d, trivial⟩ (res_tmp rfl rfl) (own_dirF (owns_nc g0 (put_grown _ D3d (.deferred none)) (put_nc hKD3d)) (by omega) (below_nc u (B := D3d) (by omega) (Nat.le_refl _) (put_grown _ D3d (.deferred none)) (fun r e => by cases e; exact Nat.le_refl _)))
  · rintro D c pre v hD hS h hK
    exact h.elim
theorem rdirectF (x w : Int) (W : World) (rg : Tb W) : Calls Tryd.prog 38 #[nv x, nv w] W fun e W' => ∃ v, e = .returned v ∧ ∃ s : SlV, v = s.v ∧ SlN W' W'.heap.size s (dirI x w) ∧ Fr W.heap.size s ∧ Below W.heap.size W W' := by
  refine calls_cg (n := 20) Tryd.func38 rfl Tryd.ntmps38 (by simp) ?_
  show CG _ _ _ [(0, nv x), (1, nv w)] _ _
  have u := Below.refl W.heap.size W
  refine cg_seq ?_
  refine cg_region ?_
  refine lsw (want_none (by rfl)) (y_assign rfl rfl) rfl (by decide) ?_
  refine lg_nil ?_
  refine nx (E' := [(0, _), (1, _), (4, _)]) (fk rfl (fk rfl (fk rfl fn))) ?_
  refine cg_seq ?_
  refine cg_region ?_
  refine lsw (want_none (by rfl)) (y_assign rfl rfl) rfl (by decide) ?_
  refine lg_nil ?_
  refine nx (E' := [(0, _), (1, _), (4, _), (5, _)]) (fk rfl (fk rfl (fk rfl (fk rfl fn)))) ?_
  refine cg_seq ?_
  refine cg_region ?_
  refine lsw (want_none (by rfl)) (y_move rfl rfl) rfl (by decide) ?_
  refine lsw (want_none (by rfl)) (y_move rfl rfl) rfl (by decide) ?_
  refine lsw (want_none (by rfl)) (y_call (rparent_any x w _ (rg.up u)) (by kernel_rfl) rfl rfl) rfl (by decide) ?_
  refine lsw (want_none (by rfl)) (y_assign rfl rfl) rfl (by decide) ?_
  refine lg_nil ?_
  refine nx (E' := [(1, _), (4, _), (5, _), (6, _)]) (fk rfl (fk rfl (fk rfl (fk rfl fn)))) ?_
  refine cg_seq ?_
  refine cg_block ?_
  refine cg_loopE (fun t a v => ∃ (sv : Value) (pre : List Int) (p : Int), Holds 20 [(1, nv w), (5, sv), (6, nv p)] a ∧ Below W.heap.size W v ∧ v.ownsRow W.heap.size 3 1 sv (pre).length ((pre).map (Value.int .i64)) ∧ dirI x w = pre ++ wayI p w ∧ pre.length = t ∧ (p = -1 ∨ isN p w)) 8 (fun a ha => ⟨_, [], (parI x w), ha.keep (fk rfl (fk rfl (fk rfl fn))), u, own_nilN _ _, (way_par x w).symm, rfl, par_val x w⟩) ?_
  rintro t a v ht ⟨sv, pre, p, ha, u, g0, hp, hl, hv⟩
  refine cg_at ha ?_
  clear ha a
  have zv := u.size
  have dl := dirL x w
  have zv := u.size
  have pl := congrArg List.length hp
  simp at pl
  refine cg_seq ?_
  refine cg_seq ?_
  refine cg_region ?_
  refine lsw (want_none (by rfl)) (y_move rfl rfl) rfl (by decide) ?_
  by_cases c1 : 0 ≤ p
  · refine lsw (want_none (by rfl)) (yb (decide_eq_true c1) (yi_geq rfl rfl rfl)) rfl (by decide) ?_
    refine lg_nil ?_
    refine nx (E' := [(1, _), (5, _), (6, _), (10, _), (11, _)]) (fk rfl (fk rfl (fk rfl (fk rfl (fk rfl fn))))) ?_
    refine cg_ct rfl ?_
    refine cg_skip ?_
    refine nx (E' := [(1, _), (5, _), (6, _), (10, _), (11, _)]) (fk rfl (fk rfl (fk rfl (fk rfl (fk rfl fn))))) ?_
    refine cg_block ?_
    refine cg_seq ?_
    refine cg_region ?_
    refine lsw (want_none (by rfl)) (y_move rfl rfl) rfl (by decide) ?_
    refine lsw (want_none (by rfl)) (y_move rfl rfl) rfl (by decide) ?_
    refine lg_bs1N (want_none (by rfl)) rfl rfl rfl (by decide) fun b2 w2 n2 => ?_
    have r2 := n2.row
    have k2 := n2.blk
    have z2 := n2.size
    have m2 := nums_new1 n2
    have g0 := own_below g0 n2.below
    refine lg_appK g0 r2 (by first | omega | (simp; omega)) (by omega) (want_none (by rfl)) rfl rfl rfl rfl rfl (by decide) fun v3 w3 g3 l3 f3 => ?_
    have z3 := l3.size
    obtain ⟨A3, c3, rfl, N3⟩ := own_nums_any g3
    refine lsw (want_none (by rfl)) (y_assign rfl rfl) rfl (by decide) ?_
    refine lg_nil ?_
    refine nx (E' := [(1, _), (6, _), (10, _), (11, _), (12, _), (13, _), (14, _), (15, _), (5, _)]) (fk rfl (fk rfl (fk rfl (fk rfl (fk rfl (fk rfl (fk rfl (fk rfl (fk rfl fn))))))))) ?_
    refine cg_region ?_
    refine lsw (want_none (by rfl)) (y_move rfl rfl) rfl (by decide) ?_
    refine lsw (want_none (by rfl)) (y_move rfl rfl) rfl (by decide) ?_
    have u := u.trans (n2.below.mono u.size)
    have u := u.trans (l3.mono (by omega))
    refine lsw (want_none (by rfl)) (y_call (rparent_any p w _ (rg.up u)) (by kernel_rfl) rfl rfl) rfl (by decide) ?_
    refine lsw (want_none (by rfl)) (y_assign rfl rfl) rfl (by decide) ?_
    refine lg_nil ?_
    refine eg_block_norm ?_
    have hn : isN p w := hv.resolve_left (by omega)
    have hp' : dirI x w = (pre ++ [p]) ++ wayI (parI p w) w := by rw [hp, way_yes hn, List.append_assoc]; rfl
    have hq := congrArg List.length hp'
    simp at hq
    exact fun a ha => (show t < 8 ∧ _ from ⟨(by omega), _, (pre ++ [p]), (parI p w), ha.keep (fk rfl (fk rfl (fk rfl fn))), u, g3, hp', (by simp; omega), par_val p w⟩)
  · refine lsw (want_none (by rfl)) (yb (decide_eq_false c1) (yi_geq rfl rfl rfl)) rfl (by decide) ?_
    refine lg_nil ?_
    refine nx (E' := [(1, _), (5, _), (6, _), (10, _), (11, _)]) (fk rfl (fk rfl (fk rfl (fk rfl (fk rfl fn))))) ?_
    refine cg_cf rfl ?_
    have hne : ¬ isN p w := fun q => c1 q.2.1
    rw [way_no hne, List.append_nil] at hp
    subst hp
    obtain ⟨A0, c0, rfl, N0⟩ := own_nums_any g0
    refine cg_exit ?_
    refine eg_seq_exit ?_
    refine eg_seq_exit ?_
    refine eg_block_exit ?_
    refine nx (E' := [(5, _)]) (fk rfl fn) ?_
    refine cg_seq ?_
    refine cg_region ?_
    refine lsw (want_none (by rfl)) (y_move rfl rfl) rfl (by decide) ?_
    refine lsw (want_none (by rfl)) (y_assign rfl rfl) rfl (by decide) ?_
    refine lg_nil ?_
    refine nx (E' := [(4, _)]) (fk rfl fn) ?_
    refine cg_ret ?_
    exact eg_ret_tmp rfl rfl (own_dirF g0 (by omega) u)
end Go.Proofs.YtpoonjgkgaodmaaDoor
