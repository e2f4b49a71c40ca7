/-
  What stands beside ways up: the numbers that are handed out are new.
-/
import Derived.Test.YtjcnfmmekpiliaaDoorKitI
namespace Go.Proofs.YtjcnfmmekpiliaaDoor
open Go.ChangeShapes Go.WideShapes Go.ChangeAt Go.RowKit
set_option linter.unusedVariables false

theorem copathF (x w : Int) (W : World) (rg : Tb W) : Calls Tryd.prog 25 #[nv x, nv w] W fun e W' => ∃ v, e = .returned v ∧ ∃ s : SlV, v = s.v ∧ SlN W' W'.heap.size s (copI x w) ∧ Fr W.heap.size s ∧ Below W.heap.size W W' := by
  refine calls_cx (n := 22) Tryd.func25 rfl Tryd.ntmps25 (by simp) (fun _ q => by simp at q) ?_
  show CX none [] _ _ _ [(0, nv x), (1, nv w)] _ _
  have u := Below.refl W.heap.size W
  refine cx_seq ?_
  refine cx_region ?_
  refine lg_boxs rfl (want_none (by rfl)) rfl rfl rfl (by decide) fun b1 w1 n1 => ?_
  have r1 := n1.row
  have k1 := n1.blk
  have z1 := n1.size
  have lt1 : b1 < w1.heap.size := by omega
  refine zA rfl rfl rfl rfl rfl ?_
  refine lg_nil ?_
  refine nxx (zk3 0 3 4 rfl rfl rfl fn) ?_
  refine cx_seq ?_
  refine cx_region ?_
  refine lg_allocs (u := .slice none 0 0) (by kernel_rfl) rfl (want_none (by rfl)) rfl rfl (by decide) fun b2 w2 n2 => ?_
  have r2 := n2.row
  have k2 := n2.blk
  have z2 := n2.size
  have lt2 : b2 < w2.heap.size := by omega
  refine lg_nil ?_
  refine nxx (zk3 0 3 4 rfl rfl rfl (zk1 5 rfl fn)) ?_
  refine cx_seq ?_
  refine cx_seq ?_
  refine cx_region ?_
  refine zM rfl rfl rfl rfl rfl ?_
  have r1 := n2.keep r1
  refine za rfl (y_cellv r1 rfl (by kernel_rfl) rfl rfl) rfl rfl ?_
  refine lg_callw (want_none (by rfl)) (up_any x w _) (by kernel_rfl) rfl rfl rfl (by decide) ?_
  rintro _ w3 ⟨b3, c3, rfl, x3, y3, i3, j3, hw3⟩
  have zw3 := hw3.size
  have lx3 := x3.lt
  have ly3 := y3.lt
  refine lg_nil ?_
  refine nxx (zk3 3 4 5 rfl rfl rfl (zk1 10 rfl fn)) ?_
  refine cx_block ?_
  have u := u.trans (n1.below.mono u.size)
  have u := u.trans (n2.below.mono u.size)
  have u := u.trans (hw3.mono u.size)
  have r2 := RowAt.below hw3 r2.lt r2
  have r1 := RowAt.below hw3 r1.lt r1
  refine cx_range (N := 8) (enc := nv) (d' := 6) (by kernel_rfl) rfl (up_stops x w b3 c3 _ x3 y3 (rg.up u)) upk_t upk_r upk_b (Below.refl _ _) (by decide)
    (fun pre v => ∃ (sv : Value), Below W.heap.size W v ∧ RowAt v b2 26 #[sv] ∧ v.ownsRow w3.heap.size 3 1 sv (sibs w pre).length ((sibs w pre).map (Value.int .i64)) ∧ w3.heap.size ≤ v.heap.size ∧ RowAt v c3 3 #[nv w] ∧ RowAt v b1 3 #[nv w])
    (fun c pre v => False)
    (fun pre A B row hs hg hr => by obtain ⟨sv, u, r2, g0, hs, y3, r1⟩ := hs; have hn := fun r e => (hr r e).2; have hb := fun r e => (hr r e).1; exact ⟨sv, below_nc (B := w3.heap.size) u (by omega) (by omega) hg hb, row_nc r2 hg hn, owns_nc g0 hg hn, Nat.le_trans hs hg.size, row_nc y3 hg hn, row_nc r1 hg hn⟩)
    (fun c pre A B row hs hg hr => hs)
    ⟨_, u, r2, (own_nilN _ _), (Nat.le_refl _), y3, r1⟩
    (fun l x W => as_copy rfl rfl rfl rfl (by decide) l W) ?_ ?_ ?_
  · rintro l4 pre k v4 ⟨sv, u, r2, g0, hs, y3, r1⟩ hlen
    have zv4 := u.size
    have l_r2 := r2.lt
    have l_y3 := y3.lt
    have l_r1 := r1.lt
    have kf := KeepsFrom.refl w3.heap.size v4
    have sl := sibs_len w pre
    refine cx_block ?_
    refine cx_seq ?_
    refine cx_region ?_
    refine zM rfl rfl rfl rfl rfl ?_
    refine za rfl (y_cellv r1 rfl (by kernel_rfl) rfl rfl) rfl rfl ?_
    refine za rfl (y_call (sibling_any k w _ (rg.up u)) (by kernel_rfl) rfl rfl) rfl rfl ?_
    refine zA rfl rfl rfl rfl rfl ?_
    refine lg_nil ?_
    refine nxx (zk3 4 5 7 rfl rfl rfl fn) ?_
    refine cx_seq ?_
    refine cx_region ?_
    refine zM rfl rfl rfl rfl rfl ?_
    by_cases c5 : (sibI k w) = (-1)
    · refine za rfl (yb (nd_f c5) (yi_neq rfl rfl rfl)) rfl rfl ?_
      refine lg_nil ?_
      refine nxx (zk3 4 5 7 rfl rfl rfl (zk1 16 rfl fn)) ?_
      refine cx_cf rfl ?_
      refine cx_skip ?_
      refine xg_block_norm ?_
      exact fun a ha => ⟨kf, ⟨fun _ => y3, fun _ => (rg.up u)⟩, sv, u, r2, (by rw [sibs_no c5]; exact g0), hs, y3, r1⟩
    · refine za rfl (yb (nd_t c5) (yi_neq rfl rfl rfl)) rfl rfl ?_
      refine lg_nil ?_
      refine nxx (zk3 4 5 7 rfl rfl rfl (zk1 16 rfl fn)) ?_
      refine cx_ct rfl ?_
      refine cx_region ?_
      refine za rfl (y_cellv r2 rfl (by kernel_rfl) rfl rfl) rfl rfl ?_
      refine zM rfl rfl rfl rfl rfl ?_
      refine lg_bs1N (want_none (by rfl)) rfl rfl rfl (by decide) fun b6 w6 n6 => ?_
      have r6 := n6.row
      have k6 := n6.blk
      have z6 := n6.size
      have m6 := nums_new1 n6
      have g0 := own_below g0 n6.below
      refine lg_appK g0 r6 (by first | omega | (simp; omega)) (by omega) (want_none (by rfl)) rfl rfl rfl rfl rfl (by decide) fun v7 w7 g7 l7 f7 => ?_
      have z7 := l7.size
      obtain ⟨A7, c7, rfl, N7⟩ := own_nums_any g7
      have r2 := n6.keep r2
      have r2 := RowAt.below l7 (by omega) r2
      have o8 := r2
      refine lg_sts r2 rfl rfl (by kernel_rfl) (want_none (by rfl)) rfl rfl rfl rfl fun w8 s8 => ?_
      have r2 := s8.row
      have z8 := s8.size
      refine lg_nil ?_
      refine xg_block_norm ?_
      have g7 := own_set g7 s8 o8 (by omega)
      have u := u.trans (n6.below.mono u.size)
      have u := u.trans (l7.mono (by omega))
      have u := u.trans (s8.below _ (by omega))
      have hs := (show w3.heap.size ≤ w6.heap.size by omega)
      have hs := (show w3.heap.size ≤ w7.heap.size by omega)
      have hs := (show w3.heap.size ≤ w8.heap.size by omega)
      have y3 := n6.keep y3
      have y3 := RowAt.below l7 (by omega) y3
      have y3 := s8.keep y3 (by omega)
      have r1 := n6.keep r1
      have r1 := RowAt.below l7 (by omega) r1
      have r1 := s8.keep r1 (by omega)
      have kf := kf.trans (kf_below n6.below)
      have kf := kf.trans (KeepsFrom.zero f7)
      have kf := kf.trans (kf_set s8 o8)
      exact fun a ha => ⟨kf, ⟨fun _ => y3, fun _ => (rg.up u)⟩, _, u, r2, (by rw [sibs_yes c5]; exact g7), hs, y3, r1⟩
  · rintro D4d xs v4d hD4d hS ⟨sv, u, r2, g0, hs, y3, r1⟩ hKD4d
    have zv4 := u.size
    have l_r2 := r2.lt
    have l_y3 := y3.lt
    have l_r1 := r1.lt
    skip
    subst hS
    rw [sibs_way] at g0
    obtain ⟨A0, c0, rfl, N0⟩ := own_nums_any g0
    refine xg_block_norm ?_
    refine nxx (zk2 4 5 rfl rfl fn) ?_
    refine cx_seq ?_
    refine cx_region ?_
    refine za rfl (y_cellv r2 rfl (by kernel_rfl) rfl rfl) rfl rfl ?_
    refine zA rfl rfl rfl rfl rfl ?_
    refine lg_nil ?_
    refine nxx (zk1 4 rfl fn) ?_
    refine cx_ret ?_
    exact xg_ret [D4d] ⟨hKD4d, trivial⟩ (res_tmp rfl rfl) (own_dirF (owns_nc g0 (put_grown _ D4d (.deferred none)) (put_nc hKD4d)) (by omega) (below_nc u (B := D4d) (by omega) (Nat.le_refl _) (put_grown _ D4d (.deferred none)) (fun r e => by cases e; exact Nat.le_refl _)))
  · rintro D c pre v hD hS h hK
    exact h.elim
theorem rcopathF (x w : Int) (W : World) (rg : Tb W) : Calls Tryd.prog 37 #[nv x, nv w] W fun e W' => ∃ v, e = .returned v ∧ ∃ s : SlV, v = s.v ∧ SlN W' W'.heap.size s (copI x w) ∧ Fr W.heap.size s ∧ Below W.heap.size W W' := by
  refine calls_cg (n := 20) Tryd.func37 rfl Tryd.ntmps37 (by simp) ?_
  show CG _ _ _ [(0, nv x), (1, nv w)] _ _
  have u := Below.refl W.heap.size W
  refine cg_seq ?_
  refine cg_region ?_
  refine zA rfl rfl rfl rfl rfl ?_
  refine lg_nil ?_
  refine nx (zk3 0 1 4 rfl rfl rfl fn) ?_
  refine cg_seq ?_
  refine cg_region ?_
  refine zA rfl rfl rfl rfl rfl ?_
  refine lg_nil ?_
  refine nx (zk3 0 1 4 rfl rfl rfl (zk1 5 rfl fn)) ?_
  refine cg_seq ?_
  refine cg_block ?_
  refine cg_loopE (fun t a v => ∃ (sv : Value) (pre : List Int) (p : Int), Holds 20 [(0, nv p), (1, nv w), (5, sv)] a ∧ Below W.heap.size W v ∧ v.ownsRow W.heap.size 3 1 sv (pre).length ((pre).map (Value.int .i64)) ∧ copI x w = pre ++ copI p w ∧ pre.length = t) 8 (fun a ha => ⟨_, [], x, ha.keep (fk rfl (fk rfl (fk rfl fn))), u, own_nilN _ _, rfl, rfl⟩) ?_
  rintro t a v ht ⟨sv, pre, p, ha, u, g0, hp, hl⟩
  refine cg_at ha ?_
  clear ha a
  have zv := u.size
  have dl := cop_len x w
  have zv := u.size
  have pl := congrArg List.length hp
  simp at pl
  refine cg_seq ?_
  refine cg_seq ?_
  refine cg_region ?_
  refine zM rfl rfl rfl rfl rfl ?_
  refine zM rfl rfl rfl rfl rfl ?_
  refine za rfl (y_call (rparent_any p w _ (rg.up u)) (by kernel_rfl) rfl rfl) rfl rfl ?_
  by_cases c1 : 0 ≤ (parI p w)
  · refine za rfl (yb (decide_eq_true c1) (yi_geq rfl rfl rfl)) rfl rfl ?_
    refine lg_nil ?_
    refine nx (zk5 0 1 5 6 7 rfl rfl rfl rfl rfl (zk2 8 9 rfl rfl fn)) ?_
    refine cg_ct rfl ?_
    refine cg_skip ?_
    refine nx (zk5 0 1 5 6 7 rfl rfl rfl rfl rfl (zk2 8 9 rfl rfl fn)) ?_
    refine cg_block ?_
    refine cg_seq ?_
    refine cg_region ?_
    refine zM rfl rfl rfl rfl rfl ?_
    refine zM rfl rfl rfl rfl rfl ?_
    refine zM rfl rfl rfl rfl rfl ?_
    refine za rfl (y_call (rsibling_any p w _ (rg.up u)) (by kernel_rfl) rfl rfl) rfl rfl ?_
    refine lg_bs1N (want_none (by rfl)) rfl rfl rfl (by decide) fun b2 w2 n2 => ?_
    have r2 := n2.row
    have k2 := n2.blk
    have z2 := n2.size
    have m2 := nums_new1 n2
    have g0 := own_below g0 n2.below
    refine lg_appK g0 r2 (by first | omega | (simp; omega)) (by omega) (want_none (by rfl)) rfl rfl rfl rfl rfl (by decide) fun v3 w3 g3 l3 f3 => ?_
    have z3 := l3.size
    obtain ⟨A3, c3, rfl, N3⟩ := own_nums_any g3
    refine zA rfl rfl rfl rfl rfl ?_
    refine lg_nil ?_
    refine nx (zk5 0 1 6 7 8 rfl rfl rfl rfl rfl (zk5 9 10 11 12 13 rfl rfl rfl rfl rfl (zk3 14 15 5 rfl rfl rfl fn))) ?_
    refine cg_region ?_
    refine zM rfl rfl rfl rfl rfl ?_
    refine zM rfl rfl rfl rfl rfl ?_
    have u := u.trans (n2.below.mono u.size)
    have u := u.trans (l3.mono (by omega))
    refine za rfl (y_call (rparent_any p w _ (rg.up u)) (by kernel_rfl) rfl rfl) rfl rfl ?_
    refine zA rfl rfl rfl rfl rfl ?_
    refine lg_nil ?_
    refine eg_block_norm ?_
    have hp' : copI x w = (pre ++ [sibI p w]) ++ copI (parI p w) w := by rw [hp, cop_next c1, List.append_assoc]; rfl
    have hq := congrArg List.length hp'
    simp at hq
    exact fun a ha => (show t < 8 ∧ _ from ⟨(by omega), _, (pre ++ [sibI p w]), (parI p w), ha.keep (fk rfl (fk rfl (fk rfl fn))), u, g3, hp', (by simp; omega)⟩)
  · refine za rfl (yb (decide_eq_false c1) (yi_geq rfl rfl rfl)) rfl rfl ?_
    refine lg_nil ?_
    refine nx (zk5 0 1 5 6 7 rfl rfl rfl rfl rfl (zk2 8 9 rfl rfl fn)) ?_
    refine cg_cf rfl ?_
    rw [cop_end c1, List.append_nil] at hp
    subst hp
    obtain ⟨A0, c0, rfl, N0⟩ := own_nums_any g0
    refine cg_exit ?_
    refine eg_seq_exit ?_
    refine eg_seq_exit ?_
    refine eg_block_exit ?_
    refine nx (zk1 5 rfl fn) ?_
    refine cg_seq ?_
    refine cg_region ?_
    refine zM rfl rfl rfl rfl rfl ?_
    refine zA rfl rfl rfl rfl rfl ?_
    refine lg_nil ?_
    refine nx (zk1 4 rfl fn) ?_
    refine cg_ret ?_
    exact eg_ret_tmp rfl rfl (own_dirF g0 (by omega) u)
end Go.Proofs.YtjcnfmmekpiliaaDoor
