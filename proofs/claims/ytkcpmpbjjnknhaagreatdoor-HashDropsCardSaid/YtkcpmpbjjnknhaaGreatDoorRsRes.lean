/-
  Who has a key below a node: what the program answers.
-/
import Derived.Test.YtkcpmpbjjnknhaaGreatDoorRsWk
import Derived.Test.YtkcpmpbjjnknhaaGreatDoorRsProg
import Derived.Test.YtkcpmpbjjnknhaaGreatDoorKitI
namespace Go.Proofs.YtkcpmpbjjnknhaaGreatDoor
open Go.ChangeShapes Go.WideShapes Go.ChangeAt Go.RowKit
set_option linter.unusedVariables false

theorem resolve_any {W : World} {B : Nat} {s : SlV} {Ls : List Nd} (h : RwNd W B s Ls) (x : Int) (hB : B ≤ W.heap.size) (rg : Tb W) : Calls Tryz.prog 32 #[s.v, nv x] W fun e W' => ∃ v, e = .returned v ∧ ∃ r : SlV, v = r.v ∧ SlN W' W'.heap.size r (resL (trAs Ls) x) ∧ Below W.heap.size W W' := by
  have h := h.more hB
  have hlt := rg.lt
  refine calls_cx (n := 38) Tryz.func32 rfl Tryz.ntmps32 (by simp) (fun _ q => by simp at q) ?_
  show CX none [] _ _ _ [(0, s.v), (1, nv x)] _ _
  have u := Below.refl W.heap.size W
  refine cx_seq ?_
  refine cx_region ?_
  refine lg_boxs rfl (want_none (by rfl)) rfl rfl rfl (by decide) fun b1 w1 n1 => ?_
  have r1 := n1.row
  have k1 := n1.blk
  have z1 := n1.size
  have lt1 : b1 < w1.heap.size := by omega
  refine zA rfl rfl rfl rfl rfl ?_
  refine lg_nil ?_
  refine nxx (zk3 1 2 4 rfl rfl rfl fn) ?_
  refine cx_seq ?_
  refine cx_seq ?_
  refine cx_region ?_
  refine za rfl (y_cellv (v := s.v) r1 rfl (by kernel_rfl) rfl rfl) rfl rfl ?_
  have h := h.below (n1.below.mono (by omega))
  by_cases c2 : trIs Ls
  · refine lg_callw (want_none (by rfl)) (sane_any (h.more (B' := w1.heap.size) (by omega)) (Nat.le_refl _)) (by kernel_rfl) rfl rfl rfl (by decide) ?_
    rintro u3 w3 ⟨e3, hw3⟩
    have zw3 := hw3.size
    obtain rfl : u3 = .bool true := e3.trans (congrArg Value.bool (decide_eq_true c2))
    refine za rfl (y_bnot rfl rfl) rfl rfl ?_
    refine lg_nil ?_
    refine nxx (zk3 1 2 4 rfl rfl rfl (zk1 11 rfl fn)) ?_
    refine cx_cf rfl ?_
    refine cx_skip ?_
    refine nxx (zk3 1 2 4 rfl rfl rfl fn) ?_
    refine cx_seq ?_
    refine cx_region ?_
    refine lg_allocs (u := nilS.v) (by kernel_rfl) rfl (want_none (by rfl)) rfl rfl (by decide) fun b4 w4 n4 => ?_
    have r4 := n4.row
    have k4 := n4.blk
    have z4 := n4.size
    have lt4 : b4 < w4.heap.size := by omega
    refine lg_nil ?_
    refine nxx (zk3 1 2 4 rfl rfl rfl (zk1 5 rfl fn)) ?_
    refine cx_seq ?_
    refine cx_seq ?_
    refine cx_region ?_
    have r1 := RowAt.below hw3 r1.lt r1
    have r1 := n4.keep r1
    refine za rfl (y_cellv (v := s.v) r1 rfl (by kernel_rfl) rfl rfl) rfl rfl ?_
    refine zM rfl rfl rfl rfl rfl ?_
    have h := h.below (hw3.mono (by omega))
    have h := h.below (n4.below.mono (by omega))
    refine lg_callw (want_none (by rfl)) (high_any s x _ h) (by kernel_rfl) rfl rfl rfl (by decide) ?_
    rintro _ w5 ⟨bx5, bt5, rfl, x5, y5, i5, j5, hw5⟩
    have zw5 := hw5.size
    have lx5 := x5.lt
    have ly5 := y5.lt
    refine lg_nil ?_
    refine nxx (zk3 2 4 5 rfl rfl rfl (zk1 14 rfl fn)) ?_
    refine cx_block ?_
    obtain ⟨bs, hbs⟩ : ∃ q, q = w5.heap.size := ⟨_, rfl⟩
    have hti : trIs Ls := c2
    have h := h.below (hw5.mono (by omega))
    have u := u.trans (n1.below.mono u.size)
    have u := u.trans (hw3.mono u.size)
    have u := u.trans (n4.below.mono u.size)
    have u := u.trans (hw5.mono u.size)
    have r4 := RowAt.below hw5 r4.lt r4
    have rg := rg.up n1.below
    have rg := rg.up hw3
    have rg := rg.up n4.below
    have rg := rg.up hw5
    have r1 := RowAt.below hw5 r1.lt r1
    refine cx_told1 (enc := (fun k : Int => nv k)) (d' := 6) (m0 := mine b4 nilS.v) (by kernel_rfl) rfl (high_tells hlt 7 x bx5 bt5 _ (fun h => by have := (kids h).2.1; omega) (by omega) h rg x5 y5) (fun k q => by obtain rfl : k = b4 := mine_nil q; exact ⟨fun z => by rcases z with z | z | z <;> omega, by omega⟩) (fun k hk z => by rcases z with z | rfl | rfl <;> omega) (by decide) 
      (fun pre m X => ∃ r : SlV, m = mine b4 r.v ∧ RowAt X b4 23 #[r.v] ∧ X.ownsRow bs 3 1 r.v (resOf Ls pre).length ((resOf Ls pre).map (Value.int .i64)))
      (fun c pre m X => False)
      (fun s m X Y hX ⟨r, hm, r5, g0⟩ k => ⟨r, hm, k.row (.inl (by rw [hm]; exact .inl rfl)) r5, own_kept g0 k fun q e => .inl (by rw [hm]; exact .inr e)⟩)
      (fun c s m X Y hX h k => h)
      ⟨nilS, rfl, r4, own_nilN _ _⟩
      (fun l x W => as_take rfl rfl rfl rfl (by decide) rfl l W)
      ?_ ?_ ?_
    · rintro l6 pre6 k6 v6 m6 d6 hi6 hp6
      obtain ⟨r, rfl, r4, g0⟩ := hi6
      obtain ⟨hk, hkk, rl⟩ := told_at hti hp6
      have lek := hk.le
      have h := h.below (d6.below (n0 := W.heap.size) (by omega) (fun k q => by obtain rfl : k = b4 := mine_nil q; omega))
      have r1 := d6.kept.row (fun q => by have := mine_nil q; omega) r1
      have hr := Did.refl d6.lt
      have zv6 := d6.kept.size
      have q1 := h.len
      have q2 := h.cap
      have lw6 := r4.lt
      refine cx_block ?_
      refine cx_seq ?_
      refine cx_region ?_
      refine za rfl (y_cellv (v := r.v) r4 rfl (by kernel_rfl) rfl rfl) rfl rfl ?_
      refine zM rfl rfl rfl rfl rfl ?_
      refine lg_bslice (el := 3) (z := nv 0) (cs := #[nv k6]) huIs (by kernel_rfl) (by decide) (by decide) rfl rfl (by kernel_rfl) rfl rfl (by decide) fun b7 w7 n7 => ?_
      have r7 := n7.row
      have k7 := n7.blk
      have z7 := n7.size
      have m7 : SlN w7 (b7 + 1) ⟨some ⟨b7, 0, none⟩, 1, 1⟩ [k6] := new_SlN (xs := [k6]) r7 rfl (of_decide_eq_true (by kernel_rfl))
      have og7 : w7.ownsRow b7 3 1 (.slice (some ⟨b7, 0, none⟩) 1 1) ([k6] : List Int).length (([k6] : List Int).map (Value.int .i64)) := new_ownN (xs := [k6]) n7 rfl (of_decide_eq_true (by kernel_rfl))
      have g0 := own_below g0 n7.below
      refine lg_appM (b := b4) g0 r7 (by first | omega | (simp only [List.length_append, List.length_cons, List.length_nil, List.length_map, List.length_take]; omega)) (by omega) (by omega) (want_none (by rfl)) rfl rfl rfl rfl rfl (by decide) fun r8 w8 m8 g8 l8 j8 => ?_
      have z8 := l8.size
      have r4 := n7.keep r4
      have r4 := RowAt.below l8 (by omega) r4
      have o9 := r4
      refine lg_sts r4 rfl rfl (by kernel_rfl) (want_none (by rfl)) rfl rfl rfl rfl fun w9 s9 => ?_
      have r4 := s9.row
      have z9 := s9.size
      refine lg_nil ?_
      refine nxx (zk3 2 4 5 rfl rfl rfl (zk1 6 rfl fn)) ?_
      refine cx_seq ?_
      refine cx_region ?_
      have r1 := n7.keep r1
      have r1 := RowAt.below l8 (by omega) r1
      have r1 := s9.keep r1 (by omega)
      refine za rfl (y_cellv (v := s.v) r1 rfl (by kernel_rfl) rfl rfl) rfl rfl ?_
      refine zM rfl rfl rfl rfl rfl ?_
      have h := h.below (n7.below.mono (by omega))
      have h := h.below (l8.mono (by omega))
      have h := h.below (s9.below _ (by omega))
      obtain ⟨eb10, eo10, el10, eL10, eA10, eB10, eg10, eh10, ec10⟩ := h.at (k6.toNat) (by have := h.len; omega)
      refine za rfl (y_ixR (s := s) (el := 40) (k := 8) (i := k6.toNat) (iI := k6) eA10 (by kernel_rfl) (by kernel_rfl) (by omega) (by have := h.len; omega) rfl rfl rfl) rfl rfl ?_
      refine za rfl (y_fld (off := 5) (by kernel_rfl) rfl rfl) rfl rfl ?_
      refine za rfl (y_fld (off := 2) (by kernel_rfl) rfl rfl) rfl rfl ?_
      refine za rfl (y_celld (ec10 7 _ rfl) (by kernel_rfl) rfl rfl) rfl rfl ?_
      refine za rfl (y_lenM (el := 3) eh10.inner.unm.len (by kernel_rfl) rfl rfl) rfl rfl ?_
      refine zM rfl rfl rfl rfl rfl ?_
      refine lg_nil ?_
      refine nxx (zk5 4 5 25 26 27 rfl rfl rfl rfl rfl fn) ?_
      refine cx_block ?_
      have hun := unm_small hti k6.toNat
      rw [atN_some eg10] at hun
      have g8 := own_set g8 s9 o9 (by omega)
      have hr := hr.call n7.below
      have hr := hr.trans j8
      have hr := hr.trans (Did.set s9 o9 (.inl rfl) hr.lt)
      refine cx_loopE (fun t a v => ∃ (qr : SlV), Holds 38 [(5, pv b4 0), (25, el10.inner.unm.v), (26, nv (eL10.inner.unm.length : Int)), (27, nv ((t : Nat) : Int))] a ∧ RwNd v W.heap.size s Ls ∧ RowAt v b4 23 #[qr.v] ∧ v.ownsRow bs 3 1 qr.v ((resOf Ls pre6 ++ [k6] ++ (eL10.inner.unm.take t).map (2 * ·))).length (((resOf Ls pre6 ++ [k6] ++ (eL10.inner.unm.take t).map (2 * ·))).map (Value.int .i64)) ∧ Did (mine b4 r.v) (mine b4 qr.v) v6 v ∧ SlN v W.heap.size el10.inner.unm eL10.inner.unm ∧ t ≤ eL10.inner.unm.length) (eL10.inner.unm.length + 1) (fun a ha => ⟨r8, ha.keep (fk rfl (fk rfl (fk rfl (fk rfl fn)))), h, r4, (own_castN g8 (by simp)), hr, (eh10.inner.unm.more (by omega)), (Nat.zero_le _)⟩) ?_
      rintro t a v ht ⟨qr, ha, h, r4, g0, hr, hu, htl⟩
      refine cx_at ha ?_
      clear ha a
      have l_r4 := r4.lt
      have zv := hr.kept.size
      have zb := r4.lt
      refine cx_seq ?_
      refine cx_region ?_
      by_cases c11 : ((t : Nat) : Int) < (eL10.inner.unm.length : Int)
      · refine za rfl (yb (decide_eq_true c11) (yi_lss rfl rfl rfl)) rfl rfl ?_
        refine lg_nil ?_
        refine nxx (zk5 5 25 26 27 28 rfl rfl rfl rfl rfl fn) ?_
        refine cx_seq ?_
        refine cx_ct rfl ?_
        refine cx_skip ?_
        refine nxx (zk3 5 25 26 rfl rfl rfl (zk1 27 rfl fn)) ?_
        refine cx_seq ?_
        refine cx_block ?_
        refine cx_seq ?_
        have htlt : t < eL10.inner.unm.length := by omega
        have hub := hun.1 _ (getD_mem htlt)
        refine cx_region ?_
        refine za rfl (y_ixT (i := t) (iI := ((t : Nat) : Int)) hu (by omega) (by omega) rfl rfl rfl) rfl rfl ?_
        refine za rfl (y_ldT (i := t) hu (by omega) rfl rfl) rfl rfl ?_
        refine zA rfl rfl rfl rfl rfl ?_
        refine lg_nil ?_
        refine nxx (zk5 5 25 26 27 8 rfl rfl rfl rfl rfl fn) ?_
        refine cx_region ?_
        refine za rfl (y_cellv (v := qr.v) r4 rfl (by kernel_rfl) rfl rfl) rfl rfl ?_
        refine zM rfl rfl rfl rfl rfl ?_
        refine za rfl (yi_mul rfl rfl rfl (by omega) (by omega)) rfl rfl ?_
        refine lg_bslice (el := 3) (z := nv 0) (cs := #[nv (2 * (eL10.inner.unm.getD t 0))]) huIs (by kernel_rfl) (by decide) (by decide) rfl rfl (by kernel_rfl) rfl rfl (by decide) fun b12 w12 n12 => ?_
        have r12 := n12.row
        have k12 := n12.blk
        have z12 := n12.size
        have m12 : SlN w12 (b12 + 1) ⟨some ⟨b12, 0, none⟩, 1, 1⟩ [(2 * (eL10.inner.unm.getD t 0))] := new_SlN (xs := [(2 * (eL10.inner.unm.getD t 0))]) r12 rfl (of_decide_eq_true (by kernel_rfl))
        have og12 : w12.ownsRow b12 3 1 (.slice (some ⟨b12, 0, none⟩) 1 1) ([(2 * (eL10.inner.unm.getD t 0))] : List Int).length (([(2 * (eL10.inner.unm.getD t 0))] : List Int).map (Value.int .i64)) := new_ownN (xs := [(2 * (eL10.inner.unm.getD t 0))]) n12 rfl (of_decide_eq_true (by kernel_rfl))
        have g0 := own_below g0 n12.below
        refine lg_appM (b := b4) g0 r12 (by first | omega | (simp only [List.length_append, List.length_cons, List.length_nil, List.length_map, List.length_take]; omega)) (by omega) (by omega) (want_none (by rfl)) rfl rfl rfl rfl rfl (by decide) fun r13 w13 m13 g13 l13 j13 => ?_
        have z13 := l13.size
        have r4 := n12.keep r4
        have r4 := RowAt.below l13 (by omega) r4
        have o14 := r4
        refine lg_sts r4 rfl rfl (by kernel_rfl) (want_none (by rfl)) rfl rfl rfl rfl fun w14 s14 => ?_
        have r4 := s14.row
        have z14 := s14.size
        refine lg_nil ?_
        refine xg_block_norm ?_
        refine nxx (zk3 5 25 26 rfl rfl rfl (zk1 27 rfl fn)) ?_
        refine cx_region ?_
        refine za rfl (yv (congrArg nv (show ((t : Nat) : Int) + 1 = ((t + 1 : Nat) : Int) by omega)) (yi_add rfl rfl rfl (by omega) (by omega))) rfl rfl ?_
        refine zM rfl rfl rfl rfl rfl ?_
        refine lg_nil ?_
        have g13 := own_set g13 s14 o14 (by omega)
        have h := h.below (n12.below.mono (by omega))
        have h := h.below (l13.mono (by omega))
        have h := h.below (s14.below _ (by omega))
        have hr := hr.call n12.below
        have hr := hr.trans j13
        have hr := hr.trans (Did.set s14 o14 (.inl rfl) hr.lt)
        have hu := hu.below (n12.below.mono (by omega))
        have hu := hu.below (l13.mono (by omega))
        have hu := hu.below (s14.below _ (by omega))
        exact fun a ha => (show t < (eL10.inner.unm.length + 1) ∧ _ from ⟨(by omega), a, rfl, r13, ha.keep (fk rfl (fk rfl (fk rfl (fk rfl fn)))), h, r4, (own_castN g13 (by rw [take_succ_getD _ _ (by omega), List.map_append, List.append_assoc]; rfl)), hr, hu, (by omega)⟩)
      · refine za rfl (yb (decide_eq_false c11) (yi_lss rfl rfl rfl)) rfl rfl ?_
        refine lg_nil ?_
        refine nxx (zk5 5 25 26 27 28 rfl rfl rfl rfl rfl fn) ?_
        refine cx_seq ?_
        refine cx_cf rfl ?_
        refine cx_exit ?_
        refine xg_seq_exit ?_
        refine xg_seq_exit ?_
        refine xg_block_exit ?_
        refine xg_block_norm ?_
        obtain rfl : t = eL10.inner.unm.length := by omega
        exact fun a ha => ⟨_, hr, _, rfl, r4, own_castN g0 (by rw [resOf_snoc, nodeR, atN_some eg10, List.take_length, List.append_assoc]; rfl)⟩
    · rintro D6 v6d m6 hz6 d6 nD6 hi6 hD6
      obtain ⟨r, rfl, r4, g0⟩ := hi6
      have u := u.trans (d6.below (n0 := W.heap.size) (by omega) (fun k q => by obtain rfl : k = b4 := mine_nil q; omega))
      have zv6 := d6.kept.size
      have hKD6 := hD6
      refine xg_block_norm ?_
      refine nxx (zk2 4 5 rfl rfl fn) ?_
      refine cx_seq ?_
      refine cx_region ?_
      refine za rfl (y_cellv (v := r.v) r4 rfl (by kernel_rfl) rfl rfl) rfl rfl ?_
      refine zA rfl rfl rfl rfl rfl ?_
      refine lg_nil ?_
      refine nxx (zk1 4 rfl fn) ?_
      refine cx_ret ?_
      exact xg_ret [D6] ⟨hKD6, trivial⟩ (res_tmp rfl rfl) ⟨_, rfl, r, rfl, (by rw [trAs_ok hti]; exact own_num (owns_nc g0 (put_grown _ D6 (.deferred none)) (put_nc hKD6))), (below_nc u (B := D6) (by omega) (Nat.le_refl _) (put_grown _ D6 (.deferred none)) (fun r e => by cases e; exact Nat.le_refl _))⟩
    · rintro D6 c6 pre6 v6s m6 hz6 hp6 d6 nD6 hi6 hD6
      exact hi6.elim
  · refine lg_callw (want_none (by rfl)) (sane_any (h.more (B' := w1.heap.size) (by omega)) (Nat.le_refl _)) (by kernel_rfl) rfl rfl rfl (by decide) ?_
    rintro u15 w15 ⟨e15, hw15⟩
    have zw15 := hw15.size
    obtain rfl : u15 = .bool false := e15.trans (congrArg Value.bool (decide_eq_false c2))
    refine za rfl (y_bnot rfl rfl) rfl rfl ?_
    refine lg_nil ?_
    refine nxx (zk3 1 2 4 rfl rfl rfl (zk1 11 rfl fn)) ?_
    refine cx_ct rfl ?_
    refine cx_seq ?_
    refine cx_region ?_
    refine zA rfl rfl rfl rfl rfl ?_
    refine lg_nil ?_
    refine nxx (zk3 1 2 4 rfl rfl rfl fn) ?_
    refine cx_ret ?_
    refine xg_seq_ret ?_
    have u := u.trans (n1.below.mono u.size)
    have u := u.trans (hw15.mono u.size)
    exact xg_ret [] trivial (res_tmp rfl rfl) ⟨_, rfl, nilS, rfl, (by rw [trAs_no c2, res_nil]; exact SlN.nil _ _), u⟩
end Go.Proofs.YtkcpmpbjjnknhaaGreatDoor
