/-
  The hash of a tree: what the document answers.
-/
import Derived.Test.YtkcpmpbjjnknhaaGreatDoorHsProg
import Derived.Test.YtkcpmpbjjnknhaaGreatDoorTrRef
namespace Go.Proofs.YtkcpmpbjjnknhaaGreatDoor
open Go.ChangeShapes Go.WideShapes Go.ChangeAt Go.RowKit
set_option linter.unusedVariables false

theorem hbelow_step {Ls : List Nd} {x : Int} (hx : isN x (Ls.length : Int)) {W : World} {B : Nat} {s : SlV} (h : RwNd W B s Ls) (hB : B ≤ W.heap.size) (rg : Tb W)
    (ih : ∀ y, isN y (Ls.length : Int) → lvl y = lvl x - 1 → ∀ (W : World) (B : Nat), B ≤ W.heap.size → RwNd W B s Ls → Tb W → Calls Tryz.prog 37 #[s.v, nv y] W fun e W' => ∃ v, e = .returned v ∧ ∃ r : SlV, v = r.v ∧ Hs W' r (hsL Ls y) ∧ Below W.heap.size W W') :
    Calls Tryz.prog 37 #[s.v, nv x] W fun e W' => ∃ v, e = .returned v ∧ ∃ r : SlV, v = r.v ∧ Hs W' r (hsL Ls x) ∧ Below W.heap.size W W' := by
  have h := h.more hB
  refine calls_cg (n := 38) Tryz.func37 rfl Tryz.ntmps37 (by simp) ?_
  show CG _ _ _ [(0, s.v), (1, nv x)] _ _
  have u := Below.refl W.heap.size W
  have q1 := h.len
  have q2 := h.cap
  have lex := hx.le
  refine cg_seq ?_
  refine cg_region ?_
  refine zA rfl rfl rfl rfl rfl ?_
  refine lg_nil ?_
  refine nx (zk3 0 1 4 rfl rfl rfl fn) ?_
  refine cg_seq ?_
  refine cg_seq ?_
  refine cg_region ?_
  refine zM rfl rfl rfl rfl rfl ?_
  refine za rfl (yi_rem rfl rfl rfl (by omega) (by omega)) rfl rfl ?_
  by_cases c1 : (x % 2) = 0
  · have he := c1
    refine za rfl (yb (decide_eq_true c1) (yi_eql rfl rfl rfl)) rfl rfl ?_
    refine lg_nil ?_
    refine nx (zk3 0 1 4 rfl rfl rfl (zk1 9 rfl fn)) ?_
    refine cg_ct rfl ?_
    refine cg_seq ?_
    refine cg_region ?_
    refine zM rfl rfl rfl rfl rfl ?_
    refine za rfl (yi_quo rfl rfl rfl (by omega) (by omega) (by omega)) rfl rfl ?_
    refine zM rfl rfl rfl rfl rfl ?_
    refine zM rfl rfl rfl rfl rfl ?_
    obtain ⟨eb2, eo2, el2, eL2, eA2, eB2, eg2, eh2, ec2⟩ := h.at (x.toNat) (by have := h.len; omega)
    refine za rfl (y_ixR (s := s) (el := 40) (k := 8) (i := x.toNat) (iI := x) eA2 (by kernel_rfl) (by kernel_rfl) (by omega) (by have := h.len; omega) rfl rfl rfl) rfl rfl ?_
    refine za rfl (y_loadC (cs := el2.cs eL2) ec2 (by kernel_rfl) (by kernel_rfl) rfl rfl) rfl rfl ?_
    refine lg_callw (want_none (by rfl)) (rofLeafN_any (x / 2) (eh2.more (B' := W.heap.size) (by omega)) (Nat.le_refl _)) (by kernel_rfl) rfl rfl rfl (by decide) ?_
    rintro _ w3 ⟨r3, rfl, m3, hw3⟩
    have zw3 := hw3.size
    have lp3 := ofLeafO_le (x / 2) eL2
    refine lg_callw (want_none (by rfl)) (rsumS_any (m3.more (B' := w3.heap.size) (by omega)) (Nat.le_refl _) (by first | omega | (simp only [List.length_append, List.length_cons, List.length_nil, numOct_length, flagOct_length]; omega))) (by kernel_rfl) rfl rfl rfl (by decide) ?_
    rintro _ w4 ⟨r4, rfl, m4, hw4⟩
    have zw4 := hw4.size
    refine zA rfl rfl rfl rfl rfl ?_
    refine lg_nil ?_
    refine nx (zk3 0 1 4 rfl rfl rfl fn) ?_
    refine cg_ret ?_
    refine eg_seq_ret ?_
    have u := u.trans (hw3.mono u.size)
    have u := u.trans (hw4.mono u.size)
    exact eg_ret_tmp rfl rfl ⟨_, rfl, _, rfl, (by rw [hs_leaf hx he, atN_some eg2]; exact m4), u⟩
  · have ho := c1
    refine za rfl (yb (decide_eq_false c1) (yi_eql rfl rfl rfl)) rfl rfl ?_
    refine lg_nil ?_
    refine nx (zk3 0 1 4 rfl rfl rfl (zk1 9 rfl fn)) ?_
    refine cg_cf rfl ?_
    refine cg_skip ?_
    refine nx (zk3 0 1 4 rfl rfl rfl fn) ?_
    refine cg_seq ?_
    refine cg_region ?_
    refine zM rfl rfl rfl rfl rfl ?_
    refine zM rfl rfl rfl rfl rfl ?_
    refine zM rfl rfl rfl rfl rfl ?_
    refine za rfl (y_lenM (el := 40) h.len (by kernel_rfl) rfl rfl) rfl rfl ?_
    refine za rfl (y_call (rleft_any x (Ls.length : Int) _ (rg.up u)) (by kernel_rfl) rfl rfl) rfl rfl ?_
    refine lg_callw (want_none (by rfl)) (ih _ (odd_kids hx ho).1.1 (odd_kids hx ho).1.2 _ _ (Nat.le_refl _) (h.more (B' := W.heap.size) (by omega)) (rg.up u)) (by kernel_rfl) rfl rfl rfl (by decide) ?_
    rintro _ w5 ⟨r5, rfl, m5, hw5⟩
    have zw5 := hw5.size
    have hl5 := hsL_len Ls (leftI x (Ls.length : Int))
    refine zA rfl rfl rfl rfl rfl ?_
    refine lg_nil ?_
    refine nx (zk3 0 1 4 rfl rfl rfl (zk1 5 rfl fn)) ?_
    refine cg_seq ?_
    refine cg_region ?_
    refine zM rfl rfl rfl rfl rfl ?_
    refine zM rfl rfl rfl rfl rfl ?_
    refine zM rfl rfl rfl rfl rfl ?_
    have h := h.below (hw5.mono (by omega))
    refine za rfl (y_lenM (el := 40) h.len (by kernel_rfl) rfl rfl) rfl rfl ?_
    have u := u.trans (hw5.mono u.size)
    refine za rfl (y_call (rright_any x (Ls.length : Int) _ (rg.up u)) (by kernel_rfl) rfl rfl) rfl rfl ?_
    refine lg_callw (want_none (by rfl)) (ih _ (odd_kids hx ho).2.1 (odd_kids hx ho).2.2 _ _ (Nat.le_refl _) (h.more (B' := w5.heap.size) (by omega)) (rg.up u)) (by kernel_rfl) rfl rfl rfl (by decide) ?_
    rintro _ w6 ⟨r6, rfl, m6, hw6⟩
    have zw6 := hw6.size
    have hl6 := hsL_len Ls (rightI x (Ls.length : Int))
    refine zA rfl rfl rfl rfl rfl ?_
    refine lg_nil ?_
    refine nx (zk5 0 1 4 5 6 rfl rfl rfl rfl rfl fn) ?_
    refine cg_seq ?_
    refine cg_region ?_
    refine zM rfl rfl rfl rfl rfl ?_
    refine zM rfl rfl rfl rfl rfl ?_
    have h := h.below (hw6.mono (by omega))
    obtain ⟨eb7, eo7, el7, eL7, eA7, eB7, eg7, eh7, ec7⟩ := h.at (x.toNat) (by have := h.len; omega)
    refine za rfl (y_ixR (s := s) (el := 40) (k := 8) (i := x.toNat) (iI := x) eA7 (by kernel_rfl) (by kernel_rfl) (by omega) (by have := h.len; omega) rfl rfl rfl) rfl rfl ?_
    refine za rfl (y_loadC (cs := el7.cs eL7) ec7 (by kernel_rfl) (by kernel_rfl) rfl rfl) rfl rfl ?_
    refine zM rfl rfl rfl rfl rfl ?_
    refine zM rfl rfl rfl rfl rfl ?_
    have m5 := m5.below hw6
    refine lg_callw (want_none (by rfl)) (rofInnerN_any (eh7.more (B' := w6.heap.size) (by omega)) (m5.1.more (B' := w6.heap.size) (by omega)) (m6.1.more (B' := w6.heap.size) (by omega)) (Nat.le_refl _) (by first | omega | (simp only [List.length_append, List.length_cons, List.length_nil, numOct_length, flagOct_length]; omega)) (by first | omega | (simp only [List.length_append, List.length_cons, List.length_nil, numOct_length, flagOct_length]; omega))) (by kernel_rfl) rfl rfl rfl (by decide) ?_
    rintro _ w8 ⟨r8, rfl, m8, hw8⟩
    have zw8 := hw8.size
    have lp8 := ofInnerO_le eL7 (hsL Ls (leftI x (Ls.length : Int))) (hsL Ls (rightI x (Ls.length : Int)))
    refine lg_callw (want_none (by rfl)) (rsumS_any (m8.more (B' := w8.heap.size) (by omega)) (Nat.le_refl _) (by first | omega | (simp only [List.length_append, List.length_cons, List.length_nil, numOct_length, flagOct_length]; omega))) (by kernel_rfl) rfl rfl rfl (by decide) ?_
    rintro _ w9 ⟨r9, rfl, m9, hw9⟩
    have zw9 := hw9.size
    refine zA rfl rfl rfl rfl rfl ?_
    refine lg_nil ?_
    refine nx (zk1 4 rfl fn) ?_
    refine cg_ret ?_
    have u := u.trans (hw6.mono u.size)
    have u := u.trans (hw8.mono u.size)
    have u := u.trans (hw9.mono u.size)
    exact eg_ret_tmp rfl rfl ⟨_, rfl, _, rfl, (by rw [hs_inner hx ho, atN_some eg7]; exact m9), u⟩
theorem hbelow_all {Ls : List Nd} {s : SlV} : ∀ (n : Nat) (x : Int), isN x (Ls.length : Int) → lvl x < n → ∀ (W : World) (B : Nat), B ≤ W.heap.size → RwNd W B s Ls → Tb W → Calls Tryz.prog 37 #[s.v, nv x] W fun e W' => ∃ v, e = .returned v ∧ ∃ r : SlV, v = r.v ∧ Hs W' r (hsL Ls x) ∧ Below W.heap.size W W'
  | 0, x, hx, hl, _, _, _, _, _ => by
    have := (kids hx).1
    omega
  | n + 1, x, hx, hl, W, B, hB, h, rg => hbelow_step hx h hB rg fun y hy e W' B' hB' h' rg' => hbelow_all n y hy (by omega) W' B' hB' h' rg'
theorem hbelow_any {Ls : List Nd} {x : Int} (hx : isN x (Ls.length : Int)) {W : World} {B : Nat} {s : SlV} (h : RwNd W B s Ls) (hB : B ≤ W.heap.size) (rg : Tb W) :
    Calls Tryz.prog 37 #[s.v, nv x] W fun e W' => ∃ v, e = .returned v ∧ ∃ r : SlV, v = r.v ∧ Hs W' r (hsL Ls x) ∧ Below W.heap.size W W' :=
  hbelow_all 7 x hx (by have := (kids hx).2.1; omega) W B hB h rg
theorem rof_any {W : World} {B : Nat} {s : SlV} {Ls : List Nd} (h : RwNd W B s Ls) (x : Int) (hB : B ≤ W.heap.size) (rg : Tb W) : Calls Tryz.prog 12 #[s.v, nv x] W fun e W' => ∃ v, e = .returned v ∧ ∃ r : SlV, v = r.v ∧ Sl W' W'.heap.size r (ofH (trAs Ls) x) ∧ Below W.heap.size W W' := by
  have h := h.more hB
  refine calls_cg (n := 19) Tryz.func12 rfl Tryz.ntmps12 (by simp) ?_
  show CG _ _ _ [(0, s.v), (1, nv x)] _ _
  have u := Below.refl W.heap.size W
  refine cg_seq ?_
  refine cg_region ?_
  refine zA rfl rfl rfl rfl rfl ?_
  refine lg_nil ?_
  refine nx (zk3 0 1 4 rfl rfl rfl fn) ?_
  refine cg_seq ?_
  refine cg_region ?_
  refine zM rfl rfl rfl rfl rfl ?_
  refine lg_callw (want_none (by rfl)) (as_any h (by omega)) (by kernel_rfl) rfl rfl rfl (by decide) ?_
  rintro _ w1 ⟨s1, rfl, m1, hw1⟩
  have zw1 := hw1.size
  have tl1 := trAs_le Ls
  refine zA rfl rfl rfl rfl rfl ?_
  refine lg_nil ?_
  refine nx (zk3 1 4 5 rfl rfl rfl fn) ?_
  refine cg_seq ?_
  refine cg_seq ?_
  refine cg_region ?_
  refine zM rfl rfl rfl rfl rfl ?_
  by_cases c2 : x < 0
  · refine za rfl (yb (decide_eq_true c2) (yi_lss rfl rfl rfl)) rfl rfl ?_
    refine zM rfl rfl rfl rfl rfl ?_
    refine zf 10 rfl (by kernel_rfl) rfl rfl rfl ?_
    refine zf 10 rfl (by kernel_rfl) rfl rfl rfl ?_
    refine zf 10 rfl (by kernel_rfl) rfl rfl rfl ?_
    refine zf 10 rfl (by kernel_rfl) rfl rfl rfl ?_
    refine za rfl (y_pick true rfl rfl rfl) rfl rfl ?_
    refine lg_nil ?_
    refine nx (zk3 1 4 5 rfl rfl rfl (zk1 15 rfl fn)) ?_
    refine cg_ct rfl ?_
    refine cg_seq ?_
    refine cg_region ?_
    refine zA rfl rfl rfl rfl rfl ?_
    refine lg_nil ?_
    refine nx (zk3 1 5 4 rfl rfl rfl fn) ?_
    refine cg_ret ?_
    refine eg_seq_ret ?_
    have u := u.trans (hw1.mono u.size)
    exact eg_ret_tmp rfl rfl ⟨_, rfl, nilS, rfl, (by rw [ofH_no (fun q => by have := q.le; omega)]; exact Sl.nil _ _), u⟩
  · refine za rfl (yb (decide_eq_false c2) (yi_lss rfl rfl rfl)) rfl rfl ?_
    refine zM rfl rfl rfl rfl rfl ?_
    refine zt 10 rfl (by kernel_rfl) rfl (y_move rfl rfl) rfl rfl ?_
    refine zt 10 rfl (by kernel_rfl) rfl (y_move rfl rfl) rfl rfl ?_
    refine zt 10 rfl (by kernel_rfl) rfl (y_lenM (el := 40) m1.len (by kernel_rfl) rfl rfl) rfl rfl ?_
    by_cases c3 : ((trAs Ls).length : Int) ≤ x
    · refine zt 10 rfl (by kernel_rfl) rfl (yb (decide_eq_true c3) (yi_geq rfl rfl rfl)) rfl rfl ?_
      refine za rfl (y_pick false rfl rfl rfl) rfl rfl ?_
      refine lg_nil ?_
      refine nx (zk3 1 4 5 rfl rfl rfl (zk1 15 rfl fn)) ?_
      refine cg_ct rfl ?_
      refine cg_seq ?_
      refine cg_region ?_
      refine zA rfl rfl rfl rfl rfl ?_
      refine lg_nil ?_
      refine nx (zk3 1 5 4 rfl rfl rfl fn) ?_
      refine cg_ret ?_
      refine eg_seq_ret ?_
      have u := u.trans (hw1.mono u.size)
      exact eg_ret_tmp rfl rfl ⟨_, rfl, nilS, rfl, (by rw [ofH_no (fun q => by have := q.le; omega)]; exact Sl.nil _ _), u⟩
    · refine zt 10 rfl (by kernel_rfl) rfl (yb (decide_eq_false c3) (yi_geq rfl rfl rfl)) rfl rfl ?_
      refine za rfl (y_pick false rfl rfl rfl) rfl rfl ?_
      refine lg_nil ?_
      refine nx (zk3 1 4 5 rfl rfl rfl (zk1 15 rfl fn)) ?_
      refine cg_cf rfl ?_
      refine cg_skip ?_
      refine nx (zk3 1 4 5 rfl rfl rfl fn) ?_
      refine cg_seq ?_
      refine cg_region ?_
      refine zM rfl rfl rfl rfl rfl ?_
      refine zM rfl rfl rfl rfl rfl ?_
      have u := u.trans (hw1.mono u.size)
      refine lg_callw (want_none (by rfl)) (hbelow_any (isN_of (trAs_is Ls) (by omega) (by omega)) (m1.more (B' := w1.heap.size) (by omega)) (Nat.le_refl _) (rg.up u)) (by kernel_rfl) rfl rfl rfl (by decide) ?_
      rintro _ w4 ⟨r4, rfl, m4, hw4⟩
      have zw4 := hw4.size
      refine zA rfl rfl rfl rfl rfl ?_
      refine lg_nil ?_
      refine nx (zk1 4 rfl fn) ?_
      refine cg_ret ?_
      have u := u.trans (hw4.mono u.size)
      exact eg_ret_tmp rfl rfl ⟨_, rfl, _, rfl, (by rw [ofH_yes (isN_of (trAs_is Ls) (by omega) (by omega))]; exact (m4.1.more (B' := w4.heap.size) (by omega))), u⟩
theorem rall_any {W : World} {B : Nat} {s : SlV} {Ls : List Nd} (h : RwNd W B s Ls) (hB : B ≤ W.heap.size) (rg : Tb W) : Calls Tryz.prog 15 #[s.v] W fun e W' => ∃ v, e = .returned v ∧ ∃ r : SlV, v = r.v ∧ RwOc W' W'.heap.size r (allH (trAs Ls)) ∧ Below W.heap.size W W' := by
  have h := h.more hB
  refine calls_cg (n := 21) Tryz.func15 rfl Tryz.ntmps15 (by simp) ?_
  show CG _ _ _ [(0, s.v)] _ _
  have u := Below.refl W.heap.size W
  refine cg_seq ?_
  refine cg_region ?_
  refine zA rfl rfl rfl rfl rfl ?_
  refine lg_nil ?_
  refine nx (zk2 0 2 rfl rfl fn) ?_
  refine cg_seq ?_
  refine cg_region ?_
  refine zM rfl rfl rfl rfl rfl ?_
  refine lg_callw (want_none (by rfl)) (as_any h (by omega)) (by kernel_rfl) rfl rfl rfl (by decide) ?_
  rintro _ w1 ⟨s1, rfl, m1, hw1⟩
  have zw1 := hw1.size
  have tl1 := trAs_le Ls
  refine zA rfl rfl rfl rfl rfl ?_
  refine lg_nil ?_
  refine nx (zk2 2 3 rfl rfl fn) ?_
  refine cg_seq ?_
  refine cg_region ?_
  refine zA rfl rfl rfl rfl rfl ?_
  refine lg_nil ?_
  refine nx (zk3 2 3 4 rfl rfl rfl fn) ?_
  refine cg_seq ?_
  refine cg_seq ?_
  refine cg_region ?_
  refine zA rfl rfl rfl rfl rfl ?_
  refine lg_nil ?_
  refine nx (zk3 2 3 4 rfl rfl rfl (zk1 5 rfl fn)) ?_
  refine cg_block ?_
  obtain ⟨C, hC⟩ : ∃ q, q = w1.heap.size := ⟨_, rfl⟩
  have u := u.trans (hw1.mono u.size)
  refine cg_loopE (fun t a v => ∃ (qr : SlV), Holds 21 [(3, s1.v), (4, qr.v), (5, nv ((t : Nat) : Int))] a ∧ RwNd v C s1 (trAs Ls) ∧ OwnOc v C qr.v (allN (trAs Ls) t) ∧ Below W.heap.size W v ∧ C ≤ v.heap.size ∧ W.heap.size ≤ C ∧ t ≤ (trAs Ls).length) ((trAs Ls).length + 1) (fun a ha => ⟨nilS, ha.keep (fk rfl (fk rfl (fk rfl fn))), (m1.more (by omega)), (OwnOc.nil _ _), u, (by omega), (by omega), (Nat.zero_le _)⟩) ?_
  rintro t a v ht ⟨qr, ha, hra, g0, u, cC, cW, tle⟩
  refine cg_at ha ?_
  clear ha a
  have zv := u.size
  have q1 := hra.len
  have q2 := hra.cap
  have ql := allN_len (trAs Ls) t
  have q7 := trAs_le Ls
  refine cg_seq ?_
  refine cg_seq ?_
  refine cg_region ?_
  refine zM rfl rfl rfl rfl rfl ?_
  refine zM rfl rfl rfl rfl rfl ?_
  refine za rfl (y_lenM (el := 40) hra.len (by kernel_rfl) rfl rfl) rfl rfl ?_
  by_cases c2 : ((t : Nat) : Int) < ((trAs Ls).length : Int)
  · refine za rfl (yb (decide_eq_true c2) (yi_lss rfl rfl rfl)) rfl rfl ?_
    refine lg_nil ?_
    refine nx (zk3 3 4 5 rfl rfl rfl (zk1 11 rfl fn)) ?_
    refine cg_ct rfl ?_
    refine cg_skip ?_
    refine nx (zk3 3 4 5 rfl rfl rfl fn) ?_
    refine cg_seq ?_
    refine cg_block ?_
    refine cg_region ?_
    refine zM rfl rfl rfl rfl rfl ?_
    refine zM rfl rfl rfl rfl rfl ?_
    refine zM rfl rfl rfl rfl rfl ?_
    refine lg_callw (want_none (by rfl)) (hbelow_any (isN_of (trAs_is Ls) (by omega) (by omega)) (hra.more (B' := v.heap.size) (by omega)) (Nat.le_refl _) (rg.up u)) (by kernel_rfl) rfl rfl rfl (by decide) ?_
    rintro _ w3 ⟨r3, rfl, m3, hw3⟩
    have zw3 := hw3.size
    refine lg_bslice (el := 26) (z := .slice none 0 0) (cs := #[r3.v]) (by kernel_rfl) (by kernel_rfl) (by decide) (by decide) rfl rfl (by kernel_rfl) rfl rfl (by decide) fun b4 w4 n4 => ?_
    have r4 := n4.row
    have k4 := n4.blk
    have z4 := n4.size
    have lt4 : b4 < w4.heap.size := by omega
    have g0 := g0.below hw3
    have g0 := g0.below n4.below
    have m3 := m3.below n4.below
    have oo5 := g0
    refine lg_appOc (base := C) oo5 m3 r4 (by omega) (by omega) (want_none (by rfl)) rfl rfl rfl rfl rfl (by decide) fun s5 w5 g5 k5 l5 z5 => ?_
    refine zA rfl rfl rfl rfl rfl ?_
    refine lg_nil ?_
    refine eg_block_norm ?_
    refine nx (zk3 3 5 4 rfl rfl rfl fn) ?_
    refine cg_region ?_
    refine zM rfl rfl rfl rfl rfl ?_
    refine za rfl (yv (congrArg nv (show ((t : Nat) : Int) + 1 = ((t + 1 : Nat) : Int) by omega)) (yi_add rfl rfl rfl (by omega) (by omega))) rfl rfl ?_
    refine zA rfl rfl rfl rfl rfl ?_
    refine lg_nil ?_
    have hra := hra.below (hw3.mono (by omega))
    have hra := hra.below (n4.below.mono (by omega))
    have hra := hra.below (l5.mono (by omega))
    have u := u.trans (hw3.mono u.size)
    have u := u.trans (n4.below.mono u.size)
    have u := u.trans (l5.mono (by omega))
    exact fun a ha => (show t < ((trAs Ls).length + 1) ∧ _ from ⟨(by omega), s5, ha.keep (fk rfl (fk rfl (fk rfl fn))), hra, (g5.cast (allN_s (trAs Ls) t).symm), u, (by omega), cW, (by omega)⟩)
  · refine za rfl (yb (decide_eq_false c2) (yi_lss rfl rfl rfl)) rfl rfl ?_
    refine lg_nil ?_
    refine nx (zk3 3 4 5 rfl rfl rfl (zk1 11 rfl fn)) ?_
    refine cg_cf rfl ?_
    refine cg_exit ?_
    refine eg_seq_exit ?_
    refine eg_seq_exit ?_
    refine eg_block_exit ?_
    refine nx (zk1 4 rfl fn) ?_
    refine cg_seq ?_
    refine cg_region ?_
    refine zM rfl rfl rfl rfl rfl ?_
    refine zA rfl rfl rfl rfl rfl ?_
    refine lg_nil ?_
    refine nx (zk1 2 rfl fn) ?_
    refine cg_ret ?_
    obtain rfl : t = (trAs Ls).length := by omega
    exact eg_ret_tmp rfl rfl ⟨_, rfl, _, rfl, g0.row, u⟩
theorem list_getD {a b : List (List Int)} (hl : a.length = b.length) (h : ∀ i, i < a.length → a.getD i [] = b.getD i []) : a = b := by
  refine List.ext_getElem hl fun i h1 h2 => ?_
  have := h i h1
  rwa [List.getD_eq_getElem?_getD, List.getD_eq_getElem?_getD, List.getElem?_eq_getElem h1, List.getElem?_eq_getElem h2] at this
set_option maxRecDepth 100000 in
theorem sameO_any {W : World} {B : Nat} {s r : SlV} {Xs Ys : List (List Int)} (h : RwOc W B s Xs) (h2 : RwOc W B r Ys) (hB : B ≤ W.heap.size) : Calls Tryz.prog 13 #[s.v, r.v] W fun e W' => ∃ v, e = .returned v ∧ v = .bool (decide (Xs = Ys)) ∧ Below W.heap.size W W' := by
  have h := h.more hB
  have h2 := h2.more hB
  refine calls_cg (n := 28) Tryz.func13 rfl Tryz.ntmps13 (by simp) ?_
  show CG _ _ _ [(0, s.v), (1, r.v)] _ _
  have u := Below.refl W.heap.size W
  have q1 := h.len
  have q2 := h.cap
  have q3 := h2.len
  have q4 := h2.cap
  refine cg_seq ?_
  refine cg_region ?_
  refine zA rfl rfl rfl rfl rfl ?_
  refine lg_nil ?_
  refine nx (zk3 0 1 4 rfl rfl rfl fn) ?_
  refine cg_seq ?_
  refine cg_seq ?_
  refine cg_region ?_
  refine zM rfl rfl rfl rfl rfl ?_
  refine za rfl (y_lenM (el := 26) h.len (by kernel_rfl) rfl rfl) rfl rfl ?_
  refine zM rfl rfl rfl rfl rfl ?_
  refine za rfl (y_lenM (el := 26) h2.len (by kernel_rfl) rfl rfl) rfl rfl ?_
  by_cases c1 : (Xs.length : Int) = (Ys.length : Int)
  · refine za rfl (yb (nd_f c1) (yi_neq rfl rfl rfl)) rfl rfl ?_
    refine lg_nil ?_
    refine nx (zk3 0 1 4 rfl rfl rfl (zk1 10 rfl fn)) ?_
    refine cg_cf rfl ?_
    refine cg_skip ?_
    refine nx (zk3 0 1 4 rfl rfl rfl fn) ?_
    refine cg_seq ?_
    refine cg_seq ?_
    refine cg_region ?_
    refine zA rfl rfl rfl rfl rfl ?_
    refine lg_nil ?_
    refine nx (zk3 0 1 4 rfl rfl rfl (zk1 5 rfl fn)) ?_
    refine cg_block ?_
    refine cg_loopE (fun t a v => Holds 28 [(0, s.v), (1, r.v), (5, nv ((t : Nat) : Int))] a ∧ RwOc v W.heap.size s Xs ∧ RwOc v W.heap.size r Ys ∧ Below W.heap.size W v ∧ (∀ i, i < t → Xs.getD i [] = Ys.getD i []) ∧ Xs.length = Ys.length ∧ t ≤ Xs.length) (Xs.length + 1) (fun a ha => ⟨ha.keep (fk rfl (fk rfl (fk rfl fn))), h, h2, u, (fun i hi => absurd hi (Nat.not_lt_zero _)), (by omega), (Nat.zero_le _)⟩) ?_
    rintro t a v ht ⟨ha, h, h2, u, he, hlen, tle⟩
    refine cg_at ha ?_
    clear ha a
    have zv := u.size
    have q1 := h.len
    have q2 := h.cap
    have q3 := h2.len
    have q4 := h2.cap
    refine cg_seq ?_
    refine cg_seq ?_
    refine cg_region ?_
    refine zM rfl rfl rfl rfl rfl ?_
    refine zM rfl rfl rfl rfl rfl ?_
    refine za rfl (y_lenM (el := 26) h.len (by kernel_rfl) rfl rfl) rfl rfl ?_
    by_cases c2 : ((t : Nat) : Int) < (Xs.length : Int)
    · refine za rfl (yb (decide_eq_true c2) (yi_lss rfl rfl rfl)) rfl rfl ?_
      refine lg_nil ?_
      refine nx (zk3 0 1 5 rfl rfl rfl (zk1 14 rfl fn)) ?_
      refine cg_ct rfl ?_
      refine cg_skip ?_
      refine nx (zk3 0 1 5 rfl rfl rfl fn) ?_
      refine cg_seq ?_
      refine cg_block ?_
      refine cg_seq ?_
      refine cg_still (by kernel_rfl) (by kernel_rfl) fun W3 eW3 => ?_
      have dW3 := below_drew _ _ eW3
      have zW3 := size_drew _ _ eW3
      clear eW3
      refine zsa rfl (y_move rfl rfl) rfl rfl ?_
      refine zsa rfl (y_move rfl rfl) rfl rfl ?_
      have h := h.below (dW3.mono (by omega))
      obtain ⟨eb4, eo4, er4, eA4, eB4, eh4, ec4⟩ := h.at (t) (by have := h.len; first | omega | (simp only [allH_len, allN_len, List.length_append, List.length_cons, List.length_nil] at this; omega))
      refine zsa rfl (y_ixR (s := s) (el := 26) (k := 1) (i := t) (iI := ((t : Nat) : Int)) eA4 (by kernel_rfl) (by kernel_rfl) (by omega) (by have := h.len; first | omega | (simp only [allH_len, allN_len, List.length_append, List.length_cons, List.length_nil] at this; omega)) rfl rfl rfl) rfl rfl ?_
      refine zsa rfl (y_celld (ec4) (by kernel_rfl) rfl rfl) rfl rfl ?_
      have by5 : Bytes (Xs.getD t []) := eh4.bytes
      refine zsa rfl (y_strS eh4 rfl rfl) rfl rfl ?_
      refine zsa rfl (y_move rfl rfl) rfl rfl ?_
      refine zsa rfl (y_move rfl rfl) rfl rfl ?_
      have h2 := h2.below (dW3.mono (by omega))
      obtain ⟨eb6, eo6, er6, eA6, eB6, eh6, ec6⟩ := h2.at (t) (by have := h2.len; first | omega | (simp only [allH_len, allN_len, List.length_append, List.length_cons, List.length_nil] at this; omega))
      refine zsa rfl (y_ixR (s := r) (el := 26) (k := 1) (i := t) (iI := ((t : Nat) : Int)) eA6 (by kernel_rfl) (by kernel_rfl) (by omega) (by have := h2.len; first | omega | (simp only [allH_len, allN_len, List.length_append, List.length_cons, List.length_nil] at this; omega)) rfl rfl rfl) rfl rfl ?_
      refine zsa rfl (y_celld (ec6) (by kernel_rfl) rfl rfl) rfl rfl ?_
      have by7 : Bytes (Ys.getD t []) := eh6.bytes
      refine zsa rfl (y_strS eh6 rfl rfl) rfl rfl ?_
      by_cases c8 : (Xs.getD t []) = (Ys.getD t [])
      · refine zsa rfl (yb (nd_f c8) (y_sneS (xs := (Xs.getD t [])) (ys := (Ys.getD t [])) by5 by7 rfl rfl rfl)) rfl rfl ?_
        refine sg_nil ?_
        refine nx (zk3 0 1 5 rfl rfl rfl (zk1 27 rfl fn)) ?_
        refine cg_cf rfl ?_
        refine cg_skip ?_
        refine eg_block_norm ?_
        refine nx (zk3 0 1 5 rfl rfl rfl fn) ?_
        refine cg_region ?_
        refine zM rfl rfl rfl rfl rfl ?_
        refine za rfl (yv (congrArg nv (show ((t : Nat) : Int) + 1 = ((t + 1 : Nat) : Int) by omega)) (yi_add rfl rfl rfl (by omega) (by omega))) rfl rfl ?_
        refine zA rfl rfl rfl rfl rfl ?_
        refine lg_nil ?_
        have u := u.trans (dW3.mono u.size)
        exact fun a ha => (show t < (Xs.length + 1) ∧ _ from ⟨(by omega), ha.keep (fk rfl (fk rfl (fk rfl fn))), h, h2, u, (fun i hi => if q : i < t then he i q else by
            obtain rfl : i = t := by omega
            exact c8), hlen, (by omega)⟩)
      · refine zsa rfl (yb (nd_t c8) (y_sneS (xs := (Xs.getD t [])) (ys := (Ys.getD t [])) by5 by7 rfl rfl rfl)) rfl rfl ?_
        refine sg_nil ?_
        refine nx (zk3 0 1 5 rfl rfl rfl (zk1 27 rfl fn)) ?_
        refine cg_ct rfl ?_
        refine cg_seq ?_
        refine cg_region ?_
        refine zA rfl rfl rfl rfl rfl ?_
        refine lg_nil ?_
        refine nx (zk3 0 1 5 rfl rfl rfl (zk1 4 rfl fn)) ?_
        refine cg_ret ?_
        refine eg_block_ret ?_
        refine eg_seq_ret ?_
        refine eg_seq_ret ?_
        refine eg_block_ret ?_
        refine eg_seq_ret ?_
        have u := u.trans (dW3.mono u.size)
        exact eg_ret_tmp rfl rfl ⟨_, rfl, congrArg Value.bool (decide_eq_false (fun q => c8 (by rw [q]))).symm, u⟩
    · refine za rfl (yb (decide_eq_false c2) (yi_lss rfl rfl rfl)) rfl rfl ?_
      refine lg_nil ?_
      refine nx (zk3 0 1 5 rfl rfl rfl (zk1 14 rfl fn)) ?_
      refine cg_cf rfl ?_
      refine cg_exit ?_
      refine eg_seq_exit ?_
      refine eg_seq_exit ?_
      refine eg_block_exit ?_
      refine nx (E' := []) fn ?_
      refine cg_seq ?_
      refine cg_region ?_
      refine zA rfl rfl rfl rfl rfl ?_
      refine lg_nil ?_
      refine nx (zk1 4 rfl fn) ?_
      refine cg_ret ?_
      exact eg_ret_tmp rfl rfl ⟨_, rfl, congrArg Value.bool (decide_eq_true (list_getD hlen fun i hi => he i (by omega))).symm, u⟩
  · refine za rfl (yb (nd_t c1) (yi_neq rfl rfl rfl)) rfl rfl ?_
    refine lg_nil ?_
    refine nx (zk3 0 1 4 rfl rfl rfl (zk1 10 rfl fn)) ?_
    refine cg_ct rfl ?_
    refine cg_seq ?_
    refine cg_region ?_
    refine zA rfl rfl rfl rfl rfl ?_
    refine lg_nil ?_
    refine nx (zk3 0 1 4 rfl rfl rfl fn) ?_
    refine cg_ret ?_
    refine eg_seq_ret ?_
    exact eg_ret_tmp rfl rfl ⟨_, rfl, congrArg Value.bool (decide_eq_false (fun q => by have := congrArg List.length q; omega)).symm, u⟩
end Go.Proofs.YtkcpmpbjjnknhaaGreatDoor
