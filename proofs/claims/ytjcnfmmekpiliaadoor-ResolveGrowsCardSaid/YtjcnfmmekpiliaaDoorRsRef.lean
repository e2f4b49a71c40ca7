/-
  Who has a key below a node: what the document answers.
-/
import Derived.Test.YtjcnfmmekpiliaaDoorRsFacts
import Derived.Test.YtjcnfmmekpiliaaDoorRsFork
namespace Go.Proofs.YtjcnfmmekpiliaaDoor
open Go.ChangeShapes Go.WideShapes Go.ChangeAt Go.RowKit
set_option linter.unusedVariables false

theorem below_step {Ls : List Nd} (hti : trIs Ls) {x : Int} (hx : isN x (Ls.length : Int)) {W : World} {B : Nat} {s : SlV} (h : RwNd W B s Ls) (hB : B ≤ W.heap.size) (rg : Tb W)
    (ih : ∀ y, isN y (Ls.length : Int) → lvl y = lvl x - 1 → ∀ (W : World) (B : Nat), B ≤ W.heap.size → RwNd W B s Ls → Tb W → Calls Tryd.prog 33 #[s.v, nv y] W fun e W' => ∃ v, e = .returned v ∧ ∃ r : SlV, v = r.v ∧ SlN W' W'.heap.size r (resL Ls y) ∧ Below W.heap.size W W') :
    Calls Tryd.prog 33 #[s.v, nv x] W fun e W' => ∃ v, e = .returned v ∧ ∃ r : SlV, v = r.v ∧ SlN W' W'.heap.size r (resL Ls x) ∧ Below W.heap.size W W' := by
  have h := h.more hB
  refine calls_cg (n := 61) Tryd.func33 rfl Tryd.ntmps33 (by simp) ?_
  show CG _ _ _ [(0, s.v), (1, nv x)] _ _
  have u := Below.refl W.heap.size W
  have q1 := h.len
  have q2 := h.cap
  have lex := hx.le
  have htl := trIs_le hti
  refine cg_seq ?_
  refine cg_region ?_
  refine zA rfl rfl rfl rfl rfl ?_
  refine lg_nil ?_
  refine nx (zk3 0 1 4 rfl rfl rfl fn) ?_
  refine cg_seq ?_
  refine cg_seq ?_
  refine cg_region ?_
  refine zM rfl rfl rfl rfl rfl ?_
  refine zM rfl rfl rfl rfl rfl ?_
  obtain ⟨eb1, eo1, el1, eL1, eA1, eB1, eg1, eh1, ec1⟩ := h.at (x.toNat) (by have := h.len; omega)
  refine za rfl (y_ixR (s := s) (el := 36) (k := 8) (i := x.toNat) (iI := x) eA1 (by kernel_rfl) (by kernel_rfl) (by omega) (by have := h.len; omega) rfl rfl rfl) rfl rfl ?_
  refine za rfl (y_fld (off := 0) (by kernel_rfl) rfl rfl) rfl rfl ?_
  refine za rfl (y_celld (ec1 0 _ rfl) (by kernel_rfl) rfl rfl) rfl rfl ?_
  by_cases c2 : eL1.kind = 0
  · refine za rfl (yb (nd_f c2) (yi_neq rfl rfl rfl)) rfl rfl ?_
    refine lg_nil ?_
    refine nx (zk3 0 1 4 rfl rfl rfl (zk1 13 rfl fn)) ?_
    refine cg_cf rfl ?_
    refine cg_skip ?_
    refine nx (zk3 0 1 4 rfl rfl rfl fn) ?_
    refine cg_seq ?_
    refine cg_seq ?_
    refine cg_region ?_
    refine zM rfl rfl rfl rfl rfl ?_
    refine za rfl (yi_rem rfl rfl rfl (by omega) (by omega)) rfl rfl ?_
    by_cases c3 : (x % 2) = 0
    · refine za rfl (yb (decide_eq_true c3) (yi_eql rfl rfl rfl)) rfl rfl ?_
      refine lg_nil ?_
      refine nx (zk3 0 1 4 rfl rfl rfl (zk1 43 rfl fn)) ?_
      refine cg_ct rfl ?_
      refine cg_seq ?_
      refine cg_region ?_
      refine zA rfl rfl rfl rfl rfl ?_
      refine lg_nil ?_
      refine nx (zk3 0 1 4 rfl rfl rfl fn) ?_
      refine cg_ret ?_
      refine eg_seq_ret ?_
      exact eg_ret_tmp rfl rfl ⟨_, rfl, nilS, rfl, (by rw [res_leaf hx (at_kind (p := fun k => k = 0) eg1 c2) c3]; exact SlN.nil _ _), u⟩
    · have ho := c3
      have rl1 := res_len hti (leftI x (Ls.length : Int))
      have rl2 := res_len hti (rightI x (Ls.length : Int))
      refine za rfl (yb (decide_eq_false c3) (yi_eql rfl rfl rfl)) rfl rfl ?_
      refine lg_nil ?_
      refine nx (zk3 0 1 4 rfl rfl rfl (zk1 43 rfl fn)) ?_
      refine cg_cf rfl ?_
      refine cg_skip ?_
      refine nx (zk3 0 1 4 rfl rfl rfl fn) ?_
      refine cg_seq ?_
      refine cg_region ?_
      obtain ⟨bs5, hbs5⟩ : ∃ q, q = W.heap.size := ⟨_, rfl⟩
      refine lg_bs0T (want_none (by rfl)) rfl rfl (by decide) fun v4 w4 g4 l4 => ?_
      rw [← hbs5] at g4
      have z4 := l4.size
      refine zM rfl rfl rfl rfl rfl ?_
      refine zM rfl rfl rfl rfl rfl ?_
      refine zM rfl rfl rfl rfl rfl ?_
      have h := h.below (l4.mono (by omega))
      refine za rfl (y_lenM (el := 36) h.len (by kernel_rfl) rfl rfl) rfl rfl ?_
      have u := u.trans (l4.mono u.size)
      refine za rfl (y_call (rleft_any x (Ls.length : Int) _ (rg.up u)) (by kernel_rfl) rfl rfl) rfl rfl ?_
      refine lg_callw (want_none (by rfl)) (ih _ (odd_kids hx ho).1.1 (odd_kids hx ho).1.2 _ _ (Nat.le_refl _) (h.more (B' := w4.heap.size) (by omega)) (rg.up u)) (by kernel_rfl) rfl rfl rfl (by decide) ?_
      rintro _ w6 ⟨s6, rfl, m6, hw6⟩
      have zw6 := hw6.size
      have g4 := own_below g4 hw6
      refine lg_appT g4 m6 (by first | omega | (simp only [List.length_nil]; omega)) (by omega) (want_none (by rfl)) rfl rfl rfl rfl rfl (by decide) fun r7 w7 m7 g7 l7 z7 => ?_
      simp only [List.nil_append] at m7 g7
      refine zA rfl rfl rfl rfl rfl ?_
      refine lg_nil ?_
      refine nx (zk3 0 1 4 rfl rfl rfl (zk1 7 rfl fn)) ?_
      refine cg_seq ?_
      refine cg_region ?_
      refine zM rfl rfl rfl rfl rfl ?_
      refine zM rfl rfl rfl rfl rfl ?_
      refine zM rfl rfl rfl rfl rfl ?_
      refine zM rfl rfl rfl rfl rfl ?_
      have h := h.below (hw6.mono (by omega))
      have h := h.below (l7.mono (by omega))
      refine za rfl (y_lenM (el := 36) h.len (by kernel_rfl) rfl rfl) rfl rfl ?_
      have u := u.trans (hw6.mono u.size)
      have u := u.trans (l7.mono (by omega))
      refine za rfl (y_call (rright_any x (Ls.length : Int) _ (rg.up u)) (by kernel_rfl) rfl rfl) rfl rfl ?_
      refine lg_callw (want_none (by rfl)) (ih _ (odd_kids hx ho).2.1 (odd_kids hx ho).2.2 _ _ (Nat.le_refl _) (h.more (B' := w7.heap.size) (by omega)) (rg.up u)) (by kernel_rfl) rfl rfl rfl (by decide) ?_
      rintro _ w8 ⟨s8, rfl, m8, hw8⟩
      have zw8 := hw8.size
      have g7 := own_below g7 hw8
      refine lg_appT g7 m8 (by first | omega | (simp only [List.length_append, List.length_cons, List.length_nil]; omega)) (by omega) (want_none (by rfl)) rfl rfl rfl rfl rfl (by decide) fun r9 w9 m9 g9 l9 z9 => ?_
      refine zA rfl rfl rfl rfl rfl ?_
      refine lg_nil ?_
      refine nx (zk2 4 7 rfl rfl fn) ?_
      refine cg_seq ?_
      refine cg_region ?_
      refine zM rfl rfl rfl rfl rfl ?_
      refine zA rfl rfl rfl rfl rfl ?_
      refine lg_nil ?_
      refine nx (zk1 4 rfl fn) ?_
      refine cg_ret ?_
      have u := u.trans (hw8.mono u.size)
      have u := u.trans (l9.mono (by omega))
      exact eg_ret_tmp rfl rfl ⟨_, rfl, _, rfl, (by rw [res_both hx (at_kind (p := fun k => k = 0) eg1 c2)]; exact m9), u⟩
  · refine za rfl (yb (nd_t c2) (yi_neq rfl rfl rfl)) rfl rfl ?_
    refine lg_nil ?_
    refine nx (zk3 0 1 4 rfl rfl rfl (zk1 13 rfl fn)) ?_
    refine cg_ct rfl ?_
    refine cg_seq ?_
    refine cg_region ?_
    refine zM rfl rfl rfl rfl rfl ?_
    refine lg_bslice (el := 3) (z := nv 0) (cs := #[nv x]) huIs (by kernel_rfl) (by decide) (by decide) rfl rfl (by kernel_rfl) rfl rfl (by decide) fun b10 w10 n10 => ?_
    have r10 := n10.row
    have k10 := n10.blk
    have z10 := n10.size
    have m10 : SlN w10 (b10 + 1) ⟨some ⟨b10, 0, none⟩, 1, 1⟩ [x] := new_SlN (xs := [x]) r10 rfl (of_decide_eq_true (by kernel_rfl))
    have og10 : w10.ownsRow b10 3 1 (.slice (some ⟨b10, 0, none⟩) 1 1) ([x] : List Int).length (([x] : List Int).map (Value.int .i64)) := new_ownN (xs := [x]) n10 rfl (of_decide_eq_true (by kernel_rfl))
    refine zA rfl rfl rfl rfl rfl ?_
    refine lg_nil ?_
    refine nx (zk3 0 1 4 rfl rfl rfl (zk1 5 rfl fn)) ?_
    refine cg_seq ?_
    refine cg_seq ?_
    refine cg_region ?_
    refine zA rfl rfl rfl rfl rfl ?_
    refine lg_nil ?_
    refine nx (zk5 0 1 4 5 6 rfl rfl rfl rfl rfl fn) ?_
    refine cg_block ?_
    have hun := unm_small hti x.toNat
    rw [atN_some eg1] at hun
    have le_u := hun.2
    have h := h.below (n10.below.mono (by omega))
    have u := u.trans (n10.below.mono u.size)
    refine cg_loopE (fun t a v => ∃ (qr : SlV), Holds 61 [(0, s.v), (1, nv x), (5, qr.v), (6, nv ((t : Nat) : Int))] a ∧ RwNd v W.heap.size s Ls ∧ v.ownsRow b10 3 1 qr.v ([x] ++ (eL1.inner.unm.take t).map (2 * ·)).length (([x] ++ (eL1.inner.unm.take t).map (2 * ·)).map (Value.int .i64)) ∧ Below W.heap.size W v ∧ b10 ≤ v.heap.size ∧ t ≤ eL1.inner.unm.length) (eL1.inner.unm.length + 1) (fun a ha => ⟨(⟨some ⟨b10, 0, none⟩, 1, 1⟩ : SlV), ha.keep (fk rfl (fk rfl (fk rfl (fk rfl fn)))), h, (own_castN og10 (by simp)), u, (by omega), (Nat.zero_le _)⟩) ?_
    rintro t a v ht ⟨qr, ha, h, g0, u, cC, htl2⟩
    refine cg_at ha ?_
    clear ha a
    have zv := u.size
    have q1 := h.len
    have q2 := h.cap
    have fl : ((eL1.inner.unm.take t).map (2 * ·)).length ≤ 64 := by rw [List.length_map, List.length_take]; omega
    refine cg_seq ?_
    refine cg_seq ?_
    refine cg_region ?_
    refine zM rfl rfl rfl rfl rfl ?_
    refine zM rfl rfl rfl rfl rfl ?_
    refine zM rfl rfl rfl rfl rfl ?_
    obtain ⟨eb11, eo11, el11, eL11, eA11, eB11, eg11, eh11, ec11⟩ := h.at (x.toNat) (by have := h.len; omega)
    obtain rfl : eL1 = eL11 := Option.some.inj (eg1.symm.trans eg11)
    refine za rfl (y_ixR (s := s) (el := 36) (k := 8) (i := x.toNat) (iI := x) eA11 (by kernel_rfl) (by kernel_rfl) (by omega) (by have := h.len; omega) rfl rfl rfl) rfl rfl ?_
    refine za rfl (y_fld (off := 5) (by kernel_rfl) rfl rfl) rfl rfl ?_
    refine za rfl (y_fld (off := 2) (by kernel_rfl) rfl rfl) rfl rfl ?_
    refine za rfl (y_celld (ec11 7 _ rfl) (by kernel_rfl) rfl rfl) rfl rfl ?_
    refine za rfl (y_lenM (el := 3) eh11.inner.unm.len (by kernel_rfl) rfl rfl) rfl rfl ?_
    by_cases c12 : ((t : Nat) : Int) < (eL1.inner.unm.length : Int)
    · refine za rfl (yb (decide_eq_true c12) (yi_lss rfl rfl rfl)) rfl rfl ?_
      refine lg_nil ?_
      refine nx (zk5 0 1 5 6 24 rfl rfl rfl rfl rfl fn) ?_
      refine cg_ct rfl ?_
      refine cg_skip ?_
      refine nx (zk3 0 1 5 rfl rfl rfl (zk1 6 rfl fn)) ?_
      refine cg_seq ?_
      refine cg_block ?_
      have htlt : t < eL1.inner.unm.length := by omega
      have hub := hun.1 _ (getD_in htlt)
      refine cg_region ?_
      refine zM rfl rfl rfl rfl rfl ?_
      refine zM rfl rfl rfl rfl rfl ?_
      refine zM rfl rfl rfl rfl rfl ?_
      obtain ⟨eb13, eo13, el13, eL13, eA13, eB13, eg13, eh13, ec13⟩ := h.at (x.toNat) (by have := h.len; omega)
      obtain rfl : eL1 = eL13 := Option.some.inj (eg1.symm.trans eg13)
      refine za rfl (y_ixR (s := s) (el := 36) (k := 8) (i := x.toNat) (iI := x) eA13 (by kernel_rfl) (by kernel_rfl) (by omega) (by have := h.len; omega) rfl rfl rfl) rfl rfl ?_
      refine za rfl (y_fld (off := 5) (by kernel_rfl) rfl rfl) rfl rfl ?_
      refine za rfl (y_fld (off := 2) (by kernel_rfl) rfl rfl) rfl rfl ?_
      refine za rfl (y_celld (ec13 7 _ rfl) (by kernel_rfl) rfl rfl) rfl rfl ?_
      refine zM rfl rfl rfl rfl rfl ?_
      refine za rfl (y_ixT (i := t) (iI := ((t : Nat) : Int)) eh13.inner.unm (by omega) (by omega) rfl rfl rfl) rfl rfl ?_
      refine za rfl (y_ldT (i := t) eh13.inner.unm (by omega) rfl rfl) rfl rfl ?_
      refine za rfl (yi_mul rfl rfl rfl (by omega) (by omega)) rfl rfl ?_
      refine lg_bslice (el := 3) (z := nv 0) (cs := #[nv (2 * (eL1.inner.unm.getD t 0))]) huIs (by kernel_rfl) (by decide) (by decide) rfl rfl (by kernel_rfl) rfl rfl (by decide) fun b14 w14 n14 => ?_
      have r14 := n14.row
      have k14 := n14.blk
      have z14 := n14.size
      have m14 : SlN w14 (b14 + 1) ⟨some ⟨b14, 0, none⟩, 1, 1⟩ [(2 * (eL1.inner.unm.getD t 0))] := new_SlN (xs := [(2 * (eL1.inner.unm.getD t 0))]) r14 rfl (of_decide_eq_true (by kernel_rfl))
      have og14 : w14.ownsRow b14 3 1 (.slice (some ⟨b14, 0, none⟩) 1 1) ([(2 * (eL1.inner.unm.getD t 0))] : List Int).length (([(2 * (eL1.inner.unm.getD t 0))] : List Int).map (Value.int .i64)) := new_ownN (xs := [(2 * (eL1.inner.unm.getD t 0))]) n14 rfl (of_decide_eq_true (by kernel_rfl))
      have g0 := own_below g0 n14.below
      refine lg_appT g0 m14 (by first | omega | (simp only [List.length_append, List.length_cons, List.length_nil]; omega)) (by omega) (want_none (by rfl)) rfl rfl rfl rfl rfl (by decide) fun r15 w15 m15 g15 l15 z15 => ?_
      refine zA rfl rfl rfl rfl rfl ?_
      refine lg_nil ?_
      refine eg_block_norm ?_
      refine nx (zk3 0 1 6 rfl rfl rfl (zk1 5 rfl fn)) ?_
      refine cg_region ?_
      refine zM rfl rfl rfl rfl rfl ?_
      refine za rfl (yv (congrArg nv (show ((t : Nat) : Int) + 1 = ((t + 1 : Nat) : Int) by omega)) (yi_add rfl rfl rfl (by omega) (by omega))) rfl rfl ?_
      refine zA rfl rfl rfl rfl rfl ?_
      refine lg_nil ?_
      have h := h.below (n14.below.mono (by omega))
      have h := h.below (l15.mono (by omega))
      have u := u.trans (n14.below.mono u.size)
      have u := u.trans (l15.mono (by omega))
      exact fun a ha => (show t < (eL1.inner.unm.length + 1) ∧ _ from ⟨(by omega), r15, ha.keep (fk rfl (fk rfl (fk rfl (fk rfl fn)))), h, (own_castN g15 (by rw [take_succ_getD _ _ (by omega), List.map_append, List.append_assoc]; rfl)), u, (by omega), (by omega)⟩)
    · refine za rfl (yb (decide_eq_false c12) (yi_lss rfl rfl rfl)) rfl rfl ?_
      refine lg_nil ?_
      refine nx (zk5 0 1 5 6 24 rfl rfl rfl rfl rfl fn) ?_
      refine cg_cf rfl ?_
      refine cg_exit ?_
      refine eg_seq_exit ?_
      refine eg_seq_exit ?_
      refine eg_block_exit ?_
      refine nx (zk3 0 1 5 rfl rfl rfl fn) ?_
      refine cg_seq ?_
      refine cg_region ?_
      refine zM rfl rfl rfl rfl rfl ?_
      refine zA rfl rfl rfl rfl rfl ?_
      refine lg_nil ?_
      refine nx (zk3 0 1 4 rfl rfl rfl fn) ?_
      refine cg_ret ?_
      refine eg_seq_ret ?_
      obtain rfl : t = eL1.inner.unm.length := by omega
      exact eg_ret_tmp rfl rfl ⟨_, rfl, _, rfl, (by rw [res_one hx (at_kind (p := fun k => ¬ k = 0) eg1 c2), nodeR, atN_some eg1]; exact own_num (own_castN g0 (by rw [List.take_length]; rfl))), u⟩
theorem rkeyBelow_all {Ls : List Nd} (hti : trIs Ls) {s : SlV} : ∀ (n : Nat) (x : Int), isN x (Ls.length : Int) → lvl x < n → ∀ (W : World) (B : Nat), B ≤ W.heap.size → RwNd W B s Ls → Tb W → Calls Tryd.prog 33 #[s.v, nv x] W fun e W' => ∃ v, e = .returned v ∧ ∃ r : SlV, v = r.v ∧ SlN W' W'.heap.size r (resL Ls x) ∧ Below W.heap.size W W'
  | 0, x, hx, hl, _, _, _, _, _ => by
    have := (kids hx).1
    omega
  | n + 1, x, hx, hl, W, B, hB, h, rg => below_step hti hx h hB rg fun y hy e W' B' hB' h' rg' => rkeyBelow_all hti n y hy (by omega) W' B' hB' h' rg'
theorem rkeyBelow_any {Ls : List Nd} (hti : trIs Ls) {x : Int} (hx : isN x (Ls.length : Int)) {W : World} {B : Nat} {s : SlV} (h : RwNd W B s Ls) (hB : B ≤ W.heap.size) (rg : Tb W) :
    Calls Tryd.prog 33 #[s.v, nv x] W fun e W' => ∃ v, e = .returned v ∧ ∃ r : SlV, v = r.v ∧ SlN W' W'.heap.size r (resL Ls x) ∧ Below W.heap.size W W' :=
  rkeyBelow_all hti 7 x hx (by have := (kids hx).2.1; omega) W B hB h rg
theorem rresolve_any {W : World} {B : Nat} {s : SlV} {Ls : List Nd} (h : RwNd W B s Ls) (x : Int) (hB : B ≤ W.heap.size) (rg : Tb W) : Calls Tryd.prog 13 #[s.v, nv x] W fun e W' => ∃ v, e = .returned v ∧ ∃ r : SlV, v = r.v ∧ SlN W' W'.heap.size r (resL (trAs Ls) x) ∧ Below W.heap.size W W' := by
  have h := h.more hB
  refine calls_cg (n := 19) Tryd.func13 rfl Tryd.ntmps13 (by simp) ?_
  show CG _ _ _ [(0, s.v), (1, nv x)] _ _
  have u := Below.refl W.heap.size W
  refine cg_seq ?_
  refine cg_region ?_
  refine zA rfl rfl rfl rfl rfl ?_
  refine lg_nil ?_
  refine nx (zk3 0 1 4 rfl rfl rfl fn) ?_
  refine cg_seq ?_
  refine cg_region ?_
  refine zM rfl rfl rfl rfl rfl ?_
  refine lg_callw (want_none (by rfl)) (as_any h (by omega)) (by kernel_rfl) rfl rfl rfl (by decide) ?_
  rintro _ w1 ⟨s1, rfl, m1, hw1⟩
  have zw1 := hw1.size
  have tl1 := trAs_le Ls
  refine zA rfl rfl rfl rfl rfl ?_
  refine lg_nil ?_
  refine nx (zk3 1 4 5 rfl rfl rfl fn) ?_
  refine cg_seq ?_
  refine cg_seq ?_
  refine cg_region ?_
  refine zM rfl rfl rfl rfl rfl ?_
  by_cases c2 : x < 0
  · refine za rfl (yb (decide_eq_true c2) (yi_lss rfl rfl rfl)) rfl rfl ?_
    refine zM rfl rfl rfl rfl rfl ?_
    refine zf 10 rfl (by kernel_rfl) rfl rfl rfl ?_
    refine zf 10 rfl (by kernel_rfl) rfl rfl rfl ?_
    refine zf 10 rfl (by kernel_rfl) rfl rfl rfl ?_
    refine zf 10 rfl (by kernel_rfl) rfl rfl rfl ?_
    refine za rfl (y_pick true rfl rfl rfl) rfl rfl ?_
    refine lg_nil ?_
    refine nx (zk3 1 4 5 rfl rfl rfl (zk1 15 rfl fn)) ?_
    refine cg_ct rfl ?_
    refine cg_seq ?_
    refine cg_region ?_
    refine zA rfl rfl rfl rfl rfl ?_
    refine lg_nil ?_
    refine nx (zk3 1 5 4 rfl rfl rfl fn) ?_
    refine cg_ret ?_
    refine eg_seq_ret ?_
    have u := u.trans (hw1.mono u.size)
    exact eg_ret_tmp rfl rfl ⟨_, rfl, nilS, rfl, (by rw [res_none' (fun q => by have := q.le; omega)]; exact SlN.nil _ _), u⟩
  · refine za rfl (yb (decide_eq_false c2) (yi_lss rfl rfl rfl)) rfl rfl ?_
    refine zM rfl rfl rfl rfl rfl ?_
    refine zt 10 rfl (by kernel_rfl) rfl (y_move rfl rfl) rfl rfl ?_
    refine zt 10 rfl (by kernel_rfl) rfl (y_move rfl rfl) rfl rfl ?_
    refine zt 10 rfl (by kernel_rfl) rfl (y_lenM (el := 36) m1.len (by kernel_rfl) rfl rfl) rfl rfl ?_
    by_cases c3 : ((trAs Ls).length : Int) ≤ x
    · refine zt 10 rfl (by kernel_rfl) rfl (yb (decide_eq_true c3) (yi_geq rfl rfl rfl)) rfl rfl ?_
      refine za rfl (y_pick false rfl rfl rfl) rfl rfl ?_
      refine lg_nil ?_
      refine nx (zk3 1 4 5 rfl rfl rfl (zk1 15 rfl fn)) ?_
      refine cg_ct rfl ?_
      refine cg_seq ?_
      refine cg_region ?_
      refine zA rfl rfl rfl rfl rfl ?_
      refine lg_nil ?_
      refine nx (zk3 1 5 4 rfl rfl rfl fn) ?_
      refine cg_ret ?_
      refine eg_seq_ret ?_
      have u := u.trans (hw1.mono u.size)
      exact eg_ret_tmp rfl rfl ⟨_, rfl, nilS, rfl, (by rw [res_none' (fun q => by have := q.le; omega)]; exact SlN.nil _ _), u⟩
    · refine zt 10 rfl (by kernel_rfl) rfl (yb (decide_eq_false c3) (yi_geq rfl rfl rfl)) rfl rfl ?_
      refine za rfl (y_pick false rfl rfl rfl) rfl rfl ?_
      refine lg_nil ?_
      refine nx (zk3 1 4 5 rfl rfl rfl (zk1 15 rfl fn)) ?_
      refine cg_cf rfl ?_
      refine cg_skip ?_
      refine nx (zk3 1 4 5 rfl rfl rfl fn) ?_
      refine cg_seq ?_
      refine cg_region ?_
      refine zM rfl rfl rfl rfl rfl ?_
      refine zM rfl rfl rfl rfl rfl ?_
      have u := u.trans (hw1.mono u.size)
      refine lg_callw (want_none (by rfl)) (rkeyBelow_any (trAs_is Ls) (isN_of (trAs_is Ls) (by omega) (by omega)) (m1.more (B' := w1.heap.size) (by omega)) (Nat.le_refl _) (rg.up u)) (by kernel_rfl) rfl rfl rfl (by decide) ?_
      rintro _ w4 ⟨s4, rfl, m4, hw4⟩
      have zw4 := hw4.size
      have rl4 := res_len (trAs_is Ls) x
      refine zA rfl rfl rfl rfl rfl ?_
      refine lg_nil ?_
      refine nx (zk1 4 rfl fn) ?_
      refine cg_ret ?_
      have u := u.trans (hw4.mono u.size)
      exact eg_ret_tmp rfl rfl ⟨_, rfl, _, rfl, m4, u⟩
theorem rfilter_any {W : World} {B : Nat} {s : SlV} {Ls : List Nd} (h : RwNd W B s Ls) (i : Int) (hB : B ≤ W.heap.size) (rg : Tb W) : Calls Tryd.prog 15 #[s.v, nv i] W fun e W' => ∃ v, e = .returned v ∧ ∃ r : SlV, v = r.v ∧ SlN W' W'.heap.size r ((forkL (trAs Ls) i).map Prod.fst) ∧ Below W.heap.size W W' := by
  have h := h.more hB
  refine calls_cg (n := 52) Tryd.func15 rfl Tryd.ntmps15 (by simp) ?_
  show CG _ _ _ [(0, s.v), (1, nv i)] _ _
  have u := Below.refl W.heap.size W
  have tl := trAs_le Ls
  have lvd : leavesA (trAs Ls) = ((trAs Ls).length + 1) / 2 := rfl
  refine cg_seq ?_
  refine cg_region ?_
  refine zA rfl rfl rfl rfl rfl ?_
  refine lg_nil ?_
  refine nx (zk3 0 1 4 rfl rfl rfl fn) ?_
  refine cg_seq ?_
  refine cg_region ?_
  refine zM rfl rfl rfl rfl rfl ?_
  refine lg_callw (want_none (by rfl)) (as_any h (by omega)) (by kernel_rfl) rfl rfl rfl (by decide) ?_
  rintro _ w1 ⟨s1, rfl, m1, hw1⟩
  have zw1 := hw1.size
  have tl1 := trAs_le Ls
  refine zA rfl rfl rfl rfl rfl ?_
  refine lg_nil ?_
  refine nx (zk3 1 4 5 rfl rfl rfl fn) ?_
  refine cg_seq ?_
  refine cg_seq ?_
  refine cg_region ?_
  refine zM rfl rfl rfl rfl rfl ?_
  by_cases c2 : i < 0
  · refine za rfl (yb (decide_eq_true c2) (yi_lss rfl rfl rfl)) rfl rfl ?_
    refine zM rfl rfl rfl rfl rfl ?_
    refine zf 14 rfl (by kernel_rfl) rfl rfl rfl ?_
    refine zf 14 rfl (by kernel_rfl) rfl rfl rfl ?_
    refine zf 14 rfl (by kernel_rfl) rfl rfl rfl ?_
    refine zf 14 rfl (by kernel_rfl) rfl rfl rfl ?_
    refine za rfl (y_pick true rfl rfl rfl) rfl rfl ?_
    refine lg_nil ?_
    refine nx (zk3 1 4 5 rfl rfl rfl (zk1 19 rfl fn)) ?_
    refine cg_ct rfl ?_
    refine cg_seq ?_
    refine cg_region ?_
    refine zA rfl rfl rfl rfl rfl ?_
    refine lg_nil ?_
    refine nx (zk3 1 5 4 rfl rfl rfl fn) ?_
    refine cg_ret ?_
    refine eg_seq_ret ?_
    have u := u.trans (hw1.mono u.size)
    exact eg_ret_tmp rfl rfl ⟨_, rfl, nilS, rfl, (by rw [fork_no (fun q => by omega)]; exact SlN.nil _ _), u⟩
  · refine za rfl (yb (decide_eq_false c2) (yi_lss rfl rfl rfl)) rfl rfl ?_
    refine zM rfl rfl rfl rfl rfl ?_
    refine zt 14 rfl (by kernel_rfl) rfl (y_move rfl rfl) rfl rfl ?_
    refine zt 14 rfl (by kernel_rfl) rfl (y_move rfl rfl) rfl rfl ?_
    refine lg_callw (want_t (dj := 14) (by rfl) (by kernel_rfl) rfl) ((by have z := rleavesT_any (m1.more (B' := w1.heap.size) (by omega)) (Nat.le_refl _); rwa [trAs_as] at z)) (by kernel_rfl) rfl rfl rfl (by decide) ?_
    rintro _ w3 ⟨rfl, hw3⟩
    have zw3 := hw3.size
    by_cases c4 : ((leavesA (trAs Ls) : Nat) : Int) ≤ i
    · refine zt 14 rfl (by kernel_rfl) rfl (yb (decide_eq_true c4) (yi_geq rfl rfl rfl)) rfl rfl ?_
      refine za rfl (y_pick false rfl rfl rfl) rfl rfl ?_
      refine lg_nil ?_
      refine nx (zk3 1 4 5 rfl rfl rfl (zk1 19 rfl fn)) ?_
      refine cg_ct rfl ?_
      refine cg_seq ?_
      refine cg_region ?_
      refine zA rfl rfl rfl rfl rfl ?_
      refine lg_nil ?_
      refine nx (zk3 1 5 4 rfl rfl rfl fn) ?_
      refine cg_ret ?_
      refine eg_seq_ret ?_
      have u := u.trans (hw1.mono u.size)
      have u := u.trans (hw3.mono u.size)
      exact eg_ret_tmp rfl rfl ⟨_, rfl, nilS, rfl, (by rw [fork_no (fun q => by omega)]; exact SlN.nil _ _), u⟩
    · have hN : isN (2 * i) ((trAs Ls).length : Int) := isN_of (trAs_is Ls) (by omega) (by omega)
      have hxs := fork_yes (a := trAs Ls) (i := i) ⟨by omega, by omega⟩
      refine zt 14 rfl (by kernel_rfl) rfl (yb (decide_eq_false c4) (yi_geq rfl rfl rfl)) rfl rfl ?_
      refine za rfl (y_pick false rfl rfl rfl) rfl rfl ?_
      refine lg_nil ?_
      refine nx (zk3 1 4 5 rfl rfl rfl (zk1 19 rfl fn)) ?_
      refine cg_cf rfl ?_
      refine cg_skip ?_
      refine nx (zk3 1 4 5 rfl rfl rfl fn) ?_
      refine cg_seq ?_
      refine cg_region ?_
      refine zM rfl rfl rfl rfl rfl ?_
      refine za rfl (yi_mul rfl rfl rfl (by omega) (by omega)) rfl rfl ?_
      refine zM rfl rfl rfl rfl rfl ?_
      have m1 := m1.below (hw3.mono (by omega))
      refine za rfl (y_lenM (el := 36) m1.len (by kernel_rfl) rfl rfl) rfl rfl ?_
      have u := u.trans (hw1.mono u.size)
      have u := u.trans (hw3.mono u.size)
      refine lg_callw (want_none (by rfl)) (rdirectF (2 * i) ((trAs Ls).length : Int) _ (rg.up u)) (by kernel_rfl) rfl rfl rfl (by decide) ?_
      rintro _ w5 ⟨s5, rfl, m5, f5, hw5⟩
      have zw5 := hw5.size
      refine zA rfl rfl rfl rfl rfl ?_
      refine lg_nil ?_
      refine nx (zk3 1 4 5 rfl rfl rfl (zk1 6 rfl fn)) ?_
      refine cg_seq ?_
      refine cg_region ?_
      refine zM rfl rfl rfl rfl rfl ?_
      refine za rfl (yi_mul rfl rfl rfl (by omega) (by omega)) rfl rfl ?_
      refine zM rfl rfl rfl rfl rfl ?_
      have m1 := m1.below (hw5.mono (by omega))
      refine za rfl (y_lenM (el := 36) m1.len (by kernel_rfl) rfl rfl) rfl rfl ?_
      have u := u.trans (hw5.mono u.size)
      refine lg_callw (want_none (by rfl)) (rcopathF (2 * i) ((trAs Ls).length : Int) _ (rg.up u)) (by kernel_rfl) rfl rfl rfl (by decide) ?_
      rintro _ w6 ⟨s6, rfl, m6, f6, hw6⟩
      have zw6 := hw6.size
      refine zA rfl rfl rfl rfl rfl ?_
      refine lg_nil ?_
      refine nx (zk3 4 5 6 rfl rfl rfl (zk1 7 rfl fn)) ?_
      refine cg_seq ?_
      refine cg_region ?_
      refine zA rfl rfl rfl rfl rfl ?_
      refine lg_nil ?_
      refine nx (zk5 4 5 6 7 8 rfl rfl rfl rfl rfl fn) ?_
      refine cg_seq ?_
      refine cg_seq ?_
      refine cg_region ?_
      refine zA rfl rfl rfl rfl rfl ?_
      refine lg_nil ?_
      refine nx (zk5 4 5 6 7 8 rfl rfl rfl rfl rfl (zk1 9 rfl fn)) ?_
      refine cg_block ?_
      obtain ⟨C, hC⟩ : ∃ q, q = w6.heap.size := ⟨_, rfl⟩
      obtain ⟨wl, cl⟩ := wayP_len hN
      have dl := dirL (2 * i) ((trAs Ls).length : Int)
      have m1 := m1.below (hw6.mono (by omega))
      have m5 := m5.below (hw6.mono (by omega))
      have u := u.trans (hw6.mono u.size)
      refine cg_loopE (fun t a v => ∃ (qr : SlV), Holds 52 [(5, s1.v), (6, s5.v), (7, s6.v), (8, qr.v), (9, nv ((t : Nat) : Int))] a ∧ RwNd v C s1 (trAs Ls) ∧ SlN v C s6 (copI (2 * i) ((trAs Ls).length : Int)) ∧ SlN v C s5 (dirI (2 * i) ((trAs Ls).length : Int)) ∧ v.ownsRow C 3 1 qr.v ((forkF (trAs Ls) ((wayP (trAs Ls) i).take t)).map Prod.fst).length (((forkF (trAs Ls) ((wayP (trAs Ls) i).take t)).map Prod.fst).map (Value.int .i64)) ∧ Below W.heap.size W v ∧ C ≤ v.heap.size ∧ t ≤ (copI (2 * i) ((trAs Ls).length : Int)).length ∧ W.heap.size ≤ C) ((copI (2 * i) ((trAs Ls).length : Int)).length + 1) (fun a ha => ⟨nilS, ha.keep (fk rfl (fk rfl (fk rfl (fk rfl (fk rfl fn))))), (m1.more (by omega)), (m6.more (by omega)), (m5.more (by omega)), (own_nilN _ _), u, (by omega), (Nat.zero_le _), (by omega)⟩) ?_
      rintro t a v ht ⟨qr, ha, hra, hc, hd, g0, u, cC, htl, cW⟩
      refine cg_at ha ?_
      clear ha a
      have zv := u.size
      have q1 := hra.len
      have q2 := hra.cap
      have q3 := hc.len
      have q4 := hc.cap
      have q5 := hd.len
      have q6 := hd.cap
      have fl : ((forkF (trAs Ls) ((wayP (trAs Ls) i).take t)).map Prod.fst).length ≤ 6 := by rw [List.length_map]; exact Nat.le_trans (List.length_filter_le _ _) (by rw [List.length_take]; omega)
      refine cg_seq ?_
      refine cg_seq ?_
      refine cg_region ?_
      refine zM rfl rfl rfl rfl rfl ?_
      refine zM rfl rfl rfl rfl rfl ?_
      refine za rfl (y_lenM (el := 3) hd.len (by kernel_rfl) rfl rfl) rfl rfl ?_
      by_cases c7 : ((t : Nat) : Int) < ((dirI (2 * i) ((trAs Ls).length : Int)).length : Int)
      · refine za rfl (yb (decide_eq_true c7) (yi_lss rfl rfl rfl)) rfl rfl ?_
        refine lg_nil ?_
        refine nx (zk5 5 6 7 8 9 rfl rfl rfl rfl rfl (zk1 33 rfl fn)) ?_
        refine cg_ct rfl ?_
        refine cg_skip ?_
        refine nx (zk5 5 6 7 8 9 rfl rfl rfl rfl rfl fn) ?_
        refine cg_seq ?_
        refine cg_block ?_
        refine cg_seq ?_
        have htlt : t < (copI (2 * i) ((trAs Ls).length : Int)).length := by omega
        refine cg_region ?_
        refine zM rfl rfl rfl rfl rfl ?_
        refine zM rfl rfl rfl rfl rfl ?_
        refine zM rfl rfl rfl rfl rfl ?_
        refine za rfl (y_ixT (i := t) (iI := ((t : Nat) : Int)) hc (by omega) (by first | omega | (simp only [List.length_append, List.length_cons, List.length_nil]; omega)) rfl rfl rfl) rfl rfl ?_
        refine za rfl (y_ldT (i := t) hc (by first | omega | (simp only [List.length_append, List.length_cons, List.length_nil]; omega)) rfl rfl) rfl rfl ?_
        refine lg_callw (want_none (by rfl)) (rkeyBelow_any (trAs_is Ls) (cop_node hN (by omega)).1 (hra.more (B' := v.heap.size) (by omega)) (Nat.le_refl _) (rg.up u)) (by kernel_rfl) rfl rfl rfl (by decide) ?_
        rintro _ w8 ⟨s8, rfl, m8, hw8⟩
        have zw8 := hw8.size
        have rl8 := res_len (trAs_is Ls) ((copI (2 * i) ((trAs Ls).length : Int)).getD t 0)
        refine za rfl (y_lenM (el := 3) m8.len (by kernel_rfl) rfl rfl) rfl rfl ?_
        by_cases c9 : 0 < ((resL (trAs Ls) ((copI (2 * i) ((trAs Ls).length : Int)).getD t 0)).length : Int)
        · refine za rfl (yb (decide_eq_true c9) (yi_gtr rfl rfl rfl)) rfl rfl ?_
          refine lg_nil ?_
          refine nx (zk5 5 6 7 8 9 rfl rfl rfl rfl rfl (zk1 43 rfl fn)) ?_
          refine cg_ct rfl ?_
          refine cg_region ?_
          refine zM rfl rfl rfl rfl rfl ?_
          refine zM rfl rfl rfl rfl rfl ?_
          refine zM rfl rfl rfl rfl rfl ?_
          have hd := hd.below (hw8.mono (by omega))
          refine za rfl (y_ixT (i := t) (iI := ((t : Nat) : Int)) hd (by omega) (by first | omega | (simp only [List.length_append, List.length_cons, List.length_nil]; omega)) rfl rfl rfl) rfl rfl ?_
          refine za rfl (y_ldT (i := t) hd (by first | omega | (simp only [List.length_append, List.length_cons, List.length_nil]; omega)) rfl rfl) rfl rfl ?_
          refine lg_bslice (el := 3) (z := nv 0) (cs := #[nv ((dirI (2 * i) ((trAs Ls).length : Int)).getD t 0)]) huIs (by kernel_rfl) (by decide) (by decide) rfl rfl (by kernel_rfl) rfl rfl (by decide) fun b10 w10 n10 => ?_
          have r10 := n10.row
          have k10 := n10.blk
          have z10 := n10.size
          have m10 : SlN w10 (b10 + 1) ⟨some ⟨b10, 0, none⟩, 1, 1⟩ [((dirI (2 * i) ((trAs Ls).length : Int)).getD t 0)] := new_SlN (xs := [((dirI (2 * i) ((trAs Ls).length : Int)).getD t 0)]) r10 rfl (of_decide_eq_true (by kernel_rfl))
          have og10 : w10.ownsRow b10 3 1 (.slice (some ⟨b10, 0, none⟩) 1 1) ([((dirI (2 * i) ((trAs Ls).length : Int)).getD t 0)] : List Int).length (([((dirI (2 * i) ((trAs Ls).length : Int)).getD t 0)] : List Int).map (Value.int .i64)) := new_ownN (xs := [((dirI (2 * i) ((trAs Ls).length : Int)).getD t 0)]) n10 rfl (of_decide_eq_true (by kernel_rfl))
          have g0 := own_below g0 hw8
          have g0 := own_below g0 n10.below
          refine lg_appT g0 m10 (by first | omega | (simp only [List.length_cons, List.length_nil]; omega)) (by omega) (want_none (by rfl)) rfl rfl rfl rfl rfl (by decide) fun r11 w11 m11 g11 l11 z11 => ?_
          refine zA rfl rfl rfl rfl rfl ?_
          refine lg_nil ?_
          refine eg_block_norm ?_
          refine nx (zk5 5 6 7 9 8 rfl rfl rfl rfl rfl fn) ?_
          refine cg_region ?_
          refine zM rfl rfl rfl rfl rfl ?_
          refine za rfl (yv (congrArg nv (show ((t : Nat) : Int) + 1 = ((t + 1 : Nat) : Int) by omega)) (yi_add rfl rfl rfl (by omega) (by omega))) rfl rfl ?_
          refine zA rfl rfl rfl rfl rfl ?_
          refine lg_nil ?_
          have hra := hra.below (hw8.mono (by omega))
          have hra := hra.below (n10.below.mono (by omega))
          have hra := hra.below (l11.mono (by omega))
          have hc := hc.below (hw8.mono (by omega))
          have hc := hc.below (n10.below.mono (by omega))
          have hc := hc.below (l11.mono (by omega))
          have hd := hd.below (n10.below.mono (by omega))
          have hd := hd.below (l11.mono (by omega))
          have u := u.trans (hw8.mono u.size)
          have u := u.trans (n10.below.mono u.size)
          have u := u.trans (l11.mono (by omega))
          exact fun a ha => (show t < ((copI (2 * i) ((trAs Ls).length : Int)).length + 1) ∧ _ from ⟨(by omega), r11, ha.keep (fk rfl (fk rfl (fk rfl (fk rfl (fk rfl fn))))), hra, hc, hd, (own_castN g11 (by rw [(wayP_at hN (show t < (dirI (2 * i) ((trAs Ls).length : Int)).length by omega)), forkF_yes (p := ((dirI (2 * i) ((trAs Ls).length : Int)).getD t 0, (copI (2 * i) ((trAs Ls).length : Int)).getD t 0)) (res_some.1 c9), List.map_append]; rfl)), u, (by omega), (by omega), cW⟩)
        · refine za rfl (yb (decide_eq_false c9) (yi_gtr rfl rfl rfl)) rfl rfl ?_
          refine lg_nil ?_
          refine nx (zk5 5 6 7 8 9 rfl rfl rfl rfl rfl (zk1 43 rfl fn)) ?_
          refine cg_cf rfl ?_
          refine cg_skip ?_
          refine eg_block_norm ?_
          refine nx (zk5 5 6 7 8 9 rfl rfl rfl rfl rfl fn) ?_
          refine cg_region ?_
          refine zM rfl rfl rfl rfl rfl ?_
          refine za rfl (yv (congrArg nv (show ((t : Nat) : Int) + 1 = ((t + 1 : Nat) : Int) by omega)) (yi_add rfl rfl rfl (by omega) (by omega))) rfl rfl ?_
          refine zA rfl rfl rfl rfl rfl ?_
          refine lg_nil ?_
          have g0 := own_below g0 hw8
          have hra := hra.below (hw8.mono (by omega))
          have hc := hc.below (hw8.mono (by omega))
          have hd := hd.below (hw8.mono (by omega))
          have u := u.trans (hw8.mono u.size)
          exact fun a ha => (show t < ((copI (2 * i) ((trAs Ls).length : Int)).length + 1) ∧ _ from ⟨(by omega), qr, ha.keep (fk rfl (fk rfl (fk rfl (fk rfl (fk rfl fn))))), hra, hc, hd, (own_castN g0 (by rw [(wayP_at hN (show t < (dirI (2 * i) ((trAs Ls).length : Int)).length by omega)), forkF_no (p := ((dirI (2 * i) ((trAs Ls).length : Int)).getD t 0, (copI (2 * i) ((trAs Ls).length : Int)).getD t 0)) (fun q => c9 (res_some.2 q))])), u, (by omega), (by omega), cW⟩)
      · refine za rfl (yb (decide_eq_false c7) (yi_lss rfl rfl rfl)) rfl rfl ?_
        refine lg_nil ?_
        refine nx (zk5 5 6 7 8 9 rfl rfl rfl rfl rfl (zk1 33 rfl fn)) ?_
        refine cg_cf rfl ?_
        refine cg_exit ?_
        refine eg_seq_exit ?_
        refine eg_seq_exit ?_
        refine eg_block_exit ?_
        refine nx (zk1 8 rfl fn) ?_
        refine cg_seq ?_
        refine cg_region ?_
        refine zM rfl rfl rfl rfl rfl ?_
        refine zA rfl rfl rfl rfl rfl ?_
        refine lg_nil ?_
        refine nx (zk1 4 rfl fn) ?_
        refine cg_ret ?_
        obtain rfl : t = (copI (2 * i) ((trAs Ls).length : Int)).length := by omega
        exact eg_ret_tmp rfl rfl ⟨_, rfl, _, rfl, (by rw [hxs]; exact own_num (own_castN g0 (by rw [List.take_of_length_le (by omega)]))), u⟩
theorem rbeside_any {W : World} {B : Nat} {s : SlV} {Ls : List Nd} (h : RwNd W B s Ls) (i : Int) (hB : B ≤ W.heap.size) (rg : Tb W) : Calls Tryd.prog 17 #[s.v, nv i] W fun e W' => ∃ v, e = .returned v ∧ ∃ r : SlV, v = r.v ∧ SlN W' W'.heap.size r ((forkL (trAs Ls) i).map Prod.snd) ∧ Below W.heap.size W W' := by
  have h := h.more hB
  refine calls_cg (n := 46) Tryd.func17 rfl Tryd.ntmps17 (by simp) ?_
  show CG _ _ _ [(0, s.v), (1, nv i)] _ _
  have u := Below.refl W.heap.size W
  have tl := trAs_le Ls
  have lvd : leavesA (trAs Ls) = ((trAs Ls).length + 1) / 2 := rfl
  refine cg_seq ?_
  refine cg_region ?_
  refine zA rfl rfl rfl rfl rfl ?_
  refine lg_nil ?_
  refine nx (zk3 0 1 4 rfl rfl rfl fn) ?_
  refine cg_seq ?_
  refine cg_region ?_
  refine zM rfl rfl rfl rfl rfl ?_
  refine lg_callw (want_none (by rfl)) (as_any h (by omega)) (by kernel_rfl) rfl rfl rfl (by decide) ?_
  rintro _ w1 ⟨s1, rfl, m1, hw1⟩
  have zw1 := hw1.size
  have tl1 := trAs_le Ls
  refine zA rfl rfl rfl rfl rfl ?_
  refine lg_nil ?_
  refine nx (zk3 1 4 5 rfl rfl rfl fn) ?_
  refine cg_seq ?_
  refine cg_seq ?_
  refine cg_region ?_
  refine zM rfl rfl rfl rfl rfl ?_
  by_cases c2 : i < 0
  · refine za rfl (yb (decide_eq_true c2) (yi_lss rfl rfl rfl)) rfl rfl ?_
    refine zM rfl rfl rfl rfl rfl ?_
    refine zf 13 rfl (by kernel_rfl) rfl rfl rfl ?_
    refine zf 13 rfl (by kernel_rfl) rfl rfl rfl ?_
    refine zf 13 rfl (by kernel_rfl) rfl rfl rfl ?_
    refine zf 13 rfl (by kernel_rfl) rfl rfl rfl ?_
    refine za rfl (y_pick true rfl rfl rfl) rfl rfl ?_
    refine lg_nil ?_
    refine nx (zk3 1 4 5 rfl rfl rfl (zk1 18 rfl fn)) ?_
    refine cg_ct rfl ?_
    refine cg_seq ?_
    refine cg_region ?_
    refine zA rfl rfl rfl rfl rfl ?_
    refine lg_nil ?_
    refine nx (zk3 1 5 4 rfl rfl rfl fn) ?_
    refine cg_ret ?_
    refine eg_seq_ret ?_
    have u := u.trans (hw1.mono u.size)
    exact eg_ret_tmp rfl rfl ⟨_, rfl, nilS, rfl, (by rw [fork_no (fun q => by omega)]; exact SlN.nil _ _), u⟩
  · refine za rfl (yb (decide_eq_false c2) (yi_lss rfl rfl rfl)) rfl rfl ?_
    refine zM rfl rfl rfl rfl rfl ?_
    refine zt 13 rfl (by kernel_rfl) rfl (y_move rfl rfl) rfl rfl ?_
    refine zt 13 rfl (by kernel_rfl) rfl (y_move rfl rfl) rfl rfl ?_
    refine lg_callw (want_t (dj := 13) (by rfl) (by kernel_rfl) rfl) ((by have z := rleavesT_any (m1.more (B' := w1.heap.size) (by omega)) (Nat.le_refl _); rwa [trAs_as] at z)) (by kernel_rfl) rfl rfl rfl (by decide) ?_
    rintro _ w3 ⟨rfl, hw3⟩
    have zw3 := hw3.size
    by_cases c4 : ((leavesA (trAs Ls) : Nat) : Int) ≤ i
    · refine zt 13 rfl (by kernel_rfl) rfl (yb (decide_eq_true c4) (yi_geq rfl rfl rfl)) rfl rfl ?_
      refine za rfl (y_pick false rfl rfl rfl) rfl rfl ?_
      refine lg_nil ?_
      refine nx (zk3 1 4 5 rfl rfl rfl (zk1 18 rfl fn)) ?_
      refine cg_ct rfl ?_
      refine cg_seq ?_
      refine cg_region ?_
      refine zA rfl rfl rfl rfl rfl ?_
      refine lg_nil ?_
      refine nx (zk3 1 5 4 rfl rfl rfl fn) ?_
      refine cg_ret ?_
      refine eg_seq_ret ?_
      have u := u.trans (hw1.mono u.size)
      have u := u.trans (hw3.mono u.size)
      exact eg_ret_tmp rfl rfl ⟨_, rfl, nilS, rfl, (by rw [fork_no (fun q => by omega)]; exact SlN.nil _ _), u⟩
    · have hN : isN (2 * i) ((trAs Ls).length : Int) := isN_of (trAs_is Ls) (by omega) (by omega)
      have hxs := fork_yes (a := trAs Ls) (i := i) ⟨by omega, by omega⟩
      refine zt 13 rfl (by kernel_rfl) rfl (yb (decide_eq_false c4) (yi_geq rfl rfl rfl)) rfl rfl ?_
      refine za rfl (y_pick false rfl rfl rfl) rfl rfl ?_
      refine lg_nil ?_
      refine nx (zk3 1 4 5 rfl rfl rfl (zk1 18 rfl fn)) ?_
      refine cg_cf rfl ?_
      refine cg_skip ?_
      refine nx (zk3 1 4 5 rfl rfl rfl fn) ?_
      refine cg_seq ?_
      refine cg_region ?_
      refine zM rfl rfl rfl rfl rfl ?_
      refine za rfl (yi_mul rfl rfl rfl (by omega) (by omega)) rfl rfl ?_
      refine zM rfl rfl rfl rfl rfl ?_
      have m1 := m1.below (hw3.mono (by omega))
      refine za rfl (y_lenM (el := 36) m1.len (by kernel_rfl) rfl rfl) rfl rfl ?_
      have u := u.trans (hw1.mono u.size)
      have u := u.trans (hw3.mono u.size)
      refine lg_callw (want_none (by rfl)) (rcopathF (2 * i) ((trAs Ls).length : Int) _ (rg.up u)) (by kernel_rfl) rfl rfl rfl (by decide) ?_
      rintro _ w5 ⟨s5, rfl, m5, f5, hw5⟩
      have zw5 := hw5.size
      refine zA rfl rfl rfl rfl rfl ?_
      refine lg_nil ?_
      refine nx (zk3 4 5 6 rfl rfl rfl fn) ?_
      refine cg_seq ?_
      refine cg_region ?_
      refine zA rfl rfl rfl rfl rfl ?_
      refine lg_nil ?_
      refine nx (zk3 4 5 6 rfl rfl rfl (zk1 7 rfl fn)) ?_
      refine cg_seq ?_
      refine cg_seq ?_
      refine cg_region ?_
      refine zA rfl rfl rfl rfl rfl ?_
      refine lg_nil ?_
      refine nx (zk5 4 5 6 7 8 rfl rfl rfl rfl rfl fn) ?_
      refine cg_block ?_
      obtain ⟨C, hC⟩ : ∃ q, q = w5.heap.size := ⟨_, rfl⟩
      obtain ⟨wl, cl⟩ := wayP_len hN
      have dl := dirL (2 * i) ((trAs Ls).length : Int)
      have m1 := m1.below (hw5.mono (by omega))
      have u := u.trans (hw5.mono u.size)
      refine cg_loopE (fun t a v => ∃ (qr : SlV), Holds 46 [(5, s1.v), (6, s5.v), (7, qr.v), (8, nv ((t : Nat) : Int))] a ∧ RwNd v C s1 (trAs Ls) ∧ SlN v C s5 (copI (2 * i) ((trAs Ls).length : Int)) ∧ v.ownsRow C 3 1 qr.v ((forkF (trAs Ls) ((wayP (trAs Ls) i).take t)).map Prod.snd).length (((forkF (trAs Ls) ((wayP (trAs Ls) i).take t)).map Prod.snd).map (Value.int .i64)) ∧ Below W.heap.size W v ∧ C ≤ v.heap.size ∧ t ≤ (copI (2 * i) ((trAs Ls).length : Int)).length ∧ W.heap.size ≤ C) ((copI (2 * i) ((trAs Ls).length : Int)).length + 1) (fun a ha => ⟨nilS, ha.keep (fk rfl (fk rfl (fk rfl (fk rfl fn)))), (m1.more (by omega)), (m5.more (by omega)), (own_nilN _ _), u, (by omega), (Nat.zero_le _), (by omega)⟩) ?_
      rintro t a v ht ⟨qr, ha, hra, hc, g0, u, cC, htl, cW⟩
      refine cg_at ha ?_
      clear ha a
      have zv := u.size
      have q1 := hra.len
      have q2 := hra.cap
      have q3 := hc.len
      have q4 := hc.cap
      have fl : ((forkF (trAs Ls) ((wayP (trAs Ls) i).take t)).map Prod.snd).length ≤ 6 := by rw [List.length_map]; exact Nat.le_trans (List.length_filter_le _ _) (by rw [List.length_take]; omega)
      refine cg_seq ?_
      refine cg_seq ?_
      refine cg_region ?_
      refine zM rfl rfl rfl rfl rfl ?_
      refine zM rfl rfl rfl rfl rfl ?_
      refine za rfl (y_lenM (el := 3) hc.len (by kernel_rfl) rfl rfl) rfl rfl ?_
      by_cases c6 : ((t : Nat) : Int) < ((copI (2 * i) ((trAs Ls).length : Int)).length : Int)
      · refine za rfl (yb (decide_eq_true c6) (yi_lss rfl rfl rfl)) rfl rfl ?_
        refine lg_nil ?_
        refine nx (zk5 5 6 7 8 27 rfl rfl rfl rfl rfl fn) ?_
        refine cg_ct rfl ?_
        refine cg_skip ?_
        refine nx (zk3 5 6 7 rfl rfl rfl (zk1 8 rfl fn)) ?_
        refine cg_seq ?_
        refine cg_block ?_
        refine cg_seq ?_
        have htlt : t < (copI (2 * i) ((trAs Ls).length : Int)).length := by omega
        refine cg_region ?_
        refine zM rfl rfl rfl rfl rfl ?_
        refine zM rfl rfl rfl rfl rfl ?_
        refine zM rfl rfl rfl rfl rfl ?_
        refine za rfl (y_ixT (i := t) (iI := ((t : Nat) : Int)) hc (by omega) (by first | omega | (simp only [List.length_append, List.length_cons, List.length_nil]; omega)) rfl rfl rfl) rfl rfl ?_
        refine za rfl (y_ldT (i := t) hc (by first | omega | (simp only [List.length_append, List.length_cons, List.length_nil]; omega)) rfl rfl) rfl rfl ?_
        refine lg_callw (want_none (by rfl)) (rkeyBelow_any (trAs_is Ls) (cop_node hN (by omega)).1 (hra.more (B' := v.heap.size) (by omega)) (Nat.le_refl _) (rg.up u)) (by kernel_rfl) rfl rfl rfl (by decide) ?_
        rintro _ w7 ⟨s7, rfl, m7, hw7⟩
        have zw7 := hw7.size
        have rl7 := res_len (trAs_is Ls) ((copI (2 * i) ((trAs Ls).length : Int)).getD t 0)
        refine za rfl (y_lenM (el := 3) m7.len (by kernel_rfl) rfl rfl) rfl rfl ?_
        by_cases c8 : 0 < ((resL (trAs Ls) ((copI (2 * i) ((trAs Ls).length : Int)).getD t 0)).length : Int)
        · refine za rfl (yb (decide_eq_true c8) (yi_gtr rfl rfl rfl)) rfl rfl ?_
          refine lg_nil ?_
          refine nx (zk5 5 6 7 8 37 rfl rfl rfl rfl rfl fn) ?_
          refine cg_ct rfl ?_
          refine cg_region ?_
          refine zM rfl rfl rfl rfl rfl ?_
          refine zM rfl rfl rfl rfl rfl ?_
          refine zM rfl rfl rfl rfl rfl ?_
          have hc := hc.below (hw7.mono (by omega))
          refine za rfl (y_ixT (i := t) (iI := ((t : Nat) : Int)) hc (by omega) (by first | omega | (simp only [List.length_append, List.length_cons, List.length_nil]; omega)) rfl rfl rfl) rfl rfl ?_
          refine za rfl (y_ldT (i := t) hc (by first | omega | (simp only [List.length_append, List.length_cons, List.length_nil]; omega)) rfl rfl) rfl rfl ?_
          refine lg_bslice (el := 3) (z := nv 0) (cs := #[nv ((copI (2 * i) ((trAs Ls).length : Int)).getD t 0)]) huIs (by kernel_rfl) (by decide) (by decide) rfl rfl (by kernel_rfl) rfl rfl (by decide) fun b9 w9 n9 => ?_
          have r9 := n9.row
          have k9 := n9.blk
          have z9 := n9.size
          have m9 : SlN w9 (b9 + 1) ⟨some ⟨b9, 0, none⟩, 1, 1⟩ [((copI (2 * i) ((trAs Ls).length : Int)).getD t 0)] := new_SlN (xs := [((copI (2 * i) ((trAs Ls).length : Int)).getD t 0)]) r9 rfl (of_decide_eq_true (by kernel_rfl))
          have og9 : w9.ownsRow b9 3 1 (.slice (some ⟨b9, 0, none⟩) 1 1) ([((copI (2 * i) ((trAs Ls).length : Int)).getD t 0)] : List Int).length (([((copI (2 * i) ((trAs Ls).length : Int)).getD t 0)] : List Int).map (Value.int .i64)) := new_ownN (xs := [((copI (2 * i) ((trAs Ls).length : Int)).getD t 0)]) n9 rfl (of_decide_eq_true (by kernel_rfl))
          have g0 := own_below g0 hw7
          have g0 := own_below g0 n9.below
          refine lg_appT g0 m9 (by first | omega | (simp only [List.length_cons, List.length_nil]; omega)) (by omega) (want_none (by rfl)) rfl rfl rfl rfl rfl (by decide) fun r10 w10 m10 g10 l10 z10 => ?_
          refine zA rfl rfl rfl rfl rfl ?_
          refine lg_nil ?_
          refine eg_block_norm ?_
          refine nx (zk3 5 6 8 rfl rfl rfl (zk1 7 rfl fn)) ?_
          refine cg_region ?_
          refine zM rfl rfl rfl rfl rfl ?_
          refine za rfl (yv (congrArg nv (show ((t : Nat) : Int) + 1 = ((t + 1 : Nat) : Int) by omega)) (yi_add rfl rfl rfl (by omega) (by omega))) rfl rfl ?_
          refine zA rfl rfl rfl rfl rfl ?_
          refine lg_nil ?_
          have hra := hra.below (hw7.mono (by omega))
          have hra := hra.below (n9.below.mono (by omega))
          have hra := hra.below (l10.mono (by omega))
          have hc := hc.below (n9.below.mono (by omega))
          have hc := hc.below (l10.mono (by omega))
          have u := u.trans (hw7.mono u.size)
          have u := u.trans (n9.below.mono u.size)
          have u := u.trans (l10.mono (by omega))
          exact fun a ha => (show t < ((copI (2 * i) ((trAs Ls).length : Int)).length + 1) ∧ _ from ⟨(by omega), r10, ha.keep (fk rfl (fk rfl (fk rfl (fk rfl fn)))), hra, hc, (own_castN g10 (by rw [(wayP_at hN (show t < (dirI (2 * i) ((trAs Ls).length : Int)).length by omega)), forkF_yes (p := ((dirI (2 * i) ((trAs Ls).length : Int)).getD t 0, (copI (2 * i) ((trAs Ls).length : Int)).getD t 0)) (res_some.1 c8), List.map_append]; rfl)), u, (by omega), (by omega), cW⟩)
        · refine za rfl (yb (decide_eq_false c8) (yi_gtr rfl rfl rfl)) rfl rfl ?_
          refine lg_nil ?_
          refine nx (zk5 5 6 7 8 37 rfl rfl rfl rfl rfl fn) ?_
          refine cg_cf rfl ?_
          refine cg_skip ?_
          refine eg_block_norm ?_
          refine nx (zk3 5 6 7 rfl rfl rfl (zk1 8 rfl fn)) ?_
          refine cg_region ?_
          refine zM rfl rfl rfl rfl rfl ?_
          refine za rfl (yv (congrArg nv (show ((t : Nat) : Int) + 1 = ((t + 1 : Nat) : Int) by omega)) (yi_add rfl rfl rfl (by omega) (by omega))) rfl rfl ?_
          refine zA rfl rfl rfl rfl rfl ?_
          refine lg_nil ?_
          have g0 := own_below g0 hw7
          have hra := hra.below (hw7.mono (by omega))
          have hc := hc.below (hw7.mono (by omega))
          have u := u.trans (hw7.mono u.size)
          exact fun a ha => (show t < ((copI (2 * i) ((trAs Ls).length : Int)).length + 1) ∧ _ from ⟨(by omega), qr, ha.keep (fk rfl (fk rfl (fk rfl (fk rfl fn)))), hra, hc, (own_castN g0 (by rw [(wayP_at hN (show t < (dirI (2 * i) ((trAs Ls).length : Int)).length by omega)), forkF_no (p := ((dirI (2 * i) ((trAs Ls).length : Int)).getD t 0, (copI (2 * i) ((trAs Ls).length : Int)).getD t 0)) (fun q => c8 (res_some.2 q))])), u, (by omega), (by omega), cW⟩)
      · refine za rfl (yb (decide_eq_false c6) (yi_lss rfl rfl rfl)) rfl rfl ?_
        refine lg_nil ?_
        refine nx (zk5 5 6 7 8 27 rfl rfl rfl rfl rfl fn) ?_
        refine cg_cf rfl ?_
        refine cg_exit ?_
        refine eg_seq_exit ?_
        refine eg_seq_exit ?_
        refine eg_block_exit ?_
        refine nx (zk1 7 rfl fn) ?_
        refine cg_seq ?_
        refine cg_region ?_
        refine zM rfl rfl rfl rfl rfl ?_
        refine zA rfl rfl rfl rfl rfl ?_
        refine lg_nil ?_
        refine nx (zk1 4 rfl fn) ?_
        refine cg_ret ?_
        obtain rfl : t = (copI (2 * i) ((trAs Ls).length : Int)).length := by omega
        exact eg_ret_tmp rfl rfl ⟨_, rfl, _, rfl, (by rw [hxs]; exact own_num (own_castN g0 (by rw [List.take_of_length_le (by omega)]))), u⟩
end Go.Proofs.YtjcnfmmekpiliaaDoor
