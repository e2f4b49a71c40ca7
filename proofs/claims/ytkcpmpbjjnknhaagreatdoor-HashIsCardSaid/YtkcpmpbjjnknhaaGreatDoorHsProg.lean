/-
  The hash of a tree: what the program answers.
-/
import Derived.Test.YtkcpmpbjjnknhaaGreatDoorHsWk
import Derived.Test.YtkcpmpbjjnknhaaGreatDoorTrRef
import Derived.Test.YtkcpmpbjjnknhaaGreatDoorKitP
namespace Go.Proofs.YtkcpmpbjjnknhaaGreatDoor
open Go.ChangeShapes Go.WideShapes Go.ChangeAt Go.RowKit
set_option linter.unusedVariables false

theorem sumS_any {W : World} {B : Nat} {s : SlV} {xs : List Int} (h : Sl W B s xs) (hB : B ≤ W.heap.size) (hl : xs.length ≤ 100000) (tt : Tt W) : Calls Tryz.prog 30 #[s.v] W fun e W' => ∃ v, e = .returned v ∧ ∃ r : SlV, v = r.v ∧ Hs W' r (sumL xs) ∧ Below W.heap.size W W' := by
  obtain ⟨tg, r⟩ := tt.k
  refine (sumT_any s.A s.m s.c xs W r (h.2.2.more hB) h.1 (by have := h.len; omega)).mono ?_
  rintro e W' ⟨v, rfl, hs⟩
  exact ⟨v, rfl, Hs.of hs⟩
theorem rsumS_any {W : World} {B : Nat} {s : SlV} {xs : List Int} (h : Sl W B s xs) (hB : B ≤ W.heap.size) (hl : xs.length ≤ 100000) : Calls Tryz.prog 67 #[s.v] W fun e W' => ∃ v, e = .returned v ∧ ∃ r : SlV, v = r.v ∧ Hs W' r (sumL xs) ∧ Below W.heap.size W W' := by
  refine (rsumT_any s.A s.m s.c xs W (h.2.2.more hB) (by have := h.len; omega)).mono ?_
  rintro e W' ⟨v, rfl, hs⟩
  exact ⟨v, rfl, Hs.of hs⟩
/-- What is summed up of a node of a tree. -/
def toldL (t : List Nd) (x : Int) : List Int := if x % 2 = 0 then ofLeafO (x / 2) (atN t x.toNat) else ofInnerO (atN t x.toNat) (hsL t (leftI x t.length)) (hsL t (rightI x t.length))
theorem hs_told {t : List Nd} {x : Int} (h : isN x (t.length : Int)) : hsL t x = sumL (toldL t x) := hs_eq h
theorem told_len (t : List Nd) (x : Int) : (toldL t x).length ≤ 10000 := by
  unfold toldL
  split
  · have := ofLeafO_le (x / 2) (atN t x.toNat)
    omega
  · have := ofInnerO_le (atN t x.toNat) (hsL t (leftI x t.length)) (hsL t (rightI x t.length))
    rw [hsL_len, hsL_len] at this
    omega
/-- What a call that makes a node's hash answers, and leaves. -/
def OfP (t : List Nd) (s : SlV) (y : Int) : Prop := ∀ (W : World) (B b : Nat), B ≤ b → RwNd W B s t → OMap W b t → Tt W →
  Calls Tryz.prog 35 #[.map (some b), s.v, nv y] W fun e W' => ∃ v, e = .returned v ∧ ∃ r : SlV, v = r.v ∧ Hs W' r (hsL t y) ∧ OMap W' b t ∧ Alt W W' b
theorem toldH_any {Ls : List Nd} {s : SlV} {x : Int} (hx : isN x (Ls.length : Int)) (ih : ∀ y, isN y (Ls.length : Int) → lvl y = lvl x - 1 → OfP Ls s y) {W : World} {B b : Nat} (hBb : B ≤ b) (h : RwNd W B s Ls) (mp : OMap W b Ls) (rg : Tt W) :
    Calls Tryz.prog 65 #[.map (some b), s.v, nv x] W fun e W' => ∃ v, e = .returned v ∧ ∃ r : SlV, v = r.v ∧ Sl W' W'.heap.size r (toldL Ls x) ∧ OMap W' b Ls ∧ Alt W W' b := by
  refine calls_cg (n := 40) Tryz.func65 rfl Tryz.ntmps65 (by simp) ?_
  show CG _ _ _ [(0, .map (some b)), (1, s.v), (2, nv x)] _ _
  have hlt := mp.lt
  have al : Alt W W b := Kept.refl _ _
  have lex := hx.le
  have q1 := h.len
  have q2 := h.cap
  refine cg_seq ?_
  refine cg_region ?_
  refine zA rfl rfl rfl rfl rfl ?_
  refine lg_nil ?_
  refine nx (zk3 0 1 2 rfl rfl rfl (zk1 6 rfl fn)) ?_
  refine cg_seq ?_
  refine cg_seq ?_
  refine cg_region ?_
  refine zM rfl rfl rfl rfl rfl ?_
  refine za rfl (y_call (level_any x _ rg.b) (by kernel_rfl) rfl rfl) rfl rfl ?_
  by_cases c1 : (lvl x) = 0
  · have he : x % 2 = 0 := (even_lvl hx).2 c1
    refine za rfl (yb (decide_eq_true c1) (yi_eql rfl rfl rfl)) rfl rfl ?_
    refine lg_nil ?_
    refine nx (zk5 0 1 2 6 11 rfl rfl rfl rfl rfl fn) ?_
    refine cg_ct rfl ?_
    refine cg_seq ?_
    refine cg_region ?_
    refine zM rfl rfl rfl rfl rfl ?_
    refine za rfl (yi_quo rfl rfl rfl (by omega) (by omega) (by omega)) rfl rfl ?_
    refine zM rfl rfl rfl rfl rfl ?_
    refine zM rfl rfl rfl rfl rfl ?_
    obtain ⟨eb2, eo2, el2, eL2, eA2, eB2, eg2, eh2, ec2⟩ := h.at (x.toNat) (by have := h.len; omega)
    refine za rfl (y_ixR (s := s) (el := 40) (k := 8) (i := x.toNat) (iI := x) eA2 (by kernel_rfl) (by kernel_rfl) (by omega) (by have := h.len; omega) rfl rfl rfl) rfl rfl ?_
    refine za rfl (y_loadC (cs := el2.cs eL2) ec2 (by kernel_rfl) (by kernel_rfl) rfl rfl) rfl rfl ?_
    refine lg_callw (want_none (by rfl)) (ofLeafN_any (x / 2) (eh2.more (B' := W.heap.size) (by omega)) (Nat.le_refl _)) (by kernel_rfl) rfl rfl rfl (by decide) ?_
    rintro _ w3 ⟨r3, rfl, m3, hw3⟩
    have zw3 := hw3.size
    have lp3 := ofLeafO_le (x / 2) eL2
    refine zA rfl rfl rfl rfl rfl ?_
    refine lg_nil ?_
    refine nx (zk3 0 1 2 rfl rfl rfl (zk1 6 rfl fn)) ?_
    refine cg_ret ?_
    refine eg_seq_ret ?_
    have mp := mp.below hw3
    have al := Alt.grow al hw3
    exact eg_ret_tmp rfl rfl ⟨_, rfl, _, rfl, (by rw [toldL, if_pos he, atN_some eg2]; exact (m3.more (B' := w3.heap.size) (by omega))), mp, al⟩
  · have ho : ¬ x % 2 = 0 := fun q => c1 ((even_lvl hx).1 q)
    refine za rfl (yb (decide_eq_false c1) (yi_eql rfl rfl rfl)) rfl rfl ?_
    refine lg_nil ?_
    refine nx (zk5 0 1 2 6 11 rfl rfl rfl rfl rfl fn) ?_
    refine cg_cf rfl ?_
    refine cg_skip ?_
    refine nx (zk3 0 1 2 rfl rfl rfl (zk1 6 rfl fn)) ?_
    refine cg_seq ?_
    refine cg_region ?_
    refine zM rfl rfl rfl rfl rfl ?_
    refine zM rfl rfl rfl rfl rfl ?_
    refine za rfl (y_lenM (el := 40) h.len (by kernel_rfl) rfl rfl) rfl rfl ?_
    refine za rfl (y_call (left_any x (Ls.length : Int) _ rg.b) (by kernel_rfl) rfl rfl) rfl rfl ?_
    refine zM rfl rfl rfl rfl rfl ?_
    refine zM rfl rfl rfl rfl rfl ?_
    refine za rfl (y_lenM (el := 40) h.len (by kernel_rfl) rfl rfl) rfl rfl ?_
    refine za rfl (y_call (right_any x (Ls.length : Int) _ rg.b) (by kernel_rfl) rfl rfl) rfl rfl ?_
    refine zA rfl rfl rfl rfl rfl ?_
    refine zA rfl rfl rfl rfl rfl ?_
    refine lg_nil ?_
    refine nx (zk5 0 1 2 6 7 rfl rfl rfl rfl rfl (zk1 8 rfl fn)) ?_
    refine cg_seq ?_
    obtain ⟨eb4, eo4, el4, eL4, eA4, eB4, eg4, eh4, ec4⟩ := h.at (x.toNat) (by have := h.len; omega)
    have el14 : x.toNat < s.m := by have := h.len; omega
    have ub := Below.refl B W
    refine cg_heldS (fun q => Below B W q) (by kernel_rfl) (fun W5 eW5 => ?_) fun W5 eW5 => ?_
    · exact (below_drew _ _ eW5).mono (by omega)
    have dW5 := below_drew _ _ eW5
    have zW5 := size_drew _ _ eW5
    clear eW5
    have ub := ub.trans (dW5.mono (by omega))
    refine hgs_take 0 (by rfl) (want_none (by rfl)) (by rfl) rfl (by decide) (by kernel_rfl) (by kernel_rfl) (by kernel_rfl) (fun _ _ _ h => h) ub (fun q hq => y_move rfl rfl) ?_
    refine hgs_take 1 (by rfl) (want_none (by rfl)) (by rfl) rfl (by decide) (by kernel_rfl) (by kernel_rfl) (by kernel_rfl) (fun _ _ _ h => h) ub (fun q hq => y_move rfl rfl) ?_
    refine hgs_take 2 (by rfl) (want_none (by rfl)) (by rfl) rfl (by decide) (by kernel_rfl) (by kernel_rfl) (by kernel_rfl) (fun _ _ _ h => h) ub (fun q hq => y_ixR (s := s) (el := 40) (k := 8) (i := x.toNat) (iI := x) eA4 (by kernel_rfl) (by kernel_rfl) (by omega) (by have := el14; omega) rfl rfl rfl) ?_
    refine hgs_take 3 (by rfl) (want_none (by rfl)) (by rfl) rfl (by decide) (by kernel_rfl) (by kernel_rfl) (by kernel_rfl) (fun _ _ _ h => h) ub (fun q hq => y_loadC (cs := el4.cs eL4) (fun k u e => (hq.cell (p := ⟨eb4, _, none⟩) (show eb4 < _ by omega)).trans (ec4 k u e)) (by kernel_rfl) (by kernel_rfl) rfl rfl) ?_
    refine hgs_take 4 (by rfl) (want_none (by rfl)) (by rfl) rfl (by decide) (by kernel_rfl) (by kernel_rfl) (by kernel_rfl) (fun _ _ _ h => h) ub (fun q hq => y_move rfl rfl) ?_
    refine hgs_take 5 (by rfl) (want_none (by rfl)) (by rfl) rfl (by decide) (by kernel_rfl) (by kernel_rfl) (by kernel_rfl) (fun _ _ _ h => h) ub (fun q hq => y_move rfl rfl) ?_
    refine hgs_take 6 (by rfl) (want_none (by rfl)) (by rfl) rfl (by decide) (by kernel_rfl) (by kernel_rfl) (by kernel_rfl) (fun _ _ _ h => h) ub (fun q hq => y_move rfl rfl) ?_
    refine hgs_take 8 (by rfl) (want_none (by rfl)) (by rfl) rfl (by decide) (by kernel_rfl) (by kernel_rfl) (by kernel_rfl) (fun _ _ _ h => h) ub (fun q hq => y_move rfl rfl) ?_
    refine hgs_take 9 (by rfl) (want_none (by rfl)) (by rfl) rfl (by decide) (by kernel_rfl) (by kernel_rfl) (by kernel_rfl) (fun _ _ _ h => h) ub (fun q hq => y_move rfl rfl) ?_
    refine hgs_take 10 (by rfl) (want_none (by rfl)) (by rfl) rfl (by decide) (by kernel_rfl) (by kernel_rfl) (by kernel_rfl) (fun _ _ _ h => h) ub (fun q hq => y_move rfl rfl) ?_
    have mp := mp.below dW5
    have h := h.below (dW5.mono (by omega))
    have rg := Tt.up dW5 rg
    refine hgs_one 7 (by rfl) (by kernel_rfl) (want_none (by rfl)) ?_
    have mo7 := mp
    refine lg_callw (want_none (by rfl)) (ih _ (odd_kids hx ho).1.1 (odd_kids hx ho).1.2 _ _ _ hBb h mo7 rg) (by kernel_rfl) rfl rfl rfl (by decide) ?_
    rintro _ w8 ⟨r8, rfl, m8, n8, hw8⟩
    have zw8 := hw8.size
    have mp := n8
    have hl8 := hsL_len Ls (leftI x (Ls.length : Int))
    have ub := ub.trans (Alt.below hw8 (by omega) (by omega))
    refine hgs_next ub ?_
    have h := h.below (Alt.below hw8 (by omega) (by omega))
    have rg := rg.alt mo7 hw8
    refine hgs_one 11 (by rfl) (by kernel_rfl) (want_none (by rfl)) ?_
    have mo10 := mp
    refine lg_callw (want_none (by rfl)) (ih _ (odd_kids hx ho).2.1 (odd_kids hx ho).2.2 _ _ _ hBb h mo10 rg) (by kernel_rfl) rfl rfl rfl (by decide) ?_
    rintro _ w11 ⟨r11, rfl, m11, n11, hw11⟩
    have zw11 := hw11.size
    have mp := n11
    have hl11 := hsL_len Ls (rightI x (Ls.length : Int))
    have ub := ub.trans (Alt.below hw11 (by omega) (by omega))
    refine hgs_next ub ?_
    have eh4 := eh4.below (dW5.mono (by omega))
    have eh4 := eh4.below (Alt.below hw8 (by omega) (by omega))
    have eh4 := eh4.below (Alt.below hw11 (by omega) (by omega))
    have m8 := m8.alt mo10 hw11
    refine hgs_one 12 (by rfl) (by kernel_rfl) (want_none (by rfl)) ?_
    refine lg_callw (want_none (by rfl)) (ofInnerN_any (eh4.more (B' := w11.heap.size) (by omega)) (m8.1.more (B' := w11.heap.size) (by omega)) (m11.1.more (B' := w11.heap.size) (by omega)) (Nat.le_refl _) (by first | omega | (simp only [List.length_append, List.length_cons, List.length_nil, numOct_length, flagOct_length]; omega)) (by first | omega | (simp only [List.length_append, List.length_cons, List.length_nil, numOct_length, flagOct_length]; omega))) (by kernel_rfl) rfl rfl rfl (by decide) ?_
    rintro _ w12 ⟨r12, rfl, m12, hw12⟩
    have zw12 := hw12.size
    have lp12 := ofInnerO_le eL4 (hsL Ls (leftI x (Ls.length : Int))) (hsL Ls (rightI x (Ls.length : Int)))
    have ub := ub.trans (hw12.mono (by omega))
    refine hgs_next ub ?_
    refine hgs_take 13 (by rfl) (want_none (by rfl)) (by rfl) rfl (by decide) (by kernel_rfl) (by kernel_rfl) (by kernel_rfl) (fun _ _ _ h => h) ub (fun q hq => y_assign rfl rfl) ?_
    refine hgs_done (by kernel_rfl) ?_
    refine nx (zk1 6 rfl fn) ?_
    refine cg_ret ?_
    have mp := mp.below hw12
    have al := Alt.grow al dW5
    have al := al.trans hw8
    have al := al.trans hw11
    have al := Alt.grow al hw12
    exact eg_ret_tmp rfl rfl ⟨_, rfl, _, rfl, (by rw [toldL, if_neg ho, atN_some eg4]; exact (m12.more (B' := w12.heap.size) (by omega))), mp, al⟩
theorem of_step {Ls : List Nd} {s : SlV} {x : Int} (hx : isN x (Ls.length : Int)) (ih : ∀ y, isN y (Ls.length : Int) → lvl y = lvl x - 1 → OfP Ls s y) : OfP Ls s x := by
  intro W B b hBb h mp rg
  refine calls_cg (n := 27) Tryz.func35 rfl Tryz.ntmps35 (by simp) ?_
  show CG _ _ _ [(0, .map (some b)), (1, s.v), (2, nv x)] _ _
  have hlt := mp.lt
  have al : Alt W W b := Kept.refl _ _
  have lex := hx.le
  have q1 := h.len
  have q2 := h.cap
  refine cg_seq ?_
  refine cg_region ?_
  refine zA rfl rfl rfl rfl rfl ?_
  refine lg_nil ?_
  refine nx (zk3 0 1 2 rfl rfl rfl (zk1 6 rfl fn)) ?_
  refine cg_seq ?_
  refine cg_seq ?_
  refine cg_region ?_
  refine zM rfl rfl rfl rfl rfl ?_
  refine zM rfl rfl rfl rfl rfl ?_
  rcases mp.look hx with lk1 | ⟨ls1, lm1, lk1⟩
  · refine za rfl (y_look lk1 rfl rfl rfl) rfl rfl ?_
    refine zM rfl rfl rfl rfl rfl ?_
    refine za rfl (y_extract rfl rfl rfl) rfl rfl ?_
    refine za rfl (y_extract rfl rfl rfl) rfl rfl ?_
    refine zA rfl rfl rfl rfl rfl ?_
    refine zA rfl rfl rfl rfl rfl ?_
    refine lg_nil ?_
    refine nx (zk5 0 1 2 6 7 rfl rfl rfl rfl rfl (zk1 8 rfl fn)) ?_
    refine cg_seq ?_
    refine cg_region ?_
    refine zM rfl rfl rfl rfl rfl ?_
    refine lg_nil ?_
    refine nx (zk5 0 1 2 6 7 rfl rfl rfl rfl rfl (zk1 16 rfl fn)) ?_
    refine cg_cf rfl ?_
    refine cg_skip ?_
    refine nx (zk3 0 1 2 rfl rfl rfl (zk1 6 rfl fn)) ?_
    refine cg_seq ?_
    refine cg_region ?_
    refine zM rfl rfl rfl rfl rfl ?_
    refine zM rfl rfl rfl rfl rfl ?_
    refine zM rfl rfl rfl rfl rfl ?_
    have mo3 := mp
    refine lg_callw (want_none (by rfl)) (toldH_any hx ih hBb h mo3 rg) (by kernel_rfl) rfl rfl rfl (by decide) ?_
    rintro _ w4 ⟨r4, rfl, m4, n4, hw4⟩
    have zw4 := hw4.size
    have mp := n4
    have tl := told_len Ls x
    have rg := rg.alt mo3 hw4
    refine lg_callw (want_none (by rfl)) (sumS_any (m4.more (B' := w4.heap.size) (by omega)) (Nat.le_refl _) (by first | omega | (simp only [List.length_append, List.length_cons, List.length_nil, numOct_length, flagOct_length]; omega)) rg) (by kernel_rfl) rfl rfl rfl (by decide) ?_
    rintro _ w5 ⟨r5, rfl, m5, hw5⟩
    have zw5 := hw5.size
    refine zA rfl rfl rfl rfl rfl ?_
    refine lg_nil ?_
    refine nx (zk3 0 2 6 rfl rfl rfl (zk1 9 rfl fn)) ?_
    refine cg_seq ?_
    refine cg_region ?_
    refine zM rfl rfl rfl rfl rfl ?_
    refine zM rfl rfl rfl rfl rfl ?_
    refine zM rfl rfl rfl rfl rfl ?_
    have mp := mp.below hw5
    have mo6 := mp
    refine lg_putM (s := r5) mo6 hx ((hs_told hx).symm ▸ m5) (want_none (by rfl)) rfl rfl rfl rfl rfl fun w6 n6 a6 z6 => ?_
    have mp := n6
    refine lg_nil ?_
    refine nx (zk2 6 9 rfl rfl fn) ?_
    refine cg_seq ?_
    refine cg_region ?_
    refine zM rfl rfl rfl rfl rfl ?_
    refine zA rfl rfl rfl rfl rfl ?_
    refine lg_nil ?_
    refine nx (zk1 6 rfl fn) ?_
    refine cg_ret ?_
    have m5 := m5.alt mo6 a6
    have al := al.trans hw4
    have al := Alt.grow al hw5
    have al := al.trans a6
    exact eg_ret_tmp rfl rfl ⟨_, rfl, _, rfl, ((hs_told hx).symm ▸ m5), mp, al⟩
  · refine za rfl (y_look lk1 rfl rfl rfl) rfl rfl ?_
    refine zM rfl rfl rfl rfl rfl ?_
    refine za rfl (y_extract rfl rfl rfl) rfl rfl ?_
    refine za rfl (y_extract rfl rfl rfl) rfl rfl ?_
    refine zA rfl rfl rfl rfl rfl ?_
    refine zA rfl rfl rfl rfl rfl ?_
    refine lg_nil ?_
    refine nx (zk5 0 1 2 6 7 rfl rfl rfl rfl rfl (zk1 8 rfl fn)) ?_
    refine cg_seq ?_
    refine cg_region ?_
    refine zM rfl rfl rfl rfl rfl ?_
    refine lg_nil ?_
    refine nx (zk5 0 1 2 6 7 rfl rfl rfl rfl rfl (zk1 16 rfl fn)) ?_
    refine cg_ct rfl ?_
    refine cg_seq ?_
    refine cg_region ?_
    refine zM rfl rfl rfl rfl rfl ?_
    refine zA rfl rfl rfl rfl rfl ?_
    refine lg_nil ?_
    refine nx (zk3 0 1 2 rfl rfl rfl (zk1 6 rfl fn)) ?_
    refine cg_ret ?_
    refine eg_seq_ret ?_
    exact eg_ret_tmp rfl rfl ⟨_, rfl, _, rfl, lm1, mp, al⟩
theorem of_all {Ls : List Nd} {s : SlV} : ∀ (n : Nat) (x : Int), isN x (Ls.length : Int) → lvl x < n → OfP Ls s x
  | 0, x, hx, hl => by
    have := (kids hx).1
    omega
  | n + 1, x, hx, hl => of_step hx fun y hy e => of_all n y hy (by omega)
theorem ofM_any {Ls : List Nd} {s : SlV} {x : Int} (hx : isN x (Ls.length : Int)) : OfP Ls s x := of_all 7 x hx (by have := (kids hx).2.1; omega)
theorem of_any {W : World} {B : Nat} {s : SlV} {Ls : List Nd} (h : RwNd W B s Ls) (x : Int) (hB : B ≤ W.heap.size) (rg : Tt W) : Calls Tryz.prog 11 #[s.v, nv x] W fun e W' => ∃ v, e = .returned v ∧ ∃ r : SlV, v = r.v ∧ Sl W' W'.heap.size r (ofH (trAs Ls) x) ∧ Below W.heap.size W W' := by
  have h := h.more hB
  refine calls_cg (n := 19) Tryz.func11 rfl Tryz.ntmps11 (by simp) ?_
  show CG _ _ _ [(0, s.v), (1, nv x)] _ _
  have u := Below.refl W.heap.size W
  have q1 := h.len
  have q2 := h.cap
  refine cg_seq ?_
  refine cg_region ?_
  refine zA rfl rfl rfl rfl rfl ?_
  refine lg_nil ?_
  refine nx (zk3 0 1 4 rfl rfl rfl fn) ?_
  refine cg_seq ?_
  refine cg_seq ?_
  refine cg_region ?_
  refine zM rfl rfl rfl rfl rfl ?_
  by_cases c1 : trIs Ls
  · have hti := c1
    have hta := trAs_ok hti
    refine lg_callw (want_none (by rfl)) (sane_any (h.more (B' := W.heap.size) (by omega)) (Nat.le_refl _)) (by kernel_rfl) rfl rfl rfl (by decide) ?_
    rintro u2 w2 ⟨e2, hw2⟩
    have zw2 := hw2.size
    obtain rfl : u2 = .bool true := e2.trans (congrArg Value.bool (decide_eq_true c1))
    refine za rfl (y_bnot rfl rfl) rfl rfl ?_
    refine zM rfl rfl rfl rfl rfl ?_
    refine zt 8 rfl (by kernel_rfl) rfl (y_move rfl rfl) rfl rfl ?_
    refine zt 8 rfl (by kernel_rfl) rfl (y_move rfl rfl) rfl rfl ?_
    have h := h.below (hw2.mono (by omega))
    refine zt 8 rfl (by kernel_rfl) rfl (y_lenM (el := 40) h.len (by kernel_rfl) rfl rfl) rfl rfl ?_
    by_cases c3 : isN x (Ls.length : Int)
    · have hx : isN x (Ls.length : Int) := c3
      refine zt 8 rfl (by kernel_rfl) rfl (yb (decide_eq_true c3) (y_call (isL_any x (Ls.length : Int) _) (by kernel_rfl) rfl rfl)) rfl rfl ?_
      refine zt 8 rfl (by kernel_rfl) rfl (y_bnot rfl rfl) rfl rfl ?_
      refine za rfl (y_pick false rfl rfl rfl) rfl rfl ?_
      refine lg_nil ?_
      refine nx (zk3 0 1 4 rfl rfl rfl (zk1 14 rfl fn)) ?_
      refine cg_cf rfl ?_
      refine cg_skip ?_
      refine nx (zk3 0 1 4 rfl rfl rfl fn) ?_
      refine cg_seq ?_
      refine cg_region ?_
      refine lg_mkM (want_none (by rfl)) rfl rfl (by decide) fun b4 w4 k4 z4 m4 l4 => ?_
      have mp := m4 Ls
      refine zM rfl rfl rfl rfl rfl ?_
      refine zM rfl rfl rfl rfl rfl ?_
      have h := h.below (l4.mono (by omega))
      have u := u.trans (hw2.mono u.size)
      have u := u.trans (l4.mono u.size)
      have mo6 := mp
      refine lg_callw (want_none (by rfl)) (ofM_any hx _ _ _ (by omega) h mo6 (Tt.up u rg)) (by kernel_rfl) rfl rfl rfl (by decide) ?_
      rintro _ w7 ⟨r7, rfl, m7, n7, hw7⟩
      have zw7 := hw7.size
      have mp := n7
      refine zA rfl rfl rfl rfl rfl ?_
      refine lg_nil ?_
      refine nx (zk1 4 rfl fn) ?_
      refine cg_ret ?_
      have u := u.trans (Alt.below hw7 (by omega) (by omega))
      exact eg_ret_tmp rfl rfl ⟨_, rfl, _, rfl, (by rw [hta, ofH_yes hx]; exact (m7.1.more (B' := w7.heap.size) (by omega))), u⟩
    · refine zt 8 rfl (by kernel_rfl) rfl (yb (decide_eq_false c3) (y_call (isL_any x (Ls.length : Int) _) (by kernel_rfl) rfl rfl)) rfl rfl ?_
      refine zt 8 rfl (by kernel_rfl) rfl (y_bnot rfl rfl) rfl rfl ?_
      refine za rfl (y_pick false rfl rfl rfl) rfl rfl ?_
      refine lg_nil ?_
      refine nx (zk3 0 1 4 rfl rfl rfl (zk1 14 rfl fn)) ?_
      refine cg_ct rfl ?_
      refine cg_seq ?_
      refine cg_region ?_
      refine zA rfl rfl rfl rfl rfl ?_
      refine lg_nil ?_
      refine nx (zk3 0 1 4 rfl rfl rfl fn) ?_
      refine cg_ret ?_
      refine eg_seq_ret ?_
      have u := u.trans (hw2.mono u.size)
      exact eg_ret_tmp rfl rfl ⟨_, rfl, nilS, rfl, (by rw [hta, ofH_no c3]; exact Sl.nil _ _), u⟩
  · have hta := trAs_no c1
    refine lg_callw (want_none (by rfl)) (sane_any (h.more (B' := W.heap.size) (by omega)) (Nat.le_refl _)) (by kernel_rfl) rfl rfl rfl (by decide) ?_
    rintro u8 w8 ⟨e8, hw8⟩
    have zw8 := hw8.size
    obtain rfl : u8 = .bool false := e8.trans (congrArg Value.bool (decide_eq_false c1))
    refine za rfl (y_bnot rfl rfl) rfl rfl ?_
    refine zM rfl rfl rfl rfl rfl ?_
    refine zf 8 rfl (by kernel_rfl) rfl rfl rfl ?_
    refine zf 8 rfl (by kernel_rfl) rfl rfl rfl ?_
    refine zf 8 rfl (by kernel_rfl) rfl rfl rfl ?_
    refine zf 8 rfl (by kernel_rfl) rfl rfl rfl ?_
    refine zf 8 rfl (by kernel_rfl) rfl rfl rfl ?_
    refine za rfl (y_pick true rfl rfl rfl) rfl rfl ?_
    refine lg_nil ?_
    refine nx (zk3 0 1 4 rfl rfl rfl (zk1 14 rfl fn)) ?_
    refine cg_ct rfl ?_
    refine cg_seq ?_
    refine cg_region ?_
    refine zA rfl rfl rfl rfl rfl ?_
    refine lg_nil ?_
    refine nx (zk3 0 1 4 rfl rfl rfl fn) ?_
    refine cg_ret ?_
    refine eg_seq_ret ?_
    have u := u.trans (hw8.mono u.size)
    exact eg_ret_tmp rfl rfl ⟨_, rfl, nilS, rfl, (by rw [hta, ofH_no (fun q => by have := q.le; simp only [List.length_nil] at this; omega)]; exact Sl.nil _ _), u⟩
theorem all_any {W : World} {B : Nat} {s : SlV} {Ls : List Nd} (h : RwNd W B s Ls) (hB : B ≤ W.heap.size) (rg : Tt W) : Calls Tryz.prog 14 #[s.v] W fun e W' => ∃ v, e = .returned v ∧ ∃ r : SlV, v = r.v ∧ RwOc W' W'.heap.size r (allH (trAs Ls)) ∧ Below W.heap.size W W' := by
  have h := h.more hB
  refine calls_cg (n := 27) Tryz.func14 rfl Tryz.ntmps14 (by simp) ?_
  show CG _ _ _ [(0, s.v)] _ _
  have u := Below.refl W.heap.size W
  have q1 := h.len
  have q2 := h.cap
  refine cg_seq ?_
  refine cg_region ?_
  refine zA rfl rfl rfl rfl rfl ?_
  refine lg_nil ?_
  refine nx (zk2 0 2 rfl rfl fn) ?_
  refine cg_seq ?_
  refine cg_seq ?_
  refine cg_region ?_
  refine zM rfl rfl rfl rfl rfl ?_
  by_cases c1 : trIs Ls
  · have hti := c1
    have hta := trAs_ok hti
    have htl := trIs_le hti
    refine lg_callw (want_none (by rfl)) (sane_any (h.more (B' := W.heap.size) (by omega)) (Nat.le_refl _)) (by kernel_rfl) rfl rfl rfl (by decide) ?_
    rintro u2 w2 ⟨e2, hw2⟩
    have zw2 := hw2.size
    obtain rfl : u2 = .bool true := e2.trans (congrArg Value.bool (decide_eq_true c1))
    refine za rfl (y_bnot rfl rfl) rfl rfl ?_
    refine lg_nil ?_
    refine nx (zk3 0 2 8 rfl rfl rfl fn) ?_
    refine cg_cf rfl ?_
    refine cg_skip ?_
    refine nx (zk2 0 2 rfl rfl fn) ?_
    refine cg_seq ?_
    refine cg_region ?_
    refine lg_mkM (want_none (by rfl)) rfl rfl (by decide) fun b3 w3 k3 z3 m3 l3 => ?_
    have mp := m3 Ls
    refine zA rfl rfl rfl rfl rfl ?_
    refine lg_nil ?_
    refine nx (zk3 0 2 3 rfl rfl rfl fn) ?_
    refine cg_seq ?_
    refine cg_region ?_
    refine zM rfl rfl rfl rfl rfl ?_
    have h := h.below (hw2.mono (by omega))
    have h := h.below (l3.mono (by omega))
    refine za rfl (y_lenM (el := 40) h.len (by kernel_rfl) rfl rfl) rfl rfl ?_
    obtain ⟨bs5, hbs5⟩ : ∃ q, q = w3.heap.size := ⟨_, rfl⟩
    refine lg_mkOc (K := (Ls.length : Int)) Ls.length (want_none (by rfl)) (by omega) (by omega) rfl rfl rfl rfl (by decide) fun s4 w4 g4 l4 => ?_
    rw [← hbs5] at g4
    have z4 := l4.size
    refine zA rfl rfl rfl rfl rfl ?_
    refine lg_nil ?_
    refine nx (zk3 0 2 3 rfl rfl rfl (zk1 4 rfl fn)) ?_
    refine cg_seq ?_
    refine cg_seq ?_
    refine cg_region ?_
    refine zM rfl rfl rfl rfl rfl ?_
    have h := h.below (l4.mono (by omega))
    refine za rfl (y_lenM (el := 40) h.len (by kernel_rfl) rfl rfl) rfl rfl ?_
    refine zM rfl rfl rfl rfl rfl ?_
    refine lg_nil ?_
    refine nx (zk5 0 2 3 4 14 rfl rfl rfl rfl rfl (zk1 15 rfl fn)) ?_
    refine cg_block ?_
    obtain ⟨C, hC⟩ : ∃ q, q = w4.heap.size := ⟨_, rfl⟩
    have mp := mp.below l4
    have u := u.trans (hw2.mono u.size)
    have u := u.trans (l3.mono u.size)
    have u := u.trans (l4.mono u.size)
    refine cg_loopE (fun t a v => ∃ (qr : SlV), Holds 27 [(0, s.v), (3, .map (some b3)), (4, qr.v), (14, nv ((Ls.length : Nat) : Int)), (15, nv ((t : Nat) : Int))] a ∧ RwNd v W.heap.size s Ls ∧ OMap v b3 Ls ∧ OwnOc v bs5 qr.v (allN Ls t) ∧ Below W.heap.size W v ∧ C ≤ v.heap.size ∧ t ≤ Ls.length) (Ls.length + 1) (fun a ha => ⟨s4, ha.keep (fk rfl (fk rfl (fk rfl (fk rfl (fk rfl fn))))), h, mp, g4, u, (by omega), (Nat.zero_le _)⟩) ?_
    rintro t a v ht ⟨qr, ha, h, mp, g0, u, cC, tle⟩
    refine cg_at ha ?_
    clear ha a
    have zv := u.size
    have q1 := h.len
    have q2 := h.cap
    have ql := allN_len Ls t
    have hmlt := mp.lt
    refine cg_seq ?_
    refine cg_region ?_
    by_cases c6 : ((t : Nat) : Int) < ((Ls.length : Nat) : Int)
    · refine za rfl (yb (decide_eq_true c6) (yi_lss rfl rfl rfl)) rfl rfl ?_
      refine lg_nil ?_
      refine nx (zk5 0 3 4 14 15 rfl rfl rfl rfl rfl (zk1 16 rfl fn)) ?_
      refine cg_seq ?_
      refine cg_ct rfl ?_
      refine cg_skip ?_
      refine nx (zk5 0 3 4 14 15 rfl rfl rfl rfl rfl fn) ?_
      refine cg_seq ?_
      refine cg_block ?_
      refine cg_seq ?_
      refine cg_region ?_
      refine zM rfl rfl rfl rfl rfl ?_
      refine zA rfl rfl rfl rfl rfl ?_
      refine lg_nil ?_
      refine nx (zk5 0 3 4 14 15 rfl rfl rfl rfl rfl (zk1 5 rfl fn)) ?_
      refine cg_region ?_
      refine zM rfl rfl rfl rfl rfl ?_
      refine zM rfl rfl rfl rfl rfl ?_
      refine zM rfl rfl rfl rfl rfl ?_
      refine zM rfl rfl rfl rfl rfl ?_
      have mo8 := mp
      refine lg_callw (want_none (by rfl)) (ofM_any (isN_of hti (by omega) (by omega)) _ _ _ (by omega) h mo8 (Tt.up u rg)) (by kernel_rfl) rfl rfl rfl (by decide) ?_
      rintro _ w9 ⟨r9, rfl, m9, n9, hw9⟩
      have zw9 := hw9.size
      have mp := n9
      refine lg_bslice (el := 26) (z := .slice none 0 0) (cs := #[r9.v]) (by kernel_rfl) (by kernel_rfl) (by decide) (by decide) rfl rfl (by kernel_rfl) rfl rfl (by decide) fun b10 w10 n10 => ?_
      have r10 := n10.row
      have k10 := n10.blk
      have z10 := n10.size
      have lt10 : b10 < w10.heap.size := by omega
      have g0 := g0.alt mo8 hw9
      have g0 := g0.below n10.below
      have m9 := m9.below n10.below
      have oo11 := g0
      refine lg_appOc (base := bs5) oo11 m9 r10 (by omega) (by omega) (want_none (by rfl)) rfl rfl rfl rfl rfl (by decide) fun s11 w11 g11 k11 l11 z11 => ?_
      refine zA rfl rfl rfl rfl rfl ?_
      refine lg_nil ?_
      refine eg_block_norm ?_
      refine nx (zk5 0 3 14 15 4 rfl rfl rfl rfl rfl fn) ?_
      refine cg_region ?_
      refine za rfl (yv (congrArg nv (show ((t : Nat) : Int) + 1 = ((t + 1 : Nat) : Int) by omega)) (yi_add rfl rfl rfl (by omega) (by omega))) rfl rfl ?_
      refine zM rfl rfl rfl rfl rfl ?_
      refine lg_nil ?_
      have h := h.below (Alt.below hw9 (by omega) (by omega))
      have h := h.below (n10.below.mono (by omega))
      have h := h.below (l11.mono (by omega))
      have mp := mp.below n10.below
      have mp := mp.kept k11 oo11.nou8 (oo11.nomap mp)
      have u := u.trans (Alt.below hw9 (by omega) (by omega))
      have u := u.trans (n10.below.mono u.size)
      have u := u.trans (l11.mono (by omega))
      exact fun a ha => (show t < (Ls.length + 1) ∧ _ from ⟨(by omega), s11, ha.keep (fk rfl (fk rfl (fk rfl (fk rfl (fk rfl fn))))), h, mp, (g11.cast (allN_s Ls t).symm), u, (by omega), (by omega)⟩)
    · refine za rfl (yb (decide_eq_false c6) (yi_lss rfl rfl rfl)) rfl rfl ?_
      refine lg_nil ?_
      refine nx (zk5 0 3 4 14 15 rfl rfl rfl rfl rfl (zk1 16 rfl fn)) ?_
      refine cg_seq ?_
      refine cg_cf rfl ?_
      refine cg_exit ?_
      refine eg_seq_exit ?_
      refine eg_seq_exit ?_
      refine eg_block_exit ?_
      refine nx (zk1 4 rfl fn) ?_
      refine cg_seq ?_
      refine cg_region ?_
      refine zM rfl rfl rfl rfl rfl ?_
      refine zA rfl rfl rfl rfl rfl ?_
      refine lg_nil ?_
      refine nx (zk1 2 rfl fn) ?_
      refine cg_ret ?_
      obtain rfl : t = Ls.length := by omega
      exact eg_ret_tmp rfl rfl ⟨_, rfl, _, rfl, (by rw [hta]; exact g0.row), u⟩
  · have hta := trAs_no c1
    refine lg_callw (want_none (by rfl)) (sane_any (h.more (B' := W.heap.size) (by omega)) (Nat.le_refl _)) (by kernel_rfl) rfl rfl rfl (by decide) ?_
    rintro u12 w12 ⟨e12, hw12⟩
    have zw12 := hw12.size
    obtain rfl : u12 = .bool false := e12.trans (congrArg Value.bool (decide_eq_false c1))
    refine za rfl (y_bnot rfl rfl) rfl rfl ?_
    refine lg_nil ?_
    refine nx (zk3 0 2 8 rfl rfl rfl fn) ?_
    refine cg_ct rfl ?_
    refine cg_seq ?_
    refine cg_region ?_
    refine zA rfl rfl rfl rfl rfl ?_
    refine lg_nil ?_
    refine nx (zk2 0 2 rfl rfl fn) ?_
    refine cg_ret ?_
    refine eg_seq_ret ?_
    have u := u.trans (hw12.mono u.size)
    exact eg_ret_tmp rfl rfl ⟨_, rfl, nilS, rfl, (by rw [hta]; exact RwOc.nil _ _), u⟩
end Go.Proofs.YtkcpmpbjjnknhaaGreatDoor
