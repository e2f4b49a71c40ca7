/-
  A tree without some leaves: the program.
-/
import Derived.Test.YtkcpmpbjjnknhaaGreatDoorHsRef
import Derived.Test.YtkcpmpbjjnknhaaGreatDoorPnFr
import Derived.Test.YtkcpmpbjjnknhaaGreatDoorTrClr
namespace Go.Proofs.YtkcpmpbjjnknhaaGreatDoor
open Go.ChangeShapes Go.WideShapes Go.ChangeAt Go.RowKit
set_option linter.unusedVariables false

set_option maxRecDepth 20000
/-- Where a number stands first. -/
def idxI (xs : List Int) (x : Int) : Int := if x ∈ xs then ((xs.takeWhile fun y => !decide (x = y)).length : Int) else -1
theorem idxI_at : ∀ {xs : List Int} {x : Int} {t : Nat}, (∀ j, j < t → ¬ x = xs.getD j 0) → t < xs.length → x = xs.getD t 0 → idxI xs x = (t : Int) := by
  intro xs x t hno ht hx
  have he : x ∈ xs := by rw [hx]; exact getD_in ht
  rw [idxI, if_pos he]
  refine congrArg Int.ofNat ?_
  clear he
  induction xs generalizing t with
  | nil => exact absurd ht (Nat.not_lt_zero _)
  | cons y r ih =>
    cases t with
    | zero =>
      have hx' : x = y := hx
      rw [List.takeWhile_cons, decide_eq_true hx']
      rfl
    | succ t =>
      have h0 : ¬ x = y := hno 0 (by omega)
      rw [List.takeWhile_cons, decide_eq_false h0]
      show (y :: _).length = _
      rw [List.length_cons, ih (fun j hj => hno (j + 1) (by omega)) (by simpa using ht) hx]
theorem idxI_no {xs : List Int} {x : Int} (h : ∀ j, j < xs.length → ¬ x = xs.getD j 0) : idxI xs x = -1 := by
  rw [idxI, if_neg]
  intro hx
  obtain ⟨i, hi, e⟩ := mem_getD hx
  exact h i hi e.symm
theorem idxI_iff (xs : List Int) (x : Int) : 0 ≤ idxI xs x ↔ x ∈ xs := by
  unfold idxI
  split
  · rename_i h
    exact ⟨fun _ => h, fun _ => by omega⟩
  · rename_i h
    exact ⟨fun q => absurd q (by decide), fun q => absurd q h⟩
section
variable {w W : World} {B B2 : Nat} {s s2 : SlV} {xs ys : List Int}
theorem indexI_any (h : SlN w B s xs) (x : Int) : Calls Tryz.prog 116 #[s.v, nv x] w fun e w' => e = .returned (nv (idxI xs x)) ∧ w' = w := by
  refine calls_cg (n := 19) Tryz.func116 rfl Tryz.ntmps116 (by simp) ?_
  show CG _ _ _ [(0, s.v), (1, nv x)] _ _
  refine cg_seq ?_
  refine cg_region ?_
  refine zA rfl rfl rfl rfl rfl ?_
  refine lg_nil ?_
  refine nx (zk3 0 1 4 rfl rfl rfl fn) ?_
  refine cg_seq ?_
  refine cg_seq ?_
  refine cg_region ?_
  refine zM rfl rfl rfl rfl rfl ?_
  refine za rfl (y_lenM (el := 3) h.len (by kernel_rfl) rfl rfl) rfl rfl ?_
  refine zM rfl rfl rfl rfl rfl ?_
  refine lg_nil ?_
  refine nx (zk5 0 1 4 7 8 rfl rfl rfl rfl rfl fn) ?_
  refine cg_block ?_
  refine cg_loopE (fun t a v => Holds 19 [(0, s.v), (1, nv x), (7, nv (xs.length : Int)), (8, nv ((t : Nat) : Int))] a ∧ v = w ∧ t ≤ xs.length ∧ (∀ j, j < t → ¬ x = (xs.getD j 0))) (xs.length + 1) (fun a ha => ⟨ha.keep (fk rfl (fk rfl (fk rfl (fk rfl fn)))), rfl, (Nat.zero_le _), (fun j hj => absurd hj (Nat.not_lt_zero _))⟩) ?_
  rintro t a v ht ⟨ha, rfl, tle, hno⟩
  refine cg_at ha ?_
  clear ha a
  have le_h := h.len; have ca_h := h.cap
  refine cg_seq ?_
  refine cg_region ?_
  by_cases c1 : ((t : Nat) : Int) < (xs.length : Int)
  · refine za rfl (yb (decide_eq_true c1) (yi_lss rfl rfl rfl)) rfl rfl ?_
    refine lg_nil ?_
    refine nx (zk5 0 1 7 8 9 rfl rfl rfl rfl rfl fn) ?_
    refine cg_seq ?_
    refine cg_ct rfl ?_
    refine cg_skip ?_
    refine nx (zk3 0 1 7 rfl rfl rfl (zk1 8 rfl fn)) ?_
    refine cg_seq ?_
    refine cg_block ?_
    refine cg_seq ?_
    refine cg_region ?_
    refine zM rfl rfl rfl rfl rfl ?_
    refine zA rfl rfl rfl rfl rfl ?_
    refine lg_nil ?_
    refine nx (zk5 0 1 7 8 5 rfl rfl rfl rfl rfl fn) ?_
    refine cg_seq ?_
    refine cg_region ?_
    refine zM rfl rfl rfl rfl rfl ?_
    refine zM rfl rfl rfl rfl rfl ?_
    refine zM rfl rfl rfl rfl rfl ?_
    refine za rfl (y_ixT (i := t) (iI := ((t : Nat) : Int)) h (by omega) (by omega) rfl rfl rfl) rfl rfl ?_
    refine za rfl (y_ldT (i := t) h (by omega) rfl rfl) rfl rfl ?_
    by_cases c2 : x = (xs.getD t 0)
    · refine za rfl (yb (decide_eq_true c2) (yi_eql rfl rfl rfl)) rfl rfl ?_
      refine lg_nil ?_
      refine nx (zk5 0 1 7 8 5 rfl rfl rfl rfl rfl (zk1 16 rfl fn)) ?_
      refine cg_ct rfl ?_
      refine cg_seq ?_
      refine cg_region ?_
      refine zM rfl rfl rfl rfl rfl ?_
      refine zA rfl rfl rfl rfl rfl ?_
      refine lg_nil ?_
      refine nx (zk5 0 1 7 8 4 rfl rfl rfl rfl rfl fn) ?_
      refine cg_ret ?_
      refine eg_block_ret ?_
      refine eg_seq_ret ?_
      refine eg_seq_ret ?_
      refine eg_block_ret ?_
      refine eg_seq_ret ?_
      exact eg_ret_tmp rfl rfl ⟨congrArg (fun b => Ending.returned (nv b)) (idxI_at hno (by omega) c2).symm, rfl⟩
    · refine za rfl (yb (decide_eq_false c2) (yi_eql rfl rfl rfl)) rfl rfl ?_
      refine lg_nil ?_
      refine nx (zk5 0 1 7 8 5 rfl rfl rfl rfl rfl (zk1 16 rfl fn)) ?_
      refine cg_cf rfl ?_
      refine cg_skip ?_
      refine eg_block_norm ?_
      refine nx (zk3 0 1 7 rfl rfl rfl (zk1 8 rfl fn)) ?_
      refine cg_region ?_
      refine za rfl (yv (congrArg nv (show ((t : Nat) : Int) + 1 = ((t + 1 : Nat) : Int) by omega)) (yi_add rfl rfl rfl (by omega) (by omega))) rfl rfl ?_
      refine zM rfl rfl rfl rfl rfl ?_
      refine lg_nil ?_
      exact fun a ha => (show t < (xs.length + 1) ∧ _ from ⟨(by omega), ha.keep (fk rfl (fk rfl (fk rfl (fk rfl fn)))), rfl, (by omega), (fun j hj => if q : j < t then hno j q else by
          obtain rfl : j = t := by omega
          exact c2)⟩)
  · refine za rfl (yb (decide_eq_false c1) (yi_lss rfl rfl rfl)) rfl rfl ?_
    refine lg_nil ?_
    refine nx (zk5 0 1 7 8 9 rfl rfl rfl rfl rfl fn) ?_
    refine cg_seq ?_
    refine cg_cf rfl ?_
    refine cg_exit ?_
    refine eg_seq_exit ?_
    refine eg_seq_exit ?_
    refine eg_block_exit ?_
    refine nx (E' := []) fn ?_
    refine cg_seq ?_
    refine cg_region ?_
    refine zA rfl rfl rfl rfl rfl ?_
    refine lg_nil ?_
    refine nx (zk1 4 rfl fn) ?_
    refine cg_ret ?_
    exact eg_ret_tmp rfl rfl ⟨congrArg (fun b => Ending.returned (nv b)) (idxI_no fun j hj => hno j (by omega)).symm, rfl⟩
theorem containsI_any (h : SlN w B s xs) (x : Int) : Calls Tryz.prog 74 #[s.v, nv x] w fun e w' => e = .returned (.bool (decide (x ∈ xs))) ∧ w' = w := by
  refine calls_cg (n := 9) Tryz.func74 rfl Tryz.ntmps74 (by simp) ?_
  show CG _ _ _ [(0, s.v), (1, nv x)] _ _
  refine cg_seq ?_
  refine cg_region ?_
  refine zA rfl rfl rfl rfl rfl ?_
  refine lg_nil ?_
  refine nx (zk3 0 1 4 rfl rfl rfl fn) ?_
  refine cg_seq ?_
  refine cg_region ?_
  refine zM rfl rfl rfl rfl rfl ?_
  refine zM rfl rfl rfl rfl rfl ?_
  refine za rfl (y_call (indexI_any h x) (by kernel_rfl) rfl rfl) rfl rfl ?_
  by_cases c1 : 0 ≤ (idxI xs x)
  · refine za rfl (yb (decide_eq_true c1) (yi_geq rfl rfl rfl)) rfl rfl ?_
    refine zA rfl rfl rfl rfl rfl ?_
    refine lg_nil ?_
    refine nx (zk1 4 rfl fn) ?_
    refine cg_ret ?_
    exact eg_ret_tmp rfl rfl ⟨congrArg (fun b => Ending.returned (.bool b)) (decide_eq_true ((idxI_iff xs x).1 c1)).symm, rfl⟩
  · refine za rfl (yb (decide_eq_false c1) (yi_geq rfl rfl rfl)) rfl rfl ?_
    refine zA rfl rfl rfl rfl rfl ?_
    refine lg_nil ?_
    refine nx (zk1 4 rfl fn) ?_
    refine cg_ret ?_
    exact eg_ret_tmp rfl rfl ⟨congrArg (fun b => Ending.returned (.bool b)) (decide_eq_false (fun q => c1 ((idxI_iff xs x).2 q))).symm, rfl⟩
theorem numbers_any (h : SlN W B s xs) (hB : B ≤ W.heap.size) (hn : xs.length ≤ 900000) : Calls Tryz.prog 39 #[s.v] W fun e W' => ∃ v, e = .returned v ∧ ∃ r : SlV, v = r.v ∧ SlN W' W'.heap.size r (numG xs) ∧ Below W.heap.size W W' := by
  have h := h.more hB
  refine calls_cg (n := 30) Tryz.func39 rfl Tryz.ntmps39 (by simp) ?_
  show CG _ _ _ [(0, s.v)] _ _
  have u := Below.refl W.heap.size W
  have le_h := h.len; have ca_h := h.cap
  refine cg_seq ?_
  refine cg_region ?_
  refine zA rfl rfl rfl rfl rfl ?_
  refine lg_nil ?_
  refine nx (zk2 0 2 rfl rfl fn) ?_
  refine cg_seq ?_
  refine cg_region ?_
  refine zA rfl rfl rfl rfl rfl ?_
  refine lg_nil ?_
  refine nx (zk3 0 2 3 rfl rfl rfl fn) ?_
  refine cg_seq ?_
  refine cg_seq ?_
  refine cg_region ?_
  refine zM rfl rfl rfl rfl rfl ?_
  refine za rfl (y_lenM (el := 3) h.len (by kernel_rfl) rfl rfl) rfl rfl ?_
  refine zM rfl rfl rfl rfl rfl ?_
  refine lg_nil ?_
  refine nx (zk5 2 3 6 7 8 rfl rfl rfl rfl rfl fn) ?_
  refine cg_block ?_
  obtain ⟨C, hC⟩ : ∃ q, q = W.heap.size := ⟨_, rfl⟩
  refine cg_loopE (fun t a v => ∃ (qr : SlV), Holds 30 [(3, qr.v), (6, s.v), (7, nv (xs.length : Int)), (8, nv ((t : Nat) : Int))] a ∧ SlN v W.heap.size s xs ∧ v.ownsRow C 3 1 qr.v (numG (xs.take t)).length ((numG (xs.take t)).map (Value.int .i64)) ∧ Below W.heap.size W v ∧ C ≤ v.heap.size ∧ t ≤ xs.length ∧ W.heap.size ≤ C) (xs.length + 1) (fun a ha => ⟨nilS, ha.keep (fk rfl (fk rfl (fk rfl (fk rfl fn)))), h, (own_nilN _ _), u, (by omega), (Nat.zero_le _), (by omega)⟩) ?_
  rintro t a v ht ⟨qr, ha, h, g0, u, cC, tle, cW⟩
  refine cg_at ha ?_
  clear ha a
  have zv := u.size
  have le_h := h.len; have ca_h := h.cap
  have lg := numG_le (xs.take t)
  rw [List.length_take] at lg
  refine cg_seq ?_
  refine cg_region ?_
  by_cases c1 : ((t : Nat) : Int) < (xs.length : Int)
  · refine za rfl (yb (decide_eq_true c1) (yi_lss rfl rfl rfl)) rfl rfl ?_
    refine lg_nil ?_
    refine nx (zk5 3 6 7 8 9 rfl rfl rfl rfl rfl fn) ?_
    refine cg_seq ?_
    refine cg_ct rfl ?_
    refine cg_skip ?_
    refine nx (zk3 3 6 7 rfl rfl rfl (zk1 8 rfl fn)) ?_
    refine cg_seq ?_
    refine cg_block ?_
    refine cg_seq ?_
    refine cg_region ?_
    refine za rfl (y_ixT (i := t) (iI := ((t : Nat) : Int)) h (by omega) (by omega) rfl rfl rfl) rfl rfl ?_
    refine za rfl (y_ldT (i := t) h (by omega) rfl rfl) rfl rfl ?_
    refine zA rfl rfl rfl rfl rfl ?_
    refine lg_nil ?_
    refine nx (zk5 3 6 7 8 5 rfl rfl rfl rfl rfl fn) ?_
    refine cg_seq ?_
    have hs := numG_take (l := xs) (k := t) (by omega)
    refine cg_region ?_
    refine zM rfl rfl rfl rfl rfl ?_
    by_cases c2 : 0 ≤ (xs.getD t 0)
    · refine za rfl (yb (decide_eq_true c2) (yi_geq rfl rfl rfl)) rfl rfl ?_
      refine zM rfl rfl rfl rfl rfl ?_
      refine zt 14 rfl (by kernel_rfl) rfl (y_move rfl rfl) rfl rfl ?_
      by_cases c3 : (xs.getD t 0) < 64
      · refine zt 14 rfl (by kernel_rfl) rfl (yb (decide_eq_true c3) (yi_lss rfl rfl rfl)) rfl rfl ?_
        refine za rfl (y_pick true rfl rfl rfl) rfl rfl ?_
        refine zM rfl rfl rfl rfl rfl ?_
        refine zt 18 rfl (by kernel_rfl) rfl (y_move rfl rfl) rfl rfl ?_
        refine zt 18 rfl (by kernel_rfl) rfl (y_move rfl rfl) rfl rfl ?_
        by_cases c4 : (xs.getD t 0) ∈ (numG (xs.take t))
        · refine zt 18 rfl (by kernel_rfl) rfl (yb (decide_eq_true c4) (y_call (containsI_any (own_num g0) (xs.getD t 0)) (by kernel_rfl) rfl rfl)) rfl rfl ?_
          refine zt 18 rfl (by kernel_rfl) rfl (y_bnot rfl rfl) rfl rfl ?_
          refine za rfl (y_pick true rfl rfl rfl) rfl rfl ?_
          refine lg_nil ?_
          refine nx (zk5 3 6 7 8 5 rfl rfl rfl rfl rfl (zk1 23 rfl fn)) ?_
          refine cg_cf rfl ?_
          refine cg_skip ?_
          refine eg_block_norm ?_
          refine nx (zk3 3 6 7 rfl rfl rfl (zk1 8 rfl fn)) ?_
          refine cg_region ?_
          refine za rfl (yv (congrArg nv (show ((t : Nat) : Int) + 1 = ((t + 1 : Nat) : Int) by omega)) (yi_add rfl rfl rfl (by omega) (by omega))) rfl rfl ?_
          refine zM rfl rfl rfl rfl rfl ?_
          refine lg_nil ?_
          exact fun a ha => (show t < (xs.length + 1) ∧ _ from ⟨(by omega), qr, ha.keep (fk rfl (fk rfl (fk rfl (fk rfl fn)))), h, (own_castN g0 (by rw [hs, if_neg (fun q => q.2.2 c4)])), u, (by omega), (by omega), cW⟩)
        · refine zt 18 rfl (by kernel_rfl) rfl (yb (decide_eq_false c4) (y_call (containsI_any (own_num g0) (xs.getD t 0)) (by kernel_rfl) rfl rfl)) rfl rfl ?_
          refine zt 18 rfl (by kernel_rfl) rfl (y_bnot rfl rfl) rfl rfl ?_
          refine za rfl (y_pick true rfl rfl rfl) rfl rfl ?_
          refine lg_nil ?_
          refine nx (zk5 3 6 7 8 5 rfl rfl rfl rfl rfl (zk1 23 rfl fn)) ?_
          refine cg_ct rfl ?_
          refine cg_region ?_
          refine zM rfl rfl rfl rfl rfl ?_
          refine zM rfl rfl rfl rfl rfl ?_
          refine lg_bslice (el := 3) (z := nv 0) (cs := #[nv (xs.getD t 0)]) huIs (by kernel_rfl) (by decide) (by decide) rfl rfl (by kernel_rfl) rfl rfl (by decide) fun b5 w5 n5 => ?_
          have r5 := n5.row
          have k5 := n5.blk
          have z5 := n5.size
          have m5 : SlN w5 (b5 + 1) ⟨some ⟨b5, 0, none⟩, 1, 1⟩ [(xs.getD t 0)] := new_SlN (xs := [(xs.getD t 0)]) r5 rfl (of_decide_eq_true (by kernel_rfl))
          have og5 : w5.ownsRow b5 3 1 (.slice (some ⟨b5, 0, none⟩) 1 1) ([(xs.getD t 0)] : List Int).length (([(xs.getD t 0)] : List Int).map (Value.int .i64)) := new_ownN (xs := [(xs.getD t 0)]) n5 rfl (of_decide_eq_true (by kernel_rfl))
          have g0 := own_below g0 n5.below
          refine lg_appT g0 m5 (by first | omega | (simp only [List.length_cons, List.length_nil]; omega)) (by omega) (want_none (by rfl)) rfl rfl rfl rfl rfl (by decide) fun r6 w6 m6 g6 l6 z6 => ?_
          refine zA rfl rfl rfl rfl rfl ?_
          refine lg_nil ?_
          refine eg_block_norm ?_
          refine nx (zk3 6 7 8 rfl rfl rfl (zk1 3 rfl fn)) ?_
          refine cg_region ?_
          refine za rfl (yv (congrArg nv (show ((t : Nat) : Int) + 1 = ((t + 1 : Nat) : Int) by omega)) (yi_add rfl rfl rfl (by omega) (by omega))) rfl rfl ?_
          refine zM rfl rfl rfl rfl rfl ?_
          refine lg_nil ?_
          have h := h.below (n5.below.mono (by omega))
          have h := h.below (l6.mono (by omega))
          have u := u.trans (n5.below.mono u.size)
          have u := u.trans (l6.mono (by omega))
          exact fun a ha => (show t < (xs.length + 1) ∧ _ from ⟨(by omega), r6, ha.keep (fk rfl (fk rfl (fk rfl (fk rfl fn)))), h, (own_castN g6 (by rw [hs, if_pos ⟨c2, c3, c4⟩])), u, (by omega), (by omega), cW⟩)
      · refine zt 14 rfl (by kernel_rfl) rfl (yb (decide_eq_false c3) (yi_lss rfl rfl rfl)) rfl rfl ?_
        refine za rfl (y_pick true rfl rfl rfl) rfl rfl ?_
        refine zM rfl rfl rfl rfl rfl ?_
        refine zf 18 rfl (by kernel_rfl) rfl rfl rfl ?_
        refine zf 18 rfl (by kernel_rfl) rfl rfl rfl ?_
        refine zf 18 rfl (by kernel_rfl) rfl rfl rfl ?_
        refine zf 18 rfl (by kernel_rfl) rfl rfl rfl ?_
        refine za rfl (y_pick false rfl rfl rfl) rfl rfl ?_
        refine lg_nil ?_
        refine nx (zk5 3 6 7 8 5 rfl rfl rfl rfl rfl (zk1 23 rfl fn)) ?_
        refine cg_cf rfl ?_
        refine cg_skip ?_
        refine eg_block_norm ?_
        refine nx (zk3 3 6 7 rfl rfl rfl (zk1 8 rfl fn)) ?_
        refine cg_region ?_
        refine za rfl (yv (congrArg nv (show ((t : Nat) : Int) + 1 = ((t + 1 : Nat) : Int) by omega)) (yi_add rfl rfl rfl (by omega) (by omega))) rfl rfl ?_
        refine zM rfl rfl rfl rfl rfl ?_
        refine lg_nil ?_
        exact fun a ha => (show t < (xs.length + 1) ∧ _ from ⟨(by omega), qr, ha.keep (fk rfl (fk rfl (fk rfl (fk rfl fn)))), h, (own_castN g0 (by rw [hs, if_neg (fun q => c3 q.2.1)])), u, (by omega), (by omega), cW⟩)
    · refine za rfl (yb (decide_eq_false c2) (yi_geq rfl rfl rfl)) rfl rfl ?_
      refine zM rfl rfl rfl rfl rfl ?_
      refine zf 14 rfl (by kernel_rfl) rfl rfl rfl ?_
      refine zf 14 rfl (by kernel_rfl) rfl rfl rfl ?_
      refine za rfl (y_pick false rfl rfl rfl) rfl rfl ?_
      refine zM rfl rfl rfl rfl rfl ?_
      refine zf 18 rfl (by kernel_rfl) rfl rfl rfl ?_
      refine zf 18 rfl (by kernel_rfl) rfl rfl rfl ?_
      refine zf 18 rfl (by kernel_rfl) rfl rfl rfl ?_
      refine zf 18 rfl (by kernel_rfl) rfl rfl rfl ?_
      refine za rfl (y_pick false rfl rfl rfl) rfl rfl ?_
      refine lg_nil ?_
      refine nx (zk5 3 6 7 8 5 rfl rfl rfl rfl rfl (zk1 23 rfl fn)) ?_
      refine cg_cf rfl ?_
      refine cg_skip ?_
      refine eg_block_norm ?_
      refine nx (zk3 3 6 7 rfl rfl rfl (zk1 8 rfl fn)) ?_
      refine cg_region ?_
      refine za rfl (yv (congrArg nv (show ((t : Nat) : Int) + 1 = ((t + 1 : Nat) : Int) by omega)) (yi_add rfl rfl rfl (by omega) (by omega))) rfl rfl ?_
      refine zM rfl rfl rfl rfl rfl ?_
      refine lg_nil ?_
      exact fun a ha => (show t < (xs.length + 1) ∧ _ from ⟨(by omega), qr, ha.keep (fk rfl (fk rfl (fk rfl (fk rfl fn)))), h, (own_castN g0 (by rw [hs, if_neg (fun q => c2 q.1)])), u, (by omega), (by omega), cW⟩)
  · refine za rfl (yb (decide_eq_false c1) (yi_lss rfl rfl rfl)) rfl rfl ?_
    refine lg_nil ?_
    refine nx (zk5 3 6 7 8 9 rfl rfl rfl rfl rfl fn) ?_
    refine cg_seq ?_
    refine cg_cf rfl ?_
    refine cg_exit ?_
    refine eg_seq_exit ?_
    refine eg_seq_exit ?_
    refine eg_block_exit ?_
    refine nx (zk1 3 rfl fn) ?_
    refine cg_seq ?_
    refine cg_region ?_
    refine zM rfl rfl rfl rfl rfl ?_
    refine zA rfl rfl rfl rfl rfl ?_
    refine lg_nil ?_
    refine nx (zk1 2 rfl fn) ?_
    refine cg_ret ?_
    obtain rfl : t = xs.length := by omega
    exact eg_ret_tmp rfl rfl ⟨_, rfl, _, rfl, own_num (own_castN g0 (by rw [List.take_length])), u⟩
end
section
variable {E : Env} {o : Oper} {w : World} {x y : Operand} {t' : TypeId} {s : SlV}
theorem y_nilRt (hA : s.A = none) (ho : o.op = .binOp .eql 22 x y t') (hx : val E x = some s.v) (hy : val E y = some (.slice none 0 0)) : Yields Tryz.prog E o w (.bool true) :=
  y_bin (fun x y w => by
    obtain ⟨A, m, c⟩ := s
    simp only at hA
    subst hA
    rfl) ho hx hy
end
theorem cloneN_any {W : World} {s : SlV} {Ls : List Nd} (h : RwNd W W.heap.size s Ls) (hle : Ls.length ≤ 1000000) (hA : s.A = none) (h0 : Ls = []) : Calls Tryz.prog 40 #[s.v] W fun e W' => ∃ v, e = .returned v ∧ ∃ r : SlV, v = r.v ∧ RwNd W' W'.heap.size r (Ls) ∧ Below W.heap.size W W' := by
  subst h0
  refine calls_cg (n := 8) Tryz.func40 rfl Tryz.ntmps40 (by simp) ?_
  show CG _ _ _ [(0, s.v)] _ _
  have u := Below.refl W.heap.size W
  have q1 := h.len
  have q2 := h.cap
  refine cg_seq ?_
  refine cg_region ?_
  refine zA rfl rfl rfl rfl rfl ?_
  refine lg_nil ?_
  refine nx (zk2 0 2 rfl rfl fn) ?_
  refine cg_seq ?_
  refine cg_seq ?_
  refine cg_region ?_
  refine zM rfl rfl rfl rfl rfl ?_
  refine za rfl (y_nilRt hA rfl rfl rfl) rfl rfl ?_
  refine lg_nil ?_
  refine nx (zk3 0 2 4 rfl rfl rfl fn) ?_
  refine cg_ct rfl ?_
  refine cg_seq ?_
  refine cg_region ?_
  refine zA rfl rfl rfl rfl rfl ?_
  refine lg_nil ?_
  refine nx (zk2 0 2 rfl rfl fn) ?_
  refine cg_ret ?_
  refine eg_seq_ret ?_
  exact eg_ret_tmp rfl rfl ⟨_, rfl, nilS, rfl, RwNd.nil _ _, u⟩
theorem cloneE_any {W : World} {s : SlV} {Ls : List Nd} (h : RwNd W W.heap.size s Ls) (hle : Ls.length ≤ 1000000) {b0 : Addr} (hA : s.A = some b0) (h0 : Ls = []) : Calls Tryz.prog 40 #[s.v] W fun e W' => ∃ v, e = .returned v ∧ ∃ r : SlV, v = r.v ∧ RwNd W' W'.heap.size r (Ls) ∧ Below W.heap.size W W' := by
  refine calls_cg (n := 8) Tryz.func40 rfl Tryz.ntmps40 (by simp) ?_
  show CG _ _ _ [(0, s.v)] _ _
  have u := Below.refl W.heap.size W
  have q1 := h.len
  have q2 := h.cap
  refine cg_seq ?_
  refine cg_region ?_
  refine zA rfl rfl rfl rfl rfl ?_
  refine lg_nil ?_
  refine nx (zk2 0 2 rfl rfl fn) ?_
  refine cg_seq ?_
  refine cg_seq ?_
  refine cg_region ?_
  refine zM rfl rfl rfl rfl rfl ?_
  refine za rfl (y_nilR hA rfl rfl rfl) rfl rfl ?_
  refine lg_nil ?_
  refine nx (zk3 0 2 4 rfl rfl rfl fn) ?_
  refine cg_cf rfl ?_
  refine cg_skip ?_
  refine nx (zk2 0 2 rfl rfl fn) ?_
  refine cg_seq ?_
  refine cg_region ?_
  obtain ⟨bs2, hbs2⟩ : ∃ q, q = W.heap.size := ⟨_, rfl⟩
  refine lg_bs0R (want_none (by rfl)) rfl rfl (by decide) fun v1 w1 g1 l1 => ?_
  rw [← hbs2] at g1
  have z1 := l1.size
  refine zM rfl rfl rfl rfl rfl ?_
  have h := h.below (l1.mono (by omega))
  refine lg_appR g1 (h.src.more (B' := bs2) (by omega)) (Nat.le_refl _) (by first | omega | (simp only [List.length_nil]; omega)) (by omega) (want_none (by rfl)) rfl rfl rfl rfl rfl (by decide) fun r3 w3 g3 m3 l3 z3 => ?_
  rw [List.nil_append] at g3
  clear m3
  refine zA rfl rfl rfl rfl rfl ?_
  refine lg_nil ?_
  refine nx (zk1 2 rfl fn) ?_
  refine cg_ret ?_
  have u := u.trans (l1.mono u.size)
  have u := u.trans (l3.mono (by omega))
  exact eg_ret_tmp rfl rfl ⟨_, rfl, _, rfl, (g3.rowS (by omega)), u⟩
theorem clone0_any {W : World} {s : SlV} (h : RwNd W W.heap.size s []) : Calls Tryz.prog 40 #[s.v] W fun e W' => ∃ v, e = .returned v ∧ ∃ r : SlV, v = r.v ∧ RwNd W' W'.heap.size r ([]) ∧ Below W.heap.size W W' := by
  cases hA : s.A with
  | none => exact cloneN_any h (by simp) hA rfl
  | some b => exact cloneE_any h (by simp) hA rfl
theorem drop_unm {t : List Nd} (ht : trIs t) (l : List Int) {k i : Nat} (hi : i < t.length) : (atN (cutL l k (zapL l t)) i).inner.unm.length ≤ 64 := by
  have h := (unm_small ht i).2
  rw [cutL_at (by rw [zapL_len]; exact hi), zap_at hi]
  have hz : (zapN l i (atN t i)).inner.unm.length ≤ 64 := by
    unfold zapN
    split
    · exact Nat.zero_le _
    · exact h
  split
  · exact Nat.le_trans (cutK_length _ _) hz
  · exact hz
theorem dropN_any {Ls : List Nd} {W : World} {B : Nat} {s r : SlV} {xs : List Int} (h : RwNd W B s Ls) (hn : SlN W B r xs) (hB : B ≤ W.heap.size) (hl : xs.length ≤ 900000) (hno : ¬ trIs Ls) : Calls Tryz.prog 17 #[s.v, r.v] W fun e W' => ∃ v, e = .returned v ∧ ∃ r : SlV, v = r.v ∧ RwNd W' W'.heap.size r (dropL xs (trAs Ls)) ∧ Below W.heap.size W W' := by
  have h := h.more hB
  have hn := hn.more hB
  refine calls_cg (n := 55) Tryz.func17 rfl Tryz.ntmps17 (by simp) ?_
  show CG _ _ _ [(0, s.v), (1, r.v)] _ _
  have u := Below.refl W.heap.size W
  have q1 := h.len
  have q2 := h.cap
  have q3 := hn.len
  have q4 := hn.cap
  refine cg_seq ?_
  refine cg_region ?_
  refine zA rfl rfl rfl rfl rfl ?_
  refine lg_nil ?_
  refine nx (zk3 0 1 4 rfl rfl rfl fn) ?_
  refine cg_seq ?_
  refine cg_seq ?_
  refine cg_region ?_
  refine zM rfl rfl rfl rfl rfl ?_
  refine lg_callw (want_none (by rfl)) (sane_any (h.more (B' := W.heap.size) (by omega)) (Nat.le_refl _)) (by kernel_rfl) rfl rfl rfl (by decide) ?_
  rintro u1 w1 ⟨e1, hw1⟩
  have zw1 := hw1.size
  obtain rfl : u1 = .bool false := e1.trans (congrArg Value.bool (decide_eq_false hno))
  refine za rfl (y_bnot rfl rfl) rfl rfl ?_
  refine lg_nil ?_
  refine nx (zk3 0 1 4 rfl rfl rfl (zk1 14 rfl fn)) ?_
  refine cg_ct rfl ?_
  refine cg_seq ?_
  refine cg_region ?_
  refine zA rfl rfl rfl rfl rfl ?_
  refine lg_nil ?_
  refine nx (zk3 0 1 4 rfl rfl rfl fn) ?_
  refine cg_ret ?_
  refine eg_seq_ret ?_
  have u := u.trans (hw1.mono u.size)
  exact eg_ret_tmp rfl rfl ⟨_, rfl, nilS, rfl, (by rw [trAs_no hno]; exact RwNd.nil _ _), u⟩
theorem dropE_any {W : World} {B : Nat} {s r : SlV} {xs : List Int} (h : RwNd W B s []) (hn : SlN W B r xs) (hB : B ≤ W.heap.size) (hl : xs.length ≤ 900000) (hti : trIs []) : Calls Tryz.prog 17 #[s.v, r.v] W fun e W' => ∃ v, e = .returned v ∧ ∃ r : SlV, v = r.v ∧ RwNd W' W'.heap.size r (dropL xs (trAs [])) ∧ Below W.heap.size W W' := by
  have h := h.more hB
  have hn := hn.more hB
  refine calls_cg (n := 55) Tryz.func17 rfl Tryz.ntmps17 (by simp) ?_
  show CG _ _ _ [(0, s.v), (1, r.v)] _ _
  have u := Below.refl W.heap.size W
  have q1 := h.len
  have q2 := h.cap
  have q3 := hn.len
  have q4 := hn.cap
  have htl := trIs_le hti
  have hta := trAs_ok hti
  have hlv : leavesA ([] : List Nd) = (([] : List Nd).length + 1) / 2 := rfl
  have hlz : leavesA ([] : List Nd) = 0 := rfl
  refine cg_seq ?_
  refine cg_region ?_
  refine zA rfl rfl rfl rfl rfl ?_
  refine lg_nil ?_
  refine nx (zk3 0 1 4 rfl rfl rfl fn) ?_
  refine cg_seq ?_
  refine cg_seq ?_
  refine cg_region ?_
  refine zM rfl rfl rfl rfl rfl ?_
  refine lg_callw (want_none (by rfl)) (sane_any (h.more (B' := W.heap.size) (by omega)) (Nat.le_refl _)) (by kernel_rfl) rfl rfl rfl (by decide) ?_
  rintro u1 w1 ⟨e1, hw1⟩
  have zw1 := hw1.size
  obtain rfl : u1 = .bool true := e1.trans (congrArg Value.bool (decide_eq_true hti))
  refine za rfl (y_bnot rfl rfl) rfl rfl ?_
  refine lg_nil ?_
  refine nx (zk3 0 1 4 rfl rfl rfl (zk1 14 rfl fn)) ?_
  refine cg_cf rfl ?_
  refine cg_skip ?_
  refine nx (zk3 0 1 4 rfl rfl rfl fn) ?_
  refine cg_seq ?_
  refine cg_region ?_
  refine zM rfl rfl rfl rfl rfl ?_
  have hn := hn.below (hw1.mono (by omega))
  refine lg_callw (want_none (by rfl)) (numbers_any (hn.more (B' := w1.heap.size) (by omega)) (Nat.le_refl _) (by first | omega | (simp only [List.length_append, List.length_cons, List.length_nil, numOct_length, flagOct_length]; omega))) (by kernel_rfl) rfl rfl rfl (by decide) ?_
  rintro _ w2 ⟨r2, rfl, m2, hw2⟩
  have zw2 := hw2.size
  have gl2 := numG_le xs
  refine zM rfl rfl rfl rfl rfl ?_
  have h := h.below (hw1.mono (by omega))
  have h := h.below (hw2.mono (by omega))
  refine lg_callw (want_none (by rfl)) ((by have z := leavesT_any (h.more (B' := w2.heap.size) (by omega)) (Nat.le_refl _); rwa [hta] at z)) (by kernel_rfl) rfl rfl rfl (by decide) ?_
  rintro _ w3 ⟨rfl, hw3⟩
  have zw3 := hw3.size
  refine zA rfl rfl rfl rfl rfl ?_
  refine zA rfl rfl rfl rfl rfl ?_
  refine lg_nil ?_
  refine nx (zk3 0 4 5 rfl rfl rfl (zk1 6 rfl fn)) ?_
  refine cg_seq ?_
  refine cg_region ?_
  refine zM rfl rfl rfl rfl rfl ?_
  have h := h.below (hw3.mono (by omega))
  refine lg_callw (want_none (by rfl)) (clone0_any (h.more (B' := w3.heap.size) (by omega))) (by kernel_rfl) rfl rfl rfl (by decide) ?_
  rintro _ w4 ⟨s4, rfl, m4, hw4⟩
  have zw4 := hw4.size
  refine zA rfl rfl rfl rfl rfl ?_
  refine lg_nil ?_
  refine nx (zk3 4 5 6 rfl rfl rfl (zk1 7 rfl fn)) ?_
  refine cg_seq ?_
  refine cg_seq ?_
  refine cg_region ?_
  refine zM rfl rfl rfl rfl rfl ?_
  have m2 := m2.below (hw3.mono (by omega))
  have m2 := m2.below (hw4.mono (by omega))
  refine za rfl (y_lenM (el := 3) m2.len (by kernel_rfl) rfl rfl) rfl rfl ?_
  refine zM rfl rfl rfl rfl rfl ?_
  refine lg_nil ?_
  refine nx (zk5 4 5 6 7 21 rfl rfl rfl rfl rfl (zk2 22 23 rfl rfl fn)) ?_
  refine cg_block ?_
  obtain ⟨C, hC⟩ : ∃ q, q = w4.heap.size := ⟨_, rfl⟩
  have u := u.trans (hw1.mono u.size)
  have u := u.trans (hw2.mono u.size)
  have u := u.trans (hw3.mono u.size)
  have u := u.trans (hw4.mono u.size)
  refine cg_loopE (fun t a v => Holds 55 [(5, r2.v), (6, nv ((leavesA ([] : List Nd) : Nat) : Int)), (7, s4.v), (21, r2.v), (22, nv ((numG xs).length : Int)), (23, nv ((t : Nat) : Int))] a ∧ SlN v C r2 (numG xs) ∧ Below W.heap.size W v ∧ C ≤ v.heap.size ∧ t ≤ (numG xs).length ∧ RwNd v C s4 []) ((numG xs).length + 1) (fun a ha => ⟨ha.keep (fk rfl (fk rfl (fk rfl (fk rfl (fk rfl (fk rfl fn)))))), (m2.more (by omega)), u, (by omega), (Nat.zero_le _), (m4.more (by omega))⟩) ?_
  rintro t a v ht ⟨ha, hg, u, cC, tle, go⟩
  refine cg_at ha ?_
  clear ha a
  have zv := u.size
  have le_g := hg.len; have ca_g := hg.cap
  have qg := go.len
  refine cg_seq ?_
  refine cg_region ?_
  by_cases c5 : ((t : Nat) : Int) < ((numG xs).length : Int)
  · refine za rfl (yb (decide_eq_true c5) (yi_lss rfl rfl rfl)) rfl rfl ?_
    refine lg_nil ?_
    refine nx (zk5 5 6 7 21 22 rfl rfl rfl rfl rfl (zk2 23 24 rfl rfl fn)) ?_
    refine cg_seq ?_
    refine cg_ct rfl ?_
    refine cg_skip ?_
    refine nx (zk5 5 6 7 21 22 rfl rfl rfl rfl rfl (zk1 23 rfl fn)) ?_
    refine cg_seq ?_
    refine cg_block ?_
    refine cg_seq ?_
    refine cg_region ?_
    refine za rfl (y_ixT (i := t) (iI := ((t : Nat) : Int)) hg (by omega) (by first | omega | (simp only [List.length_append, List.length_cons, List.length_nil]; omega)) rfl rfl rfl) rfl rfl ?_
    refine za rfl (y_ldT (i := t) hg (by first | omega | (simp only [List.length_append, List.length_cons, List.length_nil]; omega)) rfl rfl) rfl rfl ?_
    refine zA rfl rfl rfl rfl rfl ?_
    refine lg_nil ?_
    refine nx (zk5 5 6 7 21 22 rfl rfl rfl rfl rfl (zk2 23 9 rfl rfl fn)) ?_
    refine cg_seq ?_
    have htn : t < (numG xs).length := by omega
    have hmem := numG_mem.1 (getD_in htn)
    have hm0 := hmem.2
    refine cg_region ?_
    refine zM rfl rfl rfl rfl rfl ?_
    refine zM rfl rfl rfl rfl rfl ?_
    refine za rfl (yb (decide_eq_false (show ¬ (((numG xs).getD t 0) < ((leavesA ([] : List Nd) : Nat) : Int)) from (by omega))) (yi_lss rfl rfl rfl)) rfl rfl ?_
    refine lg_nil ?_
    refine nx (zk5 5 6 7 21 22 rfl rfl rfl rfl rfl (zk3 23 9 29 rfl rfl rfl fn)) ?_
    refine cg_cf rfl ?_
    refine cg_skip ?_
    refine eg_block_norm ?_
    refine nx (zk5 5 6 7 21 22 rfl rfl rfl rfl rfl (zk1 23 rfl fn)) ?_
    refine cg_region ?_
    refine za rfl (yv (congrArg nv (show ((t : Nat) : Int) + 1 = ((t + 1 : Nat) : Int) by omega)) (yi_add rfl rfl rfl (by omega) (by omega))) rfl rfl ?_
    refine zM rfl rfl rfl rfl rfl ?_
    refine lg_nil ?_
    exact fun a ha => (show t < ((numG xs).length + 1) ∧ _ from ⟨(by omega), ha.keep (fk rfl (fk rfl (fk rfl (fk rfl (fk rfl (fk rfl fn)))))), hg, u, (by omega), (by omega), go⟩)
  · refine za rfl (yb (decide_eq_false c5) (yi_lss rfl rfl rfl)) rfl rfl ?_
    refine lg_nil ?_
    refine nx (zk5 5 6 7 21 22 rfl rfl rfl rfl rfl (zk2 23 24 rfl rfl fn)) ?_
    refine cg_seq ?_
    refine cg_cf rfl ?_
    refine cg_exit ?_
    refine eg_seq_exit ?_
    refine eg_seq_exit ?_
    refine eg_block_exit ?_
    refine nx (zk2 5 7 rfl rfl fn) ?_
    refine cg_seq ?_
    refine cg_seq ?_
    refine cg_region ?_
    refine zM rfl rfl rfl rfl rfl ?_
    refine za rfl (yv (congrArg nv (by rfl)) (y_lenM (el := 40) go.len (by kernel_rfl) rfl rfl)) rfl rfl ?_
    refine zM rfl rfl rfl rfl rfl ?_
    refine lg_nil ?_
    refine nx (zk5 5 7 36 37 38 rfl rfl rfl rfl rfl fn) ?_
    refine cg_block ?_
    refine cg_loopE (fun k a v => Holds 55 [(5, r2.v), (7, s4.v), (36, s4.v), (37, nv (0 : Int)), (38, nv ((k : Nat) : Int))] a ∧ SlN v C r2 (numG xs) ∧ Below W.heap.size W v ∧ C ≤ v.heap.size ∧ k ≤ 0 ∧ RwNd v C s4 []) (([] : List Nd).length + 1) (fun a ha => ⟨ha.keep (fk rfl (fk rfl (fk rfl (fk rfl (fk rfl fn))))), hg, u, (by omega), (Nat.zero_le _), go⟩) ?_
    rintro k a v ht ⟨ha, hg, u, cC, tle, go⟩
    refine cg_at ha ?_
    clear ha a
    have zv := u.size
    have le_g := hg.len; have ca_g := hg.cap
    refine cg_seq ?_
    refine cg_region ?_
    refine za rfl (yb (decide_eq_false (show ¬ (((k : Nat) : Int) < (0 : Int)) from (by omega))) (yi_lss rfl rfl rfl)) rfl rfl ?_
    refine lg_nil ?_
    refine nx (zk5 5 7 36 37 38 rfl rfl rfl rfl rfl (zk1 39 rfl fn)) ?_
    refine cg_seq ?_
    refine cg_cf rfl ?_
    refine cg_exit ?_
    refine eg_seq_exit ?_
    refine eg_seq_exit ?_
    refine eg_block_exit ?_
    refine nx (zk1 7 rfl fn) ?_
    refine cg_seq ?_
    refine cg_region ?_
    refine zM rfl rfl rfl rfl rfl ?_
    refine zA rfl rfl rfl rfl rfl ?_
    refine lg_nil ?_
    refine nx (zk1 4 rfl fn) ?_
    refine cg_ret ?_
    exact eg_ret_tmp rfl rfl ⟨_, rfl, _, rfl, (go.more (by omega)).cast (by rw [hta]; rfl), u⟩
theorem dropO_any {Ls : List Nd} {W : World} {B : Nat} {s r : SlV} {xs : List Int} (h : RwNd W B s Ls) (hn : SlN W B r xs) (hB : B ≤ W.heap.size) (hl : xs.length ≤ 900000) (hti : trIs Ls) (hpos : 0 < Ls.length) : Calls Tryz.prog 17 #[s.v, r.v] W fun e W' => ∃ v, e = .returned v ∧ ∃ r : SlV, v = r.v ∧ RwNd W' W'.heap.size r (dropL xs (trAs Ls)) ∧ Below W.heap.size W W' := by
  have h := h.more hB
  have hn := hn.more hB
  refine calls_cg (n := 55) Tryz.func17 rfl Tryz.ntmps17 (by simp) ?_
  show CG _ _ _ [(0, s.v), (1, r.v)] _ _
  have u := Below.refl W.heap.size W
  have q1 := h.len
  have q2 := h.cap
  have q3 := hn.len
  have q4 := hn.cap
  have htl := trIs_le hti
  have hta := trAs_ok hti
  have hlv : leavesA Ls = (Ls.length + 1) / 2 := rfl
  refine cg_seq ?_
  refine cg_region ?_
  refine zA rfl rfl rfl rfl rfl ?_
  refine lg_nil ?_
  refine nx (zk3 0 1 4 rfl rfl rfl fn) ?_
  refine cg_seq ?_
  refine cg_seq ?_
  refine cg_region ?_
  refine zM rfl rfl rfl rfl rfl ?_
  refine lg_callw (want_none (by rfl)) (sane_any (h.more (B' := W.heap.size) (by omega)) (Nat.le_refl _)) (by kernel_rfl) rfl rfl rfl (by decide) ?_
  rintro u1 w1 ⟨e1, hw1⟩
  have zw1 := hw1.size
  obtain rfl : u1 = .bool true := e1.trans (congrArg Value.bool (decide_eq_true hti))
  refine za rfl (y_bnot rfl rfl) rfl rfl ?_
  refine lg_nil ?_
  refine nx (zk3 0 1 4 rfl rfl rfl (zk1 14 rfl fn)) ?_
  refine cg_cf rfl ?_
  refine cg_skip ?_
  refine nx (zk3 0 1 4 rfl rfl rfl fn) ?_
  refine cg_seq ?_
  refine cg_region ?_
  refine zM rfl rfl rfl rfl rfl ?_
  have hn := hn.below (hw1.mono (by omega))
  refine lg_callw (want_none (by rfl)) (numbers_any (hn.more (B' := w1.heap.size) (by omega)) (Nat.le_refl _) (by first | omega | (simp only [List.length_append, List.length_cons, List.length_nil, numOct_length, flagOct_length]; omega))) (by kernel_rfl) rfl rfl rfl (by decide) ?_
  rintro _ w2 ⟨r2, rfl, m2, hw2⟩
  have zw2 := hw2.size
  have gl2 := numG_le xs
  refine zM rfl rfl rfl rfl rfl ?_
  have h := h.below (hw1.mono (by omega))
  have h := h.below (hw2.mono (by omega))
  refine lg_callw (want_none (by rfl)) ((by have z := leavesT_any (h.more (B' := w2.heap.size) (by omega)) (Nat.le_refl _); rwa [hta] at z)) (by kernel_rfl) rfl rfl rfl (by decide) ?_
  rintro _ w3 ⟨rfl, hw3⟩
  have zw3 := hw3.size
  refine zA rfl rfl rfl rfl rfl ?_
  refine zA rfl rfl rfl rfl rfl ?_
  refine lg_nil ?_
  refine nx (zk3 0 4 5 rfl rfl rfl (zk1 6 rfl fn)) ?_
  refine cg_seq ?_
  refine cg_region ?_
  refine zM rfl rfl rfl rfl rfl ?_
  have h := h.below (hw3.mono (by omega))
  obtain ⟨bc, hbc⟩ : ∃ q, q = w3.heap.size := ⟨_, rfl⟩
  refine lg_callw (want_none (by rfl)) (clone_any (h.more (B' := w3.heap.size) (by omega)) hbc hpos (by first | omega | (simp only [List.length_append, List.length_cons, List.length_nil, List.length_take, List.length_drop, List.length_set, List.length_replicate, clr_len]; omega))) (by kernel_rfl) rfl rfl rfl (by decide) ?_
  rintro _ w4 ⟨s4, rfl, g4, hw4⟩
  have zw4 := hw4.size
  obtain ⟨ga4, gb4, gn4⟩ := OwnNa.of g4 (Nat.le_refl _) (by omega) hpos
  refine zA rfl rfl rfl rfl rfl ?_
  refine lg_nil ?_
  refine nx (zk3 4 5 6 rfl rfl rfl (zk1 7 rfl fn)) ?_
  refine cg_seq ?_
  refine cg_seq ?_
  refine cg_region ?_
  refine zM rfl rfl rfl rfl rfl ?_
  have m2 := m2.below (hw3.mono (by omega))
  have m2 := m2.below (hw4.mono (by omega))
  refine za rfl (y_lenM (el := 3) m2.len (by kernel_rfl) rfl rfl) rfl rfl ?_
  refine zM rfl rfl rfl rfl rfl ?_
  refine lg_nil ?_
  refine nx (zk5 4 5 6 7 21 rfl rfl rfl rfl rfl (zk2 22 23 rfl rfl fn)) ?_
  refine cg_block ?_
  obtain ⟨C, hC⟩ : ∃ q, q = w4.heap.size := ⟨_, rfl⟩
  have u := u.trans (hw1.mono u.size)
  have u := u.trans (hw2.mono u.size)
  have u := u.trans (hw3.mono u.size)
  have u := u.trans (hw4.mono u.size)
  refine cg_loopE (fun t a v => Holds 55 [(5, r2.v), (6, nv ((leavesA Ls : Nat) : Int)), (7, s4.v), (21, r2.v), (22, nv ((numG xs).length : Int)), (23, nv ((t : Nat) : Int))] a ∧ SlN v bc r2 (numG xs) ∧ Below W.heap.size W v ∧ C ≤ v.heap.size ∧ t ≤ (numG xs).length ∧ OwnNa v ga4 v.heap.size s4 (zapL ((numG xs).take t) Ls) ∧ ga4 < v.heap.size) ((numG xs).length + 1) (fun a ha => ⟨ha.keep (fk rfl (fk rfl (fk rfl (fk rfl (fk rfl (fk rfl fn)))))), (m2.more (by omega)), u, (by omega), (Nat.zero_le _), (gn4.up.cast (zap_none Ls).symm), gn4.lt⟩) ?_
  rintro t a v ht ⟨ha, hg, u, cC, tle, go, gC⟩
  refine cg_at ha ?_
  clear ha a
  have zv := u.size
  have le_g := hg.len; have ca_g := hg.cap
  have zl := zapL_len ((numG xs).take t) Ls
  have qg := go.len
  refine cg_seq ?_
  refine cg_region ?_
  by_cases c5 : ((t : Nat) : Int) < ((numG xs).length : Int)
  · refine za rfl (yb (decide_eq_true c5) (yi_lss rfl rfl rfl)) rfl rfl ?_
    refine lg_nil ?_
    refine nx (zk5 5 6 7 21 22 rfl rfl rfl rfl rfl (zk2 23 24 rfl rfl fn)) ?_
    refine cg_seq ?_
    refine cg_ct rfl ?_
    refine cg_skip ?_
    refine nx (zk5 5 6 7 21 22 rfl rfl rfl rfl rfl (zk1 23 rfl fn)) ?_
    refine cg_seq ?_
    refine cg_block ?_
    refine cg_seq ?_
    refine cg_region ?_
    refine za rfl (y_ixT (i := t) (iI := ((t : Nat) : Int)) hg (by omega) (by first | omega | (simp only [List.length_append, List.length_cons, List.length_nil]; omega)) rfl rfl rfl) rfl rfl ?_
    refine za rfl (y_ldT (i := t) hg (by first | omega | (simp only [List.length_append, List.length_cons, List.length_nil]; omega)) rfl rfl) rfl rfl ?_
    refine zA rfl rfl rfl rfl rfl ?_
    refine lg_nil ?_
    refine nx (zk5 5 6 7 21 22 rfl rfl rfl rfl rfl (zk2 23 9 rfl rfl fn)) ?_
    refine cg_seq ?_
    have htn : t < (numG xs).length := by omega
    have hmem := numG_mem.1 (getD_in htn)
    have hm0 := hmem.2
    refine cg_region ?_
    refine zM rfl rfl rfl rfl rfl ?_
    refine zM rfl rfl rfl rfl rfl ?_
    by_cases c6 : ((numG xs).getD t 0) < ((leavesA Ls : Nat) : Int)
    · refine za rfl (yb (decide_eq_true c6) (yi_lss rfl rfl rfl)) rfl rfl ?_
      refine lg_nil ?_
      refine nx (zk5 5 6 7 21 22 rfl rfl rfl rfl rfl (zk3 23 9 29 rfl rfl rfl fn)) ?_
      refine cg_ct rfl ?_
      refine cg_region ?_
      refine zM rfl rfl rfl rfl rfl ?_
      refine zM rfl rfl rfl rfl rfl ?_
      refine za rfl (yv (congrArg nv (show 2 * ((numG xs).getD t 0) = (((2 * ((numG xs).getD t 0)).toNat : Nat) : Int) by omega)) (yi_mul rfl rfl rfl (by omega) (by omega))) rfl rfl ?_
      refine za rfl (y_build (cs := NdV.zero.cs Nd.zero) rfl rfl (by kernel_rfl)) rfl rfl ?_
      refine za rfl (y_ixR (s := s4) (el := 40) (k := 8) (i := ((2 * ((numG xs).getD t 0)).toNat)) (iI := (((2 * ((numG xs).getD t 0)).toNat : Nat) : Int)) go.1 (by kernel_rfl) (by kernel_rfl) (by omega) (by have q1 := go.len; first | omega | (simp only [List.length_append, List.length_cons, List.length_nil, List.length_take, List.length_drop, List.length_set, List.length_replicate, clr_len] at q1; omega)) rfl rfl rfl) rfl rfl ?_
      refine lg_stA (i := ((2 * ((numG xs).getD t 0)).toNat)) go ((IsNd.zero _ 0).more (B' := v.heap.size) (by omega)) (OffNd.zero _) (by first | omega | (simp only [List.length_append, List.length_cons, List.length_nil, List.length_take, List.length_drop, List.length_set, List.length_replicate, clr_len]; omega)) (want_none (by rfl)) rfl rfl rfl rfl fun w7 new7 st7 g7 => ?_
      have z7 := st7.size
      refine lg_nil ?_
      refine eg_block_norm ?_
      refine nx (zk5 5 6 7 21 22 rfl rfl rfl rfl rfl (zk1 23 rfl fn)) ?_
      refine cg_region ?_
      refine za rfl (yv (congrArg nv (show ((t : Nat) : Int) + 1 = ((t + 1 : Nat) : Int) by omega)) (yi_add rfl rfl rfl (by omega) (by omega))) rfl rfl ?_
      refine zM rfl rfl rfl rfl rfl ?_
      refine lg_nil ?_
      have hg := hg.below (st7.below _ (by omega))
      have u := u.trans (st7.below _ (by omega))
      exact fun a ha => (show t < ((numG xs).length + 1) ∧ _ from ⟨(by omega), ha.keep (fk rfl (fk rfl (fk rfl (fk rfl (fk rfl (fk rfl fn)))))), hg, u, (by omega), (by omega), (g7.up.cast (by rw [zap_snoc (by omega) c6, ← (take_succ_getD (numG xs) t htn)])), g7.lt⟩)
    · refine za rfl (yb (decide_eq_false c6) (yi_lss rfl rfl rfl)) rfl rfl ?_
      refine lg_nil ?_
      refine nx (zk5 5 6 7 21 22 rfl rfl rfl rfl rfl (zk3 23 9 29 rfl rfl rfl fn)) ?_
      refine cg_cf rfl ?_
      refine cg_skip ?_
      refine eg_block_norm ?_
      refine nx (zk5 5 6 7 21 22 rfl rfl rfl rfl rfl (zk1 23 rfl fn)) ?_
      refine cg_region ?_
      refine za rfl (yv (congrArg nv (show ((t : Nat) : Int) + 1 = ((t + 1 : Nat) : Int) by omega)) (yi_add rfl rfl rfl (by omega) (by omega))) rfl rfl ?_
      refine zM rfl rfl rfl rfl rfl ?_
      refine lg_nil ?_
      exact fun a ha => (show t < ((numG xs).length + 1) ∧ _ from ⟨(by omega), ha.keep (fk rfl (fk rfl (fk rfl (fk rfl (fk rfl (fk rfl fn)))))), hg, u, (by omega), (by omega), (go.up.cast (by rw [zap_out (l := (numG xs).take t) c6, ← (take_succ_getD (numG xs) t htn)])), go.lt⟩)
  · refine za rfl (yb (decide_eq_false c5) (yi_lss rfl rfl rfl)) rfl rfl ?_
    refine lg_nil ?_
    refine nx (zk5 5 6 7 21 22 rfl rfl rfl rfl rfl (zk2 23 24 rfl rfl fn)) ?_
    refine cg_seq ?_
    refine cg_cf rfl ?_
    refine cg_exit ?_
    refine eg_seq_exit ?_
    refine eg_seq_exit ?_
    refine eg_block_exit ?_
    refine nx (zk2 5 7 rfl rfl fn) ?_
    refine cg_seq ?_
    refine cg_seq ?_
    refine cg_region ?_
    refine zM rfl rfl rfl rfl rfl ?_
    refine za rfl (yv (congrArg nv (by rw [zapL_len])) (y_lenM (el := 40) go.row.len (by kernel_rfl) rfl rfl)) rfl rfl ?_
    refine zM rfl rfl rfl rfl rfl ?_
    refine lg_nil ?_
    refine nx (zk5 5 7 36 37 38 rfl rfl rfl rfl rfl fn) ?_
    refine cg_block ?_
    refine cg_loopE (fun k a v => Holds 55 [(5, r2.v), (7, s4.v), (36, s4.v), (37, nv (Ls.length : Int)), (38, nv ((k : Nat) : Int))] a ∧ SlN v bc r2 (numG xs) ∧ Below W.heap.size W v ∧ C ≤ v.heap.size ∧ k ≤ Ls.length ∧ OwnNa v ga4 v.heap.size s4 (cutL (numG xs) k (zapL (numG xs) Ls)) ∧ ga4 < v.heap.size) (Ls.length + 1) (fun a ha => ⟨ha.keep (fk rfl (fk rfl (fk rfl (fk rfl (fk rfl fn))))), hg, u, (by omega), (Nat.zero_le _), (go.up.cast (by rw [List.take_of_length_le (by omega)]; exact (cut_none _ _).symm)), go.lt⟩) ?_
    rintro k a v ht ⟨ha, hg, u, cC, tle, go, gC⟩
    refine cg_at ha ?_
    clear ha a
    have zv := u.size
    have le_g := hg.len; have ca_g := hg.cap
    have zl := zapL_len (numG xs) Ls
    have cl := cutL_len (numG xs) k (zapL (numG xs) Ls)
    have qg := go.len
    refine cg_seq ?_
    refine cg_region ?_
    by_cases c8 : ((k : Nat) : Int) < (Ls.length : Int)
    · refine za rfl (yb (decide_eq_true c8) (yi_lss rfl rfl rfl)) rfl rfl ?_
      refine lg_nil ?_
      refine nx (zk5 5 7 36 37 38 rfl rfl rfl rfl rfl (zk1 39 rfl fn)) ?_
      refine cg_seq ?_
      refine cg_ct rfl ?_
      refine cg_skip ?_
      refine nx (zk5 5 7 36 37 38 rfl rfl rfl rfl rfl fn) ?_
      refine cg_seq ?_
      refine cg_block ?_
      refine cg_seq ?_
      refine cg_region ?_
      refine zM rfl rfl rfl rfl rfl ?_
      refine za rfl (y_ixR (s := s4) (el := 40) (k := 8) (i := k) (iI := ((k : Nat) : Int)) go.1 (by kernel_rfl) (by kernel_rfl) (by omega) (by have q1 := go.len; first | omega | (simp only [List.length_append, List.length_cons, List.length_nil, List.length_take, List.length_drop, List.length_set, List.length_replicate, clr_len] at q1; omega)) rfl rfl rfl) rfl rfl ?_
      obtain ⟨el9, eh9, ef9, ec9⟩ := go.at (i := k) (by first | omega | (simp only [List.length_append, List.length_cons, List.length_nil, List.length_take, List.length_drop, List.length_set, List.length_replicate, clr_len]; omega))
      refine za rfl (y_loadC (cs := el9.cs (atN (cutL (numG xs) k (zapL (numG xs) Ls)) k)) ec9 (by kernel_rfl) (by kernel_rfl) rfl rfl) rfl rfl ?_
      refine lg_allocw (cs := NdV.zero.cs Nd.zero) (want_none (by rfl)) rfl (by kernel_rfl) rfl (by decide) fun b10 w10 n10 => ?_
      have r10 := n10.row
      have k10 := n10.blk
      have z10 := n10.size
      have lt10 : b10 < w10.heap.size := by omega
      refine zA rfl rfl rfl rfl rfl ?_
      have o11 := r10
      refine lg_stw (want_none (by rfl)) r10 rfl rfl rfl (by kernel_rfl) (by kernel_rfl) rfl rfl fun w11 s11 => ?_
      have r10 := s11.row
      have z11 := s11.size
      refine lg_nil ?_
      refine nx (zk5 5 7 36 37 38 rfl rfl rfl rfl rfl (zk2 11 10 rfl rfl fn)) ?_
      have hun := drop_unm hti (numG xs) (k := k) (i := k) (by omega)
      refine cg_region ?_
      refine zM rfl rfl rfl rfl rfl ?_
      refine zM rfl rfl rfl rfl rfl ?_
      refine za rfl (y_fld (off := 5) (by kernel_rfl) rfl rfl) rfl rfl ?_
      refine za rfl (y_fld (off := 2) (by kernel_rfl) rfl rfl) rfl rfl ?_
      refine za rfl (y_cellv (v := el9.inner.unm.v) r10 rfl (by kernel_rfl) rfl rfl) rfl rfl ?_
      refine zM rfl rfl rfl rfl rfl ?_
      have eh9 := eh9.below (n10.below.mono (by omega))
      have eh9 := eh9.below (s11.below _ (by omega))
      have hg := hg.below (n10.below.mono (by omega))
      have hg := hg.below (s11.below _ (by omega))
      refine lg_callw (want_none (by rfl)) (cutPF_any (eh9.inner.unm.more (B' := w11.heap.size) (by omega)) (hg.more (B' := w11.heap.size) (by omega)) (Nat.le_refl _) (Nat.le_refl _) (by first | omega | (simp only [List.length_append, List.length_cons, List.length_nil, numOct_length, flagOct_length]; omega)) (by first | omega | (simp only [List.length_append, List.length_cons, List.length_nil, numOct_length, flagOct_length]; omega))) (by kernel_rfl) rfl rfl rfl (by decide) ?_
      rintro _ w12 ⟨r12, rfl, m12, f12, hw12⟩
      have zw12 := hw12.size
      have go := go.below n10.below
      have go := go.set1 s11 (by omega) (by omega)
      have go := go.below hw12
      refine za rfl (y_ixR (s := s4) (el := 40) (k := 8) (i := k) (iI := ((k : Nat) : Int)) go.1 (by kernel_rfl) (by kernel_rfl) (by omega) (by have q1 := go.len; first | omega | (simp only [List.length_append, List.length_cons, List.length_nil, List.length_take, List.length_drop, List.length_set, List.length_replicate, clr_len] at q1; omega)) rfl rfl rfl) rfl rfl ?_
      refine za rfl (y_fld (off := 5) (by kernel_rfl) rfl rfl) rfl rfl ?_
      refine za rfl (y_fld (off := 2) (by kernel_rfl) rfl rfl) rfl rfl ?_
      refine lg_stU (i := k) (r := r12) go (m12.more (B' := w12.heap.size) (by omega)) (OffS.fr f12 (by omega)) (by first | omega | (simp only [List.length_append, List.length_cons, List.length_nil, List.length_take, List.length_drop, List.length_set, List.length_replicate, clr_len]; omega)) (want_none (by rfl)) rfl rfl rfl rfl fun w13 new13 st13 g13 => ?_
      have z13 := st13.size
      refine lg_nil ?_
      refine eg_block_norm ?_
      refine nx (zk5 5 7 36 37 38 rfl rfl rfl rfl rfl fn) ?_
      refine cg_region ?_
      refine za rfl (yv (congrArg nv (show ((k : Nat) : Int) + 1 = ((k + 1 : Nat) : Int) by omega)) (yi_add rfl rfl rfl (by omega) (by omega))) rfl rfl ?_
      refine zM rfl rfl rfl rfl rfl ?_
      refine lg_nil ?_
      have hg := hg.below (hw12.mono (by omega))
      have hg := hg.below (st13.below _ (by omega))
      have u := u.trans (n10.below.mono u.size)
      have u := u.trans (s11.below _ (by omega))
      have u := u.trans (hw12.mono u.size)
      have u := u.trans (st13.below _ (by omega))
      exact fun a ha => (show k < (Ls.length + 1) ∧ _ from ⟨(by omega), ha.keep (fk rfl (fk rfl (fk rfl (fk rfl (fk rfl fn))))), hg, u, (by omega), (by omega), (g13.up.cast (cut_snoc (l := (numG xs)) (t := zapL (numG xs) Ls) (by omega))), g13.lt⟩)
    · refine za rfl (yb (decide_eq_false c8) (yi_lss rfl rfl rfl)) rfl rfl ?_
      refine lg_nil ?_
      refine nx (zk5 5 7 36 37 38 rfl rfl rfl rfl rfl (zk1 39 rfl fn)) ?_
      refine cg_seq ?_
      refine cg_cf rfl ?_
      refine cg_exit ?_
      refine eg_seq_exit ?_
      refine eg_seq_exit ?_
      refine eg_block_exit ?_
      refine nx (zk1 7 rfl fn) ?_
      refine cg_seq ?_
      refine cg_region ?_
      refine zM rfl rfl rfl rfl rfl ?_
      refine zA rfl rfl rfl rfl rfl ?_
      refine lg_nil ?_
      refine nx (zk1 4 rfl fn) ?_
      refine cg_ret ?_
      obtain rfl : k = Ls.length := by omega
      exact eg_ret_tmp rfl rfl ⟨_, rfl, _, rfl, go.row.cast (by have e := cut_zap (numG xs) Ls; rw [e, drop_num hti, hta]), u⟩
theorem drop_any {Ls : List Nd} {W : World} {B : Nat} {s r : SlV} {xs : List Int} (h : RwNd W B s Ls) (hn : SlN W B r xs) (hB : B ≤ W.heap.size) (hl : xs.length ≤ 900000) : Calls Tryz.prog 17 #[s.v, r.v] W fun e W' => ∃ v, e = .returned v ∧ ∃ r : SlV, v = r.v ∧ RwNd W' W'.heap.size r (dropL xs (trAs Ls)) ∧ Below W.heap.size W W' := by
  by_cases hti : trIs Ls
  · by_cases hpos : 0 < Ls.length
    · exact dropO_any h hn hB hl hti hpos
    · obtain rfl : Ls = [] := List.eq_nil_of_length_eq_zero (by omega)
      exact dropE_any h hn hB hl hti
  · exact dropN_any h hn hB hl hti
theorem without_any {W : World} {B : Nat} {s r : SlV} {Ls : List Nd} {xs : List Int} (h : RwNd W B s Ls) (x : Int) (hn : SlN W B r xs) (hB : B ≤ W.heap.size) (hl : xs.length ≤ 900000) (rg : Tt W) : Calls Tryz.prog 19 #[s.v, nv x, r.v] W fun e W' => ∃ v, e = .returned v ∧ ∃ r : SlV, v = r.v ∧ Sl W' W'.heap.size r (ofH (dropL xs (trAs Ls)) x) ∧ Below W.heap.size W W' := by
  have h := h.more hB
  have hn := hn.more hB
  refine calls_cg (n := 12) Tryz.func19 rfl Tryz.ntmps19 (by simp) ?_
  show CG _ _ _ [(0, s.v), (1, nv x), (2, r.v)] _ _
  have u := Below.refl W.heap.size W
  refine cg_seq ?_
  refine cg_region ?_
  refine zA rfl rfl rfl rfl rfl ?_
  refine lg_nil ?_
  refine nx (zk3 0 1 2 rfl rfl rfl (zk1 6 rfl fn)) ?_
  refine cg_seq ?_
  refine cg_region ?_
  refine zM rfl rfl rfl rfl rfl ?_
  refine zM rfl rfl rfl rfl rfl ?_
  refine lg_callw (want_none (by rfl)) (drop_any (h.more (B' := W.heap.size) (by omega)) (hn.more (B' := W.heap.size) (by omega)) (Nat.le_refl _) (by first | omega | (simp only [List.length_append, List.length_cons, List.length_nil, numOct_length, flagOct_length]; omega))) (by kernel_rfl) rfl rfl rfl (by decide) ?_
  rintro _ w1 ⟨s1, rfl, m1, hw1⟩
  have zw1 := hw1.size
  refine zM rfl rfl rfl rfl rfl ?_
  have u := u.trans (hw1.mono u.size)
  refine lg_callw (want_none (by rfl)) (of_any (m1.more (B' := w1.heap.size) (by omega)) x (Nat.le_refl _) (Tt.up u rg)) (by kernel_rfl) rfl rfl rfl (by decide) ?_
  rintro _ w2 ⟨r2, rfl, m2, hw2⟩
  have zw2 := hw2.size
  have ol2 := ofH_len (trAs (dropL xs (trAs Ls))) x
  refine zA rfl rfl rfl rfl rfl ?_
  refine lg_nil ?_
  refine nx (zk1 6 rfl fn) ?_
  refine cg_ret ?_
  have u := u.trans (hw2.mono u.size)
  exact eg_ret_tmp rfl rfl ⟨_, rfl, _, rfl, (by have z := m2; rwa [trAs_ok (drop_is (trAs_is Ls) xs)] at z), u⟩
end Go.Proofs.YtkcpmpbjjnknhaaGreatDoor
