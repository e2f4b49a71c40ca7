/-
  What is cut lies in memory of its own.
-/
import Derived.Test.YtkcpmpbjjnknhaaGreatDoorPnJoin
namespace Go.Proofs.YtkcpmpbjjnknhaaGreatDoor
open Go.ChangeShapes Go.WideShapes Go.ChangeAt Go.RowKit
set_option linter.unusedVariables false

theorem own_fr {w : World} {a base k n : Nat} {v : Value} {r : SlV} {xs : List Value} (h : w.ownsRow base 3 1 v k xs) (e : v = r.v) (hb : a ≤ base) : Fr a r := fun p q => by
  obtain ⟨A, m, c⟩ := r
  obtain rfl : A = some p := q
  have := (h.lt p.block (by rw [e]; rfl)).1
  omega
def PutNF (w : World) (ys : List Int) (v : Value) (w' : World) : Prop := ∃ r : SlV, v = r.v ∧ SlN w' w'.heap.size r ys ∧ Fr w.heap.size r ∧ Below w.heap.size w w'
section
variable {w W : World} {B B2 : Nat} {s s2 : SlV} {xs ys : List Int}
theorem thinnedPF_any (h : SlN W B s xs) (h2 : SlN W B2 s2 ys) (hrise : Rising ys) (hB : B ≤ W.heap.size) (hB2 : B2 ≤ W.heap.size) (hn : xs.length ≤ 1000000) (hn2 : ys.length ≤ 1000000) : Calls Tryz.prog 75 #[s.v, s2.v] W fun e w' => ∃ v, e = .returned v ∧ PutNF W (cutK xs ys) v w' := by
  refine calls_cg (n := 30) Tryz.func75 rfl Tryz.ntmps75 (by simp) ?_
  show CG _ _ _ [(0, s.v), (1, s2.v)] _ _
  have u := Below.refl W.heap.size W
  have le_h := h.len; have ca_h := h.cap
  have le_h2 := h2.len; have ca_h2 := h2.cap
  refine cg_seq ?_
  refine cg_region ?_
  refine zA rfl rfl rfl rfl rfl ?_
  refine lg_nil ?_
  refine nx (zk3 0 1 4 rfl rfl rfl fn) ?_
  refine cg_seq ?_
  refine cg_region ?_
  refine zA rfl rfl rfl rfl rfl ?_
  refine lg_nil ?_
  refine nx (zk3 0 1 4 rfl rfl rfl (zk1 5 rfl fn)) ?_
  refine cg_seq ?_
  refine cg_seq ?_
  refine cg_region ?_
  refine zM rfl rfl rfl rfl rfl ?_
  refine za rfl (y_lenM (el := 3) h.len (by kernel_rfl) rfl rfl) rfl rfl ?_
  refine zM rfl rfl rfl rfl rfl ?_
  refine lg_nil ?_
  refine nx (zk5 1 4 5 10 11 rfl rfl rfl rfl rfl (zk1 12 rfl fn)) ?_
  refine cg_block ?_
  obtain ⟨C, hC⟩ : ∃ q, q = W.heap.size := ⟨_, rfl⟩
  refine cg_loopE (fun t a v => ∃ (r : SlV), Holds 30 [(1, s2.v), (5, r.v), (10, s.v), (11, nv (xs.length : Int)), (12, nv ((t : Nat) : Int))] a ∧ SlN v B s xs ∧ SlN v B2 s2 ys ∧ Below W.heap.size W v ∧ t ≤ xs.length ∧ C ≤ v.heap.size ∧ v.ownsRow C 3 1 r.v (cutK (xs.take t) ys).length ((cutK (xs.take t) ys).map (Value.int .i64))) xs.length (fun a ha => ⟨nilS, ha.keep (fk rfl (fk rfl (fk rfl (fk rfl (fk rfl fn))))), h, h2, u, (Nat.zero_le _), (by omega), (own_nilN _ _)⟩) ?_
  rintro t a v ht ⟨r, ha, h, h2, u, tle, cC, own⟩
  refine cg_at ha ?_
  clear ha a
  have zv := u.size
  have lc := cutK_length (xs.take t) ys
  rw [List.length_take] at lc
  refine cg_seq ?_
  refine cg_region ?_
  by_cases c1 : ((t : Nat) : Int) < (xs.length : Int)
  · refine za rfl (yb (decide_eq_true c1) (yi_lss rfl rfl rfl)) rfl rfl ?_
    refine lg_nil ?_
    refine nx (zk5 1 5 10 11 12 rfl rfl rfl rfl rfl (zk1 13 rfl fn)) ?_
    refine cg_seq ?_
    refine cg_ct rfl ?_
    refine cg_skip ?_
    refine nx (zk5 1 5 10 11 12 rfl rfl rfl rfl rfl fn) ?_
    refine cg_seq ?_
    refine cg_block ?_
    refine cg_seq ?_
    refine cg_region ?_
    refine za rfl (y_ixT (i := t) (iI := ((t : Nat) : Int)) h (by omega) (by omega) rfl rfl rfl) rfl rfl ?_
    refine za rfl (y_ldT (i := t) h (by omega) rfl rfl) rfl rfl ?_
    refine zA rfl rfl rfl rfl rfl ?_
    refine lg_nil ?_
    refine nx (zk5 1 5 10 11 12 rfl rfl rfl rfl rfl (zk1 7 rfl fn)) ?_
    refine cg_seq ?_
    refine cg_region ?_
    refine zM rfl rfl rfl rfl rfl ?_
    refine zM rfl rfl rfl rfl rfl ?_
    by_cases c2 : (xs.getD t 0) ∈ ys
    · refine lg_callw (want_none (by rfl)) (search_S h2 hrise (by omega)) (by kernel_rfl) rfl rfl rfl (by decide) ?_
      rintro _ w3 ⟨k3, bb3, rfl, e3, hw3⟩
      have zw3 := hw3.size
      obtain rfl : bb3 = true := e3.trans (decide_eq_true c2)
      refine zM rfl rfl rfl rfl rfl ?_
      refine za rfl (y_extract rfl rfl rfl) rfl rfl ?_
      refine za rfl (y_extract rfl rfl rfl) rfl rfl ?_
      refine zA rfl rfl rfl rfl rfl ?_
      refine zA rfl rfl rfl rfl rfl ?_
      refine lg_nil ?_
      refine nx (zk5 1 5 10 11 12 rfl rfl rfl rfl rfl (zk2 7 9 rfl rfl fn)) ?_
      refine cg_seq ?_
      refine cg_region ?_
      refine zM rfl rfl rfl rfl rfl ?_
      refine za rfl (y_bnot rfl rfl) rfl rfl ?_
      refine lg_nil ?_
      refine nx (zk5 1 5 10 11 12 rfl rfl rfl rfl rfl (zk2 7 23 rfl rfl fn)) ?_
      refine cg_cf rfl ?_
      refine cg_skip ?_
      refine eg_block_norm ?_
      refine nx (zk5 1 5 10 11 12 rfl rfl rfl rfl rfl fn) ?_
      refine cg_region ?_
      refine za rfl (yv (congrArg nv (show ((t : Nat) : Int) + 1 = ((t + 1 : Nat) : Int) by omega)) (yi_add rfl rfl rfl (by omega) (by omega))) rfl rfl ?_
      refine zM rfl rfl rfl rfl rfl ?_
      refine lg_nil ?_
      have own := own_below own hw3
      have h := h.below (hw3.mono (by omega))
      have h2 := h2.below (hw3.mono (by omega))
      have u := u.trans (hw3.mono u.size)
      exact fun a ha => (show t < xs.length ∧ _ from ⟨(by omega), r, ha.keep (fk rfl (fk rfl (fk rfl (fk rfl (fk rfl fn))))), h, h2, u, (by omega), (by omega), (by rw [cutK_take (by omega), if_pos c2, List.append_nil]; exact own)⟩)
    · refine lg_callw (want_none (by rfl)) (search_S h2 hrise (by omega)) (by kernel_rfl) rfl rfl rfl (by decide) ?_
      rintro _ w4 ⟨k4, bb4, rfl, e4, hw4⟩
      have zw4 := hw4.size
      obtain rfl : bb4 = false := e4.trans (decide_eq_false c2)
      refine zM rfl rfl rfl rfl rfl ?_
      refine za rfl (y_extract rfl rfl rfl) rfl rfl ?_
      refine za rfl (y_extract rfl rfl rfl) rfl rfl ?_
      refine zA rfl rfl rfl rfl rfl ?_
      refine zA rfl rfl rfl rfl rfl ?_
      refine lg_nil ?_
      refine nx (zk5 1 5 10 11 12 rfl rfl rfl rfl rfl (zk2 7 9 rfl rfl fn)) ?_
      refine cg_seq ?_
      refine cg_region ?_
      refine zM rfl rfl rfl rfl rfl ?_
      refine za rfl (y_bnot rfl rfl) rfl rfl ?_
      refine lg_nil ?_
      refine nx (zk5 1 5 10 11 12 rfl rfl rfl rfl rfl (zk2 7 23 rfl rfl fn)) ?_
      refine cg_ct rfl ?_
      refine cg_region ?_
      refine zM rfl rfl rfl rfl rfl ?_
      refine zM rfl rfl rfl rfl rfl ?_
      refine lg_bslice (el := 3) (z := nv 0) (cs := #[nv (xs.getD t 0)]) huIs (by kernel_rfl) (by decide) (by decide) rfl rfl (by kernel_rfl) rfl rfl (by decide) fun b5 w5 n5 => ?_
      have r5 := n5.row
      have k5 := n5.blk
      have z5 := n5.size
      have m5 : SlN w5 (b5 + 1) ⟨some ⟨b5, 0, none⟩, 1, 1⟩ [(xs.getD t 0)] := new_SlN (xs := [(xs.getD t 0)]) r5 rfl (of_decide_eq_true (by kernel_rfl))
      have og5 : w5.ownsRow b5 3 1 (.slice (some ⟨b5, 0, none⟩) 1 1) ([(xs.getD t 0)] : List Int).length (([(xs.getD t 0)] : List Int).map (Value.int .i64)) := new_ownN (xs := [(xs.getD t 0)]) n5 rfl (of_decide_eq_true (by kernel_rfl))
      have own := own_below own hw4
      have own := own_below own n5.below
      refine lg_appT own m5 (by first | omega | (simp only [List.length_cons, List.length_nil]; omega)) (by omega) (want_none (by rfl)) rfl rfl rfl rfl rfl (by decide) fun r6 w6 m6 g6 l6 z6 => ?_
      refine zA rfl rfl rfl rfl rfl ?_
      refine lg_nil ?_
      refine eg_block_norm ?_
      refine nx (zk5 1 10 11 12 5 rfl rfl rfl rfl rfl fn) ?_
      refine cg_region ?_
      refine za rfl (yv (congrArg nv (show ((t : Nat) : Int) + 1 = ((t + 1 : Nat) : Int) by omega)) (yi_add rfl rfl rfl (by omega) (by omega))) rfl rfl ?_
      refine zM rfl rfl rfl rfl rfl ?_
      refine lg_nil ?_
      have h := h.below (hw4.mono (by omega))
      have h := h.below (n5.below.mono (by omega))
      have h := h.below (l6.mono (by omega))
      have h2 := h2.below (hw4.mono (by omega))
      have h2 := h2.below (n5.below.mono (by omega))
      have h2 := h2.below (l6.mono (by omega))
      have u := u.trans (hw4.mono u.size)
      have u := u.trans (n5.below.mono u.size)
      have u := u.trans (l6.mono (by omega))
      exact fun a ha => (show t < xs.length ∧ _ from ⟨(by omega), r6, ha.keep (fk rfl (fk rfl (fk rfl (fk rfl (fk rfl fn))))), h, h2, u, (by omega), (by omega), (by rw [cutK_take (by omega), if_neg c2]; exact g6)⟩)
  · refine za rfl (yb (decide_eq_false c1) (yi_lss rfl rfl rfl)) rfl rfl ?_
    refine lg_nil ?_
    refine nx (zk5 1 5 10 11 12 rfl rfl rfl rfl rfl (zk1 13 rfl fn)) ?_
    refine cg_seq ?_
    refine cg_cf rfl ?_
    refine cg_exit ?_
    refine eg_seq_exit ?_
    refine eg_seq_exit ?_
    refine eg_block_exit ?_
    refine nx (zk1 5 rfl fn) ?_
    refine cg_seq ?_
    refine cg_region ?_
    refine zM rfl rfl rfl rfl rfl ?_
    refine zA rfl rfl rfl rfl rfl ?_
    refine lg_nil ?_
    refine nx (zk1 4 rfl fn) ?_
    refine cg_ret ?_
    have gq := own
    rw [List.take_of_length_le (by omega)] at gq
    obtain ⟨r, er, hr⟩ := own_SlN gq
    exact eg_ret_tmp rfl rfl ⟨_, rfl, r, er, hr, own_fr (n := 0) gq er (by omega), u⟩
theorem cutPF_any (h : SlN W B s xs) (h2 : SlN W B2 s2 ys) (hB : B ≤ W.heap.size) (hB2 : B2 ≤ W.heap.size) (hn : xs.length ≤ 900000) (hn2 : ys.length ≤ 900000) : Calls Tryz.prog 41 #[s.v, s2.v] W fun e w' => ∃ v, e = .returned v ∧ PutNF W (cutK xs ys) v w' := by
  refine calls_cg (n := 9) Tryz.func41 rfl Tryz.ntmps41 (by simp) ?_
  show CG _ _ _ [(0, s.v), (1, s2.v)] _ _
  have u := Below.refl W.heap.size W
  refine cg_seq ?_
  refine cg_region ?_
  refine zA rfl rfl rfl rfl rfl ?_
  refine lg_nil ?_
  refine nx (zk3 0 1 4 rfl rfl rfl fn) ?_
  refine cg_seq ?_
  refine cg_region ?_
  refine zM rfl rfl rfl rfl rfl ?_
  refine zM rfl rfl rfl rfl rfl ?_
  refine lg_callw (want_none (by rfl)) (sortedP_any h2 (SlN.nil _ _) (by omega) (by omega) (by first | omega | (simp only [List.length_nil]; omega))) (by kernel_rfl) rfl rfl rfl (by decide) ?_
  rintro _ w1 ⟨r1, rfl, m1, hw1⟩
  have zw1 := hw1.size
  rw [List.append_nil] at m1
  have lr1 := riseU_length ys
  have h := h.below (hw1.mono (by omega))
  refine lg_callw (want_none (by rfl)) (thinnedPF_any h m1 (riseU_rising _) (by omega) (by omega) (by omega) (by first | omega | (simp only [List.length_append, List.length_cons, List.length_nil, numOct_length]; omega))) (by kernel_rfl) rfl rfl rfl (by decide) ?_
  rintro _ w2 ⟨r2, rfl, m2, f2, hw2⟩
  have zw2 := hw2.size
  refine zA rfl rfl rfl rfl rfl ?_
  refine lg_nil ?_
  refine nx (zk1 4 rfl fn) ?_
  refine cg_ret ?_
  have u := u.trans (hw1.mono u.size)
  have u := u.trans (hw2.mono u.size)
  exact eg_ret_tmp rfl rfl ⟨_, rfl, r2, rfl, m2.cast (cutK_congr fun _ => riseU_mem), Fr.le f2 (by omega), u⟩
theorem rcutF_any (h : SlN W B s xs) (h2 : SlN W B2 s2 ys) (hB : B ≤ W.heap.size) (hB2 : B2 ≤ W.heap.size) (hn : xs.length ≤ 900000) (hn2 : ys.length ≤ 900000) : Calls Tryz.prog 43 #[s.v, s2.v] W fun e w' => ∃ v, e = .returned v ∧ PutNF W (cutK xs ys) v w' := by
  refine calls_cg (n := 28) Tryz.func43 rfl Tryz.ntmps43 (by simp) ?_
  show CG _ _ _ [(0, s.v), (1, s2.v)] _ _
  have u := Below.refl W.heap.size W
  have le_h := h.len; have ca_h := h.cap
  have le_h2 := h2.len; have ca_h2 := h2.cap
  refine cg_seq ?_
  refine cg_region ?_
  refine zA rfl rfl rfl rfl rfl ?_
  refine lg_nil ?_
  refine nx (zk3 0 1 4 rfl rfl rfl fn) ?_
  refine cg_seq ?_
  refine cg_region ?_
  refine zA rfl rfl rfl rfl rfl ?_
  refine lg_nil ?_
  refine nx (zk3 0 1 4 rfl rfl rfl (zk1 5 rfl fn)) ?_
  refine cg_seq ?_
  refine cg_seq ?_
  refine cg_region ?_
  refine zA rfl rfl rfl rfl rfl ?_
  refine lg_nil ?_
  refine nx (zk5 0 1 4 5 6 rfl rfl rfl rfl rfl fn) ?_
  refine cg_block ?_
  obtain ⟨C, hC⟩ : ∃ q, q = W.heap.size := ⟨_, rfl⟩
  refine cg_loopE (fun t a v => ∃ (r : SlV), Holds 28 [(0, s.v), (1, s2.v), (5, r.v), (6, nv ((t : Nat) : Int))] a ∧ SlN v B s xs ∧ SlN v B2 s2 ys ∧ Below W.heap.size W v ∧ t ≤ xs.length ∧ C ≤ v.heap.size ∧ v.ownsRow C 3 1 r.v (cutK (xs.take t) ys).length ((cutK (xs.take t) ys).map (Value.int .i64))) xs.length (fun a ha => ⟨nilS, ha.keep (fk rfl (fk rfl (fk rfl (fk rfl fn)))), h, h2, u, (Nat.zero_le _), (by omega), (own_nilN _ _)⟩) ?_
  rintro t a v ht ⟨r, ha, h, h2, u, tle, cC, own⟩
  refine cg_at ha ?_
  clear ha a
  have zv := u.size
  have lc := cutK_length (xs.take t) ys
  rw [List.length_take] at lc
  refine cg_seq ?_
  refine cg_seq ?_
  refine cg_region ?_
  refine zM rfl rfl rfl rfl rfl ?_
  refine zM rfl rfl rfl rfl rfl ?_
  refine za rfl (y_lenM (el := 3) h.len (by kernel_rfl) rfl rfl) rfl rfl ?_
  by_cases c1 : ((t : Nat) : Int) < (xs.length : Int)
  · refine za rfl (yb (decide_eq_true c1) (yi_lss rfl rfl rfl)) rfl rfl ?_
    refine lg_nil ?_
    refine nx (zk5 0 1 5 6 10 rfl rfl rfl rfl rfl fn) ?_
    refine cg_ct rfl ?_
    refine cg_skip ?_
    refine nx (zk3 0 1 5 rfl rfl rfl (zk1 6 rfl fn)) ?_
    refine cg_seq ?_
    refine cg_block ?_
    refine cg_seq ?_
    refine cg_region ?_
    refine zM rfl rfl rfl rfl rfl ?_
    refine zM rfl rfl rfl rfl rfl ?_
    refine zM rfl rfl rfl rfl rfl ?_
    refine za rfl (y_ixT (i := t) (iI := ((t : Nat) : Int)) h (by omega) (by omega) rfl rfl rfl) rfl rfl ?_
    refine za rfl (y_ldT (i := t) h (by omega) rfl rfl) rfl rfl ?_
    by_cases c2 : (xs.getD t 0) ∈ ys
    · refine za rfl (yb (decide_eq_true c2) (y_call (has_any h2 (xs.getD t 0)) (by kernel_rfl) rfl rfl)) rfl rfl ?_
      refine za rfl (y_bnot rfl rfl) rfl rfl ?_
      refine lg_nil ?_
      refine nx (zk5 0 1 5 6 19 rfl rfl rfl rfl rfl fn) ?_
      refine cg_cf rfl ?_
      refine cg_skip ?_
      refine eg_block_norm ?_
      refine nx (zk3 0 1 5 rfl rfl rfl (zk1 6 rfl fn)) ?_
      refine cg_region ?_
      refine zM rfl rfl rfl rfl rfl ?_
      refine za rfl (yv (congrArg nv (show ((t : Nat) : Int) + 1 = ((t + 1 : Nat) : Int) by omega)) (yi_add rfl rfl rfl (by omega) (by omega))) rfl rfl ?_
      refine zA rfl rfl rfl rfl rfl ?_
      refine lg_nil ?_
      exact fun a ha => (show t < xs.length ∧ _ from ⟨(by omega), r, ha.keep (fk rfl (fk rfl (fk rfl (fk rfl fn)))), h, h2, u, (by omega), (by omega), (by rw [cutK_take (by omega), if_pos c2, List.append_nil]; exact own)⟩)
    · refine za rfl (yb (decide_eq_false c2) (y_call (has_any h2 (xs.getD t 0)) (by kernel_rfl) rfl rfl)) rfl rfl ?_
      refine za rfl (y_bnot rfl rfl) rfl rfl ?_
      refine lg_nil ?_
      refine nx (zk5 0 1 5 6 19 rfl rfl rfl rfl rfl fn) ?_
      refine cg_ct rfl ?_
      refine cg_region ?_
      refine zM rfl rfl rfl rfl rfl ?_
      refine zM rfl rfl rfl rfl rfl ?_
      refine zM rfl rfl rfl rfl rfl ?_
      refine za rfl (y_ixT (i := t) (iI := ((t : Nat) : Int)) h (by omega) (by omega) rfl rfl rfl) rfl rfl ?_
      refine za rfl (y_ldT (i := t) h (by omega) rfl rfl) rfl rfl ?_
      refine lg_bslice (el := 3) (z := nv 0) (cs := #[nv (xs.getD t 0)]) huIs (by kernel_rfl) (by decide) (by decide) rfl rfl (by kernel_rfl) rfl rfl (by decide) fun b3 w3 n3 => ?_
      have r3 := n3.row
      have k3 := n3.blk
      have z3 := n3.size
      have m3 : SlN w3 (b3 + 1) ⟨some ⟨b3, 0, none⟩, 1, 1⟩ [(xs.getD t 0)] := new_SlN (xs := [(xs.getD t 0)]) r3 rfl (of_decide_eq_true (by kernel_rfl))
      have og3 : w3.ownsRow b3 3 1 (.slice (some ⟨b3, 0, none⟩) 1 1) ([(xs.getD t 0)] : List Int).length (([(xs.getD t 0)] : List Int).map (Value.int .i64)) := new_ownN (xs := [(xs.getD t 0)]) n3 rfl (of_decide_eq_true (by kernel_rfl))
      have own := own_below own n3.below
      refine lg_appT own m3 (by first | omega | (simp only [List.length_cons, List.length_nil]; omega)) (by omega) (want_none (by rfl)) rfl rfl rfl rfl rfl (by decide) fun r4 w4 m4 g4 l4 z4 => ?_
      refine zA rfl rfl rfl rfl rfl ?_
      refine lg_nil ?_
      refine eg_block_norm ?_
      refine nx (zk3 0 1 6 rfl rfl rfl (zk1 5 rfl fn)) ?_
      refine cg_region ?_
      refine zM rfl rfl rfl rfl rfl ?_
      refine za rfl (yv (congrArg nv (show ((t : Nat) : Int) + 1 = ((t + 1 : Nat) : Int) by omega)) (yi_add rfl rfl rfl (by omega) (by omega))) rfl rfl ?_
      refine zA rfl rfl rfl rfl rfl ?_
      refine lg_nil ?_
      have h := h.below (n3.below.mono (by omega))
      have h := h.below (l4.mono (by omega))
      have h2 := h2.below (n3.below.mono (by omega))
      have h2 := h2.below (l4.mono (by omega))
      have u := u.trans (n3.below.mono u.size)
      have u := u.trans (l4.mono (by omega))
      exact fun a ha => (show t < xs.length ∧ _ from ⟨(by omega), r4, ha.keep (fk rfl (fk rfl (fk rfl (fk rfl fn)))), h, h2, u, (by omega), (by omega), (by rw [cutK_take (by omega), if_neg c2]; exact g4)⟩)
  · refine za rfl (yb (decide_eq_false c1) (yi_lss rfl rfl rfl)) rfl rfl ?_
    refine lg_nil ?_
    refine nx (zk5 0 1 5 6 10 rfl rfl rfl rfl rfl fn) ?_
    refine cg_cf rfl ?_
    refine cg_exit ?_
    refine eg_seq_exit ?_
    refine eg_seq_exit ?_
    refine eg_block_exit ?_
    refine nx (zk1 5 rfl fn) ?_
    refine cg_seq ?_
    refine cg_region ?_
    refine zM rfl rfl rfl rfl rfl ?_
    refine zA rfl rfl rfl rfl rfl ?_
    refine lg_nil ?_
    refine nx (zk1 4 rfl fn) ?_
    refine cg_ret ?_
    have gq := own
    rw [List.take_of_length_le (by omega)] at gq
    obtain ⟨r, er, hr⟩ := own_SlN gq
    exact eg_ret_tmp rfl rfl ⟨_, rfl, r, er, hr, own_fr (n := 0) gq er (by omega), u⟩
end
end Go.Proofs.YtkcpmpbjjnknhaaGreatDoor
