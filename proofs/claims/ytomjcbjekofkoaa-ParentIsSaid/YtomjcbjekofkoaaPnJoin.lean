/-
  Joined and cut: the program; cut: the document.
-/
import Derived.Test.YtomjcbjekofkoaaPnNum
import Derived.Test.YtomjcbjekofkoaaNuLib
namespace Go.Proofs.Ytomjcbjekofkoaa
open Go.ChangeShapes Go.WideShapes Go.ChangeAt Go.RowKit
set_option linter.unusedVariables false

def PutN (w : World) (ys : List Int) (v : Value) (w' : World) : Prop := ∃ r : SlV, v = r.v ∧ SlN w' w'.heap.size r ys ∧ Below w.heap.size w w'
section
variable {w W : World} {B B2 : Nat} {s s2 : SlV} {xs ys : List Int}
theorem sortedP_any (h : SlN W B s xs) (h2 : SlN W B2 s2 ys) (hB : B ≤ W.heap.size) (hB2 : B2 ≤ W.heap.size) (hn : xs.length + ys.length ≤ 1000000) : Calls Try.prog 40 #[s.v, s2.v] W fun e w' => ∃ v, e = .returned v ∧ PutN W (riseU (xs ++ ys)) v w' := by
  refine calls_cg (n := 14) Try.func40 rfl Try.ntmps40 (by simp) ?_
  show CG _ _ _ [(0, s.v), (1, s2.v)] _ _
  have u := Below.refl W.heap.size W
  refine cg_seq ?_
  refine cg_region ?_
  refine lsw (want_none (by rfl)) (y_assign rfl rfl) rfl (by decide) ?_
  refine lg_nil ?_
  refine nx (E' := [(0, _), (1, _), (4, _)]) (fk rfl (fk rfl (fk rfl fn))) ?_
  refine cg_seq ?_
  refine cg_region ?_
  refine lsw (want_none (by rfl)) (y_move rfl rfl) rfl (by decide) ?_
  refine lsw (want_none (by rfl)) (y_move rfl rfl) rfl (by decide) ?_
  refine lg_bslice (el := 23) (z := .slice none 0 0) (cs := #[s.v, s2.v]) (by kernel_rfl) (by kernel_rfl) (by decide) (by decide) rfl rfl (by kernel_rfl) rfl rfl (by decide) fun b1 w1 n1 => ?_
  have r1 := n1.row
  have k1 := n1.blk
  have z1 := n1.size
  have lt1 : b1 < w1.heap.size := by omega
  have h := h.below (n1.below.mono (by omega))
  have h2 := h2.below (n1.below.mono (by omega))
  refine lg_callw (want_none (by rfl)) (concatN_S r1 h h2 (by omega) (by omega) (by first | omega | (simp only [List.length_append, List.length_cons, List.length_nil, numOct_length]; omega))) (by kernel_rfl) rfl rfl rfl (by decide) ?_
  rintro v2 w2 ⟨g2, hw2⟩
  have zw2 := hw2.size
  obtain ⟨C3, hC3⟩ : ∃ q, q = w1.heap.size := ⟨_, rfl⟩
  rw [← hC3] at g2
  refine lsw (want_none (by rfl)) (y_assign rfl rfl) rfl (by decide) ?_
  refine lg_nil ?_
  refine nx (E' := [(4, _), (5, _)]) (fk rfl (fk rfl fn)) ?_
  refine cg_seq ?_
  refine cg_region ?_
  refine lsw (want_none (by rfl)) (y_move rfl rfl) rfl (by decide) ?_
  refine lg_callw (want_none (by rfl)) (sort_own g2 (by first | omega | (simp only [List.length_append]; omega)) (by omega)) (by kernel_rfl) rfl rfl rfl (by decide) ?_
  rintro _ w4 ⟨rfl, g4, hw4⟩
  have zw4 := hw4.size
  refine lg_nil ?_
  refine nx (E' := [(4, _), (5, _)]) (fk rfl (fk rfl fn)) ?_
  refine cg_seq ?_
  refine cg_region ?_
  refine lsw (want_none (by rfl)) (y_move rfl rfl) rfl (by decide) ?_
  refine lg_callw (want_none (by rfl)) (compact_own g4 (by rw [List.length_mergeSort]; first | omega | (simp only [List.length_append]; omega))) (by kernel_rfl) rfl rfl rfl (by decide) ?_
  rintro v5 w5 ⟨g5, hw5⟩
  have zw5 := hw5.size
  refine lsw (want_none (by rfl)) (y_assign rfl rfl) rfl (by decide) ?_
  refine lg_nil ?_
  refine nx (E' := [(4, _)]) (fk rfl fn) ?_
  refine cg_ret ?_
  have gq := g5
  rw [compact_sorted] at gq
  obtain ⟨r, er, hr⟩ := own_SlN gq
  have u := u.trans (n1.below.mono u.size)
  have u := u.trans (hw2.mono u.size)
  have u := u.trans (hw4.mono (by omega))
  have u := u.trans (hw5.mono (by omega))
  exact eg_ret_tmp rfl rfl ⟨_, rfl, r, er, hr, u⟩
theorem thinnedP_any (h : SlN W B s xs) (h2 : SlN W B2 s2 ys) (hrise : Rising ys) (hB : B ≤ W.heap.size) (hB2 : B2 ≤ W.heap.size) (hn : xs.length ≤ 1000000) (hn2 : ys.length ≤ 1000000) : Calls Try.prog 41 #[s.v, s2.v] W fun e w' => ∃ v, e = .returned v ∧ PutN W (cutK xs ys) v w' := by
  refine calls_cg (n := 30) Try.func41 rfl Try.ntmps41 (by simp) ?_
  show CG _ _ _ [(0, s.v), (1, s2.v)] _ _
  have u := Below.refl W.heap.size W
  have le_h := h.len; have ca_h := h.cap
  have le_h2 := h2.len; have ca_h2 := h2.cap
  refine cg_seq ?_
  refine cg_region ?_
  refine lsw (want_none (by rfl)) (y_assign rfl rfl) rfl (by decide) ?_
  refine lg_nil ?_
  refine nx (E' := [(0, _), (1, _), (4, _)]) (fk rfl (fk rfl (fk rfl fn))) ?_
  refine cg_seq ?_
  refine cg_region ?_
  refine lsw (want_none (by rfl)) (y_assign rfl rfl) rfl (by decide) ?_
  refine lg_nil ?_
  refine nx (E' := [(0, _), (1, _), (4, _), (5, _)]) (fk rfl (fk rfl (fk rfl (fk rfl fn)))) ?_
  refine cg_seq ?_
  refine cg_seq ?_
  refine cg_region ?_
  refine lsw (want_none (by rfl)) (y_move rfl rfl) rfl (by decide) ?_
  refine lsw (want_none (by rfl)) (y_lenM (el := 3) h.len (by kernel_rfl) rfl rfl) rfl (by decide) ?_
  refine lsw (want_none (by rfl)) (y_move rfl rfl) rfl (by decide) ?_
  refine lg_nil ?_
  refine nx (E' := [(1, _), (4, _), (5, _), (10, _), (11, _), (12, _)]) (fk rfl (fk rfl (fk rfl (fk rfl (fk rfl (fk rfl fn)))))) ?_
  refine cg_block ?_
  obtain ⟨C, hC⟩ : ∃ q, q = W.heap.size := ⟨_, rfl⟩
  refine cg_loopE (fun t a v => ∃ (r : SlV), Holds 30 [(1, s2.v), (5, r.v), (10, s.v), (11, nv (xs.length : Int)), (12, nv ((t : Nat) : Int))] a ∧ SlN v B s xs ∧ SlN v B2 s2 ys ∧ Below W.heap.size W v ∧ t ≤ xs.length ∧ C ≤ v.heap.size ∧ v.ownsRow C 3 1 r.v (cutK (xs.take t) ys).length ((cutK (xs.take t) ys).map (Value.int .i64))) xs.length (fun a ha => ⟨nilS, ha.keep (fk rfl (fk rfl (fk rfl (fk rfl (fk rfl fn))))), h, h2, u, (Nat.zero_le _), (by omega), (own_nilN _ _)⟩) ?_
  rintro t a v ht ⟨r, ha, h, h2, u, tle, cC, own⟩
  refine cg_at ha ?_
  clear ha a
  have zv := u.size
  have lc := cutK_length (xs.take t) ys
  rw [List.length_take] at lc
  refine cg_seq ?_
  refine cg_region ?_
  by_cases c1 : ((t : Nat) : Int) < (xs.length : Int)
  · refine lsw (want_none (by rfl)) (yb (decide_eq_true c1) (yi_lss rfl rfl rfl)) rfl (by decide) ?_
    refine lg_nil ?_
    refine nx (E' := [(1, _), (5, _), (10, _), (11, _), (12, _), (13, _)]) (fk rfl (fk rfl (fk rfl (fk rfl (fk rfl (fk rfl fn)))))) ?_
    refine cg_seq ?_
    refine cg_ct rfl ?_
    refine cg_skip ?_
    refine nx (E' := [(1, _), (5, _), (10, _), (11, _), (12, _), (13, _)]) (fk rfl (fk rfl (fk rfl (fk rfl (fk rfl (fk rfl fn)))))) ?_
    refine cg_seq ?_
    refine cg_block ?_
    refine cg_seq ?_
    refine cg_region ?_
    refine lsw (want_none (by rfl)) (y_ixT (i := t) (iI := ((t : Nat) : Int)) h (by omega) (by omega) rfl rfl rfl) rfl (by decide) ?_
    refine lsw (want_none (by rfl)) (y_ldT (i := t) h (by omega) rfl rfl) rfl (by decide) ?_
    refine lsw (want_none (by rfl)) (y_assign rfl rfl) rfl (by decide) ?_
    refine lg_nil ?_
    refine nx (E' := [(1, _), (5, _), (10, _), (11, _), (12, _), (13, _), (14, _), (15, _), (7, _)]) (fk rfl (fk rfl (fk rfl (fk rfl (fk rfl (fk rfl (fk rfl (fk rfl (fk rfl fn))))))))) ?_
    refine cg_seq ?_
    refine cg_region ?_
    refine lsw (want_none (by rfl)) (y_move rfl rfl) rfl (by decide) ?_
    refine lsw (want_none (by rfl)) (y_move rfl rfl) rfl (by decide) ?_
    by_cases c2 : (xs.getD t 0) ∈ ys
    · refine lg_callw (want_none (by rfl)) (search_S h2 hrise (by omega)) (by kernel_rfl) rfl rfl rfl (by decide) ?_
      rintro _ w3 ⟨k3, bb3, rfl, e3, hw3⟩
      have zw3 := hw3.size
      obtain rfl : bb3 = true := e3.trans (decide_eq_true c2)
      refine lsw (want_none (by rfl)) (y_move rfl rfl) rfl (by decide) ?_
      refine lsw (want_none (by rfl)) (y_extract rfl rfl rfl) rfl (by decide) ?_
      refine lsw (want_none (by rfl)) (y_extract rfl rfl rfl) rfl (by decide) ?_
      refine lsw (want_none (by rfl)) (y_assign rfl rfl) rfl (by decide) ?_
      refine lsw (want_none (by rfl)) (y_assign rfl rfl) rfl (by decide) ?_
      refine lg_nil ?_
      refine nx (E' := [(1, _), (5, _), (10, _), (11, _), (12, _), (13, _), (14, _), (15, _), (7, _), (17, _), (18, _), (19, _), (16, _), (20, _), (21, _), (9, _)]) (fk rfl (fk rfl (fk rfl (fk rfl (fk rfl (fk rfl (fk rfl (fk rfl (fk rfl (fk rfl (fk rfl (fk rfl (fk rfl (fk rfl (fk rfl (fk rfl fn)))))))))))))))) ?_
      refine cg_seq ?_
      refine cg_region ?_
      refine lsw (want_none (by rfl)) (y_move rfl rfl) rfl (by decide) ?_
      refine lsw (want_none (by rfl)) (y_bnot rfl rfl) rfl (by decide) ?_
      refine lg_nil ?_
      refine nx (E' := [(1, _), (5, _), (10, _), (11, _), (12, _), (13, _), (14, _), (15, _), (7, _), (17, _), (18, _), (19, _), (16, _), (20, _), (21, _), (9, _), (22, _), (23, _)]) (fk rfl (fk rfl (fk rfl (fk rfl (fk rfl (fk rfl (fk rfl (fk rfl (fk rfl (fk rfl (fk rfl (fk rfl (fk rfl (fk rfl (fk rfl (fk rfl (fk rfl (fk rfl fn)))))))))))))))))) ?_
      refine cg_cf rfl ?_
      refine cg_skip ?_
      refine eg_block_norm ?_
      refine nx (E' := [(1, _), (5, _), (10, _), (11, _), (12, _), (13, _), (14, _), (15, _), (7, _), (17, _), (18, _), (19, _), (16, _), (20, _), (21, _), (9, _), (22, _), (23, _)]) (fk rfl (fk rfl (fk rfl (fk rfl (fk rfl (fk rfl (fk rfl (fk rfl (fk rfl (fk rfl (fk rfl (fk rfl (fk rfl (fk rfl (fk rfl (fk rfl (fk rfl (fk rfl fn)))))))))))))))))) ?_
      refine cg_region ?_
      refine lsw (want_none (by rfl)) (yv (congrArg nv (show ((t : Nat) : Int) + 1 = ((t + 1 : Nat) : Int) by omega)) (yi_add rfl rfl rfl (by omega) (by omega))) rfl (by decide) ?_
      refine lsw (want_none (by rfl)) (y_move rfl rfl) rfl (by decide) ?_
      refine lg_nil ?_
      have own := own_below own hw3
      have h := h.below (hw3.mono (by omega))
      have h2 := h2.below (hw3.mono (by omega))
      have u := u.trans (hw3.mono u.size)
      exact fun a ha => (show t < xs.length ∧ _ from ⟨(by omega), r, ha.keep (fk rfl (fk rfl (fk rfl (fk rfl (fk rfl fn))))), h, h2, u, (by omega), (by omega), (by rw [cutK_take (by omega), if_pos c2, List.append_nil]; exact own)⟩)
    · refine lg_callw (want_none (by rfl)) (search_S h2 hrise (by omega)) (by kernel_rfl) rfl rfl rfl (by decide) ?_
      rintro _ w4 ⟨k4, bb4, rfl, e4, hw4⟩
      have zw4 := hw4.size
      obtain rfl : bb4 = false := e4.trans (decide_eq_false c2)
      refine lsw (want_none (by rfl)) (y_move rfl rfl) rfl (by decide) ?_
      refine lsw (want_none (by rfl)) (y_extract rfl rfl rfl) rfl (by decide) ?_
      refine lsw (want_none (by rfl)) (y_extract rfl rfl rfl) rfl (by decide) ?_
      refine lsw (want_none (by rfl)) (y_assign rfl rfl) rfl (by decide) ?_
      refine lsw (want_none (by rfl)) (y_assign rfl rfl) rfl (by decide) ?_
      refine lg_nil ?_
      refine nx (E' := [(1, _), (5, _), (10, _), (11, _), (12, _), (13, _), (14, _), (15, _), (7, _), (17, _), (18, _), (19, _), (16, _), (20, _), (21, _), (9, _)]) (fk rfl (fk rfl (fk rfl (fk rfl (fk rfl (fk rfl (fk rfl (fk rfl (fk rfl (fk rfl (fk rfl (fk rfl (fk rfl (fk rfl (fk rfl (fk rfl fn)))))))))))))))) ?_
      refine cg_seq ?_
      refine cg_region ?_
      refine lsw (want_none (by rfl)) (y_move rfl rfl) rfl (by decide) ?_
      refine lsw (want_none (by rfl)) (y_bnot rfl rfl) rfl (by decide) ?_
      refine lg_nil ?_
      refine nx (E' := [(1, _), (5, _), (10, _), (11, _), (12, _), (13, _), (14, _), (15, _), (7, _), (17, _), (18, _), (19, _), (16, _), (20, _), (21, _), (9, _), (22, _), (23, _)]) (fk rfl (fk rfl (fk rfl (fk rfl (fk rfl (fk rfl (fk rfl (fk rfl (fk rfl (fk rfl (fk rfl (fk rfl (fk rfl (fk rfl (fk rfl (fk rfl (fk rfl (fk rfl fn)))))))))))))))))) ?_
      refine cg_ct rfl ?_
      refine cg_region ?_
      refine lsw (want_none (by rfl)) (y_move rfl rfl) rfl (by decide) ?_
      refine lsw (want_none (by rfl)) (y_move rfl rfl) rfl (by decide) ?_
      refine lg_bsliceW (el := 3) (z := nv 0) (cs := #[nv (xs.getD t 0)]) (want_none (by rfl)) huIs (by kernel_rfl) (by decide) (by decide) rfl rfl (by kernel_rfl) rfl (by decide) fun b5 w5 n5 => ?_
      have r5 := n5.row
      have k5 := n5.blk
      have z5 := n5.size
      have m5 : SlN w5 (b5 + 1) ⟨some ⟨b5, 0, none⟩, 1, 1⟩ [(xs.getD t 0)] := new_SlN (xs := [(xs.getD t 0)]) r5 rfl (of_decide_eq_true (by kernel_rfl))
      have og5 : w5.ownsRow b5 3 1 (.slice (some ⟨b5, 0, none⟩) 1 1) ([(xs.getD t 0)] : List Int).length (([(xs.getD t 0)] : List Int).map (Value.int .i64)) := new_ownN (xs := [(xs.getD t 0)]) n5 rfl (of_decide_eq_true (by kernel_rfl))
      have own := own_below own hw4
      have own := own_below own n5.below
      refine lg_appT own m5 (by first | omega | (simp only [List.length_cons, List.length_nil]; omega)) (by omega) (want_none (by rfl)) rfl rfl rfl rfl rfl (by decide) fun r6 w6 m6 g6 l6 z6 => ?_
      refine lsw (want_none (by rfl)) (y_assign rfl rfl) rfl (by decide) ?_
      refine lg_nil ?_
      refine eg_block_norm ?_
      refine nx (E' := [(1, _), (10, _), (11, _), (12, _), (13, _), (14, _), (15, _), (7, _), (17, _), (18, _), (19, _), (16, _), (20, _), (21, _), (9, _), (22, _), (23, _), (24, _), (25, _), (26, _), (27, _), (5, _)]) (fk rfl (fk rfl (fk rfl (fk rfl (fk rfl (fk rfl (fk rfl (fk rfl (fk rfl (fk rfl (fk rfl (fk rfl (fk rfl (fk rfl (fk rfl (fk rfl (fk rfl (fk rfl (fk rfl (fk rfl (fk rfl (fk rfl fn)))))))))))))))))))))) ?_
      refine cg_region ?_
      refine lsw (want_none (by rfl)) (yv (congrArg nv (show ((t : Nat) : Int) + 1 = ((t + 1 : Nat) : Int) by omega)) (yi_add rfl rfl rfl (by omega) (by omega))) rfl (by decide) ?_
      refine lsw (want_none (by rfl)) (y_move rfl rfl) rfl (by decide) ?_
      refine lg_nil ?_
      have h := h.below (hw4.mono (by omega))
      have h := h.below (n5.below.mono (by omega))
      have h := h.below (l6.mono (by omega))
      have h2 := h2.below (hw4.mono (by omega))
      have h2 := h2.below (n5.below.mono (by omega))
      have h2 := h2.below (l6.mono (by omega))
      have u := u.trans (hw4.mono u.size)
      have u := u.trans (n5.below.mono u.size)
      have u := u.trans (l6.mono (by omega))
      exact fun a ha => (show t < xs.length ∧ _ from ⟨(by omega), r6, ha.keep (fk rfl (fk rfl (fk rfl (fk rfl (fk rfl fn))))), h, h2, u, (by omega), (by omega), (by rw [cutK_take (by omega), if_neg c2]; exact g6)⟩)
  · refine lsw (want_none (by rfl)) (yb (decide_eq_false c1) (yi_lss rfl rfl rfl)) rfl (by decide) ?_
    refine lg_nil ?_
    refine nx (E' := [(1, _), (5, _), (10, _), (11, _), (12, _), (13, _)]) (fk rfl (fk rfl (fk rfl (fk rfl (fk rfl (fk rfl fn)))))) ?_
    refine cg_seq ?_
    refine cg_cf rfl ?_
    refine cg_exit ?_
    refine eg_seq_exit ?_
    refine eg_seq_exit ?_
    refine eg_block_exit ?_
    refine nx (E' := [(5, _)]) (fk rfl fn) ?_
    refine cg_seq ?_
    refine cg_region ?_
    refine lsw (want_none (by rfl)) (y_move rfl rfl) rfl (by decide) ?_
    refine lsw (want_none (by rfl)) (y_assign rfl rfl) rfl (by decide) ?_
    refine lg_nil ?_
    refine nx (E' := [(4, _)]) (fk rfl fn) ?_
    refine cg_ret ?_
    have gq := own
    rw [List.take_of_length_le (by omega)] at gq
    obtain ⟨r, er, hr⟩ := own_SlN gq
    exact eg_ret_tmp rfl rfl ⟨_, rfl, r, er, hr, u⟩
theorem joinP_any (i : Int) (h : SlN W B s xs) (hB : B ≤ W.heap.size) (hn : xs.length ≤ 900000) : Calls Try.prog 20 #[s.v, nv i] W fun e w' => ∃ v, e = .returned v ∧ PutN W (joinK xs i) v w' := by
  refine calls_cg (n := 9) Try.func20 rfl Try.ntmps20 (by simp) ?_
  show CG _ _ _ [(0, s.v), (1, nv i)] _ _
  have u := Below.refl W.heap.size W
  refine cg_seq ?_
  refine cg_region ?_
  refine lsw (want_none (by rfl)) (y_assign rfl rfl) rfl (by decide) ?_
  refine lg_nil ?_
  refine nx (E' := [(0, _), (1, _), (4, _)]) (fk rfl (fk rfl (fk rfl fn))) ?_
  refine cg_seq ?_
  refine cg_region ?_
  refine lsw (want_none (by rfl)) (y_move rfl rfl) rfl (by decide) ?_
  refine lsw (want_none (by rfl)) (y_move rfl rfl) rfl (by decide) ?_
  refine lg_bsliceW (el := 3) (z := nv 0) (cs := #[nv i]) (want_none (by rfl)) huIs (by kernel_rfl) (by decide) (by decide) rfl rfl (by kernel_rfl) rfl (by decide) fun b1 w1 n1 => ?_
  have r1 := n1.row
  have k1 := n1.blk
  have z1 := n1.size
  have m1 : SlN w1 (b1 + 1) ⟨some ⟨b1, 0, none⟩, 1, 1⟩ [i] := new_SlN (xs := [i]) r1 rfl (of_decide_eq_true (by kernel_rfl))
  have og1 : w1.ownsRow b1 3 1 (.slice (some ⟨b1, 0, none⟩) 1 1) ([i] : List Int).length (([i] : List Int).map (Value.int .i64)) := new_ownN (xs := [i]) n1 rfl (of_decide_eq_true (by kernel_rfl))
  have h := h.below (n1.below.mono (by omega))
  refine lg_callw (want_none (by rfl)) (sortedP_any h m1 (by omega) (by omega) (by first | omega | (simp only [List.length_cons, List.length_nil]; omega))) (by kernel_rfl) rfl rfl rfl (by decide) ?_
  rintro _ w2 ⟨r2, rfl, m2, hw2⟩
  have zw2 := hw2.size
  have lr2 := riseU_length (xs ++ ([i] : List Int))
  refine lsw (want_none (by rfl)) (y_assign rfl rfl) rfl (by decide) ?_
  refine lg_nil ?_
  refine nx (E' := [(4, _)]) (fk rfl fn) ?_
  refine cg_ret ?_
  have u := u.trans (n1.below.mono u.size)
  have u := u.trans (hw2.mono u.size)
  exact eg_ret_tmp rfl rfl ⟨_, rfl, r2, rfl, m2, u⟩
theorem cutP_any (h : SlN W B s xs) (h2 : SlN W B2 s2 ys) (hB : B ≤ W.heap.size) (hB2 : B2 ≤ W.heap.size) (hn : xs.length ≤ 900000) (hn2 : ys.length ≤ 900000) : Calls Try.prog 22 #[s.v, s2.v] W fun e w' => ∃ v, e = .returned v ∧ PutN W (cutK xs ys) v w' := by
  refine calls_cg (n := 9) Try.func22 rfl Try.ntmps22 (by simp) ?_
  show CG _ _ _ [(0, s.v), (1, s2.v)] _ _
  have u := Below.refl W.heap.size W
  refine cg_seq ?_
  refine cg_region ?_
  refine lsw (want_none (by rfl)) (y_assign rfl rfl) rfl (by decide) ?_
  refine lg_nil ?_
  refine nx (E' := [(0, _), (1, _), (4, _)]) (fk rfl (fk rfl (fk rfl fn))) ?_
  refine cg_seq ?_
  refine cg_region ?_
  refine lsw (want_none (by rfl)) (y_move rfl rfl) rfl (by decide) ?_
  refine lsw (want_none (by rfl)) (y_move rfl rfl) rfl (by decide) ?_
  refine lg_callw (want_none (by rfl)) (sortedP_any h2 (SlN.nil _ _) (by omega) (by omega) (by first | omega | (simp only [List.length_nil]; omega))) (by kernel_rfl) rfl rfl rfl (by decide) ?_
  rintro _ w1 ⟨r1, rfl, m1, hw1⟩
  have zw1 := hw1.size
  rw [List.append_nil] at m1
  have lr1 := riseU_length ys
  have h := h.below (hw1.mono (by omega))
  refine lg_callw (want_none (by rfl)) (thinnedP_any h m1 (riseU_rising _) (by omega) (by omega) (by omega) (by first | omega | (simp only [List.length_append, List.length_cons, List.length_nil, numOct_length]; omega))) (by kernel_rfl) rfl rfl rfl (by decide) ?_
  rintro _ w2 ⟨r2, rfl, m2, hw2⟩
  have zw2 := hw2.size
  refine lsw (want_none (by rfl)) (y_assign rfl rfl) rfl (by decide) ?_
  refine lg_nil ?_
  refine nx (E' := [(4, _)]) (fk rfl fn) ?_
  refine cg_ret ?_
  have u := u.trans (hw1.mono u.size)
  have u := u.trans (hw2.mono u.size)
  exact eg_ret_tmp rfl rfl ⟨_, rfl, r2, rfl, m2.cast (cutK_congr fun _ => riseU_mem), u⟩
theorem rcut_any (h : SlN W B s xs) (h2 : SlN W B2 s2 ys) (hB : B ≤ W.heap.size) (hB2 : B2 ≤ W.heap.size) (hn : xs.length ≤ 900000) (hn2 : ys.length ≤ 900000) : Calls Try.prog 23 #[s.v, s2.v] W fun e w' => ∃ v, e = .returned v ∧ PutN W (cutK xs ys) v w' := by
  refine calls_cg (n := 28) Try.func23 rfl Try.ntmps23 (by simp) ?_
  show CG _ _ _ [(0, s.v), (1, s2.v)] _ _
  have u := Below.refl W.heap.size W
  have le_h := h.len; have ca_h := h.cap
  have le_h2 := h2.len; have ca_h2 := h2.cap
  refine cg_seq ?_
  refine cg_region ?_
  refine lsw (want_none (by rfl)) (y_assign rfl rfl) rfl (by decide) ?_
  refine lg_nil ?_
  refine nx (E' := [(0, _), (1, _), (4, _)]) (fk rfl (fk rfl (fk rfl fn))) ?_
  refine cg_seq ?_
  refine cg_region ?_
  refine lsw (want_none (by rfl)) (y_assign rfl rfl) rfl (by decide) ?_
  refine lg_nil ?_
  refine nx (E' := [(0, _), (1, _), (4, _), (5, _)]) (fk rfl (fk rfl (fk rfl (fk rfl fn)))) ?_
  refine cg_seq ?_
  refine cg_seq ?_
  refine cg_region ?_
  refine lsw (want_none (by rfl)) (y_assign rfl rfl) rfl (by decide) ?_
  refine lg_nil ?_
  refine nx (E' := [(0, _), (1, _), (4, _), (5, _), (6, _)]) (fk rfl (fk rfl (fk rfl (fk rfl (fk rfl fn))))) ?_
  refine cg_block ?_
  obtain ⟨C, hC⟩ : ∃ q, q = W.heap.size := ⟨_, rfl⟩
  refine cg_loopE (fun t a v => ∃ (r : SlV), Holds 28 [(0, s.v), (1, s2.v), (5, r.v), (6, nv ((t : Nat) : Int))] a ∧ SlN v B s xs ∧ SlN v B2 s2 ys ∧ Below W.heap.size W v ∧ t ≤ xs.length ∧ C ≤ v.heap.size ∧ v.ownsRow C 3 1 r.v (cutK (xs.take t) ys).length ((cutK (xs.take t) ys).map (Value.int .i64))) xs.length (fun a ha => ⟨nilS, ha.keep (fk rfl (fk rfl (fk rfl (fk rfl fn)))), h, h2, u, (Nat.zero_le _), (by omega), (own_nilN _ _)⟩) ?_
  rintro t a v ht ⟨r, ha, h, h2, u, tle, cC, own⟩
  refine cg_at ha ?_
  clear ha a
  have zv := u.size
  have lc := cutK_length (xs.take t) ys
  rw [List.length_take] at lc
  refine cg_seq ?_
  refine cg_seq ?_
  refine cg_region ?_
  refine lsw (want_none (by rfl)) (y_move rfl rfl) rfl (by decide) ?_
  refine lsw (want_none (by rfl)) (y_move rfl rfl) rfl (by decide) ?_
  refine lsw (want_none (by rfl)) (y_lenM (el := 3) h.len (by kernel_rfl) rfl rfl) rfl (by decide) ?_
  by_cases c1 : ((t : Nat) : Int) < (xs.length : Int)
  · refine lsw (want_none (by rfl)) (yb (decide_eq_true c1) (yi_lss rfl rfl rfl)) rfl (by decide) ?_
    refine lg_nil ?_
    refine nx (E' := [(0, _), (1, _), (5, _), (6, _), (7, _), (8, _), (9, _), (10, _)]) (fk rfl (fk rfl (fk rfl (fk rfl (fk rfl (fk rfl (fk rfl (fk rfl fn)))))))) ?_
    refine cg_ct rfl ?_
    refine cg_skip ?_
    refine nx (E' := [(0, _), (1, _), (5, _), (6, _), (7, _), (8, _), (9, _), (10, _)]) (fk rfl (fk rfl (fk rfl (fk rfl (fk rfl (fk rfl (fk rfl (fk rfl fn)))))))) ?_
    refine cg_seq ?_
    refine cg_block ?_
    refine cg_seq ?_
    refine cg_region ?_
    refine lsw (want_none (by rfl)) (y_move rfl rfl) rfl (by decide) ?_
    refine lsw (want_none (by rfl)) (y_move rfl rfl) rfl (by decide) ?_
    refine lsw (want_none (by rfl)) (y_move rfl rfl) rfl (by decide) ?_
    refine lsw (want_none (by rfl)) (y_ixT (i := t) (iI := ((t : Nat) : Int)) h (by omega) (by omega) rfl rfl rfl) rfl (by decide) ?_
    refine lsw (want_none (by rfl)) (y_ldT (i := t) h (by omega) rfl rfl) rfl (by decide) ?_
    by_cases c2 : (xs.getD t 0) ∈ ys
    · refine lsw (want_none (by rfl)) (yb (decide_eq_true c2) (y_call (has_any h2 (xs.getD t 0)) (by kernel_rfl) rfl rfl)) rfl (by decide) ?_
      refine lsw (want_none (by rfl)) (y_bnot rfl rfl) rfl (by decide) ?_
      refine lg_nil ?_
      refine nx (E' := [(0, _), (1, _), (5, _), (6, _), (7, _), (8, _), (9, _), (10, _), (13, _), (14, _), (15, _), (16, _), (17, _), (18, _), (19, _)]) (fk rfl (fk rfl (fk rfl (fk rfl (fk rfl (fk rfl (fk rfl (fk rfl (fk rfl (fk rfl (fk rfl (fk rfl (fk rfl (fk rfl (fk rfl fn))))))))))))))) ?_
      refine cg_cf rfl ?_
      refine cg_skip ?_
      refine eg_block_norm ?_
      refine nx (E' := [(0, _), (1, _), (5, _), (6, _), (7, _), (8, _), (9, _), (10, _), (13, _), (14, _), (15, _), (16, _), (17, _), (18, _), (19, _)]) (fk rfl (fk rfl (fk rfl (fk rfl (fk rfl (fk rfl (fk rfl (fk rfl (fk rfl (fk rfl (fk rfl (fk rfl (fk rfl (fk rfl (fk rfl fn))))))))))))))) ?_
      refine cg_region ?_
      refine lsw (want_none (by rfl)) (y_move rfl rfl) rfl (by decide) ?_
      refine lsw (want_none (by rfl)) (yv (congrArg nv (show ((t : Nat) : Int) + 1 = ((t + 1 : Nat) : Int) by omega)) (yi_add rfl rfl rfl (by omega) (by omega))) rfl (by decide) ?_
      refine lsw (want_none (by rfl)) (y_assign rfl rfl) rfl (by decide) ?_
      refine lg_nil ?_
      exact fun a ha => (show t < xs.length ∧ _ from ⟨(by omega), r, ha.keep (fk rfl (fk rfl (fk rfl (fk rfl fn)))), h, h2, u, (by omega), (by omega), (by rw [cutK_take (by omega), if_pos c2, List.append_nil]; exact own)⟩)
    · refine lsw (want_none (by rfl)) (yb (decide_eq_false c2) (y_call (has_any h2 (xs.getD t 0)) (by kernel_rfl) rfl rfl)) rfl (by decide) ?_
      refine lsw (want_none (by rfl)) (y_bnot rfl rfl) rfl (by decide) ?_
      refine lg_nil ?_
      refine nx (E' := [(0, _), (1, _), (5, _), (6, _), (7, _), (8, _), (9, _), (10, _), (13, _), (14, _), (15, _), (16, _), (17, _), (18, _), (19, _)]) (fk rfl (fk rfl (fk rfl (fk rfl (fk rfl (fk rfl (fk rfl (fk rfl (fk rfl (fk rfl (fk rfl (fk rfl (fk rfl (fk rfl (fk rfl fn))))))))))))))) ?_
      refine cg_ct rfl ?_
      refine cg_region ?_
      refine lsw (want_none (by rfl)) (y_move rfl rfl) rfl (by decide) ?_
      refine lsw (want_none (by rfl)) (y_move rfl rfl) rfl (by decide) ?_
      refine lsw (want_none (by rfl)) (y_move rfl rfl) rfl (by decide) ?_
      refine lsw (want_none (by rfl)) (y_ixT (i := t) (iI := ((t : Nat) : Int)) h (by omega) (by omega) rfl rfl rfl) rfl (by decide) ?_
      refine lsw (want_none (by rfl)) (y_ldT (i := t) h (by omega) rfl rfl) rfl (by decide) ?_
      refine lg_bsliceW (el := 3) (z := nv 0) (cs := #[nv (xs.getD t 0)]) (want_none (by rfl)) huIs (by kernel_rfl) (by decide) (by decide) rfl rfl (by kernel_rfl) rfl (by decide) fun b3 w3 n3 => ?_
      have r3 := n3.row
      have k3 := n3.blk
      have z3 := n3.size
      have m3 : SlN w3 (b3 + 1) ⟨some ⟨b3, 0, none⟩, 1, 1⟩ [(xs.getD t 0)] := new_SlN (xs := [(xs.getD t 0)]) r3 rfl (of_decide_eq_true (by kernel_rfl))
      have og3 : w3.ownsRow b3 3 1 (.slice (some ⟨b3, 0, none⟩) 1 1) ([(xs.getD t 0)] : List Int).length (([(xs.getD t 0)] : List Int).map (Value.int .i64)) := new_ownN (xs := [(xs.getD t 0)]) n3 rfl (of_decide_eq_true (by kernel_rfl))
      have own := own_below own n3.below
      refine lg_appT own m3 (by first | omega | (simp only [List.length_cons, List.length_nil]; omega)) (by omega) (want_none (by rfl)) rfl rfl rfl rfl rfl (by decide) fun r4 w4 m4 g4 l4 z4 => ?_
      refine lsw (want_none (by rfl)) (y_assign rfl rfl) rfl (by decide) ?_
      refine lg_nil ?_
      refine eg_block_norm ?_
      refine nx (E' := [(0, _), (1, _), (6, _), (7, _), (8, _), (9, _), (10, _), (13, _), (14, _), (15, _), (16, _), (17, _), (18, _), (19, _), (20, _), (21, _), (22, _), (23, _), (24, _), (25, _), (26, _), (5, _)]) (fk rfl (fk rfl (fk rfl (fk rfl (fk rfl (fk rfl (fk rfl (fk rfl (fk rfl (fk rfl (fk rfl (fk rfl (fk rfl (fk rfl (fk rfl (fk rfl (fk rfl (fk rfl (fk rfl (fk rfl (fk rfl (fk rfl fn)))))))))))))))))))))) ?_
      refine cg_region ?_
      refine lsw (want_none (by rfl)) (y_move rfl rfl) rfl (by decide) ?_
      refine lsw (want_none (by rfl)) (yv (congrArg nv (show ((t : Nat) : Int) + 1 = ((t + 1 : Nat) : Int) by omega)) (yi_add rfl rfl rfl (by omega) (by omega))) rfl (by decide) ?_
      refine lsw (want_none (by rfl)) (y_assign rfl rfl) rfl (by decide) ?_
      refine lg_nil ?_
      have h := h.below (n3.below.mono (by omega))
      have h := h.below (l4.mono (by omega))
      have h2 := h2.below (n3.below.mono (by omega))
      have h2 := h2.below (l4.mono (by omega))
      have u := u.trans (n3.below.mono u.size)
      have u := u.trans (l4.mono (by omega))
      exact fun a ha => (show t < xs.length ∧ _ from ⟨(by omega), r4, ha.keep (fk rfl (fk rfl (fk rfl (fk rfl fn)))), h, h2, u, (by omega), (by omega), (by rw [cutK_take (by omega), if_neg c2]; exact g4)⟩)
  · refine lsw (want_none (by rfl)) (yb (decide_eq_false c1) (yi_lss rfl rfl rfl)) rfl (by decide) ?_
    refine lg_nil ?_
    refine nx (E' := [(0, _), (1, _), (5, _), (6, _), (7, _), (8, _), (9, _), (10, _)]) (fk rfl (fk rfl (fk rfl (fk rfl (fk rfl (fk rfl (fk rfl (fk rfl fn)))))))) ?_
    refine cg_cf rfl ?_
    refine cg_exit ?_
    refine eg_seq_exit ?_
    refine eg_seq_exit ?_
    refine eg_block_exit ?_
    refine nx (E' := [(5, _)]) (fk rfl fn) ?_
    refine cg_seq ?_
    refine cg_region ?_
    refine lsw (want_none (by rfl)) (y_move rfl rfl) rfl (by decide) ?_
    refine lsw (want_none (by rfl)) (y_assign rfl rfl) rfl (by decide) ?_
    refine lg_nil ?_
    refine nx (E' := [(4, _)]) (fk rfl fn) ?_
    refine cg_ret ?_
    have gq := own
    rw [List.take_of_length_le (by omega)] at gq
    obtain ⟨r, er, hr⟩ := own_SlN gq
    exact eg_ret_tmp rfl rfl ⟨_, rfl, r, er, hr, u⟩
end
end Go.Proofs.Ytomjcbjekofkoaa
