/-
  The program's and the document's small questions of lists of whole numbers.
-/
import Derived.Test.YtpoonjgkgaodmaaDoorPnBase
namespace Go.Proofs.YtpoonjgkgaodmaaDoor
open Go.ChangeShapes Go.WideShapes Go.ChangeAt Go.RowKit
set_option linter.unusedVariables false

section
variable {w W : World} {B B2 : Nat} {s s2 : SlV} {xs ys : List Int}
theorem outside_any (n : Int) (w : World) : Calls Tryd.prog 67 #[nv n] w fun e w' => e = .returned (.bool (decide (n < 0 ∨ 64 ≤ n))) ∧ w' = w := by
  refine calls_cg (n := 9) Tryd.func67 rfl Tryd.ntmps67 (by simp) ?_
  show CG _ _ _ [(0, nv n)] _ _
  refine cg_seq ?_
  refine cg_region ?_
  refine lsw (want_none (by rfl)) (y_assign rfl rfl) rfl (by decide) ?_
  refine lg_nil ?_
  refine nx (E' := [(0, _), (2, _)]) (fk rfl (fk rfl fn)) ?_
  refine cg_seq ?_
  refine cg_region ?_
  refine lsw (want_none (by rfl)) (y_move rfl rfl) rfl (by decide) ?_
  by_cases c1 : n < 0
  · refine lsw (want_none (by rfl)) (yb (decide_eq_true c1) (yi_lss rfl rfl rfl)) rfl (by decide) ?_
    refine lsw (want_none (by rfl)) (y_move rfl rfl) rfl (by decide) ?_
    refine lsk (want_f (dj := 5) (by rfl) (by kernel_rfl) rfl) rfl (by decide) ?_
    refine lsk (want_f (dj := 5) (by rfl) (by kernel_rfl) rfl) rfl (by decide) ?_
    refine lsw (want_none (by rfl)) (y_pick true rfl rfl rfl) rfl (by decide) ?_
    refine lsw (want_none (by rfl)) (y_assign rfl rfl) rfl (by decide) ?_
    refine lg_nil ?_
    refine nx (E' := [(2, _)]) (fk rfl fn) ?_
    refine cg_ret ?_
    exact eg_ret_tmp rfl rfl ⟨congrArg (fun b => Ending.returned (.bool b)) (decide_eq_true (by omega)).symm, rfl⟩
  · refine lsw (want_none (by rfl)) (yb (decide_eq_false c1) (yi_lss rfl rfl rfl)) rfl (by decide) ?_
    refine lsw (want_none (by rfl)) (y_move rfl rfl) rfl (by decide) ?_
    refine lsw (want_t (dj := 5) (by rfl) (by kernel_rfl) rfl) (y_move rfl rfl) rfl (by decide) ?_
    by_cases c2 : 64 ≤ n
    · refine lsw (want_t (dj := 5) (by rfl) (by kernel_rfl) rfl) (yb (decide_eq_true c2) (yi_geq rfl rfl rfl)) rfl (by decide) ?_
      refine lsw (want_none (by rfl)) (y_pick false rfl rfl rfl) rfl (by decide) ?_
      refine lsw (want_none (by rfl)) (y_assign rfl rfl) rfl (by decide) ?_
      refine lg_nil ?_
      refine nx (E' := [(2, _)]) (fk rfl fn) ?_
      refine cg_ret ?_
      exact eg_ret_tmp rfl rfl ⟨congrArg (fun b => Ending.returned (.bool b)) (decide_eq_true (by omega)).symm, rfl⟩
    · refine lsw (want_t (dj := 5) (by rfl) (by kernel_rfl) rfl) (yb (decide_eq_false c2) (yi_geq rfl rfl rfl)) rfl (by decide) ?_
      refine lsw (want_none (by rfl)) (y_pick false rfl rfl rfl) rfl (by decide) ?_
      refine lsw (want_none (by rfl)) (y_assign rfl rfl) rfl (by decide) ?_
      refine lg_nil ?_
      refine nx (E' := [(2, _)]) (fk rfl fn) ?_
      refine cg_ret ?_
      exact eg_ret_tmp rfl rfl ⟨congrArg (fun b => Ending.returned (.bool b)) (decide_eq_false (by omega)).symm, rfl⟩
/-- Where the first number stands that no leaf has. -/
def outI (xs : List Int) : Int := if ∃ x ∈ xs, x < 0 ∨ 64 ≤ x then ((xs.takeWhile fun x => !decide (x < 0 ∨ 64 ≤ x)).length : Int) else -1
theorem outI_at : ∀ {xs : List Int} {t : Nat}, (∀ j, j < t → ¬ (xs.getD j 0 < 0 ∨ 64 ≤ xs.getD j 0)) → t < xs.length → (xs.getD t 0 < 0 ∨ 64 ≤ xs.getD t 0) → outI xs = (t : Int) := by
  intro xs t hno ht hx
  have he : ∃ x ∈ xs, x < 0 ∨ 64 ≤ x := ⟨_, getD_mem ht, hx⟩
  rw [outI, if_pos he]
  refine congrArg Int.ofNat ?_
  clear he
  induction xs generalizing t with
  | nil => exact absurd ht (Nat.not_lt_zero _)
  | cons y r ih =>
    cases t with
    | zero =>
      have hx' : y < 0 ∨ 64 ≤ y := hx
      rw [List.takeWhile_cons, decide_eq_true hx']
      rfl
    | succ t =>
      have h0 : ¬ (y < 0 ∨ 64 ≤ y) := hno 0 (by omega)
      rw [List.takeWhile_cons, decide_eq_false h0]
      show (y :: _).length = _
      rw [List.length_cons, ih (fun j hj => hno (j + 1) (by omega)) (by simpa using ht) hx]
theorem outI_no {xs : List Int} (h : ∀ j, j < xs.length → ¬ (xs.getD j 0 < 0 ∨ 64 ≤ xs.getD j 0)) : outI xs = -1 := by
  rw [outI, if_neg]
  rintro ⟨x, hx, h1⟩
  obtain ⟨i, hi, rfl⟩ := mem_getD hx
  exact h i hi h1
theorem outI_iff (xs : List Int) : 0 ≤ outI xs ↔ ∃ x ∈ xs, x < 0 ∨ 64 ≤ x := by
  unfold outI
  split
  · rename_i h
    exact ⟨fun _ => h, fun _ => by omega⟩
  · rename_i h
    exact ⟨fun q => absurd q (by decide), fun q => absurd q h⟩
theorem indexOut_any (h : SlN w B s xs) : Calls Tryd.prog 77 #[s.v, .func (.func 67) #[] #[]] w fun e w' => e = .returned (nv (outI xs)) ∧ w' = w := by
  refine calls_cg (n := 19) Tryd.func77 rfl Tryd.ntmps77 (by simp) ?_
  show CG _ _ _ [(0, s.v), (1, .func (.func 67) #[] #[])] _ _
  refine cg_seq ?_
  refine cg_region ?_
  refine lsw (want_none (by rfl)) (y_assign rfl rfl) rfl (by decide) ?_
  refine lg_nil ?_
  refine nx (E' := [(0, _), (1, _), (4, _)]) (fk rfl (fk rfl (fk rfl fn))) ?_
  refine cg_seq ?_
  refine cg_seq ?_
  refine cg_region ?_
  refine lsw (want_none (by rfl)) (y_move rfl rfl) rfl (by decide) ?_
  refine lsw (want_none (by rfl)) (y_lenM (el := 3) h.len (by kernel_rfl) rfl rfl) rfl (by decide) ?_
  refine lsw (want_none (by rfl)) (y_move rfl rfl) rfl (by decide) ?_
  refine lg_nil ?_
  refine nx (E' := [(0, _), (1, _), (4, _), (7, _), (8, _)]) (fk rfl (fk rfl (fk rfl (fk rfl (fk rfl fn))))) ?_
  refine cg_block ?_
  refine cg_loopE (fun t a v => Holds 19 [(0, s.v), (1, .func (.func 67) #[] #[]), (7, nv (xs.length : Int)), (8, nv ((t : Nat) : Int))] a ∧ v = w ∧ t ≤ xs.length ∧ (∀ j, j < t → ¬ ((xs.getD j 0) < 0 ∨ 64 ≤ (xs.getD j 0)))) xs.length (fun a ha => ⟨ha.keep (fk rfl (fk rfl (fk rfl (fk rfl fn)))), rfl, (Nat.zero_le _), (fun j hj => absurd hj (Nat.not_lt_zero _))⟩) ?_
  rintro t a v ht ⟨ha, rfl, tle, hno⟩
  refine cg_at ha ?_
  clear ha a
  have le_h := h.len; have ca_h := h.cap
  refine cg_seq ?_
  refine cg_region ?_
  by_cases c1 : ((t : Nat) : Int) < (xs.length : Int)
  · refine lsw (want_none (by rfl)) (yb (decide_eq_true c1) (yi_lss rfl rfl rfl)) rfl (by decide) ?_
    refine lg_nil ?_
    refine nx (E' := [(0, _), (1, _), (7, _), (8, _), (9, _)]) (fk rfl (fk rfl (fk rfl (fk rfl (fk rfl fn))))) ?_
    refine cg_seq ?_
    refine cg_ct rfl ?_
    refine cg_skip ?_
    refine nx (E' := [(0, _), (1, _), (7, _), (8, _), (9, _)]) (fk rfl (fk rfl (fk rfl (fk rfl (fk rfl fn))))) ?_
    refine cg_seq ?_
    refine cg_block ?_
    refine cg_seq ?_
    refine cg_region ?_
    refine lsw (want_none (by rfl)) (y_move rfl rfl) rfl (by decide) ?_
    refine lsw (want_none (by rfl)) (y_assign rfl rfl) rfl (by decide) ?_
    refine lg_nil ?_
    refine nx (E' := [(0, _), (1, _), (7, _), (8, _), (9, _), (10, _), (5, _)]) (fk rfl (fk rfl (fk rfl (fk rfl (fk rfl (fk rfl (fk rfl fn))))))) ?_
    refine cg_seq ?_
    refine cg_region ?_
    refine lsw (want_none (by rfl)) (y_move rfl rfl) rfl (by decide) ?_
    refine lsw (want_none (by rfl)) (y_move rfl rfl) rfl (by decide) ?_
    refine lsw (want_none (by rfl)) (y_move rfl rfl) rfl (by decide) ?_
    refine lsw (want_none (by rfl)) (y_ixT (i := t) (iI := ((t : Nat) : Int)) h (by omega) (by omega) rfl rfl rfl) rfl (by decide) ?_
    refine lsw (want_none (by rfl)) (y_ldT (i := t) h (by omega) rfl rfl) rfl (by decide) ?_
    by_cases c2 : (xs.getD t 0) < 0 ∨ 64 ≤ (xs.getD t 0)
    · refine lsw (want_none (by rfl)) (yb (decide_eq_true c2) (y_callf (outside_any (xs.getD t 0) _) (by kernel_rfl) rfl rfl rfl)) rfl (by decide) ?_
      refine lg_nil ?_
      refine nx (E' := [(0, _), (1, _), (7, _), (8, _), (9, _), (10, _), (5, _), (11, _), (12, _), (13, _), (14, _), (15, _), (16, _)]) (fk rfl (fk rfl (fk rfl (fk rfl (fk rfl (fk rfl (fk rfl (fk rfl (fk rfl (fk rfl (fk rfl (fk rfl (fk rfl fn))))))))))))) ?_
      refine cg_ct rfl ?_
      refine cg_seq ?_
      refine cg_region ?_
      refine lsw (want_none (by rfl)) (y_move rfl rfl) rfl (by decide) ?_
      refine lsw (want_none (by rfl)) (y_assign rfl rfl) rfl (by decide) ?_
      refine lg_nil ?_
      refine nx (E' := [(0, _), (1, _), (7, _), (8, _), (9, _), (10, _), (5, _), (11, _), (12, _), (13, _), (14, _), (15, _), (16, _), (17, _), (4, _)]) (fk rfl (fk rfl (fk rfl (fk rfl (fk rfl (fk rfl (fk rfl (fk rfl (fk rfl (fk rfl (fk rfl (fk rfl (fk rfl (fk rfl (fk rfl fn))))))))))))))) ?_
      refine cg_ret ?_
      refine eg_block_ret ?_
      refine eg_seq_ret ?_
      refine eg_seq_ret ?_
      refine eg_block_ret ?_
      refine eg_seq_ret ?_
      exact eg_ret_tmp rfl rfl ⟨congrArg (fun b => Ending.returned (nv b)) (outI_at hno (by omega) c2).symm, rfl⟩
    · refine lsw (want_none (by rfl)) (yb (decide_eq_false c2) (y_callf (outside_any (xs.getD t 0) _) (by kernel_rfl) rfl rfl rfl)) rfl (by decide) ?_
      refine lg_nil ?_
      refine nx (E' := [(0, _), (1, _), (7, _), (8, _), (9, _), (10, _), (5, _), (11, _), (12, _), (13, _), (14, _), (15, _), (16, _)]) (fk rfl (fk rfl (fk rfl (fk rfl (fk rfl (fk rfl (fk rfl (fk rfl (fk rfl (fk rfl (fk rfl (fk rfl (fk rfl fn))))))))))))) ?_
      refine cg_cf rfl ?_
      refine cg_skip ?_
      refine eg_block_norm ?_
      refine nx (E' := [(0, _), (1, _), (7, _), (8, _), (9, _), (10, _), (5, _), (11, _), (12, _), (13, _), (14, _), (15, _), (16, _)]) (fk rfl (fk rfl (fk rfl (fk rfl (fk rfl (fk rfl (fk rfl (fk rfl (fk rfl (fk rfl (fk rfl (fk rfl (fk rfl fn))))))))))))) ?_
      refine cg_region ?_
      refine lsw (want_none (by rfl)) (yv (congrArg nv (show ((t : Nat) : Int) + 1 = ((t + 1 : Nat) : Int) by omega)) (yi_add rfl rfl rfl (by omega) (by omega))) rfl (by decide) ?_
      refine lsw (want_none (by rfl)) (y_move rfl rfl) rfl (by decide) ?_
      refine lg_nil ?_
      exact fun a ha => (show t < xs.length ∧ _ from ⟨(by omega), ha.keep (fk rfl (fk rfl (fk rfl (fk rfl fn)))), rfl, (by omega), (fun j hj => if q : j < t then hno j q else by
          obtain rfl : j = t := by omega
          exact c2)⟩)
  · refine lsw (want_none (by rfl)) (yb (decide_eq_false c1) (yi_lss rfl rfl rfl)) rfl (by decide) ?_
    refine lg_nil ?_
    refine nx (E' := [(0, _), (1, _), (7, _), (8, _), (9, _)]) (fk rfl (fk rfl (fk rfl (fk rfl (fk rfl fn))))) ?_
    refine cg_seq ?_
    refine cg_cf rfl ?_
    refine cg_exit ?_
    refine eg_seq_exit ?_
    refine eg_seq_exit ?_
    refine eg_block_exit ?_
    refine nx (E' := []) fn ?_
    refine cg_seq ?_
    refine cg_region ?_
    refine lsw (want_none (by rfl)) (y_assign rfl rfl) rfl (by decide) ?_
    refine lg_nil ?_
    refine nx (E' := [(4, _)]) (fk rfl fn) ?_
    refine cg_ret ?_
    exact eg_ret_tmp rfl rfl ⟨congrArg (fun b => Ending.returned (nv b)) (outI_no fun j hj => hno j (by omega)).symm, rfl⟩
theorem containsOut_any (h : SlN w B s xs) : Calls Tryd.prog 66 #[s.v, .func (.func 67) #[] #[]] w fun e w' => e = .returned (.bool (decide (∃ x ∈ xs, x < 0 ∨ 64 ≤ x))) ∧ w' = w := by
  refine calls_cg (n := 9) Tryd.func66 rfl Tryd.ntmps66 (by simp) ?_
  show CG _ _ _ [(0, s.v), (1, .func (.func 67) #[] #[])] _ _
  refine cg_seq ?_
  refine cg_region ?_
  refine lsw (want_none (by rfl)) (y_assign rfl rfl) rfl (by decide) ?_
  refine lg_nil ?_
  refine nx (E' := [(0, _), (1, _), (4, _)]) (fk rfl (fk rfl (fk rfl fn))) ?_
  refine cg_seq ?_
  refine cg_region ?_
  refine lsw (want_none (by rfl)) (y_move rfl rfl) rfl (by decide) ?_
  refine lsw (want_none (by rfl)) (y_move rfl rfl) rfl (by decide) ?_
  refine lsw (want_none (by rfl)) (y_call (indexOut_any h) (by kernel_rfl) rfl rfl) rfl (by decide) ?_
  by_cases c1 : 0 ≤ (outI xs)
  · refine lsw (want_none (by rfl)) (yb (decide_eq_true c1) (yi_geq rfl rfl rfl)) rfl (by decide) ?_
    refine lsw (want_none (by rfl)) (y_assign rfl rfl) rfl (by decide) ?_
    refine lg_nil ?_
    refine nx (E' := [(4, _)]) (fk rfl fn) ?_
    refine cg_ret ?_
    exact eg_ret_tmp rfl rfl ⟨congrArg (fun b => Ending.returned (.bool b)) (decide_eq_true ((outI_iff xs).1 c1)).symm, rfl⟩
  · refine lsw (want_none (by rfl)) (yb (decide_eq_false c1) (yi_geq rfl rfl rfl)) rfl (by decide) ?_
    refine lsw (want_none (by rfl)) (y_assign rfl rfl) rfl (by decide) ?_
    refine lg_nil ?_
    refine nx (E' := [(4, _)]) (fk rfl fn) ?_
    refine cg_ret ?_
    exact eg_ret_tmp rfl rfl ⟨congrArg (fun b => Ending.returned (.bool b)) (decide_eq_false (fun q => c1 ((outI_iff xs).2 q))).symm, rfl⟩
theorem largeP_any (h : Sl w B s xs) : Calls Tryd.prog 65 #[s.v] w fun e w' => e = .returned (.bool (decide (200 < (xs.length : Int)))) ∧ w' = w := by
  refine calls_cg (n := 6) Tryd.func65 rfl Tryd.ntmps65 (by simp) ?_
  show CG _ _ _ [(0, s.v)] _ _
  refine cg_seq ?_
  refine cg_region ?_
  refine lsw (want_none (by rfl)) (y_assign rfl rfl) rfl (by decide) ?_
  refine lg_nil ?_
  refine nx (E' := [(0, _), (2, _)]) (fk rfl (fk rfl fn)) ?_
  refine cg_seq ?_
  refine cg_region ?_
  refine lsw (want_none (by rfl)) (y_move rfl rfl) rfl (by decide) ?_
  refine lsw (want_none (by rfl)) (y_lenS (el := 5) h (by kernel_rfl) rfl rfl) rfl (by decide) ?_
  refine lsw (want_none (by rfl)) (yi_gtr rfl rfl rfl) rfl (by decide) ?_
  refine lsw (want_none (by rfl)) (y_assign rfl rfl) rfl (by decide) ?_
  refine lg_nil ?_
  refine nx (E' := [(2, _)]) (fk rfl fn) ?_
  refine cg_ret ?_
  exact eg_ret_tmp rfl rfl ⟨rfl, rfl⟩
theorem ints_S (h : SlN W B s xs) (h2 : SlN W B2 s2 ys) (hB : B ≤ W.heap.size) (hB2 : B2 ≤ W.heap.size) : Calls Tryd.prog 69 #[s.v, s2.v] W fun e w' => ∃ v, e = .returned v ∧ v = .bool (decide (xs = ys)) ∧ Below W.heap.size W w' := by
  refine calls_cg (n := 26) Tryd.func69 rfl Tryd.ntmps69 (by simp) ?_
  show CG _ _ _ [(0, s.v), (1, s2.v)] _ _
  have u := Below.refl W.heap.size W
  have le_h := h.len; have ca_h := h.cap
  have le_h2 := h2.len; have ca_h2 := h2.cap
  refine cg_seq ?_
  refine cg_region ?_
  refine lsw (want_none (by rfl)) (y_assign rfl rfl) rfl (by decide) ?_
  refine lg_nil ?_
  refine nx (E' := [(0, _), (1, _), (4, _)]) (fk rfl (fk rfl (fk rfl fn))) ?_
  refine cg_seq ?_
  refine cg_seq ?_
  refine cg_region ?_
  refine lsw (want_none (by rfl)) (y_move rfl rfl) rfl (by decide) ?_
  refine lsw (want_none (by rfl)) (y_lenM (el := 3) h.len (by kernel_rfl) rfl rfl) rfl (by decide) ?_
  refine lsw (want_none (by rfl)) (y_move rfl rfl) rfl (by decide) ?_
  refine lsw (want_none (by rfl)) (y_lenM (el := 3) h2.len (by kernel_rfl) rfl rfl) rfl (by decide) ?_
  by_cases c1 : (xs.length : Int) = (ys.length : Int)
  · refine lsw (want_none (by rfl)) (yb (nd_f c1) (yi_neq rfl rfl rfl)) rfl (by decide) ?_
    refine lg_nil ?_
    refine nx (E' := [(0, _), (1, _), (4, _), (10, _)]) (fk rfl (fk rfl (fk rfl (fk rfl fn)))) ?_
    refine cg_cf rfl ?_
    refine cg_skip ?_
    refine nx (E' := [(0, _), (1, _), (4, _)]) (fk rfl (fk rfl (fk rfl fn))) ?_
    refine cg_seq ?_
    refine cg_seq ?_
    refine cg_region ?_
    refine lsw (want_none (by rfl)) (y_assign rfl rfl) rfl (by decide) ?_
    refine lg_nil ?_
    refine nx (E' := [(0, _), (1, _), (4, _), (5, _)]) (fk rfl (fk rfl (fk rfl (fk rfl fn)))) ?_
    refine cg_block ?_
    refine cg_loopE (fun t a v => Holds 26 [(0, s.v), (1, s2.v), (5, nv ((t : Nat) : Int))] a ∧ SlN v B s xs ∧ SlN v B2 s2 ys ∧ Below W.heap.size W v ∧ t ≤ xs.length ∧ (∀ i, i < t → xs.getD i 0 = ys.getD i 0)) xs.length (fun a ha => ⟨ha.keep (fk rfl (fk rfl (fk rfl fn))), h, h2, u, (Nat.zero_le _), (fun i hi => absurd hi (Nat.not_lt_zero _))⟩) ?_
    rintro t a v ht ⟨ha, h, h2, u, tle, he⟩
    refine cg_at ha ?_
    clear ha a
    have zv := u.size
    refine cg_seq ?_
    refine cg_seq ?_
    refine cg_region ?_
    refine lsw (want_none (by rfl)) (y_move rfl rfl) rfl (by decide) ?_
    refine lsw (want_none (by rfl)) (y_move rfl rfl) rfl (by decide) ?_
    refine lsw (want_none (by rfl)) (y_lenM (el := 3) h.len (by kernel_rfl) rfl rfl) rfl (by decide) ?_
    by_cases c2 : ((t : Nat) : Int) < (xs.length : Int)
    · refine lsw (want_none (by rfl)) (yb (decide_eq_true c2) (yi_lss rfl rfl rfl)) rfl (by decide) ?_
      refine lg_nil ?_
      refine nx (E' := [(0, _), (1, _), (5, _), (11, _), (12, _), (13, _), (14, _)]) (fk rfl (fk rfl (fk rfl (fk rfl (fk rfl (fk rfl (fk rfl fn))))))) ?_
      refine cg_ct rfl ?_
      refine cg_skip ?_
      refine nx (E' := [(0, _), (1, _), (5, _), (11, _), (12, _), (13, _), (14, _)]) (fk rfl (fk rfl (fk rfl (fk rfl (fk rfl (fk rfl (fk rfl fn))))))) ?_
      refine cg_seq ?_
      refine cg_block ?_
      refine cg_seq ?_
      refine cg_still (by kernel_rfl) (by kernel_rfl) fun W3 eW3 => ?_
      have dW3 := below_drew _ _ eW3
      have zW3 := size_drew _ _ eW3
      clear eW3
      refine stw (want_none (by rfl)) (y_move rfl rfl) rfl (by decide) ?_
      refine stw (want_none (by rfl)) (y_move rfl rfl) rfl (by decide) ?_
      have h := h.below (dW3.mono (by omega))
      refine stw (want_none (by rfl)) (y_ixT (i := t) (iI := ((t : Nat) : Int)) h (by omega) (by omega) rfl rfl rfl) rfl (by decide) ?_
      refine stw (want_none (by rfl)) (y_ldT (i := t) h (by omega) rfl rfl) rfl (by decide) ?_
      refine stw (want_none (by rfl)) (y_move rfl rfl) rfl (by decide) ?_
      refine stw (want_none (by rfl)) (y_move rfl rfl) rfl (by decide) ?_
      have h2 := h2.below (dW3.mono (by omega))
      refine stw (want_none (by rfl)) (y_ixT (i := t) (iI := ((t : Nat) : Int)) h2 (by omega) (by omega) rfl rfl rfl) rfl (by decide) ?_
      refine stw (want_none (by rfl)) (y_ldT (i := t) h2 (by omega) rfl rfl) rfl (by decide) ?_
      by_cases c4 : (xs.getD t 0) = (ys.getD t 0)
      · refine stw (want_none (by rfl)) (yb (nd_f c4) (yi_neq rfl rfl rfl)) rfl (by decide) ?_
        refine sg_nil ?_
        refine nx (E' := [(0, _), (1, _), (5, _), (11, _), (12, _), (13, _), (14, _), (17, _), (18, _), (19, _), (20, _), (21, _), (22, _), (23, _), (24, _), (25, _)]) (fk rfl (fk rfl (fk rfl (fk rfl (fk rfl (fk rfl (fk rfl (fk rfl (fk rfl (fk rfl (fk rfl (fk rfl (fk rfl (fk rfl (fk rfl (fk rfl fn)))))))))))))))) ?_
        refine cg_cf rfl ?_
        refine cg_skip ?_
        refine eg_block_norm ?_
        refine nx (E' := [(0, _), (1, _), (5, _), (11, _), (12, _), (13, _), (14, _), (17, _), (18, _), (19, _), (20, _), (21, _), (22, _), (23, _), (24, _), (25, _)]) (fk rfl (fk rfl (fk rfl (fk rfl (fk rfl (fk rfl (fk rfl (fk rfl (fk rfl (fk rfl (fk rfl (fk rfl (fk rfl (fk rfl (fk rfl (fk rfl fn)))))))))))))))) ?_
        refine cg_region ?_
        refine lsw (want_none (by rfl)) (y_move rfl rfl) rfl (by decide) ?_
        refine lsw (want_none (by rfl)) (yv (congrArg nv (show ((t : Nat) : Int) + 1 = ((t + 1 : Nat) : Int) by omega)) (yi_add rfl rfl rfl (by omega) (by omega))) rfl (by decide) ?_
        refine lsw (want_none (by rfl)) (y_assign rfl rfl) rfl (by decide) ?_
        refine lg_nil ?_
        have u := u.trans (dW3.mono u.size)
        exact fun a ha => (show t < xs.length ∧ _ from ⟨(by omega), ha.keep (fk rfl (fk rfl (fk rfl fn))), h, h2, u, (by omega), (fun i hi => if q : i < t then he i q else by
            obtain rfl : i = t := by omega
            exact c4)⟩)
      · refine stw (want_none (by rfl)) (yb (nd_t c4) (yi_neq rfl rfl rfl)) rfl (by decide) ?_
        refine sg_nil ?_
        refine nx (E' := [(0, _), (1, _), (5, _), (11, _), (12, _), (13, _), (14, _), (17, _), (18, _), (19, _), (20, _), (21, _), (22, _), (23, _), (24, _), (25, _)]) (fk rfl (fk rfl (fk rfl (fk rfl (fk rfl (fk rfl (fk rfl (fk rfl (fk rfl (fk rfl (fk rfl (fk rfl (fk rfl (fk rfl (fk rfl (fk rfl fn)))))))))))))))) ?_
        refine cg_ct rfl ?_
        refine cg_seq ?_
        refine cg_region ?_
        refine lsw (want_none (by rfl)) (y_assign rfl rfl) rfl (by decide) ?_
        refine lg_nil ?_
        refine nx (E' := [(0, _), (1, _), (5, _), (11, _), (12, _), (13, _), (14, _), (17, _), (18, _), (19, _), (20, _), (21, _), (22, _), (23, _), (24, _), (25, _), (4, _)]) (fk rfl (fk rfl (fk rfl (fk rfl (fk rfl (fk rfl (fk rfl (fk rfl (fk rfl (fk rfl (fk rfl (fk rfl (fk rfl (fk rfl (fk rfl (fk rfl (fk rfl fn))))))))))))))))) ?_
        refine cg_ret ?_
        refine eg_block_ret ?_
        refine eg_seq_ret ?_
        refine eg_seq_ret ?_
        refine eg_block_ret ?_
        refine eg_seq_ret ?_
        have u := u.trans (dW3.mono u.size)
        exact eg_ret_tmp rfl rfl ⟨_, rfl, congrArg Value.bool (decide_eq_false (fun q => c4 (by rw [q]))).symm, u⟩
    · refine lsw (want_none (by rfl)) (yb (decide_eq_false c2) (yi_lss rfl rfl rfl)) rfl (by decide) ?_
      refine lg_nil ?_
      refine nx (E' := [(0, _), (1, _), (5, _), (11, _), (12, _), (13, _), (14, _)]) (fk rfl (fk rfl (fk rfl (fk rfl (fk rfl (fk rfl (fk rfl fn))))))) ?_
      refine cg_cf rfl ?_
      refine cg_exit ?_
      refine eg_seq_exit ?_
      refine eg_seq_exit ?_
      refine eg_block_exit ?_
      refine nx (E' := []) fn ?_
      refine cg_seq ?_
      refine cg_region ?_
      refine lsw (want_none (by rfl)) (y_assign rfl rfl) rfl (by decide) ?_
      refine lg_nil ?_
      refine nx (E' := [(4, _)]) (fk rfl fn) ?_
      refine cg_ret ?_
      exact eg_ret_tmp rfl rfl ⟨_, rfl, congrArg Value.bool (decide_eq_true (list_eq_getD (by omega) fun i hi => he i (by omega))).symm, u⟩
  · refine lsw (want_none (by rfl)) (yb (nd_t c1) (yi_neq rfl rfl rfl)) rfl (by decide) ?_
    refine lg_nil ?_
    refine nx (E' := [(0, _), (1, _), (4, _), (10, _)]) (fk rfl (fk rfl (fk rfl (fk rfl fn)))) ?_
    refine cg_ct rfl ?_
    refine cg_seq ?_
    refine cg_region ?_
    refine lsw (want_none (by rfl)) (y_assign rfl rfl) rfl (by decide) ?_
    refine lg_nil ?_
    refine nx (E' := [(0, _), (1, _), (4, _)]) (fk rfl (fk rfl (fk rfl fn))) ?_
    refine cg_ret ?_
    refine eg_seq_ret ?_
    exact eg_ret_tmp rfl rfl ⟨_, rfl, congrArg Value.bool (decide_eq_false (fun q => by have := congrArg List.length q; omega)).symm, u⟩
theorem equalN_S (h : SlN W B s xs) (h2 : SlN W B2 s2 ys) (hB : B ≤ W.heap.size) (hB2 : B2 ≤ W.heap.size) : Calls Tryd.prog 62 #[s.v, s2.v] W fun e w' => ∃ v, e = .returned v ∧ v = .bool (decide (xs = ys)) ∧ Below W.heap.size W w' := by
  refine calls_cg (n := 26) Tryd.func62 rfl Tryd.ntmps62 (by simp) ?_
  show CG _ _ _ [(0, s.v), (1, s2.v)] _ _
  have u := Below.refl W.heap.size W
  have le_h := h.len; have ca_h := h.cap
  have le_h2 := h2.len; have ca_h2 := h2.cap
  refine cg_seq ?_
  refine cg_region ?_
  refine lsw (want_none (by rfl)) (y_assign rfl rfl) rfl (by decide) ?_
  refine lg_nil ?_
  refine nx (E' := [(0, _), (1, _), (4, _)]) (fk rfl (fk rfl (fk rfl fn))) ?_
  refine cg_seq ?_
  refine cg_seq ?_
  refine cg_region ?_
  refine lsw (want_none (by rfl)) (y_move rfl rfl) rfl (by decide) ?_
  refine lsw (want_none (by rfl)) (y_lenM (el := 3) h.len (by kernel_rfl) rfl rfl) rfl (by decide) ?_
  refine lsw (want_none (by rfl)) (y_move rfl rfl) rfl (by decide) ?_
  refine lsw (want_none (by rfl)) (y_lenM (el := 3) h2.len (by kernel_rfl) rfl rfl) rfl (by decide) ?_
  by_cases c1 : (xs.length : Int) = (ys.length : Int)
  · refine lsw (want_none (by rfl)) (yb (nd_f c1) (yi_neq rfl rfl rfl)) rfl (by decide) ?_
    refine lg_nil ?_
    refine nx (E' := [(0, _), (1, _), (4, _), (10, _)]) (fk rfl (fk rfl (fk rfl (fk rfl fn)))) ?_
    refine cg_cf rfl ?_
    refine cg_skip ?_
    refine nx (E' := [(0, _), (1, _), (4, _)]) (fk rfl (fk rfl (fk rfl fn))) ?_
    refine cg_seq ?_
    refine cg_seq ?_
    refine cg_region ?_
    refine lsw (want_none (by rfl)) (y_move rfl rfl) rfl (by decide) ?_
    refine lsw (want_none (by rfl)) (y_lenM (el := 3) h.len (by kernel_rfl) rfl rfl) rfl (by decide) ?_
    refine lsw (want_none (by rfl)) (y_move rfl rfl) rfl (by decide) ?_
    refine lg_nil ?_
    refine nx (E' := [(0, _), (1, _), (4, _), (12, _), (13, _)]) (fk rfl (fk rfl (fk rfl (fk rfl (fk rfl fn))))) ?_
    refine cg_block ?_
    refine cg_loopE (fun t a v => Holds 26 [(0, s.v), (1, s2.v), (12, nv (xs.length : Int)), (13, nv ((t : Nat) : Int))] a ∧ SlN v B s xs ∧ SlN v B2 s2 ys ∧ Below W.heap.size W v ∧ t ≤ xs.length ∧ (∀ i, i < t → xs.getD i 0 = ys.getD i 0)) xs.length (fun a ha => ⟨ha.keep (fk rfl (fk rfl (fk rfl (fk rfl fn)))), h, h2, u, (Nat.zero_le _), (fun i hi => absurd hi (Nat.not_lt_zero _))⟩) ?_
    rintro t a v ht ⟨ha, h, h2, u, tle, he⟩
    refine cg_at ha ?_
    clear ha a
    have zv := u.size
    refine cg_seq ?_
    refine cg_region ?_
    by_cases c2 : ((t : Nat) : Int) < (xs.length : Int)
    · refine lsw (want_none (by rfl)) (yb (decide_eq_true c2) (yi_lss rfl rfl rfl)) rfl (by decide) ?_
      refine lg_nil ?_
      refine nx (E' := [(0, _), (1, _), (12, _), (13, _), (14, _)]) (fk rfl (fk rfl (fk rfl (fk rfl (fk rfl fn))))) ?_
      refine cg_seq ?_
      refine cg_ct rfl ?_
      refine cg_skip ?_
      refine nx (E' := [(0, _), (1, _), (12, _), (13, _), (14, _)]) (fk rfl (fk rfl (fk rfl (fk rfl (fk rfl fn))))) ?_
      refine cg_seq ?_
      refine cg_block ?_
      refine cg_seq ?_
      refine cg_region ?_
      refine lsw (want_none (by rfl)) (y_move rfl rfl) rfl (by decide) ?_
      refine lsw (want_none (by rfl)) (y_assign rfl rfl) rfl (by decide) ?_
      refine lg_nil ?_
      refine nx (E' := [(0, _), (1, _), (12, _), (13, _), (14, _), (15, _), (5, _)]) (fk rfl (fk rfl (fk rfl (fk rfl (fk rfl (fk rfl (fk rfl fn))))))) ?_
      refine cg_seq ?_
      refine cg_still (by kernel_rfl) (by kernel_rfl) fun W3 eW3 => ?_
      have dW3 := below_drew _ _ eW3
      have zW3 := size_drew _ _ eW3
      clear eW3
      refine stw (want_none (by rfl)) (y_move rfl rfl) rfl (by decide) ?_
      refine stw (want_none (by rfl)) (y_move rfl rfl) rfl (by decide) ?_
      have h := h.below (dW3.mono (by omega))
      refine stw (want_none (by rfl)) (y_ixT (i := t) (iI := ((t : Nat) : Int)) h (by omega) (by omega) rfl rfl rfl) rfl (by decide) ?_
      refine stw (want_none (by rfl)) (y_ldT (i := t) h (by omega) rfl rfl) rfl (by decide) ?_
      refine stw (want_none (by rfl)) (y_move rfl rfl) rfl (by decide) ?_
      refine stw (want_none (by rfl)) (y_move rfl rfl) rfl (by decide) ?_
      have h2 := h2.below (dW3.mono (by omega))
      refine stw (want_none (by rfl)) (y_ixT (i := t) (iI := ((t : Nat) : Int)) h2 (by omega) (by omega) rfl rfl rfl) rfl (by decide) ?_
      refine stw (want_none (by rfl)) (y_ldT (i := t) h2 (by omega) rfl rfl) rfl (by decide) ?_
      by_cases c4 : (xs.getD t 0) = (ys.getD t 0)
      · refine stw (want_none (by rfl)) (yb (nd_f c4) (yi_neq rfl rfl rfl)) rfl (by decide) ?_
        refine sg_nil ?_
        refine nx (E' := [(0, _), (1, _), (12, _), (13, _), (14, _), (15, _), (5, _), (16, _), (17, _), (18, _), (19, _), (20, _), (21, _), (22, _), (23, _), (24, _)]) (fk rfl (fk rfl (fk rfl (fk rfl (fk rfl (fk rfl (fk rfl (fk rfl (fk rfl (fk rfl (fk rfl (fk rfl (fk rfl (fk rfl (fk rfl (fk rfl fn)))))))))))))))) ?_
        refine cg_cf rfl ?_
        refine cg_skip ?_
        refine eg_block_norm ?_
        refine nx (E' := [(0, _), (1, _), (12, _), (13, _), (14, _), (15, _), (5, _), (16, _), (17, _), (18, _), (19, _), (20, _), (21, _), (22, _), (23, _), (24, _)]) (fk rfl (fk rfl (fk rfl (fk rfl (fk rfl (fk rfl (fk rfl (fk rfl (fk rfl (fk rfl (fk rfl (fk rfl (fk rfl (fk rfl (fk rfl (fk rfl fn)))))))))))))))) ?_
        refine cg_region ?_
        refine lsw (want_none (by rfl)) (yv (congrArg nv (show ((t : Nat) : Int) + 1 = ((t + 1 : Nat) : Int) by omega)) (yi_add rfl rfl rfl (by omega) (by omega))) rfl (by decide) ?_
        refine lsw (want_none (by rfl)) (y_move rfl rfl) rfl (by decide) ?_
        refine lg_nil ?_
        have u := u.trans (dW3.mono u.size)
        exact fun a ha => (show t < xs.length ∧ _ from ⟨(by omega), ha.keep (fk rfl (fk rfl (fk rfl (fk rfl fn)))), h, h2, u, (by omega), (fun i hi => if q : i < t then he i q else by
            obtain rfl : i = t := by omega
            exact c4)⟩)
      · refine stw (want_none (by rfl)) (yb (nd_t c4) (yi_neq rfl rfl rfl)) rfl (by decide) ?_
        refine sg_nil ?_
        refine nx (E' := [(0, _), (1, _), (12, _), (13, _), (14, _), (15, _), (5, _), (16, _), (17, _), (18, _), (19, _), (20, _), (21, _), (22, _), (23, _), (24, _)]) (fk rfl (fk rfl (fk rfl (fk rfl (fk rfl (fk rfl (fk rfl (fk rfl (fk rfl (fk rfl (fk rfl (fk rfl (fk rfl (fk rfl (fk rfl (fk rfl fn)))))))))))))))) ?_
        refine cg_ct rfl ?_
        refine cg_seq ?_
        refine cg_region ?_
        refine lsw (want_none (by rfl)) (y_assign rfl rfl) rfl (by decide) ?_
        refine lg_nil ?_
        refine nx (E' := [(0, _), (1, _), (12, _), (13, _), (14, _), (15, _), (5, _), (16, _), (17, _), (18, _), (19, _), (20, _), (21, _), (22, _), (23, _), (24, _), (4, _)]) (fk rfl (fk rfl (fk rfl (fk rfl (fk rfl (fk rfl (fk rfl (fk rfl (fk rfl (fk rfl (fk rfl (fk rfl (fk rfl (fk rfl (fk rfl (fk rfl (fk rfl fn))))))))))))))))) ?_
        refine cg_ret ?_
        refine eg_block_ret ?_
        refine eg_seq_ret ?_
        refine eg_seq_ret ?_
        refine eg_block_ret ?_
        refine eg_seq_ret ?_
        have u := u.trans (dW3.mono u.size)
        exact eg_ret_tmp rfl rfl ⟨_, rfl, congrArg Value.bool (decide_eq_false (fun q => c4 (by rw [q]))).symm, u⟩
    · refine lsw (want_none (by rfl)) (yb (decide_eq_false c2) (yi_lss rfl rfl rfl)) rfl (by decide) ?_
      refine lg_nil ?_
      refine nx (E' := [(0, _), (1, _), (12, _), (13, _), (14, _)]) (fk rfl (fk rfl (fk rfl (fk rfl (fk rfl fn))))) ?_
      refine cg_seq ?_
      refine cg_cf rfl ?_
      refine cg_exit ?_
      refine eg_seq_exit ?_
      refine eg_seq_exit ?_
      refine eg_block_exit ?_
      refine nx (E' := []) fn ?_
      refine cg_seq ?_
      refine cg_region ?_
      refine lsw (want_none (by rfl)) (y_assign rfl rfl) rfl (by decide) ?_
      refine lg_nil ?_
      refine nx (E' := [(4, _)]) (fk rfl fn) ?_
      refine cg_ret ?_
      exact eg_ret_tmp rfl rfl ⟨_, rfl, congrArg Value.bool (decide_eq_true (list_eq_getD (by omega) fun i hi => he i (by omega))).symm, u⟩
  · refine lsw (want_none (by rfl)) (yb (nd_t c1) (yi_neq rfl rfl rfl)) rfl (by decide) ?_
    refine lg_nil ?_
    refine nx (E' := [(0, _), (1, _), (4, _), (10, _)]) (fk rfl (fk rfl (fk rfl (fk rfl fn)))) ?_
    refine cg_ct rfl ?_
    refine cg_seq ?_
    refine cg_region ?_
    refine lsw (want_none (by rfl)) (y_assign rfl rfl) rfl (by decide) ?_
    refine lg_nil ?_
    refine nx (E' := [(0, _), (1, _), (4, _)]) (fk rfl (fk rfl (fk rfl fn))) ?_
    refine cg_ret ?_
    refine eg_seq_ret ?_
    exact eg_ret_tmp rfl rfl ⟨_, rfl, congrArg Value.bool (decide_eq_false (fun q => by have := congrArg List.length q; omega)).symm, u⟩
theorem rises_any (h : SlN W B s xs) (hB : B ≤ W.heap.size) : Calls Tryd.prog 68 #[s.v] W fun e w' => ∃ v, e = .returned v ∧ v = .bool (decide (Rising xs)) ∧ Below W.heap.size W w' := by
  refine calls_cg (n := 20) Tryd.func68 rfl Tryd.ntmps68 (by simp) ?_
  show CG _ _ _ [(0, s.v)] _ _
  have u := Below.refl W.heap.size W
  have le_h := h.len; have ca_h := h.cap
  refine cg_seq ?_
  refine cg_region ?_
  refine lsw (want_none (by rfl)) (y_assign rfl rfl) rfl (by decide) ?_
  refine lg_nil ?_
  refine nx (E' := [(0, _), (2, _)]) (fk rfl (fk rfl fn)) ?_
  refine cg_seq ?_
  refine cg_seq ?_
  refine cg_region ?_
  refine lsw (want_none (by rfl)) (y_assign rfl rfl) rfl (by decide) ?_
  refine lg_nil ?_
  refine nx (E' := [(0, _), (2, _), (3, _)]) (fk rfl (fk rfl (fk rfl fn))) ?_
  refine cg_block ?_
  refine cg_loopE (fun t a v => Holds 20 [(0, s.v), (3, nv (((t + 1) : Nat) : Int))] a ∧ SlN v B s xs ∧ Below W.heap.size W v ∧ (∀ i, i < t → xs.getD i 0 < xs.getD (i + 1) 0) ∧ (t = 0 ∨ t < xs.length)) xs.length (fun a ha => ⟨ha.keep (fk rfl (fk rfl fn)), h, u, (fun i hi => absurd hi (Nat.not_lt_zero _)), (.inl rfl)⟩) ?_
  rintro t a v ht ⟨ha, h, u, he, tle⟩
  refine cg_at ha ?_
  clear ha a
  have zv := u.size
  refine cg_seq ?_
  refine cg_seq ?_
  refine cg_region ?_
  refine lsw (want_none (by rfl)) (y_move rfl rfl) rfl (by decide) ?_
  refine lsw (want_none (by rfl)) (y_move rfl rfl) rfl (by decide) ?_
  refine lsw (want_none (by rfl)) (y_lenM (el := 3) h.len (by kernel_rfl) rfl rfl) rfl (by decide) ?_
  by_cases c1 : (((t + 1) : Nat) : Int) < (xs.length : Int)
  · refine lsw (want_none (by rfl)) (yb (decide_eq_true c1) (yi_lss rfl rfl rfl)) rfl (by decide) ?_
    refine lg_nil ?_
    refine nx (E' := [(0, _), (3, _), (4, _), (5, _), (6, _), (7, _)]) (fk rfl (fk rfl (fk rfl (fk rfl (fk rfl (fk rfl fn)))))) ?_
    refine cg_ct rfl ?_
    refine cg_skip ?_
    refine nx (E' := [(0, _), (3, _), (4, _), (5, _), (6, _), (7, _)]) (fk rfl (fk rfl (fk rfl (fk rfl (fk rfl (fk rfl fn)))))) ?_
    refine cg_seq ?_
    refine cg_block ?_
    refine cg_seq ?_
    refine cg_still (by kernel_rfl) (by kernel_rfl) fun W2 eW2 => ?_
    have dW2 := below_drew _ _ eW2
    have zW2 := size_drew _ _ eW2
    clear eW2
    refine stw (want_none (by rfl)) (y_move rfl rfl) rfl (by decide) ?_
    refine stw (want_none (by rfl)) (y_move rfl rfl) rfl (by decide) ?_
    have h := h.below (dW2.mono (by omega))
    refine stw (want_none (by rfl)) (y_ixT (i := (t + 1)) (iI := (((t + 1) : Nat) : Int)) h (by omega) (by omega) rfl rfl rfl) rfl (by decide) ?_
    refine stw (want_none (by rfl)) (y_ldT (i := (t + 1)) h (by omega) rfl rfl) rfl (by decide) ?_
    refine stw (want_none (by rfl)) (y_move rfl rfl) rfl (by decide) ?_
    refine stw (want_none (by rfl)) (y_move rfl rfl) rfl (by decide) ?_
    refine stw (want_none (by rfl)) (yv (congrArg nv (show ((t + 1 : Nat) : Int) - 1 = ((t : Nat) : Int) by omega)) (yi_sub rfl rfl rfl (by omega) (by omega))) rfl (by decide) ?_
    refine stw (want_none (by rfl)) (y_ixT (i := t) (iI := ((t : Nat) : Int)) h (by omega) (by omega) rfl rfl rfl) rfl (by decide) ?_
    refine stw (want_none (by rfl)) (y_ldT (i := t) h (by omega) rfl rfl) rfl (by decide) ?_
    by_cases c3 : (xs.getD (t + 1) 0) ≤ (xs.getD t 0)
    · refine stw (want_none (by rfl)) (yb (decide_eq_true c3) (yi_leq rfl rfl rfl)) rfl (by decide) ?_
      refine sg_nil ?_
      refine nx (E' := [(0, _), (3, _), (4, _), (5, _), (6, _), (7, _), (10, _), (11, _), (12, _), (13, _), (14, _), (15, _), (16, _), (17, _), (18, _), (19, _)]) (fk rfl (fk rfl (fk rfl (fk rfl (fk rfl (fk rfl (fk rfl (fk rfl (fk rfl (fk rfl (fk rfl (fk rfl (fk rfl (fk rfl (fk rfl (fk rfl fn)))))))))))))))) ?_
      refine cg_ct rfl ?_
      refine cg_seq ?_
      refine cg_region ?_
      refine lsw (want_none (by rfl)) (y_assign rfl rfl) rfl (by decide) ?_
      refine lg_nil ?_
      refine nx (E' := [(0, _), (3, _), (4, _), (5, _), (6, _), (7, _), (10, _), (11, _), (12, _), (13, _), (14, _), (15, _), (16, _), (17, _), (18, _), (19, _), (2, _)]) (fk rfl (fk rfl (fk rfl (fk rfl (fk rfl (fk rfl (fk rfl (fk rfl (fk rfl (fk rfl (fk rfl (fk rfl (fk rfl (fk rfl (fk rfl (fk rfl (fk rfl fn))))))))))))))))) ?_
      refine cg_ret ?_
      refine eg_block_ret ?_
      refine eg_seq_ret ?_
      refine eg_seq_ret ?_
      refine eg_block_ret ?_
      refine eg_seq_ret ?_
      have u := u.trans (dW2.mono u.size)
      exact eg_ret_tmp rfl rfl ⟨_, rfl, congrArg Value.bool (decide_eq_false (not_rising (by omega) c3)).symm, u⟩
    · refine stw (want_none (by rfl)) (yb (decide_eq_false c3) (yi_leq rfl rfl rfl)) rfl (by decide) ?_
      refine sg_nil ?_
      refine nx (E' := [(0, _), (3, _), (4, _), (5, _), (6, _), (7, _), (10, _), (11, _), (12, _), (13, _), (14, _), (15, _), (16, _), (17, _), (18, _), (19, _)]) (fk rfl (fk rfl (fk rfl (fk rfl (fk rfl (fk rfl (fk rfl (fk rfl (fk rfl (fk rfl (fk rfl (fk rfl (fk rfl (fk rfl (fk rfl (fk rfl fn)))))))))))))))) ?_
      refine cg_cf rfl ?_
      refine cg_skip ?_
      refine eg_block_norm ?_
      refine nx (E' := [(0, _), (3, _), (4, _), (5, _), (6, _), (7, _), (10, _), (11, _), (12, _), (13, _), (14, _), (15, _), (16, _), (17, _), (18, _), (19, _)]) (fk rfl (fk rfl (fk rfl (fk rfl (fk rfl (fk rfl (fk rfl (fk rfl (fk rfl (fk rfl (fk rfl (fk rfl (fk rfl (fk rfl (fk rfl (fk rfl fn)))))))))))))))) ?_
      refine cg_region ?_
      refine lsw (want_none (by rfl)) (y_move rfl rfl) rfl (by decide) ?_
      refine lsw (want_none (by rfl)) (yv (congrArg nv (show ((t + 1 : Nat) : Int) + 1 = ((t + 1 + 1 : Nat) : Int) by omega)) (yi_add rfl rfl rfl (by omega) (by omega))) rfl (by decide) ?_
      refine lsw (want_none (by rfl)) (y_assign rfl rfl) rfl (by decide) ?_
      refine lg_nil ?_
      have u := u.trans (dW2.mono u.size)
      exact fun a ha => (show t < xs.length ∧ _ from ⟨(by omega), ha.keep (fk rfl (fk rfl fn)), h, u, (fun i hi => if q : i < t then he i q else by
          obtain rfl : i = t := by omega
          exact Int.not_le.1 c3), (by omega)⟩)
  · refine lsw (want_none (by rfl)) (yb (decide_eq_false c1) (yi_lss rfl rfl rfl)) rfl (by decide) ?_
    refine lg_nil ?_
    refine nx (E' := [(0, _), (3, _), (4, _), (5, _), (6, _), (7, _)]) (fk rfl (fk rfl (fk rfl (fk rfl (fk rfl (fk rfl fn)))))) ?_
    refine cg_cf rfl ?_
    refine cg_exit ?_
    refine eg_seq_exit ?_
    refine eg_seq_exit ?_
    refine eg_block_exit ?_
    refine nx (E' := []) fn ?_
    refine cg_seq ?_
    refine cg_region ?_
    refine lsw (want_none (by rfl)) (y_assign rfl rfl) rfl (by decide) ?_
    refine lg_nil ?_
    refine nx (E' := [(2, _)]) (fk rfl fn) ?_
    refine cg_ret ?_
    exact eg_ret_tmp rfl rfl ⟨_, rfl, congrArg Value.bool (decide_eq_true (rising_of fun i hi => he i (by omega))).symm, u⟩
end
end Go.Proofs.YtpoonjgkgaodmaaDoor
