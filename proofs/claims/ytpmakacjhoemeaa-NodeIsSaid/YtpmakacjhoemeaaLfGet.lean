/-
  leaf.Get, and its closures.
-/
import Derived.Test.YtpmakacjhoemeaaLfProg
namespace Go.Proofs.Ytpmakacjhoemeaa
open Go.ChangeShapes Go.WideShapes Go.ChangeAt Go.RowKit
set_option linter.unusedVariables false

theorem clB_any {W : World} {B be br : Nat} {te tr : TypeId} {s : SlV} {xs : List Int} {e : Int} (re : RowAt W be te #[nv e]) (rr : RowAt W br tr #[s.v]) (hs : Sl W B s xs) (h1 : B ≤ be) (h2 : B ≤ br) (hB : B ≤ W.heap.size) (hne : be ≠ br) : Calls Try.prog 87 #[pv be 0, pv br 0] W fun e' W' => ∃ v, e' = .returned v ∧ ∃ p r : SlV, v = p.v ∧ Sl W' B p (stepB xs e).1 ∧ Sl W' B r (stepB xs e).2.1 ∧ RowAt W' be te #[nv (stepB xs e).2.2] ∧ RowAt W' br tr #[r.v] ∧ But2 W W' be br := by
  refine calls_cg (n := 13) Try.func87 rfl Try.ntmps87 (by simp) ?_
  show CG _ _ _ [(0, pv be 0), (1, pv br 0)] _ _
  have u := Below.refl W.heap.size W
  have lbe := re.lt
  have lbr := rr.lt
  have bu := But2.refl (w := W) be br
  refine cg_seq ?_
  refine cg_region ?_
  refine lsw (want_none (by rfl)) (y_assign rfl rfl) rfl (by decide) ?_
  refine lg_nil ?_
  refine nx (E' := [(0, _), (1, _), (2, _)]) (fk rfl (fk rfl (fk rfl fn))) ?_
  refine cg_seq ?_
  refine cg_region ?_
  refine lsw (want_none (by rfl)) (y_assign rfl rfl) rfl (by decide) ?_
  refine lg_nil ?_
  refine nx (E' := [(0, _), (1, _), (2, _), (3, _)]) (fk rfl (fk rfl (fk rfl (fk rfl fn)))) ?_
  refine cg_seq ?_
  refine cg_seq ?_
  refine cg_region ?_
  refine lsw (want_none (by rfl)) (y_cellv (v := nv e) re rfl (by kernel_rfl) rfl rfl) rfl (by decide) ?_
  by_cases c1 : e = 0
  · refine lsw (want_none (by rfl)) (yb (decide_eq_true c1) (yi_eql rfl rfl rfl)) rfl (by decide) ?_
    refine lg_nil ?_
    refine nx (E' := [(0, _), (1, _), (2, _), (3, _), (5, _)]) (fk rfl (fk rfl (fk rfl (fk rfl (fk rfl fn))))) ?_
    refine cg_ct rfl ?_
    refine cg_region ?_
    refine lsw (want_none (by rfl)) (y_cellv (v := s.v) rr rfl (by kernel_rfl) rfl rfl) rfl (by decide) ?_
    refine lg_callw (want_none (by rfl)) (getBytes_S hs (by omega)) (by kernel_rfl) rfl rfl rfl (by decide) ?_
    rintro _ w2 ⟨p2, r2, rfl, m2, l2, hw2⟩
    have zw2 := hw2.size
    refine lsw (want_none (by rfl)) (y_move rfl rfl) rfl (by decide) ?_
    refine lsw (want_none (by rfl)) (y_extract rfl rfl rfl) rfl (by decide) ?_
    refine lsw (want_none (by rfl)) (y_extract rfl rfl rfl) rfl (by decide) ?_
    refine lsw (want_none (by rfl)) (y_extract rfl rfl rfl) rfl (by decide) ?_
    refine lsw (want_none (by rfl)) (y_assign rfl rfl) rfl (by decide) ?_
    have rr := RowAt.below hw2 rr.lt rr
    have o3 := rr
    refine lg_sts rr rfl rfl (by kernel_rfl) (want_none (by rfl)) rfl rfl rfl rfl fun w3 s3 => ?_
    have rr := s3.row
    have z3 := s3.size
    have re := RowAt.below hw2 re.lt re
    have re := s3.keep re (by omega)
    have o4 := re
    refine lg_sts re rfl rfl (by kernel_rfl) (want_none (by rfl)) rfl rfl rfl rfl fun w4 s4 => ?_
    have re := s4.row
    have z4 := s4.size
    refine lg_nil ?_
    refine nx (E' := [(2, _), (3, _)]) (fk rfl (fk rfl fn)) ?_
    refine cg_seq ?_
    refine cg_region ?_
    refine lsw (want_none (by rfl)) (y_move rfl rfl) rfl (by decide) ?_
    refine lsw (want_none (by rfl)) (y_assign rfl rfl) rfl (by decide) ?_
    refine lg_nil ?_
    refine nx (E' := [(2, _)]) (fk rfl fn) ?_
    refine cg_ret ?_
    have hst : stepB xs e = ((bytesP xs), (bytesR xs), (bytesE xs)) := by simp [stepB, c1]
    refine eg_ret_tmp rfl rfl ?_
    rw [hst]
    have m2 := m2.set o3 rfl s3
    have m2 := m2.set o4 rfl s4
    have l2 := l2.set o3 rfl s3
    have l2 := l2.set o4 rfl s4
    have rr := s4.keep rr (by omega)
    have bu := bu.grow hw2
    have bu := bu.set s3 (by omega)
    have bu := bu.set s4 (by omega)
    exact ⟨_, rfl, p2, r2, rfl, m2, l2, re, rr, bu⟩
  · refine lsw (want_none (by rfl)) (yb (decide_eq_false c1) (yi_eql rfl rfl rfl)) rfl (by decide) ?_
    refine lg_nil ?_
    refine nx (E' := [(0, _), (1, _), (2, _), (3, _), (5, _)]) (fk rfl (fk rfl (fk rfl (fk rfl (fk rfl fn))))) ?_
    refine cg_cf rfl ?_
    refine cg_skip ?_
    refine nx (E' := [(2, _), (3, _)]) (fk rfl (fk rfl fn)) ?_
    refine cg_seq ?_
    refine cg_region ?_
    refine lsw (want_none (by rfl)) (y_move rfl rfl) rfl (by decide) ?_
    refine lsw (want_none (by rfl)) (y_assign rfl rfl) rfl (by decide) ?_
    refine lg_nil ?_
    refine nx (E' := [(2, _)]) (fk rfl fn) ?_
    refine cg_ret ?_
    have hst : stepB xs e = ([], xs, e) := by simp [stepB, c1]
    refine eg_ret_tmp rfl rfl ?_
    rw [hst]
    exact ⟨_, rfl, nilS, s, rfl, (Sl.nil _ _), hs, re, rr, bu⟩
theorem clN_any {W : World} {B be br : Nat} {te tr : TypeId} {s : SlV} {xs : List Int} {e : Int} (re : RowAt W be te #[nv e]) (rr : RowAt W br tr #[s.v]) (hs : Sl W B s xs) (h1 : B ≤ be) (h2 : B ≤ br) (hB : B ≤ W.heap.size) (hne : be ≠ br) : Calls Try.prog 89 #[pv be 0, pv br 0] W fun e' W' => ∃ v, e' = .returned v ∧ ∃ r : SlV, v = nv (stepN xs e).1 ∧ Sl W' B r (stepN xs e).2.1 ∧ RowAt W' be te #[nv (stepN xs e).2.2] ∧ RowAt W' br tr #[r.v] ∧ But2 W W' be br := by
  refine calls_cg (n := 20) Try.func89 rfl Try.ntmps89 (by simp) ?_
  show CG _ _ _ [(0, pv be 0), (1, pv br 0)] _ _
  have u := Below.refl W.heap.size W
  have lbe := re.lt
  have lbr := rr.lt
  have bu := But2.refl (w := W) be br
  refine cg_seq ?_
  refine cg_region ?_
  refine lsw (want_none (by rfl)) (y_assign rfl rfl) rfl (by decide) ?_
  refine lg_nil ?_
  refine nx (E' := [(0, _), (1, _), (2, _)]) (fk rfl (fk rfl (fk rfl fn))) ?_
  refine cg_seq ?_
  refine cg_region ?_
  refine lsw (want_none (by rfl)) (y_assign rfl rfl) rfl (by decide) ?_
  refine lg_nil ?_
  refine nx (E' := [(0, _), (1, _), (2, _), (3, _)]) (fk rfl (fk rfl (fk rfl (fk rfl fn)))) ?_
  refine cg_seq ?_
  refine cg_seq ?_
  refine cg_region ?_
  refine lsw (want_none (by rfl)) (y_cellv (v := nv e) re rfl (by kernel_rfl) rfl rfl) rfl (by decide) ?_
  by_cases c1 : e = 0
  · refine lsw (want_none (by rfl)) (yb (decide_eq_true c1) (yi_eql rfl rfl rfl)) rfl (by decide) ?_
    refine lg_nil ?_
    refine nx (E' := [(0, _), (1, _), (2, _), (3, _), (5, _)]) (fk rfl (fk rfl (fk rfl (fk rfl (fk rfl fn))))) ?_
    refine cg_ct rfl ?_
    refine cg_region ?_
    refine lsw (want_none (by rfl)) (y_cellv (v := s.v) rr rfl (by kernel_rfl) rfl rfl) rfl (by decide) ?_
    refine lg_callw (want_none (by rfl)) (getNum_S 1 hs (by omega)) (by kernel_rfl) rfl rfl rfl (by decide) ?_
    rintro _ w2 ⟨r2, rfl, l2, hw2⟩
    have zw2 := hw2.size
    refine lsw (want_none (by rfl)) (y_move rfl rfl) rfl (by decide) ?_
    refine lsw (want_none (by rfl)) (y_extract rfl rfl rfl) rfl (by decide) ?_
    refine lsw (want_none (by rfl)) (y_extract rfl rfl rfl) rfl (by decide) ?_
    refine lsw (want_none (by rfl)) (y_extract rfl rfl rfl) rfl (by decide) ?_
    refine lsw (want_none (by rfl)) (y_assign rfl rfl) rfl (by decide) ?_
    have rr := RowAt.below hw2 rr.lt rr
    have o3 := rr
    refine lg_sts rr rfl rfl (by kernel_rfl) (want_none (by rfl)) rfl rfl rfl rfl fun w3 s3 => ?_
    have rr := s3.row
    have z3 := s3.size
    have re := RowAt.below hw2 re.lt re
    have re := s3.keep re (by omega)
    have o4 := re
    refine lg_sts re rfl rfl (by kernel_rfl) (want_none (by rfl)) rfl rfl rfl rfl fun w4 s4 => ?_
    have re := s4.row
    have z4 := s4.size
    refine lg_nil ?_
    refine nx (E' := [(0, _), (2, _), (3, _)]) (fk rfl (fk rfl (fk rfl fn))) ?_
    refine cg_seq ?_
    refine cg_seq ?_
    refine cg_region ?_
    refine lsw (want_none (by rfl)) (y_cellv (v := nv (numE xs 1)) re rfl (by kernel_rfl) rfl rfl) rfl (by decide) ?_
    by_cases c5 : (numE xs 1) = 0
    · refine lsw (want_none (by rfl)) (yb (decide_eq_true c5) (yi_eql rfl rfl rfl)) rfl (by decide) ?_
      refine lsw (want_none (by rfl)) (y_move rfl rfl) rfl (by decide) ?_
      refine lsw (want_t (dj := 14) (by rfl) (by kernel_rfl) rfl) (y_move rfl rfl) rfl (by decide) ?_
      by_cases c6 : 1 ≤ (numM xs 1) ∧ (numM xs 1) ≤ 3
      · refine lsw (want_t (dj := 14) (by rfl) (by kernel_rfl) rfl) (yb (decide_eq_true c6) (y_call (known_any (numM xs 1) _) (by kernel_rfl) rfl rfl)) rfl (by decide) ?_
        refine lsw (want_t (dj := 14) (by rfl) (by kernel_rfl) rfl) (y_bnot rfl rfl) rfl (by decide) ?_
        refine lsw (want_none (by rfl)) (y_pick true rfl rfl rfl) rfl (by decide) ?_
        refine lg_nil ?_
        refine nx (E' := [(0, _), (2, _), (3, _), (18, _)]) (fk rfl (fk rfl (fk rfl (fk rfl fn)))) ?_
        refine cg_cf rfl ?_
        refine cg_skip ?_
        refine nx (E' := [(2, _), (3, _)]) (fk rfl (fk rfl fn)) ?_
        refine cg_seq ?_
        refine cg_region ?_
        refine lsw (want_none (by rfl)) (y_move rfl rfl) rfl (by decide) ?_
        refine lsw (want_none (by rfl)) (y_assign rfl rfl) rfl (by decide) ?_
        refine lg_nil ?_
        refine nx (E' := [(2, _)]) (fk rfl fn) ?_
        refine cg_ret ?_
        have hst : stepN xs e = ((numM xs 1), (numR xs 1), (numE xs 1)) := by simp [stepN, c1, c5, c6]
        refine eg_ret_tmp rfl rfl ?_
        rw [hst]
        have l2 := l2.set o3 rfl s3
        have l2 := l2.set o4 rfl s4
        have rr := s4.keep rr (by omega)
        have bu := bu.grow hw2
        have bu := bu.set s3 (by omega)
        have bu := bu.set s4 (by omega)
        exact ⟨_, rfl, r2, rfl, l2, re, rr, bu⟩
      · refine lsw (want_t (dj := 14) (by rfl) (by kernel_rfl) rfl) (yb (decide_eq_false c6) (y_call (known_any (numM xs 1) _) (by kernel_rfl) rfl rfl)) rfl (by decide) ?_
        refine lsw (want_t (dj := 14) (by rfl) (by kernel_rfl) rfl) (y_bnot rfl rfl) rfl (by decide) ?_
        refine lsw (want_none (by rfl)) (y_pick true rfl rfl rfl) rfl (by decide) ?_
        refine lg_nil ?_
        refine nx (E' := [(0, _), (2, _), (3, _), (18, _)]) (fk rfl (fk rfl (fk rfl (fk rfl fn)))) ?_
        refine cg_ct rfl ?_
        refine cg_region ?_
        have o7 := re
        refine lg_sts re rfl rfl (by kernel_rfl) (want_none (by rfl)) rfl rfl rfl rfl fun w7 s7 => ?_
        have re := s7.row
        have z7 := s7.size
        refine lg_nil ?_
        refine nx (E' := [(2, _), (3, _)]) (fk rfl (fk rfl fn)) ?_
        refine cg_seq ?_
        refine cg_region ?_
        refine lsw (want_none (by rfl)) (y_move rfl rfl) rfl (by decide) ?_
        refine lsw (want_none (by rfl)) (y_assign rfl rfl) rfl (by decide) ?_
        refine lg_nil ?_
        refine nx (E' := [(2, _)]) (fk rfl fn) ?_
        refine cg_ret ?_
        have hst : stepN xs e = ((numM xs 1), (numR xs 1), 7) := by simp [stepN, c1, c5, c6]
        refine eg_ret_tmp rfl rfl ?_
        rw [hst]
        have l2 := l2.set o3 rfl s3
        have l2 := l2.set o4 rfl s4
        have l2 := l2.set o7 rfl s7
        have rr := s4.keep rr (by omega)
        have rr := s7.keep rr (by omega)
        have bu := bu.grow hw2
        have bu := bu.set s3 (by omega)
        have bu := bu.set s4 (by omega)
        have bu := bu.set s7 (by omega)
        exact ⟨_, rfl, r2, rfl, l2, re, rr, bu⟩
    · refine lsw (want_none (by rfl)) (yb (decide_eq_false c5) (yi_eql rfl rfl rfl)) rfl (by decide) ?_
      refine lsw (want_none (by rfl)) (y_move rfl rfl) rfl (by decide) ?_
      refine lsk (want_f (dj := 14) (by rfl) (by kernel_rfl) rfl) rfl (by decide) ?_
      refine lsk (want_f (dj := 14) (by rfl) (by kernel_rfl) rfl) rfl (by decide) ?_
      refine lsk (want_f (dj := 14) (by rfl) (by kernel_rfl) rfl) rfl (by decide) ?_
      refine lsw (want_none (by rfl)) (y_pick false rfl rfl rfl) rfl (by decide) ?_
      refine lg_nil ?_
      refine nx (E' := [(0, _), (2, _), (3, _), (18, _)]) (fk rfl (fk rfl (fk rfl (fk rfl fn)))) ?_
      refine cg_cf rfl ?_
      refine cg_skip ?_
      refine nx (E' := [(2, _), (3, _)]) (fk rfl (fk rfl fn)) ?_
      refine cg_seq ?_
      refine cg_region ?_
      refine lsw (want_none (by rfl)) (y_move rfl rfl) rfl (by decide) ?_
      refine lsw (want_none (by rfl)) (y_assign rfl rfl) rfl (by decide) ?_
      refine lg_nil ?_
      refine nx (E' := [(2, _)]) (fk rfl fn) ?_
      refine cg_ret ?_
      have hst : stepN xs e = ((numM xs 1), (numR xs 1), (numE xs 1)) := by simp [stepN, c1, c5]
      refine eg_ret_tmp rfl rfl ?_
      rw [hst]
      have l2 := l2.set o3 rfl s3
      have l2 := l2.set o4 rfl s4
      have rr := s4.keep rr (by omega)
      have bu := bu.grow hw2
      have bu := bu.set s3 (by omega)
      have bu := bu.set s4 (by omega)
      exact ⟨_, rfl, r2, rfl, l2, re, rr, bu⟩
  · refine lsw (want_none (by rfl)) (yb (decide_eq_false c1) (yi_eql rfl rfl rfl)) rfl (by decide) ?_
    refine lg_nil ?_
    refine nx (E' := [(0, _), (1, _), (2, _), (3, _), (5, _)]) (fk rfl (fk rfl (fk rfl (fk rfl (fk rfl fn))))) ?_
    refine cg_cf rfl ?_
    refine cg_skip ?_
    refine nx (E' := [(0, _), (2, _), (3, _)]) (fk rfl (fk rfl (fk rfl fn))) ?_
    refine cg_seq ?_
    refine cg_seq ?_
    refine cg_region ?_
    refine lsw (want_none (by rfl)) (y_cellv (v := nv e) re rfl (by kernel_rfl) rfl rfl) rfl (by decide) ?_
    refine lsw (want_none (by rfl)) (yb (decide_eq_false c1) (yi_eql rfl rfl rfl)) rfl (by decide) ?_
    refine lsw (want_none (by rfl)) (y_move rfl rfl) rfl (by decide) ?_
    refine lsk (want_f (dj := 14) (by rfl) (by kernel_rfl) rfl) rfl (by decide) ?_
    refine lsk (want_f (dj := 14) (by rfl) (by kernel_rfl) rfl) rfl (by decide) ?_
    refine lsk (want_f (dj := 14) (by rfl) (by kernel_rfl) rfl) rfl (by decide) ?_
    refine lsw (want_none (by rfl)) (y_pick false rfl rfl rfl) rfl (by decide) ?_
    refine lg_nil ?_
    refine nx (E' := [(0, _), (2, _), (3, _), (18, _)]) (fk rfl (fk rfl (fk rfl (fk rfl fn)))) ?_
    refine cg_cf rfl ?_
    refine cg_skip ?_
    refine nx (E' := [(2, _), (3, _)]) (fk rfl (fk rfl fn)) ?_
    refine cg_seq ?_
    refine cg_region ?_
    refine lsw (want_none (by rfl)) (y_move rfl rfl) rfl (by decide) ?_
    refine lsw (want_none (by rfl)) (y_assign rfl rfl) rfl (by decide) ?_
    refine lg_nil ?_
    refine nx (E' := [(2, _)]) (fk rfl fn) ?_
    refine cg_ret ?_
    have hst : stepN xs e = (0, xs, e) := by simp [stepN, c1]
    refine eg_ret_tmp rfl rfl ?_
    rw [hst]
    exact ⟨_, rfl, s, rfl, hs, re, rr, bu⟩
set_option maxHeartbeats 2000000 in
theorem getL_any {W : World} {B : Nat} {s : SlV} {xs : List Int} (h : Sl W B s xs) (hB : B ≤ W.heap.size) : Calls Try.prog 79 #[s.v] W fun e W' => ∃ v, e = .returned v ∧ ∃ (l : LfV) (r : SlV), v = .tuple #[.agg (l.cs (lfGet xs).2.1), r.v, nv (lfGet xs).1] ∧ IsLf W' B l (lfGet xs).2.1 ∧ Sl W' B r (lfGet xs).2.2 ∧ Below W.heap.size W W' := by
  refine calls_cg (n := 38) Try.func79 rfl Try.ntmps79 (by simp) ?_
  show CG _ _ _ [(0, s.v)] _ _
  have u := Below.refl W.heap.size W
  refine cg_seq ?_
  refine cg_region ?_
  refine lg_allocw (cs := LfV.zero.cs Lf.zero) (want_none (by rfl)) rfl (by kernel_rfl) rfl (by decide) fun b1 w1 n1 => ?_
  have r1 := n1.row
  have k1 := n1.blk
  have z1 := n1.size
  have lt1 : b1 < w1.heap.size := by omega
  refine lsw (want_none (by rfl)) (y_assign rfl rfl) rfl (by decide) ?_
  refine lsw (want_none (by rfl)) (y_assign rfl rfl) rfl (by decide) ?_
  refine lg_nil ?_
  refine nx (E' := [(0, _), (2, _), (3, _), (4, _)]) (fk rfl (fk rfl (fk rfl (fk rfl fn)))) ?_
  refine cg_seq ?_
  refine cg_region ?_
  refine lsw (want_none (by rfl)) (y_move rfl rfl) rfl (by decide) ?_
  refine lg_allocs (u := nilS.v) (by kernel_rfl) rfl (want_none (by rfl)) rfl rfl (by decide) fun b2 w2 n2 => ?_
  have r2 := n2.row
  have k2 := n2.blk
  have z2 := n2.size
  have lt2 : b2 < w2.heap.size := by omega
  refine lg_allocs (u := nv 0) (by kernel_rfl) rfl (want_none (by rfl)) rfl rfl (by decide) fun b3 w3 n3 => ?_
  have r3 := n3.row
  have k3 := n3.blk
  have z3 := n3.size
  have lt3 : b3 < w3.heap.size := by omega
  have r2 := n3.keep r2
  have o4 := r2
  refine lg_sts r2 rfl rfl (by kernel_rfl) (want_none (by rfl)) rfl rfl rfl rfl fun w4 s4 => ?_
  have r2 := s4.row
  have z4 := s4.size
  have r3 := s4.keep r3 (by omega)
  have o5 := r3
  refine lg_sts r3 rfl rfl (by kernel_rfl) (want_none (by rfl)) rfl rfl rfl rfl fun w5 s5 => ?_
  have r3 := s5.row
  have z5 := s5.size
  refine lg_nil ?_
  refine nx (E' := [(2, _), (3, _), (4, _), (5, _), (6, _)]) (fk rfl (fk rfl (fk rfl (fk rfl (fk rfl fn))))) ?_
  refine cg_seq ?_
  refine cg_region ?_
  refine lsw (want_none (by rfl)) (y_mkf (xs := []) (ys := [.tmp 6, .tmp 5]) rfl rfl rfl) rfl (by decide) ?_
  refine lsw (want_none (by rfl)) (y_assign rfl rfl) rfl (by decide) ?_
  refine lg_nil ?_
  refine nx (E' := [(2, _), (3, _), (4, _), (5, _), (6, _), (7, _)]) (fk rfl (fk rfl (fk rfl (fk rfl (fk rfl (fk rfl fn)))))) ?_
  refine cg_seq ?_
  refine cg_region ?_
  refine lsw (want_none (by rfl)) (y_mkf (xs := []) (ys := [.tmp 6, .tmp 5]) rfl rfl rfl) rfl (by decide) ?_
  refine lsw (want_none (by rfl)) (y_assign rfl rfl) rfl (by decide) ?_
  refine lg_nil ?_
  refine nx (E' := [(2, _), (3, _), (4, _), (5, _), (6, _), (7, _), (8, _)]) (fk rfl (fk rfl (fk rfl (fk rfl (fk rfl (fk rfl (fk rfl fn))))))) ?_
  refine cg_seq ?_
  refine cg_region ?_
  refine lg_allocw (cs := LfV.zero.cs Lf.zero) (want_none (by rfl)) rfl (by kernel_rfl) rfl (by decide) fun b6 w6 n6 => ?_
  have r6 := n6.row
  have k6 := n6.blk
  have z6 := n6.size
  have lt6 : b6 < w6.heap.size := by omega
  refine lg_nil ?_
  refine nx (E' := [(2, _), (3, _), (4, _), (5, _), (6, _), (7, _), (8, _), (9, _)]) (fk rfl (fk rfl (fk rfl (fk rfl (fk rfl (fk rfl (fk rfl (fk rfl fn)))))))) ?_
  refine cg_seq ?_
  refine cg_region ?_
  refine lsw (want_none (by rfl)) (y_move rfl rfl) rfl (by decide) ?_
  have r3 := n6.keep r3
  have r2 := s5.keep r2 (by omega)
  have r2 := n6.keep r2
  have h := h.below (n1.below.mono (by omega))
  have h := h.below (n2.below.mono (by omega))
  have h := h.below (n3.below.mono (by omega))
  have h := h.set o4 rfl s4
  have h := h.set o5 rfl s5
  have h := h.below (n6.below.mono (by omega))
  refine lg_callv (fs := []) (vs := []) (us := [pv b3 0, pv b2 0]) (want_none (by rfl)) (clB_any r3 r2 h (by omega) (by omega) (by omega) (by omega)) (by kernel_rfl) rfl rfl rfl rfl (by decide) ?_
  rintro _ w7 ⟨p7, r7, rfl, m7, l7, x7, y7, hw7⟩
  have zw7 := hw7.size
  rw [show stepB xs 0 = gA xs from rfl] at m7 l7 x7
  have r3 := x7
  have r2 := y7
  refine lsw (want_none (by rfl)) (y_fld (off := 0) (by kernel_rfl) rfl rfl) rfl (by decide) ?_
  have r6 := hw7.keep r6 (by omega) (by omega)
  have o8 := r6
  refine lg_st1 (new := #[p7.v, LfV.zero.cred.v, nv Lf.zero.src, LfV.zero.par.v]) (want_none (by rfl)) r6 rfl rfl rfl (by kernel_rfl) rfl (show 0 < 4 by decide) rfl rfl fun w8 s8 => ?_
  have r6 := s8.row
  have z8 := s8.size
  refine lg_nil ?_
  refine nx (E' := [(2, _), (3, _), (4, _), (5, _), (6, _), (7, _), (8, _), (9, _)]) (fk rfl (fk rfl (fk rfl (fk rfl (fk rfl (fk rfl (fk rfl (fk rfl fn)))))))) ?_
  refine cg_seq ?_
  refine cg_region ?_
  refine lsw (want_none (by rfl)) (y_move rfl rfl) rfl (by decide) ?_
  have r3 := s8.keep r3 (by omega)
  have r2 := s8.keep r2 (by omega)
  have l7 := l7.set o8 rfl s8
  refine lg_callv (fs := []) (vs := []) (us := [pv b3 0, pv b2 0]) (want_none (by rfl)) (clB_any r3 r2 l7 (by omega) (by omega) (by omega) (by omega)) (by kernel_rfl) rfl rfl rfl rfl (by decide) ?_
  rintro _ w9 ⟨p9, r9, rfl, m9, l9, x9, y9, hw9⟩
  have zw9 := hw9.size
  rw [show stepB ((gA xs).2.1) ((gA xs).2.2) = gB xs from rfl] at m9 l9 x9
  have r3 := x9
  have r2 := y9
  refine lsw (want_none (by rfl)) (y_fld (off := 1) (by kernel_rfl) rfl rfl) rfl (by decide) ?_
  have r6 := hw9.keep r6 (by omega) (by omega)
  have o10 := r6
  refine lg_st1 (new := #[p7.v, p9.v, nv Lf.zero.src, LfV.zero.par.v]) (want_none (by rfl)) r6 rfl rfl rfl (by kernel_rfl) rfl (show 1 < 4 by decide) rfl rfl fun w10 s10 => ?_
  have r6 := s10.row
  have z10 := s10.size
  refine lg_nil ?_
  refine nx (E' := [(2, _), (3, _), (4, _), (5, _), (6, _), (7, _), (8, _), (9, _)]) (fk rfl (fk rfl (fk rfl (fk rfl (fk rfl (fk rfl (fk rfl (fk rfl fn)))))))) ?_
  refine cg_seq ?_
  refine cg_region ?_
  refine lsw (want_none (by rfl)) (y_move rfl rfl) rfl (by decide) ?_
  have r3 := s10.keep r3 (by omega)
  have r2 := s10.keep r2 (by omega)
  have l9 := l9.set o10 rfl s10
  refine lg_callv (fs := []) (vs := []) (us := [pv b3 0, pv b2 0]) (want_none (by rfl)) (clN_any r3 r2 l9 (by omega) (by omega) (by omega) (by omega)) (by kernel_rfl) rfl rfl rfl rfl (by decide) ?_
  rintro _ w11 ⟨r11, rfl, l11, x11, y11, hw11⟩
  have zw11 := hw11.size
  rw [show stepN ((gB xs).2.1) ((gB xs).2.2) = gC xs from rfl] at l11 x11
  have r3 := x11
  have r2 := y11
  refine lsw (want_none (by rfl)) (y_fld (off := 2) (by kernel_rfl) rfl rfl) rfl (by decide) ?_
  have r6 := hw11.keep r6 (by omega) (by omega)
  have o12 := r6
  refine lg_st1 (new := #[p7.v, p9.v, nv ((gC xs).1), LfV.zero.par.v]) (want_none (by rfl)) r6 rfl rfl rfl (by kernel_rfl) rfl (show 2 < 4 by decide) rfl rfl fun w12 s12 => ?_
  have r6 := s12.row
  have z12 := s12.size
  refine lg_nil ?_
  refine nx (E' := [(2, _), (3, _), (4, _), (5, _), (6, _), (7, _), (9, _)]) (fk rfl (fk rfl (fk rfl (fk rfl (fk rfl (fk rfl (fk rfl fn))))))) ?_
  refine cg_seq ?_
  refine cg_seq ?_
  refine cg_region ?_
  refine lsw (want_none (by rfl)) (y_fld (off := 2) (by kernel_rfl) rfl rfl) rfl (by decide) ?_
  refine lsw (want_none (by rfl)) (y_cellv (v := nv ((gC xs).1)) r6 rfl (by kernel_rfl) rfl rfl) rfl (by decide) ?_
  by_cases c13 : (gC xs).1 = 3
  · refine lsw (want_none (by rfl)) (yb (decide_eq_true c13) (yi_eql rfl rfl rfl)) rfl (by decide) ?_
    refine lg_nil ?_
    refine nx (E' := [(2, _), (3, _), (4, _), (5, _), (6, _), (7, _), (9, _), (24, _)]) (fk rfl (fk rfl (fk rfl (fk rfl (fk rfl (fk rfl (fk rfl (fk rfl fn)))))))) ?_
    refine cg_ct rfl ?_
    refine cg_region ?_
    refine lsw (want_none (by rfl)) (y_move rfl rfl) rfl (by decide) ?_
    have r3 := s12.keep r3 (by omega)
    have r2 := s12.keep r2 (by omega)
    have l11 := l11.set o12 rfl s12
    refine lg_callv (fs := []) (vs := []) (us := [pv b3 0, pv b2 0]) (want_none (by rfl)) (clB_any r3 r2 l11 (by omega) (by omega) (by omega) (by omega)) (by kernel_rfl) rfl rfl rfl rfl (by decide) ?_
    rintro _ w14 ⟨p14, r14, rfl, m14, l14, x14, y14, hw14⟩
    have zw14 := hw14.size
    rw [show stepB ((gC xs).2.1) ((gC xs).2.2) = gD xs from rfl] at m14 l14 x14
    have r3 := x14
    have r2 := y14
    refine lsw (want_none (by rfl)) (y_fld (off := 3) (by kernel_rfl) rfl rfl) rfl (by decide) ?_
    have r6 := hw14.keep r6 (by omega) (by omega)
    have o15 := r6
    refine lg_st1 (new := #[p7.v, p9.v, nv ((gC xs).1), p14.v]) (want_none (by rfl)) r6 rfl rfl rfl (by kernel_rfl) rfl (show 3 < 4 by decide) rfl rfl fun w15 s15 => ?_
    have r6 := s15.row
    have z15 := s15.size
    refine lg_nil ?_
    refine nx (E' := [(2, _), (3, _), (4, _), (5, _), (6, _), (9, _)]) (fk rfl (fk rfl (fk rfl (fk rfl (fk rfl (fk rfl fn)))))) ?_
    refine cg_seq ?_
    refine cg_seq ?_
    refine cg_region ?_
    have r3 := s15.keep r3 (by omega)
    refine lsw (want_none (by rfl)) (y_cellv (v := nv ((gD xs).2.2)) r3 rfl (by kernel_rfl) rfl rfl) rfl (by decide) ?_
    by_cases c16 : (gD xs).2.2 = 0
    · refine lsw (want_none (by rfl)) (yb (decide_eq_true c16) (yi_eql rfl rfl rfl)) rfl (by decide) ?_
      refine lg_nil ?_
      refine nx (E' := [(2, _), (3, _), (4, _), (5, _), (6, _), (9, _), (29, _)]) (fk rfl (fk rfl (fk rfl (fk rfl (fk rfl (fk rfl (fk rfl fn))))))) ?_
      refine cg_ct rfl ?_
      refine cg_region ?_
      refine lsw (want_none (by rfl)) (y_loadA r6 (by kernel_rfl) (by kernel_rfl) rfl rfl) rfl (by decide) ?_
      have m7 := m7.set o8 rfl s8
      have m7 := m7.below (hw9.below _ (by omega) (by omega) (by omega))
      have m7 := m7.set o10 rfl s10
      have m7 := m7.below (hw11.below _ (by omega) (by omega) (by omega))
      have m7 := m7.set o12 rfl s12
      have m7 := m7.below (hw14.below _ (by omega) (by omega) (by omega))
      have m7 := m7.set o15 rfl s15
      have m9 := m9.set o10 rfl s10
      have m9 := m9.below (hw11.below _ (by omega) (by omega) (by omega))
      have m9 := m9.set o12 rfl s12
      have m9 := m9.below (hw14.below _ (by omega) (by omega) (by omega))
      have m9 := m9.set o15 rfl s15
      have m14 := m14.set o15 rfl s15
      refine lg_callw (want_none (by rfl)) (check_any (show IsLf w15 w15.heap.size (⟨p7, p9, p14⟩ : LfV) (⟨(gA xs).1, (gB xs).1, (gC xs).1, (gD xs).1⟩ : Lf) from ⟨m7.more (by omega), m9.more (by omega), m14.more (by omega)⟩) (Nat.le_refl _)) (by kernel_rfl) rfl rfl rfl (by decide) ?_
      rintro _ w17 ⟨rfl, hw17⟩
      have zw17 := hw17.size
      have r3 := RowAt.below hw17 r3.lt r3
      have o18 := r3
      refine lg_sts r3 rfl rfl (by kernel_rfl) (want_none (by rfl)) rfl rfl rfl rfl fun w18 s18 => ?_
      have r3 := s18.row
      have z18 := s18.size
      refine lg_nil ?_
      refine nx (E' := [(2, _), (3, _), (4, _), (5, _), (6, _), (9, _)]) (fk rfl (fk rfl (fk rfl (fk rfl (fk rfl (fk rfl fn)))))) ?_
      refine cg_seq ?_
      refine cg_seq ?_
      refine cg_region ?_
      refine lsw (want_none (by rfl)) (y_cellv (v := nv (lfCheck (⟨(gA xs).1, (gB xs).1, (gC xs).1, (gD xs).1⟩ : Lf))) r3 rfl (by kernel_rfl) rfl rfl) rfl (by decide) ?_
      by_cases c19 : (lfCheck (⟨(gA xs).1, (gB xs).1, (gC xs).1, (gD xs).1⟩ : Lf)) = 0
      · refine lsw (want_none (by rfl)) (yb (nd_f c19) (yi_neq rfl rfl rfl)) rfl (by decide) ?_
        refine lg_nil ?_
        refine nx (E' := [(2, _), (3, _), (4, _), (5, _), (6, _), (9, _), (33, _)]) (fk rfl (fk rfl (fk rfl (fk rfl (fk rfl (fk rfl (fk rfl fn))))))) ?_
        refine cg_cf rfl ?_
        refine cg_skip ?_
        refine nx (E' := [(2, _), (3, _), (4, _), (5, _), (9, _)]) (fk rfl (fk rfl (fk rfl (fk rfl (fk rfl fn))))) ?_
        refine cg_seq ?_
        refine cg_heldS (fun q => RowAt q b2 22 #[r14.v] ∧ RowAt q b6 24 #[p7.v, p9.v, nv ((gC xs).1), p14.v]) (by kernel_rfl) (fun W20 eW20 => ?_) fun W20 eW20 => ?_
        · have dW20 := below_drew _ _ eW20
          have r2 := s15.keep r2 (by omega)
          have r2 := RowAt.below hw17 r2.lt r2
          have r2 := s18.keep r2 (by omega)
          have r2 := RowAt.below dW20 r2.lt r2
          have r6 := RowAt.below hw17 r6.lt r6
          have r6 := s18.keep r6 (by omega)
          have r6 := RowAt.below dW20 r6.lt r6
          exact ⟨r2, r6⟩
        have dW20 := below_drew _ _ eW20
        have zW20 := size_drew _ _ eW20
        clear eW20
        have r2 := s15.keep r2 (by omega)
        have r2 := RowAt.below hw17 r2.lt r2
        have r2 := s18.keep r2 (by omega)
        have r2 := RowAt.below dW20 r2.lt r2
        have r6 := RowAt.below hw17 r6.lt r6
        have r6 := s18.keep r6 (by omega)
        have r6 := RowAt.below dW20 r6.lt r6
        refine hgs_take 0 (by rfl) (want_none (by rfl)) (by rfl) rfl (by decide) (by kernel_rfl) (by kernel_rfl) (by kernel_rfl) (fun _ _ _ h => h) ⟨r2, r6⟩ (fun q hq => y_loadA hq.2 (by kernel_rfl) (by kernel_rfl) rfl rfl) ?_
        refine hgs_take 1 (by rfl) (want_none (by rfl)) (by rfl) rfl (by decide) (by kernel_rfl) (by kernel_rfl) (by kernel_rfl) (fun _ _ _ h => h) ⟨r2, r6⟩ (fun q hq => y_cellv (v := r14.v) hq.1 rfl (by kernel_rfl) rfl rfl) ?_
        refine hgs_one 2 (by rfl) (by kernel_rfl) (want_none (by rfl)) ?_
        have r1 := n2.keep r1
        have r1 := n3.keep r1
        have r1 := s4.keep r1 (by omega)
        have r1 := s5.keep r1 (by omega)
        have r1 := n6.keep r1
        have r1 := hw7.keep r1 (by omega) (by omega)
        have r1 := s8.keep r1 (by omega)
        have r1 := hw9.keep r1 (by omega) (by omega)
        have r1 := s10.keep r1 (by omega)
        have r1 := hw11.keep r1 (by omega) (by omega)
        have r1 := s12.keep r1 (by omega)
        have r1 := hw14.keep r1 (by omega) (by omega)
        have r1 := s15.keep r1 (by omega)
        have r1 := RowAt.below hw17 r1.lt r1
        have r1 := s18.keep r1 (by omega)
        have r1 := RowAt.below dW20 r1.lt r1
        have o21 := r1
        refine lg_stw (want_none (by rfl)) r1 rfl rfl rfl (by kernel_rfl) (by kernel_rfl) rfl rfl fun w21 s21 => ?_
        have r1 := s21.row
        have z21 := s21.size
        have r2 := s21.keep r2 (by omega)
        have r6 := s21.keep r6 (by omega)
        refine hgs_next ⟨r2, r6⟩ ?_
        refine hgs_take 3 (by rfl) (want_none (by rfl)) (by rfl) rfl (by decide) (by kernel_rfl) (by kernel_rfl) (by kernel_rfl) (fun _ _ _ h => h) ⟨r2, r6⟩ (fun q hq => y_assign rfl rfl) ?_
        refine hgs_take 4 (by rfl) (want_none (by rfl)) (by rfl) rfl (by decide) (by kernel_rfl) (by kernel_rfl) (by kernel_rfl) (fun _ _ _ h => h) ⟨r2, r6⟩ (fun q hq => y_assign rfl rfl) ?_
        refine hgs_done (by kernel_rfl) ?_
        refine nx (E' := [(2, _), (3, _), (4, _)]) (fk rfl (fk rfl (fk rfl fn))) ?_
        refine cg_ret ?_
        have hst : lfGet xs = (0, (⟨(gA xs).1, (gB xs).1, (gC xs).1, (gD xs).1⟩ : Lf), (gD xs).2.1) := (lfGet_steps xs).trans ((if_pos c13).trans ((if_pos c16).trans (if_pos c19)))
        refine eg_ret_agg3 rfl rfl r1 (by kernel_rfl) (by kernel_rfl) rfl rfl ?_
        rw [hst]
        have m7 := m7.below (hw17.mono (by omega))
        have m7 := m7.set o18 rfl s18
        have m7 := m7.below (dW20.mono (by omega))
        have m7 := m7.set o21 rfl s21
        have m9 := m9.below (hw17.mono (by omega))
        have m9 := m9.set o18 rfl s18
        have m9 := m9.below (dW20.mono (by omega))
        have m9 := m9.set o21 rfl s21
        have m14 := m14.below (hw17.mono (by omega))
        have m14 := m14.set o18 rfl s18
        have m14 := m14.below (dW20.mono (by omega))
        have m14 := m14.set o21 rfl s21
        have l14 := l14.set o15 rfl s15
        have l14 := l14.below (hw17.mono (by omega))
        have l14 := l14.set o18 rfl s18
        have l14 := l14.below (dW20.mono (by omega))
        have l14 := l14.set o21 rfl s21
        have u := u.trans (n1.below.mono u.size)
        have u := u.trans (n2.below.mono u.size)
        have u := u.trans (n3.below.mono u.size)
        have u := u.trans (s4.below _ (by omega))
        have u := u.trans (s5.below _ (by omega))
        have u := u.trans (n6.below.mono u.size)
        have u := u.trans (hw7.below _ (by omega) (by omega) (by omega))
        have u := u.trans (s8.below _ (by omega))
        have u := u.trans (hw9.below _ (by omega) (by omega) (by omega))
        have u := u.trans (s10.below _ (by omega))
        have u := u.trans (hw11.below _ (by omega) (by omega) (by omega))
        have u := u.trans (s12.below _ (by omega))
        have u := u.trans (hw14.below _ (by omega) (by omega) (by omega))
        have u := u.trans (s15.below _ (by omega))
        have u := u.trans (hw17.mono u.size)
        have u := u.trans (s18.below _ (by omega))
        have u := u.trans (dW20.mono u.size)
        have u := u.trans (s21.below _ (by omega))
        exact ⟨_, rfl, (⟨p7, p9, p14⟩ : LfV), r14, rfl, ⟨m7, m9, m14⟩, l14, u⟩
      · refine lsw (want_none (by rfl)) (yb (nd_t c19) (yi_neq rfl rfl rfl)) rfl (by decide) ?_
        refine lg_nil ?_
        refine nx (E' := [(2, _), (3, _), (4, _), (5, _), (6, _), (9, _), (33, _)]) (fk rfl (fk rfl (fk rfl (fk rfl (fk rfl (fk rfl (fk rfl fn))))))) ?_
        refine cg_ct rfl ?_
        refine cg_seq ?_
        refine cg_heldS (fun q => RowAt q b3 32 #[nv (lfCheck (⟨(gA xs).1, (gB xs).1, (gC xs).1, (gD xs).1⟩ : Lf))]) (by kernel_rfl) (fun W22 eW22 => ?_) fun W22 eW22 => ?_
        · have dW22 := below_drew _ _ eW22
          have r3 := RowAt.below dW22 r3.lt r3
          exact r3
        have dW22 := below_drew _ _ eW22
        have zW22 := size_drew _ _ eW22
        clear eW22
        have r3 := RowAt.below dW22 r3.lt r3
        refine hgs_take 0 (by rfl) (want_none (by rfl)) (by rfl) rfl (by decide) (by kernel_rfl) (by kernel_rfl) (by kernel_rfl) (fun _ _ _ h => h) r3 (fun q hq => y_build (cs := LfV.zero.cs Lf.zero) rfl rfl (by kernel_rfl)) ?_
        refine hgs_take 1 (by rfl) (want_none (by rfl)) (by rfl) rfl (by decide) (by kernel_rfl) (by kernel_rfl) (by kernel_rfl) (fun _ _ _ h => h) r3 (fun q hq => y_cellv (v := nv (lfCheck (⟨(gA xs).1, (gB xs).1, (gC xs).1, (gD xs).1⟩ : Lf))) hq rfl (by kernel_rfl) rfl rfl) ?_
        refine hgs_one 2 (by rfl) (by kernel_rfl) (want_none (by rfl)) ?_
        have r1 := n2.keep r1
        have r1 := n3.keep r1
        have r1 := s4.keep r1 (by omega)
        have r1 := s5.keep r1 (by omega)
        have r1 := n6.keep r1
        have r1 := hw7.keep r1 (by omega) (by omega)
        have r1 := s8.keep r1 (by omega)
        have r1 := hw9.keep r1 (by omega) (by omega)
        have r1 := s10.keep r1 (by omega)
        have r1 := hw11.keep r1 (by omega) (by omega)
        have r1 := s12.keep r1 (by omega)
        have r1 := hw14.keep r1 (by omega) (by omega)
        have r1 := s15.keep r1 (by omega)
        have r1 := RowAt.below hw17 r1.lt r1
        have r1 := s18.keep r1 (by omega)
        have r1 := RowAt.below dW22 r1.lt r1
        have o23 := r1
        refine lg_stw (want_none (by rfl)) r1 rfl rfl rfl (by kernel_rfl) (by kernel_rfl) rfl rfl fun w23 s23 => ?_
        have r1 := s23.row
        have z23 := s23.size
        have r3 := s23.keep r3 (by omega)
        refine hgs_next r3 ?_
        refine hgs_take 3 (by rfl) (want_none (by rfl)) (by rfl) rfl (by decide) (by kernel_rfl) (by kernel_rfl) (by kernel_rfl) (fun _ _ _ h => h) r3 (fun q hq => y_assign rfl rfl) ?_
        refine hgs_take 4 (by rfl) (want_none (by rfl)) (by rfl) rfl (by decide) (by kernel_rfl) (by kernel_rfl) (by kernel_rfl) (fun _ _ _ h => h) r3 (fun q hq => y_assign rfl rfl) ?_
        refine hgs_done (by kernel_rfl) ?_
        refine nx (E' := [(2, _), (5, _), (9, _), (3, _), (4, _)]) (fk rfl (fk rfl (fk rfl (fk rfl (fk rfl fn))))) ?_
        refine cg_ret ?_
        refine eg_seq_ret ?_
        have hst : lfGet xs = ((lfCheck (⟨(gA xs).1, (gB xs).1, (gC xs).1, (gD xs).1⟩ : Lf)), Lf.zero, []) := (lfGet_steps xs).trans ((if_pos c13).trans ((if_pos c16).trans (if_neg c19)))
        refine eg_ret_agg3 rfl rfl r1 (by kernel_rfl) (by kernel_rfl) rfl rfl ?_
        rw [hst]
        have u := u.trans (n1.below.mono u.size)
        have u := u.trans (n2.below.mono u.size)
        have u := u.trans (n3.below.mono u.size)
        have u := u.trans (s4.below _ (by omega))
        have u := u.trans (s5.below _ (by omega))
        have u := u.trans (n6.below.mono u.size)
        have u := u.trans (hw7.below _ (by omega) (by omega) (by omega))
        have u := u.trans (s8.below _ (by omega))
        have u := u.trans (hw9.below _ (by omega) (by omega) (by omega))
        have u := u.trans (s10.below _ (by omega))
        have u := u.trans (hw11.below _ (by omega) (by omega) (by omega))
        have u := u.trans (s12.below _ (by omega))
        have u := u.trans (hw14.below _ (by omega) (by omega) (by omega))
        have u := u.trans (s15.below _ (by omega))
        have u := u.trans (hw17.mono u.size)
        have u := u.trans (s18.below _ (by omega))
        have u := u.trans (dW22.mono u.size)
        have u := u.trans (s23.below _ (by omega))
        exact ⟨_, rfl, LfV.zero, nilS, rfl, (IsLf.zero _ _), (Sl.nil _ _), u⟩
    · refine lsw (want_none (by rfl)) (yb (decide_eq_false c16) (yi_eql rfl rfl rfl)) rfl (by decide) ?_
      refine lg_nil ?_
      refine nx (E' := [(2, _), (3, _), (4, _), (5, _), (6, _), (9, _), (29, _)]) (fk rfl (fk rfl (fk rfl (fk rfl (fk rfl (fk rfl (fk rfl fn))))))) ?_
      refine cg_cf rfl ?_
      refine cg_skip ?_
      refine nx (E' := [(2, _), (3, _), (4, _), (5, _), (6, _), (9, _)]) (fk rfl (fk rfl (fk rfl (fk rfl (fk rfl (fk rfl fn)))))) ?_
      refine cg_seq ?_
      refine cg_seq ?_
      refine cg_region ?_
      refine lsw (want_none (by rfl)) (y_cellv (v := nv ((gD xs).2.2)) r3 rfl (by kernel_rfl) rfl rfl) rfl (by decide) ?_
      refine lsw (want_none (by rfl)) (yb (nd_t c16) (yi_neq rfl rfl rfl)) rfl (by decide) ?_
      refine lg_nil ?_
      refine nx (E' := [(2, _), (3, _), (4, _), (5, _), (6, _), (9, _), (33, _)]) (fk rfl (fk rfl (fk rfl (fk rfl (fk rfl (fk rfl (fk rfl fn))))))) ?_
      refine cg_ct rfl ?_
      refine cg_seq ?_
      refine cg_heldS (fun q => RowAt q b3 32 #[nv ((gD xs).2.2)]) (by kernel_rfl) (fun W24 eW24 => ?_) fun W24 eW24 => ?_
      · have dW24 := below_drew _ _ eW24
        have r3 := RowAt.below dW24 r3.lt r3
        exact r3
      have dW24 := below_drew _ _ eW24
      have zW24 := size_drew _ _ eW24
      clear eW24
      have r3 := RowAt.below dW24 r3.lt r3
      refine hgs_take 0 (by rfl) (want_none (by rfl)) (by rfl) rfl (by decide) (by kernel_rfl) (by kernel_rfl) (by kernel_rfl) (fun _ _ _ h => h) r3 (fun q hq => y_build (cs := LfV.zero.cs Lf.zero) rfl rfl (by kernel_rfl)) ?_
      refine hgs_take 1 (by rfl) (want_none (by rfl)) (by rfl) rfl (by decide) (by kernel_rfl) (by kernel_rfl) (by kernel_rfl) (fun _ _ _ h => h) r3 (fun q hq => y_cellv (v := nv ((gD xs).2.2)) hq rfl (by kernel_rfl) rfl rfl) ?_
      refine hgs_one 2 (by rfl) (by kernel_rfl) (want_none (by rfl)) ?_
      have r1 := n2.keep r1
      have r1 := n3.keep r1
      have r1 := s4.keep r1 (by omega)
      have r1 := s5.keep r1 (by omega)
      have r1 := n6.keep r1
      have r1 := hw7.keep r1 (by omega) (by omega)
      have r1 := s8.keep r1 (by omega)
      have r1 := hw9.keep r1 (by omega) (by omega)
      have r1 := s10.keep r1 (by omega)
      have r1 := hw11.keep r1 (by omega) (by omega)
      have r1 := s12.keep r1 (by omega)
      have r1 := hw14.keep r1 (by omega) (by omega)
      have r1 := s15.keep r1 (by omega)
      have r1 := RowAt.below dW24 r1.lt r1
      have o25 := r1
      refine lg_stw (want_none (by rfl)) r1 rfl rfl rfl (by kernel_rfl) (by kernel_rfl) rfl rfl fun w25 s25 => ?_
      have r1 := s25.row
      have z25 := s25.size
      have r3 := s25.keep r3 (by omega)
      refine hgs_next r3 ?_
      refine hgs_take 3 (by rfl) (want_none (by rfl)) (by rfl) rfl (by decide) (by kernel_rfl) (by kernel_rfl) (by kernel_rfl) (fun _ _ _ h => h) r3 (fun q hq => y_assign rfl rfl) ?_
      refine hgs_take 4 (by rfl) (want_none (by rfl)) (by rfl) rfl (by decide) (by kernel_rfl) (by kernel_rfl) (by kernel_rfl) (fun _ _ _ h => h) r3 (fun q hq => y_assign rfl rfl) ?_
      refine hgs_done (by kernel_rfl) ?_
      refine nx (E' := [(2, _), (5, _), (9, _), (3, _), (4, _)]) (fk rfl (fk rfl (fk rfl (fk rfl (fk rfl fn))))) ?_
      refine cg_ret ?_
      refine eg_seq_ret ?_
      have hst : lfGet xs = ((gD xs).2.2, Lf.zero, []) := (lfGet_steps xs).trans ((if_pos c13).trans (if_neg c16))
      refine eg_ret_agg3 rfl rfl r1 (by kernel_rfl) (by kernel_rfl) rfl rfl ?_
      rw [hst]
      have u := u.trans (n1.below.mono u.size)
      have u := u.trans (n2.below.mono u.size)
      have u := u.trans (n3.below.mono u.size)
      have u := u.trans (s4.below _ (by omega))
      have u := u.trans (s5.below _ (by omega))
      have u := u.trans (n6.below.mono u.size)
      have u := u.trans (hw7.below _ (by omega) (by omega) (by omega))
      have u := u.trans (s8.below _ (by omega))
      have u := u.trans (hw9.below _ (by omega) (by omega) (by omega))
      have u := u.trans (s10.below _ (by omega))
      have u := u.trans (hw11.below _ (by omega) (by omega) (by omega))
      have u := u.trans (s12.below _ (by omega))
      have u := u.trans (hw14.below _ (by omega) (by omega) (by omega))
      have u := u.trans (s15.below _ (by omega))
      have u := u.trans (dW24.mono u.size)
      have u := u.trans (s25.below _ (by omega))
      exact ⟨_, rfl, LfV.zero, nilS, rfl, (IsLf.zero _ _), (Sl.nil _ _), u⟩
  · refine lsw (want_none (by rfl)) (yb (decide_eq_false c13) (yi_eql rfl rfl rfl)) rfl (by decide) ?_
    refine lg_nil ?_
    refine nx (E' := [(2, _), (3, _), (4, _), (5, _), (6, _), (7, _), (9, _), (24, _)]) (fk rfl (fk rfl (fk rfl (fk rfl (fk rfl (fk rfl (fk rfl (fk rfl fn)))))))) ?_
    refine cg_cf rfl ?_
    refine cg_skip ?_
    refine nx (E' := [(2, _), (3, _), (4, _), (5, _), (6, _), (9, _)]) (fk rfl (fk rfl (fk rfl (fk rfl (fk rfl (fk rfl fn)))))) ?_
    refine cg_seq ?_
    refine cg_seq ?_
    refine cg_region ?_
    have r3 := s12.keep r3 (by omega)
    refine lsw (want_none (by rfl)) (y_cellv (v := nv ((gC xs).2.2)) r3 rfl (by kernel_rfl) rfl rfl) rfl (by decide) ?_
    by_cases c26 : (gC xs).2.2 = 0
    · refine lsw (want_none (by rfl)) (yb (decide_eq_true c26) (yi_eql rfl rfl rfl)) rfl (by decide) ?_
      refine lg_nil ?_
      refine nx (E' := [(2, _), (3, _), (4, _), (5, _), (6, _), (9, _), (29, _)]) (fk rfl (fk rfl (fk rfl (fk rfl (fk rfl (fk rfl (fk rfl fn))))))) ?_
      refine cg_ct rfl ?_
      refine cg_region ?_
      refine lsw (want_none (by rfl)) (y_loadA r6 (by kernel_rfl) (by kernel_rfl) rfl rfl) rfl (by decide) ?_
      have m7 := m7.set o8 rfl s8
      have m7 := m7.below (hw9.below _ (by omega) (by omega) (by omega))
      have m7 := m7.set o10 rfl s10
      have m7 := m7.below (hw11.below _ (by omega) (by omega) (by omega))
      have m7 := m7.set o12 rfl s12
      have m9 := m9.set o10 rfl s10
      have m9 := m9.below (hw11.below _ (by omega) (by omega) (by omega))
      have m9 := m9.set o12 rfl s12
      refine lg_callw (want_none (by rfl)) (check_any (show IsLf w12 w12.heap.size (⟨p7, p9, LfV.zero.par⟩ : LfV) (⟨(gA xs).1, (gB xs).1, (gC xs).1, Lf.zero.par⟩ : Lf) from ⟨m7.more (by omega), m9.more (by omega), ((IsLf.zero _ 0).par).more (by omega)⟩) (Nat.le_refl _)) (by kernel_rfl) rfl rfl rfl (by decide) ?_
      rintro _ w27 ⟨rfl, hw27⟩
      have zw27 := hw27.size
      have r3 := RowAt.below hw27 r3.lt r3
      have o28 := r3
      refine lg_sts r3 rfl rfl (by kernel_rfl) (want_none (by rfl)) rfl rfl rfl rfl fun w28 s28 => ?_
      have r3 := s28.row
      have z28 := s28.size
      refine lg_nil ?_
      refine nx (E' := [(2, _), (3, _), (4, _), (5, _), (6, _), (9, _)]) (fk rfl (fk rfl (fk rfl (fk rfl (fk rfl (fk rfl fn)))))) ?_
      refine cg_seq ?_
      refine cg_seq ?_
      refine cg_region ?_
      refine lsw (want_none (by rfl)) (y_cellv (v := nv (lfCheck (⟨(gA xs).1, (gB xs).1, (gC xs).1, Lf.zero.par⟩ : Lf))) r3 rfl (by kernel_rfl) rfl rfl) rfl (by decide) ?_
      by_cases c29 : (lfCheck (⟨(gA xs).1, (gB xs).1, (gC xs).1, Lf.zero.par⟩ : Lf)) = 0
      · refine lsw (want_none (by rfl)) (yb (nd_f c29) (yi_neq rfl rfl rfl)) rfl (by decide) ?_
        refine lg_nil ?_
        refine nx (E' := [(2, _), (3, _), (4, _), (5, _), (6, _), (9, _), (33, _)]) (fk rfl (fk rfl (fk rfl (fk rfl (fk rfl (fk rfl (fk rfl fn))))))) ?_
        refine cg_cf rfl ?_
        refine cg_skip ?_
        refine nx (E' := [(2, _), (3, _), (4, _), (5, _), (9, _)]) (fk rfl (fk rfl (fk rfl (fk rfl (fk rfl fn))))) ?_
        refine cg_seq ?_
        refine cg_heldS (fun q => RowAt q b2 22 #[r11.v] ∧ RowAt q b6 24 #[p7.v, p9.v, nv ((gC xs).1), LfV.zero.par.v]) (by kernel_rfl) (fun W30 eW30 => ?_) fun W30 eW30 => ?_
        · have dW30 := below_drew _ _ eW30
          have r2 := s12.keep r2 (by omega)
          have r2 := RowAt.below hw27 r2.lt r2
          have r2 := s28.keep r2 (by omega)
          have r2 := RowAt.below dW30 r2.lt r2
          have r6 := RowAt.below hw27 r6.lt r6
          have r6 := s28.keep r6 (by omega)
          have r6 := RowAt.below dW30 r6.lt r6
          exact ⟨r2, r6⟩
        have dW30 := below_drew _ _ eW30
        have zW30 := size_drew _ _ eW30
        clear eW30
        have r2 := s12.keep r2 (by omega)
        have r2 := RowAt.below hw27 r2.lt r2
        have r2 := s28.keep r2 (by omega)
        have r2 := RowAt.below dW30 r2.lt r2
        have r6 := RowAt.below hw27 r6.lt r6
        have r6 := s28.keep r6 (by omega)
        have r6 := RowAt.below dW30 r6.lt r6
        refine hgs_take 0 (by rfl) (want_none (by rfl)) (by rfl) rfl (by decide) (by kernel_rfl) (by kernel_rfl) (by kernel_rfl) (fun _ _ _ h => h) ⟨r2, r6⟩ (fun q hq => y_loadA hq.2 (by kernel_rfl) (by kernel_rfl) rfl rfl) ?_
        refine hgs_take 1 (by rfl) (want_none (by rfl)) (by rfl) rfl (by decide) (by kernel_rfl) (by kernel_rfl) (by kernel_rfl) (fun _ _ _ h => h) ⟨r2, r6⟩ (fun q hq => y_cellv (v := r11.v) hq.1 rfl (by kernel_rfl) rfl rfl) ?_
        refine hgs_one 2 (by rfl) (by kernel_rfl) (want_none (by rfl)) ?_
        have r1 := n2.keep r1
        have r1 := n3.keep r1
        have r1 := s4.keep r1 (by omega)
        have r1 := s5.keep r1 (by omega)
        have r1 := n6.keep r1
        have r1 := hw7.keep r1 (by omega) (by omega)
        have r1 := s8.keep r1 (by omega)
        have r1 := hw9.keep r1 (by omega) (by omega)
        have r1 := s10.keep r1 (by omega)
        have r1 := hw11.keep r1 (by omega) (by omega)
        have r1 := s12.keep r1 (by omega)
        have r1 := RowAt.below hw27 r1.lt r1
        have r1 := s28.keep r1 (by omega)
        have r1 := RowAt.below dW30 r1.lt r1
        have o31 := r1
        refine lg_stw (want_none (by rfl)) r1 rfl rfl rfl (by kernel_rfl) (by kernel_rfl) rfl rfl fun w31 s31 => ?_
        have r1 := s31.row
        have z31 := s31.size
        have r2 := s31.keep r2 (by omega)
        have r6 := s31.keep r6 (by omega)
        refine hgs_next ⟨r2, r6⟩ ?_
        refine hgs_take 3 (by rfl) (want_none (by rfl)) (by rfl) rfl (by decide) (by kernel_rfl) (by kernel_rfl) (by kernel_rfl) (fun _ _ _ h => h) ⟨r2, r6⟩ (fun q hq => y_assign rfl rfl) ?_
        refine hgs_take 4 (by rfl) (want_none (by rfl)) (by rfl) rfl (by decide) (by kernel_rfl) (by kernel_rfl) (by kernel_rfl) (fun _ _ _ h => h) ⟨r2, r6⟩ (fun q hq => y_assign rfl rfl) ?_
        refine hgs_done (by kernel_rfl) ?_
        refine nx (E' := [(2, _), (3, _), (4, _)]) (fk rfl (fk rfl (fk rfl fn))) ?_
        refine cg_ret ?_
        have hst : lfGet xs = (0, (⟨(gA xs).1, (gB xs).1, (gC xs).1, Lf.zero.par⟩ : Lf), (gC xs).2.1) := (lfGet_steps xs).trans ((if_neg c13).trans ((if_pos c26).trans (if_pos c29)))
        refine eg_ret_agg3 rfl rfl r1 (by kernel_rfl) (by kernel_rfl) rfl rfl ?_
        rw [hst]
        have m7 := m7.below (hw27.mono (by omega))
        have m7 := m7.set o28 rfl s28
        have m7 := m7.below (dW30.mono (by omega))
        have m7 := m7.set o31 rfl s31
        have m9 := m9.below (hw27.mono (by omega))
        have m9 := m9.set o28 rfl s28
        have m9 := m9.below (dW30.mono (by omega))
        have m9 := m9.set o31 rfl s31
        have l11 := l11.set o12 rfl s12
        have l11 := l11.below (hw27.mono (by omega))
        have l11 := l11.set o28 rfl s28
        have l11 := l11.below (dW30.mono (by omega))
        have l11 := l11.set o31 rfl s31
        have u := u.trans (n1.below.mono u.size)
        have u := u.trans (n2.below.mono u.size)
        have u := u.trans (n3.below.mono u.size)
        have u := u.trans (s4.below _ (by omega))
        have u := u.trans (s5.below _ (by omega))
        have u := u.trans (n6.below.mono u.size)
        have u := u.trans (hw7.below _ (by omega) (by omega) (by omega))
        have u := u.trans (s8.below _ (by omega))
        have u := u.trans (hw9.below _ (by omega) (by omega) (by omega))
        have u := u.trans (s10.below _ (by omega))
        have u := u.trans (hw11.below _ (by omega) (by omega) (by omega))
        have u := u.trans (s12.below _ (by omega))
        have u := u.trans (hw27.mono u.size)
        have u := u.trans (s28.below _ (by omega))
        have u := u.trans (dW30.mono u.size)
        have u := u.trans (s31.below _ (by omega))
        exact ⟨_, rfl, (⟨p7, p9, LfV.zero.par⟩ : LfV), r11, rfl, ⟨m7, m9, (IsLf.zero _ _).par⟩, l11, u⟩
      · refine lsw (want_none (by rfl)) (yb (nd_t c29) (yi_neq rfl rfl rfl)) rfl (by decide) ?_
        refine lg_nil ?_
        refine nx (E' := [(2, _), (3, _), (4, _), (5, _), (6, _), (9, _), (33, _)]) (fk rfl (fk rfl (fk rfl (fk rfl (fk rfl (fk rfl (fk rfl fn))))))) ?_
        refine cg_ct rfl ?_
        refine cg_seq ?_
        refine cg_heldS (fun q => RowAt q b3 32 #[nv (lfCheck (⟨(gA xs).1, (gB xs).1, (gC xs).1, Lf.zero.par⟩ : Lf))]) (by kernel_rfl) (fun W32 eW32 => ?_) fun W32 eW32 => ?_
        · have dW32 := below_drew _ _ eW32
          have r3 := RowAt.below dW32 r3.lt r3
          exact r3
        have dW32 := below_drew _ _ eW32
        have zW32 := size_drew _ _ eW32
        clear eW32
        have r3 := RowAt.below dW32 r3.lt r3
        refine hgs_take 0 (by rfl) (want_none (by rfl)) (by rfl) rfl (by decide) (by kernel_rfl) (by kernel_rfl) (by kernel_rfl) (fun _ _ _ h => h) r3 (fun q hq => y_build (cs := LfV.zero.cs Lf.zero) rfl rfl (by kernel_rfl)) ?_
        refine hgs_take 1 (by rfl) (want_none (by rfl)) (by rfl) rfl (by decide) (by kernel_rfl) (by kernel_rfl) (by kernel_rfl) (fun _ _ _ h => h) r3 (fun q hq => y_cellv (v := nv (lfCheck (⟨(gA xs).1, (gB xs).1, (gC xs).1, Lf.zero.par⟩ : Lf))) hq rfl (by kernel_rfl) rfl rfl) ?_
        refine hgs_one 2 (by rfl) (by kernel_rfl) (want_none (by rfl)) ?_
        have r1 := n2.keep r1
        have r1 := n3.keep r1
        have r1 := s4.keep r1 (by omega)
        have r1 := s5.keep r1 (by omega)
        have r1 := n6.keep r1
        have r1 := hw7.keep r1 (by omega) (by omega)
        have r1 := s8.keep r1 (by omega)
        have r1 := hw9.keep r1 (by omega) (by omega)
        have r1 := s10.keep r1 (by omega)
        have r1 := hw11.keep r1 (by omega) (by omega)
        have r1 := s12.keep r1 (by omega)
        have r1 := RowAt.below hw27 r1.lt r1
        have r1 := s28.keep r1 (by omega)
        have r1 := RowAt.below dW32 r1.lt r1
        have o33 := r1
        refine lg_stw (want_none (by rfl)) r1 rfl rfl rfl (by kernel_rfl) (by kernel_rfl) rfl rfl fun w33 s33 => ?_
        have r1 := s33.row
        have z33 := s33.size
        have r3 := s33.keep r3 (by omega)
        refine hgs_next r3 ?_
        refine hgs_take 3 (by rfl) (want_none (by rfl)) (by rfl) rfl (by decide) (by kernel_rfl) (by kernel_rfl) (by kernel_rfl) (fun _ _ _ h => h) r3 (fun q hq => y_assign rfl rfl) ?_
        refine hgs_take 4 (by rfl) (want_none (by rfl)) (by rfl) rfl (by decide) (by kernel_rfl) (by kernel_rfl) (by kernel_rfl) (fun _ _ _ h => h) r3 (fun q hq => y_assign rfl rfl) ?_
        refine hgs_done (by kernel_rfl) ?_
        refine nx (E' := [(2, _), (5, _), (9, _), (3, _), (4, _)]) (fk rfl (fk rfl (fk rfl (fk rfl (fk rfl fn))))) ?_
        refine cg_ret ?_
        refine eg_seq_ret ?_
        have hst : lfGet xs = ((lfCheck (⟨(gA xs).1, (gB xs).1, (gC xs).1, Lf.zero.par⟩ : Lf)), Lf.zero, []) := (lfGet_steps xs).trans ((if_neg c13).trans ((if_pos c26).trans (if_neg c29)))
        refine eg_ret_agg3 rfl rfl r1 (by kernel_rfl) (by kernel_rfl) rfl rfl ?_
        rw [hst]
        have u := u.trans (n1.below.mono u.size)
        have u := u.trans (n2.below.mono u.size)
        have u := u.trans (n3.below.mono u.size)
        have u := u.trans (s4.below _ (by omega))
        have u := u.trans (s5.below _ (by omega))
        have u := u.trans (n6.below.mono u.size)
        have u := u.trans (hw7.below _ (by omega) (by omega) (by omega))
        have u := u.trans (s8.below _ (by omega))
        have u := u.trans (hw9.below _ (by omega) (by omega) (by omega))
        have u := u.trans (s10.below _ (by omega))
        have u := u.trans (hw11.below _ (by omega) (by omega) (by omega))
        have u := u.trans (s12.below _ (by omega))
        have u := u.trans (hw27.mono u.size)
        have u := u.trans (s28.below _ (by omega))
        have u := u.trans (dW32.mono u.size)
        have u := u.trans (s33.below _ (by omega))
        exact ⟨_, rfl, LfV.zero, nilS, rfl, (IsLf.zero _ _), (Sl.nil _ _), u⟩
    · refine lsw (want_none (by rfl)) (yb (decide_eq_false c26) (yi_eql rfl rfl rfl)) rfl (by decide) ?_
      refine lg_nil ?_
      refine nx (E' := [(2, _), (3, _), (4, _), (5, _), (6, _), (9, _), (29, _)]) (fk rfl (fk rfl (fk rfl (fk rfl (fk rfl (fk rfl (fk rfl fn))))))) ?_
      refine cg_cf rfl ?_
      refine cg_skip ?_
      refine nx (E' := [(2, _), (3, _), (4, _), (5, _), (6, _), (9, _)]) (fk rfl (fk rfl (fk rfl (fk rfl (fk rfl (fk rfl fn)))))) ?_
      refine cg_seq ?_
      refine cg_seq ?_
      refine cg_region ?_
      refine lsw (want_none (by rfl)) (y_cellv (v := nv ((gC xs).2.2)) r3 rfl (by kernel_rfl) rfl rfl) rfl (by decide) ?_
      refine lsw (want_none (by rfl)) (yb (nd_t c26) (yi_neq rfl rfl rfl)) rfl (by decide) ?_
      refine lg_nil ?_
      refine nx (E' := [(2, _), (3, _), (4, _), (5, _), (6, _), (9, _), (33, _)]) (fk rfl (fk rfl (fk rfl (fk rfl (fk rfl (fk rfl (fk rfl fn))))))) ?_
      refine cg_ct rfl ?_
      refine cg_seq ?_
      refine cg_heldS (fun q => RowAt q b3 32 #[nv ((gC xs).2.2)]) (by kernel_rfl) (fun W34 eW34 => ?_) fun W34 eW34 => ?_
      · have dW34 := below_drew _ _ eW34
        have r3 := RowAt.below dW34 r3.lt r3
        exact r3
      have dW34 := below_drew _ _ eW34
      have zW34 := size_drew _ _ eW34
      clear eW34
      have r3 := RowAt.below dW34 r3.lt r3
      refine hgs_take 0 (by rfl) (want_none (by rfl)) (by rfl) rfl (by decide) (by kernel_rfl) (by kernel_rfl) (by kernel_rfl) (fun _ _ _ h => h) r3 (fun q hq => y_build (cs := LfV.zero.cs Lf.zero) rfl rfl (by kernel_rfl)) ?_
      refine hgs_take 1 (by rfl) (want_none (by rfl)) (by rfl) rfl (by decide) (by kernel_rfl) (by kernel_rfl) (by kernel_rfl) (fun _ _ _ h => h) r3 (fun q hq => y_cellv (v := nv ((gC xs).2.2)) hq rfl (by kernel_rfl) rfl rfl) ?_
      refine hgs_one 2 (by rfl) (by kernel_rfl) (want_none (by rfl)) ?_
      have r1 := n2.keep r1
      have r1 := n3.keep r1
      have r1 := s4.keep r1 (by omega)
      have r1 := s5.keep r1 (by omega)
      have r1 := n6.keep r1
      have r1 := hw7.keep r1 (by omega) (by omega)
      have r1 := s8.keep r1 (by omega)
      have r1 := hw9.keep r1 (by omega) (by omega)
      have r1 := s10.keep r1 (by omega)
      have r1 := hw11.keep r1 (by omega) (by omega)
      have r1 := s12.keep r1 (by omega)
      have r1 := RowAt.below dW34 r1.lt r1
      have o35 := r1
      refine lg_stw (want_none (by rfl)) r1 rfl rfl rfl (by kernel_rfl) (by kernel_rfl) rfl rfl fun w35 s35 => ?_
      have r1 := s35.row
      have z35 := s35.size
      have r3 := s35.keep r3 (by omega)
      refine hgs_next r3 ?_
      refine hgs_take 3 (by rfl) (want_none (by rfl)) (by rfl) rfl (by decide) (by kernel_rfl) (by kernel_rfl) (by kernel_rfl) (fun _ _ _ h => h) r3 (fun q hq => y_assign rfl rfl) ?_
      refine hgs_take 4 (by rfl) (want_none (by rfl)) (by rfl) rfl (by decide) (by kernel_rfl) (by kernel_rfl) (by kernel_rfl) (fun _ _ _ h => h) r3 (fun q hq => y_assign rfl rfl) ?_
      refine hgs_done (by kernel_rfl) ?_
      refine nx (E' := [(2, _), (5, _), (9, _), (3, _), (4, _)]) (fk rfl (fk rfl (fk rfl (fk rfl (fk rfl fn))))) ?_
      refine cg_ret ?_
      refine eg_seq_ret ?_
      have hst : lfGet xs = ((gC xs).2.2, Lf.zero, []) := (lfGet_steps xs).trans ((if_neg c13).trans (if_neg c26))
      refine eg_ret_agg3 rfl rfl r1 (by kernel_rfl) (by kernel_rfl) rfl rfl ?_
      rw [hst]
      have u := u.trans (n1.below.mono u.size)
      have u := u.trans (n2.below.mono u.size)
      have u := u.trans (n3.below.mono u.size)
      have u := u.trans (s4.below _ (by omega))
      have u := u.trans (s5.below _ (by omega))
      have u := u.trans (n6.below.mono u.size)
      have u := u.trans (hw7.below _ (by omega) (by omega) (by omega))
      have u := u.trans (s8.below _ (by omega))
      have u := u.trans (hw9.below _ (by omega) (by omega) (by omega))
      have u := u.trans (s10.below _ (by omega))
      have u := u.trans (hw11.below _ (by omega) (by omega) (by omega))
      have u := u.trans (s12.below _ (by omega))
      have u := u.trans (dW34.mono u.size)
      have u := u.trans (s35.below _ (by omega))
      exact ⟨_, rfl, LfV.zero, nilS, rfl, (IsLf.zero _ _), (Sl.nil _ _), u⟩
end Go.Proofs.Ytpmakacjhoemeaa
