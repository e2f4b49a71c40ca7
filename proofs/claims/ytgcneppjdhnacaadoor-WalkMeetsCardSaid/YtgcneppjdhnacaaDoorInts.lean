/-
  The document's own comparison of two lists of numbers.
-/
import Derived.Test.YtgcneppjdhnacaaDoorWkN
namespace Go.Proofs.YtgcneppjdhnacaaDoor
open Go.ChangeShapes Go.WideShapes Go.ChangeAt Go.RowKit
set_option linter.unusedVariables false
set_option maxRecDepth 20000
theorem list_eq_getD {xs ys : List Int} (hl : xs.length = ys.length) (h : ∀ i, i < xs.length → xs.getD i 0 = ys.getD i 0) : xs = ys := by
  refine List.ext_getElem hl fun i h1 h2 => ?_
  have := h i h1
  simpa [List.getD_eq_getElem?_getD, h1, h2] using this
theorem ints_any (A1 A2 : Option Addr) (m1 m2 e1 e2 : Nat) (xs ys : List Int) (w : World) (n1 : Nums w w.heap.size A1 m1 xs) (n2 : Nums w w.heap.size A2 m2 ys) (b1 : m1 ≤ maxLen) (b2 : m2 ≤ maxLen) :
    Calls Tryd.prog 12 #[.slice A1 m1 e1, .slice A2 m2 e2] w fun e w' => ∃ v, e = .returned v ∧ v = .bool (decide (xs = ys)) ∧ Below w.heap.size w w' := by
  unfold maxLen at b1 b2
  have l1 := n1.1
  have l2 := n2.1
  refine calls_cg (n := 26) Tryd.func12 rfl Tryd.ntmps12 (by simp) ?_
  show CG _ _ _ [(0, .slice A1 m1 e1), (1, .slice A2 m2 e2)] _ _
  have u := Below.refl w.heap.size w
  refine cg_seq ?_
  refine cg_region ?_
  refine lsw (want_none (by rfl)) (y_assign rfl rfl) rfl (by decide) ?_
  refine lg_nil ?_
  refine nx (E' := [(0, _), (1, _), (4, _)]) (fk rfl (fk rfl (fk rfl fn))) ?_
  refine cg_seq ?_
  refine cg_seq ?_
  refine cg_region ?_
  refine lsw (want_none (by rfl)) (y_move rfl rfl) rfl (by decide) ?_
  refine lsw (want_none (by rfl)) (y_len (el := 3) (by kernel_rfl) rfl rfl) rfl (by decide) ?_
  refine lsw (want_none (by rfl)) (y_move rfl rfl) rfl (by decide) ?_
  refine lsw (want_none (by rfl)) (y_len (el := 3) (by kernel_rfl) rfl rfl) rfl (by decide) ?_
  by_cases c1 : (m1 : Int) = (m2 : Int)
  · refine lsw (want_none (by rfl)) (yb (nd_f c1) (yi_neq rfl rfl rfl)) rfl (by decide) ?_
    refine lg_nil ?_
    refine nx (E' := [(0, _), (1, _), (4, _), (10, _)]) (fk rfl (fk rfl (fk rfl (fk rfl fn)))) ?_
    refine cg_cf rfl ?_
    refine cg_skip ?_
    refine nx (E' := [(0, _), (1, _), (4, _)]) (fk rfl (fk rfl (fk rfl fn))) ?_
    refine cg_seq ?_
    refine cg_seq ?_
    refine cg_region ?_
    refine lsw (want_none (by rfl)) (y_assign rfl rfl) rfl (by decide) ?_
    refine lg_nil ?_
    refine nx (E' := [(0, _), (1, _), (4, _), (5, _)]) (fk rfl (fk rfl (fk rfl (fk rfl fn)))) ?_
    refine cg_block ?_
    refine cg_loopE (fun t a v => ∃ (j : Int), Holds 26 [(0, .slice A1 m1 e1), (1, .slice A2 m2 e2), (5, nv j)] a ∧ Nums v w.heap.size A1 m1 xs ∧ Nums v w.heap.size A2 m2 ys ∧ Below w.heap.size w v ∧ (j = (t : Int) ∧ t ≤ m1) ∧ ∀ i, i < t → xs.getD i 0 = ys.getD i 0) m1 (fun a ha => ⟨0, ha.keep (fk rfl (fk rfl (fk rfl fn))), n1, n2, u, ⟨rfl, Nat.zero_le _⟩, (fun i hi => absurd hi (by omega))⟩) ?_
    rintro t a v ht ⟨j, ha, n1, n2, u, hj, he⟩
    refine cg_at ha ?_
    clear ha a
    have zv := u.size
    refine cg_seq ?_
    refine cg_seq ?_
    refine cg_region ?_
    refine lsw (want_none (by rfl)) (y_move rfl rfl) rfl (by decide) ?_
    refine lsw (want_none (by rfl)) (y_move rfl rfl) rfl (by decide) ?_
    refine lsw (want_none (by rfl)) (y_len (el := 3) (by kernel_rfl) rfl rfl) rfl (by decide) ?_
    by_cases c2 : j < (m1 : Int)
    · refine lsw (want_none (by rfl)) (yb (decide_eq_true c2) (yi_lss rfl rfl rfl)) rfl (by decide) ?_
      refine lg_nil ?_
      refine nx (E' := [(0, _), (1, _), (5, _), (11, _), (12, _), (13, _), (14, _)]) (fk rfl (fk rfl (fk rfl (fk rfl (fk rfl (fk rfl (fk rfl fn))))))) ?_
      refine cg_ct rfl ?_
      refine cg_skip ?_
      refine nx (E' := [(0, _), (1, _), (5, _), (11, _), (12, _), (13, _), (14, _)]) (fk rfl (fk rfl (fk rfl (fk rfl (fk rfl (fk rfl (fk rfl fn))))))) ?_
      refine cg_seq ?_
      refine cg_block ?_
      refine cg_seq ?_
      refine cg_still (by kernel_rfl) (by kernel_rfl) fun W3 eW3 => ?_
      have dW3 := below_drew _ _ eW3
      have zW3 := size_drew _ _ eW3
      clear eW3
      refine stw (want_none (by rfl)) (y_move rfl rfl) rfl (by decide) ?_
      refine stw (want_none (by rfl)) (y_move rfl rfl) rfl (by decide) ?_
      have n1 := n1.below (dW3.mono (by omega))
      refine stw (want_none (by rfl)) (y_ixN (i := t) n1 (by omega) (by omega) rfl rfl rfl) rfl (by decide) ?_
      refine stw (want_none (by rfl)) (y_ldN n1 (by omega) rfl rfl) rfl (by decide) ?_
      refine stw (want_none (by rfl)) (y_move rfl rfl) rfl (by decide) ?_
      refine stw (want_none (by rfl)) (y_move rfl rfl) rfl (by decide) ?_
      have n2 := n2.below (dW3.mono (by omega))
      refine stw (want_none (by rfl)) (y_ixN (i := t) n2 (by omega) (by omega) rfl rfl rfl) rfl (by decide) ?_
      refine stw (want_none (by rfl)) (y_ldN n2 (by omega) rfl rfl) rfl (by decide) ?_
      by_cases c4 : (xs.getD t 0) = (ys.getD t 0)
      · refine stw (want_none (by rfl)) (yb (nd_f c4) (yi_neq rfl rfl rfl)) rfl (by decide) ?_
        refine sg_nil ?_
        refine nx (E' := [(0, _), (1, _), (5, _), (11, _), (12, _), (13, _), (14, _), (17, _), (18, _), (19, _), (20, _), (21, _), (22, _), (23, _), (24, _), (25, _)]) (fk rfl (fk rfl (fk rfl (fk rfl (fk rfl (fk rfl (fk rfl (fk rfl (fk rfl (fk rfl (fk rfl (fk rfl (fk rfl (fk rfl (fk rfl (fk rfl fn)))))))))))))))) ?_
        refine cg_cf rfl ?_
        refine cg_skip ?_
        refine eg_block_norm ?_
        refine nx (E' := [(0, _), (1, _), (5, _), (11, _), (12, _), (13, _), (14, _), (17, _), (18, _), (19, _), (20, _), (21, _), (22, _), (23, _), (24, _), (25, _)]) (fk rfl (fk rfl (fk rfl (fk rfl (fk rfl (fk rfl (fk rfl (fk rfl (fk rfl (fk rfl (fk rfl (fk rfl (fk rfl (fk rfl (fk rfl (fk rfl fn)))))))))))))))) ?_
        refine cg_region ?_
        refine lsw (want_none (by rfl)) (y_move rfl rfl) rfl (by decide) ?_
        refine lsw (want_none (by rfl)) (yi_add rfl rfl rfl (by omega) (by omega)) rfl (by decide) ?_
        refine lsw (want_none (by rfl)) (y_assign rfl rfl) rfl (by decide) ?_
        refine lg_nil ?_
        have he2 : ∀ i, i < t + 1 → xs.getD i 0 = ys.getD i 0 := fun i hi => by
          by_cases e : i = t
          · subst e; exact c4
          · exact he i (by omega)
        have u := u.trans (dW3.mono u.size)
        exact fun a ha => (show t < m1 ∧ _ from ⟨(by omega), (j + 1), ha.keep (fk rfl (fk rfl (fk rfl fn))), n1, n2, u, ⟨(by omega), (by omega)⟩, he2⟩)
      · refine stw (want_none (by rfl)) (yb (nd_t c4) (yi_neq rfl rfl rfl)) rfl (by decide) ?_
        refine sg_nil ?_
        refine nx (E' := [(0, _), (1, _), (5, _), (11, _), (12, _), (13, _), (14, _), (17, _), (18, _), (19, _), (20, _), (21, _), (22, _), (23, _), (24, _), (25, _)]) (fk rfl (fk rfl (fk rfl (fk rfl (fk rfl (fk rfl (fk rfl (fk rfl (fk rfl (fk rfl (fk rfl (fk rfl (fk rfl (fk rfl (fk rfl (fk rfl fn)))))))))))))))) ?_
        refine cg_ct rfl ?_
        refine cg_seq ?_
        refine cg_region ?_
        refine lsw (want_none (by rfl)) (y_assign rfl rfl) rfl (by decide) ?_
        refine lg_nil ?_
        refine nx (E' := [(0, _), (1, _), (5, _), (11, _), (12, _), (13, _), (14, _), (17, _), (18, _), (19, _), (20, _), (21, _), (22, _), (23, _), (24, _), (25, _), (4, _)]) (fk rfl (fk rfl (fk rfl (fk rfl (fk rfl (fk rfl (fk rfl (fk rfl (fk rfl (fk rfl (fk rfl (fk rfl (fk rfl (fk rfl (fk rfl (fk rfl (fk rfl fn))))))))))))))))) ?_
        refine cg_ret ?_
        refine eg_block_ret ?_
        refine eg_seq_ret ?_
        refine eg_seq_ret ?_
        refine eg_block_ret ?_
        refine eg_seq_ret ?_
        have u := u.trans (dW3.mono u.size)
        exact eg_ret_tmp rfl rfl ⟨_, rfl, congrArg Value.bool (decide_eq_false (fun q => c4 (by rw [q]))).symm, u⟩
    · refine lsw (want_none (by rfl)) (yb (decide_eq_false c2) (yi_lss rfl rfl rfl)) rfl (by decide) ?_
      refine lg_nil ?_
      refine nx (E' := [(0, _), (1, _), (5, _), (11, _), (12, _), (13, _), (14, _)]) (fk rfl (fk rfl (fk rfl (fk rfl (fk rfl (fk rfl (fk rfl fn))))))) ?_
      refine cg_cf rfl ?_
      refine cg_exit ?_
      refine eg_seq_exit ?_
      refine eg_seq_exit ?_
      refine eg_block_exit ?_
      refine nx (E' := []) fn ?_
      refine cg_seq ?_
      refine cg_region ?_
      refine lsw (want_none (by rfl)) (y_assign rfl rfl) rfl (by decide) ?_
      refine lg_nil ?_
      refine nx (E' := [(4, _)]) (fk rfl fn) ?_
      refine cg_ret ?_
      exact eg_ret_tmp rfl rfl ⟨_, rfl, congrArg Value.bool (decide_eq_true (list_eq_getD (by omega) fun i hi => he i (by omega))).symm, u⟩
  · refine lsw (want_none (by rfl)) (yb (nd_t c1) (yi_neq rfl rfl rfl)) rfl (by decide) ?_
    refine lg_nil ?_
    refine nx (E' := [(0, _), (1, _), (4, _), (10, _)]) (fk rfl (fk rfl (fk rfl (fk rfl fn)))) ?_
    refine cg_ct rfl ?_
    refine cg_seq ?_
    refine cg_region ?_
    refine lsw (want_none (by rfl)) (y_assign rfl rfl) rfl (by decide) ?_
    refine lg_nil ?_
    refine nx (E' := [(0, _), (1, _), (4, _)]) (fk rfl (fk rfl (fk rfl fn))) ?_
    refine cg_ret ?_
    refine eg_seq_ret ?_
    exact eg_ret_tmp rfl rfl ⟨_, rfl, congrArg Value.bool (decide_eq_false (fun q => by have := congrArg List.length q; omega)).symm, u⟩
end Go.Proofs.YtgcneppjdhnacaaDoor
