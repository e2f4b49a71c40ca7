/-
  Widths, nodes and roots, without the table of package math/bits.
-/
import Derived.Test.YtpoonjgkgaodmaaDoorIxBase
namespace Go.Proofs.YtpoonjgkgaodmaaDoor
open Go.ChangeShapes Go.WideShapes Go.ChangeAt Go.RowKit
set_option linter.unusedVariables false

theorem wholeL_and {w : Int} (h0 : 0 < w) (h1 : w ≤ 127) : bits .and .i64 w (w + 1) = 0 ↔ isW w := by
  have h := fin1 (p := fun x => bits .and .i64 (x + 1) (x + 1 + 1) = 0 ↔ isW (x + 1)) (by kernel_rfl) (x := w - 1) ⟨by omega, by omega⟩
  rwa [Int.sub_add_cancel] at h
theorem wholeL (w : Int) (W : World) : Calls Tryd.prog 43 #[nv w] W fun e w' => e = .returned (.bool (decide (isW w))) ∧ w' = W := by
  by_cases h0 : 0 < w
  · by_cases h1 : w ≤ 127
    · have hq := wholeL_and h0 h1
      by_cases hw : isW w
      · refine calls_cg (n := 16) Tryd.func43 rfl Tryd.ntmps43 (by simp) ?_
        show CG _ _ _ [(0, nv w)] _ _
        refine cg_seq ?_
        refine cg_region ?_
        refine lsw (want_none (by rfl)) (y_assign rfl rfl) rfl (by decide) ?_
        refine lg_nil ?_
        refine nx (E' := [(0, _), (2, _)]) (fk rfl (fk rfl fn)) ?_
        refine cg_seq ?_
        refine cg_region ?_
        refine lsw (want_none (by rfl)) (y_move rfl rfl) rfl (by decide) ?_
        refine lsw (want_none (by rfl)) (yb (decide_eq_true h0) (yi_gtr rfl rfl rfl)) rfl (by decide) ?_
        refine lsw (want_none (by rfl)) (y_move rfl rfl) rfl (by decide) ?_
        refine lsw (want_t (dj := 5) (by rfl) (by kernel_rfl) rfl) (y_move rfl rfl) rfl (by decide) ?_
        refine lsw (want_t (dj := 5) (by rfl) (by kernel_rfl) rfl) (yb (decide_eq_true h1) (yi_leq rfl rfl rfl)) rfl (by decide) ?_
        refine lsw (want_none (by rfl)) (y_pick true rfl rfl rfl) rfl (by decide) ?_
        refine lsw (want_none (by rfl)) (y_move rfl rfl) rfl (by decide) ?_
        refine lsw (want_t (dj := 9) (by rfl) (by kernel_rfl) rfl) (y_move rfl rfl) rfl (by decide) ?_
        refine lsw (want_t (dj := 9) (by rfl) (by kernel_rfl) rfl) (y_move rfl rfl) rfl (by decide) ?_
        refine lsw (want_t (dj := 9) (by rfl) (by kernel_rfl) rfl) (yi_add rfl rfl rfl (by omega) (by omega)) rfl (by decide) ?_
        refine lsw (want_t (dj := 9) (by rfl) (by kernel_rfl) rfl) (yi_and rfl rfl rfl) rfl (by decide) ?_
        refine lsw (want_t (dj := 9) (by rfl) (by kernel_rfl) rfl) (yb (decide_eq_true (hq.2 hw)) (yi_eql rfl rfl rfl)) rfl (by decide) ?_
        refine lsw (want_none (by rfl)) (y_pick true rfl rfl rfl) rfl (by decide) ?_
        refine lsw (want_none (by rfl)) (y_assign rfl rfl) rfl (by decide) ?_
        refine lg_nil ?_
        refine nx (E' := [(2, _)]) (fk rfl fn) ?_
        refine cg_ret ?_
        exact eg_ret_tmp rfl rfl ⟨congrArg (fun b => Ending.returned (Value.bool b)) (by simp [hw]), rfl⟩
      · refine calls_cg (n := 16) Tryd.func43 rfl Tryd.ntmps43 (by simp) ?_
        show CG _ _ _ [(0, nv w)] _ _
        refine cg_seq ?_
        refine cg_region ?_
        refine lsw (want_none (by rfl)) (y_assign rfl rfl) rfl (by decide) ?_
        refine lg_nil ?_
        refine nx (E' := [(0, _), (2, _)]) (fk rfl (fk rfl fn)) ?_
        refine cg_seq ?_
        refine cg_region ?_
        refine lsw (want_none (by rfl)) (y_move rfl rfl) rfl (by decide) ?_
        refine lsw (want_none (by rfl)) (yb (decide_eq_true h0) (yi_gtr rfl rfl rfl)) rfl (by decide) ?_
        refine lsw (want_none (by rfl)) (y_move rfl rfl) rfl (by decide) ?_
        refine lsw (want_t (dj := 5) (by rfl) (by kernel_rfl) rfl) (y_move rfl rfl) rfl (by decide) ?_
        refine lsw (want_t (dj := 5) (by rfl) (by kernel_rfl) rfl) (yb (decide_eq_true h1) (yi_leq rfl rfl rfl)) rfl (by decide) ?_
        refine lsw (want_none (by rfl)) (y_pick true rfl rfl rfl) rfl (by decide) ?_
        refine lsw (want_none (by rfl)) (y_move rfl rfl) rfl (by decide) ?_
        refine lsw (want_t (dj := 9) (by rfl) (by kernel_rfl) rfl) (y_move rfl rfl) rfl (by decide) ?_
        refine lsw (want_t (dj := 9) (by rfl) (by kernel_rfl) rfl) (y_move rfl rfl) rfl (by decide) ?_
        refine lsw (want_t (dj := 9) (by rfl) (by kernel_rfl) rfl) (yi_add rfl rfl rfl (by omega) (by omega)) rfl (by decide) ?_
        refine lsw (want_t (dj := 9) (by rfl) (by kernel_rfl) rfl) (yi_and rfl rfl rfl) rfl (by decide) ?_
        refine lsw (want_t (dj := 9) (by rfl) (by kernel_rfl) rfl) (yb (decide_eq_false fun q => hw (hq.1 q)) (yi_eql rfl rfl rfl)) rfl (by decide) ?_
        refine lsw (want_none (by rfl)) (y_pick true rfl rfl rfl) rfl (by decide) ?_
        refine lsw (want_none (by rfl)) (y_assign rfl rfl) rfl (by decide) ?_
        refine lg_nil ?_
        refine nx (E' := [(2, _)]) (fk rfl fn) ?_
        refine cg_ret ?_
        exact eg_ret_tmp rfl rfl ⟨congrArg (fun b => Ending.returned (Value.bool b)) (by simp [hw]), rfl⟩
    · have hw : ¬ isW w := by unfold isW; omega
      refine calls_cg (n := 16) Tryd.func43 rfl Tryd.ntmps43 (by simp) ?_
      show CG _ _ _ [(0, nv w)] _ _
      refine cg_seq ?_
      refine cg_region ?_
      refine lsw (want_none (by rfl)) (y_assign rfl rfl) rfl (by decide) ?_
      refine lg_nil ?_
      refine nx (E' := [(0, _), (2, _)]) (fk rfl (fk rfl fn)) ?_
      refine cg_seq ?_
      refine cg_region ?_
      refine lsw (want_none (by rfl)) (y_move rfl rfl) rfl (by decide) ?_
      refine lsw (want_none (by rfl)) (yb (decide_eq_true h0) (yi_gtr rfl rfl rfl)) rfl (by decide) ?_
      refine lsw (want_none (by rfl)) (y_move rfl rfl) rfl (by decide) ?_
      refine lsw (want_t (dj := 5) (by rfl) (by kernel_rfl) rfl) (y_move rfl rfl) rfl (by decide) ?_
      refine lsw (want_t (dj := 5) (by rfl) (by kernel_rfl) rfl) (yb (decide_eq_false h1) (yi_leq rfl rfl rfl)) rfl (by decide) ?_
      refine lsw (want_none (by rfl)) (y_pick true rfl rfl rfl) rfl (by decide) ?_
      refine lsw (want_none (by rfl)) (y_move rfl rfl) rfl (by decide) ?_
      refine lsk (want_f (dj := 9) (by rfl) (by kernel_rfl) rfl) rfl (by decide) ?_
      refine lsk (want_f (dj := 9) (by rfl) (by kernel_rfl) rfl) rfl (by decide) ?_
      refine lsk (want_f (dj := 9) (by rfl) (by kernel_rfl) rfl) rfl (by decide) ?_
      refine lsk (want_f (dj := 9) (by rfl) (by kernel_rfl) rfl) rfl (by decide) ?_
      refine lsk (want_f (dj := 9) (by rfl) (by kernel_rfl) rfl) rfl (by decide) ?_
      refine lsw (want_none (by rfl)) (y_pick false rfl rfl rfl) rfl (by decide) ?_
      refine lsw (want_none (by rfl)) (y_assign rfl rfl) rfl (by decide) ?_
      refine lg_nil ?_
      refine nx (E' := [(2, _)]) (fk rfl fn) ?_
      refine cg_ret ?_
      exact eg_ret_tmp rfl rfl ⟨congrArg (fun b => Ending.returned (Value.bool b)) (by simp [hw]), rfl⟩
  · have hw : ¬ isW w := by unfold isW; omega
    refine calls_cg (n := 16) Tryd.func43 rfl Tryd.ntmps43 (by simp) ?_
    show CG _ _ _ [(0, nv w)] _ _
    refine cg_seq ?_
    refine cg_region ?_
    refine lsw (want_none (by rfl)) (y_assign rfl rfl) rfl (by decide) ?_
    refine lg_nil ?_
    refine nx (E' := [(0, _), (2, _)]) (fk rfl (fk rfl fn)) ?_
    refine cg_seq ?_
    refine cg_region ?_
    refine lsw (want_none (by rfl)) (y_move rfl rfl) rfl (by decide) ?_
    refine lsw (want_none (by rfl)) (yb (decide_eq_false h0) (yi_gtr rfl rfl rfl)) rfl (by decide) ?_
    refine lsw (want_none (by rfl)) (y_move rfl rfl) rfl (by decide) ?_
    refine lsk (want_f (dj := 5) (by rfl) (by kernel_rfl) rfl) rfl (by decide) ?_
    refine lsk (want_f (dj := 5) (by rfl) (by kernel_rfl) rfl) rfl (by decide) ?_
    refine lsw (want_none (by rfl)) (y_pick false rfl rfl rfl) rfl (by decide) ?_
    refine lsw (want_none (by rfl)) (y_move rfl rfl) rfl (by decide) ?_
    refine lsk (want_f (dj := 9) (by rfl) (by kernel_rfl) rfl) rfl (by decide) ?_
    refine lsk (want_f (dj := 9) (by rfl) (by kernel_rfl) rfl) rfl (by decide) ?_
    refine lsk (want_f (dj := 9) (by rfl) (by kernel_rfl) rfl) rfl (by decide) ?_
    refine lsk (want_f (dj := 9) (by rfl) (by kernel_rfl) rfl) rfl (by decide) ?_
    refine lsk (want_f (dj := 9) (by rfl) (by kernel_rfl) rfl) rfl (by decide) ?_
    refine lsw (want_none (by rfl)) (y_pick false rfl rfl rfl) rfl (by decide) ?_
    refine lsw (want_none (by rfl)) (y_assign rfl rfl) rfl (by decide) ?_
    refine lg_nil ?_
    refine nx (E' := [(2, _)]) (fk rfl fn) ?_
    refine cg_ret ?_
    exact eg_ret_tmp rfl rfl ⟨congrArg (fun b => Ending.returned (Value.bool b)) (by simp [hw]), rfl⟩
theorem isL_any (x w : Int) (W : World) : Calls Tryd.prog 28 #[nv x, nv w] W fun e w' => e = .returned (.bool (decide (isN x w))) ∧ w' = W := by
  refine calls_cg (n := 16) Tryd.func28 rfl Tryd.ntmps28 (by simp) ?_
  show CG _ _ _ [(0, nv x), (1, nv w)] _ _
  refine cg_seq ?_
  refine cg_region ?_
  refine lsw (want_none (by rfl)) (y_assign rfl rfl) rfl (by decide) ?_
  refine lg_nil ?_
  refine nx (E' := [(0, _), (1, _), (4, _)]) (fk rfl (fk rfl (fk rfl fn))) ?_
  refine cg_seq ?_
  refine cg_region ?_
  refine lsw (want_none (by rfl)) (y_move rfl rfl) rfl (by decide) ?_
  by_cases c1 : isW w
  · refine lsw (want_none (by rfl)) (yb (decide_eq_true c1) (y_call (wholeL w _) (by kernel_rfl) rfl rfl)) rfl (by decide) ?_
    refine lsw (want_none (by rfl)) (y_move rfl rfl) rfl (by decide) ?_
    refine lsw (want_t (dj := 7) (by rfl) (by kernel_rfl) rfl) (y_move rfl rfl) rfl (by decide) ?_
    by_cases c2 : 0 ≤ x
    · refine lsw (want_t (dj := 7) (by rfl) (by kernel_rfl) rfl) (yb (decide_eq_true c2) (yi_geq rfl rfl rfl)) rfl (by decide) ?_
      refine lsw (want_none (by rfl)) (y_pick true rfl rfl rfl) rfl (by decide) ?_
      refine lsw (want_none (by rfl)) (y_move rfl rfl) rfl (by decide) ?_
      refine lsw (want_t (dj := 11) (by rfl) (by kernel_rfl) rfl) (y_move rfl rfl) rfl (by decide) ?_
      refine lsw (want_t (dj := 11) (by rfl) (by kernel_rfl) rfl) (y_move rfl rfl) rfl (by decide) ?_
      by_cases c3 : x < w
      · refine lsw (want_t (dj := 11) (by rfl) (by kernel_rfl) rfl) (yb (decide_eq_true c3) (yi_lss rfl rfl rfl)) rfl (by decide) ?_
        refine lsw (want_none (by rfl)) (y_pick true rfl rfl rfl) rfl (by decide) ?_
        refine lsw (want_none (by rfl)) (y_assign rfl rfl) rfl (by decide) ?_
        refine lg_nil ?_
        refine nx (E' := [(4, _)]) (fk rfl fn) ?_
        refine cg_ret ?_
        exact eg_ret_tmp rfl rfl ⟨congrArg (fun b => Ending.returned (Value.bool b)) (by simp [isN, *]), rfl⟩
      · refine lsw (want_t (dj := 11) (by rfl) (by kernel_rfl) rfl) (yb (decide_eq_false c3) (yi_lss rfl rfl rfl)) rfl (by decide) ?_
        refine lsw (want_none (by rfl)) (y_pick true rfl rfl rfl) rfl (by decide) ?_
        refine lsw (want_none (by rfl)) (y_assign rfl rfl) rfl (by decide) ?_
        refine lg_nil ?_
        refine nx (E' := [(4, _)]) (fk rfl fn) ?_
        refine cg_ret ?_
        exact eg_ret_tmp rfl rfl ⟨congrArg (fun b => Ending.returned (Value.bool b)) (by simp [isN, *]), rfl⟩
    · refine lsw (want_t (dj := 7) (by rfl) (by kernel_rfl) rfl) (yb (decide_eq_false c2) (yi_geq rfl rfl rfl)) rfl (by decide) ?_
      refine lsw (want_none (by rfl)) (y_pick true rfl rfl rfl) rfl (by decide) ?_
      refine lsw (want_none (by rfl)) (y_move rfl rfl) rfl (by decide) ?_
      refine lsk (want_f (dj := 11) (by rfl) (by kernel_rfl) rfl) rfl (by decide) ?_
      refine lsk (want_f (dj := 11) (by rfl) (by kernel_rfl) rfl) rfl (by decide) ?_
      refine lsk (want_f (dj := 11) (by rfl) (by kernel_rfl) rfl) rfl (by decide) ?_
      refine lsw (want_none (by rfl)) (y_pick false rfl rfl rfl) rfl (by decide) ?_
      refine lsw (want_none (by rfl)) (y_assign rfl rfl) rfl (by decide) ?_
      refine lg_nil ?_
      refine nx (E' := [(4, _)]) (fk rfl fn) ?_
      refine cg_ret ?_
      exact eg_ret_tmp rfl rfl ⟨congrArg (fun b => Ending.returned (Value.bool b)) (by simp [isN, *]), rfl⟩
  · refine lsw (want_none (by rfl)) (yb (decide_eq_false c1) (y_call (wholeL w _) (by kernel_rfl) rfl rfl)) rfl (by decide) ?_
    refine lsw (want_none (by rfl)) (y_move rfl rfl) rfl (by decide) ?_
    refine lsk (want_f (dj := 7) (by rfl) (by kernel_rfl) rfl) rfl (by decide) ?_
    refine lsk (want_f (dj := 7) (by rfl) (by kernel_rfl) rfl) rfl (by decide) ?_
    refine lsw (want_none (by rfl)) (y_pick false rfl rfl rfl) rfl (by decide) ?_
    refine lsw (want_none (by rfl)) (y_move rfl rfl) rfl (by decide) ?_
    refine lsk (want_f (dj := 11) (by rfl) (by kernel_rfl) rfl) rfl (by decide) ?_
    refine lsk (want_f (dj := 11) (by rfl) (by kernel_rfl) rfl) rfl (by decide) ?_
    refine lsk (want_f (dj := 11) (by rfl) (by kernel_rfl) rfl) rfl (by decide) ?_
    refine lsw (want_none (by rfl)) (y_pick false rfl rfl rfl) rfl (by decide) ?_
    refine lsw (want_none (by rfl)) (y_assign rfl rfl) rfl (by decide) ?_
    refine lg_nil ?_
    refine nx (E' := [(4, _)]) (fk rfl fn) ?_
    refine cg_ret ?_
    exact eg_ret_tmp rfl rfl ⟨congrArg (fun b => Ending.returned (Value.bool b)) (by simp [isN, *]), rfl⟩
theorem trootL (w : Int) (W : World) (hw : isW w) : Calls Tryd.prog 76 #[nv w] W fun e w' => e = .returned (nv ((w - 1) / 2)) ∧ w' = W := by
  refine calls_cg (n := 6) Tryd.func76 rfl Tryd.ntmps76 (by simp) ?_
  show CG _ _ _ [(0, nv w)] _ _
  refine cg_seq ?_
  refine cg_region ?_
  refine lsw (want_none (by rfl)) (y_assign rfl rfl) rfl (by decide) ?_
  refine lg_nil ?_
  refine nx (E' := [(0, _), (2, _)]) (fk rfl (fk rfl fn)) ?_
  refine cg_seq ?_
  refine cg_region ?_
  refine lsw (want_none (by rfl)) (y_move rfl rfl) rfl (by decide) ?_
  have f1 : -9223372036854775808 ≤ (w - 1) ∧ (w - 1) < 9223372036854775808 := fin0 (p := fun w => -9223372036854775808 ≤ (w - 1) ∧ (w - 1) < 9223372036854775808) (by kernel_rfl) hw
  refine lsw (want_none (by rfl)) (yi_sub rfl rfl rfl f1.1 f1.2) rfl (by decide) ?_
  have f2 : 0 ≤ (w - 1) := fin0 (p := fun w => 0 ≤ (w - 1)) (by kernel_rfl) hw
  have f3 : (w - 1) < 9223372036854775808 := fin0 (p := fun w => (w - 1) < 9223372036854775808) (by kernel_rfl) hw
  refine lsw (want_none (by rfl)) (yi_quo rfl rfl rfl f2 (by decide) f3) rfl (by decide) ?_
  refine lsw (want_none (by rfl)) (y_assign rfl rfl) rfl (by decide) ?_
  refine lg_nil ?_
  refine nx (E' := [(2, _)]) (fk rfl fn) ?_
  refine cg_ret ?_
  exact eg_ret_tmp rfl rfl ⟨rfl, rfl⟩
theorem rootL (w : Int) (W : World) : Calls Tryd.prog 59 #[nv w] W fun e w' => e = .returned (nv (rootI w)) ∧ w' = W := by
  by_cases hw : isW w
  · refine calls_cg (n := 8) Tryd.func59 rfl Tryd.ntmps59 (by simp) ?_
    show CG _ _ _ [(0, nv w)] _ _
    refine cg_seq ?_
    refine cg_region ?_
    refine lsw (want_none (by rfl)) (y_assign rfl rfl) rfl (by decide) ?_
    refine lg_nil ?_
    refine nx (E' := [(0, _), (2, _)]) (fk rfl (fk rfl fn)) ?_
    refine cg_seq ?_
    refine cg_seq ?_
    refine cg_region ?_
    refine lsw (want_none (by rfl)) (y_move rfl rfl) rfl (by decide) ?_
    have f1 : isW w := fin0 (p := fun w => isW w) (by kernel_rfl) hw
    refine lsw (want_none (by rfl)) (yb (decide_eq_true f1) (y_call (wholeL w _) (by kernel_rfl) rfl rfl)) rfl (by decide) ?_
    refine lsw (want_none (by rfl)) (y_bnot rfl rfl) rfl (by decide) ?_
    refine lg_nil ?_
    refine nx (E' := [(0, _), (2, _), (5, _)]) (fk rfl (fk rfl (fk rfl fn))) ?_
    refine cg_cf rfl ?_
    refine cg_skip ?_
    refine nx (E' := [(0, _), (2, _)]) (fk rfl (fk rfl fn)) ?_
    refine cg_seq ?_
    refine cg_region ?_
    refine lsw (want_none (by rfl)) (y_move rfl rfl) rfl (by decide) ?_
    have f2 : isW w := fin0 (p := fun w => isW w) (by kernel_rfl) hw
    refine lsw (want_none (by rfl)) (y_call (trootL w _ f2) (by kernel_rfl) rfl rfl) rfl (by decide) ?_
    refine lsw (want_none (by rfl)) (y_assign rfl rfl) rfl (by decide) ?_
    refine lg_nil ?_
    refine nx (E' := [(2, _)]) (fk rfl fn) ?_
    refine cg_ret ?_
    have f3 : ((w - 1) / 2) = rootI w := fin0 (p := fun w => ((w - 1) / 2) = rootI w) (by kernel_rfl) hw
    exact eg_ret_tmp rfl rfl ⟨congrArg (fun k => Ending.returned (nv k)) f3, rfl⟩
  · refine calls_cg (n := 8) Tryd.func59 rfl Tryd.ntmps59 (by simp) ?_
    show CG _ _ _ [(0, nv w)] _ _
    refine cg_seq ?_
    refine cg_region ?_
    refine lsw (want_none (by rfl)) (y_assign rfl rfl) rfl (by decide) ?_
    refine lg_nil ?_
    refine nx (E' := [(0, _), (2, _)]) (fk rfl (fk rfl fn)) ?_
    refine cg_seq ?_
    refine cg_seq ?_
    refine cg_region ?_
    refine lsw (want_none (by rfl)) (y_move rfl rfl) rfl (by decide) ?_
    refine lsw (want_none (by rfl)) (yb (decide_eq_false hw) (y_call (wholeL w _) (by kernel_rfl) rfl rfl)) rfl (by decide) ?_
    refine lsw (want_none (by rfl)) (y_bnot rfl rfl) rfl (by decide) ?_
    refine lg_nil ?_
    refine nx (E' := [(0, _), (2, _), (5, _)]) (fk rfl (fk rfl (fk rfl fn))) ?_
    refine cg_ct rfl ?_
    refine cg_seq ?_
    refine cg_region ?_
    refine lsw (want_none (by rfl)) (y_assign rfl rfl) rfl (by decide) ?_
    refine lg_nil ?_
    refine nx (E' := [(0, _), (2, _)]) (fk rfl (fk rfl fn)) ?_
    refine cg_ret ?_
    refine eg_seq_ret ?_
    exact eg_ret_tmp rfl rfl ⟨congrArg (fun k => Ending.returned (nv k)) (root_no hw).symm, rfl⟩
/-- Behind t rounds: n is the width at hand, and w is none of those before. -/
def WSL (w : Int) (t : Nat) (n : Int) : Prop := ((t = 0 ∧ n = 1) ∨ (t = 1 ∧ n = 3 ∧ w ≠ 1) ∨ (t = 2 ∧ n = 7 ∧ w ≠ 1 ∧ w ≠ 3) ∨ (t = 3 ∧ n = 15 ∧ w ≠ 1 ∧ w ≠ 3 ∧ w ≠ 7) ∨ (t = 4 ∧ n = 31 ∧ w ≠ 1 ∧ w ≠ 3 ∧ w ≠ 7 ∧ w ≠ 15) ∨ (t = 5 ∧ n = 63 ∧ w ≠ 1 ∧ w ≠ 3 ∧ w ≠ 7 ∧ w ≠ 15 ∧ w ≠ 31) ∨ (t = 6 ∧ n = 127 ∧ w ≠ 1 ∧ w ≠ 3 ∧ w ≠ 7 ∧ w ≠ 15 ∧ w ≠ 31 ∧ w ≠ 63) ∨ (t = 7 ∧ n = 255 ∧ w ≠ 1 ∧ w ≠ 3 ∧ w ≠ 7 ∧ w ≠ 15 ∧ w ≠ 31 ∧ w ≠ 63 ∧ w ≠ 127))
theorem WSL.next {w n : Int} {t : Nat} (h : WSL w t n) (h1 : n ≤ 127) (h2 : ¬ n = w) : t < 7 ∧ WSL w (t + 1) (2 * n + 1) := by
  unfold WSL at *
  rcases h with h | h | h | h | h | h | h | h
  · exact ⟨by omega, .inr (.inl (by omega))⟩
  · exact ⟨by omega, .inr (.inr (.inl (by omega)))⟩
  · exact ⟨by omega, .inr (.inr (.inr (.inl (by omega))))⟩
  · exact ⟨by omega, .inr (.inr (.inr (.inr (.inl (by omega)))))⟩
  · exact ⟨by omega, .inr (.inr (.inr (.inr (.inr (.inl (by omega))))))⟩
  · exact ⟨by omega, .inr (.inr (.inr (.inr (.inr (.inr (.inl (by omega)))))))⟩
  · exact ⟨by omega, .inr (.inr (.inr (.inr (.inr (.inr (.inr ((by omega))))))))⟩
  · exact absurd h1 (by omega)
theorem WSL.yes {w n : Int} {t : Nat} (h : WSL w t n) (h1 : n ≤ 127) (h2 : n = w) : isW w := by
  unfold WSL at h
  unfold isW
  rcases h with h | h | h | h | h | h | h | h <;> omega
theorem WSL.none {w n : Int} {t : Nat} (h : WSL w t n) (h1 : ¬ n ≤ 127) : ¬ isW w := by
  unfold WSL at h
  unfold isW
  rcases h with h | h | h | h | h | h | h | h <;> omega
theorem rwholeL (w : Int) (W : World) : Calls Tryd.prog 44 #[nv w] W fun e w' => e = .returned (.bool (decide (isW w))) ∧ w' = W := by
  refine calls_cg (n := 12) Tryd.func44 rfl Tryd.ntmps44 (by simp) ?_
  show CG _ _ _ [(0, nv w)] _ _
  refine cg_seq ?_
  refine cg_region ?_
  refine lsw (want_none (by rfl)) (y_assign rfl rfl) rfl (by decide) ?_
  refine lg_nil ?_
  refine nx (E' := [(0, _), (2, _)]) (fk rfl (fk rfl fn)) ?_
  refine cg_seq ?_
  refine cg_seq ?_
  refine cg_region ?_
  refine lsw (want_none (by rfl)) (y_assign rfl rfl) rfl (by decide) ?_
  refine lg_nil ?_
  refine nx (E' := [(0, _), (2, _), (3, _)]) (fk rfl (fk rfl (fk rfl fn))) ?_
  refine cg_block ?_
  refine cg_loopE (fun t a v => ∃ (n : Int), Holds 12 [(0, nv w), (3, nv n)] a ∧ v = W ∧ WSL w t n) 7 (fun a ha => ⟨1, ha.keep (fk rfl (fk rfl fn)), rfl, (.inl ⟨rfl, rfl⟩)⟩) ?_
  rintro t a v ht ⟨n, ha, hv, hd⟩
  refine cg_at ha ?_
  clear ha a
  have hb : 1 ≤ n ∧ n ≤ 255 := by unfold WSL at hd; rcases hd with h | h | h | h | h | h | h | h <;> omega
  refine cg_seq ?_
  refine cg_seq ?_
  refine cg_region ?_
  refine lsw (want_none (by rfl)) (y_move rfl rfl) rfl (by decide) ?_
  by_cases c1 : n ≤ 127
  · refine lsw (want_none (by rfl)) (yb (decide_eq_true c1) (yi_leq rfl rfl rfl)) rfl (by decide) ?_
    refine lg_nil ?_
    refine nx (E' := [(0, _), (3, _), (4, _), (5, _)]) (fk rfl (fk rfl (fk rfl (fk rfl fn)))) ?_
    refine cg_ct rfl ?_
    refine cg_skip ?_
    refine nx (E' := [(0, _), (3, _), (4, _), (5, _)]) (fk rfl (fk rfl (fk rfl (fk rfl fn)))) ?_
    refine cg_seq ?_
    refine cg_block ?_
    refine cg_seq ?_
    refine cg_region ?_
    refine lsw (want_none (by rfl)) (y_move rfl rfl) rfl (by decide) ?_
    refine lsw (want_none (by rfl)) (y_move rfl rfl) rfl (by decide) ?_
    by_cases c2 : n = w
    · refine lsw (want_none (by rfl)) (yb (decide_eq_true c2) (yi_eql rfl rfl rfl)) rfl (by decide) ?_
      refine lg_nil ?_
      refine nx (E' := [(0, _), (3, _), (4, _), (5, _), (9, _), (10, _), (11, _)]) (fk rfl (fk rfl (fk rfl (fk rfl (fk rfl (fk rfl (fk rfl fn))))))) ?_
      refine cg_ct rfl ?_
      refine cg_seq ?_
      refine cg_region ?_
      refine lsw (want_none (by rfl)) (y_assign rfl rfl) rfl (by decide) ?_
      refine lg_nil ?_
      refine nx (E' := [(0, _), (3, _), (4, _), (5, _), (9, _), (10, _), (11, _), (2, _)]) (fk rfl (fk rfl (fk rfl (fk rfl (fk rfl (fk rfl (fk rfl (fk rfl fn)))))))) ?_
      refine cg_ret ?_
      refine eg_block_ret ?_
      refine eg_seq_ret ?_
      refine eg_seq_ret ?_
      refine eg_block_ret ?_
      refine eg_seq_ret ?_
      exact eg_ret_tmp rfl rfl ⟨congrArg (fun b => Ending.returned (Value.bool b)) (decide_eq_true (hd.yes c1 c2)).symm, hv⟩
    · refine lsw (want_none (by rfl)) (yb (decide_eq_false c2) (yi_eql rfl rfl rfl)) rfl (by decide) ?_
      refine lg_nil ?_
      refine nx (E' := [(0, _), (3, _), (4, _), (5, _), (9, _), (10, _), (11, _)]) (fk rfl (fk rfl (fk rfl (fk rfl (fk rfl (fk rfl (fk rfl fn))))))) ?_
      refine cg_cf rfl ?_
      refine cg_skip ?_
      refine eg_block_norm ?_
      refine nx (E' := [(0, _), (3, _), (4, _), (5, _), (9, _), (10, _), (11, _)]) (fk rfl (fk rfl (fk rfl (fk rfl (fk rfl (fk rfl (fk rfl fn))))))) ?_
      refine cg_region ?_
      refine lsw (want_none (by rfl)) (y_move rfl rfl) rfl (by decide) ?_
      refine lsw (want_none (by rfl)) (yi_mul rfl rfl rfl (by omega) (by omega)) rfl (by decide) ?_
      refine lsw (want_none (by rfl)) (yi_add rfl rfl rfl (by omega) (by omega)) rfl (by decide) ?_
      refine lsw (want_none (by rfl)) (y_assign rfl rfl) rfl (by decide) ?_
      refine lg_nil ?_
      have hq := hd.next c1 c2
      exact fun a ha => (show t < 7 ∧ _ from ⟨hq.1, (2 * n + 1), ha.keep (fk rfl (fk rfl fn)), hv, hq.2⟩)
  · refine lsw (want_none (by rfl)) (yb (decide_eq_false c1) (yi_leq rfl rfl rfl)) rfl (by decide) ?_
    refine lg_nil ?_
    refine nx (E' := [(0, _), (3, _), (4, _), (5, _)]) (fk rfl (fk rfl (fk rfl (fk rfl fn)))) ?_
    refine cg_cf rfl ?_
    refine cg_exit ?_
    refine eg_seq_exit ?_
    refine eg_seq_exit ?_
    refine eg_block_exit ?_
    refine nx (E' := []) fn ?_
    refine cg_seq ?_
    refine cg_region ?_
    refine lsw (want_none (by rfl)) (y_assign rfl rfl) rfl (by decide) ?_
    refine lg_nil ?_
    refine nx (E' := [(2, _)]) (fk rfl fn) ?_
    refine cg_ret ?_
    exact eg_ret_tmp rfl rfl ⟨congrArg (fun b => Ending.returned (Value.bool b)) (decide_eq_false (hd.none c1)).symm, hv⟩
end Go.Proofs.YtpoonjgkgaodmaaDoor
