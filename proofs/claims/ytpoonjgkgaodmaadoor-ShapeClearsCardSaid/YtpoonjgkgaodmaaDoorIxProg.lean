/-
  Where nodes stand in a row: what the functions of the program answer.
-/
import Derived.Test.YtpoonjgkgaodmaaDoorIxBase
namespace Go.Proofs.YtpoonjgkgaodmaaDoor
open Go.ChangeShapes Go.WideShapes Go.ChangeAt Go.RowKit
set_option linter.unusedVariables false
set_option maxRecDepth 20000
theorem tz64_any (z : Int) (j : Nat) (h0 : z ≠ 0) (hj : tzi z = j) (hl : j < 64) (W : World) (rg : Tb W) : Calls Tryd.prog 81 #[.int .u64 z] W fun e w' => e = .returned (.int .i64 (IntKind.i64.wrap (vb (tab j)))) ∧ w' = W := by
  obtain ⟨tg, rg⟩ := rg
  refine calls_cg (n := 14) Tryd.func81 rfl Tryd.ntmps81 (by simp) ?_
  show CG _ _ _ [(0, .int .u64 z)] _ _
  refine cg_seq ?_
  refine cg_region ?_
  refine lsw (want_none (by rfl)) (y_assign rfl rfl) rfl (by decide) ?_
  refine lg_nil ?_
  refine nx (E' := [(0, _), (2, _)]) (fk rfl (fk rfl fn)) ?_
  refine cg_seq ?_
  refine cg_seq ?_
  refine cg_region ?_
  refine lsw (want_none (by rfl)) (y_move rfl rfl) rfl (by decide) ?_
  refine lsw (want_none (by rfl)) (yb (decide_eq_false h0) (yu_eql rfl rfl rfl)) rfl (by decide) ?_
  refine lg_nil ?_
  refine nx (E' := [(0, _), (2, _), (4, _)]) (fk rfl (fk rfl (fk rfl fn))) ?_
  refine cg_cf rfl ?_
  refine cg_skip ?_
  refine nx (E' := [(0, _), (2, _)]) (fk rfl (fk rfl fn)) ?_
  refine cg_seq ?_
  refine cg_region ?_
  refine lsw (want_none (by rfl)) (y_move rfl rfl) rfl (by decide) ?_
  refine lsw (want_none (by rfl)) (y_move rfl rfl) rfl (by decide) ?_
  refine lsw (want_none (by rfl)) (yu_neg rfl rfl) rfl (by decide) ?_
  refine lsw (want_none (by rfl)) (yu_and rfl rfl rfl) rfl (by decide) ?_
  refine lsw (want_none (by rfl)) (yu_mul rfl rfl rfl) rfl (by decide) ?_
  refine lsw (want_none (by rfl)) (yu_shr rfl rfl rfl) rfl (by decide) ?_
  refine lsw (want_none (by rfl)) (y_ixk (len := 64) (el := 5) hj (by kernel_rfl) (by kernel_rfl) hl rfl rfl rfl) rfl (by decide) ?_
  refine lsw (want_none (by rfl)) (y_cellv rg (cB_get hl) (by kernel_rfl) rfl rfl) rfl (by decide) ?_
  refine lsw (want_none (by rfl)) (y_conv_u (ds := .int .u8) (k := .i64) (by kernel_rfl) (by kernel_rfl) rfl rfl) rfl (by decide) ?_
  refine lsw (want_none (by rfl)) (y_assign rfl rfl) rfl (by decide) ?_
  refine lg_nil ?_
  refine nx (E' := [(2, _)]) (fk rfl fn) ?_
  refine cg_ret ?_
  exact eg_ret_tmp rfl rfl ⟨rfl, rfl⟩
theorem tz_any (z : Int) (j : Nat) (h0 : z ≠ 0) (hj : tzi z = j) (hl : j < 64) (W : World) (rg : Tb W) : Calls Tryd.prog 79 #[.int .u64 z] W fun e w' => e = .returned (.int .i64 (IntKind.i64.wrap (vb (tab j)))) ∧ w' = W := by
  refine calls_cg (n := 8) Tryd.func79 rfl Tryd.ntmps79 (by simp) ?_
  show CG _ _ _ [(0, .int .u64 z)] _ _
  refine cg_seq ?_
  refine cg_region ?_
  refine lsw (want_none (by rfl)) (y_assign rfl rfl) rfl (by decide) ?_
  refine lg_nil ?_
  refine nx (E' := [(0, _), (2, _)]) (fk rfl (fk rfl fn)) ?_
  refine cg_seq ?_
  refine cg_cf rfl ?_
  refine cg_skip ?_
  refine nx (E' := [(0, _), (2, _)]) (fk rfl (fk rfl fn)) ?_
  refine cg_seq ?_
  refine cg_region ?_
  refine lsw (want_none (by rfl)) (y_move rfl rfl) rfl (by decide) ?_
  refine lsw (want_none (by rfl)) (y_call (tz64_any z j h0 hj hl _ rg) (by kernel_rfl) rfl rfl) rfl (by decide) ?_
  refine lsw (want_none (by rfl)) (y_assign rfl rfl) rfl (by decide) ?_
  refine lg_nil ?_
  refine nx (E' := [(2, _)]) (fk rfl fn) ?_
  refine cg_ret ?_
  exact eg_ret_tmp rfl rfl ⟨rfl, rfl⟩
theorem level_any (x : Int) (W : World) (rg : Tb W) : Calls Tryd.prog 78 #[nv x] W fun e w' => e = .returned (nv (lvl x)) ∧ w' = W := by
  by_cases h0 : x < 0
  · refine calls_cg (n := 13) Tryd.func78 rfl Tryd.ntmps78 (by simp) ?_
    show CG _ _ _ [(0, nv x)] _ _
    refine cg_seq ?_
    refine cg_region ?_
    refine lsw (want_none (by rfl)) (y_assign rfl rfl) rfl (by decide) ?_
    refine lg_nil ?_
    refine nx (E' := [(0, _), (2, _)]) (fk rfl (fk rfl fn)) ?_
    refine cg_seq ?_
    refine cg_seq ?_
    refine cg_region ?_
    refine lsw (want_none (by rfl)) (y_move rfl rfl) rfl (by decide) ?_
    refine lsw (want_none (by rfl)) (yb (decide_eq_true h0) (yi_lss rfl rfl rfl)) rfl (by decide) ?_
    refine lsw (want_none (by rfl)) (y_move rfl rfl) rfl (by decide) ?_
    refine lsk (want_f (dj := 5) (by rfl) (by kernel_rfl) rfl) rfl (by decide) ?_
    refine lsk (want_f (dj := 5) (by rfl) (by kernel_rfl) rfl) rfl (by decide) ?_
    refine lsw (want_none (by rfl)) (y_pick true rfl rfl rfl) rfl (by decide) ?_
    refine lg_nil ?_
    refine nx (E' := [(0, _), (2, _), (8, _)]) (fk rfl (fk rfl (fk rfl fn))) ?_
    refine cg_ct rfl ?_
    refine cg_seq ?_
    refine cg_region ?_
    refine lsw (want_none (by rfl)) (y_assign rfl rfl) rfl (by decide) ?_
    refine lg_nil ?_
    refine nx (E' := [(0, _), (2, _)]) (fk rfl (fk rfl fn)) ?_
    refine cg_ret ?_
    refine eg_seq_ret ?_
    exact eg_ret_tmp rfl rfl ⟨congrArg (fun k => Ending.returned (nv k)) (lvl_no (by unfold isL; omega)).symm, rfl⟩
  by_cases h1 : 127 ≤ x
  · refine calls_cg (n := 13) Tryd.func78 rfl Tryd.ntmps78 (by simp) ?_
    show CG _ _ _ [(0, nv x)] _ _
    refine cg_seq ?_
    refine cg_region ?_
    refine lsw (want_none (by rfl)) (y_assign rfl rfl) rfl (by decide) ?_
    refine lg_nil ?_
    refine nx (E' := [(0, _), (2, _)]) (fk rfl (fk rfl fn)) ?_
    refine cg_seq ?_
    refine cg_seq ?_
    refine cg_region ?_
    refine lsw (want_none (by rfl)) (y_move rfl rfl) rfl (by decide) ?_
    refine lsw (want_none (by rfl)) (yb (decide_eq_false h0) (yi_lss rfl rfl rfl)) rfl (by decide) ?_
    refine lsw (want_none (by rfl)) (y_move rfl rfl) rfl (by decide) ?_
    refine lsw (want_t (dj := 5) (by rfl) (by kernel_rfl) rfl) (y_move rfl rfl) rfl (by decide) ?_
    refine lsw (want_t (dj := 5) (by rfl) (by kernel_rfl) rfl) (yb (decide_eq_true h1) (yi_geq rfl rfl rfl)) rfl (by decide) ?_
    refine lsw (want_none (by rfl)) (y_pick false rfl rfl rfl) rfl (by decide) ?_
    refine lg_nil ?_
    refine nx (E' := [(0, _), (2, _), (8, _)]) (fk rfl (fk rfl (fk rfl fn))) ?_
    refine cg_ct rfl ?_
    refine cg_seq ?_
    refine cg_region ?_
    refine lsw (want_none (by rfl)) (y_assign rfl rfl) rfl (by decide) ?_
    refine lg_nil ?_
    refine nx (E' := [(0, _), (2, _)]) (fk rfl (fk rfl fn)) ?_
    refine cg_ret ?_
    refine eg_seq_ret ?_
    exact eg_ret_tmp rfl rfl ⟨congrArg (fun k => Ending.returned (nv k)) (lvl_no (by unfold isL; omega)).symm, rfl⟩
  have hc := comp_facts (x := x) ⟨by omega, by omega⟩
  refine calls_cg (n := 13) Tryd.func78 rfl Tryd.ntmps78 (by simp) ?_
  show CG _ _ _ [(0, nv x)] _ _
  refine cg_seq ?_
  refine cg_region ?_
  refine lsw (want_none (by rfl)) (y_assign rfl rfl) rfl (by decide) ?_
  refine lg_nil ?_
  refine nx (E' := [(0, _), (2, _)]) (fk rfl (fk rfl fn)) ?_
  refine cg_seq ?_
  refine cg_seq ?_
  refine cg_region ?_
  refine lsw (want_none (by rfl)) (y_move rfl rfl) rfl (by decide) ?_
  refine lsw (want_none (by rfl)) (yb (decide_eq_false h0) (yi_lss rfl rfl rfl)) rfl (by decide) ?_
  refine lsw (want_none (by rfl)) (y_move rfl rfl) rfl (by decide) ?_
  refine lsw (want_t (dj := 5) (by rfl) (by kernel_rfl) rfl) (y_move rfl rfl) rfl (by decide) ?_
  refine lsw (want_t (dj := 5) (by rfl) (by kernel_rfl) rfl) (yb (decide_eq_false h1) (yi_geq rfl rfl rfl)) rfl (by decide) ?_
  refine lsw (want_none (by rfl)) (y_pick false rfl rfl rfl) rfl (by decide) ?_
  refine lg_nil ?_
  refine nx (E' := [(0, _), (2, _), (8, _)]) (fk rfl (fk rfl (fk rfl fn))) ?_
  refine cg_cf rfl ?_
  refine cg_skip ?_
  refine nx (E' := [(0, _), (2, _)]) (fk rfl (fk rfl fn)) ?_
  refine cg_seq ?_
  refine cg_region ?_
  refine lsw (want_none (by rfl)) (y_move rfl rfl) rfl (by decide) ?_
  refine lsw (want_none (by rfl)) (y_conv_u (ds := .int .i64) (k := .u64) (by kernel_rfl) (by kernel_rfl) rfl rfl) rfl (by decide) ?_
  refine lsw (want_none (by rfl)) (yu_not rfl rfl) rfl (by decide) ?_
  refine lsw (want_none (by rfl)) (y_call (tz_any (comp x) _ hc.1 hc.2.1 hc.2.2.1 _ rg) (by kernel_rfl) rfl rfl) rfl (by decide) ?_
  refine lsw (want_none (by rfl)) (y_assign rfl rfl) rfl (by decide) ?_
  refine lg_nil ?_
  refine nx (E' := [(2, _)]) (fk rfl fn) ?_
  refine cg_ret ?_
  exact eg_ret_tmp rfl rfl ⟨congrArg (fun k => Ending.returned (nv k)) hc.2.2.2, rfl⟩
theorem whole_and {w : Int} (h0 : 0 < w) (h1 : w ≤ 127) : bits .and .i64 w (w + 1) = 0 ↔ isW w := by
  have h := fin1 (p := fun x => bits .and .i64 (x + 1) (x + 1 + 1) = 0 ↔ isW (x + 1)) (by kernel_rfl) (x := w - 1) ⟨by omega, by omega⟩
  rwa [Int.sub_add_cancel] at h
theorem whole_any (w : Int) (W : World) (rg : Tb W) : Calls Tryd.prog 43 #[nv w] W fun e w' => e = .returned (.bool (decide (isW w))) ∧ w' = W := by
  by_cases h0 : 0 < w
  · by_cases h1 : w ≤ 127
    · have hq := whole_and h0 h1
      by_cases hw : isW w
      · refine calls_cg (n := 16) Tryd.func43 rfl Tryd.ntmps43 (by simp) ?_
        show CG _ _ _ [(0, nv w)] _ _
        refine cg_seq ?_
        refine cg_region ?_
        refine lsw (want_none (by rfl)) (y_assign rfl rfl) rfl (by decide) ?_
        refine lg_nil ?_
        refine nx (E' := [(0, _), (2, _)]) (fk rfl (fk rfl fn)) ?_
        refine cg_seq ?_
        refine cg_region ?_
        refine lsw (want_none (by rfl)) (y_move rfl rfl) rfl (by decide) ?_
        refine lsw (want_none (by rfl)) (yb (decide_eq_true h0) (yi_gtr rfl rfl rfl)) rfl (by decide) ?_
        refine lsw (want_none (by rfl)) (y_move rfl rfl) rfl (by decide) ?_
        refine lsw (want_t (dj := 5) (by rfl) (by kernel_rfl) rfl) (y_move rfl rfl) rfl (by decide) ?_
        refine lsw (want_t (dj := 5) (by rfl) (by kernel_rfl) rfl) (yb (decide_eq_true h1) (yi_leq rfl rfl rfl)) rfl (by decide) ?_
        refine lsw (want_none (by rfl)) (y_pick true rfl rfl rfl) rfl (by decide) ?_
        refine lsw (want_none (by rfl)) (y_move rfl rfl) rfl (by decide) ?_
        refine lsw (want_t (dj := 9) (by rfl) (by kernel_rfl) rfl) (y_move rfl rfl) rfl (by decide) ?_
        refine lsw (want_t (dj := 9) (by rfl) (by kernel_rfl) rfl) (y_move rfl rfl) rfl (by decide) ?_
        refine lsw (want_t (dj := 9) (by rfl) (by kernel_rfl) rfl) (yi_add rfl rfl rfl (by omega) (by omega)) rfl (by decide) ?_
        refine lsw (want_t (dj := 9) (by rfl) (by kernel_rfl) rfl) (yi_and rfl rfl rfl) rfl (by decide) ?_
        refine lsw (want_t (dj := 9) (by rfl) (by kernel_rfl) rfl) (yb (decide_eq_true (hq.2 hw)) (yi_eql rfl rfl rfl)) rfl (by decide) ?_
        refine lsw (want_none (by rfl)) (y_pick true rfl rfl rfl) rfl (by decide) ?_
        refine lsw (want_none (by rfl)) (y_assign rfl rfl) rfl (by decide) ?_
        refine lg_nil ?_
        refine nx (E' := [(2, _)]) (fk rfl fn) ?_
        refine cg_ret ?_
        exact eg_ret_tmp rfl rfl ⟨congrArg (fun b => Ending.returned (Value.bool b)) (by simp [hw]), rfl⟩
      · refine calls_cg (n := 16) Tryd.func43 rfl Tryd.ntmps43 (by simp) ?_
        show CG _ _ _ [(0, nv w)] _ _
        refine cg_seq ?_
        refine cg_region ?_
        refine lsw (want_none (by rfl)) (y_assign rfl rfl) rfl (by decide) ?_
        refine lg_nil ?_
        refine nx (E' := [(0, _), (2, _)]) (fk rfl (fk rfl fn)) ?_
        refine cg_seq ?_
        refine cg_region ?_
        refine lsw (want_none (by rfl)) (y_move rfl rfl) rfl (by decide) ?_
        refine lsw (want_none (by rfl)) (yb (decide_eq_true h0) (yi_gtr rfl rfl rfl)) rfl (by decide) ?_
        refine lsw (want_none (by rfl)) (y_move rfl rfl) rfl (by decide) ?_
        refine lsw (want_t (dj := 5) (by rfl) (by kernel_rfl) rfl) (y_move rfl rfl) rfl (by decide) ?_
        refine lsw (want_t (dj := 5) (by rfl) (by kernel_rfl) rfl) (yb (decide_eq_true h1) (yi_leq rfl rfl rfl)) rfl (by decide) ?_
        refine lsw (want_none (by rfl)) (y_pick true rfl rfl rfl) rfl (by decide) ?_
        refine lsw (want_none (by rfl)) (y_move rfl rfl) rfl (by decide) ?_
        refine lsw (want_t (dj := 9) (by rfl) (by kernel_rfl) rfl) (y_move rfl rfl) rfl (by decide) ?_
        refine lsw (want_t (dj := 9) (by rfl) (by kernel_rfl) rfl) (y_move rfl rfl) rfl (by decide) ?_
        refine lsw (want_t (dj := 9) (by rfl) (by kernel_rfl) rfl) (yi_add rfl rfl rfl (by omega) (by omega)) rfl (by decide) ?_
        refine lsw (want_t (dj := 9) (by rfl) (by kernel_rfl) rfl) (yi_and rfl rfl rfl) rfl (by decide) ?_
        refine lsw (want_t (dj := 9) (by rfl) (by kernel_rfl) rfl) (yb (decide_eq_false fun q => hw (hq.1 q)) (yi_eql rfl rfl rfl)) rfl (by decide) ?_
        refine lsw (want_none (by rfl)) (y_pick true rfl rfl rfl) rfl (by decide) ?_
        refine lsw (want_none (by rfl)) (y_assign rfl rfl) rfl (by decide) ?_
        refine lg_nil ?_
        refine nx (E' := [(2, _)]) (fk rfl fn) ?_
        refine cg_ret ?_
        exact eg_ret_tmp rfl rfl ⟨congrArg (fun b => Ending.returned (Value.bool b)) (by simp [hw]), rfl⟩
    · have hw : ¬ isW w := by unfold isW; omega
      refine calls_cg (n := 16) Tryd.func43 rfl Tryd.ntmps43 (by simp) ?_
      show CG _ _ _ [(0, nv w)] _ _
      refine cg_seq ?_
      refine cg_region ?_
      refine lsw (want_none (by rfl)) (y_assign rfl rfl) rfl (by decide) ?_
      refine lg_nil ?_
      refine nx (E' := [(0, _), (2, _)]) (fk rfl (fk rfl fn)) ?_
      refine cg_seq ?_
      refine cg_region ?_
      refine lsw (want_none (by rfl)) (y_move rfl rfl) rfl (by decide) ?_
      refine lsw (want_none (by rfl)) (yb (decide_eq_true h0) (yi_gtr rfl rfl rfl)) rfl (by decide) ?_
      refine lsw (want_none (by rfl)) (y_move rfl rfl) rfl (by decide) ?_
      refine lsw (want_t (dj := 5) (by rfl) (by kernel_rfl) rfl) (y_move rfl rfl) rfl (by decide) ?_
      refine lsw (want_t (dj := 5) (by rfl) (by kernel_rfl) rfl) (yb (decide_eq_false h1) (yi_leq rfl rfl rfl)) rfl (by decide) ?_
      refine lsw (want_none (by rfl)) (y_pick true rfl rfl rfl) rfl (by decide) ?_
      refine lsw (want_none (by rfl)) (y_move rfl rfl) rfl (by decide) ?_
      refine lsk (want_f (dj := 9) (by rfl) (by kernel_rfl) rfl) rfl (by decide) ?_
      refine lsk (want_f (dj := 9) (by rfl) (by kernel_rfl) rfl) rfl (by decide) ?_
      refine lsk (want_f (dj := 9) (by rfl) (by kernel_rfl) rfl) rfl (by decide) ?_
      refine lsk (want_f (dj := 9) (by rfl) (by kernel_rfl) rfl) rfl (by decide) ?_
      refine lsk (want_f (dj := 9) (by rfl) (by kernel_rfl) rfl) rfl (by decide) ?_
      refine lsw (want_none (by rfl)) (y_pick false rfl rfl rfl) rfl (by decide) ?_
      refine lsw (want_none (by rfl)) (y_assign rfl rfl) rfl (by decide) ?_
      refine lg_nil ?_
      refine nx (E' := [(2, _)]) (fk rfl fn) ?_
      refine cg_ret ?_
      exact eg_ret_tmp rfl rfl ⟨congrArg (fun b => Ending.returned (Value.bool b)) (by simp [hw]), rfl⟩
  · have hw : ¬ isW w := by unfold isW; omega
    refine calls_cg (n := 16) Tryd.func43 rfl Tryd.ntmps43 (by simp) ?_
    show CG _ _ _ [(0, nv w)] _ _
    refine cg_seq ?_
    refine cg_region ?_
    refine lsw (want_none (by rfl)) (y_assign rfl rfl) rfl (by decide) ?_
    refine lg_nil ?_
    refine nx (E' := [(0, _), (2, _)]) (fk rfl (fk rfl fn)) ?_
    refine cg_seq ?_
    refine cg_region ?_
    refine lsw (want_none (by rfl)) (y_move rfl rfl) rfl (by decide) ?_
    refine lsw (want_none (by rfl)) (yb (decide_eq_false h0) (yi_gtr rfl rfl rfl)) rfl (by decide) ?_
    refine lsw (want_none (by rfl)) (y_move rfl rfl) rfl (by decide) ?_
    refine lsk (want_f (dj := 5) (by rfl) (by kernel_rfl) rfl) rfl (by decide) ?_
    refine lsk (want_f (dj := 5) (by rfl) (by kernel_rfl) rfl) rfl (by decide) ?_
    refine lsw (want_none (by rfl)) (y_pick false rfl rfl rfl) rfl (by decide) ?_
    refine lsw (want_none (by rfl)) (y_move rfl rfl) rfl (by decide) ?_
    refine lsk (want_f (dj := 9) (by rfl) (by kernel_rfl) rfl) rfl (by decide) ?_
    refine lsk (want_f (dj := 9) (by rfl) (by kernel_rfl) rfl) rfl (by decide) ?_
    refine lsk (want_f (dj := 9) (by rfl) (by kernel_rfl) rfl) rfl (by decide) ?_
    refine lsk (want_f (dj := 9) (by rfl) (by kernel_rfl) rfl) rfl (by decide) ?_
    refine lsk (want_f (dj := 9) (by rfl) (by kernel_rfl) rfl) rfl (by decide) ?_
    refine lsw (want_none (by rfl)) (y_pick false rfl rfl rfl) rfl (by decide) ?_
    refine lsw (want_none (by rfl)) (y_assign rfl rfl) rfl (by decide) ?_
    refine lg_nil ?_
    refine nx (E' := [(2, _)]) (fk rfl fn) ?_
    refine cg_ret ?_
    exact eg_ret_tmp rfl rfl ⟨congrArg (fun b => Ending.returned (Value.bool b)) (by simp [hw]), rfl⟩
theorem is_any (x w : Int) (W : World) (rg : Tb W) : Calls Tryd.prog 28 #[nv x, nv w] W fun e w' => e = .returned (.bool (decide (isN x w))) ∧ w' = W := by
  refine calls_cg (n := 16) Tryd.func28 rfl Tryd.ntmps28 (by simp) ?_
  show CG _ _ _ [(0, nv x), (1, nv w)] _ _
  refine cg_seq ?_
  refine cg_region ?_
  refine lsw (want_none (by rfl)) (y_assign rfl rfl) rfl (by decide) ?_
  refine lg_nil ?_
  refine nx (E' := [(0, _), (1, _), (4, _)]) (fk rfl (fk rfl (fk rfl fn))) ?_
  refine cg_seq ?_
  refine cg_region ?_
  refine lsw (want_none (by rfl)) (y_move rfl rfl) rfl (by decide) ?_
  by_cases c1 : isW w
  · refine lsw (want_none (by rfl)) (yb (decide_eq_true c1) (y_call (whole_any w _ rg) (by kernel_rfl) rfl rfl)) rfl (by decide) ?_
    refine lsw (want_none (by rfl)) (y_move rfl rfl) rfl (by decide) ?_
    refine lsw (want_t (dj := 7) (by rfl) (by kernel_rfl) rfl) (y_move rfl rfl) rfl (by decide) ?_
    by_cases c2 : 0 ≤ x
    · refine lsw (want_t (dj := 7) (by rfl) (by kernel_rfl) rfl) (yb (decide_eq_true c2) (yi_geq rfl rfl rfl)) rfl (by decide) ?_
      refine lsw (want_none (by rfl)) (y_pick true rfl rfl rfl) rfl (by decide) ?_
      refine lsw (want_none (by rfl)) (y_move rfl rfl) rfl (by decide) ?_
      refine lsw (want_t (dj := 11) (by rfl) (by kernel_rfl) rfl) (y_move rfl rfl) rfl (by decide) ?_
      refine lsw (want_t (dj := 11) (by rfl) (by kernel_rfl) rfl) (y_move rfl rfl) rfl (by decide) ?_
      by_cases c3 : x < w
      · refine lsw (want_t (dj := 11) (by rfl) (by kernel_rfl) rfl) (yb (decide_eq_true c3) (yi_lss rfl rfl rfl)) rfl (by decide) ?_
        refine lsw (want_none (by rfl)) (y_pick true rfl rfl rfl) rfl (by decide) ?_
        refine lsw (want_none (by rfl)) (y_assign rfl rfl) rfl (by decide) ?_
        refine lg_nil ?_
        refine nx (E' := [(4, _)]) (fk rfl fn) ?_
        refine cg_ret ?_
        exact eg_ret_tmp rfl rfl ⟨congrArg (fun b => Ending.returned (Value.bool b)) (by simp [isN, *]), rfl⟩
      · refine lsw (want_t (dj := 11) (by rfl) (by kernel_rfl) rfl) (yb (decide_eq_false c3) (yi_lss rfl rfl rfl)) rfl (by decide) ?_
        refine lsw (want_none (by rfl)) (y_pick true rfl rfl rfl) rfl (by decide) ?_
        refine lsw (want_none (by rfl)) (y_assign rfl rfl) rfl (by decide) ?_
        refine lg_nil ?_
        refine nx (E' := [(4, _)]) (fk rfl fn) ?_
        refine cg_ret ?_
        exact eg_ret_tmp rfl rfl ⟨congrArg (fun b => Ending.returned (Value.bool b)) (by simp [isN, *]), rfl⟩
    · refine lsw (want_t (dj := 7) (by rfl) (by kernel_rfl) rfl) (yb (decide_eq_false c2) (yi_geq rfl rfl rfl)) rfl (by decide) ?_
      refine lsw (want_none (by rfl)) (y_pick true rfl rfl rfl) rfl (by decide) ?_
      refine lsw (want_none (by rfl)) (y_move rfl rfl) rfl (by decide) ?_
      refine lsk (want_f (dj := 11) (by rfl) (by kernel_rfl) rfl) rfl (by decide) ?_
      refine lsk (want_f (dj := 11) (by rfl) (by kernel_rfl) rfl) rfl (by decide) ?_
      refine lsk (want_f (dj := 11) (by rfl) (by kernel_rfl) rfl) rfl (by decide) ?_
      refine lsw (want_none (by rfl)) (y_pick false rfl rfl rfl) rfl (by decide) ?_
      refine lsw (want_none (by rfl)) (y_assign rfl rfl) rfl (by decide) ?_
      refine lg_nil ?_
      refine nx (E' := [(4, _)]) (fk rfl fn) ?_
      refine cg_ret ?_
      exact eg_ret_tmp rfl rfl ⟨congrArg (fun b => Ending.returned (Value.bool b)) (by simp [isN, *]), rfl⟩
  · refine lsw (want_none (by rfl)) (yb (decide_eq_false c1) (y_call (whole_any w _ rg) (by kernel_rfl) rfl rfl)) rfl (by decide) ?_
    refine lsw (want_none (by rfl)) (y_move rfl rfl) rfl (by decide) ?_
    refine lsk (want_f (dj := 7) (by rfl) (by kernel_rfl) rfl) rfl (by decide) ?_
    refine lsk (want_f (dj := 7) (by rfl) (by kernel_rfl) rfl) rfl (by decide) ?_
    refine lsw (want_none (by rfl)) (y_pick false rfl rfl rfl) rfl (by decide) ?_
    refine lsw (want_none (by rfl)) (y_move rfl rfl) rfl (by decide) ?_
    refine lsk (want_f (dj := 11) (by rfl) (by kernel_rfl) rfl) rfl (by decide) ?_
    refine lsk (want_f (dj := 11) (by rfl) (by kernel_rfl) rfl) rfl (by decide) ?_
    refine lsk (want_f (dj := 11) (by rfl) (by kernel_rfl) rfl) rfl (by decide) ?_
    refine lsw (want_none (by rfl)) (y_pick false rfl rfl rfl) rfl (by decide) ?_
    refine lsw (want_none (by rfl)) (y_assign rfl rfl) rfl (by decide) ?_
    refine lg_nil ?_
    refine nx (E' := [(4, _)]) (fk rfl fn) ?_
    refine cg_ret ?_
    exact eg_ret_tmp rfl rfl ⟨congrArg (fun b => Ending.returned (Value.bool b)) (by simp [isN, *]), rfl⟩
theorem troot_any (w : Int) (W : World) (rg : Tb W) (hw : isW w) : Calls Tryd.prog 76 #[nv w] W fun e w' => e = .returned (nv ((w - 1) / 2)) ∧ w' = W := by
  refine calls_cg (n := 6) Tryd.func76 rfl Tryd.ntmps76 (by simp) ?_
  show CG _ _ _ [(0, nv w)] _ _
  refine cg_seq ?_
  refine cg_region ?_
  refine lsw (want_none (by rfl)) (y_assign rfl rfl) rfl (by decide) ?_
  refine lg_nil ?_
  refine nx (E' := [(0, _), (2, _)]) (fk rfl (fk rfl fn)) ?_
  refine cg_seq ?_
  refine cg_region ?_
  refine lsw (want_none (by rfl)) (y_move rfl rfl) rfl (by decide) ?_
  have f1 : -9223372036854775808 ≤ (w - 1) ∧ (w - 1) < 9223372036854775808 := fin0 (p := fun w => -9223372036854775808 ≤ (w - 1) ∧ (w - 1) < 9223372036854775808) (by kernel_rfl) hw
  refine lsw (want_none (by rfl)) (yi_sub rfl rfl rfl f1.1 f1.2) rfl (by decide) ?_
  have f2 : 0 ≤ (w - 1) := fin0 (p := fun w => 0 ≤ (w - 1)) (by kernel_rfl) hw
  have f3 : (w - 1) < 9223372036854775808 := fin0 (p := fun w => (w - 1) < 9223372036854775808) (by kernel_rfl) hw
  refine lsw (want_none (by rfl)) (yi_quo rfl rfl rfl f2 (by decide) f3) rfl (by decide) ?_
  refine lsw (want_none (by rfl)) (y_assign rfl rfl) rfl (by decide) ?_
  refine lg_nil ?_
  refine nx (E' := [(2, _)]) (fk rfl fn) ?_
  refine cg_ret ?_
  exact eg_ret_tmp rfl rfl ⟨rfl, rfl⟩
theorem root_any (w : Int) (W : World) (rg : Tb W) : Calls Tryd.prog 59 #[nv w] W fun e w' => e = .returned (nv (rootI w)) ∧ w' = W := by
  by_cases hw : isW w
  · refine calls_cg (n := 8) Tryd.func59 rfl Tryd.ntmps59 (by simp) ?_
    show CG _ _ _ [(0, nv w)] _ _
    refine cg_seq ?_
    refine cg_region ?_
    refine lsw (want_none (by rfl)) (y_assign rfl rfl) rfl (by decide) ?_
    refine lg_nil ?_
    refine nx (E' := [(0, _), (2, _)]) (fk rfl (fk rfl fn)) ?_
    refine cg_seq ?_
    refine cg_seq ?_
    refine cg_region ?_
    refine lsw (want_none (by rfl)) (y_move rfl rfl) rfl (by decide) ?_
    have f1 : isW w := fin0 (p := fun w => isW w) (by kernel_rfl) hw
    refine lsw (want_none (by rfl)) (yb (decide_eq_true f1) (y_call (whole_any w _ rg) (by kernel_rfl) rfl rfl)) rfl (by decide) ?_
    refine lsw (want_none (by rfl)) (y_bnot rfl rfl) rfl (by decide) ?_
    refine lg_nil ?_
    refine nx (E' := [(0, _), (2, _), (5, _)]) (fk rfl (fk rfl (fk rfl fn))) ?_
    refine cg_cf rfl ?_
    refine cg_skip ?_
    refine nx (E' := [(0, _), (2, _)]) (fk rfl (fk rfl fn)) ?_
    refine cg_seq ?_
    refine cg_region ?_
    refine lsw (want_none (by rfl)) (y_move rfl rfl) rfl (by decide) ?_
    have f2 : isW w := fin0 (p := fun w => isW w) (by kernel_rfl) hw
    refine lsw (want_none (by rfl)) (y_call (troot_any w _ rg f2) (by kernel_rfl) rfl rfl) rfl (by decide) ?_
    refine lsw (want_none (by rfl)) (y_assign rfl rfl) rfl (by decide) ?_
    refine lg_nil ?_
    refine nx (E' := [(2, _)]) (fk rfl fn) ?_
    refine cg_ret ?_
    have f3 : ((w - 1) / 2) = rootI w := fin0 (p := fun w => ((w - 1) / 2) = rootI w) (by kernel_rfl) hw
    exact eg_ret_tmp rfl rfl ⟨congrArg (fun k => Ending.returned (nv k)) f3, rfl⟩
  · refine calls_cg (n := 8) Tryd.func59 rfl Tryd.ntmps59 (by simp) ?_
    show CG _ _ _ [(0, nv w)] _ _
    refine cg_seq ?_
    refine cg_region ?_
    refine lsw (want_none (by rfl)) (y_assign rfl rfl) rfl (by decide) ?_
    refine lg_nil ?_
    refine nx (E' := [(0, _), (2, _)]) (fk rfl (fk rfl fn)) ?_
    refine cg_seq ?_
    refine cg_seq ?_
    refine cg_region ?_
    refine lsw (want_none (by rfl)) (y_move rfl rfl) rfl (by decide) ?_
    refine lsw (want_none (by rfl)) (yb (decide_eq_false hw) (y_call (whole_any w _ rg) (by kernel_rfl) rfl rfl)) rfl (by decide) ?_
    refine lsw (want_none (by rfl)) (y_bnot rfl rfl) rfl (by decide) ?_
    refine lg_nil ?_
    refine nx (E' := [(0, _), (2, _), (5, _)]) (fk rfl (fk rfl (fk rfl fn))) ?_
    refine cg_ct rfl ?_
    refine cg_seq ?_
    refine cg_region ?_
    refine lsw (want_none (by rfl)) (y_assign rfl rfl) rfl (by decide) ?_
    refine lg_nil ?_
    refine nx (E' := [(0, _), (2, _)]) (fk rfl (fk rfl fn)) ?_
    refine cg_ret ?_
    refine eg_seq_ret ?_
    exact eg_ret_tmp rfl rfl ⟨congrArg (fun k => Ending.returned (nv k)) (root_no hw).symm, rfl⟩
theorem tparent_any (w x : Int) (W : World) (rg : Tb W) (hn : isN x w) : Calls Tryd.prog 71 #[nv w, nv x] W fun e w' => e = .returned (nv (parI x w)) ∧ w' = W := by
  refine calls_cg (n := 26) Tryd.func71 rfl Tryd.ntmps71 (by simp) ?_
  show CG _ _ _ [(0, nv w), (1, nv x)] _ _
  refine cg_seq ?_
  refine cg_region ?_
  refine lsw (want_none (by rfl)) (y_assign rfl rfl) rfl (by decide) ?_
  refine lg_nil ?_
  refine nx (E' := [(0, _), (1, _), (4, _)]) (fk rfl (fk rfl (fk rfl fn))) ?_
  refine cg_seq ?_
  refine cg_seq ?_
  refine cg_region ?_
  refine lsw (want_none (by rfl)) (y_move rfl rfl) rfl (by decide) ?_
  refine lsw (want_none (by rfl)) (y_move rfl rfl) rfl (by decide) ?_
  have f1 : isW w := fin2 (p := fun x w => isW w) (by kernel_rfl) hn
  refine lsw (want_none (by rfl)) (y_call (troot_any w _ rg f1) (by kernel_rfl) rfl rfl) rfl (by decide) ?_
  by_cases c2 : x = ((w - 1) / 2)
  · have f3 : x = ((w - 1) / 2) := fin2 (p := fun x w => x = ((w - 1) / 2) → x = ((w - 1) / 2)) (by kernel_rfl) hn c2
    refine lsw (want_none (by rfl)) (yb (decide_eq_true f3) (yi_eql rfl rfl rfl)) rfl (by decide) ?_
    refine lg_nil ?_
    refine nx (E' := [(1, _), (4, _), (9, _)]) (fk rfl (fk rfl (fk rfl fn))) ?_
    refine cg_ct rfl ?_
    refine cg_seq ?_
    refine cg_region ?_
    refine lsw (want_none (by rfl)) (y_assign rfl rfl) rfl (by decide) ?_
    refine lg_nil ?_
    refine nx (E' := [(1, _), (4, _)]) (fk rfl (fk rfl fn)) ?_
    refine cg_ret ?_
    refine eg_seq_ret ?_
    have f4 : (-1) = parI x w := fin2 (p := fun x w => x = ((w - 1) / 2) → (-1) = parI x w) (by kernel_rfl) hn c2
    exact eg_ret_tmp rfl rfl ⟨congrArg (fun k => Ending.returned (nv k)) f4, rfl⟩
  · have f5 : ¬ (x = ((w - 1) / 2)) := fin2 (p := fun x w => ¬ (x = ((w - 1) / 2)) → ¬ (x = ((w - 1) / 2))) (by kernel_rfl) hn c2
    refine lsw (want_none (by rfl)) (yb (decide_eq_false f5) (yi_eql rfl rfl rfl)) rfl (by decide) ?_
    refine lg_nil ?_
    refine nx (E' := [(1, _), (4, _), (9, _)]) (fk rfl (fk rfl (fk rfl fn))) ?_
    refine cg_cf rfl ?_
    refine cg_skip ?_
    refine nx (E' := [(1, _), (4, _)]) (fk rfl (fk rfl fn)) ?_
    refine cg_seq ?_
    refine cg_region ?_
    refine lsw (want_none (by rfl)) (y_move rfl rfl) rfl (by decide) ?_
    refine lsw (want_none (by rfl)) (y_call (level_any x _ rg) (by kernel_rfl) rfl rfl) rfl (by decide) ?_
    refine lsw (want_none (by rfl)) (y_assign rfl rfl) rfl (by decide) ?_
    refine lg_nil ?_
    refine nx (E' := [(1, _), (4, _), (5, _)]) (fk rfl (fk rfl (fk rfl fn))) ?_
    refine cg_seq ?_
    refine cg_seq ?_
    refine cg_region ?_
    refine lsw (want_none (by rfl)) (y_move rfl rfl) rfl (by decide) ?_
    refine lsw (want_none (by rfl)) (y_move rfl rfl) rfl (by decide) ?_
    have f6 : -9223372036854775808 ≤ ((lvl x) + 1) ∧ ((lvl x) + 1) < 9223372036854775808 := fin2 (p := fun x w => ¬ (x = ((w - 1) / 2)) → -9223372036854775808 ≤ ((lvl x) + 1) ∧ ((lvl x) + 1) < 9223372036854775808) (by kernel_rfl) hn c2
    refine lsw (want_none (by rfl)) (yi_add rfl rfl rfl f6.1 f6.2) rfl (by decide) ?_
    have f7 : 0 ≤ ((lvl x) + 1) ∧ ((lvl x) + 1) < 63 := fin2 (p := fun x w => ¬ (x = ((w - 1) / 2)) → 0 ≤ ((lvl x) + 1) ∧ ((lvl x) + 1) < 63) (by kernel_rfl) hn c2
    refine lsw (want_none (by rfl)) (yi_shrp f7.1 f7.2 rfl rfl rfl) rfl (by decide) ?_
    have f8 : 0 ≤ (x / pw ((lvl x) + 1)) := fin2 (p := fun x w => ¬ (x = ((w - 1) / 2)) → 0 ≤ (x / pw ((lvl x) + 1))) (by kernel_rfl) hn c2
    refine lsw (want_none (by rfl)) (yi_rem rfl rfl rfl f8 (by decide)) rfl (by decide) ?_
    by_cases c9 : ((x / pw ((lvl x) + 1)) % 2) = 0
    · have f10 : ((x / pw ((lvl x) + 1)) % 2) = 0 := fin2 (p := fun x w => ¬ (x = ((w - 1) / 2)) → ((x / pw ((lvl x) + 1)) % 2) = 0 → ((x / pw ((lvl x) + 1)) % 2) = 0) (by kernel_rfl) hn c2 c9
      refine lsw (want_none (by rfl)) (yb (decide_eq_true f10) (yi_eql rfl rfl rfl)) rfl (by decide) ?_
      refine lg_nil ?_
      refine nx (E' := [(1, _), (4, _), (5, _), (17, _)]) (fk rfl (fk rfl (fk rfl (fk rfl fn)))) ?_
      refine cg_ct rfl ?_
      refine cg_seq ?_
      refine cg_region ?_
      refine lsw (want_none (by rfl)) (y_move rfl rfl) rfl (by decide) ?_
      refine lsw (want_none (by rfl)) (y_move rfl rfl) rfl (by decide) ?_
      have f11 : 0 ≤ (lvl x) ∧ (lvl x) < 63 := fin2 (p := fun x w => ¬ (x = ((w - 1) / 2)) → ((x / pw ((lvl x) + 1)) % 2) = 0 → 0 ≤ (lvl x) ∧ (lvl x) < 63) (by kernel_rfl) hn c2 c9
      refine lsw (want_none (by rfl)) (yi_shl1 f11.1 f11.2 rfl rfl rfl) rfl (by decide) ?_
      have f12 : -9223372036854775808 ≤ (x + (pw (lvl x))) ∧ (x + (pw (lvl x))) < 9223372036854775808 := fin2 (p := fun x w => ¬ (x = ((w - 1) / 2)) → ((x / pw ((lvl x) + 1)) % 2) = 0 → -9223372036854775808 ≤ (x + (pw (lvl x))) ∧ (x + (pw (lvl x))) < 9223372036854775808) (by kernel_rfl) hn c2 c9
      refine lsw (want_none (by rfl)) (yi_add rfl rfl rfl f12.1 f12.2) rfl (by decide) ?_
      refine lsw (want_none (by rfl)) (y_assign rfl rfl) rfl (by decide) ?_
      refine lg_nil ?_
      refine nx (E' := [(1, _), (5, _), (4, _)]) (fk rfl (fk rfl (fk rfl fn))) ?_
      refine cg_ret ?_
      refine eg_seq_ret ?_
      have f13 : (x + (pw (lvl x))) = parI x w := fin2 (p := fun x w => ¬ (x = ((w - 1) / 2)) → ((x / pw ((lvl x) + 1)) % 2) = 0 → (x + (pw (lvl x))) = parI x w) (by kernel_rfl) hn c2 c9
      exact eg_ret_tmp rfl rfl ⟨congrArg (fun k => Ending.returned (nv k)) f13, rfl⟩
    · have f14 : ¬ (((x / pw ((lvl x) + 1)) % 2) = 0) := fin2 (p := fun x w => ¬ (x = ((w - 1) / 2)) → ¬ (((x / pw ((lvl x) + 1)) % 2) = 0) → ¬ (((x / pw ((lvl x) + 1)) % 2) = 0)) (by kernel_rfl) hn c2 c9
      refine lsw (want_none (by rfl)) (yb (decide_eq_false f14) (yi_eql rfl rfl rfl)) rfl (by decide) ?_
      refine lg_nil ?_
      refine nx (E' := [(1, _), (4, _), (5, _), (17, _)]) (fk rfl (fk rfl (fk rfl (fk rfl fn)))) ?_
      refine cg_cf rfl ?_
      refine cg_skip ?_
      refine nx (E' := [(1, _), (4, _), (5, _)]) (fk rfl (fk rfl (fk rfl fn))) ?_
      refine cg_seq ?_
      refine cg_region ?_
      refine lsw (want_none (by rfl)) (y_move rfl rfl) rfl (by decide) ?_
      refine lsw (want_none (by rfl)) (y_move rfl rfl) rfl (by decide) ?_
      have f15 : 0 ≤ (lvl x) ∧ (lvl x) < 63 := fin2 (p := fun x w => ¬ (x = ((w - 1) / 2)) → ¬ (((x / pw ((lvl x) + 1)) % 2) = 0) → 0 ≤ (lvl x) ∧ (lvl x) < 63) (by kernel_rfl) hn c2 c9
      refine lsw (want_none (by rfl)) (yi_shl1 f15.1 f15.2 rfl rfl rfl) rfl (by decide) ?_
      have f16 : -9223372036854775808 ≤ (x - (pw (lvl x))) ∧ (x - (pw (lvl x))) < 9223372036854775808 := fin2 (p := fun x w => ¬ (x = ((w - 1) / 2)) → ¬ (((x / pw ((lvl x) + 1)) % 2) = 0) → -9223372036854775808 ≤ (x - (pw (lvl x))) ∧ (x - (pw (lvl x))) < 9223372036854775808) (by kernel_rfl) hn c2 c9
      refine lsw (want_none (by rfl)) (yi_sub rfl rfl rfl f16.1 f16.2) rfl (by decide) ?_
      refine lsw (want_none (by rfl)) (y_assign rfl rfl) rfl (by decide) ?_
      refine lg_nil ?_
      refine nx (E' := [(4, _)]) (fk rfl fn) ?_
      refine cg_ret ?_
      have f17 : (x - (pw (lvl x))) = parI x w := fin2 (p := fun x w => ¬ (x = ((w - 1) / 2)) → ¬ (((x / pw ((lvl x) + 1)) % 2) = 0) → (x - (pw (lvl x))) = parI x w) (by kernel_rfl) hn c2 c9
      exact eg_ret_tmp rfl rfl ⟨congrArg (fun k => Ending.returned (nv k)) f17, rfl⟩
theorem told_parent (x w : Int) (W : World) (rg : Tb W) : Calls Tryd.prog 70 #[nv x, nv w, .func (.func 71) #[] #[]] W fun e w' => e = .returned (nv (parI x w)) ∧ w' = W := by
  by_cases hn : isN x w
  · refine calls_cg (n := 15) Tryd.func70 rfl Tryd.ntmps70 (by simp) ?_
    show CG _ _ _ [(0, nv x), (1, nv w), (2, .func (.func 71) #[] #[])] _ _
    refine cg_seq ?_
    refine cg_region ?_
    refine lsw (want_none (by rfl)) (y_assign rfl rfl) rfl (by decide) ?_
    refine lg_nil ?_
    refine nx (E' := [(0, _), (1, _), (2, _), (6, _)]) (fk rfl (fk rfl (fk rfl (fk rfl fn)))) ?_
    refine cg_seq ?_
    refine cg_seq ?_
    refine cg_region ?_
    refine lsw (want_none (by rfl)) (y_move rfl rfl) rfl (by decide) ?_
    refine lsw (want_none (by rfl)) (y_move rfl rfl) rfl (by decide) ?_
    have f1 : isN x w := fin2 (p := fun x w => isN x w) (by kernel_rfl) hn
    refine lsw (want_none (by rfl)) (yb (decide_eq_true f1) (y_call (is_any x w _ rg) (by kernel_rfl) rfl rfl)) rfl (by decide) ?_
    refine lsw (want_none (by rfl)) (y_bnot rfl rfl) rfl (by decide) ?_
    refine lg_nil ?_
    refine nx (E' := [(0, _), (1, _), (2, _), (6, _), (10, _)]) (fk rfl (fk rfl (fk rfl (fk rfl (fk rfl fn))))) ?_
    refine cg_cf rfl ?_
    refine cg_skip ?_
    refine nx (E' := [(0, _), (1, _), (2, _), (6, _)]) (fk rfl (fk rfl (fk rfl (fk rfl fn)))) ?_
    refine cg_seq ?_
    refine cg_region ?_
    refine lsw (want_none (by rfl)) (y_move rfl rfl) rfl (by decide) ?_
    refine lsw (want_none (by rfl)) (y_move rfl rfl) rfl (by decide) ?_
    refine lsw (want_none (by rfl)) (y_move rfl rfl) rfl (by decide) ?_
    have f2 : isN x w := fin2 (p := fun x w => isN x w) (by kernel_rfl) hn
    refine lsw (want_none (by rfl)) (y_callf (tparent_any w x _ rg f2) (by kernel_rfl) rfl rfl rfl) rfl (by decide) ?_
    refine lsw (want_none (by rfl)) (y_assign rfl rfl) rfl (by decide) ?_
    refine lg_nil ?_
    refine nx (E' := [(6, _)]) (fk rfl fn) ?_
    refine cg_ret ?_
    exact eg_ret_tmp rfl rfl ⟨rfl, rfl⟩
  · refine calls_cg (n := 15) Tryd.func70 rfl Tryd.ntmps70 (by simp) ?_
    show CG _ _ _ [(0, nv x), (1, nv w), (2, .func (.func 71) #[] #[])] _ _
    refine cg_seq ?_
    refine cg_region ?_
    refine lsw (want_none (by rfl)) (y_assign rfl rfl) rfl (by decide) ?_
    refine lg_nil ?_
    refine nx (E' := [(0, _), (1, _), (2, _), (6, _)]) (fk rfl (fk rfl (fk rfl (fk rfl fn)))) ?_
    refine cg_seq ?_
    refine cg_seq ?_
    refine cg_region ?_
    refine lsw (want_none (by rfl)) (y_move rfl rfl) rfl (by decide) ?_
    refine lsw (want_none (by rfl)) (y_move rfl rfl) rfl (by decide) ?_
    refine lsw (want_none (by rfl)) (yb (decide_eq_false hn) (y_call (is_any x w _ rg) (by kernel_rfl) rfl rfl)) rfl (by decide) ?_
    refine lsw (want_none (by rfl)) (y_bnot rfl rfl) rfl (by decide) ?_
    refine lg_nil ?_
    refine nx (E' := [(0, _), (1, _), (2, _), (6, _), (10, _)]) (fk rfl (fk rfl (fk rfl (fk rfl (fk rfl fn))))) ?_
    refine cg_ct rfl ?_
    refine cg_seq ?_
    refine cg_region ?_
    refine lsw (want_none (by rfl)) (y_assign rfl rfl) rfl (by decide) ?_
    refine lg_nil ?_
    refine nx (E' := [(0, _), (1, _), (2, _), (6, _)]) (fk rfl (fk rfl (fk rfl (fk rfl fn)))) ?_
    refine cg_ret ?_
    refine eg_seq_ret ?_
    exact eg_ret_tmp rfl rfl ⟨congrArg (fun k => Ending.returned (nv k)) (par_no hn).symm, rfl⟩
theorem parent_any (x w : Int) (W : World) (rg : Tb W) : Calls Tryd.prog 57 #[nv x, nv w] W fun e w' => e = .returned (nv (parI x w)) ∧ w' = W := by
  refine calls_cg (n := 8) Tryd.func57 rfl Tryd.ntmps57 (by simp) ?_
  show CG _ _ _ [(0, nv x), (1, nv w)] _ _
  refine cg_seq ?_
  refine cg_region ?_
  refine lsw (want_none (by rfl)) (y_assign rfl rfl) rfl (by decide) ?_
  refine lg_nil ?_
  refine nx (E' := [(0, _), (1, _), (4, _)]) (fk rfl (fk rfl (fk rfl fn))) ?_
  refine cg_seq ?_
  refine cg_region ?_
  refine lsw (want_none (by rfl)) (y_move rfl rfl) rfl (by decide) ?_
  refine lsw (want_none (by rfl)) (y_move rfl rfl) rfl (by decide) ?_
  refine lsw (want_none (by rfl)) (y_call (told_parent x w _ rg) (by kernel_rfl) rfl rfl) rfl (by decide) ?_
  refine lsw (want_none (by rfl)) (y_assign rfl rfl) rfl (by decide) ?_
  refine lg_nil ?_
  refine nx (E' := [(4, _)]) (fk rfl fn) ?_
  refine cg_ret ?_
  exact eg_ret_tmp rfl rfl ⟨rfl, rfl⟩
end Go.Proofs.YtpoonjgkgaodmaaDoor
