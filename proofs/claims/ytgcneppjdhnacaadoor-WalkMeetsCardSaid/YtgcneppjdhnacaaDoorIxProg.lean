/-
  Where nodes stand in a row: what the functions of the program answer.
-/
import Derived.Test.YtgcneppjdhnacaaDoorIxBase
namespace Go.Proofs.YtgcneppjdhnacaaDoor
open Go.ChangeShapes Go.WideShapes Go.ChangeAt Go.RowKit
set_option linter.unusedVariables false
set_option maxRecDepth 20000
theorem tz64_any (z : Int) (j : Nat) (h0 : z ≠ 0) (hj : tzi z = j) (hl : j < 64) (W : World) (rg : Tb W) : Calls Tryd.prog 49 #[.int .u64 z] W fun e w' => e = .returned (.int .i64 (IntKind.i64.wrap (vb (tab j)))) ∧ w' = W := by
  obtain ⟨tg, rg⟩ := rg
  refine calls_cg (n := 14) Tryd.func49 rfl Tryd.ntmps49 (by simp) ?_
  show CG _ _ _ [(0, .int .u64 z)] _ _
  refine cg_seq ?_
  refine cg_region ?_
  refine lsw (want_none (by rfl)) (y_assign rfl rfl) rfl (by decide) ?_
  refine lg_nil ?_
  refine nx (E' := [(0, _), (2, _)]) (fk rfl (fk rfl fn)) ?_
  refine cg_seq ?_
  refine cg_seq ?_
  refine cg_region ?_
  refine lsw (want_none (by rfl)) (y_move rfl rfl) rfl (by decide) ?_
  refine lsw (want_none (by rfl)) (yb (decide_eq_false h0) (yu_eql rfl rfl rfl)) rfl (by decide) ?_
  refine lg_nil ?_
  refine nx (E' := [(0, _), (2, _), (4, _)]) (fk rfl (fk rfl (fk rfl fn))) ?_
  refine cg_cf rfl ?_
  refine cg_skip ?_
  refine nx (E' := [(0, _), (2, _)]) (fk rfl (fk rfl fn)) ?_
  refine cg_seq ?_
  refine cg_region ?_
  refine lsw (want_none (by rfl)) (y_move rfl rfl) rfl (by decide) ?_
  refine lsw (want_none (by rfl)) (y_move rfl rfl) rfl (by decide) ?_
  refine lsw (want_none (by rfl)) (yu_neg rfl rfl) rfl (by decide) ?_
  refine lsw (want_none (by rfl)) (yu_and rfl rfl rfl) rfl (by decide) ?_
  refine lsw (want_none (by rfl)) (yu_mul rfl rfl rfl) rfl (by decide) ?_
  refine lsw (want_none (by rfl)) (yu_shr rfl rfl rfl) rfl (by decide) ?_
  refine lsw (want_none (by rfl)) (y_ixk (len := 64) (el := 5) hj (by kernel_rfl) (by kernel_rfl) hl rfl rfl rfl) rfl (by decide) ?_
  refine lsw (want_none (by rfl)) (y_cellv rg (cB_get hl) (by kernel_rfl) rfl rfl) rfl (by decide) ?_
  refine lsw (want_none (by rfl)) (y_conv_u (ds := .int .u8) (k := .i64) (by kernel_rfl) (by kernel_rfl) rfl rfl) rfl (by decide) ?_
  refine lsw (want_none (by rfl)) (y_assign rfl rfl) rfl (by decide) ?_
  refine lg_nil ?_
  refine nx (E' := [(2, _)]) (fk rfl fn) ?_
  refine cg_ret ?_
  exact eg_ret_tmp rfl rfl ⟨rfl, rfl⟩
theorem tz_any (z : Int) (j : Nat) (h0 : z ≠ 0) (hj : tzi z = j) (hl : j < 64) (W : World) (rg : Tb W) : Calls Tryd.prog 38 #[.int .u64 z] W fun e w' => e = .returned (.int .i64 (IntKind.i64.wrap (vb (tab j)))) ∧ w' = W := by
  refine calls_cg (n := 8) Tryd.func38 rfl Tryd.ntmps38 (by simp) ?_
  show CG _ _ _ [(0, .int .u64 z)] _ _
  refine cg_seq ?_
  refine cg_region ?_
  refine lsw (want_none (by rfl)) (y_assign rfl rfl) rfl (by decide) ?_
  refine lg_nil ?_
  refine nx (E' := [(0, _), (2, _)]) (fk rfl (fk rfl fn)) ?_
  refine cg_seq ?_
  refine cg_cf rfl ?_
  refine cg_skip ?_
  refine nx (E' := [(0, _), (2, _)]) (fk rfl (fk rfl fn)) ?_
  refine cg_seq ?_
  refine cg_region ?_
  refine lsw (want_none (by rfl)) (y_move rfl rfl) rfl (by decide) ?_
  refine lsw (want_none (by rfl)) (y_call (tz64_any z j h0 hj hl _ rg) (by kernel_rfl) rfl rfl) rfl (by decide) ?_
  refine lsw (want_none (by rfl)) (y_assign rfl rfl) rfl (by decide) ?_
  refine lg_nil ?_
  refine nx (E' := [(2, _)]) (fk rfl fn) ?_
  refine cg_ret ?_
  exact eg_ret_tmp rfl rfl ⟨rfl, rfl⟩
theorem level_any (x : Int) (W : World) (rg : Tb W) : Calls Tryd.prog 25 #[nv x] W fun e w' => e = .returned (nv (lvl x)) ∧ w' = W := by
  by_cases h0 : x < 0
  · refine calls_cg (n := 13) Tryd.func25 rfl Tryd.ntmps25 (by simp) ?_
    show CG _ _ _ [(0, nv x)] _ _
    refine cg_seq ?_
    refine cg_region ?_
    refine lsw (want_none (by rfl)) (y_assign rfl rfl) rfl (by decide) ?_
    refine lg_nil ?_
    refine nx (E' := [(0, _), (2, _)]) (fk rfl (fk rfl fn)) ?_
    refine cg_seq ?_
    refine cg_seq ?_
    refine cg_region ?_
    refine lsw (want_none (by rfl)) (y_move rfl rfl) rfl (by decide) ?_
    refine lsw (want_none (by rfl)) (yb (decide_eq_true h0) (yi_lss rfl rfl rfl)) rfl (by decide) ?_
    refine lsw (want_none (by rfl)) (y_move rfl rfl) rfl (by decide) ?_
    refine lsk (want_f (dj := 5) (by rfl) (by kernel_rfl) rfl) rfl (by decide) ?_
    refine lsk (want_f (dj := 5) (by rfl) (by kernel_rfl) rfl) rfl (by decide) ?_
    refine lsw (want_none (by rfl)) (y_pick true rfl rfl rfl) rfl (by decide) ?_
    refine lg_nil ?_
    refine nx (E' := [(0, _), (2, _), (8, _)]) (fk rfl (fk rfl (fk rfl fn))) ?_
    refine cg_ct rfl ?_
    refine cg_seq ?_
    refine cg_region ?_
    refine lsw (want_none (by rfl)) (y_assign rfl rfl) rfl (by decide) ?_
    refine lg_nil ?_
    refine nx (E' := [(0, _), (2, _)]) (fk rfl (fk rfl fn)) ?_
    refine cg_ret ?_
    refine eg_seq_ret ?_
    exact eg_ret_tmp rfl rfl ⟨congrArg (fun k => Ending.returned (nv k)) (lvl_no (by unfold isL; omega)).symm, rfl⟩
  by_cases h1 : 127 ≤ x
  · refine calls_cg (n := 13) Tryd.func25 rfl Tryd.ntmps25 (by simp) ?_
    show CG _ _ _ [(0, nv x)] _ _
    refine cg_seq ?_
    refine cg_region ?_
    refine lsw (want_none (by rfl)) (y_assign rfl rfl) rfl (by decide) ?_
    refine lg_nil ?_
    refine nx (E' := [(0, _), (2, _)]) (fk rfl (fk rfl fn)) ?_
    refine cg_seq ?_
    refine cg_seq ?_
    refine cg_region ?_
    refine lsw (want_none (by rfl)) (y_move rfl rfl) rfl (by decide) ?_
    refine lsw (want_none (by rfl)) (yb (decide_eq_false h0) (yi_lss rfl rfl rfl)) rfl (by decide) ?_
    refine lsw (want_none (by rfl)) (y_move rfl rfl) rfl (by decide) ?_
    refine lsw (want_t (dj := 5) (by rfl) (by kernel_rfl) rfl) (y_move rfl rfl) rfl (by decide) ?_
    refine lsw (want_t (dj := 5) (by rfl) (by kernel_rfl) rfl) (yb (decide_eq_true h1) (yi_geq rfl rfl rfl)) rfl (by decide) ?_
    refine lsw (want_none (by rfl)) (y_pick false rfl rfl rfl) rfl (by decide) ?_
    refine lg_nil ?_
    refine nx (E' := [(0, _), (2, _), (8, _)]) (fk rfl (fk rfl (fk rfl fn))) ?_
    refine cg_ct rfl ?_
    refine cg_seq ?_
    refine cg_region ?_
    refine lsw (want_none (by rfl)) (y_assign rfl rfl) rfl (by decide) ?_
    refine lg_nil ?_
    refine nx (E' := [(0, _), (2, _)]) (fk rfl (fk rfl fn)) ?_
    refine cg_ret ?_
    refine eg_seq_ret ?_
    exact eg_ret_tmp rfl rfl ⟨congrArg (fun k => Ending.returned (nv k)) (lvl_no (by unfold isL; omega)).symm, rfl⟩
  have hc := comp_facts (x := x) ⟨by omega, by omega⟩
  refine calls_cg (n := 13) Tryd.func25 rfl Tryd.ntmps25 (by simp) ?_
  show CG _ _ _ [(0, nv x)] _ _
  refine cg_seq ?_
  refine cg_region ?_
  refine lsw (want_none (by rfl)) (y_assign rfl rfl) rfl (by decide) ?_
  refine lg_nil ?_
  refine nx (E' := [(0, _), (2, _)]) (fk rfl (fk rfl fn)) ?_
  refine cg_seq ?_
  refine cg_seq ?_
  refine cg_region ?_
  refine lsw (want_none (by rfl)) (y_move rfl rfl) rfl (by decide) ?_
  refine lsw (want_none (by rfl)) (yb (decide_eq_false h0) (yi_lss rfl rfl rfl)) rfl (by decide) ?_
  refine lsw (want_none (by rfl)) (y_move rfl rfl) rfl (by decide) ?_
  refine lsw (want_t (dj := 5) (by rfl) (by kernel_rfl) rfl) (y_move rfl rfl) rfl (by decide) ?_
  refine lsw (want_t (dj := 5) (by rfl) (by kernel_rfl) rfl) (yb (decide_eq_false h1) (yi_geq rfl rfl rfl)) rfl (by decide) ?_
  refine lsw (want_none (by rfl)) (y_pick false rfl rfl rfl) rfl (by decide) ?_
  refine lg_nil ?_
  refine nx (E' := [(0, _), (2, _), (8, _)]) (fk rfl (fk rfl (fk rfl fn))) ?_
  refine cg_cf rfl ?_
  refine cg_skip ?_
  refine nx (E' := [(0, _), (2, _)]) (fk rfl (fk rfl fn)) ?_
  refine cg_seq ?_
  refine cg_region ?_
  refine lsw (want_none (by rfl)) (y_move rfl rfl) rfl (by decide) ?_
  refine lsw (want_none (by rfl)) (y_conv_u (ds := .int .i64) (k := .u64) (by kernel_rfl) (by kernel_rfl) rfl rfl) rfl (by decide) ?_
  refine lsw (want_none (by rfl)) (yu_not rfl rfl) rfl (by decide) ?_
  refine lsw (want_none (by rfl)) (y_call (tz_any (comp x) _ hc.1 hc.2.1 hc.2.2.1 _ rg) (by kernel_rfl) rfl rfl) rfl (by decide) ?_
  refine lsw (want_none (by rfl)) (y_assign rfl rfl) rfl (by decide) ?_
  refine lg_nil ?_
  refine nx (E' := [(2, _)]) (fk rfl fn) ?_
  refine cg_ret ?_
  exact eg_ret_tmp rfl rfl ⟨congrArg (fun k => Ending.returned (nv k)) hc.2.2.2, rfl⟩
theorem whole_and {w : Int} (h0 : 0 < w) (h1 : w ≤ 127) : bits .and .i64 w (w + 1) = 0 ↔ isW w := by
  have h := fin1 (p := fun x => bits .and .i64 (x + 1) (x + 1 + 1) = 0 ↔ isW (x + 1)) (by kernel_rfl) (x := w - 1) ⟨by omega, by omega⟩
  rwa [Int.sub_add_cancel] at h
theorem whole_any (w : Int) (W : World) (rg : Tb W) : Calls Tryd.prog 33 #[nv w] W fun e w' => e = .returned (.bool (decide (isW w))) ∧ w' = W := by
  by_cases h0 : 0 < w
  · by_cases h1 : w ≤ 127
    · have hq := whole_and h0 h1
      by_cases hw : isW w
      · refine calls_cg (n := 16) Tryd.func33 rfl Tryd.ntmps33 (by simp) ?_
        show CG _ _ _ [(0, nv w)] _ _
        refine cg_seq ?_
        refine cg_region ?_
        refine lsw (want_none (by rfl)) (y_assign rfl rfl) rfl (by decide) ?_
        refine lg_nil ?_
        refine nx (E' := [(0, _), (2, _)]) (fk rfl (fk rfl fn)) ?_
        refine cg_seq ?_
        refine cg_region ?_
        refine lsw (want_none (by rfl)) (y_move rfl rfl) rfl (by decide) ?_
        refine lsw (want_none (by rfl)) (yb (decide_eq_true h0) (yi_gtr rfl rfl rfl)) rfl (by decide) ?_
        refine lsw (want_none (by rfl)) (y_move rfl rfl) rfl (by decide) ?_
        refine lsw (want_t (dj := 5) (by rfl) (by kernel_rfl) rfl) (y_move rfl rfl) rfl (by decide) ?_
        refine lsw (want_t (dj := 5) (by rfl) (by kernel_rfl) rfl) (yb (decide_eq_true h1) (yi_leq rfl rfl rfl)) rfl (by decide) ?_
        refine lsw (want_none (by rfl)) (y_pick true rfl rfl rfl) rfl (by decide) ?_
        refine lsw (want_none (by rfl)) (y_move rfl rfl) rfl (by decide) ?_
        refine lsw (want_t (dj := 9) (by rfl) (by kernel_rfl) rfl) (y_move rfl rfl) rfl (by decide) ?_
        refine lsw (want_t (dj := 9) (by rfl) (by kernel_rfl) rfl) (y_move rfl rfl) rfl (by decide) ?_
        refine lsw (want_t (dj := 9) (by rfl) (by kernel_rfl) rfl) (yi_add rfl rfl rfl (by omega) (by omega)) rfl (by decide) ?_
        refine lsw (want_t (dj := 9) (by rfl) (by kernel_rfl) rfl) (yi_and rfl rfl rfl) rfl (by decide) ?_
        refine lsw (want_t (dj := 9) (by rfl) (by kernel_rfl) rfl) (yb (decide_eq_true (hq.2 hw)) (yi_eql rfl rfl rfl)) rfl (by decide) ?_
        refine lsw (want_none (by rfl)) (y_pick true rfl rfl rfl) rfl (by decide) ?_
        refine lsw (want_none (by rfl)) (y_assign rfl rfl) rfl (by decide) ?_
        refine lg_nil ?_
        refine nx (E' := [(2, _)]) (fk rfl fn) ?_
        refine cg_ret ?_
        exact eg_ret_tmp rfl rfl ⟨congrArg (fun b => Ending.returned (Value.bool b)) (by simp [hw]), rfl⟩
      · refine calls_cg (n := 16) Tryd.func33 rfl Tryd.ntmps33 (by simp) ?_
        show CG _ _ _ [(0, nv w)] _ _
        refine cg_seq ?_
        refine cg_region ?_
        refine lsw (want_none (by rfl)) (y_assign rfl rfl) rfl (by decide) ?_
        refine lg_nil ?_
        refine nx (E' := [(0, _), (2, _)]) (fk rfl (fk rfl fn)) ?_
        refine cg_seq ?_
        refine cg_region ?_
        refine lsw (want_none (by rfl)) (y_move rfl rfl) rfl (by decide) ?_
        refine lsw (want_none (by rfl)) (yb (decide_eq_true h0) (yi_gtr rfl rfl rfl)) rfl (by decide) ?_
        refine lsw (want_none (by rfl)) (y_move rfl rfl) rfl (by decide) ?_
        refine lsw (want_t (dj := 5) (by rfl) (by kernel_rfl) rfl) (y_move rfl rfl) rfl (by decide) ?_
        refine lsw (want_t (dj := 5) (by rfl) (by kernel_rfl) rfl) (yb (decide_eq_true h1) (yi_leq rfl rfl rfl)) rfl (by decide) ?_
        refine lsw (want_none (by rfl)) (y_pick true rfl rfl rfl) rfl (by decide) ?_
        refine lsw (want_none (by rfl)) (y_move rfl rfl) rfl (by decide) ?_
        refine lsw (want_t (dj := 9) (by rfl) (by kernel_rfl) rfl) (y_move rfl rfl) rfl (by decide) ?_
        refine lsw (want_t (dj := 9) (by rfl) (by kernel_rfl) rfl) (y_move rfl rfl) rfl (by decide) ?_
        refine lsw (want_t (dj := 9) (by rfl) (by kernel_rfl) rfl) (yi_add rfl rfl rfl (by omega) (by omega)) rfl (by decide) ?_
        refine lsw (want_t (dj := 9) (by rfl) (by kernel_rfl) rfl) (yi_and rfl rfl rfl) rfl (by decide) ?_
        refine lsw (want_t (dj := 9) (by rfl) (by kernel_rfl) rfl) (yb (decide_eq_false fun q => hw (hq.1 q)) (yi_eql rfl rfl rfl)) rfl (by decide) ?_
        refine lsw (want_none (by rfl)) (y_pick true rfl rfl rfl) rfl (by decide) ?_
        refine lsw (want_none (by rfl)) (y_assign rfl rfl) rfl (by decide) ?_
        refine lg_nil ?_
        refine nx (E' := [(2, _)]) (fk rfl fn) ?_
        refine cg_ret ?_
        exact eg_ret_tmp rfl rfl ⟨congrArg (fun b => Ending.returned (Value.bool b)) (by simp [hw]), rfl⟩
    · have hw : ¬ isW w := by unfold isW; omega
      refine calls_cg (n := 16) Tryd.func33 rfl Tryd.ntmps33 (by simp) ?_
      show CG _ _ _ [(0, nv w)] _ _
      refine cg_seq ?_
      refine cg_region ?_
      refine lsw (want_none (by rfl)) (y_assign rfl rfl) rfl (by decide) ?_
      refine lg_nil ?_
      refine nx (E' := [(0, _), (2, _)]) (fk rfl (fk rfl fn)) ?_
      refine cg_seq ?_
      refine cg_region ?_
      refine lsw (want_none (by rfl)) (y_move rfl rfl) rfl (by decide) ?_
      refine lsw (want_none (by rfl)) (yb (decide_eq_true h0) (yi_gtr rfl rfl rfl)) rfl (by decide) ?_
      refine lsw (want_none (by rfl)) (y_move rfl rfl) rfl (by decide) ?_
      refine lsw (want_t (dj := 5) (by rfl) (by kernel_rfl) rfl) (y_move rfl rfl) rfl (by decide) ?_
      refine lsw (want_t (dj := 5) (by rfl) (by kernel_rfl) rfl) (yb (decide_eq_false h1) (yi_leq rfl rfl rfl)) rfl (by decide) ?_
      refine lsw (want_none (by rfl)) (y_pick true rfl rfl rfl) rfl (by decide) ?_
      refine lsw (want_none (by rfl)) (y_move rfl rfl) rfl (by decide) ?_
      refine lsk (want_f (dj := 9) (by rfl) (by kernel_rfl) rfl) rfl (by decide) ?_
      refine lsk (want_f (dj := 9) (by rfl) (by kernel_rfl) rfl) rfl (by decide) ?_
      refine lsk (want_f (dj := 9) (by rfl) (by kernel_rfl) rfl) rfl (by decide) ?_
      refine lsk (want_f (dj := 9) (by rfl) (by kernel_rfl) rfl) rfl (by decide) ?_
      refine lsk (want_f (dj := 9) (by rfl) (by kernel_rfl) rfl) rfl (by decide) ?_
      refine lsw (want_none (by rfl)) (y_pick false rfl rfl rfl) rfl (by decide) ?_
      refine lsw (want_none (by rfl)) (y_assign rfl rfl) rfl (by decide) ?_
      refine lg_nil ?_
      refine nx (E' := [(2, _)]) (fk rfl fn) ?_
      refine cg_ret ?_
      exact eg_ret_tmp rfl rfl ⟨congrArg (fun b => Ending.returned (Value.bool b)) (by simp [hw]), rfl⟩
  · have hw : ¬ isW w := by unfold isW; omega
    refine calls_cg (n := 16) Tryd.func33 rfl Tryd.ntmps33 (by simp) ?_
    show CG _ _ _ [(0, nv w)] _ _
    refine cg_seq ?_
    refine cg_region ?_
    refine lsw (want_none (by rfl)) (y_assign rfl rfl) rfl (by decide) ?_
    refine lg_nil ?_
    refine nx (E' := [(0, _), (2, _)]) (fk rfl (fk rfl fn)) ?_
    refine cg_seq ?_
    refine cg_region ?_
    refine lsw (want_none (by rfl)) (y_move rfl rfl) rfl (by decide) ?_
    refine lsw (want_none (by rfl)) (yb (decide_eq_false h0) (yi_gtr rfl rfl rfl)) rfl (by decide) ?_
    refine lsw (want_none (by rfl)) (y_move rfl rfl) rfl (by decide) ?_
    refine lsk (want_f (dj := 5) (by rfl) (by kernel_rfl) rfl) rfl (by decide) ?_
    refine lsk (want_f (dj := 5) (by rfl) (by kernel_rfl) rfl) rfl (by decide) ?_
    refine lsw (want_none (by rfl)) (y_pick false rfl rfl rfl) rfl (by decide) ?_
    refine lsw (want_none (by rfl)) (y_move rfl rfl) rfl (by decide) ?_
    refine lsk (want_f (dj := 9) (by rfl) (by kernel_rfl) rfl) rfl (by decide) ?_
    refine lsk (want_f (dj := 9) (by rfl) (by kernel_rfl) rfl) rfl (by decide) ?_
    refine lsk (want_f (dj := 9) (by rfl) (by kernel_rfl) rfl) rfl (by decide) ?_
    refine lsk (want_f (dj := 9) (by rfl) (by kernel_rfl) rfl) rfl (by decide) ?_
    refine lsk (want_f (dj := 9) (by rfl) (by kernel_rfl) rfl) rfl (by decide) ?_
    refine lsw (want_none (by rfl)) (y_pick false rfl rfl rfl) rfl (by decide) ?_
    refine lsw (want_none (by rfl)) (y_assign rfl rfl) rfl (by decide) ?_
    refine lg_nil ?_
    refine nx (E' := [(2, _)]) (fk rfl fn) ?_
    refine cg_ret ?_
    exact eg_ret_tmp rfl rfl ⟨congrArg (fun b => Ending.returned (Value.bool b)) (by simp [hw]), rfl⟩
theorem is_any (x w : Int) (W : World) (rg : Tb W) : Calls Tryd.prog 21 #[nv x, nv w] W fun e w' => e = .returned (.bool (decide (isN x w))) ∧ w' = W := by
  refine calls_cg (n := 16) Tryd.func21 rfl Tryd.ntmps21 (by simp) ?_
  show CG _ _ _ [(0, nv x), (1, nv w)] _ _
  refine cg_seq ?_
  refine cg_region ?_
  refine lsw (want_none (by rfl)) (y_assign rfl rfl) rfl (by decide) ?_
  refine lg_nil ?_
  refine nx (E' := [(0, _), (1, _), (4, _)]) (fk rfl (fk rfl (fk rfl fn))) ?_
  refine cg_seq ?_
  refine cg_region ?_
  refine lsw (want_none (by rfl)) (y_move rfl rfl) rfl (by decide) ?_
  by_cases c1 : isW w
  · refine lsw (want_none (by rfl)) (yb (decide_eq_true c1) (y_call (whole_any w _ rg) (by kernel_rfl) rfl rfl)) rfl (by decide) ?_
    refine lsw (want_none (by rfl)) (y_move rfl rfl) rfl (by decide) ?_
    refine lsw (want_t (dj := 7) (by rfl) (by kernel_rfl) rfl) (y_move rfl rfl) rfl (by decide) ?_
    by_cases c2 : 0 ≤ x
    · refine lsw (want_t (dj := 7) (by rfl) (by kernel_rfl) rfl) (yb (decide_eq_true c2) (yi_geq rfl rfl rfl)) rfl (by decide) ?_
      refine lsw (want_none (by rfl)) (y_pick true rfl rfl rfl) rfl (by decide) ?_
      refine lsw (want_none (by rfl)) (y_move rfl rfl) rfl (by decide) ?_
      refine lsw (want_t (dj := 11) (by rfl) (by kernel_rfl) rfl) (y_move rfl rfl) rfl (by decide) ?_
      refine lsw (want_t (dj := 11) (by rfl) (by kernel_rfl) rfl) (y_move rfl rfl) rfl (by decide) ?_
      by_cases c3 : x < w
      · refine lsw (want_t (dj := 11) (by rfl) (by kernel_rfl) rfl) (yb (decide_eq_true c3) (yi_lss rfl rfl rfl)) rfl (by decide) ?_
        refine lsw (want_none (by rfl)) (y_pick true rfl rfl rfl) rfl (by decide) ?_
        refine lsw (want_none (by rfl)) (y_assign rfl rfl) rfl (by decide) ?_
        refine lg_nil ?_
        refine nx (E' := [(4, _)]) (fk rfl fn) ?_
        refine cg_ret ?_
        exact eg_ret_tmp rfl rfl ⟨congrArg (fun b => Ending.returned (Value.bool b)) (by simp [isN, *]), rfl⟩
      · refine lsw (want_t (dj := 11) (by rfl) (by kernel_rfl) rfl) (yb (decide_eq_false c3) (yi_lss rfl rfl rfl)) rfl (by decide) ?_
        refine lsw (want_none (by rfl)) (y_pick true rfl rfl rfl) rfl (by decide) ?_
        refine lsw (want_none (by rfl)) (y_assign rfl rfl) rfl (by decide) ?_
        refine lg_nil ?_
        refine nx (E' := [(4, _)]) (fk rfl fn) ?_
        refine cg_ret ?_
        exact eg_ret_tmp rfl rfl ⟨congrArg (fun b => Ending.returned (Value.bool b)) (by simp [isN, *]), rfl⟩
    · refine lsw (want_t (dj := 7) (by rfl) (by kernel_rfl) rfl) (yb (decide_eq_false c2) (yi_geq rfl rfl rfl)) rfl (by decide) ?_
      refine lsw (want_none (by rfl)) (y_pick true rfl rfl rfl) rfl (by decide) ?_
      refine lsw (want_none (by rfl)) (y_move rfl rfl) rfl (by decide) ?_
      refine lsk (want_f (dj := 11) (by rfl) (by kernel_rfl) rfl) rfl (by decide) ?_
      refine lsk (want_f (dj := 11) (by rfl) (by kernel_rfl) rfl) rfl (by decide) ?_
      refine lsk (want_f (dj := 11) (by rfl) (by kernel_rfl) rfl) rfl (by decide) ?_
      refine lsw (want_none (by rfl)) (y_pick false rfl rfl rfl) rfl (by decide) ?_
      refine lsw (want_none (by rfl)) (y_assign rfl rfl) rfl (by decide) ?_
      refine lg_nil ?_
      refine nx (E' := [(4, _)]) (fk rfl fn) ?_
      refine cg_ret ?_
      exact eg_ret_tmp rfl rfl ⟨congrArg (fun b => Ending.returned (Value.bool b)) (by simp [isN, *]), rfl⟩
  · refine lsw (want_none (by rfl)) (yb (decide_eq_false c1) (y_call (whole_any w _ rg) (by kernel_rfl) rfl rfl)) rfl (by decide) ?_
    refine lsw (want_none (by rfl)) (y_move rfl rfl) rfl (by decide) ?_
    refine lsk (want_f (dj := 7) (by rfl) (by kernel_rfl) rfl) rfl (by decide) ?_
    refine lsk (want_f (dj := 7) (by rfl) (by kernel_rfl) rfl) rfl (by decide) ?_
    refine lsw (want_none (by rfl)) (y_pick false rfl rfl rfl) rfl (by decide) ?_
    refine lsw (want_none (by rfl)) (y_move rfl rfl) rfl (by decide) ?_
    refine lsk (want_f (dj := 11) (by rfl) (by kernel_rfl) rfl) rfl (by decide) ?_
    refine lsk (want_f (dj := 11) (by rfl) (by kernel_rfl) rfl) rfl (by decide) ?_
    refine lsk (want_f (dj := 11) (by rfl) (by kernel_rfl) rfl) rfl (by decide) ?_
    refine lsw (want_none (by rfl)) (y_pick false rfl rfl rfl) rfl (by decide) ?_
    refine lsw (want_none (by rfl)) (y_assign rfl rfl) rfl (by decide) ?_
    refine lg_nil ?_
    refine nx (E' := [(4, _)]) (fk rfl fn) ?_
    refine cg_ret ?_
    exact eg_ret_tmp rfl rfl ⟨congrArg (fun b => Ending.returned (Value.bool b)) (by simp [isN, *]), rfl⟩
theorem troot_any (w : Int) (W : World) (rg : Tb W) (hw : isW w) : Calls Tryd.prog 39 #[nv w] W fun e w' => e = .returned (nv ((w - 1) / 2)) ∧ w' = W := by
  refine calls_cg (n := 6) Tryd.func39 rfl Tryd.ntmps39 (by simp) ?_
  show CG _ _ _ [(0, nv w)] _ _
  refine cg_seq ?_
  refine cg_region ?_
  refine lsw (want_none (by rfl)) (y_assign rfl rfl) rfl (by decide) ?_
  refine lg_nil ?_
  refine nx (E' := [(0, _), (2, _)]) (fk rfl (fk rfl fn)) ?_
  refine cg_seq ?_
  refine cg_region ?_
  refine lsw (want_none (by rfl)) (y_move rfl rfl) rfl (by decide) ?_
  have f1 : -9223372036854775808 ≤ (w - 1) ∧ (w - 1) < 9223372036854775808 := fin0 (p := fun w => -9223372036854775808 ≤ (w - 1) ∧ (w - 1) < 9223372036854775808) (by kernel_rfl) hw
  refine lsw (want_none (by rfl)) (yi_sub rfl rfl rfl f1.1 f1.2) rfl (by decide) ?_
  have f2 : 0 ≤ (w - 1) := fin0 (p := fun w => 0 ≤ (w - 1)) (by kernel_rfl) hw
  have f3 : (w - 1) < 9223372036854775808 := fin0 (p := fun w => (w - 1) < 9223372036854775808) (by kernel_rfl) hw
  refine lsw (want_none (by rfl)) (yi_quo rfl rfl rfl f2 (by decide) f3) rfl (by decide) ?_
  refine lsw (want_none (by rfl)) (y_assign rfl rfl) rfl (by decide) ?_
  refine lg_nil ?_
  refine nx (E' := [(2, _)]) (fk rfl fn) ?_
  refine cg_ret ?_
  exact eg_ret_tmp rfl rfl ⟨rfl, rfl⟩
theorem root_any (w : Int) (W : World) (rg : Tb W) : Calls Tryd.prog 26 #[nv w] W fun e w' => e = .returned (nv (rootI w)) ∧ w' = W := by
  by_cases hw : isW w
  · refine calls_cg (n := 8) Tryd.func26 rfl Tryd.ntmps26 (by simp) ?_
    show CG _ _ _ [(0, nv w)] _ _
    refine cg_seq ?_
    refine cg_region ?_
    refine lsw (want_none (by rfl)) (y_assign rfl rfl) rfl (by decide) ?_
    refine lg_nil ?_
    refine nx (E' := [(0, _), (2, _)]) (fk rfl (fk rfl fn)) ?_
    refine cg_seq ?_
    refine cg_seq ?_
    refine cg_region ?_
    refine lsw (want_none (by rfl)) (y_move rfl rfl) rfl (by decide) ?_
    have f1 : isW w := fin0 (p := fun w => isW w) (by kernel_rfl) hw
    refine lsw (want_none (by rfl)) (yb (decide_eq_true f1) (y_call (whole_any w _ rg) (by kernel_rfl) rfl rfl)) rfl (by decide) ?_
    refine lsw (want_none (by rfl)) (y_bnot rfl rfl) rfl (by decide) ?_
    refine lg_nil ?_
    refine nx (E' := [(0, _), (2, _), (5, _)]) (fk rfl (fk rfl (fk rfl fn))) ?_
    refine cg_cf rfl ?_
    refine cg_skip ?_
    refine nx (E' := [(0, _), (2, _)]) (fk rfl (fk rfl fn)) ?_
    refine cg_seq ?_
    refine cg_region ?_
    refine lsw (want_none (by rfl)) (y_move rfl rfl) rfl (by decide) ?_
    have f2 : isW w := fin0 (p := fun w => isW w) (by kernel_rfl) hw
    refine lsw (want_none (by rfl)) (y_call (troot_any w _ rg f2) (by kernel_rfl) rfl rfl) rfl (by decide) ?_
    refine lsw (want_none (by rfl)) (y_assign rfl rfl) rfl (by decide) ?_
    refine lg_nil ?_
    refine nx (E' := [(2, _)]) (fk rfl fn) ?_
    refine cg_ret ?_
    have f3 : ((w - 1) / 2) = rootI w := fin0 (p := fun w => ((w - 1) / 2) = rootI w) (by kernel_rfl) hw
    exact eg_ret_tmp rfl rfl ⟨congrArg (fun k => Ending.returned (nv k)) f3, rfl⟩
  · refine calls_cg (n := 8) Tryd.func26 rfl Tryd.ntmps26 (by simp) ?_
    show CG _ _ _ [(0, nv w)] _ _
    refine cg_seq ?_
    refine cg_region ?_
    refine lsw (want_none (by rfl)) (y_assign rfl rfl) rfl (by decide) ?_
    refine lg_nil ?_
    refine nx (E' := [(0, _), (2, _)]) (fk rfl (fk rfl fn)) ?_
    refine cg_seq ?_
    refine cg_seq ?_
    refine cg_region ?_
    refine lsw (want_none (by rfl)) (y_move rfl rfl) rfl (by decide) ?_
    refine lsw (want_none (by rfl)) (yb (decide_eq_false hw) (y_call (whole_any w _ rg) (by kernel_rfl) rfl rfl)) rfl (by decide) ?_
    refine lsw (want_none (by rfl)) (y_bnot rfl rfl) rfl (by decide) ?_
    refine lg_nil ?_
    refine nx (E' := [(0, _), (2, _), (5, _)]) (fk rfl (fk rfl (fk rfl fn))) ?_
    refine cg_ct rfl ?_
    refine cg_seq ?_
    refine cg_region ?_
    refine lsw (want_none (by rfl)) (y_assign rfl rfl) rfl (by decide) ?_
    refine lg_nil ?_
    refine nx (E' := [(0, _), (2, _)]) (fk rfl (fk rfl fn)) ?_
    refine cg_ret ?_
    refine eg_seq_ret ?_
    exact eg_ret_tmp rfl rfl ⟨congrArg (fun k => Ending.returned (nv k)) (root_no hw).symm, rfl⟩
theorem tleft_any (w x : Int) (W : World) (rg : Tb W) (hn : isN x w) : Calls Tryd.prog 36 #[nv w, nv x] W fun e w' => e = .returned (nv (leftI x w)) ∧ w' = W := by
  refine calls_cg (n := 15) Tryd.func36 rfl Tryd.ntmps36 (by simp) ?_
  show CG _ _ _ [(0, nv w), (1, nv x)] _ _
  refine cg_seq ?_
  refine cg_region ?_
  refine lsw (want_none (by rfl)) (y_assign rfl rfl) rfl (by decide) ?_
  refine lg_nil ?_
  refine nx (E' := [(1, _), (4, _)]) (fk rfl (fk rfl fn)) ?_
  refine cg_seq ?_
  refine cg_region ?_
  refine lsw (want_none (by rfl)) (y_move rfl rfl) rfl (by decide) ?_
  refine lsw (want_none (by rfl)) (y_call (level_any x _ rg) (by kernel_rfl) rfl rfl) rfl (by decide) ?_
  refine lsw (want_none (by rfl)) (y_assign rfl rfl) rfl (by decide) ?_
  refine lg_nil ?_
  refine nx (E' := [(1, _), (4, _), (5, _)]) (fk rfl (fk rfl (fk rfl fn))) ?_
  refine cg_seq ?_
  refine cg_seq ?_
  refine cg_region ?_
  refine lsw (want_none (by rfl)) (y_move rfl rfl) rfl (by decide) ?_
  by_cases c1 : (lvl x) = 0
  · have f2 : (lvl x) = 0 := fin2 (p := fun x w => (lvl x) = 0 → (lvl x) = 0) (by kernel_rfl) hn c1
    refine lsw (want_none (by rfl)) (yb (decide_eq_true f2) (yi_eql rfl rfl rfl)) rfl (by decide) ?_
    refine lg_nil ?_
    refine nx (E' := [(1, _), (4, _), (5, _), (9, _)]) (fk rfl (fk rfl (fk rfl (fk rfl fn)))) ?_
    refine cg_ct rfl ?_
    refine cg_seq ?_
    refine cg_region ?_
    refine lsw (want_none (by rfl)) (y_assign rfl rfl) rfl (by decide) ?_
    refine lg_nil ?_
    refine nx (E' := [(1, _), (5, _), (4, _)]) (fk rfl (fk rfl (fk rfl fn))) ?_
    refine cg_ret ?_
    refine eg_seq_ret ?_
    have f3 : (-1) = leftI x w := fin2 (p := fun x w => (lvl x) = 0 → (-1) = leftI x w) (by kernel_rfl) hn c1
    exact eg_ret_tmp rfl rfl ⟨congrArg (fun k => Ending.returned (nv k)) f3, rfl⟩
  · have f4 : ¬ ((lvl x) = 0) := fin2 (p := fun x w => ¬ ((lvl x) = 0) → ¬ ((lvl x) = 0)) (by kernel_rfl) hn c1
    refine lsw (want_none (by rfl)) (yb (decide_eq_false f4) (yi_eql rfl rfl rfl)) rfl (by decide) ?_
    refine lg_nil ?_
    refine nx (E' := [(1, _), (4, _), (5, _), (9, _)]) (fk rfl (fk rfl (fk rfl (fk rfl fn)))) ?_
    refine cg_cf rfl ?_
    refine cg_skip ?_
    refine nx (E' := [(1, _), (4, _), (5, _)]) (fk rfl (fk rfl (fk rfl fn))) ?_
    refine cg_seq ?_
    refine cg_region ?_
    refine lsw (want_none (by rfl)) (y_move rfl rfl) rfl (by decide) ?_
    refine lsw (want_none (by rfl)) (y_move rfl rfl) rfl (by decide) ?_
    have f5 : -9223372036854775808 ≤ ((lvl x) - 1) ∧ ((lvl x) - 1) < 9223372036854775808 := fin2 (p := fun x w => ¬ ((lvl x) = 0) → -9223372036854775808 ≤ ((lvl x) - 1) ∧ ((lvl x) - 1) < 9223372036854775808) (by kernel_rfl) hn c1
    refine lsw (want_none (by rfl)) (yi_sub rfl rfl rfl f5.1 f5.2) rfl (by decide) ?_
    have f6 : 0 ≤ ((lvl x) - 1) ∧ ((lvl x) - 1) < 63 := fin2 (p := fun x w => ¬ ((lvl x) = 0) → 0 ≤ ((lvl x) - 1) ∧ ((lvl x) - 1) < 63) (by kernel_rfl) hn c1
    refine lsw (want_none (by rfl)) (yi_shl1 f6.1 f6.2 rfl rfl rfl) rfl (by decide) ?_
    have f7 : -9223372036854775808 ≤ (x - (pw ((lvl x) - 1))) ∧ (x - (pw ((lvl x) - 1))) < 9223372036854775808 := fin2 (p := fun x w => ¬ ((lvl x) = 0) → -9223372036854775808 ≤ (x - (pw ((lvl x) - 1))) ∧ (x - (pw ((lvl x) - 1))) < 9223372036854775808) (by kernel_rfl) hn c1
    refine lsw (want_none (by rfl)) (yi_sub rfl rfl rfl f7.1 f7.2) rfl (by decide) ?_
    refine lsw (want_none (by rfl)) (y_assign rfl rfl) rfl (by decide) ?_
    refine lg_nil ?_
    refine nx (E' := [(4, _)]) (fk rfl fn) ?_
    refine cg_ret ?_
    have f8 : (x - (pw ((lvl x) - 1))) = leftI x w := fin2 (p := fun x w => ¬ ((lvl x) = 0) → (x - (pw ((lvl x) - 1))) = leftI x w) (by kernel_rfl) hn c1
    exact eg_ret_tmp rfl rfl ⟨congrArg (fun k => Ending.returned (nv k)) f8, rfl⟩
theorem tright_any (w x : Int) (W : World) (rg : Tb W) (hn : isN x w) : Calls Tryd.prog 37 #[nv w, nv x] W fun e w' => e = .returned (nv (rightI x w)) ∧ w' = W := by
  refine calls_cg (n := 15) Tryd.func37 rfl Tryd.ntmps37 (by simp) ?_
  show CG _ _ _ [(0, nv w), (1, nv x)] _ _
  refine cg_seq ?_
  refine cg_region ?_
  refine lsw (want_none (by rfl)) (y_assign rfl rfl) rfl (by decide) ?_
  refine lg_nil ?_
  refine nx (E' := [(1, _), (4, _)]) (fk rfl (fk rfl fn)) ?_
  refine cg_seq ?_
  refine cg_region ?_
  refine lsw (want_none (by rfl)) (y_move rfl rfl) rfl (by decide) ?_
  refine lsw (want_none (by rfl)) (y_call (level_any x _ rg) (by kernel_rfl) rfl rfl) rfl (by decide) ?_
  refine lsw (want_none (by rfl)) (y_assign rfl rfl) rfl (by decide) ?_
  refine lg_nil ?_
  refine nx (E' := [(1, _), (4, _), (5, _)]) (fk rfl (fk rfl (fk rfl fn))) ?_
  refine cg_seq ?_
  refine cg_seq ?_
  refine cg_region ?_
  refine lsw (want_none (by rfl)) (y_move rfl rfl) rfl (by decide) ?_
  by_cases c1 : (lvl x) = 0
  · have f2 : (lvl x) = 0 := fin2 (p := fun x w => (lvl x) = 0 → (lvl x) = 0) (by kernel_rfl) hn c1
    refine lsw (want_none (by rfl)) (yb (decide_eq_true f2) (yi_eql rfl rfl rfl)) rfl (by decide) ?_
    refine lg_nil ?_
    refine nx (E' := [(1, _), (4, _), (5, _), (9, _)]) (fk rfl (fk rfl (fk rfl (fk rfl fn)))) ?_
    refine cg_ct rfl ?_
    refine cg_seq ?_
    refine cg_region ?_
    refine lsw (want_none (by rfl)) (y_assign rfl rfl) rfl (by decide) ?_
    refine lg_nil ?_
    refine nx (E' := [(1, _), (5, _), (4, _)]) (fk rfl (fk rfl (fk rfl fn))) ?_
    refine cg_ret ?_
    refine eg_seq_ret ?_
    have f3 : (-1) = rightI x w := fin2 (p := fun x w => (lvl x) = 0 → (-1) = rightI x w) (by kernel_rfl) hn c1
    exact eg_ret_tmp rfl rfl ⟨congrArg (fun k => Ending.returned (nv k)) f3, rfl⟩
  · have f4 : ¬ ((lvl x) = 0) := fin2 (p := fun x w => ¬ ((lvl x) = 0) → ¬ ((lvl x) = 0)) (by kernel_rfl) hn c1
    refine lsw (want_none (by rfl)) (yb (decide_eq_false f4) (yi_eql rfl rfl rfl)) rfl (by decide) ?_
    refine lg_nil ?_
    refine nx (E' := [(1, _), (4, _), (5, _), (9, _)]) (fk rfl (fk rfl (fk rfl (fk rfl fn)))) ?_
    refine cg_cf rfl ?_
    refine cg_skip ?_
    refine nx (E' := [(1, _), (4, _), (5, _)]) (fk rfl (fk rfl (fk rfl fn))) ?_
    refine cg_seq ?_
    refine cg_region ?_
    refine lsw (want_none (by rfl)) (y_move rfl rfl) rfl (by decide) ?_
    refine lsw (want_none (by rfl)) (y_move rfl rfl) rfl (by decide) ?_
    have f5 : -9223372036854775808 ≤ ((lvl x) - 1) ∧ ((lvl x) - 1) < 9223372036854775808 := fin2 (p := fun x w => ¬ ((lvl x) = 0) → -9223372036854775808 ≤ ((lvl x) - 1) ∧ ((lvl x) - 1) < 9223372036854775808) (by kernel_rfl) hn c1
    refine lsw (want_none (by rfl)) (yi_sub rfl rfl rfl f5.1 f5.2) rfl (by decide) ?_
    have f6 : 0 ≤ ((lvl x) - 1) ∧ ((lvl x) - 1) < 63 := fin2 (p := fun x w => ¬ ((lvl x) = 0) → 0 ≤ ((lvl x) - 1) ∧ ((lvl x) - 1) < 63) (by kernel_rfl) hn c1
    refine lsw (want_none (by rfl)) (yi_shl1 f6.1 f6.2 rfl rfl rfl) rfl (by decide) ?_
    have f7 : -9223372036854775808 ≤ (x + (pw ((lvl x) - 1))) ∧ (x + (pw ((lvl x) - 1))) < 9223372036854775808 := fin2 (p := fun x w => ¬ ((lvl x) = 0) → -9223372036854775808 ≤ (x + (pw ((lvl x) - 1))) ∧ (x + (pw ((lvl x) - 1))) < 9223372036854775808) (by kernel_rfl) hn c1
    refine lsw (want_none (by rfl)) (yi_add rfl rfl rfl f7.1 f7.2) rfl (by decide) ?_
    refine lsw (want_none (by rfl)) (y_assign rfl rfl) rfl (by decide) ?_
    refine lg_nil ?_
    refine nx (E' := [(4, _)]) (fk rfl fn) ?_
    refine cg_ret ?_
    have f8 : (x + (pw ((lvl x) - 1))) = rightI x w := fin2 (p := fun x w => ¬ ((lvl x) = 0) → (x + (pw ((lvl x) - 1))) = rightI x w) (by kernel_rfl) hn c1
    exact eg_ret_tmp rfl rfl ⟨congrArg (fun k => Ending.returned (nv k)) f8, rfl⟩
theorem tparent_any (w x : Int) (W : World) (rg : Tb W) (hn : isN x w) : Calls Tryd.prog 35 #[nv w, nv x] W fun e w' => e = .returned (nv (parI x w)) ∧ w' = W := by
  refine calls_cg (n := 26) Tryd.func35 rfl Tryd.ntmps35 (by simp) ?_
  show CG _ _ _ [(0, nv w), (1, nv x)] _ _
  refine cg_seq ?_
  refine cg_region ?_
  refine lsw (want_none (by rfl)) (y_assign rfl rfl) rfl (by decide) ?_
  refine lg_nil ?_
  refine nx (E' := [(0, _), (1, _), (4, _)]) (fk rfl (fk rfl (fk rfl fn))) ?_
  refine cg_seq ?_
  refine cg_seq ?_
  refine cg_region ?_
  refine lsw (want_none (by rfl)) (y_move rfl rfl) rfl (by decide) ?_
  refine lsw (want_none (by rfl)) (y_move rfl rfl) rfl (by decide) ?_
  have f1 : isW w := fin2 (p := fun x w => isW w) (by kernel_rfl) hn
  refine lsw (want_none (by rfl)) (y_call (troot_any w _ rg f1) (by kernel_rfl) rfl rfl) rfl (by decide) ?_
  by_cases c2 : x = ((w - 1) / 2)
  · have f3 : x = ((w - 1) / 2) := fin2 (p := fun x w => x = ((w - 1) / 2) → x = ((w - 1) / 2)) (by kernel_rfl) hn c2
    refine lsw (want_none (by rfl)) (yb (decide_eq_true f3) (yi_eql rfl rfl rfl)) rfl (by decide) ?_
    refine lg_nil ?_
    refine nx (E' := [(1, _), (4, _), (9, _)]) (fk rfl (fk rfl (fk rfl fn))) ?_
    refine cg_ct rfl ?_
    refine cg_seq ?_
    refine cg_region ?_
    refine lsw (want_none (by rfl)) (y_assign rfl rfl) rfl (by decide) ?_
    refine lg_nil ?_
    refine nx (E' := [(1, _), (4, _)]) (fk rfl (fk rfl fn)) ?_
    refine cg_ret ?_
    refine eg_seq_ret ?_
    have f4 : (-1) = parI x w := fin2 (p := fun x w => x = ((w - 1) / 2) → (-1) = parI x w) (by kernel_rfl) hn c2
    exact eg_ret_tmp rfl rfl ⟨congrArg (fun k => Ending.returned (nv k)) f4, rfl⟩
  · have f5 : ¬ (x = ((w - 1) / 2)) := fin2 (p := fun x w => ¬ (x = ((w - 1) / 2)) → ¬ (x = ((w - 1) / 2))) (by kernel_rfl) hn c2
    refine lsw (want_none (by rfl)) (yb (decide_eq_false f5) (yi_eql rfl rfl rfl)) rfl (by decide) ?_
    refine lg_nil ?_
    refine nx (E' := [(1, _), (4, _), (9, _)]) (fk rfl (fk rfl (fk rfl fn))) ?_
    refine cg_cf rfl ?_
    refine cg_skip ?_
    refine nx (E' := [(1, _), (4, _)]) (fk rfl (fk rfl fn)) ?_
    refine cg_seq ?_
    refine cg_region ?_
    refine lsw (want_none (by rfl)) (y_move rfl rfl) rfl (by decide) ?_
    refine lsw (want_none (by rfl)) (y_call (level_any x _ rg) (by kernel_rfl) rfl rfl) rfl (by decide) ?_
    refine lsw (want_none (by rfl)) (y_assign rfl rfl) rfl (by decide) ?_
    refine lg_nil ?_
    refine nx (E' := [(1, _), (4, _), (5, _)]) (fk rfl (fk rfl (fk rfl fn))) ?_
    refine cg_seq ?_
    refine cg_seq ?_
    refine cg_region ?_
    refine lsw (want_none (by rfl)) (y_move rfl rfl) rfl (by decide) ?_
    refine lsw (want_none (by rfl)) (y_move rfl rfl) rfl (by decide) ?_
    have f6 : -9223372036854775808 ≤ ((lvl x) + 1) ∧ ((lvl x) + 1) < 9223372036854775808 := fin2 (p := fun x w => ¬ (x = ((w - 1) / 2)) → -9223372036854775808 ≤ ((lvl x) + 1) ∧ ((lvl x) + 1) < 9223372036854775808) (by kernel_rfl) hn c2
    refine lsw (want_none (by rfl)) (yi_add rfl rfl rfl f6.1 f6.2) rfl (by decide) ?_
    have f7 : 0 ≤ ((lvl x) + 1) ∧ ((lvl x) + 1) < 63 := fin2 (p := fun x w => ¬ (x = ((w - 1) / 2)) → 0 ≤ ((lvl x) + 1) ∧ ((lvl x) + 1) < 63) (by kernel_rfl) hn c2
    refine lsw (want_none (by rfl)) (yi_shrp f7.1 f7.2 rfl rfl rfl) rfl (by decide) ?_
    have f8 : 0 ≤ (x / pw ((lvl x) + 1)) := fin2 (p := fun x w => ¬ (x = ((w - 1) / 2)) → 0 ≤ (x / pw ((lvl x) + 1))) (by kernel_rfl) hn c2
    refine lsw (want_none (by rfl)) (yi_rem rfl rfl rfl f8 (by decide)) rfl (by decide) ?_
    by_cases c9 : ((x / pw ((lvl x) + 1)) % 2) = 0
    · have f10 : ((x / pw ((lvl x) + 1)) % 2) = 0 := fin2 (p := fun x w => ¬ (x = ((w - 1) / 2)) → ((x / pw ((lvl x) + 1)) % 2) = 0 → ((x / pw ((lvl x) + 1)) % 2) = 0) (by kernel_rfl) hn c2 c9
      refine lsw (want_none (by rfl)) (yb (decide_eq_true f10) (yi_eql rfl rfl rfl)) rfl (by decide) ?_
      refine lg_nil ?_
      refine nx (E' := [(1, _), (4, _), (5, _), (17, _)]) (fk rfl (fk rfl (fk rfl (fk rfl fn)))) ?_
      refine cg_ct rfl ?_
      refine cg_seq ?_
      refine cg_region ?_
      refine lsw (want_none (by rfl)) (y_move rfl rfl) rfl (by decide) ?_
      refine lsw (want_none (by rfl)) (y_move rfl rfl) rfl (by decide) ?_
      have f11 : 0 ≤ (lvl x) ∧ (lvl x) < 63 := fin2 (p := fun x w => ¬ (x = ((w - 1) / 2)) → ((x / pw ((lvl x) + 1)) % 2) = 0 → 0 ≤ (lvl x) ∧ (lvl x) < 63) (by kernel_rfl) hn c2 c9
      refine lsw (want_none (by rfl)) (yi_shl1 f11.1 f11.2 rfl rfl rfl) rfl (by decide) ?_
      have f12 : -9223372036854775808 ≤ (x + (pw (lvl x))) ∧ (x + (pw (lvl x))) < 9223372036854775808 := fin2 (p := fun x w => ¬ (x = ((w - 1) / 2)) → ((x / pw ((lvl x) + 1)) % 2) = 0 → -9223372036854775808 ≤ (x + (pw (lvl x))) ∧ (x + (pw (lvl x))) < 9223372036854775808) (by kernel_rfl) hn c2 c9
      refine lsw (want_none (by rfl)) (yi_add rfl rfl rfl f12.1 f12.2) rfl (by decide) ?_
      refine lsw (want_none (by rfl)) (y_assign rfl rfl) rfl (by decide) ?_
      refine lg_nil ?_
      refine nx (E' := [(1, _), (5, _), (4, _)]) (fk rfl (fk rfl (fk rfl fn))) ?_
      refine cg_ret ?_
      refine eg_seq_ret ?_
      have f13 : (x + (pw (lvl x))) = parI x w := fin2 (p := fun x w => ¬ (x = ((w - 1) / 2)) → ((x / pw ((lvl x) + 1)) % 2) = 0 → (x + (pw (lvl x))) = parI x w) (by kernel_rfl) hn c2 c9
      exact eg_ret_tmp rfl rfl ⟨congrArg (fun k => Ending.returned (nv k)) f13, rfl⟩
    · have f14 : ¬ (((x / pw ((lvl x) + 1)) % 2) = 0) := fin2 (p := fun x w => ¬ (x = ((w - 1) / 2)) → ¬ (((x / pw ((lvl x) + 1)) % 2) = 0) → ¬ (((x / pw ((lvl x) + 1)) % 2) = 0)) (by kernel_rfl) hn c2 c9
      refine lsw (want_none (by rfl)) (yb (decide_eq_false f14) (yi_eql rfl rfl rfl)) rfl (by decide) ?_
      refine lg_nil ?_
      refine nx (E' := [(1, _), (4, _), (5, _), (17, _)]) (fk rfl (fk rfl (fk rfl (fk rfl fn)))) ?_
      refine cg_cf rfl ?_
      refine cg_skip ?_
      refine nx (E' := [(1, _), (4, _), (5, _)]) (fk rfl (fk rfl (fk rfl fn))) ?_
      refine cg_seq ?_
      refine cg_region ?_
      refine lsw (want_none (by rfl)) (y_move rfl rfl) rfl (by decide) ?_
      refine lsw (want_none (by rfl)) (y_move rfl rfl) rfl (by decide) ?_
      have f15 : 0 ≤ (lvl x) ∧ (lvl x) < 63 := fin2 (p := fun x w => ¬ (x = ((w - 1) / 2)) → ¬ (((x / pw ((lvl x) + 1)) % 2) = 0) → 0 ≤ (lvl x) ∧ (lvl x) < 63) (by kernel_rfl) hn c2 c9
      refine lsw (want_none (by rfl)) (yi_shl1 f15.1 f15.2 rfl rfl rfl) rfl (by decide) ?_
      have f16 : -9223372036854775808 ≤ (x - (pw (lvl x))) ∧ (x - (pw (lvl x))) < 9223372036854775808 := fin2 (p := fun x w => ¬ (x = ((w - 1) / 2)) → ¬ (((x / pw ((lvl x) + 1)) % 2) = 0) → -9223372036854775808 ≤ (x - (pw (lvl x))) ∧ (x - (pw (lvl x))) < 9223372036854775808) (by kernel_rfl) hn c2 c9
      refine lsw (want_none (by rfl)) (yi_sub rfl rfl rfl f16.1 f16.2) rfl (by decide) ?_
      refine lsw (want_none (by rfl)) (y_assign rfl rfl) rfl (by decide) ?_
      refine lg_nil ?_
      refine nx (E' := [(4, _)]) (fk rfl fn) ?_
      refine cg_ret ?_
      have f17 : (x - (pw (lvl x))) = parI x w := fin2 (p := fun x w => ¬ (x = ((w - 1) / 2)) → ¬ (((x / pw ((lvl x) + 1)) % 2) = 0) → (x - (pw (lvl x))) = parI x w) (by kernel_rfl) hn c2 c9
      exact eg_ret_tmp rfl rfl ⟨congrArg (fun k => Ending.returned (nv k)) f17, rfl⟩
theorem tsibling_any (w x : Int) (W : World) (rg : Tb W) (hn : isN x w) : Calls Tryd.prog 44 #[nv w, nv x] W fun e w' => e = .returned (nv (sibI x w)) ∧ w' = W := by
  refine calls_cg (n := 24) Tryd.func44 rfl Tryd.ntmps44 (by simp) ?_
  show CG _ _ _ [(0, nv w), (1, nv x)] _ _
  refine cg_seq ?_
  refine cg_region ?_
  refine lsw (want_none (by rfl)) (y_assign rfl rfl) rfl (by decide) ?_
  refine lg_nil ?_
  refine nx (E' := [(0, _), (1, _), (4, _)]) (fk rfl (fk rfl (fk rfl fn))) ?_
  refine cg_seq ?_
  refine cg_region ?_
  refine lsw (want_none (by rfl)) (y_move rfl rfl) rfl (by decide) ?_
  refine lsw (want_none (by rfl)) (y_move rfl rfl) rfl (by decide) ?_
  have f1 : isN x w := fin2 (p := fun x w => isN x w) (by kernel_rfl) hn
  refine lsw (want_none (by rfl)) (y_call (tparent_any w x _ rg f1) (by kernel_rfl) rfl rfl) rfl (by decide) ?_
  refine lsw (want_none (by rfl)) (y_assign rfl rfl) rfl (by decide) ?_
  refine lg_nil ?_
  refine nx (E' := [(0, _), (1, _), (4, _), (5, _)]) (fk rfl (fk rfl (fk rfl (fk rfl fn)))) ?_
  refine cg_seq ?_
  refine cg_block ?_
  refine cg_seq ?_
  refine cg_region ?_
  refine lsw (want_none (by rfl)) (y_move rfl rfl) rfl (by decide) ?_
  by_cases c2 : (parI x w) = (-1)
  · have f3 : (parI x w) = (-1) := fin2 (p := fun x w => (parI x w) = (-1) → (parI x w) = (-1)) (by kernel_rfl) hn c2
    refine lsw (want_none (by rfl)) (yb (decide_eq_true f3) (yi_eql rfl rfl rfl)) rfl (by decide) ?_
    refine lsw (want_none (by rfl)) (y_assign rfl rfl) rfl (by decide) ?_
    refine lg_nil ?_
    refine nx (E' := [(0, _), (1, _), (4, _), (5, _), (9, _)]) (fk rfl (fk rfl (fk rfl (fk rfl (fk rfl fn))))) ?_
    refine cg_ct rfl ?_
    refine cg_seq ?_
    refine cg_region ?_
    refine lsw (want_none (by rfl)) (y_assign rfl rfl) rfl (by decide) ?_
    refine lg_nil ?_
    refine nx (E' := [(0, _), (5, _), (4, _)]) (fk rfl (fk rfl (fk rfl fn))) ?_
    refine cg_ret ?_
    refine eg_block_ret ?_
    refine eg_seq_ret ?_
    have f4 : (-1) = sibI x w := fin2 (p := fun x w => (parI x w) = (-1) → (-1) = sibI x w) (by kernel_rfl) hn c2
    exact eg_ret_tmp rfl rfl ⟨congrArg (fun k => Ending.returned (nv k)) f4, rfl⟩
  · have f5 : ¬ ((parI x w) = (-1)) := fin2 (p := fun x w => ¬ ((parI x w) = (-1)) → ¬ ((parI x w) = (-1))) (by kernel_rfl) hn c2
    refine lsw (want_none (by rfl)) (yb (decide_eq_false f5) (yi_eql rfl rfl rfl)) rfl (by decide) ?_
    refine lsw (want_none (by rfl)) (y_assign rfl rfl) rfl (by decide) ?_
    refine lg_nil ?_
    refine nx (E' := [(0, _), (1, _), (4, _), (5, _), (9, _)]) (fk rfl (fk rfl (fk rfl (fk rfl (fk rfl fn))))) ?_
    refine cg_cf rfl ?_
    refine cg_seq ?_
    refine cg_region ?_
    refine lsw (want_none (by rfl)) (y_move rfl rfl) rfl (by decide) ?_
    refine lsw (want_none (by rfl)) (y_move rfl rfl) rfl (by decide) ?_
    refine lsw (want_none (by rfl)) (y_move rfl rfl) rfl (by decide) ?_
    have f6 : isN (parI x w) w := fin2 (p := fun x w => ¬ ((parI x w) = (-1)) → isN (parI x w) w) (by kernel_rfl) hn c2
    refine lsw (want_none (by rfl)) (y_call (tleft_any w (parI x w) _ rg f6) (by kernel_rfl) rfl rfl) rfl (by decide) ?_
    by_cases c7 : x = (leftI (parI x w) w)
    · have f8 : x = (leftI (parI x w) w) := fin2 (p := fun x w => ¬ ((parI x w) = (-1)) → x = (leftI (parI x w) w) → x = (leftI (parI x w) w)) (by kernel_rfl) hn c2 c7
      refine lsw (want_none (by rfl)) (yb (decide_eq_true f8) (yi_eql rfl rfl rfl)) rfl (by decide) ?_
      refine lsw (want_none (by rfl)) (y_assign rfl rfl) rfl (by decide) ?_
      refine lg_nil ?_
      refine nx (E' := [(0, _), (4, _), (5, _), (12, _)]) (fk rfl (fk rfl (fk rfl (fk rfl fn)))) ?_
      refine cg_ct rfl ?_
      refine cg_seq ?_
      refine cg_region ?_
      refine lsw (want_none (by rfl)) (y_move rfl rfl) rfl (by decide) ?_
      refine lsw (want_none (by rfl)) (y_move rfl rfl) rfl (by decide) ?_
      have f9 : isN (parI x w) w := fin2 (p := fun x w => ¬ ((parI x w) = (-1)) → x = (leftI (parI x w) w) → isN (parI x w) w) (by kernel_rfl) hn c2 c7
      refine lsw (want_none (by rfl)) (y_call (tright_any w (parI x w) _ rg f9) (by kernel_rfl) rfl rfl) rfl (by decide) ?_
      refine lsw (want_none (by rfl)) (y_assign rfl rfl) rfl (by decide) ?_
      refine lg_nil ?_
      refine nx (E' := [(0, _), (5, _), (4, _)]) (fk rfl (fk rfl (fk rfl fn))) ?_
      refine cg_ret ?_
      refine eg_block_ret ?_
      refine eg_seq_ret ?_
      have f10 : (rightI (parI x w) w) = sibI x w := fin2 (p := fun x w => ¬ ((parI x w) = (-1)) → x = (leftI (parI x w) w) → (rightI (parI x w) w) = sibI x w) (by kernel_rfl) hn c2 c7
      exact eg_ret_tmp rfl rfl ⟨congrArg (fun k => Ending.returned (nv k)) f10, rfl⟩
    · have f11 : ¬ (x = (leftI (parI x w) w)) := fin2 (p := fun x w => ¬ ((parI x w) = (-1)) → ¬ (x = (leftI (parI x w) w)) → ¬ (x = (leftI (parI x w) w))) (by kernel_rfl) hn c2 c7
      refine lsw (want_none (by rfl)) (yb (decide_eq_false f11) (yi_eql rfl rfl rfl)) rfl (by decide) ?_
      refine lsw (want_none (by rfl)) (y_assign rfl rfl) rfl (by decide) ?_
      refine lg_nil ?_
      refine nx (E' := [(0, _), (4, _), (5, _), (12, _)]) (fk rfl (fk rfl (fk rfl (fk rfl fn)))) ?_
      refine cg_cf rfl ?_
      refine cg_skip ?_
      refine eg_block_norm ?_
      refine nx (E' := [(0, _), (4, _), (5, _)]) (fk rfl (fk rfl (fk rfl fn))) ?_
      refine cg_seq ?_
      refine cg_region ?_
      refine lsw (want_none (by rfl)) (y_move rfl rfl) rfl (by decide) ?_
      refine lsw (want_none (by rfl)) (y_move rfl rfl) rfl (by decide) ?_
      have f12 : isN (parI x w) w := fin2 (p := fun x w => ¬ ((parI x w) = (-1)) → ¬ (x = (leftI (parI x w) w)) → isN (parI x w) w) (by kernel_rfl) hn c2 c7
      refine lsw (want_none (by rfl)) (y_call (tleft_any w (parI x w) _ rg f12) (by kernel_rfl) rfl rfl) rfl (by decide) ?_
      refine lsw (want_none (by rfl)) (y_assign rfl rfl) rfl (by decide) ?_
      refine lg_nil ?_
      refine nx (E' := [(4, _)]) (fk rfl fn) ?_
      refine cg_ret ?_
      have f13 : (leftI (parI x w) w) = sibI x w := fin2 (p := fun x w => ¬ ((parI x w) = (-1)) → ¬ (x = (leftI (parI x w) w)) → (leftI (parI x w) w) = sibI x w) (by kernel_rfl) hn c2 c7
      exact eg_ret_tmp rfl rfl ⟨congrArg (fun k => Ending.returned (nv k)) f13, rfl⟩
theorem told_left (x w : Int) (W : World) (rg : Tb W) : Calls Tryd.prog 34 #[nv x, nv w, .func (.func 36) #[] #[]] W fun e w' => e = .returned (nv (leftI x w)) ∧ w' = W := by
  by_cases hn : isN x w
  · refine calls_cg (n := 15) Tryd.func34 rfl Tryd.ntmps34 (by simp) ?_
    show CG _ _ _ [(0, nv x), (1, nv w), (2, .func (.func 36) #[] #[])] _ _
    refine cg_seq ?_
    refine cg_region ?_
    refine lsw (want_none (by rfl)) (y_assign rfl rfl) rfl (by decide) ?_
    refine lg_nil ?_
    refine nx (E' := [(0, _), (1, _), (2, _), (6, _)]) (fk rfl (fk rfl (fk rfl (fk rfl fn)))) ?_
    refine cg_seq ?_
    refine cg_seq ?_
    refine cg_region ?_
    refine lsw (want_none (by rfl)) (y_move rfl rfl) rfl (by decide) ?_
    refine lsw (want_none (by rfl)) (y_move rfl rfl) rfl (by decide) ?_
    have f1 : isN x w := fin2 (p := fun x w => isN x w) (by kernel_rfl) hn
    refine lsw (want_none (by rfl)) (yb (decide_eq_true f1) (y_call (is_any x w _ rg) (by kernel_rfl) rfl rfl)) rfl (by decide) ?_
    refine lsw (want_none (by rfl)) (y_bnot rfl rfl) rfl (by decide) ?_
    refine lg_nil ?_
    refine nx (E' := [(0, _), (1, _), (2, _), (6, _), (10, _)]) (fk rfl (fk rfl (fk rfl (fk rfl (fk rfl fn))))) ?_
    refine cg_cf rfl ?_
    refine cg_skip ?_
    refine nx (E' := [(0, _), (1, _), (2, _), (6, _)]) (fk rfl (fk rfl (fk rfl (fk rfl fn)))) ?_
    refine cg_seq ?_
    refine cg_region ?_
    refine lsw (want_none (by rfl)) (y_move rfl rfl) rfl (by decide) ?_
    refine lsw (want_none (by rfl)) (y_move rfl rfl) rfl (by decide) ?_
    refine lsw (want_none (by rfl)) (y_move rfl rfl) rfl (by decide) ?_
    have f2 : isN x w := fin2 (p := fun x w => isN x w) (by kernel_rfl) hn
    refine lsw (want_none (by rfl)) (y_callf (tleft_any w x _ rg f2) (by kernel_rfl) rfl rfl rfl) rfl (by decide) ?_
    refine lsw (want_none (by rfl)) (y_assign rfl rfl) rfl (by decide) ?_
    refine lg_nil ?_
    refine nx (E' := [(6, _)]) (fk rfl fn) ?_
    refine cg_ret ?_
    exact eg_ret_tmp rfl rfl ⟨rfl, rfl⟩
  · refine calls_cg (n := 15) Tryd.func34 rfl Tryd.ntmps34 (by simp) ?_
    show CG _ _ _ [(0, nv x), (1, nv w), (2, .func (.func 36) #[] #[])] _ _
    refine cg_seq ?_
    refine cg_region ?_
    refine lsw (want_none (by rfl)) (y_assign rfl rfl) rfl (by decide) ?_
    refine lg_nil ?_
    refine nx (E' := [(0, _), (1, _), (2, _), (6, _)]) (fk rfl (fk rfl (fk rfl (fk rfl fn)))) ?_
    refine cg_seq ?_
    refine cg_seq ?_
    refine cg_region ?_
    refine lsw (want_none (by rfl)) (y_move rfl rfl) rfl (by decide) ?_
    refine lsw (want_none (by rfl)) (y_move rfl rfl) rfl (by decide) ?_
    refine lsw (want_none (by rfl)) (yb (decide_eq_false hn) (y_call (is_any x w _ rg) (by kernel_rfl) rfl rfl)) rfl (by decide) ?_
    refine lsw (want_none (by rfl)) (y_bnot rfl rfl) rfl (by decide) ?_
    refine lg_nil ?_
    refine nx (E' := [(0, _), (1, _), (2, _), (6, _), (10, _)]) (fk rfl (fk rfl (fk rfl (fk rfl (fk rfl fn))))) ?_
    refine cg_ct rfl ?_
    refine cg_seq ?_
    refine cg_region ?_
    refine lsw (want_none (by rfl)) (y_assign rfl rfl) rfl (by decide) ?_
    refine lg_nil ?_
    refine nx (E' := [(0, _), (1, _), (2, _), (6, _)]) (fk rfl (fk rfl (fk rfl (fk rfl fn)))) ?_
    refine cg_ret ?_
    refine eg_seq_ret ?_
    exact eg_ret_tmp rfl rfl ⟨congrArg (fun k => Ending.returned (nv k)) (left_no hn).symm, rfl⟩
theorem left_any (x w : Int) (W : World) (rg : Tb W) : Calls Tryd.prog 23 #[nv x, nv w] W fun e w' => e = .returned (nv (leftI x w)) ∧ w' = W := by
  refine calls_cg (n := 8) Tryd.func23 rfl Tryd.ntmps23 (by simp) ?_
  show CG _ _ _ [(0, nv x), (1, nv w)] _ _
  refine cg_seq ?_
  refine cg_region ?_
  refine lsw (want_none (by rfl)) (y_assign rfl rfl) rfl (by decide) ?_
  refine lg_nil ?_
  refine nx (E' := [(0, _), (1, _), (4, _)]) (fk rfl (fk rfl (fk rfl fn))) ?_
  refine cg_seq ?_
  refine cg_region ?_
  refine lsw (want_none (by rfl)) (y_move rfl rfl) rfl (by decide) ?_
  refine lsw (want_none (by rfl)) (y_move rfl rfl) rfl (by decide) ?_
  refine lsw (want_none (by rfl)) (y_call (told_left x w _ rg) (by kernel_rfl) rfl rfl) rfl (by decide) ?_
  refine lsw (want_none (by rfl)) (y_assign rfl rfl) rfl (by decide) ?_
  refine lg_nil ?_
  refine nx (E' := [(4, _)]) (fk rfl fn) ?_
  refine cg_ret ?_
  exact eg_ret_tmp rfl rfl ⟨rfl, rfl⟩
theorem told_right (x w : Int) (W : World) (rg : Tb W) : Calls Tryd.prog 34 #[nv x, nv w, .func (.func 37) #[] #[]] W fun e w' => e = .returned (nv (rightI x w)) ∧ w' = W := by
  by_cases hn : isN x w
  · refine calls_cg (n := 15) Tryd.func34 rfl Tryd.ntmps34 (by simp) ?_
    show CG _ _ _ [(0, nv x), (1, nv w), (2, .func (.func 37) #[] #[])] _ _
    refine cg_seq ?_
    refine cg_region ?_
    refine lsw (want_none (by rfl)) (y_assign rfl rfl) rfl (by decide) ?_
    refine lg_nil ?_
    refine nx (E' := [(0, _), (1, _), (2, _), (6, _)]) (fk rfl (fk rfl (fk rfl (fk rfl fn)))) ?_
    refine cg_seq ?_
    refine cg_seq ?_
    refine cg_region ?_
    refine lsw (want_none (by rfl)) (y_move rfl rfl) rfl (by decide) ?_
    refine lsw (want_none (by rfl)) (y_move rfl rfl) rfl (by decide) ?_
    have f1 : isN x w := fin2 (p := fun x w => isN x w) (by kernel_rfl) hn
    refine lsw (want_none (by rfl)) (yb (decide_eq_true f1) (y_call (is_any x w _ rg) (by kernel_rfl) rfl rfl)) rfl (by decide) ?_
    refine lsw (want_none (by rfl)) (y_bnot rfl rfl) rfl (by decide) ?_
    refine lg_nil ?_
    refine nx (E' := [(0, _), (1, _), (2, _), (6, _), (10, _)]) (fk rfl (fk rfl (fk rfl (fk rfl (fk rfl fn))))) ?_
    refine cg_cf rfl ?_
    refine cg_skip ?_
    refine nx (E' := [(0, _), (1, _), (2, _), (6, _)]) (fk rfl (fk rfl (fk rfl (fk rfl fn)))) ?_
    refine cg_seq ?_
    refine cg_region ?_
    refine lsw (want_none (by rfl)) (y_move rfl rfl) rfl (by decide) ?_
    refine lsw (want_none (by rfl)) (y_move rfl rfl) rfl (by decide) ?_
    refine lsw (want_none (by rfl)) (y_move rfl rfl) rfl (by decide) ?_
    have f2 : isN x w := fin2 (p := fun x w => isN x w) (by kernel_rfl) hn
    refine lsw (want_none (by rfl)) (y_callf (tright_any w x _ rg f2) (by kernel_rfl) rfl rfl rfl) rfl (by decide) ?_
    refine lsw (want_none (by rfl)) (y_assign rfl rfl) rfl (by decide) ?_
    refine lg_nil ?_
    refine nx (E' := [(6, _)]) (fk rfl fn) ?_
    refine cg_ret ?_
    exact eg_ret_tmp rfl rfl ⟨rfl, rfl⟩
  · refine calls_cg (n := 15) Tryd.func34 rfl Tryd.ntmps34 (by simp) ?_
    show CG _ _ _ [(0, nv x), (1, nv w), (2, .func (.func 37) #[] #[])] _ _
    refine cg_seq ?_
    refine cg_region ?_
    refine lsw (want_none (by rfl)) (y_assign rfl rfl) rfl (by decide) ?_
    refine lg_nil ?_
    refine nx (E' := [(0, _), (1, _), (2, _), (6, _)]) (fk rfl (fk rfl (fk rfl (fk rfl fn)))) ?_
    refine cg_seq ?_
    refine cg_seq ?_
    refine cg_region ?_
    refine lsw (want_none (by rfl)) (y_move rfl rfl) rfl (by decide) ?_
    refine lsw (want_none (by rfl)) (y_move rfl rfl) rfl (by decide) ?_
    refine lsw (want_none (by rfl)) (yb (decide_eq_false hn) (y_call (is_any x w _ rg) (by kernel_rfl) rfl rfl)) rfl (by decide) ?_
    refine lsw (want_none (by rfl)) (y_bnot rfl rfl) rfl (by decide) ?_
    refine lg_nil ?_
    refine nx (E' := [(0, _), (1, _), (2, _), (6, _), (10, _)]) (fk rfl (fk rfl (fk rfl (fk rfl (fk rfl fn))))) ?_
    refine cg_ct rfl ?_
    refine cg_seq ?_
    refine cg_region ?_
    refine lsw (want_none (by rfl)) (y_assign rfl rfl) rfl (by decide) ?_
    refine lg_nil ?_
    refine nx (E' := [(0, _), (1, _), (2, _), (6, _)]) (fk rfl (fk rfl (fk rfl (fk rfl fn)))) ?_
    refine cg_ret ?_
    refine eg_seq_ret ?_
    exact eg_ret_tmp rfl rfl ⟨congrArg (fun k => Ending.returned (nv k)) (right_no hn).symm, rfl⟩
theorem right_any (x w : Int) (W : World) (rg : Tb W) : Calls Tryd.prog 24 #[nv x, nv w] W fun e w' => e = .returned (nv (rightI x w)) ∧ w' = W := by
  refine calls_cg (n := 8) Tryd.func24 rfl Tryd.ntmps24 (by simp) ?_
  show CG _ _ _ [(0, nv x), (1, nv w)] _ _
  refine cg_seq ?_
  refine cg_region ?_
  refine lsw (want_none (by rfl)) (y_assign rfl rfl) rfl (by decide) ?_
  refine lg_nil ?_
  refine nx (E' := [(0, _), (1, _), (4, _)]) (fk rfl (fk rfl (fk rfl fn))) ?_
  refine cg_seq ?_
  refine cg_region ?_
  refine lsw (want_none (by rfl)) (y_move rfl rfl) rfl (by decide) ?_
  refine lsw (want_none (by rfl)) (y_move rfl rfl) rfl (by decide) ?_
  refine lsw (want_none (by rfl)) (y_call (told_right x w _ rg) (by kernel_rfl) rfl rfl) rfl (by decide) ?_
  refine lsw (want_none (by rfl)) (y_assign rfl rfl) rfl (by decide) ?_
  refine lg_nil ?_
  refine nx (E' := [(4, _)]) (fk rfl fn) ?_
  refine cg_ret ?_
  exact eg_ret_tmp rfl rfl ⟨rfl, rfl⟩
theorem told_parent (x w : Int) (W : World) (rg : Tb W) : Calls Tryd.prog 34 #[nv x, nv w, .func (.func 35) #[] #[]] W fun e w' => e = .returned (nv (parI x w)) ∧ w' = W := by
  by_cases hn : isN x w
  · refine calls_cg (n := 15) Tryd.func34 rfl Tryd.ntmps34 (by simp) ?_
    show CG _ _ _ [(0, nv x), (1, nv w), (2, .func (.func 35) #[] #[])] _ _
    refine cg_seq ?_
    refine cg_region ?_
    refine lsw (want_none (by rfl)) (y_assign rfl rfl) rfl (by decide) ?_
    refine lg_nil ?_
    refine nx (E' := [(0, _), (1, _), (2, _), (6, _)]) (fk rfl (fk rfl (fk rfl (fk rfl fn)))) ?_
    refine cg_seq ?_
    refine cg_seq ?_
    refine cg_region ?_
    refine lsw (want_none (by rfl)) (y_move rfl rfl) rfl (by decide) ?_
    refine lsw (want_none (by rfl)) (y_move rfl rfl) rfl (by decide) ?_
    have f1 : isN x w := fin2 (p := fun x w => isN x w) (by kernel_rfl) hn
    refine lsw (want_none (by rfl)) (yb (decide_eq_true f1) (y_call (is_any x w _ rg) (by kernel_rfl) rfl rfl)) rfl (by decide) ?_
    refine lsw (want_none (by rfl)) (y_bnot rfl rfl) rfl (by decide) ?_
    refine lg_nil ?_
    refine nx (E' := [(0, _), (1, _), (2, _), (6, _), (10, _)]) (fk rfl (fk rfl (fk rfl (fk rfl (fk rfl fn))))) ?_
    refine cg_cf rfl ?_
    refine cg_skip ?_
    refine nx (E' := [(0, _), (1, _), (2, _), (6, _)]) (fk rfl (fk rfl (fk rfl (fk rfl fn)))) ?_
    refine cg_seq ?_
    refine cg_region ?_
    refine lsw (want_none (by rfl)) (y_move rfl rfl) rfl (by decide) ?_
    refine lsw (want_none (by rfl)) (y_move rfl rfl) rfl (by decide) ?_
    refine lsw (want_none (by rfl)) (y_move rfl rfl) rfl (by decide) ?_
    have f2 : isN x w := fin2 (p := fun x w => isN x w) (by kernel_rfl) hn
    refine lsw (want_none (by rfl)) (y_callf (tparent_any w x _ rg f2) (by kernel_rfl) rfl rfl rfl) rfl (by decide) ?_
    refine lsw (want_none (by rfl)) (y_assign rfl rfl) rfl (by decide) ?_
    refine lg_nil ?_
    refine nx (E' := [(6, _)]) (fk rfl fn) ?_
    refine cg_ret ?_
    exact eg_ret_tmp rfl rfl ⟨rfl, rfl⟩
  · refine calls_cg (n := 15) Tryd.func34 rfl Tryd.ntmps34 (by simp) ?_
    show CG _ _ _ [(0, nv x), (1, nv w), (2, .func (.func 35) #[] #[])] _ _
    refine cg_seq ?_
    refine cg_region ?_
    refine lsw (want_none (by rfl)) (y_assign rfl rfl) rfl (by decide) ?_
    refine lg_nil ?_
    refine nx (E' := [(0, _), (1, _), (2, _), (6, _)]) (fk rfl (fk rfl (fk rfl (fk rfl fn)))) ?_
    refine cg_seq ?_
    refine cg_seq ?_
    refine cg_region ?_
    refine lsw (want_none (by rfl)) (y_move rfl rfl) rfl (by decide) ?_
    refine lsw (want_none (by rfl)) (y_move rfl rfl) rfl (by decide) ?_
    refine lsw (want_none (by rfl)) (yb (decide_eq_false hn) (y_call (is_any x w _ rg) (by kernel_rfl) rfl rfl)) rfl (by decide) ?_
    refine lsw (want_none (by rfl)) (y_bnot rfl rfl) rfl (by decide) ?_
    refine lg_nil ?_
    refine nx (E' := [(0, _), (1, _), (2, _), (6, _), (10, _)]) (fk rfl (fk rfl (fk rfl (fk rfl (fk rfl fn))))) ?_
    refine cg_ct rfl ?_
    refine cg_seq ?_
    refine cg_region ?_
    refine lsw (want_none (by rfl)) (y_assign rfl rfl) rfl (by decide) ?_
    refine lg_nil ?_
    refine nx (E' := [(0, _), (1, _), (2, _), (6, _)]) (fk rfl (fk rfl (fk rfl (fk rfl fn)))) ?_
    refine cg_ret ?_
    refine eg_seq_ret ?_
    exact eg_ret_tmp rfl rfl ⟨congrArg (fun k => Ending.returned (nv k)) (par_no hn).symm, rfl⟩
theorem parent_any (x w : Int) (W : World) (rg : Tb W) : Calls Tryd.prog 22 #[nv x, nv w] W fun e w' => e = .returned (nv (parI x w)) ∧ w' = W := by
  refine calls_cg (n := 8) Tryd.func22 rfl Tryd.ntmps22 (by simp) ?_
  show CG _ _ _ [(0, nv x), (1, nv w)] _ _
  refine cg_seq ?_
  refine cg_region ?_
  refine lsw (want_none (by rfl)) (y_assign rfl rfl) rfl (by decide) ?_
  refine lg_nil ?_
  refine nx (E' := [(0, _), (1, _), (4, _)]) (fk rfl (fk rfl (fk rfl fn))) ?_
  refine cg_seq ?_
  refine cg_region ?_
  refine lsw (want_none (by rfl)) (y_move rfl rfl) rfl (by decide) ?_
  refine lsw (want_none (by rfl)) (y_move rfl rfl) rfl (by decide) ?_
  refine lsw (want_none (by rfl)) (y_call (told_parent x w _ rg) (by kernel_rfl) rfl rfl) rfl (by decide) ?_
  refine lsw (want_none (by rfl)) (y_assign rfl rfl) rfl (by decide) ?_
  refine lg_nil ?_
  refine nx (E' := [(4, _)]) (fk rfl fn) ?_
  refine cg_ret ?_
  exact eg_ret_tmp rfl rfl ⟨rfl, rfl⟩
theorem told_sibling (x w : Int) (W : World) (rg : Tb W) : Calls Tryd.prog 34 #[nv x, nv w, .func (.func 44) #[] #[]] W fun e w' => e = .returned (nv (sibI x w)) ∧ w' = W := by
  by_cases hn : isN x w
  · refine calls_cg (n := 15) Tryd.func34 rfl Tryd.ntmps34 (by simp) ?_
    show CG _ _ _ [(0, nv x), (1, nv w), (2, .func (.func 44) #[] #[])] _ _
    refine cg_seq ?_
    refine cg_region ?_
    refine lsw (want_none (by rfl)) (y_assign rfl rfl) rfl (by decide) ?_
    refine lg_nil ?_
    refine nx (E' := [(0, _), (1, _), (2, _), (6, _)]) (fk rfl (fk rfl (fk rfl (fk rfl fn)))) ?_
    refine cg_seq ?_
    refine cg_seq ?_
    refine cg_region ?_
    refine lsw (want_none (by rfl)) (y_move rfl rfl) rfl (by decide) ?_
    refine lsw (want_none (by rfl)) (y_move rfl rfl) rfl (by decide) ?_
    have f1 : isN x w := fin2 (p := fun x w => isN x w) (by kernel_rfl) hn
    refine lsw (want_none (by rfl)) (yb (decide_eq_true f1) (y_call (is_any x w _ rg) (by kernel_rfl) rfl rfl)) rfl (by decide) ?_
    refine lsw (want_none (by rfl)) (y_bnot rfl rfl) rfl (by decide) ?_
    refine lg_nil ?_
    refine nx (E' := [(0, _), (1, _), (2, _), (6, _), (10, _)]) (fk rfl (fk rfl (fk rfl (fk rfl (fk rfl fn))))) ?_
    refine cg_cf rfl ?_
    refine cg_skip ?_
    refine nx (E' := [(0, _), (1, _), (2, _), (6, _)]) (fk rfl (fk rfl (fk rfl (fk rfl fn)))) ?_
    refine cg_seq ?_
    refine cg_region ?_
    refine lsw (want_none (by rfl)) (y_move rfl rfl) rfl (by decide) ?_
    refine lsw (want_none (by rfl)) (y_move rfl rfl) rfl (by decide) ?_
    refine lsw (want_none (by rfl)) (y_move rfl rfl) rfl (by decide) ?_
    have f2 : isN x w := fin2 (p := fun x w => isN x w) (by kernel_rfl) hn
    refine lsw (want_none (by rfl)) (y_callf (tsibling_any w x _ rg f2) (by kernel_rfl) rfl rfl rfl) rfl (by decide) ?_
    refine lsw (want_none (by rfl)) (y_assign rfl rfl) rfl (by decide) ?_
    refine lg_nil ?_
    refine nx (E' := [(6, _)]) (fk rfl fn) ?_
    refine cg_ret ?_
    exact eg_ret_tmp rfl rfl ⟨rfl, rfl⟩
  · refine calls_cg (n := 15) Tryd.func34 rfl Tryd.ntmps34 (by simp) ?_
    show CG _ _ _ [(0, nv x), (1, nv w), (2, .func (.func 44) #[] #[])] _ _
    refine cg_seq ?_
    refine cg_region ?_
    refine lsw (want_none (by rfl)) (y_assign rfl rfl) rfl (by decide) ?_
    refine lg_nil ?_
    refine nx (E' := [(0, _), (1, _), (2, _), (6, _)]) (fk rfl (fk rfl (fk rfl (fk rfl fn)))) ?_
    refine cg_seq ?_
    refine cg_seq ?_
    refine cg_region ?_
    refine lsw (want_none (by rfl)) (y_move rfl rfl) rfl (by decide) ?_
    refine lsw (want_none (by rfl)) (y_move rfl rfl) rfl (by decide) ?_
    refine lsw (want_none (by rfl)) (yb (decide_eq_false hn) (y_call (is_any x w _ rg) (by kernel_rfl) rfl rfl)) rfl (by decide) ?_
    refine lsw (want_none (by rfl)) (y_bnot rfl rfl) rfl (by decide) ?_
    refine lg_nil ?_
    refine nx (E' := [(0, _), (1, _), (2, _), (6, _), (10, _)]) (fk rfl (fk rfl (fk rfl (fk rfl (fk rfl fn))))) ?_
    refine cg_ct rfl ?_
    refine cg_seq ?_
    refine cg_region ?_
    refine lsw (want_none (by rfl)) (y_assign rfl rfl) rfl (by decide) ?_
    refine lg_nil ?_
    refine nx (E' := [(0, _), (1, _), (2, _), (6, _)]) (fk rfl (fk rfl (fk rfl (fk rfl fn)))) ?_
    refine cg_ret ?_
    refine eg_seq_ret ?_
    exact eg_ret_tmp rfl rfl ⟨congrArg (fun k => Ending.returned (nv k)) (sib_no hn).symm, rfl⟩
theorem sibling_any (x w : Int) (W : World) (rg : Tb W) : Calls Tryd.prog 29 #[nv x, nv w] W fun e w' => e = .returned (nv (sibI x w)) ∧ w' = W := by
  refine calls_cg (n := 8) Tryd.func29 rfl Tryd.ntmps29 (by simp) ?_
  show CG _ _ _ [(0, nv x), (1, nv w)] _ _
  refine cg_seq ?_
  refine cg_region ?_
  refine lsw (want_none (by rfl)) (y_assign rfl rfl) rfl (by decide) ?_
  refine lg_nil ?_
  refine nx (E' := [(0, _), (1, _), (4, _)]) (fk rfl (fk rfl (fk rfl fn))) ?_
  refine cg_seq ?_
  refine cg_region ?_
  refine lsw (want_none (by rfl)) (y_move rfl rfl) rfl (by decide) ?_
  refine lsw (want_none (by rfl)) (y_move rfl rfl) rfl (by decide) ?_
  refine lsw (want_none (by rfl)) (y_call (told_sibling x w _ rg) (by kernel_rfl) rfl rfl) rfl (by decide) ?_
  refine lsw (want_none (by rfl)) (y_assign rfl rfl) rfl (by decide) ?_
  refine lg_nil ?_
  refine nx (E' := [(4, _)]) (fk rfl fn) ?_
  refine cg_ret ?_
  exact eg_ret_tmp rfl rfl ⟨rfl, rfl⟩
end Go.Proofs.YtgcneppjdhnacaaDoor
