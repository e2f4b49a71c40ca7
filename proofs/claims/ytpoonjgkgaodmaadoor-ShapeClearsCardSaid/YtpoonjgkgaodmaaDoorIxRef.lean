/-
  Where nodes stand in a row: what the document answers.
-/
import Derived.Test.YtpoonjgkgaodmaaDoorIxBase
namespace Go.Proofs.YtpoonjgkgaodmaaDoor
open Go.ChangeShapes Go.WideShapes Go.ChangeAt Go.RowKit
set_option linter.unusedVariables false
set_option maxRecDepth 20000
/-- Behind t rounds: n is the width at hand, and w is none of those before. -/
def WS (w : Int) (t : Nat) (n : Int) : Prop := ((t = 0 ∧ n = 1) ∨ (t = 1 ∧ n = 3 ∧ w ≠ 1) ∨ (t = 2 ∧ n = 7 ∧ w ≠ 1 ∧ w ≠ 3) ∨ (t = 3 ∧ n = 15 ∧ w ≠ 1 ∧ w ≠ 3 ∧ w ≠ 7) ∨ (t = 4 ∧ n = 31 ∧ w ≠ 1 ∧ w ≠ 3 ∧ w ≠ 7 ∧ w ≠ 15) ∨ (t = 5 ∧ n = 63 ∧ w ≠ 1 ∧ w ≠ 3 ∧ w ≠ 7 ∧ w ≠ 15 ∧ w ≠ 31) ∨ (t = 6 ∧ n = 127 ∧ w ≠ 1 ∧ w ≠ 3 ∧ w ≠ 7 ∧ w ≠ 15 ∧ w ≠ 31 ∧ w ≠ 63) ∨ (t = 7 ∧ n = 255 ∧ w ≠ 1 ∧ w ≠ 3 ∧ w ≠ 7 ∧ w ≠ 15 ∧ w ≠ 31 ∧ w ≠ 63 ∧ w ≠ 127))
theorem WS.next {w n : Int} {t : Nat} (h : WS w t n) (h1 : n ≤ 127) (h2 : ¬ n = w) : t < 7 ∧ WS w (t + 1) (2 * n + 1) := by
  unfold WS at *
  rcases h with h | h | h | h | h | h | h | h
  · exact ⟨by omega, .inr (.inl (by omega))⟩
  · exact ⟨by omega, .inr (.inr (.inl (by omega)))⟩
  · exact ⟨by omega, .inr (.inr (.inr (.inl (by omega))))⟩
  · exact ⟨by omega, .inr (.inr (.inr (.inr (.inl (by omega)))))⟩
  · exact ⟨by omega, .inr (.inr (.inr (.inr (.inr (.inl (by omega))))))⟩
  · exact ⟨by omega, .inr (.inr (.inr (.inr (.inr (.inr (.inl (by omega)))))))⟩
  · exact ⟨by omega, .inr (.inr (.inr (.inr (.inr (.inr (.inr ((by omega))))))))⟩
  · exact absurd h1 (by omega)
theorem WS.yes {w n : Int} {t : Nat} (h : WS w t n) (h1 : n ≤ 127) (h2 : n = w) : isW w := by
  unfold WS at h
  unfold isW
  rcases h with h | h | h | h | h | h | h | h <;> omega
theorem WS.none {w n : Int} {t : Nat} (h : WS w t n) (h1 : ¬ n ≤ 127) : ¬ isW w := by
  unfold WS at h
  unfold isW
  rcases h with h | h | h | h | h | h | h | h <;> omega
theorem rwhole_any (w : Int) (W : World) (rg : Tb W) : Calls Tryd.prog 44 #[nv w] W fun e w' => e = .returned (.bool (decide (isW w))) ∧ w' = W := by
  refine calls_cg (n := 12) Tryd.func44 rfl Tryd.ntmps44 (by simp) ?_
  show CG _ _ _ [(0, nv w)] _ _
  refine cg_seq ?_
  refine cg_region ?_
  refine lsw (want_none (by rfl)) (y_assign rfl rfl) rfl (by decide) ?_
  refine lg_nil ?_
  refine nx (E' := [(0, _), (2, _)]) (fk rfl (fk rfl fn)) ?_
  refine cg_seq ?_
  refine cg_seq ?_
  refine cg_region ?_
  refine lsw (want_none (by rfl)) (y_assign rfl rfl) rfl (by decide) ?_
  refine lg_nil ?_
  refine nx (E' := [(0, _), (2, _), (3, _)]) (fk rfl (fk rfl (fk rfl fn))) ?_
  refine cg_block ?_
  refine cg_loopE (fun t a v => ∃ (n : Int), Holds 12 [(0, nv w), (3, nv n)] a ∧ v = W ∧ Tb v ∧ WS w t n) 7 (fun a ha => ⟨1, ha.keep (fk rfl (fk rfl fn)), rfl, rg, (.inl ⟨rfl, rfl⟩)⟩) ?_
  rintro t a v ht ⟨n, ha, hv, rg, hd⟩
  refine cg_at ha ?_
  clear ha a
  have hb : 1 ≤ n ∧ n ≤ 255 := by unfold WS at hd; rcases hd with h | h | h | h | h | h | h | h <;> omega
  refine cg_seq ?_
  refine cg_seq ?_
  refine cg_region ?_
  refine lsw (want_none (by rfl)) (y_move rfl rfl) rfl (by decide) ?_
  by_cases c1 : n ≤ 127
  · refine lsw (want_none (by rfl)) (yb (decide_eq_true c1) (yi_leq rfl rfl rfl)) rfl (by decide) ?_
    refine lg_nil ?_
    refine nx (E' := [(0, _), (3, _), (4, _), (5, _)]) (fk rfl (fk rfl (fk rfl (fk rfl fn)))) ?_
    refine cg_ct rfl ?_
    refine cg_skip ?_
    refine nx (E' := [(0, _), (3, _), (4, _), (5, _)]) (fk rfl (fk rfl (fk rfl (fk rfl fn)))) ?_
    refine cg_seq ?_
    refine cg_block ?_
    refine cg_seq ?_
    refine cg_region ?_
    refine lsw (want_none (by rfl)) (y_move rfl rfl) rfl (by decide) ?_
    refine lsw (want_none (by rfl)) (y_move rfl rfl) rfl (by decide) ?_
    by_cases c2 : n = w
    · refine lsw (want_none (by rfl)) (yb (decide_eq_true c2) (yi_eql rfl rfl rfl)) rfl (by decide) ?_
      refine lg_nil ?_
      refine nx (E' := [(0, _), (3, _), (4, _), (5, _), (9, _), (10, _), (11, _)]) (fk rfl (fk rfl (fk rfl (fk rfl (fk rfl (fk rfl (fk rfl fn))))))) ?_
      refine cg_ct rfl ?_
      refine cg_seq ?_
      refine cg_region ?_
      refine lsw (want_none (by rfl)) (y_assign rfl rfl) rfl (by decide) ?_
      refine lg_nil ?_
      refine nx (E' := [(0, _), (3, _), (4, _), (5, _), (9, _), (10, _), (11, _), (2, _)]) (fk rfl (fk rfl (fk rfl (fk rfl (fk rfl (fk rfl (fk rfl (fk rfl fn)))))))) ?_
      refine cg_ret ?_
      refine eg_block_ret ?_
      refine eg_seq_ret ?_
      refine eg_seq_ret ?_
      refine eg_block_ret ?_
      refine eg_seq_ret ?_
      exact eg_ret_tmp rfl rfl ⟨congrArg (fun b => Ending.returned (Value.bool b)) (decide_eq_true (hd.yes c1 c2)).symm, hv⟩
    · refine lsw (want_none (by rfl)) (yb (decide_eq_false c2) (yi_eql rfl rfl rfl)) rfl (by decide) ?_
      refine lg_nil ?_
      refine nx (E' := [(0, _), (3, _), (4, _), (5, _), (9, _), (10, _), (11, _)]) (fk rfl (fk rfl (fk rfl (fk rfl (fk rfl (fk rfl (fk rfl fn))))))) ?_
      refine cg_cf rfl ?_
      refine cg_skip ?_
      refine eg_block_norm ?_
      refine nx (E' := [(0, _), (3, _), (4, _), (5, _), (9, _), (10, _), (11, _)]) (fk rfl (fk rfl (fk rfl (fk rfl (fk rfl (fk rfl (fk rfl fn))))))) ?_
      refine cg_region ?_
      refine lsw (want_none (by rfl)) (y_move rfl rfl) rfl (by decide) ?_
      refine lsw (want_none (by rfl)) (yi_mul rfl rfl rfl (by omega) (by omega)) rfl (by decide) ?_
      refine lsw (want_none (by rfl)) (yi_add rfl rfl rfl (by omega) (by omega)) rfl (by decide) ?_
      refine lsw (want_none (by rfl)) (y_assign rfl rfl) rfl (by decide) ?_
      refine lg_nil ?_
      have hq := hd.next c1 c2
      exact fun a ha => (show t < 7 ∧ _ from ⟨hq.1, (2 * n + 1), ha.keep (fk rfl (fk rfl fn)), hv, rg, hq.2⟩)
  · refine lsw (want_none (by rfl)) (yb (decide_eq_false c1) (yi_leq rfl rfl rfl)) rfl (by decide) ?_
    refine lg_nil ?_
    refine nx (E' := [(0, _), (3, _), (4, _), (5, _)]) (fk rfl (fk rfl (fk rfl (fk rfl fn)))) ?_
    refine cg_cf rfl ?_
    refine cg_exit ?_
    refine eg_seq_exit ?_
    refine eg_seq_exit ?_
    refine eg_block_exit ?_
    refine nx (E' := []) fn ?_
    refine cg_seq ?_
    refine cg_region ?_
    refine lsw (want_none (by rfl)) (y_assign rfl rfl) rfl (by decide) ?_
    refine lg_nil ?_
    refine nx (E' := [(2, _)]) (fk rfl fn) ?_
    refine cg_ret ?_
    exact eg_ret_tmp rfl rfl ⟨congrArg (fun b => Ending.returned (Value.bool b)) (decide_eq_false (hd.none c1)).symm, hv⟩
theorem ris_any (x w : Int) (W : World) (rg : Tb W) : Calls Tryd.prog 72 #[nv x, nv w] W fun e w' => e = .returned (.bool (decide (isN x w))) ∧ w' = W := by
  refine calls_cg (n := 16) Tryd.func72 rfl Tryd.ntmps72 (by simp) ?_
  show CG _ _ _ [(0, nv x), (1, nv w)] _ _
  refine cg_seq ?_
  refine cg_region ?_
  refine lsw (want_none (by rfl)) (y_assign rfl rfl) rfl (by decide) ?_
  refine lg_nil ?_
  refine nx (E' := [(0, _), (1, _), (4, _)]) (fk rfl (fk rfl (fk rfl fn))) ?_
  refine cg_seq ?_
  refine cg_region ?_
  refine lsw (want_none (by rfl)) (y_move rfl rfl) rfl (by decide) ?_
  by_cases c1 : isW w
  · refine lsw (want_none (by rfl)) (yb (decide_eq_true c1) (y_call (rwhole_any w _ rg) (by kernel_rfl) rfl rfl)) rfl (by decide) ?_
    refine lsw (want_none (by rfl)) (y_move rfl rfl) rfl (by decide) ?_
    refine lsw (want_t (dj := 7) (by rfl) (by kernel_rfl) rfl) (y_move rfl rfl) rfl (by decide) ?_
    by_cases c2 : 0 ≤ x
    · refine lsw (want_t (dj := 7) (by rfl) (by kernel_rfl) rfl) (yb (decide_eq_true c2) (yi_geq rfl rfl rfl)) rfl (by decide) ?_
      refine lsw (want_none (by rfl)) (y_pick true rfl rfl rfl) rfl (by decide) ?_
      refine lsw (want_none (by rfl)) (y_move rfl rfl) rfl (by decide) ?_
      refine lsw (want_t (dj := 11) (by rfl) (by kernel_rfl) rfl) (y_move rfl rfl) rfl (by decide) ?_
      refine lsw (want_t (dj := 11) (by rfl) (by kernel_rfl) rfl) (y_move rfl rfl) rfl (by decide) ?_
      by_cases c3 : x < w
      · refine lsw (want_t (dj := 11) (by rfl) (by kernel_rfl) rfl) (yb (decide_eq_true c3) (yi_lss rfl rfl rfl)) rfl (by decide) ?_
        refine lsw (want_none (by rfl)) (y_pick true rfl rfl rfl) rfl (by decide) ?_
        refine lsw (want_none (by rfl)) (y_assign rfl rfl) rfl (by decide) ?_
        refine lg_nil ?_
        refine nx (E' := [(4, _)]) (fk rfl fn) ?_
        refine cg_ret ?_
        exact eg_ret_tmp rfl rfl ⟨congrArg (fun b => Ending.returned (Value.bool b)) (by simp [isN, *]), rfl⟩
      · refine lsw (want_t (dj := 11) (by rfl) (by kernel_rfl) rfl) (yb (decide_eq_false c3) (yi_lss rfl rfl rfl)) rfl (by decide) ?_
        refine lsw (want_none (by rfl)) (y_pick true rfl rfl rfl) rfl (by decide) ?_
        refine lsw (want_none (by rfl)) (y_assign rfl rfl) rfl (by decide) ?_
        refine lg_nil ?_
        refine nx (E' := [(4, _)]) (fk rfl fn) ?_
        refine cg_ret ?_
        exact eg_ret_tmp rfl rfl ⟨congrArg (fun b => Ending.returned (Value.bool b)) (by simp [isN, *]), rfl⟩
    · refine lsw (want_t (dj := 7) (by rfl) (by kernel_rfl) rfl) (yb (decide_eq_false c2) (yi_geq rfl rfl rfl)) rfl (by decide) ?_
      refine lsw (want_none (by rfl)) (y_pick true rfl rfl rfl) rfl (by decide) ?_
      refine lsw (want_none (by rfl)) (y_move rfl rfl) rfl (by decide) ?_
      refine lsk (want_f (dj := 11) (by rfl) (by kernel_rfl) rfl) rfl (by decide) ?_
      refine lsk (want_f (dj := 11) (by rfl) (by kernel_rfl) rfl) rfl (by decide) ?_
      refine lsk (want_f (dj := 11) (by rfl) (by kernel_rfl) rfl) rfl (by decide) ?_
      refine lsw (want_none (by rfl)) (y_pick false rfl rfl rfl) rfl (by decide) ?_
      refine lsw (want_none (by rfl)) (y_assign rfl rfl) rfl (by decide) ?_
      refine lg_nil ?_
      refine nx (E' := [(4, _)]) (fk rfl fn) ?_
      refine cg_ret ?_
      exact eg_ret_tmp rfl rfl ⟨congrArg (fun b => Ending.returned (Value.bool b)) (by simp [isN, *]), rfl⟩
  · refine lsw (want_none (by rfl)) (yb (decide_eq_false c1) (y_call (rwhole_any w _ rg) (by kernel_rfl) rfl rfl)) rfl (by decide) ?_
    refine lsw (want_none (by rfl)) (y_move rfl rfl) rfl (by decide) ?_
    refine lsk (want_f (dj := 7) (by rfl) (by kernel_rfl) rfl) rfl (by decide) ?_
    refine lsk (want_f (dj := 7) (by rfl) (by kernel_rfl) rfl) rfl (by decide) ?_
    refine lsw (want_none (by rfl)) (y_pick false rfl rfl rfl) rfl (by decide) ?_
    refine lsw (want_none (by rfl)) (y_move rfl rfl) rfl (by decide) ?_
    refine lsk (want_f (dj := 11) (by rfl) (by kernel_rfl) rfl) rfl (by decide) ?_
    refine lsk (want_f (dj := 11) (by rfl) (by kernel_rfl) rfl) rfl (by decide) ?_
    refine lsk (want_f (dj := 11) (by rfl) (by kernel_rfl) rfl) rfl (by decide) ?_
    refine lsw (want_none (by rfl)) (y_pick false rfl rfl rfl) rfl (by decide) ?_
    refine lsw (want_none (by rfl)) (y_assign rfl rfl) rfl (by decide) ?_
    refine lg_nil ?_
    refine nx (E' := [(4, _)]) (fk rfl fn) ?_
    refine cg_ret ?_
    exact eg_ret_tmp rfl rfl ⟨congrArg (fun b => Ending.returned (Value.bool b)) (by simp [isN, *]), rfl⟩
theorem rlevel_any (x : Int) (W : World) (rg : Tb W) : Calls Tryd.prog 74 #[nv x] W fun e w' => e = .returned (nv (lvl x)) ∧ w' = W := by
  by_cases h0 : x < 0
  · refine calls_cg (n := 18) Tryd.func74 rfl Tryd.ntmps74 (by simp) ?_
    show CG _ _ _ [(0, nv x)] _ _
    refine cg_seq ?_
    refine cg_region ?_
    refine lsw (want_none (by rfl)) (y_assign rfl rfl) rfl (by decide) ?_
    refine lg_nil ?_
    refine nx (E' := [(0, _), (2, _)]) (fk rfl (fk rfl fn)) ?_
    refine cg_seq ?_
    refine cg_seq ?_
    refine cg_region ?_
    refine lsw (want_none (by rfl)) (y_move rfl rfl) rfl (by decide) ?_
    refine lsw (want_none (by rfl)) (yb (decide_eq_true h0) (yi_lss rfl rfl rfl)) rfl (by decide) ?_
    refine lsw (want_none (by rfl)) (y_move rfl rfl) rfl (by decide) ?_
    refine lsk (want_f (dj := 6) (by rfl) (by kernel_rfl) rfl) rfl (by decide) ?_
    refine lsk (want_f (dj := 6) (by rfl) (by kernel_rfl) rfl) rfl (by decide) ?_
    refine lsw (want_none (by rfl)) (y_pick true rfl rfl rfl) rfl (by decide) ?_
    refine lg_nil ?_
    refine nx (E' := [(0, _), (2, _), (9, _)]) (fk rfl (fk rfl (fk rfl fn))) ?_
    refine cg_ct rfl ?_
    refine cg_seq ?_
    refine cg_region ?_
    refine lsw (want_none (by rfl)) (y_assign rfl rfl) rfl (by decide) ?_
    refine lg_nil ?_
    refine nx (E' := [(0, _), (2, _)]) (fk rfl (fk rfl fn)) ?_
    refine cg_ret ?_
    refine eg_seq_ret ?_
    exact eg_ret_tmp rfl rfl ⟨congrArg (fun k => Ending.returned (nv k)) (lvl_no (by unfold isL; omega)).symm, rfl⟩
  by_cases h1 : 126 < x
  · refine calls_cg (n := 18) Tryd.func74 rfl Tryd.ntmps74 (by simp) ?_
    show CG _ _ _ [(0, nv x)] _ _
    refine cg_seq ?_
    refine cg_region ?_
    refine lsw (want_none (by rfl)) (y_assign rfl rfl) rfl (by decide) ?_
    refine lg_nil ?_
    refine nx (E' := [(0, _), (2, _)]) (fk rfl (fk rfl fn)) ?_
    refine cg_seq ?_
    refine cg_seq ?_
    refine cg_region ?_
    refine lsw (want_none (by rfl)) (y_move rfl rfl) rfl (by decide) ?_
    refine lsw (want_none (by rfl)) (yb (decide_eq_false h0) (yi_lss rfl rfl rfl)) rfl (by decide) ?_
    refine lsw (want_none (by rfl)) (y_move rfl rfl) rfl (by decide) ?_
    refine lsw (want_t (dj := 6) (by rfl) (by kernel_rfl) rfl) (y_move rfl rfl) rfl (by decide) ?_
    refine lsw (want_t (dj := 6) (by rfl) (by kernel_rfl) rfl) (yb (decide_eq_true h1) (yi_gtr rfl rfl rfl)) rfl (by decide) ?_
    refine lsw (want_none (by rfl)) (y_pick false rfl rfl rfl) rfl (by decide) ?_
    refine lg_nil ?_
    refine nx (E' := [(0, _), (2, _), (9, _)]) (fk rfl (fk rfl (fk rfl fn))) ?_
    refine cg_ct rfl ?_
    refine cg_seq ?_
    refine cg_region ?_
    refine lsw (want_none (by rfl)) (y_assign rfl rfl) rfl (by decide) ?_
    refine lg_nil ?_
    refine nx (E' := [(0, _), (2, _)]) (fk rfl (fk rfl fn)) ?_
    refine cg_ret ?_
    refine eg_seq_ret ?_
    exact eg_ret_tmp rfl rfl ⟨congrArg (fun k => Ending.returned (nv k)) (lvl_no (by unfold isL; omega)).symm, rfl⟩
  have hx : isL x := ⟨by omega, by omega⟩
  have h6 := fin1 (p := fun x => lvl x ≤ 6) (by kernel_rfl) hx
  refine calls_cg (n := 18) Tryd.func74 rfl Tryd.ntmps74 (by simp) ?_
  show CG _ _ _ [(0, nv x)] _ _
  refine cg_seq ?_
  refine cg_region ?_
  refine lsw (want_none (by rfl)) (y_assign rfl rfl) rfl (by decide) ?_
  refine lg_nil ?_
  refine nx (E' := [(0, _), (2, _)]) (fk rfl (fk rfl fn)) ?_
  refine cg_seq ?_
  refine cg_seq ?_
  refine cg_region ?_
  refine lsw (want_none (by rfl)) (y_move rfl rfl) rfl (by decide) ?_
  refine lsw (want_none (by rfl)) (yb (decide_eq_false h0) (yi_lss rfl rfl rfl)) rfl (by decide) ?_
  refine lsw (want_none (by rfl)) (y_move rfl rfl) rfl (by decide) ?_
  refine lsw (want_t (dj := 6) (by rfl) (by kernel_rfl) rfl) (y_move rfl rfl) rfl (by decide) ?_
  refine lsw (want_t (dj := 6) (by rfl) (by kernel_rfl) rfl) (yb (decide_eq_false h1) (yi_gtr rfl rfl rfl)) rfl (by decide) ?_
  refine lsw (want_none (by rfl)) (y_pick false rfl rfl rfl) rfl (by decide) ?_
  refine lg_nil ?_
  refine nx (E' := [(0, _), (2, _), (9, _)]) (fk rfl (fk rfl (fk rfl fn))) ?_
  refine cg_cf rfl ?_
  refine cg_skip ?_
  refine nx (E' := [(0, _), (2, _)]) (fk rfl (fk rfl fn)) ?_
  refine cg_seq ?_
  refine cg_region ?_
  refine lsw (want_none (by rfl)) (y_assign rfl rfl) rfl (by decide) ?_
  refine lg_nil ?_
  refine nx (E' := [(0, _), (2, _), (3, _)]) (fk rfl (fk rfl (fk rfl fn))) ?_
  refine cg_seq ?_
  refine cg_block ?_
  refine cg_loopE (fun t a v => ∃ (y : Int) (k : Int), Holds 18 [(0, nv y), (3, nv k)] a ∧ v = W ∧ Tb v ∧ isL y ∧ k = (t : Int) ∧ k + lvl y = lvl x) 7 (fun a ha => ⟨x, 0, ha.keep (fk rfl (fk rfl fn)), rfl, rg, hx, rfl, (Int.zero_add _)⟩) ?_
  rintro t a v ht ⟨y, k, ha, hv, rg, hy, hk, hl⟩
  refine cg_at ha ?_
  clear ha a
  refine cg_seq ?_
  refine cg_seq ?_
  refine cg_region ?_
  refine lsw (want_none (by rfl)) (y_move rfl rfl) rfl (by decide) ?_
  have f1 : 0 ≤ y := fin1 (p := fun y => 0 ≤ y) (by kernel_rfl) hy
  refine lsw (want_none (by rfl)) (yi_rem rfl rfl rfl f1 (by decide)) rfl (by decide) ?_
  by_cases c2 : (y % 2) = 1
  · have f3 : (y % 2) = 1 := fin1 (p := fun y => (y % 2) = 1 → (y % 2) = 1) (by kernel_rfl) hy c2
    refine lsw (want_none (by rfl)) (yb (decide_eq_true f3) (yi_eql rfl rfl rfl)) rfl (by decide) ?_
    refine lg_nil ?_
    refine nx (E' := [(0, _), (3, _), (10, _), (11, _), (12, _)]) (fk rfl (fk rfl (fk rfl (fk rfl (fk rfl fn))))) ?_
    refine cg_ct rfl ?_
    refine cg_skip ?_
    refine nx (E' := [(0, _), (3, _), (10, _), (11, _), (12, _)]) (fk rfl (fk rfl (fk rfl (fk rfl (fk rfl fn))))) ?_
    refine cg_block ?_
    refine cg_seq ?_
    refine cg_region ?_
    refine lsw (want_none (by rfl)) (y_move rfl rfl) rfl (by decide) ?_
    refine lsw (want_none (by rfl)) (yi_add rfl rfl rfl (by omega) (by omega)) rfl (by decide) ?_
    refine lsw (want_none (by rfl)) (y_assign rfl rfl) rfl (by decide) ?_
    refine lg_nil ?_
    refine nx (E' := [(0, _), (10, _), (11, _), (12, _), (13, _), (14, _), (3, _)]) (fk rfl (fk rfl (fk rfl (fk rfl (fk rfl (fk rfl (fk rfl fn))))))) ?_
    refine cg_region ?_
    refine lsw (want_none (by rfl)) (y_move rfl rfl) rfl (by decide) ?_
    have f4 : 0 ≤ y := fin1 (p := fun y => (y % 2) = 1 → 0 ≤ y) (by kernel_rfl) hy c2
    have f5 : y < 9223372036854775808 := fin1 (p := fun y => (y % 2) = 1 → y < 9223372036854775808) (by kernel_rfl) hy c2
    refine lsw (want_none (by rfl)) (yi_quo rfl rfl rfl f4 (by decide) f5) rfl (by decide) ?_
    refine lsw (want_none (by rfl)) (y_assign rfl rfl) rfl (by decide) ?_
    refine lg_nil ?_
    refine eg_block_norm ?_
    have f6 : 1 ≤ lvl y ∧ isL (y / 2) ∧ lvl y = lvl (y / 2) + 1 := fin1 (p := fun y => (y % 2) = 1 → 1 ≤ lvl y ∧ isL (y / 2) ∧ lvl y = lvl (y / 2) + 1) (by kernel_rfl) hy c2
    exact fun a ha => (show t < 7 ∧ _ from ⟨(by omega), (y / 2), (k + 1), ha.keep (fk rfl (fk rfl fn)), hv, rg, f6.2.1, (by omega), (by omega)⟩)
  · have f7 : ¬ ((y % 2) = 1) := fin1 (p := fun y => ¬ ((y % 2) = 1) → ¬ ((y % 2) = 1)) (by kernel_rfl) hy c2
    refine lsw (want_none (by rfl)) (yb (decide_eq_false f7) (yi_eql rfl rfl rfl)) rfl (by decide) ?_
    refine lg_nil ?_
    refine nx (E' := [(0, _), (3, _), (10, _), (11, _), (12, _)]) (fk rfl (fk rfl (fk rfl (fk rfl (fk rfl fn))))) ?_
    refine cg_cf rfl ?_
    refine cg_exit ?_
    refine eg_seq_exit ?_
    refine eg_seq_exit ?_
    refine eg_block_exit ?_
    refine nx (E' := [(3, _)]) (fk rfl fn) ?_
    refine cg_seq ?_
    refine cg_region ?_
    refine lsw (want_none (by rfl)) (y_move rfl rfl) rfl (by decide) ?_
    refine lsw (want_none (by rfl)) (y_assign rfl rfl) rfl (by decide) ?_
    refine lg_nil ?_
    refine nx (E' := [(2, _)]) (fk rfl fn) ?_
    refine cg_ret ?_
    have f8 : lvl y = 0 := fin1 (p := fun y => ¬ ((y % 2) = 1) → lvl y = 0) (by kernel_rfl) hy c2
    exact eg_ret_tmp rfl rfl ⟨congrArg (fun k => Ending.returned (nv k)) (show k = lvl x by omega), hv⟩
theorem rpower_any (k : Int) (W : World) (rg : Tb W) (hk : 0 ≤ k ∧ k ≤ 20) : Calls Tryd.prog 75 #[nv k] W fun e w' => e = .returned (nv (pw k)) ∧ w' = W := by
  refine calls_cg (n := 13) Tryd.func75 rfl Tryd.ntmps75 (by simp) ?_
  show CG _ _ _ [(0, nv k)] _ _
  refine cg_seq ?_
  refine cg_region ?_
  refine lsw (want_none (by rfl)) (y_assign rfl rfl) rfl (by decide) ?_
  refine lg_nil ?_
  refine nx (E' := [(0, _), (2, _)]) (fk rfl (fk rfl fn)) ?_
  refine cg_seq ?_
  refine cg_region ?_
  refine lsw (want_none (by rfl)) (y_assign rfl rfl) rfl (by decide) ?_
  refine lg_nil ?_
  refine nx (E' := [(0, _), (2, _), (3, _)]) (fk rfl (fk rfl (fk rfl fn))) ?_
  refine cg_seq ?_
  refine cg_seq ?_
  refine cg_region ?_
  refine lsw (want_none (by rfl)) (y_assign rfl rfl) rfl (by decide) ?_
  refine lg_nil ?_
  refine nx (E' := [(0, _), (2, _), (3, _), (4, _)]) (fk rfl (fk rfl (fk rfl (fk rfl fn)))) ?_
  refine cg_block ?_
  refine cg_loopE (fun t a v => ∃ (n : Int) (i : Int), Holds 13 [(0, nv k), (3, nv n), (4, nv i)] a ∧ v = W ∧ Tb v ∧ i = (t : Int) ∧ n = pw (t : Int) ∧ i ≤ k) k.toNat (fun a ha => ⟨1, 0, ha.keep (fk rfl (fk rfl (fk rfl fn))), rfl, rg, rfl, rfl, hk.1⟩) ?_
  rintro t a v ht ⟨n, i, ha, hv, rg, hi, hp, hik⟩
  refine cg_at ha ?_
  clear ha a
  have hb := pw_bound (k := t) (by omega)
  refine cg_seq ?_
  refine cg_seq ?_
  refine cg_region ?_
  refine lsw (want_none (by rfl)) (y_move rfl rfl) rfl (by decide) ?_
  refine lsw (want_none (by rfl)) (y_move rfl rfl) rfl (by decide) ?_
  by_cases c1 : i < k
  · refine lsw (want_none (by rfl)) (yb (decide_eq_true c1) (yi_lss rfl rfl rfl)) rfl (by decide) ?_
    refine lg_nil ?_
    refine nx (E' := [(0, _), (3, _), (4, _), (5, _), (6, _), (7, _)]) (fk rfl (fk rfl (fk rfl (fk rfl (fk rfl (fk rfl fn)))))) ?_
    refine cg_ct rfl ?_
    refine cg_skip ?_
    refine nx (E' := [(0, _), (3, _), (4, _), (5, _), (6, _), (7, _)]) (fk rfl (fk rfl (fk rfl (fk rfl (fk rfl (fk rfl fn)))))) ?_
    refine cg_seq ?_
    refine cg_block ?_
    refine cg_region ?_
    refine lsw (want_none (by rfl)) (y_move rfl rfl) rfl (by decide) ?_
    refine lsw (want_none (by rfl)) (yi_mul rfl rfl rfl (by omega) (by omega)) rfl (by decide) ?_
    refine lsw (want_none (by rfl)) (y_assign rfl rfl) rfl (by decide) ?_
    refine lg_nil ?_
    refine eg_block_norm ?_
    refine nx (E' := [(0, _), (4, _), (5, _), (6, _), (7, _), (10, _), (11, _), (3, _)]) (fk rfl (fk rfl (fk rfl (fk rfl (fk rfl (fk rfl (fk rfl (fk rfl fn)))))))) ?_
    refine cg_region ?_
    refine lsw (want_none (by rfl)) (y_move rfl rfl) rfl (by decide) ?_
    refine lsw (want_none (by rfl)) (yi_add rfl rfl rfl (by omega) (by omega)) rfl (by decide) ?_
    refine lsw (want_none (by rfl)) (y_assign rfl rfl) rfl (by decide) ?_
    refine lg_nil ?_
    exact fun a ha => (show t < k.toNat ∧ _ from ⟨(by omega), (2 * n), (i + 1), ha.keep (fk rfl (fk rfl (fk rfl fn))), hv, rg, (by omega), (by rw [hp]; exact pw_succ.symm), (by omega)⟩)
  · refine lsw (want_none (by rfl)) (yb (decide_eq_false c1) (yi_lss rfl rfl rfl)) rfl (by decide) ?_
    refine lg_nil ?_
    refine nx (E' := [(0, _), (3, _), (4, _), (5, _), (6, _), (7, _)]) (fk rfl (fk rfl (fk rfl (fk rfl (fk rfl (fk rfl fn)))))) ?_
    refine cg_cf rfl ?_
    refine cg_exit ?_
    refine eg_seq_exit ?_
    refine eg_seq_exit ?_
    refine eg_block_exit ?_
    refine nx (E' := [(3, _)]) (fk rfl fn) ?_
    refine cg_seq ?_
    refine cg_region ?_
    refine lsw (want_none (by rfl)) (y_move rfl rfl) rfl (by decide) ?_
    refine lsw (want_none (by rfl)) (y_assign rfl rfl) rfl (by decide) ?_
    refine lg_nil ?_
    refine nx (E' := [(2, _)]) (fk rfl fn) ?_
    refine cg_ret ?_
    exact eg_ret_tmp rfl rfl ⟨congrArg (fun k => Ending.returned (nv k)) (show n = pw k by rw [hp, show k = (t : Int) by omega]), hv⟩
theorem rroot_any (w : Int) (W : World) (rg : Tb W) : Calls Tryd.prog 73 #[nv w] W fun e w' => e = .returned (nv (rootI w)) ∧ w' = W := by
  by_cases hw : isW w
  · refine calls_cg (n := 9) Tryd.func73 rfl Tryd.ntmps73 (by simp) ?_
    show CG _ _ _ [(0, nv w)] _ _
    refine cg_seq ?_
    refine cg_region ?_
    refine lsw (want_none (by rfl)) (y_assign rfl rfl) rfl (by decide) ?_
    refine lg_nil ?_
    refine nx (E' := [(0, _), (2, _)]) (fk rfl (fk rfl fn)) ?_
    refine cg_seq ?_
    refine cg_seq ?_
    refine cg_region ?_
    refine lsw (want_none (by rfl)) (y_move rfl rfl) rfl (by decide) ?_
    have f1 : isW w := fin0 (p := fun w => isW w) (by kernel_rfl) hw
    refine lsw (want_none (by rfl)) (yb (decide_eq_true f1) (y_call (rwhole_any w _ rg) (by kernel_rfl) rfl rfl)) rfl (by decide) ?_
    refine lsw (want_none (by rfl)) (y_bnot rfl rfl) rfl (by decide) ?_
    refine lg_nil ?_
    refine nx (E' := [(0, _), (2, _), (5, _)]) (fk rfl (fk rfl (fk rfl fn))) ?_
    refine cg_cf rfl ?_
    refine cg_skip ?_
    refine nx (E' := [(0, _), (2, _)]) (fk rfl (fk rfl fn)) ?_
    refine cg_seq ?_
    refine cg_region ?_
    refine lsw (want_none (by rfl)) (y_move rfl rfl) rfl (by decide) ?_
    have f2 : -9223372036854775808 ≤ (w - 1) ∧ (w - 1) < 9223372036854775808 := fin0 (p := fun w => -9223372036854775808 ≤ (w - 1) ∧ (w - 1) < 9223372036854775808) (by kernel_rfl) hw
    refine lsw (want_none (by rfl)) (yi_sub rfl rfl rfl f2.1 f2.2) rfl (by decide) ?_
    have f3 : 0 ≤ (w - 1) := fin0 (p := fun w => 0 ≤ (w - 1)) (by kernel_rfl) hw
    have f4 : (w - 1) < 9223372036854775808 := fin0 (p := fun w => (w - 1) < 9223372036854775808) (by kernel_rfl) hw
    refine lsw (want_none (by rfl)) (yi_quo rfl rfl rfl f3 (by decide) f4) rfl (by decide) ?_
    refine lsw (want_none (by rfl)) (y_assign rfl rfl) rfl (by decide) ?_
    refine lg_nil ?_
    refine nx (E' := [(2, _)]) (fk rfl fn) ?_
    refine cg_ret ?_
    have f5 : ((w - 1) / 2) = rootI w := fin0 (p := fun w => ((w - 1) / 2) = rootI w) (by kernel_rfl) hw
    exact eg_ret_tmp rfl rfl ⟨congrArg (fun k => Ending.returned (nv k)) f5, rfl⟩
  · refine calls_cg (n := 9) Tryd.func73 rfl Tryd.ntmps73 (by simp) ?_
    show CG _ _ _ [(0, nv w)] _ _
    refine cg_seq ?_
    refine cg_region ?_
    refine lsw (want_none (by rfl)) (y_assign rfl rfl) rfl (by decide) ?_
    refine lg_nil ?_
    refine nx (E' := [(0, _), (2, _)]) (fk rfl (fk rfl fn)) ?_
    refine cg_seq ?_
    refine cg_seq ?_
    refine cg_region ?_
    refine lsw (want_none (by rfl)) (y_move rfl rfl) rfl (by decide) ?_
    refine lsw (want_none (by rfl)) (yb (decide_eq_false hw) (y_call (rwhole_any w _ rg) (by kernel_rfl) rfl rfl)) rfl (by decide) ?_
    refine lsw (want_none (by rfl)) (y_bnot rfl rfl) rfl (by decide) ?_
    refine lg_nil ?_
    refine nx (E' := [(0, _), (2, _), (5, _)]) (fk rfl (fk rfl (fk rfl fn))) ?_
    refine cg_ct rfl ?_
    refine cg_seq ?_
    refine cg_region ?_
    refine lsw (want_none (by rfl)) (y_assign rfl rfl) rfl (by decide) ?_
    refine lg_nil ?_
    refine nx (E' := [(0, _), (2, _)]) (fk rfl (fk rfl fn)) ?_
    refine cg_ret ?_
    refine eg_seq_ret ?_
    exact eg_ret_tmp rfl rfl ⟨congrArg (fun k => Ending.returned (nv k)) (root_no hw).symm, rfl⟩
theorem rparent_any (x w : Int) (W : World) (rg : Tb W) : Calls Tryd.prog 58 #[nv x, nv w] W fun e w' => e = .returned (nv (parI x w)) ∧ w' = W := by
  by_cases hn : isN x w
  · refine calls_cg (n := 33) Tryd.func58 rfl Tryd.ntmps58 (by simp) ?_
    show CG _ _ _ [(0, nv x), (1, nv w)] _ _
    refine cg_seq ?_
    refine cg_region ?_
    refine lsw (want_none (by rfl)) (y_assign rfl rfl) rfl (by decide) ?_
    refine lg_nil ?_
    refine nx (E' := [(0, _), (1, _), (4, _)]) (fk rfl (fk rfl (fk rfl fn))) ?_
    refine cg_seq ?_
    refine cg_seq ?_
    refine cg_region ?_
    refine lsw (want_none (by rfl)) (y_move rfl rfl) rfl (by decide) ?_
    refine lsw (want_none (by rfl)) (y_move rfl rfl) rfl (by decide) ?_
    have f1 : isN x w := fin2 (p := fun x w => isN x w) (by kernel_rfl) hn
    refine lsw (want_none (by rfl)) (yb (decide_eq_true f1) (y_call (ris_any x w _ rg) (by kernel_rfl) rfl rfl)) rfl (by decide) ?_
    refine lsw (want_none (by rfl)) (y_bnot rfl rfl) rfl (by decide) ?_
    refine lsw (want_none (by rfl)) (y_move rfl rfl) rfl (by decide) ?_
    refine lsw (want_t (dj := 10) (by rfl) (by kernel_rfl) rfl) (y_move rfl rfl) rfl (by decide) ?_
    refine lsw (want_t (dj := 10) (by rfl) (by kernel_rfl) rfl) (y_move rfl rfl) rfl (by decide) ?_
    refine lsw (want_t (dj := 10) (by rfl) (by kernel_rfl) rfl) (y_call (rroot_any w _ rg) (by kernel_rfl) rfl rfl) rfl (by decide) ?_
    by_cases c2 : x = (rootI w)
    · have f3 : x = (rootI w) := fin2 (p := fun x w => x = (rootI w) → x = (rootI w)) (by kernel_rfl) hn c2
      refine lsw (want_t (dj := 10) (by rfl) (by kernel_rfl) rfl) (yb (decide_eq_true f3) (yi_eql rfl rfl rfl)) rfl (by decide) ?_
      refine lsw (want_none (by rfl)) (y_pick false rfl rfl rfl) rfl (by decide) ?_
      refine lg_nil ?_
      refine nx (E' := [(0, _), (4, _), (15, _)]) (fk rfl (fk rfl (fk rfl fn))) ?_
      refine cg_ct rfl ?_
      refine cg_seq ?_
      refine cg_region ?_
      refine lsw (want_none (by rfl)) (y_assign rfl rfl) rfl (by decide) ?_
      refine lg_nil ?_
      refine nx (E' := [(0, _), (4, _)]) (fk rfl (fk rfl fn)) ?_
      refine cg_ret ?_
      refine eg_seq_ret ?_
      have f4 : (-1) = parI x w := fin2 (p := fun x w => x = (rootI w) → (-1) = parI x w) (by kernel_rfl) hn c2
      exact eg_ret_tmp rfl rfl ⟨congrArg (fun k => Ending.returned (nv k)) f4, rfl⟩
    · have f5 : ¬ (x = (rootI w)) := fin2 (p := fun x w => ¬ (x = (rootI w)) → ¬ (x = (rootI w))) (by kernel_rfl) hn c2
      refine lsw (want_t (dj := 10) (by rfl) (by kernel_rfl) rfl) (yb (decide_eq_false f5) (yi_eql rfl rfl rfl)) rfl (by decide) ?_
      refine lsw (want_none (by rfl)) (y_pick false rfl rfl rfl) rfl (by decide) ?_
      refine lg_nil ?_
      refine nx (E' := [(0, _), (4, _), (15, _)]) (fk rfl (fk rfl (fk rfl fn))) ?_
      refine cg_cf rfl ?_
      refine cg_skip ?_
      refine nx (E' := [(0, _), (4, _)]) (fk rfl (fk rfl fn)) ?_
      refine cg_seq ?_
      refine cg_region ?_
      refine lsw (want_none (by rfl)) (y_move rfl rfl) rfl (by decide) ?_
      refine lsw (want_none (by rfl)) (y_call (rlevel_any x _ rg) (by kernel_rfl) rfl rfl) rfl (by decide) ?_
      refine lsw (want_none (by rfl)) (y_assign rfl rfl) rfl (by decide) ?_
      refine lg_nil ?_
      refine nx (E' := [(0, _), (4, _), (5, _)]) (fk rfl (fk rfl (fk rfl fn))) ?_
      refine cg_seq ?_
      refine cg_seq ?_
      refine cg_region ?_
      refine lsw (want_none (by rfl)) (y_move rfl rfl) rfl (by decide) ?_
      refine lsw (want_none (by rfl)) (y_move rfl rfl) rfl (by decide) ?_
      have f6 : -9223372036854775808 ≤ ((lvl x) + 1) ∧ ((lvl x) + 1) < 9223372036854775808 := fin2 (p := fun x w => ¬ (x = (rootI w)) → -9223372036854775808 ≤ ((lvl x) + 1) ∧ ((lvl x) + 1) < 9223372036854775808) (by kernel_rfl) hn c2
      refine lsw (want_none (by rfl)) (yi_add rfl rfl rfl f6.1 f6.2) rfl (by decide) ?_
      have f7 : 0 ≤ ((lvl x) + 1) ∧ ((lvl x) + 1) ≤ 20 := fin2 (p := fun x w => ¬ (x = (rootI w)) → 0 ≤ ((lvl x) + 1) ∧ ((lvl x) + 1) ≤ 20) (by kernel_rfl) hn c2
      refine lsw (want_none (by rfl)) (y_call (rpower_any ((lvl x) + 1) _ rg f7) (by kernel_rfl) rfl rfl) rfl (by decide) ?_
      have f8 : 0 ≤ x := fin2 (p := fun x w => ¬ (x = (rootI w)) → 0 ≤ x) (by kernel_rfl) hn c2
      have f9 : 0 < (pw ((lvl x) + 1)) := fin2 (p := fun x w => ¬ (x = (rootI w)) → 0 < (pw ((lvl x) + 1))) (by kernel_rfl) hn c2
      have f10 : x < 9223372036854775808 := fin2 (p := fun x w => ¬ (x = (rootI w)) → x < 9223372036854775808) (by kernel_rfl) hn c2
      refine lsw (want_none (by rfl)) (yi_quo rfl rfl rfl f8 f9 f10) rfl (by decide) ?_
      have f11 : 0 ≤ (x / (pw ((lvl x) + 1))) := fin2 (p := fun x w => ¬ (x = (rootI w)) → 0 ≤ (x / (pw ((lvl x) + 1)))) (by kernel_rfl) hn c2
      refine lsw (want_none (by rfl)) (yi_rem rfl rfl rfl f11 (by decide)) rfl (by decide) ?_
      by_cases c12 : ((x / (pw ((lvl x) + 1))) % 2) = 0
      · have f13 : ((x / (pw ((lvl x) + 1))) % 2) = 0 := fin2 (p := fun x w => ¬ (x = (rootI w)) → ((x / (pw ((lvl x) + 1))) % 2) = 0 → ((x / (pw ((lvl x) + 1))) % 2) = 0) (by kernel_rfl) hn c2 c12
        refine lsw (want_none (by rfl)) (yb (decide_eq_true f13) (yi_eql rfl rfl rfl)) rfl (by decide) ?_
        refine lg_nil ?_
        refine nx (E' := [(0, _), (4, _), (5, _), (24, _)]) (fk rfl (fk rfl (fk rfl (fk rfl fn)))) ?_
        refine cg_ct rfl ?_
        refine cg_seq ?_
        refine cg_region ?_
        refine lsw (want_none (by rfl)) (y_move rfl rfl) rfl (by decide) ?_
        refine lsw (want_none (by rfl)) (y_move rfl rfl) rfl (by decide) ?_
        have f14 : 0 ≤ (lvl x) ∧ (lvl x) ≤ 20 := fin2 (p := fun x w => ¬ (x = (rootI w)) → ((x / (pw ((lvl x) + 1))) % 2) = 0 → 0 ≤ (lvl x) ∧ (lvl x) ≤ 20) (by kernel_rfl) hn c2 c12
        refine lsw (want_none (by rfl)) (y_call (rpower_any (lvl x) _ rg f14) (by kernel_rfl) rfl rfl) rfl (by decide) ?_
        have f15 : -9223372036854775808 ≤ (x + (pw (lvl x))) ∧ (x + (pw (lvl x))) < 9223372036854775808 := fin2 (p := fun x w => ¬ (x = (rootI w)) → ((x / (pw ((lvl x) + 1))) % 2) = 0 → -9223372036854775808 ≤ (x + (pw (lvl x))) ∧ (x + (pw (lvl x))) < 9223372036854775808) (by kernel_rfl) hn c2 c12
        refine lsw (want_none (by rfl)) (yi_add rfl rfl rfl f15.1 f15.2) rfl (by decide) ?_
        refine lsw (want_none (by rfl)) (y_assign rfl rfl) rfl (by decide) ?_
        refine lg_nil ?_
        refine nx (E' := [(0, _), (5, _), (4, _)]) (fk rfl (fk rfl (fk rfl fn))) ?_
        refine cg_ret ?_
        refine eg_seq_ret ?_
        have f16 : (x + (pw (lvl x))) = parI x w := fin2 (p := fun x w => ¬ (x = (rootI w)) → ((x / (pw ((lvl x) + 1))) % 2) = 0 → (x + (pw (lvl x))) = parI x w) (by kernel_rfl) hn c2 c12
        exact eg_ret_tmp rfl rfl ⟨congrArg (fun k => Ending.returned (nv k)) f16, rfl⟩
      · have f17 : ¬ (((x / (pw ((lvl x) + 1))) % 2) = 0) := fin2 (p := fun x w => ¬ (x = (rootI w)) → ¬ (((x / (pw ((lvl x) + 1))) % 2) = 0) → ¬ (((x / (pw ((lvl x) + 1))) % 2) = 0)) (by kernel_rfl) hn c2 c12
        refine lsw (want_none (by rfl)) (yb (decide_eq_false f17) (yi_eql rfl rfl rfl)) rfl (by decide) ?_
        refine lg_nil ?_
        refine nx (E' := [(0, _), (4, _), (5, _), (24, _)]) (fk rfl (fk rfl (fk rfl (fk rfl fn)))) ?_
        refine cg_cf rfl ?_
        refine cg_skip ?_
        refine nx (E' := [(0, _), (4, _), (5, _)]) (fk rfl (fk rfl (fk rfl fn))) ?_
        refine cg_seq ?_
        refine cg_region ?_
        refine lsw (want_none (by rfl)) (y_move rfl rfl) rfl (by decide) ?_
        refine lsw (want_none (by rfl)) (y_move rfl rfl) rfl (by decide) ?_
        have f18 : 0 ≤ (lvl x) ∧ (lvl x) ≤ 20 := fin2 (p := fun x w => ¬ (x = (rootI w)) → ¬ (((x / (pw ((lvl x) + 1))) % 2) = 0) → 0 ≤ (lvl x) ∧ (lvl x) ≤ 20) (by kernel_rfl) hn c2 c12
        refine lsw (want_none (by rfl)) (y_call (rpower_any (lvl x) _ rg f18) (by kernel_rfl) rfl rfl) rfl (by decide) ?_
        have f19 : -9223372036854775808 ≤ (x - (pw (lvl x))) ∧ (x - (pw (lvl x))) < 9223372036854775808 := fin2 (p := fun x w => ¬ (x = (rootI w)) → ¬ (((x / (pw ((lvl x) + 1))) % 2) = 0) → -9223372036854775808 ≤ (x - (pw (lvl x))) ∧ (x - (pw (lvl x))) < 9223372036854775808) (by kernel_rfl) hn c2 c12
        refine lsw (want_none (by rfl)) (yi_sub rfl rfl rfl f19.1 f19.2) rfl (by decide) ?_
        refine lsw (want_none (by rfl)) (y_assign rfl rfl) rfl (by decide) ?_
        refine lg_nil ?_
        refine nx (E' := [(4, _)]) (fk rfl fn) ?_
        refine cg_ret ?_
        have f20 : (x - (pw (lvl x))) = parI x w := fin2 (p := fun x w => ¬ (x = (rootI w)) → ¬ (((x / (pw ((lvl x) + 1))) % 2) = 0) → (x - (pw (lvl x))) = parI x w) (by kernel_rfl) hn c2 c12
        exact eg_ret_tmp rfl rfl ⟨congrArg (fun k => Ending.returned (nv k)) f20, rfl⟩
  · refine calls_cg (n := 33) Tryd.func58 rfl Tryd.ntmps58 (by simp) ?_
    show CG _ _ _ [(0, nv x), (1, nv w)] _ _
    refine cg_seq ?_
    refine cg_region ?_
    refine lsw (want_none (by rfl)) (y_assign rfl rfl) rfl (by decide) ?_
    refine lg_nil ?_
    refine nx (E' := [(0, _), (1, _), (4, _)]) (fk rfl (fk rfl (fk rfl fn))) ?_
    refine cg_seq ?_
    refine cg_seq ?_
    refine cg_region ?_
    refine lsw (want_none (by rfl)) (y_move rfl rfl) rfl (by decide) ?_
    refine lsw (want_none (by rfl)) (y_move rfl rfl) rfl (by decide) ?_
    refine lsw (want_none (by rfl)) (yb (decide_eq_false hn) (y_call (ris_any x w _ rg) (by kernel_rfl) rfl rfl)) rfl (by decide) ?_
    refine lsw (want_none (by rfl)) (y_bnot rfl rfl) rfl (by decide) ?_
    refine lsw (want_none (by rfl)) (y_move rfl rfl) rfl (by decide) ?_
    refine lsk (want_f (dj := 10) (by rfl) (by kernel_rfl) rfl) rfl (by decide) ?_
    refine lsk (want_f (dj := 10) (by rfl) (by kernel_rfl) rfl) rfl (by decide) ?_
    refine lsk (want_f (dj := 10) (by rfl) (by kernel_rfl) rfl) rfl (by decide) ?_
    refine lsk (want_f (dj := 10) (by rfl) (by kernel_rfl) rfl) rfl (by decide) ?_
    refine lsw (want_none (by rfl)) (y_pick true rfl rfl rfl) rfl (by decide) ?_
    refine lg_nil ?_
    refine nx (E' := [(0, _), (4, _), (15, _)]) (fk rfl (fk rfl (fk rfl fn))) ?_
    refine cg_ct rfl ?_
    refine cg_seq ?_
    refine cg_region ?_
    refine lsw (want_none (by rfl)) (y_assign rfl rfl) rfl (by decide) ?_
    refine lg_nil ?_
    refine nx (E' := [(0, _), (4, _)]) (fk rfl (fk rfl fn)) ?_
    refine cg_ret ?_
    refine eg_seq_ret ?_
    exact eg_ret_tmp rfl rfl ⟨congrArg (fun k => Ending.returned (nv k)) (par_no hn).symm, rfl⟩
end Go.Proofs.YtpoonjgkgaodmaaDoor
