/-
  Of any row and number the answers are the document's.
-/
import Derived.Test.YtjcnfmmekpiliaaDoorRsAwake
namespace Go.Proofs.YtjcnfmmekpiliaaDoor
open Go.ChangeShapes Go.WideShapes Go.ChangeAt Go.RowKit
set_option linter.unusedVariables false

set_option maxHeartbeats 4000000 in
theorem resolveIs_any {W : World} {s : SlV} {Ls : List Nd} (h : RwNd W W.heap.size s Ls) (x : Int) (rg : Tb W) : Calls Tryd.prog 3 #[s.v, nv x] W fun e W' => ∃ v, e = .returned v ∧ v = .bool true ∧ Below W.heap.size W W' := by
  refine calls_cg (n := 39) Tryd.func3 rfl Tryd.ntmps3 (by simp) ?_
  show CG _ _ _ [(0, s.v), (1, nv x)] _ _
  have u := Below.refl W.heap.size W
  refine cg_seq ?_
  refine cg_region ?_
  refine zA rfl rfl rfl rfl rfl ?_
  refine lg_nil ?_
  refine nx (zk3 0 1 4 rfl rfl rfl fn) ?_
  refine cg_seq ?_
  refine cg_region ?_
  refine lg_callw (want_none (by rfl)) (awakeR_any _ (rg.up u)) (by kernel_rfl) rfl rfl rfl (by decide) ?_
  rintro _ w1 ⟨rfl, hw1⟩
  have zw1 := hw1.size
  refine zA rfl rfl rfl rfl rfl ?_
  refine lg_nil ?_
  refine nx (zk3 0 1 4 rfl rfl rfl (zk1 5 rfl fn)) ?_
  refine cg_seq ?_
  refine cg_seq ?_
  refine cg_region ?_
  refine zM rfl rfl rfl rfl rfl ?_
  have h := h.below (hw1.mono (by omega))
  by_cases c2 : trFew Ls
  · refine lg_callw (want_none (by rfl)) (fewR_any (h.more (B' := w1.heap.size) (by omega)) (Nat.le_refl _)) (by kernel_rfl) rfl rfl rfl (by decide) ?_
    rintro u3 w3 ⟨e3, hw3⟩
    have zw3 := hw3.size
    obtain rfl : u3 = .bool true := e3.trans (congrArg Value.bool (decide_eq_true c2))
    refine za rfl (y_bnot rfl rfl) rfl rfl ?_
    refine lg_nil ?_
    refine nx (zk5 0 1 4 5 9 rfl rfl rfl rfl rfl fn) ?_
    refine cg_cf rfl ?_
    refine cg_skip ?_
    refine nx (zk3 0 1 4 rfl rfl rfl (zk1 5 rfl fn)) ?_
    refine cg_seq ?_
    refine cg_region ?_
    refine zM rfl rfl rfl rfl rfl ?_
    refine zM rfl rfl rfl rfl rfl ?_
    refine zt 12 rfl (by kernel_rfl) rfl (y_move rfl rfl) rfl rfl ?_
    refine zt 12 rfl (by kernel_rfl) rfl (y_move rfl rfl) rfl rfl ?_
    have h := h.below (hw3.mono (by omega))
    have u := u.trans (hw1.mono u.size)
    have u := u.trans (hw3.mono u.size)
    refine lg_callw (want_t (dj := 12) (by rfl) (by kernel_rfl) rfl) (resolve_any (h.more (B' := w3.heap.size) (by omega)) x (Nat.le_refl _) (rg.up u)) (by kernel_rfl) rfl rfl rfl (by decide) ?_
    rintro _ w4 ⟨s4, rfl, m4, hw4⟩
    have zw4 := hw4.size
    have rl4 := res_len (trAs_is Ls) x
    refine zt 12 rfl (by kernel_rfl) rfl (y_move rfl rfl) rfl rfl ?_
    refine zt 12 rfl (by kernel_rfl) rfl (y_move rfl rfl) rfl rfl ?_
    have h := h.below (hw4.mono (by omega))
    have u := u.trans (hw4.mono u.size)
    refine lg_callw (want_t (dj := 12) (by rfl) (by kernel_rfl) rfl) (rresolve_any (h.more (B' := w4.heap.size) (by omega)) x (Nat.le_refl _) (rg.up u)) (by kernel_rfl) rfl rfl rfl (by decide) ?_
    rintro _ w5 ⟨s5, rfl, m5, hw5⟩
    have zw5 := hw5.size
    have m4 := m4.below (hw5.mono (by omega))
    refine lg_callw (want_t (dj := 12) (by rfl) (by kernel_rfl) rfl) (ints_S m4 m5 (by omega) (by omega)) (by kernel_rfl) rfl rfl rfl (by decide) ?_
    rintro u6 w6 ⟨e6, hw6⟩
    have zw6 := hw6.size
    obtain rfl : u6 = .bool true := e6.trans (congrArg Value.bool (decide_eq_true rfl))
    refine za rfl (y_pick true rfl rfl rfl) rfl rfl ?_
    refine zM rfl rfl rfl rfl rfl ?_
    refine zt 21 rfl (by kernel_rfl) rfl (y_move rfl rfl) rfl rfl ?_
    refine zt 21 rfl (by kernel_rfl) rfl (y_move rfl rfl) rfl rfl ?_
    have h := h.below (hw5.mono (by omega))
    have h := h.below (hw6.mono (by omega))
    have u := u.trans (hw5.mono u.size)
    have u := u.trans (hw6.mono u.size)
    refine lg_callw (want_t (dj := 21) (by rfl) (by kernel_rfl) rfl) (filter_any (h.more (B' := w6.heap.size) (by omega)) x (Nat.le_refl _) (rg.up u)) (by kernel_rfl) rfl rfl rfl (by decide) ?_
    rintro _ w7 ⟨s7, rfl, m7, hw7⟩
    have zw7 := hw7.size
    have fl7 : ((forkL (trAs Ls) x).map Prod.fst).length ≤ 6 := by rw [List.length_map]; exact fork_len _ _
    refine zt 21 rfl (by kernel_rfl) rfl (y_move rfl rfl) rfl rfl ?_
    refine zt 21 rfl (by kernel_rfl) rfl (y_move rfl rfl) rfl rfl ?_
    have h := h.below (hw7.mono (by omega))
    have u := u.trans (hw7.mono u.size)
    refine lg_callw (want_t (dj := 21) (by rfl) (by kernel_rfl) rfl) (rfilter_any (h.more (B' := w7.heap.size) (by omega)) x (Nat.le_refl _) (rg.up u)) (by kernel_rfl) rfl rfl rfl (by decide) ?_
    rintro _ w8 ⟨s8, rfl, m8, hw8⟩
    have zw8 := hw8.size
    have m7 := m7.below (hw8.mono (by omega))
    refine lg_callw (want_t (dj := 21) (by rfl) (by kernel_rfl) rfl) (ints_S m7 m8 (by omega) (by omega)) (by kernel_rfl) rfl rfl rfl (by decide) ?_
    rintro u9 w9 ⟨e9, hw9⟩
    have zw9 := hw9.size
    obtain rfl : u9 = .bool true := e9.trans (congrArg Value.bool (decide_eq_true rfl))
    refine za rfl (y_pick true rfl rfl rfl) rfl rfl ?_
    refine zM rfl rfl rfl rfl rfl ?_
    refine zt 30 rfl (by kernel_rfl) rfl (y_move rfl rfl) rfl rfl ?_
    refine zt 30 rfl (by kernel_rfl) rfl (y_move rfl rfl) rfl rfl ?_
    have h := h.below (hw8.mono (by omega))
    have h := h.below (hw9.mono (by omega))
    have u := u.trans (hw8.mono u.size)
    have u := u.trans (hw9.mono u.size)
    refine lg_callw (want_t (dj := 30) (by rfl) (by kernel_rfl) rfl) (beside_any (h.more (B' := w9.heap.size) (by omega)) x (Nat.le_refl _) (rg.up u)) (by kernel_rfl) rfl rfl rfl (by decide) ?_
    rintro _ w10 ⟨s10, rfl, m10, hw10⟩
    have zw10 := hw10.size
    have fl10 : ((forkL (trAs Ls) x).map Prod.snd).length ≤ 6 := by rw [List.length_map]; exact fork_len _ _
    refine zt 30 rfl (by kernel_rfl) rfl (y_move rfl rfl) rfl rfl ?_
    refine zt 30 rfl (by kernel_rfl) rfl (y_move rfl rfl) rfl rfl ?_
    have h := h.below (hw10.mono (by omega))
    have u := u.trans (hw10.mono u.size)
    refine lg_callw (want_t (dj := 30) (by rfl) (by kernel_rfl) rfl) (rbeside_any (h.more (B' := w10.heap.size) (by omega)) x (Nat.le_refl _) (rg.up u)) (by kernel_rfl) rfl rfl rfl (by decide) ?_
    rintro _ w11 ⟨s11, rfl, m11, hw11⟩
    have zw11 := hw11.size
    have m10 := m10.below (hw11.mono (by omega))
    refine lg_callw (want_t (dj := 30) (by rfl) (by kernel_rfl) rfl) (ints_S m10 m11 (by omega) (by omega)) (by kernel_rfl) rfl rfl rfl (by decide) ?_
    rintro u12 w12 ⟨e12, hw12⟩
    have zw12 := hw12.size
    obtain rfl : u12 = .bool true := e12.trans (congrArg Value.bool (decide_eq_true rfl))
    refine za rfl (y_pick true rfl rfl rfl) rfl rfl ?_
    refine zA rfl rfl rfl rfl rfl ?_
    refine lg_nil ?_
    refine nx (zk1 4 rfl fn) ?_
    refine cg_ret ?_
    have u := u.trans (hw11.mono u.size)
    have u := u.trans (hw12.mono u.size)
    exact eg_ret_tmp rfl rfl ⟨_, rfl, rfl, u⟩
  · refine lg_callw (want_none (by rfl)) (fewR_any (h.more (B' := w1.heap.size) (by omega)) (Nat.le_refl _)) (by kernel_rfl) rfl rfl rfl (by decide) ?_
    rintro u13 w13 ⟨e13, hw13⟩
    have zw13 := hw13.size
    obtain rfl : u13 = .bool false := e13.trans (congrArg Value.bool (decide_eq_false c2))
    refine za rfl (y_bnot rfl rfl) rfl rfl ?_
    refine lg_nil ?_
    refine nx (zk5 0 1 4 5 9 rfl rfl rfl rfl rfl fn) ?_
    refine cg_ct rfl ?_
    refine cg_seq ?_
    refine cg_region ?_
    refine zM rfl rfl rfl rfl rfl ?_
    refine zA rfl rfl rfl rfl rfl ?_
    refine lg_nil ?_
    refine nx (zk3 0 1 5 rfl rfl rfl (zk1 4 rfl fn)) ?_
    refine cg_ret ?_
    refine eg_seq_ret ?_
    have u := u.trans (hw1.mono u.size)
    have u := u.trans (hw13.mono u.size)
    exact eg_ret_tmp rfl rfl ⟨_, rfl, rfl, u⟩
end Go.Proofs.YtjcnfmmekpiliaaDoor
