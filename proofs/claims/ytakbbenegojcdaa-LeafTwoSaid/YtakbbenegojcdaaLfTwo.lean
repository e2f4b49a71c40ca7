/-
  Put one behind the other, they are got in order.
-/
import Derived.Test.YtakbbenegojcdaaLfAwake
import Derived.Test.YtakbbenegojcdaaLfRow
namespace Go.Proofs.Ytakbbenegojcdaa
open Go.ChangeShapes Go.WideShapes Go.ChangeAt Go.RowKit
set_option linter.unusedVariables false

set_option maxHeartbeats 4000000 in
theorem leafTwo_any {W : World} {s : SlV} {Ls : List Lf} (hrow : RwLf W W.heap.size s Ls) : Calls Try.prog 7 #[s.v] W fun e W' => ∃ v, e = .returned v ∧ v = .bool true ∧ Below W.heap.size W W' := by
  refine calls_cg (n := 76) Try.func7 rfl Try.ntmps7 (by simp) ?_
  show CG _ _ _ [(0, s.v)] _ _
  have u := Below.refl W.heap.size W
  refine cg_seq ?_
  refine cg_region ?_
  refine lsw (want_none (by rfl)) (y_assign rfl rfl) rfl (by decide) ?_
  refine lg_nil ?_
  refine nx (E' := [(0, _), (2, _)]) (fk rfl (fk rfl fn)) ?_
  refine cg_seq ?_
  refine cg_region ?_
  refine lg_callw (want_none (by rfl)) (awakeL_any _) (by kernel_rfl) rfl rfl rfl (by decide) ?_
  rintro _ w1 ⟨rfl, hw1⟩
  have zw1 := hw1.size
  refine lsw (want_none (by rfl)) (y_assign rfl rfl) rfl (by decide) ?_
  refine lg_nil ?_
  refine nx (E' := [(0, _), (2, _), (3, _)]) (fk rfl (fk rfl (fk rfl fn))) ?_
  refine cg_seq ?_
  refine cg_region ?_
  refine lsw (want_none (by rfl)) (y_assign rfl rfl) rfl (by decide) ?_
  refine lg_nil ?_
  refine nx (E' := [(0, _), (2, _), (3, _), (4, _)]) (fk rfl (fk rfl (fk rfl (fk rfl fn)))) ?_
  refine cg_seq ?_
  refine cg_seq ?_
  refine cg_region ?_
  refine lsw (want_none (by rfl)) (y_assign rfl rfl) rfl (by decide) ?_
  refine lg_nil ?_
  refine nx (E' := [(0, _), (2, _), (3, _), (4, _), (5, _)]) (fk rfl (fk rfl (fk rfl (fk rfl (fk rfl fn))))) ?_
  refine cg_block ?_
  have hrow := hrow.below (hw1.mono (by omega))
  have u := u.trans (hw1.mono u.size)
  refine cg_loopE (fun t a v => ∃ (r : SlV), Holds 76 [(0, s.v), (3, .bool true), (4, r.v), (5, nv ((t : Nat) : Int))] a ∧ RwLf v W.heap.size s Ls ∧ Sl v v.heap.size r (putAll (Ls.take t)) ∧ Below W.heap.size W v ∧ (∀ (j : Nat) M, j < t → Ls[j]? = some M → lfCheck M = 0) ∧ t ≤ Ls.length) 10 (fun a ha => ⟨nilS, ha.keep (fk rfl (fk rfl (fk rfl (fk rfl fn)))), hrow, (Sl.nil _ _).cast (by simp [putAll]), u, (fun j M hj _ => absurd hj (Nat.not_lt_zero _)), (Nat.zero_le _)⟩) ?_
  rintro t a v ht ⟨r, ha, hrow, hr, u, ok, tle⟩
  refine cg_at ha ?_
  clear ha a
  have zv := u.size
  have lb := putAll_le (Ls.take t)
  rw [List.length_take] at lb
  refine cg_seq ?_
  refine cg_seq ?_
  refine cg_region ?_
  refine lsw (want_none (by rfl)) (y_move rfl rfl) rfl (by decide) ?_
  refine lsw (want_none (by rfl)) (y_move rfl rfl) rfl (by decide) ?_
  refine lsw (want_none (by rfl)) (y_lenM (el := 24) hrow.len (by kernel_rfl) rfl rfl) rfl (by decide) ?_
  by_cases c2 : ((t : Nat) : Int) < (Ls.length : Int)
  · refine lsw (want_none (by rfl)) (yb (decide_eq_true c2) (yi_lss rfl rfl rfl)) rfl (by decide) ?_
    refine lsw (want_none (by rfl)) (y_move rfl rfl) rfl (by decide) ?_
    refine lsw (want_t (dj := 15) (by rfl) (by kernel_rfl) rfl) (y_move rfl rfl) rfl (by decide) ?_
    by_cases c3 : ((t : Nat) : Int) < 10
    · refine lsw (want_t (dj := 15) (by rfl) (by kernel_rfl) rfl) (yb (decide_eq_true c3) (yi_lss rfl rfl rfl)) rfl (by decide) ?_
      refine lsw (want_none (by rfl)) (y_pick true rfl rfl rfl) rfl (by decide) ?_
      refine lg_nil ?_
      refine nx (E' := [(0, _), (3, _), (4, _), (5, _), (11, _), (12, _), (13, _), (14, _), (15, _), (16, _), (17, _), (18, _)]) (fk rfl (fk rfl (fk rfl (fk rfl (fk rfl (fk rfl (fk rfl (fk rfl (fk rfl (fk rfl (fk rfl (fk rfl fn)))))))))))) ?_
      refine cg_ct rfl ?_
      refine cg_skip ?_
      refine nx (E' := [(0, _), (3, _), (4, _), (5, _), (11, _), (12, _), (13, _), (14, _), (15, _), (16, _), (17, _), (18, _)]) (fk rfl (fk rfl (fk rfl (fk rfl (fk rfl (fk rfl (fk rfl (fk rfl (fk rfl (fk rfl (fk rfl (fk rfl fn)))))))))))) ?_
      refine cg_seq ?_
      refine cg_block ?_
      refine cg_seq ?_
      refine cg_seq ?_
      refine cg_region ?_
      refine lsw (want_none (by rfl)) (y_move rfl rfl) rfl (by decide) ?_
      refine lsw (want_none (by rfl)) (y_move rfl rfl) rfl (by decide) ?_
      obtain ⟨eb4, eo4, el4, eL4, eA4, eB4, eg4, eh4, ec4⟩ := hrow.at (t) (by have := hrow.len; omega)
      refine lsw (want_none (by rfl)) (y_ixR (s := s) (el := 24) (k := 4) (i := t) (iI := ((t : Nat) : Int)) eA4 (by kernel_rfl) (by kernel_rfl) (by omega) (by have := hrow.len; omega) rfl rfl rfl) rfl (by decide) ?_
      refine lsw (want_none (by rfl)) (y_loadC (cs := el4.cs eL4) ec4 (by kernel_rfl) (by kernel_rfl) rfl rfl) rfl (by decide) ?_
      by_cases c5 : lfFew eL4
      · refine lg_callw (want_none (by rfl)) (few_any (eh4.more (B' := v.heap.size) (by omega)) (Nat.le_refl _)) (by kernel_rfl) rfl rfl rfl (by decide) ?_
        rintro u6 w6 ⟨e6, hw6⟩
        have zw6 := hw6.size
        obtain rfl : u6 = .bool true := e6.trans (congrArg Value.bool (decide_eq_true c5))
        refine lsw (want_none (by rfl)) (y_bnot rfl rfl) rfl (by decide) ?_
        refine lsw (want_none (by rfl)) (y_move rfl rfl) rfl (by decide) ?_
        refine lsw (want_t (dj := 27) (by rfl) (by kernel_rfl) rfl) (y_move rfl rfl) rfl (by decide) ?_
        refine lsw (want_t (dj := 27) (by rfl) (by kernel_rfl) rfl) (y_move rfl rfl) rfl (by decide) ?_
        have hrow := hrow.below (hw6.mono (by omega))
        obtain ⟨eb7, eo7, el7, eL7, eA7, eB7, eg7, eh7, ec7⟩ := hrow.at (t) (by have := hrow.len; omega)
        obtain rfl : eL4 = eL7 := Option.some.inj (eg4.symm.trans eg7)
        refine lsw (want_t (dj := 27) (by rfl) (by kernel_rfl) rfl) (y_ixR (s := s) (el := 24) (k := 4) (i := t) (iI := ((t : Nat) : Int)) eA7 (by kernel_rfl) (by kernel_rfl) (by omega) (by have := hrow.len; omega) rfl rfl rfl) rfl (by decide) ?_
        refine lsw (want_t (dj := 27) (by rfl) (by kernel_rfl) rfl) (y_loadC (cs := el7.cs eL4) ec7 (by kernel_rfl) (by kernel_rfl) rfl rfl) rfl (by decide) ?_
        refine lg_callw (want_t (dj := 27) (by rfl) (by kernel_rfl) rfl) (check_any (eh7.more (B' := w6.heap.size) (by omega)) (Nat.le_refl _)) (by kernel_rfl) rfl rfl rfl (by decide) ?_
        rintro _ w8 ⟨rfl, hw8⟩
        have zw8 := hw8.size
        by_cases c9 : (lfCheck eL4) = 0
        · refine lsw (want_t (dj := 27) (by rfl) (by kernel_rfl) rfl) (yb (nd_f c9) (yi_neq rfl rfl rfl)) rfl (by decide) ?_
          refine lsw (want_none (by rfl)) (y_pick false rfl rfl rfl) rfl (by decide) ?_
          refine lg_nil ?_
          refine nx (E' := [(0, _), (3, _), (4, _), (5, _), (11, _), (12, _), (13, _), (14, _), (15, _), (16, _), (17, _), (18, _), (21, _), (22, _), (23, _), (24, _), (25, _), (26, _), (27, _), (28, _), (29, _), (30, _), (31, _), (32, _), (33, _), (34, _)]) (fk rfl (fk rfl (fk rfl (fk rfl (fk rfl (fk rfl (fk rfl (fk rfl (fk rfl (fk rfl (fk rfl (fk rfl (fk rfl (fk rfl (fk rfl (fk rfl (fk rfl (fk rfl (fk rfl (fk rfl (fk rfl (fk rfl (fk rfl (fk rfl (fk rfl (fk rfl fn)))))))))))))))))))))))))) ?_
          refine cg_cf rfl ?_
          refine cg_skip ?_
          refine nx (E' := [(0, _), (3, _), (4, _), (5, _), (11, _), (12, _), (13, _), (14, _), (15, _), (16, _), (17, _), (18, _), (21, _), (22, _), (23, _), (24, _), (25, _), (26, _), (27, _), (28, _), (29, _), (30, _), (31, _), (32, _), (33, _), (34, _)]) (fk rfl (fk rfl (fk rfl (fk rfl (fk rfl (fk rfl (fk rfl (fk rfl (fk rfl (fk rfl (fk rfl (fk rfl (fk rfl (fk rfl (fk rfl (fk rfl (fk rfl (fk rfl (fk rfl (fk rfl (fk rfl (fk rfl (fk rfl (fk rfl (fk rfl (fk rfl fn)))))))))))))))))))))))))) ?_
          refine cg_region ?_
          refine lsw (want_none (by rfl)) (y_move rfl rfl) rfl (by decide) ?_
          refine lsw (want_none (by rfl)) (y_move rfl rfl) rfl (by decide) ?_
          refine lsw (want_none (by rfl)) (y_move rfl rfl) rfl (by decide) ?_
          have hrow := hrow.below (hw8.mono (by omega))
          obtain ⟨eb10, eo10, el10, eL10, eA10, eB10, eg10, eh10, ec10⟩ := hrow.at (t) (by have := hrow.len; omega)
          obtain rfl : eL4 = eL10 := Option.some.inj (eg4.symm.trans eg10)
          refine lsw (want_none (by rfl)) (y_ixR (s := s) (el := 24) (k := 4) (i := t) (iI := ((t : Nat) : Int)) eA10 (by kernel_rfl) (by kernel_rfl) (by omega) (by have := hrow.len; omega) rfl rfl rfl) rfl (by decide) ?_
          refine lsw (want_none (by rfl)) (y_loadC (cs := el10.cs eL4) ec10 (by kernel_rfl) (by kernel_rfl) rfl rfl) rfl (by decide) ?_
          have hr := hr.below (hw6.mono (by omega))
          have hr := hr.below (hw8.mono (by omega))
          refine lg_callw (want_none (by rfl)) (putL_any (hr.more (B' := w8.heap.size) (by omega)) (eh10.more (B' := w8.heap.size) (by omega)) (Nat.le_refl _) (by first | omega | (simp only [List.length_append, List.length_nil, numOct_length]; omega))) (by kernel_rfl) rfl rfl rfl (by decide) ?_
          rintro _ w11 ⟨r11, rfl, m11, hw11⟩
          have zw11 := hw11.size
          have lp11 := lfPut_le eL4
          refine lsw (want_none (by rfl)) (y_assign rfl rfl) rfl (by decide) ?_
          refine lg_nil ?_
          refine eg_block_norm ?_
          refine nx (E' := [(0, _), (3, _), (5, _), (11, _), (12, _), (13, _), (14, _), (15, _), (16, _), (17, _), (18, _), (21, _), (22, _), (23, _), (24, _), (25, _), (26, _), (27, _), (28, _), (29, _), (30, _), (31, _), (32, _), (33, _), (34, _), (36, _), (37, _), (38, _), (39, _), (40, _), (41, _), (4, _)]) (fk rfl (fk rfl (fk rfl (fk rfl (fk rfl (fk rfl (fk rfl (fk rfl (fk rfl (fk rfl (fk rfl (fk rfl (fk rfl (fk rfl (fk rfl (fk rfl (fk rfl (fk rfl (fk rfl (fk rfl (fk rfl (fk rfl (fk rfl (fk rfl (fk rfl (fk rfl (fk rfl (fk rfl (fk rfl (fk rfl (fk rfl (fk rfl fn)))))))))))))))))))))))))))))))) ?_
          refine cg_region ?_
          refine lsw (want_none (by rfl)) (y_move rfl rfl) rfl (by decide) ?_
          refine lsw (want_none (by rfl)) (yv (congrArg nv (show (t : Int) + 1 = ((t + 1 : Nat) : Int) by omega)) (yi_add rfl rfl rfl (by omega) (by omega))) rfl (by decide) ?_
          refine lsw (want_none (by rfl)) (y_assign rfl rfl) rfl (by decide) ?_
          refine lg_nil ?_
          have hrow := hrow.below (hw11.mono (by omega))
          have u := u.trans (hw6.mono u.size)
          have u := u.trans (hw8.mono u.size)
          have u := u.trans (hw11.mono u.size)
          exact fun a ha => (show t < 10 ∧ _ from ⟨(by omega), r11, ha.keep (fk rfl (fk rfl (fk rfl (fk rfl fn)))), hrow, (m11.more (by omega)).cast (putAll_step eg4).symm, u, (fun j M hj hM => if e : j < t then ok j M e hM else by
          obtain rfl : j = t := by omega
          obtain rfl : M = eL4 := Option.some.inj (hM.symm.trans eg4)
          exact c9), (by omega)⟩)
        · refine lsw (want_t (dj := 27) (by rfl) (by kernel_rfl) rfl) (yb (nd_t c9) (yi_neq rfl rfl rfl)) rfl (by decide) ?_
          refine lsw (want_none (by rfl)) (y_pick false rfl rfl rfl) rfl (by decide) ?_
          refine lg_nil ?_
          refine nx (E' := [(0, _), (3, _), (4, _), (5, _), (11, _), (12, _), (13, _), (14, _), (15, _), (16, _), (17, _), (18, _), (21, _), (22, _), (23, _), (24, _), (25, _), (26, _), (27, _), (28, _), (29, _), (30, _), (31, _), (32, _), (33, _), (34, _)]) (fk rfl (fk rfl (fk rfl (fk rfl (fk rfl (fk rfl (fk rfl (fk rfl (fk rfl (fk rfl (fk rfl (fk rfl (fk rfl (fk rfl (fk rfl (fk rfl (fk rfl (fk rfl (fk rfl (fk rfl (fk rfl (fk rfl (fk rfl (fk rfl (fk rfl (fk rfl fn)))))))))))))))))))))))))) ?_
          refine cg_ct rfl ?_
          refine cg_seq ?_
          refine cg_region ?_
          refine lsw (want_none (by rfl)) (y_move rfl rfl) rfl (by decide) ?_
          refine lsw (want_none (by rfl)) (y_assign rfl rfl) rfl (by decide) ?_
          refine lg_nil ?_
          refine nx (E' := [(0, _), (3, _), (4, _), (5, _), (11, _), (12, _), (13, _), (14, _), (15, _), (16, _), (17, _), (18, _), (21, _), (22, _), (23, _), (24, _), (25, _), (26, _), (27, _), (28, _), (29, _), (30, _), (31, _), (32, _), (33, _), (34, _), (35, _), (2, _)]) (fk rfl (fk rfl (fk rfl (fk rfl (fk rfl (fk rfl (fk rfl (fk rfl (fk rfl (fk rfl (fk rfl (fk rfl (fk rfl (fk rfl (fk rfl (fk rfl (fk rfl (fk rfl (fk rfl (fk rfl (fk rfl (fk rfl (fk rfl (fk rfl (fk rfl (fk rfl (fk rfl (fk rfl fn)))))))))))))))))))))))))))) ?_
          refine cg_ret ?_
          refine eg_seq_ret ?_
          refine eg_block_ret ?_
          refine eg_seq_ret ?_
          refine eg_seq_ret ?_
          refine eg_block_ret ?_
          refine eg_seq_ret ?_
          have u := u.trans (hw6.mono u.size)
          have u := u.trans (hw8.mono u.size)
          exact eg_ret_tmp rfl rfl ⟨_, rfl, rfl, u⟩
      · refine lg_callw (want_none (by rfl)) (few_any (eh4.more (B' := v.heap.size) (by omega)) (Nat.le_refl _)) (by kernel_rfl) rfl rfl rfl (by decide) ?_
        rintro u12 w12 ⟨e12, hw12⟩
        have zw12 := hw12.size
        obtain rfl : u12 = .bool false := e12.trans (congrArg Value.bool (decide_eq_false c5))
        refine lsw (want_none (by rfl)) (y_bnot rfl rfl) rfl (by decide) ?_
        refine lsw (want_none (by rfl)) (y_move rfl rfl) rfl (by decide) ?_
        refine lsk (want_f (dj := 27) (by rfl) (by kernel_rfl) rfl) rfl (by decide) ?_
        refine lsk (want_f (dj := 27) (by rfl) (by kernel_rfl) rfl) rfl (by decide) ?_
        refine lsk (want_f (dj := 27) (by rfl) (by kernel_rfl) rfl) rfl (by decide) ?_
        refine lsk (want_f (dj := 27) (by rfl) (by kernel_rfl) rfl) rfl (by decide) ?_
        refine lsk (want_f (dj := 27) (by rfl) (by kernel_rfl) rfl) rfl (by decide) ?_
        refine lsk (want_f (dj := 27) (by rfl) (by kernel_rfl) rfl) rfl (by decide) ?_
        refine lsw (want_none (by rfl)) (y_pick true rfl rfl rfl) rfl (by decide) ?_
        refine lg_nil ?_
        refine nx (E' := [(0, _), (3, _), (4, _), (5, _), (11, _), (12, _), (13, _), (14, _), (15, _), (16, _), (17, _), (18, _), (21, _), (22, _), (23, _), (24, _), (25, _), (26, _), (27, _), (34, _)]) (fk rfl (fk rfl (fk rfl (fk rfl (fk rfl (fk rfl (fk rfl (fk rfl (fk rfl (fk rfl (fk rfl (fk rfl (fk rfl (fk rfl (fk rfl (fk rfl (fk rfl (fk rfl (fk rfl (fk rfl fn)))))))))))))))))))) ?_
        refine cg_ct rfl ?_
        refine cg_seq ?_
        refine cg_region ?_
        refine lsw (want_none (by rfl)) (y_move rfl rfl) rfl (by decide) ?_
        refine lsw (want_none (by rfl)) (y_assign rfl rfl) rfl (by decide) ?_
        refine lg_nil ?_
        refine nx (E' := [(0, _), (3, _), (4, _), (5, _), (11, _), (12, _), (13, _), (14, _), (15, _), (16, _), (17, _), (18, _), (21, _), (22, _), (23, _), (24, _), (25, _), (26, _), (27, _), (34, _), (35, _), (2, _)]) (fk rfl (fk rfl (fk rfl (fk rfl (fk rfl (fk rfl (fk rfl (fk rfl (fk rfl (fk rfl (fk rfl (fk rfl (fk rfl (fk rfl (fk rfl (fk rfl (fk rfl (fk rfl (fk rfl (fk rfl (fk rfl (fk rfl fn)))))))))))))))))))))) ?_
        refine cg_ret ?_
        refine eg_seq_ret ?_
        refine eg_block_ret ?_
        refine eg_seq_ret ?_
        refine eg_seq_ret ?_
        refine eg_block_ret ?_
        refine eg_seq_ret ?_
        have u := u.trans (hw12.mono u.size)
        exact eg_ret_tmp rfl rfl ⟨_, rfl, rfl, u⟩
    · refine lsw (want_t (dj := 15) (by rfl) (by kernel_rfl) rfl) (yb (decide_eq_false c3) (yi_lss rfl rfl rfl)) rfl (by decide) ?_
      refine lsw (want_none (by rfl)) (y_pick true rfl rfl rfl) rfl (by decide) ?_
      refine lg_nil ?_
      refine nx (E' := [(0, _), (3, _), (4, _), (5, _), (11, _), (12, _), (13, _), (14, _), (15, _), (16, _), (17, _), (18, _)]) (fk rfl (fk rfl (fk rfl (fk rfl (fk rfl (fk rfl (fk rfl (fk rfl (fk rfl (fk rfl (fk rfl (fk rfl fn)))))))))))) ?_
      refine cg_cf rfl ?_
      refine cg_exit ?_
      refine eg_seq_exit ?_
      refine eg_seq_exit ?_
      refine eg_block_exit ?_
      refine nx (E' := [(0, _), (3, _), (4, _)]) (fk rfl (fk rfl (fk rfl fn))) ?_
      refine cg_seq ?_
      refine cg_seq ?_
      refine cg_region ?_
      refine lsw (want_none (by rfl)) (y_assign rfl rfl) rfl (by decide) ?_
      refine lg_nil ?_
      refine nx (E' := [(0, _), (3, _), (4, _), (6, _)]) (fk rfl (fk rfl (fk rfl (fk rfl fn)))) ?_
      refine cg_block ?_
      obtain ⟨C, hC⟩ : ∃ q, q = v.heap.size := ⟨_, rfl⟩
      refine cg_loopE (fun k a v => ∃ (r : SlV), Holds 76 [(0, s.v), (3, .bool true), (4, r.v), (6, nv ((k : Nat) : Int))] a ∧ RwLf v W.heap.size s Ls ∧ Sl v C r (putAll ((Ls.take t).drop k)) ∧ Below W.heap.size W v ∧ C ≤ v.heap.size ∧ k ≤ t) 10 (fun a ha => ⟨r, ha.keep (fk rfl (fk rfl (fk rfl (fk rfl fn)))), hrow, (hr.more (by omega)).cast (by rw [List.drop_zero]), u, (Nat.le_of_eq hC), (Nat.zero_le _)⟩) ?_
      rintro k a v ht ⟨r, ha, hrow, hr, u, hC2, kle⟩
      refine cg_at ha ?_
      clear ha a
      have zv := u.size
      refine cg_seq ?_
      refine cg_seq ?_
      refine cg_region ?_
      refine lsw (want_none (by rfl)) (y_move rfl rfl) rfl (by decide) ?_
      refine lsw (want_none (by rfl)) (y_move rfl rfl) rfl (by decide) ?_
      refine lsw (want_none (by rfl)) (y_lenM (el := 24) hrow.len (by kernel_rfl) rfl rfl) rfl (by decide) ?_
      by_cases c13 : ((k : Nat) : Int) < (Ls.length : Int)
      · refine lsw (want_none (by rfl)) (yb (decide_eq_true c13) (yi_lss rfl rfl rfl)) rfl (by decide) ?_
        refine lsw (want_none (by rfl)) (y_move rfl rfl) rfl (by decide) ?_
        refine lsw (want_t (dj := 46) (by rfl) (by kernel_rfl) rfl) (y_move rfl rfl) rfl (by decide) ?_
        by_cases c14 : ((k : Nat) : Int) < 10
        · refine lsw (want_t (dj := 46) (by rfl) (by kernel_rfl) rfl) (yb (decide_eq_true c14) (yi_lss rfl rfl rfl)) rfl (by decide) ?_
          refine lsw (want_none (by rfl)) (y_pick true rfl rfl rfl) rfl (by decide) ?_
          refine lg_nil ?_
          refine nx (E' := [(0, _), (3, _), (4, _), (6, _), (42, _), (43, _), (44, _), (45, _), (46, _), (47, _), (48, _), (49, _)]) (fk rfl (fk rfl (fk rfl (fk rfl (fk rfl (fk rfl (fk rfl (fk rfl (fk rfl (fk rfl (fk rfl (fk rfl fn)))))))))))) ?_
          refine cg_ct rfl ?_
          refine cg_skip ?_
          refine nx (E' := [(0, _), (3, _), (4, _), (6, _), (42, _), (43, _), (44, _), (45, _), (46, _), (47, _), (48, _), (49, _)]) (fk rfl (fk rfl (fk rfl (fk rfl (fk rfl (fk rfl (fk rfl (fk rfl (fk rfl (fk rfl (fk rfl (fk rfl fn)))))))))))) ?_
          refine cg_seq ?_
          refine cg_block ?_
          refine cg_seq ?_
          refine cg_region ?_
          refine lsw (want_none (by rfl)) (y_move rfl rfl) rfl (by decide) ?_
          obtain ⟨eb15, eo15, el15, eL15, eA15, eB15, eg15, eh15, ec15⟩ := hrow.at k (by have := hrow.len; omega)
          refine lg_callw (want_none (by rfl)) (getL_anyE hr (by omega) (putAll_got ok eg15 (by omega))) (by kernel_rfl) rfl rfl rfl (by decide) ?_
          rintro _ w16 ⟨l16, r16, rfl, m16, n16, hw16⟩
          have zw16 := hw16.size
          refine lsw (want_none (by rfl)) (y_move rfl rfl) rfl (by decide) ?_
          refine lsw (want_none (by rfl)) (y_extract rfl rfl rfl) rfl (by decide) ?_
          refine lsw (want_none (by rfl)) (y_extract rfl rfl rfl) rfl (by decide) ?_
          refine lsw (want_none (by rfl)) (y_extract rfl rfl rfl) rfl (by decide) ?_
          refine lg_allocw (cs := LfV.zero.cs Lf.zero) (want_none (by rfl)) rfl (by kernel_rfl) rfl (by decide) fun b17 w17 n17 => ?_
          have r17 := n17.row
          have k17 := n17.blk
          have z17 := n17.size
          have lt17 : b17 < w17.heap.size := by omega
          have o18 := r17
          refine lg_stw (want_none (by rfl)) r17 rfl rfl rfl (by kernel_rfl) (by kernel_rfl) rfl rfl fun w18 s18 => ?_
          have r17 := s18.row
          have z18 := s18.size
          refine lsw (want_none (by rfl)) (y_assign rfl rfl) rfl (by decide) ?_
          refine lsw (want_none (by rfl)) (y_assign rfl rfl) rfl (by decide) ?_
          refine lg_nil ?_
          refine nx (E' := [(0, _), (3, _), (4, _), (6, _), (42, _), (43, _), (44, _), (45, _), (46, _), (47, _), (48, _), (49, _), (53, _), (54, _), (52, _), (55, _), (56, _), (57, _), (7, _), (8, _), (9, _)]) (fk rfl (fk rfl (fk rfl (fk rfl (fk rfl (fk rfl (fk rfl (fk rfl (fk rfl (fk rfl (fk rfl (fk rfl (fk rfl (fk rfl (fk rfl (fk rfl (fk rfl (fk rfl (fk rfl (fk rfl (fk rfl fn))))))))))))))))))))) ?_
          refine cg_seq ?_
          refine cg_seq ?_
          refine cg_held (by kernel_rfl) fun W19 eW19 => ?_
          have dW19 := below_drew _ _ eW19
          have zW19 := size_drew _ _ eW19
          clear eW19
          refine hg_take 0 (by rfl) (want_none (by rfl)) (by rfl) rfl (by decide) (by kernel_rfl) (by kernel_rfl) (by kernel_rfl) (fun _ _ _ h => h) (Below.refl _ _) (fun q hq => y_move rfl rfl) ?_
          refine hg_take 1 (by rfl) (want_none (by rfl)) (by rfl) rfl (by decide) (by kernel_rfl) (by kernel_rfl) (by kernel_rfl) (fun _ _ _ h => h) (Below.refl _ _) (fun q hq => yb (nd_f rfl) (yi_neq rfl rfl rfl)) ?_
          refine hg_take 2 (by rfl) (want_none (by rfl)) (by rfl) rfl (by decide) (by kernel_rfl) (by kernel_rfl) (by kernel_rfl) (fun _ _ _ h => h) (Below.refl _ _) (fun q hq => y_move rfl rfl) ?_
          have r17 := RowAt.below dW19 r17.lt r17
          refine hg_take 3 (by rfl) (want_t (dj := 60) (by rfl) (by kernel_rfl) rfl) (by rfl) rfl (by decide) (by kernel_rfl) (by kernel_rfl) (by kernel_rfl) (fun _ _ _ h => h) (Below.refl _ _) (fun q hq => y_loadA (RowAt.below hq r17.lt r17) (by kernel_rfl) (by kernel_rfl) rfl rfl) ?_
          refine hg_take 4 (by rfl) (want_t (dj := 60) (by rfl) (by kernel_rfl) rfl) (by rfl) rfl (by decide) (by kernel_rfl) (by kernel_rfl) (by kernel_rfl) (fun _ _ _ h => h) (Below.refl _ _) (fun q hq => y_move rfl rfl) ?_
          refine hg_take 5 (by rfl) (want_t (dj := 60) (by rfl) (by kernel_rfl) rfl) (by rfl) rfl (by decide) (by kernel_rfl) (by kernel_rfl) (by kernel_rfl) (fun _ _ _ h => h) (Below.refl _ _) (fun q hq => y_move rfl rfl) ?_
          have hrow := hrow.below (hw16.mono (by omega))
          have hrow := hrow.below (n17.below.mono (by omega))
          have hrow := hrow.below (s18.below _ (by omega))
          have hrow := hrow.below (dW19.mono (by omega))
          obtain ⟨eb20, eo20, el20, eL20, eA20, eB20, eg20, eh20, ec20⟩ := hrow.at (k) (by have := hrow.len; omega)
          obtain rfl : eL15 = eL20 := Option.some.inj (eg15.symm.trans eg20)
          refine hg_take 6 (by rfl) (want_t (dj := 60) (by rfl) (by kernel_rfl) rfl) (by rfl) rfl (by decide) (by kernel_rfl) (by kernel_rfl) (by kernel_rfl) (fun _ _ _ h => h) (Below.refl _ _) (fun q hq => y_ixR (s := s) (el := 24) (k := 4) (i := k) (iI := ((k : Nat) : Int)) eA20 (by kernel_rfl) (by kernel_rfl) (by omega) (by have := hrow.len; omega) rfl rfl rfl) ?_
          refine hg_take 7 (by rfl) (want_t (dj := 60) (by rfl) (by kernel_rfl) rfl) (by rfl) rfl (by decide) (by kernel_rfl) (by kernel_rfl) (by kernel_rfl) (fun _ _ _ h => h) (Below.refl _ _) (fun q hq => y_loadC (cs := el20.cs eL15) (fun k u e => (hq.cell (p := ⟨eb20, _, none⟩) (show eb20 < _ by omega)).trans (ec20 k u e)) (by kernel_rfl) (by kernel_rfl) rfl rfl) ?_
          have m16 := m16.below (n17.below.mono (by omega))
          have m16 := m16.set o18 rfl s18
          have m16 := m16.below (dW19.mono (by omega))
          refine hg_one 8 (by rfl) (by kernel_rfl) (want_t (dj := 60) (by rfl) (by kernel_rfl) rfl) ?_
          refine lg_callw (want_t (dj := 60) (by rfl) (by kernel_rfl) rfl) (rsame_any (m16.more (B' := W19.heap.size) (by omega)) (eh20.more (B' := W19.heap.size) (by omega)) (Nat.le_refl _)) (by kernel_rfl) rfl rfl rfl (by decide) ?_
          rintro u21 w21 ⟨e21, hw21⟩
          have zw21 := hw21.size
          obtain rfl : u21 = .bool true := e21.trans (congrArg Value.bool (decide_eq_true (show LfSame eL15 eL15 from ⟨rfl, rfl, rfl, rfl⟩)))
          refine hg_next hw21 ?_
          refine hg_up hw21 ?_
          refine hg_take 9 (by rfl) (want_t (dj := 60) (by rfl) (by kernel_rfl) rfl) (by rfl) rfl (by decide) (by kernel_rfl) (by kernel_rfl) (by kernel_rfl) (fun _ _ _ h => h) (Below.refl _ _) (fun q hq => y_bnot rfl rfl) ?_
          refine hg_take 10 (by rfl) (want_none (by rfl)) (by rfl) rfl (by decide) (by kernel_rfl) (by kernel_rfl) (by kernel_rfl) (fun _ _ _ h => h) (Below.refl _ _) (fun q hq => y_pick false rfl rfl rfl) ?_
          refine hg_done (by kernel_rfl) ?_
          refine nx (E' := [(0, _), (3, _), (4, _), (6, _), (42, _), (43, _), (44, _), (45, _), (46, _), (47, _), (48, _), (49, _), (53, _), (54, _), (52, _), (55, _), (56, _), (57, _), (7, _), (8, _), (9, _), (58, _), (59, _), (60, _), (61, _), (62, _), (63, _), (64, _), (65, _), (66, _), (67, _), (68, _)]) (fk rfl (fk rfl (fk rfl (fk rfl (fk rfl (fk rfl (fk rfl (fk rfl (fk rfl (fk rfl (fk rfl (fk rfl (fk rfl (fk rfl (fk rfl (fk rfl (fk rfl (fk rfl (fk rfl (fk rfl (fk rfl (fk rfl (fk rfl (fk rfl (fk rfl (fk rfl (fk rfl (fk rfl (fk rfl (fk rfl (fk rfl (fk rfl fn)))))))))))))))))))))))))))))))) ?_
          refine cg_cf rfl ?_
          refine cg_skip ?_
          refine nx (E' := [(0, _), (3, _), (4, _), (6, _), (42, _), (43, _), (44, _), (45, _), (46, _), (47, _), (48, _), (49, _), (53, _), (54, _), (52, _), (55, _), (56, _), (57, _), (7, _), (8, _), (9, _), (58, _), (59, _), (60, _), (61, _), (62, _), (63, _), (64, _), (65, _), (66, _), (67, _), (68, _)]) (fk rfl (fk rfl (fk rfl (fk rfl (fk rfl (fk rfl (fk rfl (fk rfl (fk rfl (fk rfl (fk rfl (fk rfl (fk rfl (fk rfl (fk rfl (fk rfl (fk rfl (fk rfl (fk rfl (fk rfl (fk rfl (fk rfl (fk rfl (fk rfl (fk rfl (fk rfl (fk rfl (fk rfl (fk rfl (fk rfl (fk rfl (fk rfl fn)))))))))))))))))))))))))))))))) ?_
          refine cg_region ?_
          refine lsw (want_none (by rfl)) (y_move rfl rfl) rfl (by decide) ?_
          refine lsw (want_none (by rfl)) (y_assign rfl rfl) rfl (by decide) ?_
          refine lg_nil ?_
          refine eg_block_norm ?_
          refine nx (E' := [(0, _), (3, _), (6, _), (42, _), (43, _), (44, _), (45, _), (46, _), (47, _), (48, _), (49, _), (53, _), (54, _), (52, _), (55, _), (56, _), (57, _), (7, _), (8, _), (9, _), (58, _), (59, _), (60, _), (61, _), (62, _), (63, _), (64, _), (65, _), (66, _), (67, _), (68, _), (69, _), (4, _)]) (fk rfl (fk rfl (fk rfl (fk rfl (fk rfl (fk rfl (fk rfl (fk rfl (fk rfl (fk rfl (fk rfl (fk rfl (fk rfl (fk rfl (fk rfl (fk rfl (fk rfl (fk rfl (fk rfl (fk rfl (fk rfl (fk rfl (fk rfl (fk rfl (fk rfl (fk rfl (fk rfl (fk rfl (fk rfl (fk rfl (fk rfl (fk rfl (fk rfl fn))))))))))))))))))))))))))))))))) ?_
          refine cg_region ?_
          refine lsw (want_none (by rfl)) (y_move rfl rfl) rfl (by decide) ?_
          refine lsw (want_none (by rfl)) (yv (congrArg nv (show (k : Int) + 1 = ((k + 1 : Nat) : Int) by omega)) (yi_add rfl rfl rfl (by omega) (by omega))) rfl (by decide) ?_
          refine lsw (want_none (by rfl)) (y_assign rfl rfl) rfl (by decide) ?_
          refine lg_nil ?_
          have n16 := n16.below (n17.below.mono (by omega))
          have n16 := n16.set o18 rfl s18
          have n16 := n16.below (dW19.mono (by omega))
          have n16 := n16.below (hw21.mono (by omega))
          have u := u.trans (hw16.mono u.size)
          have u := u.trans (n17.below.mono u.size)
          have u := u.trans (s18.below _ (by omega))
          have u := u.trans (dW19.mono u.size)
          have u := u.trans (hw21.mono u.size)
          have hrow := hrow.below (hw21.mono (by omega))
          have hC2 := (show C ≤ w16.heap.size by omega)
          have hC2 := (show C ≤ w17.heap.size by omega)
          have hC2 := (show C ≤ w18.heap.size by omega)
          have hC2 := (show C ≤ W19.heap.size by omega)
          have hC2 := (show C ≤ w21.heap.size by omega)
          exact fun a ha => (show k < 10 ∧ _ from ⟨(by omega), r16, ha.keep (fk rfl (fk rfl (fk rfl (fk rfl fn)))), hrow, n16, u, hC2, (by omega)⟩)
        · have kt : t ≤ k := by omega
          refine lsw (want_t (dj := 46) (by rfl) (by kernel_rfl) rfl) (yb (decide_eq_false c14) (yi_lss rfl rfl rfl)) rfl (by decide) ?_
          refine lsw (want_none (by rfl)) (y_pick true rfl rfl rfl) rfl (by decide) ?_
          refine lg_nil ?_
          refine nx (E' := [(0, _), (3, _), (4, _), (6, _), (42, _), (43, _), (44, _), (45, _), (46, _), (47, _), (48, _), (49, _)]) (fk rfl (fk rfl (fk rfl (fk rfl (fk rfl (fk rfl (fk rfl (fk rfl (fk rfl (fk rfl (fk rfl (fk rfl fn)))))))))))) ?_
          refine cg_cf rfl ?_
          refine cg_exit ?_
          refine eg_seq_exit ?_
          refine eg_seq_exit ?_
          refine eg_block_exit ?_
          refine nx (E' := [(3, _), (4, _)]) (fk rfl (fk rfl fn)) ?_
          refine cg_seq ?_
          refine cg_region ?_
          refine lsw (want_none (by rfl)) (y_move rfl rfl) rfl (by decide) ?_
          refine lsw (want_none (by rfl)) (y_move rfl rfl) rfl (by decide) ?_
          refine lsw (want_t (dj := 71) (by rfl) (by kernel_rfl) rfl) (y_move rfl rfl) rfl (by decide) ?_
          refine lsw (want_t (dj := 71) (by rfl) (by kernel_rfl) rfl) (y_lenS (el := 5) hr (by kernel_rfl) rfl rfl) rfl (by decide) ?_
          refine lsw (want_t (dj := 71) (by rfl) (by kernel_rfl) rfl) (yb (decide_eq_true (show ((putAll ((Ls.take t).drop k)).length : Int) = 0 from (by rw [putAll_end kt]; rfl))) (yi_eql rfl rfl rfl)) rfl (by decide) ?_
          refine lsw (want_none (by rfl)) (y_pick true rfl rfl rfl) rfl (by decide) ?_
          refine lsw (want_none (by rfl)) (y_assign rfl rfl) rfl (by decide) ?_
          refine lg_nil ?_
          refine nx (E' := [(2, _)]) (fk rfl fn) ?_
          refine cg_ret ?_
          exact eg_ret_tmp rfl rfl ⟨_, rfl, rfl, u⟩
      · have kt : t ≤ k := by omega
        refine lsw (want_none (by rfl)) (yb (decide_eq_false c13) (yi_lss rfl rfl rfl)) rfl (by decide) ?_
        refine lsw (want_none (by rfl)) (y_move rfl rfl) rfl (by decide) ?_
        refine lsk (want_f (dj := 46) (by rfl) (by kernel_rfl) rfl) rfl (by decide) ?_
        refine lsk (want_f (dj := 46) (by rfl) (by kernel_rfl) rfl) rfl (by decide) ?_
        refine lsw (want_none (by rfl)) (y_pick false rfl rfl rfl) rfl (by decide) ?_
        refine lg_nil ?_
        refine nx (E' := [(0, _), (3, _), (4, _), (6, _), (42, _), (43, _), (44, _), (45, _), (46, _), (49, _)]) (fk rfl (fk rfl (fk rfl (fk rfl (fk rfl (fk rfl (fk rfl (fk rfl (fk rfl (fk rfl fn)))))))))) ?_
        refine cg_cf rfl ?_
        refine cg_exit ?_
        refine eg_seq_exit ?_
        refine eg_seq_exit ?_
        refine eg_block_exit ?_
        refine nx (E' := [(3, _), (4, _)]) (fk rfl (fk rfl fn)) ?_
        refine cg_seq ?_
        refine cg_region ?_
        refine lsw (want_none (by rfl)) (y_move rfl rfl) rfl (by decide) ?_
        refine lsw (want_none (by rfl)) (y_move rfl rfl) rfl (by decide) ?_
        refine lsw (want_t (dj := 71) (by rfl) (by kernel_rfl) rfl) (y_move rfl rfl) rfl (by decide) ?_
        refine lsw (want_t (dj := 71) (by rfl) (by kernel_rfl) rfl) (y_lenS (el := 5) hr (by kernel_rfl) rfl rfl) rfl (by decide) ?_
        refine lsw (want_t (dj := 71) (by rfl) (by kernel_rfl) rfl) (yb (decide_eq_true (show ((putAll ((Ls.take t).drop k)).length : Int) = 0 from (by rw [putAll_end kt]; rfl))) (yi_eql rfl rfl rfl)) rfl (by decide) ?_
        refine lsw (want_none (by rfl)) (y_pick true rfl rfl rfl) rfl (by decide) ?_
        refine lsw (want_none (by rfl)) (y_assign rfl rfl) rfl (by decide) ?_
        refine lg_nil ?_
        refine nx (E' := [(2, _)]) (fk rfl fn) ?_
        refine cg_ret ?_
        exact eg_ret_tmp rfl rfl ⟨_, rfl, rfl, u⟩
  · refine lsw (want_none (by rfl)) (yb (decide_eq_false c2) (yi_lss rfl rfl rfl)) rfl (by decide) ?_
    refine lsw (want_none (by rfl)) (y_move rfl rfl) rfl (by decide) ?_
    refine lsk (want_f (dj := 15) (by rfl) (by kernel_rfl) rfl) rfl (by decide) ?_
    refine lsk (want_f (dj := 15) (by rfl) (by kernel_rfl) rfl) rfl (by decide) ?_
    refine lsw (want_none (by rfl)) (y_pick false rfl rfl rfl) rfl (by decide) ?_
    refine lg_nil ?_
    refine nx (E' := [(0, _), (3, _), (4, _), (5, _), (11, _), (12, _), (13, _), (14, _), (15, _), (18, _)]) (fk rfl (fk rfl (fk rfl (fk rfl (fk rfl (fk rfl (fk rfl (fk rfl (fk rfl (fk rfl fn)))))))))) ?_
    refine cg_cf rfl ?_
    refine cg_exit ?_
    refine eg_seq_exit ?_
    refine eg_seq_exit ?_
    refine eg_block_exit ?_
    refine nx (E' := [(0, _), (3, _), (4, _)]) (fk rfl (fk rfl (fk rfl fn))) ?_
    refine cg_seq ?_
    refine cg_seq ?_
    refine cg_region ?_
    refine lsw (want_none (by rfl)) (y_assign rfl rfl) rfl (by decide) ?_
    refine lg_nil ?_
    refine nx (E' := [(0, _), (3, _), (4, _), (6, _)]) (fk rfl (fk rfl (fk rfl (fk rfl fn)))) ?_
    refine cg_block ?_
    obtain ⟨C, hC⟩ : ∃ q, q = v.heap.size := ⟨_, rfl⟩
    refine cg_loopE (fun k a v => ∃ (r : SlV), Holds 76 [(0, s.v), (3, .bool true), (4, r.v), (6, nv ((k : Nat) : Int))] a ∧ RwLf v W.heap.size s Ls ∧ Sl v C r (putAll ((Ls.take t).drop k)) ∧ Below W.heap.size W v ∧ C ≤ v.heap.size ∧ k ≤ t) 10 (fun a ha => ⟨r, ha.keep (fk rfl (fk rfl (fk rfl (fk rfl fn)))), hrow, (hr.more (by omega)).cast (by rw [List.drop_zero]), u, (Nat.le_of_eq hC), (Nat.zero_le _)⟩) ?_
    rintro k a v ht ⟨r, ha, hrow, hr, u, hC2, kle⟩
    refine cg_at ha ?_
    clear ha a
    have zv := u.size
    refine cg_seq ?_
    refine cg_seq ?_
    refine cg_region ?_
    refine lsw (want_none (by rfl)) (y_move rfl rfl) rfl (by decide) ?_
    refine lsw (want_none (by rfl)) (y_move rfl rfl) rfl (by decide) ?_
    refine lsw (want_none (by rfl)) (y_lenM (el := 24) hrow.len (by kernel_rfl) rfl rfl) rfl (by decide) ?_
    by_cases c22 : ((k : Nat) : Int) < (Ls.length : Int)
    · refine lsw (want_none (by rfl)) (yb (decide_eq_true c22) (yi_lss rfl rfl rfl)) rfl (by decide) ?_
      refine lsw (want_none (by rfl)) (y_move rfl rfl) rfl (by decide) ?_
      refine lsw (want_t (dj := 46) (by rfl) (by kernel_rfl) rfl) (y_move rfl rfl) rfl (by decide) ?_
      by_cases c23 : ((k : Nat) : Int) < 10
      · refine lsw (want_t (dj := 46) (by rfl) (by kernel_rfl) rfl) (yb (decide_eq_true c23) (yi_lss rfl rfl rfl)) rfl (by decide) ?_
        refine lsw (want_none (by rfl)) (y_pick true rfl rfl rfl) rfl (by decide) ?_
        refine lg_nil ?_
        refine nx (E' := [(0, _), (3, _), (4, _), (6, _), (42, _), (43, _), (44, _), (45, _), (46, _), (47, _), (48, _), (49, _)]) (fk rfl (fk rfl (fk rfl (fk rfl (fk rfl (fk rfl (fk rfl (fk rfl (fk rfl (fk rfl (fk rfl (fk rfl fn)))))))))))) ?_
        refine cg_ct rfl ?_
        refine cg_skip ?_
        refine nx (E' := [(0, _), (3, _), (4, _), (6, _), (42, _), (43, _), (44, _), (45, _), (46, _), (47, _), (48, _), (49, _)]) (fk rfl (fk rfl (fk rfl (fk rfl (fk rfl (fk rfl (fk rfl (fk rfl (fk rfl (fk rfl (fk rfl (fk rfl fn)))))))))))) ?_
        refine cg_seq ?_
        refine cg_block ?_
        refine cg_seq ?_
        refine cg_region ?_
        refine lsw (want_none (by rfl)) (y_move rfl rfl) rfl (by decide) ?_
        obtain ⟨eb24, eo24, el24, eL24, eA24, eB24, eg24, eh24, ec24⟩ := hrow.at k (by have := hrow.len; omega)
        refine lg_callw (want_none (by rfl)) (getL_anyE hr (by omega) (putAll_got ok eg24 (by omega))) (by kernel_rfl) rfl rfl rfl (by decide) ?_
        rintro _ w25 ⟨l25, r25, rfl, m25, n25, hw25⟩
        have zw25 := hw25.size
        refine lsw (want_none (by rfl)) (y_move rfl rfl) rfl (by decide) ?_
        refine lsw (want_none (by rfl)) (y_extract rfl rfl rfl) rfl (by decide) ?_
        refine lsw (want_none (by rfl)) (y_extract rfl rfl rfl) rfl (by decide) ?_
        refine lsw (want_none (by rfl)) (y_extract rfl rfl rfl) rfl (by decide) ?_
        refine lg_allocw (cs := LfV.zero.cs Lf.zero) (want_none (by rfl)) rfl (by kernel_rfl) rfl (by decide) fun b26 w26 n26 => ?_
        have r26 := n26.row
        have k26 := n26.blk
        have z26 := n26.size
        have lt26 : b26 < w26.heap.size := by omega
        have o27 := r26
        refine lg_stw (want_none (by rfl)) r26 rfl rfl rfl (by kernel_rfl) (by kernel_rfl) rfl rfl fun w27 s27 => ?_
        have r26 := s27.row
        have z27 := s27.size
        refine lsw (want_none (by rfl)) (y_assign rfl rfl) rfl (by decide) ?_
        refine lsw (want_none (by rfl)) (y_assign rfl rfl) rfl (by decide) ?_
        refine lg_nil ?_
        refine nx (E' := [(0, _), (3, _), (4, _), (6, _), (42, _), (43, _), (44, _), (45, _), (46, _), (47, _), (48, _), (49, _), (53, _), (54, _), (52, _), (55, _), (56, _), (57, _), (7, _), (8, _), (9, _)]) (fk rfl (fk rfl (fk rfl (fk rfl (fk rfl (fk rfl (fk rfl (fk rfl (fk rfl (fk rfl (fk rfl (fk rfl (fk rfl (fk rfl (fk rfl (fk rfl (fk rfl (fk rfl (fk rfl (fk rfl (fk rfl fn))))))))))))))))))))) ?_
        refine cg_seq ?_
        refine cg_seq ?_
        refine cg_held (by kernel_rfl) fun W28 eW28 => ?_
        have dW28 := below_drew _ _ eW28
        have zW28 := size_drew _ _ eW28
        clear eW28
        refine hg_take 0 (by rfl) (want_none (by rfl)) (by rfl) rfl (by decide) (by kernel_rfl) (by kernel_rfl) (by kernel_rfl) (fun _ _ _ h => h) (Below.refl _ _) (fun q hq => y_move rfl rfl) ?_
        refine hg_take 1 (by rfl) (want_none (by rfl)) (by rfl) rfl (by decide) (by kernel_rfl) (by kernel_rfl) (by kernel_rfl) (fun _ _ _ h => h) (Below.refl _ _) (fun q hq => yb (nd_f rfl) (yi_neq rfl rfl rfl)) ?_
        refine hg_take 2 (by rfl) (want_none (by rfl)) (by rfl) rfl (by decide) (by kernel_rfl) (by kernel_rfl) (by kernel_rfl) (fun _ _ _ h => h) (Below.refl _ _) (fun q hq => y_move rfl rfl) ?_
        have r26 := RowAt.below dW28 r26.lt r26
        refine hg_take 3 (by rfl) (want_t (dj := 60) (by rfl) (by kernel_rfl) rfl) (by rfl) rfl (by decide) (by kernel_rfl) (by kernel_rfl) (by kernel_rfl) (fun _ _ _ h => h) (Below.refl _ _) (fun q hq => y_loadA (RowAt.below hq r26.lt r26) (by kernel_rfl) (by kernel_rfl) rfl rfl) ?_
        refine hg_take 4 (by rfl) (want_t (dj := 60) (by rfl) (by kernel_rfl) rfl) (by rfl) rfl (by decide) (by kernel_rfl) (by kernel_rfl) (by kernel_rfl) (fun _ _ _ h => h) (Below.refl _ _) (fun q hq => y_move rfl rfl) ?_
        refine hg_take 5 (by rfl) (want_t (dj := 60) (by rfl) (by kernel_rfl) rfl) (by rfl) rfl (by decide) (by kernel_rfl) (by kernel_rfl) (by kernel_rfl) (fun _ _ _ h => h) (Below.refl _ _) (fun q hq => y_move rfl rfl) ?_
        have hrow := hrow.below (hw25.mono (by omega))
        have hrow := hrow.below (n26.below.mono (by omega))
        have hrow := hrow.below (s27.below _ (by omega))
        have hrow := hrow.below (dW28.mono (by omega))
        obtain ⟨eb29, eo29, el29, eL29, eA29, eB29, eg29, eh29, ec29⟩ := hrow.at (k) (by have := hrow.len; omega)
        obtain rfl : eL24 = eL29 := Option.some.inj (eg24.symm.trans eg29)
        refine hg_take 6 (by rfl) (want_t (dj := 60) (by rfl) (by kernel_rfl) rfl) (by rfl) rfl (by decide) (by kernel_rfl) (by kernel_rfl) (by kernel_rfl) (fun _ _ _ h => h) (Below.refl _ _) (fun q hq => y_ixR (s := s) (el := 24) (k := 4) (i := k) (iI := ((k : Nat) : Int)) eA29 (by kernel_rfl) (by kernel_rfl) (by omega) (by have := hrow.len; omega) rfl rfl rfl) ?_
        refine hg_take 7 (by rfl) (want_t (dj := 60) (by rfl) (by kernel_rfl) rfl) (by rfl) rfl (by decide) (by kernel_rfl) (by kernel_rfl) (by kernel_rfl) (fun _ _ _ h => h) (Below.refl _ _) (fun q hq => y_loadC (cs := el29.cs eL24) (fun k u e => (hq.cell (p := ⟨eb29, _, none⟩) (show eb29 < _ by omega)).trans (ec29 k u e)) (by kernel_rfl) (by kernel_rfl) rfl rfl) ?_
        have m25 := m25.below (n26.below.mono (by omega))
        have m25 := m25.set o27 rfl s27
        have m25 := m25.below (dW28.mono (by omega))
        refine hg_one 8 (by rfl) (by kernel_rfl) (want_t (dj := 60) (by rfl) (by kernel_rfl) rfl) ?_
        refine lg_callw (want_t (dj := 60) (by rfl) (by kernel_rfl) rfl) (rsame_any (m25.more (B' := W28.heap.size) (by omega)) (eh29.more (B' := W28.heap.size) (by omega)) (Nat.le_refl _)) (by kernel_rfl) rfl rfl rfl (by decide) ?_
        rintro u30 w30 ⟨e30, hw30⟩
        have zw30 := hw30.size
        obtain rfl : u30 = .bool true := e30.trans (congrArg Value.bool (decide_eq_true (show LfSame eL24 eL24 from ⟨rfl, rfl, rfl, rfl⟩)))
        refine hg_next hw30 ?_
        refine hg_up hw30 ?_
        refine hg_take 9 (by rfl) (want_t (dj := 60) (by rfl) (by kernel_rfl) rfl) (by rfl) rfl (by decide) (by kernel_rfl) (by kernel_rfl) (by kernel_rfl) (fun _ _ _ h => h) (Below.refl _ _) (fun q hq => y_bnot rfl rfl) ?_
        refine hg_take 10 (by rfl) (want_none (by rfl)) (by rfl) rfl (by decide) (by kernel_rfl) (by kernel_rfl) (by kernel_rfl) (fun _ _ _ h => h) (Below.refl _ _) (fun q hq => y_pick false rfl rfl rfl) ?_
        refine hg_done (by kernel_rfl) ?_
        refine nx (E' := [(0, _), (3, _), (4, _), (6, _), (42, _), (43, _), (44, _), (45, _), (46, _), (47, _), (48, _), (49, _), (53, _), (54, _), (52, _), (55, _), (56, _), (57, _), (7, _), (8, _), (9, _), (58, _), (59, _), (60, _), (61, _), (62, _), (63, _), (64, _), (65, _), (66, _), (67, _), (68, _)]) (fk rfl (fk rfl (fk rfl (fk rfl (fk rfl (fk rfl (fk rfl (fk rfl (fk rfl (fk rfl (fk rfl (fk rfl (fk rfl (fk rfl (fk rfl (fk rfl (fk rfl (fk rfl (fk rfl (fk rfl (fk rfl (fk rfl (fk rfl (fk rfl (fk rfl (fk rfl (fk rfl (fk rfl (fk rfl (fk rfl (fk rfl (fk rfl fn)))))))))))))))))))))))))))))))) ?_
        refine cg_cf rfl ?_
        refine cg_skip ?_
        refine nx (E' := [(0, _), (3, _), (4, _), (6, _), (42, _), (43, _), (44, _), (45, _), (46, _), (47, _), (48, _), (49, _), (53, _), (54, _), (52, _), (55, _), (56, _), (57, _), (7, _), (8, _), (9, _), (58, _), (59, _), (60, _), (61, _), (62, _), (63, _), (64, _), (65, _), (66, _), (67, _), (68, _)]) (fk rfl (fk rfl (fk rfl (fk rfl (fk rfl (fk rfl (fk rfl (fk rfl (fk rfl (fk rfl (fk rfl (fk rfl (fk rfl (fk rfl (fk rfl (fk rfl (fk rfl (fk rfl (fk rfl (fk rfl (fk rfl (fk rfl (fk rfl (fk rfl (fk rfl (fk rfl (fk rfl (fk rfl (fk rfl (fk rfl (fk rfl (fk rfl fn)))))))))))))))))))))))))))))))) ?_
        refine cg_region ?_
        refine lsw (want_none (by rfl)) (y_move rfl rfl) rfl (by decide) ?_
        refine lsw (want_none (by rfl)) (y_assign rfl rfl) rfl (by decide) ?_
        refine lg_nil ?_
        refine eg_block_norm ?_
        refine nx (E' := [(0, _), (3, _), (6, _), (42, _), (43, _), (44, _), (45, _), (46, _), (47, _), (48, _), (49, _), (53, _), (54, _), (52, _), (55, _), (56, _), (57, _), (7, _), (8, _), (9, _), (58, _), (59, _), (60, _), (61, _), (62, _), (63, _), (64, _), (65, _), (66, _), (67, _), (68, _), (69, _), (4, _)]) (fk rfl (fk rfl (fk rfl (fk rfl (fk rfl (fk rfl (fk rfl (fk rfl (fk rfl (fk rfl (fk rfl (fk rfl (fk rfl (fk rfl (fk rfl (fk rfl (fk rfl (fk rfl (fk rfl (fk rfl (fk rfl (fk rfl (fk rfl (fk rfl (fk rfl (fk rfl (fk rfl (fk rfl (fk rfl (fk rfl (fk rfl (fk rfl (fk rfl fn))))))))))))))))))))))))))))))))) ?_
        refine cg_region ?_
        refine lsw (want_none (by rfl)) (y_move rfl rfl) rfl (by decide) ?_
        refine lsw (want_none (by rfl)) (yv (congrArg nv (show (k : Int) + 1 = ((k + 1 : Nat) : Int) by omega)) (yi_add rfl rfl rfl (by omega) (by omega))) rfl (by decide) ?_
        refine lsw (want_none (by rfl)) (y_assign rfl rfl) rfl (by decide) ?_
        refine lg_nil ?_
        have n25 := n25.below (n26.below.mono (by omega))
        have n25 := n25.set o27 rfl s27
        have n25 := n25.below (dW28.mono (by omega))
        have n25 := n25.below (hw30.mono (by omega))
        have u := u.trans (hw25.mono u.size)
        have u := u.trans (n26.below.mono u.size)
        have u := u.trans (s27.below _ (by omega))
        have u := u.trans (dW28.mono u.size)
        have u := u.trans (hw30.mono u.size)
        have hrow := hrow.below (hw30.mono (by omega))
        have hC2 := (show C ≤ w25.heap.size by omega)
        have hC2 := (show C ≤ w26.heap.size by omega)
        have hC2 := (show C ≤ w27.heap.size by omega)
        have hC2 := (show C ≤ W28.heap.size by omega)
        have hC2 := (show C ≤ w30.heap.size by omega)
        exact fun a ha => (show k < 10 ∧ _ from ⟨(by omega), r25, ha.keep (fk rfl (fk rfl (fk rfl (fk rfl fn)))), hrow, n25, u, hC2, (by omega)⟩)
      · have kt : t ≤ k := by omega
        refine lsw (want_t (dj := 46) (by rfl) (by kernel_rfl) rfl) (yb (decide_eq_false c23) (yi_lss rfl rfl rfl)) rfl (by decide) ?_
        refine lsw (want_none (by rfl)) (y_pick true rfl rfl rfl) rfl (by decide) ?_
        refine lg_nil ?_
        refine nx (E' := [(0, _), (3, _), (4, _), (6, _), (42, _), (43, _), (44, _), (45, _), (46, _), (47, _), (48, _), (49, _)]) (fk rfl (fk rfl (fk rfl (fk rfl (fk rfl (fk rfl (fk rfl (fk rfl (fk rfl (fk rfl (fk rfl (fk rfl fn)))))))))))) ?_
        refine cg_cf rfl ?_
        refine cg_exit ?_
        refine eg_seq_exit ?_
        refine eg_seq_exit ?_
        refine eg_block_exit ?_
        refine nx (E' := [(3, _), (4, _)]) (fk rfl (fk rfl fn)) ?_
        refine cg_seq ?_
        refine cg_region ?_
        refine lsw (want_none (by rfl)) (y_move rfl rfl) rfl (by decide) ?_
        refine lsw (want_none (by rfl)) (y_move rfl rfl) rfl (by decide) ?_
        refine lsw (want_t (dj := 71) (by rfl) (by kernel_rfl) rfl) (y_move rfl rfl) rfl (by decide) ?_
        refine lsw (want_t (dj := 71) (by rfl) (by kernel_rfl) rfl) (y_lenS (el := 5) hr (by kernel_rfl) rfl rfl) rfl (by decide) ?_
        refine lsw (want_t (dj := 71) (by rfl) (by kernel_rfl) rfl) (yb (decide_eq_true (show ((putAll ((Ls.take t).drop k)).length : Int) = 0 from (by rw [putAll_end kt]; rfl))) (yi_eql rfl rfl rfl)) rfl (by decide) ?_
        refine lsw (want_none (by rfl)) (y_pick true rfl rfl rfl) rfl (by decide) ?_
        refine lsw (want_none (by rfl)) (y_assign rfl rfl) rfl (by decide) ?_
        refine lg_nil ?_
        refine nx (E' := [(2, _)]) (fk rfl fn) ?_
        refine cg_ret ?_
        exact eg_ret_tmp rfl rfl ⟨_, rfl, rfl, u⟩
    · have kt : t ≤ k := by omega
      refine lsw (want_none (by rfl)) (yb (decide_eq_false c22) (yi_lss rfl rfl rfl)) rfl (by decide) ?_
      refine lsw (want_none (by rfl)) (y_move rfl rfl) rfl (by decide) ?_
      refine lsk (want_f (dj := 46) (by rfl) (by kernel_rfl) rfl) rfl (by decide) ?_
      refine lsk (want_f (dj := 46) (by rfl) (by kernel_rfl) rfl) rfl (by decide) ?_
      refine lsw (want_none (by rfl)) (y_pick false rfl rfl rfl) rfl (by decide) ?_
      refine lg_nil ?_
      refine nx (E' := [(0, _), (3, _), (4, _), (6, _), (42, _), (43, _), (44, _), (45, _), (46, _), (49, _)]) (fk rfl (fk rfl (fk rfl (fk rfl (fk rfl (fk rfl (fk rfl (fk rfl (fk rfl (fk rfl fn)))))))))) ?_
      refine cg_cf rfl ?_
      refine cg_exit ?_
      refine eg_seq_exit ?_
      refine eg_seq_exit ?_
      refine eg_block_exit ?_
      refine nx (E' := [(3, _), (4, _)]) (fk rfl (fk rfl fn)) ?_
      refine cg_seq ?_
      refine cg_region ?_
      refine lsw (want_none (by rfl)) (y_move rfl rfl) rfl (by decide) ?_
      refine lsw (want_none (by rfl)) (y_move rfl rfl) rfl (by decide) ?_
      refine lsw (want_t (dj := 71) (by rfl) (by kernel_rfl) rfl) (y_move rfl rfl) rfl (by decide) ?_
      refine lsw (want_t (dj := 71) (by rfl) (by kernel_rfl) rfl) (y_lenS (el := 5) hr (by kernel_rfl) rfl rfl) rfl (by decide) ?_
      refine lsw (want_t (dj := 71) (by rfl) (by kernel_rfl) rfl) (yb (decide_eq_true (show ((putAll ((Ls.take t).drop k)).length : Int) = 0 from (by rw [putAll_end kt]; rfl))) (yi_eql rfl rfl rfl)) rfl (by decide) ?_
      refine lsw (want_none (by rfl)) (y_pick true rfl rfl rfl) rfl (by decide) ?_
      refine lsw (want_none (by rfl)) (y_assign rfl rfl) rfl (by decide) ?_
      refine lg_nil ?_
      refine nx (E' := [(2, _)]) (fk rfl fn) ?_
      refine cg_ret ?_
      exact eg_ret_tmp rfl rfl ⟨_, rfl, rfl, u⟩
end Go.Proofs.Ytakbbenegojcdaa
