/-
  Put one behind the other, they are got in order.
-/
import Derived.Test.YtpmakacjhoemeaaNdAwake
import Derived.Test.YtpmakacjhoemeaaNdRef
import Derived.Test.YtpmakacjhoemeaaNdRow
namespace Go.Proofs.Ytpmakacjhoemeaa
open Go.ChangeShapes Go.WideShapes Go.ChangeAt Go.RowKit
set_option linter.unusedVariables false

set_option maxHeartbeats 4000000 in
theorem nodeTwo_any {W : World} {s : SlV} {Ls : List Nd} (hrow : RwNd W W.heap.size s Ls) : Calls Try.prog 7 #[s.v] W fun e W' => ∃ v, e = .returned v ∧ v = .bool true ∧ Below W.heap.size W W' := by
  refine calls_cg (n := 74) Try.func7 rfl Try.ntmps7 (by simp) ?_
  show CG _ _ _ [(0, s.v)] _ _
  have u := Below.refl W.heap.size W
  refine cg_seq ?_
  refine cg_region ?_
  refine lsw (want_none (by rfl)) (y_assign rfl rfl) rfl (by decide) ?_
  refine lg_nil ?_
  refine nx (E' := [(0, _), (2, _)]) (fk rfl (fk rfl fn)) ?_
  refine cg_seq ?_
  refine cg_region ?_
  refine lg_callw (want_none (by rfl)) (awakeN_any _) (by kernel_rfl) rfl rfl rfl (by decide) ?_
  rintro _ w1 ⟨rfl, hw1⟩
  have zw1 := hw1.size
  refine lsw (want_none (by rfl)) (y_assign rfl rfl) rfl (by decide) ?_
  refine lg_nil ?_
  refine nx (E' := [(0, _), (2, _), (3, _)]) (fk rfl (fk rfl (fk rfl fn))) ?_
  refine cg_seq ?_
  refine cg_region ?_
  refine lsw (want_none (by rfl)) (y_assign rfl rfl) rfl (by decide) ?_
  refine lg_nil ?_
  refine nx (E' := [(0, _), (2, _), (3, _), (4, _)]) (fk rfl (fk rfl (fk rfl (fk rfl fn)))) ?_
  refine cg_seq ?_
  refine cg_seq ?_
  refine cg_region ?_
  refine lsw (want_none (by rfl)) (y_assign rfl rfl) rfl (by decide) ?_
  refine lg_nil ?_
  refine nx (E' := [(0, _), (2, _), (3, _), (4, _), (5, _)]) (fk rfl (fk rfl (fk rfl (fk rfl (fk rfl fn))))) ?_
  refine cg_block ?_
  have hrow := hrow.below (hw1.mono (by omega))
  have u := u.trans (hw1.mono u.size)
  refine cg_loopE (fun t a v => ∃ (r : SlV), Holds 74 [(0, s.v), (3, .bool true), (4, r.v), (5, nv ((t : Nat) : Int))] a ∧ RwNd v W.heap.size s Ls ∧ Sl v v.heap.size r (nputAll (Ls.take t)) ∧ Below W.heap.size W v ∧ t ≤ Ls.length) 10 (fun a ha => ⟨nilS, ha.keep (fk rfl (fk rfl (fk rfl (fk rfl fn)))), hrow, (Sl.nil _ _).cast (by simp [nputAll]), u, (Nat.zero_le _)⟩) ?_
  rintro t a v ht ⟨r, ha, hrow, hr, u, tle⟩
  refine cg_at ha ?_
  clear ha a
  have zv := u.size
  have lb := nputAll_le (Ls.take t)
  rw [List.length_take] at lb
  refine cg_seq ?_
  refine cg_seq ?_
  refine cg_region ?_
  refine lsw (want_none (by rfl)) (y_move rfl rfl) rfl (by decide) ?_
  refine lsw (want_none (by rfl)) (y_move rfl rfl) rfl (by decide) ?_
  refine lsw (want_none (by rfl)) (y_lenM (el := 29) hrow.len (by kernel_rfl) rfl rfl) rfl (by decide) ?_
  by_cases c2 : ((t : Nat) : Int) < (Ls.length : Int)
  · refine lsw (want_none (by rfl)) (yb (decide_eq_true c2) (yi_lss rfl rfl rfl)) rfl (by decide) ?_
    refine lsw (want_none (by rfl)) (y_move rfl rfl) rfl (by decide) ?_
    refine lsw (want_t (dj := 16) (by rfl) (by kernel_rfl) rfl) (y_move rfl rfl) rfl (by decide) ?_
    by_cases c3 : ((t : Nat) : Int) < 10
    · refine lsw (want_t (dj := 16) (by rfl) (by kernel_rfl) rfl) (yb (decide_eq_true c3) (yi_lss rfl rfl rfl)) rfl (by decide) ?_
      refine lsw (want_none (by rfl)) (y_pick true rfl rfl rfl) rfl (by decide) ?_
      refine lg_nil ?_
      refine nx (E' := [(0, _), (3, _), (4, _), (5, _), (12, _), (13, _), (14, _), (15, _), (16, _), (17, _), (18, _), (19, _)]) (fk rfl (fk rfl (fk rfl (fk rfl (fk rfl (fk rfl (fk rfl (fk rfl (fk rfl (fk rfl (fk rfl (fk rfl fn)))))))))))) ?_
      refine cg_ct rfl ?_
      refine cg_skip ?_
      refine nx (E' := [(0, _), (3, _), (4, _), (5, _), (12, _), (13, _), (14, _), (15, _), (16, _), (17, _), (18, _), (19, _)]) (fk rfl (fk rfl (fk rfl (fk rfl (fk rfl (fk rfl (fk rfl (fk rfl (fk rfl (fk rfl (fk rfl (fk rfl fn)))))))))))) ?_
      refine cg_seq ?_
      refine cg_block ?_
      refine cg_seq ?_
      refine cg_seq ?_
      refine cg_region ?_
      refine lsw (want_none (by rfl)) (y_move rfl rfl) rfl (by decide) ?_
      refine lsw (want_none (by rfl)) (y_move rfl rfl) rfl (by decide) ?_
      obtain ⟨eb4, eo4, el4, eL4, eA4, eB4, eg4, eh4, ec4⟩ := hrow.at (t) (by have := hrow.len; omega)
      refine lsw (want_none (by rfl)) (y_ixR (s := s) (el := 29) (k := 8) (i := t) (iI := ((t : Nat) : Int)) eA4 (by kernel_rfl) (by kernel_rfl) (by omega) (by have := hrow.len; omega) rfl rfl rfl) rfl (by decide) ?_
      refine lsw (want_none (by rfl)) (y_loadC (cs := el4.cs eL4) ec4 (by kernel_rfl) (by kernel_rfl) rfl rfl) rfl (by decide) ?_
      by_cases c5 : ndFew eL4
      · refine lg_callw (want_none (by rfl)) (fewN_any (eh4.more (B' := v.heap.size) (by omega)) (Nat.le_refl _)) (by kernel_rfl) rfl rfl rfl (by decide) ?_
        rintro u6 w6 ⟨e6, hw6⟩
        have zw6 := hw6.size
        obtain rfl : u6 = .bool true := e6.trans (congrArg Value.bool (decide_eq_true c5))
        refine lsw (want_none (by rfl)) (y_bnot rfl rfl) rfl (by decide) ?_
        refine lg_nil ?_
        refine nx (E' := [(0, _), (3, _), (4, _), (5, _), (12, _), (13, _), (14, _), (15, _), (16, _), (17, _), (18, _), (19, _), (22, _), (23, _), (24, _), (25, _), (26, _), (27, _)]) (fk rfl (fk rfl (fk rfl (fk rfl (fk rfl (fk rfl (fk rfl (fk rfl (fk rfl (fk rfl (fk rfl (fk rfl (fk rfl (fk rfl (fk rfl (fk rfl (fk rfl (fk rfl fn)))))))))))))))))) ?_
        refine cg_cf rfl ?_
        refine cg_skip ?_
        refine nx (E' := [(0, _), (3, _), (4, _), (5, _), (12, _), (13, _), (14, _), (15, _), (16, _), (17, _), (18, _), (19, _), (22, _), (23, _), (24, _), (25, _), (26, _), (27, _)]) (fk rfl (fk rfl (fk rfl (fk rfl (fk rfl (fk rfl (fk rfl (fk rfl (fk rfl (fk rfl (fk rfl (fk rfl (fk rfl (fk rfl (fk rfl (fk rfl (fk rfl (fk rfl fn)))))))))))))))))) ?_
        refine cg_region ?_
        refine lsw (want_none (by rfl)) (y_move rfl rfl) rfl (by decide) ?_
        refine lsw (want_none (by rfl)) (y_move rfl rfl) rfl (by decide) ?_
        refine lsw (want_none (by rfl)) (y_move rfl rfl) rfl (by decide) ?_
        have hrow := hrow.below (hw6.mono (by omega))
        obtain ⟨eb7, eo7, el7, eL7, eA7, eB7, eg7, eh7, ec7⟩ := hrow.at (t) (by have := hrow.len; omega)
        obtain rfl : eL4 = eL7 := Option.some.inj (eg4.symm.trans eg7)
        refine lsw (want_none (by rfl)) (y_ixR (s := s) (el := 29) (k := 8) (i := t) (iI := ((t : Nat) : Int)) eA7 (by kernel_rfl) (by kernel_rfl) (by omega) (by have := hrow.len; omega) rfl rfl rfl) rfl (by decide) ?_
        refine lsw (want_none (by rfl)) (y_loadC (cs := el7.cs eL4) ec7 (by kernel_rfl) (by kernel_rfl) rfl rfl) rfl (by decide) ?_
        have hr := hr.below (hw6.mono (by omega))
        refine lg_callw (want_none (by rfl)) (putN_any (hr.more (B' := w6.heap.size) (by omega)) (eh7.more (B' := w6.heap.size) (by omega)) (Nat.le_refl _) (by first | omega | (simp only [List.length_append, List.length_cons, List.length_nil, numOct_length, flagOct_length]; omega))) (by kernel_rfl) rfl rfl rfl (by decide) ?_
        rintro _ w8 ⟨r8, rfl, m8, hw8⟩
        have zw8 := hw8.size
        have lp8 := ndPut_le eL4
        refine lsw (want_none (by rfl)) (y_assign rfl rfl) rfl (by decide) ?_
        refine lg_nil ?_
        refine eg_block_norm ?_
        refine nx (E' := [(0, _), (3, _), (5, _), (12, _), (13, _), (14, _), (15, _), (16, _), (17, _), (18, _), (19, _), (22, _), (23, _), (24, _), (25, _), (26, _), (27, _), (29, _), (30, _), (31, _), (32, _), (33, _), (34, _), (4, _)]) (fk rfl (fk rfl (fk rfl (fk rfl (fk rfl (fk rfl (fk rfl (fk rfl (fk rfl (fk rfl (fk rfl (fk rfl (fk rfl (fk rfl (fk rfl (fk rfl (fk rfl (fk rfl (fk rfl (fk rfl (fk rfl (fk rfl (fk rfl (fk rfl fn)))))))))))))))))))))))) ?_
        refine cg_region ?_
        refine lsw (want_none (by rfl)) (y_move rfl rfl) rfl (by decide) ?_
        refine lsw (want_none (by rfl)) (yv (congrArg nv (show (t : Int) + 1 = ((t + 1 : Nat) : Int) by omega)) (yi_add rfl rfl rfl (by omega) (by omega))) rfl (by decide) ?_
        refine lsw (want_none (by rfl)) (y_assign rfl rfl) rfl (by decide) ?_
        refine lg_nil ?_
        have hrow := hrow.below (hw8.mono (by omega))
        have u := u.trans (hw6.mono u.size)
        have u := u.trans (hw8.mono u.size)
        exact fun a ha => (show t < 10 ∧ _ from ⟨(by omega), r8, ha.keep (fk rfl (fk rfl (fk rfl (fk rfl fn)))), hrow, (m8.more (by omega)).cast (nputAll_step eg4).symm, u, (by omega)⟩)
      · refine lg_callw (want_none (by rfl)) (fewN_any (eh4.more (B' := v.heap.size) (by omega)) (Nat.le_refl _)) (by kernel_rfl) rfl rfl rfl (by decide) ?_
        rintro u9 w9 ⟨e9, hw9⟩
        have zw9 := hw9.size
        obtain rfl : u9 = .bool false := e9.trans (congrArg Value.bool (decide_eq_false c5))
        refine lsw (want_none (by rfl)) (y_bnot rfl rfl) rfl (by decide) ?_
        refine lg_nil ?_
        refine nx (E' := [(0, _), (3, _), (4, _), (5, _), (12, _), (13, _), (14, _), (15, _), (16, _), (17, _), (18, _), (19, _), (22, _), (23, _), (24, _), (25, _), (26, _), (27, _)]) (fk rfl (fk rfl (fk rfl (fk rfl (fk rfl (fk rfl (fk rfl (fk rfl (fk rfl (fk rfl (fk rfl (fk rfl (fk rfl (fk rfl (fk rfl (fk rfl (fk rfl (fk rfl fn)))))))))))))))))) ?_
        refine cg_ct rfl ?_
        refine cg_seq ?_
        refine cg_region ?_
        refine lsw (want_none (by rfl)) (y_move rfl rfl) rfl (by decide) ?_
        refine lsw (want_none (by rfl)) (y_assign rfl rfl) rfl (by decide) ?_
        refine lg_nil ?_
        refine nx (E' := [(0, _), (3, _), (4, _), (5, _), (12, _), (13, _), (14, _), (15, _), (16, _), (17, _), (18, _), (19, _), (22, _), (23, _), (24, _), (25, _), (26, _), (27, _), (28, _), (2, _)]) (fk rfl (fk rfl (fk rfl (fk rfl (fk rfl (fk rfl (fk rfl (fk rfl (fk rfl (fk rfl (fk rfl (fk rfl (fk rfl (fk rfl (fk rfl (fk rfl (fk rfl (fk rfl (fk rfl (fk rfl fn)))))))))))))))))))) ?_
        refine cg_ret ?_
        refine eg_seq_ret ?_
        refine eg_block_ret ?_
        refine eg_seq_ret ?_
        refine eg_seq_ret ?_
        refine eg_block_ret ?_
        refine eg_seq_ret ?_
        have u := u.trans (hw9.mono u.size)
        exact eg_ret_tmp rfl rfl ⟨_, rfl, rfl, u⟩
    · refine lsw (want_t (dj := 16) (by rfl) (by kernel_rfl) rfl) (yb (decide_eq_false c3) (yi_lss rfl rfl rfl)) rfl (by decide) ?_
      refine lsw (want_none (by rfl)) (y_pick true rfl rfl rfl) rfl (by decide) ?_
      refine lg_nil ?_
      refine nx (E' := [(0, _), (3, _), (4, _), (5, _), (12, _), (13, _), (14, _), (15, _), (16, _), (17, _), (18, _), (19, _)]) (fk rfl (fk rfl (fk rfl (fk rfl (fk rfl (fk rfl (fk rfl (fk rfl (fk rfl (fk rfl (fk rfl (fk rfl fn)))))))))))) ?_
      refine cg_cf rfl ?_
      refine cg_exit ?_
      refine eg_seq_exit ?_
      refine eg_seq_exit ?_
      refine eg_block_exit ?_
      refine nx (E' := [(0, _), (3, _), (4, _)]) (fk rfl (fk rfl (fk rfl fn))) ?_
      refine cg_seq ?_
      refine cg_seq ?_
      refine cg_region ?_
      refine lsw (want_none (by rfl)) (y_assign rfl rfl) rfl (by decide) ?_
      refine lg_nil ?_
      refine nx (E' := [(0, _), (3, _), (4, _), (6, _)]) (fk rfl (fk rfl (fk rfl (fk rfl fn)))) ?_
      refine cg_block ?_
      obtain ⟨C, hC⟩ : ∃ q, q = v.heap.size := ⟨_, rfl⟩
      refine cg_loopE (fun k a v => ∃ (r : SlV), Holds 74 [(0, s.v), (3, .bool true), (4, r.v), (6, nv ((k : Nat) : Int))] a ∧ RwNd v W.heap.size s Ls ∧ Sl v C r (nputAll ((Ls.take t).drop k)) ∧ Below W.heap.size W v ∧ C ≤ v.heap.size ∧ k ≤ t) 10 (fun a ha => ⟨r, ha.keep (fk rfl (fk rfl (fk rfl (fk rfl fn)))), hrow, (hr.more (by omega)).cast (by rw [List.drop_zero]), u, (Nat.le_of_eq hC), (Nat.zero_le _)⟩) ?_
      rintro k a v ht ⟨r, ha, hrow, hr, u, hC2, kle⟩
      refine cg_at ha ?_
      clear ha a
      have zv := u.size
      refine cg_seq ?_
      refine cg_seq ?_
      refine cg_region ?_
      refine lsw (want_none (by rfl)) (y_move rfl rfl) rfl (by decide) ?_
      refine lsw (want_none (by rfl)) (y_move rfl rfl) rfl (by decide) ?_
      refine lsw (want_none (by rfl)) (y_lenM (el := 29) hrow.len (by kernel_rfl) rfl rfl) rfl (by decide) ?_
      by_cases c10 : ((k : Nat) : Int) < (Ls.length : Int)
      · refine lsw (want_none (by rfl)) (yb (decide_eq_true c10) (yi_lss rfl rfl rfl)) rfl (by decide) ?_
        refine lsw (want_none (by rfl)) (y_move rfl rfl) rfl (by decide) ?_
        refine lsw (want_t (dj := 39) (by rfl) (by kernel_rfl) rfl) (y_move rfl rfl) rfl (by decide) ?_
        by_cases c11 : ((k : Nat) : Int) < 10
        · refine lsw (want_t (dj := 39) (by rfl) (by kernel_rfl) rfl) (yb (decide_eq_true c11) (yi_lss rfl rfl rfl)) rfl (by decide) ?_
          refine lsw (want_none (by rfl)) (y_pick true rfl rfl rfl) rfl (by decide) ?_
          refine lg_nil ?_
          refine nx (E' := [(0, _), (3, _), (4, _), (6, _), (35, _), (36, _), (37, _), (38, _), (39, _), (40, _), (41, _), (42, _)]) (fk rfl (fk rfl (fk rfl (fk rfl (fk rfl (fk rfl (fk rfl (fk rfl (fk rfl (fk rfl (fk rfl (fk rfl fn)))))))))))) ?_
          refine cg_ct rfl ?_
          refine cg_skip ?_
          refine nx (E' := [(0, _), (3, _), (4, _), (6, _), (35, _), (36, _), (37, _), (38, _), (39, _), (40, _), (41, _), (42, _)]) (fk rfl (fk rfl (fk rfl (fk rfl (fk rfl (fk rfl (fk rfl (fk rfl (fk rfl (fk rfl (fk rfl (fk rfl fn)))))))))))) ?_
          refine cg_seq ?_
          refine cg_block ?_
          refine cg_seq ?_
          refine cg_region ?_
          refine lsw (want_none (by rfl)) (y_move rfl rfl) rfl (by decide) ?_
          refine lsw (want_none (by rfl)) (y_move rfl rfl) rfl (by decide) ?_
          obtain ⟨eb12, eo12, el12, eL12, eA12, eB12, eg12, eh12, ec12⟩ := hrow.at (k) (by have := hrow.len; omega)
          refine lsw (want_none (by rfl)) (y_ixR (s := s) (el := 29) (k := 8) (i := k) (iI := ((k : Nat) : Int)) eA12 (by kernel_rfl) (by kernel_rfl) (by omega) (by have := hrow.len; omega) rfl rfl rfl) rfl (by decide) ?_
          refine lsw (want_none (by rfl)) (y_loadC (cs := el12.cs eL12) ec12 (by kernel_rfl) (by kernel_rfl) rfl rfl) rfl (by decide) ?_
          refine lg_allocw (cs := NdV.zero.cs Nd.zero) (want_none (by rfl)) rfl (by kernel_rfl) rfl (by decide) fun b13 w13 n13 => ?_
          have r13 := n13.row
          have k13 := n13.blk
          have z13 := n13.size
          have lt13 : b13 < w13.heap.size := by omega
          have o14 := r13
          refine lg_stw (want_none (by rfl)) r13 rfl rfl rfl (by kernel_rfl) (by kernel_rfl) rfl rfl fun w14 s14 => ?_
          have r13 := s14.row
          have z14 := s14.size
          refine lg_nil ?_
          refine nx (E' := [(0, _), (3, _), (4, _), (6, _), (35, _), (36, _), (37, _), (38, _), (39, _), (40, _), (41, _), (42, _), (45, _), (46, _), (47, _), (48, _), (7, _)]) (fk rfl (fk rfl (fk rfl (fk rfl (fk rfl (fk rfl (fk rfl (fk rfl (fk rfl (fk rfl (fk rfl (fk rfl (fk rfl (fk rfl (fk rfl (fk rfl (fk rfl fn))))))))))))))))) ?_
          refine cg_seq ?_
          refine cg_seq ?_
          refine cg_region ?_
          refine lsw (want_none (by rfl)) (y_loadA r13 (by kernel_rfl) (by kernel_rfl) rfl rfl) rfl (by decide) ?_
          have eh12 := eh12.below (n13.below.mono (by omega))
          have eh12 := eh12.below (s14.below _ (by omega))
          refine lg_callw (want_none (by rfl)) (checkN_any (eh12.more (B' := w14.heap.size) (by omega)) (Nat.le_refl _)) (by kernel_rfl) rfl rfl rfl (by decide) ?_
          rintro _ w15 ⟨rfl, hw15⟩
          have zw15 := hw15.size
          by_cases c16 : (ndCheck eL12) = 0
          · refine lsw (want_none (by rfl)) (yb (nd_f c16) (yi_neq rfl rfl rfl)) rfl (by decide) ?_
            refine lg_nil ?_
            refine nx (E' := [(0, _), (3, _), (4, _), (6, _), (35, _), (36, _), (37, _), (38, _), (39, _), (40, _), (41, _), (42, _), (45, _), (46, _), (47, _), (48, _), (7, _), (49, _), (50, _), (51, _)]) (fk rfl (fk rfl (fk rfl (fk rfl (fk rfl (fk rfl (fk rfl (fk rfl (fk rfl (fk rfl (fk rfl (fk rfl (fk rfl (fk rfl (fk rfl (fk rfl (fk rfl (fk rfl (fk rfl (fk rfl fn)))))))))))))))))))) ?_
            refine cg_cf rfl ?_
            refine cg_skip ?_
            refine nx (E' := [(0, _), (3, _), (4, _), (6, _), (35, _), (36, _), (37, _), (38, _), (39, _), (40, _), (41, _), (42, _), (45, _), (46, _), (47, _), (48, _), (7, _), (49, _), (50, _), (51, _)]) (fk rfl (fk rfl (fk rfl (fk rfl (fk rfl (fk rfl (fk rfl (fk rfl (fk rfl (fk rfl (fk rfl (fk rfl (fk rfl (fk rfl (fk rfl (fk rfl (fk rfl (fk rfl (fk rfl (fk rfl fn)))))))))))))))))))) ?_
            refine cg_seq ?_
            refine cg_region ?_
            refine lsw (want_none (by rfl)) (y_move rfl rfl) rfl (by decide) ?_
            have hr := hr.below (n13.below.mono (by omega))
            have hr := hr.set o14 rfl s14
            have hr := hr.below (hw15.mono (by omega))
            refine lg_callw (want_none (by rfl)) (getN_anyE hr (by omega) (nputAll_gotOk c16 eg12 (by omega))) (by kernel_rfl) rfl rfl rfl (by decide) ?_
            rintro _ w17 ⟨l17, r17, rfl, m17, n17, f17, hw17⟩
            have zw17 := hw17.size
            refine lsw (want_none (by rfl)) (y_move rfl rfl) rfl (by decide) ?_
            refine lsw (want_none (by rfl)) (y_extract rfl rfl rfl) rfl (by decide) ?_
            refine lsw (want_none (by rfl)) (y_extract rfl rfl rfl) rfl (by decide) ?_
            refine lsw (want_none (by rfl)) (y_extract rfl rfl rfl) rfl (by decide) ?_
            refine lg_allocw (cs := NdV.zero.cs Nd.zero) (want_none (by rfl)) rfl (by kernel_rfl) rfl (by decide) fun b18 w18 n18 => ?_
            have r18 := n18.row
            have k18 := n18.blk
            have z18 := n18.size
            have lt18 : b18 < w18.heap.size := by omega
            have o19 := r18
            refine lg_stw (want_none (by rfl)) r18 rfl rfl rfl (by kernel_rfl) (by kernel_rfl) rfl rfl fun w19 s19 => ?_
            have r18 := s19.row
            have z19 := s19.size
            refine lsw (want_none (by rfl)) (y_assign rfl rfl) rfl (by decide) ?_
            refine lsw (want_none (by rfl)) (y_assign rfl rfl) rfl (by decide) ?_
            refine lg_nil ?_
            refine nx (E' := [(0, _), (3, _), (4, _), (6, _), (35, _), (36, _), (37, _), (38, _), (39, _), (40, _), (41, _), (42, _), (45, _), (46, _), (47, _), (48, _), (7, _), (49, _), (50, _), (51, _), (54, _), (55, _), (53, _), (56, _), (57, _), (58, _), (8, _), (9, _), (10, _)]) (fk rfl (fk rfl (fk rfl (fk rfl (fk rfl (fk rfl (fk rfl (fk rfl (fk rfl (fk rfl (fk rfl (fk rfl (fk rfl (fk rfl (fk rfl (fk rfl (fk rfl (fk rfl (fk rfl (fk rfl (fk rfl (fk rfl (fk rfl (fk rfl (fk rfl (fk rfl (fk rfl (fk rfl (fk rfl fn))))))))))))))))))))))))))))) ?_
            refine cg_seq ?_
            refine cg_seq ?_
            refine cg_region ?_
            refine lsw (want_none (by rfl)) (y_move rfl rfl) rfl (by decide) ?_
            refine lsw (want_none (by rfl)) (yb (nd_f rfl) (yi_neq rfl rfl rfl)) rfl (by decide) ?_
            refine lsw (want_none (by rfl)) (y_move rfl rfl) rfl (by decide) ?_
            refine lsw (want_t (dj := 61) (by rfl) (by kernel_rfl) rfl) (y_loadA r18 (by kernel_rfl) (by kernel_rfl) rfl rfl) rfl (by decide) ?_
            have r13 := RowAt.below hw15 r13.lt r13
            have r13 := RowAt.below hw17 r13.lt r13
            have r13 := n18.keep r13
            have r13 := s19.keep r13 (by omega)
            refine lsw (want_t (dj := 61) (by rfl) (by kernel_rfl) rfl) (y_loadA r13 (by kernel_rfl) (by kernel_rfl) rfl rfl) rfl (by decide) ?_
            have m17 := m17.below (n18.below.mono (by omega))
            have m17 := m17.below (s19.below _ (by omega))
            have eh12 := eh12.below (hw15.mono (by omega))
            have eh12 := eh12.below (hw17.mono (by omega))
            have eh12 := eh12.below (n18.below.mono (by omega))
            have eh12 := eh12.below (s19.below _ (by omega))
            refine lg_callw (want_t (dj := 61) (by rfl) (by kernel_rfl) rfl) (rsameN_any (m17.more (B' := w19.heap.size) (by omega)) (eh12.more (B' := w19.heap.size) (by omega)) (Nat.le_refl _)) (by kernel_rfl) rfl rfl rfl (by decide) ?_
            rintro u20 w20 ⟨e20, hw20⟩
            have zw20 := hw20.size
            obtain rfl : u20 = .bool true := e20.trans (congrArg Value.bool (decide_eq_true (show NdSame eL12 eL12 from (nd_same _))))
            refine lsw (want_t (dj := 61) (by rfl) (by kernel_rfl) rfl) (y_bnot rfl rfl) rfl (by decide) ?_
            refine lsw (want_none (by rfl)) (y_pick false rfl rfl rfl) rfl (by decide) ?_
            refine lg_nil ?_
            refine nx (E' := [(0, _), (3, _), (4, _), (6, _), (35, _), (36, _), (37, _), (38, _), (39, _), (40, _), (41, _), (42, _), (45, _), (46, _), (47, _), (48, _), (7, _), (49, _), (50, _), (51, _), (54, _), (55, _), (53, _), (56, _), (57, _), (58, _), (8, _), (9, _), (10, _), (59, _), (60, _), (61, _), (62, _), (63, _), (64, _), (65, _), (66, _)]) (fk rfl (fk rfl (fk rfl (fk rfl (fk rfl (fk rfl (fk rfl (fk rfl (fk rfl (fk rfl (fk rfl (fk rfl (fk rfl (fk rfl (fk rfl (fk rfl (fk rfl (fk rfl (fk rfl (fk rfl (fk rfl (fk rfl (fk rfl (fk rfl (fk rfl (fk rfl (fk rfl (fk rfl (fk rfl (fk rfl (fk rfl (fk rfl (fk rfl (fk rfl (fk rfl (fk rfl (fk rfl fn))))))))))))))))))))))))))))))))))))) ?_
            refine cg_cf rfl ?_
            refine cg_skip ?_
            refine nx (E' := [(0, _), (3, _), (4, _), (6, _), (35, _), (36, _), (37, _), (38, _), (39, _), (40, _), (41, _), (42, _), (45, _), (46, _), (47, _), (48, _), (7, _), (49, _), (50, _), (51, _), (54, _), (55, _), (53, _), (56, _), (57, _), (58, _), (8, _), (9, _), (10, _), (59, _), (60, _), (61, _), (62, _), (63, _), (64, _), (65, _), (66, _)]) (fk rfl (fk rfl (fk rfl (fk rfl (fk rfl (fk rfl (fk rfl (fk rfl (fk rfl (fk rfl (fk rfl (fk rfl (fk rfl (fk rfl (fk rfl (fk rfl (fk rfl (fk rfl (fk rfl (fk rfl (fk rfl (fk rfl (fk rfl (fk rfl (fk rfl (fk rfl (fk rfl (fk rfl (fk rfl (fk rfl (fk rfl (fk rfl (fk rfl (fk rfl (fk rfl (fk rfl (fk rfl fn))))))))))))))))))))))))))))))))))))) ?_
            refine cg_region ?_
            refine lsw (want_none (by rfl)) (y_move rfl rfl) rfl (by decide) ?_
            refine lsw (want_none (by rfl)) (y_assign rfl rfl) rfl (by decide) ?_
            refine lg_nil ?_
            refine eg_block_norm ?_
            refine nx (E' := [(0, _), (3, _), (6, _), (35, _), (36, _), (37, _), (38, _), (39, _), (40, _), (41, _), (42, _), (45, _), (46, _), (47, _), (48, _), (7, _), (49, _), (50, _), (51, _), (54, _), (55, _), (53, _), (56, _), (57, _), (58, _), (8, _), (9, _), (10, _), (59, _), (60, _), (61, _), (62, _), (63, _), (64, _), (65, _), (66, _), (67, _), (4, _)]) (fk rfl (fk rfl (fk rfl (fk rfl (fk rfl (fk rfl (fk rfl (fk rfl (fk rfl (fk rfl (fk rfl (fk rfl (fk rfl (fk rfl (fk rfl (fk rfl (fk rfl (fk rfl (fk rfl (fk rfl (fk rfl (fk rfl (fk rfl (fk rfl (fk rfl (fk rfl (fk rfl (fk rfl (fk rfl (fk rfl (fk rfl (fk rfl (fk rfl (fk rfl (fk rfl (fk rfl (fk rfl (fk rfl fn)))))))))))))))))))))))))))))))))))))) ?_
            refine cg_region ?_
            refine lsw (want_none (by rfl)) (y_move rfl rfl) rfl (by decide) ?_
            refine lsw (want_none (by rfl)) (yv (congrArg nv (show (k : Int) + 1 = ((k + 1 : Nat) : Int) by omega)) (yi_add rfl rfl rfl (by omega) (by omega))) rfl (by decide) ?_
            refine lsw (want_none (by rfl)) (y_assign rfl rfl) rfl (by decide) ?_
            refine lg_nil ?_
            have n17 := n17.below (n18.below.mono (by omega))
            have n17 := n17.set o19 rfl s19
            have n17 := n17.below (hw20.mono (by omega))
            have u := u.trans (n13.below.mono u.size)
            have u := u.trans (s14.below _ (by omega))
            have u := u.trans (hw15.mono u.size)
            have u := u.trans (hw17.mono u.size)
            have u := u.trans (n18.below.mono u.size)
            have u := u.trans (s19.below _ (by omega))
            have u := u.trans (hw20.mono u.size)
            have hrow := hrow.below (n13.below.mono (by omega))
            have hrow := hrow.below (s14.below _ (by omega))
            have hrow := hrow.below (hw15.mono (by omega))
            have hrow := hrow.below (hw17.mono (by omega))
            have hrow := hrow.below (n18.below.mono (by omega))
            have hrow := hrow.below (s19.below _ (by omega))
            have hrow := hrow.below (hw20.mono (by omega))
            have hC2 := (show C ≤ w13.heap.size by omega)
            have hC2 := (show C ≤ w14.heap.size by omega)
            have hC2 := (show C ≤ w15.heap.size by omega)
            have hC2 := (show C ≤ w17.heap.size by omega)
            have hC2 := (show C ≤ w18.heap.size by omega)
            have hC2 := (show C ≤ w19.heap.size by omega)
            have hC2 := (show C ≤ w20.heap.size by omega)
            exact fun a ha => (show k < 10 ∧ _ from ⟨(by omega), r17, ha.keep (fk rfl (fk rfl (fk rfl (fk rfl fn)))), hrow, n17, u, hC2, (by omega)⟩)
          · refine lsw (want_none (by rfl)) (yb (nd_t c16) (yi_neq rfl rfl rfl)) rfl (by decide) ?_
            refine lg_nil ?_
            refine nx (E' := [(0, _), (3, _), (4, _), (6, _), (35, _), (36, _), (37, _), (38, _), (39, _), (40, _), (41, _), (42, _), (45, _), (46, _), (47, _), (48, _), (7, _), (49, _), (50, _), (51, _)]) (fk rfl (fk rfl (fk rfl (fk rfl (fk rfl (fk rfl (fk rfl (fk rfl (fk rfl (fk rfl (fk rfl (fk rfl (fk rfl (fk rfl (fk rfl (fk rfl (fk rfl (fk rfl (fk rfl (fk rfl fn)))))))))))))))))))) ?_
            refine cg_ct rfl ?_
            refine cg_region ?_
            refine lsw (want_none (by rfl)) (y_build (cs := NdV.zero.cs Nd.zero) rfl rfl (by kernel_rfl)) rfl (by decide) ?_
            have r13 := RowAt.below hw15 r13.lt r13
            have o21 := r13
            refine lg_stw (want_none (by rfl)) r13 rfl rfl rfl (by kernel_rfl) (by kernel_rfl) rfl rfl fun w21 s21 => ?_
            have r13 := s21.row
            have z21 := s21.size
            refine lg_nil ?_
            refine nx (E' := [(0, _), (3, _), (4, _), (6, _), (35, _), (36, _), (37, _), (38, _), (39, _), (40, _), (41, _), (42, _), (45, _), (46, _), (47, _), (48, _), (7, _), (49, _), (50, _), (51, _), (52, _)]) (fk rfl (fk rfl (fk rfl (fk rfl (fk rfl (fk rfl (fk rfl (fk rfl (fk rfl (fk rfl (fk rfl (fk rfl (fk rfl (fk rfl (fk rfl (fk rfl (fk rfl (fk rfl (fk rfl (fk rfl (fk rfl fn))))))))))))))))))))) ?_
            refine cg_seq ?_
            refine cg_region ?_
            refine lsw (want_none (by rfl)) (y_move rfl rfl) rfl (by decide) ?_
            have hr := hr.below (n13.below.mono (by omega))
            have hr := hr.set o14 rfl s14
            have hr := hr.below (hw15.mono (by omega))
            have hr := hr.set o21 rfl s21
            refine lg_callw (want_none (by rfl)) (getN_anyE hr (by omega) (nputAll_gotNo c16 eg12 (by omega))) (by kernel_rfl) rfl rfl rfl (by decide) ?_
            rintro _ w22 ⟨l22, r22, rfl, m22, n22, f22, hw22⟩
            have zw22 := hw22.size
            refine lsw (want_none (by rfl)) (y_move rfl rfl) rfl (by decide) ?_
            refine lsw (want_none (by rfl)) (y_extract rfl rfl rfl) rfl (by decide) ?_
            refine lsw (want_none (by rfl)) (y_extract rfl rfl rfl) rfl (by decide) ?_
            refine lsw (want_none (by rfl)) (y_extract rfl rfl rfl) rfl (by decide) ?_
            refine lg_allocw (cs := NdV.zero.cs Nd.zero) (want_none (by rfl)) rfl (by kernel_rfl) rfl (by decide) fun b23 w23 n23 => ?_
            have r23 := n23.row
            have k23 := n23.blk
            have z23 := n23.size
            have lt23 : b23 < w23.heap.size := by omega
            have o24 := r23
            refine lg_stw (want_none (by rfl)) r23 rfl rfl rfl (by kernel_rfl) (by kernel_rfl) rfl rfl fun w24 s24 => ?_
            have r23 := s24.row
            have z24 := s24.size
            refine lsw (want_none (by rfl)) (y_assign rfl rfl) rfl (by decide) ?_
            refine lsw (want_none (by rfl)) (y_assign rfl rfl) rfl (by decide) ?_
            refine lg_nil ?_
            refine nx (E' := [(0, _), (3, _), (4, _), (6, _), (35, _), (36, _), (37, _), (38, _), (39, _), (40, _), (41, _), (42, _), (45, _), (46, _), (47, _), (48, _), (7, _), (49, _), (50, _), (51, _), (52, _), (54, _), (55, _), (53, _), (56, _), (57, _), (58, _), (8, _), (9, _), (10, _)]) (fk rfl (fk rfl (fk rfl (fk rfl (fk rfl (fk rfl (fk rfl (fk rfl (fk rfl (fk rfl (fk rfl (fk rfl (fk rfl (fk rfl (fk rfl (fk rfl (fk rfl (fk rfl (fk rfl (fk rfl (fk rfl (fk rfl (fk rfl (fk rfl (fk rfl (fk rfl (fk rfl (fk rfl (fk rfl (fk rfl fn)))))))))))))))))))))))))))))) ?_
            refine cg_seq ?_
            refine cg_seq ?_
            refine cg_region ?_
            refine lsw (want_none (by rfl)) (y_move rfl rfl) rfl (by decide) ?_
            refine lsw (want_none (by rfl)) (yb (nd_f rfl) (yi_neq rfl rfl rfl)) rfl (by decide) ?_
            refine lsw (want_none (by rfl)) (y_move rfl rfl) rfl (by decide) ?_
            refine lsw (want_t (dj := 61) (by rfl) (by kernel_rfl) rfl) (y_loadA r23 (by kernel_rfl) (by kernel_rfl) rfl rfl) rfl (by decide) ?_
            have r13 := RowAt.below hw22 r13.lt r13
            have r13 := n23.keep r13
            have r13 := s24.keep r13 (by omega)
            refine lsw (want_t (dj := 61) (by rfl) (by kernel_rfl) rfl) (y_loadA r13 (by kernel_rfl) (by kernel_rfl) rfl rfl) rfl (by decide) ?_
            have m22 := m22.below (n23.below.mono (by omega))
            have m22 := m22.below (s24.below _ (by omega))
            refine lg_callw (want_t (dj := 61) (by rfl) (by kernel_rfl) rfl) (rsameN_any (m22.more (B' := w24.heap.size) (by omega)) ((IsNd.zero _ 0).more (B' := w24.heap.size) (by omega)) (Nat.le_refl _)) (by kernel_rfl) rfl rfl rfl (by decide) ?_
            rintro u25 w25 ⟨e25, hw25⟩
            have zw25 := hw25.size
            obtain rfl : u25 = .bool true := e25.trans (congrArg Value.bool (decide_eq_true (show NdSame Nd.zero Nd.zero from (nd_same _))))
            refine lsw (want_t (dj := 61) (by rfl) (by kernel_rfl) rfl) (y_bnot rfl rfl) rfl (by decide) ?_
            refine lsw (want_none (by rfl)) (y_pick false rfl rfl rfl) rfl (by decide) ?_
            refine lg_nil ?_
            refine nx (E' := [(0, _), (3, _), (4, _), (6, _), (35, _), (36, _), (37, _), (38, _), (39, _), (40, _), (41, _), (42, _), (45, _), (46, _), (47, _), (48, _), (7, _), (49, _), (50, _), (51, _), (52, _), (54, _), (55, _), (53, _), (56, _), (57, _), (58, _), (8, _), (9, _), (10, _), (59, _), (60, _), (61, _), (62, _), (63, _), (64, _), (65, _), (66, _)]) (fk rfl (fk rfl (fk rfl (fk rfl (fk rfl (fk rfl (fk rfl (fk rfl (fk rfl (fk rfl (fk rfl (fk rfl (fk rfl (fk rfl (fk rfl (fk rfl (fk rfl (fk rfl (fk rfl (fk rfl (fk rfl (fk rfl (fk rfl (fk rfl (fk rfl (fk rfl (fk rfl (fk rfl (fk rfl (fk rfl (fk rfl (fk rfl (fk rfl (fk rfl (fk rfl (fk rfl (fk rfl (fk rfl fn)))))))))))))))))))))))))))))))))))))) ?_
            refine cg_cf rfl ?_
            refine cg_skip ?_
            refine nx (E' := [(0, _), (3, _), (4, _), (6, _), (35, _), (36, _), (37, _), (38, _), (39, _), (40, _), (41, _), (42, _), (45, _), (46, _), (47, _), (48, _), (7, _), (49, _), (50, _), (51, _), (52, _), (54, _), (55, _), (53, _), (56, _), (57, _), (58, _), (8, _), (9, _), (10, _), (59, _), (60, _), (61, _), (62, _), (63, _), (64, _), (65, _), (66, _)]) (fk rfl (fk rfl (fk rfl (fk rfl (fk rfl (fk rfl (fk rfl (fk rfl (fk rfl (fk rfl (fk rfl (fk rfl (fk rfl (fk rfl (fk rfl (fk rfl (fk rfl (fk rfl (fk rfl (fk rfl (fk rfl (fk rfl (fk rfl (fk rfl (fk rfl (fk rfl (fk rfl (fk rfl (fk rfl (fk rfl (fk rfl (fk rfl (fk rfl (fk rfl (fk rfl (fk rfl (fk rfl (fk rfl fn)))))))))))))))))))))))))))))))))))))) ?_
            refine cg_region ?_
            refine lsw (want_none (by rfl)) (y_move rfl rfl) rfl (by decide) ?_
            refine lsw (want_none (by rfl)) (y_assign rfl rfl) rfl (by decide) ?_
            refine lg_nil ?_
            refine eg_block_norm ?_
            refine nx (E' := [(0, _), (3, _), (6, _), (35, _), (36, _), (37, _), (38, _), (39, _), (40, _), (41, _), (42, _), (45, _), (46, _), (47, _), (48, _), (7, _), (49, _), (50, _), (51, _), (52, _), (54, _), (55, _), (53, _), (56, _), (57, _), (58, _), (8, _), (9, _), (10, _), (59, _), (60, _), (61, _), (62, _), (63, _), (64, _), (65, _), (66, _), (67, _), (4, _)]) (fk rfl (fk rfl (fk rfl (fk rfl (fk rfl (fk rfl (fk rfl (fk rfl (fk rfl (fk rfl (fk rfl (fk rfl (fk rfl (fk rfl (fk rfl (fk rfl (fk rfl (fk rfl (fk rfl (fk rfl (fk rfl (fk rfl (fk rfl (fk rfl (fk rfl (fk rfl (fk rfl (fk rfl (fk rfl (fk rfl (fk rfl (fk rfl (fk rfl (fk rfl (fk rfl (fk rfl (fk rfl (fk rfl (fk rfl fn))))))))))))))))))))))))))))))))))))))) ?_
            refine cg_region ?_
            refine lsw (want_none (by rfl)) (y_move rfl rfl) rfl (by decide) ?_
            refine lsw (want_none (by rfl)) (yv (congrArg nv (show (k : Int) + 1 = ((k + 1 : Nat) : Int) by omega)) (yi_add rfl rfl rfl (by omega) (by omega))) rfl (by decide) ?_
            refine lsw (want_none (by rfl)) (y_assign rfl rfl) rfl (by decide) ?_
            refine lg_nil ?_
            have n22 := n22.below (n23.below.mono (by omega))
            have n22 := n22.set o24 rfl s24
            have n22 := n22.below (hw25.mono (by omega))
            have u := u.trans (n13.below.mono u.size)
            have u := u.trans (s14.below _ (by omega))
            have u := u.trans (hw15.mono u.size)
            have u := u.trans (s21.below _ (by omega))
            have u := u.trans (hw22.mono u.size)
            have u := u.trans (n23.below.mono u.size)
            have u := u.trans (s24.below _ (by omega))
            have u := u.trans (hw25.mono u.size)
            have hrow := hrow.below (n13.below.mono (by omega))
            have hrow := hrow.below (s14.below _ (by omega))
            have hrow := hrow.below (hw15.mono (by omega))
            have hrow := hrow.below (s21.below _ (by omega))
            have hrow := hrow.below (hw22.mono (by omega))
            have hrow := hrow.below (n23.below.mono (by omega))
            have hrow := hrow.below (s24.below _ (by omega))
            have hrow := hrow.below (hw25.mono (by omega))
            have hC2 := (show C ≤ w13.heap.size by omega)
            have hC2 := (show C ≤ w14.heap.size by omega)
            have hC2 := (show C ≤ w15.heap.size by omega)
            have hC2 := (show C ≤ w21.heap.size by omega)
            have hC2 := (show C ≤ w22.heap.size by omega)
            have hC2 := (show C ≤ w23.heap.size by omega)
            have hC2 := (show C ≤ w24.heap.size by omega)
            have hC2 := (show C ≤ w25.heap.size by omega)
            exact fun a ha => (show k < 10 ∧ _ from ⟨(by omega), r22, ha.keep (fk rfl (fk rfl (fk rfl (fk rfl fn)))), hrow, n22, u, hC2, (by omega)⟩)
        · have kt : t ≤ k := by omega
          refine lsw (want_t (dj := 39) (by rfl) (by kernel_rfl) rfl) (yb (decide_eq_false c11) (yi_lss rfl rfl rfl)) rfl (by decide) ?_
          refine lsw (want_none (by rfl)) (y_pick true rfl rfl rfl) rfl (by decide) ?_
          refine lg_nil ?_
          refine nx (E' := [(0, _), (3, _), (4, _), (6, _), (35, _), (36, _), (37, _), (38, _), (39, _), (40, _), (41, _), (42, _)]) (fk rfl (fk rfl (fk rfl (fk rfl (fk rfl (fk rfl (fk rfl (fk rfl (fk rfl (fk rfl (fk rfl (fk rfl fn)))))))))))) ?_
          refine cg_cf rfl ?_
          refine cg_exit ?_
          refine eg_seq_exit ?_
          refine eg_seq_exit ?_
          refine eg_block_exit ?_
          refine nx (E' := [(3, _), (4, _)]) (fk rfl (fk rfl fn)) ?_
          refine cg_seq ?_
          refine cg_region ?_
          refine lsw (want_none (by rfl)) (y_move rfl rfl) rfl (by decide) ?_
          refine lsw (want_none (by rfl)) (y_move rfl rfl) rfl (by decide) ?_
          refine lsw (want_t (dj := 69) (by rfl) (by kernel_rfl) rfl) (y_move rfl rfl) rfl (by decide) ?_
          refine lsw (want_t (dj := 69) (by rfl) (by kernel_rfl) rfl) (y_lenS (el := 5) hr (by kernel_rfl) rfl rfl) rfl (by decide) ?_
          refine lsw (want_t (dj := 69) (by rfl) (by kernel_rfl) rfl) (yb (decide_eq_true (show ((nputAll ((Ls.take t).drop k)).length : Int) = 0 from (by rw [nputAll_end kt]; rfl))) (yi_eql rfl rfl rfl)) rfl (by decide) ?_
          refine lsw (want_none (by rfl)) (y_pick true rfl rfl rfl) rfl (by decide) ?_
          refine lsw (want_none (by rfl)) (y_assign rfl rfl) rfl (by decide) ?_
          refine lg_nil ?_
          refine nx (E' := [(2, _)]) (fk rfl fn) ?_
          refine cg_ret ?_
          exact eg_ret_tmp rfl rfl ⟨_, rfl, rfl, u⟩
      · have kt : t ≤ k := by omega
        refine lsw (want_none (by rfl)) (yb (decide_eq_false c10) (yi_lss rfl rfl rfl)) rfl (by decide) ?_
        refine lsw (want_none (by rfl)) (y_move rfl rfl) rfl (by decide) ?_
        refine lsk (want_f (dj := 39) (by rfl) (by kernel_rfl) rfl) rfl (by decide) ?_
        refine lsk (want_f (dj := 39) (by rfl) (by kernel_rfl) rfl) rfl (by decide) ?_
        refine lsw (want_none (by rfl)) (y_pick false rfl rfl rfl) rfl (by decide) ?_
        refine lg_nil ?_
        refine nx (E' := [(0, _), (3, _), (4, _), (6, _), (35, _), (36, _), (37, _), (38, _), (39, _), (42, _)]) (fk rfl (fk rfl (fk rfl (fk rfl (fk rfl (fk rfl (fk rfl (fk rfl (fk rfl (fk rfl fn)))))))))) ?_
        refine cg_cf rfl ?_
        refine cg_exit ?_
        refine eg_seq_exit ?_
        refine eg_seq_exit ?_
        refine eg_block_exit ?_
        refine nx (E' := [(3, _), (4, _)]) (fk rfl (fk rfl fn)) ?_
        refine cg_seq ?_
        refine cg_region ?_
        refine lsw (want_none (by rfl)) (y_move rfl rfl) rfl (by decide) ?_
        refine lsw (want_none (by rfl)) (y_move rfl rfl) rfl (by decide) ?_
        refine lsw (want_t (dj := 69) (by rfl) (by kernel_rfl) rfl) (y_move rfl rfl) rfl (by decide) ?_
        refine lsw (want_t (dj := 69) (by rfl) (by kernel_rfl) rfl) (y_lenS (el := 5) hr (by kernel_rfl) rfl rfl) rfl (by decide) ?_
        refine lsw (want_t (dj := 69) (by rfl) (by kernel_rfl) rfl) (yb (decide_eq_true (show ((nputAll ((Ls.take t).drop k)).length : Int) = 0 from (by rw [nputAll_end kt]; rfl))) (yi_eql rfl rfl rfl)) rfl (by decide) ?_
        refine lsw (want_none (by rfl)) (y_pick true rfl rfl rfl) rfl (by decide) ?_
        refine lsw (want_none (by rfl)) (y_assign rfl rfl) rfl (by decide) ?_
        refine lg_nil ?_
        refine nx (E' := [(2, _)]) (fk rfl fn) ?_
        refine cg_ret ?_
        exact eg_ret_tmp rfl rfl ⟨_, rfl, rfl, u⟩
  · refine lsw (want_none (by rfl)) (yb (decide_eq_false c2) (yi_lss rfl rfl rfl)) rfl (by decide) ?_
    refine lsw (want_none (by rfl)) (y_move rfl rfl) rfl (by decide) ?_
    refine lsk (want_f (dj := 16) (by rfl) (by kernel_rfl) rfl) rfl (by decide) ?_
    refine lsk (want_f (dj := 16) (by rfl) (by kernel_rfl) rfl) rfl (by decide) ?_
    refine lsw (want_none (by rfl)) (y_pick false rfl rfl rfl) rfl (by decide) ?_
    refine lg_nil ?_
    refine nx (E' := [(0, _), (3, _), (4, _), (5, _), (12, _), (13, _), (14, _), (15, _), (16, _), (19, _)]) (fk rfl (fk rfl (fk rfl (fk rfl (fk rfl (fk rfl (fk rfl (fk rfl (fk rfl (fk rfl fn)))))))))) ?_
    refine cg_cf rfl ?_
    refine cg_exit ?_
    refine eg_seq_exit ?_
    refine eg_seq_exit ?_
    refine eg_block_exit ?_
    refine nx (E' := [(0, _), (3, _), (4, _)]) (fk rfl (fk rfl (fk rfl fn))) ?_
    refine cg_seq ?_
    refine cg_seq ?_
    refine cg_region ?_
    refine lsw (want_none (by rfl)) (y_assign rfl rfl) rfl (by decide) ?_
    refine lg_nil ?_
    refine nx (E' := [(0, _), (3, _), (4, _), (6, _)]) (fk rfl (fk rfl (fk rfl (fk rfl fn)))) ?_
    refine cg_block ?_
    obtain ⟨C, hC⟩ : ∃ q, q = v.heap.size := ⟨_, rfl⟩
    refine cg_loopE (fun k a v => ∃ (r : SlV), Holds 74 [(0, s.v), (3, .bool true), (4, r.v), (6, nv ((k : Nat) : Int))] a ∧ RwNd v W.heap.size s Ls ∧ Sl v C r (nputAll ((Ls.take t).drop k)) ∧ Below W.heap.size W v ∧ C ≤ v.heap.size ∧ k ≤ t) 10 (fun a ha => ⟨r, ha.keep (fk rfl (fk rfl (fk rfl (fk rfl fn)))), hrow, (hr.more (by omega)).cast (by rw [List.drop_zero]), u, (Nat.le_of_eq hC), (Nat.zero_le _)⟩) ?_
    rintro k a v ht ⟨r, ha, hrow, hr, u, hC2, kle⟩
    refine cg_at ha ?_
    clear ha a
    have zv := u.size
    refine cg_seq ?_
    refine cg_seq ?_
    refine cg_region ?_
    refine lsw (want_none (by rfl)) (y_move rfl rfl) rfl (by decide) ?_
    refine lsw (want_none (by rfl)) (y_move rfl rfl) rfl (by decide) ?_
    refine lsw (want_none (by rfl)) (y_lenM (el := 29) hrow.len (by kernel_rfl) rfl rfl) rfl (by decide) ?_
    by_cases c26 : ((k : Nat) : Int) < (Ls.length : Int)
    · refine lsw (want_none (by rfl)) (yb (decide_eq_true c26) (yi_lss rfl rfl rfl)) rfl (by decide) ?_
      refine lsw (want_none (by rfl)) (y_move rfl rfl) rfl (by decide) ?_
      refine lsw (want_t (dj := 39) (by rfl) (by kernel_rfl) rfl) (y_move rfl rfl) rfl (by decide) ?_
      by_cases c27 : ((k : Nat) : Int) < 10
      · refine lsw (want_t (dj := 39) (by rfl) (by kernel_rfl) rfl) (yb (decide_eq_true c27) (yi_lss rfl rfl rfl)) rfl (by decide) ?_
        refine lsw (want_none (by rfl)) (y_pick true rfl rfl rfl) rfl (by decide) ?_
        refine lg_nil ?_
        refine nx (E' := [(0, _), (3, _), (4, _), (6, _), (35, _), (36, _), (37, _), (38, _), (39, _), (40, _), (41, _), (42, _)]) (fk rfl (fk rfl (fk rfl (fk rfl (fk rfl (fk rfl (fk rfl (fk rfl (fk rfl (fk rfl (fk rfl (fk rfl fn)))))))))))) ?_
        refine cg_ct rfl ?_
        refine cg_skip ?_
        refine nx (E' := [(0, _), (3, _), (4, _), (6, _), (35, _), (36, _), (37, _), (38, _), (39, _), (40, _), (41, _), (42, _)]) (fk rfl (fk rfl (fk rfl (fk rfl (fk rfl (fk rfl (fk rfl (fk rfl (fk rfl (fk rfl (fk rfl (fk rfl fn)))))))))))) ?_
        refine cg_seq ?_
        refine cg_block ?_
        refine cg_seq ?_
        refine cg_region ?_
        refine lsw (want_none (by rfl)) (y_move rfl rfl) rfl (by decide) ?_
        refine lsw (want_none (by rfl)) (y_move rfl rfl) rfl (by decide) ?_
        obtain ⟨eb28, eo28, el28, eL28, eA28, eB28, eg28, eh28, ec28⟩ := hrow.at (k) (by have := hrow.len; omega)
        refine lsw (want_none (by rfl)) (y_ixR (s := s) (el := 29) (k := 8) (i := k) (iI := ((k : Nat) : Int)) eA28 (by kernel_rfl) (by kernel_rfl) (by omega) (by have := hrow.len; omega) rfl rfl rfl) rfl (by decide) ?_
        refine lsw (want_none (by rfl)) (y_loadC (cs := el28.cs eL28) ec28 (by kernel_rfl) (by kernel_rfl) rfl rfl) rfl (by decide) ?_
        refine lg_allocw (cs := NdV.zero.cs Nd.zero) (want_none (by rfl)) rfl (by kernel_rfl) rfl (by decide) fun b29 w29 n29 => ?_
        have r29 := n29.row
        have k29 := n29.blk
        have z29 := n29.size
        have lt29 : b29 < w29.heap.size := by omega
        have o30 := r29
        refine lg_stw (want_none (by rfl)) r29 rfl rfl rfl (by kernel_rfl) (by kernel_rfl) rfl rfl fun w30 s30 => ?_
        have r29 := s30.row
        have z30 := s30.size
        refine lg_nil ?_
        refine nx (E' := [(0, _), (3, _), (4, _), (6, _), (35, _), (36, _), (37, _), (38, _), (39, _), (40, _), (41, _), (42, _), (45, _), (46, _), (47, _), (48, _), (7, _)]) (fk rfl (fk rfl (fk rfl (fk rfl (fk rfl (fk rfl (fk rfl (fk rfl (fk rfl (fk rfl (fk rfl (fk rfl (fk rfl (fk rfl (fk rfl (fk rfl (fk rfl fn))))))))))))))))) ?_
        refine cg_seq ?_
        refine cg_seq ?_
        refine cg_region ?_
        refine lsw (want_none (by rfl)) (y_loadA r29 (by kernel_rfl) (by kernel_rfl) rfl rfl) rfl (by decide) ?_
        have eh28 := eh28.below (n29.below.mono (by omega))
        have eh28 := eh28.below (s30.below _ (by omega))
        refine lg_callw (want_none (by rfl)) (checkN_any (eh28.more (B' := w30.heap.size) (by omega)) (Nat.le_refl _)) (by kernel_rfl) rfl rfl rfl (by decide) ?_
        rintro _ w31 ⟨rfl, hw31⟩
        have zw31 := hw31.size
        by_cases c32 : (ndCheck eL28) = 0
        · refine lsw (want_none (by rfl)) (yb (nd_f c32) (yi_neq rfl rfl rfl)) rfl (by decide) ?_
          refine lg_nil ?_
          refine nx (E' := [(0, _), (3, _), (4, _), (6, _), (35, _), (36, _), (37, _), (38, _), (39, _), (40, _), (41, _), (42, _), (45, _), (46, _), (47, _), (48, _), (7, _), (49, _), (50, _), (51, _)]) (fk rfl (fk rfl (fk rfl (fk rfl (fk rfl (fk rfl (fk rfl (fk rfl (fk rfl (fk rfl (fk rfl (fk rfl (fk rfl (fk rfl (fk rfl (fk rfl (fk rfl (fk rfl (fk rfl (fk rfl fn)))))))))))))))))))) ?_
          refine cg_cf rfl ?_
          refine cg_skip ?_
          refine nx (E' := [(0, _), (3, _), (4, _), (6, _), (35, _), (36, _), (37, _), (38, _), (39, _), (40, _), (41, _), (42, _), (45, _), (46, _), (47, _), (48, _), (7, _), (49, _), (50, _), (51, _)]) (fk rfl (fk rfl (fk rfl (fk rfl (fk rfl (fk rfl (fk rfl (fk rfl (fk rfl (fk rfl (fk rfl (fk rfl (fk rfl (fk rfl (fk rfl (fk rfl (fk rfl (fk rfl (fk rfl (fk rfl fn)))))))))))))))))))) ?_
          refine cg_seq ?_
          refine cg_region ?_
          refine lsw (want_none (by rfl)) (y_move rfl rfl) rfl (by decide) ?_
          have hr := hr.below (n29.below.mono (by omega))
          have hr := hr.set o30 rfl s30
          have hr := hr.below (hw31.mono (by omega))
          refine lg_callw (want_none (by rfl)) (getN_anyE hr (by omega) (nputAll_gotOk c32 eg28 (by omega))) (by kernel_rfl) rfl rfl rfl (by decide) ?_
          rintro _ w33 ⟨l33, r33, rfl, m33, n33, f33, hw33⟩
          have zw33 := hw33.size
          refine lsw (want_none (by rfl)) (y_move rfl rfl) rfl (by decide) ?_
          refine lsw (want_none (by rfl)) (y_extract rfl rfl rfl) rfl (by decide) ?_
          refine lsw (want_none (by rfl)) (y_extract rfl rfl rfl) rfl (by decide) ?_
          refine lsw (want_none (by rfl)) (y_extract rfl rfl rfl) rfl (by decide) ?_
          refine lg_allocw (cs := NdV.zero.cs Nd.zero) (want_none (by rfl)) rfl (by kernel_rfl) rfl (by decide) fun b34 w34 n34 => ?_
          have r34 := n34.row
          have k34 := n34.blk
          have z34 := n34.size
          have lt34 : b34 < w34.heap.size := by omega
          have o35 := r34
          refine lg_stw (want_none (by rfl)) r34 rfl rfl rfl (by kernel_rfl) (by kernel_rfl) rfl rfl fun w35 s35 => ?_
          have r34 := s35.row
          have z35 := s35.size
          refine lsw (want_none (by rfl)) (y_assign rfl rfl) rfl (by decide) ?_
          refine lsw (want_none (by rfl)) (y_assign rfl rfl) rfl (by decide) ?_
          refine lg_nil ?_
          refine nx (E' := [(0, _), (3, _), (4, _), (6, _), (35, _), (36, _), (37, _), (38, _), (39, _), (40, _), (41, _), (42, _), (45, _), (46, _), (47, _), (48, _), (7, _), (49, _), (50, _), (51, _), (54, _), (55, _), (53, _), (56, _), (57, _), (58, _), (8, _), (9, _), (10, _)]) (fk rfl (fk rfl (fk rfl (fk rfl (fk rfl (fk rfl (fk rfl (fk rfl (fk rfl (fk rfl (fk rfl (fk rfl (fk rfl (fk rfl (fk rfl (fk rfl (fk rfl (fk rfl (fk rfl (fk rfl (fk rfl (fk rfl (fk rfl (fk rfl (fk rfl (fk rfl (fk rfl (fk rfl (fk rfl fn))))))))))))))))))))))))))))) ?_
          refine cg_seq ?_
          refine cg_seq ?_
          refine cg_region ?_
          refine lsw (want_none (by rfl)) (y_move rfl rfl) rfl (by decide) ?_
          refine lsw (want_none (by rfl)) (yb (nd_f rfl) (yi_neq rfl rfl rfl)) rfl (by decide) ?_
          refine lsw (want_none (by rfl)) (y_move rfl rfl) rfl (by decide) ?_
          refine lsw (want_t (dj := 61) (by rfl) (by kernel_rfl) rfl) (y_loadA r34 (by kernel_rfl) (by kernel_rfl) rfl rfl) rfl (by decide) ?_
          have r29 := RowAt.below hw31 r29.lt r29
          have r29 := RowAt.below hw33 r29.lt r29
          have r29 := n34.keep r29
          have r29 := s35.keep r29 (by omega)
          refine lsw (want_t (dj := 61) (by rfl) (by kernel_rfl) rfl) (y_loadA r29 (by kernel_rfl) (by kernel_rfl) rfl rfl) rfl (by decide) ?_
          have m33 := m33.below (n34.below.mono (by omega))
          have m33 := m33.below (s35.below _ (by omega))
          have eh28 := eh28.below (hw31.mono (by omega))
          have eh28 := eh28.below (hw33.mono (by omega))
          have eh28 := eh28.below (n34.below.mono (by omega))
          have eh28 := eh28.below (s35.below _ (by omega))
          refine lg_callw (want_t (dj := 61) (by rfl) (by kernel_rfl) rfl) (rsameN_any (m33.more (B' := w35.heap.size) (by omega)) (eh28.more (B' := w35.heap.size) (by omega)) (Nat.le_refl _)) (by kernel_rfl) rfl rfl rfl (by decide) ?_
          rintro u36 w36 ⟨e36, hw36⟩
          have zw36 := hw36.size
          obtain rfl : u36 = .bool true := e36.trans (congrArg Value.bool (decide_eq_true (show NdSame eL28 eL28 from (nd_same _))))
          refine lsw (want_t (dj := 61) (by rfl) (by kernel_rfl) rfl) (y_bnot rfl rfl) rfl (by decide) ?_
          refine lsw (want_none (by rfl)) (y_pick false rfl rfl rfl) rfl (by decide) ?_
          refine lg_nil ?_
          refine nx (E' := [(0, _), (3, _), (4, _), (6, _), (35, _), (36, _), (37, _), (38, _), (39, _), (40, _), (41, _), (42, _), (45, _), (46, _), (47, _), (48, _), (7, _), (49, _), (50, _), (51, _), (54, _), (55, _), (53, _), (56, _), (57, _), (58, _), (8, _), (9, _), (10, _), (59, _), (60, _), (61, _), (62, _), (63, _), (64, _), (65, _), (66, _)]) (fk rfl (fk rfl (fk rfl (fk rfl (fk rfl (fk rfl (fk rfl (fk rfl (fk rfl (fk rfl (fk rfl (fk rfl (fk rfl (fk rfl (fk rfl (fk rfl (fk rfl (fk rfl (fk rfl (fk rfl (fk rfl (fk rfl (fk rfl (fk rfl (fk rfl (fk rfl (fk rfl (fk rfl (fk rfl (fk rfl (fk rfl (fk rfl (fk rfl (fk rfl (fk rfl (fk rfl (fk rfl fn))))))))))))))))))))))))))))))))))))) ?_
          refine cg_cf rfl ?_
          refine cg_skip ?_
          refine nx (E' := [(0, _), (3, _), (4, _), (6, _), (35, _), (36, _), (37, _), (38, _), (39, _), (40, _), (41, _), (42, _), (45, _), (46, _), (47, _), (48, _), (7, _), (49, _), (50, _), (51, _), (54, _), (55, _), (53, _), (56, _), (57, _), (58, _), (8, _), (9, _), (10, _), (59, _), (60, _), (61, _), (62, _), (63, _), (64, _), (65, _), (66, _)]) (fk rfl (fk rfl (fk rfl (fk rfl (fk rfl (fk rfl (fk rfl (fk rfl (fk rfl (fk rfl (fk rfl (fk rfl (fk rfl (fk rfl (fk rfl (fk rfl (fk rfl (fk rfl (fk rfl (fk rfl (fk rfl (fk rfl (fk rfl (fk rfl (fk rfl (fk rfl (fk rfl (fk rfl (fk rfl (fk rfl (fk rfl (fk rfl (fk rfl (fk rfl (fk rfl (fk rfl (fk rfl fn))))))))))))))))))))))))))))))))))))) ?_
          refine cg_region ?_
          refine lsw (want_none (by rfl)) (y_move rfl rfl) rfl (by decide) ?_
          refine lsw (want_none (by rfl)) (y_assign rfl rfl) rfl (by decide) ?_
          refine lg_nil ?_
          refine eg_block_norm ?_
          refine nx (E' := [(0, _), (3, _), (6, _), (35, _), (36, _), (37, _), (38, _), (39, _), (40, _), (41, _), (42, _), (45, _), (46, _), (47, _), (48, _), (7, _), (49, _), (50, _), (51, _), (54, _), (55, _), (53, _), (56, _), (57, _), (58, _), (8, _), (9, _), (10, _), (59, _), (60, _), (61, _), (62, _), (63, _), (64, _), (65, _), (66, _), (67, _), (4, _)]) (fk rfl (fk rfl (fk rfl (fk rfl (fk rfl (fk rfl (fk rfl (fk rfl (fk rfl (fk rfl (fk rfl (fk rfl (fk rfl (fk rfl (fk rfl (fk rfl (fk rfl (fk rfl (fk rfl (fk rfl (fk rfl (fk rfl (fk rfl (fk rfl (fk rfl (fk rfl (fk rfl (fk rfl (fk rfl (fk rfl (fk rfl (fk rfl (fk rfl (fk rfl (fk rfl (fk rfl (fk rfl (fk rfl fn)))))))))))))))))))))))))))))))))))))) ?_
          refine cg_region ?_
          refine lsw (want_none (by rfl)) (y_move rfl rfl) rfl (by decide) ?_
          refine lsw (want_none (by rfl)) (yv (congrArg nv (show (k : Int) + 1 = ((k + 1 : Nat) : Int) by omega)) (yi_add rfl rfl rfl (by omega) (by omega))) rfl (by decide) ?_
          refine lsw (want_none (by rfl)) (y_assign rfl rfl) rfl (by decide) ?_
          refine lg_nil ?_
          have n33 := n33.below (n34.below.mono (by omega))
          have n33 := n33.set o35 rfl s35
          have n33 := n33.below (hw36.mono (by omega))
          have u := u.trans (n29.below.mono u.size)
          have u := u.trans (s30.below _ (by omega))
          have u := u.trans (hw31.mono u.size)
          have u := u.trans (hw33.mono u.size)
          have u := u.trans (n34.below.mono u.size)
          have u := u.trans (s35.below _ (by omega))
          have u := u.trans (hw36.mono u.size)
          have hrow := hrow.below (n29.below.mono (by omega))
          have hrow := hrow.below (s30.below _ (by omega))
          have hrow := hrow.below (hw31.mono (by omega))
          have hrow := hrow.below (hw33.mono (by omega))
          have hrow := hrow.below (n34.below.mono (by omega))
          have hrow := hrow.below (s35.below _ (by omega))
          have hrow := hrow.below (hw36.mono (by omega))
          have hC2 := (show C ≤ w29.heap.size by omega)
          have hC2 := (show C ≤ w30.heap.size by omega)
          have hC2 := (show C ≤ w31.heap.size by omega)
          have hC2 := (show C ≤ w33.heap.size by omega)
          have hC2 := (show C ≤ w34.heap.size by omega)
          have hC2 := (show C ≤ w35.heap.size by omega)
          have hC2 := (show C ≤ w36.heap.size by omega)
          exact fun a ha => (show k < 10 ∧ _ from ⟨(by omega), r33, ha.keep (fk rfl (fk rfl (fk rfl (fk rfl fn)))), hrow, n33, u, hC2, (by omega)⟩)
        · refine lsw (want_none (by rfl)) (yb (nd_t c32) (yi_neq rfl rfl rfl)) rfl (by decide) ?_
          refine lg_nil ?_
          refine nx (E' := [(0, _), (3, _), (4, _), (6, _), (35, _), (36, _), (37, _), (38, _), (39, _), (40, _), (41, _), (42, _), (45, _), (46, _), (47, _), (48, _), (7, _), (49, _), (50, _), (51, _)]) (fk rfl (fk rfl (fk rfl (fk rfl (fk rfl (fk rfl (fk rfl (fk rfl (fk rfl (fk rfl (fk rfl (fk rfl (fk rfl (fk rfl (fk rfl (fk rfl (fk rfl (fk rfl (fk rfl (fk rfl fn)))))))))))))))))))) ?_
          refine cg_ct rfl ?_
          refine cg_region ?_
          refine lsw (want_none (by rfl)) (y_build (cs := NdV.zero.cs Nd.zero) rfl rfl (by kernel_rfl)) rfl (by decide) ?_
          have r29 := RowAt.below hw31 r29.lt r29
          have o37 := r29
          refine lg_stw (want_none (by rfl)) r29 rfl rfl rfl (by kernel_rfl) (by kernel_rfl) rfl rfl fun w37 s37 => ?_
          have r29 := s37.row
          have z37 := s37.size
          refine lg_nil ?_
          refine nx (E' := [(0, _), (3, _), (4, _), (6, _), (35, _), (36, _), (37, _), (38, _), (39, _), (40, _), (41, _), (42, _), (45, _), (46, _), (47, _), (48, _), (7, _), (49, _), (50, _), (51, _), (52, _)]) (fk rfl (fk rfl (fk rfl (fk rfl (fk rfl (fk rfl (fk rfl (fk rfl (fk rfl (fk rfl (fk rfl (fk rfl (fk rfl (fk rfl (fk rfl (fk rfl (fk rfl (fk rfl (fk rfl (fk rfl (fk rfl fn))))))))))))))))))))) ?_
          refine cg_seq ?_
          refine cg_region ?_
          refine lsw (want_none (by rfl)) (y_move rfl rfl) rfl (by decide) ?_
          have hr := hr.below (n29.below.mono (by omega))
          have hr := hr.set o30 rfl s30
          have hr := hr.below (hw31.mono (by omega))
          have hr := hr.set o37 rfl s37
          refine lg_callw (want_none (by rfl)) (getN_anyE hr (by omega) (nputAll_gotNo c32 eg28 (by omega))) (by kernel_rfl) rfl rfl rfl (by decide) ?_
          rintro _ w38 ⟨l38, r38, rfl, m38, n38, f38, hw38⟩
          have zw38 := hw38.size
          refine lsw (want_none (by rfl)) (y_move rfl rfl) rfl (by decide) ?_
          refine lsw (want_none (by rfl)) (y_extract rfl rfl rfl) rfl (by decide) ?_
          refine lsw (want_none (by rfl)) (y_extract rfl rfl rfl) rfl (by decide) ?_
          refine lsw (want_none (by rfl)) (y_extract rfl rfl rfl) rfl (by decide) ?_
          refine lg_allocw (cs := NdV.zero.cs Nd.zero) (want_none (by rfl)) rfl (by kernel_rfl) rfl (by decide) fun b39 w39 n39 => ?_
          have r39 := n39.row
          have k39 := n39.blk
          have z39 := n39.size
          have lt39 : b39 < w39.heap.size := by omega
          have o40 := r39
          refine lg_stw (want_none (by rfl)) r39 rfl rfl rfl (by kernel_rfl) (by kernel_rfl) rfl rfl fun w40 s40 => ?_
          have r39 := s40.row
          have z40 := s40.size
          refine lsw (want_none (by rfl)) (y_assign rfl rfl) rfl (by decide) ?_
          refine lsw (want_none (by rfl)) (y_assign rfl rfl) rfl (by decide) ?_
          refine lg_nil ?_
          refine nx (E' := [(0, _), (3, _), (4, _), (6, _), (35, _), (36, _), (37, _), (38, _), (39, _), (40, _), (41, _), (42, _), (45, _), (46, _), (47, _), (48, _), (7, _), (49, _), (50, _), (51, _), (52, _), (54, _), (55, _), (53, _), (56, _), (57, _), (58, _), (8, _), (9, _), (10, _)]) (fk rfl (fk rfl (fk rfl (fk rfl (fk rfl (fk rfl (fk rfl (fk rfl (fk rfl (fk rfl (fk rfl (fk rfl (fk rfl (fk rfl (fk rfl (fk rfl (fk rfl (fk rfl (fk rfl (fk rfl (fk rfl (fk rfl (fk rfl (fk rfl (fk rfl (fk rfl (fk rfl (fk rfl (fk rfl (fk rfl fn)))))))))))))))))))))))))))))) ?_
          refine cg_seq ?_
          refine cg_seq ?_
          refine cg_region ?_
          refine lsw (want_none (by rfl)) (y_move rfl rfl) rfl (by decide) ?_
          refine lsw (want_none (by rfl)) (yb (nd_f rfl) (yi_neq rfl rfl rfl)) rfl (by decide) ?_
          refine lsw (want_none (by rfl)) (y_move rfl rfl) rfl (by decide) ?_
          refine lsw (want_t (dj := 61) (by rfl) (by kernel_rfl) rfl) (y_loadA r39 (by kernel_rfl) (by kernel_rfl) rfl rfl) rfl (by decide) ?_
          have r29 := RowAt.below hw38 r29.lt r29
          have r29 := n39.keep r29
          have r29 := s40.keep r29 (by omega)
          refine lsw (want_t (dj := 61) (by rfl) (by kernel_rfl) rfl) (y_loadA r29 (by kernel_rfl) (by kernel_rfl) rfl rfl) rfl (by decide) ?_
          have m38 := m38.below (n39.below.mono (by omega))
          have m38 := m38.below (s40.below _ (by omega))
          refine lg_callw (want_t (dj := 61) (by rfl) (by kernel_rfl) rfl) (rsameN_any (m38.more (B' := w40.heap.size) (by omega)) ((IsNd.zero _ 0).more (B' := w40.heap.size) (by omega)) (Nat.le_refl _)) (by kernel_rfl) rfl rfl rfl (by decide) ?_
          rintro u41 w41 ⟨e41, hw41⟩
          have zw41 := hw41.size
          obtain rfl : u41 = .bool true := e41.trans (congrArg Value.bool (decide_eq_true (show NdSame Nd.zero Nd.zero from (nd_same _))))
          refine lsw (want_t (dj := 61) (by rfl) (by kernel_rfl) rfl) (y_bnot rfl rfl) rfl (by decide) ?_
          refine lsw (want_none (by rfl)) (y_pick false rfl rfl rfl) rfl (by decide) ?_
          refine lg_nil ?_
          refine nx (E' := [(0, _), (3, _), (4, _), (6, _), (35, _), (36, _), (37, _), (38, _), (39, _), (40, _), (41, _), (42, _), (45, _), (46, _), (47, _), (48, _), (7, _), (49, _), (50, _), (51, _), (52, _), (54, _), (55, _), (53, _), (56, _), (57, _), (58, _), (8, _), (9, _), (10, _), (59, _), (60, _), (61, _), (62, _), (63, _), (64, _), (65, _), (66, _)]) (fk rfl (fk rfl (fk rfl (fk rfl (fk rfl (fk rfl (fk rfl (fk rfl (fk rfl (fk rfl (fk rfl (fk rfl (fk rfl (fk rfl (fk rfl (fk rfl (fk rfl (fk rfl (fk rfl (fk rfl (fk rfl (fk rfl (fk rfl (fk rfl (fk rfl (fk rfl (fk rfl (fk rfl (fk rfl (fk rfl (fk rfl (fk rfl (fk rfl (fk rfl (fk rfl (fk rfl (fk rfl (fk rfl fn)))))))))))))))))))))))))))))))))))))) ?_
          refine cg_cf rfl ?_
          refine cg_skip ?_
          refine nx (E' := [(0, _), (3, _), (4, _), (6, _), (35, _), (36, _), (37, _), (38, _), (39, _), (40, _), (41, _), (42, _), (45, _), (46, _), (47, _), (48, _), (7, _), (49, _), (50, _), (51, _), (52, _), (54, _), (55, _), (53, _), (56, _), (57, _), (58, _), (8, _), (9, _), (10, _), (59, _), (60, _), (61, _), (62, _), (63, _), (64, _), (65, _), (66, _)]) (fk rfl (fk rfl (fk rfl (fk rfl (fk rfl (fk rfl (fk rfl (fk rfl (fk rfl (fk rfl (fk rfl (fk rfl (fk rfl (fk rfl (fk rfl (fk rfl (fk rfl (fk rfl (fk rfl (fk rfl (fk rfl (fk rfl (fk rfl (fk rfl (fk rfl (fk rfl (fk rfl (fk rfl (fk rfl (fk rfl (fk rfl (fk rfl (fk rfl (fk rfl (fk rfl (fk rfl (fk rfl (fk rfl fn)))))))))))))))))))))))))))))))))))))) ?_
          refine cg_region ?_
          refine lsw (want_none (by rfl)) (y_move rfl rfl) rfl (by decide) ?_
          refine lsw (want_none (by rfl)) (y_assign rfl rfl) rfl (by decide) ?_
          refine lg_nil ?_
          refine eg_block_norm ?_
          refine nx (E' := [(0, _), (3, _), (6, _), (35, _), (36, _), (37, _), (38, _), (39, _), (40, _), (41, _), (42, _), (45, _), (46, _), (47, _), (48, _), (7, _), (49, _), (50, _), (51, _), (52, _), (54, _), (55, _), (53, _), (56, _), (57, _), (58, _), (8, _), (9, _), (10, _), (59, _), (60, _), (61, _), (62, _), (63, _), (64, _), (65, _), (66, _), (67, _), (4, _)]) (fk rfl (fk rfl (fk rfl (fk rfl (fk rfl (fk rfl (fk rfl (fk rfl (fk rfl (fk rfl (fk rfl (fk rfl (fk rfl (fk rfl (fk rfl (fk rfl (fk rfl (fk rfl (fk rfl (fk rfl (fk rfl (fk rfl (fk rfl (fk rfl (fk rfl (fk rfl (fk rfl (fk rfl (fk rfl (fk rfl (fk rfl (fk rfl (fk rfl (fk rfl (fk rfl (fk rfl (fk rfl (fk rfl (fk rfl fn))))))))))))))))))))))))))))))))))))))) ?_
          refine cg_region ?_
          refine lsw (want_none (by rfl)) (y_move rfl rfl) rfl (by decide) ?_
          refine lsw (want_none (by rfl)) (yv (congrArg nv (show (k : Int) + 1 = ((k + 1 : Nat) : Int) by omega)) (yi_add rfl rfl rfl (by omega) (by omega))) rfl (by decide) ?_
          refine lsw (want_none (by rfl)) (y_assign rfl rfl) rfl (by decide) ?_
          refine lg_nil ?_
          have n38 := n38.below (n39.below.mono (by omega))
          have n38 := n38.set o40 rfl s40
          have n38 := n38.below (hw41.mono (by omega))
          have u := u.trans (n29.below.mono u.size)
          have u := u.trans (s30.below _ (by omega))
          have u := u.trans (hw31.mono u.size)
          have u := u.trans (s37.below _ (by omega))
          have u := u.trans (hw38.mono u.size)
          have u := u.trans (n39.below.mono u.size)
          have u := u.trans (s40.below _ (by omega))
          have u := u.trans (hw41.mono u.size)
          have hrow := hrow.below (n29.below.mono (by omega))
          have hrow := hrow.below (s30.below _ (by omega))
          have hrow := hrow.below (hw31.mono (by omega))
          have hrow := hrow.below (s37.below _ (by omega))
          have hrow := hrow.below (hw38.mono (by omega))
          have hrow := hrow.below (n39.below.mono (by omega))
          have hrow := hrow.below (s40.below _ (by omega))
          have hrow := hrow.below (hw41.mono (by omega))
          have hC2 := (show C ≤ w29.heap.size by omega)
          have hC2 := (show C ≤ w30.heap.size by omega)
          have hC2 := (show C ≤ w31.heap.size by omega)
          have hC2 := (show C ≤ w37.heap.size by omega)
          have hC2 := (show C ≤ w38.heap.size by omega)
          have hC2 := (show C ≤ w39.heap.size by omega)
          have hC2 := (show C ≤ w40.heap.size by omega)
          have hC2 := (show C ≤ w41.heap.size by omega)
          exact fun a ha => (show k < 10 ∧ _ from ⟨(by omega), r38, ha.keep (fk rfl (fk rfl (fk rfl (fk rfl fn)))), hrow, n38, u, hC2, (by omega)⟩)
      · have kt : t ≤ k := by omega
        refine lsw (want_t (dj := 39) (by rfl) (by kernel_rfl) rfl) (yb (decide_eq_false c27) (yi_lss rfl rfl rfl)) rfl (by decide) ?_
        refine lsw (want_none (by rfl)) (y_pick true rfl rfl rfl) rfl (by decide) ?_
        refine lg_nil ?_
        refine nx (E' := [(0, _), (3, _), (4, _), (6, _), (35, _), (36, _), (37, _), (38, _), (39, _), (40, _), (41, _), (42, _)]) (fk rfl (fk rfl (fk rfl (fk rfl (fk rfl (fk rfl (fk rfl (fk rfl (fk rfl (fk rfl (fk rfl (fk rfl fn)))))))))))) ?_
        refine cg_cf rfl ?_
        refine cg_exit ?_
        refine eg_seq_exit ?_
        refine eg_seq_exit ?_
        refine eg_block_exit ?_
        refine nx (E' := [(3, _), (4, _)]) (fk rfl (fk rfl fn)) ?_
        refine cg_seq ?_
        refine cg_region ?_
        refine lsw (want_none (by rfl)) (y_move rfl rfl) rfl (by decide) ?_
        refine lsw (want_none (by rfl)) (y_move rfl rfl) rfl (by decide) ?_
        refine lsw (want_t (dj := 69) (by rfl) (by kernel_rfl) rfl) (y_move rfl rfl) rfl (by decide) ?_
        refine lsw (want_t (dj := 69) (by rfl) (by kernel_rfl) rfl) (y_lenS (el := 5) hr (by kernel_rfl) rfl rfl) rfl (by decide) ?_
        refine lsw (want_t (dj := 69) (by rfl) (by kernel_rfl) rfl) (yb (decide_eq_true (show ((nputAll ((Ls.take t).drop k)).length : Int) = 0 from (by rw [nputAll_end kt]; rfl))) (yi_eql rfl rfl rfl)) rfl (by decide) ?_
        refine lsw (want_none (by rfl)) (y_pick true rfl rfl rfl) rfl (by decide) ?_
        refine lsw (want_none (by rfl)) (y_assign rfl rfl) rfl (by decide) ?_
        refine lg_nil ?_
        refine nx (E' := [(2, _)]) (fk rfl fn) ?_
        refine cg_ret ?_
        exact eg_ret_tmp rfl rfl ⟨_, rfl, rfl, u⟩
    · have kt : t ≤ k := by omega
      refine lsw (want_none (by rfl)) (yb (decide_eq_false c26) (yi_lss rfl rfl rfl)) rfl (by decide) ?_
      refine lsw (want_none (by rfl)) (y_move rfl rfl) rfl (by decide) ?_
      refine lsk (want_f (dj := 39) (by rfl) (by kernel_rfl) rfl) rfl (by decide) ?_
      refine lsk (want_f (dj := 39) (by rfl) (by kernel_rfl) rfl) rfl (by decide) ?_
      refine lsw (want_none (by rfl)) (y_pick false rfl rfl rfl) rfl (by decide) ?_
      refine lg_nil ?_
      refine nx (E' := [(0, _), (3, _), (4, _), (6, _), (35, _), (36, _), (37, _), (38, _), (39, _), (42, _)]) (fk rfl (fk rfl (fk rfl (fk rfl (fk rfl (fk rfl (fk rfl (fk rfl (fk rfl (fk rfl fn)))))))))) ?_
      refine cg_cf rfl ?_
      refine cg_exit ?_
      refine eg_seq_exit ?_
      refine eg_seq_exit ?_
      refine eg_block_exit ?_
      refine nx (E' := [(3, _), (4, _)]) (fk rfl (fk rfl fn)) ?_
      refine cg_seq ?_
      refine cg_region ?_
      refine lsw (want_none (by rfl)) (y_move rfl rfl) rfl (by decide) ?_
      refine lsw (want_none (by rfl)) (y_move rfl rfl) rfl (by decide) ?_
      refine lsw (want_t (dj := 69) (by rfl) (by kernel_rfl) rfl) (y_move rfl rfl) rfl (by decide) ?_
      refine lsw (want_t (dj := 69) (by rfl) (by kernel_rfl) rfl) (y_lenS (el := 5) hr (by kernel_rfl) rfl rfl) rfl (by decide) ?_
      refine lsw (want_t (dj := 69) (by rfl) (by kernel_rfl) rfl) (yb (decide_eq_true (show ((nputAll ((Ls.take t).drop k)).length : Int) = 0 from (by rw [nputAll_end kt]; rfl))) (yi_eql rfl rfl rfl)) rfl (by decide) ?_
      refine lsw (want_none (by rfl)) (y_pick true rfl rfl rfl) rfl (by decide) ?_
      refine lsw (want_none (by rfl)) (y_assign rfl rfl) rfl (by decide) ?_
      refine lg_nil ?_
      refine nx (E' := [(2, _)]) (fk rfl fn) ?_
      refine cg_ret ?_
      exact eg_ret_tmp rfl rfl ⟨_, rfl, rfl, u⟩
end Go.Proofs.Ytpmakacjhoemeaa
