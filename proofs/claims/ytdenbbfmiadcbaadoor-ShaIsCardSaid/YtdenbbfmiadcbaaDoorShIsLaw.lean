/-
  The walk of the law of any state, octets and number.
-/
import Derived.Test.YtdenbbfmiadcbaaDoorShMore
namespace Go.Proofs.YtdenbbfmiadcbaaDoor
open Go.ChangeShapes Go.WideShapes Go.ChangeAt Go.RowKit
set_option linter.unusedVariables false
set_option maxRecDepth 20000
theorem is_any (s : S) (A A2 : Option Addr) (m c m2 c2 : Nat) (n : Int) (ys : List Int) (w : World) {tg : TypeId} (rg : RowAt w 0 tg (cW 64 num)) (oi : Oct w w.heap.size A m s.b) (oj : Oct w w.heap.size A2 m2 ys) (hnc : m2 ≤ c2) : Calls Tryd.prog 3 #[.agg (cS s.h (.slice A m c) s.n), .slice A2 m2 c2, nv n] w fun e w' => ∃ v, e = .returned v ∧ v = .bool true ∧ Below w.heap.size w w' := by
  by_cases h1 : 1000 < m
  · refine calls_cg (n := 65) Tryd.func3 rfl Tryd.ntmps3 (by simp) ?_
    show CG _ _ _ [(0, .agg (cS s.h (.slice A m c) s.n)), (1, .slice A2 m2 c2), (2, nv n)] _ _
    have u := Below.refl w.heap.size w
    have h0 := rg.lt
    refine cg_seq ?_
    refine cg_region ?_
    refine lg_boxw (want_none (by rfl)) rfl rfl (hsR _ _ _) rfl (by decide) fun b1 w1 n1 => ?_
    have r1 := n1.row
    have k1 := n1.blk
    have z1 := n1.size
    refine lsw (want_none (by rfl)) (y_assign rfl rfl) rfl (by decide) ?_
    refine lg_nil ?_
    refine nx (E' := [(1, _), (2, _), (3, _), (6, _)]) (fk rfl (fk rfl (fk rfl (fk rfl fn)))) ?_
    refine cg_seq ?_
    refine cg_region ?_
    have rg := n1.keep rg
    refine lg_callw (want_none (by rfl)) (awake_any _ rg) (by kernel_rfl) rfl rfl rfl (by decide) ?_
    rintro _ w2 ⟨rfl, hw2⟩
    have zw2 := hw2.size
    refine lsw (want_none (by rfl)) (y_assign rfl rfl) rfl (by decide) ?_
    refine lg_nil ?_
    refine nx (E' := [(1, _), (2, _), (3, _), (6, _), (7, _)]) (fk rfl (fk rfl (fk rfl (fk rfl (fk rfl fn))))) ?_
    refine cg_seq ?_
    refine cg_seq ?_
    refine cg_region ?_
    refine lsw (want_none (by rfl)) (y_fld (off := 8) (by kernel_rfl) rfl rfl) rfl (by decide) ?_
    have r1 := RowAt.below hw2 r1.lt r1
    refine lsw (want_none (by rfl)) (y_cellv r1 (cS_8 _ _ _) (by kernel_rfl) rfl rfl) rfl (by decide) ?_
    refine lsw (want_none (by rfl)) (y_len (el := 5) (by kernel_rfl) rfl rfl) rfl (by decide) ?_
    refine lsw (want_none (by rfl)) (yb2 (yi_gtr rfl rfl rfl) (decide_eq_true (by omega))) rfl (by decide) ?_
    refine lsw (want_none (by rfl)) (y_move rfl rfl) rfl (by decide) ?_
    refine lsk (want_f (dj := 13) (by rfl) (by kernel_rfl) rfl) rfl (by decide) ?_
    refine lsk (want_f (dj := 13) (by rfl) (by kernel_rfl) rfl) rfl (by decide) ?_
    refine lsk (want_f (dj := 13) (by rfl) (by kernel_rfl) rfl) rfl (by decide) ?_
    refine lsw (want_none (by rfl)) (y_pick true rfl rfl rfl) rfl (by decide) ?_
    refine lg_nil ?_
    refine nx (E' := [(1, _), (2, _), (3, _), (6, _), (7, _), (17, _)]) (fk rfl (fk rfl (fk rfl (fk rfl (fk rfl (fk rfl fn)))))) ?_
    refine cg_ct rfl ?_
    refine cg_seq ?_
    refine cg_region ?_
    refine lsw (want_none (by rfl)) (y_move rfl rfl) rfl (by decide) ?_
    refine lsw (want_none (by rfl)) (y_assign rfl rfl) rfl (by decide) ?_
    refine lg_nil ?_
    refine nx (E' := [(1, _), (2, _), (3, _), (7, _), (6, _)]) (fk rfl (fk rfl (fk rfl (fk rfl (fk rfl fn))))) ?_
    refine cg_ret ?_
    refine eg_seq_ret ?_
    have u := u.trans (n1.below.mono u.size)
    have u := u.trans (hw2.mono u.size)
    exact eg_ret_tmp rfl rfl ⟨_, rfl, rfl, u⟩
  · by_cases h2 : 1000 < m2
    · refine calls_cg (n := 65) Tryd.func3 rfl Tryd.ntmps3 (by simp) ?_
      show CG _ _ _ [(0, .agg (cS s.h (.slice A m c) s.n)), (1, .slice A2 m2 c2), (2, nv n)] _ _
      have u := Below.refl w.heap.size w
      have h0 := rg.lt
      refine cg_seq ?_
      refine cg_region ?_
      refine lg_boxw (want_none (by rfl)) rfl rfl (hsR _ _ _) rfl (by decide) fun b1 w1 n1 => ?_
      have r1 := n1.row
      have k1 := n1.blk
      have z1 := n1.size
      refine lsw (want_none (by rfl)) (y_assign rfl rfl) rfl (by decide) ?_
      refine lg_nil ?_
      refine nx (E' := [(1, _), (2, _), (3, _), (6, _)]) (fk rfl (fk rfl (fk rfl (fk rfl fn)))) ?_
      refine cg_seq ?_
      refine cg_region ?_
      have rg := n1.keep rg
      refine lg_callw (want_none (by rfl)) (awake_any _ rg) (by kernel_rfl) rfl rfl rfl (by decide) ?_
      rintro _ w2 ⟨rfl, hw2⟩
      have zw2 := hw2.size
      refine lsw (want_none (by rfl)) (y_assign rfl rfl) rfl (by decide) ?_
      refine lg_nil ?_
      refine nx (E' := [(1, _), (2, _), (3, _), (6, _), (7, _)]) (fk rfl (fk rfl (fk rfl (fk rfl (fk rfl fn))))) ?_
      refine cg_seq ?_
      refine cg_seq ?_
      refine cg_region ?_
      refine lsw (want_none (by rfl)) (y_fld (off := 8) (by kernel_rfl) rfl rfl) rfl (by decide) ?_
      have r1 := RowAt.below hw2 r1.lt r1
      refine lsw (want_none (by rfl)) (y_cellv r1 (cS_8 _ _ _) (by kernel_rfl) rfl rfl) rfl (by decide) ?_
      refine lsw (want_none (by rfl)) (y_len (el := 5) (by kernel_rfl) rfl rfl) rfl (by decide) ?_
      refine lsw (want_none (by rfl)) (yb2 (yi_gtr rfl rfl rfl) (decide_eq_false (by omega))) rfl (by decide) ?_
      refine lsw (want_none (by rfl)) (y_move rfl rfl) rfl (by decide) ?_
      refine lsw (want_t (dj := 13) (by rfl) (by kernel_rfl) rfl) (y_move rfl rfl) rfl (by decide) ?_
      refine lsw (want_t (dj := 13) (by rfl) (by kernel_rfl) rfl) (y_len (el := 5) (by kernel_rfl) rfl rfl) rfl (by decide) ?_
      refine lsw (want_t (dj := 13) (by rfl) (by kernel_rfl) rfl) (yb2 (yi_gtr rfl rfl rfl) (decide_eq_true (by omega))) rfl (by decide) ?_
      refine lsw (want_none (by rfl)) (y_pick false rfl rfl rfl) rfl (by decide) ?_
      refine lg_nil ?_
      refine nx (E' := [(1, _), (2, _), (3, _), (6, _), (7, _), (17, _)]) (fk rfl (fk rfl (fk rfl (fk rfl (fk rfl (fk rfl fn)))))) ?_
      refine cg_ct rfl ?_
      refine cg_seq ?_
      refine cg_region ?_
      refine lsw (want_none (by rfl)) (y_move rfl rfl) rfl (by decide) ?_
      refine lsw (want_none (by rfl)) (y_assign rfl rfl) rfl (by decide) ?_
      refine lg_nil ?_
      refine nx (E' := [(1, _), (2, _), (3, _), (7, _), (6, _)]) (fk rfl (fk rfl (fk rfl (fk rfl (fk rfl fn))))) ?_
      refine cg_ret ?_
      refine eg_seq_ret ?_
      have u := u.trans (n1.below.mono u.size)
      have u := u.trans (hw2.mono u.size)
      exact eg_ret_tmp rfl rfl ⟨_, rfl, rfl, u⟩
    · refine calls_cg (n := 65) Tryd.func3 rfl Tryd.ntmps3 (by simp) ?_
      show CG _ _ _ [(0, .agg (cS s.h (.slice A m c) s.n)), (1, .slice A2 m2 c2), (2, nv n)] _ _
      have u := Below.refl w.heap.size w
      have h0 := rg.lt
      refine cg_seq ?_
      refine cg_region ?_
      refine lg_boxw (want_none (by rfl)) rfl rfl (hsR _ _ _) rfl (by decide) fun b1 w1 n1 => ?_
      have r1 := n1.row
      have k1 := n1.blk
      have z1 := n1.size
      refine lsw (want_none (by rfl)) (y_assign rfl rfl) rfl (by decide) ?_
      refine lg_nil ?_
      refine nx (E' := [(1, _), (2, _), (3, _), (6, _)]) (fk rfl (fk rfl (fk rfl (fk rfl fn)))) ?_
      refine cg_seq ?_
      refine cg_region ?_
      have rg := n1.keep rg
      refine lg_callw (want_none (by rfl)) (awake_any _ rg) (by kernel_rfl) rfl rfl rfl (by decide) ?_
      rintro _ w2 ⟨rfl, hw2⟩
      have zw2 := hw2.size
      refine lsw (want_none (by rfl)) (y_assign rfl rfl) rfl (by decide) ?_
      refine lg_nil ?_
      refine nx (E' := [(1, _), (2, _), (3, _), (6, _), (7, _)]) (fk rfl (fk rfl (fk rfl (fk rfl (fk rfl fn))))) ?_
      refine cg_seq ?_
      refine cg_seq ?_
      refine cg_region ?_
      refine lsw (want_none (by rfl)) (y_fld (off := 8) (by kernel_rfl) rfl rfl) rfl (by decide) ?_
      have r1 := RowAt.below hw2 r1.lt r1
      refine lsw (want_none (by rfl)) (y_cellv r1 (cS_8 _ _ _) (by kernel_rfl) rfl rfl) rfl (by decide) ?_
      refine lsw (want_none (by rfl)) (y_len (el := 5) (by kernel_rfl) rfl rfl) rfl (by decide) ?_
      refine lsw (want_none (by rfl)) (yb2 (yi_gtr rfl rfl rfl) (decide_eq_false (by omega))) rfl (by decide) ?_
      refine lsw (want_none (by rfl)) (y_move rfl rfl) rfl (by decide) ?_
      refine lsw (want_t (dj := 13) (by rfl) (by kernel_rfl) rfl) (y_move rfl rfl) rfl (by decide) ?_
      refine lsw (want_t (dj := 13) (by rfl) (by kernel_rfl) rfl) (y_len (el := 5) (by kernel_rfl) rfl rfl) rfl (by decide) ?_
      refine lsw (want_t (dj := 13) (by rfl) (by kernel_rfl) rfl) (yb2 (yi_gtr rfl rfl rfl) (decide_eq_false (by omega))) rfl (by decide) ?_
      refine lsw (want_none (by rfl)) (y_pick false rfl rfl rfl) rfl (by decide) ?_
      refine lg_nil ?_
      refine nx (E' := [(1, _), (2, _), (3, _), (6, _), (7, _), (17, _)]) (fk rfl (fk rfl (fk rfl (fk rfl (fk rfl (fk rfl fn)))))) ?_
      refine cg_cf rfl ?_
      refine cg_skip ?_
      refine nx (E' := [(1, _), (2, _), (3, _), (6, _), (7, _)]) (fk rfl (fk rfl (fk rfl (fk rfl (fk rfl fn))))) ?_
      refine cg_seq ?_
      refine cg_held (by kernel_rfl) fun W3 eW3 => ?_
      have dW3 := below_drew _ _ eW3
      have zW3 := size_drew _ _ eW3
      clear eW3
      refine hg_take 0 (by rfl) (want_none (by rfl)) (by rfl) rfl (by decide) (by kernel_rfl) (by kernel_rfl) (by kernel_rfl) (fun _ _ _ h => h) (Below.refl _ _) (fun q hq => y_move rfl rfl) ?_
      refine hg_take 1 (by rfl) (want_none (by rfl)) (by rfl) rfl (by decide) (by kernel_rfl) (by kernel_rfl) (by kernel_rfl) (fun _ _ _ h => h) (Below.refl _ _) (fun q hq => y_move rfl rfl) ?_
      refine hg_one 2 (by rfl) (by kernel_rfl) (want_t (dj := 20) (by rfl) (by kernel_rfl) rfl) ?_
      refine lg_callw (want_t (dj := 20) (by rfl) (by kernel_rfl) rfl) (new_any _) (by kernel_rfl) rfl rfl rfl (by decide) ?_
      rintro _ w4 ⟨A4, m4, c4, rfl, o4, hw4⟩
      have zw4 := hw4.size
      refine hg_next hw4 ?_
      refine hg_up hw4 ?_
      refine hg_one 3 (by rfl) (by kernel_rfl) (want_t (dj := 20) (by rfl) (by kernel_rfl) rfl) ?_
      refine lg_callw (want_t (dj := 20) (by rfl) (by kernel_rfl) rfl) (theirs_any _ _ _ _ _ _) (by kernel_rfl) rfl rfl rfl (by decide) ?_
      rintro _ w5 ⟨rfl, hw5⟩
      have zw5 := hw5.size
      refine hg_next hw5 ?_
      refine hg_up hw5 ?_
      refine hg_one 4 (by rfl) (by kernel_rfl) (want_t (dj := 20) (by rfl) (by kernel_rfl) rfl) ?_
      refine lg_callw (want_t (dj := 20) (by rfl) (by kernel_rfl) rfl) (rnew_any _) (by kernel_rfl) rfl rfl rfl (by decide) ?_
      rintro _ w6 ⟨A6, m6, c6, rfl, o6, hw6⟩
      have zw6 := hw6.size
      refine hg_next hw6 ?_
      refine hg_up hw6 ?_
      refine hg_one 5 (by rfl) (by kernel_rfl) (want_t (dj := 20) (by rfl) (by kernel_rfl) rfl) ?_
      have o4 := o4.below (hw5.mono (by omega))
      have o4 := o4.below (hw6.mono (by omega))
      refine lg_callw (want_t (dj := 20) (by rfl) (by kernel_rfl) rfl) (same_any _ _ _ _ _ _ _ _ _ _ (o4.more (by omega)) (o6.more (by omega))) (by kernel_rfl) rfl rfl rfl (by decide) ?_
      rintro _ w7 ⟨rfl, hw7⟩
      have zw7 := hw7.size
      refine hg_next hw7 ?_
      refine hg_up hw7 ?_
      refine hg_take 6 (by rfl) (want_none (by rfl)) (by rfl) rfl (by decide) (by kernel_rfl) (by kernel_rfl) (by kernel_rfl) (fun _ _ _ h => h) (Below.refl _ _) (fun q hq => y_pick true rfl rfl rfl) ?_
      refine hg_take 7 (by rfl) (want_none (by rfl)) (by rfl) rfl (by decide) (by kernel_rfl) (by kernel_rfl) (by kernel_rfl) (fun _ _ _ h => h) (Below.refl _ _) (fun q hq => y_move rfl rfl) ?_
      have r1 := RowAt.below dW3 r1.lt r1
      have r1 := RowAt.below hw4 r1.lt r1
      have r1 := RowAt.below hw5 r1.lt r1
      have r1 := RowAt.below hw6 r1.lt r1
      have r1 := RowAt.below hw7 r1.lt r1
      refine hg_take 8 (by rfl) (want_t (dj := 26) (by rfl) (by kernel_rfl) rfl) (by rfl) rfl (by decide) (by kernel_rfl) (by kernel_rfl) (by kernel_rfl) (fun _ _ _ h => h) (Below.refl _ _) (fun q hq => y_part (RowAt.below hq r1.lt r1) (m := 10) (cS_all _ _ _) (by show _ ≤ 10; omega) (by kernel_rfl) (by kernel_rfl) rfl rfl) ?_
      refine hg_take 10 (by rfl) (want_t (dj := 26) (by rfl) (by kernel_rfl) rfl) (by rfl) rfl (by decide) (by kernel_rfl) (by kernel_rfl) (by kernel_rfl) (fun _ _ _ h => h) (Below.refl _ _) (fun q hq => y_move rfl rfl) ?_
      refine hg_take 13 (by rfl) (want_t (dj := 26) (by rfl) (by kernel_rfl) rfl) (by rfl) rfl (by decide) (by kernel_rfl) (by kernel_rfl) (by kernel_rfl) (fun _ _ _ h => h) (Below.refl _ _) (fun q hq => y_part (RowAt.below hq r1.lt r1) (m := 10) (cS_all _ _ _) (by show _ ≤ 10; omega) (by kernel_rfl) (by kernel_rfl) rfl rfl) ?_
      refine hg_take 14 (by rfl) (want_t (dj := 26) (by rfl) (by kernel_rfl) rfl) (by rfl) rfl (by decide) (by kernel_rfl) (by kernel_rfl) (by kernel_rfl) (fun _ _ _ h => h) (Below.refl _ _) (fun q hq => y_move rfl rfl) ?_
      refine hg_one 9 (by rfl) (by kernel_rfl) (want_t (dj := 26) (by rfl) (by kernel_rfl) rfl) ?_
      refine lg_callw (want_t (dj := 26) (by rfl) (by kernel_rfl) rfl) (ours_any _ _ _ _ _ _) (by kernel_rfl) rfl rfl rfl (by decide) ?_
      rintro _ w8 ⟨rfl, hw8⟩
      have zw8 := hw8.size
      refine hg_next hw8 ?_
      refine hg_up hw8 ?_
      refine hg_one 11 (by rfl) (by kernel_rfl) (want_t (dj := 26) (by rfl) (by kernel_rfl) rfl) ?_
      have rg := RowAt.below hw2 rg.lt rg
      have rg := RowAt.below dW3 rg.lt rg
      have rg := RowAt.below hw4 rg.lt rg
      have rg := RowAt.below hw5 rg.lt rg
      have rg := RowAt.below hw6 rg.lt rg
      have rg := RowAt.below hw7 rg.lt rg
      have rg := RowAt.below hw8 rg.lt rg
      have oi := oi.below (n1.below.mono (by omega))
      have oi := oi.below (hw2.mono (by omega))
      have oi := oi.below (dW3.mono (by omega))
      have oi := oi.below (hw4.mono (by omega))
      have oi := oi.below (hw5.mono (by omega))
      have oi := oi.below (hw6.mono (by omega))
      have oi := oi.below (hw7.mono (by omega))
      have oi := oi.below (hw8.mono (by omega))
      have oj := oj.below (n1.below.mono (by omega))
      have oj := oj.below (hw2.mono (by omega))
      have oj := oj.below (dW3.mono (by omega))
      have oj := oj.below (hw4.mono (by omega))
      have oj := oj.below (hw5.mono (by omega))
      have oj := oj.below (hw6.mono (by omega))
      have oj := oj.below (hw7.mono (by omega))
      have oj := oj.below (hw8.mono (by omega))
      refine lg_callw (want_t (dj := 26) (by rfl) (by kernel_rfl) rfl) (write_any (s) _ _ _ _ _ _ (ys) _ rg (oi.more (by omega)) (oj.more (by omega)) hnc (by omega)) (by kernel_rfl) rfl rfl rfl (by decide) ?_
      rintro _ w9 ⟨A9, m9, c9, rfl, o9, hw9⟩
      have zw9 := hw9.size
      refine hg_next hw9 ?_
      refine hg_up hw9 ?_
      refine hg_one 12 (by rfl) (by kernel_rfl) (want_t (dj := 26) (by rfl) (by kernel_rfl) rfl) ?_
      refine lg_callw (want_t (dj := 26) (by rfl) (by kernel_rfl) rfl) (theirs_any _ _ _ _ _ _) (by kernel_rfl) rfl rfl rfl (by decide) ?_
      rintro _ w10 ⟨rfl, hw10⟩
      have zw10 := hw10.size
      refine hg_next hw10 ?_
      refine hg_up hw10 ?_
      refine hg_one 15 (by rfl) (by kernel_rfl) (want_t (dj := 26) (by rfl) (by kernel_rfl) rfl) ?_
      have oi := oi.below (hw9.mono (by omega))
      have oi := oi.below (hw10.mono (by omega))
      have oj := oj.below (hw9.mono (by omega))
      have oj := oj.below (hw10.mono (by omega))
      refine lg_callw (want_t (dj := 26) (by rfl) (by kernel_rfl) rfl) (rwrite_any (s) _ _ _ _ _ _ (ys) _ (oi.more (by omega)) (oj.more (by omega)) (by omega)) (by kernel_rfl) rfl rfl rfl (by decide) ?_
      rintro _ w11 ⟨A11, m11, c11, rfl, o11, hw11⟩
      have zw11 := hw11.size
      refine hg_next hw11 ?_
      refine hg_up hw11 ?_
      refine hg_one 16 (by rfl) (by kernel_rfl) (want_t (dj := 26) (by rfl) (by kernel_rfl) rfl) ?_
      have o9 := o9.below (hw10.mono (by omega))
      have o9 := o9.below (hw11.mono (by omega))
      refine lg_callw (want_t (dj := 26) (by rfl) (by kernel_rfl) rfl) (same_any _ _ _ _ _ _ _ _ _ _ (o9.more (by omega)) (o11.more (by omega))) (by kernel_rfl) rfl rfl rfl (by decide) ?_
      rintro _ w12 ⟨rfl, hw12⟩
      have zw12 := hw12.size
      refine hg_next hw12 ?_
      refine hg_up hw12 ?_
      refine hg_take 17 (by rfl) (want_none (by rfl)) (by rfl) rfl (by decide) (by kernel_rfl) (by kernel_rfl) (by kernel_rfl) (fun _ _ _ h => h) (Below.refl _ _) (fun q hq => y_pick true rfl rfl rfl) ?_
      refine hg_take 18 (by rfl) (want_none (by rfl)) (by rfl) rfl (by decide) (by kernel_rfl) (by kernel_rfl) (by kernel_rfl) (fun _ _ _ h => h) (Below.refl _ _) (fun q hq => y_move rfl rfl) ?_
      have r1 := RowAt.below hw8 r1.lt r1
      have r1 := RowAt.below hw9 r1.lt r1
      have r1 := RowAt.below hw10 r1.lt r1
      have r1 := RowAt.below hw11 r1.lt r1
      have r1 := RowAt.below hw12 r1.lt r1
      refine hg_take 19 (by rfl) (want_t (dj := 37) (by rfl) (by kernel_rfl) rfl) (by rfl) rfl (by decide) (by kernel_rfl) (by kernel_rfl) (by kernel_rfl) (fun _ _ _ h => h) (Below.refl _ _) (fun q hq => y_part (RowAt.below hq r1.lt r1) (m := 10) (cS_all _ _ _) (by show _ ≤ 10; omega) (by kernel_rfl) (by kernel_rfl) rfl rfl) ?_
      refine hg_take 23 (by rfl) (want_t (dj := 37) (by rfl) (by kernel_rfl) rfl) (by rfl) rfl (by decide) (by kernel_rfl) (by kernel_rfl) (by kernel_rfl) (fun _ _ _ h => h) (Below.refl _ _) (fun q hq => y_part (RowAt.below hq r1.lt r1) (m := 10) (cS_all _ _ _) (by show _ ≤ 10; omega) (by kernel_rfl) (by kernel_rfl) rfl rfl) ?_
      refine hg_one 20 (by rfl) (by kernel_rfl) (want_t (dj := 37) (by rfl) (by kernel_rfl) rfl) ?_
      refine lg_callw (want_t (dj := 37) (by rfl) (by kernel_rfl) rfl) (ours_any _ _ _ _ _ _) (by kernel_rfl) rfl rfl rfl (by decide) ?_
      rintro _ w13 ⟨rfl, hw13⟩
      have zw13 := hw13.size
      refine hg_next hw13 ?_
      refine hg_up hw13 ?_
      refine hg_one 21 (by rfl) (by kernel_rfl) (want_t (dj := 37) (by rfl) (by kernel_rfl) rfl) ?_
      have rg := RowAt.below hw9 rg.lt rg
      have rg := RowAt.below hw10 rg.lt rg
      have rg := RowAt.below hw11 rg.lt rg
      have rg := RowAt.below hw12 rg.lt rg
      have rg := RowAt.below hw13 rg.lt rg
      have oi := oi.below (hw11.mono (by omega))
      have oi := oi.below (hw12.mono (by omega))
      have oi := oi.below (hw13.mono (by omega))
      refine lg_callw (want_t (dj := 37) (by rfl) (by kernel_rfl) rfl) (done_any (s) _ _ _ _ rg (oi.more (by omega))) (by kernel_rfl) rfl rfl rfl (by decide) ?_
      rintro _ w14 ⟨A14, m14, c14, rfl, hc14, o14, hw14⟩
      have zw14 := hw14.size
      refine hg_next hw14 ?_
      refine hg_up hw14 ?_
      refine hg_take 22 (by rfl) (want_t (dj := 37) (by rfl) (by kernel_rfl) rfl) (by rfl) rfl (by decide) (by kernel_rfl) (by kernel_rfl) (by kernel_rfl) (fun _ _ _ h => h) (Below.refl _ _) (fun q hq => y_str (o14.below (hq.mono (by omega))) rfl rfl) ?_
      refine hg_one 24 (by rfl) (by kernel_rfl) (want_t (dj := 37) (by rfl) (by kernel_rfl) rfl) ?_
      have oi := oi.below (hw14.mono (by omega))
      refine lg_callw (want_t (dj := 37) (by rfl) (by kernel_rfl) rfl) (rdone_any (s) _ _ _ _ (oi.more (by omega))) (by kernel_rfl) rfl rfl rfl (by decide) ?_
      rintro _ w15 ⟨A15, m15, c15, rfl, hc15, o15, hw15⟩
      have zw15 := hw15.size
      refine hg_next hw15 ?_
      refine hg_up hw15 ?_
      refine hg_take 25 (by rfl) (want_t (dj := 37) (by rfl) (by kernel_rfl) rfl) (by rfl) rfl (by decide) (by kernel_rfl) (by kernel_rfl) (by kernel_rfl) (fun _ _ _ h => h) (Below.refl _ _) (fun q hq => y_str (o15.below (hq.mono (by omega))) rfl rfl) ?_
      refine hg_take 26 (by rfl) (want_t (dj := 37) (by rfl) (by kernel_rfl) rfl) (by rfl) rfl (by decide) (by kernel_rfl) (by kernel_rfl) (by kernel_rfl) (fun _ _ _ h => h) (Below.refl _ _) (fun q hq => y_streq_t rfl rfl rfl rfl) ?_
      refine hg_take 27 (by rfl) (want_none (by rfl)) (by rfl) rfl (by decide) (by kernel_rfl) (by kernel_rfl) (by kernel_rfl) (fun _ _ _ h => h) (Below.refl _ _) (fun q hq => y_pick true rfl rfl rfl) ?_
      refine hg_take 28 (by rfl) (want_none (by rfl)) (by rfl) rfl (by decide) (by kernel_rfl) (by kernel_rfl) (by kernel_rfl) (fun _ _ _ h => h) (Below.refl _ _) (fun q hq => y_move rfl rfl) ?_
      refine hg_take 29 (by rfl) (want_t (dj := 47) (by rfl) (by kernel_rfl) rfl) (by rfl) rfl (by decide) (by kernel_rfl) (by kernel_rfl) (by kernel_rfl) (fun _ _ _ h => h) (Below.refl _ _) (fun q hq => y_move rfl rfl) ?_
      refine hg_take 32 (by rfl) (want_t (dj := 47) (by rfl) (by kernel_rfl) rfl) (by rfl) rfl (by decide) (by kernel_rfl) (by kernel_rfl) (by kernel_rfl) (fun _ _ _ h => h) (Below.refl _ _) (fun q hq => y_move rfl rfl) ?_
      refine hg_one 30 (by rfl) (by kernel_rfl) (want_t (dj := 47) (by rfl) (by kernel_rfl) rfl) ?_
      have rg := RowAt.below hw14 rg.lt rg
      have rg := RowAt.below hw15 rg.lt rg
      have oj := oj.below (hw11.mono (by omega))
      have oj := oj.below (hw12.mono (by omega))
      have oj := oj.below (hw13.mono (by omega))
      have oj := oj.below (hw14.mono (by omega))
      have oj := oj.below (hw15.mono (by omega))
      refine lg_callw (want_t (dj := 47) (by rfl) (by kernel_rfl) rfl) (sum_any _ _ _ _ _ rg (oj.more (by omega)) hnc (by omega)) (by kernel_rfl) rfl rfl rfl (by decide) ?_
      rintro _ w16 ⟨A16, m16, c16, rfl, hc16, o16, hw16⟩
      have zw16 := hw16.size
      refine hg_next hw16 ?_
      refine hg_up hw16 ?_
      refine hg_take 31 (by rfl) (want_t (dj := 47) (by rfl) (by kernel_rfl) rfl) (by rfl) rfl (by decide) (by kernel_rfl) (by kernel_rfl) (by kernel_rfl) (fun _ _ _ h => h) (Below.refl _ _) (fun q hq => y_str (o16.below (hq.mono (by omega))) rfl rfl) ?_
      refine hg_one 33 (by rfl) (by kernel_rfl) (want_t (dj := 47) (by rfl) (by kernel_rfl) rfl) ?_
      have oj := oj.below (hw16.mono (by omega))
      refine lg_callw (want_t (dj := 47) (by rfl) (by kernel_rfl) rfl) (rsum_any _ _ _ _ _ (oj.more (by omega)) (by omega)) (by kernel_rfl) rfl rfl rfl (by decide) ?_
      rintro _ w17 ⟨A17, m17, c17, rfl, hc17, o17, hw17⟩
      have zw17 := hw17.size
      refine hg_next hw17 ?_
      refine hg_up hw17 ?_
      refine hg_take 34 (by rfl) (want_t (dj := 47) (by rfl) (by kernel_rfl) rfl) (by rfl) rfl (by decide) (by kernel_rfl) (by kernel_rfl) (by kernel_rfl) (fun _ _ _ h => h) (Below.refl _ _) (fun q hq => y_str (o17.below (hq.mono (by omega))) rfl rfl) ?_
      refine hg_take 35 (by rfl) (want_t (dj := 47) (by rfl) (by kernel_rfl) rfl) (by rfl) rfl (by decide) (by kernel_rfl) (by kernel_rfl) (by kernel_rfl) (fun _ _ _ h => h) (Below.refl _ _) (fun q hq => y_streq_t rfl rfl rfl rfl) ?_
      refine hg_take 36 (by rfl) (want_none (by rfl)) (by rfl) rfl (by decide) (by kernel_rfl) (by kernel_rfl) (by kernel_rfl) (fun _ _ _ h => h) (Below.refl _ _) (fun q hq => y_pick true rfl rfl rfl) ?_
      refine hg_take 37 (by rfl) (want_none (by rfl)) (by rfl) rfl (by decide) (by kernel_rfl) (by kernel_rfl) (by kernel_rfl) (fun _ _ _ h => h) (Below.refl _ _) (fun q hq => y_move rfl rfl) ?_
      refine hg_take 38 (by rfl) (want_t (dj := 56) (by rfl) (by kernel_rfl) rfl) (by rfl) rfl (by decide) (by kernel_rfl) (by kernel_rfl) (by kernel_rfl) (fun _ _ _ h => h) (Below.refl _ _) (fun q hq => y_move rfl rfl) ?_
      refine hg_take 41 (by rfl) (want_t (dj := 56) (by rfl) (by kernel_rfl) rfl) (by rfl) rfl (by decide) (by kernel_rfl) (by kernel_rfl) (by kernel_rfl) (fun _ _ _ h => h) (Below.refl _ _) (fun q hq => y_move rfl rfl) ?_
      refine hg_one 39 (by rfl) (by kernel_rfl) (want_t (dj := 56) (by rfl) (by kernel_rfl) rfl) ?_
      refine lg_callw (want_t (dj := 56) (by rfl) (by kernel_rfl) rfl) (pad_any _ _) (by kernel_rfl) rfl rfl rfl (by decide) ?_
      rintro _ w18 ⟨A18, m18, c18, rfl, hc18, o18, hw18⟩
      have zw18 := hw18.size
      refine hg_next hw18 ?_
      refine hg_up hw18 ?_
      refine hg_take 40 (by rfl) (want_t (dj := 56) (by rfl) (by kernel_rfl) rfl) (by rfl) rfl (by decide) (by kernel_rfl) (by kernel_rfl) (by kernel_rfl) (fun _ _ _ h => h) (Below.refl _ _) (fun q hq => y_str (o18.below (hq.mono (by omega))) rfl rfl) ?_
      refine hg_one 42 (by rfl) (by kernel_rfl) (want_t (dj := 56) (by rfl) (by kernel_rfl) rfl) ?_
      refine lg_callw (want_t (dj := 56) (by rfl) (by kernel_rfl) rfl) (rpad_any _ _) (by kernel_rfl) rfl rfl rfl (by decide) ?_
      rintro _ w19 ⟨A19, m19, c19, rfl, hc19, o19, hw19⟩
      have zw19 := hw19.size
      refine hg_next hw19 ?_
      refine hg_up hw19 ?_
      refine hg_take 43 (by rfl) (want_t (dj := 56) (by rfl) (by kernel_rfl) rfl) (by rfl) rfl (by decide) (by kernel_rfl) (by kernel_rfl) (by kernel_rfl) (fun _ _ _ h => h) (Below.refl _ _) (fun q hq => y_str (o19.below (hq.mono (by omega))) rfl rfl) ?_
      refine hg_take 44 (by rfl) (want_t (dj := 56) (by rfl) (by kernel_rfl) rfl) (by rfl) rfl (by decide) (by kernel_rfl) (by kernel_rfl) (by kernel_rfl) (fun _ _ _ h => h) (Below.refl _ _) (fun q hq => y_streq_t rfl rfl rfl rfl) ?_
      refine hg_take 45 (by rfl) (want_none (by rfl)) (by rfl) rfl (by decide) (by kernel_rfl) (by kernel_rfl) (by kernel_rfl) (fun _ _ _ h => h) (Below.refl _ _) (fun q hq => y_pick true rfl rfl rfl) ?_
      refine hg_take 46 (by rfl) (want_none (by rfl)) (by rfl) rfl (by decide) (by kernel_rfl) (by kernel_rfl) (by kernel_rfl) (fun _ _ _ h => h) (Below.refl _ _) (fun q hq => y_assign rfl rfl) ?_
      refine hg_done (by kernel_rfl) ?_
      refine nx (E' := [(6, _)]) (fk rfl fn) ?_
      refine cg_ret ?_
      have u := u.trans (n1.below.mono u.size)
      have u := u.trans (hw2.mono u.size)
      have u := u.trans (dW3.mono u.size)
      have u := u.trans (hw4.mono u.size)
      have u := u.trans (hw5.mono u.size)
      have u := u.trans (hw6.mono u.size)
      have u := u.trans (hw7.mono u.size)
      have u := u.trans (hw8.mono u.size)
      have u := u.trans (hw9.mono u.size)
      have u := u.trans (hw10.mono u.size)
      have u := u.trans (hw11.mono u.size)
      have u := u.trans (hw12.mono u.size)
      have u := u.trans (hw13.mono u.size)
      have u := u.trans (hw14.mono u.size)
      have u := u.trans (hw15.mono u.size)
      have u := u.trans (hw16.mono u.size)
      have u := u.trans (hw17.mono u.size)
      have u := u.trans (hw18.mono u.size)
      have u := u.trans (hw19.mono u.size)
      exact eg_ret_tmp rfl rfl ⟨_, rfl, rfl, u⟩
end Go.Proofs.YtdenbbfmiadcbaaDoor
