/-
  Which numbers may be named.
-/
import Derived.Test.YtomjcbjekofkoaaPnAwake
namespace Go.Proofs.Ytomjcbjekofkoaa
open Go.ChangeShapes Go.WideShapes Go.ChangeAt Go.RowKit
set_option linter.unusedVariables false

set_option maxHeartbeats 4000000 in
theorem parentUnmerged_any {W : World} {l : PnV} {L : Pn} (hl : IsPn W W.heap.size l L) (i : Int) : Calls Try.prog 8 #[.agg (l.cs L), nv i] W fun e W' => ∃ v, e = .returned v ∧ v = .bool true ∧ Below W.heap.size W W' := by
  refine calls_cg (n := 83) Try.func8 rfl Try.ntmps8 (by simp) ?_
  show CG _ _ _ [(0, .agg (l.cs L)), (1, nv i)] _ _
  have u := Below.refl W.heap.size W
  refine cg_seq ?_
  refine cg_region ?_
  refine lg_boxw (want_none (by rfl)) rfl rfl (by kernel_rfl) rfl (by decide) fun b1 w1 n1 => ?_
  have r1 := n1.row
  have k1 := n1.blk
  have z1 := n1.size
  have lt1 : b1 < w1.heap.size := by omega
  refine lsw (want_none (by rfl)) (y_assign rfl rfl) rfl (by decide) ?_
  refine lg_nil ?_
  refine nx (E' := [(1, _), (2, _), (4, _)]) (fk rfl (fk rfl (fk rfl fn))) ?_
  refine cg_seq ?_
  refine cg_region ?_
  refine lg_callw (want_none (by rfl)) (awakeP_any _) (by kernel_rfl) rfl rfl rfl (by decide) ?_
  rintro _ w2 ⟨rfl, hw2⟩
  have zw2 := hw2.size
  refine lsw (want_none (by rfl)) (y_assign rfl rfl) rfl (by decide) ?_
  refine lg_nil ?_
  refine nx (E' := [(1, _), (2, _), (4, _), (5, _)]) (fk rfl (fk rfl (fk rfl (fk rfl fn)))) ?_
  refine cg_seq ?_
  refine cg_seq ?_
  refine cg_region ?_
  have r1 := RowAt.below hw2 r1.lt r1
  refine lsw (want_none (by rfl)) (y_loadA r1 (by kernel_rfl) (by kernel_rfl) rfl rfl) rfl (by decide) ?_
  have hl := hl.below (n1.below.mono (by omega))
  have hl := hl.below (hw2.mono (by omega))
  by_cases c3 : pnFew L
  · refine lg_callw (want_none (by rfl)) (few_any (hl.more (B' := w2.heap.size) (by omega)) (Nat.le_refl _)) (by kernel_rfl) rfl rfl rfl (by decide) ?_
    rintro u4 w4 ⟨e4, hw4⟩
    have zw4 := hw4.size
    obtain rfl : u4 = .bool true := e4.trans (congrArg Value.bool (decide_eq_true c3))
    refine lsw (want_none (by rfl)) (y_bnot rfl rfl) rfl (by decide) ?_
    refine lsw (want_none (by rfl)) (y_move rfl rfl) rfl (by decide) ?_
    have r1 := RowAt.below hw4 r1.lt r1
    refine lsw (want_t (dj := 13) (by rfl) (by kernel_rfl) rfl) (y_loadA r1 (by kernel_rfl) (by kernel_rfl) rfl rfl) rfl (by decide) ?_
    have hl := hl.below (hw4.mono (by omega))
    refine lg_callw (want_t (dj := 13) (by rfl) (by kernel_rfl) rfl) (check_any (hl.more (B' := w4.heap.size) (by omega)) (Nat.le_refl _)) (by kernel_rfl) rfl rfl rfl (by decide) ?_
    rintro _ w5 ⟨rfl, hw5⟩
    have zw5 := hw5.size
    by_cases c6 : (pnCheck L) = 0
    · have ok := pnCheck_ok c6
      refine lsw (want_t (dj := 13) (by rfl) (by kernel_rfl) rfl) (yb (nd_f c6) (yi_neq rfl rfl rfl)) rfl (by decide) ?_
      refine lsw (want_none (by rfl)) (y_pick false rfl rfl rfl) rfl (by decide) ?_
      refine lg_nil ?_
      refine nx (E' := [(1, _), (2, _), (4, _), (5, _), (17, _)]) (fk rfl (fk rfl (fk rfl (fk rfl (fk rfl fn))))) ?_
      refine cg_cf rfl ?_
      refine cg_skip ?_
      refine nx (E' := [(1, _), (2, _), (4, _), (5, _)]) (fk rfl (fk rfl (fk rfl (fk rfl fn)))) ?_
      refine cg_seq ?_
      refine cg_region ?_
      have r1 := RowAt.below hw5 r1.lt r1
      refine lsw (want_none (by rfl)) (y_loadA r1 (by kernel_rfl) (by kernel_rfl) rfl rfl) rfl (by decide) ?_
      refine lg_allocw (cs := PnV.zero.cs Pn.zero) (want_none (by rfl)) rfl (by kernel_rfl) rfl (by decide) fun b7 w7 n7 => ?_
      have r7 := n7.row
      have k7 := n7.blk
      have z7 := n7.size
      have lt7 : b7 < w7.heap.size := by omega
      have o8 := r7
      refine lg_stw (want_none (by rfl)) r7 rfl rfl rfl (by kernel_rfl) (by kernel_rfl) rfl rfl fun w8 s8 => ?_
      have r7 := s8.row
      have z8 := s8.size
      refine lg_nil ?_
      refine nx (E' := [(1, _), (2, _), (4, _), (5, _), (6, _)]) (fk rfl (fk rfl (fk rfl (fk rfl (fk rfl fn))))) ?_
      refine cg_seq ?_
      refine cg_region ?_
      refine lsw (want_none (by rfl)) (y_fld (off := 2) (by kernel_rfl) rfl rfl) rfl (by decide) ?_
      have r1 := n7.keep r1
      have r1 := s8.keep r1 (by omega)
      refine lsw (want_none (by rfl)) (y_cellv (v := l.unm.v) r1 rfl (by kernel_rfl) rfl rfl) rfl (by decide) ?_
      refine lsw (want_none (by rfl)) (y_move rfl rfl) rfl (by decide) ?_
      have hl := hl.below (hw5.mono (by omega))
      have hl := hl.below (n7.below.mono (by omega))
      have hl := hl.set o8 rfl s8
      refine lg_callw (want_none (by rfl)) (joinP_any i hl.unm (by omega) (by first | omega | (simp only [List.length_append, List.length_cons, List.length_nil, numOct_length]; omega))) (by kernel_rfl) rfl rfl rfl (by decide) ?_
      rintro _ w9 ⟨r9, rfl, m9, hw9⟩
      have zw9 := hw9.size
      have jl9 := joinK_length L.unm i
      refine lsw (want_none (by rfl)) (y_fld (off := 2) (by kernel_rfl) rfl rfl) rfl (by decide) ?_
      have r7 := RowAt.below hw9 r7.lt r7
      have o10 := r7
      refine lg_st1 (new := #[l.enc.v, l.hash.v, r9.v]) (want_none (by rfl)) r7 rfl rfl rfl (by kernel_rfl) rfl (show 2 < 3 by decide) rfl rfl fun w10 s10 => ?_
      have r7 := s10.row
      have z10 := s10.size
      refine lg_nil ?_
      refine nx (E' := [(1, _), (2, _), (4, _), (5, _), (6, _)]) (fk rfl (fk rfl (fk rfl (fk rfl (fk rfl fn))))) ?_
      refine cg_seq ?_
      refine cg_region ?_
      refine lsw (want_none (by rfl)) (y_move rfl rfl) rfl (by decide) ?_
      by_cases c11 : 0 ≤ i
      · refine lsw (want_none (by rfl)) (yb (decide_eq_true c11) (yi_geq rfl rfl rfl)) rfl (by decide) ?_
        refine lsw (want_none (by rfl)) (y_move rfl rfl) rfl (by decide) ?_
        refine lsw (want_t (dj := 27) (by rfl) (by kernel_rfl) rfl) (y_move rfl rfl) rfl (by decide) ?_
        by_cases c12 : i < 64
        · refine lsw (want_t (dj := 27) (by rfl) (by kernel_rfl) rfl) (yb (decide_eq_true c12) (yi_lss rfl rfl rfl)) rfl (by decide) ?_
          refine lsw (want_none (by rfl)) (y_pick true rfl rfl rfl) rfl (by decide) ?_
          refine lsw (want_none (by rfl)) (y_assign rfl rfl) rfl (by decide) ?_
          refine lg_nil ?_
          refine nx (E' := [(2, _), (4, _), (5, _), (6, _), (7, _)]) (fk rfl (fk rfl (fk rfl (fk rfl (fk rfl fn))))) ?_
          refine cg_seq ?_
          refine cg_seq ?_
          refine cg_region ?_
          refine lsw (want_none (by rfl)) (y_loadA r7 (by kernel_rfl) (by kernel_rfl) rfl rfl) rfl (by decide) ?_
          have hl := hl.below (hw9.mono (by omega))
          have hl := hl.set o10 rfl s10
          have m9 := m9.set o10 rfl s10
          refine lg_callw (want_none (by rfl)) (check_any (show IsPn w10 w10.heap.size (⟨l.enc, l.hash, r9⟩ : PnV) (⟨L.enc, L.hash, (joinK L.unm i)⟩ : Pn) from ⟨hl.enc.more (by omega), hl.hash.more (by omega), m9.more (by omega)⟩) (Nat.le_refl _)) (by kernel_rfl) rfl rfl rfl (by decide) ?_
          rintro _ w13 ⟨rfl, hw13⟩
          have zw13 := hw13.size
          refine lsw (want_none (by rfl)) (yb (decide_eq_true (show (pnCheck (⟨L.enc, L.hash, (joinK L.unm i)⟩ : Pn)) = 0 from (um_ok c6 c11 c12))) (yi_eql rfl rfl rfl)) rfl (by decide) ?_
          refine lsw (want_none (by rfl)) (y_move rfl rfl) rfl (by decide) ?_
          refine lsw (want_none (by rfl)) (yb (b := (!(true == true))) (show (!(true == true)) = false from rfl) (y_bne (a := true) (b := true) hubo rfl rfl rfl)) rfl (by decide) ?_
          refine lsw (want_none (by rfl)) (y_move rfl rfl) rfl (by decide) ?_
          refine lsw (want_t (dj := 36) (by rfl) (by kernel_rfl) rfl) (y_move rfl rfl) rfl (by decide) ?_
          refine lsw (want_t (dj := 36) (by rfl) (by kernel_rfl) rfl) (y_bnot rfl rfl) rfl (by decide) ?_
          refine lsw (want_t (dj := 36) (by rfl) (by kernel_rfl) rfl) (y_move rfl rfl) rfl (by decide) ?_
          refine lsk (want_f (dj := 39) (by rfl) (by kernel_rfl) rfl) rfl (by decide) ?_
          refine lsk (want_f (dj := 39) (by rfl) (by kernel_rfl) rfl) rfl (by decide) ?_
          refine lsk (want_f (dj := 39) (by rfl) (by kernel_rfl) rfl) rfl (by decide) ?_
          refine lsw (want_t (dj := 36) (by rfl) (by kernel_rfl) rfl) (y_pick false rfl rfl rfl) rfl (by decide) ?_
          refine lsw (want_t (dj := 36) (by rfl) (by kernel_rfl) rfl) (y_move rfl rfl) rfl (by decide) ?_
          refine lsk (want_f (dj := 44) (by rfl) (by kernel_rfl) rfl) rfl (by decide) ?_
          refine lsk (want_f (dj := 44) (by rfl) (by kernel_rfl) rfl) rfl (by decide) ?_
          refine lsk (want_f (dj := 44) (by rfl) (by kernel_rfl) rfl) rfl (by decide) ?_
          refine lsw (want_t (dj := 36) (by rfl) (by kernel_rfl) rfl) (y_pick false rfl rfl rfl) rfl (by decide) ?_
          refine lsw (want_none (by rfl)) (y_pick false rfl rfl rfl) rfl (by decide) ?_
          refine lg_nil ?_
          refine nx (E' := [(2, _), (4, _), (5, _), (49, _)]) (fk rfl (fk rfl (fk rfl (fk rfl fn)))) ?_
          refine cg_cf rfl ?_
          refine cg_skip ?_
          refine nx (E' := [(2, _), (4, _), (5, _)]) (fk rfl (fk rfl (fk rfl fn))) ?_
          refine cg_seq ?_
          refine cg_seq ?_
          refine cg_region ?_
          refine lsw (want_none (by rfl)) (y_fld (off := 2) (by kernel_rfl) rfl rfl) rfl (by decide) ?_
          have r1 := RowAt.below hw9 r1.lt r1
          have r1 := s10.keep r1 (by omega)
          have r1 := RowAt.below hw13 r1.lt r1
          refine lsw (want_none (by rfl)) (y_cellv (v := l.unm.v) r1 rfl (by kernel_rfl) rfl rfl) rfl (by decide) ?_
          have hl := hl.below (hw13.mono (by omega))
          refine lsw (want_none (by rfl)) (y_lenM (el := 3) hl.unm.len (by kernel_rfl) rfl rfl) rfl (by decide) ?_
          by_cases c14 : (L.unm.length : Int) = 0
          · refine lsw (want_none (by rfl)) (yb (decide_eq_true c14) (yi_eql rfl rfl rfl)) rfl (by decide) ?_
            refine lsw (want_none (by rfl)) (y_move rfl rfl) rfl (by decide) ?_
            refine lsk (want_f (dj := 54) (by rfl) (by kernel_rfl) rfl) rfl (by decide) ?_
            refine lsk (want_f (dj := 54) (by rfl) (by kernel_rfl) rfl) rfl (by decide) ?_
            refine lsk (want_f (dj := 54) (by rfl) (by kernel_rfl) rfl) rfl (by decide) ?_
            refine lsk (want_f (dj := 54) (by rfl) (by kernel_rfl) rfl) rfl (by decide) ?_
            refine lsw (want_none (by rfl)) (y_pick true rfl rfl rfl) rfl (by decide) ?_
            refine lg_nil ?_
            refine nx (E' := [(2, _), (4, _), (5, _), (59, _)]) (fk rfl (fk rfl (fk rfl (fk rfl fn)))) ?_
            refine cg_ct rfl ?_
            refine cg_seq ?_
            refine cg_region ?_
            refine lsw (want_none (by rfl)) (y_move rfl rfl) rfl (by decide) ?_
            refine lsw (want_none (by rfl)) (y_assign rfl rfl) rfl (by decide) ?_
            refine lg_nil ?_
            refine nx (E' := [(2, _), (5, _), (4, _)]) (fk rfl (fk rfl (fk rfl fn))) ?_
            refine cg_ret ?_
            refine eg_seq_ret ?_
            have u := u.trans (n1.below.mono u.size)
            have u := u.trans (hw2.mono u.size)
            have u := u.trans (hw4.mono u.size)
            have u := u.trans (hw5.mono u.size)
            have u := u.trans (n7.below.mono u.size)
            have u := u.trans (s8.below _ (by omega))
            have u := u.trans (hw9.mono u.size)
            have u := u.trans (s10.below _ (by omega))
            have u := u.trans (hw13.mono u.size)
            exact eg_ret_tmp rfl rfl ⟨_, rfl, rfl, u⟩
          · refine lsw (want_none (by rfl)) (yb (decide_eq_false c14) (yi_eql rfl rfl rfl)) rfl (by decide) ?_
            refine lsw (want_none (by rfl)) (y_move rfl rfl) rfl (by decide) ?_
            refine lsw (want_t (dj := 54) (by rfl) (by kernel_rfl) rfl) (y_fld (off := 2) (by kernel_rfl) rfl rfl) rfl (by decide) ?_
            refine lsw (want_t (dj := 54) (by rfl) (by kernel_rfl) rfl) (y_cellv (v := l.unm.v) r1 rfl (by kernel_rfl) rfl rfl) rfl (by decide) ?_
            refine lsw (want_t (dj := 54) (by rfl) (by kernel_rfl) rfl) (y_lenM (el := 3) hl.unm.len (by kernel_rfl) rfl rfl) rfl (by decide) ?_
            by_cases c15 : 64 ≤ (L.unm.length : Int)
            · refine lsw (want_t (dj := 54) (by rfl) (by kernel_rfl) rfl) (yb (decide_eq_true c15) (yi_geq rfl rfl rfl)) rfl (by decide) ?_
              refine lsw (want_none (by rfl)) (y_pick false rfl rfl rfl) rfl (by decide) ?_
              refine lg_nil ?_
              refine nx (E' := [(2, _), (4, _), (5, _), (59, _)]) (fk rfl (fk rfl (fk rfl (fk rfl fn)))) ?_
              refine cg_ct rfl ?_
              refine cg_seq ?_
              refine cg_region ?_
              refine lsw (want_none (by rfl)) (y_move rfl rfl) rfl (by decide) ?_
              refine lsw (want_none (by rfl)) (y_assign rfl rfl) rfl (by decide) ?_
              refine lg_nil ?_
              refine nx (E' := [(2, _), (5, _), (4, _)]) (fk rfl (fk rfl (fk rfl fn))) ?_
              refine cg_ret ?_
              refine eg_seq_ret ?_
              have u := u.trans (n1.below.mono u.size)
              have u := u.trans (hw2.mono u.size)
              have u := u.trans (hw4.mono u.size)
              have u := u.trans (hw5.mono u.size)
              have u := u.trans (n7.below.mono u.size)
              have u := u.trans (s8.below _ (by omega))
              have u := u.trans (hw9.mono u.size)
              have u := u.trans (s10.below _ (by omega))
              have u := u.trans (hw13.mono u.size)
              exact eg_ret_tmp rfl rfl ⟨_, rfl, rfl, u⟩
            · have tw := um_twice c6 (by omega) (by omega)
              refine lsw (want_t (dj := 54) (by rfl) (by kernel_rfl) rfl) (yb (decide_eq_false c15) (yi_geq rfl rfl rfl)) rfl (by decide) ?_
              refine lsw (want_none (by rfl)) (y_pick false rfl rfl rfl) rfl (by decide) ?_
              refine lg_nil ?_
              refine nx (E' := [(2, _), (4, _), (5, _), (59, _)]) (fk rfl (fk rfl (fk rfl (fk rfl fn)))) ?_
              refine cg_cf rfl ?_
              refine cg_skip ?_
              refine nx (E' := [(2, _), (4, _), (5, _)]) (fk rfl (fk rfl (fk rfl fn))) ?_
              refine cg_seq ?_
              refine cg_region ?_
              refine lsw (want_none (by rfl)) (y_loadA r1 (by kernel_rfl) (by kernel_rfl) rfl rfl) rfl (by decide) ?_
              refine lg_allocw (cs := PnV.zero.cs Pn.zero) (want_none (by rfl)) rfl (by kernel_rfl) rfl (by decide) fun b16 w16 n16 => ?_
              have r16 := n16.row
              have k16 := n16.blk
              have z16 := n16.size
              have lt16 : b16 < w16.heap.size := by omega
              have o17 := r16
              refine lg_stw (want_none (by rfl)) r16 rfl rfl rfl (by kernel_rfl) (by kernel_rfl) rfl rfl fun w17 s17 => ?_
              have r16 := s17.row
              have z17 := s17.size
              refine lg_nil ?_
              refine nx (E' := [(2, _), (4, _), (5, _), (8, _)]) (fk rfl (fk rfl (fk rfl (fk rfl fn)))) ?_
              refine cg_seq ?_
              refine cg_heldS (fun q => RowAt q b1 25 (l.cs L) ∧ IsPn q W.heap.size l L) (by kernel_rfl) (fun W18 eW18 => ?_) fun W18 eW18 => ?_
              · have dW18 := below_drew _ _ eW18
                have r1 := n16.keep r1
                have r1 := s17.keep r1 (by omega)
                have r1 := RowAt.below dW18 r1.lt r1
                have hl := hl.below (n16.below.mono (by omega))
                have hl := hl.set o17 rfl s17
                have hl := hl.below (dW18.mono (by omega))
                exact ⟨r1, hl⟩
              have dW18 := below_drew _ _ eW18
              have zW18 := size_drew _ _ eW18
              clear eW18
              have r1 := n16.keep r1
              have r1 := s17.keep r1 (by omega)
              have r1 := RowAt.below dW18 r1.lt r1
              have hl := hl.below (n16.below.mono (by omega))
              have hl := hl.set o17 rfl s17
              have hl := hl.below (dW18.mono (by omega))
              refine hgs_take 0 (by rfl) (want_none (by rfl)) (by rfl) rfl (by decide) (by kernel_rfl) (by kernel_rfl) (by kernel_rfl) (fun _ _ _ h => h) ⟨r1, hl⟩ (fun q hq => y_fld (off := 2) (by kernel_rfl) rfl rfl) ?_
              refine hgs_take 1 (by rfl) (want_none (by rfl)) (by rfl) rfl (by decide) (by kernel_rfl) (by kernel_rfl) (by kernel_rfl) (fun _ _ _ h => h) ⟨r1, hl⟩ (fun q hq => y_cellv (v := l.unm.v) hq.1 rfl (by kernel_rfl) rfl rfl) ?_
              refine hgs_take 2 (by rfl) (want_none (by rfl)) (by rfl) rfl (by decide) (by kernel_rfl) (by kernel_rfl) (by kernel_rfl) (fun _ _ _ h => h) ⟨r1, hl⟩ (fun q hq => y_ixT (i := 0) (iI := 0) hq.2.unm (by omega) (by omega) rfl rfl rfl) ?_
              refine hgs_take 3 (by rfl) (want_none (by rfl)) (by rfl) rfl (by decide) (by kernel_rfl) (by kernel_rfl) (by kernel_rfl) (fun _ _ _ h => h) ⟨r1, hl⟩ (fun q hq => y_ldT (i := 0) hq.2.unm (by omega) rfl rfl) ?_
              refine hgs_take 5 (by rfl) (want_none (by rfl)) (by rfl) rfl (by decide) (by kernel_rfl) (by kernel_rfl) (by kernel_rfl) (fun _ _ _ h => h) ⟨r1, hl⟩ (fun q hq => y_fld (off := 2) (by kernel_rfl) rfl rfl) ?_
              refine hgs_take 6 (by rfl) (want_none (by rfl)) (by rfl) rfl (by decide) (by kernel_rfl) (by kernel_rfl) (by kernel_rfl) (fun _ _ _ h => h) ⟨r1, hl⟩ (fun q hq => y_cellv (v := l.unm.v) hq.1 rfl (by kernel_rfl) rfl rfl) ?_
              refine hgs_one 4 (by rfl) (by kernel_rfl) (want_none (by rfl)) ?_
              refine lg_bsliceW (el := 3) (z := nv 0) (cs := #[nv (L.unm.getD 0 0)]) (want_none (by rfl)) huIs (by kernel_rfl) (by decide) (by decide) rfl rfl (by kernel_rfl) rfl (by decide) fun b19 w19 n19 => ?_
              have r19 := n19.row
              have k19 := n19.blk
              have z19 := n19.size
              have m19 : SlN w19 (b19 + 1) ⟨some ⟨b19, 0, none⟩, 1, 1⟩ [(L.unm.getD 0 0)] := new_SlN (xs := [(L.unm.getD 0 0)]) r19 rfl (of_decide_eq_true (by kernel_rfl))
              have og19 : w19.ownsRow b19 3 1 (.slice (some ⟨b19, 0, none⟩) 1 1) ([(L.unm.getD 0 0)] : List Int).length (([(L.unm.getD 0 0)] : List Int).map (Value.int .i64)) := new_ownN (xs := [(L.unm.getD 0 0)]) n19 rfl (of_decide_eq_true (by kernel_rfl))
              have r1 := n19.keep r1
              have hl := hl.below (n19.below.mono (by omega))
              refine hgs_next ⟨r1, hl⟩ ?_
              refine hgs_one 7 (by rfl) (by kernel_rfl) (want_none (by rfl)) ?_
              refine lg_appT og19 hl.unm (by first | omega | (simp only [List.length_cons, List.length_nil]; omega)) (by omega) (want_none (by rfl)) rfl rfl rfl rfl rfl (by decide) fun r20 w20 m20 g20 l20 z20 => ?_
              have r1 := RowAt.below l20 (by omega) r1
              have hl := hl.below (l20.mono (by omega))
              refine hgs_next ⟨r1, hl⟩ ?_
              refine hgs_take 8 (by rfl) (want_none (by rfl)) (by rfl) rfl (by decide) (by kernel_rfl) (by kernel_rfl) (by kernel_rfl) (fun _ _ _ h => h) ⟨r1, hl⟩ (fun q hq => y_fld (off := 2) (by kernel_rfl) rfl rfl) ?_
              refine hgs_one 9 (by rfl) (by kernel_rfl) (want_none (by rfl)) ?_
              have r16 := RowAt.below dW18 r16.lt r16
              have r16 := n19.keep r16
              have r16 := RowAt.below l20 (by omega) r16
              have o21 := r16
              refine lg_st1 (new := #[l.enc.v, l.hash.v, r20.v]) (want_none (by rfl)) r16 rfl rfl rfl (by kernel_rfl) rfl (show 2 < 3 by decide) rfl rfl fun w21 s21 => ?_
              have r16 := s21.row
              have z21 := s21.size
              have r1 := s21.keep r1 (by omega)
              have hl := hl.set o21 rfl s21
              refine hgs_next ⟨r1, hl⟩ ?_
              refine hgs_done (by kernel_rfl) ?_
              refine nx (E' := [(4, _), (5, _), (8, _)]) (fk rfl (fk rfl (fk rfl fn))) ?_
              refine cg_seq ?_
              refine cg_region ?_
              refine lsw (want_none (by rfl)) (y_move rfl rfl) rfl (by decide) ?_
              refine lsw (want_none (by rfl)) (y_move rfl rfl) rfl (by decide) ?_
              refine lsw (want_t (dj := 72) (by rfl) (by kernel_rfl) rfl) (y_loadA r16 (by kernel_rfl) (by kernel_rfl) rfl rfl) rfl (by decide) ?_
              have m20 := m20.set o21 rfl s21
              refine lg_callw (want_t (dj := 72) (by rfl) (by kernel_rfl) rfl) (check_any (show IsPn w21 w21.heap.size (⟨l.enc, l.hash, r20⟩ : PnV) (⟨L.enc, L.hash, (([(L.unm.getD 0 0)] : List Int) ++ L.unm)⟩ : Pn) from ⟨hl.enc.more (by omega), hl.hash.more (by omega), m20.more (by omega)⟩) (Nat.le_refl _)) (by kernel_rfl) rfl rfl rfl (by decide) ?_
              rintro _ w22 ⟨rfl, hw22⟩
              have zw22 := hw22.size
              refine lsw (want_t (dj := 72) (by rfl) (by kernel_rfl) rfl) (yb (decide_eq_true tw) (yi_eql rfl rfl rfl)) rfl (by decide) ?_
              refine lsw (want_none (by rfl)) (y_pick true rfl rfl rfl) rfl (by decide) ?_
              refine lsw (want_none (by rfl)) (y_move rfl rfl) rfl (by decide) ?_
              have r16 := RowAt.below hw22 r16.lt r16
              refine lsw (want_t (dj := 77) (by rfl) (by kernel_rfl) rfl) (y_loadA r16 (by kernel_rfl) (by kernel_rfl) rfl rfl) rfl (by decide) ?_
              have hl := hl.below (hw22.mono (by omega))
              have m20 := m20.below (hw22.mono (by omega))
              refine lg_callw (want_t (dj := 77) (by rfl) (by kernel_rfl) rfl) (putP_any ((Sl.nil _ 0).more (B' := w22.heap.size) (by omega)) (show IsPn w22 w22.heap.size (⟨l.enc, l.hash, r20⟩ : PnV) (⟨L.enc, L.hash, (([(L.unm.getD 0 0)] : List Int) ++ L.unm)⟩ : Pn) from ⟨hl.enc.more (by omega), hl.hash.more (by omega), m20.more (by omega)⟩) (Nat.le_refl _) (by first | omega | (simp only [List.length_nil]; omega))) (by kernel_rfl) rfl rfl rfl (by decide) ?_
              rintro _ w23 ⟨r23, rfl, m23, hw23⟩
              have zw23 := hw23.size
              rw [List.nil_append] at m23
              have lp23 := pnPut_le (⟨L.enc, L.hash, (([(L.unm.getD 0 0)] : List Int) ++ L.unm)⟩ : Pn)
              refine lsw (want_t (dj := 77) (by rfl) (by kernel_rfl) rfl) (y_lenS (el := 5) m23 (by kernel_rfl) rfl rfl) rfl (by decide) ?_
              refine lsw (want_t (dj := 77) (by rfl) (by kernel_rfl) rfl) (yb (decide_eq_true (show ((pnPut (⟨L.enc, L.hash, (([(L.unm.getD 0 0)] : List Int) ++ L.unm)⟩ : Pn)).length : Int) = 0 from (by rw [pnPut_no (by rw [tw]; decide)]; rfl))) (yi_eql rfl rfl rfl)) rfl (by decide) ?_
              refine lsw (want_none (by rfl)) (y_pick true rfl rfl rfl) rfl (by decide) ?_
              refine lsw (want_none (by rfl)) (y_assign rfl rfl) rfl (by decide) ?_
              refine lg_nil ?_
              refine nx (E' := [(4, _)]) (fk rfl fn) ?_
              refine cg_ret ?_
              have u := u.trans (n1.below.mono u.size)
              have u := u.trans (hw2.mono u.size)
              have u := u.trans (hw4.mono u.size)
              have u := u.trans (hw5.mono u.size)
              have u := u.trans (n7.below.mono u.size)
              have u := u.trans (s8.below _ (by omega))
              have u := u.trans (hw9.mono u.size)
              have u := u.trans (s10.below _ (by omega))
              have u := u.trans (hw13.mono u.size)
              have u := u.trans (n16.below.mono u.size)
              have u := u.trans (s17.below _ (by omega))
              have u := u.trans (dW18.mono u.size)
              have u := u.trans (n19.below.mono u.size)
              have u := u.trans (l20.mono (by omega))
              have u := u.trans (s21.below _ (by omega))
              have u := u.trans (hw22.mono u.size)
              have u := u.trans (hw23.mono u.size)
              exact eg_ret_tmp rfl rfl ⟨_, rfl, rfl, u⟩
        · have far : ¬ (0 ≤ i ∧ i < 64) := by omega
          refine lsw (want_t (dj := 27) (by rfl) (by kernel_rfl) rfl) (yb (decide_eq_false c12) (yi_lss rfl rfl rfl)) rfl (by decide) ?_
          refine lsw (want_none (by rfl)) (y_pick true rfl rfl rfl) rfl (by decide) ?_
          refine lsw (want_none (by rfl)) (y_assign rfl rfl) rfl (by decide) ?_
          refine lg_nil ?_
          refine nx (E' := [(2, _), (4, _), (5, _), (6, _), (7, _)]) (fk rfl (fk rfl (fk rfl (fk rfl (fk rfl fn))))) ?_
          refine cg_seq ?_
          refine cg_seq ?_
          refine cg_region ?_
          refine lsw (want_none (by rfl)) (y_loadA r7 (by kernel_rfl) (by kernel_rfl) rfl rfl) rfl (by decide) ?_
          have hl := hl.below (hw9.mono (by omega))
          have hl := hl.set o10 rfl s10
          have m9 := m9.set o10 rfl s10
          refine lg_callw (want_none (by rfl)) (check_any (show IsPn w10 w10.heap.size (⟨l.enc, l.hash, r9⟩ : PnV) (⟨L.enc, L.hash, (joinK L.unm i)⟩ : Pn) from ⟨hl.enc.more (by omega), hl.hash.more (by omega), m9.more (by omega)⟩) (Nat.le_refl _)) (by kernel_rfl) rfl rfl rfl (by decide) ?_
          rintro _ w24 ⟨rfl, hw24⟩
          have zw24 := hw24.size
          refine lsw (want_none (by rfl)) (yb (decide_eq_false (show ¬ ((pnCheck (⟨L.enc, L.hash, (joinK L.unm i)⟩ : Pn)) = 0) from (um_far0 c6 far))) (yi_eql rfl rfl rfl)) rfl (by decide) ?_
          refine lsw (want_none (by rfl)) (y_move rfl rfl) rfl (by decide) ?_
          refine lsw (want_none (by rfl)) (yb (b := (!(false == false))) (show (!(false == false)) = false from rfl) (y_bne (a := false) (b := false) hubo rfl rfl rfl)) rfl (by decide) ?_
          refine lsw (want_none (by rfl)) (y_move rfl rfl) rfl (by decide) ?_
          refine lsw (want_t (dj := 36) (by rfl) (by kernel_rfl) rfl) (y_move rfl rfl) rfl (by decide) ?_
          refine lsw (want_t (dj := 36) (by rfl) (by kernel_rfl) rfl) (y_bnot rfl rfl) rfl (by decide) ?_
          refine lsw (want_t (dj := 36) (by rfl) (by kernel_rfl) rfl) (y_move rfl rfl) rfl (by decide) ?_
          have r7 := RowAt.below hw24 r7.lt r7
          refine lsw (want_t (dj := 39) (by rfl) (by kernel_rfl) rfl) (y_loadA r7 (by kernel_rfl) (by kernel_rfl) rfl rfl) rfl (by decide) ?_
          have hl := hl.below (hw24.mono (by omega))
          have m9 := m9.below (hw24.mono (by omega))
          refine lg_callw (want_t (dj := 39) (by rfl) (by kernel_rfl) rfl) (check_any (show IsPn w24 w24.heap.size (⟨l.enc, l.hash, r9⟩ : PnV) (⟨L.enc, L.hash, (joinK L.unm i)⟩ : Pn) from ⟨hl.enc.more (by omega), hl.hash.more (by omega), m9.more (by omega)⟩) (Nat.le_refl _)) (by kernel_rfl) rfl rfl rfl (by decide) ?_
          rintro _ w25 ⟨rfl, hw25⟩
          have zw25 := hw25.size
          by_cases c26 : (pnCheck (⟨L.enc, L.hash, (joinK L.unm i)⟩ : Pn)) = 3
          · refine lsw (want_t (dj := 39) (by rfl) (by kernel_rfl) rfl) (yb (nd_f c26) (yi_neq rfl rfl rfl)) rfl (by decide) ?_
            refine lsw (want_t (dj := 36) (by rfl) (by kernel_rfl) rfl) (y_pick true rfl rfl rfl) rfl (by decide) ?_
            refine lsw (want_t (dj := 36) (by rfl) (by kernel_rfl) rfl) (y_move rfl rfl) rfl (by decide) ?_
            refine lsk (want_f (dj := 44) (by rfl) (by kernel_rfl) rfl) rfl (by decide) ?_
            refine lsk (want_f (dj := 44) (by rfl) (by kernel_rfl) rfl) rfl (by decide) ?_
            refine lsk (want_f (dj := 44) (by rfl) (by kernel_rfl) rfl) rfl (by decide) ?_
            refine lsw (want_t (dj := 36) (by rfl) (by kernel_rfl) rfl) (y_pick false rfl rfl rfl) rfl (by decide) ?_
            refine lsw (want_none (by rfl)) (y_pick false rfl rfl rfl) rfl (by decide) ?_
            refine lg_nil ?_
            refine nx (E' := [(2, _), (4, _), (5, _), (49, _)]) (fk rfl (fk rfl (fk rfl (fk rfl fn)))) ?_
            refine cg_cf rfl ?_
            refine cg_skip ?_
            refine nx (E' := [(2, _), (4, _), (5, _)]) (fk rfl (fk rfl (fk rfl fn))) ?_
            refine cg_seq ?_
            refine cg_seq ?_
            refine cg_region ?_
            refine lsw (want_none (by rfl)) (y_fld (off := 2) (by kernel_rfl) rfl rfl) rfl (by decide) ?_
            have r1 := RowAt.below hw9 r1.lt r1
            have r1 := s10.keep r1 (by omega)
            have r1 := RowAt.below hw24 r1.lt r1
            have r1 := RowAt.below hw25 r1.lt r1
            refine lsw (want_none (by rfl)) (y_cellv (v := l.unm.v) r1 rfl (by kernel_rfl) rfl rfl) rfl (by decide) ?_
            have hl := hl.below (hw25.mono (by omega))
            refine lsw (want_none (by rfl)) (y_lenM (el := 3) hl.unm.len (by kernel_rfl) rfl rfl) rfl (by decide) ?_
            by_cases c27 : (L.unm.length : Int) = 0
            · refine lsw (want_none (by rfl)) (yb (decide_eq_true c27) (yi_eql rfl rfl rfl)) rfl (by decide) ?_
              refine lsw (want_none (by rfl)) (y_move rfl rfl) rfl (by decide) ?_
              refine lsk (want_f (dj := 54) (by rfl) (by kernel_rfl) rfl) rfl (by decide) ?_
              refine lsk (want_f (dj := 54) (by rfl) (by kernel_rfl) rfl) rfl (by decide) ?_
              refine lsk (want_f (dj := 54) (by rfl) (by kernel_rfl) rfl) rfl (by decide) ?_
              refine lsk (want_f (dj := 54) (by rfl) (by kernel_rfl) rfl) rfl (by decide) ?_
              refine lsw (want_none (by rfl)) (y_pick true rfl rfl rfl) rfl (by decide) ?_
              refine lg_nil ?_
              refine nx (E' := [(2, _), (4, _), (5, _), (59, _)]) (fk rfl (fk rfl (fk rfl (fk rfl fn)))) ?_
              refine cg_ct rfl ?_
              refine cg_seq ?_
              refine cg_region ?_
              refine lsw (want_none (by rfl)) (y_move rfl rfl) rfl (by decide) ?_
              refine lsw (want_none (by rfl)) (y_assign rfl rfl) rfl (by decide) ?_
              refine lg_nil ?_
              refine nx (E' := [(2, _), (5, _), (4, _)]) (fk rfl (fk rfl (fk rfl fn))) ?_
              refine cg_ret ?_
              refine eg_seq_ret ?_
              have u := u.trans (n1.below.mono u.size)
              have u := u.trans (hw2.mono u.size)
              have u := u.trans (hw4.mono u.size)
              have u := u.trans (hw5.mono u.size)
              have u := u.trans (n7.below.mono u.size)
              have u := u.trans (s8.below _ (by omega))
              have u := u.trans (hw9.mono u.size)
              have u := u.trans (s10.below _ (by omega))
              have u := u.trans (hw24.mono u.size)
              have u := u.trans (hw25.mono u.size)
              exact eg_ret_tmp rfl rfl ⟨_, rfl, rfl, u⟩
            · refine lsw (want_none (by rfl)) (yb (decide_eq_false c27) (yi_eql rfl rfl rfl)) rfl (by decide) ?_
              refine lsw (want_none (by rfl)) (y_move rfl rfl) rfl (by decide) ?_
              refine lsw (want_t (dj := 54) (by rfl) (by kernel_rfl) rfl) (y_fld (off := 2) (by kernel_rfl) rfl rfl) rfl (by decide) ?_
              refine lsw (want_t (dj := 54) (by rfl) (by kernel_rfl) rfl) (y_cellv (v := l.unm.v) r1 rfl (by kernel_rfl) rfl rfl) rfl (by decide) ?_
              refine lsw (want_t (dj := 54) (by rfl) (by kernel_rfl) rfl) (y_lenM (el := 3) hl.unm.len (by kernel_rfl) rfl rfl) rfl (by decide) ?_
              by_cases c28 : 64 ≤ (L.unm.length : Int)
              · refine lsw (want_t (dj := 54) (by rfl) (by kernel_rfl) rfl) (yb (decide_eq_true c28) (yi_geq rfl rfl rfl)) rfl (by decide) ?_
                refine lsw (want_none (by rfl)) (y_pick false rfl rfl rfl) rfl (by decide) ?_
                refine lg_nil ?_
                refine nx (E' := [(2, _), (4, _), (5, _), (59, _)]) (fk rfl (fk rfl (fk rfl (fk rfl fn)))) ?_
                refine cg_ct rfl ?_
                refine cg_seq ?_
                refine cg_region ?_
                refine lsw (want_none (by rfl)) (y_move rfl rfl) rfl (by decide) ?_
                refine lsw (want_none (by rfl)) (y_assign rfl rfl) rfl (by decide) ?_
                refine lg_nil ?_
                refine nx (E' := [(2, _), (5, _), (4, _)]) (fk rfl (fk rfl (fk rfl fn))) ?_
                refine cg_ret ?_
                refine eg_seq_ret ?_
                have u := u.trans (n1.below.mono u.size)
                have u := u.trans (hw2.mono u.size)
                have u := u.trans (hw4.mono u.size)
                have u := u.trans (hw5.mono u.size)
                have u := u.trans (n7.below.mono u.size)
                have u := u.trans (s8.below _ (by omega))
                have u := u.trans (hw9.mono u.size)
                have u := u.trans (s10.below _ (by omega))
                have u := u.trans (hw24.mono u.size)
                have u := u.trans (hw25.mono u.size)
                exact eg_ret_tmp rfl rfl ⟨_, rfl, rfl, u⟩
              · have tw := um_twice c6 (by omega) (by omega)
                refine lsw (want_t (dj := 54) (by rfl) (by kernel_rfl) rfl) (yb (decide_eq_false c28) (yi_geq rfl rfl rfl)) rfl (by decide) ?_
                refine lsw (want_none (by rfl)) (y_pick false rfl rfl rfl) rfl (by decide) ?_
                refine lg_nil ?_
                refine nx (E' := [(2, _), (4, _), (5, _), (59, _)]) (fk rfl (fk rfl (fk rfl (fk rfl fn)))) ?_
                refine cg_cf rfl ?_
                refine cg_skip ?_
                refine nx (E' := [(2, _), (4, _), (5, _)]) (fk rfl (fk rfl (fk rfl fn))) ?_
                refine cg_seq ?_
                refine cg_region ?_
                refine lsw (want_none (by rfl)) (y_loadA r1 (by kernel_rfl) (by kernel_rfl) rfl rfl) rfl (by decide) ?_
                refine lg_allocw (cs := PnV.zero.cs Pn.zero) (want_none (by rfl)) rfl (by kernel_rfl) rfl (by decide) fun b29 w29 n29 => ?_
                have r29 := n29.row
                have k29 := n29.blk
                have z29 := n29.size
                have lt29 : b29 < w29.heap.size := by omega
                have o30 := r29
                refine lg_stw (want_none (by rfl)) r29 rfl rfl rfl (by kernel_rfl) (by kernel_rfl) rfl rfl fun w30 s30 => ?_
                have r29 := s30.row
                have z30 := s30.size
                refine lg_nil ?_
                refine nx (E' := [(2, _), (4, _), (5, _), (8, _)]) (fk rfl (fk rfl (fk rfl (fk rfl fn)))) ?_
                refine cg_seq ?_
                refine cg_heldS (fun q => RowAt q b1 25 (l.cs L) ∧ IsPn q W.heap.size l L) (by kernel_rfl) (fun W31 eW31 => ?_) fun W31 eW31 => ?_
                · have dW31 := below_drew _ _ eW31
                  have r1 := n29.keep r1
                  have r1 := s30.keep r1 (by omega)
                  have r1 := RowAt.below dW31 r1.lt r1
                  have hl := hl.below (n29.below.mono (by omega))
                  have hl := hl.set o30 rfl s30
                  have hl := hl.below (dW31.mono (by omega))
                  exact ⟨r1, hl⟩
                have dW31 := below_drew _ _ eW31
                have zW31 := size_drew _ _ eW31
                clear eW31
                have r1 := n29.keep r1
                have r1 := s30.keep r1 (by omega)
                have r1 := RowAt.below dW31 r1.lt r1
                have hl := hl.below (n29.below.mono (by omega))
                have hl := hl.set o30 rfl s30
                have hl := hl.below (dW31.mono (by omega))
                refine hgs_take 0 (by rfl) (want_none (by rfl)) (by rfl) rfl (by decide) (by kernel_rfl) (by kernel_rfl) (by kernel_rfl) (fun _ _ _ h => h) ⟨r1, hl⟩ (fun q hq => y_fld (off := 2) (by kernel_rfl) rfl rfl) ?_
                refine hgs_take 1 (by rfl) (want_none (by rfl)) (by rfl) rfl (by decide) (by kernel_rfl) (by kernel_rfl) (by kernel_rfl) (fun _ _ _ h => h) ⟨r1, hl⟩ (fun q hq => y_cellv (v := l.unm.v) hq.1 rfl (by kernel_rfl) rfl rfl) ?_
                refine hgs_take 2 (by rfl) (want_none (by rfl)) (by rfl) rfl (by decide) (by kernel_rfl) (by kernel_rfl) (by kernel_rfl) (fun _ _ _ h => h) ⟨r1, hl⟩ (fun q hq => y_ixT (i := 0) (iI := 0) hq.2.unm (by omega) (by omega) rfl rfl rfl) ?_
                refine hgs_take 3 (by rfl) (want_none (by rfl)) (by rfl) rfl (by decide) (by kernel_rfl) (by kernel_rfl) (by kernel_rfl) (fun _ _ _ h => h) ⟨r1, hl⟩ (fun q hq => y_ldT (i := 0) hq.2.unm (by omega) rfl rfl) ?_
                refine hgs_take 5 (by rfl) (want_none (by rfl)) (by rfl) rfl (by decide) (by kernel_rfl) (by kernel_rfl) (by kernel_rfl) (fun _ _ _ h => h) ⟨r1, hl⟩ (fun q hq => y_fld (off := 2) (by kernel_rfl) rfl rfl) ?_
                refine hgs_take 6 (by rfl) (want_none (by rfl)) (by rfl) rfl (by decide) (by kernel_rfl) (by kernel_rfl) (by kernel_rfl) (fun _ _ _ h => h) ⟨r1, hl⟩ (fun q hq => y_cellv (v := l.unm.v) hq.1 rfl (by kernel_rfl) rfl rfl) ?_
                refine hgs_one 4 (by rfl) (by kernel_rfl) (want_none (by rfl)) ?_
                refine lg_bsliceW (el := 3) (z := nv 0) (cs := #[nv (L.unm.getD 0 0)]) (want_none (by rfl)) huIs (by kernel_rfl) (by decide) (by decide) rfl rfl (by kernel_rfl) rfl (by decide) fun b32 w32 n32 => ?_
                have r32 := n32.row
                have k32 := n32.blk
                have z32 := n32.size
                have m32 : SlN w32 (b32 + 1) ⟨some ⟨b32, 0, none⟩, 1, 1⟩ [(L.unm.getD 0 0)] := new_SlN (xs := [(L.unm.getD 0 0)]) r32 rfl (of_decide_eq_true (by kernel_rfl))
                have og32 : w32.ownsRow b32 3 1 (.slice (some ⟨b32, 0, none⟩) 1 1) ([(L.unm.getD 0 0)] : List Int).length (([(L.unm.getD 0 0)] : List Int).map (Value.int .i64)) := new_ownN (xs := [(L.unm.getD 0 0)]) n32 rfl (of_decide_eq_true (by kernel_rfl))
                have r1 := n32.keep r1
                have hl := hl.below (n32.below.mono (by omega))
                refine hgs_next ⟨r1, hl⟩ ?_
                refine hgs_one 7 (by rfl) (by kernel_rfl) (want_none (by rfl)) ?_
                refine lg_appT og32 hl.unm (by first | omega | (simp only [List.length_cons, List.length_nil]; omega)) (by omega) (want_none (by rfl)) rfl rfl rfl rfl rfl (by decide) fun r33 w33 m33 g33 l33 z33 => ?_
                have r1 := RowAt.below l33 (by omega) r1
                have hl := hl.below (l33.mono (by omega))
                refine hgs_next ⟨r1, hl⟩ ?_
                refine hgs_take 8 (by rfl) (want_none (by rfl)) (by rfl) rfl (by decide) (by kernel_rfl) (by kernel_rfl) (by kernel_rfl) (fun _ _ _ h => h) ⟨r1, hl⟩ (fun q hq => y_fld (off := 2) (by kernel_rfl) rfl rfl) ?_
                refine hgs_one 9 (by rfl) (by kernel_rfl) (want_none (by rfl)) ?_
                have r29 := RowAt.below dW31 r29.lt r29
                have r29 := n32.keep r29
                have r29 := RowAt.below l33 (by omega) r29
                have o34 := r29
                refine lg_st1 (new := #[l.enc.v, l.hash.v, r33.v]) (want_none (by rfl)) r29 rfl rfl rfl (by kernel_rfl) rfl (show 2 < 3 by decide) rfl rfl fun w34 s34 => ?_
                have r29 := s34.row
                have z34 := s34.size
                have r1 := s34.keep r1 (by omega)
                have hl := hl.set o34 rfl s34
                refine hgs_next ⟨r1, hl⟩ ?_
                refine hgs_done (by kernel_rfl) ?_
                refine nx (E' := [(4, _), (5, _), (8, _)]) (fk rfl (fk rfl (fk rfl fn))) ?_
                refine cg_seq ?_
                refine cg_region ?_
                refine lsw (want_none (by rfl)) (y_move rfl rfl) rfl (by decide) ?_
                refine lsw (want_none (by rfl)) (y_move rfl rfl) rfl (by decide) ?_
                refine lsw (want_t (dj := 72) (by rfl) (by kernel_rfl) rfl) (y_loadA r29 (by kernel_rfl) (by kernel_rfl) rfl rfl) rfl (by decide) ?_
                have m33 := m33.set o34 rfl s34
                refine lg_callw (want_t (dj := 72) (by rfl) (by kernel_rfl) rfl) (check_any (show IsPn w34 w34.heap.size (⟨l.enc, l.hash, r33⟩ : PnV) (⟨L.enc, L.hash, (([(L.unm.getD 0 0)] : List Int) ++ L.unm)⟩ : Pn) from ⟨hl.enc.more (by omega), hl.hash.more (by omega), m33.more (by omega)⟩) (Nat.le_refl _)) (by kernel_rfl) rfl rfl rfl (by decide) ?_
                rintro _ w35 ⟨rfl, hw35⟩
                have zw35 := hw35.size
                refine lsw (want_t (dj := 72) (by rfl) (by kernel_rfl) rfl) (yb (decide_eq_true tw) (yi_eql rfl rfl rfl)) rfl (by decide) ?_
                refine lsw (want_none (by rfl)) (y_pick true rfl rfl rfl) rfl (by decide) ?_
                refine lsw (want_none (by rfl)) (y_move rfl rfl) rfl (by decide) ?_
                have r29 := RowAt.below hw35 r29.lt r29
                refine lsw (want_t (dj := 77) (by rfl) (by kernel_rfl) rfl) (y_loadA r29 (by kernel_rfl) (by kernel_rfl) rfl rfl) rfl (by decide) ?_
                have hl := hl.below (hw35.mono (by omega))
                have m33 := m33.below (hw35.mono (by omega))
                refine lg_callw (want_t (dj := 77) (by rfl) (by kernel_rfl) rfl) (putP_any ((Sl.nil _ 0).more (B' := w35.heap.size) (by omega)) (show IsPn w35 w35.heap.size (⟨l.enc, l.hash, r33⟩ : PnV) (⟨L.enc, L.hash, (([(L.unm.getD 0 0)] : List Int) ++ L.unm)⟩ : Pn) from ⟨hl.enc.more (by omega), hl.hash.more (by omega), m33.more (by omega)⟩) (Nat.le_refl _) (by first | omega | (simp only [List.length_nil]; omega))) (by kernel_rfl) rfl rfl rfl (by decide) ?_
                rintro _ w36 ⟨r36, rfl, m36, hw36⟩
                have zw36 := hw36.size
                rw [List.nil_append] at m36
                have lp36 := pnPut_le (⟨L.enc, L.hash, (([(L.unm.getD 0 0)] : List Int) ++ L.unm)⟩ : Pn)
                refine lsw (want_t (dj := 77) (by rfl) (by kernel_rfl) rfl) (y_lenS (el := 5) m36 (by kernel_rfl) rfl rfl) rfl (by decide) ?_
                refine lsw (want_t (dj := 77) (by rfl) (by kernel_rfl) rfl) (yb (decide_eq_true (show ((pnPut (⟨L.enc, L.hash, (([(L.unm.getD 0 0)] : List Int) ++ L.unm)⟩ : Pn)).length : Int) = 0 from (by rw [pnPut_no (by rw [tw]; decide)]; rfl))) (yi_eql rfl rfl rfl)) rfl (by decide) ?_
                refine lsw (want_none (by rfl)) (y_pick true rfl rfl rfl) rfl (by decide) ?_
                refine lsw (want_none (by rfl)) (y_assign rfl rfl) rfl (by decide) ?_
                refine lg_nil ?_
                refine nx (E' := [(4, _)]) (fk rfl fn) ?_
                refine cg_ret ?_
                have u := u.trans (n1.below.mono u.size)
                have u := u.trans (hw2.mono u.size)
                have u := u.trans (hw4.mono u.size)
                have u := u.trans (hw5.mono u.size)
                have u := u.trans (n7.below.mono u.size)
                have u := u.trans (s8.below _ (by omega))
                have u := u.trans (hw9.mono u.size)
                have u := u.trans (s10.below _ (by omega))
                have u := u.trans (hw24.mono u.size)
                have u := u.trans (hw25.mono u.size)
                have u := u.trans (n29.below.mono u.size)
                have u := u.trans (s30.below _ (by omega))
                have u := u.trans (dW31.mono u.size)
                have u := u.trans (n32.below.mono u.size)
                have u := u.trans (l33.mono (by omega))
                have u := u.trans (s34.below _ (by omega))
                have u := u.trans (hw35.mono u.size)
                have u := u.trans (hw36.mono u.size)
                exact eg_ret_tmp rfl rfl ⟨_, rfl, rfl, u⟩
          · refine lsw (want_t (dj := 39) (by rfl) (by kernel_rfl) rfl) (yb (nd_t c26) (yi_neq rfl rfl rfl)) rfl (by decide) ?_
            refine lsw (want_t (dj := 36) (by rfl) (by kernel_rfl) rfl) (y_pick true rfl rfl rfl) rfl (by decide) ?_
            refine lsw (want_t (dj := 36) (by rfl) (by kernel_rfl) rfl) (y_move rfl rfl) rfl (by decide) ?_
            have r7 := RowAt.below hw25 r7.lt r7
            refine lsw (want_t (dj := 44) (by rfl) (by kernel_rfl) rfl) (y_loadA r7 (by kernel_rfl) (by kernel_rfl) rfl rfl) rfl (by decide) ?_
            have hl := hl.below (hw25.mono (by omega))
            have m9 := m9.below (hw25.mono (by omega))
            refine lg_callw (want_t (dj := 44) (by rfl) (by kernel_rfl) rfl) (check_any (show IsPn w25 w25.heap.size (⟨l.enc, l.hash, r9⟩ : PnV) (⟨L.enc, L.hash, (joinK L.unm i)⟩ : Pn) from ⟨hl.enc.more (by omega), hl.hash.more (by omega), m9.more (by omega)⟩) (Nat.le_refl _)) (by kernel_rfl) rfl rfl rfl (by decide) ?_
            rintro _ w37 ⟨rfl, hw37⟩
            have zw37 := hw37.size
            refine lsw (want_t (dj := 44) (by rfl) (by kernel_rfl) rfl) (yb (nd_f (show (pnCheck (⟨L.enc, L.hash, (joinK L.unm i)⟩ : Pn)) = 4 from (um_far4 c6 far c26))) (yi_neq rfl rfl rfl)) rfl (by decide) ?_
            refine lsw (want_t (dj := 36) (by rfl) (by kernel_rfl) rfl) (y_pick true rfl rfl rfl) rfl (by decide) ?_
            refine lsw (want_none (by rfl)) (y_pick false rfl rfl rfl) rfl (by decide) ?_
            refine lg_nil ?_
            refine nx (E' := [(2, _), (4, _), (5, _), (49, _)]) (fk rfl (fk rfl (fk rfl (fk rfl fn)))) ?_
            refine cg_cf rfl ?_
            refine cg_skip ?_
            refine nx (E' := [(2, _), (4, _), (5, _)]) (fk rfl (fk rfl (fk rfl fn))) ?_
            refine cg_seq ?_
            refine cg_seq ?_
            refine cg_region ?_
            refine lsw (want_none (by rfl)) (y_fld (off := 2) (by kernel_rfl) rfl rfl) rfl (by decide) ?_
            have r1 := RowAt.below hw9 r1.lt r1
            have r1 := s10.keep r1 (by omega)
            have r1 := RowAt.below hw24 r1.lt r1
            have r1 := RowAt.below hw25 r1.lt r1
            have r1 := RowAt.below hw37 r1.lt r1
            refine lsw (want_none (by rfl)) (y_cellv (v := l.unm.v) r1 rfl (by kernel_rfl) rfl rfl) rfl (by decide) ?_
            have hl := hl.below (hw37.mono (by omega))
            refine lsw (want_none (by rfl)) (y_lenM (el := 3) hl.unm.len (by kernel_rfl) rfl rfl) rfl (by decide) ?_
            by_cases c38 : (L.unm.length : Int) = 0
            · refine lsw (want_none (by rfl)) (yb (decide_eq_true c38) (yi_eql rfl rfl rfl)) rfl (by decide) ?_
              refine lsw (want_none (by rfl)) (y_move rfl rfl) rfl (by decide) ?_
              refine lsk (want_f (dj := 54) (by rfl) (by kernel_rfl) rfl) rfl (by decide) ?_
              refine lsk (want_f (dj := 54) (by rfl) (by kernel_rfl) rfl) rfl (by decide) ?_
              refine lsk (want_f (dj := 54) (by rfl) (by kernel_rfl) rfl) rfl (by decide) ?_
              refine lsk (want_f (dj := 54) (by rfl) (by kernel_rfl) rfl) rfl (by decide) ?_
              refine lsw (want_none (by rfl)) (y_pick true rfl rfl rfl) rfl (by decide) ?_
              refine lg_nil ?_
              refine nx (E' := [(2, _), (4, _), (5, _), (59, _)]) (fk rfl (fk rfl (fk rfl (fk rfl fn)))) ?_
              refine cg_ct rfl ?_
              refine cg_seq ?_
              refine cg_region ?_
              refine lsw (want_none (by rfl)) (y_move rfl rfl) rfl (by decide) ?_
              refine lsw (want_none (by rfl)) (y_assign rfl rfl) rfl (by decide) ?_
              refine lg_nil ?_
              refine nx (E' := [(2, _), (5, _), (4, _)]) (fk rfl (fk rfl (fk rfl fn))) ?_
              refine cg_ret ?_
              refine eg_seq_ret ?_
              have u := u.trans (n1.below.mono u.size)
              have u := u.trans (hw2.mono u.size)
              have u := u.trans (hw4.mono u.size)
              have u := u.trans (hw5.mono u.size)
              have u := u.trans (n7.below.mono u.size)
              have u := u.trans (s8.below _ (by omega))
              have u := u.trans (hw9.mono u.size)
              have u := u.trans (s10.below _ (by omega))
              have u := u.trans (hw24.mono u.size)
              have u := u.trans (hw25.mono u.size)
              have u := u.trans (hw37.mono u.size)
              exact eg_ret_tmp rfl rfl ⟨_, rfl, rfl, u⟩
            · refine lsw (want_none (by rfl)) (yb (decide_eq_false c38) (yi_eql rfl rfl rfl)) rfl (by decide) ?_
              refine lsw (want_none (by rfl)) (y_move rfl rfl) rfl (by decide) ?_
              refine lsw (want_t (dj := 54) (by rfl) (by kernel_rfl) rfl) (y_fld (off := 2) (by kernel_rfl) rfl rfl) rfl (by decide) ?_
              refine lsw (want_t (dj := 54) (by rfl) (by kernel_rfl) rfl) (y_cellv (v := l.unm.v) r1 rfl (by kernel_rfl) rfl rfl) rfl (by decide) ?_
              refine lsw (want_t (dj := 54) (by rfl) (by kernel_rfl) rfl) (y_lenM (el := 3) hl.unm.len (by kernel_rfl) rfl rfl) rfl (by decide) ?_
              by_cases c39 : 64 ≤ (L.unm.length : Int)
              · refine lsw (want_t (dj := 54) (by rfl) (by kernel_rfl) rfl) (yb (decide_eq_true c39) (yi_geq rfl rfl rfl)) rfl (by decide) ?_
                refine lsw (want_none (by rfl)) (y_pick false rfl rfl rfl) rfl (by decide) ?_
                refine lg_nil ?_
                refine nx (E' := [(2, _), (4, _), (5, _), (59, _)]) (fk rfl (fk rfl (fk rfl (fk rfl fn)))) ?_
                refine cg_ct rfl ?_
                refine cg_seq ?_
                refine cg_region ?_
                refine lsw (want_none (by rfl)) (y_move rfl rfl) rfl (by decide) ?_
                refine lsw (want_none (by rfl)) (y_assign rfl rfl) rfl (by decide) ?_
                refine lg_nil ?_
                refine nx (E' := [(2, _), (5, _), (4, _)]) (fk rfl (fk rfl (fk rfl fn))) ?_
                refine cg_ret ?_
                refine eg_seq_ret ?_
                have u := u.trans (n1.below.mono u.size)
                have u := u.trans (hw2.mono u.size)
                have u := u.trans (hw4.mono u.size)
                have u := u.trans (hw5.mono u.size)
                have u := u.trans (n7.below.mono u.size)
                have u := u.trans (s8.below _ (by omega))
                have u := u.trans (hw9.mono u.size)
                have u := u.trans (s10.below _ (by omega))
                have u := u.trans (hw24.mono u.size)
                have u := u.trans (hw25.mono u.size)
                have u := u.trans (hw37.mono u.size)
                exact eg_ret_tmp rfl rfl ⟨_, rfl, rfl, u⟩
              · have tw := um_twice c6 (by omega) (by omega)
                refine lsw (want_t (dj := 54) (by rfl) (by kernel_rfl) rfl) (yb (decide_eq_false c39) (yi_geq rfl rfl rfl)) rfl (by decide) ?_
                refine lsw (want_none (by rfl)) (y_pick false rfl rfl rfl) rfl (by decide) ?_
                refine lg_nil ?_
                refine nx (E' := [(2, _), (4, _), (5, _), (59, _)]) (fk rfl (fk rfl (fk rfl (fk rfl fn)))) ?_
                refine cg_cf rfl ?_
                refine cg_skip ?_
                refine nx (E' := [(2, _), (4, _), (5, _)]) (fk rfl (fk rfl (fk rfl fn))) ?_
                refine cg_seq ?_
                refine cg_region ?_
                refine lsw (want_none (by rfl)) (y_loadA r1 (by kernel_rfl) (by kernel_rfl) rfl rfl) rfl (by decide) ?_
                refine lg_allocw (cs := PnV.zero.cs Pn.zero) (want_none (by rfl)) rfl (by kernel_rfl) rfl (by decide) fun b40 w40 n40 => ?_
                have r40 := n40.row
                have k40 := n40.blk
                have z40 := n40.size
                have lt40 : b40 < w40.heap.size := by omega
                have o41 := r40
                refine lg_stw (want_none (by rfl)) r40 rfl rfl rfl (by kernel_rfl) (by kernel_rfl) rfl rfl fun w41 s41 => ?_
                have r40 := s41.row
                have z41 := s41.size
                refine lg_nil ?_
                refine nx (E' := [(2, _), (4, _), (5, _), (8, _)]) (fk rfl (fk rfl (fk rfl (fk rfl fn)))) ?_
                refine cg_seq ?_
                refine cg_heldS (fun q => RowAt q b1 25 (l.cs L) ∧ IsPn q W.heap.size l L) (by kernel_rfl) (fun W42 eW42 => ?_) fun W42 eW42 => ?_
                · have dW42 := below_drew _ _ eW42
                  have r1 := n40.keep r1
                  have r1 := s41.keep r1 (by omega)
                  have r1 := RowAt.below dW42 r1.lt r1
                  have hl := hl.below (n40.below.mono (by omega))
                  have hl := hl.set o41 rfl s41
                  have hl := hl.below (dW42.mono (by omega))
                  exact ⟨r1, hl⟩
                have dW42 := below_drew _ _ eW42
                have zW42 := size_drew _ _ eW42
                clear eW42
                have r1 := n40.keep r1
                have r1 := s41.keep r1 (by omega)
                have r1 := RowAt.below dW42 r1.lt r1
                have hl := hl.below (n40.below.mono (by omega))
                have hl := hl.set o41 rfl s41
                have hl := hl.below (dW42.mono (by omega))
                refine hgs_take 0 (by rfl) (want_none (by rfl)) (by rfl) rfl (by decide) (by kernel_rfl) (by kernel_rfl) (by kernel_rfl) (fun _ _ _ h => h) ⟨r1, hl⟩ (fun q hq => y_fld (off := 2) (by kernel_rfl) rfl rfl) ?_
                refine hgs_take 1 (by rfl) (want_none (by rfl)) (by rfl) rfl (by decide) (by kernel_rfl) (by kernel_rfl) (by kernel_rfl) (fun _ _ _ h => h) ⟨r1, hl⟩ (fun q hq => y_cellv (v := l.unm.v) hq.1 rfl (by kernel_rfl) rfl rfl) ?_
                refine hgs_take 2 (by rfl) (want_none (by rfl)) (by rfl) rfl (by decide) (by kernel_rfl) (by kernel_rfl) (by kernel_rfl) (fun _ _ _ h => h) ⟨r1, hl⟩ (fun q hq => y_ixT (i := 0) (iI := 0) hq.2.unm (by omega) (by omega) rfl rfl rfl) ?_
                refine hgs_take 3 (by rfl) (want_none (by rfl)) (by rfl) rfl (by decide) (by kernel_rfl) (by kernel_rfl) (by kernel_rfl) (fun _ _ _ h => h) ⟨r1, hl⟩ (fun q hq => y_ldT (i := 0) hq.2.unm (by omega) rfl rfl) ?_
                refine hgs_take 5 (by rfl) (want_none (by rfl)) (by rfl) rfl (by decide) (by kernel_rfl) (by kernel_rfl) (by kernel_rfl) (fun _ _ _ h => h) ⟨r1, hl⟩ (fun q hq => y_fld (off := 2) (by kernel_rfl) rfl rfl) ?_
                refine hgs_take 6 (by rfl) (want_none (by rfl)) (by rfl) rfl (by decide) (by kernel_rfl) (by kernel_rfl) (by kernel_rfl) (fun _ _ _ h => h) ⟨r1, hl⟩ (fun q hq => y_cellv (v := l.unm.v) hq.1 rfl (by kernel_rfl) rfl rfl) ?_
                refine hgs_one 4 (by rfl) (by kernel_rfl) (want_none (by rfl)) ?_
                refine lg_bsliceW (el := 3) (z := nv 0) (cs := #[nv (L.unm.getD 0 0)]) (want_none (by rfl)) huIs (by kernel_rfl) (by decide) (by decide) rfl rfl (by kernel_rfl) rfl (by decide) fun b43 w43 n43 => ?_
                have r43 := n43.row
                have k43 := n43.blk
                have z43 := n43.size
                have m43 : SlN w43 (b43 + 1) ⟨some ⟨b43, 0, none⟩, 1, 1⟩ [(L.unm.getD 0 0)] := new_SlN (xs := [(L.unm.getD 0 0)]) r43 rfl (of_decide_eq_true (by kernel_rfl))
                have og43 : w43.ownsRow b43 3 1 (.slice (some ⟨b43, 0, none⟩) 1 1) ([(L.unm.getD 0 0)] : List Int).length (([(L.unm.getD 0 0)] : List Int).map (Value.int .i64)) := new_ownN (xs := [(L.unm.getD 0 0)]) n43 rfl (of_decide_eq_true (by kernel_rfl))
                have r1 := n43.keep r1
                have hl := hl.below (n43.below.mono (by omega))
                refine hgs_next ⟨r1, hl⟩ ?_
                refine hgs_one 7 (by rfl) (by kernel_rfl) (want_none (by rfl)) ?_
                refine lg_appT og43 hl.unm (by first | omega | (simp only [List.length_cons, List.length_nil]; omega)) (by omega) (want_none (by rfl)) rfl rfl rfl rfl rfl (by decide) fun r44 w44 m44 g44 l44 z44 => ?_
                have r1 := RowAt.below l44 (by omega) r1
                have hl := hl.below (l44.mono (by omega))
                refine hgs_next ⟨r1, hl⟩ ?_
                refine hgs_take 8 (by rfl) (want_none (by rfl)) (by rfl) rfl (by decide) (by kernel_rfl) (by kernel_rfl) (by kernel_rfl) (fun _ _ _ h => h) ⟨r1, hl⟩ (fun q hq => y_fld (off := 2) (by kernel_rfl) rfl rfl) ?_
                refine hgs_one 9 (by rfl) (by kernel_rfl) (want_none (by rfl)) ?_
                have r40 := RowAt.below dW42 r40.lt r40
                have r40 := n43.keep r40
                have r40 := RowAt.below l44 (by omega) r40
                have o45 := r40
                refine lg_st1 (new := #[l.enc.v, l.hash.v, r44.v]) (want_none (by rfl)) r40 rfl rfl rfl (by kernel_rfl) rfl (show 2 < 3 by decide) rfl rfl fun w45 s45 => ?_
                have r40 := s45.row
                have z45 := s45.size
                have r1 := s45.keep r1 (by omega)
                have hl := hl.set o45 rfl s45
                refine hgs_next ⟨r1, hl⟩ ?_
                refine hgs_done (by kernel_rfl) ?_
                refine nx (E' := [(4, _), (5, _), (8, _)]) (fk rfl (fk rfl (fk rfl fn))) ?_
                refine cg_seq ?_
                refine cg_region ?_
                refine lsw (want_none (by rfl)) (y_move rfl rfl) rfl (by decide) ?_
                refine lsw (want_none (by rfl)) (y_move rfl rfl) rfl (by decide) ?_
                refine lsw (want_t (dj := 72) (by rfl) (by kernel_rfl) rfl) (y_loadA r40 (by kernel_rfl) (by kernel_rfl) rfl rfl) rfl (by decide) ?_
                have m44 := m44.set o45 rfl s45
                refine lg_callw (want_t (dj := 72) (by rfl) (by kernel_rfl) rfl) (check_any (show IsPn w45 w45.heap.size (⟨l.enc, l.hash, r44⟩ : PnV) (⟨L.enc, L.hash, (([(L.unm.getD 0 0)] : List Int) ++ L.unm)⟩ : Pn) from ⟨hl.enc.more (by omega), hl.hash.more (by omega), m44.more (by omega)⟩) (Nat.le_refl _)) (by kernel_rfl) rfl rfl rfl (by decide) ?_
                rintro _ w46 ⟨rfl, hw46⟩
                have zw46 := hw46.size
                refine lsw (want_t (dj := 72) (by rfl) (by kernel_rfl) rfl) (yb (decide_eq_true tw) (yi_eql rfl rfl rfl)) rfl (by decide) ?_
                refine lsw (want_none (by rfl)) (y_pick true rfl rfl rfl) rfl (by decide) ?_
                refine lsw (want_none (by rfl)) (y_move rfl rfl) rfl (by decide) ?_
                have r40 := RowAt.below hw46 r40.lt r40
                refine lsw (want_t (dj := 77) (by rfl) (by kernel_rfl) rfl) (y_loadA r40 (by kernel_rfl) (by kernel_rfl) rfl rfl) rfl (by decide) ?_
                have hl := hl.below (hw46.mono (by omega))
                have m44 := m44.below (hw46.mono (by omega))
                refine lg_callw (want_t (dj := 77) (by rfl) (by kernel_rfl) rfl) (putP_any ((Sl.nil _ 0).more (B' := w46.heap.size) (by omega)) (show IsPn w46 w46.heap.size (⟨l.enc, l.hash, r44⟩ : PnV) (⟨L.enc, L.hash, (([(L.unm.getD 0 0)] : List Int) ++ L.unm)⟩ : Pn) from ⟨hl.enc.more (by omega), hl.hash.more (by omega), m44.more (by omega)⟩) (Nat.le_refl _) (by first | omega | (simp only [List.length_nil]; omega))) (by kernel_rfl) rfl rfl rfl (by decide) ?_
                rintro _ w47 ⟨r47, rfl, m47, hw47⟩
                have zw47 := hw47.size
                rw [List.nil_append] at m47
                have lp47 := pnPut_le (⟨L.enc, L.hash, (([(L.unm.getD 0 0)] : List Int) ++ L.unm)⟩ : Pn)
                refine lsw (want_t (dj := 77) (by rfl) (by kernel_rfl) rfl) (y_lenS (el := 5) m47 (by kernel_rfl) rfl rfl) rfl (by decide) ?_
                refine lsw (want_t (dj := 77) (by rfl) (by kernel_rfl) rfl) (yb (decide_eq_true (show ((pnPut (⟨L.enc, L.hash, (([(L.unm.getD 0 0)] : List Int) ++ L.unm)⟩ : Pn)).length : Int) = 0 from (by rw [pnPut_no (by rw [tw]; decide)]; rfl))) (yi_eql rfl rfl rfl)) rfl (by decide) ?_
                refine lsw (want_none (by rfl)) (y_pick true rfl rfl rfl) rfl (by decide) ?_
                refine lsw (want_none (by rfl)) (y_assign rfl rfl) rfl (by decide) ?_
                refine lg_nil ?_
                refine nx (E' := [(4, _)]) (fk rfl fn) ?_
                refine cg_ret ?_
                have u := u.trans (n1.below.mono u.size)
                have u := u.trans (hw2.mono u.size)
                have u := u.trans (hw4.mono u.size)
                have u := u.trans (hw5.mono u.size)
                have u := u.trans (n7.below.mono u.size)
                have u := u.trans (s8.below _ (by omega))
                have u := u.trans (hw9.mono u.size)
                have u := u.trans (s10.below _ (by omega))
                have u := u.trans (hw24.mono u.size)
                have u := u.trans (hw25.mono u.size)
                have u := u.trans (hw37.mono u.size)
                have u := u.trans (n40.below.mono u.size)
                have u := u.trans (s41.below _ (by omega))
                have u := u.trans (dW42.mono u.size)
                have u := u.trans (n43.below.mono u.size)
                have u := u.trans (l44.mono (by omega))
                have u := u.trans (s45.below _ (by omega))
                have u := u.trans (hw46.mono u.size)
                have u := u.trans (hw47.mono u.size)
                exact eg_ret_tmp rfl rfl ⟨_, rfl, rfl, u⟩
      · have far : ¬ (0 ≤ i ∧ i < 64) := by omega
        refine lsw (want_none (by rfl)) (yb (decide_eq_false c11) (yi_geq rfl rfl rfl)) rfl (by decide) ?_
        refine lsw (want_none (by rfl)) (y_move rfl rfl) rfl (by decide) ?_
        refine lsk (want_f (dj := 27) (by rfl) (by kernel_rfl) rfl) rfl (by decide) ?_
        refine lsk (want_f (dj := 27) (by rfl) (by kernel_rfl) rfl) rfl (by decide) ?_
        refine lsw (want_none (by rfl)) (y_pick false rfl rfl rfl) rfl (by decide) ?_
        refine lsw (want_none (by rfl)) (y_assign rfl rfl) rfl (by decide) ?_
        refine lg_nil ?_
        refine nx (E' := [(2, _), (4, _), (5, _), (6, _), (7, _)]) (fk rfl (fk rfl (fk rfl (fk rfl (fk rfl fn))))) ?_
        refine cg_seq ?_
        refine cg_seq ?_
        refine cg_region ?_
        refine lsw (want_none (by rfl)) (y_loadA r7 (by kernel_rfl) (by kernel_rfl) rfl rfl) rfl (by decide) ?_
        have hl := hl.below (hw9.mono (by omega))
        have hl := hl.set o10 rfl s10
        have m9 := m9.set o10 rfl s10
        refine lg_callw (want_none (by rfl)) (check_any (show IsPn w10 w10.heap.size (⟨l.enc, l.hash, r9⟩ : PnV) (⟨L.enc, L.hash, (joinK L.unm i)⟩ : Pn) from ⟨hl.enc.more (by omega), hl.hash.more (by omega), m9.more (by omega)⟩) (Nat.le_refl _)) (by kernel_rfl) rfl rfl rfl (by decide) ?_
        rintro _ w48 ⟨rfl, hw48⟩
        have zw48 := hw48.size
        refine lsw (want_none (by rfl)) (yb (decide_eq_false (show ¬ ((pnCheck (⟨L.enc, L.hash, (joinK L.unm i)⟩ : Pn)) = 0) from (um_far0 c6 far))) (yi_eql rfl rfl rfl)) rfl (by decide) ?_
        refine lsw (want_none (by rfl)) (y_move rfl rfl) rfl (by decide) ?_
        refine lsw (want_none (by rfl)) (yb (b := (!(false == false))) (show (!(false == false)) = false from rfl) (y_bne (a := false) (b := false) hubo rfl rfl rfl)) rfl (by decide) ?_
        refine lsw (want_none (by rfl)) (y_move rfl rfl) rfl (by decide) ?_
        refine lsw (want_t (dj := 36) (by rfl) (by kernel_rfl) rfl) (y_move rfl rfl) rfl (by decide) ?_
        refine lsw (want_t (dj := 36) (by rfl) (by kernel_rfl) rfl) (y_bnot rfl rfl) rfl (by decide) ?_
        refine lsw (want_t (dj := 36) (by rfl) (by kernel_rfl) rfl) (y_move rfl rfl) rfl (by decide) ?_
        have r7 := RowAt.below hw48 r7.lt r7
        refine lsw (want_t (dj := 39) (by rfl) (by kernel_rfl) rfl) (y_loadA r7 (by kernel_rfl) (by kernel_rfl) rfl rfl) rfl (by decide) ?_
        have hl := hl.below (hw48.mono (by omega))
        have m9 := m9.below (hw48.mono (by omega))
        refine lg_callw (want_t (dj := 39) (by rfl) (by kernel_rfl) rfl) (check_any (show IsPn w48 w48.heap.size (⟨l.enc, l.hash, r9⟩ : PnV) (⟨L.enc, L.hash, (joinK L.unm i)⟩ : Pn) from ⟨hl.enc.more (by omega), hl.hash.more (by omega), m9.more (by omega)⟩) (Nat.le_refl _)) (by kernel_rfl) rfl rfl rfl (by decide) ?_
        rintro _ w49 ⟨rfl, hw49⟩
        have zw49 := hw49.size
        by_cases c50 : (pnCheck (⟨L.enc, L.hash, (joinK L.unm i)⟩ : Pn)) = 3
        · refine lsw (want_t (dj := 39) (by rfl) (by kernel_rfl) rfl) (yb (nd_f c50) (yi_neq rfl rfl rfl)) rfl (by decide) ?_
          refine lsw (want_t (dj := 36) (by rfl) (by kernel_rfl) rfl) (y_pick true rfl rfl rfl) rfl (by decide) ?_
          refine lsw (want_t (dj := 36) (by rfl) (by kernel_rfl) rfl) (y_move rfl rfl) rfl (by decide) ?_
          refine lsk (want_f (dj := 44) (by rfl) (by kernel_rfl) rfl) rfl (by decide) ?_
          refine lsk (want_f (dj := 44) (by rfl) (by kernel_rfl) rfl) rfl (by decide) ?_
          refine lsk (want_f (dj := 44) (by rfl) (by kernel_rfl) rfl) rfl (by decide) ?_
          refine lsw (want_t (dj := 36) (by rfl) (by kernel_rfl) rfl) (y_pick false rfl rfl rfl) rfl (by decide) ?_
          refine lsw (want_none (by rfl)) (y_pick false rfl rfl rfl) rfl (by decide) ?_
          refine lg_nil ?_
          refine nx (E' := [(2, _), (4, _), (5, _), (49, _)]) (fk rfl (fk rfl (fk rfl (fk rfl fn)))) ?_
          refine cg_cf rfl ?_
          refine cg_skip ?_
          refine nx (E' := [(2, _), (4, _), (5, _)]) (fk rfl (fk rfl (fk rfl fn))) ?_
          refine cg_seq ?_
          refine cg_seq ?_
          refine cg_region ?_
          refine lsw (want_none (by rfl)) (y_fld (off := 2) (by kernel_rfl) rfl rfl) rfl (by decide) ?_
          have r1 := RowAt.below hw9 r1.lt r1
          have r1 := s10.keep r1 (by omega)
          have r1 := RowAt.below hw48 r1.lt r1
          have r1 := RowAt.below hw49 r1.lt r1
          refine lsw (want_none (by rfl)) (y_cellv (v := l.unm.v) r1 rfl (by kernel_rfl) rfl rfl) rfl (by decide) ?_
          have hl := hl.below (hw49.mono (by omega))
          refine lsw (want_none (by rfl)) (y_lenM (el := 3) hl.unm.len (by kernel_rfl) rfl rfl) rfl (by decide) ?_
          by_cases c51 : (L.unm.length : Int) = 0
          · refine lsw (want_none (by rfl)) (yb (decide_eq_true c51) (yi_eql rfl rfl rfl)) rfl (by decide) ?_
            refine lsw (want_none (by rfl)) (y_move rfl rfl) rfl (by decide) ?_
            refine lsk (want_f (dj := 54) (by rfl) (by kernel_rfl) rfl) rfl (by decide) ?_
            refine lsk (want_f (dj := 54) (by rfl) (by kernel_rfl) rfl) rfl (by decide) ?_
            refine lsk (want_f (dj := 54) (by rfl) (by kernel_rfl) rfl) rfl (by decide) ?_
            refine lsk (want_f (dj := 54) (by rfl) (by kernel_rfl) rfl) rfl (by decide) ?_
            refine lsw (want_none (by rfl)) (y_pick true rfl rfl rfl) rfl (by decide) ?_
            refine lg_nil ?_
            refine nx (E' := [(2, _), (4, _), (5, _), (59, _)]) (fk rfl (fk rfl (fk rfl (fk rfl fn)))) ?_
            refine cg_ct rfl ?_
            refine cg_seq ?_
            refine cg_region ?_
            refine lsw (want_none (by rfl)) (y_move rfl rfl) rfl (by decide) ?_
            refine lsw (want_none (by rfl)) (y_assign rfl rfl) rfl (by decide) ?_
            refine lg_nil ?_
            refine nx (E' := [(2, _), (5, _), (4, _)]) (fk rfl (fk rfl (fk rfl fn))) ?_
            refine cg_ret ?_
            refine eg_seq_ret ?_
            have u := u.trans (n1.below.mono u.size)
            have u := u.trans (hw2.mono u.size)
            have u := u.trans (hw4.mono u.size)
            have u := u.trans (hw5.mono u.size)
            have u := u.trans (n7.below.mono u.size)
            have u := u.trans (s8.below _ (by omega))
            have u := u.trans (hw9.mono u.size)
            have u := u.trans (s10.below _ (by omega))
            have u := u.trans (hw48.mono u.size)
            have u := u.trans (hw49.mono u.size)
            exact eg_ret_tmp rfl rfl ⟨_, rfl, rfl, u⟩
          · refine lsw (want_none (by rfl)) (yb (decide_eq_false c51) (yi_eql rfl rfl rfl)) rfl (by decide) ?_
            refine lsw (want_none (by rfl)) (y_move rfl rfl) rfl (by decide) ?_
            refine lsw (want_t (dj := 54) (by rfl) (by kernel_rfl) rfl) (y_fld (off := 2) (by kernel_rfl) rfl rfl) rfl (by decide) ?_
            refine lsw (want_t (dj := 54) (by rfl) (by kernel_rfl) rfl) (y_cellv (v := l.unm.v) r1 rfl (by kernel_rfl) rfl rfl) rfl (by decide) ?_
            refine lsw (want_t (dj := 54) (by rfl) (by kernel_rfl) rfl) (y_lenM (el := 3) hl.unm.len (by kernel_rfl) rfl rfl) rfl (by decide) ?_
            by_cases c52 : 64 ≤ (L.unm.length : Int)
            · refine lsw (want_t (dj := 54) (by rfl) (by kernel_rfl) rfl) (yb (decide_eq_true c52) (yi_geq rfl rfl rfl)) rfl (by decide) ?_
              refine lsw (want_none (by rfl)) (y_pick false rfl rfl rfl) rfl (by decide) ?_
              refine lg_nil ?_
              refine nx (E' := [(2, _), (4, _), (5, _), (59, _)]) (fk rfl (fk rfl (fk rfl (fk rfl fn)))) ?_
              refine cg_ct rfl ?_
              refine cg_seq ?_
              refine cg_region ?_
              refine lsw (want_none (by rfl)) (y_move rfl rfl) rfl (by decide) ?_
              refine lsw (want_none (by rfl)) (y_assign rfl rfl) rfl (by decide) ?_
              refine lg_nil ?_
              refine nx (E' := [(2, _), (5, _), (4, _)]) (fk rfl (fk rfl (fk rfl fn))) ?_
              refine cg_ret ?_
              refine eg_seq_ret ?_
              have u := u.trans (n1.below.mono u.size)
              have u := u.trans (hw2.mono u.size)
              have u := u.trans (hw4.mono u.size)
              have u := u.trans (hw5.mono u.size)
              have u := u.trans (n7.below.mono u.size)
              have u := u.trans (s8.below _ (by omega))
              have u := u.trans (hw9.mono u.size)
              have u := u.trans (s10.below _ (by omega))
              have u := u.trans (hw48.mono u.size)
              have u := u.trans (hw49.mono u.size)
              exact eg_ret_tmp rfl rfl ⟨_, rfl, rfl, u⟩
            · have tw := um_twice c6 (by omega) (by omega)
              refine lsw (want_t (dj := 54) (by rfl) (by kernel_rfl) rfl) (yb (decide_eq_false c52) (yi_geq rfl rfl rfl)) rfl (by decide) ?_
              refine lsw (want_none (by rfl)) (y_pick false rfl rfl rfl) rfl (by decide) ?_
              refine lg_nil ?_
              refine nx (E' := [(2, _), (4, _), (5, _), (59, _)]) (fk rfl (fk rfl (fk rfl (fk rfl fn)))) ?_
              refine cg_cf rfl ?_
              refine cg_skip ?_
              refine nx (E' := [(2, _), (4, _), (5, _)]) (fk rfl (fk rfl (fk rfl fn))) ?_
              refine cg_seq ?_
              refine cg_region ?_
              refine lsw (want_none (by rfl)) (y_loadA r1 (by kernel_rfl) (by kernel_rfl) rfl rfl) rfl (by decide) ?_
              refine lg_allocw (cs := PnV.zero.cs Pn.zero) (want_none (by rfl)) rfl (by kernel_rfl) rfl (by decide) fun b53 w53 n53 => ?_
              have r53 := n53.row
              have k53 := n53.blk
              have z53 := n53.size
              have lt53 : b53 < w53.heap.size := by omega
              have o54 := r53
              refine lg_stw (want_none (by rfl)) r53 rfl rfl rfl (by kernel_rfl) (by kernel_rfl) rfl rfl fun w54 s54 => ?_
              have r53 := s54.row
              have z54 := s54.size
              refine lg_nil ?_
              refine nx (E' := [(2, _), (4, _), (5, _), (8, _)]) (fk rfl (fk rfl (fk rfl (fk rfl fn)))) ?_
              refine cg_seq ?_
              refine cg_heldS (fun q => RowAt q b1 25 (l.cs L) ∧ IsPn q W.heap.size l L) (by kernel_rfl) (fun W55 eW55 => ?_) fun W55 eW55 => ?_
              · have dW55 := below_drew _ _ eW55
                have r1 := n53.keep r1
                have r1 := s54.keep r1 (by omega)
                have r1 := RowAt.below dW55 r1.lt r1
                have hl := hl.below (n53.below.mono (by omega))
                have hl := hl.set o54 rfl s54
                have hl := hl.below (dW55.mono (by omega))
                exact ⟨r1, hl⟩
              have dW55 := below_drew _ _ eW55
              have zW55 := size_drew _ _ eW55
              clear eW55
              have r1 := n53.keep r1
              have r1 := s54.keep r1 (by omega)
              have r1 := RowAt.below dW55 r1.lt r1
              have hl := hl.below (n53.below.mono (by omega))
              have hl := hl.set o54 rfl s54
              have hl := hl.below (dW55.mono (by omega))
              refine hgs_take 0 (by rfl) (want_none (by rfl)) (by rfl) rfl (by decide) (by kernel_rfl) (by kernel_rfl) (by kernel_rfl) (fun _ _ _ h => h) ⟨r1, hl⟩ (fun q hq => y_fld (off := 2) (by kernel_rfl) rfl rfl) ?_
              refine hgs_take 1 (by rfl) (want_none (by rfl)) (by rfl) rfl (by decide) (by kernel_rfl) (by kernel_rfl) (by kernel_rfl) (fun _ _ _ h => h) ⟨r1, hl⟩ (fun q hq => y_cellv (v := l.unm.v) hq.1 rfl (by kernel_rfl) rfl rfl) ?_
              refine hgs_take 2 (by rfl) (want_none (by rfl)) (by rfl) rfl (by decide) (by kernel_rfl) (by kernel_rfl) (by kernel_rfl) (fun _ _ _ h => h) ⟨r1, hl⟩ (fun q hq => y_ixT (i := 0) (iI := 0) hq.2.unm (by omega) (by omega) rfl rfl rfl) ?_
              refine hgs_take 3 (by rfl) (want_none (by rfl)) (by rfl) rfl (by decide) (by kernel_rfl) (by kernel_rfl) (by kernel_rfl) (fun _ _ _ h => h) ⟨r1, hl⟩ (fun q hq => y_ldT (i := 0) hq.2.unm (by omega) rfl rfl) ?_
              refine hgs_take 5 (by rfl) (want_none (by rfl)) (by rfl) rfl (by decide) (by kernel_rfl) (by kernel_rfl) (by kernel_rfl) (fun _ _ _ h => h) ⟨r1, hl⟩ (fun q hq => y_fld (off := 2) (by kernel_rfl) rfl rfl) ?_
              refine hgs_take 6 (by rfl) (want_none (by rfl)) (by rfl) rfl (by decide) (by kernel_rfl) (by kernel_rfl) (by kernel_rfl) (fun _ _ _ h => h) ⟨r1, hl⟩ (fun q hq => y_cellv (v := l.unm.v) hq.1 rfl (by kernel_rfl) rfl rfl) ?_
              refine hgs_one 4 (by rfl) (by kernel_rfl) (want_none (by rfl)) ?_
              refine lg_bsliceW (el := 3) (z := nv 0) (cs := #[nv (L.unm.getD 0 0)]) (want_none (by rfl)) huIs (by kernel_rfl) (by decide) (by decide) rfl rfl (by kernel_rfl) rfl (by decide) fun b56 w56 n56 => ?_
              have r56 := n56.row
              have k56 := n56.blk
              have z56 := n56.size
              have m56 : SlN w56 (b56 + 1) ⟨some ⟨b56, 0, none⟩, 1, 1⟩ [(L.unm.getD 0 0)] := new_SlN (xs := [(L.unm.getD 0 0)]) r56 rfl (of_decide_eq_true (by kernel_rfl))
              have og56 : w56.ownsRow b56 3 1 (.slice (some ⟨b56, 0, none⟩) 1 1) ([(L.unm.getD 0 0)] : List Int).length (([(L.unm.getD 0 0)] : List Int).map (Value.int .i64)) := new_ownN (xs := [(L.unm.getD 0 0)]) n56 rfl (of_decide_eq_true (by kernel_rfl))
              have r1 := n56.keep r1
              have hl := hl.below (n56.below.mono (by omega))
              refine hgs_next ⟨r1, hl⟩ ?_
              refine hgs_one 7 (by rfl) (by kernel_rfl) (want_none (by rfl)) ?_
              refine lg_appT og56 hl.unm (by first | omega | (simp only [List.length_cons, List.length_nil]; omega)) (by omega) (want_none (by rfl)) rfl rfl rfl rfl rfl (by decide) fun r57 w57 m57 g57 l57 z57 => ?_
              have r1 := RowAt.below l57 (by omega) r1
              have hl := hl.below (l57.mono (by omega))
              refine hgs_next ⟨r1, hl⟩ ?_
              refine hgs_take 8 (by rfl) (want_none (by rfl)) (by rfl) rfl (by decide) (by kernel_rfl) (by kernel_rfl) (by kernel_rfl) (fun _ _ _ h => h) ⟨r1, hl⟩ (fun q hq => y_fld (off := 2) (by kernel_rfl) rfl rfl) ?_
              refine hgs_one 9 (by rfl) (by kernel_rfl) (want_none (by rfl)) ?_
              have r53 := RowAt.below dW55 r53.lt r53
              have r53 := n56.keep r53
              have r53 := RowAt.below l57 (by omega) r53
              have o58 := r53
              refine lg_st1 (new := #[l.enc.v, l.hash.v, r57.v]) (want_none (by rfl)) r53 rfl rfl rfl (by kernel_rfl) rfl (show 2 < 3 by decide) rfl rfl fun w58 s58 => ?_
              have r53 := s58.row
              have z58 := s58.size
              have r1 := s58.keep r1 (by omega)
              have hl := hl.set o58 rfl s58
              refine hgs_next ⟨r1, hl⟩ ?_
              refine hgs_done (by kernel_rfl) ?_
              refine nx (E' := [(4, _), (5, _), (8, _)]) (fk rfl (fk rfl (fk rfl fn))) ?_
              refine cg_seq ?_
              refine cg_region ?_
              refine lsw (want_none (by rfl)) (y_move rfl rfl) rfl (by decide) ?_
              refine lsw (want_none (by rfl)) (y_move rfl rfl) rfl (by decide) ?_
              refine lsw (want_t (dj := 72) (by rfl) (by kernel_rfl) rfl) (y_loadA r53 (by kernel_rfl) (by kernel_rfl) rfl rfl) rfl (by decide) ?_
              have m57 := m57.set o58 rfl s58
              refine lg_callw (want_t (dj := 72) (by rfl) (by kernel_rfl) rfl) (check_any (show IsPn w58 w58.heap.size (⟨l.enc, l.hash, r57⟩ : PnV) (⟨L.enc, L.hash, (([(L.unm.getD 0 0)] : List Int) ++ L.unm)⟩ : Pn) from ⟨hl.enc.more (by omega), hl.hash.more (by omega), m57.more (by omega)⟩) (Nat.le_refl _)) (by kernel_rfl) rfl rfl rfl (by decide) ?_
              rintro _ w59 ⟨rfl, hw59⟩
              have zw59 := hw59.size
              refine lsw (want_t (dj := 72) (by rfl) (by kernel_rfl) rfl) (yb (decide_eq_true tw) (yi_eql rfl rfl rfl)) rfl (by decide) ?_
              refine lsw (want_none (by rfl)) (y_pick true rfl rfl rfl) rfl (by decide) ?_
              refine lsw (want_none (by rfl)) (y_move rfl rfl) rfl (by decide) ?_
              have r53 := RowAt.below hw59 r53.lt r53
              refine lsw (want_t (dj := 77) (by rfl) (by kernel_rfl) rfl) (y_loadA r53 (by kernel_rfl) (by kernel_rfl) rfl rfl) rfl (by decide) ?_
              have hl := hl.below (hw59.mono (by omega))
              have m57 := m57.below (hw59.mono (by omega))
              refine lg_callw (want_t (dj := 77) (by rfl) (by kernel_rfl) rfl) (putP_any ((Sl.nil _ 0).more (B' := w59.heap.size) (by omega)) (show IsPn w59 w59.heap.size (⟨l.enc, l.hash, r57⟩ : PnV) (⟨L.enc, L.hash, (([(L.unm.getD 0 0)] : List Int) ++ L.unm)⟩ : Pn) from ⟨hl.enc.more (by omega), hl.hash.more (by omega), m57.more (by omega)⟩) (Nat.le_refl _) (by first | omega | (simp only [List.length_nil]; omega))) (by kernel_rfl) rfl rfl rfl (by decide) ?_
              rintro _ w60 ⟨r60, rfl, m60, hw60⟩
              have zw60 := hw60.size
              rw [List.nil_append] at m60
              have lp60 := pnPut_le (⟨L.enc, L.hash, (([(L.unm.getD 0 0)] : List Int) ++ L.unm)⟩ : Pn)
              refine lsw (want_t (dj := 77) (by rfl) (by kernel_rfl) rfl) (y_lenS (el := 5) m60 (by kernel_rfl) rfl rfl) rfl (by decide) ?_
              refine lsw (want_t (dj := 77) (by rfl) (by kernel_rfl) rfl) (yb (decide_eq_true (show ((pnPut (⟨L.enc, L.hash, (([(L.unm.getD 0 0)] : List Int) ++ L.unm)⟩ : Pn)).length : Int) = 0 from (by rw [pnPut_no (by rw [tw]; decide)]; rfl))) (yi_eql rfl rfl rfl)) rfl (by decide) ?_
              refine lsw (want_none (by rfl)) (y_pick true rfl rfl rfl) rfl (by decide) ?_
              refine lsw (want_none (by rfl)) (y_assign rfl rfl) rfl (by decide) ?_
              refine lg_nil ?_
              refine nx (E' := [(4, _)]) (fk rfl fn) ?_
              refine cg_ret ?_
              have u := u.trans (n1.below.mono u.size)
              have u := u.trans (hw2.mono u.size)
              have u := u.trans (hw4.mono u.size)
              have u := u.trans (hw5.mono u.size)
              have u := u.trans (n7.below.mono u.size)
              have u := u.trans (s8.below _ (by omega))
              have u := u.trans (hw9.mono u.size)
              have u := u.trans (s10.below _ (by omega))
              have u := u.trans (hw48.mono u.size)
              have u := u.trans (hw49.mono u.size)
              have u := u.trans (n53.below.mono u.size)
              have u := u.trans (s54.below _ (by omega))
              have u := u.trans (dW55.mono u.size)
              have u := u.trans (n56.below.mono u.size)
              have u := u.trans (l57.mono (by omega))
              have u := u.trans (s58.below _ (by omega))
              have u := u.trans (hw59.mono u.size)
              have u := u.trans (hw60.mono u.size)
              exact eg_ret_tmp rfl rfl ⟨_, rfl, rfl, u⟩
        · refine lsw (want_t (dj := 39) (by rfl) (by kernel_rfl) rfl) (yb (nd_t c50) (yi_neq rfl rfl rfl)) rfl (by decide) ?_
          refine lsw (want_t (dj := 36) (by rfl) (by kernel_rfl) rfl) (y_pick true rfl rfl rfl) rfl (by decide) ?_
          refine lsw (want_t (dj := 36) (by rfl) (by kernel_rfl) rfl) (y_move rfl rfl) rfl (by decide) ?_
          have r7 := RowAt.below hw49 r7.lt r7
          refine lsw (want_t (dj := 44) (by rfl) (by kernel_rfl) rfl) (y_loadA r7 (by kernel_rfl) (by kernel_rfl) rfl rfl) rfl (by decide) ?_
          have hl := hl.below (hw49.mono (by omega))
          have m9 := m9.below (hw49.mono (by omega))
          refine lg_callw (want_t (dj := 44) (by rfl) (by kernel_rfl) rfl) (check_any (show IsPn w49 w49.heap.size (⟨l.enc, l.hash, r9⟩ : PnV) (⟨L.enc, L.hash, (joinK L.unm i)⟩ : Pn) from ⟨hl.enc.more (by omega), hl.hash.more (by omega), m9.more (by omega)⟩) (Nat.le_refl _)) (by kernel_rfl) rfl rfl rfl (by decide) ?_
          rintro _ w61 ⟨rfl, hw61⟩
          have zw61 := hw61.size
          refine lsw (want_t (dj := 44) (by rfl) (by kernel_rfl) rfl) (yb (nd_f (show (pnCheck (⟨L.enc, L.hash, (joinK L.unm i)⟩ : Pn)) = 4 from (um_far4 c6 far c50))) (yi_neq rfl rfl rfl)) rfl (by decide) ?_
          refine lsw (want_t (dj := 36) (by rfl) (by kernel_rfl) rfl) (y_pick true rfl rfl rfl) rfl (by decide) ?_
          refine lsw (want_none (by rfl)) (y_pick false rfl rfl rfl) rfl (by decide) ?_
          refine lg_nil ?_
          refine nx (E' := [(2, _), (4, _), (5, _), (49, _)]) (fk rfl (fk rfl (fk rfl (fk rfl fn)))) ?_
          refine cg_cf rfl ?_
          refine cg_skip ?_
          refine nx (E' := [(2, _), (4, _), (5, _)]) (fk rfl (fk rfl (fk rfl fn))) ?_
          refine cg_seq ?_
          refine cg_seq ?_
          refine cg_region ?_
          refine lsw (want_none (by rfl)) (y_fld (off := 2) (by kernel_rfl) rfl rfl) rfl (by decide) ?_
          have r1 := RowAt.below hw9 r1.lt r1
          have r1 := s10.keep r1 (by omega)
          have r1 := RowAt.below hw48 r1.lt r1
          have r1 := RowAt.below hw49 r1.lt r1
          have r1 := RowAt.below hw61 r1.lt r1
          refine lsw (want_none (by rfl)) (y_cellv (v := l.unm.v) r1 rfl (by kernel_rfl) rfl rfl) rfl (by decide) ?_
          have hl := hl.below (hw61.mono (by omega))
          refine lsw (want_none (by rfl)) (y_lenM (el := 3) hl.unm.len (by kernel_rfl) rfl rfl) rfl (by decide) ?_
          by_cases c62 : (L.unm.length : Int) = 0
          · refine lsw (want_none (by rfl)) (yb (decide_eq_true c62) (yi_eql rfl rfl rfl)) rfl (by decide) ?_
            refine lsw (want_none (by rfl)) (y_move rfl rfl) rfl (by decide) ?_
            refine lsk (want_f (dj := 54) (by rfl) (by kernel_rfl) rfl) rfl (by decide) ?_
            refine lsk (want_f (dj := 54) (by rfl) (by kernel_rfl) rfl) rfl (by decide) ?_
            refine lsk (want_f (dj := 54) (by rfl) (by kernel_rfl) rfl) rfl (by decide) ?_
            refine lsk (want_f (dj := 54) (by rfl) (by kernel_rfl) rfl) rfl (by decide) ?_
            refine lsw (want_none (by rfl)) (y_pick true rfl rfl rfl) rfl (by decide) ?_
            refine lg_nil ?_
            refine nx (E' := [(2, _), (4, _), (5, _), (59, _)]) (fk rfl (fk rfl (fk rfl (fk rfl fn)))) ?_
            refine cg_ct rfl ?_
            refine cg_seq ?_
            refine cg_region ?_
            refine lsw (want_none (by rfl)) (y_move rfl rfl) rfl (by decide) ?_
            refine lsw (want_none (by rfl)) (y_assign rfl rfl) rfl (by decide) ?_
            refine lg_nil ?_
            refine nx (E' := [(2, _), (5, _), (4, _)]) (fk rfl (fk rfl (fk rfl fn))) ?_
            refine cg_ret ?_
            refine eg_seq_ret ?_
            have u := u.trans (n1.below.mono u.size)
            have u := u.trans (hw2.mono u.size)
            have u := u.trans (hw4.mono u.size)
            have u := u.trans (hw5.mono u.size)
            have u := u.trans (n7.below.mono u.size)
            have u := u.trans (s8.below _ (by omega))
            have u := u.trans (hw9.mono u.size)
            have u := u.trans (s10.below _ (by omega))
            have u := u.trans (hw48.mono u.size)
            have u := u.trans (hw49.mono u.size)
            have u := u.trans (hw61.mono u.size)
            exact eg_ret_tmp rfl rfl ⟨_, rfl, rfl, u⟩
          · refine lsw (want_none (by rfl)) (yb (decide_eq_false c62) (yi_eql rfl rfl rfl)) rfl (by decide) ?_
            refine lsw (want_none (by rfl)) (y_move rfl rfl) rfl (by decide) ?_
            refine lsw (want_t (dj := 54) (by rfl) (by kernel_rfl) rfl) (y_fld (off := 2) (by kernel_rfl) rfl rfl) rfl (by decide) ?_
            refine lsw (want_t (dj := 54) (by rfl) (by kernel_rfl) rfl) (y_cellv (v := l.unm.v) r1 rfl (by kernel_rfl) rfl rfl) rfl (by decide) ?_
            refine lsw (want_t (dj := 54) (by rfl) (by kernel_rfl) rfl) (y_lenM (el := 3) hl.unm.len (by kernel_rfl) rfl rfl) rfl (by decide) ?_
            by_cases c63 : 64 ≤ (L.unm.length : Int)
            · refine lsw (want_t (dj := 54) (by rfl) (by kernel_rfl) rfl) (yb (decide_eq_true c63) (yi_geq rfl rfl rfl)) rfl (by decide) ?_
              refine lsw (want_none (by rfl)) (y_pick false rfl rfl rfl) rfl (by decide) ?_
              refine lg_nil ?_
              refine nx (E' := [(2, _), (4, _), (5, _), (59, _)]) (fk rfl (fk rfl (fk rfl (fk rfl fn)))) ?_
              refine cg_ct rfl ?_
              refine cg_seq ?_
              refine cg_region ?_
              refine lsw (want_none (by rfl)) (y_move rfl rfl) rfl (by decide) ?_
              refine lsw (want_none (by rfl)) (y_assign rfl rfl) rfl (by decide) ?_
              refine lg_nil ?_
              refine nx (E' := [(2, _), (5, _), (4, _)]) (fk rfl (fk rfl (fk rfl fn))) ?_
              refine cg_ret ?_
              refine eg_seq_ret ?_
              have u := u.trans (n1.below.mono u.size)
              have u := u.trans (hw2.mono u.size)
              have u := u.trans (hw4.mono u.size)
              have u := u.trans (hw5.mono u.size)
              have u := u.trans (n7.below.mono u.size)
              have u := u.trans (s8.below _ (by omega))
              have u := u.trans (hw9.mono u.size)
              have u := u.trans (s10.below _ (by omega))
              have u := u.trans (hw48.mono u.size)
              have u := u.trans (hw49.mono u.size)
              have u := u.trans (hw61.mono u.size)
              exact eg_ret_tmp rfl rfl ⟨_, rfl, rfl, u⟩
            · have tw := um_twice c6 (by omega) (by omega)
              refine lsw (want_t (dj := 54) (by rfl) (by kernel_rfl) rfl) (yb (decide_eq_false c63) (yi_geq rfl rfl rfl)) rfl (by decide) ?_
              refine lsw (want_none (by rfl)) (y_pick false rfl rfl rfl) rfl (by decide) ?_
              refine lg_nil ?_
              refine nx (E' := [(2, _), (4, _), (5, _), (59, _)]) (fk rfl (fk rfl (fk rfl (fk rfl fn)))) ?_
              refine cg_cf rfl ?_
              refine cg_skip ?_
              refine nx (E' := [(2, _), (4, _), (5, _)]) (fk rfl (fk rfl (fk rfl fn))) ?_
              refine cg_seq ?_
              refine cg_region ?_
              refine lsw (want_none (by rfl)) (y_loadA r1 (by kernel_rfl) (by kernel_rfl) rfl rfl) rfl (by decide) ?_
              refine lg_allocw (cs := PnV.zero.cs Pn.zero) (want_none (by rfl)) rfl (by kernel_rfl) rfl (by decide) fun b64 w64 n64 => ?_
              have r64 := n64.row
              have k64 := n64.blk
              have z64 := n64.size
              have lt64 : b64 < w64.heap.size := by omega
              have o65 := r64
              refine lg_stw (want_none (by rfl)) r64 rfl rfl rfl (by kernel_rfl) (by kernel_rfl) rfl rfl fun w65 s65 => ?_
              have r64 := s65.row
              have z65 := s65.size
              refine lg_nil ?_
              refine nx (E' := [(2, _), (4, _), (5, _), (8, _)]) (fk rfl (fk rfl (fk rfl (fk rfl fn)))) ?_
              refine cg_seq ?_
              refine cg_heldS (fun q => RowAt q b1 25 (l.cs L) ∧ IsPn q W.heap.size l L) (by kernel_rfl) (fun W66 eW66 => ?_) fun W66 eW66 => ?_
              · have dW66 := below_drew _ _ eW66
                have r1 := n64.keep r1
                have r1 := s65.keep r1 (by omega)
                have r1 := RowAt.below dW66 r1.lt r1
                have hl := hl.below (n64.below.mono (by omega))
                have hl := hl.set o65 rfl s65
                have hl := hl.below (dW66.mono (by omega))
                exact ⟨r1, hl⟩
              have dW66 := below_drew _ _ eW66
              have zW66 := size_drew _ _ eW66
              clear eW66
              have r1 := n64.keep r1
              have r1 := s65.keep r1 (by omega)
              have r1 := RowAt.below dW66 r1.lt r1
              have hl := hl.below (n64.below.mono (by omega))
              have hl := hl.set o65 rfl s65
              have hl := hl.below (dW66.mono (by omega))
              refine hgs_take 0 (by rfl) (want_none (by rfl)) (by rfl) rfl (by decide) (by kernel_rfl) (by kernel_rfl) (by kernel_rfl) (fun _ _ _ h => h) ⟨r1, hl⟩ (fun q hq => y_fld (off := 2) (by kernel_rfl) rfl rfl) ?_
              refine hgs_take 1 (by rfl) (want_none (by rfl)) (by rfl) rfl (by decide) (by kernel_rfl) (by kernel_rfl) (by kernel_rfl) (fun _ _ _ h => h) ⟨r1, hl⟩ (fun q hq => y_cellv (v := l.unm.v) hq.1 rfl (by kernel_rfl) rfl rfl) ?_
              refine hgs_take 2 (by rfl) (want_none (by rfl)) (by rfl) rfl (by decide) (by kernel_rfl) (by kernel_rfl) (by kernel_rfl) (fun _ _ _ h => h) ⟨r1, hl⟩ (fun q hq => y_ixT (i := 0) (iI := 0) hq.2.unm (by omega) (by omega) rfl rfl rfl) ?_
              refine hgs_take 3 (by rfl) (want_none (by rfl)) (by rfl) rfl (by decide) (by kernel_rfl) (by kernel_rfl) (by kernel_rfl) (fun _ _ _ h => h) ⟨r1, hl⟩ (fun q hq => y_ldT (i := 0) hq.2.unm (by omega) rfl rfl) ?_
              refine hgs_take 5 (by rfl) (want_none (by rfl)) (by rfl) rfl (by decide) (by kernel_rfl) (by kernel_rfl) (by kernel_rfl) (fun _ _ _ h => h) ⟨r1, hl⟩ (fun q hq => y_fld (off := 2) (by kernel_rfl) rfl rfl) ?_
              refine hgs_take 6 (by rfl) (want_none (by rfl)) (by rfl) rfl (by decide) (by kernel_rfl) (by kernel_rfl) (by kernel_rfl) (fun _ _ _ h => h) ⟨r1, hl⟩ (fun q hq => y_cellv (v := l.unm.v) hq.1 rfl (by kernel_rfl) rfl rfl) ?_
              refine hgs_one 4 (by rfl) (by kernel_rfl) (want_none (by rfl)) ?_
              refine lg_bsliceW (el := 3) (z := nv 0) (cs := #[nv (L.unm.getD 0 0)]) (want_none (by rfl)) huIs (by kernel_rfl) (by decide) (by decide) rfl rfl (by kernel_rfl) rfl (by decide) fun b67 w67 n67 => ?_
              have r67 := n67.row
              have k67 := n67.blk
              have z67 := n67.size
              have m67 : SlN w67 (b67 + 1) ⟨some ⟨b67, 0, none⟩, 1, 1⟩ [(L.unm.getD 0 0)] := new_SlN (xs := [(L.unm.getD 0 0)]) r67 rfl (of_decide_eq_true (by kernel_rfl))
              have og67 : w67.ownsRow b67 3 1 (.slice (some ⟨b67, 0, none⟩) 1 1) ([(L.unm.getD 0 0)] : List Int).length (([(L.unm.getD 0 0)] : List Int).map (Value.int .i64)) := new_ownN (xs := [(L.unm.getD 0 0)]) n67 rfl (of_decide_eq_true (by kernel_rfl))
              have r1 := n67.keep r1
              have hl := hl.below (n67.below.mono (by omega))
              refine hgs_next ⟨r1, hl⟩ ?_
              refine hgs_one 7 (by rfl) (by kernel_rfl) (want_none (by rfl)) ?_
              refine lg_appT og67 hl.unm (by first | omega | (simp only [List.length_cons, List.length_nil]; omega)) (by omega) (want_none (by rfl)) rfl rfl rfl rfl rfl (by decide) fun r68 w68 m68 g68 l68 z68 => ?_
              have r1 := RowAt.below l68 (by omega) r1
              have hl := hl.below (l68.mono (by omega))
              refine hgs_next ⟨r1, hl⟩ ?_
              refine hgs_take 8 (by rfl) (want_none (by rfl)) (by rfl) rfl (by decide) (by kernel_rfl) (by kernel_rfl) (by kernel_rfl) (fun _ _ _ h => h) ⟨r1, hl⟩ (fun q hq => y_fld (off := 2) (by kernel_rfl) rfl rfl) ?_
              refine hgs_one 9 (by rfl) (by kernel_rfl) (want_none (by rfl)) ?_
              have r64 := RowAt.below dW66 r64.lt r64
              have r64 := n67.keep r64
              have r64 := RowAt.below l68 (by omega) r64
              have o69 := r64
              refine lg_st1 (new := #[l.enc.v, l.hash.v, r68.v]) (want_none (by rfl)) r64 rfl rfl rfl (by kernel_rfl) rfl (show 2 < 3 by decide) rfl rfl fun w69 s69 => ?_
              have r64 := s69.row
              have z69 := s69.size
              have r1 := s69.keep r1 (by omega)
              have hl := hl.set o69 rfl s69
              refine hgs_next ⟨r1, hl⟩ ?_
              refine hgs_done (by kernel_rfl) ?_
              refine nx (E' := [(4, _), (5, _), (8, _)]) (fk rfl (fk rfl (fk rfl fn))) ?_
              refine cg_seq ?_
              refine cg_region ?_
              refine lsw (want_none (by rfl)) (y_move rfl rfl) rfl (by decide) ?_
              refine lsw (want_none (by rfl)) (y_move rfl rfl) rfl (by decide) ?_
              refine lsw (want_t (dj := 72) (by rfl) (by kernel_rfl) rfl) (y_loadA r64 (by kernel_rfl) (by kernel_rfl) rfl rfl) rfl (by decide) ?_
              have m68 := m68.set o69 rfl s69
              refine lg_callw (want_t (dj := 72) (by rfl) (by kernel_rfl) rfl) (check_any (show IsPn w69 w69.heap.size (⟨l.enc, l.hash, r68⟩ : PnV) (⟨L.enc, L.hash, (([(L.unm.getD 0 0)] : List Int) ++ L.unm)⟩ : Pn) from ⟨hl.enc.more (by omega), hl.hash.more (by omega), m68.more (by omega)⟩) (Nat.le_refl _)) (by kernel_rfl) rfl rfl rfl (by decide) ?_
              rintro _ w70 ⟨rfl, hw70⟩
              have zw70 := hw70.size
              refine lsw (want_t (dj := 72) (by rfl) (by kernel_rfl) rfl) (yb (decide_eq_true tw) (yi_eql rfl rfl rfl)) rfl (by decide) ?_
              refine lsw (want_none (by rfl)) (y_pick true rfl rfl rfl) rfl (by decide) ?_
              refine lsw (want_none (by rfl)) (y_move rfl rfl) rfl (by decide) ?_
              have r64 := RowAt.below hw70 r64.lt r64
              refine lsw (want_t (dj := 77) (by rfl) (by kernel_rfl) rfl) (y_loadA r64 (by kernel_rfl) (by kernel_rfl) rfl rfl) rfl (by decide) ?_
              have hl := hl.below (hw70.mono (by omega))
              have m68 := m68.below (hw70.mono (by omega))
              refine lg_callw (want_t (dj := 77) (by rfl) (by kernel_rfl) rfl) (putP_any ((Sl.nil _ 0).more (B' := w70.heap.size) (by omega)) (show IsPn w70 w70.heap.size (⟨l.enc, l.hash, r68⟩ : PnV) (⟨L.enc, L.hash, (([(L.unm.getD 0 0)] : List Int) ++ L.unm)⟩ : Pn) from ⟨hl.enc.more (by omega), hl.hash.more (by omega), m68.more (by omega)⟩) (Nat.le_refl _) (by first | omega | (simp only [List.length_nil]; omega))) (by kernel_rfl) rfl rfl rfl (by decide) ?_
              rintro _ w71 ⟨r71, rfl, m71, hw71⟩
              have zw71 := hw71.size
              rw [List.nil_append] at m71
              have lp71 := pnPut_le (⟨L.enc, L.hash, (([(L.unm.getD 0 0)] : List Int) ++ L.unm)⟩ : Pn)
              refine lsw (want_t (dj := 77) (by rfl) (by kernel_rfl) rfl) (y_lenS (el := 5) m71 (by kernel_rfl) rfl rfl) rfl (by decide) ?_
              refine lsw (want_t (dj := 77) (by rfl) (by kernel_rfl) rfl) (yb (decide_eq_true (show ((pnPut (⟨L.enc, L.hash, (([(L.unm.getD 0 0)] : List Int) ++ L.unm)⟩ : Pn)).length : Int) = 0 from (by rw [pnPut_no (by rw [tw]; decide)]; rfl))) (yi_eql rfl rfl rfl)) rfl (by decide) ?_
              refine lsw (want_none (by rfl)) (y_pick true rfl rfl rfl) rfl (by decide) ?_
              refine lsw (want_none (by rfl)) (y_assign rfl rfl) rfl (by decide) ?_
              refine lg_nil ?_
              refine nx (E' := [(4, _)]) (fk rfl fn) ?_
              refine cg_ret ?_
              have u := u.trans (n1.below.mono u.size)
              have u := u.trans (hw2.mono u.size)
              have u := u.trans (hw4.mono u.size)
              have u := u.trans (hw5.mono u.size)
              have u := u.trans (n7.below.mono u.size)
              have u := u.trans (s8.below _ (by omega))
              have u := u.trans (hw9.mono u.size)
              have u := u.trans (s10.below _ (by omega))
              have u := u.trans (hw48.mono u.size)
              have u := u.trans (hw49.mono u.size)
              have u := u.trans (hw61.mono u.size)
              have u := u.trans (n64.below.mono u.size)
              have u := u.trans (s65.below _ (by omega))
              have u := u.trans (dW66.mono u.size)
              have u := u.trans (n67.below.mono u.size)
              have u := u.trans (l68.mono (by omega))
              have u := u.trans (s69.below _ (by omega))
              have u := u.trans (hw70.mono u.size)
              have u := u.trans (hw71.mono u.size)
              exact eg_ret_tmp rfl rfl ⟨_, rfl, rfl, u⟩
    · refine lsw (want_t (dj := 13) (by rfl) (by kernel_rfl) rfl) (yb (nd_t c6) (yi_neq rfl rfl rfl)) rfl (by decide) ?_
      refine lsw (want_none (by rfl)) (y_pick false rfl rfl rfl) rfl (by decide) ?_
      refine lg_nil ?_
      refine nx (E' := [(1, _), (2, _), (4, _), (5, _), (17, _)]) (fk rfl (fk rfl (fk rfl (fk rfl (fk rfl fn))))) ?_
      refine cg_ct rfl ?_
      refine cg_seq ?_
      refine cg_region ?_
      refine lsw (want_none (by rfl)) (y_move rfl rfl) rfl (by decide) ?_
      refine lsw (want_none (by rfl)) (y_assign rfl rfl) rfl (by decide) ?_
      refine lg_nil ?_
      refine nx (E' := [(1, _), (2, _), (5, _), (4, _)]) (fk rfl (fk rfl (fk rfl (fk rfl fn)))) ?_
      refine cg_ret ?_
      refine eg_seq_ret ?_
      have u := u.trans (n1.below.mono u.size)
      have u := u.trans (hw2.mono u.size)
      have u := u.trans (hw4.mono u.size)
      have u := u.trans (hw5.mono u.size)
      exact eg_ret_tmp rfl rfl ⟨_, rfl, rfl, u⟩
  · refine lg_callw (want_none (by rfl)) (few_any (hl.more (B' := w2.heap.size) (by omega)) (Nat.le_refl _)) (by kernel_rfl) rfl rfl rfl (by decide) ?_
    rintro u72 w72 ⟨e72, hw72⟩
    have zw72 := hw72.size
    obtain rfl : u72 = .bool false := e72.trans (congrArg Value.bool (decide_eq_false c3))
    refine lsw (want_none (by rfl)) (y_bnot rfl rfl) rfl (by decide) ?_
    refine lsw (want_none (by rfl)) (y_move rfl rfl) rfl (by decide) ?_
    refine lsk (want_f (dj := 13) (by rfl) (by kernel_rfl) rfl) rfl (by decide) ?_
    refine lsk (want_f (dj := 13) (by rfl) (by kernel_rfl) rfl) rfl (by decide) ?_
    refine lsk (want_f (dj := 13) (by rfl) (by kernel_rfl) rfl) rfl (by decide) ?_
    refine lsw (want_none (by rfl)) (y_pick true rfl rfl rfl) rfl (by decide) ?_
    refine lg_nil ?_
    refine nx (E' := [(1, _), (2, _), (4, _), (5, _), (17, _)]) (fk rfl (fk rfl (fk rfl (fk rfl (fk rfl fn))))) ?_
    refine cg_ct rfl ?_
    refine cg_seq ?_
    refine cg_region ?_
    refine lsw (want_none (by rfl)) (y_move rfl rfl) rfl (by decide) ?_
    refine lsw (want_none (by rfl)) (y_assign rfl rfl) rfl (by decide) ?_
    refine lg_nil ?_
    refine nx (E' := [(1, _), (2, _), (5, _), (4, _)]) (fk rfl (fk rfl (fk rfl (fk rfl fn)))) ?_
    refine cg_ret ?_
    refine eg_seq_ret ?_
    have u := u.trans (n1.below.mono u.size)
    have u := u.trans (hw2.mono u.size)
    have u := u.trans (hw72.mono u.size)
    exact eg_ret_tmp rfl rfl ⟨_, rfl, rfl, u⟩
end Go.Proofs.Ytomjcbjekofkoaa
