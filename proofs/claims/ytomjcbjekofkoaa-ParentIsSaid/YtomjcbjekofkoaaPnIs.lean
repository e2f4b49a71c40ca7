/-
  Of any nodes, octets and number the answers are the document's.
-/
import Derived.Test.YtomjcbjekofkoaaPnAwake
namespace Go.Proofs.Ytomjcbjekofkoaa
open Go.ChangeShapes Go.WideShapes Go.ChangeAt Go.RowKit
set_option linter.unusedVariables false

set_option maxHeartbeats 4000000 in
theorem parentIs_any {W : World} {l : PnV} {L : Pn} (hl : IsPn W W.heap.size l L) {m : PnV} {M : Pn} (hm : IsPn W W.heap.size m M) {s : SlV} {xs : List Int} (h : Sl W W.heap.size s xs) (i : Int) (smL : pnFew L → L.enc.length + L.hash.length + L.unm.length ≤ 600) (smM : pnFew M → M.enc.length + M.hash.length + M.unm.length ≤ 600) : Calls Try.prog 3 #[.agg (l.cs L), .agg (m.cs M), s.v, nv i] W fun e W' => ∃ v, e = .returned v ∧ v = .bool true ∧ Below W.heap.size W W' := by
  refine calls_cg (n := 111) Try.func3 rfl Try.ntmps3 (by simp) ?_
  show CG _ _ _ [(0, .agg (l.cs L)), (1, .agg (m.cs M)), (2, s.v), (3, nv i)] _ _
  have u := Below.refl W.heap.size W
  refine cg_seq ?_
  refine cg_region ?_
  refine lg_boxw (want_none (by rfl)) rfl rfl (by kernel_rfl) rfl (by decide) fun b1 w1 n1 => ?_
  have r1 := n1.row
  have k1 := n1.blk
  have z1 := n1.size
  have lt1 : b1 < w1.heap.size := by omega
  refine lg_boxw (want_none (by rfl)) rfl rfl (by kernel_rfl) rfl (by decide) fun b2 w2 n2 => ?_
  have r2 := n2.row
  have k2 := n2.blk
  have z2 := n2.size
  have lt2 : b2 < w2.heap.size := by omega
  refine lsw (want_none (by rfl)) (y_assign rfl rfl) rfl (by decide) ?_
  refine lg_nil ?_
  refine nx (E' := [(2, _), (3, _), (4, _), (5, _), (8, _)]) (fk rfl (fk rfl (fk rfl (fk rfl (fk rfl fn))))) ?_
  refine cg_seq ?_
  refine cg_region ?_
  refine lg_callw (want_none (by rfl)) (awakeP_any _) (by kernel_rfl) rfl rfl rfl (by decide) ?_
  rintro _ w3 ⟨rfl, hw3⟩
  have zw3 := hw3.size
  refine lsw (want_none (by rfl)) (y_assign rfl rfl) rfl (by decide) ?_
  refine lg_nil ?_
  refine nx (E' := [(2, _), (3, _), (4, _), (5, _), (8, _), (9, _)]) (fk rfl (fk rfl (fk rfl (fk rfl (fk rfl (fk rfl fn)))))) ?_
  refine cg_seq ?_
  refine cg_seq ?_
  refine cg_region ?_
  have r1 := n2.keep r1
  have r1 := RowAt.below hw3 r1.lt r1
  refine lsw (want_none (by rfl)) (y_loadA r1 (by kernel_rfl) (by kernel_rfl) rfl rfl) rfl (by decide) ?_
  have hl := hl.below (n1.below.mono (by omega))
  have hl := hl.below (n2.below.mono (by omega))
  have hl := hl.below (hw3.mono (by omega))
  by_cases c4 : pnFew L
  · have fl := smL c4
    refine lg_callw (want_none (by rfl)) (few_any (hl.more (B' := w3.heap.size) (by omega)) (Nat.le_refl _)) (by kernel_rfl) rfl rfl rfl (by decide) ?_
    rintro u5 w5 ⟨e5, hw5⟩
    have zw5 := hw5.size
    obtain rfl : u5 = .bool true := e5.trans (congrArg Value.bool (decide_eq_true c4))
    refine lsw (want_none (by rfl)) (y_bnot rfl rfl) rfl (by decide) ?_
    refine lsw (want_none (by rfl)) (y_move rfl rfl) rfl (by decide) ?_
    have r2 := RowAt.below hw3 r2.lt r2
    have r2 := RowAt.below hw5 r2.lt r2
    refine lsw (want_t (dj := 20) (by rfl) (by kernel_rfl) rfl) (y_loadA r2 (by kernel_rfl) (by kernel_rfl) rfl rfl) rfl (by decide) ?_
    have hm := hm.below (n1.below.mono (by omega))
    have hm := hm.below (n2.below.mono (by omega))
    have hm := hm.below (hw3.mono (by omega))
    have hm := hm.below (hw5.mono (by omega))
    by_cases c6 : pnFew M
    · have fm := smM c6
      refine lg_callw (want_t (dj := 20) (by rfl) (by kernel_rfl) rfl) (few_any (hm.more (B' := w5.heap.size) (by omega)) (Nat.le_refl _)) (by kernel_rfl) rfl rfl rfl (by decide) ?_
      rintro u7 w7 ⟨e7, hw7⟩
      have zw7 := hw7.size
      obtain rfl : u7 = .bool true := e7.trans (congrArg Value.bool (decide_eq_true c6))
      refine lsw (want_t (dj := 20) (by rfl) (by kernel_rfl) rfl) (y_bnot rfl rfl) rfl (by decide) ?_
      refine lsw (want_none (by rfl)) (y_pick false rfl rfl rfl) rfl (by decide) ?_
      refine lsw (want_none (by rfl)) (y_move rfl rfl) rfl (by decide) ?_
      refine lsw (want_t (dj := 25) (by rfl) (by kernel_rfl) rfl) (y_move rfl rfl) rfl (by decide) ?_
      have h := h.below (n1.below.mono (by omega))
      have h := h.below (n2.below.mono (by omega))
      have h := h.below (hw3.mono (by omega))
      have h := h.below (hw5.mono (by omega))
      have h := h.below (hw7.mono (by omega))
      refine lsw (want_t (dj := 25) (by rfl) (by kernel_rfl) rfl) (y_lenS (el := 5) h (by kernel_rfl) rfl rfl) rfl (by decide) ?_
      by_cases c8 : 1000 < (xs.length : Int)
      · refine lsw (want_t (dj := 25) (by rfl) (by kernel_rfl) rfl) (yb (decide_eq_true c8) (yi_gtr rfl rfl rfl)) rfl (by decide) ?_
        refine lsw (want_none (by rfl)) (y_pick false rfl rfl rfl) rfl (by decide) ?_
        refine lg_nil ?_
        refine nx (E' := [(2, _), (3, _), (4, _), (5, _), (8, _), (9, _), (29, _)]) (fk rfl (fk rfl (fk rfl (fk rfl (fk rfl (fk rfl (fk rfl fn))))))) ?_
        refine cg_ct rfl ?_
        refine cg_seq ?_
        refine cg_region ?_
        refine lsw (want_none (by rfl)) (y_move rfl rfl) rfl (by decide) ?_
        refine lsw (want_none (by rfl)) (y_assign rfl rfl) rfl (by decide) ?_
        refine lg_nil ?_
        refine nx (E' := [(2, _), (3, _), (4, _), (5, _), (9, _), (8, _)]) (fk rfl (fk rfl (fk rfl (fk rfl (fk rfl (fk rfl fn)))))) ?_
        refine cg_ret ?_
        refine eg_seq_ret ?_
        have u := u.trans (n1.below.mono u.size)
        have u := u.trans (n2.below.mono u.size)
        have u := u.trans (hw3.mono u.size)
        have u := u.trans (hw5.mono u.size)
        have u := u.trans (hw7.mono u.size)
        exact eg_ret_tmp rfl rfl ⟨_, rfl, rfl, u⟩
      · refine lsw (want_t (dj := 25) (by rfl) (by kernel_rfl) rfl) (yb (decide_eq_false c8) (yi_gtr rfl rfl rfl)) rfl (by decide) ?_
        refine lsw (want_none (by rfl)) (y_pick false rfl rfl rfl) rfl (by decide) ?_
        refine lg_nil ?_
        refine nx (E' := [(2, _), (3, _), (4, _), (5, _), (8, _), (9, _), (29, _)]) (fk rfl (fk rfl (fk rfl (fk rfl (fk rfl (fk rfl (fk rfl fn))))))) ?_
        refine cg_cf rfl ?_
        refine cg_skip ?_
        refine nx (E' := [(2, _), (3, _), (4, _), (5, _), (8, _), (9, _)]) (fk rfl (fk rfl (fk rfl (fk rfl (fk rfl (fk rfl fn)))))) ?_
        refine cg_seq ?_
        refine cg_region ?_
        refine lsw (want_none (by rfl)) (y_move rfl rfl) rfl (by decide) ?_
        refine lg_callw (want_none (by rfl)) (getP_any h (by omega)) (by kernel_rfl) rfl rfl rfl (by decide) ?_
        rintro _ w9 ⟨l9, r9, rfl, m9, n9, hw9⟩
        have zw9 := hw9.size
        refine lsw (want_none (by rfl)) (y_move rfl rfl) rfl (by decide) ?_
        refine lsw (want_none (by rfl)) (y_extract rfl rfl rfl) rfl (by decide) ?_
        refine lsw (want_none (by rfl)) (y_extract rfl rfl rfl) rfl (by decide) ?_
        refine lsw (want_none (by rfl)) (y_extract rfl rfl rfl) rfl (by decide) ?_
        refine lg_allocw (cs := PnV.zero.cs Pn.zero) (want_none (by rfl)) rfl (by kernel_rfl) rfl (by decide) fun b10 w10 n10 => ?_
        have r10 := n10.row
        have k10 := n10.blk
        have z10 := n10.size
        have lt10 : b10 < w10.heap.size := by omega
        have o11 := r10
        refine lg_stw (want_none (by rfl)) r10 rfl rfl rfl (by kernel_rfl) (by kernel_rfl) rfl rfl fun w11 s11 => ?_
        have r10 := s11.row
        have z11 := s11.size
        refine lsw (want_none (by rfl)) (y_assign rfl rfl) rfl (by decide) ?_
        refine lsw (want_none (by rfl)) (y_assign rfl rfl) rfl (by decide) ?_
        refine lg_nil ?_
        refine nx (E' := [(2, _), (3, _), (4, _), (5, _), (8, _), (9, _), (10, _), (11, _), (12, _)]) (fk rfl (fk rfl (fk rfl (fk rfl (fk rfl (fk rfl (fk rfl (fk rfl (fk rfl fn))))))))) ?_
        refine cg_seq ?_
        refine cg_region ?_
        refine lsw (want_none (by rfl)) (y_move rfl rfl) rfl (by decide) ?_
        have h := h.below (hw9.mono (by omega))
        have h := h.below (n10.below.mono (by omega))
        have h := h.set o11 rfl s11
        refine lg_callw (want_none (by rfl)) (rgetP_any h (by omega)) (by kernel_rfl) rfl rfl rfl (by decide) ?_
        rintro _ w12 ⟨l12, r12, rfl, m12, n12, hw12⟩
        have zw12 := hw12.size
        refine lsw (want_none (by rfl)) (y_move rfl rfl) rfl (by decide) ?_
        refine lsw (want_none (by rfl)) (y_extract rfl rfl rfl) rfl (by decide) ?_
        refine lsw (want_none (by rfl)) (y_extract rfl rfl rfl) rfl (by decide) ?_
        refine lsw (want_none (by rfl)) (y_extract rfl rfl rfl) rfl (by decide) ?_
        refine lg_allocw (cs := PnV.zero.cs Pn.zero) (want_none (by rfl)) rfl (by kernel_rfl) rfl (by decide) fun b13 w13 n13 => ?_
        have r13 := n13.row
        have k13 := n13.blk
        have z13 := n13.size
        have lt13 : b13 < w13.heap.size := by omega
        have o14 := r13
        refine lg_stw (want_none (by rfl)) r13 rfl rfl rfl (by kernel_rfl) (by kernel_rfl) rfl rfl fun w14 s14 => ?_
        have r13 := s14.row
        have z14 := s14.size
        refine lsw (want_none (by rfl)) (y_assign rfl rfl) rfl (by decide) ?_
        refine lsw (want_none (by rfl)) (y_assign rfl rfl) rfl (by decide) ?_
        refine lg_nil ?_
        refine nx (E' := [(2, _), (3, _), (4, _), (5, _), (8, _), (9, _), (10, _), (11, _), (12, _), (13, _), (14, _), (15, _)]) (fk rfl (fk rfl (fk rfl (fk rfl (fk rfl (fk rfl (fk rfl (fk rfl (fk rfl (fk rfl (fk rfl (fk rfl fn)))))))))))) ?_
        refine cg_seq ?_
        refine cg_seq ?_
        refine cg_held (by kernel_rfl) fun W15 eW15 => ?_
        have dW15 := below_drew _ _ eW15
        have zW15 := size_drew _ _ eW15
        clear eW15
        have r10 := RowAt.below hw12 r10.lt r10
        have r10 := n13.keep r10
        have r10 := s14.keep r10 (by omega)
        have r10 := RowAt.below dW15 r10.lt r10
        refine hg_take 0 (by rfl) (want_none (by rfl)) (by rfl) rfl (by decide) (by kernel_rfl) (by kernel_rfl) (by kernel_rfl) (fun _ _ _ h => h) (Below.refl _ _) (fun q hq => y_loadA (RowAt.below hq r10.lt r10) (by kernel_rfl) (by kernel_rfl) rfl rfl) ?_
        have r13 := RowAt.below dW15 r13.lt r13
        refine hg_take 1 (by rfl) (want_none (by rfl)) (by rfl) rfl (by decide) (by kernel_rfl) (by kernel_rfl) (by kernel_rfl) (fun _ _ _ h => h) (Below.refl _ _) (fun q hq => y_loadA (RowAt.below hq r13.lt r13) (by kernel_rfl) (by kernel_rfl) rfl rfl) ?_
        have m9 := m9.below (n10.below.mono (by omega))
        have m9 := m9.set o11 rfl s11
        have m9 := m9.below (hw12.mono (by omega))
        have m9 := m9.below (n13.below.mono (by omega))
        have m9 := m9.set o14 rfl s14
        have m9 := m9.below (dW15.mono (by omega))
        have m12 := m12.below (n13.below.mono (by omega))
        have m12 := m12.set o14 rfl s14
        have m12 := m12.below (dW15.mono (by omega))
        refine hg_one 2 (by rfl) (by kernel_rfl) (want_none (by rfl)) ?_
        refine lg_callw (want_none (by rfl)) (rsame_any (m9.more (B' := W15.heap.size) (by omega)) (m12.more (B' := W15.heap.size) (by omega)) (Nat.le_refl _)) (by kernel_rfl) rfl rfl rfl (by decide) ?_
        rintro u16 w16 ⟨e16, hw16⟩
        have zw16 := hw16.size
        obtain rfl : u16 = .bool true := e16.trans (congrArg Value.bool (decide_eq_true (show PnSame (pnGet xs).2.1 (pnGet xs).2.1 from ⟨rfl, rfl, rfl⟩)))
        refine hg_next hw16 ?_
        refine hg_up hw16 ?_
        refine hg_take 3 (by rfl) (want_none (by rfl)) (by rfl) rfl (by decide) (by kernel_rfl) (by kernel_rfl) (by kernel_rfl) (fun _ _ _ h => h) (Below.refl _ _) (fun q hq => y_bnot rfl rfl) ?_
        refine hg_take 4 (by rfl) (want_none (by rfl)) (by rfl) rfl (by decide) (by kernel_rfl) (by kernel_rfl) (by kernel_rfl) (fun _ _ _ h => h) (Below.refl _ _) (fun q hq => y_move rfl rfl) ?_
        refine hg_take 5 (by rfl) (want_t (dj := 47) (by rfl) (by kernel_rfl) rfl) (by rfl) rfl (by decide) (by kernel_rfl) (by kernel_rfl) (by kernel_rfl) (fun _ _ _ h => h) (Below.refl _ _) (fun q hq => y_move rfl rfl) ?_
        have n9 := n9.below (n10.below.mono (by omega))
        have n9 := n9.set o11 rfl s11
        have n9 := n9.below (hw12.mono (by omega))
        have n9 := n9.below (n13.below.mono (by omega))
        have n9 := n9.set o14 rfl s14
        have n9 := n9.below (dW15.mono (by omega))
        have n9 := n9.below (hw16.mono (by omega))
        have by17 : Bytes ((pnGet xs).2.2) := n9.bytes
        refine hg_take 6 (by rfl) (want_t (dj := 47) (by rfl) (by kernel_rfl) rfl) (by rfl) rfl (by decide) (by kernel_rfl) (by kernel_rfl) (by kernel_rfl) (fun _ _ _ h => h) (Below.refl _ _) (fun q hq => y_strS (n9.below (hq.mono (by omega))) rfl rfl) ?_
        refine hg_take 7 (by rfl) (want_t (dj := 47) (by rfl) (by kernel_rfl) rfl) (by rfl) rfl (by decide) (by kernel_rfl) (by kernel_rfl) (by kernel_rfl) (fun _ _ _ h => h) (Below.refl _ _) (fun q hq => y_move rfl rfl) ?_
        have n12 := n12.below (n13.below.mono (by omega))
        have n12 := n12.set o14 rfl s14
        have n12 := n12.below (dW15.mono (by omega))
        have n12 := n12.below (hw16.mono (by omega))
        have by18 : Bytes ((pnGet xs).2.2) := n12.bytes
        refine hg_take 8 (by rfl) (want_t (dj := 47) (by rfl) (by kernel_rfl) rfl) (by rfl) rfl (by decide) (by kernel_rfl) (by kernel_rfl) (by kernel_rfl) (fun _ _ _ h => h) (Below.refl _ _) (fun q hq => y_strS (n12.below (hq.mono (by omega))) rfl rfl) ?_
        refine hg_take 9 (by rfl) (want_t (dj := 47) (by rfl) (by kernel_rfl) rfl) (by rfl) rfl (by decide) (by kernel_rfl) (by kernel_rfl) (by kernel_rfl) (fun _ _ _ h => h) (Below.refl _ _) (fun q hq => yb (nd_f rfl) (y_sneS (xs := (pnGet xs).2.2) (ys := (pnGet xs).2.2) by17 by18 rfl rfl rfl)) ?_
        refine hg_take 10 (by rfl) (want_none (by rfl)) (by rfl) rfl (by decide) (by kernel_rfl) (by kernel_rfl) (by kernel_rfl) (fun _ _ _ h => h) (Below.refl _ _) (fun q hq => y_pick false rfl rfl rfl) ?_
        refine hg_take 11 (by rfl) (want_none (by rfl)) (by rfl) rfl (by decide) (by kernel_rfl) (by kernel_rfl) (by kernel_rfl) (fun _ _ _ h => h) (Below.refl _ _) (fun q hq => y_move rfl rfl) ?_
        refine hg_take 12 (by rfl) (want_t (dj := 54) (by rfl) (by kernel_rfl) rfl) (by rfl) rfl (by decide) (by kernel_rfl) (by kernel_rfl) (by kernel_rfl) (fun _ _ _ h => h) (Below.refl _ _) (fun q hq => y_move rfl rfl) ?_
        refine hg_take 13 (by rfl) (want_t (dj := 54) (by rfl) (by kernel_rfl) rfl) (by rfl) rfl (by decide) (by kernel_rfl) (by kernel_rfl) (by kernel_rfl) (fun _ _ _ h => h) (Below.refl _ _) (fun q hq => y_move rfl rfl) ?_
        refine hg_take 14 (by rfl) (want_t (dj := 54) (by rfl) (by kernel_rfl) rfl) (by rfl) rfl (by decide) (by kernel_rfl) (by kernel_rfl) (by kernel_rfl) (fun _ _ _ h => h) (Below.refl _ _) (fun q hq => yb (nd_f rfl) (yi_neq rfl rfl rfl)) ?_
        refine hg_take 15 (by rfl) (want_none (by rfl)) (by rfl) rfl (by decide) (by kernel_rfl) (by kernel_rfl) (by kernel_rfl) (fun _ _ _ h => h) (Below.refl _ _) (fun q hq => y_pick false rfl rfl rfl) ?_
        refine hg_take 16 (by rfl) (want_none (by rfl)) (by rfl) rfl (by decide) (by kernel_rfl) (by kernel_rfl) (by kernel_rfl) (fun _ _ _ h => h) (Below.refl _ _) (fun q hq => y_move rfl rfl) ?_
        have r1 := RowAt.below hw5 r1.lt r1
        have r1 := RowAt.below hw7 r1.lt r1
        have r1 := RowAt.below hw9 r1.lt r1
        have r1 := n10.keep r1
        have r1 := s11.keep r1 (by omega)
        have r1 := RowAt.below hw12 r1.lt r1
        have r1 := n13.keep r1
        have r1 := s14.keep r1 (by omega)
        have r1 := RowAt.below dW15 r1.lt r1
        have r1 := RowAt.below hw16 r1.lt r1
        refine hg_take 17 (by rfl) (want_t (dj := 59) (by rfl) (by kernel_rfl) rfl) (by rfl) rfl (by decide) (by kernel_rfl) (by kernel_rfl) (by kernel_rfl) (fun _ _ _ h => h) (Below.refl _ _) (fun q hq => y_loadA (RowAt.below hq r1.lt r1) (by kernel_rfl) (by kernel_rfl) rfl rfl) ?_
        refine hg_take 19 (by rfl) (want_t (dj := 59) (by rfl) (by kernel_rfl) rfl) (by rfl) rfl (by decide) (by kernel_rfl) (by kernel_rfl) (by kernel_rfl) (fun _ _ _ h => h) (Below.refl _ _) (fun q hq => y_loadA (RowAt.below hq r1.lt r1) (by kernel_rfl) (by kernel_rfl) rfl rfl) ?_
        have hl := hl.below (hw5.mono (by omega))
        have hl := hl.below (hw7.mono (by omega))
        have hl := hl.below (hw9.mono (by omega))
        have hl := hl.below (n10.below.mono (by omega))
        have hl := hl.set o11 rfl s11
        have hl := hl.below (hw12.mono (by omega))
        have hl := hl.below (n13.below.mono (by omega))
        have hl := hl.set o14 rfl s14
        have hl := hl.below (dW15.mono (by omega))
        have hl := hl.below (hw16.mono (by omega))
        refine hg_one 18 (by rfl) (by kernel_rfl) (want_t (dj := 59) (by rfl) (by kernel_rfl) rfl) ?_
        refine lg_callw (want_t (dj := 59) (by rfl) (by kernel_rfl) rfl) (check_any (hl.more (B' := w16.heap.size) (by omega)) (Nat.le_refl _)) (by kernel_rfl) rfl rfl rfl (by decide) ?_
        rintro _ w19 ⟨rfl, hw19⟩
        have zw19 := hw19.size
        refine hg_next hw19 ?_
        refine hg_up hw19 ?_
        have hl := hl.below (hw19.mono (by omega))
        refine hg_one 20 (by rfl) (by kernel_rfl) (want_t (dj := 59) (by rfl) (by kernel_rfl) rfl) ?_
        refine lg_callw (want_t (dj := 59) (by rfl) (by kernel_rfl) rfl) (rcheck_any (hl.more (B' := w19.heap.size) (by omega)) (Nat.le_refl _)) (by kernel_rfl) rfl rfl rfl (by decide) ?_
        rintro _ w20 ⟨rfl, hw20⟩
        have zw20 := hw20.size
        refine hg_next hw20 ?_
        refine hg_up hw20 ?_
        refine hg_take 21 (by rfl) (want_t (dj := 59) (by rfl) (by kernel_rfl) rfl) (by rfl) rfl (by decide) (by kernel_rfl) (by kernel_rfl) (by kernel_rfl) (fun _ _ _ h => h) (Below.refl _ _) (fun q hq => yb (nd_f rfl) (yi_neq rfl rfl rfl)) ?_
        refine hg_take 22 (by rfl) (want_none (by rfl)) (by rfl) rfl (by decide) (by kernel_rfl) (by kernel_rfl) (by kernel_rfl) (fun _ _ _ h => h) (Below.refl _ _) (fun q hq => y_pick false rfl rfl rfl) ?_
        refine hg_take 23 (by rfl) (want_none (by rfl)) (by rfl) rfl (by decide) (by kernel_rfl) (by kernel_rfl) (by kernel_rfl) (fun _ _ _ h => h) (Below.refl _ _) (fun q hq => y_move rfl rfl) ?_
        refine hg_take 24 (by rfl) (want_t (dj := 66) (by rfl) (by kernel_rfl) rfl) (by rfl) rfl (by decide) (by kernel_rfl) (by kernel_rfl) (by kernel_rfl) (fun _ _ _ h => h) (Below.refl _ _) (fun q hq => y_move rfl rfl) ?_
        have r1 := RowAt.below hw19 r1.lt r1
        have r1 := RowAt.below hw20 r1.lt r1
        refine hg_take 25 (by rfl) (want_t (dj := 66) (by rfl) (by kernel_rfl) rfl) (by rfl) rfl (by decide) (by kernel_rfl) (by kernel_rfl) (by kernel_rfl) (fun _ _ _ h => h) (Below.refl _ _) (fun q hq => y_loadA (RowAt.below hq r1.lt r1) (by kernel_rfl) (by kernel_rfl) rfl rfl) ?_
        refine hg_take 28 (by rfl) (want_t (dj := 66) (by rfl) (by kernel_rfl) rfl) (by rfl) rfl (by decide) (by kernel_rfl) (by kernel_rfl) (by kernel_rfl) (fun _ _ _ h => h) (Below.refl _ _) (fun q hq => y_move rfl rfl) ?_
        refine hg_take 29 (by rfl) (want_t (dj := 66) (by rfl) (by kernel_rfl) rfl) (by rfl) rfl (by decide) (by kernel_rfl) (by kernel_rfl) (by kernel_rfl) (fun _ _ _ h => h) (Below.refl _ _) (fun q hq => y_loadA (RowAt.below hq r1.lt r1) (by kernel_rfl) (by kernel_rfl) rfl rfl) ?_
        have h := h.below (hw12.mono (by omega))
        have h := h.below (n13.below.mono (by omega))
        have h := h.set o14 rfl s14
        have h := h.below (dW15.mono (by omega))
        have h := h.below (hw16.mono (by omega))
        have h := h.below (hw19.mono (by omega))
        have h := h.below (hw20.mono (by omega))
        have hl := hl.below (hw20.mono (by omega))
        refine hg_one 26 (by rfl) (by kernel_rfl) (want_t (dj := 66) (by rfl) (by kernel_rfl) rfl) ?_
        refine lg_callw (want_t (dj := 66) (by rfl) (by kernel_rfl) rfl) (putP_any (h.more (B' := w20.heap.size) (by omega)) (hl.more (B' := w20.heap.size) (by omega)) (Nat.le_refl _) (by first | omega | (simp only [List.length_append, List.length_cons, List.length_nil, numOct_length]; omega))) (by kernel_rfl) rfl rfl rfl (by decide) ?_
        rintro _ w21 ⟨r21, rfl, m21, hw21⟩
        have zw21 := hw21.size
        have lp21 := pnPut_le L
        refine hg_next hw21 ?_
        refine hg_up hw21 ?_
        have by22 : Bytes (xs ++ pnPut L) := m21.bytes
        refine hg_take 27 (by rfl) (want_t (dj := 66) (by rfl) (by kernel_rfl) rfl) (by rfl) rfl (by decide) (by kernel_rfl) (by kernel_rfl) (by kernel_rfl) (fun _ _ _ h => h) (Below.refl _ _) (fun q hq => y_strS (m21.below (hq.mono (by omega))) rfl rfl) ?_
        have h := h.below (hw21.mono (by omega))
        have hl := hl.below (hw21.mono (by omega))
        refine hg_one 30 (by rfl) (by kernel_rfl) (want_t (dj := 66) (by rfl) (by kernel_rfl) rfl) ?_
        refine lg_callw (want_t (dj := 66) (by rfl) (by kernel_rfl) rfl) (rputP_any (h.more (B' := w21.heap.size) (by omega)) (hl.more (B' := w21.heap.size) (by omega)) (Nat.le_refl _) (by first | omega | (simp only [List.length_append, List.length_cons, List.length_nil, numOct_length]; omega))) (by kernel_rfl) rfl rfl rfl (by decide) ?_
        rintro _ w23 ⟨r23, rfl, m23, hw23⟩
        have zw23 := hw23.size
        have lp23 := pnPut_le L
        refine hg_next hw23 ?_
        refine hg_up hw23 ?_
        have by24 : Bytes (xs ++ pnPut L) := m23.bytes
        refine hg_take 31 (by rfl) (want_t (dj := 66) (by rfl) (by kernel_rfl) rfl) (by rfl) rfl (by decide) (by kernel_rfl) (by kernel_rfl) (by kernel_rfl) (fun _ _ _ h => h) (Below.refl _ _) (fun q hq => y_strS (m23.below (hq.mono (by omega))) rfl rfl) ?_
        refine hg_take 32 (by rfl) (want_t (dj := 66) (by rfl) (by kernel_rfl) rfl) (by rfl) rfl (by decide) (by kernel_rfl) (by kernel_rfl) (by kernel_rfl) (fun _ _ _ h => h) (Below.refl _ _) (fun q hq => yb (nd_f rfl) (y_sneS (xs := (xs ++ pnPut L)) (ys := (xs ++ pnPut L)) by22 by24 rfl rfl rfl)) ?_
        refine hg_take 33 (by rfl) (want_none (by rfl)) (by rfl) rfl (by decide) (by kernel_rfl) (by kernel_rfl) (by kernel_rfl) (fun _ _ _ h => h) (Below.refl _ _) (fun q hq => y_pick false rfl rfl rfl) ?_
        refine hg_done (by kernel_rfl) ?_
        refine nx (E' := [(3, _), (4, _), (5, _), (8, _), (9, _), (76, _)]) (fk rfl (fk rfl (fk rfl (fk rfl (fk rfl (fk rfl fn)))))) ?_
        refine cg_cf rfl ?_
        refine cg_skip ?_
        refine nx (E' := [(3, _), (4, _), (5, _), (8, _), (9, _)]) (fk rfl (fk rfl (fk rfl (fk rfl (fk rfl fn))))) ?_
        refine cg_seq ?_
        refine cg_held (by kernel_rfl) fun W25 eW25 => ?_
        have dW25 := below_drew _ _ eW25
        have zW25 := size_drew _ _ eW25
        clear eW25
        refine hg_take 0 (by rfl) (want_none (by rfl)) (by rfl) rfl (by decide) (by kernel_rfl) (by kernel_rfl) (by kernel_rfl) (fun _ _ _ h => h) (Below.refl _ _) (fun q hq => y_move rfl rfl) ?_
        refine hg_take 1 (by rfl) (want_none (by rfl)) (by rfl) rfl (by decide) (by kernel_rfl) (by kernel_rfl) (by kernel_rfl) (fun _ _ _ h => h) (Below.refl _ _) (fun q hq => y_move rfl rfl) ?_
        have r1 := RowAt.below hw21 r1.lt r1
        have r1 := RowAt.below hw23 r1.lt r1
        have r1 := RowAt.below dW25 r1.lt r1
        refine hg_take 2 (by rfl) (want_t (dj := 78) (by rfl) (by kernel_rfl) rfl) (by rfl) rfl (by decide) (by kernel_rfl) (by kernel_rfl) (by kernel_rfl) (fun _ _ _ h => h) (Below.refl _ _) (fun q hq => y_loadA (RowAt.below hq r1.lt r1) (by kernel_rfl) (by kernel_rfl) rfl rfl) ?_
        have r2 := RowAt.below hw7 r2.lt r2
        have r2 := RowAt.below hw9 r2.lt r2
        have r2 := n10.keep r2
        have r2 := s11.keep r2 (by omega)
        have r2 := RowAt.below hw12 r2.lt r2
        have r2 := n13.keep r2
        have r2 := s14.keep r2 (by omega)
        have r2 := RowAt.below dW15 r2.lt r2
        have r2 := RowAt.below hw16 r2.lt r2
        have r2 := RowAt.below hw19 r2.lt r2
        have r2 := RowAt.below hw20 r2.lt r2
        have r2 := RowAt.below hw21 r2.lt r2
        have r2 := RowAt.below hw23 r2.lt r2
        have r2 := RowAt.below dW25 r2.lt r2
        refine hg_take 3 (by rfl) (want_t (dj := 78) (by rfl) (by kernel_rfl) rfl) (by rfl) rfl (by decide) (by kernel_rfl) (by kernel_rfl) (by kernel_rfl) (fun _ _ _ h => h) (Below.refl _ _) (fun q hq => y_loadA (RowAt.below hq r2.lt r2) (by kernel_rfl) (by kernel_rfl) rfl rfl) ?_
        refine hg_take 5 (by rfl) (want_t (dj := 78) (by rfl) (by kernel_rfl) rfl) (by rfl) rfl (by decide) (by kernel_rfl) (by kernel_rfl) (by kernel_rfl) (fun _ _ _ h => h) (Below.refl _ _) (fun q hq => y_loadA (RowAt.below hq r1.lt r1) (by kernel_rfl) (by kernel_rfl) rfl rfl) ?_
        refine hg_take 6 (by rfl) (want_t (dj := 78) (by rfl) (by kernel_rfl) rfl) (by rfl) rfl (by decide) (by kernel_rfl) (by kernel_rfl) (by kernel_rfl) (fun _ _ _ h => h) (Below.refl _ _) (fun q hq => y_loadA (RowAt.below hq r2.lt r2) (by kernel_rfl) (by kernel_rfl) rfl rfl) ?_
        have hl := hl.below (hw23.mono (by omega))
        have hl := hl.below (dW25.mono (by omega))
        have hm := hm.below (hw7.mono (by omega))
        have hm := hm.below (hw9.mono (by omega))
        have hm := hm.below (n10.below.mono (by omega))
        have hm := hm.set o11 rfl s11
        have hm := hm.below (hw12.mono (by omega))
        have hm := hm.below (n13.below.mono (by omega))
        have hm := hm.set o14 rfl s14
        have hm := hm.below (dW15.mono (by omega))
        have hm := hm.below (hw16.mono (by omega))
        have hm := hm.below (hw19.mono (by omega))
        have hm := hm.below (hw20.mono (by omega))
        have hm := hm.below (hw21.mono (by omega))
        have hm := hm.below (hw23.mono (by omega))
        have hm := hm.below (dW25.mono (by omega))
        by_cases c26 : PnSame L M
        · refine hg_one 4 (by rfl) (by kernel_rfl) (want_t (dj := 78) (by rfl) (by kernel_rfl) rfl) ?_
          refine lg_callw (want_t (dj := 78) (by rfl) (by kernel_rfl) rfl) (same_any (hl.more (B' := W25.heap.size) (by omega)) (hm.more (B' := W25.heap.size) (by omega)) (Nat.le_refl _)) (by kernel_rfl) rfl rfl rfl (by decide) ?_
          rintro u27 w27 ⟨e27, hw27⟩
          have zw27 := hw27.size
          obtain rfl : u27 = .bool true := e27.trans (congrArg Value.bool (decide_eq_true c26))
          refine hg_next hw27 ?_
          refine hg_up hw27 ?_
          have hl := hl.below (hw27.mono (by omega))
          have hm := hm.below (hw27.mono (by omega))
          refine hg_one 7 (by rfl) (by kernel_rfl) (want_t (dj := 78) (by rfl) (by kernel_rfl) rfl) ?_
          refine lg_callw (want_t (dj := 78) (by rfl) (by kernel_rfl) rfl) (rsame_any (hl.more (B' := w27.heap.size) (by omega)) (hm.more (B' := w27.heap.size) (by omega)) (Nat.le_refl _)) (by kernel_rfl) rfl rfl rfl (by decide) ?_
          rintro u28 w28 ⟨e28, hw28⟩
          have zw28 := hw28.size
          obtain rfl : u28 = .bool true := e28.trans (congrArg Value.bool (decide_eq_true c26))
          refine hg_next hw28 ?_
          refine hg_up hw28 ?_
          refine hg_take 8 (by rfl) (want_t (dj := 78) (by rfl) (by kernel_rfl) rfl) (by rfl) rfl (by decide) (by kernel_rfl) (by kernel_rfl) (by kernel_rfl) (fun _ _ _ h => h) (Below.refl _ _) (fun q hq => yb (b := (true == true)) (show (true == true) = true from rfl) (y_beq (a := true) (b := true) hubo rfl rfl rfl)) ?_
          refine hg_take 9 (by rfl) (want_none (by rfl)) (by rfl) rfl (by decide) (by kernel_rfl) (by kernel_rfl) (by kernel_rfl) (fun _ _ _ h => h) (Below.refl _ _) (fun q hq => y_pick true rfl rfl rfl) ?_
          refine hg_take 10 (by rfl) (want_none (by rfl)) (by rfl) rfl (by decide) (by kernel_rfl) (by kernel_rfl) (by kernel_rfl) (fun _ _ _ h => h) (Below.refl _ _) (fun q hq => y_move rfl rfl) ?_
          refine hg_take 11 (by rfl) (want_t (dj := 87) (by rfl) (by kernel_rfl) rfl) (by rfl) rfl (by decide) (by kernel_rfl) (by kernel_rfl) (by kernel_rfl) (fun _ _ _ h => h) (Below.refl _ _) (fun q hq => y_fld (off := 2) (by kernel_rfl) rfl rfl) ?_
          have r1 := RowAt.below hw27 r1.lt r1
          have r1 := RowAt.below hw28 r1.lt r1
          refine hg_take 12 (by rfl) (want_t (dj := 87) (by rfl) (by kernel_rfl) rfl) (by rfl) rfl (by decide) (by kernel_rfl) (by kernel_rfl) (by kernel_rfl) (fun _ _ _ h => h) (Below.refl _ _) (fun q hq => y_cellv (v := l.unm.v) (RowAt.below hq r1.lt r1) rfl (by kernel_rfl) rfl rfl) ?_
          refine hg_take 13 (by rfl) (want_t (dj := 87) (by rfl) (by kernel_rfl) rfl) (by rfl) rfl (by decide) (by kernel_rfl) (by kernel_rfl) (by kernel_rfl) (fun _ _ _ h => h) (Below.refl _ _) (fun q hq => y_move rfl rfl) ?_
          refine hg_take 15 (by rfl) (want_t (dj := 87) (by rfl) (by kernel_rfl) rfl) (by rfl) rfl (by decide) (by kernel_rfl) (by kernel_rfl) (by kernel_rfl) (fun _ _ _ h => h) (Below.refl _ _) (fun q hq => y_fld (off := 2) (by kernel_rfl) rfl rfl) ?_
          refine hg_take 16 (by rfl) (want_t (dj := 87) (by rfl) (by kernel_rfl) rfl) (by rfl) rfl (by decide) (by kernel_rfl) (by kernel_rfl) (by kernel_rfl) (fun _ _ _ h => h) (Below.refl _ _) (fun q hq => y_cellv (v := l.unm.v) (RowAt.below hq r1.lt r1) rfl (by kernel_rfl) rfl rfl) ?_
          refine hg_take 17 (by rfl) (want_t (dj := 87) (by rfl) (by kernel_rfl) rfl) (by rfl) rfl (by decide) (by kernel_rfl) (by kernel_rfl) (by kernel_rfl) (fun _ _ _ h => h) (Below.refl _ _) (fun q hq => y_move rfl rfl) ?_
          have hl := hl.below (hw28.mono (by omega))
          refine hg_one 14 (by rfl) (by kernel_rfl) (want_t (dj := 87) (by rfl) (by kernel_rfl) rfl) ?_
          refine lg_callw (want_t (dj := 87) (by rfl) (by kernel_rfl) rfl) (joinP_any i hl.unm (by omega) (by first | omega | (simp only [List.length_append, List.length_cons, List.length_nil, numOct_length]; omega))) (by kernel_rfl) rfl rfl rfl (by decide) ?_
          rintro _ w29 ⟨r29, rfl, m29, hw29⟩
          have zw29 := hw29.size
          have jl29 := joinK_length L.unm i
          refine hg_next hw29 ?_
          refine hg_up hw29 ?_
          have hl := hl.below (hw29.mono (by omega))
          refine hg_one 18 (by rfl) (by kernel_rfl) (want_t (dj := 87) (by rfl) (by kernel_rfl) rfl) ?_
          refine lg_callw (want_t (dj := 87) (by rfl) (by kernel_rfl) rfl) (rjoin_any i hl.unm (by omega) (by first | omega | (simp only [List.length_append, List.length_cons, List.length_nil, numOct_length]; omega))) (by kernel_rfl) rfl rfl rfl (by decide) ?_
          rintro _ w30 ⟨r30, rfl, m30, hw30⟩
          have zw30 := hw30.size
          have jl30 := joinK_length L.unm i
          refine hg_next hw30 ?_
          refine hg_up hw30 ?_
          have m29 := m29.below (hw30.mono (by omega))
          refine hg_one 19 (by rfl) (by kernel_rfl) (want_t (dj := 87) (by rfl) (by kernel_rfl) rfl) ?_
          refine lg_callw (want_t (dj := 87) (by rfl) (by kernel_rfl) rfl) (ints_S m29 m30 (by omega) (by omega)) (by kernel_rfl) rfl rfl rfl (by decide) ?_
          rintro u31 w31 ⟨e31, hw31⟩
          have zw31 := hw31.size
          obtain rfl : u31 = .bool true := e31.trans (congrArg Value.bool (decide_eq_true rfl))
          refine hg_next hw31 ?_
          refine hg_up hw31 ?_
          refine hg_take 20 (by rfl) (want_none (by rfl)) (by rfl) rfl (by decide) (by kernel_rfl) (by kernel_rfl) (by kernel_rfl) (fun _ _ _ h => h) (Below.refl _ _) (fun q hq => y_pick true rfl rfl rfl) ?_
          refine hg_take 21 (by rfl) (want_none (by rfl)) (by rfl) rfl (by decide) (by kernel_rfl) (by kernel_rfl) (by kernel_rfl) (fun _ _ _ h => h) (Below.refl _ _) (fun q hq => y_move rfl rfl) ?_
          refine hg_take 22 (by rfl) (want_t (dj := 98) (by rfl) (by kernel_rfl) rfl) (by rfl) rfl (by decide) (by kernel_rfl) (by kernel_rfl) (by kernel_rfl) (fun _ _ _ h => h) (Below.refl _ _) (fun q hq => y_fld (off := 2) (by kernel_rfl) rfl rfl) ?_
          have r1 := RowAt.below hw29 r1.lt r1
          have r1 := RowAt.below hw30 r1.lt r1
          have r1 := RowAt.below hw31 r1.lt r1
          refine hg_take 23 (by rfl) (want_t (dj := 98) (by rfl) (by kernel_rfl) rfl) (by rfl) rfl (by decide) (by kernel_rfl) (by kernel_rfl) (by kernel_rfl) (fun _ _ _ h => h) (Below.refl _ _) (fun q hq => y_cellv (v := l.unm.v) (RowAt.below hq r1.lt r1) rfl (by kernel_rfl) rfl rfl) ?_
          refine hg_take 24 (by rfl) (want_t (dj := 98) (by rfl) (by kernel_rfl) rfl) (by rfl) rfl (by decide) (by kernel_rfl) (by kernel_rfl) (by kernel_rfl) (fun _ _ _ h => h) (Below.refl _ _) (fun q hq => y_fld (off := 2) (by kernel_rfl) rfl rfl) ?_
          have r2 := RowAt.below hw27 r2.lt r2
          have r2 := RowAt.below hw28 r2.lt r2
          have r2 := RowAt.below hw29 r2.lt r2
          have r2 := RowAt.below hw30 r2.lt r2
          have r2 := RowAt.below hw31 r2.lt r2
          refine hg_take 25 (by rfl) (want_t (dj := 98) (by rfl) (by kernel_rfl) rfl) (by rfl) rfl (by decide) (by kernel_rfl) (by kernel_rfl) (by kernel_rfl) (fun _ _ _ h => h) (Below.refl _ _) (fun q hq => y_cellv (v := m.unm.v) (RowAt.below hq r2.lt r2) rfl (by kernel_rfl) rfl rfl) ?_
          refine hg_take 27 (by rfl) (want_t (dj := 98) (by rfl) (by kernel_rfl) rfl) (by rfl) rfl (by decide) (by kernel_rfl) (by kernel_rfl) (by kernel_rfl) (fun _ _ _ h => h) (Below.refl _ _) (fun q hq => y_fld (off := 2) (by kernel_rfl) rfl rfl) ?_
          refine hg_take 28 (by rfl) (want_t (dj := 98) (by rfl) (by kernel_rfl) rfl) (by rfl) rfl (by decide) (by kernel_rfl) (by kernel_rfl) (by kernel_rfl) (fun _ _ _ h => h) (Below.refl _ _) (fun q hq => y_cellv (v := l.unm.v) (RowAt.below hq r1.lt r1) rfl (by kernel_rfl) rfl rfl) ?_
          refine hg_take 29 (by rfl) (want_t (dj := 98) (by rfl) (by kernel_rfl) rfl) (by rfl) rfl (by decide) (by kernel_rfl) (by kernel_rfl) (by kernel_rfl) (fun _ _ _ h => h) (Below.refl _ _) (fun q hq => y_fld (off := 2) (by kernel_rfl) rfl rfl) ?_
          refine hg_take 30 (by rfl) (want_t (dj := 98) (by rfl) (by kernel_rfl) rfl) (by rfl) rfl (by decide) (by kernel_rfl) (by kernel_rfl) (by kernel_rfl) (fun _ _ _ h => h) (Below.refl _ _) (fun q hq => y_cellv (v := m.unm.v) (RowAt.below hq r2.lt r2) rfl (by kernel_rfl) rfl rfl) ?_
          have hl := hl.below (hw30.mono (by omega))
          have hl := hl.below (hw31.mono (by omega))
          have hm := hm.below (hw28.mono (by omega))
          have hm := hm.below (hw29.mono (by omega))
          have hm := hm.below (hw30.mono (by omega))
          have hm := hm.below (hw31.mono (by omega))
          refine hg_one 26 (by rfl) (by kernel_rfl) (want_t (dj := 98) (by rfl) (by kernel_rfl) rfl) ?_
          refine lg_callw (want_t (dj := 98) (by rfl) (by kernel_rfl) rfl) (cutP_any hl.unm hm.unm (by omega) (by omega) (by first | omega | (simp only [List.length_append, List.length_cons, List.length_nil, numOct_length]; omega)) (by first | omega | (simp only [List.length_append, List.length_cons, List.length_nil, numOct_length]; omega))) (by kernel_rfl) rfl rfl rfl (by decide) ?_
          rintro _ w32 ⟨r32, rfl, m32, hw32⟩
          have zw32 := hw32.size
          have cl32 := cutK_length L.unm M.unm
          refine hg_next hw32 ?_
          refine hg_up hw32 ?_
          have hl := hl.below (hw32.mono (by omega))
          have hm := hm.below (hw32.mono (by omega))
          refine hg_one 31 (by rfl) (by kernel_rfl) (want_t (dj := 98) (by rfl) (by kernel_rfl) rfl) ?_
          refine lg_callw (want_t (dj := 98) (by rfl) (by kernel_rfl) rfl) (rcut_any hl.unm hm.unm (by omega) (by omega) (by first | omega | (simp only [List.length_append, List.length_cons, List.length_nil, numOct_length]; omega)) (by first | omega | (simp only [List.length_append, List.length_cons, List.length_nil, numOct_length]; omega))) (by kernel_rfl) rfl rfl rfl (by decide) ?_
          rintro _ w33 ⟨r33, rfl, m33, hw33⟩
          have zw33 := hw33.size
          have cl33 := cutK_length L.unm M.unm
          refine hg_next hw33 ?_
          refine hg_up hw33 ?_
          have m32 := m32.below (hw33.mono (by omega))
          refine hg_one 32 (by rfl) (by kernel_rfl) (want_t (dj := 98) (by rfl) (by kernel_rfl) rfl) ?_
          refine lg_callw (want_t (dj := 98) (by rfl) (by kernel_rfl) rfl) (ints_S m32 m33 (by omega) (by omega)) (by kernel_rfl) rfl rfl rfl (by decide) ?_
          rintro u34 w34 ⟨e34, hw34⟩
          have zw34 := hw34.size
          obtain rfl : u34 = .bool true := e34.trans (congrArg Value.bool (decide_eq_true rfl))
          refine hg_next hw34 ?_
          refine hg_up hw34 ?_
          refine hg_take 33 (by rfl) (want_none (by rfl)) (by rfl) rfl (by decide) (by kernel_rfl) (by kernel_rfl) (by kernel_rfl) (fun _ _ _ h => h) (Below.refl _ _) (fun q hq => y_pick true rfl rfl rfl) ?_
          refine hg_take 34 (by rfl) (want_none (by rfl)) (by rfl) rfl (by decide) (by kernel_rfl) (by kernel_rfl) (by kernel_rfl) (fun _ _ _ h => h) (Below.refl _ _) (fun q hq => y_assign rfl rfl) ?_
          refine hg_done (by kernel_rfl) ?_
          refine nx (E' := [(8, _)]) (fk rfl fn) ?_
          refine cg_ret ?_
          have u := u.trans (n1.below.mono u.size)
          have u := u.trans (n2.below.mono u.size)
          have u := u.trans (hw3.mono u.size)
          have u := u.trans (hw5.mono u.size)
          have u := u.trans (hw7.mono u.size)
          have u := u.trans (hw9.mono u.size)
          have u := u.trans (n10.below.mono u.size)
          have u := u.trans (s11.below _ (by omega))
          have u := u.trans (hw12.mono u.size)
          have u := u.trans (n13.below.mono u.size)
          have u := u.trans (s14.below _ (by omega))
          have u := u.trans (dW15.mono u.size)
          have u := u.trans (hw16.mono u.size)
          have u := u.trans (hw19.mono u.size)
          have u := u.trans (hw20.mono u.size)
          have u := u.trans (hw21.mono u.size)
          have u := u.trans (hw23.mono u.size)
          have u := u.trans (dW25.mono u.size)
          have u := u.trans (hw27.mono u.size)
          have u := u.trans (hw28.mono u.size)
          have u := u.trans (hw29.mono u.size)
          have u := u.trans (hw30.mono u.size)
          have u := u.trans (hw31.mono u.size)
          have u := u.trans (hw32.mono u.size)
          have u := u.trans (hw33.mono u.size)
          have u := u.trans (hw34.mono u.size)
          exact eg_ret_tmp rfl rfl ⟨_, rfl, rfl, u⟩
        · refine hg_one 4 (by rfl) (by kernel_rfl) (want_t (dj := 78) (by rfl) (by kernel_rfl) rfl) ?_
          refine lg_callw (want_t (dj := 78) (by rfl) (by kernel_rfl) rfl) (same_any (hl.more (B' := W25.heap.size) (by omega)) (hm.more (B' := W25.heap.size) (by omega)) (Nat.le_refl _)) (by kernel_rfl) rfl rfl rfl (by decide) ?_
          rintro u35 w35 ⟨e35, hw35⟩
          have zw35 := hw35.size
          obtain rfl : u35 = .bool false := e35.trans (congrArg Value.bool (decide_eq_false c26))
          refine hg_next hw35 ?_
          refine hg_up hw35 ?_
          have hl := hl.below (hw35.mono (by omega))
          have hm := hm.below (hw35.mono (by omega))
          refine hg_one 7 (by rfl) (by kernel_rfl) (want_t (dj := 78) (by rfl) (by kernel_rfl) rfl) ?_
          refine lg_callw (want_t (dj := 78) (by rfl) (by kernel_rfl) rfl) (rsame_any (hl.more (B' := w35.heap.size) (by omega)) (hm.more (B' := w35.heap.size) (by omega)) (Nat.le_refl _)) (by kernel_rfl) rfl rfl rfl (by decide) ?_
          rintro u36 w36 ⟨e36, hw36⟩
          have zw36 := hw36.size
          obtain rfl : u36 = .bool false := e36.trans (congrArg Value.bool (decide_eq_false c26))
          refine hg_next hw36 ?_
          refine hg_up hw36 ?_
          refine hg_take 8 (by rfl) (want_t (dj := 78) (by rfl) (by kernel_rfl) rfl) (by rfl) rfl (by decide) (by kernel_rfl) (by kernel_rfl) (by kernel_rfl) (fun _ _ _ h => h) (Below.refl _ _) (fun q hq => yb (b := (false == false)) (show (false == false) = true from rfl) (y_beq (a := false) (b := false) hubo rfl rfl rfl)) ?_
          refine hg_take 9 (by rfl) (want_none (by rfl)) (by rfl) rfl (by decide) (by kernel_rfl) (by kernel_rfl) (by kernel_rfl) (fun _ _ _ h => h) (Below.refl _ _) (fun q hq => y_pick true rfl rfl rfl) ?_
          refine hg_take 10 (by rfl) (want_none (by rfl)) (by rfl) rfl (by decide) (by kernel_rfl) (by kernel_rfl) (by kernel_rfl) (fun _ _ _ h => h) (Below.refl _ _) (fun q hq => y_move rfl rfl) ?_
          refine hg_take 11 (by rfl) (want_t (dj := 87) (by rfl) (by kernel_rfl) rfl) (by rfl) rfl (by decide) (by kernel_rfl) (by kernel_rfl) (by kernel_rfl) (fun _ _ _ h => h) (Below.refl _ _) (fun q hq => y_fld (off := 2) (by kernel_rfl) rfl rfl) ?_
          have r1 := RowAt.below hw35 r1.lt r1
          have r1 := RowAt.below hw36 r1.lt r1
          refine hg_take 12 (by rfl) (want_t (dj := 87) (by rfl) (by kernel_rfl) rfl) (by rfl) rfl (by decide) (by kernel_rfl) (by kernel_rfl) (by kernel_rfl) (fun _ _ _ h => h) (Below.refl _ _) (fun q hq => y_cellv (v := l.unm.v) (RowAt.below hq r1.lt r1) rfl (by kernel_rfl) rfl rfl) ?_
          refine hg_take 13 (by rfl) (want_t (dj := 87) (by rfl) (by kernel_rfl) rfl) (by rfl) rfl (by decide) (by kernel_rfl) (by kernel_rfl) (by kernel_rfl) (fun _ _ _ h => h) (Below.refl _ _) (fun q hq => y_move rfl rfl) ?_
          refine hg_take 15 (by rfl) (want_t (dj := 87) (by rfl) (by kernel_rfl) rfl) (by rfl) rfl (by decide) (by kernel_rfl) (by kernel_rfl) (by kernel_rfl) (fun _ _ _ h => h) (Below.refl _ _) (fun q hq => y_fld (off := 2) (by kernel_rfl) rfl rfl) ?_
          refine hg_take 16 (by rfl) (want_t (dj := 87) (by rfl) (by kernel_rfl) rfl) (by rfl) rfl (by decide) (by kernel_rfl) (by kernel_rfl) (by kernel_rfl) (fun _ _ _ h => h) (Below.refl _ _) (fun q hq => y_cellv (v := l.unm.v) (RowAt.below hq r1.lt r1) rfl (by kernel_rfl) rfl rfl) ?_
          refine hg_take 17 (by rfl) (want_t (dj := 87) (by rfl) (by kernel_rfl) rfl) (by rfl) rfl (by decide) (by kernel_rfl) (by kernel_rfl) (by kernel_rfl) (fun _ _ _ h => h) (Below.refl _ _) (fun q hq => y_move rfl rfl) ?_
          have hl := hl.below (hw36.mono (by omega))
          refine hg_one 14 (by rfl) (by kernel_rfl) (want_t (dj := 87) (by rfl) (by kernel_rfl) rfl) ?_
          refine lg_callw (want_t (dj := 87) (by rfl) (by kernel_rfl) rfl) (joinP_any i hl.unm (by omega) (by first | omega | (simp only [List.length_append, List.length_cons, List.length_nil, numOct_length]; omega))) (by kernel_rfl) rfl rfl rfl (by decide) ?_
          rintro _ w37 ⟨r37, rfl, m37, hw37⟩
          have zw37 := hw37.size
          have jl37 := joinK_length L.unm i
          refine hg_next hw37 ?_
          refine hg_up hw37 ?_
          have hl := hl.below (hw37.mono (by omega))
          refine hg_one 18 (by rfl) (by kernel_rfl) (want_t (dj := 87) (by rfl) (by kernel_rfl) rfl) ?_
          refine lg_callw (want_t (dj := 87) (by rfl) (by kernel_rfl) rfl) (rjoin_any i hl.unm (by omega) (by first | omega | (simp only [List.length_append, List.length_cons, List.length_nil, numOct_length]; omega))) (by kernel_rfl) rfl rfl rfl (by decide) ?_
          rintro _ w38 ⟨r38, rfl, m38, hw38⟩
          have zw38 := hw38.size
          have jl38 := joinK_length L.unm i
          refine hg_next hw38 ?_
          refine hg_up hw38 ?_
          have m37 := m37.below (hw38.mono (by omega))
          refine hg_one 19 (by rfl) (by kernel_rfl) (want_t (dj := 87) (by rfl) (by kernel_rfl) rfl) ?_
          refine lg_callw (want_t (dj := 87) (by rfl) (by kernel_rfl) rfl) (ints_S m37 m38 (by omega) (by omega)) (by kernel_rfl) rfl rfl rfl (by decide) ?_
          rintro u39 w39 ⟨e39, hw39⟩
          have zw39 := hw39.size
          obtain rfl : u39 = .bool true := e39.trans (congrArg Value.bool (decide_eq_true rfl))
          refine hg_next hw39 ?_
          refine hg_up hw39 ?_
          refine hg_take 20 (by rfl) (want_none (by rfl)) (by rfl) rfl (by decide) (by kernel_rfl) (by kernel_rfl) (by kernel_rfl) (fun _ _ _ h => h) (Below.refl _ _) (fun q hq => y_pick true rfl rfl rfl) ?_
          refine hg_take 21 (by rfl) (want_none (by rfl)) (by rfl) rfl (by decide) (by kernel_rfl) (by kernel_rfl) (by kernel_rfl) (fun _ _ _ h => h) (Below.refl _ _) (fun q hq => y_move rfl rfl) ?_
          refine hg_take 22 (by rfl) (want_t (dj := 98) (by rfl) (by kernel_rfl) rfl) (by rfl) rfl (by decide) (by kernel_rfl) (by kernel_rfl) (by kernel_rfl) (fun _ _ _ h => h) (Below.refl _ _) (fun q hq => y_fld (off := 2) (by kernel_rfl) rfl rfl) ?_
          have r1 := RowAt.below hw37 r1.lt r1
          have r1 := RowAt.below hw38 r1.lt r1
          have r1 := RowAt.below hw39 r1.lt r1
          refine hg_take 23 (by rfl) (want_t (dj := 98) (by rfl) (by kernel_rfl) rfl) (by rfl) rfl (by decide) (by kernel_rfl) (by kernel_rfl) (by kernel_rfl) (fun _ _ _ h => h) (Below.refl _ _) (fun q hq => y_cellv (v := l.unm.v) (RowAt.below hq r1.lt r1) rfl (by kernel_rfl) rfl rfl) ?_
          refine hg_take 24 (by rfl) (want_t (dj := 98) (by rfl) (by kernel_rfl) rfl) (by rfl) rfl (by decide) (by kernel_rfl) (by kernel_rfl) (by kernel_rfl) (fun _ _ _ h => h) (Below.refl _ _) (fun q hq => y_fld (off := 2) (by kernel_rfl) rfl rfl) ?_
          have r2 := RowAt.below hw35 r2.lt r2
          have r2 := RowAt.below hw36 r2.lt r2
          have r2 := RowAt.below hw37 r2.lt r2
          have r2 := RowAt.below hw38 r2.lt r2
          have r2 := RowAt.below hw39 r2.lt r2
          refine hg_take 25 (by rfl) (want_t (dj := 98) (by rfl) (by kernel_rfl) rfl) (by rfl) rfl (by decide) (by kernel_rfl) (by kernel_rfl) (by kernel_rfl) (fun _ _ _ h => h) (Below.refl _ _) (fun q hq => y_cellv (v := m.unm.v) (RowAt.below hq r2.lt r2) rfl (by kernel_rfl) rfl rfl) ?_
          refine hg_take 27 (by rfl) (want_t (dj := 98) (by rfl) (by kernel_rfl) rfl) (by rfl) rfl (by decide) (by kernel_rfl) (by kernel_rfl) (by kernel_rfl) (fun _ _ _ h => h) (Below.refl _ _) (fun q hq => y_fld (off := 2) (by kernel_rfl) rfl rfl) ?_
          refine hg_take 28 (by rfl) (want_t (dj := 98) (by rfl) (by kernel_rfl) rfl) (by rfl) rfl (by decide) (by kernel_rfl) (by kernel_rfl) (by kernel_rfl) (fun _ _ _ h => h) (Below.refl _ _) (fun q hq => y_cellv (v := l.unm.v) (RowAt.below hq r1.lt r1) rfl (by kernel_rfl) rfl rfl) ?_
          refine hg_take 29 (by rfl) (want_t (dj := 98) (by rfl) (by kernel_rfl) rfl) (by rfl) rfl (by decide) (by kernel_rfl) (by kernel_rfl) (by kernel_rfl) (fun _ _ _ h => h) (Below.refl _ _) (fun q hq => y_fld (off := 2) (by kernel_rfl) rfl rfl) ?_
          refine hg_take 30 (by rfl) (want_t (dj := 98) (by rfl) (by kernel_rfl) rfl) (by rfl) rfl (by decide) (by kernel_rfl) (by kernel_rfl) (by kernel_rfl) (fun _ _ _ h => h) (Below.refl _ _) (fun q hq => y_cellv (v := m.unm.v) (RowAt.below hq r2.lt r2) rfl (by kernel_rfl) rfl rfl) ?_
          have hl := hl.below (hw38.mono (by omega))
          have hl := hl.below (hw39.mono (by omega))
          have hm := hm.below (hw36.mono (by omega))
          have hm := hm.below (hw37.mono (by omega))
          have hm := hm.below (hw38.mono (by omega))
          have hm := hm.below (hw39.mono (by omega))
          refine hg_one 26 (by rfl) (by kernel_rfl) (want_t (dj := 98) (by rfl) (by kernel_rfl) rfl) ?_
          refine lg_callw (want_t (dj := 98) (by rfl) (by kernel_rfl) rfl) (cutP_any hl.unm hm.unm (by omega) (by omega) (by first | omega | (simp only [List.length_append, List.length_cons, List.length_nil, numOct_length]; omega)) (by first | omega | (simp only [List.length_append, List.length_cons, List.length_nil, numOct_length]; omega))) (by kernel_rfl) rfl rfl rfl (by decide) ?_
          rintro _ w40 ⟨r40, rfl, m40, hw40⟩
          have zw40 := hw40.size
          have cl40 := cutK_length L.unm M.unm
          refine hg_next hw40 ?_
          refine hg_up hw40 ?_
          have hl := hl.below (hw40.mono (by omega))
          have hm := hm.below (hw40.mono (by omega))
          refine hg_one 31 (by rfl) (by kernel_rfl) (want_t (dj := 98) (by rfl) (by kernel_rfl) rfl) ?_
          refine lg_callw (want_t (dj := 98) (by rfl) (by kernel_rfl) rfl) (rcut_any hl.unm hm.unm (by omega) (by omega) (by first | omega | (simp only [List.length_append, List.length_cons, List.length_nil, numOct_length]; omega)) (by first | omega | (simp only [List.length_append, List.length_cons, List.length_nil, numOct_length]; omega))) (by kernel_rfl) rfl rfl rfl (by decide) ?_
          rintro _ w41 ⟨r41, rfl, m41, hw41⟩
          have zw41 := hw41.size
          have cl41 := cutK_length L.unm M.unm
          refine hg_next hw41 ?_
          refine hg_up hw41 ?_
          have m40 := m40.below (hw41.mono (by omega))
          refine hg_one 32 (by rfl) (by kernel_rfl) (want_t (dj := 98) (by rfl) (by kernel_rfl) rfl) ?_
          refine lg_callw (want_t (dj := 98) (by rfl) (by kernel_rfl) rfl) (ints_S m40 m41 (by omega) (by omega)) (by kernel_rfl) rfl rfl rfl (by decide) ?_
          rintro u42 w42 ⟨e42, hw42⟩
          have zw42 := hw42.size
          obtain rfl : u42 = .bool true := e42.trans (congrArg Value.bool (decide_eq_true rfl))
          refine hg_next hw42 ?_
          refine hg_up hw42 ?_
          refine hg_take 33 (by rfl) (want_none (by rfl)) (by rfl) rfl (by decide) (by kernel_rfl) (by kernel_rfl) (by kernel_rfl) (fun _ _ _ h => h) (Below.refl _ _) (fun q hq => y_pick true rfl rfl rfl) ?_
          refine hg_take 34 (by rfl) (want_none (by rfl)) (by rfl) rfl (by decide) (by kernel_rfl) (by kernel_rfl) (by kernel_rfl) (fun _ _ _ h => h) (Below.refl _ _) (fun q hq => y_assign rfl rfl) ?_
          refine hg_done (by kernel_rfl) ?_
          refine nx (E' := [(8, _)]) (fk rfl fn) ?_
          refine cg_ret ?_
          have u := u.trans (n1.below.mono u.size)
          have u := u.trans (n2.below.mono u.size)
          have u := u.trans (hw3.mono u.size)
          have u := u.trans (hw5.mono u.size)
          have u := u.trans (hw7.mono u.size)
          have u := u.trans (hw9.mono u.size)
          have u := u.trans (n10.below.mono u.size)
          have u := u.trans (s11.below _ (by omega))
          have u := u.trans (hw12.mono u.size)
          have u := u.trans (n13.below.mono u.size)
          have u := u.trans (s14.below _ (by omega))
          have u := u.trans (dW15.mono u.size)
          have u := u.trans (hw16.mono u.size)
          have u := u.trans (hw19.mono u.size)
          have u := u.trans (hw20.mono u.size)
          have u := u.trans (hw21.mono u.size)
          have u := u.trans (hw23.mono u.size)
          have u := u.trans (dW25.mono u.size)
          have u := u.trans (hw35.mono u.size)
          have u := u.trans (hw36.mono u.size)
          have u := u.trans (hw37.mono u.size)
          have u := u.trans (hw38.mono u.size)
          have u := u.trans (hw39.mono u.size)
          have u := u.trans (hw40.mono u.size)
          have u := u.trans (hw41.mono u.size)
          have u := u.trans (hw42.mono u.size)
          exact eg_ret_tmp rfl rfl ⟨_, rfl, rfl, u⟩
    · refine lg_callw (want_t (dj := 20) (by rfl) (by kernel_rfl) rfl) (few_any (hm.more (B' := w5.heap.size) (by omega)) (Nat.le_refl _)) (by kernel_rfl) rfl rfl rfl (by decide) ?_
      rintro u43 w43 ⟨e43, hw43⟩
      have zw43 := hw43.size
      obtain rfl : u43 = .bool false := e43.trans (congrArg Value.bool (decide_eq_false c6))
      refine lsw (want_t (dj := 20) (by rfl) (by kernel_rfl) rfl) (y_bnot rfl rfl) rfl (by decide) ?_
      refine lsw (want_none (by rfl)) (y_pick false rfl rfl rfl) rfl (by decide) ?_
      refine lsw (want_none (by rfl)) (y_move rfl rfl) rfl (by decide) ?_
      refine lsk (want_f (dj := 25) (by rfl) (by kernel_rfl) rfl) rfl (by decide) ?_
      refine lsk (want_f (dj := 25) (by rfl) (by kernel_rfl) rfl) rfl (by decide) ?_
      refine lsk (want_f (dj := 25) (by rfl) (by kernel_rfl) rfl) rfl (by decide) ?_
      refine lsw (want_none (by rfl)) (y_pick true rfl rfl rfl) rfl (by decide) ?_
      refine lg_nil ?_
      refine nx (E' := [(2, _), (3, _), (4, _), (5, _), (8, _), (9, _), (29, _)]) (fk rfl (fk rfl (fk rfl (fk rfl (fk rfl (fk rfl (fk rfl fn))))))) ?_
      refine cg_ct rfl ?_
      refine cg_seq ?_
      refine cg_region ?_
      refine lsw (want_none (by rfl)) (y_move rfl rfl) rfl (by decide) ?_
      refine lsw (want_none (by rfl)) (y_assign rfl rfl) rfl (by decide) ?_
      refine lg_nil ?_
      refine nx (E' := [(2, _), (3, _), (4, _), (5, _), (9, _), (8, _)]) (fk rfl (fk rfl (fk rfl (fk rfl (fk rfl (fk rfl fn)))))) ?_
      refine cg_ret ?_
      refine eg_seq_ret ?_
      have u := u.trans (n1.below.mono u.size)
      have u := u.trans (n2.below.mono u.size)
      have u := u.trans (hw3.mono u.size)
      have u := u.trans (hw5.mono u.size)
      have u := u.trans (hw43.mono u.size)
      exact eg_ret_tmp rfl rfl ⟨_, rfl, rfl, u⟩
  · refine lg_callw (want_none (by rfl)) (few_any (hl.more (B' := w3.heap.size) (by omega)) (Nat.le_refl _)) (by kernel_rfl) rfl rfl rfl (by decide) ?_
    rintro u44 w44 ⟨e44, hw44⟩
    have zw44 := hw44.size
    obtain rfl : u44 = .bool false := e44.trans (congrArg Value.bool (decide_eq_false c4))
    refine lsw (want_none (by rfl)) (y_bnot rfl rfl) rfl (by decide) ?_
    refine lsw (want_none (by rfl)) (y_move rfl rfl) rfl (by decide) ?_
    refine lsk (want_f (dj := 20) (by rfl) (by kernel_rfl) rfl) rfl (by decide) ?_
    refine lsk (want_f (dj := 20) (by rfl) (by kernel_rfl) rfl) rfl (by decide) ?_
    refine lsk (want_f (dj := 20) (by rfl) (by kernel_rfl) rfl) rfl (by decide) ?_
    refine lsw (want_none (by rfl)) (y_pick true rfl rfl rfl) rfl (by decide) ?_
    refine lsw (want_none (by rfl)) (y_move rfl rfl) rfl (by decide) ?_
    refine lsk (want_f (dj := 25) (by rfl) (by kernel_rfl) rfl) rfl (by decide) ?_
    refine lsk (want_f (dj := 25) (by rfl) (by kernel_rfl) rfl) rfl (by decide) ?_
    refine lsk (want_f (dj := 25) (by rfl) (by kernel_rfl) rfl) rfl (by decide) ?_
    refine lsw (want_none (by rfl)) (y_pick true rfl rfl rfl) rfl (by decide) ?_
    refine lg_nil ?_
    refine nx (E' := [(2, _), (3, _), (4, _), (5, _), (8, _), (9, _), (29, _)]) (fk rfl (fk rfl (fk rfl (fk rfl (fk rfl (fk rfl (fk rfl fn))))))) ?_
    refine cg_ct rfl ?_
    refine cg_seq ?_
    refine cg_region ?_
    refine lsw (want_none (by rfl)) (y_move rfl rfl) rfl (by decide) ?_
    refine lsw (want_none (by rfl)) (y_assign rfl rfl) rfl (by decide) ?_
    refine lg_nil ?_
    refine nx (E' := [(2, _), (3, _), (4, _), (5, _), (9, _), (8, _)]) (fk rfl (fk rfl (fk rfl (fk rfl (fk rfl (fk rfl fn)))))) ?_
    refine cg_ret ?_
    refine eg_seq_ret ?_
    have u := u.trans (n1.below.mono u.size)
    have u := u.trans (n2.below.mono u.size)
    have u := u.trans (hw3.mono u.size)
    have u := u.trans (hw44.mono u.size)
    exact eg_ret_tmp rfl rfl ⟨_, rfl, rfl, u⟩
end Go.Proofs.Ytomjcbjekofkoaa
