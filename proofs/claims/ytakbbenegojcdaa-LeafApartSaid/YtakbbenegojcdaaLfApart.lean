/-
  Unlike leaves have unlike octets.
-/
import Derived.Test.YtakbbenegojcdaaLfAwake
namespace Go.Proofs.Ytakbbenegojcdaa
open Go.ChangeShapes Go.WideShapes Go.ChangeAt Go.RowKit
set_option linter.unusedVariables false

set_option maxHeartbeats 4000000 in
theorem leafApart_any {W : World} {l : LfV} {L : Lf} (hl : IsLf W W.heap.size l L) {m : LfV} {M : Lf} (hm : IsLf W W.heap.size m M) : Calls Try.prog 6 #[.agg (l.cs L), .agg (m.cs M)] W fun e W' => ∃ v, e = .returned v ∧ v = .bool true ∧ Below W.heap.size W W' := by
  refine calls_cg (n := 54) Try.func6 rfl Try.ntmps6 (by simp) ?_
  show CG _ _ _ [(0, .agg (l.cs L)), (1, .agg (m.cs M))] _ _
  have u := Below.refl W.heap.size W
  refine cg_seq ?_
  refine cg_region ?_
  refine lg_boxw (want_none (by rfl)) rfl rfl (by kernel_rfl) rfl (by decide) fun b1 w1 n1 => ?_
  have r1 := n1.row
  have k1 := n1.blk
  have z1 := n1.size
  have lt1 : b1 < w1.heap.size := by omega
  refine lg_boxw (want_none (by rfl)) rfl rfl (by kernel_rfl) rfl (by decide) fun b2 w2 n2 => ?_
  have r2 := n2.row
  have k2 := n2.blk
  have z2 := n2.size
  have lt2 : b2 < w2.heap.size := by omega
  refine lsw (want_none (by rfl)) (y_assign rfl rfl) rfl (by decide) ?_
  refine lg_nil ?_
  refine nx (E' := [(2, _), (3, _), (4, _)]) (fk rfl (fk rfl (fk rfl fn))) ?_
  refine cg_seq ?_
  refine cg_region ?_
  refine lg_callw (want_none (by rfl)) (awakeL_any _) (by kernel_rfl) rfl rfl rfl (by decide) ?_
  rintro _ w3 ⟨rfl, hw3⟩
  have zw3 := hw3.size
  refine lsw (want_none (by rfl)) (y_assign rfl rfl) rfl (by decide) ?_
  refine lg_nil ?_
  refine nx (E' := [(2, _), (3, _), (4, _), (5, _)]) (fk rfl (fk rfl (fk rfl (fk rfl fn)))) ?_
  refine cg_seq ?_
  refine cg_seq ?_
  refine cg_region ?_
  have r1 := n2.keep r1
  have r1 := RowAt.below hw3 r1.lt r1
  refine lsw (want_none (by rfl)) (y_loadA r1 (by kernel_rfl) (by kernel_rfl) rfl rfl) rfl (by decide) ?_
  have hl := hl.below (n1.below.mono (by omega))
  have hl := hl.below (n2.below.mono (by omega))
  have hl := hl.below (hw3.mono (by omega))
  by_cases c4 : lfFew L
  · refine lg_callw (want_none (by rfl)) (few_any (hl.more (B' := w3.heap.size) (by omega)) (Nat.le_refl _)) (by kernel_rfl) rfl rfl rfl (by decide) ?_
    rintro u5 w5 ⟨e5, hw5⟩
    have zw5 := hw5.size
    obtain rfl : u5 = .bool true := e5.trans (congrArg Value.bool (decide_eq_true c4))
    refine lsw (want_none (by rfl)) (y_bnot rfl rfl) rfl (by decide) ?_
    refine lsw (want_none (by rfl)) (y_move rfl rfl) rfl (by decide) ?_
    have r2 := RowAt.below hw3 r2.lt r2
    have r2 := RowAt.below hw5 r2.lt r2
    refine lsw (want_t (dj := 13) (by rfl) (by kernel_rfl) rfl) (y_loadA r2 (by kernel_rfl) (by kernel_rfl) rfl rfl) rfl (by decide) ?_
    have hm := hm.below (n1.below.mono (by omega))
    have hm := hm.below (n2.below.mono (by omega))
    have hm := hm.below (hw3.mono (by omega))
    have hm := hm.below (hw5.mono (by omega))
    by_cases c6 : lfFew M
    · refine lg_callw (want_t (dj := 13) (by rfl) (by kernel_rfl) rfl) (few_any (hm.more (B' := w5.heap.size) (by omega)) (Nat.le_refl _)) (by kernel_rfl) rfl rfl rfl (by decide) ?_
      rintro u7 w7 ⟨e7, hw7⟩
      have zw7 := hw7.size
      obtain rfl : u7 = .bool true := e7.trans (congrArg Value.bool (decide_eq_true c6))
      refine lsw (want_t (dj := 13) (by rfl) (by kernel_rfl) rfl) (y_bnot rfl rfl) rfl (by decide) ?_
      refine lsw (want_none (by rfl)) (y_pick false rfl rfl rfl) rfl (by decide) ?_
      refine lsw (want_none (by rfl)) (y_move rfl rfl) rfl (by decide) ?_
      have r1 := RowAt.below hw5 r1.lt r1
      have r1 := RowAt.below hw7 r1.lt r1
      refine lsw (want_t (dj := 18) (by rfl) (by kernel_rfl) rfl) (y_loadA r1 (by kernel_rfl) (by kernel_rfl) rfl rfl) rfl (by decide) ?_
      have hl := hl.below (hw5.mono (by omega))
      have hl := hl.below (hw7.mono (by omega))
      refine lg_callw (want_t (dj := 18) (by rfl) (by kernel_rfl) rfl) (check_any (hl.more (B' := w7.heap.size) (by omega)) (Nat.le_refl _)) (by kernel_rfl) rfl rfl rfl (by decide) ?_
      rintro _ w8 ⟨rfl, hw8⟩
      have zw8 := hw8.size
      by_cases c9 : (lfCheck L) = 0
      · refine lsw (want_t (dj := 18) (by rfl) (by kernel_rfl) rfl) (yb (nd_f c9) (yi_neq rfl rfl rfl)) rfl (by decide) ?_
        refine lsw (want_none (by rfl)) (y_pick false rfl rfl rfl) rfl (by decide) ?_
        refine lsw (want_none (by rfl)) (y_move rfl rfl) rfl (by decide) ?_
        have r2 := RowAt.below hw7 r2.lt r2
        have r2 := RowAt.below hw8 r2.lt r2
        refine lsw (want_t (dj := 23) (by rfl) (by kernel_rfl) rfl) (y_loadA r2 (by kernel_rfl) (by kernel_rfl) rfl rfl) rfl (by decide) ?_
        have hm := hm.below (hw7.mono (by omega))
        have hm := hm.below (hw8.mono (by omega))
        refine lg_callw (want_t (dj := 23) (by rfl) (by kernel_rfl) rfl) (check_any (hm.more (B' := w8.heap.size) (by omega)) (Nat.le_refl _)) (by kernel_rfl) rfl rfl rfl (by decide) ?_
        rintro _ w10 ⟨rfl, hw10⟩
        have zw10 := hw10.size
        by_cases c11 : (lfCheck M) = 0
        · refine lsw (want_t (dj := 23) (by rfl) (by kernel_rfl) rfl) (yb (nd_f c11) (yi_neq rfl rfl rfl)) rfl (by decide) ?_
          refine lsw (want_none (by rfl)) (y_pick false rfl rfl rfl) rfl (by decide) ?_
          refine lg_nil ?_
          refine nx (E' := [(2, _), (3, _), (4, _), (5, _), (27, _)]) (fk rfl (fk rfl (fk rfl (fk rfl (fk rfl fn))))) ?_
          refine cg_cf rfl ?_
          refine cg_skip ?_
          refine nx (E' := [(2, _), (3, _), (4, _), (5, _)]) (fk rfl (fk rfl (fk rfl (fk rfl fn)))) ?_
          refine cg_seq ?_
          refine cg_region ?_
          have r1 := RowAt.below hw8 r1.lt r1
          have r1 := RowAt.below hw10 r1.lt r1
          refine lsw (want_none (by rfl)) (y_loadA r1 (by kernel_rfl) (by kernel_rfl) rfl rfl) rfl (by decide) ?_
          have hl := hl.below (hw8.mono (by omega))
          have hl := hl.below (hw10.mono (by omega))
          refine lg_callw (want_none (by rfl)) (putL_any ((Sl.nil _ 0).more (B' := w10.heap.size) (by omega)) (hl.more (B' := w10.heap.size) (by omega)) (Nat.le_refl _) (by first | omega | (simp only [List.length_append, List.length_nil, numOct_length]; omega))) (by kernel_rfl) rfl rfl rfl (by decide) ?_
          rintro _ w12 ⟨r12, rfl, m12, hw12⟩
          have zw12 := hw12.size
          rw [List.nil_append] at m12
          have lp12 := lfPut_le L
          refine lsw (want_none (by rfl)) (y_assign rfl rfl) rfl (by decide) ?_
          refine lg_nil ?_
          refine nx (E' := [(2, _), (3, _), (4, _), (5, _), (6, _)]) (fk rfl (fk rfl (fk rfl (fk rfl (fk rfl fn))))) ?_
          refine cg_seq ?_
          refine cg_region ?_
          have r2 := RowAt.below hw10 r2.lt r2
          have r2 := RowAt.below hw12 r2.lt r2
          refine lsw (want_none (by rfl)) (y_loadA r2 (by kernel_rfl) (by kernel_rfl) rfl rfl) rfl (by decide) ?_
          have hm := hm.below (hw10.mono (by omega))
          have hm := hm.below (hw12.mono (by omega))
          refine lg_callw (want_none (by rfl)) (putL_any ((Sl.nil _ 0).more (B' := w12.heap.size) (by omega)) (hm.more (B' := w12.heap.size) (by omega)) (Nat.le_refl _) (by first | omega | (simp only [List.length_append, List.length_nil, numOct_length]; omega))) (by kernel_rfl) rfl rfl rfl (by decide) ?_
          rintro _ w13 ⟨r13, rfl, m13, hw13⟩
          have zw13 := hw13.size
          rw [List.nil_append] at m13
          have lp13 := lfPut_le M
          refine lsw (want_none (by rfl)) (y_assign rfl rfl) rfl (by decide) ?_
          refine lg_nil ?_
          refine nx (E' := [(2, _), (3, _), (4, _), (5, _), (6, _), (7, _)]) (fk rfl (fk rfl (fk rfl (fk rfl (fk rfl (fk rfl fn)))))) ?_
          refine cg_seq ?_
          refine cg_region ?_
          refine lsw (want_none (by rfl)) (y_move rfl rfl) rfl (by decide) ?_
          have m12 := m12.below (hw13.mono (by omega))
          refine lsw (want_none (by rfl)) (y_lenS (el := 5) m12 (by kernel_rfl) rfl rfl) rfl (by decide) ?_
          refine lsw (want_none (by rfl)) (y_move rfl rfl) rfl (by decide) ?_
          refine lsw (want_none (by rfl)) (y_lenS (el := 5) m13 (by kernel_rfl) rfl rfl) rfl (by decide) ?_
          refine lsw (want_none (by rfl)) (y_min rfl rfl rfl) rfl (by decide) ?_
          refine lsw (want_none (by rfl)) (y_assign rfl rfl) rfl (by decide) ?_
          refine lg_nil ?_
          refine nx (E' := [(2, _), (3, _), (4, _), (5, _), (6, _), (7, _), (8, _)]) (fk rfl (fk rfl (fk rfl (fk rfl (fk rfl (fk rfl (fk rfl fn))))))) ?_
          refine cg_seq ?_
          refine cg_held (by kernel_rfl) fun W14 eW14 => ?_
          have dW14 := below_drew _ _ eW14
          have zW14 := size_drew _ _ eW14
          clear eW14
          refine hg_take 0 (by rfl) (want_none (by rfl)) (by rfl) rfl (by decide) (by kernel_rfl) (by kernel_rfl) (by kernel_rfl) (fun _ _ _ h => h) (Below.refl _ _) (fun q hq => y_move rfl rfl) ?_
          refine hg_take 1 (by rfl) (want_none (by rfl)) (by rfl) rfl (by decide) (by kernel_rfl) (by kernel_rfl) (by kernel_rfl) (fun _ _ _ h => h) (Below.refl _ _) (fun q hq => y_move rfl rfl) ?_
          refine hg_take 2 (by rfl) (want_t (dj := 39) (by rfl) (by kernel_rfl) rfl) (by rfl) rfl (by decide) (by kernel_rfl) (by kernel_rfl) (by kernel_rfl) (fun _ _ _ h => h) (Below.refl _ _) (fun q hq => y_move rfl rfl) ?_
          refine hg_take 3 (by rfl) (want_t (dj := 39) (by rfl) (by kernel_rfl) rfl) (by rfl) rfl (by decide) (by kernel_rfl) (by kernel_rfl) (by kernel_rfl) (fun _ _ _ h => h) (Below.refl _ _) (fun q hq => y_move rfl rfl) ?_
          have m12 := m12.below (dW14.mono (by omega))
          have cu15 := m12.head ((min ((lfPut L).length) ((lfPut M).length))) (by have q1 := m12.len; have q2 := m12.cap; omega)
          refine hg_take 4 (by rfl) (want_t (dj := 39) (by rfl) (by kernel_rfl) rfl) (by rfl) rfl (by decide) (by kernel_rfl) (by kernel_rfl) (by kernel_rfl) (fun _ _ _ h => h) (Below.refl _ _) (fun q hq => y_cutS_h (s := r12) (hi := (min ((lfPut L).length : Int) ((lfPut M).length : Int))) ((min ((lfPut L).length) ((lfPut M).length))) (by omega) (by have q1 := m12.len; have q2 := m12.cap; omega) rfl rfl rfl) ?_
          have by16 : Bytes ((lfPut L).take ((min ((lfPut L).length) ((lfPut M).length)))) := cu15.bytes
          refine hg_take 5 (by rfl) (want_t (dj := 39) (by rfl) (by kernel_rfl) rfl) (by rfl) rfl (by decide) (by kernel_rfl) (by kernel_rfl) (by kernel_rfl) (fun _ _ _ h => h) (Below.refl _ _) (fun q hq => y_strS (cu15.below (hq.mono (by omega))) rfl rfl) ?_
          refine hg_take 6 (by rfl) (want_t (dj := 39) (by rfl) (by kernel_rfl) rfl) (by rfl) rfl (by decide) (by kernel_rfl) (by kernel_rfl) (by kernel_rfl) (fun _ _ _ h => h) (Below.refl _ _) (fun q hq => y_move rfl rfl) ?_
          refine hg_take 7 (by rfl) (want_t (dj := 39) (by rfl) (by kernel_rfl) rfl) (by rfl) rfl (by decide) (by kernel_rfl) (by kernel_rfl) (by kernel_rfl) (fun _ _ _ h => h) (Below.refl _ _) (fun q hq => y_move rfl rfl) ?_
          have m13 := m13.below (dW14.mono (by omega))
          have cu17 := m13.head ((min ((lfPut L).length) ((lfPut M).length))) (by have q1 := m13.len; have q2 := m13.cap; omega)
          refine hg_take 8 (by rfl) (want_t (dj := 39) (by rfl) (by kernel_rfl) rfl) (by rfl) rfl (by decide) (by kernel_rfl) (by kernel_rfl) (by kernel_rfl) (fun _ _ _ h => h) (Below.refl _ _) (fun q hq => y_cutS_h (s := r13) (hi := (min ((lfPut L).length : Int) ((lfPut M).length : Int))) ((min ((lfPut L).length) ((lfPut M).length))) (by omega) (by have q1 := m13.len; have q2 := m13.cap; omega) rfl rfl rfl) ?_
          have by18 : Bytes ((lfPut M).take ((min ((lfPut L).length) ((lfPut M).length)))) := cu17.bytes
          refine hg_take 9 (by rfl) (want_t (dj := 39) (by rfl) (by kernel_rfl) rfl) (by rfl) rfl (by decide) (by kernel_rfl) (by kernel_rfl) (by kernel_rfl) (fun _ _ _ h => h) (Below.refl _ _) (fun q hq => y_strS (cu17.below (hq.mono (by omega))) rfl rfl) ?_
          by_cases c19 : ((lfPut L).take ((min ((lfPut L).length) ((lfPut M).length)))) = ((lfPut M).take ((min ((lfPut L).length) ((lfPut M).length))))
          · have q := lf_apart c9 c11 c19
            refine hg_take 10 (by rfl) (want_t (dj := 39) (by rfl) (by kernel_rfl) rfl) (by rfl) rfl (by decide) (by kernel_rfl) (by kernel_rfl) (by kernel_rfl) (fun _ _ _ h => h) (Below.refl _ _) (fun q hq => yb (decide_eq_true c19) (y_seqS (xs := ((lfPut L).take ((min ((lfPut L).length) ((lfPut M).length))))) (ys := ((lfPut M).take ((min ((lfPut L).length) ((lfPut M).length))))) by16 by18 rfl rfl rfl)) ?_
            have r1 := RowAt.below hw12 r1.lt r1
            have r1 := RowAt.below hw13 r1.lt r1
            have r1 := RowAt.below dW14 r1.lt r1
            refine hg_take 11 (by rfl) (want_t (dj := 39) (by rfl) (by kernel_rfl) rfl) (by rfl) rfl (by decide) (by kernel_rfl) (by kernel_rfl) (by kernel_rfl) (fun _ _ _ h => h) (Below.refl _ _) (fun q hq => y_loadA (RowAt.below hq r1.lt r1) (by kernel_rfl) (by kernel_rfl) rfl rfl) ?_
            have r2 := RowAt.below hw13 r2.lt r2
            have r2 := RowAt.below dW14 r2.lt r2
            refine hg_take 12 (by rfl) (want_t (dj := 39) (by rfl) (by kernel_rfl) rfl) (by rfl) rfl (by decide) (by kernel_rfl) (by kernel_rfl) (by kernel_rfl) (fun _ _ _ h => h) (Below.refl _ _) (fun q hq => y_loadA (RowAt.below hq r2.lt r2) (by kernel_rfl) (by kernel_rfl) rfl rfl) ?_
            have hl := hl.below (hw12.mono (by omega))
            have hl := hl.below (hw13.mono (by omega))
            have hl := hl.below (dW14.mono (by omega))
            have hm := hm.below (hw13.mono (by omega))
            have hm := hm.below (dW14.mono (by omega))
            refine hg_one 13 (by rfl) (by kernel_rfl) (want_t (dj := 39) (by rfl) (by kernel_rfl) rfl) ?_
            refine lg_callw (want_t (dj := 39) (by rfl) (by kernel_rfl) rfl) (same_any (hl.more (B' := W14.heap.size) (by omega)) (hm.more (B' := W14.heap.size) (by omega)) (Nat.le_refl _)) (by kernel_rfl) rfl rfl rfl (by decide) ?_
            rintro u20 w20 ⟨e20, hw20⟩
            have zw20 := hw20.size
            obtain rfl : u20 = .bool true := e20.trans (congrArg Value.bool (decide_eq_true (show LfSame L M from (lfSame_iff.2 q))))
            refine hg_next hw20 ?_
            refine hg_up hw20 ?_
            refine hg_take 14 (by rfl) (want_t (dj := 39) (by rfl) (by kernel_rfl) rfl) (by rfl) rfl (by decide) (by kernel_rfl) (by kernel_rfl) (by kernel_rfl) (fun _ _ _ h => h) (Below.refl _ _) (fun q hq => yb (b := (true == true)) (show (true == true) = true from rfl) (y_beq (a := true) (b := true) hubo rfl rfl rfl)) ?_
            refine hg_take 15 (by rfl) (want_none (by rfl)) (by rfl) rfl (by decide) (by kernel_rfl) (by kernel_rfl) (by kernel_rfl) (fun _ _ _ h => h) (Below.refl _ _) (fun q hq => y_pick true rfl rfl rfl) ?_
            refine hg_take 16 (by rfl) (want_none (by rfl)) (by rfl) rfl (by decide) (by kernel_rfl) (by kernel_rfl) (by kernel_rfl) (fun _ _ _ h => h) (Below.refl _ _) (fun q hq => y_assign rfl rfl) ?_
            refine hg_done (by kernel_rfl) ?_
            refine nx (E' := [(4, _)]) (fk rfl fn) ?_
            refine cg_ret ?_
            have u := u.trans (n1.below.mono u.size)
            have u := u.trans (n2.below.mono u.size)
            have u := u.trans (hw3.mono u.size)
            have u := u.trans (hw5.mono u.size)
            have u := u.trans (hw7.mono u.size)
            have u := u.trans (hw8.mono u.size)
            have u := u.trans (hw10.mono u.size)
            have u := u.trans (hw12.mono u.size)
            have u := u.trans (hw13.mono u.size)
            have u := u.trans (dW14.mono u.size)
            have u := u.trans (hw20.mono u.size)
            exact eg_ret_tmp rfl rfl ⟨_, rfl, rfl, u⟩
          · have q : ¬ LfSame L M := fun e => c19 (by rw [lfSame_iff.1 e])
            refine hg_take 10 (by rfl) (want_t (dj := 39) (by rfl) (by kernel_rfl) rfl) (by rfl) rfl (by decide) (by kernel_rfl) (by kernel_rfl) (by kernel_rfl) (fun _ _ _ h => h) (Below.refl _ _) (fun q hq => yb (decide_eq_false c19) (y_seqS (xs := ((lfPut L).take ((min ((lfPut L).length) ((lfPut M).length))))) (ys := ((lfPut M).take ((min ((lfPut L).length) ((lfPut M).length))))) by16 by18 rfl rfl rfl)) ?_
            have r1 := RowAt.below hw12 r1.lt r1
            have r1 := RowAt.below hw13 r1.lt r1
            have r1 := RowAt.below dW14 r1.lt r1
            refine hg_take 11 (by rfl) (want_t (dj := 39) (by rfl) (by kernel_rfl) rfl) (by rfl) rfl (by decide) (by kernel_rfl) (by kernel_rfl) (by kernel_rfl) (fun _ _ _ h => h) (Below.refl _ _) (fun q hq => y_loadA (RowAt.below hq r1.lt r1) (by kernel_rfl) (by kernel_rfl) rfl rfl) ?_
            have r2 := RowAt.below hw13 r2.lt r2
            have r2 := RowAt.below dW14 r2.lt r2
            refine hg_take 12 (by rfl) (want_t (dj := 39) (by rfl) (by kernel_rfl) rfl) (by rfl) rfl (by decide) (by kernel_rfl) (by kernel_rfl) (by kernel_rfl) (fun _ _ _ h => h) (Below.refl _ _) (fun q hq => y_loadA (RowAt.below hq r2.lt r2) (by kernel_rfl) (by kernel_rfl) rfl rfl) ?_
            have hl := hl.below (hw12.mono (by omega))
            have hl := hl.below (hw13.mono (by omega))
            have hl := hl.below (dW14.mono (by omega))
            have hm := hm.below (hw13.mono (by omega))
            have hm := hm.below (dW14.mono (by omega))
            refine hg_one 13 (by rfl) (by kernel_rfl) (want_t (dj := 39) (by rfl) (by kernel_rfl) rfl) ?_
            refine lg_callw (want_t (dj := 39) (by rfl) (by kernel_rfl) rfl) (same_any (hl.more (B' := W14.heap.size) (by omega)) (hm.more (B' := W14.heap.size) (by omega)) (Nat.le_refl _)) (by kernel_rfl) rfl rfl rfl (by decide) ?_
            rintro u21 w21 ⟨e21, hw21⟩
            have zw21 := hw21.size
            obtain rfl : u21 = .bool false := e21.trans (congrArg Value.bool (decide_eq_false q))
            refine hg_next hw21 ?_
            refine hg_up hw21 ?_
            refine hg_take 14 (by rfl) (want_t (dj := 39) (by rfl) (by kernel_rfl) rfl) (by rfl) rfl (by decide) (by kernel_rfl) (by kernel_rfl) (by kernel_rfl) (fun _ _ _ h => h) (Below.refl _ _) (fun q hq => yb (b := (false == false)) (show (false == false) = true from rfl) (y_beq (a := false) (b := false) hubo rfl rfl rfl)) ?_
            refine hg_take 15 (by rfl) (want_none (by rfl)) (by rfl) rfl (by decide) (by kernel_rfl) (by kernel_rfl) (by kernel_rfl) (fun _ _ _ h => h) (Below.refl _ _) (fun q hq => y_pick true rfl rfl rfl) ?_
            refine hg_take 16 (by rfl) (want_none (by rfl)) (by rfl) rfl (by decide) (by kernel_rfl) (by kernel_rfl) (by kernel_rfl) (fun _ _ _ h => h) (Below.refl _ _) (fun q hq => y_assign rfl rfl) ?_
            refine hg_done (by kernel_rfl) ?_
            refine nx (E' := [(4, _)]) (fk rfl fn) ?_
            refine cg_ret ?_
            have u := u.trans (n1.below.mono u.size)
            have u := u.trans (n2.below.mono u.size)
            have u := u.trans (hw3.mono u.size)
            have u := u.trans (hw5.mono u.size)
            have u := u.trans (hw7.mono u.size)
            have u := u.trans (hw8.mono u.size)
            have u := u.trans (hw10.mono u.size)
            have u := u.trans (hw12.mono u.size)
            have u := u.trans (hw13.mono u.size)
            have u := u.trans (dW14.mono u.size)
            have u := u.trans (hw21.mono u.size)
            exact eg_ret_tmp rfl rfl ⟨_, rfl, rfl, u⟩
        · refine lsw (want_t (dj := 23) (by rfl) (by kernel_rfl) rfl) (yb (nd_t c11) (yi_neq rfl rfl rfl)) rfl (by decide) ?_
          refine lsw (want_none (by rfl)) (y_pick false rfl rfl rfl) rfl (by decide) ?_
          refine lg_nil ?_
          refine nx (E' := [(2, _), (3, _), (4, _), (5, _), (27, _)]) (fk rfl (fk rfl (fk rfl (fk rfl (fk rfl fn))))) ?_
          refine cg_ct rfl ?_
          refine cg_seq ?_
          refine cg_region ?_
          refine lsw (want_none (by rfl)) (y_move rfl rfl) rfl (by decide) ?_
          refine lsw (want_none (by rfl)) (y_assign rfl rfl) rfl (by decide) ?_
          refine lg_nil ?_
          refine nx (E' := [(2, _), (3, _), (5, _), (4, _)]) (fk rfl (fk rfl (fk rfl (fk rfl fn)))) ?_
          refine cg_ret ?_
          refine eg_seq_ret ?_
          have u := u.trans (n1.below.mono u.size)
          have u := u.trans (n2.below.mono u.size)
          have u := u.trans (hw3.mono u.size)
          have u := u.trans (hw5.mono u.size)
          have u := u.trans (hw7.mono u.size)
          have u := u.trans (hw8.mono u.size)
          have u := u.trans (hw10.mono u.size)
          exact eg_ret_tmp rfl rfl ⟨_, rfl, rfl, u⟩
      · refine lsw (want_t (dj := 18) (by rfl) (by kernel_rfl) rfl) (yb (nd_t c9) (yi_neq rfl rfl rfl)) rfl (by decide) ?_
        refine lsw (want_none (by rfl)) (y_pick false rfl rfl rfl) rfl (by decide) ?_
        refine lsw (want_none (by rfl)) (y_move rfl rfl) rfl (by decide) ?_
        refine lsk (want_f (dj := 23) (by rfl) (by kernel_rfl) rfl) rfl (by decide) ?_
        refine lsk (want_f (dj := 23) (by rfl) (by kernel_rfl) rfl) rfl (by decide) ?_
        refine lsk (want_f (dj := 23) (by rfl) (by kernel_rfl) rfl) rfl (by decide) ?_
        refine lsw (want_none (by rfl)) (y_pick true rfl rfl rfl) rfl (by decide) ?_
        refine lg_nil ?_
        refine nx (E' := [(2, _), (3, _), (4, _), (5, _), (27, _)]) (fk rfl (fk rfl (fk rfl (fk rfl (fk rfl fn))))) ?_
        refine cg_ct rfl ?_
        refine cg_seq ?_
        refine cg_region ?_
        refine lsw (want_none (by rfl)) (y_move rfl rfl) rfl (by decide) ?_
        refine lsw (want_none (by rfl)) (y_assign rfl rfl) rfl (by decide) ?_
        refine lg_nil ?_
        refine nx (E' := [(2, _), (3, _), (5, _), (4, _)]) (fk rfl (fk rfl (fk rfl (fk rfl fn)))) ?_
        refine cg_ret ?_
        refine eg_seq_ret ?_
        have u := u.trans (n1.below.mono u.size)
        have u := u.trans (n2.below.mono u.size)
        have u := u.trans (hw3.mono u.size)
        have u := u.trans (hw5.mono u.size)
        have u := u.trans (hw7.mono u.size)
        have u := u.trans (hw8.mono u.size)
        exact eg_ret_tmp rfl rfl ⟨_, rfl, rfl, u⟩
    · refine lg_callw (want_t (dj := 13) (by rfl) (by kernel_rfl) rfl) (few_any (hm.more (B' := w5.heap.size) (by omega)) (Nat.le_refl _)) (by kernel_rfl) rfl rfl rfl (by decide) ?_
      rintro u22 w22 ⟨e22, hw22⟩
      have zw22 := hw22.size
      obtain rfl : u22 = .bool false := e22.trans (congrArg Value.bool (decide_eq_false c6))
      refine lsw (want_t (dj := 13) (by rfl) (by kernel_rfl) rfl) (y_bnot rfl rfl) rfl (by decide) ?_
      refine lsw (want_none (by rfl)) (y_pick false rfl rfl rfl) rfl (by decide) ?_
      refine lsw (want_none (by rfl)) (y_move rfl rfl) rfl (by decide) ?_
      refine lsk (want_f (dj := 18) (by rfl) (by kernel_rfl) rfl) rfl (by decide) ?_
      refine lsk (want_f (dj := 18) (by rfl) (by kernel_rfl) rfl) rfl (by decide) ?_
      refine lsk (want_f (dj := 18) (by rfl) (by kernel_rfl) rfl) rfl (by decide) ?_
      refine lsw (want_none (by rfl)) (y_pick true rfl rfl rfl) rfl (by decide) ?_
      refine lsw (want_none (by rfl)) (y_move rfl rfl) rfl (by decide) ?_
      refine lsk (want_f (dj := 23) (by rfl) (by kernel_rfl) rfl) rfl (by decide) ?_
      refine lsk (want_f (dj := 23) (by rfl) (by kernel_rfl) rfl) rfl (by decide) ?_
      refine lsk (want_f (dj := 23) (by rfl) (by kernel_rfl) rfl) rfl (by decide) ?_
      refine lsw (want_none (by rfl)) (y_pick true rfl rfl rfl) rfl (by decide) ?_
      refine lg_nil ?_
      refine nx (E' := [(2, _), (3, _), (4, _), (5, _), (27, _)]) (fk rfl (fk rfl (fk rfl (fk rfl (fk rfl fn))))) ?_
      refine cg_ct rfl ?_
      refine cg_seq ?_
      refine cg_region ?_
      refine lsw (want_none (by rfl)) (y_move rfl rfl) rfl (by decide) ?_
      refine lsw (want_none (by rfl)) (y_assign rfl rfl) rfl (by decide) ?_
      refine lg_nil ?_
      refine nx (E' := [(2, _), (3, _), (5, _), (4, _)]) (fk rfl (fk rfl (fk rfl (fk rfl fn)))) ?_
      refine cg_ret ?_
      refine eg_seq_ret ?_
      have u := u.trans (n1.below.mono u.size)
      have u := u.trans (n2.below.mono u.size)
      have u := u.trans (hw3.mono u.size)
      have u := u.trans (hw5.mono u.size)
      have u := u.trans (hw22.mono u.size)
      exact eg_ret_tmp rfl rfl ⟨_, rfl, rfl, u⟩
  · refine lg_callw (want_none (by rfl)) (few_any (hl.more (B' := w3.heap.size) (by omega)) (Nat.le_refl _)) (by kernel_rfl) rfl rfl rfl (by decide) ?_
    rintro u23 w23 ⟨e23, hw23⟩
    have zw23 := hw23.size
    obtain rfl : u23 = .bool false := e23.trans (congrArg Value.bool (decide_eq_false c4))
    refine lsw (want_none (by rfl)) (y_bnot rfl rfl) rfl (by decide) ?_
    refine lsw (want_none (by rfl)) (y_move rfl rfl) rfl (by decide) ?_
    refine lsk (want_f (dj := 13) (by rfl) (by kernel_rfl) rfl) rfl (by decide) ?_
    refine lsk (want_f (dj := 13) (by rfl) (by kernel_rfl) rfl) rfl (by decide) ?_
    refine lsk (want_f (dj := 13) (by rfl) (by kernel_rfl) rfl) rfl (by decide) ?_
    refine lsw (want_none (by rfl)) (y_pick true rfl rfl rfl) rfl (by decide) ?_
    refine lsw (want_none (by rfl)) (y_move rfl rfl) rfl (by decide) ?_
    refine lsk (want_f (dj := 18) (by rfl) (by kernel_rfl) rfl) rfl (by decide) ?_
    refine lsk (want_f (dj := 18) (by rfl) (by kernel_rfl) rfl) rfl (by decide) ?_
    refine lsk (want_f (dj := 18) (by rfl) (by kernel_rfl) rfl) rfl (by decide) ?_
    refine lsw (want_none (by rfl)) (y_pick true rfl rfl rfl) rfl (by decide) ?_
    refine lsw (want_none (by rfl)) (y_move rfl rfl) rfl (by decide) ?_
    refine lsk (want_f (dj := 23) (by rfl) (by kernel_rfl) rfl) rfl (by decide) ?_
    refine lsk (want_f (dj := 23) (by rfl) (by kernel_rfl) rfl) rfl (by decide) ?_
    refine lsk (want_f (dj := 23) (by rfl) (by kernel_rfl) rfl) rfl (by decide) ?_
    refine lsw (want_none (by rfl)) (y_pick true rfl rfl rfl) rfl (by decide) ?_
    refine lg_nil ?_
    refine nx (E' := [(2, _), (3, _), (4, _), (5, _), (27, _)]) (fk rfl (fk rfl (fk rfl (fk rfl (fk rfl fn))))) ?_
    refine cg_ct rfl ?_
    refine cg_seq ?_
    refine cg_region ?_
    refine lsw (want_none (by rfl)) (y_move rfl rfl) rfl (by decide) ?_
    refine lsw (want_none (by rfl)) (y_assign rfl rfl) rfl (by decide) ?_
    refine lg_nil ?_
    refine nx (E' := [(2, _), (3, _), (5, _), (4, _)]) (fk rfl (fk rfl (fk rfl (fk rfl fn)))) ?_
    refine cg_ret ?_
    refine eg_seq_ret ?_
    have u := u.trans (n1.below.mono u.size)
    have u := u.trans (n2.below.mono u.size)
    have u := u.trans (hw3.mono u.size)
    have u := u.trans (hw23.mono u.size)
    exact eg_ret_tmp rfl rfl ⟨_, rfl, rfl, u⟩
end Go.Proofs.Ytakbbenegojcdaa
