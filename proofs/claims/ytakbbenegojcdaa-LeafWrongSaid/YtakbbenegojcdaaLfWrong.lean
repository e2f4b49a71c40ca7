/-
  With which something is wrong is not put.
-/
import Derived.Test.YtakbbenegojcdaaLfAwake
namespace Go.Proofs.Ytakbbenegojcdaa
open Go.ChangeShapes Go.WideShapes Go.ChangeAt Go.RowKit
set_option linter.unusedVariables false

set_option maxHeartbeats 4000000 in
theorem leafWrong_any {W : World} {l : LfV} {L : Lf} (hl : IsLf W W.heap.size l L) (n : Int) : Calls Try.prog 8 #[.agg (l.cs L), nv n] W fun e W' => ∃ v, e = .returned v ∧ v = .bool true ∧ Below W.heap.size W W' := by
  refine calls_cg (n := 90) Try.func8 rfl Try.ntmps8 (by simp) ?_
  show CG _ _ _ [(0, .agg (l.cs L)), (1, nv n)] _ _
  have u := Below.refl W.heap.size W
  refine cg_seq ?_
  refine cg_region ?_
  refine lg_boxw (want_none (by rfl)) rfl rfl (by kernel_rfl) rfl (by decide) fun b1 w1 n1 => ?_
  have r1 := n1.row
  have k1 := n1.blk
  have z1 := n1.size
  have lt1 : b1 < w1.heap.size := by omega
  refine lsw (want_none (by rfl)) (y_assign rfl rfl) rfl (by decide) ?_
  refine lg_nil ?_
  refine nx (E' := [(1, _), (2, _), (4, _)]) (fk rfl (fk rfl (fk rfl fn))) ?_
  refine cg_seq ?_
  refine cg_region ?_
  refine lg_callw (want_none (by rfl)) (awakeL_any _) (by kernel_rfl) rfl rfl rfl (by decide) ?_
  rintro _ w2 ⟨rfl, hw2⟩
  have zw2 := hw2.size
  refine lsw (want_none (by rfl)) (y_assign rfl rfl) rfl (by decide) ?_
  refine lg_nil ?_
  refine nx (E' := [(1, _), (2, _), (4, _), (5, _)]) (fk rfl (fk rfl (fk rfl (fk rfl fn)))) ?_
  refine cg_seq ?_
  refine cg_seq ?_
  refine cg_region ?_
  have r1 := RowAt.below hw2 r1.lt r1
  refine lsw (want_none (by rfl)) (y_loadA r1 (by kernel_rfl) (by kernel_rfl) rfl rfl) rfl (by decide) ?_
  have hl := hl.below (n1.below.mono (by omega))
  have hl := hl.below (hw2.mono (by omega))
  by_cases c3 : lfFew L
  · refine lg_callw (want_none (by rfl)) (few_any (hl.more (B' := w2.heap.size) (by omega)) (Nat.le_refl _)) (by kernel_rfl) rfl rfl rfl (by decide) ?_
    rintro u4 w4 ⟨e4, hw4⟩
    have zw4 := hw4.size
    obtain rfl : u4 = .bool true := e4.trans (congrArg Value.bool (decide_eq_true c3))
    refine lsw (want_none (by rfl)) (y_bnot rfl rfl) rfl (by decide) ?_
    refine lg_nil ?_
    refine nx (E' := [(1, _), (2, _), (4, _), (5, _), (14, _)]) (fk rfl (fk rfl (fk rfl (fk rfl (fk rfl fn))))) ?_
    refine cg_cf rfl ?_
    refine cg_skip ?_
    refine nx (E' := [(1, _), (2, _), (4, _), (5, _)]) (fk rfl (fk rfl (fk rfl (fk rfl fn)))) ?_
    refine cg_seq ?_
    refine cg_region ?_
    have r1 := RowAt.below hw4 r1.lt r1
    refine lsw (want_none (by rfl)) (y_loadA r1 (by kernel_rfl) (by kernel_rfl) rfl rfl) rfl (by decide) ?_
    refine lg_allocw (cs := LfV.zero.cs Lf.zero) (want_none (by rfl)) rfl (by kernel_rfl) rfl (by decide) fun b5 w5 n5 => ?_
    have r5 := n5.row
    have k5 := n5.blk
    have z5 := n5.size
    have lt5 : b5 < w5.heap.size := by omega
    have o6 := r5
    refine lg_stw (want_none (by rfl)) r5 rfl rfl rfl (by kernel_rfl) (by kernel_rfl) rfl rfl fun w6 s6 => ?_
    have r5 := s6.row
    have z6 := s6.size
    refine lg_nil ?_
    refine nx (E' := [(1, _), (2, _), (4, _), (5, _), (6, _)]) (fk rfl (fk rfl (fk rfl (fk rfl (fk rfl fn))))) ?_
    refine cg_seq ?_
    refine cg_region ?_
    refine lsw (want_none (by rfl)) (y_fld (off := 0) (by kernel_rfl) rfl rfl) rfl (by decide) ?_
    have o7 := r5
    refine lg_st1 (new := #[nilS.v, l.cred.v, nv L.src, l.par.v]) (want_none (by rfl)) r5 rfl rfl rfl (by kernel_rfl) rfl (show 0 < 4 by decide) rfl rfl fun w7 s7 => ?_
    have r5 := s7.row
    have z7 := s7.size
    refine lg_nil ?_
    refine nx (E' := [(1, _), (2, _), (4, _), (5, _), (6, _)]) (fk rfl (fk rfl (fk rfl (fk rfl (fk rfl fn))))) ?_
    refine cg_seq ?_
    refine cg_region ?_
    have r1 := n5.keep r1
    have r1 := s6.keep r1 (by omega)
    have r1 := s7.keep r1 (by omega)
    refine lsw (want_none (by rfl)) (y_loadA r1 (by kernel_rfl) (by kernel_rfl) rfl rfl) rfl (by decide) ?_
    refine lg_allocw (cs := LfV.zero.cs Lf.zero) (want_none (by rfl)) rfl (by kernel_rfl) rfl (by decide) fun b8 w8 n8 => ?_
    have r8 := n8.row
    have k8 := n8.blk
    have z8 := n8.size
    have lt8 : b8 < w8.heap.size := by omega
    have o9 := r8
    refine lg_stw (want_none (by rfl)) r8 rfl rfl rfl (by kernel_rfl) (by kernel_rfl) rfl rfl fun w9 s9 => ?_
    have r8 := s9.row
    have z9 := s9.size
    refine lg_nil ?_
    refine nx (E' := [(1, _), (2, _), (4, _), (5, _), (6, _), (7, _)]) (fk rfl (fk rfl (fk rfl (fk rfl (fk rfl (fk rfl fn)))))) ?_
    refine cg_seq ?_
    refine cg_region ?_
    refine lg_mk 201 (want_none (by rfl)) rfl (by decide) rfl rfl rfl rfl (by decide) fun b10 w10 n10 => ?_
    have r10 := n10.row
    have k10 := n10.blk
    have z10 := n10.size
    have m10 : Sl w10 (b10 + 1) ⟨some ⟨b10, 0, none⟩, 201, 201⟩ (rd (fun _ => 0) 201) := ⟨Nat.le_refl _, of_decide_eq_true (by kernel_rfl), oct_row r10 (Nat.le_refl _)⟩
    refine lsw (want_none (by rfl)) (y_fld (off := 1) (by kernel_rfl) rfl rfl) rfl (by decide) ?_
    have r8 := n10.keep r8
    have o11 := r8
    refine lg_st1 (new := #[l.enc.v, (⟨some ⟨b10, 0, none⟩, 201, 201⟩ : SlV).v, nv L.src, l.par.v]) (want_none (by rfl)) r8 rfl rfl rfl (by kernel_rfl) rfl (show 1 < 4 by decide) rfl rfl fun w11 s11 => ?_
    have r8 := s11.row
    have z11 := s11.size
    refine lg_nil ?_
    refine nx (E' := [(1, _), (2, _), (4, _), (5, _), (6, _), (7, _)]) (fk rfl (fk rfl (fk rfl (fk rfl (fk rfl (fk rfl fn)))))) ?_
    refine cg_seq ?_
    refine cg_region ?_
    have r1 := n8.keep r1
    have r1 := s9.keep r1 (by omega)
    have r1 := n10.keep r1
    have r1 := s11.keep r1 (by omega)
    refine lsw (want_none (by rfl)) (y_loadA r1 (by kernel_rfl) (by kernel_rfl) rfl rfl) rfl (by decide) ?_
    refine lg_allocw (cs := LfV.zero.cs Lf.zero) (want_none (by rfl)) rfl (by kernel_rfl) rfl (by decide) fun b12 w12 n12 => ?_
    have r12 := n12.row
    have k12 := n12.blk
    have z12 := n12.size
    have lt12 : b12 < w12.heap.size := by omega
    have o13 := r12
    refine lg_stw (want_none (by rfl)) r12 rfl rfl rfl (by kernel_rfl) (by kernel_rfl) rfl rfl fun w13 s13 => ?_
    have r12 := s13.row
    have z13 := s13.size
    refine lg_nil ?_
    refine nx (E' := [(1, _), (2, _), (4, _), (5, _), (6, _), (7, _), (8, _)]) (fk rfl (fk rfl (fk rfl (fk rfl (fk rfl (fk rfl (fk rfl fn))))))) ?_
    refine cg_seq ?_
    refine cg_region ?_
    refine lsw (want_none (by rfl)) (y_move rfl rfl) rfl (by decide) ?_
    refine lsw (want_none (by rfl)) (y_fld (off := 2) (by kernel_rfl) rfl rfl) rfl (by decide) ?_
    have o14 := r12
    refine lg_st1 (new := #[l.enc.v, l.cred.v, nv n, l.par.v]) (want_none (by rfl)) r12 rfl rfl rfl (by kernel_rfl) rfl (show 2 < 4 by decide) rfl rfl fun w14 s14 => ?_
    have r12 := s14.row
    have z14 := s14.size
    refine lg_nil ?_
    refine nx (E' := [(1, _), (2, _), (4, _), (5, _), (6, _), (7, _), (8, _)]) (fk rfl (fk rfl (fk rfl (fk rfl (fk rfl (fk rfl (fk rfl fn))))))) ?_
    refine cg_seq ?_
    refine cg_region ?_
    have r1 := n12.keep r1
    have r1 := s13.keep r1 (by omega)
    have r1 := s14.keep r1 (by omega)
    refine lsw (want_none (by rfl)) (y_loadA r1 (by kernel_rfl) (by kernel_rfl) rfl rfl) rfl (by decide) ?_
    refine lg_allocw (cs := LfV.zero.cs Lf.zero) (want_none (by rfl)) rfl (by kernel_rfl) rfl (by decide) fun b15 w15 n15 => ?_
    have r15 := n15.row
    have k15 := n15.blk
    have z15 := n15.size
    have lt15 : b15 < w15.heap.size := by omega
    have o16 := r15
    refine lg_stw (want_none (by rfl)) r15 rfl rfl rfl (by kernel_rfl) (by kernel_rfl) rfl rfl fun w16 s16 => ?_
    have r15 := s16.row
    have z16 := s16.size
    refine lg_nil ?_
    refine nx (E' := [(1, _), (2, _), (4, _), (5, _), (6, _), (7, _), (8, _), (9, _)]) (fk rfl (fk rfl (fk rfl (fk rfl (fk rfl (fk rfl (fk rfl (fk rfl fn)))))))) ?_
    refine cg_seq ?_
    refine cg_region ?_
    refine lsw (want_none (by rfl)) (y_fld (off := 2) (by kernel_rfl) rfl rfl) rfl (by decide) ?_
    have o17 := r15
    refine lg_st1 (new := #[l.enc.v, l.cred.v, nv 2, l.par.v]) (want_none (by rfl)) r15 rfl rfl rfl (by kernel_rfl) rfl (show 2 < 4 by decide) rfl rfl fun w17 s17 => ?_
    have r15 := s17.row
    have z17 := s17.size
    refine lg_nil ?_
    refine nx (E' := [(1, _), (2, _), (4, _), (5, _), (6, _), (7, _), (8, _), (9, _)]) (fk rfl (fk rfl (fk rfl (fk rfl (fk rfl (fk rfl (fk rfl (fk rfl fn)))))))) ?_
    refine cg_seq ?_
    refine cg_region ?_
    refine lg_bslice (z := .int .u8 0) (cs := #[.int .u8 1]) huo24 (by kernel_rfl) (by decide) (by decide) rfl rfl (by kernel_rfl) rfl rfl (by decide) fun b18 w18 n18 => ?_
    have r18 := n18.row
    have k18 := n18.blk
    have z18 := n18.size
    have m18 : Sl w18 (b18 + 1) ⟨some ⟨b18, 0, none⟩, 1, 1⟩ [1] := ⟨Nat.le_refl _, of_decide_eq_true (by kernel_rfl), oct_lit r18 rfl (by decide)⟩
    refine lsw (want_none (by rfl)) (y_fld (off := 3) (by kernel_rfl) rfl rfl) rfl (by decide) ?_
    have r15 := n18.keep r15
    have o19 := r15
    refine lg_st1 (new := #[l.enc.v, l.cred.v, nv 2, (⟨some ⟨b18, 0, none⟩, 1, 1⟩ : SlV).v]) (want_none (by rfl)) r15 rfl rfl rfl (by kernel_rfl) rfl (show 3 < 4 by decide) rfl rfl fun w19 s19 => ?_
    have r15 := s19.row
    have z19 := s19.size
    refine lg_nil ?_
    refine nx (E' := [(1, _), (2, _), (4, _), (5, _), (6, _), (7, _), (8, _), (9, _)]) (fk rfl (fk rfl (fk rfl (fk rfl (fk rfl (fk rfl (fk rfl (fk rfl fn)))))))) ?_
    refine cg_seq ?_
    refine cg_region ?_
    refine lsw (want_none (by rfl)) (y_move rfl rfl) rfl (by decide) ?_
    by_cases c20 : 1 ≤ n
    · refine lsw (want_none (by rfl)) (yb (decide_eq_true c20) (yi_geq rfl rfl rfl)) rfl (by decide) ?_
      refine lsw (want_none (by rfl)) (y_move rfl rfl) rfl (by decide) ?_
      refine lsw (want_t (dj := 30) (by rfl) (by kernel_rfl) rfl) (y_move rfl rfl) rfl (by decide) ?_
      by_cases c21 : n ≤ 3
      · refine lsw (want_t (dj := 30) (by rfl) (by kernel_rfl) rfl) (yb (decide_eq_true c21) (yi_leq rfl rfl rfl)) rfl (by decide) ?_
        refine lsw (want_none (by rfl)) (y_pick true rfl rfl rfl) rfl (by decide) ?_
        refine lsw (want_none (by rfl)) (y_assign rfl rfl) rfl (by decide) ?_
        refine lg_nil ?_
        refine nx (E' := [(1, _), (2, _), (4, _), (5, _), (6, _), (7, _), (8, _), (9, _), (10, _)]) (fk rfl (fk rfl (fk rfl (fk rfl (fk rfl (fk rfl (fk rfl (fk rfl (fk rfl fn))))))))) ?_
        refine cg_seq ?_
        refine cg_seq ?_
        refine cg_held (by kernel_rfl) fun W22 eW22 => ?_
        have dW22 := below_drew _ _ eW22
        have zW22 := size_drew _ _ eW22
        clear eW22
        have r5 := n8.keep r5
        have r5 := s9.keep r5 (by omega)
        have r5 := n10.keep r5
        have r5 := s11.keep r5 (by omega)
        have r5 := n12.keep r5
        have r5 := s13.keep r5 (by omega)
        have r5 := s14.keep r5 (by omega)
        have r5 := n15.keep r5
        have r5 := s16.keep r5 (by omega)
        have r5 := s17.keep r5 (by omega)
        have r5 := n18.keep r5
        have r5 := s19.keep r5 (by omega)
        have r5 := RowAt.below dW22 r5.lt r5
        refine hg_take 0 (by rfl) (want_none (by rfl)) (by rfl) rfl (by decide) (by kernel_rfl) (by kernel_rfl) (by kernel_rfl) (fun _ _ _ h => h) (Below.refl _ _) (fun q hq => y_loadA (RowAt.below hq r5.lt r5) (by kernel_rfl) (by kernel_rfl) rfl rfl) ?_
        have hl := hl.below (hw4.mono (by omega))
        have hl := hl.below (n5.below.mono (by omega))
        have hl := hl.set o6 rfl s6
        have hl := hl.set o7 rfl s7
        have hl := hl.below (n8.below.mono (by omega))
        have hl := hl.set o9 rfl s9
        have hl := hl.below (n10.below.mono (by omega))
        have hl := hl.set o11 rfl s11
        have hl := hl.below (n12.below.mono (by omega))
        have hl := hl.set o13 rfl s13
        have hl := hl.set o14 rfl s14
        have hl := hl.below (n15.below.mono (by omega))
        have hl := hl.set o16 rfl s16
        have hl := hl.set o17 rfl s17
        have hl := hl.below (n18.below.mono (by omega))
        have hl := hl.set o19 rfl s19
        have hl := hl.below (dW22.mono (by omega))
        refine hg_one 1 (by rfl) (by kernel_rfl) (want_none (by rfl)) ?_
        refine lg_callw (want_none (by rfl)) (check_any (show IsLf W22 W22.heap.size (⟨nilS, l.cred, l.par⟩ : LfV) (⟨[], L.cred, L.src, L.par⟩ : Lf) from ⟨(Sl.nil _ 0).more (by omega), hl.cred.more (by omega), hl.par.more (by omega)⟩) (Nat.le_refl _)) (by kernel_rfl) rfl rfl rfl (by decide) ?_
        rintro _ w23 ⟨rfl, hw23⟩
        have zw23 := hw23.size
        refine hg_next hw23 ?_
        refine hg_up hw23 ?_
        refine hg_take 2 (by rfl) (want_none (by rfl)) (by rfl) rfl (by decide) (by kernel_rfl) (by kernel_rfl) (by kernel_rfl) (fun _ _ _ h => h) (Below.refl _ _) (fun q hq => yb (nd_f (show (lfCheck (⟨[], L.cred, L.src, L.par⟩ : Lf)) = 5 from (wr_a _ _ _))) (yi_neq rfl rfl rfl)) ?_
        refine hg_take 3 (by rfl) (want_none (by rfl)) (by rfl) rfl (by decide) (by kernel_rfl) (by kernel_rfl) (by kernel_rfl) (fun _ _ _ h => h) (Below.refl _ _) (fun q hq => y_move rfl rfl) ?_
        have r5 := RowAt.below hw23 r5.lt r5
        refine hg_take 4 (by rfl) (want_t (dj := 37) (by rfl) (by kernel_rfl) rfl) (by rfl) rfl (by decide) (by kernel_rfl) (by kernel_rfl) (by kernel_rfl) (fun _ _ _ h => h) (Below.refl _ _) (fun q hq => y_loadA (RowAt.below hq r5.lt r5) (by kernel_rfl) (by kernel_rfl) rfl rfl) ?_
        have r8 := n12.keep r8
        have r8 := s13.keep r8 (by omega)
        have r8 := s14.keep r8 (by omega)
        have r8 := n15.keep r8
        have r8 := s16.keep r8 (by omega)
        have r8 := s17.keep r8 (by omega)
        have r8 := n18.keep r8
        have r8 := s19.keep r8 (by omega)
        have r8 := RowAt.below dW22 r8.lt r8
        have r8 := RowAt.below hw23 r8.lt r8
        refine hg_take 7 (by rfl) (want_t (dj := 37) (by rfl) (by kernel_rfl) rfl) (by rfl) rfl (by decide) (by kernel_rfl) (by kernel_rfl) (by kernel_rfl) (fun _ _ _ h => h) (Below.refl _ _) (fun q hq => y_loadA (RowAt.below hq r8.lt r8) (by kernel_rfl) (by kernel_rfl) rfl rfl) ?_
        have hl := hl.below (hw23.mono (by omega))
        refine hg_one 5 (by rfl) (by kernel_rfl) (want_t (dj := 37) (by rfl) (by kernel_rfl) rfl) ?_
        refine lg_callw (want_t (dj := 37) (by rfl) (by kernel_rfl) rfl) (putL_any ((Sl.nil _ 0).more (B' := w23.heap.size) (by omega)) (show IsLf w23 w23.heap.size (⟨nilS, l.cred, l.par⟩ : LfV) (⟨[], L.cred, L.src, L.par⟩ : Lf) from ⟨(Sl.nil _ 0).more (by omega), hl.cred.more (by omega), hl.par.more (by omega)⟩) (Nat.le_refl _) (by first | omega | (simp only [List.length_append, List.length_nil, numOct_length]; omega))) (by kernel_rfl) rfl rfl rfl (by decide) ?_
        rintro _ w24 ⟨r24, rfl, m24, hw24⟩
        have zw24 := hw24.size
        rw [List.nil_append] at m24
        have lp24 := lfPut_le (⟨[], L.cred, L.src, L.par⟩ : Lf)
        refine hg_next hw24 ?_
        refine hg_up hw24 ?_
        refine hg_take 6 (by rfl) (want_t (dj := 37) (by rfl) (by kernel_rfl) rfl) (by rfl) rfl (by decide) (by kernel_rfl) (by kernel_rfl) (by kernel_rfl) (fun _ _ _ h => h) (Below.refl _ _) (fun q hq => y_lenS (el := 5) m24 (by kernel_rfl) rfl rfl) ?_
        have hl := hl.below (hw24.mono (by omega))
        have m10 := m10.set o11 rfl s11
        have m10 := m10.below (n12.below.mono (by omega))
        have m10 := m10.set o13 rfl s13
        have m10 := m10.set o14 rfl s14
        have m10 := m10.below (n15.below.mono (by omega))
        have m10 := m10.set o16 rfl s16
        have m10 := m10.set o17 rfl s17
        have m10 := m10.below (n18.below.mono (by omega))
        have m10 := m10.set o19 rfl s19
        have m10 := m10.below (dW22.mono (by omega))
        have m10 := m10.below (hw23.mono (by omega))
        have m10 := m10.below (hw24.mono (by omega))
        refine hg_one 8 (by rfl) (by kernel_rfl) (want_t (dj := 37) (by rfl) (by kernel_rfl) rfl) ?_
        refine lg_callw (want_t (dj := 37) (by rfl) (by kernel_rfl) rfl) (putL_any ((Sl.nil _ 0).more (B' := w24.heap.size) (by omega)) (show IsLf w24 w24.heap.size (⟨l.enc, (⟨some ⟨b10, 0, none⟩, 201, 201⟩ : SlV), l.par⟩ : LfV) (⟨L.enc, (rd (fun _ => 0) 201), L.src, L.par⟩ : Lf) from ⟨hl.enc.more (by omega), m10.more (by omega), hl.par.more (by omega)⟩) (Nat.le_refl _) (by first | omega | (simp only [List.length_append, List.length_nil, numOct_length]; omega))) (by kernel_rfl) rfl rfl rfl (by decide) ?_
        rintro _ w25 ⟨r25, rfl, m25, hw25⟩
        have zw25 := hw25.size
        rw [List.nil_append] at m25
        have lp25 := lfPut_le (⟨L.enc, (rd (fun _ => 0) 201), L.src, L.par⟩ : Lf)
        refine hg_next hw25 ?_
        refine hg_up hw25 ?_
        refine hg_take 9 (by rfl) (want_t (dj := 37) (by rfl) (by kernel_rfl) rfl) (by rfl) rfl (by decide) (by kernel_rfl) (by kernel_rfl) (by kernel_rfl) (fun _ _ _ h => h) (Below.refl _ _) (fun q hq => y_lenS (el := 5) m25 (by kernel_rfl) rfl rfl) ?_
        refine hg_take 10 (by rfl) (want_t (dj := 37) (by rfl) (by kernel_rfl) rfl) (by rfl) rfl (by decide) (by kernel_rfl) (by kernel_rfl) (by kernel_rfl) (fun _ _ _ h => h) (Below.refl _ _) (fun q hq => yi_addW rfl rfl rfl) ?_
        refine hg_take 11 (by rfl) (want_t (dj := 37) (by rfl) (by kernel_rfl) rfl) (by rfl) rfl (by decide) (by kernel_rfl) (by kernel_rfl) (by kernel_rfl) (fun _ _ _ h => h) (Below.refl _ _) (fun q hq => yb (decide_eq_false (show ¬ (0 < (IntKind.i64.wrap (((lfPut (⟨[], L.cred, L.src, L.par⟩ : Lf)).length : Int) + ((lfPut (⟨L.enc, (rd (fun _ => 0) 201), L.src, L.par⟩ : Lf)).length : Int)))) from (wr_len _ _ (by rw [wr_a]; decide) (wr_b _ _ _)))) (yi_gtr rfl rfl rfl)) ?_
        refine hg_take 12 (by rfl) (want_none (by rfl)) (by rfl) rfl (by decide) (by kernel_rfl) (by kernel_rfl) (by kernel_rfl) (fun _ _ _ h => h) (Below.refl _ _) (fun q hq => y_pick false rfl rfl rfl) ?_
        refine hg_take 13 (by rfl) (want_none (by rfl)) (by rfl) rfl (by decide) (by kernel_rfl) (by kernel_rfl) (by kernel_rfl) (fun _ _ _ h => h) (Below.refl _ _) (fun q hq => y_move rfl rfl) ?_
        have r8 := RowAt.below hw24 r8.lt r8
        have r8 := RowAt.below hw25 r8.lt r8
        refine hg_take 14 (by rfl) (want_t (dj := 47) (by rfl) (by kernel_rfl) rfl) (by rfl) rfl (by decide) (by kernel_rfl) (by kernel_rfl) (by kernel_rfl) (fun _ _ _ h => h) (Below.refl _ _) (fun q hq => y_loadA (RowAt.below hq r8.lt r8) (by kernel_rfl) (by kernel_rfl) rfl rfl) ?_
        have hl := hl.below (hw25.mono (by omega))
        have m10 := m10.below (hw25.mono (by omega))
        refine hg_one 15 (by rfl) (by kernel_rfl) (want_t (dj := 47) (by rfl) (by kernel_rfl) rfl) ?_
        refine lg_callw (want_t (dj := 47) (by rfl) (by kernel_rfl) rfl) (check_any (show IsLf w25 w25.heap.size (⟨l.enc, (⟨some ⟨b10, 0, none⟩, 201, 201⟩ : SlV), l.par⟩ : LfV) (⟨L.enc, (rd (fun _ => 0) 201), L.src, L.par⟩ : Lf) from ⟨hl.enc.more (by omega), m10.more (by omega), hl.par.more (by omega)⟩) (Nat.le_refl _)) (by kernel_rfl) rfl rfl rfl (by decide) ?_
        rintro _ w26 ⟨rfl, hw26⟩
        have zw26 := hw26.size
        refine hg_next hw26 ?_
        refine hg_up hw26 ?_
        refine hg_take 16 (by rfl) (want_t (dj := 47) (by rfl) (by kernel_rfl) rfl) (by rfl) rfl (by decide) (by kernel_rfl) (by kernel_rfl) (by kernel_rfl) (fun _ _ _ h => h) (Below.refl _ _) (fun q hq => yb (decide_eq_false (show ¬ ((lfCheck (⟨L.enc, (rd (fun _ => 0) 201), L.src, L.par⟩ : Lf)) = 0) from (wr_b _ _ _))) (yi_eql rfl rfl rfl)) ?_
        refine hg_take 17 (by rfl) (want_none (by rfl)) (by rfl) rfl (by decide) (by kernel_rfl) (by kernel_rfl) (by kernel_rfl) (fun _ _ _ h => h) (Below.refl _ _) (fun q hq => y_pick false rfl rfl rfl) ?_
        refine hg_take 18 (by rfl) (want_none (by rfl)) (by rfl) rfl (by decide) (by kernel_rfl) (by kernel_rfl) (by kernel_rfl) (fun _ _ _ h => h) (Below.refl _ _) (fun q hq => y_move rfl rfl) ?_
        have r15 := RowAt.below dW22 r15.lt r15
        have r15 := RowAt.below hw23 r15.lt r15
        have r15 := RowAt.below hw24 r15.lt r15
        have r15 := RowAt.below hw25 r15.lt r15
        have r15 := RowAt.below hw26 r15.lt r15
        refine hg_take 19 (by rfl) (want_t (dj := 52) (by rfl) (by kernel_rfl) rfl) (by rfl) rfl (by decide) (by kernel_rfl) (by kernel_rfl) (by kernel_rfl) (fun _ _ _ h => h) (Below.refl _ _) (fun q hq => y_loadA (RowAt.below hq r15.lt r15) (by kernel_rfl) (by kernel_rfl) rfl rfl) ?_
        have hl := hl.below (hw26.mono (by omega))
        have m18 := m18.set o19 rfl s19
        have m18 := m18.below (dW22.mono (by omega))
        have m18 := m18.below (hw23.mono (by omega))
        have m18 := m18.below (hw24.mono (by omega))
        have m18 := m18.below (hw25.mono (by omega))
        have m18 := m18.below (hw26.mono (by omega))
        refine hg_one 20 (by rfl) (by kernel_rfl) (want_t (dj := 52) (by rfl) (by kernel_rfl) rfl) ?_
        refine lg_callw (want_t (dj := 52) (by rfl) (by kernel_rfl) rfl) (check_any (show IsLf w26 w26.heap.size (⟨l.enc, l.cred, (⟨some ⟨b18, 0, none⟩, 1, 1⟩ : SlV)⟩ : LfV) (⟨L.enc, L.cred, 2, ([1] : List Int)⟩ : Lf) from ⟨hl.enc.more (by omega), hl.cred.more (by omega), m18.more (by omega)⟩) (Nat.le_refl _)) (by kernel_rfl) rfl rfl rfl (by decide) ?_
        rintro _ w27 ⟨rfl, hw27⟩
        have zw27 := hw27.size
        refine hg_next hw27 ?_
        refine hg_up hw27 ?_
        refine hg_take 21 (by rfl) (want_t (dj := 52) (by rfl) (by kernel_rfl) rfl) (by rfl) rfl (by decide) (by kernel_rfl) (by kernel_rfl) (by kernel_rfl) (fun _ _ _ h => h) (Below.refl _ _) (fun q hq => yb (decide_eq_false (show ¬ ((lfCheck (⟨L.enc, L.cred, 2, ([1] : List Int)⟩ : Lf)) = 0) from (wr_d _ _))) (yi_eql rfl rfl rfl)) ?_
        refine hg_take 22 (by rfl) (want_none (by rfl)) (by rfl) rfl (by decide) (by kernel_rfl) (by kernel_rfl) (by kernel_rfl) (fun _ _ _ h => h) (Below.refl _ _) (fun q hq => y_pick false rfl rfl rfl) ?_
        refine hg_done (by kernel_rfl) ?_
        refine nx (E' := [(1, _), (2, _), (4, _), (5, _), (8, _), (10, _), (56, _)]) (fk rfl (fk rfl (fk rfl (fk rfl (fk rfl (fk rfl (fk rfl fn))))))) ?_
        refine cg_cf rfl ?_
        refine cg_skip ?_
        refine nx (E' := [(1, _), (2, _), (4, _), (5, _), (8, _), (10, _)]) (fk rfl (fk rfl (fk rfl (fk rfl (fk rfl (fk rfl fn)))))) ?_
        refine cg_seq ?_
        refine cg_region ?_
        refine lsw (want_none (by rfl)) (y_move rfl rfl) rfl (by decide) ?_
        refine lsw (want_none (by rfl)) (y_move rfl rfl) rfl (by decide) ?_
        refine lsw (want_t (dj := 58) (by rfl) (by kernel_rfl) rfl) (y_move rfl rfl) rfl (by decide) ?_
        refine lsw (want_t (dj := 58) (by rfl) (by kernel_rfl) rfl) (y_move rfl rfl) rfl (by decide) ?_
        refine lsk (want_f (dj := 60) (by rfl) (by kernel_rfl) rfl) rfl (by decide) ?_
        refine lsk (want_f (dj := 60) (by rfl) (by kernel_rfl) rfl) rfl (by decide) ?_
        refine lsk (want_f (dj := 60) (by rfl) (by kernel_rfl) rfl) rfl (by decide) ?_
        refine lsk (want_f (dj := 60) (by rfl) (by kernel_rfl) rfl) rfl (by decide) ?_
        refine lsk (want_u (dj := 64) (by rfl) (by kernel_rfl) rfl) rfl (by decide) ?_
        refine lsk (want_u (dj := 64) (by rfl) (by kernel_rfl) rfl) rfl (by decide) ?_
        refine lsk (want_u (dj := 64) (by rfl) (by kernel_rfl) rfl) rfl (by decide) ?_
        refine lsk (want_u (dj := 64) (by rfl) (by kernel_rfl) rfl) rfl (by decide) ?_
        refine lsk (want_f (dj := 60) (by rfl) (by kernel_rfl) rfl) rfl (by decide) ?_
        refine lsw (want_t (dj := 58) (by rfl) (by kernel_rfl) rfl) (y_pick true rfl rfl rfl) rfl (by decide) ?_
        refine lsw (want_none (by rfl)) (y_pick true rfl rfl rfl) rfl (by decide) ?_
        refine lsw (want_none (by rfl)) (y_move rfl rfl) rfl (by decide) ?_
        have r1 := n15.keep r1
        have r1 := s16.keep r1 (by omega)
        have r1 := s17.keep r1 (by omega)
        have r1 := n18.keep r1
        have r1 := s19.keep r1 (by omega)
        have r1 := RowAt.below dW22 r1.lt r1
        have r1 := RowAt.below hw23 r1.lt r1
        have r1 := RowAt.below hw24 r1.lt r1
        have r1 := RowAt.below hw25 r1.lt r1
        have r1 := RowAt.below hw26 r1.lt r1
        have r1 := RowAt.below hw27 r1.lt r1
        refine lsw (want_t (dj := 72) (by rfl) (by kernel_rfl) rfl) (y_loadA r1 (by kernel_rfl) (by kernel_rfl) rfl rfl) rfl (by decide) ?_
        have hl := hl.below (hw27.mono (by omega))
        refine lg_callw (want_t (dj := 72) (by rfl) (by kernel_rfl) rfl) (check_any (hl.more (B' := w27.heap.size) (by omega)) (Nat.le_refl _)) (by kernel_rfl) rfl rfl rfl (by decide) ?_
        rintro _ w28 ⟨rfl, hw28⟩
        have zw28 := hw28.size
        by_cases c29 : (lfCheck L) = 0
        · refine lsw (want_t (dj := 72) (by rfl) (by kernel_rfl) rfl) (yb (nd_f c29) (yi_neq rfl rfl rfl)) rfl (by decide) ?_
          refine lsw (want_t (dj := 72) (by rfl) (by kernel_rfl) rfl) (y_move rfl rfl) rfl (by decide) ?_
          refine lsw (want_t (dj := 76) (by rfl) (by kernel_rfl) rfl) (y_move rfl rfl) rfl (by decide) ?_
          refine lsw (want_t (dj := 76) (by rfl) (by kernel_rfl) rfl) (y_bnot rfl rfl) rfl (by decide) ?_
          refine lsw (want_t (dj := 72) (by rfl) (by kernel_rfl) rfl) (y_pick false rfl rfl rfl) rfl (by decide) ?_
          refine lsw (want_t (dj := 72) (by rfl) (by kernel_rfl) rfl) (y_move rfl rfl) rfl (by decide) ?_
          refine lsw (want_t (dj := 80) (by rfl) (by kernel_rfl) rfl) (y_move rfl rfl) rfl (by decide) ?_
          by_cases c30 : n = 3
          · refine lsw (want_t (dj := 80) (by rfl) (by kernel_rfl) rfl) (yb (nd_f c30) (yi_neq rfl rfl rfl)) rfl (by decide) ?_
            refine lsw (want_t (dj := 72) (by rfl) (by kernel_rfl) rfl) (y_pick false rfl rfl rfl) rfl (by decide) ?_
            refine lsw (want_t (dj := 72) (by rfl) (by kernel_rfl) rfl) (y_move rfl rfl) rfl (by decide) ?_
            have r12 := n15.keep r12
            have r12 := s16.keep r12 (by omega)
            have r12 := s17.keep r12 (by omega)
            have r12 := n18.keep r12
            have r12 := s19.keep r12 (by omega)
            have r12 := RowAt.below dW22 r12.lt r12
            have r12 := RowAt.below hw23 r12.lt r12
            have r12 := RowAt.below hw24 r12.lt r12
            have r12 := RowAt.below hw25 r12.lt r12
            have r12 := RowAt.below hw26 r12.lt r12
            have r12 := RowAt.below hw27 r12.lt r12
            have r12 := RowAt.below hw28 r12.lt r12
            refine lsw (want_t (dj := 84) (by rfl) (by kernel_rfl) rfl) (y_loadA r12 (by kernel_rfl) (by kernel_rfl) rfl rfl) rfl (by decide) ?_
            have hl := hl.below (hw28.mono (by omega))
            refine lg_callw (want_t (dj := 84) (by rfl) (by kernel_rfl) rfl) (check_any (show IsLf w28 w28.heap.size (⟨l.enc, l.cred, l.par⟩ : LfV) (⟨L.enc, L.cred, n, L.par⟩ : Lf) from ⟨hl.enc.more (by omega), hl.cred.more (by omega), hl.par.more (by omega)⟩) (Nat.le_refl _)) (by kernel_rfl) rfl rfl rfl (by decide) ?_
            rintro _ w31 ⟨rfl, hw31⟩
            have zw31 := hw31.size
            refine lsw (want_t (dj := 84) (by rfl) (by kernel_rfl) rfl) (yb (decide_eq_true (show (lfCheck (⟨L.enc, L.cred, n, L.par⟩ : Lf)) = 0 from (by rw [c30]; exact wr_3 c29))) (yi_eql rfl rfl rfl)) rfl (by decide) ?_
            refine lsw (want_t (dj := 72) (by rfl) (by kernel_rfl) rfl) (y_pick false rfl rfl rfl) rfl (by decide) ?_
            refine lsw (want_none (by rfl)) (y_pick true rfl rfl rfl) rfl (by decide) ?_
            refine lsw (want_none (by rfl)) (y_assign rfl rfl) rfl (by decide) ?_
            refine lg_nil ?_
            refine nx (E' := [(4, _)]) (fk rfl fn) ?_
            refine cg_ret ?_
            have u := u.trans (n1.below.mono u.size)
            have u := u.trans (hw2.mono u.size)
            have u := u.trans (hw4.mono u.size)
            have u := u.trans (n5.below.mono u.size)
            have u := u.trans (s6.below _ (by omega))
            have u := u.trans (s7.below _ (by omega))
            have u := u.trans (n8.below.mono u.size)
            have u := u.trans (s9.below _ (by omega))
            have u := u.trans (n10.below.mono u.size)
            have u := u.trans (s11.below _ (by omega))
            have u := u.trans (n12.below.mono u.size)
            have u := u.trans (s13.below _ (by omega))
            have u := u.trans (s14.below _ (by omega))
            have u := u.trans (n15.below.mono u.size)
            have u := u.trans (s16.below _ (by omega))
            have u := u.trans (s17.below _ (by omega))
            have u := u.trans (n18.below.mono u.size)
            have u := u.trans (s19.below _ (by omega))
            have u := u.trans (dW22.mono u.size)
            have u := u.trans (hw23.mono u.size)
            have u := u.trans (hw24.mono u.size)
            have u := u.trans (hw25.mono u.size)
            have u := u.trans (hw26.mono u.size)
            have u := u.trans (hw27.mono u.size)
            have u := u.trans (hw28.mono u.size)
            have u := u.trans (hw31.mono u.size)
            exact eg_ret_tmp rfl rfl ⟨_, rfl, rfl, u⟩
          · refine lsw (want_t (dj := 80) (by rfl) (by kernel_rfl) rfl) (yb (nd_t c30) (yi_neq rfl rfl rfl)) rfl (by decide) ?_
            refine lsw (want_t (dj := 72) (by rfl) (by kernel_rfl) rfl) (y_pick false rfl rfl rfl) rfl (by decide) ?_
            refine lsw (want_t (dj := 72) (by rfl) (by kernel_rfl) rfl) (y_move rfl rfl) rfl (by decide) ?_
            refine lsk (want_f (dj := 84) (by rfl) (by kernel_rfl) rfl) rfl (by decide) ?_
            refine lsk (want_f (dj := 84) (by rfl) (by kernel_rfl) rfl) rfl (by decide) ?_
            refine lsk (want_f (dj := 84) (by rfl) (by kernel_rfl) rfl) rfl (by decide) ?_
            refine lsw (want_t (dj := 72) (by rfl) (by kernel_rfl) rfl) (y_pick true rfl rfl rfl) rfl (by decide) ?_
            refine lsw (want_none (by rfl)) (y_pick true rfl rfl rfl) rfl (by decide) ?_
            refine lsw (want_none (by rfl)) (y_assign rfl rfl) rfl (by decide) ?_
            refine lg_nil ?_
            refine nx (E' := [(4, _)]) (fk rfl fn) ?_
            refine cg_ret ?_
            have u := u.trans (n1.below.mono u.size)
            have u := u.trans (hw2.mono u.size)
            have u := u.trans (hw4.mono u.size)
            have u := u.trans (n5.below.mono u.size)
            have u := u.trans (s6.below _ (by omega))
            have u := u.trans (s7.below _ (by omega))
            have u := u.trans (n8.below.mono u.size)
            have u := u.trans (s9.below _ (by omega))
            have u := u.trans (n10.below.mono u.size)
            have u := u.trans (s11.below _ (by omega))
            have u := u.trans (n12.below.mono u.size)
            have u := u.trans (s13.below _ (by omega))
            have u := u.trans (s14.below _ (by omega))
            have u := u.trans (n15.below.mono u.size)
            have u := u.trans (s16.below _ (by omega))
            have u := u.trans (s17.below _ (by omega))
            have u := u.trans (n18.below.mono u.size)
            have u := u.trans (s19.below _ (by omega))
            have u := u.trans (dW22.mono u.size)
            have u := u.trans (hw23.mono u.size)
            have u := u.trans (hw24.mono u.size)
            have u := u.trans (hw25.mono u.size)
            have u := u.trans (hw26.mono u.size)
            have u := u.trans (hw27.mono u.size)
            have u := u.trans (hw28.mono u.size)
            exact eg_ret_tmp rfl rfl ⟨_, rfl, rfl, u⟩
        · refine lsw (want_t (dj := 72) (by rfl) (by kernel_rfl) rfl) (yb (nd_t c29) (yi_neq rfl rfl rfl)) rfl (by decide) ?_
          refine lsw (want_t (dj := 72) (by rfl) (by kernel_rfl) rfl) (y_move rfl rfl) rfl (by decide) ?_
          refine lsk (want_f (dj := 76) (by rfl) (by kernel_rfl) rfl) rfl (by decide) ?_
          refine lsk (want_f (dj := 76) (by rfl) (by kernel_rfl) rfl) rfl (by decide) ?_
          refine lsw (want_t (dj := 72) (by rfl) (by kernel_rfl) rfl) (y_pick true rfl rfl rfl) rfl (by decide) ?_
          refine lsw (want_t (dj := 72) (by rfl) (by kernel_rfl) rfl) (y_move rfl rfl) rfl (by decide) ?_
          refine lsk (want_f (dj := 80) (by rfl) (by kernel_rfl) rfl) rfl (by decide) ?_
          refine lsk (want_f (dj := 80) (by rfl) (by kernel_rfl) rfl) rfl (by decide) ?_
          refine lsw (want_t (dj := 72) (by rfl) (by kernel_rfl) rfl) (y_pick true rfl rfl rfl) rfl (by decide) ?_
          refine lsw (want_t (dj := 72) (by rfl) (by kernel_rfl) rfl) (y_move rfl rfl) rfl (by decide) ?_
          refine lsk (want_f (dj := 84) (by rfl) (by kernel_rfl) rfl) rfl (by decide) ?_
          refine lsk (want_f (dj := 84) (by rfl) (by kernel_rfl) rfl) rfl (by decide) ?_
          refine lsk (want_f (dj := 84) (by rfl) (by kernel_rfl) rfl) rfl (by decide) ?_
          refine lsw (want_t (dj := 72) (by rfl) (by kernel_rfl) rfl) (y_pick true rfl rfl rfl) rfl (by decide) ?_
          refine lsw (want_none (by rfl)) (y_pick true rfl rfl rfl) rfl (by decide) ?_
          refine lsw (want_none (by rfl)) (y_assign rfl rfl) rfl (by decide) ?_
          refine lg_nil ?_
          refine nx (E' := [(4, _)]) (fk rfl fn) ?_
          refine cg_ret ?_
          have u := u.trans (n1.below.mono u.size)
          have u := u.trans (hw2.mono u.size)
          have u := u.trans (hw4.mono u.size)
          have u := u.trans (n5.below.mono u.size)
          have u := u.trans (s6.below _ (by omega))
          have u := u.trans (s7.below _ (by omega))
          have u := u.trans (n8.below.mono u.size)
          have u := u.trans (s9.below _ (by omega))
          have u := u.trans (n10.below.mono u.size)
          have u := u.trans (s11.below _ (by omega))
          have u := u.trans (n12.below.mono u.size)
          have u := u.trans (s13.below _ (by omega))
          have u := u.trans (s14.below _ (by omega))
          have u := u.trans (n15.below.mono u.size)
          have u := u.trans (s16.below _ (by omega))
          have u := u.trans (s17.below _ (by omega))
          have u := u.trans (n18.below.mono u.size)
          have u := u.trans (s19.below _ (by omega))
          have u := u.trans (dW22.mono u.size)
          have u := u.trans (hw23.mono u.size)
          have u := u.trans (hw24.mono u.size)
          have u := u.trans (hw25.mono u.size)
          have u := u.trans (hw26.mono u.size)
          have u := u.trans (hw27.mono u.size)
          have u := u.trans (hw28.mono u.size)
          exact eg_ret_tmp rfl rfl ⟨_, rfl, rfl, u⟩
      · have q := wr_c (L := L) (n := n) (by omega)
        refine lsw (want_t (dj := 30) (by rfl) (by kernel_rfl) rfl) (yb (decide_eq_false c21) (yi_leq rfl rfl rfl)) rfl (by decide) ?_
        refine lsw (want_none (by rfl)) (y_pick true rfl rfl rfl) rfl (by decide) ?_
        refine lsw (want_none (by rfl)) (y_assign rfl rfl) rfl (by decide) ?_
        refine lg_nil ?_
        refine nx (E' := [(1, _), (2, _), (4, _), (5, _), (6, _), (7, _), (8, _), (9, _), (10, _)]) (fk rfl (fk rfl (fk rfl (fk rfl (fk rfl (fk rfl (fk rfl (fk rfl (fk rfl fn))))))))) ?_
        refine cg_seq ?_
        refine cg_seq ?_
        refine cg_held (by kernel_rfl) fun W32 eW32 => ?_
        have dW32 := below_drew _ _ eW32
        have zW32 := size_drew _ _ eW32
        clear eW32
        have r5 := n8.keep r5
        have r5 := s9.keep r5 (by omega)
        have r5 := n10.keep r5
        have r5 := s11.keep r5 (by omega)
        have r5 := n12.keep r5
        have r5 := s13.keep r5 (by omega)
        have r5 := s14.keep r5 (by omega)
        have r5 := n15.keep r5
        have r5 := s16.keep r5 (by omega)
        have r5 := s17.keep r5 (by omega)
        have r5 := n18.keep r5
        have r5 := s19.keep r5 (by omega)
        have r5 := RowAt.below dW32 r5.lt r5
        refine hg_take 0 (by rfl) (want_none (by rfl)) (by rfl) rfl (by decide) (by kernel_rfl) (by kernel_rfl) (by kernel_rfl) (fun _ _ _ h => h) (Below.refl _ _) (fun q hq => y_loadA (RowAt.below hq r5.lt r5) (by kernel_rfl) (by kernel_rfl) rfl rfl) ?_
        have hl := hl.below (hw4.mono (by omega))
        have hl := hl.below (n5.below.mono (by omega))
        have hl := hl.set o6 rfl s6
        have hl := hl.set o7 rfl s7
        have hl := hl.below (n8.below.mono (by omega))
        have hl := hl.set o9 rfl s9
        have hl := hl.below (n10.below.mono (by omega))
        have hl := hl.set o11 rfl s11
        have hl := hl.below (n12.below.mono (by omega))
        have hl := hl.set o13 rfl s13
        have hl := hl.set o14 rfl s14
        have hl := hl.below (n15.below.mono (by omega))
        have hl := hl.set o16 rfl s16
        have hl := hl.set o17 rfl s17
        have hl := hl.below (n18.below.mono (by omega))
        have hl := hl.set o19 rfl s19
        have hl := hl.below (dW32.mono (by omega))
        refine hg_one 1 (by rfl) (by kernel_rfl) (want_none (by rfl)) ?_
        refine lg_callw (want_none (by rfl)) (check_any (show IsLf W32 W32.heap.size (⟨nilS, l.cred, l.par⟩ : LfV) (⟨[], L.cred, L.src, L.par⟩ : Lf) from ⟨(Sl.nil _ 0).more (by omega), hl.cred.more (by omega), hl.par.more (by omega)⟩) (Nat.le_refl _)) (by kernel_rfl) rfl rfl rfl (by decide) ?_
        rintro _ w33 ⟨rfl, hw33⟩
        have zw33 := hw33.size
        refine hg_next hw33 ?_
        refine hg_up hw33 ?_
        refine hg_take 2 (by rfl) (want_none (by rfl)) (by rfl) rfl (by decide) (by kernel_rfl) (by kernel_rfl) (by kernel_rfl) (fun _ _ _ h => h) (Below.refl _ _) (fun q hq => yb (nd_f (show (lfCheck (⟨[], L.cred, L.src, L.par⟩ : Lf)) = 5 from (wr_a _ _ _))) (yi_neq rfl rfl rfl)) ?_
        refine hg_take 3 (by rfl) (want_none (by rfl)) (by rfl) rfl (by decide) (by kernel_rfl) (by kernel_rfl) (by kernel_rfl) (fun _ _ _ h => h) (Below.refl _ _) (fun q hq => y_move rfl rfl) ?_
        have r5 := RowAt.below hw33 r5.lt r5
        refine hg_take 4 (by rfl) (want_t (dj := 37) (by rfl) (by kernel_rfl) rfl) (by rfl) rfl (by decide) (by kernel_rfl) (by kernel_rfl) (by kernel_rfl) (fun _ _ _ h => h) (Below.refl _ _) (fun q hq => y_loadA (RowAt.below hq r5.lt r5) (by kernel_rfl) (by kernel_rfl) rfl rfl) ?_
        have r8 := n12.keep r8
        have r8 := s13.keep r8 (by omega)
        have r8 := s14.keep r8 (by omega)
        have r8 := n15.keep r8
        have r8 := s16.keep r8 (by omega)
        have r8 := s17.keep r8 (by omega)
        have r8 := n18.keep r8
        have r8 := s19.keep r8 (by omega)
        have r8 := RowAt.below dW32 r8.lt r8
        have r8 := RowAt.below hw33 r8.lt r8
        refine hg_take 7 (by rfl) (want_t (dj := 37) (by rfl) (by kernel_rfl) rfl) (by rfl) rfl (by decide) (by kernel_rfl) (by kernel_rfl) (by kernel_rfl) (fun _ _ _ h => h) (Below.refl _ _) (fun q hq => y_loadA (RowAt.below hq r8.lt r8) (by kernel_rfl) (by kernel_rfl) rfl rfl) ?_
        have hl := hl.below (hw33.mono (by omega))
        refine hg_one 5 (by rfl) (by kernel_rfl) (want_t (dj := 37) (by rfl) (by kernel_rfl) rfl) ?_
        refine lg_callw (want_t (dj := 37) (by rfl) (by kernel_rfl) rfl) (putL_any ((Sl.nil _ 0).more (B' := w33.heap.size) (by omega)) (show IsLf w33 w33.heap.size (⟨nilS, l.cred, l.par⟩ : LfV) (⟨[], L.cred, L.src, L.par⟩ : Lf) from ⟨(Sl.nil _ 0).more (by omega), hl.cred.more (by omega), hl.par.more (by omega)⟩) (Nat.le_refl _) (by first | omega | (simp only [List.length_append, List.length_nil, numOct_length]; omega))) (by kernel_rfl) rfl rfl rfl (by decide) ?_
        rintro _ w34 ⟨r34, rfl, m34, hw34⟩
        have zw34 := hw34.size
        rw [List.nil_append] at m34
        have lp34 := lfPut_le (⟨[], L.cred, L.src, L.par⟩ : Lf)
        refine hg_next hw34 ?_
        refine hg_up hw34 ?_
        refine hg_take 6 (by rfl) (want_t (dj := 37) (by rfl) (by kernel_rfl) rfl) (by rfl) rfl (by decide) (by kernel_rfl) (by kernel_rfl) (by kernel_rfl) (fun _ _ _ h => h) (Below.refl _ _) (fun q hq => y_lenS (el := 5) m34 (by kernel_rfl) rfl rfl) ?_
        have hl := hl.below (hw34.mono (by omega))
        have m10 := m10.set o11 rfl s11
        have m10 := m10.below (n12.below.mono (by omega))
        have m10 := m10.set o13 rfl s13
        have m10 := m10.set o14 rfl s14
        have m10 := m10.below (n15.below.mono (by omega))
        have m10 := m10.set o16 rfl s16
        have m10 := m10.set o17 rfl s17
        have m10 := m10.below (n18.below.mono (by omega))
        have m10 := m10.set o19 rfl s19
        have m10 := m10.below (dW32.mono (by omega))
        have m10 := m10.below (hw33.mono (by omega))
        have m10 := m10.below (hw34.mono (by omega))
        refine hg_one 8 (by rfl) (by kernel_rfl) (want_t (dj := 37) (by rfl) (by kernel_rfl) rfl) ?_
        refine lg_callw (want_t (dj := 37) (by rfl) (by kernel_rfl) rfl) (putL_any ((Sl.nil _ 0).more (B' := w34.heap.size) (by omega)) (show IsLf w34 w34.heap.size (⟨l.enc, (⟨some ⟨b10, 0, none⟩, 201, 201⟩ : SlV), l.par⟩ : LfV) (⟨L.enc, (rd (fun _ => 0) 201), L.src, L.par⟩ : Lf) from ⟨hl.enc.more (by omega), m10.more (by omega), hl.par.more (by omega)⟩) (Nat.le_refl _) (by first | omega | (simp only [List.length_append, List.length_nil, numOct_length]; omega))) (by kernel_rfl) rfl rfl rfl (by decide) ?_
        rintro _ w35 ⟨r35, rfl, m35, hw35⟩
        have zw35 := hw35.size
        rw [List.nil_append] at m35
        have lp35 := lfPut_le (⟨L.enc, (rd (fun _ => 0) 201), L.src, L.par⟩ : Lf)
        refine hg_next hw35 ?_
        refine hg_up hw35 ?_
        refine hg_take 9 (by rfl) (want_t (dj := 37) (by rfl) (by kernel_rfl) rfl) (by rfl) rfl (by decide) (by kernel_rfl) (by kernel_rfl) (by kernel_rfl) (fun _ _ _ h => h) (Below.refl _ _) (fun q hq => y_lenS (el := 5) m35 (by kernel_rfl) rfl rfl) ?_
        refine hg_take 10 (by rfl) (want_t (dj := 37) (by rfl) (by kernel_rfl) rfl) (by rfl) rfl (by decide) (by kernel_rfl) (by kernel_rfl) (by kernel_rfl) (fun _ _ _ h => h) (Below.refl _ _) (fun q hq => yi_addW rfl rfl rfl) ?_
        refine hg_take 11 (by rfl) (want_t (dj := 37) (by rfl) (by kernel_rfl) rfl) (by rfl) rfl (by decide) (by kernel_rfl) (by kernel_rfl) (by kernel_rfl) (fun _ _ _ h => h) (Below.refl _ _) (fun q hq => yb (decide_eq_false (show ¬ (0 < (IntKind.i64.wrap (((lfPut (⟨[], L.cred, L.src, L.par⟩ : Lf)).length : Int) + ((lfPut (⟨L.enc, (rd (fun _ => 0) 201), L.src, L.par⟩ : Lf)).length : Int)))) from (wr_len _ _ (by rw [wr_a]; decide) (wr_b _ _ _)))) (yi_gtr rfl rfl rfl)) ?_
        refine hg_take 12 (by rfl) (want_none (by rfl)) (by rfl) rfl (by decide) (by kernel_rfl) (by kernel_rfl) (by kernel_rfl) (fun _ _ _ h => h) (Below.refl _ _) (fun q hq => y_pick false rfl rfl rfl) ?_
        refine hg_take 13 (by rfl) (want_none (by rfl)) (by rfl) rfl (by decide) (by kernel_rfl) (by kernel_rfl) (by kernel_rfl) (fun _ _ _ h => h) (Below.refl _ _) (fun q hq => y_move rfl rfl) ?_
        have r8 := RowAt.below hw34 r8.lt r8
        have r8 := RowAt.below hw35 r8.lt r8
        refine hg_take 14 (by rfl) (want_t (dj := 47) (by rfl) (by kernel_rfl) rfl) (by rfl) rfl (by decide) (by kernel_rfl) (by kernel_rfl) (by kernel_rfl) (fun _ _ _ h => h) (Below.refl _ _) (fun q hq => y_loadA (RowAt.below hq r8.lt r8) (by kernel_rfl) (by kernel_rfl) rfl rfl) ?_
        have hl := hl.below (hw35.mono (by omega))
        have m10 := m10.below (hw35.mono (by omega))
        refine hg_one 15 (by rfl) (by kernel_rfl) (want_t (dj := 47) (by rfl) (by kernel_rfl) rfl) ?_
        refine lg_callw (want_t (dj := 47) (by rfl) (by kernel_rfl) rfl) (check_any (show IsLf w35 w35.heap.size (⟨l.enc, (⟨some ⟨b10, 0, none⟩, 201, 201⟩ : SlV), l.par⟩ : LfV) (⟨L.enc, (rd (fun _ => 0) 201), L.src, L.par⟩ : Lf) from ⟨hl.enc.more (by omega), m10.more (by omega), hl.par.more (by omega)⟩) (Nat.le_refl _)) (by kernel_rfl) rfl rfl rfl (by decide) ?_
        rintro _ w36 ⟨rfl, hw36⟩
        have zw36 := hw36.size
        refine hg_next hw36 ?_
        refine hg_up hw36 ?_
        refine hg_take 16 (by rfl) (want_t (dj := 47) (by rfl) (by kernel_rfl) rfl) (by rfl) rfl (by decide) (by kernel_rfl) (by kernel_rfl) (by kernel_rfl) (fun _ _ _ h => h) (Below.refl _ _) (fun q hq => yb (decide_eq_false (show ¬ ((lfCheck (⟨L.enc, (rd (fun _ => 0) 201), L.src, L.par⟩ : Lf)) = 0) from (wr_b _ _ _))) (yi_eql rfl rfl rfl)) ?_
        refine hg_take 17 (by rfl) (want_none (by rfl)) (by rfl) rfl (by decide) (by kernel_rfl) (by kernel_rfl) (by kernel_rfl) (fun _ _ _ h => h) (Below.refl _ _) (fun q hq => y_pick false rfl rfl rfl) ?_
        refine hg_take 18 (by rfl) (want_none (by rfl)) (by rfl) rfl (by decide) (by kernel_rfl) (by kernel_rfl) (by kernel_rfl) (fun _ _ _ h => h) (Below.refl _ _) (fun q hq => y_move rfl rfl) ?_
        have r15 := RowAt.below dW32 r15.lt r15
        have r15 := RowAt.below hw33 r15.lt r15
        have r15 := RowAt.below hw34 r15.lt r15
        have r15 := RowAt.below hw35 r15.lt r15
        have r15 := RowAt.below hw36 r15.lt r15
        refine hg_take 19 (by rfl) (want_t (dj := 52) (by rfl) (by kernel_rfl) rfl) (by rfl) rfl (by decide) (by kernel_rfl) (by kernel_rfl) (by kernel_rfl) (fun _ _ _ h => h) (Below.refl _ _) (fun q hq => y_loadA (RowAt.below hq r15.lt r15) (by kernel_rfl) (by kernel_rfl) rfl rfl) ?_
        have hl := hl.below (hw36.mono (by omega))
        have m18 := m18.set o19 rfl s19
        have m18 := m18.below (dW32.mono (by omega))
        have m18 := m18.below (hw33.mono (by omega))
        have m18 := m18.below (hw34.mono (by omega))
        have m18 := m18.below (hw35.mono (by omega))
        have m18 := m18.below (hw36.mono (by omega))
        refine hg_one 20 (by rfl) (by kernel_rfl) (want_t (dj := 52) (by rfl) (by kernel_rfl) rfl) ?_
        refine lg_callw (want_t (dj := 52) (by rfl) (by kernel_rfl) rfl) (check_any (show IsLf w36 w36.heap.size (⟨l.enc, l.cred, (⟨some ⟨b18, 0, none⟩, 1, 1⟩ : SlV)⟩ : LfV) (⟨L.enc, L.cred, 2, ([1] : List Int)⟩ : Lf) from ⟨hl.enc.more (by omega), hl.cred.more (by omega), m18.more (by omega)⟩) (Nat.le_refl _)) (by kernel_rfl) rfl rfl rfl (by decide) ?_
        rintro _ w37 ⟨rfl, hw37⟩
        have zw37 := hw37.size
        refine hg_next hw37 ?_
        refine hg_up hw37 ?_
        refine hg_take 21 (by rfl) (want_t (dj := 52) (by rfl) (by kernel_rfl) rfl) (by rfl) rfl (by decide) (by kernel_rfl) (by kernel_rfl) (by kernel_rfl) (fun _ _ _ h => h) (Below.refl _ _) (fun q hq => yb (decide_eq_false (show ¬ ((lfCheck (⟨L.enc, L.cred, 2, ([1] : List Int)⟩ : Lf)) = 0) from (wr_d _ _))) (yi_eql rfl rfl rfl)) ?_
        refine hg_take 22 (by rfl) (want_none (by rfl)) (by rfl) rfl (by decide) (by kernel_rfl) (by kernel_rfl) (by kernel_rfl) (fun _ _ _ h => h) (Below.refl _ _) (fun q hq => y_pick false rfl rfl rfl) ?_
        refine hg_done (by kernel_rfl) ?_
        refine nx (E' := [(1, _), (2, _), (4, _), (5, _), (8, _), (10, _), (56, _)]) (fk rfl (fk rfl (fk rfl (fk rfl (fk rfl (fk rfl (fk rfl fn))))))) ?_
        refine cg_cf rfl ?_
        refine cg_skip ?_
        refine nx (E' := [(1, _), (2, _), (4, _), (5, _), (8, _), (10, _)]) (fk rfl (fk rfl (fk rfl (fk rfl (fk rfl (fk rfl fn)))))) ?_
        refine cg_seq ?_
        refine cg_region ?_
        refine lsw (want_none (by rfl)) (y_move rfl rfl) rfl (by decide) ?_
        refine lsw (want_none (by rfl)) (y_move rfl rfl) rfl (by decide) ?_
        refine lsw (want_t (dj := 58) (by rfl) (by kernel_rfl) rfl) (y_move rfl rfl) rfl (by decide) ?_
        refine lsw (want_t (dj := 58) (by rfl) (by kernel_rfl) rfl) (y_move rfl rfl) rfl (by decide) ?_
        have r12 := n15.keep r12
        have r12 := s16.keep r12 (by omega)
        have r12 := s17.keep r12 (by omega)
        have r12 := n18.keep r12
        have r12 := s19.keep r12 (by omega)
        have r12 := RowAt.below dW32 r12.lt r12
        have r12 := RowAt.below hw33 r12.lt r12
        have r12 := RowAt.below hw34 r12.lt r12
        have r12 := RowAt.below hw35 r12.lt r12
        have r12 := RowAt.below hw36 r12.lt r12
        have r12 := RowAt.below hw37 r12.lt r12
        refine lsw (want_t (dj := 60) (by rfl) (by kernel_rfl) rfl) (y_loadA r12 (by kernel_rfl) (by kernel_rfl) rfl rfl) rfl (by decide) ?_
        have hl := hl.below (hw37.mono (by omega))
        refine lg_callw (want_t (dj := 60) (by rfl) (by kernel_rfl) rfl) (check_any (show IsLf w37 w37.heap.size (⟨l.enc, l.cred, l.par⟩ : LfV) (⟨L.enc, L.cred, n, L.par⟩ : Lf) from ⟨hl.enc.more (by omega), hl.cred.more (by omega), hl.par.more (by omega)⟩) (Nat.le_refl _)) (by kernel_rfl) rfl rfl rfl (by decide) ?_
        rintro _ w38 ⟨rfl, hw38⟩
        have zw38 := hw38.size
        refine lsw (want_t (dj := 60) (by rfl) (by kernel_rfl) rfl) (yb (nd_t q) (yi_neq rfl rfl rfl)) rfl (by decide) ?_
        refine lsw (want_t (dj := 60) (by rfl) (by kernel_rfl) rfl) (y_move rfl rfl) rfl (by decide) ?_
        have r12 := RowAt.below hw38 r12.lt r12
        refine lsw (want_t (dj := 64) (by rfl) (by kernel_rfl) rfl) (y_loadA r12 (by kernel_rfl) (by kernel_rfl) rfl rfl) rfl (by decide) ?_
        have hl := hl.below (hw38.mono (by omega))
        refine lg_callw (want_t (dj := 64) (by rfl) (by kernel_rfl) rfl) (putL_any ((Sl.nil _ 0).more (B' := w38.heap.size) (by omega)) (show IsLf w38 w38.heap.size (⟨l.enc, l.cred, l.par⟩ : LfV) (⟨L.enc, L.cred, n, L.par⟩ : Lf) from ⟨hl.enc.more (by omega), hl.cred.more (by omega), hl.par.more (by omega)⟩) (Nat.le_refl _) (by first | omega | (simp only [List.length_append, List.length_nil, numOct_length]; omega))) (by kernel_rfl) rfl rfl rfl (by decide) ?_
        rintro _ w39 ⟨r39, rfl, m39, hw39⟩
        have zw39 := hw39.size
        rw [List.nil_append] at m39
        have lp39 := lfPut_le (⟨L.enc, L.cred, n, L.par⟩ : Lf)
        refine lsw (want_t (dj := 64) (by rfl) (by kernel_rfl) rfl) (y_lenS (el := 5) m39 (by kernel_rfl) rfl rfl) rfl (by decide) ?_
        refine lsw (want_t (dj := 64) (by rfl) (by kernel_rfl) rfl) (yb (decide_eq_true (show ((lfPut (⟨L.enc, L.cred, n, L.par⟩ : Lf)).length : Int) = 0 from (by rw [lfPut_no q]; rfl))) (yi_eql rfl rfl rfl)) rfl (by decide) ?_
        refine lsw (want_t (dj := 60) (by rfl) (by kernel_rfl) rfl) (y_pick true rfl rfl rfl) rfl (by decide) ?_
        refine lsw (want_t (dj := 58) (by rfl) (by kernel_rfl) rfl) (y_pick false rfl rfl rfl) rfl (by decide) ?_
        refine lsw (want_none (by rfl)) (y_pick true rfl rfl rfl) rfl (by decide) ?_
        refine lsw (want_none (by rfl)) (y_move rfl rfl) rfl (by decide) ?_
        have r1 := n15.keep r1
        have r1 := s16.keep r1 (by omega)
        have r1 := s17.keep r1 (by omega)
        have r1 := n18.keep r1
        have r1 := s19.keep r1 (by omega)
        have r1 := RowAt.below dW32 r1.lt r1
        have r1 := RowAt.below hw33 r1.lt r1
        have r1 := RowAt.below hw34 r1.lt r1
        have r1 := RowAt.below hw35 r1.lt r1
        have r1 := RowAt.below hw36 r1.lt r1
        have r1 := RowAt.below hw37 r1.lt r1
        have r1 := RowAt.below hw38 r1.lt r1
        have r1 := RowAt.below hw39 r1.lt r1
        refine lsw (want_t (dj := 72) (by rfl) (by kernel_rfl) rfl) (y_loadA r1 (by kernel_rfl) (by kernel_rfl) rfl rfl) rfl (by decide) ?_
        have hl := hl.below (hw39.mono (by omega))
        refine lg_callw (want_t (dj := 72) (by rfl) (by kernel_rfl) rfl) (check_any (hl.more (B' := w39.heap.size) (by omega)) (Nat.le_refl _)) (by kernel_rfl) rfl rfl rfl (by decide) ?_
        rintro _ w40 ⟨rfl, hw40⟩
        have zw40 := hw40.size
        by_cases c41 : (lfCheck L) = 0
        · refine lsw (want_t (dj := 72) (by rfl) (by kernel_rfl) rfl) (yb (nd_f c41) (yi_neq rfl rfl rfl)) rfl (by decide) ?_
          refine lsw (want_t (dj := 72) (by rfl) (by kernel_rfl) rfl) (y_move rfl rfl) rfl (by decide) ?_
          refine lsw (want_t (dj := 76) (by rfl) (by kernel_rfl) rfl) (y_move rfl rfl) rfl (by decide) ?_
          refine lsw (want_t (dj := 76) (by rfl) (by kernel_rfl) rfl) (y_bnot rfl rfl) rfl (by decide) ?_
          refine lsw (want_t (dj := 72) (by rfl) (by kernel_rfl) rfl) (y_pick false rfl rfl rfl) rfl (by decide) ?_
          refine lsw (want_t (dj := 72) (by rfl) (by kernel_rfl) rfl) (y_move rfl rfl) rfl (by decide) ?_
          refine lsk (want_f (dj := 80) (by rfl) (by kernel_rfl) rfl) rfl (by decide) ?_
          refine lsk (want_f (dj := 80) (by rfl) (by kernel_rfl) rfl) rfl (by decide) ?_
          refine lsw (want_t (dj := 72) (by rfl) (by kernel_rfl) rfl) (y_pick true rfl rfl rfl) rfl (by decide) ?_
          refine lsw (want_t (dj := 72) (by rfl) (by kernel_rfl) rfl) (y_move rfl rfl) rfl (by decide) ?_
          refine lsk (want_f (dj := 84) (by rfl) (by kernel_rfl) rfl) rfl (by decide) ?_
          refine lsk (want_f (dj := 84) (by rfl) (by kernel_rfl) rfl) rfl (by decide) ?_
          refine lsk (want_f (dj := 84) (by rfl) (by kernel_rfl) rfl) rfl (by decide) ?_
          refine lsw (want_t (dj := 72) (by rfl) (by kernel_rfl) rfl) (y_pick true rfl rfl rfl) rfl (by decide) ?_
          refine lsw (want_none (by rfl)) (y_pick true rfl rfl rfl) rfl (by decide) ?_
          refine lsw (want_none (by rfl)) (y_assign rfl rfl) rfl (by decide) ?_
          refine lg_nil ?_
          refine nx (E' := [(4, _)]) (fk rfl fn) ?_
          refine cg_ret ?_
          have u := u.trans (n1.below.mono u.size)
          have u := u.trans (hw2.mono u.size)
          have u := u.trans (hw4.mono u.size)
          have u := u.trans (n5.below.mono u.size)
          have u := u.trans (s6.below _ (by omega))
          have u := u.trans (s7.below _ (by omega))
          have u := u.trans (n8.below.mono u.size)
          have u := u.trans (s9.below _ (by omega))
          have u := u.trans (n10.below.mono u.size)
          have u := u.trans (s11.below _ (by omega))
          have u := u.trans (n12.below.mono u.size)
          have u := u.trans (s13.below _ (by omega))
          have u := u.trans (s14.below _ (by omega))
          have u := u.trans (n15.below.mono u.size)
          have u := u.trans (s16.below _ (by omega))
          have u := u.trans (s17.below _ (by omega))
          have u := u.trans (n18.below.mono u.size)
          have u := u.trans (s19.below _ (by omega))
          have u := u.trans (dW32.mono u.size)
          have u := u.trans (hw33.mono u.size)
          have u := u.trans (hw34.mono u.size)
          have u := u.trans (hw35.mono u.size)
          have u := u.trans (hw36.mono u.size)
          have u := u.trans (hw37.mono u.size)
          have u := u.trans (hw38.mono u.size)
          have u := u.trans (hw39.mono u.size)
          have u := u.trans (hw40.mono u.size)
          exact eg_ret_tmp rfl rfl ⟨_, rfl, rfl, u⟩
        · refine lsw (want_t (dj := 72) (by rfl) (by kernel_rfl) rfl) (yb (nd_t c41) (yi_neq rfl rfl rfl)) rfl (by decide) ?_
          refine lsw (want_t (dj := 72) (by rfl) (by kernel_rfl) rfl) (y_move rfl rfl) rfl (by decide) ?_
          refine lsk (want_f (dj := 76) (by rfl) (by kernel_rfl) rfl) rfl (by decide) ?_
          refine lsk (want_f (dj := 76) (by rfl) (by kernel_rfl) rfl) rfl (by decide) ?_
          refine lsw (want_t (dj := 72) (by rfl) (by kernel_rfl) rfl) (y_pick true rfl rfl rfl) rfl (by decide) ?_
          refine lsw (want_t (dj := 72) (by rfl) (by kernel_rfl) rfl) (y_move rfl rfl) rfl (by decide) ?_
          refine lsk (want_f (dj := 80) (by rfl) (by kernel_rfl) rfl) rfl (by decide) ?_
          refine lsk (want_f (dj := 80) (by rfl) (by kernel_rfl) rfl) rfl (by decide) ?_
          refine lsw (want_t (dj := 72) (by rfl) (by kernel_rfl) rfl) (y_pick true rfl rfl rfl) rfl (by decide) ?_
          refine lsw (want_t (dj := 72) (by rfl) (by kernel_rfl) rfl) (y_move rfl rfl) rfl (by decide) ?_
          refine lsk (want_f (dj := 84) (by rfl) (by kernel_rfl) rfl) rfl (by decide) ?_
          refine lsk (want_f (dj := 84) (by rfl) (by kernel_rfl) rfl) rfl (by decide) ?_
          refine lsk (want_f (dj := 84) (by rfl) (by kernel_rfl) rfl) rfl (by decide) ?_
          refine lsw (want_t (dj := 72) (by rfl) (by kernel_rfl) rfl) (y_pick true rfl rfl rfl) rfl (by decide) ?_
          refine lsw (want_none (by rfl)) (y_pick true rfl rfl rfl) rfl (by decide) ?_
          refine lsw (want_none (by rfl)) (y_assign rfl rfl) rfl (by decide) ?_
          refine lg_nil ?_
          refine nx (E' := [(4, _)]) (fk rfl fn) ?_
          refine cg_ret ?_
          have u := u.trans (n1.below.mono u.size)
          have u := u.trans (hw2.mono u.size)
          have u := u.trans (hw4.mono u.size)
          have u := u.trans (n5.below.mono u.size)
          have u := u.trans (s6.below _ (by omega))
          have u := u.trans (s7.below _ (by omega))
          have u := u.trans (n8.below.mono u.size)
          have u := u.trans (s9.below _ (by omega))
          have u := u.trans (n10.below.mono u.size)
          have u := u.trans (s11.below _ (by omega))
          have u := u.trans (n12.below.mono u.size)
          have u := u.trans (s13.below _ (by omega))
          have u := u.trans (s14.below _ (by omega))
          have u := u.trans (n15.below.mono u.size)
          have u := u.trans (s16.below _ (by omega))
          have u := u.trans (s17.below _ (by omega))
          have u := u.trans (n18.below.mono u.size)
          have u := u.trans (s19.below _ (by omega))
          have u := u.trans (dW32.mono u.size)
          have u := u.trans (hw33.mono u.size)
          have u := u.trans (hw34.mono u.size)
          have u := u.trans (hw35.mono u.size)
          have u := u.trans (hw36.mono u.size)
          have u := u.trans (hw37.mono u.size)
          have u := u.trans (hw38.mono u.size)
          have u := u.trans (hw39.mono u.size)
          have u := u.trans (hw40.mono u.size)
          exact eg_ret_tmp rfl rfl ⟨_, rfl, rfl, u⟩
    · have q := wr_c (L := L) (n := n) (by omega)
      refine lsw (want_none (by rfl)) (yb (decide_eq_false c20) (yi_geq rfl rfl rfl)) rfl (by decide) ?_
      refine lsw (want_none (by rfl)) (y_move rfl rfl) rfl (by decide) ?_
      refine lsk (want_f (dj := 30) (by rfl) (by kernel_rfl) rfl) rfl (by decide) ?_
      refine lsk (want_f (dj := 30) (by rfl) (by kernel_rfl) rfl) rfl (by decide) ?_
      refine lsw (want_none (by rfl)) (y_pick false rfl rfl rfl) rfl (by decide) ?_
      refine lsw (want_none (by rfl)) (y_assign rfl rfl) rfl (by decide) ?_
      refine lg_nil ?_
      refine nx (E' := [(1, _), (2, _), (4, _), (5, _), (6, _), (7, _), (8, _), (9, _), (10, _)]) (fk rfl (fk rfl (fk rfl (fk rfl (fk rfl (fk rfl (fk rfl (fk rfl (fk rfl fn))))))))) ?_
      refine cg_seq ?_
      refine cg_seq ?_
      refine cg_held (by kernel_rfl) fun W42 eW42 => ?_
      have dW42 := below_drew _ _ eW42
      have zW42 := size_drew _ _ eW42
      clear eW42
      have r5 := n8.keep r5
      have r5 := s9.keep r5 (by omega)
      have r5 := n10.keep r5
      have r5 := s11.keep r5 (by omega)
      have r5 := n12.keep r5
      have r5 := s13.keep r5 (by omega)
      have r5 := s14.keep r5 (by omega)
      have r5 := n15.keep r5
      have r5 := s16.keep r5 (by omega)
      have r5 := s17.keep r5 (by omega)
      have r5 := n18.keep r5
      have r5 := s19.keep r5 (by omega)
      have r5 := RowAt.below dW42 r5.lt r5
      refine hg_take 0 (by rfl) (want_none (by rfl)) (by rfl) rfl (by decide) (by kernel_rfl) (by kernel_rfl) (by kernel_rfl) (fun _ _ _ h => h) (Below.refl _ _) (fun q hq => y_loadA (RowAt.below hq r5.lt r5) (by kernel_rfl) (by kernel_rfl) rfl rfl) ?_
      have hl := hl.below (hw4.mono (by omega))
      have hl := hl.below (n5.below.mono (by omega))
      have hl := hl.set o6 rfl s6
      have hl := hl.set o7 rfl s7
      have hl := hl.below (n8.below.mono (by omega))
      have hl := hl.set o9 rfl s9
      have hl := hl.below (n10.below.mono (by omega))
      have hl := hl.set o11 rfl s11
      have hl := hl.below (n12.below.mono (by omega))
      have hl := hl.set o13 rfl s13
      have hl := hl.set o14 rfl s14
      have hl := hl.below (n15.below.mono (by omega))
      have hl := hl.set o16 rfl s16
      have hl := hl.set o17 rfl s17
      have hl := hl.below (n18.below.mono (by omega))
      have hl := hl.set o19 rfl s19
      have hl := hl.below (dW42.mono (by omega))
      refine hg_one 1 (by rfl) (by kernel_rfl) (want_none (by rfl)) ?_
      refine lg_callw (want_none (by rfl)) (check_any (show IsLf W42 W42.heap.size (⟨nilS, l.cred, l.par⟩ : LfV) (⟨[], L.cred, L.src, L.par⟩ : Lf) from ⟨(Sl.nil _ 0).more (by omega), hl.cred.more (by omega), hl.par.more (by omega)⟩) (Nat.le_refl _)) (by kernel_rfl) rfl rfl rfl (by decide) ?_
      rintro _ w43 ⟨rfl, hw43⟩
      have zw43 := hw43.size
      refine hg_next hw43 ?_
      refine hg_up hw43 ?_
      refine hg_take 2 (by rfl) (want_none (by rfl)) (by rfl) rfl (by decide) (by kernel_rfl) (by kernel_rfl) (by kernel_rfl) (fun _ _ _ h => h) (Below.refl _ _) (fun q hq => yb (nd_f (show (lfCheck (⟨[], L.cred, L.src, L.par⟩ : Lf)) = 5 from (wr_a _ _ _))) (yi_neq rfl rfl rfl)) ?_
      refine hg_take 3 (by rfl) (want_none (by rfl)) (by rfl) rfl (by decide) (by kernel_rfl) (by kernel_rfl) (by kernel_rfl) (fun _ _ _ h => h) (Below.refl _ _) (fun q hq => y_move rfl rfl) ?_
      have r5 := RowAt.below hw43 r5.lt r5
      refine hg_take 4 (by rfl) (want_t (dj := 37) (by rfl) (by kernel_rfl) rfl) (by rfl) rfl (by decide) (by kernel_rfl) (by kernel_rfl) (by kernel_rfl) (fun _ _ _ h => h) (Below.refl _ _) (fun q hq => y_loadA (RowAt.below hq r5.lt r5) (by kernel_rfl) (by kernel_rfl) rfl rfl) ?_
      have r8 := n12.keep r8
      have r8 := s13.keep r8 (by omega)
      have r8 := s14.keep r8 (by omega)
      have r8 := n15.keep r8
      have r8 := s16.keep r8 (by omega)
      have r8 := s17.keep r8 (by omega)
      have r8 := n18.keep r8
      have r8 := s19.keep r8 (by omega)
      have r8 := RowAt.below dW42 r8.lt r8
      have r8 := RowAt.below hw43 r8.lt r8
      refine hg_take 7 (by rfl) (want_t (dj := 37) (by rfl) (by kernel_rfl) rfl) (by rfl) rfl (by decide) (by kernel_rfl) (by kernel_rfl) (by kernel_rfl) (fun _ _ _ h => h) (Below.refl _ _) (fun q hq => y_loadA (RowAt.below hq r8.lt r8) (by kernel_rfl) (by kernel_rfl) rfl rfl) ?_
      have hl := hl.below (hw43.mono (by omega))
      refine hg_one 5 (by rfl) (by kernel_rfl) (want_t (dj := 37) (by rfl) (by kernel_rfl) rfl) ?_
      refine lg_callw (want_t (dj := 37) (by rfl) (by kernel_rfl) rfl) (putL_any ((Sl.nil _ 0).more (B' := w43.heap.size) (by omega)) (show IsLf w43 w43.heap.size (⟨nilS, l.cred, l.par⟩ : LfV) (⟨[], L.cred, L.src, L.par⟩ : Lf) from ⟨(Sl.nil _ 0).more (by omega), hl.cred.more (by omega), hl.par.more (by omega)⟩) (Nat.le_refl _) (by first | omega | (simp only [List.length_append, List.length_nil, numOct_length]; omega))) (by kernel_rfl) rfl rfl rfl (by decide) ?_
      rintro _ w44 ⟨r44, rfl, m44, hw44⟩
      have zw44 := hw44.size
      rw [List.nil_append] at m44
      have lp44 := lfPut_le (⟨[], L.cred, L.src, L.par⟩ : Lf)
      refine hg_next hw44 ?_
      refine hg_up hw44 ?_
      refine hg_take 6 (by rfl) (want_t (dj := 37) (by rfl) (by kernel_rfl) rfl) (by rfl) rfl (by decide) (by kernel_rfl) (by kernel_rfl) (by kernel_rfl) (fun _ _ _ h => h) (Below.refl _ _) (fun q hq => y_lenS (el := 5) m44 (by kernel_rfl) rfl rfl) ?_
      have hl := hl.below (hw44.mono (by omega))
      have m10 := m10.set o11 rfl s11
      have m10 := m10.below (n12.below.mono (by omega))
      have m10 := m10.set o13 rfl s13
      have m10 := m10.set o14 rfl s14
      have m10 := m10.below (n15.below.mono (by omega))
      have m10 := m10.set o16 rfl s16
      have m10 := m10.set o17 rfl s17
      have m10 := m10.below (n18.below.mono (by omega))
      have m10 := m10.set o19 rfl s19
      have m10 := m10.below (dW42.mono (by omega))
      have m10 := m10.below (hw43.mono (by omega))
      have m10 := m10.below (hw44.mono (by omega))
      refine hg_one 8 (by rfl) (by kernel_rfl) (want_t (dj := 37) (by rfl) (by kernel_rfl) rfl) ?_
      refine lg_callw (want_t (dj := 37) (by rfl) (by kernel_rfl) rfl) (putL_any ((Sl.nil _ 0).more (B' := w44.heap.size) (by omega)) (show IsLf w44 w44.heap.size (⟨l.enc, (⟨some ⟨b10, 0, none⟩, 201, 201⟩ : SlV), l.par⟩ : LfV) (⟨L.enc, (rd (fun _ => 0) 201), L.src, L.par⟩ : Lf) from ⟨hl.enc.more (by omega), m10.more (by omega), hl.par.more (by omega)⟩) (Nat.le_refl _) (by first | omega | (simp only [List.length_append, List.length_nil, numOct_length]; omega))) (by kernel_rfl) rfl rfl rfl (by decide) ?_
      rintro _ w45 ⟨r45, rfl, m45, hw45⟩
      have zw45 := hw45.size
      rw [List.nil_append] at m45
      have lp45 := lfPut_le (⟨L.enc, (rd (fun _ => 0) 201), L.src, L.par⟩ : Lf)
      refine hg_next hw45 ?_
      refine hg_up hw45 ?_
      refine hg_take 9 (by rfl) (want_t (dj := 37) (by rfl) (by kernel_rfl) rfl) (by rfl) rfl (by decide) (by kernel_rfl) (by kernel_rfl) (by kernel_rfl) (fun _ _ _ h => h) (Below.refl _ _) (fun q hq => y_lenS (el := 5) m45 (by kernel_rfl) rfl rfl) ?_
      refine hg_take 10 (by rfl) (want_t (dj := 37) (by rfl) (by kernel_rfl) rfl) (by rfl) rfl (by decide) (by kernel_rfl) (by kernel_rfl) (by kernel_rfl) (fun _ _ _ h => h) (Below.refl _ _) (fun q hq => yi_addW rfl rfl rfl) ?_
      refine hg_take 11 (by rfl) (want_t (dj := 37) (by rfl) (by kernel_rfl) rfl) (by rfl) rfl (by decide) (by kernel_rfl) (by kernel_rfl) (by kernel_rfl) (fun _ _ _ h => h) (Below.refl _ _) (fun q hq => yb (decide_eq_false (show ¬ (0 < (IntKind.i64.wrap (((lfPut (⟨[], L.cred, L.src, L.par⟩ : Lf)).length : Int) + ((lfPut (⟨L.enc, (rd (fun _ => 0) 201), L.src, L.par⟩ : Lf)).length : Int)))) from (wr_len _ _ (by rw [wr_a]; decide) (wr_b _ _ _)))) (yi_gtr rfl rfl rfl)) ?_
      refine hg_take 12 (by rfl) (want_none (by rfl)) (by rfl) rfl (by decide) (by kernel_rfl) (by kernel_rfl) (by kernel_rfl) (fun _ _ _ h => h) (Below.refl _ _) (fun q hq => y_pick false rfl rfl rfl) ?_
      refine hg_take 13 (by rfl) (want_none (by rfl)) (by rfl) rfl (by decide) (by kernel_rfl) (by kernel_rfl) (by kernel_rfl) (fun _ _ _ h => h) (Below.refl _ _) (fun q hq => y_move rfl rfl) ?_
      have r8 := RowAt.below hw44 r8.lt r8
      have r8 := RowAt.below hw45 r8.lt r8
      refine hg_take 14 (by rfl) (want_t (dj := 47) (by rfl) (by kernel_rfl) rfl) (by rfl) rfl (by decide) (by kernel_rfl) (by kernel_rfl) (by kernel_rfl) (fun _ _ _ h => h) (Below.refl _ _) (fun q hq => y_loadA (RowAt.below hq r8.lt r8) (by kernel_rfl) (by kernel_rfl) rfl rfl) ?_
      have hl := hl.below (hw45.mono (by omega))
      have m10 := m10.below (hw45.mono (by omega))
      refine hg_one 15 (by rfl) (by kernel_rfl) (want_t (dj := 47) (by rfl) (by kernel_rfl) rfl) ?_
      refine lg_callw (want_t (dj := 47) (by rfl) (by kernel_rfl) rfl) (check_any (show IsLf w45 w45.heap.size (⟨l.enc, (⟨some ⟨b10, 0, none⟩, 201, 201⟩ : SlV), l.par⟩ : LfV) (⟨L.enc, (rd (fun _ => 0) 201), L.src, L.par⟩ : Lf) from ⟨hl.enc.more (by omega), m10.more (by omega), hl.par.more (by omega)⟩) (Nat.le_refl _)) (by kernel_rfl) rfl rfl rfl (by decide) ?_
      rintro _ w46 ⟨rfl, hw46⟩
      have zw46 := hw46.size
      refine hg_next hw46 ?_
      refine hg_up hw46 ?_
      refine hg_take 16 (by rfl) (want_t (dj := 47) (by rfl) (by kernel_rfl) rfl) (by rfl) rfl (by decide) (by kernel_rfl) (by kernel_rfl) (by kernel_rfl) (fun _ _ _ h => h) (Below.refl _ _) (fun q hq => yb (decide_eq_false (show ¬ ((lfCheck (⟨L.enc, (rd (fun _ => 0) 201), L.src, L.par⟩ : Lf)) = 0) from (wr_b _ _ _))) (yi_eql rfl rfl rfl)) ?_
      refine hg_take 17 (by rfl) (want_none (by rfl)) (by rfl) rfl (by decide) (by kernel_rfl) (by kernel_rfl) (by kernel_rfl) (fun _ _ _ h => h) (Below.refl _ _) (fun q hq => y_pick false rfl rfl rfl) ?_
      refine hg_take 18 (by rfl) (want_none (by rfl)) (by rfl) rfl (by decide) (by kernel_rfl) (by kernel_rfl) (by kernel_rfl) (fun _ _ _ h => h) (Below.refl _ _) (fun q hq => y_move rfl rfl) ?_
      have r15 := RowAt.below dW42 r15.lt r15
      have r15 := RowAt.below hw43 r15.lt r15
      have r15 := RowAt.below hw44 r15.lt r15
      have r15 := RowAt.below hw45 r15.lt r15
      have r15 := RowAt.below hw46 r15.lt r15
      refine hg_take 19 (by rfl) (want_t (dj := 52) (by rfl) (by kernel_rfl) rfl) (by rfl) rfl (by decide) (by kernel_rfl) (by kernel_rfl) (by kernel_rfl) (fun _ _ _ h => h) (Below.refl _ _) (fun q hq => y_loadA (RowAt.below hq r15.lt r15) (by kernel_rfl) (by kernel_rfl) rfl rfl) ?_
      have hl := hl.below (hw46.mono (by omega))
      have m18 := m18.set o19 rfl s19
      have m18 := m18.below (dW42.mono (by omega))
      have m18 := m18.below (hw43.mono (by omega))
      have m18 := m18.below (hw44.mono (by omega))
      have m18 := m18.below (hw45.mono (by omega))
      have m18 := m18.below (hw46.mono (by omega))
      refine hg_one 20 (by rfl) (by kernel_rfl) (want_t (dj := 52) (by rfl) (by kernel_rfl) rfl) ?_
      refine lg_callw (want_t (dj := 52) (by rfl) (by kernel_rfl) rfl) (check_any (show IsLf w46 w46.heap.size (⟨l.enc, l.cred, (⟨some ⟨b18, 0, none⟩, 1, 1⟩ : SlV)⟩ : LfV) (⟨L.enc, L.cred, 2, ([1] : List Int)⟩ : Lf) from ⟨hl.enc.more (by omega), hl.cred.more (by omega), m18.more (by omega)⟩) (Nat.le_refl _)) (by kernel_rfl) rfl rfl rfl (by decide) ?_
      rintro _ w47 ⟨rfl, hw47⟩
      have zw47 := hw47.size
      refine hg_next hw47 ?_
      refine hg_up hw47 ?_
      refine hg_take 21 (by rfl) (want_t (dj := 52) (by rfl) (by kernel_rfl) rfl) (by rfl) rfl (by decide) (by kernel_rfl) (by kernel_rfl) (by kernel_rfl) (fun _ _ _ h => h) (Below.refl _ _) (fun q hq => yb (decide_eq_false (show ¬ ((lfCheck (⟨L.enc, L.cred, 2, ([1] : List Int)⟩ : Lf)) = 0) from (wr_d _ _))) (yi_eql rfl rfl rfl)) ?_
      refine hg_take 22 (by rfl) (want_none (by rfl)) (by rfl) rfl (by decide) (by kernel_rfl) (by kernel_rfl) (by kernel_rfl) (fun _ _ _ h => h) (Below.refl _ _) (fun q hq => y_pick false rfl rfl rfl) ?_
      refine hg_done (by kernel_rfl) ?_
      refine nx (E' := [(1, _), (2, _), (4, _), (5, _), (8, _), (10, _), (56, _)]) (fk rfl (fk rfl (fk rfl (fk rfl (fk rfl (fk rfl (fk rfl fn))))))) ?_
      refine cg_cf rfl ?_
      refine cg_skip ?_
      refine nx (E' := [(1, _), (2, _), (4, _), (5, _), (8, _), (10, _)]) (fk rfl (fk rfl (fk rfl (fk rfl (fk rfl (fk rfl fn)))))) ?_
      refine cg_seq ?_
      refine cg_region ?_
      refine lsw (want_none (by rfl)) (y_move rfl rfl) rfl (by decide) ?_
      refine lsw (want_none (by rfl)) (y_move rfl rfl) rfl (by decide) ?_
      refine lsw (want_t (dj := 58) (by rfl) (by kernel_rfl) rfl) (y_move rfl rfl) rfl (by decide) ?_
      refine lsw (want_t (dj := 58) (by rfl) (by kernel_rfl) rfl) (y_move rfl rfl) rfl (by decide) ?_
      have r12 := n15.keep r12
      have r12 := s16.keep r12 (by omega)
      have r12 := s17.keep r12 (by omega)
      have r12 := n18.keep r12
      have r12 := s19.keep r12 (by omega)
      have r12 := RowAt.below dW42 r12.lt r12
      have r12 := RowAt.below hw43 r12.lt r12
      have r12 := RowAt.below hw44 r12.lt r12
      have r12 := RowAt.below hw45 r12.lt r12
      have r12 := RowAt.below hw46 r12.lt r12
      have r12 := RowAt.below hw47 r12.lt r12
      refine lsw (want_t (dj := 60) (by rfl) (by kernel_rfl) rfl) (y_loadA r12 (by kernel_rfl) (by kernel_rfl) rfl rfl) rfl (by decide) ?_
      have hl := hl.below (hw47.mono (by omega))
      refine lg_callw (want_t (dj := 60) (by rfl) (by kernel_rfl) rfl) (check_any (show IsLf w47 w47.heap.size (⟨l.enc, l.cred, l.par⟩ : LfV) (⟨L.enc, L.cred, n, L.par⟩ : Lf) from ⟨hl.enc.more (by omega), hl.cred.more (by omega), hl.par.more (by omega)⟩) (Nat.le_refl _)) (by kernel_rfl) rfl rfl rfl (by decide) ?_
      rintro _ w48 ⟨rfl, hw48⟩
      have zw48 := hw48.size
      refine lsw (want_t (dj := 60) (by rfl) (by kernel_rfl) rfl) (yb (nd_t q) (yi_neq rfl rfl rfl)) rfl (by decide) ?_
      refine lsw (want_t (dj := 60) (by rfl) (by kernel_rfl) rfl) (y_move rfl rfl) rfl (by decide) ?_
      have r12 := RowAt.below hw48 r12.lt r12
      refine lsw (want_t (dj := 64) (by rfl) (by kernel_rfl) rfl) (y_loadA r12 (by kernel_rfl) (by kernel_rfl) rfl rfl) rfl (by decide) ?_
      have hl := hl.below (hw48.mono (by omega))
      refine lg_callw (want_t (dj := 64) (by rfl) (by kernel_rfl) rfl) (putL_any ((Sl.nil _ 0).more (B' := w48.heap.size) (by omega)) (show IsLf w48 w48.heap.size (⟨l.enc, l.cred, l.par⟩ : LfV) (⟨L.enc, L.cred, n, L.par⟩ : Lf) from ⟨hl.enc.more (by omega), hl.cred.more (by omega), hl.par.more (by omega)⟩) (Nat.le_refl _) (by first | omega | (simp only [List.length_append, List.length_nil, numOct_length]; omega))) (by kernel_rfl) rfl rfl rfl (by decide) ?_
      rintro _ w49 ⟨r49, rfl, m49, hw49⟩
      have zw49 := hw49.size
      rw [List.nil_append] at m49
      have lp49 := lfPut_le (⟨L.enc, L.cred, n, L.par⟩ : Lf)
      refine lsw (want_t (dj := 64) (by rfl) (by kernel_rfl) rfl) (y_lenS (el := 5) m49 (by kernel_rfl) rfl rfl) rfl (by decide) ?_
      refine lsw (want_t (dj := 64) (by rfl) (by kernel_rfl) rfl) (yb (decide_eq_true (show ((lfPut (⟨L.enc, L.cred, n, L.par⟩ : Lf)).length : Int) = 0 from (by rw [lfPut_no q]; rfl))) (yi_eql rfl rfl rfl)) rfl (by decide) ?_
      refine lsw (want_t (dj := 60) (by rfl) (by kernel_rfl) rfl) (y_pick true rfl rfl rfl) rfl (by decide) ?_
      refine lsw (want_t (dj := 58) (by rfl) (by kernel_rfl) rfl) (y_pick false rfl rfl rfl) rfl (by decide) ?_
      refine lsw (want_none (by rfl)) (y_pick true rfl rfl rfl) rfl (by decide) ?_
      refine lsw (want_none (by rfl)) (y_move rfl rfl) rfl (by decide) ?_
      have r1 := n15.keep r1
      have r1 := s16.keep r1 (by omega)
      have r1 := s17.keep r1 (by omega)
      have r1 := n18.keep r1
      have r1 := s19.keep r1 (by omega)
      have r1 := RowAt.below dW42 r1.lt r1
      have r1 := RowAt.below hw43 r1.lt r1
      have r1 := RowAt.below hw44 r1.lt r1
      have r1 := RowAt.below hw45 r1.lt r1
      have r1 := RowAt.below hw46 r1.lt r1
      have r1 := RowAt.below hw47 r1.lt r1
      have r1 := RowAt.below hw48 r1.lt r1
      have r1 := RowAt.below hw49 r1.lt r1
      refine lsw (want_t (dj := 72) (by rfl) (by kernel_rfl) rfl) (y_loadA r1 (by kernel_rfl) (by kernel_rfl) rfl rfl) rfl (by decide) ?_
      have hl := hl.below (hw49.mono (by omega))
      refine lg_callw (want_t (dj := 72) (by rfl) (by kernel_rfl) rfl) (check_any (hl.more (B' := w49.heap.size) (by omega)) (Nat.le_refl _)) (by kernel_rfl) rfl rfl rfl (by decide) ?_
      rintro _ w50 ⟨rfl, hw50⟩
      have zw50 := hw50.size
      by_cases c51 : (lfCheck L) = 0
      · refine lsw (want_t (dj := 72) (by rfl) (by kernel_rfl) rfl) (yb (nd_f c51) (yi_neq rfl rfl rfl)) rfl (by decide) ?_
        refine lsw (want_t (dj := 72) (by rfl) (by kernel_rfl) rfl) (y_move rfl rfl) rfl (by decide) ?_
        refine lsw (want_t (dj := 76) (by rfl) (by kernel_rfl) rfl) (y_move rfl rfl) rfl (by decide) ?_
        refine lsw (want_t (dj := 76) (by rfl) (by kernel_rfl) rfl) (y_bnot rfl rfl) rfl (by decide) ?_
        refine lsw (want_t (dj := 72) (by rfl) (by kernel_rfl) rfl) (y_pick false rfl rfl rfl) rfl (by decide) ?_
        refine lsw (want_t (dj := 72) (by rfl) (by kernel_rfl) rfl) (y_move rfl rfl) rfl (by decide) ?_
        refine lsk (want_f (dj := 80) (by rfl) (by kernel_rfl) rfl) rfl (by decide) ?_
        refine lsk (want_f (dj := 80) (by rfl) (by kernel_rfl) rfl) rfl (by decide) ?_
        refine lsw (want_t (dj := 72) (by rfl) (by kernel_rfl) rfl) (y_pick true rfl rfl rfl) rfl (by decide) ?_
        refine lsw (want_t (dj := 72) (by rfl) (by kernel_rfl) rfl) (y_move rfl rfl) rfl (by decide) ?_
        refine lsk (want_f (dj := 84) (by rfl) (by kernel_rfl) rfl) rfl (by decide) ?_
        refine lsk (want_f (dj := 84) (by rfl) (by kernel_rfl) rfl) rfl (by decide) ?_
        refine lsk (want_f (dj := 84) (by rfl) (by kernel_rfl) rfl) rfl (by decide) ?_
        refine lsw (want_t (dj := 72) (by rfl) (by kernel_rfl) rfl) (y_pick true rfl rfl rfl) rfl (by decide) ?_
        refine lsw (want_none (by rfl)) (y_pick true rfl rfl rfl) rfl (by decide) ?_
        refine lsw (want_none (by rfl)) (y_assign rfl rfl) rfl (by decide) ?_
        refine lg_nil ?_
        refine nx (E' := [(4, _)]) (fk rfl fn) ?_
        refine cg_ret ?_
        have u := u.trans (n1.below.mono u.size)
        have u := u.trans (hw2.mono u.size)
        have u := u.trans (hw4.mono u.size)
        have u := u.trans (n5.below.mono u.size)
        have u := u.trans (s6.below _ (by omega))
        have u := u.trans (s7.below _ (by omega))
        have u := u.trans (n8.below.mono u.size)
        have u := u.trans (s9.below _ (by omega))
        have u := u.trans (n10.below.mono u.size)
        have u := u.trans (s11.below _ (by omega))
        have u := u.trans (n12.below.mono u.size)
        have u := u.trans (s13.below _ (by omega))
        have u := u.trans (s14.below _ (by omega))
        have u := u.trans (n15.below.mono u.size)
        have u := u.trans (s16.below _ (by omega))
        have u := u.trans (s17.below _ (by omega))
        have u := u.trans (n18.below.mono u.size)
        have u := u.trans (s19.below _ (by omega))
        have u := u.trans (dW42.mono u.size)
        have u := u.trans (hw43.mono u.size)
        have u := u.trans (hw44.mono u.size)
        have u := u.trans (hw45.mono u.size)
        have u := u.trans (hw46.mono u.size)
        have u := u.trans (hw47.mono u.size)
        have u := u.trans (hw48.mono u.size)
        have u := u.trans (hw49.mono u.size)
        have u := u.trans (hw50.mono u.size)
        exact eg_ret_tmp rfl rfl ⟨_, rfl, rfl, u⟩
      · refine lsw (want_t (dj := 72) (by rfl) (by kernel_rfl) rfl) (yb (nd_t c51) (yi_neq rfl rfl rfl)) rfl (by decide) ?_
        refine lsw (want_t (dj := 72) (by rfl) (by kernel_rfl) rfl) (y_move rfl rfl) rfl (by decide) ?_
        refine lsk (want_f (dj := 76) (by rfl) (by kernel_rfl) rfl) rfl (by decide) ?_
        refine lsk (want_f (dj := 76) (by rfl) (by kernel_rfl) rfl) rfl (by decide) ?_
        refine lsw (want_t (dj := 72) (by rfl) (by kernel_rfl) rfl) (y_pick true rfl rfl rfl) rfl (by decide) ?_
        refine lsw (want_t (dj := 72) (by rfl) (by kernel_rfl) rfl) (y_move rfl rfl) rfl (by decide) ?_
        refine lsk (want_f (dj := 80) (by rfl) (by kernel_rfl) rfl) rfl (by decide) ?_
        refine lsk (want_f (dj := 80) (by rfl) (by kernel_rfl) rfl) rfl (by decide) ?_
        refine lsw (want_t (dj := 72) (by rfl) (by kernel_rfl) rfl) (y_pick true rfl rfl rfl) rfl (by decide) ?_
        refine lsw (want_t (dj := 72) (by rfl) (by kernel_rfl) rfl) (y_move rfl rfl) rfl (by decide) ?_
        refine lsk (want_f (dj := 84) (by rfl) (by kernel_rfl) rfl) rfl (by decide) ?_
        refine lsk (want_f (dj := 84) (by rfl) (by kernel_rfl) rfl) rfl (by decide) ?_
        refine lsk (want_f (dj := 84) (by rfl) (by kernel_rfl) rfl) rfl (by decide) ?_
        refine lsw (want_t (dj := 72) (by rfl) (by kernel_rfl) rfl) (y_pick true rfl rfl rfl) rfl (by decide) ?_
        refine lsw (want_none (by rfl)) (y_pick true rfl rfl rfl) rfl (by decide) ?_
        refine lsw (want_none (by rfl)) (y_assign rfl rfl) rfl (by decide) ?_
        refine lg_nil ?_
        refine nx (E' := [(4, _)]) (fk rfl fn) ?_
        refine cg_ret ?_
        have u := u.trans (n1.below.mono u.size)
        have u := u.trans (hw2.mono u.size)
        have u := u.trans (hw4.mono u.size)
        have u := u.trans (n5.below.mono u.size)
        have u := u.trans (s6.below _ (by omega))
        have u := u.trans (s7.below _ (by omega))
        have u := u.trans (n8.below.mono u.size)
        have u := u.trans (s9.below _ (by omega))
        have u := u.trans (n10.below.mono u.size)
        have u := u.trans (s11.below _ (by omega))
        have u := u.trans (n12.below.mono u.size)
        have u := u.trans (s13.below _ (by omega))
        have u := u.trans (s14.below _ (by omega))
        have u := u.trans (n15.below.mono u.size)
        have u := u.trans (s16.below _ (by omega))
        have u := u.trans (s17.below _ (by omega))
        have u := u.trans (n18.below.mono u.size)
        have u := u.trans (s19.below _ (by omega))
        have u := u.trans (dW42.mono u.size)
        have u := u.trans (hw43.mono u.size)
        have u := u.trans (hw44.mono u.size)
        have u := u.trans (hw45.mono u.size)
        have u := u.trans (hw46.mono u.size)
        have u := u.trans (hw47.mono u.size)
        have u := u.trans (hw48.mono u.size)
        have u := u.trans (hw49.mono u.size)
        have u := u.trans (hw50.mono u.size)
        exact eg_ret_tmp rfl rfl ⟨_, rfl, rfl, u⟩
  · refine lg_callw (want_none (by rfl)) (few_any (hl.more (B' := w2.heap.size) (by omega)) (Nat.le_refl _)) (by kernel_rfl) rfl rfl rfl (by decide) ?_
    rintro u52 w52 ⟨e52, hw52⟩
    have zw52 := hw52.size
    obtain rfl : u52 = .bool false := e52.trans (congrArg Value.bool (decide_eq_false c3))
    refine lsw (want_none (by rfl)) (y_bnot rfl rfl) rfl (by decide) ?_
    refine lg_nil ?_
    refine nx (E' := [(1, _), (2, _), (4, _), (5, _), (14, _)]) (fk rfl (fk rfl (fk rfl (fk rfl (fk rfl fn))))) ?_
    refine cg_ct rfl ?_
    refine cg_seq ?_
    refine cg_region ?_
    refine lsw (want_none (by rfl)) (y_move rfl rfl) rfl (by decide) ?_
    refine lsw (want_none (by rfl)) (y_assign rfl rfl) rfl (by decide) ?_
    refine lg_nil ?_
    refine nx (E' := [(1, _), (2, _), (5, _), (4, _)]) (fk rfl (fk rfl (fk rfl (fk rfl fn)))) ?_
    refine cg_ret ?_
    refine eg_seq_ret ?_
    have u := u.trans (n1.below.mono u.size)
    have u := u.trans (hw2.mono u.size)
    have u := u.trans (hw52.mono u.size)
    exact eg_ret_tmp rfl rfl ⟨_, rfl, rfl, u⟩
end Go.Proofs.Ytakbbenegojcdaa
