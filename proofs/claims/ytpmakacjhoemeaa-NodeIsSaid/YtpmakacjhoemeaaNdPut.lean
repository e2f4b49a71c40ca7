/-
  node.Put, Get, and what is summed up.
-/
import Derived.Test.YtpmakacjhoemeaaNdProg
namespace Go.Proofs.Ytpmakacjhoemeaa
open Go.ChangeShapes Go.WideShapes Go.ChangeAt Go.RowKit
set_option linter.unusedVariables false

section
set_option maxHeartbeats 1000000
theorem putN_any {W : World} {B : Nat} {s : SlV} {xs : List Int} {l : NdV} {L : Nd} (h : Sl W B s xs) (hl : IsNd W B l L) (hB : B ≤ W.heap.size) (hx : xs.length ≤ 1000000) : Calls Try.prog 16 #[s.v, .agg (l.cs L)] W fun e W' => ∃ v, e = .returned v ∧ PutS W (xs ++ ndPut L) v W' := by
  refine calls_cg (n := 30) Try.func16 rfl Try.ntmps16 (by simp) ?_
  show CG _ _ _ [(0, s.v), (1, .agg (l.cs L))] _ _
  have u := Below.refl W.heap.size W
  refine cg_seq ?_
  refine cg_region ?_
  refine lg_boxw (want_none (by rfl)) rfl rfl (by kernel_rfl) rfl (by decide) fun b1 w1 n1 => ?_
  have r1 := n1.row
  have k1 := n1.blk
  have z1 := n1.size
  have lt1 : b1 < w1.heap.size := by omega
  refine lsw (want_none (by rfl)) (y_assign rfl rfl) rfl (by decide) ?_
  refine lg_nil ?_
  refine nx (E' := [(0, _), (3, _), (4, _)]) (fk rfl (fk rfl (fk rfl fn))) ?_
  refine cg_seq ?_
  refine cg_region ?_
  refine lsw (want_none (by rfl)) (y_loadA r1 (by kernel_rfl) (by kernel_rfl) rfl rfl) rfl (by decide) ?_
  have hl := hl.below (n1.below.mono (by omega))
  refine lg_callw (want_none (by rfl)) (countsN_any (hl.more (B' := w1.heap.size) (by omega)) (Nat.le_refl _)) (by kernel_rfl) rfl rfl rfl (by decide) ?_
  rintro _ w2 ⟨rfl, hw2⟩
  have zw2 := hw2.size
  by_cases c3 : ((ndAs L).kind) = 1
  · obtain ⟨eaL, ckL⟩ := ndAs_kind (L := L) (by omega)
    have kL : L.kind = 1 := (congrArg Nd.kind eaL).symm.trans c3
    refine lg_callw (want_none (by rfl)) (of1_any _ c3 _) (by kernel_rfl) rfl rfl rfl (by decide) ?_
    rintro _ w4 ⟨rfl, hw4⟩
    have zw4 := hw4.size
    refine lsw (want_none (by rfl)) (y_move rfl rfl) rfl (by decide) ?_
    refine lsw (want_none (by rfl)) (y_extract rfl rfl rfl) rfl (by decide) ?_
    refine lsw (want_none (by rfl)) (y_extract rfl rfl rfl) rfl (by decide) ?_
    refine lg_allocw (cs := CsV.zero.cs Cs.zero) (want_none (by rfl)) rfl (by kernel_rfl) rfl (by decide) fun b5 w5 n5 => ?_
    have r5 := n5.row
    have k5 := n5.blk
    have z5 := n5.size
    have lt5 : b5 < w5.heap.size := by omega
    have o6 := r5
    refine lg_stw (want_none (by rfl)) r5 rfl rfl rfl (by kernel_rfl) (by kernel_rfl) rfl rfl fun w6 s6 => ?_
    have r5 := s6.row
    have z6 := s6.size
    refine lsw (want_none (by rfl)) (y_assign rfl rfl) rfl (by decide) ?_
    refine lg_nil ?_
    refine nx (E' := [(0, _), (3, _), (4, _), (5, _), (6, _)]) (fk rfl (fk rfl (fk rfl (fk rfl (fk rfl fn))))) ?_
    refine cg_seq ?_
    refine cg_region ?_
    refine lsw (want_none (by rfl)) (y_move rfl rfl) rfl (by decide) ?_
    refine lg_callw (want_none (by rfl)) (putFlag_S true (Sl.nil _ 0) (by omega) (by first | omega | (simp only [List.length_nil]; omega))) (by kernel_rfl) rfl rfl rfl (by decide) ?_
    rintro _ w7 ⟨r7, rfl, m7, hw7⟩
    have zw7 := hw7.size
    rw [List.nil_append] at m7
    refine lsw (want_none (by rfl)) (y_assign rfl rfl) rfl (by decide) ?_
    refine lg_nil ?_
    refine nx (E' := [(0, _), (3, _), (4, _), (5, _), (6, _), (7, _)]) (fk rfl (fk rfl (fk rfl (fk rfl (fk rfl (fk rfl fn)))))) ?_
    refine cg_seq ?_
    refine cg_seq ?_
    refine cg_region ?_
    refine lsw (want_none (by rfl)) (y_move rfl rfl) rfl (by decide) ?_
    refine lg_nil ?_
    refine nx (E' := [(0, _), (3, _), (4, _), (5, _), (7, _), (16, _)]) (fk rfl (fk rfl (fk rfl (fk rfl (fk rfl (fk rfl fn)))))) ?_
    refine cg_ct rfl ?_
    refine cg_seq ?_
    refine cg_region ?_
    refine lsw (want_none (by rfl)) (y_move rfl rfl) rfl (by decide) ?_
    refine lsw (want_none (by rfl)) (y_fld (off := 0) (by kernel_rfl) rfl rfl) rfl (by decide) ?_
    have r1 := RowAt.below hw2 r1.lt r1
    have r1 := RowAt.below hw4 r1.lt r1
    have r1 := n5.keep r1
    have r1 := s6.keep r1 (by omega)
    have r1 := RowAt.below hw7 r1.lt r1
    refine lsw (want_none (by rfl)) (y_cellv (v := nv L.kind) r1 rfl (by kernel_rfl) rfl rfl) rfl (by decide) ?_
    refine lg_callw (want_none (by rfl)) (putNum_S L.kind 1 m7 (by omega) (by first | omega | (simp only [flagOct_length]; omega))) (by kernel_rfl) rfl rfl rfl (by decide) ?_
    rintro _ w8 ⟨r8, rfl, m8, hw8⟩
    have zw8 := hw8.size
    have wk8 := widthK_le 1
    refine lsw (want_none (by rfl)) (y_assign rfl rfl) rfl (by decide) ?_
    refine lg_nil ?_
    refine nx (E' := [(0, _), (3, _), (4, _), (5, _), (7, _)]) (fk rfl (fk rfl (fk rfl (fk rfl (fk rfl fn))))) ?_
    refine cg_region ?_
    refine lsw (want_none (by rfl)) (y_fld (off := 0) (by kernel_rfl) rfl rfl) rfl (by decide) ?_
    have r5 := RowAt.below hw7 r5.lt r5
    have r5 := RowAt.below hw8 r5.lt r5
    refine lsw (want_none (by rfl)) (y_cellv (v := fnv (some 56)) r5 rfl (by kernel_rfl) rfl rfl) rfl (by decide) ?_
    have r1 := RowAt.below hw8 r1.lt r1
    refine lsw (want_none (by rfl)) (y_loadA r1 (by kernel_rfl) (by kernel_rfl) rfl rfl) rfl (by decide) ?_
    refine lsw (want_none (by rfl)) (y_move rfl rfl) rfl (by decide) ?_
    have hl := hl.below (hw2.mono (by omega))
    have hl := hl.below (hw4.mono (by omega))
    have hl := hl.below (n5.below.mono (by omega))
    have hl := hl.below (s6.below _ (by omega))
    have hl := hl.below (hw7.mono (by omega))
    have hl := hl.below (hw8.mono (by omega))
    refine lg_callv (fs := []) (vs := [.agg (l.cs L), r8.v]) (us := []) (want_none (by rfl)) (putLeafN_any (hl.more (B' := w8.heap.size) (by omega)) (m8.more (B' := w8.heap.size) (by omega)) (Nat.le_refl _) (by first | omega | (simp only [List.length_append, numOct_length, flagOct_length]; omega))) (by kernel_rfl) rfl rfl rfl rfl (by decide) ?_
    rintro _ w9 ⟨r9, rfl, m9, hw9⟩
    have zw9 := hw9.size
    have lp9 := lfPut_le L.leaf
    refine lsw (want_none (by rfl)) (y_assign rfl rfl) rfl (by decide) ?_
    refine lg_nil ?_
    refine nx (E' := [(0, _), (4, _), (7, _)]) (fk rfl (fk rfl (fk rfl fn))) ?_
    refine cg_seq ?_
    refine cg_region ?_
    refine lsw (want_none (by rfl)) (y_move rfl rfl) rfl (by decide) ?_
    refine lsw (want_none (by rfl)) (y_move rfl rfl) rfl (by decide) ?_
    refine lg_bslice (el := 22) (z := .slice none 0 0) (cs := #[s.v, r9.v]) (by kernel_rfl) (by kernel_rfl) (by decide) (by decide) rfl rfl (by kernel_rfl) rfl rfl (by decide) fun b10 w10 n10 => ?_
    have r10 := n10.row
    have k10 := n10.blk
    have z10 := n10.size
    have lt10 : b10 < w10.heap.size := by omega
    have h := h.below (n1.below.mono (by omega))
    have h := h.below (hw2.mono (by omega))
    have h := h.below (hw4.mono (by omega))
    have h := h.below (n5.below.mono (by omega))
    have h := h.set o6 rfl s6
    have h := h.below (hw7.mono (by omega))
    have h := h.below (hw8.mono (by omega))
    have h := h.below (hw9.mono (by omega))
    have h := h.below (n10.below.mono (by omega))
    have m9 := m9.below (n10.below.mono (by omega))
    refine lg_callw (want_none (by rfl)) (concat2_S r10 h m9 (by omega) (by omega) (by first | omega | (simp only [List.length_append, numOct_length, flagOct_length]; omega))) (by kernel_rfl) rfl rfl rfl (by decide) ?_
    rintro _ w11 ⟨r11, rfl, m11, hw11⟩
    have zw11 := hw11.size
    refine lsw (want_none (by rfl)) (y_assign rfl rfl) rfl (by decide) ?_
    refine lg_nil ?_
    refine nx (E' := [(4, _)]) (fk rfl fn) ?_
    refine cg_ret ?_
    have u := u.trans (n1.below.mono u.size)
    have u := u.trans (hw2.mono u.size)
    have u := u.trans (hw4.mono u.size)
    have u := u.trans (n5.below.mono u.size)
    have u := u.trans (s6.below _ (by omega))
    have u := u.trans (hw7.mono u.size)
    have u := u.trans (hw8.mono u.size)
    have u := u.trans (hw9.mono u.size)
    have u := u.trans (n10.below.mono u.size)
    have u := u.trans (hw11.mono u.size)
    exact eg_ret_tmp rfl rfl ⟨_, rfl, r11, rfl, (m11.more (by omega)).cast (by rw [ndPut, if_pos c3, kL]), u⟩
  · by_cases c12 : ((ndAs L).kind) = 2
    · obtain ⟨eaL, ckL⟩ := ndAs_kind (L := L) (by omega)
      have kL : L.kind = 2 := (congrArg Nd.kind eaL).symm.trans c12
      refine lg_callw (want_none (by rfl)) (of2_any _ c12 _) (by kernel_rfl) rfl rfl rfl (by decide) ?_
      rintro _ w13 ⟨rfl, hw13⟩
      have zw13 := hw13.size
      refine lsw (want_none (by rfl)) (y_move rfl rfl) rfl (by decide) ?_
      refine lsw (want_none (by rfl)) (y_extract rfl rfl rfl) rfl (by decide) ?_
      refine lsw (want_none (by rfl)) (y_extract rfl rfl rfl) rfl (by decide) ?_
      refine lg_allocw (cs := CsV.zero.cs Cs.zero) (want_none (by rfl)) rfl (by kernel_rfl) rfl (by decide) fun b14 w14 n14 => ?_
      have r14 := n14.row
      have k14 := n14.blk
      have z14 := n14.size
      have lt14 : b14 < w14.heap.size := by omega
      have o15 := r14
      refine lg_stw (want_none (by rfl)) r14 rfl rfl rfl (by kernel_rfl) (by kernel_rfl) rfl rfl fun w15 s15 => ?_
      have r14 := s15.row
      have z15 := s15.size
      refine lsw (want_none (by rfl)) (y_assign rfl rfl) rfl (by decide) ?_
      refine lg_nil ?_
      refine nx (E' := [(0, _), (3, _), (4, _), (5, _), (6, _)]) (fk rfl (fk rfl (fk rfl (fk rfl (fk rfl fn))))) ?_
      refine cg_seq ?_
      refine cg_region ?_
      refine lsw (want_none (by rfl)) (y_move rfl rfl) rfl (by decide) ?_
      refine lg_callw (want_none (by rfl)) (putFlag_S true (Sl.nil _ 0) (by omega) (by first | omega | (simp only [List.length_nil]; omega))) (by kernel_rfl) rfl rfl rfl (by decide) ?_
      rintro _ w16 ⟨r16, rfl, m16, hw16⟩
      have zw16 := hw16.size
      rw [List.nil_append] at m16
      refine lsw (want_none (by rfl)) (y_assign rfl rfl) rfl (by decide) ?_
      refine lg_nil ?_
      refine nx (E' := [(0, _), (3, _), (4, _), (5, _), (6, _), (7, _)]) (fk rfl (fk rfl (fk rfl (fk rfl (fk rfl (fk rfl fn)))))) ?_
      refine cg_seq ?_
      refine cg_seq ?_
      refine cg_region ?_
      refine lsw (want_none (by rfl)) (y_move rfl rfl) rfl (by decide) ?_
      refine lg_nil ?_
      refine nx (E' := [(0, _), (3, _), (4, _), (5, _), (7, _), (16, _)]) (fk rfl (fk rfl (fk rfl (fk rfl (fk rfl (fk rfl fn)))))) ?_
      refine cg_ct rfl ?_
      refine cg_seq ?_
      refine cg_region ?_
      refine lsw (want_none (by rfl)) (y_move rfl rfl) rfl (by decide) ?_
      refine lsw (want_none (by rfl)) (y_fld (off := 0) (by kernel_rfl) rfl rfl) rfl (by decide) ?_
      have r1 := RowAt.below hw2 r1.lt r1
      have r1 := RowAt.below hw13 r1.lt r1
      have r1 := n14.keep r1
      have r1 := s15.keep r1 (by omega)
      have r1 := RowAt.below hw16 r1.lt r1
      refine lsw (want_none (by rfl)) (y_cellv (v := nv L.kind) r1 rfl (by kernel_rfl) rfl rfl) rfl (by decide) ?_
      refine lg_callw (want_none (by rfl)) (putNum_S L.kind 1 m16 (by omega) (by first | omega | (simp only [flagOct_length]; omega))) (by kernel_rfl) rfl rfl rfl (by decide) ?_
      rintro _ w17 ⟨r17, rfl, m17, hw17⟩
      have zw17 := hw17.size
      have wk17 := widthK_le 1
      refine lsw (want_none (by rfl)) (y_assign rfl rfl) rfl (by decide) ?_
      refine lg_nil ?_
      refine nx (E' := [(0, _), (3, _), (4, _), (5, _), (7, _)]) (fk rfl (fk rfl (fk rfl (fk rfl (fk rfl fn))))) ?_
      refine cg_region ?_
      refine lsw (want_none (by rfl)) (y_fld (off := 0) (by kernel_rfl) rfl rfl) rfl (by decide) ?_
      have r14 := RowAt.below hw16 r14.lt r14
      have r14 := RowAt.below hw17 r14.lt r14
      refine lsw (want_none (by rfl)) (y_cellv (v := fnv (some 58)) r14 rfl (by kernel_rfl) rfl rfl) rfl (by decide) ?_
      have r1 := RowAt.below hw17 r1.lt r1
      refine lsw (want_none (by rfl)) (y_loadA r1 (by kernel_rfl) (by kernel_rfl) rfl rfl) rfl (by decide) ?_
      refine lsw (want_none (by rfl)) (y_move rfl rfl) rfl (by decide) ?_
      have hl := hl.below (hw2.mono (by omega))
      have hl := hl.below (hw13.mono (by omega))
      have hl := hl.below (n14.below.mono (by omega))
      have hl := hl.below (s15.below _ (by omega))
      have hl := hl.below (hw16.mono (by omega))
      have hl := hl.below (hw17.mono (by omega))
      refine lg_callv (fs := []) (vs := [.agg (l.cs L), r17.v]) (us := []) (want_none (by rfl)) (putInnerN_any (hl.more (B' := w17.heap.size) (by omega)) (m17.more (B' := w17.heap.size) (by omega)) (Nat.le_refl _) (by first | omega | (simp only [List.length_append, numOct_length, flagOct_length]; omega))) (by kernel_rfl) rfl rfl rfl rfl (by decide) ?_
      rintro _ w18 ⟨r18, rfl, m18, hw18⟩
      have zw18 := hw18.size
      have lp18 := pnPut_le L.inner
      refine lsw (want_none (by rfl)) (y_assign rfl rfl) rfl (by decide) ?_
      refine lg_nil ?_
      refine nx (E' := [(0, _), (4, _), (7, _)]) (fk rfl (fk rfl (fk rfl fn))) ?_
      refine cg_seq ?_
      refine cg_region ?_
      refine lsw (want_none (by rfl)) (y_move rfl rfl) rfl (by decide) ?_
      refine lsw (want_none (by rfl)) (y_move rfl rfl) rfl (by decide) ?_
      refine lg_bslice (el := 22) (z := .slice none 0 0) (cs := #[s.v, r18.v]) (by kernel_rfl) (by kernel_rfl) (by decide) (by decide) rfl rfl (by kernel_rfl) rfl rfl (by decide) fun b19 w19 n19 => ?_
      have r19 := n19.row
      have k19 := n19.blk
      have z19 := n19.size
      have lt19 : b19 < w19.heap.size := by omega
      have h := h.below (n1.below.mono (by omega))
      have h := h.below (hw2.mono (by omega))
      have h := h.below (hw13.mono (by omega))
      have h := h.below (n14.below.mono (by omega))
      have h := h.set o15 rfl s15
      have h := h.below (hw16.mono (by omega))
      have h := h.below (hw17.mono (by omega))
      have h := h.below (hw18.mono (by omega))
      have h := h.below (n19.below.mono (by omega))
      have m18 := m18.below (n19.below.mono (by omega))
      refine lg_callw (want_none (by rfl)) (concat2_S r19 h m18 (by omega) (by omega) (by first | omega | (simp only [List.length_append, numOct_length, flagOct_length]; omega))) (by kernel_rfl) rfl rfl rfl (by decide) ?_
      rintro _ w20 ⟨r20, rfl, m20, hw20⟩
      have zw20 := hw20.size
      refine lsw (want_none (by rfl)) (y_assign rfl rfl) rfl (by decide) ?_
      refine lg_nil ?_
      refine nx (E' := [(4, _)]) (fk rfl fn) ?_
      refine cg_ret ?_
      have u := u.trans (n1.below.mono u.size)
      have u := u.trans (hw2.mono u.size)
      have u := u.trans (hw13.mono u.size)
      have u := u.trans (n14.below.mono u.size)
      have u := u.trans (s15.below _ (by omega))
      have u := u.trans (hw16.mono u.size)
      have u := u.trans (hw17.mono u.size)
      have u := u.trans (hw18.mono u.size)
      have u := u.trans (n19.below.mono u.size)
      have u := u.trans (hw20.mono u.size)
      exact eg_ret_tmp rfl rfl ⟨_, rfl, r20, rfl, (m20.more (by omega)).cast (by rw [ndPut, if_neg c3, if_pos c12, kL]), u⟩
    · refine lg_callw (want_none (by rfl)) (of0_any _ c3 c12 _) (by kernel_rfl) rfl rfl rfl (by decide) ?_
      rintro _ w21 ⟨rfl, hw21⟩
      have zw21 := hw21.size
      refine lsw (want_none (by rfl)) (y_move rfl rfl) rfl (by decide) ?_
      refine lsw (want_none (by rfl)) (y_extract rfl rfl rfl) rfl (by decide) ?_
      refine lsw (want_none (by rfl)) (y_extract rfl rfl rfl) rfl (by decide) ?_
      refine lg_allocw (cs := CsV.zero.cs Cs.zero) (want_none (by rfl)) rfl (by kernel_rfl) rfl (by decide) fun b22 w22 n22 => ?_
      have r22 := n22.row
      have k22 := n22.blk
      have z22 := n22.size
      have lt22 : b22 < w22.heap.size := by omega
      have o23 := r22
      refine lg_stw (want_none (by rfl)) r22 rfl rfl rfl (by kernel_rfl) (by kernel_rfl) rfl rfl fun w23 s23 => ?_
      have r22 := s23.row
      have z23 := s23.size
      refine lsw (want_none (by rfl)) (y_assign rfl rfl) rfl (by decide) ?_
      refine lg_nil ?_
      refine nx (E' := [(0, _), (3, _), (4, _), (5, _), (6, _)]) (fk rfl (fk rfl (fk rfl (fk rfl (fk rfl fn))))) ?_
      refine cg_seq ?_
      refine cg_region ?_
      refine lsw (want_none (by rfl)) (y_move rfl rfl) rfl (by decide) ?_
      refine lg_callw (want_none (by rfl)) (putFlag_S false (Sl.nil _ 0) (by omega) (by first | omega | (simp only [List.length_nil]; omega))) (by kernel_rfl) rfl rfl rfl (by decide) ?_
      rintro _ w24 ⟨r24, rfl, m24, hw24⟩
      have zw24 := hw24.size
      rw [List.nil_append] at m24
      refine lsw (want_none (by rfl)) (y_assign rfl rfl) rfl (by decide) ?_
      refine lg_nil ?_
      refine nx (E' := [(0, _), (3, _), (4, _), (5, _), (6, _), (7, _)]) (fk rfl (fk rfl (fk rfl (fk rfl (fk rfl (fk rfl fn)))))) ?_
      refine cg_seq ?_
      refine cg_seq ?_
      refine cg_region ?_
      refine lsw (want_none (by rfl)) (y_move rfl rfl) rfl (by decide) ?_
      refine lg_nil ?_
      refine nx (E' := [(0, _), (3, _), (4, _), (5, _), (7, _), (16, _)]) (fk rfl (fk rfl (fk rfl (fk rfl (fk rfl (fk rfl fn)))))) ?_
      refine cg_cf rfl ?_
      refine cg_skip ?_
      refine nx (E' := [(0, _), (4, _), (7, _)]) (fk rfl (fk rfl (fk rfl fn))) ?_
      refine cg_seq ?_
      refine cg_region ?_
      refine lsw (want_none (by rfl)) (y_move rfl rfl) rfl (by decide) ?_
      refine lsw (want_none (by rfl)) (y_move rfl rfl) rfl (by decide) ?_
      refine lg_bslice (el := 22) (z := .slice none 0 0) (cs := #[s.v, r24.v]) (by kernel_rfl) (by kernel_rfl) (by decide) (by decide) rfl rfl (by kernel_rfl) rfl rfl (by decide) fun b25 w25 n25 => ?_
      have r25 := n25.row
      have k25 := n25.blk
      have z25 := n25.size
      have lt25 : b25 < w25.heap.size := by omega
      have h := h.below (n1.below.mono (by omega))
      have h := h.below (hw2.mono (by omega))
      have h := h.below (hw21.mono (by omega))
      have h := h.below (n22.below.mono (by omega))
      have h := h.set o23 rfl s23
      have h := h.below (hw24.mono (by omega))
      have h := h.below (n25.below.mono (by omega))
      have m24 := m24.below (n25.below.mono (by omega))
      refine lg_callw (want_none (by rfl)) (concat2_S r25 h m24 (by omega) (by omega) (by first | omega | (simp only [flagOct_length]; omega))) (by kernel_rfl) rfl rfl rfl (by decide) ?_
      rintro _ w26 ⟨r26, rfl, m26, hw26⟩
      have zw26 := hw26.size
      refine lsw (want_none (by rfl)) (y_assign rfl rfl) rfl (by decide) ?_
      refine lg_nil ?_
      refine nx (E' := [(4, _)]) (fk rfl fn) ?_
      refine cg_ret ?_
      have u := u.trans (n1.below.mono u.size)
      have u := u.trans (hw2.mono u.size)
      have u := u.trans (hw21.mono u.size)
      have u := u.trans (n22.below.mono u.size)
      have u := u.trans (s23.below _ (by omega))
      have u := u.trans (hw24.mono u.size)
      have u := u.trans (n25.below.mono u.size)
      have u := u.trans (hw26.mono u.size)
      exact eg_ret_tmp rfl rfl ⟨_, rfl, r26, rfl, (m26.more (by omega)).cast (by rw [ndPut, if_neg c3, if_neg c12]), u⟩
set_option maxHeartbeats 4000000 in
theorem getN_any {W : World} {B : Nat} {s : SlV} {xs : List Int} (h : Sl W B s xs) (hB : B ≤ W.heap.size) : Calls Try.prog 11 #[s.v] W fun e W' => ∃ v, e = .returned v ∧ ∃ (l : NdV) (r : SlV), v = .tuple #[.agg (l.cs (ndGet xs).2.1), r.v, nv (ndGet xs).1] ∧ IsNd W' W'.heap.size l (ndGet xs).2.1 ∧ Sl W' B r (ndGet xs).2.2 ∧ l.fresh W.heap.size ∧ Below W.heap.size W W' := by
  refine calls_cg (n := 60) Try.func11 rfl Try.ntmps11 (by simp) ?_
  show CG _ _ _ [(0, s.v)] _ _
  have u := Below.refl W.heap.size W
  refine cg_seq ?_
  refine cg_region ?_
  refine lg_allocw (cs := NdV.zero.cs Nd.zero) (want_none (by rfl)) rfl (by kernel_rfl) rfl (by decide) fun b1 w1 n1 => ?_
  have r1 := n1.row
  have k1 := n1.blk
  have z1 := n1.size
  have lt1 : b1 < w1.heap.size := by omega
  refine lsw (want_none (by rfl)) (y_assign rfl rfl) rfl (by decide) ?_
  refine lsw (want_none (by rfl)) (y_assign rfl rfl) rfl (by decide) ?_
  refine lg_nil ?_
  refine nx (E' := [(0, _), (2, _), (3, _), (4, _)]) (fk rfl (fk rfl (fk rfl (fk rfl fn)))) ?_
  refine cg_seq ?_
  refine cg_region ?_
  refine lsw (want_none (by rfl)) (y_move rfl rfl) rfl (by decide) ?_
  have h := h.below (n1.below.mono (by omega))
  by_cases c2 : flagB xs = true
  · refine lg_callw (want_none (by rfl)) (getFlag_S h) (by kernel_rfl) rfl rfl rfl (by decide) ?_
    rintro _ w3 ⟨bb3, r3, rfl, e3, l3, hw3⟩
    have zw3 := hw3.size
    obtain rfl : bb3 = true := e3.trans (decide_eq_true c2)
    refine lsw (want_none (by rfl)) (y_move rfl rfl) rfl (by decide) ?_
    refine lsw (want_none (by rfl)) (y_extract rfl rfl rfl) rfl (by decide) ?_
    refine lsw (want_none (by rfl)) (y_extract rfl rfl rfl) rfl (by decide) ?_
    refine lsw (want_none (by rfl)) (y_extract rfl rfl rfl) rfl (by decide) ?_
    refine lsw (want_none (by rfl)) (y_assign rfl rfl) rfl (by decide) ?_
    refine lsw (want_none (by rfl)) (y_assign rfl rfl) rfl (by decide) ?_
    refine lsw (want_none (by rfl)) (y_assign rfl rfl) rfl (by decide) ?_
    refine lg_nil ?_
    refine nx (E' := [(2, _), (3, _), (4, _), (5, _), (6, _), (7, _)]) (fk rfl (fk rfl (fk rfl (fk rfl (fk rfl (fk rfl fn)))))) ?_
    refine cg_seq ?_
    refine cg_seq ?_
    refine cg_region ?_
    refine lsw (want_none (by rfl)) (y_move rfl rfl) rfl (by decide) ?_
    by_cases c4 : (flagE xs) = 0
    · refine lsw (want_none (by rfl)) (yb (nd_f c4) (yi_neq rfl rfl rfl)) rfl (by decide) ?_
      refine lsw (want_none (by rfl)) (y_move rfl rfl) rfl (by decide) ?_
      refine lsw (want_t (dj := 20) (by rfl) (by kernel_rfl) rfl) (y_move rfl rfl) rfl (by decide) ?_
      refine lsw (want_t (dj := 20) (by rfl) (by kernel_rfl) rfl) (y_bnot rfl rfl) rfl (by decide) ?_
      refine lsw (want_none (by rfl)) (y_pick false rfl rfl rfl) rfl (by decide) ?_
      refine lg_nil ?_
      refine nx (E' := [(2, _), (3, _), (4, _), (6, _), (7, _), (23, _)]) (fk rfl (fk rfl (fk rfl (fk rfl (fk rfl (fk rfl fn)))))) ?_
      refine cg_cf rfl ?_
      refine cg_skip ?_
      refine nx (E' := [(2, _), (3, _), (4, _), (6, _), (7, _)]) (fk rfl (fk rfl (fk rfl (fk rfl (fk rfl fn))))) ?_
      refine cg_seq ?_
      refine cg_region ?_
      refine lsw (want_none (by rfl)) (y_move rfl rfl) rfl (by decide) ?_
      refine lg_callw (want_none (by rfl)) (getNum_S 1 l3 (by omega)) (by kernel_rfl) rfl rfl rfl (by decide) ?_
      rintro _ w5 ⟨r5, rfl, l5, hw5⟩
      have zw5 := hw5.size
      refine lsw (want_none (by rfl)) (y_move rfl rfl) rfl (by decide) ?_
      refine lsw (want_none (by rfl)) (y_extract rfl rfl rfl) rfl (by decide) ?_
      refine lsw (want_none (by rfl)) (y_extract rfl rfl rfl) rfl (by decide) ?_
      refine lsw (want_none (by rfl)) (y_extract rfl rfl rfl) rfl (by decide) ?_
      refine lsw (want_none (by rfl)) (y_assign rfl rfl) rfl (by decide) ?_
      refine lsw (want_none (by rfl)) (y_assign rfl rfl) rfl (by decide) ?_
      refine lsw (want_none (by rfl)) (y_assign rfl rfl) rfl (by decide) ?_
      refine lg_nil ?_
      refine nx (E' := [(2, _), (3, _), (4, _), (8, _), (6, _), (7, _)]) (fk rfl (fk rfl (fk rfl (fk rfl (fk rfl (fk rfl fn)))))) ?_
      refine cg_seq ?_
      refine cg_seq ?_
      refine cg_region ?_
      refine lsw (want_none (by rfl)) (y_move rfl rfl) rfl (by decide) ?_
      by_cases c6 : (numE (flagR xs) 1) = 0
      · refine lsw (want_none (by rfl)) (yb (nd_f c6) (yi_neq rfl rfl rfl)) rfl (by decide) ?_
        refine lg_nil ?_
        refine nx (E' := [(2, _), (3, _), (4, _), (8, _), (6, _), (7, _), (34, _)]) (fk rfl (fk rfl (fk rfl (fk rfl (fk rfl (fk rfl (fk rfl fn))))))) ?_
        refine cg_cf rfl ?_
        refine cg_skip ?_
        refine nx (E' := [(2, _), (3, _), (4, _), (8, _), (6, _), (7, _)]) (fk rfl (fk rfl (fk rfl (fk rfl (fk rfl (fk rfl fn)))))) ?_
        refine cg_seq ?_
        refine cg_region ?_
        refine lsw (want_none (by rfl)) (y_move rfl rfl) rfl (by decide) ?_
        by_cases c7 : (numM (flagR xs) 1) = 1
        · refine lg_callw (want_none (by rfl)) (of1_any _ c7 _) (by kernel_rfl) rfl rfl rfl (by decide) ?_
          rintro _ w8 ⟨rfl, hw8⟩
          have zw8 := hw8.size
          refine lsw (want_none (by rfl)) (y_move rfl rfl) rfl (by decide) ?_
          refine lsw (want_none (by rfl)) (y_extract rfl rfl rfl) rfl (by decide) ?_
          refine lsw (want_none (by rfl)) (y_extract rfl rfl rfl) rfl (by decide) ?_
          refine lg_allocw (cs := CsV.zero.cs Cs.zero) (want_none (by rfl)) rfl (by kernel_rfl) rfl (by decide) fun b9 w9 n9 => ?_
          have r9 := n9.row
          have k9 := n9.blk
          have z9 := n9.size
          have lt9 : b9 < w9.heap.size := by omega
          have o10 := r9
          refine lg_stw (want_none (by rfl)) r9 rfl rfl rfl (by kernel_rfl) (by kernel_rfl) rfl rfl fun w10 s10 => ?_
          have r9 := s10.row
          have z10 := s10.size
          refine lsw (want_none (by rfl)) (y_assign rfl rfl) rfl (by decide) ?_
          refine lg_nil ?_
          refine nx (E' := [(2, _), (3, _), (4, _), (8, _), (6, _), (7, _), (9, _), (10, _)]) (fk rfl (fk rfl (fk rfl (fk rfl (fk rfl (fk rfl (fk rfl (fk rfl fn)))))))) ?_
          refine cg_seq ?_
          refine cg_seq ?_
          refine cg_region ?_
          refine lsw (want_none (by rfl)) (y_move rfl rfl) rfl (by decide) ?_
          refine lsw (want_none (by rfl)) (y_bnot rfl rfl) rfl (by decide) ?_
          refine lg_nil ?_
          refine nx (E' := [(2, _), (3, _), (4, _), (8, _), (6, _), (7, _), (9, _), (43, _)]) (fk rfl (fk rfl (fk rfl (fk rfl (fk rfl (fk rfl (fk rfl (fk rfl fn)))))))) ?_
          refine cg_cf rfl ?_
          refine cg_skip ?_
          refine nx (E' := [(2, _), (3, _), (4, _), (8, _), (6, _), (7, _), (9, _)]) (fk rfl (fk rfl (fk rfl (fk rfl (fk rfl (fk rfl (fk rfl fn))))))) ?_
          refine cg_seq ?_
          refine cg_region ?_
          refine lsw (want_none (by rfl)) (y_move rfl rfl) rfl (by decide) ?_
          refine lsw (want_none (by rfl)) (y_build (cs := (⟨LfV.zero, PnV.zero⟩ : NdV).cs (⟨(numM (flagR xs) 1), Lf.zero, Pn.zero⟩ : Nd)) rfl rfl (by kernel_rfl)) rfl (by decide) ?_
          refine lg_allocw (cs := NdV.zero.cs Nd.zero) (want_none (by rfl)) rfl (by kernel_rfl) rfl (by decide) fun b11 w11 n11 => ?_
          have r11 := n11.row
          have k11 := n11.blk
          have z11 := n11.size
          have lt11 : b11 < w11.heap.size := by omega
          have o12 := r11
          refine lg_stw (want_none (by rfl)) r11 rfl rfl rfl (by kernel_rfl) (by kernel_rfl) rfl rfl fun w12 s12 => ?_
          have r11 := s12.row
          have z12 := s12.size
          refine lg_nil ?_
          refine nx (E' := [(2, _), (3, _), (4, _), (6, _), (7, _), (9, _), (11, _)]) (fk rfl (fk rfl (fk rfl (fk rfl (fk rfl (fk rfl (fk rfl fn))))))) ?_
          refine cg_seq ?_
          refine cg_region ?_
          refine lsw (want_none (by rfl)) (y_fld (off := 1) (by kernel_rfl) rfl rfl) rfl (by decide) ?_
          have r9 := n11.keep r9
          have r9 := s12.keep r9 (by omega)
          refine lsw (want_none (by rfl)) (y_cellv (v := fnv (some 57)) r9 rfl (by kernel_rfl) rfl rfl) rfl (by decide) ?_
          refine lsw (want_none (by rfl)) (y_move rfl rfl) rfl (by decide) ?_
          have l5 := l5.below (hw8.mono (by omega))
          have l5 := l5.below (n9.below.mono (by omega))
          have l5 := l5.set o10 rfl s10
          have l5 := l5.below (n11.below.mono (by omega))
          have l5 := l5.set o12 rfl s12
          refine lg_callv (fs := []) (vs := [pv b11 0, r5.v]) (us := []) (want_none (by rfl)) (getLeafN_any (k := (numM (flagR xs) 1)) r11 l5 (by omega) (by omega)) (by kernel_rfl) rfl rfl rfl rfl (by decide) ?_
          rintro _ w13 ⟨p13, r13, rfl, m13, l13, y13, hw13⟩
          have zw13 := hw13.size
          have r11 := y13
          refine lsw (want_none (by rfl)) (y_move rfl rfl) rfl (by decide) ?_
          refine lsw (want_none (by rfl)) (y_extract rfl rfl rfl) rfl (by decide) ?_
          refine lsw (want_none (by rfl)) (y_extract rfl rfl rfl) rfl (by decide) ?_
          refine lsw (want_none (by rfl)) (y_assign rfl rfl) rfl (by decide) ?_
          refine lsw (want_none (by rfl)) (y_assign rfl rfl) rfl (by decide) ?_
          refine lg_nil ?_
          refine nx (E' := [(2, _), (3, _), (4, _), (11, _), (6, _), (7, _)]) (fk rfl (fk rfl (fk rfl (fk rfl (fk rfl (fk rfl fn)))))) ?_
          refine cg_seq ?_
          refine cg_seq ?_
          refine cg_region ?_
          refine lsw (want_none (by rfl)) (y_move rfl rfl) rfl (by decide) ?_
          by_cases c14 : (lfGet (numR (flagR xs) 1)).1 = 0
          · refine lsw (want_none (by rfl)) (yb (nd_f c14) (yi_neq rfl rfl rfl)) rfl (by decide) ?_
            refine lg_nil ?_
            refine nx (E' := [(2, _), (3, _), (4, _), (11, _), (6, _), (7, _), (55, _)]) (fk rfl (fk rfl (fk rfl (fk rfl (fk rfl (fk rfl (fk rfl fn))))))) ?_
            refine cg_cf rfl ?_
            refine cg_skip ?_
            refine nx (E' := [(2, _), (3, _), (4, _), (11, _), (6, _)]) (fk rfl (fk rfl (fk rfl (fk rfl (fk rfl fn))))) ?_
            refine cg_seq ?_
            refine cg_region ?_
            refine lsw (want_none (by rfl)) (y_loadA r11 (by kernel_rfl) (by kernel_rfl) rfl rfl) rfl (by decide) ?_
            refine lsw (want_none (by rfl)) (y_move rfl rfl) rfl (by decide) ?_
            have r1 := RowAt.below hw3 r1.lt r1
            have r1 := RowAt.below hw5 r1.lt r1
            have r1 := RowAt.below hw8 r1.lt r1
            have r1 := n9.keep r1
            have r1 := s10.keep r1 (by omega)
            have r1 := n11.keep r1
            have r1 := s12.keep r1 (by omega)
            have r1 := hw13.keep r1 (by omega) (by omega)
            have o15 := r1
            refine lg_stw (want_none (by rfl)) r1 rfl rfl rfl (by kernel_rfl) (by kernel_rfl) rfl rfl fun w15 s15 => ?_
            have r1 := s15.row
            have z15 := s15.size
            refine lsw (want_none (by rfl)) (y_assign rfl rfl) rfl (by decide) ?_
            refine lsw (want_none (by rfl)) (y_assign rfl rfl) rfl (by decide) ?_
            refine lg_nil ?_
            refine nx (E' := [(2, _), (3, _), (4, _)]) (fk rfl (fk rfl (fk rfl fn))) ?_
            refine cg_ret ?_
            have hst : ndGet xs = (0, (⟨(numM (flagR xs) 1), (lfGet (numR (flagR xs) 1)).2.1, Pn.zero⟩ : Nd), (lfGet (numR (flagR xs) 1)).2.2) := by rw [ndGet, if_neg (not_not_intro c4), if_neg (not_not_intro c2), if_neg (not_not_intro c6), if_pos c7, if_neg (not_not_intro c14), c7]
            refine eg_ret_agg3 rfl rfl r1 (by kernel_rfl) (by kernel_rfl) rfl rfl ?_
            rw [hst]
            have m13 := m13.set o15 rfl s15
            have l13 := l13.set o15 rfl s15
            have u := u.trans (n1.below.mono u.size)
            have u := u.trans (hw3.mono u.size)
            have u := u.trans (hw5.mono u.size)
            have u := u.trans (hw8.mono u.size)
            have u := u.trans (n9.below.mono u.size)
            have u := u.trans (s10.below _ (by omega))
            have u := u.trans (n11.below.mono u.size)
            have u := u.trans (s12.below _ (by omega))
            have u := u.trans (hw13.below _ (by omega) (by omega) (by omega))
            have u := u.trans (s15.below _ (by omega))
            exact ⟨_, rfl, (⟨p13, PnV.zero⟩ : NdV), r13, rfl, (show IsNd w15 w15.heap.size (⟨p13, PnV.zero⟩ : NdV) (⟨(numM (flagR xs) 1), (lfGet (numR (flagR xs) 1)).2.1, Pn.zero⟩ : Nd) from ⟨(m13.more (B' := w15.heap.size) (by omega)), ((IsPn.zero _ 0).more (B' := w15.heap.size) (by omega))⟩), l13, (Fr.nil _), u⟩
          · refine lsw (want_none (by rfl)) (yb (nd_t c14) (yi_neq rfl rfl rfl)) rfl (by decide) ?_
            refine lg_nil ?_
            refine nx (E' := [(2, _), (3, _), (4, _), (11, _), (6, _), (7, _), (55, _)]) (fk rfl (fk rfl (fk rfl (fk rfl (fk rfl (fk rfl (fk rfl fn))))))) ?_
            refine cg_ct rfl ?_
            refine cg_seq ?_
            refine cg_region ?_
            refine lsw (want_none (by rfl)) (y_build (cs := NdV.zero.cs Nd.zero) rfl rfl (by kernel_rfl)) rfl (by decide) ?_
            refine lsw (want_none (by rfl)) (y_move rfl rfl) rfl (by decide) ?_
            have r1 := RowAt.below hw3 r1.lt r1
            have r1 := RowAt.below hw5 r1.lt r1
            have r1 := RowAt.below hw8 r1.lt r1
            have r1 := n9.keep r1
            have r1 := s10.keep r1 (by omega)
            have r1 := n11.keep r1
            have r1 := s12.keep r1 (by omega)
            have r1 := hw13.keep r1 (by omega) (by omega)
            have o16 := r1
            refine lg_stw (want_none (by rfl)) r1 rfl rfl rfl (by kernel_rfl) (by kernel_rfl) rfl rfl fun w16 s16 => ?_
            have r1 := s16.row
            have z16 := s16.size
            refine lsw (want_none (by rfl)) (y_assign rfl rfl) rfl (by decide) ?_
            refine lsw (want_none (by rfl)) (y_assign rfl rfl) rfl (by decide) ?_
            refine lg_nil ?_
            refine nx (E' := [(2, _), (11, _), (6, _), (3, _), (4, _)]) (fk rfl (fk rfl (fk rfl (fk rfl (fk rfl fn))))) ?_
            refine cg_ret ?_
            refine eg_seq_ret ?_
            have hst : ndGet xs = ((lfGet (numR (flagR xs) 1)).1, Nd.zero, []) := by rw [ndGet, if_neg (not_not_intro c4), if_neg (not_not_intro c2), if_neg (not_not_intro c6), if_pos c7, if_pos c14]
            refine eg_ret_agg3 rfl rfl r1 (by kernel_rfl) (by kernel_rfl) rfl rfl ?_
            rw [hst]
            have u := u.trans (n1.below.mono u.size)
            have u := u.trans (hw3.mono u.size)
            have u := u.trans (hw5.mono u.size)
            have u := u.trans (hw8.mono u.size)
            have u := u.trans (n9.below.mono u.size)
            have u := u.trans (s10.below _ (by omega))
            have u := u.trans (n11.below.mono u.size)
            have u := u.trans (s12.below _ (by omega))
            have u := u.trans (hw13.below _ (by omega) (by omega) (by omega))
            have u := u.trans (s16.below _ (by omega))
            exact ⟨_, rfl, NdV.zero, nilS, rfl, ((IsNd.zero _ 0).more (B' := w16.heap.size) (by omega)), (Sl.nil _ _), (Fr.nil _), u⟩
        · by_cases c17 : (numM (flagR xs) 1) = 2
          · refine lg_callw (want_none (by rfl)) (of2_any _ c17 _) (by kernel_rfl) rfl rfl rfl (by decide) ?_
            rintro _ w18 ⟨rfl, hw18⟩
            have zw18 := hw18.size
            refine lsw (want_none (by rfl)) (y_move rfl rfl) rfl (by decide) ?_
            refine lsw (want_none (by rfl)) (y_extract rfl rfl rfl) rfl (by decide) ?_
            refine lsw (want_none (by rfl)) (y_extract rfl rfl rfl) rfl (by decide) ?_
            refine lg_allocw (cs := CsV.zero.cs Cs.zero) (want_none (by rfl)) rfl (by kernel_rfl) rfl (by decide) fun b19 w19 n19 => ?_
            have r19 := n19.row
            have k19 := n19.blk
            have z19 := n19.size
            have lt19 : b19 < w19.heap.size := by omega
            have o20 := r19
            refine lg_stw (want_none (by rfl)) r19 rfl rfl rfl (by kernel_rfl) (by kernel_rfl) rfl rfl fun w20 s20 => ?_
            have r19 := s20.row
            have z20 := s20.size
            refine lsw (want_none (by rfl)) (y_assign rfl rfl) rfl (by decide) ?_
            refine lg_nil ?_
            refine nx (E' := [(2, _), (3, _), (4, _), (8, _), (6, _), (7, _), (9, _), (10, _)]) (fk rfl (fk rfl (fk rfl (fk rfl (fk rfl (fk rfl (fk rfl (fk rfl fn)))))))) ?_
            refine cg_seq ?_
            refine cg_seq ?_
            refine cg_region ?_
            refine lsw (want_none (by rfl)) (y_move rfl rfl) rfl (by decide) ?_
            refine lsw (want_none (by rfl)) (y_bnot rfl rfl) rfl (by decide) ?_
            refine lg_nil ?_
            refine nx (E' := [(2, _), (3, _), (4, _), (8, _), (6, _), (7, _), (9, _), (43, _)]) (fk rfl (fk rfl (fk rfl (fk rfl (fk rfl (fk rfl (fk rfl (fk rfl fn)))))))) ?_
            refine cg_cf rfl ?_
            refine cg_skip ?_
            refine nx (E' := [(2, _), (3, _), (4, _), (8, _), (6, _), (7, _), (9, _)]) (fk rfl (fk rfl (fk rfl (fk rfl (fk rfl (fk rfl (fk rfl fn))))))) ?_
            refine cg_seq ?_
            refine cg_region ?_
            refine lsw (want_none (by rfl)) (y_move rfl rfl) rfl (by decide) ?_
            refine lsw (want_none (by rfl)) (y_build (cs := (⟨LfV.zero, PnV.zero⟩ : NdV).cs (⟨(numM (flagR xs) 1), Lf.zero, Pn.zero⟩ : Nd)) rfl rfl (by kernel_rfl)) rfl (by decide) ?_
            refine lg_allocw (cs := NdV.zero.cs Nd.zero) (want_none (by rfl)) rfl (by kernel_rfl) rfl (by decide) fun b21 w21 n21 => ?_
            have r21 := n21.row
            have k21 := n21.blk
            have z21 := n21.size
            have lt21 : b21 < w21.heap.size := by omega
            have o22 := r21
            refine lg_stw (want_none (by rfl)) r21 rfl rfl rfl (by kernel_rfl) (by kernel_rfl) rfl rfl fun w22 s22 => ?_
            have r21 := s22.row
            have z22 := s22.size
            refine lg_nil ?_
            refine nx (E' := [(2, _), (3, _), (4, _), (6, _), (7, _), (9, _), (11, _)]) (fk rfl (fk rfl (fk rfl (fk rfl (fk rfl (fk rfl (fk rfl fn))))))) ?_
            refine cg_seq ?_
            refine cg_region ?_
            refine lsw (want_none (by rfl)) (y_fld (off := 1) (by kernel_rfl) rfl rfl) rfl (by decide) ?_
            have r19 := n21.keep r19
            have r19 := s22.keep r19 (by omega)
            refine lsw (want_none (by rfl)) (y_cellv (v := fnv (some 59)) r19 rfl (by kernel_rfl) rfl rfl) rfl (by decide) ?_
            refine lsw (want_none (by rfl)) (y_move rfl rfl) rfl (by decide) ?_
            have l5 := l5.below (hw18.mono (by omega))
            have l5 := l5.below (n19.below.mono (by omega))
            have l5 := l5.set o20 rfl s20
            have l5 := l5.below (n21.below.mono (by omega))
            have l5 := l5.set o22 rfl s22
            refine lg_callv (fs := []) (vs := [pv b21 0, r5.v]) (us := []) (want_none (by rfl)) (getInnerN_any (k := (numM (flagR xs) 1)) r21 l5 (by omega) (by omega)) (by kernel_rfl) rfl rfl rfl rfl (by decide) ?_
            rintro _ w23 ⟨p23, r23, rfl, m23, l23, y23, f23, hw23⟩
            have zw23 := hw23.size
            have r21 := y23
            refine lsw (want_none (by rfl)) (y_move rfl rfl) rfl (by decide) ?_
            refine lsw (want_none (by rfl)) (y_extract rfl rfl rfl) rfl (by decide) ?_
            refine lsw (want_none (by rfl)) (y_extract rfl rfl rfl) rfl (by decide) ?_
            refine lsw (want_none (by rfl)) (y_assign rfl rfl) rfl (by decide) ?_
            refine lsw (want_none (by rfl)) (y_assign rfl rfl) rfl (by decide) ?_
            refine lg_nil ?_
            refine nx (E' := [(2, _), (3, _), (4, _), (11, _), (6, _), (7, _)]) (fk rfl (fk rfl (fk rfl (fk rfl (fk rfl (fk rfl fn)))))) ?_
            refine cg_seq ?_
            refine cg_seq ?_
            refine cg_region ?_
            refine lsw (want_none (by rfl)) (y_move rfl rfl) rfl (by decide) ?_
            by_cases c24 : (pnGet (numR (flagR xs) 1)).1 = 0
            · refine lsw (want_none (by rfl)) (yb (nd_f c24) (yi_neq rfl rfl rfl)) rfl (by decide) ?_
              refine lg_nil ?_
              refine nx (E' := [(2, _), (3, _), (4, _), (11, _), (6, _), (7, _), (55, _)]) (fk rfl (fk rfl (fk rfl (fk rfl (fk rfl (fk rfl (fk rfl fn))))))) ?_
              refine cg_cf rfl ?_
              refine cg_skip ?_
              refine nx (E' := [(2, _), (3, _), (4, _), (11, _), (6, _)]) (fk rfl (fk rfl (fk rfl (fk rfl (fk rfl fn))))) ?_
              refine cg_seq ?_
              refine cg_region ?_
              refine lsw (want_none (by rfl)) (y_loadA r21 (by kernel_rfl) (by kernel_rfl) rfl rfl) rfl (by decide) ?_
              refine lsw (want_none (by rfl)) (y_move rfl rfl) rfl (by decide) ?_
              have r1 := RowAt.below hw3 r1.lt r1
              have r1 := RowAt.below hw5 r1.lt r1
              have r1 := RowAt.below hw18 r1.lt r1
              have r1 := n19.keep r1
              have r1 := s20.keep r1 (by omega)
              have r1 := n21.keep r1
              have r1 := s22.keep r1 (by omega)
              have r1 := hw23.keep r1 (by omega) (by omega)
              have o25 := r1
              refine lg_stw (want_none (by rfl)) r1 rfl rfl rfl (by kernel_rfl) (by kernel_rfl) rfl rfl fun w25 s25 => ?_
              have r1 := s25.row
              have z25 := s25.size
              refine lsw (want_none (by rfl)) (y_assign rfl rfl) rfl (by decide) ?_
              refine lsw (want_none (by rfl)) (y_assign rfl rfl) rfl (by decide) ?_
              refine lg_nil ?_
              refine nx (E' := [(2, _), (3, _), (4, _)]) (fk rfl (fk rfl (fk rfl fn))) ?_
              refine cg_ret ?_
              have hst : ndGet xs = (0, (⟨(numM (flagR xs) 1), Lf.zero, (pnGet (numR (flagR xs) 1)).2.1⟩ : Nd), (pnGet (numR (flagR xs) 1)).2.2) := by rw [ndGet, if_neg (not_not_intro c4), if_neg (not_not_intro c2), if_neg (not_not_intro c6), if_neg c7, if_pos c17, if_neg (not_not_intro c24), c17]
              refine eg_ret_agg3 rfl rfl r1 (by kernel_rfl) (by kernel_rfl) rfl rfl ?_
              rw [hst]
              have m23 := m23.setf o25 rfl f23 (by omega) s25
              have l23 := l23.set o25 rfl s25
              have u := u.trans (n1.below.mono u.size)
              have u := u.trans (hw3.mono u.size)
              have u := u.trans (hw5.mono u.size)
              have u := u.trans (hw18.mono u.size)
              have u := u.trans (n19.below.mono u.size)
              have u := u.trans (s20.below _ (by omega))
              have u := u.trans (n21.below.mono u.size)
              have u := u.trans (s22.below _ (by omega))
              have u := u.trans (hw23.below _ (by omega) (by omega) (by omega))
              have u := u.trans (s25.below _ (by omega))
              exact ⟨_, rfl, (⟨LfV.zero, p23⟩ : NdV), r23, rfl, (show IsNd w25 w25.heap.size (⟨LfV.zero, p23⟩ : NdV) (⟨(numM (flagR xs) 1), Lf.zero, (pnGet (numR (flagR xs) 1)).2.1⟩ : Nd) from ⟨((IsLf.zero _ 0).more (B' := w25.heap.size) (by omega)), (m23.more (B' := w25.heap.size) (by omega))⟩), l23, f23.le (by omega), u⟩
            · refine lsw (want_none (by rfl)) (yb (nd_t c24) (yi_neq rfl rfl rfl)) rfl (by decide) ?_
              refine lg_nil ?_
              refine nx (E' := [(2, _), (3, _), (4, _), (11, _), (6, _), (7, _), (55, _)]) (fk rfl (fk rfl (fk rfl (fk rfl (fk rfl (fk rfl (fk rfl fn))))))) ?_
              refine cg_ct rfl ?_
              refine cg_seq ?_
              refine cg_region ?_
              refine lsw (want_none (by rfl)) (y_build (cs := NdV.zero.cs Nd.zero) rfl rfl (by kernel_rfl)) rfl (by decide) ?_
              refine lsw (want_none (by rfl)) (y_move rfl rfl) rfl (by decide) ?_
              have r1 := RowAt.below hw3 r1.lt r1
              have r1 := RowAt.below hw5 r1.lt r1
              have r1 := RowAt.below hw18 r1.lt r1
              have r1 := n19.keep r1
              have r1 := s20.keep r1 (by omega)
              have r1 := n21.keep r1
              have r1 := s22.keep r1 (by omega)
              have r1 := hw23.keep r1 (by omega) (by omega)
              have o26 := r1
              refine lg_stw (want_none (by rfl)) r1 rfl rfl rfl (by kernel_rfl) (by kernel_rfl) rfl rfl fun w26 s26 => ?_
              have r1 := s26.row
              have z26 := s26.size
              refine lsw (want_none (by rfl)) (y_assign rfl rfl) rfl (by decide) ?_
              refine lsw (want_none (by rfl)) (y_assign rfl rfl) rfl (by decide) ?_
              refine lg_nil ?_
              refine nx (E' := [(2, _), (11, _), (6, _), (3, _), (4, _)]) (fk rfl (fk rfl (fk rfl (fk rfl (fk rfl fn))))) ?_
              refine cg_ret ?_
              refine eg_seq_ret ?_
              have hst : ndGet xs = ((pnGet (numR (flagR xs) 1)).1, Nd.zero, []) := by rw [ndGet, if_neg (not_not_intro c4), if_neg (not_not_intro c2), if_neg (not_not_intro c6), if_neg c7, if_pos c17, if_pos c24]
              refine eg_ret_agg3 rfl rfl r1 (by kernel_rfl) (by kernel_rfl) rfl rfl ?_
              rw [hst]
              have u := u.trans (n1.below.mono u.size)
              have u := u.trans (hw3.mono u.size)
              have u := u.trans (hw5.mono u.size)
              have u := u.trans (hw18.mono u.size)
              have u := u.trans (n19.below.mono u.size)
              have u := u.trans (s20.below _ (by omega))
              have u := u.trans (n21.below.mono u.size)
              have u := u.trans (s22.below _ (by omega))
              have u := u.trans (hw23.below _ (by omega) (by omega) (by omega))
              have u := u.trans (s26.below _ (by omega))
              exact ⟨_, rfl, NdV.zero, nilS, rfl, ((IsNd.zero _ 0).more (B' := w26.heap.size) (by omega)), (Sl.nil _ _), (Fr.nil _), u⟩
          · refine lg_callw (want_none (by rfl)) (of0_any _ c7 c17 _) (by kernel_rfl) rfl rfl rfl (by decide) ?_
            rintro _ w27 ⟨rfl, hw27⟩
            have zw27 := hw27.size
            refine lsw (want_none (by rfl)) (y_move rfl rfl) rfl (by decide) ?_
            refine lsw (want_none (by rfl)) (y_extract rfl rfl rfl) rfl (by decide) ?_
            refine lsw (want_none (by rfl)) (y_extract rfl rfl rfl) rfl (by decide) ?_
            refine lg_allocw (cs := CsV.zero.cs Cs.zero) (want_none (by rfl)) rfl (by kernel_rfl) rfl (by decide) fun b28 w28 n28 => ?_
            have r28 := n28.row
            have k28 := n28.blk
            have z28 := n28.size
            have lt28 : b28 < w28.heap.size := by omega
            have o29 := r28
            refine lg_stw (want_none (by rfl)) r28 rfl rfl rfl (by kernel_rfl) (by kernel_rfl) rfl rfl fun w29 s29 => ?_
            have r28 := s29.row
            have z29 := s29.size
            refine lsw (want_none (by rfl)) (y_assign rfl rfl) rfl (by decide) ?_
            refine lg_nil ?_
            refine nx (E' := [(2, _), (3, _), (4, _), (8, _), (6, _), (7, _), (9, _), (10, _)]) (fk rfl (fk rfl (fk rfl (fk rfl (fk rfl (fk rfl (fk rfl (fk rfl fn)))))))) ?_
            refine cg_seq ?_
            refine cg_seq ?_
            refine cg_region ?_
            refine lsw (want_none (by rfl)) (y_move rfl rfl) rfl (by decide) ?_
            refine lsw (want_none (by rfl)) (y_bnot rfl rfl) rfl (by decide) ?_
            refine lg_nil ?_
            refine nx (E' := [(2, _), (3, _), (4, _), (8, _), (6, _), (7, _), (9, _), (43, _)]) (fk rfl (fk rfl (fk rfl (fk rfl (fk rfl (fk rfl (fk rfl (fk rfl fn)))))))) ?_
            refine cg_ct rfl ?_
            refine cg_seq ?_
            refine cg_region ?_
            refine lsw (want_none (by rfl)) (y_build (cs := NdV.zero.cs Nd.zero) rfl rfl (by kernel_rfl)) rfl (by decide) ?_
            have r1 := RowAt.below hw3 r1.lt r1
            have r1 := RowAt.below hw5 r1.lt r1
            have r1 := RowAt.below hw27 r1.lt r1
            have r1 := n28.keep r1
            have r1 := s29.keep r1 (by omega)
            have o30 := r1
            refine lg_stw (want_none (by rfl)) r1 rfl rfl rfl (by kernel_rfl) (by kernel_rfl) rfl rfl fun w30 s30 => ?_
            have r1 := s30.row
            have z30 := s30.size
            refine lsw (want_none (by rfl)) (y_assign rfl rfl) rfl (by decide) ?_
            refine lsw (want_none (by rfl)) (y_assign rfl rfl) rfl (by decide) ?_
            refine lg_nil ?_
            refine nx (E' := [(2, _), (8, _), (6, _), (7, _), (9, _), (3, _), (4, _)]) (fk rfl (fk rfl (fk rfl (fk rfl (fk rfl (fk rfl (fk rfl fn))))))) ?_
            refine cg_ret ?_
            refine eg_seq_ret ?_
            have hst : ndGet xs = (7, Nd.zero, []) := by rw [ndGet, if_neg (not_not_intro c4), if_neg (not_not_intro c2), if_neg (not_not_intro c6), if_neg c7, if_neg c17]
            refine eg_ret_agg3 rfl rfl r1 (by kernel_rfl) (by kernel_rfl) rfl rfl ?_
            rw [hst]
            have u := u.trans (n1.below.mono u.size)
            have u := u.trans (hw3.mono u.size)
            have u := u.trans (hw5.mono u.size)
            have u := u.trans (hw27.mono u.size)
            have u := u.trans (n28.below.mono u.size)
            have u := u.trans (s29.below _ (by omega))
            have u := u.trans (s30.below _ (by omega))
            exact ⟨_, rfl, NdV.zero, nilS, rfl, ((IsNd.zero _ 0).more (B' := w30.heap.size) (by omega)), (Sl.nil _ _), (Fr.nil _), u⟩
      · refine lsw (want_none (by rfl)) (yb (nd_t c6) (yi_neq rfl rfl rfl)) rfl (by decide) ?_
        refine lg_nil ?_
        refine nx (E' := [(2, _), (3, _), (4, _), (8, _), (6, _), (7, _), (34, _)]) (fk rfl (fk rfl (fk rfl (fk rfl (fk rfl (fk rfl (fk rfl fn))))))) ?_
        refine cg_ct rfl ?_
        refine cg_seq ?_
        refine cg_region ?_
        refine lsw (want_none (by rfl)) (y_build (cs := NdV.zero.cs Nd.zero) rfl rfl (by kernel_rfl)) rfl (by decide) ?_
        refine lsw (want_none (by rfl)) (y_move rfl rfl) rfl (by decide) ?_
        have r1 := RowAt.below hw3 r1.lt r1
        have r1 := RowAt.below hw5 r1.lt r1
        have o31 := r1
        refine lg_stw (want_none (by rfl)) r1 rfl rfl rfl (by kernel_rfl) (by kernel_rfl) rfl rfl fun w31 s31 => ?_
        have r1 := s31.row
        have z31 := s31.size
        refine lsw (want_none (by rfl)) (y_assign rfl rfl) rfl (by decide) ?_
        refine lsw (want_none (by rfl)) (y_assign rfl rfl) rfl (by decide) ?_
        refine lg_nil ?_
        refine nx (E' := [(2, _), (8, _), (6, _), (7, _), (3, _), (4, _)]) (fk rfl (fk rfl (fk rfl (fk rfl (fk rfl (fk rfl fn)))))) ?_
        refine cg_ret ?_
        refine eg_seq_ret ?_
        have hst : ndGet xs = ((numE (flagR xs) 1), Nd.zero, []) := by rw [ndGet, if_neg (not_not_intro c4), if_neg (not_not_intro c2), if_pos c6]
        refine eg_ret_agg3 rfl rfl r1 (by kernel_rfl) (by kernel_rfl) rfl rfl ?_
        rw [hst]
        have u := u.trans (n1.below.mono u.size)
        have u := u.trans (hw3.mono u.size)
        have u := u.trans (hw5.mono u.size)
        have u := u.trans (s31.below _ (by omega))
        exact ⟨_, rfl, NdV.zero, nilS, rfl, ((IsNd.zero _ 0).more (B' := w31.heap.size) (by omega)), (Sl.nil _ _), (Fr.nil _), u⟩
    · refine lsw (want_none (by rfl)) (yb (nd_t c4) (yi_neq rfl rfl rfl)) rfl (by decide) ?_
      refine lsw (want_none (by rfl)) (y_move rfl rfl) rfl (by decide) ?_
      refine lsk (want_f (dj := 20) (by rfl) (by kernel_rfl) rfl) rfl (by decide) ?_
      refine lsk (want_f (dj := 20) (by rfl) (by kernel_rfl) rfl) rfl (by decide) ?_
      refine lsw (want_none (by rfl)) (y_pick true rfl rfl rfl) rfl (by decide) ?_
      refine lg_nil ?_
      refine nx (E' := [(2, _), (3, _), (4, _), (6, _), (7, _), (23, _)]) (fk rfl (fk rfl (fk rfl (fk rfl (fk rfl (fk rfl fn)))))) ?_
      refine cg_ct rfl ?_
      refine cg_seq ?_
      refine cg_region ?_
      refine lsw (want_none (by rfl)) (y_build (cs := NdV.zero.cs Nd.zero) rfl rfl (by kernel_rfl)) rfl (by decide) ?_
      refine lsw (want_none (by rfl)) (y_move rfl rfl) rfl (by decide) ?_
      refine lsw (want_none (by rfl)) (y_move rfl rfl) rfl (by decide) ?_
      have r1 := RowAt.below hw3 r1.lt r1
      have o32 := r1
      refine lg_stw (want_none (by rfl)) r1 rfl rfl rfl (by kernel_rfl) (by kernel_rfl) rfl rfl fun w32 s32 => ?_
      have r1 := s32.row
      have z32 := s32.size
      refine lsw (want_none (by rfl)) (y_assign rfl rfl) rfl (by decide) ?_
      refine lsw (want_none (by rfl)) (y_assign rfl rfl) rfl (by decide) ?_
      refine lg_nil ?_
      refine nx (E' := [(2, _), (6, _), (7, _), (3, _), (4, _)]) (fk rfl (fk rfl (fk rfl (fk rfl (fk rfl fn))))) ?_
      refine cg_ret ?_
      refine eg_seq_ret ?_
      have hst : ndGet xs = ((flagE xs), Nd.zero, (flagR xs)) := by rw [ndGet, if_pos c4, flagR, if_neg c4]
      refine eg_ret_agg3 rfl rfl r1 (by kernel_rfl) (by kernel_rfl) rfl rfl ?_
      rw [hst]
      have l3 := l3.set o32 rfl s32
      have u := u.trans (n1.below.mono u.size)
      have u := u.trans (hw3.mono u.size)
      have u := u.trans (s32.below _ (by omega))
      exact ⟨_, rfl, NdV.zero, r3, rfl, ((IsNd.zero _ 0).more (B' := w32.heap.size) (by omega)), l3, (Fr.nil _), u⟩
  · refine lg_callw (want_none (by rfl)) (getFlag_S h) (by kernel_rfl) rfl rfl rfl (by decide) ?_
    rintro _ w33 ⟨bb33, r33, rfl, e33, l33, hw33⟩
    have zw33 := hw33.size
    obtain rfl : bb33 = false := e33.trans (decide_eq_false c2)
    refine lsw (want_none (by rfl)) (y_move rfl rfl) rfl (by decide) ?_
    refine lsw (want_none (by rfl)) (y_extract rfl rfl rfl) rfl (by decide) ?_
    refine lsw (want_none (by rfl)) (y_extract rfl rfl rfl) rfl (by decide) ?_
    refine lsw (want_none (by rfl)) (y_extract rfl rfl rfl) rfl (by decide) ?_
    refine lsw (want_none (by rfl)) (y_assign rfl rfl) rfl (by decide) ?_
    refine lsw (want_none (by rfl)) (y_assign rfl rfl) rfl (by decide) ?_
    refine lsw (want_none (by rfl)) (y_assign rfl rfl) rfl (by decide) ?_
    refine lg_nil ?_
    refine nx (E' := [(2, _), (3, _), (4, _), (5, _), (6, _), (7, _)]) (fk rfl (fk rfl (fk rfl (fk rfl (fk rfl (fk rfl fn)))))) ?_
    refine cg_seq ?_
    refine cg_seq ?_
    refine cg_region ?_
    refine lsw (want_none (by rfl)) (y_move rfl rfl) rfl (by decide) ?_
    by_cases c34 : (flagE xs) = 0
    · refine lsw (want_none (by rfl)) (yb (nd_f c34) (yi_neq rfl rfl rfl)) rfl (by decide) ?_
      refine lsw (want_none (by rfl)) (y_move rfl rfl) rfl (by decide) ?_
      refine lsw (want_t (dj := 20) (by rfl) (by kernel_rfl) rfl) (y_move rfl rfl) rfl (by decide) ?_
      refine lsw (want_t (dj := 20) (by rfl) (by kernel_rfl) rfl) (y_bnot rfl rfl) rfl (by decide) ?_
      refine lsw (want_none (by rfl)) (y_pick false rfl rfl rfl) rfl (by decide) ?_
      refine lg_nil ?_
      refine nx (E' := [(2, _), (3, _), (4, _), (6, _), (7, _), (23, _)]) (fk rfl (fk rfl (fk rfl (fk rfl (fk rfl (fk rfl fn)))))) ?_
      refine cg_ct rfl ?_
      refine cg_seq ?_
      refine cg_region ?_
      refine lsw (want_none (by rfl)) (y_build (cs := NdV.zero.cs Nd.zero) rfl rfl (by kernel_rfl)) rfl (by decide) ?_
      refine lsw (want_none (by rfl)) (y_move rfl rfl) rfl (by decide) ?_
      refine lsw (want_none (by rfl)) (y_move rfl rfl) rfl (by decide) ?_
      have r1 := RowAt.below hw33 r1.lt r1
      have o35 := r1
      refine lg_stw (want_none (by rfl)) r1 rfl rfl rfl (by kernel_rfl) (by kernel_rfl) rfl rfl fun w35 s35 => ?_
      have r1 := s35.row
      have z35 := s35.size
      refine lsw (want_none (by rfl)) (y_assign rfl rfl) rfl (by decide) ?_
      refine lsw (want_none (by rfl)) (y_assign rfl rfl) rfl (by decide) ?_
      refine lg_nil ?_
      refine nx (E' := [(2, _), (6, _), (7, _), (3, _), (4, _)]) (fk rfl (fk rfl (fk rfl (fk rfl (fk rfl fn))))) ?_
      refine cg_ret ?_
      refine eg_seq_ret ?_
      have hst : ndGet xs = ((flagE xs), Nd.zero, (flagR xs)) := by rw [ndGet, if_neg (not_not_intro c34), if_pos c2, c34]
      refine eg_ret_agg3 rfl rfl r1 (by kernel_rfl) (by kernel_rfl) rfl rfl ?_
      rw [hst]
      have l33 := l33.set o35 rfl s35
      have u := u.trans (n1.below.mono u.size)
      have u := u.trans (hw33.mono u.size)
      have u := u.trans (s35.below _ (by omega))
      exact ⟨_, rfl, NdV.zero, r33, rfl, ((IsNd.zero _ 0).more (B' := w35.heap.size) (by omega)), l33, (Fr.nil _), u⟩
    · refine lsw (want_none (by rfl)) (yb (nd_t c34) (yi_neq rfl rfl rfl)) rfl (by decide) ?_
      refine lsw (want_none (by rfl)) (y_move rfl rfl) rfl (by decide) ?_
      refine lsk (want_f (dj := 20) (by rfl) (by kernel_rfl) rfl) rfl (by decide) ?_
      refine lsk (want_f (dj := 20) (by rfl) (by kernel_rfl) rfl) rfl (by decide) ?_
      refine lsw (want_none (by rfl)) (y_pick true rfl rfl rfl) rfl (by decide) ?_
      refine lg_nil ?_
      refine nx (E' := [(2, _), (3, _), (4, _), (6, _), (7, _), (23, _)]) (fk rfl (fk rfl (fk rfl (fk rfl (fk rfl (fk rfl fn)))))) ?_
      refine cg_ct rfl ?_
      refine cg_seq ?_
      refine cg_region ?_
      refine lsw (want_none (by rfl)) (y_build (cs := NdV.zero.cs Nd.zero) rfl rfl (by kernel_rfl)) rfl (by decide) ?_
      refine lsw (want_none (by rfl)) (y_move rfl rfl) rfl (by decide) ?_
      refine lsw (want_none (by rfl)) (y_move rfl rfl) rfl (by decide) ?_
      have r1 := RowAt.below hw33 r1.lt r1
      have o36 := r1
      refine lg_stw (want_none (by rfl)) r1 rfl rfl rfl (by kernel_rfl) (by kernel_rfl) rfl rfl fun w36 s36 => ?_
      have r1 := s36.row
      have z36 := s36.size
      refine lsw (want_none (by rfl)) (y_assign rfl rfl) rfl (by decide) ?_
      refine lsw (want_none (by rfl)) (y_assign rfl rfl) rfl (by decide) ?_
      refine lg_nil ?_
      refine nx (E' := [(2, _), (6, _), (7, _), (3, _), (4, _)]) (fk rfl (fk rfl (fk rfl (fk rfl (fk rfl fn))))) ?_
      refine cg_ret ?_
      refine eg_seq_ret ?_
      have hst : ndGet xs = ((flagE xs), Nd.zero, (flagR xs)) := by rw [ndGet, if_pos c34, flagR, if_neg c34]
      refine eg_ret_agg3 rfl rfl r1 (by kernel_rfl) (by kernel_rfl) rfl rfl ?_
      rw [hst]
      have l33 := l33.set o36 rfl s36
      have u := u.trans (n1.below.mono u.size)
      have u := u.trans (hw33.mono u.size)
      have u := u.trans (s36.below _ (by omega))
      exact ⟨_, rfl, NdV.zero, r33, rfl, ((IsNd.zero _ 0).more (B' := w36.heap.size) (by omega)), l33, (Fr.nil _), u⟩
theorem putOnlyN_any {W : World} {B : Nat} {s : SlV} {xs : List Int} {l : NdV} {L : Nd} (h : Sl W B s xs) (hl : IsNd W B l L) (hB : B ≤ W.heap.size) (k : Int) (hx : xs.length ≤ 100000) : Calls Try.prog 51 #[s.v, .agg (l.cs L), nv k] W fun e W' => ∃ v, e = .returned v ∧ PutS W (xs ++ ndOnly L k) v W' := by
  refine calls_cg (n := 32) Try.func51 rfl Try.ntmps51 (by simp) ?_
  show CG _ _ _ [(0, s.v), (1, .agg (l.cs L)), (2, nv k)] _ _
  have u := Below.refl W.heap.size W
  refine cg_seq ?_
  refine cg_region ?_
  refine lg_boxw (want_none (by rfl)) rfl rfl (by kernel_rfl) rfl (by decide) fun b1 w1 n1 => ?_
  have r1 := n1.row
  have k1 := n1.blk
  have z1 := n1.size
  have lt1 : b1 < w1.heap.size := by omega
  refine lsw (want_none (by rfl)) (y_assign rfl rfl) rfl (by decide) ?_
  refine lg_nil ?_
  refine nx (E' := [(0, _), (2, _), (4, _), (6, _)]) (fk rfl (fk rfl (fk rfl (fk rfl fn)))) ?_
  refine cg_seq ?_
  refine cg_region ?_
  refine lsw (want_none (by rfl)) (y_loadA r1 (by kernel_rfl) (by kernel_rfl) rfl rfl) rfl (by decide) ?_
  have hl := hl.below (n1.below.mono (by omega))
  refine lg_callw (want_none (by rfl)) (countsN_any (hl.more (B' := w1.heap.size) (by omega)) (Nat.le_refl _)) (by kernel_rfl) rfl rfl rfl (by decide) ?_
  rintro _ w2 ⟨rfl, hw2⟩
  have zw2 := hw2.size
  by_cases c3 : ((ndAs L).kind) = 1
  · obtain ⟨eaL, ckL⟩ := ndAs_kind (L := L) (by omega)
    have kL : L.kind = 1 := (congrArg Nd.kind eaL).symm.trans c3
    refine lg_callw (want_none (by rfl)) (of1_any _ c3 _) (by kernel_rfl) rfl rfl rfl (by decide) ?_
    rintro _ w4 ⟨rfl, hw4⟩
    have zw4 := hw4.size
    refine lsw (want_none (by rfl)) (y_move rfl rfl) rfl (by decide) ?_
    refine lsw (want_none (by rfl)) (y_extract rfl rfl rfl) rfl (by decide) ?_
    refine lsw (want_none (by rfl)) (y_extract rfl rfl rfl) rfl (by decide) ?_
    refine lg_allocw (cs := CsV.zero.cs Cs.zero) (want_none (by rfl)) rfl (by kernel_rfl) rfl (by decide) fun b5 w5 n5 => ?_
    have r5 := n5.row
    have k5 := n5.blk
    have z5 := n5.size
    have lt5 : b5 < w5.heap.size := by omega
    have o6 := r5
    refine lg_stw (want_none (by rfl)) r5 rfl rfl rfl (by kernel_rfl) (by kernel_rfl) rfl rfl fun w6 s6 => ?_
    have r5 := s6.row
    have z6 := s6.size
    refine lsw (want_none (by rfl)) (y_assign rfl rfl) rfl (by decide) ?_
    refine lg_nil ?_
    refine nx (E' := [(0, _), (2, _), (4, _), (6, _), (7, _), (8, _)]) (fk rfl (fk rfl (fk rfl (fk rfl (fk rfl (fk rfl fn)))))) ?_
    refine cg_seq ?_
    refine cg_region ?_
    refine lsw (want_none (by rfl)) (y_move rfl rfl) rfl (by decide) ?_
    refine lsw (want_none (by rfl)) (y_move rfl rfl) rfl (by decide) ?_
    refine lsw (want_t (dj := 16) (by rfl) (by kernel_rfl) rfl) (y_fld (off := 0) (by kernel_rfl) rfl rfl) rfl (by decide) ?_
    have r1 := RowAt.below hw2 r1.lt r1
    have r1 := RowAt.below hw4 r1.lt r1
    have r1 := n5.keep r1
    have r1 := s6.keep r1 (by omega)
    refine lsw (want_t (dj := 16) (by rfl) (by kernel_rfl) rfl) (y_cellv (v := nv L.kind) r1 rfl (by kernel_rfl) rfl rfl) rfl (by decide) ?_
    refine lsw (want_t (dj := 16) (by rfl) (by kernel_rfl) rfl) (y_move rfl rfl) rfl (by decide) ?_
    by_cases c7 : L.kind = k
    · refine lsw (want_t (dj := 16) (by rfl) (by kernel_rfl) rfl) (yb (decide_eq_true c7) (yi_eql rfl rfl rfl)) rfl (by decide) ?_
      refine lsw (want_none (by rfl)) (y_pick true rfl rfl rfl) rfl (by decide) ?_
      refine lsw (want_none (by rfl)) (y_assign rfl rfl) rfl (by decide) ?_
      refine lg_nil ?_
      refine nx (E' := [(0, _), (4, _), (6, _), (7, _), (8, _)]) (fk rfl (fk rfl (fk rfl (fk rfl (fk rfl fn))))) ?_
      refine cg_seq ?_
      refine cg_region ?_
      refine lsw (want_none (by rfl)) (y_move rfl rfl) rfl (by decide) ?_
      refine lsw (want_none (by rfl)) (y_move rfl rfl) rfl (by decide) ?_
      have h := h.below (n1.below.mono (by omega))
      have h := h.below (hw2.mono (by omega))
      have h := h.below (hw4.mono (by omega))
      have h := h.below (n5.below.mono (by omega))
      have h := h.set o6 rfl s6
      refine lg_callw (want_none (by rfl)) (putFlag_S true h (by omega) (by first | omega | (simp only [List.length_append, List.length_cons, List.length_nil, numOct_length, flagOct_length]; omega))) (by kernel_rfl) rfl rfl rfl (by decide) ?_
      rintro _ w8 ⟨r8, rfl, m8, hw8⟩
      have zw8 := hw8.size
      refine lsw (want_none (by rfl)) (y_assign rfl rfl) rfl (by decide) ?_
      refine lg_nil ?_
      refine nx (E' := [(4, _), (6, _), (7, _), (8, _), (0, _)]) (fk rfl (fk rfl (fk rfl (fk rfl (fk rfl fn))))) ?_
      refine cg_seq ?_
      refine cg_seq ?_
      refine cg_region ?_
      refine lsw (want_none (by rfl)) (y_move rfl rfl) rfl (by decide) ?_
      refine lg_nil ?_
      refine nx (E' := [(4, _), (6, _), (7, _), (0, _), (25, _)]) (fk rfl (fk rfl (fk rfl (fk rfl (fk rfl fn))))) ?_
      refine cg_ct rfl ?_
      refine cg_region ?_
      refine lsw (want_none (by rfl)) (y_fld (off := 0) (by kernel_rfl) rfl rfl) rfl (by decide) ?_
      have r5 := RowAt.below hw8 r5.lt r5
      refine lsw (want_none (by rfl)) (y_cellv (v := fnv (some 56)) r5 rfl (by kernel_rfl) rfl rfl) rfl (by decide) ?_
      have r1 := RowAt.below hw8 r1.lt r1
      refine lsw (want_none (by rfl)) (y_loadA r1 (by kernel_rfl) (by kernel_rfl) rfl rfl) rfl (by decide) ?_
      refine lsw (want_none (by rfl)) (y_move rfl rfl) rfl (by decide) ?_
      have hl := hl.below (hw2.mono (by omega))
      have hl := hl.below (hw4.mono (by omega))
      have hl := hl.below (n5.below.mono (by omega))
      have hl := hl.below (s6.below _ (by omega))
      have hl := hl.below (hw8.mono (by omega))
      refine lg_callv (fs := []) (vs := [.agg (l.cs L), r8.v]) (us := []) (want_none (by rfl)) (putLeafN_any (hl.more (B' := w8.heap.size) (by omega)) (m8.more (B' := w8.heap.size) (by omega)) (Nat.le_refl _) (by first | omega | (simp only [List.length_append, flagOct_length]; omega))) (by kernel_rfl) rfl rfl rfl rfl (by decide) ?_
      rintro _ w9 ⟨r9, rfl, m9, hw9⟩
      have zw9 := hw9.size
      have lp9 := lfPut_le L.leaf
      refine lsw (want_none (by rfl)) (y_assign rfl rfl) rfl (by decide) ?_
      refine lg_nil ?_
      refine nx (E' := [(6, _), (0, _)]) (fk rfl (fk rfl fn)) ?_
      refine cg_seq ?_
      refine cg_region ?_
      refine lsw (want_none (by rfl)) (y_move rfl rfl) rfl (by decide) ?_
      refine lsw (want_none (by rfl)) (y_assign rfl rfl) rfl (by decide) ?_
      refine lg_nil ?_
      refine nx (E' := [(6, _)]) (fk rfl fn) ?_
      refine cg_ret ?_
      have u := u.trans (n1.below.mono u.size)
      have u := u.trans (hw2.mono u.size)
      have u := u.trans (hw4.mono u.size)
      have u := u.trans (n5.below.mono u.size)
      have u := u.trans (s6.below _ (by omega))
      have u := u.trans (hw8.mono u.size)
      have u := u.trans (hw9.mono u.size)
      exact eg_ret_tmp rfl rfl ⟨_, rfl, r9, rfl, (m9.more (by omega)).cast (by rw [ndOnly, if_pos ⟨by omega, by omega⟩, List.append_assoc]), u⟩
    · refine lsw (want_t (dj := 16) (by rfl) (by kernel_rfl) rfl) (yb (decide_eq_false c7) (yi_eql rfl rfl rfl)) rfl (by decide) ?_
      refine lsw (want_none (by rfl)) (y_pick true rfl rfl rfl) rfl (by decide) ?_
      refine lsw (want_none (by rfl)) (y_assign rfl rfl) rfl (by decide) ?_
      refine lg_nil ?_
      refine nx (E' := [(0, _), (4, _), (6, _), (7, _), (8, _)]) (fk rfl (fk rfl (fk rfl (fk rfl (fk rfl fn))))) ?_
      refine cg_seq ?_
      refine cg_region ?_
      refine lsw (want_none (by rfl)) (y_move rfl rfl) rfl (by decide) ?_
      refine lsw (want_none (by rfl)) (y_move rfl rfl) rfl (by decide) ?_
      have h := h.below (n1.below.mono (by omega))
      have h := h.below (hw2.mono (by omega))
      have h := h.below (hw4.mono (by omega))
      have h := h.below (n5.below.mono (by omega))
      have h := h.set o6 rfl s6
      refine lg_callw (want_none (by rfl)) (putFlag_S false h (by omega) (by first | omega | (simp only [List.length_append, List.length_cons, List.length_nil, numOct_length, flagOct_length]; omega))) (by kernel_rfl) rfl rfl rfl (by decide) ?_
      rintro _ w10 ⟨r10, rfl, m10, hw10⟩
      have zw10 := hw10.size
      refine lsw (want_none (by rfl)) (y_assign rfl rfl) rfl (by decide) ?_
      refine lg_nil ?_
      refine nx (E' := [(4, _), (6, _), (7, _), (8, _), (0, _)]) (fk rfl (fk rfl (fk rfl (fk rfl (fk rfl fn))))) ?_
      refine cg_seq ?_
      refine cg_seq ?_
      refine cg_region ?_
      refine lsw (want_none (by rfl)) (y_move rfl rfl) rfl (by decide) ?_
      refine lg_nil ?_
      refine nx (E' := [(4, _), (6, _), (7, _), (0, _), (25, _)]) (fk rfl (fk rfl (fk rfl (fk rfl (fk rfl fn))))) ?_
      refine cg_cf rfl ?_
      refine cg_skip ?_
      refine nx (E' := [(6, _), (0, _)]) (fk rfl (fk rfl fn)) ?_
      refine cg_seq ?_
      refine cg_region ?_
      refine lsw (want_none (by rfl)) (y_move rfl rfl) rfl (by decide) ?_
      refine lsw (want_none (by rfl)) (y_assign rfl rfl) rfl (by decide) ?_
      refine lg_nil ?_
      refine nx (E' := [(6, _)]) (fk rfl fn) ?_
      refine cg_ret ?_
      have u := u.trans (n1.below.mono u.size)
      have u := u.trans (hw2.mono u.size)
      have u := u.trans (hw4.mono u.size)
      have u := u.trans (n5.below.mono u.size)
      have u := u.trans (s6.below _ (by omega))
      have u := u.trans (hw10.mono u.size)
      exact eg_ret_tmp rfl rfl ⟨_, rfl, r10, rfl, (m10.more (by omega)).cast (by rw [ndOnly, if_neg (by omega), if_neg (by omega)]), u⟩
  · by_cases c11 : ((ndAs L).kind) = 2
    · obtain ⟨eaL, ckL⟩ := ndAs_kind (L := L) (by omega)
      have kL : L.kind = 2 := (congrArg Nd.kind eaL).symm.trans c11
      refine lg_callw (want_none (by rfl)) (of2_any _ c11 _) (by kernel_rfl) rfl rfl rfl (by decide) ?_
      rintro _ w12 ⟨rfl, hw12⟩
      have zw12 := hw12.size
      refine lsw (want_none (by rfl)) (y_move rfl rfl) rfl (by decide) ?_
      refine lsw (want_none (by rfl)) (y_extract rfl rfl rfl) rfl (by decide) ?_
      refine lsw (want_none (by rfl)) (y_extract rfl rfl rfl) rfl (by decide) ?_
      refine lg_allocw (cs := CsV.zero.cs Cs.zero) (want_none (by rfl)) rfl (by kernel_rfl) rfl (by decide) fun b13 w13 n13 => ?_
      have r13 := n13.row
      have k13 := n13.blk
      have z13 := n13.size
      have lt13 : b13 < w13.heap.size := by omega
      have o14 := r13
      refine lg_stw (want_none (by rfl)) r13 rfl rfl rfl (by kernel_rfl) (by kernel_rfl) rfl rfl fun w14 s14 => ?_
      have r13 := s14.row
      have z14 := s14.size
      refine lsw (want_none (by rfl)) (y_assign rfl rfl) rfl (by decide) ?_
      refine lg_nil ?_
      refine nx (E' := [(0, _), (2, _), (4, _), (6, _), (7, _), (8, _)]) (fk rfl (fk rfl (fk rfl (fk rfl (fk rfl (fk rfl fn)))))) ?_
      refine cg_seq ?_
      refine cg_region ?_
      refine lsw (want_none (by rfl)) (y_move rfl rfl) rfl (by decide) ?_
      refine lsw (want_none (by rfl)) (y_move rfl rfl) rfl (by decide) ?_
      refine lsw (want_t (dj := 16) (by rfl) (by kernel_rfl) rfl) (y_fld (off := 0) (by kernel_rfl) rfl rfl) rfl (by decide) ?_
      have r1 := RowAt.below hw2 r1.lt r1
      have r1 := RowAt.below hw12 r1.lt r1
      have r1 := n13.keep r1
      have r1 := s14.keep r1 (by omega)
      refine lsw (want_t (dj := 16) (by rfl) (by kernel_rfl) rfl) (y_cellv (v := nv L.kind) r1 rfl (by kernel_rfl) rfl rfl) rfl (by decide) ?_
      refine lsw (want_t (dj := 16) (by rfl) (by kernel_rfl) rfl) (y_move rfl rfl) rfl (by decide) ?_
      by_cases c15 : L.kind = k
      · refine lsw (want_t (dj := 16) (by rfl) (by kernel_rfl) rfl) (yb (decide_eq_true c15) (yi_eql rfl rfl rfl)) rfl (by decide) ?_
        refine lsw (want_none (by rfl)) (y_pick true rfl rfl rfl) rfl (by decide) ?_
        refine lsw (want_none (by rfl)) (y_assign rfl rfl) rfl (by decide) ?_
        refine lg_nil ?_
        refine nx (E' := [(0, _), (4, _), (6, _), (7, _), (8, _)]) (fk rfl (fk rfl (fk rfl (fk rfl (fk rfl fn))))) ?_
        refine cg_seq ?_
        refine cg_region ?_
        refine lsw (want_none (by rfl)) (y_move rfl rfl) rfl (by decide) ?_
        refine lsw (want_none (by rfl)) (y_move rfl rfl) rfl (by decide) ?_
        have h := h.below (n1.below.mono (by omega))
        have h := h.below (hw2.mono (by omega))
        have h := h.below (hw12.mono (by omega))
        have h := h.below (n13.below.mono (by omega))
        have h := h.set o14 rfl s14
        refine lg_callw (want_none (by rfl)) (putFlag_S true h (by omega) (by first | omega | (simp only [List.length_append, List.length_cons, List.length_nil, numOct_length, flagOct_length]; omega))) (by kernel_rfl) rfl rfl rfl (by decide) ?_
        rintro _ w16 ⟨r16, rfl, m16, hw16⟩
        have zw16 := hw16.size
        refine lsw (want_none (by rfl)) (y_assign rfl rfl) rfl (by decide) ?_
        refine lg_nil ?_
        refine nx (E' := [(4, _), (6, _), (7, _), (8, _), (0, _)]) (fk rfl (fk rfl (fk rfl (fk rfl (fk rfl fn))))) ?_
        refine cg_seq ?_
        refine cg_seq ?_
        refine cg_region ?_
        refine lsw (want_none (by rfl)) (y_move rfl rfl) rfl (by decide) ?_
        refine lg_nil ?_
        refine nx (E' := [(4, _), (6, _), (7, _), (0, _), (25, _)]) (fk rfl (fk rfl (fk rfl (fk rfl (fk rfl fn))))) ?_
        refine cg_ct rfl ?_
        refine cg_region ?_
        refine lsw (want_none (by rfl)) (y_fld (off := 0) (by kernel_rfl) rfl rfl) rfl (by decide) ?_
        have r13 := RowAt.below hw16 r13.lt r13
        refine lsw (want_none (by rfl)) (y_cellv (v := fnv (some 58)) r13 rfl (by kernel_rfl) rfl rfl) rfl (by decide) ?_
        have r1 := RowAt.below hw16 r1.lt r1
        refine lsw (want_none (by rfl)) (y_loadA r1 (by kernel_rfl) (by kernel_rfl) rfl rfl) rfl (by decide) ?_
        refine lsw (want_none (by rfl)) (y_move rfl rfl) rfl (by decide) ?_
        have hl := hl.below (hw2.mono (by omega))
        have hl := hl.below (hw12.mono (by omega))
        have hl := hl.below (n13.below.mono (by omega))
        have hl := hl.below (s14.below _ (by omega))
        have hl := hl.below (hw16.mono (by omega))
        refine lg_callv (fs := []) (vs := [.agg (l.cs L), r16.v]) (us := []) (want_none (by rfl)) (putInnerN_any (hl.more (B' := w16.heap.size) (by omega)) (m16.more (B' := w16.heap.size) (by omega)) (Nat.le_refl _) (by first | omega | (simp only [List.length_append, flagOct_length]; omega))) (by kernel_rfl) rfl rfl rfl rfl (by decide) ?_
        rintro _ w17 ⟨r17, rfl, m17, hw17⟩
        have zw17 := hw17.size
        have lp17 := pnPut_le L.inner
        refine lsw (want_none (by rfl)) (y_assign rfl rfl) rfl (by decide) ?_
        refine lg_nil ?_
        refine nx (E' := [(6, _), (0, _)]) (fk rfl (fk rfl fn)) ?_
        refine cg_seq ?_
        refine cg_region ?_
        refine lsw (want_none (by rfl)) (y_move rfl rfl) rfl (by decide) ?_
        refine lsw (want_none (by rfl)) (y_assign rfl rfl) rfl (by decide) ?_
        refine lg_nil ?_
        refine nx (E' := [(6, _)]) (fk rfl fn) ?_
        refine cg_ret ?_
        have u := u.trans (n1.below.mono u.size)
        have u := u.trans (hw2.mono u.size)
        have u := u.trans (hw12.mono u.size)
        have u := u.trans (n13.below.mono u.size)
        have u := u.trans (s14.below _ (by omega))
        have u := u.trans (hw16.mono u.size)
        have u := u.trans (hw17.mono u.size)
        exact eg_ret_tmp rfl rfl ⟨_, rfl, r17, rfl, (m17.more (by omega)).cast (by rw [ndOnly, if_neg (by omega), if_pos ⟨by omega, by omega⟩, List.append_assoc]), u⟩
      · refine lsw (want_t (dj := 16) (by rfl) (by kernel_rfl) rfl) (yb (decide_eq_false c15) (yi_eql rfl rfl rfl)) rfl (by decide) ?_
        refine lsw (want_none (by rfl)) (y_pick true rfl rfl rfl) rfl (by decide) ?_
        refine lsw (want_none (by rfl)) (y_assign rfl rfl) rfl (by decide) ?_
        refine lg_nil ?_
        refine nx (E' := [(0, _), (4, _), (6, _), (7, _), (8, _)]) (fk rfl (fk rfl (fk rfl (fk rfl (fk rfl fn))))) ?_
        refine cg_seq ?_
        refine cg_region ?_
        refine lsw (want_none (by rfl)) (y_move rfl rfl) rfl (by decide) ?_
        refine lsw (want_none (by rfl)) (y_move rfl rfl) rfl (by decide) ?_
        have h := h.below (n1.below.mono (by omega))
        have h := h.below (hw2.mono (by omega))
        have h := h.below (hw12.mono (by omega))
        have h := h.below (n13.below.mono (by omega))
        have h := h.set o14 rfl s14
        refine lg_callw (want_none (by rfl)) (putFlag_S false h (by omega) (by first | omega | (simp only [List.length_append, List.length_cons, List.length_nil, numOct_length, flagOct_length]; omega))) (by kernel_rfl) rfl rfl rfl (by decide) ?_
        rintro _ w18 ⟨r18, rfl, m18, hw18⟩
        have zw18 := hw18.size
        refine lsw (want_none (by rfl)) (y_assign rfl rfl) rfl (by decide) ?_
        refine lg_nil ?_
        refine nx (E' := [(4, _), (6, _), (7, _), (8, _), (0, _)]) (fk rfl (fk rfl (fk rfl (fk rfl (fk rfl fn))))) ?_
        refine cg_seq ?_
        refine cg_seq ?_
        refine cg_region ?_
        refine lsw (want_none (by rfl)) (y_move rfl rfl) rfl (by decide) ?_
        refine lg_nil ?_
        refine nx (E' := [(4, _), (6, _), (7, _), (0, _), (25, _)]) (fk rfl (fk rfl (fk rfl (fk rfl (fk rfl fn))))) ?_
        refine cg_cf rfl ?_
        refine cg_skip ?_
        refine nx (E' := [(6, _), (0, _)]) (fk rfl (fk rfl fn)) ?_
        refine cg_seq ?_
        refine cg_region ?_
        refine lsw (want_none (by rfl)) (y_move rfl rfl) rfl (by decide) ?_
        refine lsw (want_none (by rfl)) (y_assign rfl rfl) rfl (by decide) ?_
        refine lg_nil ?_
        refine nx (E' := [(6, _)]) (fk rfl fn) ?_
        refine cg_ret ?_
        have u := u.trans (n1.below.mono u.size)
        have u := u.trans (hw2.mono u.size)
        have u := u.trans (hw12.mono u.size)
        have u := u.trans (n13.below.mono u.size)
        have u := u.trans (s14.below _ (by omega))
        have u := u.trans (hw18.mono u.size)
        exact eg_ret_tmp rfl rfl ⟨_, rfl, r18, rfl, (m18.more (by omega)).cast (by rw [ndOnly, if_neg (by omega), if_neg (by omega)]), u⟩
    · refine lg_callw (want_none (by rfl)) (of0_any _ c3 c11 _) (by kernel_rfl) rfl rfl rfl (by decide) ?_
      rintro _ w19 ⟨rfl, hw19⟩
      have zw19 := hw19.size
      refine lsw (want_none (by rfl)) (y_move rfl rfl) rfl (by decide) ?_
      refine lsw (want_none (by rfl)) (y_extract rfl rfl rfl) rfl (by decide) ?_
      refine lsw (want_none (by rfl)) (y_extract rfl rfl rfl) rfl (by decide) ?_
      refine lg_allocw (cs := CsV.zero.cs Cs.zero) (want_none (by rfl)) rfl (by kernel_rfl) rfl (by decide) fun b20 w20 n20 => ?_
      have r20 := n20.row
      have k20 := n20.blk
      have z20 := n20.size
      have lt20 : b20 < w20.heap.size := by omega
      have o21 := r20
      refine lg_stw (want_none (by rfl)) r20 rfl rfl rfl (by kernel_rfl) (by kernel_rfl) rfl rfl fun w21 s21 => ?_
      have r20 := s21.row
      have z21 := s21.size
      refine lsw (want_none (by rfl)) (y_assign rfl rfl) rfl (by decide) ?_
      refine lg_nil ?_
      refine nx (E' := [(0, _), (2, _), (4, _), (6, _), (7, _), (8, _)]) (fk rfl (fk rfl (fk rfl (fk rfl (fk rfl (fk rfl fn)))))) ?_
      refine cg_seq ?_
      refine cg_region ?_
      refine lsw (want_none (by rfl)) (y_move rfl rfl) rfl (by decide) ?_
      refine lsw (want_none (by rfl)) (y_move rfl rfl) rfl (by decide) ?_
      refine lsk (want_f (dj := 16) (by rfl) (by kernel_rfl) rfl) rfl (by decide) ?_
      refine lsk (want_f (dj := 16) (by rfl) (by kernel_rfl) rfl) rfl (by decide) ?_
      refine lsk (want_f (dj := 16) (by rfl) (by kernel_rfl) rfl) rfl (by decide) ?_
      refine lsk (want_f (dj := 16) (by rfl) (by kernel_rfl) rfl) rfl (by decide) ?_
      refine lsw (want_none (by rfl)) (y_pick false rfl rfl rfl) rfl (by decide) ?_
      refine lsw (want_none (by rfl)) (y_assign rfl rfl) rfl (by decide) ?_
      refine lg_nil ?_
      refine nx (E' := [(0, _), (4, _), (6, _), (7, _), (8, _)]) (fk rfl (fk rfl (fk rfl (fk rfl (fk rfl fn))))) ?_
      refine cg_seq ?_
      refine cg_region ?_
      refine lsw (want_none (by rfl)) (y_move rfl rfl) rfl (by decide) ?_
      refine lsw (want_none (by rfl)) (y_move rfl rfl) rfl (by decide) ?_
      have h := h.below (n1.below.mono (by omega))
      have h := h.below (hw2.mono (by omega))
      have h := h.below (hw19.mono (by omega))
      have h := h.below (n20.below.mono (by omega))
      have h := h.set o21 rfl s21
      refine lg_callw (want_none (by rfl)) (putFlag_S false h (by omega) (by first | omega | (simp only [List.length_append, List.length_cons, List.length_nil, numOct_length, flagOct_length]; omega))) (by kernel_rfl) rfl rfl rfl (by decide) ?_
      rintro _ w22 ⟨r22, rfl, m22, hw22⟩
      have zw22 := hw22.size
      refine lsw (want_none (by rfl)) (y_assign rfl rfl) rfl (by decide) ?_
      refine lg_nil ?_
      refine nx (E' := [(4, _), (6, _), (7, _), (8, _), (0, _)]) (fk rfl (fk rfl (fk rfl (fk rfl (fk rfl fn))))) ?_
      refine cg_seq ?_
      refine cg_seq ?_
      refine cg_region ?_
      refine lsw (want_none (by rfl)) (y_move rfl rfl) rfl (by decide) ?_
      refine lg_nil ?_
      refine nx (E' := [(4, _), (6, _), (7, _), (0, _), (25, _)]) (fk rfl (fk rfl (fk rfl (fk rfl (fk rfl fn))))) ?_
      refine cg_cf rfl ?_
      refine cg_skip ?_
      refine nx (E' := [(6, _), (0, _)]) (fk rfl (fk rfl fn)) ?_
      refine cg_seq ?_
      refine cg_region ?_
      refine lsw (want_none (by rfl)) (y_move rfl rfl) rfl (by decide) ?_
      refine lsw (want_none (by rfl)) (y_assign rfl rfl) rfl (by decide) ?_
      refine lg_nil ?_
      refine nx (E' := [(6, _)]) (fk rfl fn) ?_
      refine cg_ret ?_
      have u := u.trans (n1.below.mono u.size)
      have u := u.trans (hw2.mono u.size)
      have u := u.trans (hw19.mono u.size)
      have u := u.trans (n20.below.mono u.size)
      have u := u.trans (s21.below _ (by omega))
      have u := u.trans (hw22.mono u.size)
      exact eg_ret_tmp rfl rfl ⟨_, rfl, r22, rfl, (m22.more (by omega)).cast (by rw [ndOnly, if_neg (by omega), if_neg (by omega)]), u⟩
theorem ofLeafN_any {W : World} {B : Nat} (i : Int) {l : NdV} {L : Nd} (hl : IsNd W B l L) (hB : B ≤ W.heap.size) : Calls Try.prog 19 #[nv i, .agg (l.cs L)] W fun e W' => ∃ v, e = .returned v ∧ PutS W (ofLeafO i L) v W' := by
  refine calls_cg (n := 13) Try.func19 rfl Try.ntmps19 (by simp) ?_
  show CG _ _ _ [(0, nv i), (1, .agg (l.cs L))] _ _
  have u := Below.refl W.heap.size W
  refine cg_seq ?_
  refine cg_region ?_
  refine lg_boxw (want_none (by rfl)) rfl rfl (by kernel_rfl) rfl (by decide) fun b1 w1 n1 => ?_
  have r1 := n1.row
  have k1 := n1.blk
  have z1 := n1.size
  have lt1 : b1 < w1.heap.size := by omega
  refine lsw (want_none (by rfl)) (y_assign rfl rfl) rfl (by decide) ?_
  refine lg_nil ?_
  refine nx (E' := [(0, _), (3, _), (4, _)]) (fk rfl (fk rfl (fk rfl fn))) ?_
  refine cg_seq ?_
  refine cg_region ?_
  refine lg_callw (want_none (by rfl)) (putNum_S 1 1 (Sl.nil _ 0) (by omega) (by first | omega | (simp only [List.length_nil]; omega))) (by kernel_rfl) rfl rfl rfl (by decide) ?_
  rintro _ w2 ⟨r2, rfl, m2, hw2⟩
  have zw2 := hw2.size
  rw [List.nil_append] at m2
  have wk2 := widthK_le 1
  refine lsw (want_none (by rfl)) (y_assign rfl rfl) rfl (by decide) ?_
  refine lg_nil ?_
  refine nx (E' := [(0, _), (3, _), (4, _), (5, _)]) (fk rfl (fk rfl (fk rfl (fk rfl fn)))) ?_
  refine cg_seq ?_
  refine cg_region ?_
  refine lsw (want_none (by rfl)) (y_move rfl rfl) rfl (by decide) ?_
  refine lsw (want_none (by rfl)) (y_move rfl rfl) rfl (by decide) ?_
  refine lg_callw (want_none (by rfl)) (putNum_S i 4 m2 (by omega) (by first | omega | (simp only [numOct_length]; omega))) (by kernel_rfl) rfl rfl rfl (by decide) ?_
  rintro _ w3 ⟨r3, rfl, m3, hw3⟩
  have zw3 := hw3.size
  have wk3 := widthK_le 4
  refine lsw (want_none (by rfl)) (y_assign rfl rfl) rfl (by decide) ?_
  refine lg_nil ?_
  refine nx (E' := [(3, _), (4, _), (5, _)]) (fk rfl (fk rfl (fk rfl fn))) ?_
  refine cg_seq ?_
  refine cg_region ?_
  refine lsw (want_none (by rfl)) (y_move rfl rfl) rfl (by decide) ?_
  have r1 := RowAt.below hw2 r1.lt r1
  have r1 := RowAt.below hw3 r1.lt r1
  refine lsw (want_none (by rfl)) (y_loadA r1 (by kernel_rfl) (by kernel_rfl) rfl rfl) rfl (by decide) ?_
  have hl := hl.below (n1.below.mono (by omega))
  have hl := hl.below (hw2.mono (by omega))
  have hl := hl.below (hw3.mono (by omega))
  refine lg_callw (want_none (by rfl)) (putOnlyN_any (m3.more (B' := w3.heap.size) (by omega)) (hl.more (B' := w3.heap.size) (by omega)) (Nat.le_refl _) 1 (by first | omega | (simp only [List.length_append, numOct_length]; omega))) (by kernel_rfl) rfl rfl rfl (by decide) ?_
  rintro _ w4 ⟨r4, rfl, m4, hw4⟩
  have zw4 := hw4.size
  have lp4 := ndOnly_le L 1
  refine lsw (want_none (by rfl)) (y_assign rfl rfl) rfl (by decide) ?_
  refine lg_nil ?_
  refine nx (E' := [(4, _)]) (fk rfl fn) ?_
  refine cg_ret ?_
  have u := u.trans (n1.below.mono u.size)
  have u := u.trans (hw2.mono u.size)
  have u := u.trans (hw3.mono u.size)
  have u := u.trans (hw4.mono u.size)
  exact eg_ret_tmp rfl rfl ⟨_, rfl, r4, rfl, (m4.more (by omega)).cast (by simp only [ofLeafO, List.append_assoc]), u⟩
theorem ofInnerN_any {W : World} {B : Nat} {l : NdV} {L : Nd} {s t : SlV} {xs ys : List Int} (hl : IsNd W B l L) (h : Sl W B s xs) (h2 : Sl W B t ys) (hB : B ≤ W.heap.size) (hx : xs.length ≤ 10000) (hy : ys.length ≤ 10000) : Calls Try.prog 21 #[.agg (l.cs L), s.v, t.v] W fun e W' => ∃ v, e = .returned v ∧ PutS W (ofInnerO L xs ys) v W' := by
  refine calls_cg (n := 18) Try.func21 rfl Try.ntmps21 (by simp) ?_
  show CG _ _ _ [(0, .agg (l.cs L)), (1, s.v), (2, t.v)] _ _
  have u := Below.refl W.heap.size W
  refine cg_seq ?_
  refine cg_region ?_
  refine lg_boxw (want_none (by rfl)) rfl rfl (by kernel_rfl) rfl (by decide) fun b1 w1 n1 => ?_
  have r1 := n1.row
  have k1 := n1.blk
  have z1 := n1.size
  have lt1 : b1 < w1.heap.size := by omega
  refine lsw (want_none (by rfl)) (y_assign rfl rfl) rfl (by decide) ?_
  refine lg_nil ?_
  refine nx (E' := [(1, _), (2, _), (3, _), (6, _)]) (fk rfl (fk rfl (fk rfl (fk rfl fn)))) ?_
  refine cg_seq ?_
  refine cg_region ?_
  refine lg_callw (want_none (by rfl)) (putNum_S 2 1 (Sl.nil _ 0) (by omega) (by first | omega | (simp only [List.length_nil]; omega))) (by kernel_rfl) rfl rfl rfl (by decide) ?_
  rintro _ w2 ⟨r2, rfl, m2, hw2⟩
  have zw2 := hw2.size
  rw [List.nil_append] at m2
  have wk2 := widthK_le 1
  refine lsw (want_none (by rfl)) (y_assign rfl rfl) rfl (by decide) ?_
  refine lg_nil ?_
  refine nx (E' := [(1, _), (2, _), (3, _), (6, _), (7, _)]) (fk rfl (fk rfl (fk rfl (fk rfl (fk rfl fn))))) ?_
  refine cg_seq ?_
  refine cg_region ?_
  refine lsw (want_none (by rfl)) (y_move rfl rfl) rfl (by decide) ?_
  have r1 := RowAt.below hw2 r1.lt r1
  refine lsw (want_none (by rfl)) (y_loadA r1 (by kernel_rfl) (by kernel_rfl) rfl rfl) rfl (by decide) ?_
  have hl := hl.below (n1.below.mono (by omega))
  have hl := hl.below (hw2.mono (by omega))
  refine lg_callw (want_none (by rfl)) (putOnlyN_any (m2.more (B' := w2.heap.size) (by omega)) (hl.more (B' := w2.heap.size) (by omega)) (Nat.le_refl _) 2 (by first | omega | (simp only [numOct_length]; omega))) (by kernel_rfl) rfl rfl rfl (by decide) ?_
  rintro _ w3 ⟨r3, rfl, m3, hw3⟩
  have zw3 := hw3.size
  have lp3 := ndOnly_le L 2
  refine lsw (want_none (by rfl)) (y_assign rfl rfl) rfl (by decide) ?_
  refine lg_nil ?_
  refine nx (E' := [(1, _), (2, _), (6, _), (7, _)]) (fk rfl (fk rfl (fk rfl (fk rfl fn)))) ?_
  refine cg_seq ?_
  refine cg_region ?_
  refine lsw (want_none (by rfl)) (y_move rfl rfl) rfl (by decide) ?_
  refine lsw (want_none (by rfl)) (y_move rfl rfl) rfl (by decide) ?_
  have h := h.below (n1.below.mono (by omega))
  have h := h.below (hw2.mono (by omega))
  have h := h.below (hw3.mono (by omega))
  refine lg_callw (want_none (by rfl)) (putBytes_S m3 h (by omega) (by omega) (by first | omega | (simp only [List.length_append, numOct_length]; omega))) (by kernel_rfl) rfl rfl rfl (by decide) ?_
  rintro _ w4 ⟨r4, rfl, m4, hw4⟩
  have zw4 := hw4.size
  have lb4 := bytesOct_le xs
  refine lsw (want_none (by rfl)) (y_assign rfl rfl) rfl (by decide) ?_
  refine lg_nil ?_
  refine nx (E' := [(2, _), (6, _), (7, _)]) (fk rfl (fk rfl (fk rfl fn))) ?_
  refine cg_seq ?_
  refine cg_region ?_
  refine lsw (want_none (by rfl)) (y_move rfl rfl) rfl (by decide) ?_
  refine lsw (want_none (by rfl)) (y_move rfl rfl) rfl (by decide) ?_
  have h2 := h2.below (n1.below.mono (by omega))
  have h2 := h2.below (hw2.mono (by omega))
  have h2 := h2.below (hw3.mono (by omega))
  have h2 := h2.below (hw4.mono (by omega))
  refine lg_callw (want_none (by rfl)) (putBytes_S m4 h2 (by omega) (by omega) (by first | omega | (simp only [List.length_append, numOct_length]; omega))) (by kernel_rfl) rfl rfl rfl (by decide) ?_
  rintro _ w5 ⟨r5, rfl, m5, hw5⟩
  have zw5 := hw5.size
  have lb5 := bytesOct_le ys
  refine lsw (want_none (by rfl)) (y_assign rfl rfl) rfl (by decide) ?_
  refine lg_nil ?_
  refine nx (E' := [(6, _)]) (fk rfl fn) ?_
  refine cg_ret ?_
  have u := u.trans (n1.below.mono u.size)
  have u := u.trans (hw2.mono u.size)
  have u := u.trans (hw3.mono u.size)
  have u := u.trans (hw4.mono u.size)
  have u := u.trans (hw5.mono u.size)
  exact eg_ret_tmp rfl rfl ⟨_, rfl, r5, rfl, (m5.more (by omega)).cast (by simp only [ofInnerO, List.append_assoc]), u⟩
theorem ofParentN_any {W : World} {B : Nat} {l : PnV} {L : Pn} {s : SlV} {xs : List Int} (hl : IsPn W B l L) (h : Sl W B s xs) (hB : B ≤ W.heap.size) (hx : xs.length ≤ 10000) (he : L.enc.length ≤ 10000) (hh : L.hash.length ≤ 10000) : Calls Try.prog 23 #[.agg (l.cs L), s.v] W fun e W' => ∃ v, e = .returned v ∧ PutS W (ofParentO L xs) v W' := by
  refine calls_cg (n := 16) Try.func23 rfl Try.ntmps23 (by simp) ?_
  show CG _ _ _ [(0, .agg (l.cs L)), (1, s.v)] _ _
  have u := Below.refl W.heap.size W
  refine cg_seq ?_
  refine cg_region ?_
  refine lg_boxw (want_none (by rfl)) rfl rfl (by kernel_rfl) rfl (by decide) fun b1 w1 n1 => ?_
  have r1 := n1.row
  have k1 := n1.blk
  have z1 := n1.size
  have lt1 : b1 < w1.heap.size := by omega
  refine lsw (want_none (by rfl)) (y_assign rfl rfl) rfl (by decide) ?_
  refine lg_nil ?_
  refine nx (E' := [(1, _), (2, _), (4, _)]) (fk rfl (fk rfl (fk rfl fn))) ?_
  refine cg_seq ?_
  refine cg_region ?_
  refine lsw (want_none (by rfl)) (y_fld (off := 0) (by kernel_rfl) rfl rfl) rfl (by decide) ?_
  refine lsw (want_none (by rfl)) (y_cellv (v := l.enc.v) r1 rfl (by kernel_rfl) rfl rfl) rfl (by decide) ?_
  have hl := hl.below (n1.below.mono (by omega))
  refine lg_callw (want_none (by rfl)) (putBytes_S (Sl.nil _ 0) hl.enc (by omega) (by omega) (by first | omega | (simp only [List.length_nil]; omega))) (by kernel_rfl) rfl rfl rfl (by decide) ?_
  rintro _ w2 ⟨r2, rfl, m2, hw2⟩
  have zw2 := hw2.size
  rw [List.nil_append] at m2
  have lb2 := bytesOct_le L.enc
  refine lsw (want_none (by rfl)) (y_assign rfl rfl) rfl (by decide) ?_
  refine lg_nil ?_
  refine nx (E' := [(1, _), (2, _), (4, _), (5, _)]) (fk rfl (fk rfl (fk rfl (fk rfl fn)))) ?_
  refine cg_seq ?_
  refine cg_region ?_
  refine lsw (want_none (by rfl)) (y_move rfl rfl) rfl (by decide) ?_
  refine lsw (want_none (by rfl)) (y_fld (off := 1) (by kernel_rfl) rfl rfl) rfl (by decide) ?_
  have r1 := RowAt.below hw2 r1.lt r1
  refine lsw (want_none (by rfl)) (y_cellv (v := l.hash.v) r1 rfl (by kernel_rfl) rfl rfl) rfl (by decide) ?_
  have hl := hl.below (hw2.mono (by omega))
  refine lg_callw (want_none (by rfl)) (putBytes_S m2 hl.hash (by omega) (by omega) (by first | omega | (simp only [List.length_append, List.length_cons, List.length_nil, numOct_length, flagOct_length]; omega))) (by kernel_rfl) rfl rfl rfl (by decide) ?_
  rintro _ w3 ⟨r3, rfl, m3, hw3⟩
  have zw3 := hw3.size
  have lb3 := bytesOct_le L.hash
  refine lsw (want_none (by rfl)) (y_assign rfl rfl) rfl (by decide) ?_
  refine lg_nil ?_
  refine nx (E' := [(1, _), (4, _), (5, _)]) (fk rfl (fk rfl (fk rfl fn))) ?_
  refine cg_seq ?_
  refine cg_region ?_
  refine lsw (want_none (by rfl)) (y_move rfl rfl) rfl (by decide) ?_
  refine lsw (want_none (by rfl)) (y_move rfl rfl) rfl (by decide) ?_
  have h := h.below (n1.below.mono (by omega))
  have h := h.below (hw2.mono (by omega))
  have h := h.below (hw3.mono (by omega))
  refine lg_callw (want_none (by rfl)) (putBytes_S m3 h (by omega) (by omega) (by first | omega | (simp only [List.length_append]; omega))) (by kernel_rfl) rfl rfl rfl (by decide) ?_
  rintro _ w4 ⟨r4, rfl, m4, hw4⟩
  have zw4 := hw4.size
  have lb4 := bytesOct_le xs
  refine lsw (want_none (by rfl)) (y_assign rfl rfl) rfl (by decide) ?_
  refine lg_nil ?_
  refine nx (E' := [(4, _)]) (fk rfl fn) ?_
  refine cg_ret ?_
  have u := u.trans (n1.below.mono u.size)
  have u := u.trans (hw2.mono u.size)
  have u := u.trans (hw3.mono u.size)
  have u := u.trans (hw4.mono u.size)
  exact eg_ret_tmp rfl rfl ⟨_, rfl, r4, rfl, (m4.more (by omega)).cast (by simp only [ofParentO, List.append_assoc]), u⟩
end
end Go.Proofs.Ytpmakacjhoemeaa
