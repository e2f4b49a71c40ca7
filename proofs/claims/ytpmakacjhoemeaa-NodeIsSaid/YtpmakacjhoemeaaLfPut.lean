/-
  leaf.Put.
-/
import Derived.Test.YtpmakacjhoemeaaLfProg
namespace Go.Proofs.Ytpmakacjhoemeaa
open Go.ChangeShapes Go.WideShapes Go.ChangeAt Go.RowKit
set_option linter.unusedVariables false

theorem putL_any {W : World} {B : Nat} {s : SlV} {xs : List Int} {l : LfV} {L : Lf} (h : Sl W B s xs) (hl : IsLf W B l L) (hB : B ≤ W.heap.size) (hx : xs.length ≤ 1000000) : Calls Try.prog 78 #[s.v, .agg (l.cs L)] W fun e W' => ∃ v, e = .returned v ∧ PutS W (xs ++ lfPut L) v W' := by
  refine calls_cg (n := 32) Try.func78 rfl Try.ntmps78 (by simp) ?_
  show CG _ _ _ [(0, s.v), (1, .agg (l.cs L))] _ _
  have u := Below.refl W.heap.size W
  refine cg_seq ?_
  refine cg_region ?_
  refine lg_boxw (want_none (by rfl)) rfl rfl (by kernel_rfl) rfl (by decide) fun b1 w1 n1 => ?_
  have r1 := n1.row
  have k1 := n1.blk
  have z1 := n1.size
  have lt1 : b1 < w1.heap.size := by omega
  refine lsw (want_none (by rfl)) (y_assign rfl rfl) rfl (by decide) ?_
  refine lg_nil ?_
  refine nx (E' := [(0, _), (3, _), (4, _)]) (fk rfl (fk rfl (fk rfl fn))) ?_
  refine cg_seq ?_
  refine cg_seq ?_
  refine cg_region ?_
  refine lsw (want_none (by rfl)) (y_loadA r1 (by kernel_rfl) (by kernel_rfl) rfl rfl) rfl (by decide) ?_
  have hl := hl.below (n1.below.mono (by omega))
  refine lg_callw (want_none (by rfl)) (check_any (hl.more (B' := w1.heap.size) (by omega)) (Nat.le_refl _)) (by kernel_rfl) rfl rfl rfl (by decide) ?_
  rintro _ w2 ⟨rfl, hw2⟩
  have zw2 := hw2.size
  by_cases c3 : (lfCheck L) = 0
  · have ok := lfCheck_ok c3
    refine lsw (want_none (by rfl)) (yb (nd_f c3) (yi_neq rfl rfl rfl)) rfl (by decide) ?_
    refine lg_nil ?_
    refine nx (E' := [(0, _), (3, _), (4, _), (8, _)]) (fk rfl (fk rfl (fk rfl (fk rfl fn)))) ?_
    refine cg_cf rfl ?_
    refine cg_skip ?_
    refine nx (E' := [(0, _), (3, _), (4, _)]) (fk rfl (fk rfl (fk rfl fn))) ?_
    refine cg_seq ?_
    refine cg_region ?_
    refine lsw (want_none (by rfl)) (y_fld (off := 0) (by kernel_rfl) rfl rfl) rfl (by decide) ?_
    have r1 := RowAt.below hw2 r1.lt r1
    refine lsw (want_none (by rfl)) (y_cellv (v := l.enc.v) r1 rfl (by kernel_rfl) rfl rfl) rfl (by decide) ?_
    have hl := hl.below (hw2.mono (by omega))
    refine lg_callw (want_none (by rfl)) (putBytes_S (Sl.nil _ _) hl.enc (by omega) (by omega) (by first | omega | (simp only [List.length_nil]; omega))) (by kernel_rfl) rfl rfl rfl (by decide) ?_
    rintro _ w4 ⟨r4, rfl, m4, hw4⟩
    have zw4 := hw4.size
    have lb4 := bytesOct_le L.enc
    refine lsw (want_none (by rfl)) (y_assign rfl rfl) rfl (by decide) ?_
    refine lg_nil ?_
    refine nx (E' := [(0, _), (3, _), (4, _), (5, _)]) (fk rfl (fk rfl (fk rfl (fk rfl fn)))) ?_
    refine cg_seq ?_
    refine cg_region ?_
    refine lsw (want_none (by rfl)) (y_move rfl rfl) rfl (by decide) ?_
    refine lsw (want_none (by rfl)) (y_fld (off := 1) (by kernel_rfl) rfl rfl) rfl (by decide) ?_
    have r1 := RowAt.below hw4 r1.lt r1
    refine lsw (want_none (by rfl)) (y_cellv (v := l.cred.v) r1 rfl (by kernel_rfl) rfl rfl) rfl (by decide) ?_
    have hl := hl.below (hw4.mono (by omega))
    refine lg_callw (want_none (by rfl)) (putBytes_S m4 hl.cred (by omega) (by omega) (by first | omega | (simp only [List.length_append, List.length_nil]; omega))) (by kernel_rfl) rfl rfl rfl (by decide) ?_
    rintro _ w5 ⟨r5, rfl, m5, hw5⟩
    have zw5 := hw5.size
    have lb5 := bytesOct_le L.cred
    refine lsw (want_none (by rfl)) (y_assign rfl rfl) rfl (by decide) ?_
    refine lg_nil ?_
    refine nx (E' := [(0, _), (3, _), (4, _), (5, _)]) (fk rfl (fk rfl (fk rfl (fk rfl fn)))) ?_
    refine cg_seq ?_
    refine cg_region ?_
    refine lsw (want_none (by rfl)) (y_move rfl rfl) rfl (by decide) ?_
    refine lsw (want_none (by rfl)) (y_fld (off := 2) (by kernel_rfl) rfl rfl) rfl (by decide) ?_
    have r1 := RowAt.below hw5 r1.lt r1
    refine lsw (want_none (by rfl)) (y_cellv (v := nv L.src) r1 rfl (by kernel_rfl) rfl rfl) rfl (by decide) ?_
    refine lg_callw (want_none (by rfl)) (putNum_S L.src 1 m5 (by omega) (by first | omega | (simp only [List.length_append, List.length_nil]; omega))) (by kernel_rfl) rfl rfl rfl (by decide) ?_
    rintro _ w6 ⟨r6, rfl, m6, hw6⟩
    have zw6 := hw6.size
    have wk6 := widthK_le 1
    refine lsw (want_none (by rfl)) (y_assign rfl rfl) rfl (by decide) ?_
    refine lg_nil ?_
    refine nx (E' := [(0, _), (3, _), (4, _), (5, _)]) (fk rfl (fk rfl (fk rfl (fk rfl fn)))) ?_
    refine cg_seq ?_
    refine cg_seq ?_
    refine cg_region ?_
    refine lsw (want_none (by rfl)) (y_fld (off := 2) (by kernel_rfl) rfl rfl) rfl (by decide) ?_
    have r1 := RowAt.below hw6 r1.lt r1
    refine lsw (want_none (by rfl)) (y_cellv (v := nv L.src) r1 rfl (by kernel_rfl) rfl rfl) rfl (by decide) ?_
    by_cases c7 : L.src = 3
    · refine lsw (want_none (by rfl)) (yb (decide_eq_true c7) (yi_eql rfl rfl rfl)) rfl (by decide) ?_
      refine lg_nil ?_
      refine nx (E' := [(0, _), (3, _), (4, _), (5, _), (23, _)]) (fk rfl (fk rfl (fk rfl (fk rfl (fk rfl fn))))) ?_
      refine cg_ct rfl ?_
      refine cg_region ?_
      refine lsw (want_none (by rfl)) (y_move rfl rfl) rfl (by decide) ?_
      refine lsw (want_none (by rfl)) (y_fld (off := 3) (by kernel_rfl) rfl rfl) rfl (by decide) ?_
      refine lsw (want_none (by rfl)) (y_cellv (v := l.par.v) r1 rfl (by kernel_rfl) rfl rfl) rfl (by decide) ?_
      have hl := hl.below (hw5.mono (by omega))
      have hl := hl.below (hw6.mono (by omega))
      refine lg_callw (want_none (by rfl)) (putBytes_S m6 hl.par (by omega) (by omega) (by first | omega | (simp only [List.length_append, List.length_nil, numOct_length]; omega))) (by kernel_rfl) rfl rfl rfl (by decide) ?_
      rintro _ w8 ⟨r8, rfl, m8, hw8⟩
      have zw8 := hw8.size
      have lb8 := bytesOct_le L.par
      refine lsw (want_none (by rfl)) (y_assign rfl rfl) rfl (by decide) ?_
      refine lg_nil ?_
      refine nx (E' := [(0, _), (4, _), (5, _)]) (fk rfl (fk rfl (fk rfl fn))) ?_
      refine cg_seq ?_
      refine cg_region ?_
      refine lsw (want_none (by rfl)) (y_move rfl rfl) rfl (by decide) ?_
      refine lsw (want_none (by rfl)) (y_move rfl rfl) rfl (by decide) ?_
      refine lg_bslice (el := 22) (z := .slice none 0 0) (cs := #[s.v, r8.v]) (by kernel_rfl) (by kernel_rfl) (by decide) (by decide) rfl rfl (by kernel_rfl) rfl rfl (by decide) fun b9 w9 n9 => ?_
      have r9 := n9.row
      have k9 := n9.blk
      have z9 := n9.size
      have lt9 : b9 < w9.heap.size := by omega
      have h := h.below (n1.below.mono (by omega))
      have h := h.below (hw2.mono (by omega))
      have h := h.below (hw4.mono (by omega))
      have h := h.below (hw5.mono (by omega))
      have h := h.below (hw6.mono (by omega))
      have h := h.below (hw8.mono (by omega))
      have h := h.below (n9.below.mono (by omega))
      have m8 := m8.below (n9.below.mono (by omega))
      refine lg_callw (want_none (by rfl)) (concat2_S r9 h m8 (by omega) (by omega) (by first | omega | (simp only [List.length_append, List.length_nil, numOct_length]; omega))) (by kernel_rfl) rfl rfl rfl (by decide) ?_
      rintro _ w10 ⟨r10, rfl, m10, hw10⟩
      have zw10 := hw10.size
      refine lsw (want_none (by rfl)) (y_assign rfl rfl) rfl (by decide) ?_
      refine lg_nil ?_
      refine nx (E' := [(4, _)]) (fk rfl fn) ?_
      refine cg_ret ?_
      have u := u.trans (n1.below.mono u.size)
      have u := u.trans (hw2.mono u.size)
      have u := u.trans (hw4.mono u.size)
      have u := u.trans (hw5.mono u.size)
      have u := u.trans (hw6.mono u.size)
      have u := u.trans (hw8.mono u.size)
      have u := u.trans (n9.below.mono u.size)
      have u := u.trans (hw10.mono u.size)
      exact eg_ret_tmp rfl rfl ⟨_, rfl, r10, rfl, m10.cast (by simp [lfPut, lfOct, *]), u⟩
    · refine lsw (want_none (by rfl)) (yb (decide_eq_false c7) (yi_eql rfl rfl rfl)) rfl (by decide) ?_
      refine lg_nil ?_
      refine nx (E' := [(0, _), (3, _), (4, _), (5, _), (23, _)]) (fk rfl (fk rfl (fk rfl (fk rfl (fk rfl fn))))) ?_
      refine cg_cf rfl ?_
      refine cg_skip ?_
      refine nx (E' := [(0, _), (4, _), (5, _)]) (fk rfl (fk rfl (fk rfl fn))) ?_
      refine cg_seq ?_
      refine cg_region ?_
      refine lsw (want_none (by rfl)) (y_move rfl rfl) rfl (by decide) ?_
      refine lsw (want_none (by rfl)) (y_move rfl rfl) rfl (by decide) ?_
      refine lg_bslice (el := 22) (z := .slice none 0 0) (cs := #[s.v, r6.v]) (by kernel_rfl) (by kernel_rfl) (by decide) (by decide) rfl rfl (by kernel_rfl) rfl rfl (by decide) fun b11 w11 n11 => ?_
      have r11 := n11.row
      have k11 := n11.blk
      have z11 := n11.size
      have lt11 : b11 < w11.heap.size := by omega
      have h := h.below (n1.below.mono (by omega))
      have h := h.below (hw2.mono (by omega))
      have h := h.below (hw4.mono (by omega))
      have h := h.below (hw5.mono (by omega))
      have h := h.below (hw6.mono (by omega))
      have h := h.below (n11.below.mono (by omega))
      have m6 := m6.below (n11.below.mono (by omega))
      refine lg_callw (want_none (by rfl)) (concat2_S r11 h m6 (by omega) (by omega) (by first | omega | (simp only [List.length_append, List.length_nil, numOct_length]; omega))) (by kernel_rfl) rfl rfl rfl (by decide) ?_
      rintro _ w12 ⟨r12, rfl, m12, hw12⟩
      have zw12 := hw12.size
      refine lsw (want_none (by rfl)) (y_assign rfl rfl) rfl (by decide) ?_
      refine lg_nil ?_
      refine nx (E' := [(4, _)]) (fk rfl fn) ?_
      refine cg_ret ?_
      have u := u.trans (n1.below.mono u.size)
      have u := u.trans (hw2.mono u.size)
      have u := u.trans (hw4.mono u.size)
      have u := u.trans (hw5.mono u.size)
      have u := u.trans (hw6.mono u.size)
      have u := u.trans (n11.below.mono u.size)
      have u := u.trans (hw12.mono u.size)
      exact eg_ret_tmp rfl rfl ⟨_, rfl, r12, rfl, m12.cast (by simp [lfPut, lfOct, *]), u⟩
  · refine lsw (want_none (by rfl)) (yb (nd_t c3) (yi_neq rfl rfl rfl)) rfl (by decide) ?_
    refine lg_nil ?_
    refine nx (E' := [(0, _), (3, _), (4, _), (8, _)]) (fk rfl (fk rfl (fk rfl (fk rfl fn)))) ?_
    refine cg_ct rfl ?_
    refine cg_seq ?_
    refine cg_region ?_
    refine lsw (want_none (by rfl)) (y_move rfl rfl) rfl (by decide) ?_
    refine lsw (want_none (by rfl)) (y_assign rfl rfl) rfl (by decide) ?_
    refine lg_nil ?_
    refine nx (E' := [(0, _), (3, _), (4, _)]) (fk rfl (fk rfl (fk rfl fn))) ?_
    refine cg_ret ?_
    refine eg_seq_ret ?_
    have h := h.below (n1.below.mono (by omega))
    have h := h.below (hw2.mono (by omega))
    have u := u.trans (n1.below.mono u.size)
    have u := u.trans (hw2.mono u.size)
    exact eg_ret_tmp rfl rfl ⟨_, rfl, s, rfl, (h.more (by omega)).cast (by rw [lfPut, if_neg c3, List.append_nil]), u⟩
end Go.Proofs.Ytpmakacjhoemeaa
