/-
  The chapter's example.
-/
import Derived.Test.YtakbbenegojcdaaLfMath
import Derived.Test.YtakbbenegojcdaaLfRefG
namespace Go.Proofs.Ytakbbenegojcdaa
open Go.ChangeShapes Go.WideShapes Go.ChangeAt Go.RowKit
set_option linter.unusedVariables false

theorem getL_anyE {W : World} {B : Nat} {s : SlV} {xs rs : List Int} {L : Lf} {er : Int} (h : Sl W B s xs) (hB : B ≤ W.heap.size) (e : lfGet xs = (er, L, rs)) : Calls Try.prog 11 #[s.v] W fun e W' => ∃ v, e = .returned v ∧ ∃ (l : LfV) (r : SlV), v = .tuple #[.agg (l.cs L), r.v, nv er] ∧ IsLf W' B l L ∧ Sl W' B r rs ∧ Below W.heap.size W W' := by
  have := getL_any h hB
  rw [e] at this
  exact this
set_option maxHeartbeats 4000000 in
theorem awakeL_any (W : World) : Calls Try.prog 9 #[] W fun e W' => ∃ v, e = .returned v ∧ v = .bool true ∧ Below W.heap.size W W' := by
  refine calls_cg (n := 41) Try.func9 rfl Try.ntmps9 (by simp) ?_
  show CG _ _ _ [] _ _
  have u := Below.refl W.heap.size W
  refine cg_seq ?_
  refine cg_region ?_
  refine lsw (want_none (by rfl)) (y_assign rfl rfl) rfl (by decide) ?_
  refine lg_nil ?_
  refine nx (E' := [(0, _)]) (fk rfl fn) ?_
  refine cg_seq ?_
  refine cg_region ?_
  refine lg_bslice (z := .int .u8 0) (cs := #[.int .u8 7, .int .u8 8]) huo24 (by kernel_rfl) (by decide) (by decide) rfl rfl (by kernel_rfl) rfl rfl (by decide) fun b1 w1 n1 => ?_
  have r1 := n1.row
  have k1 := n1.blk
  have z1 := n1.size
  have m1 : Sl w1 (b1 + 1) ⟨some ⟨b1, 0, none⟩, 2, 2⟩ [7, 8] := ⟨Nat.le_refl _, of_decide_eq_true (by kernel_rfl), oct_lit r1 rfl (by decide)⟩
  refine lsw (want_none (by rfl)) (y_build (cs := (⟨(⟨some ⟨b1, 0, none⟩, 2, 2⟩ : SlV), LfV.zero.cred, LfV.zero.par⟩ : LfV).cs (⟨([7, 8] : List Int), Lf.zero.cred, 1, Lf.zero.par⟩ : Lf)) rfl rfl (by kernel_rfl)) rfl (by decide) ?_
  refine lg_allocw (cs := LfV.zero.cs Lf.zero) (want_none (by rfl)) rfl (by kernel_rfl) rfl (by decide) fun b2 w2 n2 => ?_
  have r2 := n2.row
  have k2 := n2.blk
  have z2 := n2.size
  have lt2 : b2 < w2.heap.size := by omega
  have o3 := r2
  refine lg_stw (want_none (by rfl)) r2 rfl rfl rfl (by kernel_rfl) (by kernel_rfl) rfl rfl fun w3 s3 => ?_
  have r2 := s3.row
  have z3 := s3.size
  refine lg_nil ?_
  refine nx (E' := [(0, _), (1, _)]) (fk rfl (fk rfl fn)) ?_
  refine cg_seq ?_
  refine cg_region ?_
  refine lg_bslice (z := .int .u8 0) (cs := #[.int .u8 2, .int .u8 7, .int .u8 8, .int .u8 0, .int .u8 1, .int .u8 9]) huo24 (by kernel_rfl) (by decide) (by decide) rfl rfl (by kernel_rfl) rfl rfl (by decide) fun b4 w4 n4 => ?_
  have r4 := n4.row
  have k4 := n4.blk
  have z4 := n4.size
  have m4 : Sl w4 (b4 + 1) ⟨some ⟨b4, 0, none⟩, 6, 6⟩ [2, 7, 8, 0, 1, 9] := ⟨Nat.le_refl _, of_decide_eq_true (by kernel_rfl), oct_lit r4 rfl (by decide)⟩
  refine lg_callw (want_none (by rfl)) (getL_any m4 (by omega)) (by kernel_rfl) rfl rfl rfl (by decide) ?_
  rintro _ w5 ⟨l5, r5, rfl, m5, n5, hw5⟩
  have zw5 := hw5.size
  refine lsw (want_none (by rfl)) (y_move rfl rfl) rfl (by decide) ?_
  refine lsw (want_none (by rfl)) (y_extract rfl rfl rfl) rfl (by decide) ?_
  refine lsw (want_none (by rfl)) (y_extract rfl rfl rfl) rfl (by decide) ?_
  refine lsw (want_none (by rfl)) (y_extract rfl rfl rfl) rfl (by decide) ?_
  refine lg_allocw (cs := LfV.zero.cs Lf.zero) (want_none (by rfl)) rfl (by kernel_rfl) rfl (by decide) fun b6 w6 n6 => ?_
  have r6 := n6.row
  have k6 := n6.blk
  have z6 := n6.size
  have lt6 : b6 < w6.heap.size := by omega
  have o7 := r6
  refine lg_stw (want_none (by rfl)) r6 rfl rfl rfl (by kernel_rfl) (by kernel_rfl) rfl rfl fun w7 s7 => ?_
  have r6 := s7.row
  have z7 := s7.size
  refine lsw (want_none (by rfl)) (y_assign rfl rfl) rfl (by decide) ?_
  refine lsw (want_none (by rfl)) (y_assign rfl rfl) rfl (by decide) ?_
  refine lg_nil ?_
  refine nx (E' := [(0, _), (1, _), (2, _), (3, _), (4, _)]) (fk rfl (fk rfl (fk rfl (fk rfl (fk rfl fn))))) ?_
  refine cg_seq ?_
  refine cg_region ?_
  have r2 := n4.keep r2
  have r2 := RowAt.below hw5 r2.lt r2
  have r2 := n6.keep r2
  have r2 := s7.keep r2 (by omega)
  refine lsw (want_none (by rfl)) (y_loadA r2 (by kernel_rfl) (by kernel_rfl) rfl rfl) rfl (by decide) ?_
  have m1 := m1.below (n2.below.mono (by omega))
  have m1 := m1.set o3 rfl s3
  have m1 := m1.below (n4.below.mono (by omega))
  have m1 := m1.below (hw5.mono (by omega))
  have m1 := m1.below (n6.below.mono (by omega))
  have m1 := m1.set o7 rfl s7
  refine lg_callw (want_none (by rfl)) (putL_any ((Sl.nil _ 0).more (B' := w7.heap.size) (by omega)) (show IsLf w7 w7.heap.size (⟨(⟨some ⟨b1, 0, none⟩, 2, 2⟩ : SlV), LfV.zero.cred, LfV.zero.par⟩ : LfV) (⟨([7, 8] : List Int), Lf.zero.cred, 1, Lf.zero.par⟩ : Lf) from ⟨m1.more (by omega), ((IsLf.zero _ 0).cred).more (by omega), ((IsLf.zero _ 0).par).more (by omega)⟩) (Nat.le_refl _) (by first | omega | (simp only [List.length_append, List.length_nil, numOct_length]; omega))) (by kernel_rfl) rfl rfl rfl (by decide) ?_
  rintro _ w8 ⟨r8, rfl, m8, hw8⟩
  have zw8 := hw8.size
  rw [List.nil_append] at m8
  have lp8 := lfPut_le (⟨([7, 8] : List Int), Lf.zero.cred, 1, Lf.zero.par⟩ : Lf)
  have by9 : Bytes (lfPut (⟨([7, 8] : List Int), Lf.zero.cred, 1, Lf.zero.par⟩ : Lf)) := m8.bytes
  refine lsw (want_none (by rfl)) (y_strS m8 rfl rfl) rfl (by decide) ?_
  have f10 : (lfPut (⟨([7, 8] : List Int), Lf.zero.cred, 1, Lf.zero.par⟩ : Lf)) = ([2, 7, 8, 0, 1] : List Int) := of_decide_eq_true (by kernel_rfl)
  refine lsw (want_none (by rfl)) (yb (decide_eq_true f10) (y_seqS (xs := (lfPut (⟨([7, 8] : List Int), Lf.zero.cred, 1, Lf.zero.par⟩ : Lf))) (ys := ([2, 7, 8, 0, 1] : List Int)) by9 (by decide) rfl rfl (by kernel_rfl))) rfl (by decide) ?_
  refine lsw (want_none (by rfl)) (y_move rfl rfl) rfl (by decide) ?_
  refine lsw (want_t (dj := 17) (by rfl) (by kernel_rfl) rfl) (y_move rfl rfl) rfl (by decide) ?_
  have f11 : (lfGet ([2, 7, 8, 0, 1, 9] : List Int)).1 = 0 := of_decide_eq_true (by kernel_rfl)
  refine lsw (want_t (dj := 17) (by rfl) (by kernel_rfl) rfl) (yb (decide_eq_true f11) (yi_eql rfl rfl rfl)) rfl (by decide) ?_
  refine lsw (want_none (by rfl)) (y_pick true rfl rfl rfl) rfl (by decide) ?_
  refine lsw (want_none (by rfl)) (y_move rfl rfl) rfl (by decide) ?_
  have r6 := RowAt.below hw8 r6.lt r6
  refine lsw (want_t (dj := 21) (by rfl) (by kernel_rfl) rfl) (y_loadA r6 (by kernel_rfl) (by kernel_rfl) rfl rfl) rfl (by decide) ?_
  have r2 := RowAt.below hw8 r2.lt r2
  refine lsw (want_t (dj := 21) (by rfl) (by kernel_rfl) rfl) (y_loadA r2 (by kernel_rfl) (by kernel_rfl) rfl rfl) rfl (by decide) ?_
  have m5 := m5.below (n6.below.mono (by omega))
  have m5 := m5.set o7 rfl s7
  have m5 := m5.below (hw8.mono (by omega))
  have m1 := m1.below (hw8.mono (by omega))
  have f12 : LfSame (lfGet ([2, 7, 8, 0, 1, 9] : List Int)).2.1 (⟨([7, 8] : List Int), Lf.zero.cred, 1, Lf.zero.par⟩ : Lf) := of_decide_eq_true (by kernel_rfl)
  refine lg_callw (want_t (dj := 21) (by rfl) (by kernel_rfl) rfl) (same_any (m5.more (B' := w8.heap.size) (by omega)) (show IsLf w8 w8.heap.size (⟨(⟨some ⟨b1, 0, none⟩, 2, 2⟩ : SlV), LfV.zero.cred, LfV.zero.par⟩ : LfV) (⟨([7, 8] : List Int), Lf.zero.cred, 1, Lf.zero.par⟩ : Lf) from ⟨m1.more (by omega), ((IsLf.zero _ 0).cred).more (by omega), ((IsLf.zero _ 0).par).more (by omega)⟩) (Nat.le_refl _)) (by kernel_rfl) rfl rfl rfl (by decide) ?_
  rintro u13 w13 ⟨e13, hw13⟩
  have zw13 := hw13.size
  obtain rfl : u13 = .bool true := e13.trans (congrArg Value.bool (decide_eq_true f12))
  refine lsw (want_none (by rfl)) (y_pick true rfl rfl rfl) rfl (by decide) ?_
  refine lsw (want_none (by rfl)) (y_move rfl rfl) rfl (by decide) ?_
  refine lsw (want_t (dj := 26) (by rfl) (by kernel_rfl) rfl) (y_move rfl rfl) rfl (by decide) ?_
  have n5 := n5.below (n6.below.mono (by omega))
  have n5 := n5.set o7 rfl s7
  have n5 := n5.below (hw8.mono (by omega))
  have n5 := n5.below (hw13.mono (by omega))
  refine lsw (want_t (dj := 26) (by rfl) (by kernel_rfl) rfl) (y_lenS (el := 5) n5 (by kernel_rfl) rfl rfl) rfl (by decide) ?_
  have f14 : (((lfGet ([2, 7, 8, 0, 1, 9] : List Int)).2.2).length : Int) = 1 := of_decide_eq_true (by kernel_rfl)
  refine lsw (want_t (dj := 26) (by rfl) (by kernel_rfl) rfl) (yb (decide_eq_true f14) (yi_eql rfl rfl rfl)) rfl (by decide) ?_
  refine lsw (want_none (by rfl)) (y_pick true rfl rfl rfl) rfl (by decide) ?_
  refine lsw (want_none (by rfl)) (y_move rfl rfl) rfl (by decide) ?_
  have r2 := RowAt.below hw13 r2.lt r2
  refine lsw (want_t (dj := 31) (by rfl) (by kernel_rfl) rfl) (y_loadA r2 (by kernel_rfl) (by kernel_rfl) rfl rfl) rfl (by decide) ?_
  have m1 := m1.below (hw13.mono (by omega))
  refine lg_callw (want_t (dj := 31) (by rfl) (by kernel_rfl) rfl) (check_any (show IsLf w13 w13.heap.size (⟨(⟨some ⟨b1, 0, none⟩, 2, 2⟩ : SlV), LfV.zero.cred, LfV.zero.par⟩ : LfV) (⟨([7, 8] : List Int), Lf.zero.cred, 1, Lf.zero.par⟩ : Lf) from ⟨m1.more (by omega), ((IsLf.zero _ 0).cred).more (by omega), ((IsLf.zero _ 0).par).more (by omega)⟩) (Nat.le_refl _)) (by kernel_rfl) rfl rfl rfl (by decide) ?_
  rintro _ w15 ⟨rfl, hw15⟩
  have zw15 := hw15.size
  have f16 : (lfCheck (⟨([7, 8] : List Int), Lf.zero.cred, 1, Lf.zero.par⟩ : Lf)) = 0 := of_decide_eq_true (by kernel_rfl)
  refine lsw (want_t (dj := 31) (by rfl) (by kernel_rfl) rfl) (yb (decide_eq_true f16) (yi_eql rfl rfl rfl)) rfl (by decide) ?_
  refine lsw (want_none (by rfl)) (y_pick true rfl rfl rfl) rfl (by decide) ?_
  refine lsw (want_none (by rfl)) (y_move rfl rfl) rfl (by decide) ?_
  refine lsw (want_t (dj := 36) (by rfl) (by kernel_rfl) rfl) (y_build (cs := LfV.zero.cs Lf.zero) rfl rfl (by kernel_rfl)) rfl (by decide) ?_
  refine lg_callw (want_t (dj := 36) (by rfl) (by kernel_rfl) rfl) (check_any ((IsLf.zero _ 0).more (B' := w15.heap.size) (by omega)) (Nat.le_refl _)) (by kernel_rfl) rfl rfl rfl (by decide) ?_
  rintro _ w17 ⟨rfl, hw17⟩
  have zw17 := hw17.size
  have f18 : (lfCheck Lf.zero) = 5 := of_decide_eq_true (by kernel_rfl)
  refine lsw (want_t (dj := 36) (by rfl) (by kernel_rfl) rfl) (yb (decide_eq_true f18) (yi_eql rfl rfl rfl)) rfl (by decide) ?_
  refine lsw (want_none (by rfl)) (y_pick true rfl rfl rfl) rfl (by decide) ?_
  refine lsw (want_none (by rfl)) (y_assign rfl rfl) rfl (by decide) ?_
  refine lg_nil ?_
  refine nx (E' := [(0, _)]) (fk rfl fn) ?_
  refine cg_ret ?_
  have u := u.trans (n1.below.mono u.size)
  have u := u.trans (n2.below.mono u.size)
  have u := u.trans (s3.below _ (by omega))
  have u := u.trans (n4.below.mono u.size)
  have u := u.trans (hw5.mono u.size)
  have u := u.trans (n6.below.mono u.size)
  have u := u.trans (s7.below _ (by omega))
  have u := u.trans (hw8.mono u.size)
  have u := u.trans (hw13.mono u.size)
  have u := u.trans (hw15.mono u.size)
  have u := u.trans (hw17.mono u.size)
  exact eg_ret_tmp rfl rfl ⟨_, rfl, rfl, u⟩
end Go.Proofs.Ytakbbenegojcdaa
