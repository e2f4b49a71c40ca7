/-
  The chapter's example.
-/
import Derived.Test.YtpmakacjhoemeaaNdMath
import Derived.Test.YtpmakacjhoemeaaNdPut
namespace Go.Proofs.Ytpmakacjhoemeaa
open Go.ChangeShapes Go.WideShapes Go.ChangeAt Go.RowKit
set_option linter.unusedVariables false

theorem getN_anyE {W : World} {B : Nat} {s : SlV} {xs rs : List Int} {L : Nd} {er : Int} (h : Sl W B s xs) (hB : B ≤ W.heap.size) (e : ndGet xs = (er, L, rs)) : Calls Try.prog 11 #[s.v] W fun e W' => ∃ v, e = .returned v ∧ ∃ (l : NdV) (r : SlV), v = .tuple #[.agg (l.cs L), r.v, nv er] ∧ IsNd W' W'.heap.size l L ∧ Sl W' B r rs ∧ l.fresh W.heap.size ∧ Below W.heap.size W W' := by
  have := getN_any h hB
  rw [e] at this
  exact this
set_option maxHeartbeats 4000000 in
theorem awakeN_any (W : World) : Calls Try.prog 9 #[] W fun e W' => ∃ v, e = .returned v ∧ v = .bool true ∧ Below W.heap.size W W' := by
  refine calls_cg (n := 56) Try.func9 rfl Try.ntmps9 (by simp) ?_
  show CG _ _ _ [] _ _
  have u := Below.refl W.heap.size W
  refine cg_seq ?_
  refine cg_region ?_
  refine lsw (want_none (by rfl)) (y_assign rfl rfl) rfl (by decide) ?_
  refine lg_nil ?_
  refine nx (E' := [(0, _)]) (fk rfl fn) ?_
  refine cg_seq ?_
  refine cg_region ?_
  refine lg_bslice (z := .int .u8 0) (cs := #[.int .u8 7]) huo24 (by kernel_rfl) (by decide) (by decide) rfl rfl (by kernel_rfl) rfl rfl (by decide) fun b1 w1 n1 => ?_
  have r1 := n1.row
  have k1 := n1.blk
  have z1 := n1.size
  have m1 : Sl w1 (b1 + 1) ⟨some ⟨b1, 0, none⟩, 1, 1⟩ [7] := ⟨Nat.le_refl _, of_decide_eq_true (by kernel_rfl), oct_lit r1 rfl (by decide)⟩
  refine lsw (want_none (by rfl)) (y_build (cs := (⟨(⟨some ⟨b1, 0, none⟩, 1, 1⟩ : SlV), nilS, nilS⟩ : LfV).cs (⟨([7] : List Int), [], 1, []⟩ : Lf)) rfl rfl (by kernel_rfl)) rfl (by decide) ?_
  refine lsw (want_none (by rfl)) (y_build (cs := (⟨(⟨(⟨some ⟨b1, 0, none⟩, 1, 1⟩ : SlV), nilS, nilS⟩ : LfV), PnV.zero⟩ : NdV).cs (⟨1, (⟨([7] : List Int), [], 1, []⟩ : Lf), Pn.zero⟩ : Nd)) rfl rfl (by kernel_rfl)) rfl (by decide) ?_
  refine lg_allocw (cs := NdV.zero.cs Nd.zero) (want_none (by rfl)) rfl (by kernel_rfl) rfl (by decide) fun b2 w2 n2 => ?_
  have r2 := n2.row
  have k2 := n2.blk
  have z2 := n2.size
  have lt2 : b2 < w2.heap.size := by omega
  have o3 := r2
  refine lg_stw (want_none (by rfl)) r2 rfl rfl rfl (by kernel_rfl) (by kernel_rfl) rfl rfl fun w3 s3 => ?_
  have r2 := s3.row
  have z3 := s3.size
  refine lg_nil ?_
  refine nx (E' := [(0, _), (1, _)]) (fk rfl (fk rfl fn)) ?_
  refine cg_seq ?_
  refine cg_region ?_
  refine lg_bslice (z := .int .u8 0) (cs := #[.int .u8 1, .int .u8 1, .int .u8 1, .int .u8 7, .int .u8 0, .int .u8 1]) huo24 (by kernel_rfl) (by decide) (by decide) rfl rfl (by kernel_rfl) rfl rfl (by decide) fun b4 w4 n4 => ?_
  have r4 := n4.row
  have k4 := n4.blk
  have z4 := n4.size
  have m4 : Sl w4 (b4 + 1) ⟨some ⟨b4, 0, none⟩, 6, 6⟩ [1, 1, 1, 7, 0, 1] := ⟨Nat.le_refl _, of_decide_eq_true (by kernel_rfl), oct_lit r4 rfl (by decide)⟩
  refine lg_callw (want_none (by rfl)) (getN_any m4 (by omega)) (by kernel_rfl) rfl rfl rfl (by decide) ?_
  rintro _ w5 ⟨l5, r5, rfl, m5, n5, f5, hw5⟩
  have zw5 := hw5.size
  refine lsw (want_none (by rfl)) (y_move rfl rfl) rfl (by decide) ?_
  refine lsw (want_none (by rfl)) (y_extract rfl rfl rfl) rfl (by decide) ?_
  refine lsw (want_none (by rfl)) (y_extract rfl rfl rfl) rfl (by decide) ?_
  refine lsw (want_none (by rfl)) (y_extract rfl rfl rfl) rfl (by decide) ?_
  refine lg_allocw (cs := NdV.zero.cs Nd.zero) (want_none (by rfl)) rfl (by kernel_rfl) rfl (by decide) fun b6 w6 n6 => ?_
  have r6 := n6.row
  have k6 := n6.blk
  have z6 := n6.size
  have lt6 : b6 < w6.heap.size := by omega
  have o7 := r6
  refine lg_stw (want_none (by rfl)) r6 rfl rfl rfl (by kernel_rfl) (by kernel_rfl) rfl rfl fun w7 s7 => ?_
  have r6 := s7.row
  have z7 := s7.size
  refine lsw (want_none (by rfl)) (y_assign rfl rfl) rfl (by decide) ?_
  refine lsw (want_none (by rfl)) (y_assign rfl rfl) rfl (by decide) ?_
  refine lg_nil ?_
  refine nx (E' := [(0, _), (1, _), (2, _), (4, _)]) (fk rfl (fk rfl (fk rfl (fk rfl fn)))) ?_
  refine cg_seq ?_
  refine cg_region ?_
  refine lsw (want_none (by rfl)) (y_build (cs := NdV.zero.cs Nd.zero) rfl rfl (by kernel_rfl)) rfl (by decide) ?_
  refine lg_callw (want_none (by rfl)) (putN_any ((Sl.nil _ 0).more (B' := w7.heap.size) (by omega)) ((IsNd.zero _ 0).more (B' := w7.heap.size) (by omega)) (Nat.le_refl _) (by first | omega | (simp only [List.length_nil]; omega))) (by kernel_rfl) rfl rfl rfl (by decide) ?_
  rintro _ w8 ⟨r8, rfl, m8, hw8⟩
  have zw8 := hw8.size
  rw [List.nil_append] at m8
  have lp8 := ndPut_le Nd.zero
  have by9 : Bytes (ndPut Nd.zero) := m8.bytes
  refine lsw (want_none (by rfl)) (y_strS m8 rfl rfl) rfl (by decide) ?_
  have f10 : (ndPut Nd.zero) = ([0] : List Int) := of_decide_eq_true (by kernel_rfl)
  refine lsw (want_none (by rfl)) (yb (decide_eq_true f10) (y_seqS (xs := (ndPut Nd.zero)) (ys := ([0] : List Int)) by9 (by decide) rfl rfl (by kernel_rfl))) rfl (by decide) ?_
  refine lsw (want_none (by rfl)) (y_move rfl rfl) rfl (by decide) ?_
  have r2 := n4.keep r2
  have r2 := RowAt.below hw5 r2.lt r2
  have r2 := n6.keep r2
  have r2 := s7.keep r2 (by omega)
  have r2 := RowAt.below hw8 r2.lt r2
  refine lsw (want_t (dj := 18) (by rfl) (by kernel_rfl) rfl) (y_loadA r2 (by kernel_rfl) (by kernel_rfl) rfl rfl) rfl (by decide) ?_
  have m1 := m1.below (n2.below.mono (by omega))
  have m1 := m1.set o3 rfl s3
  have m1 := m1.below (n4.below.mono (by omega))
  have m1 := m1.below (hw5.mono (by omega))
  have m1 := m1.below (n6.below.mono (by omega))
  have m1 := m1.set o7 rfl s7
  have m1 := m1.below (hw8.mono (by omega))
  refine lg_callw (want_t (dj := 18) (by rfl) (by kernel_rfl) rfl) (putN_any ((Sl.nil _ 0).more (B' := w8.heap.size) (by omega)) (show IsNd w8 w8.heap.size (⟨(⟨(⟨some ⟨b1, 0, none⟩, 1, 1⟩ : SlV), nilS, nilS⟩ : LfV), PnV.zero⟩ : NdV) (⟨1, (⟨([7] : List Int), [], 1, []⟩ : Lf), Pn.zero⟩ : Nd) from ⟨(show IsLf w8 w8.heap.size (⟨(⟨some ⟨b1, 0, none⟩, 1, 1⟩ : SlV), nilS, nilS⟩ : LfV) (⟨([7] : List Int), [], 1, []⟩ : Lf) from ⟨(m1.more (B' := w8.heap.size) (by omega)), ((Sl.nil _ 0).more (B' := w8.heap.size) (by omega)), ((Sl.nil _ 0).more (B' := w8.heap.size) (by omega))⟩), ((IsPn.zero _ 0).more (B' := w8.heap.size) (by omega))⟩) (Nat.le_refl _) (by first | omega | (simp only [List.length_nil]; omega))) (by kernel_rfl) rfl rfl rfl (by decide) ?_
  rintro _ w11 ⟨r11, rfl, m11, hw11⟩
  have zw11 := hw11.size
  rw [List.nil_append] at m11
  have lp11 := ndPut_le (⟨1, (⟨([7] : List Int), [], 1, []⟩ : Lf), Pn.zero⟩ : Nd)
  have by12 : Bytes (ndPut (⟨1, (⟨([7] : List Int), [], 1, []⟩ : Lf), Pn.zero⟩ : Nd)) := m11.bytes
  refine lsw (want_t (dj := 18) (by rfl) (by kernel_rfl) rfl) (y_strS m11 rfl rfl) rfl (by decide) ?_
  have f13 : (ndPut (⟨1, (⟨([7] : List Int), [], 1, []⟩ : Lf), Pn.zero⟩ : Nd)) = ([1, 1, 1, 7, 0, 1] : List Int) := of_decide_eq_true (by kernel_rfl)
  refine lsw (want_t (dj := 18) (by rfl) (by kernel_rfl) rfl) (yb (decide_eq_true f13) (y_seqS (xs := (ndPut (⟨1, (⟨([7] : List Int), [], 1, []⟩ : Lf), Pn.zero⟩ : Nd))) (ys := ([1, 1, 1, 7, 0, 1] : List Int)) by12 (by decide) rfl rfl (by kernel_rfl))) rfl (by decide) ?_
  refine lsw (want_none (by rfl)) (y_pick true rfl rfl rfl) rfl (by decide) ?_
  refine lsw (want_none (by rfl)) (y_move rfl rfl) rfl (by decide) ?_
  refine lsw (want_t (dj := 24) (by rfl) (by kernel_rfl) rfl) (y_move rfl rfl) rfl (by decide) ?_
  have f14 : (ndGet ([1, 1, 1, 7, 0, 1] : List Int)).1 = 0 := of_decide_eq_true (by kernel_rfl)
  refine lsw (want_t (dj := 24) (by rfl) (by kernel_rfl) rfl) (yb (decide_eq_true f14) (yi_eql rfl rfl rfl)) rfl (by decide) ?_
  refine lsw (want_none (by rfl)) (y_pick true rfl rfl rfl) rfl (by decide) ?_
  refine lsw (want_none (by rfl)) (y_move rfl rfl) rfl (by decide) ?_
  have r6 := RowAt.below hw8 r6.lt r6
  have r6 := RowAt.below hw11 r6.lt r6
  refine lsw (want_t (dj := 28) (by rfl) (by kernel_rfl) rfl) (y_loadA r6 (by kernel_rfl) (by kernel_rfl) rfl rfl) rfl (by decide) ?_
  have r2 := RowAt.below hw11 r2.lt r2
  refine lsw (want_t (dj := 28) (by rfl) (by kernel_rfl) rfl) (y_loadA r2 (by kernel_rfl) (by kernel_rfl) rfl rfl) rfl (by decide) ?_
  have m5 := m5.below (n6.below.mono (by omega))
  have m5 := m5.below (s7.below _ (by omega))
  have m5 := m5.below (hw8.mono (by omega))
  have m5 := m5.below (hw11.mono (by omega))
  have m1 := m1.below (hw11.mono (by omega))
  have f15 : NdSame (ndGet ([1, 1, 1, 7, 0, 1] : List Int)).2.1 (⟨1, (⟨([7] : List Int), [], 1, []⟩ : Lf), Pn.zero⟩ : Nd) := of_decide_eq_true (by kernel_rfl)
  refine lg_callw (want_t (dj := 28) (by rfl) (by kernel_rfl) rfl) (sameN_any (m5.more (B' := w11.heap.size) (by omega)) (show IsNd w11 w11.heap.size (⟨(⟨(⟨some ⟨b1, 0, none⟩, 1, 1⟩ : SlV), nilS, nilS⟩ : LfV), PnV.zero⟩ : NdV) (⟨1, (⟨([7] : List Int), [], 1, []⟩ : Lf), Pn.zero⟩ : Nd) from ⟨(show IsLf w11 w11.heap.size (⟨(⟨some ⟨b1, 0, none⟩, 1, 1⟩ : SlV), nilS, nilS⟩ : LfV) (⟨([7] : List Int), [], 1, []⟩ : Lf) from ⟨(m1.more (B' := w11.heap.size) (by omega)), ((Sl.nil _ 0).more (B' := w11.heap.size) (by omega)), ((Sl.nil _ 0).more (B' := w11.heap.size) (by omega))⟩), ((IsPn.zero _ 0).more (B' := w11.heap.size) (by omega))⟩) (Nat.le_refl _)) (by kernel_rfl) rfl rfl rfl (by decide) ?_
  rintro u16 w16 ⟨e16, hw16⟩
  have zw16 := hw16.size
  obtain rfl : u16 = .bool true := e16.trans (congrArg Value.bool (decide_eq_true f15))
  refine lsw (want_none (by rfl)) (y_pick true rfl rfl rfl) rfl (by decide) ?_
  refine lsw (want_none (by rfl)) (y_move rfl rfl) rfl (by decide) ?_
  have r2 := RowAt.below hw16 r2.lt r2
  refine lsw (want_t (dj := 33) (by rfl) (by kernel_rfl) rfl) (y_loadA r2 (by kernel_rfl) (by kernel_rfl) rfl rfl) rfl (by decide) ?_
  have m1 := m1.below (hw16.mono (by omega))
  refine lg_callw (want_t (dj := 33) (by rfl) (by kernel_rfl) rfl) (checkN_any (show IsNd w16 w16.heap.size (⟨(⟨(⟨some ⟨b1, 0, none⟩, 1, 1⟩ : SlV), nilS, nilS⟩ : LfV), PnV.zero⟩ : NdV) (⟨1, (⟨([7] : List Int), [], 1, []⟩ : Lf), Pn.zero⟩ : Nd) from ⟨(show IsLf w16 w16.heap.size (⟨(⟨some ⟨b1, 0, none⟩, 1, 1⟩ : SlV), nilS, nilS⟩ : LfV) (⟨([7] : List Int), [], 1, []⟩ : Lf) from ⟨(m1.more (B' := w16.heap.size) (by omega)), ((Sl.nil _ 0).more (B' := w16.heap.size) (by omega)), ((Sl.nil _ 0).more (B' := w16.heap.size) (by omega))⟩), ((IsPn.zero _ 0).more (B' := w16.heap.size) (by omega))⟩) (Nat.le_refl _)) (by kernel_rfl) rfl rfl rfl (by decide) ?_
  rintro _ w17 ⟨rfl, hw17⟩
  have zw17 := hw17.size
  have f18 : (ndCheck (⟨1, (⟨([7] : List Int), [], 1, []⟩ : Lf), Pn.zero⟩ : Nd)) = 0 := of_decide_eq_true (by kernel_rfl)
  refine lsw (want_t (dj := 33) (by rfl) (by kernel_rfl) rfl) (yb (decide_eq_true f18) (yi_eql rfl rfl rfl)) rfl (by decide) ?_
  refine lsw (want_none (by rfl)) (y_pick true rfl rfl rfl) rfl (by decide) ?_
  refine lsw (want_none (by rfl)) (y_move rfl rfl) rfl (by decide) ?_
  have r2 := RowAt.below hw17 r2.lt r2
  refine lsw (want_t (dj := 38) (by rfl) (by kernel_rfl) rfl) (y_loadA r2 (by kernel_rfl) (by kernel_rfl) rfl rfl) rfl (by decide) ?_
  have m1 := m1.below (hw17.mono (by omega))
  refine lg_callw (want_t (dj := 38) (by rfl) (by kernel_rfl) rfl) (ofLeafN_any 3 (show IsNd w17 w17.heap.size (⟨(⟨(⟨some ⟨b1, 0, none⟩, 1, 1⟩ : SlV), nilS, nilS⟩ : LfV), PnV.zero⟩ : NdV) (⟨1, (⟨([7] : List Int), [], 1, []⟩ : Lf), Pn.zero⟩ : Nd) from ⟨(show IsLf w17 w17.heap.size (⟨(⟨some ⟨b1, 0, none⟩, 1, 1⟩ : SlV), nilS, nilS⟩ : LfV) (⟨([7] : List Int), [], 1, []⟩ : Lf) from ⟨(m1.more (B' := w17.heap.size) (by omega)), ((Sl.nil _ 0).more (B' := w17.heap.size) (by omega)), ((Sl.nil _ 0).more (B' := w17.heap.size) (by omega))⟩), ((IsPn.zero _ 0).more (B' := w17.heap.size) (by omega))⟩) (Nat.le_refl _)) (by kernel_rfl) rfl rfl rfl (by decide) ?_
  rintro _ w19 ⟨r19, rfl, m19, hw19⟩
  have zw19 := hw19.size
  have lp19 := ofLeafO_le 3 (⟨1, (⟨([7] : List Int), [], 1, []⟩ : Lf), Pn.zero⟩ : Nd)
  refine lsw (want_t (dj := 38) (by rfl) (by kernel_rfl) rfl) (y_lenS (el := 5) m19 (by kernel_rfl) rfl rfl) rfl (by decide) ?_
  have f20 : ((ofLeafO 3 (⟨1, (⟨([7] : List Int), [], 1, []⟩ : Lf), Pn.zero⟩ : Nd)).length : Int) = 10 := of_decide_eq_true (by kernel_rfl)
  refine lsw (want_t (dj := 38) (by rfl) (by kernel_rfl) rfl) (yb (decide_eq_true f20) (yi_eql rfl rfl rfl)) rfl (by decide) ?_
  refine lsw (want_none (by rfl)) (y_pick true rfl rfl rfl) rfl (by decide) ?_
  refine lsw (want_none (by rfl)) (y_move rfl rfl) rfl (by decide) ?_
  have r2 := RowAt.below hw19 r2.lt r2
  refine lsw (want_t (dj := 44) (by rfl) (by kernel_rfl) rfl) (y_loadA r2 (by kernel_rfl) (by kernel_rfl) rfl rfl) rfl (by decide) ?_
  have m1 := m1.below (hw19.mono (by omega))
  refine lg_callw (want_t (dj := 44) (by rfl) (by kernel_rfl) rfl) (ofInnerN_any (show IsNd w19 w19.heap.size (⟨(⟨(⟨some ⟨b1, 0, none⟩, 1, 1⟩ : SlV), nilS, nilS⟩ : LfV), PnV.zero⟩ : NdV) (⟨1, (⟨([7] : List Int), [], 1, []⟩ : Lf), Pn.zero⟩ : Nd) from ⟨(show IsLf w19 w19.heap.size (⟨(⟨some ⟨b1, 0, none⟩, 1, 1⟩ : SlV), nilS, nilS⟩ : LfV) (⟨([7] : List Int), [], 1, []⟩ : Lf) from ⟨(m1.more (B' := w19.heap.size) (by omega)), ((Sl.nil _ 0).more (B' := w19.heap.size) (by omega)), ((Sl.nil _ 0).more (B' := w19.heap.size) (by omega))⟩), ((IsPn.zero _ 0).more (B' := w19.heap.size) (by omega))⟩) ((Sl.nil _ 0).more (B' := w19.heap.size) (by omega)) ((Sl.nil _ 0).more (B' := w19.heap.size) (by omega)) (Nat.le_refl _) (by first | omega | (simp only [List.length_nil]; omega)) (by first | omega | (simp only [List.length_nil]; omega))) (by kernel_rfl) rfl rfl rfl (by decide) ?_
  rintro _ w21 ⟨r21, rfl, m21, hw21⟩
  have zw21 := hw21.size
  have lp21 := ofInnerO_le (⟨1, (⟨([7] : List Int), [], 1, []⟩ : Lf), Pn.zero⟩ : Nd) [] []
  refine lsw (want_t (dj := 44) (by rfl) (by kernel_rfl) rfl) (y_lenS (el := 5) m21 (by kernel_rfl) rfl rfl) rfl (by decide) ?_
  have f22 : ((ofInnerO (⟨1, (⟨([7] : List Int), [], 1, []⟩ : Lf), Pn.zero⟩ : Nd) [] []).length : Int) = 4 := of_decide_eq_true (by kernel_rfl)
  refine lsw (want_t (dj := 44) (by rfl) (by kernel_rfl) rfl) (yb (decide_eq_true f22) (yi_eql rfl rfl rfl)) rfl (by decide) ?_
  refine lsw (want_none (by rfl)) (y_pick true rfl rfl rfl) rfl (by decide) ?_
  refine lsw (want_none (by rfl)) (y_move rfl rfl) rfl (by decide) ?_
  refine lsw (want_t (dj := 50) (by rfl) (by kernel_rfl) rfl) (y_build (cs := PnV.zero.cs Pn.zero) rfl rfl (by kernel_rfl)) rfl (by decide) ?_
  refine lg_callw (want_t (dj := 50) (by rfl) (by kernel_rfl) rfl) (ofParentN_any ((IsPn.zero _ 0).more (B' := w21.heap.size) (by omega)) ((Sl.nil _ 0).more (B' := w21.heap.size) (by omega)) (Nat.le_refl _) (by first | omega | (simp only [List.length_nil]; omega)) (by first | omega | (simp only [List.length_nil]; omega)) (by first | omega | (simp only [List.length_nil]; omega))) (by kernel_rfl) rfl rfl rfl (by decide) ?_
  rintro _ w23 ⟨r23, rfl, m23, hw23⟩
  have zw23 := hw23.size
  have lp23 := ofParentO_le Pn.zero []
  refine lsw (want_t (dj := 50) (by rfl) (by kernel_rfl) rfl) (y_lenS (el := 5) m23 (by kernel_rfl) rfl rfl) rfl (by decide) ?_
  have f24 : ((ofParentO Pn.zero []).length : Int) = 3 := of_decide_eq_true (by kernel_rfl)
  refine lsw (want_t (dj := 50) (by rfl) (by kernel_rfl) rfl) (yb (decide_eq_true f24) (yi_eql rfl rfl rfl)) rfl (by decide) ?_
  refine lsw (want_none (by rfl)) (y_pick true rfl rfl rfl) rfl (by decide) ?_
  refine lsw (want_none (by rfl)) (y_assign rfl rfl) rfl (by decide) ?_
  refine lg_nil ?_
  refine nx (E' := [(0, _)]) (fk rfl fn) ?_
  refine cg_ret ?_
  have u := u.trans (n1.below.mono u.size)
  have u := u.trans (n2.below.mono u.size)
  have u := u.trans (s3.below _ (by omega))
  have u := u.trans (n4.below.mono u.size)
  have u := u.trans (hw5.mono u.size)
  have u := u.trans (n6.below.mono u.size)
  have u := u.trans (s7.below _ (by omega))
  have u := u.trans (hw8.mono u.size)
  have u := u.trans (hw11.mono u.size)
  have u := u.trans (hw16.mono u.size)
  have u := u.trans (hw17.mono u.size)
  have u := u.trans (hw19.mono u.size)
  have u := u.trans (hw21.mono u.size)
  have u := u.trans (hw23.mono u.size)
  exact eg_ret_tmp rfl rfl ⟨_, rfl, rfl, u⟩
end Go.Proofs.Ytpmakacjhoemeaa
