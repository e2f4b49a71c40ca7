/-
  The chapter's example.
-/
import Derived.Test.YtomjcbjekofkoaaPnMath
import Derived.Test.YtomjcbjekofkoaaPnRef
import Derived.Test.YtomjcbjekofkoaaPnRefJ
namespace Go.Proofs.Ytomjcbjekofkoaa
open Go.ChangeShapes Go.WideShapes Go.ChangeAt Go.RowKit
set_option linter.unusedVariables false

theorem getP_anyE {W : World} {B : Nat} {s : SlV} {xs rs : List Int} {L : Pn} {er : Int} (h : Sl W B s xs) (hB : B ≤ W.heap.size) (e : pnGet xs = (er, L, rs)) : Calls Try.prog 11 #[s.v] W fun e W' => ∃ v, e = .returned v ∧ ∃ (l : PnV) (r : SlV), v = .tuple #[.agg (l.cs L), r.v, nv er] ∧ IsPn W' W'.heap.size l L ∧ Sl W' B r rs ∧ Below W.heap.size W W' := by
  have := getP_any h hB
  rw [e] at this
  exact this
set_option maxHeartbeats 4000000 in
theorem awakeP_any (W : World) : Calls Try.prog 9 #[] W fun e W' => ∃ v, e = .returned v ∧ v = .bool true ∧ Below W.heap.size W W' := by
  refine calls_cg (n := 45) Try.func9 rfl Try.ntmps9 (by simp) ?_
  show CG _ _ _ [] _ _
  have u := Below.refl W.heap.size W
  refine cg_seq ?_
  refine cg_region ?_
  refine lsw (want_none (by rfl)) (y_assign rfl rfl) rfl (by decide) ?_
  refine lg_nil ?_
  refine nx (E' := [(0, _)]) (fk rfl fn) ?_
  refine cg_seq ?_
  refine cg_region ?_
  refine lg_bslice (z := .int .u8 0) (cs := #[.int .u8 7]) huo24 (by kernel_rfl) (by decide) (by decide) rfl rfl (by kernel_rfl) rfl rfl (by decide) fun b1 w1 n1 => ?_
  have r1 := n1.row
  have k1 := n1.blk
  have z1 := n1.size
  have m1 : Sl w1 (b1 + 1) ⟨some ⟨b1, 0, none⟩, 1, 1⟩ [7] := ⟨Nat.le_refl _, of_decide_eq_true (by kernel_rfl), oct_lit r1 rfl (by decide)⟩
  refine lg_bsliceW (el := 3) (z := nv 0) (cs := #[nv 3]) (want_none (by rfl)) huIs (by kernel_rfl) (by decide) (by decide) rfl rfl (by kernel_rfl) rfl (by decide) fun b2 w2 n2 => ?_
  have r2 := n2.row
  have k2 := n2.blk
  have z2 := n2.size
  have m2 : SlN w2 (b2 + 1) ⟨some ⟨b2, 0, none⟩, 1, 1⟩ [3] := new_SlN (xs := [3]) r2 rfl (of_decide_eq_true (by kernel_rfl))
  have og2 : w2.ownsRow b2 3 1 (.slice (some ⟨b2, 0, none⟩) 1 1) ([3] : List Int).length (([3] : List Int).map (Value.int .i64)) := new_ownN (xs := [3]) n2 rfl (of_decide_eq_true (by kernel_rfl))
  refine lsw (want_none (by rfl)) (y_build (cs := (⟨(⟨some ⟨b1, 0, none⟩, 1, 1⟩ : SlV), PnV.zero.hash, (⟨some ⟨b2, 0, none⟩, 1, 1⟩ : SlV)⟩ : PnV).cs (⟨([7] : List Int), Pn.zero.hash, ([3] : List Int)⟩ : Pn)) rfl rfl (by kernel_rfl)) rfl (by decide) ?_
  refine lg_allocw (cs := PnV.zero.cs Pn.zero) (want_none (by rfl)) rfl (by kernel_rfl) rfl (by decide) fun b3 w3 n3 => ?_
  have r3 := n3.row
  have k3 := n3.blk
  have z3 := n3.size
  have lt3 : b3 < w3.heap.size := by omega
  have o4 := r3
  refine lg_stw (want_none (by rfl)) r3 rfl rfl rfl (by kernel_rfl) (by kernel_rfl) rfl rfl fun w4 s4 => ?_
  have r3 := s4.row
  have z4 := s4.size
  refine lg_nil ?_
  refine nx (E' := [(0, _), (1, _)]) (fk rfl (fk rfl fn)) ?_
  refine cg_seq ?_
  refine cg_region ?_
  refine lg_bslice (z := .int .u8 0) (cs := #[.int .u8 1, .int .u8 7, .int .u8 0, .int .u8 4, .int .u8 0, .int .u8 0, .int .u8 0, .int .u8 3]) huo24 (by kernel_rfl) (by decide) (by decide) rfl rfl (by kernel_rfl) rfl rfl (by decide) fun b5 w5 n5 => ?_
  have r5 := n5.row
  have k5 := n5.blk
  have z5 := n5.size
  have m5 : Sl w5 (b5 + 1) ⟨some ⟨b5, 0, none⟩, 8, 8⟩ [1, 7, 0, 4, 0, 0, 0, 3] := ⟨Nat.le_refl _, of_decide_eq_true (by kernel_rfl), oct_lit r5 rfl (by decide)⟩
  refine lg_callw (want_none (by rfl)) (getP_any m5 (by omega)) (by kernel_rfl) rfl rfl rfl (by decide) ?_
  rintro _ w6 ⟨l6, r6, rfl, m6, n6, hw6⟩
  have zw6 := hw6.size
  refine lsw (want_none (by rfl)) (y_move rfl rfl) rfl (by decide) ?_
  refine lsw (want_none (by rfl)) (y_extract rfl rfl rfl) rfl (by decide) ?_
  refine lsw (want_none (by rfl)) (y_extract rfl rfl rfl) rfl (by decide) ?_
  refine lsw (want_none (by rfl)) (y_extract rfl rfl rfl) rfl (by decide) ?_
  refine lg_allocw (cs := PnV.zero.cs Pn.zero) (want_none (by rfl)) rfl (by kernel_rfl) rfl (by decide) fun b7 w7 n7 => ?_
  have r7 := n7.row
  have k7 := n7.blk
  have z7 := n7.size
  have lt7 : b7 < w7.heap.size := by omega
  have o8 := r7
  refine lg_stw (want_none (by rfl)) r7 rfl rfl rfl (by kernel_rfl) (by kernel_rfl) rfl rfl fun w8 s8 => ?_
  have r7 := s8.row
  have z8 := s8.size
  refine lsw (want_none (by rfl)) (y_assign rfl rfl) rfl (by decide) ?_
  refine lsw (want_none (by rfl)) (y_assign rfl rfl) rfl (by decide) ?_
  refine lg_nil ?_
  refine nx (E' := [(0, _), (1, _), (2, _), (4, _)]) (fk rfl (fk rfl (fk rfl (fk rfl fn)))) ?_
  refine cg_seq ?_
  refine cg_region ?_
  have r3 := n5.keep r3
  have r3 := RowAt.below hw6 r3.lt r3
  have r3 := n7.keep r3
  have r3 := s8.keep r3 (by omega)
  refine lsw (want_none (by rfl)) (y_loadA r3 (by kernel_rfl) (by kernel_rfl) rfl rfl) rfl (by decide) ?_
  have m1 := m1.below (n2.below.mono (by omega))
  have m1 := m1.below (n3.below.mono (by omega))
  have m1 := m1.set o4 rfl s4
  have m1 := m1.below (n5.below.mono (by omega))
  have m1 := m1.below (hw6.mono (by omega))
  have m1 := m1.below (n7.below.mono (by omega))
  have m1 := m1.set o8 rfl s8
  have m2 := m2.below (n3.below.mono (by omega))
  have m2 := m2.set o4 rfl s4
  have m2 := m2.below (n5.below.mono (by omega))
  have m2 := m2.below (hw6.mono (by omega))
  have m2 := m2.below (n7.below.mono (by omega))
  have m2 := m2.set o8 rfl s8
  refine lg_callw (want_none (by rfl)) (putP_any ((Sl.nil _ 0).more (B' := w8.heap.size) (by omega)) (show IsPn w8 w8.heap.size (⟨(⟨some ⟨b1, 0, none⟩, 1, 1⟩ : SlV), PnV.zero.hash, (⟨some ⟨b2, 0, none⟩, 1, 1⟩ : SlV)⟩ : PnV) (⟨([7] : List Int), Pn.zero.hash, ([3] : List Int)⟩ : Pn) from ⟨m1.more (by omega), ((IsPn.zero _ 0).hash).more (by omega), m2.more (by omega)⟩) (Nat.le_refl _) (by first | omega | (simp only [List.length_nil]; omega))) (by kernel_rfl) rfl rfl rfl (by decide) ?_
  rintro _ w9 ⟨r9, rfl, m9, hw9⟩
  have zw9 := hw9.size
  rw [List.nil_append] at m9
  have lp9 := pnPut_le (⟨([7] : List Int), Pn.zero.hash, ([3] : List Int)⟩ : Pn)
  have by10 : Bytes (pnPut (⟨([7] : List Int), Pn.zero.hash, ([3] : List Int)⟩ : Pn)) := m9.bytes
  refine lsw (want_none (by rfl)) (y_strS m9 rfl rfl) rfl (by decide) ?_
  have f11 : (pnPut (⟨([7] : List Int), Pn.zero.hash, ([3] : List Int)⟩ : Pn)) = ([1, 7, 0, 4, 0, 0, 0, 3] : List Int) := of_decide_eq_true (by kernel_rfl)
  refine lsw (want_none (by rfl)) (yb (decide_eq_true f11) (y_seqS (xs := (pnPut (⟨([7] : List Int), Pn.zero.hash, ([3] : List Int)⟩ : Pn))) (ys := ([1, 7, 0, 4, 0, 0, 0, 3] : List Int)) by10 (by decide) rfl rfl (by kernel_rfl))) rfl (by decide) ?_
  refine lsw (want_none (by rfl)) (y_move rfl rfl) rfl (by decide) ?_
  refine lsw (want_t (dj := 18) (by rfl) (by kernel_rfl) rfl) (y_move rfl rfl) rfl (by decide) ?_
  have f12 : (pnGet ([1, 7, 0, 4, 0, 0, 0, 3] : List Int)).1 = 0 := of_decide_eq_true (by kernel_rfl)
  refine lsw (want_t (dj := 18) (by rfl) (by kernel_rfl) rfl) (yb (decide_eq_true f12) (yi_eql rfl rfl rfl)) rfl (by decide) ?_
  refine lsw (want_none (by rfl)) (y_pick true rfl rfl rfl) rfl (by decide) ?_
  refine lsw (want_none (by rfl)) (y_move rfl rfl) rfl (by decide) ?_
  have r7 := RowAt.below hw9 r7.lt r7
  refine lsw (want_t (dj := 22) (by rfl) (by kernel_rfl) rfl) (y_loadA r7 (by kernel_rfl) (by kernel_rfl) rfl rfl) rfl (by decide) ?_
  have r3 := RowAt.below hw9 r3.lt r3
  refine lsw (want_t (dj := 22) (by rfl) (by kernel_rfl) rfl) (y_loadA r3 (by kernel_rfl) (by kernel_rfl) rfl rfl) rfl (by decide) ?_
  have m6 := m6.below (n7.below.mono (by omega))
  have m6 := m6.set o8 rfl s8
  have m6 := m6.below (hw9.mono (by omega))
  have m1 := m1.below (hw9.mono (by omega))
  have m2 := m2.below (hw9.mono (by omega))
  have f13 : PnSame (pnGet ([1, 7, 0, 4, 0, 0, 0, 3] : List Int)).2.1 (⟨([7] : List Int), Pn.zero.hash, ([3] : List Int)⟩ : Pn) := of_decide_eq_true (by kernel_rfl)
  refine lg_callw (want_t (dj := 22) (by rfl) (by kernel_rfl) rfl) (same_any (m6.more (B' := w9.heap.size) (by omega)) (show IsPn w9 w9.heap.size (⟨(⟨some ⟨b1, 0, none⟩, 1, 1⟩ : SlV), PnV.zero.hash, (⟨some ⟨b2, 0, none⟩, 1, 1⟩ : SlV)⟩ : PnV) (⟨([7] : List Int), Pn.zero.hash, ([3] : List Int)⟩ : Pn) from ⟨m1.more (by omega), ((IsPn.zero _ 0).hash).more (by omega), m2.more (by omega)⟩) (Nat.le_refl _)) (by kernel_rfl) rfl rfl rfl (by decide) ?_
  rintro u14 w14 ⟨e14, hw14⟩
  have zw14 := hw14.size
  obtain rfl : u14 = .bool true := e14.trans (congrArg Value.bool (decide_eq_true f13))
  refine lsw (want_none (by rfl)) (y_pick true rfl rfl rfl) rfl (by decide) ?_
  refine lsw (want_none (by rfl)) (y_move rfl rfl) rfl (by decide) ?_
  have r3 := RowAt.below hw14 r3.lt r3
  refine lsw (want_t (dj := 27) (by rfl) (by kernel_rfl) rfl) (y_loadA r3 (by kernel_rfl) (by kernel_rfl) rfl rfl) rfl (by decide) ?_
  have m1 := m1.below (hw14.mono (by omega))
  have m2 := m2.below (hw14.mono (by omega))
  refine lg_callw (want_t (dj := 27) (by rfl) (by kernel_rfl) rfl) (check_any (show IsPn w14 w14.heap.size (⟨(⟨some ⟨b1, 0, none⟩, 1, 1⟩ : SlV), PnV.zero.hash, (⟨some ⟨b2, 0, none⟩, 1, 1⟩ : SlV)⟩ : PnV) (⟨([7] : List Int), Pn.zero.hash, ([3] : List Int)⟩ : Pn) from ⟨m1.more (by omega), ((IsPn.zero _ 0).hash).more (by omega), m2.more (by omega)⟩) (Nat.le_refl _)) (by kernel_rfl) rfl rfl rfl (by decide) ?_
  rintro _ w15 ⟨rfl, hw15⟩
  have zw15 := hw15.size
  have f16 : (pnCheck (⟨([7] : List Int), Pn.zero.hash, ([3] : List Int)⟩ : Pn)) = 0 := of_decide_eq_true (by kernel_rfl)
  refine lsw (want_t (dj := 27) (by rfl) (by kernel_rfl) rfl) (yb (decide_eq_true f16) (yi_eql rfl rfl rfl)) rfl (by decide) ?_
  refine lsw (want_none (by rfl)) (y_pick true rfl rfl rfl) rfl (by decide) ?_
  refine lsw (want_none (by rfl)) (y_move rfl rfl) rfl (by decide) ?_
  refine lg_bsliceW (el := 3) (z := nv 0) (cs := #[nv 1, nv 5]) (want_t (dj := 32) (by rfl) (by kernel_rfl) rfl) huIs (by kernel_rfl) (by decide) (by decide) rfl rfl (by kernel_rfl) rfl (by decide) fun b17 w17 n17 => ?_
  have r17 := n17.row
  have k17 := n17.blk
  have z17 := n17.size
  have m17 : SlN w17 (b17 + 1) ⟨some ⟨b17, 0, none⟩, 2, 2⟩ [1, 5] := new_SlN (xs := [1, 5]) r17 rfl (of_decide_eq_true (by kernel_rfl))
  have og17 : w17.ownsRow b17 3 1 (.slice (some ⟨b17, 0, none⟩) 2 2) ([1, 5] : List Int).length (([1, 5] : List Int).map (Value.int .i64)) := new_ownN (xs := [1, 5]) n17 rfl (of_decide_eq_true (by kernel_rfl))
  refine lg_callw (want_t (dj := 32) (by rfl) (by kernel_rfl) rfl) (joinP_any 3 m17 (by omega) (by first | omega | (simp only [List.length_cons, List.length_nil]; omega))) (by kernel_rfl) rfl rfl rfl (by decide) ?_
  rintro _ w18 ⟨r18, rfl, m18, hw18⟩
  have zw18 := hw18.size
  have jl18 := joinK_length ([1, 5] : List Int) 3
  refine lg_bsliceW (el := 3) (z := nv 0) (cs := #[nv 1, nv 3, nv 5]) (want_t (dj := 32) (by rfl) (by kernel_rfl) rfl) huIs (by kernel_rfl) (by decide) (by decide) rfl rfl (by kernel_rfl) rfl (by decide) fun b19 w19 n19 => ?_
  have r19 := n19.row
  have k19 := n19.blk
  have z19 := n19.size
  have m19 : SlN w19 (b19 + 1) ⟨some ⟨b19, 0, none⟩, 3, 3⟩ [1, 3, 5] := new_SlN (xs := [1, 3, 5]) r19 rfl (of_decide_eq_true (by kernel_rfl))
  have og19 : w19.ownsRow b19 3 1 (.slice (some ⟨b19, 0, none⟩) 3 3) ([1, 3, 5] : List Int).length (([1, 3, 5] : List Int).map (Value.int .i64)) := new_ownN (xs := [1, 3, 5]) n19 rfl (of_decide_eq_true (by kernel_rfl))
  have m18 := m18.below (n19.below.mono (by omega))
  have f20 : (joinK ([1, 5] : List Int) 3) = ([1, 3, 5] : List Int) := of_decide_eq_true (by kernel_rfl)
  refine lg_callw (want_t (dj := 32) (by rfl) (by kernel_rfl) rfl) (ints_S m18 m19 (by omega) (by omega)) (by kernel_rfl) rfl rfl rfl (by decide) ?_
  rintro u21 w21 ⟨e21, hw21⟩
  have zw21 := hw21.size
  obtain rfl : u21 = .bool true := e21.trans (congrArg Value.bool (decide_eq_true f20))
  refine lsw (want_none (by rfl)) (y_pick true rfl rfl rfl) rfl (by decide) ?_
  refine lsw (want_none (by rfl)) (y_move rfl rfl) rfl (by decide) ?_
  refine lg_bsliceW (el := 3) (z := nv 0) (cs := #[nv 1, nv 3, nv 5]) (want_t (dj := 38) (by rfl) (by kernel_rfl) rfl) huIs (by kernel_rfl) (by decide) (by decide) rfl rfl (by kernel_rfl) rfl (by decide) fun b22 w22 n22 => ?_
  have r22 := n22.row
  have k22 := n22.blk
  have z22 := n22.size
  have m22 : SlN w22 (b22 + 1) ⟨some ⟨b22, 0, none⟩, 3, 3⟩ [1, 3, 5] := new_SlN (xs := [1, 3, 5]) r22 rfl (of_decide_eq_true (by kernel_rfl))
  have og22 : w22.ownsRow b22 3 1 (.slice (some ⟨b22, 0, none⟩) 3 3) ([1, 3, 5] : List Int).length (([1, 3, 5] : List Int).map (Value.int .i64)) := new_ownN (xs := [1, 3, 5]) n22 rfl (of_decide_eq_true (by kernel_rfl))
  refine lg_bsliceW (el := 3) (z := nv 0) (cs := #[nv 3]) (want_t (dj := 38) (by rfl) (by kernel_rfl) rfl) huIs (by kernel_rfl) (by decide) (by decide) rfl rfl (by kernel_rfl) rfl (by decide) fun b23 w23 n23 => ?_
  have r23 := n23.row
  have k23 := n23.blk
  have z23 := n23.size
  have m23 : SlN w23 (b23 + 1) ⟨some ⟨b23, 0, none⟩, 1, 1⟩ [3] := new_SlN (xs := [3]) r23 rfl (of_decide_eq_true (by kernel_rfl))
  have og23 : w23.ownsRow b23 3 1 (.slice (some ⟨b23, 0, none⟩) 1 1) ([3] : List Int).length (([3] : List Int).map (Value.int .i64)) := new_ownN (xs := [3]) n23 rfl (of_decide_eq_true (by kernel_rfl))
  have m22 := m22.below (n23.below.mono (by omega))
  refine lg_callw (want_t (dj := 38) (by rfl) (by kernel_rfl) rfl) (cutP_any m22 m23 (by omega) (by omega) (by first | omega | (simp only [List.length_cons, List.length_nil]; omega)) (by first | omega | (simp only [List.length_cons, List.length_nil]; omega))) (by kernel_rfl) rfl rfl rfl (by decide) ?_
  rintro _ w24 ⟨r24, rfl, m24, hw24⟩
  have zw24 := hw24.size
  have cl24 := cutK_length ([1, 3, 5] : List Int) ([3] : List Int)
  refine lg_bsliceW (el := 3) (z := nv 0) (cs := #[nv 1, nv 5]) (want_t (dj := 38) (by rfl) (by kernel_rfl) rfl) huIs (by kernel_rfl) (by decide) (by decide) rfl rfl (by kernel_rfl) rfl (by decide) fun b25 w25 n25 => ?_
  have r25 := n25.row
  have k25 := n25.blk
  have z25 := n25.size
  have m25 : SlN w25 (b25 + 1) ⟨some ⟨b25, 0, none⟩, 2, 2⟩ [1, 5] := new_SlN (xs := [1, 5]) r25 rfl (of_decide_eq_true (by kernel_rfl))
  have og25 : w25.ownsRow b25 3 1 (.slice (some ⟨b25, 0, none⟩) 2 2) ([1, 5] : List Int).length (([1, 5] : List Int).map (Value.int .i64)) := new_ownN (xs := [1, 5]) n25 rfl (of_decide_eq_true (by kernel_rfl))
  have m24 := m24.below (n25.below.mono (by omega))
  have f26 : (cutK ([1, 3, 5] : List Int) ([3] : List Int)) = ([1, 5] : List Int) := of_decide_eq_true (by kernel_rfl)
  refine lg_callw (want_t (dj := 38) (by rfl) (by kernel_rfl) rfl) (ints_S m24 m25 (by omega) (by omega)) (by kernel_rfl) rfl rfl rfl (by decide) ?_
  rintro u27 w27 ⟨e27, hw27⟩
  have zw27 := hw27.size
  obtain rfl : u27 = .bool true := e27.trans (congrArg Value.bool (decide_eq_true f26))
  refine lsw (want_none (by rfl)) (y_pick true rfl rfl rfl) rfl (by decide) ?_
  refine lsw (want_none (by rfl)) (y_assign rfl rfl) rfl (by decide) ?_
  refine lg_nil ?_
  refine nx (E' := [(0, _)]) (fk rfl fn) ?_
  refine cg_ret ?_
  have u := u.trans (n1.below.mono u.size)
  have u := u.trans (n2.below.mono u.size)
  have u := u.trans (n3.below.mono u.size)
  have u := u.trans (s4.below _ (by omega))
  have u := u.trans (n5.below.mono u.size)
  have u := u.trans (hw6.mono u.size)
  have u := u.trans (n7.below.mono u.size)
  have u := u.trans (s8.below _ (by omega))
  have u := u.trans (hw9.mono u.size)
  have u := u.trans (hw14.mono u.size)
  have u := u.trans (hw15.mono u.size)
  have u := u.trans (n17.below.mono u.size)
  have u := u.trans (hw18.mono u.size)
  have u := u.trans (n19.below.mono u.size)
  have u := u.trans (hw21.mono u.size)
  have u := u.trans (n22.below.mono u.size)
  have u := u.trans (n23.below.mono u.size)
  have u := u.trans (hw24.mono u.size)
  have u := u.trans (n25.below.mono u.size)
  have u := u.trans (hw27.mono u.size)
  exact eg_ret_tmp rfl rfl ⟨_, rfl, rfl, u⟩
end Go.Proofs.Ytomjcbjekofkoaa
