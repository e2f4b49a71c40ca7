/-
  The document's example, and a leaf in it.
-/
import Derived.Test.YtpoonjgkgaodmaaDoorTrRef
namespace Go.Proofs.YtpoonjgkgaodmaaDoor
open Go.ChangeShapes Go.WideShapes Go.ChangeAt Go.RowKit
set_option linter.unusedVariables false

theorem awakeT_any (W : World) : Calls Tryd.prog 6 #[] W fun e W' => ∃ v, e = .returned v ∧ v = .bool true ∧ Below W.heap.size W W' := by
  refine calls_cg (n := 77) Tryd.func6 rfl Tryd.ntmps6 (by simp) ?_
  show CG _ _ _ [] _ _
  have u := Below.refl W.heap.size W
  refine cg_seq ?_
  refine cg_region ?_
  refine lsw (want_none (by rfl)) (y_assign rfl rfl) rfl (by decide) ?_
  refine lg_nil ?_
  refine nx (E' := [(0, _)]) (fk rfl fn) ?_
  refine cg_seq ?_
  refine cg_region ?_
  refine lg_callw (want_none (by rfl)) (grow_any (RwNd.nil _ _) (Nat.le_refl _)) (by kernel_rfl) rfl rfl rfl (by decide) ?_
  rintro _ w1 ⟨s1, rfl, m1, hw1⟩
  have zw1 := hw1.size
  refine lsw (want_none (by rfl)) (y_move rfl rfl) rfl (by decide) ?_
  refine lsw (want_none (by rfl)) (y_extract rfl rfl rfl) rfl (by decide) ?_
  refine lsw (want_none (by rfl)) (y_extract rfl rfl rfl) rfl (by decide) ?_
  refine lsw (want_none (by rfl)) (y_assign rfl rfl) rfl (by decide) ?_
  refine lsw (want_none (by rfl)) (y_assign rfl rfl) rfl (by decide) ?_
  refine lg_nil ?_
  refine nx (E' := [(0, _), (1, _), (2, _)]) (fk rfl (fk rfl (fk rfl fn))) ?_
  refine cg_seq ?_
  refine cg_region ?_
  refine lsw (want_none (by rfl)) (y_move rfl rfl) rfl (by decide) ?_
  refine lg_callw (want_none (by rfl)) (grow_any (m1.more (B' := w1.heap.size) (by omega)) (Nat.le_refl _)) (by kernel_rfl) rfl rfl rfl (by decide) ?_
  rintro _ w2 ⟨s2, rfl, m2, hw2⟩
  have zw2 := hw2.size
  refine lsw (want_none (by rfl)) (y_move rfl rfl) rfl (by decide) ?_
  refine lsw (want_none (by rfl)) (y_extract rfl rfl rfl) rfl (by decide) ?_
  refine lsw (want_none (by rfl)) (y_extract rfl rfl rfl) rfl (by decide) ?_
  refine lsw (want_none (by rfl)) (y_assign rfl rfl) rfl (by decide) ?_
  refine lsw (want_none (by rfl)) (y_assign rfl rfl) rfl (by decide) ?_
  refine lg_nil ?_
  refine nx (E' := [(0, _), (1, _), (2, _), (3, _), (4, _)]) (fk rfl (fk rfl (fk rfl (fk rfl (fk rfl fn))))) ?_
  refine cg_seq ?_
  refine cg_region ?_
  refine lg_bslice (z := .int .u8 0) (cs := #[.int .u8 7]) huo24 (by kernel_rfl) (by decide) (by decide) rfl rfl (by kernel_rfl) rfl rfl (by decide) fun b3 w3 n3 => ?_
  have r3 := n3.row
  have k3 := n3.blk
  have z3 := n3.size
  have m3 : Sl w3 (b3 + 1) ⟨some ⟨b3, 0, none⟩, 1, 1⟩ [7] := ⟨Nat.le_refl _, of_decide_eq_true (by kernel_rfl), oct_lit r3 rfl (by decide)⟩
  refine lsw (want_none (by rfl)) (y_build (cs := (⟨(⟨some ⟨b3, 0, none⟩, 1, 1⟩ : SlV), nilS, nilS⟩ : LfV).cs (⟨([7] : List Int), [], 1, []⟩ : Lf)) rfl rfl (by kernel_rfl)) rfl (by decide) ?_
  refine lsw (want_none (by rfl)) (y_build (cs := (⟨(⟨(⟨some ⟨b3, 0, none⟩, 1, 1⟩ : SlV), nilS, nilS⟩ : LfV), PnV.zero⟩ : NdV).cs (⟨1, (⟨([7] : List Int), [], 1, []⟩ : Lf), Pn.zero⟩ : Nd)) rfl rfl (by kernel_rfl)) rfl (by decide) ?_
  refine lg_allocw (cs := NdV.zero.cs Nd.zero) (want_none (by rfl)) rfl (by kernel_rfl) rfl (by decide) fun b4 w4 n4 => ?_
  have r4 := n4.row
  have k4 := n4.blk
  have z4 := n4.size
  have lt4 : b4 < w4.heap.size := by omega
  have o5 := r4
  refine lg_stw (want_none (by rfl)) r4 rfl rfl rfl (by kernel_rfl) (by kernel_rfl) rfl rfl fun w5 s5 => ?_
  have r4 := s5.row
  have z5 := s5.size
  refine lg_nil ?_
  refine nx (E' := [(0, _), (1, _), (2, _), (3, _), (4, _), (5, _)]) (fk rfl (fk rfl (fk rfl (fk rfl (fk rfl (fk rfl fn)))))) ?_
  refine cg_seq ?_
  refine cg_region ?_
  refine lsw (want_none (by rfl)) (y_move rfl rfl) rfl (by decide) ?_
  refine lsw (want_none (by rfl)) (y_loadA r4 (by kernel_rfl) (by kernel_rfl) rfl rfl) rfl (by decide) ?_
  have m2 := m2.below (n3.below.mono (by omega))
  have m2 := m2.below (n4.below.mono (by omega))
  have m2 := m2.below (s5.below _ (by omega))
  have m3 := m3.below (n4.below.mono (by omega))
  have m3 := m3.set o5 rfl s5
  refine lg_callw (want_none (by rfl)) (set_any (m2.more (B' := w5.heap.size) (by omega)) 2 (show IsNd w5 w5.heap.size (⟨(⟨(⟨some ⟨b3, 0, none⟩, 1, 1⟩ : SlV), nilS, nilS⟩ : LfV), PnV.zero⟩ : NdV) (⟨1, (⟨([7] : List Int), [], 1, []⟩ : Lf), Pn.zero⟩ : Nd) from ⟨(show IsLf w5 w5.heap.size (⟨(⟨some ⟨b3, 0, none⟩, 1, 1⟩ : SlV), nilS, nilS⟩ : LfV) (⟨([7] : List Int), [], 1, []⟩ : Lf) from ⟨(m3.more (B' := w5.heap.size) (by omega)), ((Sl.nil _ 0).more (B' := w5.heap.size) (by omega)), ((Sl.nil _ 0).more (B' := w5.heap.size) (by omega))⟩), ((IsPn.zero _ 0).more (B' := w5.heap.size) (by omega))⟩) (Nat.le_refl _)) (by kernel_rfl) rfl rfl rfl (by decide) ?_
  rintro _ w6 ⟨s6, rfl, m6, hw6⟩
  have zw6 := hw6.size
  refine lsw (want_none (by rfl)) (y_move rfl rfl) rfl (by decide) ?_
  refine lsw (want_none (by rfl)) (y_extract rfl rfl rfl) rfl (by decide) ?_
  refine lsw (want_none (by rfl)) (y_extract rfl rfl rfl) rfl (by decide) ?_
  refine lsw (want_none (by rfl)) (y_assign rfl rfl) rfl (by decide) ?_
  refine lsw (want_none (by rfl)) (y_assign rfl rfl) rfl (by decide) ?_
  refine lg_nil ?_
  refine nx (E' := [(0, _), (1, _), (2, _), (3, _), (4, _), (6, _), (7, _)]) (fk rfl (fk rfl (fk rfl (fk rfl (fk rfl (fk rfl (fk rfl fn))))))) ?_
  refine cg_seq ?_
  refine cg_region ?_
  refine lsw (want_none (by rfl)) (y_move rfl rfl) rfl (by decide) ?_
  have f7 : (growE ([] : List Nd)) = 0 := of_decide_eq_true (by kernel_rfl)
  refine lsw (want_none (by rfl)) (yb (decide_eq_true f7) (yi_eql rfl rfl rfl)) rfl (by decide) ?_
  refine lsw (want_none (by rfl)) (y_move rfl rfl) rfl (by decide) ?_
  refine lsw (want_t (dj := 28) (by rfl) (by kernel_rfl) rfl) (y_move rfl rfl) rfl (by decide) ?_
  have f8 : (growE (growL ([] : List Nd))) = 0 := of_decide_eq_true (by kernel_rfl)
  refine lsw (want_t (dj := 28) (by rfl) (by kernel_rfl) rfl) (yb (decide_eq_true f8) (yi_eql rfl rfl rfl)) rfl (by decide) ?_
  refine lsw (want_none (by rfl)) (y_pick true rfl rfl rfl) rfl (by decide) ?_
  refine lsw (want_none (by rfl)) (y_move rfl rfl) rfl (by decide) ?_
  refine lsw (want_t (dj := 32) (by rfl) (by kernel_rfl) rfl) (y_move rfl rfl) rfl (by decide) ?_
  have m1 := m1.below (hw2.mono (by omega))
  have m1 := m1.below (n3.below.mono (by omega))
  have m1 := m1.below (n4.below.mono (by omega))
  have m1 := m1.below (s5.below _ (by omega))
  have m1 := m1.below (hw6.mono (by omega))
  refine lsw (want_t (dj := 32) (by rfl) (by kernel_rfl) rfl) (y_lenM (el := 30) m1.len (by kernel_rfl) rfl rfl) rfl (by decide) ?_
  have f9 : ((growL ([] : List Nd)).length : Int) = 1 := of_decide_eq_true (by kernel_rfl)
  refine lsw (want_t (dj := 32) (by rfl) (by kernel_rfl) rfl) (yb (decide_eq_true f9) (yi_eql rfl rfl rfl)) rfl (by decide) ?_
  refine lsw (want_none (by rfl)) (y_pick true rfl rfl rfl) rfl (by decide) ?_
  refine lsw (want_none (by rfl)) (y_move rfl rfl) rfl (by decide) ?_
  refine lsw (want_t (dj := 37) (by rfl) (by kernel_rfl) rfl) (y_move rfl rfl) rfl (by decide) ?_
  have m2 := m2.below (hw6.mono (by omega))
  refine lsw (want_t (dj := 37) (by rfl) (by kernel_rfl) rfl) (y_lenM (el := 30) m2.len (by kernel_rfl) rfl rfl) rfl (by decide) ?_
  have f10 : ((growL (growL ([] : List Nd))).length : Int) = 3 := of_decide_eq_true (by kernel_rfl)
  refine lsw (want_t (dj := 37) (by rfl) (by kernel_rfl) rfl) (yb (decide_eq_true f10) (yi_eql rfl rfl rfl)) rfl (by decide) ?_
  refine lsw (want_none (by rfl)) (y_pick true rfl rfl rfl) rfl (by decide) ?_
  refine lsw (want_none (by rfl)) (y_move rfl rfl) rfl (by decide) ?_
  refine lsw (want_t (dj := 42) (by rfl) (by kernel_rfl) rfl) (y_move rfl rfl) rfl (by decide) ?_
  refine lg_callw (want_t (dj := 42) (by rfl) (by kernel_rfl) rfl) (trim_any m2 (by omega)) (by kernel_rfl) rfl rfl rfl (by decide) ?_
  rintro _ w11 ⟨s11, rfl, m11, hw11⟩
  have zw11 := hw11.size
  refine lsw (want_t (dj := 42) (by rfl) (by kernel_rfl) rfl) (y_lenM (el := 30) m11.len (by kernel_rfl) rfl rfl) rfl (by decide) ?_
  have f12 : ((trimL (growL (growL ([] : List Nd)))).length : Int) = 0 := of_decide_eq_true (by kernel_rfl)
  refine lsw (want_t (dj := 42) (by rfl) (by kernel_rfl) rfl) (yb (decide_eq_true f12) (yi_eql rfl rfl rfl)) rfl (by decide) ?_
  refine lsw (want_none (by rfl)) (y_pick true rfl rfl rfl) rfl (by decide) ?_
  refine lsw (want_none (by rfl)) (y_move rfl rfl) rfl (by decide) ?_
  refine lsw (want_t (dj := 48) (by rfl) (by kernel_rfl) rfl) (y_move rfl rfl) rfl (by decide) ?_
  have f13 : (setE (growL (growL ([] : List Nd))) 2 (⟨1, (⟨([7] : List Int), [], 1, []⟩ : Lf), Pn.zero⟩ : Nd)) = 0 := of_decide_eq_true (by kernel_rfl)
  refine lsw (want_t (dj := 48) (by rfl) (by kernel_rfl) rfl) (yb (decide_eq_true f13) (yi_eql rfl rfl rfl)) rfl (by decide) ?_
  refine lsw (want_none (by rfl)) (y_pick true rfl rfl rfl) rfl (by decide) ?_
  refine lsw (want_none (by rfl)) (y_move rfl rfl) rfl (by decide) ?_
  refine lsw (want_t (dj := 52) (by rfl) (by kernel_rfl) rfl) (y_move rfl rfl) rfl (by decide) ?_
  have m6 := m6.below (hw11.mono (by omega))
  refine lg_callw (want_t (dj := 52) (by rfl) (by kernel_rfl) rfl) (trim_any m6 (by omega)) (by kernel_rfl) rfl rfl rfl (by decide) ?_
  rintro _ w14 ⟨s14, rfl, m14, hw14⟩
  have zw14 := hw14.size
  refine lsw (want_t (dj := 52) (by rfl) (by kernel_rfl) rfl) (y_lenM (el := 30) m14.len (by kernel_rfl) rfl rfl) rfl (by decide) ?_
  have f15 : ((trimL (setL (growL (growL ([] : List Nd))) 2 (⟨1, (⟨([7] : List Int), [], 1, []⟩ : Lf), Pn.zero⟩ : Nd))).length : Int) = 3 := of_decide_eq_true (by kernel_rfl)
  refine lsw (want_t (dj := 52) (by rfl) (by kernel_rfl) rfl) (yb (decide_eq_true f15) (yi_eql rfl rfl rfl)) rfl (by decide) ?_
  refine lsw (want_none (by rfl)) (y_pick true rfl rfl rfl) rfl (by decide) ?_
  refine lsw (want_none (by rfl)) (y_move rfl rfl) rfl (by decide) ?_
  refine lsw (want_t (dj := 58) (by rfl) (by kernel_rfl) rfl) (y_move rfl rfl) rfl (by decide) ?_
  have m6 := m6.below (hw14.mono (by omega))
  refine lg_callw (want_t (dj := 58) (by rfl) (by kernel_rfl) rfl) (free_any (m6.more (B' := w14.heap.size) (by omega)) (Nat.le_refl _)) (by kernel_rfl) rfl rfl rfl (by decide) ?_
  rintro _ w16 ⟨rfl, hw16⟩
  have zw16 := hw16.size
  have f17 : (freeA (trAs (setL (growL (growL ([] : List Nd))) 2 (⟨1, (⟨([7] : List Int), [], 1, []⟩ : Lf), Pn.zero⟩ : Nd)))) = 0 := of_decide_eq_true (by kernel_rfl)
  refine lsw (want_t (dj := 58) (by rfl) (by kernel_rfl) rfl) (yb (decide_eq_true f17) (yi_eql rfl rfl rfl)) rfl (by decide) ?_
  refine lsw (want_none (by rfl)) (y_pick true rfl rfl rfl) rfl (by decide) ?_
  refine lsw (want_none (by rfl)) (y_move rfl rfl) rfl (by decide) ?_
  refine lsw (want_t (dj := 63) (by rfl) (by kernel_rfl) rfl) (y_move rfl rfl) rfl (by decide) ?_
  have m6 := m6.below (hw16.mono (by omega))
  refine lg_callw (want_t (dj := 63) (by rfl) (by kernel_rfl) rfl) (last_any (m6.more (B' := w16.heap.size) (by omega)) (Nat.le_refl _)) (by kernel_rfl) rfl rfl rfl (by decide) ?_
  rintro _ w18 ⟨rfl, hw18⟩
  have zw18 := hw18.size
  have f19 : (lastA (trAs (setL (growL (growL ([] : List Nd))) 2 (⟨1, (⟨([7] : List Int), [], 1, []⟩ : Lf), Pn.zero⟩ : Nd)))) = 2 := of_decide_eq_true (by kernel_rfl)
  refine lsw (want_t (dj := 63) (by rfl) (by kernel_rfl) rfl) (yb (decide_eq_true f19) (yi_eql rfl rfl rfl)) rfl (by decide) ?_
  refine lsw (want_none (by rfl)) (y_pick true rfl rfl rfl) rfl (by decide) ?_
  refine lsw (want_none (by rfl)) (y_move rfl rfl) rfl (by decide) ?_
  refine lsw (want_t (dj := 68) (by rfl) (by kernel_rfl) rfl) (y_move rfl rfl) rfl (by decide) ?_
  have m6 := m6.below (hw18.mono (by omega))
  refine lg_callw (want_t (dj := 68) (by rfl) (by kernel_rfl) rfl) (leavesT_any (m6.more (B' := w18.heap.size) (by omega)) (Nat.le_refl _)) (by kernel_rfl) rfl rfl rfl (by decide) ?_
  rintro _ w20 ⟨rfl, hw20⟩
  have zw20 := hw20.size
  have f21 : ((leavesA (trAs (setL (growL (growL ([] : List Nd))) 2 (⟨1, (⟨([7] : List Int), [], 1, []⟩ : Lf), Pn.zero⟩ : Nd))) : Nat) : Int) = 2 := of_decide_eq_true (by kernel_rfl)
  refine lsw (want_t (dj := 68) (by rfl) (by kernel_rfl) rfl) (yb (decide_eq_true f21) (yi_eql rfl rfl rfl)) rfl (by decide) ?_
  refine lsw (want_none (by rfl)) (y_pick true rfl rfl rfl) rfl (by decide) ?_
  refine lsw (want_none (by rfl)) (y_move rfl rfl) rfl (by decide) ?_
  refine lsw (want_t (dj := 73) (by rfl) (by kernel_rfl) rfl) (y_move rfl rfl) rfl (by decide) ?_
  have m6 := m6.below (hw20.mono (by omega))
  have f22 : trIs (setL (growL (growL ([] : List Nd))) 2 (⟨1, (⟨([7] : List Int), [], 1, []⟩ : Lf), Pn.zero⟩ : Nd)) := of_decide_eq_true (by kernel_rfl)
  refine lg_callw (want_t (dj := 73) (by rfl) (by kernel_rfl) rfl) (sane_any (m6.more (B' := w20.heap.size) (by omega)) (Nat.le_refl _)) (by kernel_rfl) rfl rfl rfl (by decide) ?_
  rintro u23 w23 ⟨e23, hw23⟩
  have zw23 := hw23.size
  obtain rfl : u23 = .bool true := e23.trans (congrArg Value.bool (decide_eq_true f22))
  refine lsw (want_none (by rfl)) (y_pick true rfl rfl rfl) rfl (by decide) ?_
  refine lsw (want_none (by rfl)) (y_assign rfl rfl) rfl (by decide) ?_
  refine lg_nil ?_
  refine nx (E' := [(0, _)]) (fk rfl fn) ?_
  refine cg_ret ?_
  have u := u.trans (hw1.mono u.size)
  have u := u.trans (hw2.mono u.size)
  have u := u.trans (n3.below.mono u.size)
  have u := u.trans (n4.below.mono u.size)
  have u := u.trans (s5.below _ (by omega))
  have u := u.trans (hw6.mono u.size)
  have u := u.trans (hw11.mono u.size)
  have u := u.trans (hw14.mono u.size)
  have u := u.trans (hw16.mono u.size)
  have u := u.trans (hw18.mono u.size)
  have u := u.trans (hw20.mono u.size)
  have u := u.trans (hw23.mono u.size)
  exact eg_ret_tmp rfl rfl ⟨_, rfl, rfl, u⟩
end Go.Proofs.YtpoonjgkgaodmaaDoor
