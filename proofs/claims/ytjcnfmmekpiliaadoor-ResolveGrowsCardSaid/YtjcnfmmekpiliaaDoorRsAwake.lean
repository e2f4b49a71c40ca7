/-
  The document's example, and a node with unmerged leaves.
-/
import Derived.Test.YtjcnfmmekpiliaaDoorRsRef
import Derived.Test.YtjcnfmmekpiliaaDoorTrRef
import Derived.Test.YtjcnfmmekpiliaaDoorRsFil
namespace Go.Proofs.YtjcnfmmekpiliaaDoor
open Go.ChangeShapes Go.WideShapes Go.ChangeAt Go.RowKit
set_option linter.unusedVariables false

/-- A leaf with a key. -/
abbrev leafX (k : Int) : Nd := ⟨1, ⟨[k], [], 1, []⟩, Pn.zero⟩
theorem leaf1_any (W : World) : Calls Tryd.prog 29 #[nv 1] W fun e W' => ∃ v, e = .returned v ∧ ∃ l : NdV, v = .agg (l.cs (leafX 1)) ∧ IsNd W' W'.heap.size l (leafX 1) ∧ Below W.heap.size W W' := by
  refine calls_cg (n := 9) Tryd.func29 rfl Tryd.ntmps29 (by simp) ?_
  show CG _ _ _ [(0, nv 1)] _ _
  have u := Below.refl W.heap.size W
  refine cg_seq ?_
  refine cg_region ?_
  refine lg_allocw (cs := NdV.zero.cs Nd.zero) (want_none (by rfl)) rfl (by kernel_rfl) rfl (by decide) fun b1 w1 n1 => ?_
  have r1 := n1.row
  have k1 := n1.blk
  have z1 := n1.size
  have lt1 : b1 < w1.heap.size := by omega
  refine lg_nil ?_
  refine nx (zk2 0 2 rfl rfl fn) ?_
  refine cg_seq ?_
  refine cg_region ?_
  refine zM rfl rfl rfl rfl rfl ?_
  refine za rfl (yv (show nv ((maskK 1 127 : Nat) : Int) = nv 1 from by kernel_rfl) (y_maskW 127 (by decide) rfl rfl rfl)) rfl rfl ?_
  refine za rfl (yv (show ov (toB 1) = .int .u8 1 from by kernel_rfl) (y_to8 (by kernel_rfl) rfl rfl)) rfl rfl ?_
  refine lg_bslice (z := .int .u8 0) (cs := #[.int .u8 1]) huo24 (by kernel_rfl) (by decide) (by decide) rfl rfl (by kernel_rfl) rfl rfl (by decide) fun b2 w2 n2 => ?_
  have r2 := n2.row
  have k2 := n2.blk
  have z2 := n2.size
  have m2 : Sl w2 (b2 + 1) ⟨some ⟨b2, 0, none⟩, 1, 1⟩ [1] := ⟨Nat.le_refl _, of_decide_eq_true (by kernel_rfl), oct_lit r2 rfl (by decide)⟩
  refine za rfl (y_build (cs := (⟨(⟨some ⟨b2, 0, none⟩, 1, 1⟩ : SlV), nilS, nilS⟩ : LfV).cs (⟨([1] : List Int), [], 1, []⟩ : Lf)) rfl rfl (by kernel_rfl)) rfl rfl ?_
  refine za rfl (y_build (cs := (⟨(⟨(⟨some ⟨b2, 0, none⟩, 1, 1⟩ : SlV), nilS, nilS⟩ : LfV), PnV.zero⟩ : NdV).cs (⟨1, (⟨([1] : List Int), [], 1, []⟩ : Lf), Pn.zero⟩ : Nd)) rfl rfl (by kernel_rfl)) rfl rfl ?_
  have r1 := n2.keep r1
  have o3 := r1
  refine lg_stw (want_none (by rfl)) r1 rfl rfl rfl (by kernel_rfl) (by kernel_rfl) rfl rfl fun w3 s3 => ?_
  have r1 := s3.row
  have z3 := s3.size
  refine lg_nil ?_
  refine nx (zk1 2 rfl fn) ?_
  refine cg_ret ?_
  have m2 := m2.set o3 rfl s3
  have u := u.trans (n1.below.mono u.size)
  have u := u.trans (n2.below.mono u.size)
  have u := u.trans (s3.below _ (by omega))
  exact eg_ret_agg rfl rfl r1 (by kernel_rfl) (by kernel_rfl) ⟨_, rfl, (⟨(⟨(⟨some ⟨b2, 0, none⟩, 1, 1⟩ : SlV), nilS, nilS⟩ : LfV), PnV.zero⟩ : NdV), rfl, (show IsNd w3 w3.heap.size (⟨(⟨(⟨some ⟨b2, 0, none⟩, 1, 1⟩ : SlV), nilS, nilS⟩ : LfV), PnV.zero⟩ : NdV) (⟨1, (⟨([1] : List Int), [], 1, []⟩ : Lf), Pn.zero⟩ : Nd) from ⟨(show IsLf w3 w3.heap.size (⟨(⟨some ⟨b2, 0, none⟩, 1, 1⟩ : SlV), nilS, nilS⟩ : LfV) (⟨([1] : List Int), [], 1, []⟩ : Lf) from ⟨(m2.more (B' := w3.heap.size) (by omega)), ((Sl.nil _ 0).more (B' := w3.heap.size) (by omega)), ((Sl.nil _ 0).more (B' := w3.heap.size) (by omega))⟩), ((IsPn.zero _ 0).more (B' := w3.heap.size) (by omega))⟩), u⟩
theorem leaf2_any (W : World) : Calls Tryd.prog 29 #[nv 2] W fun e W' => ∃ v, e = .returned v ∧ ∃ l : NdV, v = .agg (l.cs (leafX 2)) ∧ IsNd W' W'.heap.size l (leafX 2) ∧ Below W.heap.size W W' := by
  refine calls_cg (n := 9) Tryd.func29 rfl Tryd.ntmps29 (by simp) ?_
  show CG _ _ _ [(0, nv 2)] _ _
  have u := Below.refl W.heap.size W
  refine cg_seq ?_
  refine cg_region ?_
  refine lg_allocw (cs := NdV.zero.cs Nd.zero) (want_none (by rfl)) rfl (by kernel_rfl) rfl (by decide) fun b1 w1 n1 => ?_
  have r1 := n1.row
  have k1 := n1.blk
  have z1 := n1.size
  have lt1 : b1 < w1.heap.size := by omega
  refine lg_nil ?_
  refine nx (zk2 0 2 rfl rfl fn) ?_
  refine cg_seq ?_
  refine cg_region ?_
  refine zM rfl rfl rfl rfl rfl ?_
  refine za rfl (yv (show nv ((maskK 2 127 : Nat) : Int) = nv 2 from by kernel_rfl) (y_maskW 127 (by decide) rfl rfl rfl)) rfl rfl ?_
  refine za rfl (yv (show ov (toB 2) = .int .u8 2 from by kernel_rfl) (y_to8 (by kernel_rfl) rfl rfl)) rfl rfl ?_
  refine lg_bslice (z := .int .u8 0) (cs := #[.int .u8 2]) huo24 (by kernel_rfl) (by decide) (by decide) rfl rfl (by kernel_rfl) rfl rfl (by decide) fun b2 w2 n2 => ?_
  have r2 := n2.row
  have k2 := n2.blk
  have z2 := n2.size
  have m2 : Sl w2 (b2 + 1) ⟨some ⟨b2, 0, none⟩, 1, 1⟩ [2] := ⟨Nat.le_refl _, of_decide_eq_true (by kernel_rfl), oct_lit r2 rfl (by decide)⟩
  refine za rfl (y_build (cs := (⟨(⟨some ⟨b2, 0, none⟩, 1, 1⟩ : SlV), nilS, nilS⟩ : LfV).cs (⟨([2] : List Int), [], 1, []⟩ : Lf)) rfl rfl (by kernel_rfl)) rfl rfl ?_
  refine za rfl (y_build (cs := (⟨(⟨(⟨some ⟨b2, 0, none⟩, 1, 1⟩ : SlV), nilS, nilS⟩ : LfV), PnV.zero⟩ : NdV).cs (⟨1, (⟨([2] : List Int), [], 1, []⟩ : Lf), Pn.zero⟩ : Nd)) rfl rfl (by kernel_rfl)) rfl rfl ?_
  have r1 := n2.keep r1
  have o3 := r1
  refine lg_stw (want_none (by rfl)) r1 rfl rfl rfl (by kernel_rfl) (by kernel_rfl) rfl rfl fun w3 s3 => ?_
  have r1 := s3.row
  have z3 := s3.size
  refine lg_nil ?_
  refine nx (zk1 2 rfl fn) ?_
  refine cg_ret ?_
  have m2 := m2.set o3 rfl s3
  have u := u.trans (n1.below.mono u.size)
  have u := u.trans (n2.below.mono u.size)
  have u := u.trans (s3.below _ (by omega))
  exact eg_ret_agg rfl rfl r1 (by kernel_rfl) (by kernel_rfl) ⟨_, rfl, (⟨(⟨(⟨some ⟨b2, 0, none⟩, 1, 1⟩ : SlV), nilS, nilS⟩ : LfV), PnV.zero⟩ : NdV), rfl, (show IsNd w3 w3.heap.size (⟨(⟨(⟨some ⟨b2, 0, none⟩, 1, 1⟩ : SlV), nilS, nilS⟩ : LfV), PnV.zero⟩ : NdV) (⟨1, (⟨([2] : List Int), [], 1, []⟩ : Lf), Pn.zero⟩ : Nd) from ⟨(show IsLf w3 w3.heap.size (⟨(⟨some ⟨b2, 0, none⟩, 1, 1⟩ : SlV), nilS, nilS⟩ : LfV) (⟨([2] : List Int), [], 1, []⟩ : Lf) from ⟨(m2.more (B' := w3.heap.size) (by omega)), ((Sl.nil _ 0).more (B' := w3.heap.size) (by omega)), ((Sl.nil _ 0).more (B' := w3.heap.size) (by omega))⟩), ((IsPn.zero _ 0).more (B' := w3.heap.size) (by omega))⟩), u⟩
theorem leaf3_any (W : World) : Calls Tryd.prog 29 #[nv 3] W fun e W' => ∃ v, e = .returned v ∧ ∃ l : NdV, v = .agg (l.cs (leafX 3)) ∧ IsNd W' W'.heap.size l (leafX 3) ∧ Below W.heap.size W W' := by
  refine calls_cg (n := 9) Tryd.func29 rfl Tryd.ntmps29 (by simp) ?_
  show CG _ _ _ [(0, nv 3)] _ _
  have u := Below.refl W.heap.size W
  refine cg_seq ?_
  refine cg_region ?_
  refine lg_allocw (cs := NdV.zero.cs Nd.zero) (want_none (by rfl)) rfl (by kernel_rfl) rfl (by decide) fun b1 w1 n1 => ?_
  have r1 := n1.row
  have k1 := n1.blk
  have z1 := n1.size
  have lt1 : b1 < w1.heap.size := by omega
  refine lg_nil ?_
  refine nx (zk2 0 2 rfl rfl fn) ?_
  refine cg_seq ?_
  refine cg_region ?_
  refine zM rfl rfl rfl rfl rfl ?_
  refine za rfl (yv (show nv ((maskK 3 127 : Nat) : Int) = nv 3 from by kernel_rfl) (y_maskW 127 (by decide) rfl rfl rfl)) rfl rfl ?_
  refine za rfl (yv (show ov (toB 3) = .int .u8 3 from by kernel_rfl) (y_to8 (by kernel_rfl) rfl rfl)) rfl rfl ?_
  refine lg_bslice (z := .int .u8 0) (cs := #[.int .u8 3]) huo24 (by kernel_rfl) (by decide) (by decide) rfl rfl (by kernel_rfl) rfl rfl (by decide) fun b2 w2 n2 => ?_
  have r2 := n2.row
  have k2 := n2.blk
  have z2 := n2.size
  have m2 : Sl w2 (b2 + 1) ⟨some ⟨b2, 0, none⟩, 1, 1⟩ [3] := ⟨Nat.le_refl _, of_decide_eq_true (by kernel_rfl), oct_lit r2 rfl (by decide)⟩
  refine za rfl (y_build (cs := (⟨(⟨some ⟨b2, 0, none⟩, 1, 1⟩ : SlV), nilS, nilS⟩ : LfV).cs (⟨([3] : List Int), [], 1, []⟩ : Lf)) rfl rfl (by kernel_rfl)) rfl rfl ?_
  refine za rfl (y_build (cs := (⟨(⟨(⟨some ⟨b2, 0, none⟩, 1, 1⟩ : SlV), nilS, nilS⟩ : LfV), PnV.zero⟩ : NdV).cs (⟨1, (⟨([3] : List Int), [], 1, []⟩ : Lf), Pn.zero⟩ : Nd)) rfl rfl (by kernel_rfl)) rfl rfl ?_
  have r1 := n2.keep r1
  have o3 := r1
  refine lg_stw (want_none (by rfl)) r1 rfl rfl rfl (by kernel_rfl) (by kernel_rfl) rfl rfl fun w3 s3 => ?_
  have r1 := s3.row
  have z3 := s3.size
  refine lg_nil ?_
  refine nx (zk1 2 rfl fn) ?_
  refine cg_ret ?_
  have m2 := m2.set o3 rfl s3
  have u := u.trans (n1.below.mono u.size)
  have u := u.trans (n2.below.mono u.size)
  have u := u.trans (s3.below _ (by omega))
  exact eg_ret_agg rfl rfl r1 (by kernel_rfl) (by kernel_rfl) ⟨_, rfl, (⟨(⟨(⟨some ⟨b2, 0, none⟩, 1, 1⟩ : SlV), nilS, nilS⟩ : LfV), PnV.zero⟩ : NdV), rfl, (show IsNd w3 w3.heap.size (⟨(⟨(⟨some ⟨b2, 0, none⟩, 1, 1⟩ : SlV), nilS, nilS⟩ : LfV), PnV.zero⟩ : NdV) (⟨1, (⟨([3] : List Int), [], 1, []⟩ : Lf), Pn.zero⟩ : Nd) from ⟨(show IsLf w3 w3.heap.size (⟨(⟨some ⟨b2, 0, none⟩, 1, 1⟩ : SlV), nilS, nilS⟩ : LfV) (⟨([3] : List Int), [], 1, []⟩ : Lf) from ⟨(m2.more (B' := w3.heap.size) (by omega)), ((Sl.nil _ 0).more (B' := w3.heap.size) (by omega)), ((Sl.nil _ 0).more (B' := w3.heap.size) (by omega))⟩), ((IsPn.zero _ 0).more (B' := w3.heap.size) (by omega))⟩), u⟩
theorem awakeR_any (W : World) (rg : Tb W) : Calls Tryd.prog 9 #[] W fun e W' => ∃ v, e = .returned v ∧ v = .bool true ∧ Below W.heap.size W W' := by
  refine calls_cg (n := 46) Tryd.func9 rfl Tryd.ntmps9 (by simp) ?_
  show CG _ _ _ [] _ _
  have u := Below.refl W.heap.size W
  refine cg_seq ?_
  refine cg_region ?_
  refine zA rfl rfl rfl rfl rfl ?_
  refine lg_nil ?_
  refine nx (zk1 0 rfl fn) ?_
  refine cg_seq ?_
  refine cg_region ?_
  refine lg_callw (want_none (by rfl)) (leaf1_any _) (by kernel_rfl) rfl rfl rfl (by decide) ?_
  rintro _ w1 ⟨l1, rfl, m1, hw1⟩
  have zw1 := hw1.size
  refine za rfl (y_build (cs := NdV.zero.cs Nd.zero) rfl rfl (by kernel_rfl)) rfl rfl ?_
  refine lg_callw (want_none (by rfl)) (leaf2_any _) (by kernel_rfl) rfl rfl rfl (by decide) ?_
  rintro _ w2 ⟨l2, rfl, m2, hw2⟩
  have zw2 := hw2.size
  refine za rfl (y_build (cs := NdV.zero.cs Nd.zero) rfl rfl (by kernel_rfl)) rfl rfl ?_
  refine za rfl (y_build (cs := NdV.zero.cs Nd.zero) rfl rfl (by kernel_rfl)) rfl rfl ?_
  refine za rfl (y_build (cs := NdV.zero.cs Nd.zero) rfl rfl (by kernel_rfl)) rfl rfl ?_
  refine lg_callw (want_none (by rfl)) (leaf3_any _) (by kernel_rfl) rfl rfl rfl (by decide) ?_
  rintro _ w3 ⟨l3, rfl, m3, hw3⟩
  have zw3 := hw3.size
  have m2 := m2.below (hw3.mono (by omega))
  have m1 := m1.below (hw2.mono (by omega))
  have m1 := m1.below (hw3.mono (by omega))
  obtain ⟨bs5, hbs5⟩ : ∃ q, q = w3.heap.size := ⟨_, rfl⟩
  refine lg_bsR [(l1, (leafX 1)), (NdV.zero, Nd.zero), (l2, (leafX 2)), (NdV.zero, Nd.zero), (NdV.zero, Nd.zero), (NdV.zero, Nd.zero), (l3, (leafX 3))] (List.forall_mem_cons.2 ⟨(m1.more (B' := w3.heap.size) (by omega)), (List.forall_mem_cons.2 ⟨((IsNd.zero _ 0).more (B' := w3.heap.size) (by omega)), (List.forall_mem_cons.2 ⟨(m2.more (B' := w3.heap.size) (by omega)), (List.forall_mem_cons.2 ⟨((IsNd.zero _ 0).more (B' := w3.heap.size) (by omega)), (List.forall_mem_cons.2 ⟨((IsNd.zero _ 0).more (B' := w3.heap.size) (by omega)), (List.forall_mem_cons.2 ⟨((IsNd.zero _ 0).more (B' := w3.heap.size) (by omega)), (List.forall_mem_cons.2 ⟨(m3.more (B' := w3.heap.size) (by omega)), (fun p q => by cases q)⟩)⟩)⟩)⟩)⟩)⟩)⟩) (Nat.le_refl _) (want_none (by rfl)) rfl rfl (by decide) (by decide) rfl (by kernel_rfl) rfl (by decide) fun s4 w4 f4 g4 l4 => ?_
  have g4 := g4.cast (Ms := ([(leafX 1), Nd.zero, (leafX 2), Nd.zero, Nd.zero, Nd.zero, (leafX 3)] : List Nd)) rfl
  rw [← hbs5] at g4
  have z4 := l4.size
  refine zA rfl rfl rfl rfl rfl ?_
  refine lg_nil ?_
  refine nx (zk2 0 1 rfl rfl fn) ?_
  refine cg_seq ?_
  refine cg_region ?_
  refine lg_callw (want_none (by rfl)) (leaf1_any _) (by kernel_rfl) rfl rfl rfl (by decide) ?_
  rintro _ w6 ⟨l6, rfl, m6, hw6⟩
  have zw6 := hw6.size
  refine lg_bslice (z := .int .u8 0) (cs := #[.int .u8 5]) huo24 (by kernel_rfl) (by decide) (by decide) rfl rfl (by kernel_rfl) rfl rfl (by decide) fun b7 w7 n7 => ?_
  have r7 := n7.row
  have k7 := n7.blk
  have z7 := n7.size
  have m7 : Sl w7 (b7 + 1) ⟨some ⟨b7, 0, none⟩, 1, 1⟩ [5] := ⟨Nat.le_refl _, of_decide_eq_true (by kernel_rfl), oct_lit r7 rfl (by decide)⟩
  refine lg_bslice (el := 3) (z := nv 0) (cs := #[nv 1]) huIs (by kernel_rfl) (by decide) (by decide) rfl rfl (by kernel_rfl) rfl rfl (by decide) fun b8 w8 n8 => ?_
  have r8 := n8.row
  have k8 := n8.blk
  have z8 := n8.size
  have m8 : SlN w8 (b8 + 1) ⟨some ⟨b8, 0, none⟩, 1, 1⟩ [1] := new_SlN (xs := [1]) r8 rfl (of_decide_eq_true (by kernel_rfl))
  have og8 : w8.ownsRow b8 3 1 (.slice (some ⟨b8, 0, none⟩) 1 1) ([1] : List Int).length (([1] : List Int).map (Value.int .i64)) := new_ownN (xs := [1]) n8 rfl (of_decide_eq_true (by kernel_rfl))
  refine za rfl (y_build (cs := (⟨(⟨some ⟨b7, 0, none⟩, 1, 1⟩ : SlV), nilS, (⟨some ⟨b8, 0, none⟩, 1, 1⟩ : SlV)⟩ : PnV).cs (⟨([5] : List Int), [], ([1] : List Int)⟩ : Pn)) rfl rfl (by kernel_rfl)) rfl rfl ?_
  refine za rfl (y_build (cs := (⟨LfV.zero, (⟨(⟨some ⟨b7, 0, none⟩, 1, 1⟩ : SlV), nilS, (⟨some ⟨b8, 0, none⟩, 1, 1⟩ : SlV)⟩ : PnV)⟩ : NdV).cs (⟨2, Lf.zero, (⟨([5] : List Int), [], ([1] : List Int)⟩ : Pn)⟩ : Nd)) rfl rfl (by kernel_rfl)) rfl rfl ?_
  refine lg_callw (want_none (by rfl)) (leaf2_any _) (by kernel_rfl) rfl rfl rfl (by decide) ?_
  rintro _ w9 ⟨l9, rfl, m9, hw9⟩
  have zw9 := hw9.size
  have m7 := m7.below (n8.below.mono (by omega))
  have m7 := m7.below (hw9.mono (by omega))
  have m8 := m8.below (hw9.mono (by omega))
  have m6 := m6.below (n7.below.mono (by omega))
  have m6 := m6.below (n8.below.mono (by omega))
  have m6 := m6.below (hw9.mono (by omega))
  obtain ⟨bs11, hbs11⟩ : ∃ q, q = w9.heap.size := ⟨_, rfl⟩
  refine lg_bsR [(l6, (leafX 1)), ((⟨LfV.zero, (⟨(⟨some ⟨b7, 0, none⟩, 1, 1⟩ : SlV), nilS, (⟨some ⟨b8, 0, none⟩, 1, 1⟩ : SlV)⟩ : PnV)⟩ : NdV), (⟨2, Lf.zero, (⟨([5] : List Int), [], ([1] : List Int)⟩ : Pn)⟩ : Nd)), (l9, (leafX 2))] (List.forall_mem_cons.2 ⟨(m6.more (B' := w9.heap.size) (by omega)), (List.forall_mem_cons.2 ⟨(show IsNd w9 w9.heap.size (⟨LfV.zero, (⟨(⟨some ⟨b7, 0, none⟩, 1, 1⟩ : SlV), nilS, (⟨some ⟨b8, 0, none⟩, 1, 1⟩ : SlV)⟩ : PnV)⟩ : NdV) (⟨2, Lf.zero, (⟨([5] : List Int), [], ([1] : List Int)⟩ : Pn)⟩ : Nd) from ⟨((IsLf.zero _ 0).more (B' := w9.heap.size) (by omega)), (show IsPn w9 w9.heap.size (⟨(⟨some ⟨b7, 0, none⟩, 1, 1⟩ : SlV), nilS, (⟨some ⟨b8, 0, none⟩, 1, 1⟩ : SlV)⟩ : PnV) (⟨([5] : List Int), [], ([1] : List Int)⟩ : Pn) from ⟨(m7.more (B' := w9.heap.size) (by omega)), ((Sl.nil _ 0).more (B' := w9.heap.size) (by omega)), (m8.more (B' := w9.heap.size) (by omega))⟩)⟩), (List.forall_mem_cons.2 ⟨(m9.more (B' := w9.heap.size) (by omega)), (fun p q => by cases q)⟩)⟩)⟩) (Nat.le_refl _) (want_none (by rfl)) rfl rfl (by decide) (by decide) rfl (by kernel_rfl) rfl (by decide) fun s10 w10 f10 g10 l10 => ?_
  have g10 := g10.cast (Ms := ([(leafX 1), (⟨2, Lf.zero, (⟨([5] : List Int), [], ([1] : List Int)⟩ : Pn)⟩ : Nd), (leafX 2)] : List Nd)) rfl
  rw [← hbs11] at g10
  have z10 := l10.size
  refine zA rfl rfl rfl rfl rfl ?_
  refine lg_nil ?_
  refine nx (zk3 0 1 2 rfl rfl rfl fn) ?_
  refine cg_seq ?_
  refine cg_region ?_
  refine zM rfl rfl rfl rfl rfl ?_
  have g4 := g4.keep hw6 (by omega)
  have g4 := g4.keep n7.below (by omega)
  have g4 := g4.keep n8.below (by omega)
  have g4 := g4.keep hw9 (by omega)
  have g4 := g4.keep l10 (by omega)
  have rg := rg.up hw1
  have rg := rg.up hw2
  have rg := rg.up hw3
  have rg := rg.up l4
  have rg := rg.up hw6
  have rg := rg.up n7.below
  have rg := rg.up n8.below
  have rg := rg.up hw9
  have rg := rg.up l10
  refine lg_callw (want_none (by rfl)) (resolve_any ((g4.rowS (by omega)).more (B' := w10.heap.size) (by omega)) 3 (Nat.le_refl _) rg) (by kernel_rfl) rfl rfl rfl (by decide) ?_
  rintro _ w12 ⟨s12, rfl, m12, hw12⟩
  have zw12 := hw12.size
  refine lg_bslice (el := 3) (z := nv 0) (cs := #[nv 0, nv 2, nv 6]) huIs (by kernel_rfl) (by decide) (by decide) rfl rfl (by kernel_rfl) rfl rfl (by decide) fun b13 w13 n13 => ?_
  have r13 := n13.row
  have k13 := n13.blk
  have z13 := n13.size
  have m13 : SlN w13 (b13 + 1) ⟨some ⟨b13, 0, none⟩, 3, 3⟩ [0, 2, 6] := new_SlN (xs := [0, 2, 6]) r13 rfl (of_decide_eq_true (by kernel_rfl))
  have og13 : w13.ownsRow b13 3 1 (.slice (some ⟨b13, 0, none⟩) 3 3) ([0, 2, 6] : List Int).length (([0, 2, 6] : List Int).map (Value.int .i64)) := new_ownN (xs := [0, 2, 6]) n13 rfl (of_decide_eq_true (by kernel_rfl))
  have m12 := m12.below (n13.below.mono (by omega))
  have f14 : (resL (trAs ([(leafX 1), Nd.zero, (leafX 2), Nd.zero, Nd.zero, Nd.zero, (leafX 3)] : List Nd)) 3) = ([0, 2, 6] : List Int) := of_decide_eq_true (by kernel_rfl)
  refine lg_callw (want_none (by rfl)) (ints_S m12 m13 (by omega) (by omega)) (by kernel_rfl) rfl rfl rfl (by decide) ?_
  rintro u15 w15 ⟨e15, hw15⟩
  have zw15 := hw15.size
  obtain rfl : u15 = .bool true := e15.trans (congrArg Value.bool (decide_eq_true f14))
  refine zM rfl rfl rfl rfl rfl ?_
  refine zt 22 rfl (by kernel_rfl) rfl (y_move rfl rfl) rfl rfl ?_
  have g4 := g4.keep hw12 (by omega)
  have g4 := g4.keep n13.below (by omega)
  have g4 := g4.keep hw15 (by omega)
  have rg := rg.up hw12
  have rg := rg.up n13.below
  have rg := rg.up hw15
  refine lg_callw (want_t (dj := 22) (by rfl) (by kernel_rfl) rfl) (filter_any ((g4.rowS (by omega)).more (B' := w15.heap.size) (by omega)) 3 (Nat.le_refl _) rg) (by kernel_rfl) rfl rfl rfl (by decide) ?_
  rintro _ w16 ⟨s16, rfl, m16, hw16⟩
  have zw16 := hw16.size
  refine lg_bsliceW (el := 3) (z := nv 0) (cs := #[nv 3]) (want_t (dj := 22) (by rfl) (by kernel_rfl) rfl) huIs (by kernel_rfl) (by decide) (by decide) rfl rfl (by kernel_rfl) rfl (by decide) fun b17 w17 n17 => ?_
  have r17 := n17.row
  have k17 := n17.blk
  have z17 := n17.size
  have m17 : SlN w17 (b17 + 1) ⟨some ⟨b17, 0, none⟩, 1, 1⟩ [3] := new_SlN (xs := [3]) r17 rfl (of_decide_eq_true (by kernel_rfl))
  have og17 : w17.ownsRow b17 3 1 (.slice (some ⟨b17, 0, none⟩) 1 1) ([3] : List Int).length (([3] : List Int).map (Value.int .i64)) := new_ownN (xs := [3]) n17 rfl (of_decide_eq_true (by kernel_rfl))
  have m16 := m16.below (n17.below.mono (by omega))
  have f18 : ((forkL (trAs ([(leafX 1), Nd.zero, (leafX 2), Nd.zero, Nd.zero, Nd.zero, (leafX 3)] : List Nd)) 3).map Prod.fst) = ([3] : List Int) := of_decide_eq_true (by kernel_rfl)
  refine lg_callw (want_t (dj := 22) (by rfl) (by kernel_rfl) rfl) (ints_S m16 m17 (by omega) (by omega)) (by kernel_rfl) rfl rfl rfl (by decide) ?_
  rintro u19 w19 ⟨e19, hw19⟩
  have zw19 := hw19.size
  obtain rfl : u19 = .bool true := e19.trans (congrArg Value.bool (decide_eq_true f18))
  refine za rfl (y_pick true rfl rfl rfl) rfl rfl ?_
  refine zM rfl rfl rfl rfl rfl ?_
  refine zt 28 rfl (by kernel_rfl) rfl (y_move rfl rfl) rfl rfl ?_
  have g4 := g4.keep hw16 (by omega)
  have g4 := g4.keep n17.below (by omega)
  have g4 := g4.keep hw19 (by omega)
  have rg := rg.up hw16
  have rg := rg.up n17.below
  have rg := rg.up hw19
  refine lg_callw (want_t (dj := 28) (by rfl) (by kernel_rfl) rfl) (beside_any ((g4.rowS (by omega)).more (B' := w19.heap.size) (by omega)) 3 (Nat.le_refl _) rg) (by kernel_rfl) rfl rfl rfl (by decide) ?_
  rintro _ w20 ⟨s20, rfl, m20, hw20⟩
  have zw20 := hw20.size
  refine lg_bsliceW (el := 3) (z := nv 0) (cs := #[nv 1]) (want_t (dj := 28) (by rfl) (by kernel_rfl) rfl) huIs (by kernel_rfl) (by decide) (by decide) rfl rfl (by kernel_rfl) rfl (by decide) fun b21 w21 n21 => ?_
  have r21 := n21.row
  have k21 := n21.blk
  have z21 := n21.size
  have m21 : SlN w21 (b21 + 1) ⟨some ⟨b21, 0, none⟩, 1, 1⟩ [1] := new_SlN (xs := [1]) r21 rfl (of_decide_eq_true (by kernel_rfl))
  have og21 : w21.ownsRow b21 3 1 (.slice (some ⟨b21, 0, none⟩) 1 1) ([1] : List Int).length (([1] : List Int).map (Value.int .i64)) := new_ownN (xs := [1]) n21 rfl (of_decide_eq_true (by kernel_rfl))
  have m20 := m20.below (n21.below.mono (by omega))
  have f22 : ((forkL (trAs ([(leafX 1), Nd.zero, (leafX 2), Nd.zero, Nd.zero, Nd.zero, (leafX 3)] : List Nd)) 3).map Prod.snd) = ([1] : List Int) := of_decide_eq_true (by kernel_rfl)
  refine lg_callw (want_t (dj := 28) (by rfl) (by kernel_rfl) rfl) (ints_S m20 m21 (by omega) (by omega)) (by kernel_rfl) rfl rfl rfl (by decide) ?_
  rintro u23 w23 ⟨e23, hw23⟩
  have zw23 := hw23.size
  obtain rfl : u23 = .bool true := e23.trans (congrArg Value.bool (decide_eq_true f22))
  refine za rfl (y_pick true rfl rfl rfl) rfl rfl ?_
  refine zM rfl rfl rfl rfl rfl ?_
  refine zt 34 rfl (by kernel_rfl) rfl (y_move rfl rfl) rfl rfl ?_
  have g10 := g10.keep hw12 (by omega)
  have g10 := g10.keep n13.below (by omega)
  have g10 := g10.keep hw15 (by omega)
  have g10 := g10.keep hw16 (by omega)
  have g10 := g10.keep n17.below (by omega)
  have g10 := g10.keep hw19 (by omega)
  have g10 := g10.keep hw20 (by omega)
  have g10 := g10.keep n21.below (by omega)
  have g10 := g10.keep hw23 (by omega)
  have rg := rg.up hw20
  have rg := rg.up n21.below
  have rg := rg.up hw23
  refine lg_callw (want_t (dj := 34) (by rfl) (by kernel_rfl) rfl) (resolve_any ((g10.rowS (by omega)).more (B' := w23.heap.size) (by omega)) 1 (Nat.le_refl _) rg) (by kernel_rfl) rfl rfl rfl (by decide) ?_
  rintro _ w24 ⟨s24, rfl, m24, hw24⟩
  have zw24 := hw24.size
  refine lg_bsliceW (el := 3) (z := nv 0) (cs := #[nv 1, nv 2]) (want_t (dj := 34) (by rfl) (by kernel_rfl) rfl) huIs (by kernel_rfl) (by decide) (by decide) rfl rfl (by kernel_rfl) rfl (by decide) fun b25 w25 n25 => ?_
  have r25 := n25.row
  have k25 := n25.blk
  have z25 := n25.size
  have m25 : SlN w25 (b25 + 1) ⟨some ⟨b25, 0, none⟩, 2, 2⟩ [1, 2] := new_SlN (xs := [1, 2]) r25 rfl (of_decide_eq_true (by kernel_rfl))
  have og25 : w25.ownsRow b25 3 1 (.slice (some ⟨b25, 0, none⟩) 2 2) ([1, 2] : List Int).length (([1, 2] : List Int).map (Value.int .i64)) := new_ownN (xs := [1, 2]) n25 rfl (of_decide_eq_true (by kernel_rfl))
  have m24 := m24.below (n25.below.mono (by omega))
  have f26 : (resL (trAs ([(leafX 1), (⟨2, Lf.zero, (⟨([5] : List Int), [], ([1] : List Int)⟩ : Pn)⟩ : Nd), (leafX 2)] : List Nd)) 1) = ([1, 2] : List Int) := of_decide_eq_true (by kernel_rfl)
  refine lg_callw (want_t (dj := 34) (by rfl) (by kernel_rfl) rfl) (ints_S m24 m25 (by omega) (by omega)) (by kernel_rfl) rfl rfl rfl (by decide) ?_
  rintro u27 w27 ⟨e27, hw27⟩
  have zw27 := hw27.size
  obtain rfl : u27 = .bool true := e27.trans (congrArg Value.bool (decide_eq_true f26))
  refine za rfl (y_pick true rfl rfl rfl) rfl rfl ?_
  refine zM rfl rfl rfl rfl rfl ?_
  refine zt 40 rfl (by kernel_rfl) rfl (y_move rfl rfl) rfl rfl ?_
  have g4 := g4.keep hw20 (by omega)
  have g4 := g4.keep n21.below (by omega)
  have g4 := g4.keep hw23 (by omega)
  have g4 := g4.keep hw24 (by omega)
  have g4 := g4.keep n25.below (by omega)
  have g4 := g4.keep hw27 (by omega)
  have rg := rg.up hw24
  have rg := rg.up n25.below
  have rg := rg.up hw27
  refine lg_callw (want_t (dj := 40) (by rfl) (by kernel_rfl) rfl) (resolve_any ((g4.rowS (by omega)).more (B' := w27.heap.size) (by omega)) 5 (Nat.le_refl _) rg) (by kernel_rfl) rfl rfl rfl (by decide) ?_
  rintro _ w28 ⟨s28, rfl, m28, hw28⟩
  have zw28 := hw28.size
  refine zt 40 rfl (by kernel_rfl) rfl (y_lenM (el := 3) m28.len (by kernel_rfl) rfl rfl) rfl rfl ?_
  have f29 : ((resL (trAs ([(leafX 1), Nd.zero, (leafX 2), Nd.zero, Nd.zero, Nd.zero, (leafX 3)] : List Nd)) 5).length : Int) = 1 := of_decide_eq_true (by kernel_rfl)
  refine zt 40 rfl (by kernel_rfl) rfl (yb (decide_eq_true f29) (yi_eql rfl rfl rfl)) rfl rfl ?_
  refine za rfl (y_pick true rfl rfl rfl) rfl rfl ?_
  refine zA rfl rfl rfl rfl rfl ?_
  refine lg_nil ?_
  refine nx (zk1 0 rfl fn) ?_
  refine cg_ret ?_
  have u := u.trans (hw1.mono u.size)
  have u := u.trans (hw2.mono u.size)
  have u := u.trans (hw3.mono u.size)
  have u := u.trans (l4.mono u.size)
  have u := u.trans (hw6.mono u.size)
  have u := u.trans (n7.below.mono u.size)
  have u := u.trans (n8.below.mono u.size)
  have u := u.trans (hw9.mono u.size)
  have u := u.trans (l10.mono u.size)
  have u := u.trans (hw12.mono u.size)
  have u := u.trans (n13.below.mono u.size)
  have u := u.trans (hw15.mono u.size)
  have u := u.trans (hw16.mono u.size)
  have u := u.trans (n17.below.mono u.size)
  have u := u.trans (hw19.mono u.size)
  have u := u.trans (hw20.mono u.size)
  have u := u.trans (n21.below.mono u.size)
  have u := u.trans (hw23.mono u.size)
  have u := u.trans (hw24.mono u.size)
  have u := u.trans (n25.below.mono u.size)
  have u := u.trans (hw27.mono u.size)
  have u := u.trans (hw28.mono u.size)
  exact eg_ret_tmp rfl rfl ⟨_, rfl, rfl, u⟩
end Go.Proofs.YtjcnfmmekpiliaaDoor
