/-
  The document's example, and a leaf that is dropped.
-/
import Derived.Test.YtkcpmpbjjnknhaaGreatDoorHsDropR
import Derived.Test.YtkcpmpbjjnknhaaGreatDoorTrRef
namespace Go.Proofs.YtkcpmpbjjnknhaaGreatDoor
open Go.ChangeShapes Go.WideShapes Go.ChangeAt Go.RowKit
set_option linter.unusedVariables false

set_option maxRecDepth 20000
abbrev leaf7 : Nd := ⟨1, ⟨[7], [], 1, []⟩, Pn.zero⟩
abbrev tree7 : List Nd := [leaf7, Nd.zero, Nd.zero]
theorem aw_one : ofH (trAs (List.replicate 1 Nd.zero)) 0 = sumL [1, 0, 0, 0, 0, 0] := by
  have h : isN (0 : Int) ((List.replicate 1 Nd.zero).length : Int) := by decide
  have e : trAs (List.replicate 1 Nd.zero) = List.replicate 1 Nd.zero := trAs_ok (by decide)
  rw [e, ofH_yes h, hs_leaf h (by decide)]
  exact congrArg sumL (by decide)
theorem aw_is : trIs tree7 := by decide
theorem aw_node : isN (1 : Int) (tree7.length : Int) := by decide
theorem aw_len : ((ofH (trAs tree7) 1).length : Int) = 32 := by
  rw [trAs_ok aw_is, ofH_yes aw_node, hsL_len]
  rfl
theorem aw_all : ((allH (trAs tree7)).length : Int) = 3 := by
  rw [trAs_ok aw_is, allH_len]
  rfl
theorem aw_drop : dropL [0] (trAs tree7) = List.replicate 3 Nd.zero := by
  rw [trAs_ok aw_is]
  rfl
theorem aw_same : trSame (dropL [0] (trAs tree7)) (List.replicate 3 Nd.zero) := by
  rw [aw_drop]
  exact tr_same _
theorem aw_without : ofH (dropL [0] (trAs tree7)) 1 = ofH (trAs (List.replicate 3 Nd.zero)) 1 := by
  have e : trAs (List.replicate 3 Nd.zero) = List.replicate 3 Nd.zero := trAs_ok (by decide)
  rw [aw_drop, e]
set_option maxHeartbeats 4000000 in
theorem awakeH_any (W : World) (rg : Tt W) : Calls Tryz.prog 9 #[] W fun e W' => ∃ v, e = .returned v ∧ v = .bool true ∧ Below W.heap.size W W' := by
  refine calls_cg (n := 46) Tryz.func9 rfl Tryz.ntmps9 (by simp) ?_
  show CG _ _ _ [] _ _
  have u := Below.refl W.heap.size W
  refine cg_seq ?_
  refine cg_region ?_
  refine zA rfl rfl rfl rfl rfl ?_
  refine lg_nil ?_
  refine nx (zk1 0 rfl fn) ?_
  refine cg_seq ?_
  refine cg_region ?_
  refine lg_bslice (z := .int .u8 0) (cs := #[.int .u8 7]) huo24 (by kernel_rfl) (by decide) (by decide) rfl rfl (by kernel_rfl) rfl rfl (by decide) fun b1 w1 n1 => ?_
  have r1 := n1.row
  have k1 := n1.blk
  have z1 := n1.size
  have m1 : Sl w1 (b1 + 1) ⟨some ⟨b1, 0, none⟩, 1, 1⟩ [7] := ⟨Nat.le_refl _, of_decide_eq_true (by kernel_rfl), oct_lit r1 rfl (by decide)⟩
  refine za rfl (y_build (cs := (⟨(⟨some ⟨b1, 0, none⟩, 1, 1⟩ : SlV), nilS, nilS⟩ : LfV).cs (⟨([7] : List Int), [], 1, []⟩ : Lf)) rfl rfl (by kernel_rfl)) rfl rfl ?_
  refine za rfl (y_build (cs := (⟨(⟨(⟨some ⟨b1, 0, none⟩, 1, 1⟩ : SlV), nilS, nilS⟩ : LfV), PnV.zero⟩ : NdV).cs (⟨1, (⟨([7] : List Int), [], 1, []⟩ : Lf), Pn.zero⟩ : Nd)) rfl rfl (by kernel_rfl)) rfl rfl ?_
  refine lg_allocw (cs := NdV.zero.cs Nd.zero) (want_none (by rfl)) rfl (by kernel_rfl) rfl (by decide) fun b2 w2 n2 => ?_
  have r2 := n2.row
  have k2 := n2.blk
  have z2 := n2.size
  have lt2 : b2 < w2.heap.size := by omega
  have o3 := r2
  refine lg_stw (want_none (by rfl)) r2 rfl rfl rfl (by kernel_rfl) (by kernel_rfl) rfl rfl fun w3 s3 => ?_
  have r2 := s3.row
  have z3 := s3.size
  refine lg_nil ?_
  refine nx (zk2 0 1 rfl rfl fn) ?_
  refine cg_seq ?_
  refine cg_region ?_
  refine za rfl (y_loadA r2 (by kernel_rfl) (by kernel_rfl) rfl rfl) rfl rfl ?_
  refine za rfl (y_build (cs := NdV.zero.cs Nd.zero) rfl rfl (by kernel_rfl)) rfl rfl ?_
  refine za rfl (y_build (cs := NdV.zero.cs Nd.zero) rfl rfl (by kernel_rfl)) rfl rfl ?_
  have m1 := m1.below (n2.below.mono (by omega))
  have m1 := m1.set o3 rfl s3
  obtain ⟨bs5, hbs5⟩ : ∃ q, q = w3.heap.size := ⟨_, rfl⟩
  refine lg_bsR [((⟨(⟨(⟨some ⟨b1, 0, none⟩, 1, 1⟩ : SlV), nilS, nilS⟩ : LfV), PnV.zero⟩ : NdV), (⟨1, (⟨([7] : List Int), [], 1, []⟩ : Lf), Pn.zero⟩ : Nd)), (NdV.zero, Nd.zero), (NdV.zero, Nd.zero)] (List.forall_mem_cons.2 ⟨(show IsNd w3 w3.heap.size (⟨(⟨(⟨some ⟨b1, 0, none⟩, 1, 1⟩ : SlV), nilS, nilS⟩ : LfV), PnV.zero⟩ : NdV) (⟨1, (⟨([7] : List Int), [], 1, []⟩ : Lf), Pn.zero⟩ : Nd) from ⟨(show IsLf w3 w3.heap.size (⟨(⟨some ⟨b1, 0, none⟩, 1, 1⟩ : SlV), nilS, nilS⟩ : LfV) (⟨([7] : List Int), [], 1, []⟩ : Lf) from ⟨(m1.more (B' := w3.heap.size) (by omega)), ((Sl.nil _ 0).more (B' := w3.heap.size) (by omega)), ((Sl.nil _ 0).more (B' := w3.heap.size) (by omega))⟩), ((IsPn.zero _ 0).more (B' := w3.heap.size) (by omega))⟩), (List.forall_mem_cons.2 ⟨((IsNd.zero _ 0).more (B' := w3.heap.size) (by omega)), (List.forall_mem_cons.2 ⟨((IsNd.zero _ 0).more (B' := w3.heap.size) (by omega)), (fun p q => by cases q)⟩)⟩)⟩) (Nat.le_refl _) (want_none (by rfl)) rfl rfl (by decide) (by decide) rfl (by kernel_rfl) rfl (by decide) fun s4 w4 f4 g4 l4 => ?_
  have g4 := g4.cast (Ms := ([(⟨1, (⟨([7] : List Int), [], 1, []⟩ : Lf), Pn.zero⟩ : Nd), Nd.zero, Nd.zero] : List Nd)) rfl
  rw [← hbs5] at g4
  have z4 := l4.size
  refine zA rfl rfl rfl rfl rfl ?_
  refine lg_nil ?_
  refine nx (zk2 0 2 rfl rfl fn) ?_
  refine cg_seq ?_
  refine cg_held (by kernel_rfl) fun W6 eW6 => ?_
  have dW6 := below_drew _ _ eW6
  have zW6 := size_drew _ _ eW6
  clear eW6
  refine hg_two 0 3 (by rfl) (by rfl) (by kernel_rfl) (want_none (by rfl)) (want_none (by rfl)) ?_ ?_
  · obtain ⟨bs8, hbs8⟩ : ∃ q, q = W6.heap.size := ⟨_, rfl⟩
    refine lg_mkR (K := 1) 1 (want_none (by rfl)) (by omega) (by omega) rfl rfl rfl rfl (by decide) fun s7 w7 f7 g7 l7 => ?_
    rw [← hbs8] at g7
    have z7 := l7.size
    refine hg_next l7 ?_
    refine hg_up l7 ?_
    refine hg_two 1 3 (by rfl) (by rfl) (by kernel_rfl) (want_none (by rfl)) (want_none (by rfl)) ?_ ?_
    · have u := u.trans (n1.below.mono u.size)
      have u := u.trans (n2.below.mono u.size)
      have u := u.trans (s3.below _ (by omega))
      have u := u.trans (l4.mono u.size)
      have u := u.trans (dW6.mono u.size)
      have u := u.trans (l7.mono u.size)
      refine lg_callw (want_none (by rfl)) (of_any ((g7.rowS (by omega)).more (B' := w7.heap.size) (by omega)) 0 (Nat.le_refl _) (Tt.up u rg)) (by kernel_rfl) rfl rfl rfl (by decide) ?_
      rintro _ w9 ⟨r9, rfl, m9, hw9⟩
      have zw9 := hw9.size
      have ol9 := ofH_len (trAs (List.replicate 1 Nd.zero)) 0
      refine hg_next hw9 ?_
      refine hg_up hw9 ?_
      have by10 : Bytes (ofH (trAs (List.replicate 1 Nd.zero)) 0) := m9.bytes
      refine zh 2 rfl rfl rfl rfl rfl (by kernel_rfl) (fun _ _ _ h => h) (fun q hq => y_strS (m9.below (hq.mono (by omega))) rfl rfl) ?_
      refine hg_one 3 (by rfl) (by kernel_rfl) (want_none (by rfl)) ?_
      refine lg_bslice (z := .int .u8 0) (cs := #[.int .u8 1, .int .u8 0, .int .u8 0, .int .u8 0, .int .u8 0, .int .u8 0]) huo24 (by kernel_rfl) (by decide) (by decide) rfl rfl (by kernel_rfl) rfl rfl (by decide) fun b11 w11 n11 => ?_
      have r11 := n11.row
      have k11 := n11.blk
      have z11 := n11.size
      have m11 : Sl w11 (b11 + 1) ⟨some ⟨b11, 0, none⟩, 6, 6⟩ [1, 0, 0, 0, 0, 0] := ⟨Nat.le_refl _, of_decide_eq_true (by kernel_rfl), oct_lit r11 rfl (by decide)⟩
      refine hg_next n11.below ?_
      refine hg_up n11.below ?_
      have u := u.trans (hw9.mono u.size)
      have u := u.trans (n11.below.mono u.size)
      refine hg_one 4 (by rfl) (by kernel_rfl) (want_none (by rfl)) ?_
      refine lg_callw (want_none (by rfl)) (sumS_any (m11.more (B' := w11.heap.size) (by omega)) (Nat.le_refl _) (by first | omega | (simp only [List.length_cons, List.length_nil]; omega)) (Tt.up u rg)) (by kernel_rfl) rfl rfl rfl (by decide) ?_
      rintro _ w12 ⟨r12, rfl, m12, hw12⟩
      have zw12 := hw12.size
      refine hg_next hw12 ?_
      refine hg_up hw12 ?_
      have by13 : Bytes (sumL ([1, 0, 0, 0, 0, 0] : List Int)) := m12.1.bytes
      refine zh 5 rfl rfl rfl rfl rfl (by kernel_rfl) (fun _ _ _ h => h) (fun q hq => y_strS (m12.below hq).1 rfl rfl) ?_
      refine zh 6 rfl rfl rfl rfl rfl (by kernel_rfl) (fun _ _ _ h => h) (fun q hq => yb (decide_eq_true (show (ofH (trAs (List.replicate 1 Nd.zero)) 0) = (sumL ([1, 0, 0, 0, 0, 0] : List Int)) from aw_one)) (y_seqS (xs := (ofH (trAs (List.replicate 1 Nd.zero)) 0)) (ys := (sumL ([1, 0, 0, 0, 0, 0] : List Int))) by10 by13 rfl rfl rfl)) ?_
      refine zh 7 rfl rfl rfl rfl rfl (by kernel_rfl) (fun _ _ _ h => h) (fun q hq => y_move rfl rfl) ?_
      refine hg_take 8 (by rfl) (want_t (dj := 17) (by rfl) (by kernel_rfl) rfl) (by rfl) rfl (by decide) (by kernel_rfl) (by kernel_rfl) (by kernel_rfl) (fun _ _ _ h => h) (Below.refl _ _) (fun q hq => y_move rfl rfl) ?_
      have g4 := g4.keep dW6 (by omega)
      have g4 := g4.keep l7 (by omega)
      have g4 := g4.keep hw9 (by omega)
      have g4 := g4.keep n11.below (by omega)
      have g4 := g4.keep hw12 (by omega)
      have u := u.trans (hw12.mono u.size)
      refine hg_one 9 (by rfl) (by kernel_rfl) (want_t (dj := 17) (by rfl) (by kernel_rfl) rfl) ?_
      refine lg_callw (want_t (dj := 17) (by rfl) (by kernel_rfl) rfl) (of_any ((g4.rowS (by omega)).more (B' := w12.heap.size) (by omega)) 1 (Nat.le_refl _) (Tt.up u rg)) (by kernel_rfl) rfl rfl rfl (by decide) ?_
      rintro _ w14 ⟨r14, rfl, m14, hw14⟩
      have zw14 := hw14.size
      have ol14 := ofH_len (trAs ([(⟨1, (⟨([7] : List Int), [], 1, []⟩ : Lf), Pn.zero⟩ : Nd), Nd.zero, Nd.zero] : List Nd)) 1
      refine hg_next hw14 ?_
      refine hg_up hw14 ?_
      refine hg_take 10 (by rfl) (want_t (dj := 17) (by rfl) (by kernel_rfl) rfl) (by rfl) rfl (by decide) (by kernel_rfl) (by kernel_rfl) (by kernel_rfl) (fun _ _ _ h => h) (Below.refl _ _) (fun q hq => y_lenS (el := 5) m14 (by kernel_rfl) rfl rfl) ?_
      refine hg_take 11 (by rfl) (want_t (dj := 17) (by rfl) (by kernel_rfl) rfl) (by rfl) rfl (by decide) (by kernel_rfl) (by kernel_rfl) (by kernel_rfl) (fun _ _ _ h => h) (Below.refl _ _) (fun q hq => yb (decide_eq_true (show ((ofH (trAs ([(⟨1, (⟨([7] : List Int), [], 1, []⟩ : Lf), Pn.zero⟩ : Nd), Nd.zero, Nd.zero] : List Nd)) 1).length : Int) = 32 from aw_len)) (yi_eql rfl rfl rfl)) ?_
      refine zh 12 rfl rfl rfl rfl rfl (by kernel_rfl) (fun _ _ _ h => h) (fun q hq => y_pick true rfl rfl rfl) ?_
      refine zh 13 rfl rfl rfl rfl rfl (by kernel_rfl) (fun _ _ _ h => h) (fun q hq => y_move rfl rfl) ?_
      refine hg_take 14 (by rfl) (want_t (dj := 23) (by rfl) (by kernel_rfl) rfl) (by rfl) rfl (by decide) (by kernel_rfl) (by kernel_rfl) (by kernel_rfl) (fun _ _ _ h => h) (Below.refl _ _) (fun q hq => y_move rfl rfl) ?_
      have g4 := g4.keep hw14 (by omega)
      have u := u.trans (hw14.mono u.size)
      refine hg_one 15 (by rfl) (by kernel_rfl) (want_t (dj := 23) (by rfl) (by kernel_rfl) rfl) ?_
      refine lg_callw (want_t (dj := 23) (by rfl) (by kernel_rfl) rfl) (all_any ((g4.rowS (by omega)).more (B' := w14.heap.size) (by omega)) (Nat.le_refl _) (Tt.up u rg)) (by kernel_rfl) rfl rfl rfl (by decide) ?_
      rintro _ w15 ⟨r15, rfl, m15, hw15⟩
      have zw15 := hw15.size
      refine hg_next hw15 ?_
      refine hg_up hw15 ?_
      refine hg_take 16 (by rfl) (want_t (dj := 23) (by rfl) (by kernel_rfl) rfl) (by rfl) rfl (by decide) (by kernel_rfl) (by kernel_rfl) (by kernel_rfl) (fun _ _ _ h => h) (Below.refl _ _) (fun q hq => y_lenM (el := 26) m15.len (by kernel_rfl) rfl rfl) ?_
      refine hg_take 17 (by rfl) (want_t (dj := 23) (by rfl) (by kernel_rfl) rfl) (by rfl) rfl (by decide) (by kernel_rfl) (by kernel_rfl) (by kernel_rfl) (fun _ _ _ h => h) (Below.refl _ _) (fun q hq => yb (decide_eq_true (show ((allH (trAs ([(⟨1, (⟨([7] : List Int), [], 1, []⟩ : Lf), Pn.zero⟩ : Nd), Nd.zero, Nd.zero] : List Nd))).length : Int) = 3 from aw_all)) (yi_eql rfl rfl rfl)) ?_
      refine zh 18 rfl rfl rfl rfl rfl (by kernel_rfl) (fun _ _ _ h => h) (fun q hq => y_pick true rfl rfl rfl) ?_
      refine zh 19 rfl rfl rfl rfl rfl (by kernel_rfl) (fun _ _ _ h => h) (fun q hq => y_move rfl rfl) ?_
      refine hg_take 20 (by rfl) (want_t (dj := 29) (by rfl) (by kernel_rfl) rfl) (by rfl) rfl (by decide) (by kernel_rfl) (by kernel_rfl) (by kernel_rfl) (fun _ _ _ h => h) (Below.refl _ _) (fun q hq => y_move rfl rfl) ?_
      refine hg_two 21 23 (by rfl) (by rfl) (by kernel_rfl) (want_t (dj := 29) (by rfl) (by kernel_rfl) rfl) (want_t (dj := 29) (by rfl) (by kernel_rfl) rfl) ?_ ?_
      · refine lg_bsliceW (el := 3) (z := nv 0) (cs := #[nv 0]) (want_t (dj := 29) (by rfl) (by kernel_rfl) rfl) huIs (by kernel_rfl) (by decide) (by decide) rfl rfl (by kernel_rfl) rfl (by decide) fun b16 w16 n16 => ?_
        have r16 := n16.row
        have k16 := n16.blk
        have z16 := n16.size
        have m16 : SlN w16 (b16 + 1) ⟨some ⟨b16, 0, none⟩, 1, 1⟩ [0] := new_SlN (xs := [0]) r16 rfl (of_decide_eq_true (by kernel_rfl))
        have og16 : w16.ownsRow b16 3 1 (.slice (some ⟨b16, 0, none⟩) 1 1) ([0] : List Int).length (([0] : List Int).map (Value.int .i64)) := new_ownN (xs := [0]) n16 rfl (of_decide_eq_true (by kernel_rfl))
        refine hg_next n16.below ?_
        refine hg_up n16.below ?_
        refine hg_two 22 23 (by rfl) (by rfl) (by kernel_rfl) (want_t (dj := 29) (by rfl) (by kernel_rfl) rfl) (want_t (dj := 29) (by rfl) (by kernel_rfl) rfl) ?_ ?_
        · have g4 := g4.keep hw15 (by omega)
          have g4 := g4.keep n16.below (by omega)
          refine lg_callw (want_t (dj := 29) (by rfl) (by kernel_rfl) rfl) (drop_any ((g4.rowS (by omega)).more (B' := w16.heap.size) (by omega)) (m16.more (B' := w16.heap.size) (by omega)) (Nat.le_refl _) (by first | omega | (simp only [List.length_cons, List.length_nil]; omega))) (by kernel_rfl) rfl rfl rfl (by decide) ?_
          rintro _ w17 ⟨s17, rfl, m17, hw17⟩
          have zw17 := hw17.size
          refine hg_next hw17 ?_
          refine hg_up hw17 ?_
          refine hg_one 23 (by rfl) (by kernel_rfl) (want_t (dj := 29) (by rfl) (by kernel_rfl) rfl) ?_
          obtain ⟨bs19, hbs19⟩ : ∃ q, q = w17.heap.size := ⟨_, rfl⟩
          refine lg_mkR (K := 3) 3 (want_t (dj := 29) (by rfl) (by kernel_rfl) rfl) (by omega) (by omega) rfl rfl rfl rfl (by decide) fun s18 w18 f18 g18 l18 => ?_
          rw [← hbs19] at g18
          have z18 := l18.size
          refine hg_next l18 ?_
          refine hg_up l18 ?_
          have m17 := m17.below (l18.mono (by omega))
          refine hg_one 24 (by rfl) (by kernel_rfl) (want_t (dj := 29) (by rfl) (by kernel_rfl) rfl) ?_
          refine lg_callw (want_t (dj := 29) (by rfl) (by kernel_rfl) rfl) (sameR_any (m17.more (B' := w18.heap.size) (by omega)) ((g18.rowS (by omega)).more (B' := w18.heap.size) (by omega)) (Nat.le_refl _)) (by kernel_rfl) rfl rfl rfl (by decide) ?_
          rintro u20 w20 ⟨e20, hw20⟩
          have zw20 := hw20.size
          obtain rfl : u20 = .bool true := e20.trans (congrArg Value.bool (decide_eq_true (show trSame (dropL ([0] : List Int) (trAs ([(⟨1, (⟨([7] : List Int), [], 1, []⟩ : Lf), Pn.zero⟩ : Nd), Nd.zero, Nd.zero] : List Nd))) (List.replicate 3 Nd.zero) from aw_same)))
          refine hg_next hw20 ?_
          refine hg_up hw20 ?_
          refine zh 25 rfl rfl rfl rfl rfl (by kernel_rfl) (fun _ _ _ h => h) (fun q hq => y_pick true rfl rfl rfl) ?_
          refine zh 26 rfl rfl rfl rfl rfl (by kernel_rfl) (fun _ _ _ h => h) (fun q hq => y_move rfl rfl) ?_
          refine hg_take 27 (by rfl) (want_t (dj := 36) (by rfl) (by kernel_rfl) rfl) (by rfl) rfl (by decide) (by kernel_rfl) (by kernel_rfl) (by kernel_rfl) (fun _ _ _ h => h) (Below.refl _ _) (fun q hq => y_move rfl rfl) ?_
          refine hg_two 28 31 (by rfl) (by rfl) (by kernel_rfl) (want_t (dj := 36) (by rfl) (by kernel_rfl) rfl) (want_t (dj := 36) (by rfl) (by kernel_rfl) rfl) ?_ ?_
          · refine lg_bsliceW (el := 3) (z := nv 0) (cs := #[nv 0]) (want_t (dj := 36) (by rfl) (by kernel_rfl) rfl) huIs (by kernel_rfl) (by decide) (by decide) rfl rfl (by kernel_rfl) rfl (by decide) fun b21 w21 n21 => ?_
            have r21 := n21.row
            have k21 := n21.blk
            have z21 := n21.size
            have m21 : SlN w21 (b21 + 1) ⟨some ⟨b21, 0, none⟩, 1, 1⟩ [0] := new_SlN (xs := [0]) r21 rfl (of_decide_eq_true (by kernel_rfl))
            have og21 : w21.ownsRow b21 3 1 (.slice (some ⟨b21, 0, none⟩) 1 1) ([0] : List Int).length (([0] : List Int).map (Value.int .i64)) := new_ownN (xs := [0]) n21 rfl (of_decide_eq_true (by kernel_rfl))
            refine hg_next n21.below ?_
            refine hg_up n21.below ?_
            refine hg_two 29 31 (by rfl) (by rfl) (by kernel_rfl) (want_t (dj := 36) (by rfl) (by kernel_rfl) rfl) (want_t (dj := 36) (by rfl) (by kernel_rfl) rfl) ?_ ?_
            · have g4 := g4.keep hw17 (by omega)
              have g4 := g4.keep l18 (by omega)
              have g4 := g4.keep hw20 (by omega)
              have g4 := g4.keep n21.below (by omega)
              have u := u.trans (hw15.mono u.size)
              have u := u.trans (n16.below.mono u.size)
              have u := u.trans (hw17.mono u.size)
              have u := u.trans (l18.mono u.size)
              have u := u.trans (hw20.mono u.size)
              have u := u.trans (n21.below.mono u.size)
              refine lg_callw (want_t (dj := 36) (by rfl) (by kernel_rfl) rfl) (without_any ((g4.rowS (by omega)).more (B' := w21.heap.size) (by omega)) 1 (m21.more (B' := w21.heap.size) (by omega)) (Nat.le_refl _) (by first | omega | (simp only [List.length_cons, List.length_nil]; omega)) (Tt.up u rg)) (by kernel_rfl) rfl rfl rfl (by decide) ?_
              rintro _ w22 ⟨r22, rfl, m22, hw22⟩
              have zw22 := hw22.size
              have ol22 := ofH_len (dropL ([0] : List Int) (trAs ([(⟨1, (⟨([7] : List Int), [], 1, []⟩ : Lf), Pn.zero⟩ : Nd), Nd.zero, Nd.zero] : List Nd))) 1
              refine hg_next hw22 ?_
              refine hg_up hw22 ?_
              have by23 : Bytes (ofH (dropL ([0] : List Int) (trAs ([(⟨1, (⟨([7] : List Int), [], 1, []⟩ : Lf), Pn.zero⟩ : Nd), Nd.zero, Nd.zero] : List Nd))) 1) := m22.bytes
              refine hg_take 30 (by rfl) (want_t (dj := 36) (by rfl) (by kernel_rfl) rfl) (by rfl) rfl (by decide) (by kernel_rfl) (by kernel_rfl) (by kernel_rfl) (fun _ _ _ h => h) (Below.refl _ _) (fun q hq => y_strS (m22.below (hq.mono (by omega))) rfl rfl) ?_
              refine hg_one 31 (by rfl) (by kernel_rfl) (want_t (dj := 36) (by rfl) (by kernel_rfl) rfl) ?_
              obtain ⟨bs25, hbs25⟩ : ∃ q, q = w22.heap.size := ⟨_, rfl⟩
              refine lg_mkR (K := 3) 3 (want_t (dj := 36) (by rfl) (by kernel_rfl) rfl) (by omega) (by omega) rfl rfl rfl rfl (by decide) fun s24 w24 f24 g24 l24 => ?_
              rw [← hbs25] at g24
              have z24 := l24.size
              refine hg_next l24 ?_
              refine hg_up l24 ?_
              have u := u.trans (hw22.mono u.size)
              have u := u.trans (l24.mono u.size)
              refine hg_one 32 (by rfl) (by kernel_rfl) (want_t (dj := 36) (by rfl) (by kernel_rfl) rfl) ?_
              refine lg_callw (want_t (dj := 36) (by rfl) (by kernel_rfl) rfl) (of_any ((g24.rowS (by omega)).more (B' := w24.heap.size) (by omega)) 1 (Nat.le_refl _) (Tt.up u rg)) (by kernel_rfl) rfl rfl rfl (by decide) ?_
              rintro _ w26 ⟨r26, rfl, m26, hw26⟩
              have zw26 := hw26.size
              have ol26 := ofH_len (trAs (List.replicate 3 Nd.zero)) 1
              refine hg_next hw26 ?_
              refine hg_up hw26 ?_
              have by27 : Bytes (ofH (trAs (List.replicate 3 Nd.zero)) 1) := m26.bytes
              refine hg_take 33 (by rfl) (want_t (dj := 36) (by rfl) (by kernel_rfl) rfl) (by rfl) rfl (by decide) (by kernel_rfl) (by kernel_rfl) (by kernel_rfl) (fun _ _ _ h => h) (Below.refl _ _) (fun q hq => y_strS (m26.below (hq.mono (by omega))) rfl rfl) ?_
              refine hg_take 34 (by rfl) (want_t (dj := 36) (by rfl) (by kernel_rfl) rfl) (by rfl) rfl (by decide) (by kernel_rfl) (by kernel_rfl) (by kernel_rfl) (fun _ _ _ h => h) (Below.refl _ _) (fun q hq => yb (decide_eq_true (show (ofH (dropL ([0] : List Int) (trAs ([(⟨1, (⟨([7] : List Int), [], 1, []⟩ : Lf), Pn.zero⟩ : Nd), Nd.zero, Nd.zero] : List Nd))) 1) = (ofH (trAs (List.replicate 3 Nd.zero)) 1) from aw_without)) (y_seqS (xs := (ofH (dropL ([0] : List Int) (trAs ([(⟨1, (⟨([7] : List Int), [], 1, []⟩ : Lf), Pn.zero⟩ : Nd), Nd.zero, Nd.zero] : List Nd))) 1)) (ys := (ofH (trAs (List.replicate 3 Nd.zero)) 1)) by23 by27 rfl rfl rfl)) ?_
              refine zh 35 rfl rfl rfl rfl rfl (by kernel_rfl) (fun _ _ _ h => h) (fun q hq => y_pick true rfl rfl rfl) ?_
              refine zh 36 rfl rfl rfl rfl rfl (by kernel_rfl) (fun _ _ _ h => h) (fun q hq => y_assign rfl rfl) ?_
              refine hg_done (by kernel_rfl) ?_
              refine nx (zk1 0 rfl fn) ?_
              refine cg_ret ?_
              have u := u.trans (hw26.mono u.size)
              exact eg_ret_tmp rfl rfl ⟨_, rfl, rfl, u⟩
            · obtain ⟨bs29, hbs29⟩ : ∃ q, q = w21.heap.size := ⟨_, rfl⟩
              refine lg_mkR (K := 3) 3 (want_t (dj := 36) (by rfl) (by kernel_rfl) rfl) (by omega) (by omega) rfl rfl rfl rfl (by decide) fun s28 w28 f28 g28 l28 => ?_
              rw [← hbs29] at g28
              have z28 := l28.size
              refine hg_next l28 ?_
              refine hg_up l28 ?_
              have g4 := g4.keep hw17 (by omega)
              have g4 := g4.keep l18 (by omega)
              have g4 := g4.keep hw20 (by omega)
              have g4 := g4.keep n21.below (by omega)
              have g4 := g4.keep l28 (by omega)
              have m21 := m21.below (l28.mono (by omega))
              have u := u.trans (hw15.mono u.size)
              have u := u.trans (n16.below.mono u.size)
              have u := u.trans (hw17.mono u.size)
              have u := u.trans (l18.mono u.size)
              have u := u.trans (hw20.mono u.size)
              have u := u.trans (n21.below.mono u.size)
              have u := u.trans (l28.mono u.size)
              refine hg_one 29 (by rfl) (by kernel_rfl) (want_t (dj := 36) (by rfl) (by kernel_rfl) rfl) ?_
              refine lg_callw (want_t (dj := 36) (by rfl) (by kernel_rfl) rfl) (without_any ((g4.rowS (by omega)).more (B' := w28.heap.size) (by omega)) 1 (m21.more (B' := w28.heap.size) (by omega)) (Nat.le_refl _) (by first | omega | (simp only [List.length_cons, List.length_nil]; omega)) (Tt.up u rg)) (by kernel_rfl) rfl rfl rfl (by decide) ?_
              rintro _ w30 ⟨r30, rfl, m30, hw30⟩
              have zw30 := hw30.size
              have ol30 := ofH_len (dropL ([0] : List Int) (trAs ([(⟨1, (⟨([7] : List Int), [], 1, []⟩ : Lf), Pn.zero⟩ : Nd), Nd.zero, Nd.zero] : List Nd))) 1
              refine hg_next hw30 ?_
              refine hg_up hw30 ?_
              have by31 : Bytes (ofH (dropL ([0] : List Int) (trAs ([(⟨1, (⟨([7] : List Int), [], 1, []⟩ : Lf), Pn.zero⟩ : Nd), Nd.zero, Nd.zero] : List Nd))) 1) := m30.bytes
              refine hg_take 30 (by rfl) (want_t (dj := 36) (by rfl) (by kernel_rfl) rfl) (by rfl) rfl (by decide) (by kernel_rfl) (by kernel_rfl) (by kernel_rfl) (fun _ _ _ h => h) (Below.refl _ _) (fun q hq => y_strS (m30.below (hq.mono (by omega))) rfl rfl) ?_
              have g28 := g28.keep hw30 (by omega)
              have u := u.trans (hw30.mono u.size)
              refine hg_one 32 (by rfl) (by kernel_rfl) (want_t (dj := 36) (by rfl) (by kernel_rfl) rfl) ?_
              refine lg_callw (want_t (dj := 36) (by rfl) (by kernel_rfl) rfl) (of_any ((g28.rowS (by omega)).more (B' := w30.heap.size) (by omega)) 1 (Nat.le_refl _) (Tt.up u rg)) (by kernel_rfl) rfl rfl rfl (by decide) ?_
              rintro _ w32 ⟨r32, rfl, m32, hw32⟩
              have zw32 := hw32.size
              have ol32 := ofH_len (trAs (List.replicate 3 Nd.zero)) 1
              refine hg_next hw32 ?_
              refine hg_up hw32 ?_
              have by33 : Bytes (ofH (trAs (List.replicate 3 Nd.zero)) 1) := m32.bytes
              refine hg_take 33 (by rfl) (want_t (dj := 36) (by rfl) (by kernel_rfl) rfl) (by rfl) rfl (by decide) (by kernel_rfl) (by kernel_rfl) (by kernel_rfl) (fun _ _ _ h => h) (Below.refl _ _) (fun q hq => y_strS (m32.below (hq.mono (by omega))) rfl rfl) ?_
              refine hg_take 34 (by rfl) (want_t (dj := 36) (by rfl) (by kernel_rfl) rfl) (by rfl) rfl (by decide) (by kernel_rfl) (by kernel_rfl) (by kernel_rfl) (fun _ _ _ h => h) (Below.refl _ _) (fun q hq => yb (decide_eq_true (show (ofH (dropL ([0] : List Int) (trAs ([(⟨1, (⟨([7] : List Int), [], 1, []⟩ : Lf), Pn.zero⟩ : Nd), Nd.zero, Nd.zero] : List Nd))) 1) = (ofH (trAs (List.replicate 3 Nd.zero)) 1) from aw_without)) (y_seqS (xs := (ofH (dropL ([0] : List Int) (trAs ([(⟨1, (⟨([7] : List Int), [], 1, []⟩ : Lf), Pn.zero⟩ : Nd), Nd.zero, Nd.zero] : List Nd))) 1)) (ys := (ofH (trAs (List.replicate 3 Nd.zero)) 1)) by31 by33 rfl rfl rfl)) ?_
              refine zh 35 rfl rfl rfl rfl rfl (by kernel_rfl) (fun _ _ _ h => h) (fun q hq => y_pick true rfl rfl rfl) ?_
              refine zh 36 rfl rfl rfl rfl rfl (by kernel_rfl) (fun _ _ _ h => h) (fun q hq => y_assign rfl rfl) ?_
              refine hg_done (by kernel_rfl) ?_
              refine nx (zk1 0 rfl fn) ?_
              refine cg_ret ?_
              have u := u.trans (hw32.mono u.size)
              exact eg_ret_tmp rfl rfl ⟨_, rfl, rfl, u⟩
          · obtain ⟨bs35, hbs35⟩ : ∃ q, q = w20.heap.size := ⟨_, rfl⟩
            refine lg_mkR (K := 3) 3 (want_t (dj := 36) (by rfl) (by kernel_rfl) rfl) (by omega) (by omega) rfl rfl rfl rfl (by decide) fun s34 w34 f34 g34 l34 => ?_
            rw [← hbs35] at g34
            have z34 := l34.size
            refine hg_next l34 ?_
            refine hg_up l34 ?_
            refine hg_one 28 (by rfl) (by kernel_rfl) (want_t (dj := 36) (by rfl) (by kernel_rfl) rfl) ?_
            refine lg_bsliceW (el := 3) (z := nv 0) (cs := #[nv 0]) (want_t (dj := 36) (by rfl) (by kernel_rfl) rfl) huIs (by kernel_rfl) (by decide) (by decide) rfl rfl (by kernel_rfl) rfl (by decide) fun b36 w36 n36 => ?_
            have r36 := n36.row
            have k36 := n36.blk
            have z36 := n36.size
            have m36 : SlN w36 (b36 + 1) ⟨some ⟨b36, 0, none⟩, 1, 1⟩ [0] := new_SlN (xs := [0]) r36 rfl (of_decide_eq_true (by kernel_rfl))
            have og36 : w36.ownsRow b36 3 1 (.slice (some ⟨b36, 0, none⟩) 1 1) ([0] : List Int).length (([0] : List Int).map (Value.int .i64)) := new_ownN (xs := [0]) n36 rfl (of_decide_eq_true (by kernel_rfl))
            refine hg_next n36.below ?_
            refine hg_up n36.below ?_
            have g4 := g4.keep hw17 (by omega)
            have g4 := g4.keep l18 (by omega)
            have g4 := g4.keep hw20 (by omega)
            have g4 := g4.keep l34 (by omega)
            have g4 := g4.keep n36.below (by omega)
            have u := u.trans (hw15.mono u.size)
            have u := u.trans (n16.below.mono u.size)
            have u := u.trans (hw17.mono u.size)
            have u := u.trans (l18.mono u.size)
            have u := u.trans (hw20.mono u.size)
            have u := u.trans (l34.mono u.size)
            have u := u.trans (n36.below.mono u.size)
            refine hg_one 29 (by rfl) (by kernel_rfl) (want_t (dj := 36) (by rfl) (by kernel_rfl) rfl) ?_
            refine lg_callw (want_t (dj := 36) (by rfl) (by kernel_rfl) rfl) (without_any ((g4.rowS (by omega)).more (B' := w36.heap.size) (by omega)) 1 (m36.more (B' := w36.heap.size) (by omega)) (Nat.le_refl _) (by first | omega | (simp only [List.length_cons, List.length_nil]; omega)) (Tt.up u rg)) (by kernel_rfl) rfl rfl rfl (by decide) ?_
            rintro _ w37 ⟨r37, rfl, m37, hw37⟩
            have zw37 := hw37.size
            have ol37 := ofH_len (dropL ([0] : List Int) (trAs ([(⟨1, (⟨([7] : List Int), [], 1, []⟩ : Lf), Pn.zero⟩ : Nd), Nd.zero, Nd.zero] : List Nd))) 1
            refine hg_next hw37 ?_
            refine hg_up hw37 ?_
            have by38 : Bytes (ofH (dropL ([0] : List Int) (trAs ([(⟨1, (⟨([7] : List Int), [], 1, []⟩ : Lf), Pn.zero⟩ : Nd), Nd.zero, Nd.zero] : List Nd))) 1) := m37.bytes
            refine hg_take 30 (by rfl) (want_t (dj := 36) (by rfl) (by kernel_rfl) rfl) (by rfl) rfl (by decide) (by kernel_rfl) (by kernel_rfl) (by kernel_rfl) (fun _ _ _ h => h) (Below.refl _ _) (fun q hq => y_strS (m37.below (hq.mono (by omega))) rfl rfl) ?_
            have g34 := g34.keep n36.below (by omega)
            have g34 := g34.keep hw37 (by omega)
            have u := u.trans (hw37.mono u.size)
            refine hg_one 32 (by rfl) (by kernel_rfl) (want_t (dj := 36) (by rfl) (by kernel_rfl) rfl) ?_
            refine lg_callw (want_t (dj := 36) (by rfl) (by kernel_rfl) rfl) (of_any ((g34.rowS (by omega)).more (B' := w37.heap.size) (by omega)) 1 (Nat.le_refl _) (Tt.up u rg)) (by kernel_rfl) rfl rfl rfl (by decide) ?_
            rintro _ w39 ⟨r39, rfl, m39, hw39⟩
            have zw39 := hw39.size
            have ol39 := ofH_len (trAs (List.replicate 3 Nd.zero)) 1
            refine hg_next hw39 ?_
            refine hg_up hw39 ?_
            have by40 : Bytes (ofH (trAs (List.replicate 3 Nd.zero)) 1) := m39.bytes
            refine hg_take 33 (by rfl) (want_t (dj := 36) (by rfl) (by kernel_rfl) rfl) (by rfl) rfl (by decide) (by kernel_rfl) (by kernel_rfl) (by kernel_rfl) (fun _ _ _ h => h) (Below.refl _ _) (fun q hq => y_strS (m39.below (hq.mono (by omega))) rfl rfl) ?_
            refine hg_take 34 (by rfl) (want_t (dj := 36) (by rfl) (by kernel_rfl) rfl) (by rfl) rfl (by decide) (by kernel_rfl) (by kernel_rfl) (by kernel_rfl) (fun _ _ _ h => h) (Below.refl _ _) (fun q hq => yb (decide_eq_true (show (ofH (dropL ([0] : List Int) (trAs ([(⟨1, (⟨([7] : List Int), [], 1, []⟩ : Lf), Pn.zero⟩ : Nd), Nd.zero, Nd.zero] : List Nd))) 1) = (ofH (trAs (List.replicate 3 Nd.zero)) 1) from aw_without)) (y_seqS (xs := (ofH (dropL ([0] : List Int) (trAs ([(⟨1, (⟨([7] : List Int), [], 1, []⟩ : Lf), Pn.zero⟩ : Nd), Nd.zero, Nd.zero] : List Nd))) 1)) (ys := (ofH (trAs (List.replicate 3 Nd.zero)) 1)) by38 by40 rfl rfl rfl)) ?_
            refine zh 35 rfl rfl rfl rfl rfl (by kernel_rfl) (fun _ _ _ h => h) (fun q hq => y_pick true rfl rfl rfl) ?_
            refine zh 36 rfl rfl rfl rfl rfl (by kernel_rfl) (fun _ _ _ h => h) (fun q hq => y_assign rfl rfl) ?_
            refine hg_done (by kernel_rfl) ?_
            refine nx (zk1 0 rfl fn) ?_
            refine cg_ret ?_
            have u := u.trans (hw39.mono u.size)
            exact eg_ret_tmp rfl rfl ⟨_, rfl, rfl, u⟩
        · obtain ⟨bs42, hbs42⟩ : ∃ q, q = w16.heap.size := ⟨_, rfl⟩
          refine lg_mkR (K := 3) 3 (want_t (dj := 29) (by rfl) (by kernel_rfl) rfl) (by omega) (by omega) rfl rfl rfl rfl (by decide) fun s41 w41 f41 g41 l41 => ?_
          rw [← hbs42] at g41
          have z41 := l41.size
          refine hg_next l41 ?_
          refine hg_up l41 ?_
          have g4 := g4.keep hw15 (by omega)
          have g4 := g4.keep n16.below (by omega)
          have g4 := g4.keep l41 (by omega)
          have m16 := m16.below (l41.mono (by omega))
          refine hg_one 22 (by rfl) (by kernel_rfl) (want_t (dj := 29) (by rfl) (by kernel_rfl) rfl) ?_
          refine lg_callw (want_t (dj := 29) (by rfl) (by kernel_rfl) rfl) (drop_any ((g4.rowS (by omega)).more (B' := w41.heap.size) (by omega)) (m16.more (B' := w41.heap.size) (by omega)) (Nat.le_refl _) (by first | omega | (simp only [List.length_cons, List.length_nil]; omega))) (by kernel_rfl) rfl rfl rfl (by decide) ?_
          rintro _ w43 ⟨s43, rfl, m43, hw43⟩
          have zw43 := hw43.size
          refine hg_next hw43 ?_
          refine hg_up hw43 ?_
          have g41 := g41.keep hw43 (by omega)
          refine hg_one 24 (by rfl) (by kernel_rfl) (want_t (dj := 29) (by rfl) (by kernel_rfl) rfl) ?_
          refine lg_callw (want_t (dj := 29) (by rfl) (by kernel_rfl) rfl) (sameR_any (m43.more (B' := w43.heap.size) (by omega)) ((g41.rowS (by omega)).more (B' := w43.heap.size) (by omega)) (Nat.le_refl _)) (by kernel_rfl) rfl rfl rfl (by decide) ?_
          rintro u44 w44 ⟨e44, hw44⟩
          have zw44 := hw44.size
          obtain rfl : u44 = .bool true := e44.trans (congrArg Value.bool (decide_eq_true (show trSame (dropL ([0] : List Int) (trAs ([(⟨1, (⟨([7] : List Int), [], 1, []⟩ : Lf), Pn.zero⟩ : Nd), Nd.zero, Nd.zero] : List Nd))) (List.replicate 3 Nd.zero) from aw_same)))
          refine hg_next hw44 ?_
          refine hg_up hw44 ?_
          refine zh 25 rfl rfl rfl rfl rfl (by kernel_rfl) (fun _ _ _ h => h) (fun q hq => y_pick true rfl rfl rfl) ?_
          refine zh 26 rfl rfl rfl rfl rfl (by kernel_rfl) (fun _ _ _ h => h) (fun q hq => y_move rfl rfl) ?_
          refine hg_take 27 (by rfl) (want_t (dj := 36) (by rfl) (by kernel_rfl) rfl) (by rfl) rfl (by decide) (by kernel_rfl) (by kernel_rfl) (by kernel_rfl) (fun _ _ _ h => h) (Below.refl _ _) (fun q hq => y_move rfl rfl) ?_
          refine hg_two 28 31 (by rfl) (by rfl) (by kernel_rfl) (want_t (dj := 36) (by rfl) (by kernel_rfl) rfl) (want_t (dj := 36) (by rfl) (by kernel_rfl) rfl) ?_ ?_
          · refine lg_bsliceW (el := 3) (z := nv 0) (cs := #[nv 0]) (want_t (dj := 36) (by rfl) (by kernel_rfl) rfl) huIs (by kernel_rfl) (by decide) (by decide) rfl rfl (by kernel_rfl) rfl (by decide) fun b45 w45 n45 => ?_
            have r45 := n45.row
            have k45 := n45.blk
            have z45 := n45.size
            have m45 : SlN w45 (b45 + 1) ⟨some ⟨b45, 0, none⟩, 1, 1⟩ [0] := new_SlN (xs := [0]) r45 rfl (of_decide_eq_true (by kernel_rfl))
            have og45 : w45.ownsRow b45 3 1 (.slice (some ⟨b45, 0, none⟩) 1 1) ([0] : List Int).length (([0] : List Int).map (Value.int .i64)) := new_ownN (xs := [0]) n45 rfl (of_decide_eq_true (by kernel_rfl))
            refine hg_next n45.below ?_
            refine hg_up n45.below ?_
            refine hg_two 29 31 (by rfl) (by rfl) (by kernel_rfl) (want_t (dj := 36) (by rfl) (by kernel_rfl) rfl) (want_t (dj := 36) (by rfl) (by kernel_rfl) rfl) ?_ ?_
            · have g4 := g4.keep hw43 (by omega)
              have g4 := g4.keep hw44 (by omega)
              have g4 := g4.keep n45.below (by omega)
              have u := u.trans (hw15.mono u.size)
              have u := u.trans (n16.below.mono u.size)
              have u := u.trans (l41.mono u.size)
              have u := u.trans (hw43.mono u.size)
              have u := u.trans (hw44.mono u.size)
              have u := u.trans (n45.below.mono u.size)
              refine lg_callw (want_t (dj := 36) (by rfl) (by kernel_rfl) rfl) (without_any ((g4.rowS (by omega)).more (B' := w45.heap.size) (by omega)) 1 (m45.more (B' := w45.heap.size) (by omega)) (Nat.le_refl _) (by first | omega | (simp only [List.length_cons, List.length_nil]; omega)) (Tt.up u rg)) (by kernel_rfl) rfl rfl rfl (by decide) ?_
              rintro _ w46 ⟨r46, rfl, m46, hw46⟩
              have zw46 := hw46.size
              have ol46 := ofH_len (dropL ([0] : List Int) (trAs ([(⟨1, (⟨([7] : List Int), [], 1, []⟩ : Lf), Pn.zero⟩ : Nd), Nd.zero, Nd.zero] : List Nd))) 1
              refine hg_next hw46 ?_
              refine hg_up hw46 ?_
              have by47 : Bytes (ofH (dropL ([0] : List Int) (trAs ([(⟨1, (⟨([7] : List Int), [], 1, []⟩ : Lf), Pn.zero⟩ : Nd), Nd.zero, Nd.zero] : List Nd))) 1) := m46.bytes
              refine hg_take 30 (by rfl) (want_t (dj := 36) (by rfl) (by kernel_rfl) rfl) (by rfl) rfl (by decide) (by kernel_rfl) (by kernel_rfl) (by kernel_rfl) (fun _ _ _ h => h) (Below.refl _ _) (fun q hq => y_strS (m46.below (hq.mono (by omega))) rfl rfl) ?_
              refine hg_one 31 (by rfl) (by kernel_rfl) (want_t (dj := 36) (by rfl) (by kernel_rfl) rfl) ?_
              obtain ⟨bs49, hbs49⟩ : ∃ q, q = w46.heap.size := ⟨_, rfl⟩
              refine lg_mkR (K := 3) 3 (want_t (dj := 36) (by rfl) (by kernel_rfl) rfl) (by omega) (by omega) rfl rfl rfl rfl (by decide) fun s48 w48 f48 g48 l48 => ?_
              rw [← hbs49] at g48
              have z48 := l48.size
              refine hg_next l48 ?_
              refine hg_up l48 ?_
              have u := u.trans (hw46.mono u.size)
              have u := u.trans (l48.mono u.size)
              refine hg_one 32 (by rfl) (by kernel_rfl) (want_t (dj := 36) (by rfl) (by kernel_rfl) rfl) ?_
              refine lg_callw (want_t (dj := 36) (by rfl) (by kernel_rfl) rfl) (of_any ((g48.rowS (by omega)).more (B' := w48.heap.size) (by omega)) 1 (Nat.le_refl _) (Tt.up u rg)) (by kernel_rfl) rfl rfl rfl (by decide) ?_
              rintro _ w50 ⟨r50, rfl, m50, hw50⟩
              have zw50 := hw50.size
              have ol50 := ofH_len (trAs (List.replicate 3 Nd.zero)) 1
              refine hg_next hw50 ?_
              refine hg_up hw50 ?_
              have by51 : Bytes (ofH (trAs (List.replicate 3 Nd.zero)) 1) := m50.bytes
              refine hg_take 33 (by rfl) (want_t (dj := 36) (by rfl) (by kernel_rfl) rfl) (by rfl) rfl (by decide) (by kernel_rfl) (by kernel_rfl) (by kernel_rfl) (fun _ _ _ h => h) (Below.refl _ _) (fun q hq => y_strS (m50.below (hq.mono (by omega))) rfl rfl) ?_
              refine hg_take 34 (by rfl) (want_t (dj := 36) (by rfl) (by kernel_rfl) rfl) (by rfl) rfl (by decide) (by kernel_rfl) (by kernel_rfl) (by kernel_rfl) (fun _ _ _ h => h) (Below.refl _ _) (fun q hq => yb (decide_eq_true (show (ofH (dropL ([0] : List Int) (trAs ([(⟨1, (⟨([7] : List Int), [], 1, []⟩ : Lf), Pn.zero⟩ : Nd), Nd.zero, Nd.zero] : List Nd))) 1) = (ofH (trAs (List.replicate 3 Nd.zero)) 1) from aw_without)) (y_seqS (xs := (ofH (dropL ([0] : List Int) (trAs ([(⟨1, (⟨([7] : List Int), [], 1, []⟩ : Lf), Pn.zero⟩ : Nd), Nd.zero, Nd.zero] : List Nd))) 1)) (ys := (ofH (trAs (List.replicate 3 Nd.zero)) 1)) by47 by51 rfl rfl rfl)) ?_
              refine zh 35 rfl rfl rfl rfl rfl (by kernel_rfl) (fun _ _ _ h => h) (fun q hq => y_pick true rfl rfl rfl) ?_
              refine zh 36 rfl rfl rfl rfl rfl (by kernel_rfl) (fun _ _ _ h => h) (fun q hq => y_assign rfl rfl) ?_
              refine hg_done (by kernel_rfl) ?_
              refine nx (zk1 0 rfl fn) ?_
              refine cg_ret ?_
              have u := u.trans (hw50.mono u.size)
              exact eg_ret_tmp rfl rfl ⟨_, rfl, rfl, u⟩
            · obtain ⟨bs53, hbs53⟩ : ∃ q, q = w45.heap.size := ⟨_, rfl⟩
              refine lg_mkR (K := 3) 3 (want_t (dj := 36) (by rfl) (by kernel_rfl) rfl) (by omega) (by omega) rfl rfl rfl rfl (by decide) fun s52 w52 f52 g52 l52 => ?_
              rw [← hbs53] at g52
              have z52 := l52.size
              refine hg_next l52 ?_
              refine hg_up l52 ?_
              have g4 := g4.keep hw43 (by omega)
              have g4 := g4.keep hw44 (by omega)
              have g4 := g4.keep n45.below (by omega)
              have g4 := g4.keep l52 (by omega)
              have m45 := m45.below (l52.mono (by omega))
              have u := u.trans (hw15.mono u.size)
              have u := u.trans (n16.below.mono u.size)
              have u := u.trans (l41.mono u.size)
              have u := u.trans (hw43.mono u.size)
              have u := u.trans (hw44.mono u.size)
              have u := u.trans (n45.below.mono u.size)
              have u := u.trans (l52.mono u.size)
              refine hg_one 29 (by rfl) (by kernel_rfl) (want_t (dj := 36) (by rfl) (by kernel_rfl) rfl) ?_
              refine lg_callw (want_t (dj := 36) (by rfl) (by kernel_rfl) rfl) (without_any ((g4.rowS (by omega)).more (B' := w52.heap.size) (by omega)) 1 (m45.more (B' := w52.heap.size) (by omega)) (Nat.le_refl _) (by first | omega | (simp only [List.length_cons, List.length_nil]; omega)) (Tt.up u rg)) (by kernel_rfl) rfl rfl rfl (by decide) ?_
              rintro _ w54 ⟨r54, rfl, m54, hw54⟩
              have zw54 := hw54.size
              have ol54 := ofH_len (dropL ([0] : List Int) (trAs ([(⟨1, (⟨([7] : List Int), [], 1, []⟩ : Lf), Pn.zero⟩ : Nd), Nd.zero, Nd.zero] : List Nd))) 1
              refine hg_next hw54 ?_
              refine hg_up hw54 ?_
              have by55 : Bytes (ofH (dropL ([0] : List Int) (trAs ([(⟨1, (⟨([7] : List Int), [], 1, []⟩ : Lf), Pn.zero⟩ : Nd), Nd.zero, Nd.zero] : List Nd))) 1) := m54.bytes
              refine hg_take 30 (by rfl) (want_t (dj := 36) (by rfl) (by kernel_rfl) rfl) (by rfl) rfl (by decide) (by kernel_rfl) (by kernel_rfl) (by kernel_rfl) (fun _ _ _ h => h) (Below.refl _ _) (fun q hq => y_strS (m54.below (hq.mono (by omega))) rfl rfl) ?_
              have g52 := g52.keep hw54 (by omega)
              have u := u.trans (hw54.mono u.size)
              refine hg_one 32 (by rfl) (by kernel_rfl) (want_t (dj := 36) (by rfl) (by kernel_rfl) rfl) ?_
              refine lg_callw (want_t (dj := 36) (by rfl) (by kernel_rfl) rfl) (of_any ((g52.rowS (by omega)).more (B' := w54.heap.size) (by omega)) 1 (Nat.le_refl _) (Tt.up u rg)) (by kernel_rfl) rfl rfl rfl (by decide) ?_
              rintro _ w56 ⟨r56, rfl, m56, hw56⟩
              have zw56 := hw56.size
              have ol56 := ofH_len (trAs (List.replicate 3 Nd.zero)) 1
              refine hg_next hw56 ?_
              refine hg_up hw56 ?_
              have by57 : Bytes (ofH (trAs (List.replicate 3 Nd.zero)) 1) := m56.bytes
              refine hg_take 33 (by rfl) (want_t (dj := 36) (by rfl) (by kernel_rfl) rfl) (by rfl) rfl (by decide) (by kernel_rfl) (by kernel_rfl) (by kernel_rfl) (fun _ _ _ h => h) (Below.refl _ _) (fun q hq => y_strS (m56.below (hq.mono (by omega))) rfl rfl) ?_
              refine hg_take 34 (by rfl) (want_t (dj := 36) (by rfl) (by kernel_rfl) rfl) (by rfl) rfl (by decide) (by kernel_rfl) (by kernel_rfl) (by kernel_rfl) (fun _ _ _ h => h) (Below.refl _ _) (fun q hq => yb (decide_eq_true (show (ofH (dropL ([0] : List Int) (trAs ([(⟨1, (⟨([7] : List Int), [], 1, []⟩ : Lf), Pn.zero⟩ : Nd), Nd.zero, Nd.zero] : List Nd))) 1) = (ofH (trAs (List.replicate 3 Nd.zero)) 1) from aw_without)) (y_seqS (xs := (ofH (dropL ([0] : List Int) (trAs ([(⟨1, (⟨([7] : List Int), [], 1, []⟩ : Lf), Pn.zero⟩ : Nd), Nd.zero, Nd.zero] : List Nd))) 1)) (ys := (ofH (trAs (List.replicate 3 Nd.zero)) 1)) by55 by57 rfl rfl rfl)) ?_
              refine zh 35 rfl rfl rfl rfl rfl (by kernel_rfl) (fun _ _ _ h => h) (fun q hq => y_pick true rfl rfl rfl) ?_
              refine zh 36 rfl rfl rfl rfl rfl (by kernel_rfl) (fun _ _ _ h => h) (fun q hq => y_assign rfl rfl) ?_
              refine hg_done (by kernel_rfl) ?_
              refine nx (zk1 0 rfl fn) ?_
              refine cg_ret ?_
              have u := u.trans (hw56.mono u.size)
              exact eg_ret_tmp rfl rfl ⟨_, rfl, rfl, u⟩
          · obtain ⟨bs59, hbs59⟩ : ∃ q, q = w44.heap.size := ⟨_, rfl⟩
            refine lg_mkR (K := 3) 3 (want_t (dj := 36) (by rfl) (by kernel_rfl) rfl) (by omega) (by omega) rfl rfl rfl rfl (by decide) fun s58 w58 f58 g58 l58 => ?_
            rw [← hbs59] at g58
            have z58 := l58.size
            refine hg_next l58 ?_
            refine hg_up l58 ?_
            refine hg_one 28 (by rfl) (by kernel_rfl) (want_t (dj := 36) (by rfl) (by kernel_rfl) rfl) ?_
            refine lg_bsliceW (el := 3) (z := nv 0) (cs := #[nv 0]) (want_t (dj := 36) (by rfl) (by kernel_rfl) rfl) huIs (by kernel_rfl) (by decide) (by decide) rfl rfl (by kernel_rfl) rfl (by decide) fun b60 w60 n60 => ?_
            have r60 := n60.row
            have k60 := n60.blk
            have z60 := n60.size
            have m60 : SlN w60 (b60 + 1) ⟨some ⟨b60, 0, none⟩, 1, 1⟩ [0] := new_SlN (xs := [0]) r60 rfl (of_decide_eq_true (by kernel_rfl))
            have og60 : w60.ownsRow b60 3 1 (.slice (some ⟨b60, 0, none⟩) 1 1) ([0] : List Int).length (([0] : List Int).map (Value.int .i64)) := new_ownN (xs := [0]) n60 rfl (of_decide_eq_true (by kernel_rfl))
            refine hg_next n60.below ?_
            refine hg_up n60.below ?_
            have g4 := g4.keep hw43 (by omega)
            have g4 := g4.keep hw44 (by omega)
            have g4 := g4.keep l58 (by omega)
            have g4 := g4.keep n60.below (by omega)
            have u := u.trans (hw15.mono u.size)
            have u := u.trans (n16.below.mono u.size)
            have u := u.trans (l41.mono u.size)
            have u := u.trans (hw43.mono u.size)
            have u := u.trans (hw44.mono u.size)
            have u := u.trans (l58.mono u.size)
            have u := u.trans (n60.below.mono u.size)
            refine hg_one 29 (by rfl) (by kernel_rfl) (want_t (dj := 36) (by rfl) (by kernel_rfl) rfl) ?_
            refine lg_callw (want_t (dj := 36) (by rfl) (by kernel_rfl) rfl) (without_any ((g4.rowS (by omega)).more (B' := w60.heap.size) (by omega)) 1 (m60.more (B' := w60.heap.size) (by omega)) (Nat.le_refl _) (by first | omega | (simp only [List.length_cons, List.length_nil]; omega)) (Tt.up u rg)) (by kernel_rfl) rfl rfl rfl (by decide) ?_
            rintro _ w61 ⟨r61, rfl, m61, hw61⟩
            have zw61 := hw61.size
            have ol61 := ofH_len (dropL ([0] : List Int) (trAs ([(⟨1, (⟨([7] : List Int), [], 1, []⟩ : Lf), Pn.zero⟩ : Nd), Nd.zero, Nd.zero] : List Nd))) 1
            refine hg_next hw61 ?_
            refine hg_up hw61 ?_
            have by62 : Bytes (ofH (dropL ([0] : List Int) (trAs ([(⟨1, (⟨([7] : List Int), [], 1, []⟩ : Lf), Pn.zero⟩ : Nd), Nd.zero, Nd.zero] : List Nd))) 1) := m61.bytes
            refine hg_take 30 (by rfl) (want_t (dj := 36) (by rfl) (by kernel_rfl) rfl) (by rfl) rfl (by decide) (by kernel_rfl) (by kernel_rfl) (by kernel_rfl) (fun _ _ _ h => h) (Below.refl _ _) (fun q hq => y_strS (m61.below (hq.mono (by omega))) rfl rfl) ?_
            have g58 := g58.keep n60.below (by omega)
            have g58 := g58.keep hw61 (by omega)
            have u := u.trans (hw61.mono u.size)
            refine hg_one 32 (by rfl) (by kernel_rfl) (want_t (dj := 36) (by rfl) (by kernel_rfl) rfl) ?_
            refine lg_callw (want_t (dj := 36) (by rfl) (by kernel_rfl) rfl) (of_any ((g58.rowS (by omega)).more (B' := w61.heap.size) (by omega)) 1 (Nat.le_refl _) (Tt.up u rg)) (by kernel_rfl) rfl rfl rfl (by decide) ?_
            rintro _ w63 ⟨r63, rfl, m63, hw63⟩
            have zw63 := hw63.size
            have ol63 := ofH_len (trAs (List.replicate 3 Nd.zero)) 1
            refine hg_next hw63 ?_
            refine hg_up hw63 ?_
            have by64 : Bytes (ofH (trAs (List.replicate 3 Nd.zero)) 1) := m63.bytes
            refine hg_take 33 (by rfl) (want_t (dj := 36) (by rfl) (by kernel_rfl) rfl) (by rfl) rfl (by decide) (by kernel_rfl) (by kernel_rfl) (by kernel_rfl) (fun _ _ _ h => h) (Below.refl _ _) (fun q hq => y_strS (m63.below (hq.mono (by omega))) rfl rfl) ?_
            refine hg_take 34 (by rfl) (want_t (dj := 36) (by rfl) (by kernel_rfl) rfl) (by rfl) rfl (by decide) (by kernel_rfl) (by kernel_rfl) (by kernel_rfl) (fun _ _ _ h => h) (Below.refl _ _) (fun q hq => yb (decide_eq_true (show (ofH (dropL ([0] : List Int) (trAs ([(⟨1, (⟨([7] : List Int), [], 1, []⟩ : Lf), Pn.zero⟩ : Nd), Nd.zero, Nd.zero] : List Nd))) 1) = (ofH (trAs (List.replicate 3 Nd.zero)) 1) from aw_without)) (y_seqS (xs := (ofH (dropL ([0] : List Int) (trAs ([(⟨1, (⟨([7] : List Int), [], 1, []⟩ : Lf), Pn.zero⟩ : Nd), Nd.zero, Nd.zero] : List Nd))) 1)) (ys := (ofH (trAs (List.replicate 3 Nd.zero)) 1)) by62 by64 rfl rfl rfl)) ?_
            refine zh 35 rfl rfl rfl rfl rfl (by kernel_rfl) (fun _ _ _ h => h) (fun q hq => y_pick true rfl rfl rfl) ?_
            refine zh 36 rfl rfl rfl rfl rfl (by kernel_rfl) (fun _ _ _ h => h) (fun q hq => y_assign rfl rfl) ?_
            refine hg_done (by kernel_rfl) ?_
            refine nx (zk1 0 rfl fn) ?_
            refine cg_ret ?_
            have u := u.trans (hw63.mono u.size)
            exact eg_ret_tmp rfl rfl ⟨_, rfl, rfl, u⟩
      · obtain ⟨bs66, hbs66⟩ : ∃ q, q = w15.heap.size := ⟨_, rfl⟩
        refine lg_mkR (K := 3) 3 (want_t (dj := 29) (by rfl) (by kernel_rfl) rfl) (by omega) (by omega) rfl rfl rfl rfl (by decide) fun s65 w65 f65 g65 l65 => ?_
        rw [← hbs66] at g65
        have z65 := l65.size
        refine hg_next l65 ?_
        refine hg_up l65 ?_
        refine hg_one 21 (by rfl) (by kernel_rfl) (want_t (dj := 29) (by rfl) (by kernel_rfl) rfl) ?_
        refine lg_bsliceW (el := 3) (z := nv 0) (cs := #[nv 0]) (want_t (dj := 29) (by rfl) (by kernel_rfl) rfl) huIs (by kernel_rfl) (by decide) (by decide) rfl rfl (by kernel_rfl) rfl (by decide) fun b67 w67 n67 => ?_
        have r67 := n67.row
        have k67 := n67.blk
        have z67 := n67.size
        have m67 : SlN w67 (b67 + 1) ⟨some ⟨b67, 0, none⟩, 1, 1⟩ [0] := new_SlN (xs := [0]) r67 rfl (of_decide_eq_true (by kernel_rfl))
        have og67 : w67.ownsRow b67 3 1 (.slice (some ⟨b67, 0, none⟩) 1 1) ([0] : List Int).length (([0] : List Int).map (Value.int .i64)) := new_ownN (xs := [0]) n67 rfl (of_decide_eq_true (by kernel_rfl))
        refine hg_next n67.below ?_
        refine hg_up n67.below ?_
        have g4 := g4.keep hw15 (by omega)
        have g4 := g4.keep l65 (by omega)
        have g4 := g4.keep n67.below (by omega)
        refine hg_one 22 (by rfl) (by kernel_rfl) (want_t (dj := 29) (by rfl) (by kernel_rfl) rfl) ?_
        refine lg_callw (want_t (dj := 29) (by rfl) (by kernel_rfl) rfl) (drop_any ((g4.rowS (by omega)).more (B' := w67.heap.size) (by omega)) (m67.more (B' := w67.heap.size) (by omega)) (Nat.le_refl _) (by first | omega | (simp only [List.length_cons, List.length_nil]; omega))) (by kernel_rfl) rfl rfl rfl (by decide) ?_
        rintro _ w68 ⟨s68, rfl, m68, hw68⟩
        have zw68 := hw68.size
        refine hg_next hw68 ?_
        refine hg_up hw68 ?_
        have g65 := g65.keep n67.below (by omega)
        have g65 := g65.keep hw68 (by omega)
        refine hg_one 24 (by rfl) (by kernel_rfl) (want_t (dj := 29) (by rfl) (by kernel_rfl) rfl) ?_
        refine lg_callw (want_t (dj := 29) (by rfl) (by kernel_rfl) rfl) (sameR_any (m68.more (B' := w68.heap.size) (by omega)) ((g65.rowS (by omega)).more (B' := w68.heap.size) (by omega)) (Nat.le_refl _)) (by kernel_rfl) rfl rfl rfl (by decide) ?_
        rintro u69 w69 ⟨e69, hw69⟩
        have zw69 := hw69.size
        obtain rfl : u69 = .bool true := e69.trans (congrArg Value.bool (decide_eq_true (show trSame (dropL ([0] : List Int) (trAs ([(⟨1, (⟨([7] : List Int), [], 1, []⟩ : Lf), Pn.zero⟩ : Nd), Nd.zero, Nd.zero] : List Nd))) (List.replicate 3 Nd.zero) from aw_same)))
        refine hg_next hw69 ?_
        refine hg_up hw69 ?_
        refine zh 25 rfl rfl rfl rfl rfl (by kernel_rfl) (fun _ _ _ h => h) (fun q hq => y_pick true rfl rfl rfl) ?_
        refine zh 26 rfl rfl rfl rfl rfl (by kernel_rfl) (fun _ _ _ h => h) (fun q hq => y_move rfl rfl) ?_
        refine hg_take 27 (by rfl) (want_t (dj := 36) (by rfl) (by kernel_rfl) rfl) (by rfl) rfl (by decide) (by kernel_rfl) (by kernel_rfl) (by kernel_rfl) (fun _ _ _ h => h) (Below.refl _ _) (fun q hq => y_move rfl rfl) ?_
        refine hg_two 28 31 (by rfl) (by rfl) (by kernel_rfl) (want_t (dj := 36) (by rfl) (by kernel_rfl) rfl) (want_t (dj := 36) (by rfl) (by kernel_rfl) rfl) ?_ ?_
        · refine lg_bsliceW (el := 3) (z := nv 0) (cs := #[nv 0]) (want_t (dj := 36) (by rfl) (by kernel_rfl) rfl) huIs (by kernel_rfl) (by decide) (by decide) rfl rfl (by kernel_rfl) rfl (by decide) fun b70 w70 n70 => ?_
          have r70 := n70.row
          have k70 := n70.blk
          have z70 := n70.size
          have m70 : SlN w70 (b70 + 1) ⟨some ⟨b70, 0, none⟩, 1, 1⟩ [0] := new_SlN (xs := [0]) r70 rfl (of_decide_eq_true (by kernel_rfl))
          have og70 : w70.ownsRow b70 3 1 (.slice (some ⟨b70, 0, none⟩) 1 1) ([0] : List Int).length (([0] : List Int).map (Value.int .i64)) := new_ownN (xs := [0]) n70 rfl (of_decide_eq_true (by kernel_rfl))
          refine hg_next n70.below ?_
          refine hg_up n70.below ?_
          refine hg_two 29 31 (by rfl) (by rfl) (by kernel_rfl) (want_t (dj := 36) (by rfl) (by kernel_rfl) rfl) (want_t (dj := 36) (by rfl) (by kernel_rfl) rfl) ?_ ?_
          · have g4 := g4.keep hw68 (by omega)
            have g4 := g4.keep hw69 (by omega)
            have g4 := g4.keep n70.below (by omega)
            have u := u.trans (hw15.mono u.size)
            have u := u.trans (l65.mono u.size)
            have u := u.trans (n67.below.mono u.size)
            have u := u.trans (hw68.mono u.size)
            have u := u.trans (hw69.mono u.size)
            have u := u.trans (n70.below.mono u.size)
            refine lg_callw (want_t (dj := 36) (by rfl) (by kernel_rfl) rfl) (without_any ((g4.rowS (by omega)).more (B' := w70.heap.size) (by omega)) 1 (m70.more (B' := w70.heap.size) (by omega)) (Nat.le_refl _) (by first | omega | (simp only [List.length_cons, List.length_nil]; omega)) (Tt.up u rg)) (by kernel_rfl) rfl rfl rfl (by decide) ?_
            rintro _ w71 ⟨r71, rfl, m71, hw71⟩
            have zw71 := hw71.size
            have ol71 := ofH_len (dropL ([0] : List Int) (trAs ([(⟨1, (⟨([7] : List Int), [], 1, []⟩ : Lf), Pn.zero⟩ : Nd), Nd.zero, Nd.zero] : List Nd))) 1
            refine hg_next hw71 ?_
            refine hg_up hw71 ?_
            have by72 : Bytes (ofH (dropL ([0] : List Int) (trAs ([(⟨1, (⟨([7] : List Int), [], 1, []⟩ : Lf), Pn.zero⟩ : Nd), Nd.zero, Nd.zero] : List Nd))) 1) := m71.bytes
            refine hg_take 30 (by rfl) (want_t (dj := 36) (by rfl) (by kernel_rfl) rfl) (by rfl) rfl (by decide) (by kernel_rfl) (by kernel_rfl) (by kernel_rfl) (fun _ _ _ h => h) (Below.refl _ _) (fun q hq => y_strS (m71.below (hq.mono (by omega))) rfl rfl) ?_
            refine hg_one 31 (by rfl) (by kernel_rfl) (want_t (dj := 36) (by rfl) (by kernel_rfl) rfl) ?_
            obtain ⟨bs74, hbs74⟩ : ∃ q, q = w71.heap.size := ⟨_, rfl⟩
            refine lg_mkR (K := 3) 3 (want_t (dj := 36) (by rfl) (by kernel_rfl) rfl) (by omega) (by omega) rfl rfl rfl rfl (by decide) fun s73 w73 f73 g73 l73 => ?_
            rw [← hbs74] at g73
            have z73 := l73.size
            refine hg_next l73 ?_
            refine hg_up l73 ?_
            have u := u.trans (hw71.mono u.size)
            have u := u.trans (l73.mono u.size)
            refine hg_one 32 (by rfl) (by kernel_rfl) (want_t (dj := 36) (by rfl) (by kernel_rfl) rfl) ?_
            refine lg_callw (want_t (dj := 36) (by rfl) (by kernel_rfl) rfl) (of_any ((g73.rowS (by omega)).more (B' := w73.heap.size) (by omega)) 1 (Nat.le_refl _) (Tt.up u rg)) (by kernel_rfl) rfl rfl rfl (by decide) ?_
            rintro _ w75 ⟨r75, rfl, m75, hw75⟩
            have zw75 := hw75.size
            have ol75 := ofH_len (trAs (List.replicate 3 Nd.zero)) 1
            refine hg_next hw75 ?_
            refine hg_up hw75 ?_
            have by76 : Bytes (ofH (trAs (List.replicate 3 Nd.zero)) 1) := m75.bytes
            refine hg_take 33 (by rfl) (want_t (dj := 36) (by rfl) (by kernel_rfl) rfl) (by rfl) rfl (by decide) (by kernel_rfl) (by kernel_rfl) (by kernel_rfl) (fun _ _ _ h => h) (Below.refl _ _) (fun q hq => y_strS (m75.below (hq.mono (by omega))) rfl rfl) ?_
            refine hg_take 34 (by rfl) (want_t (dj := 36) (by rfl) (by kernel_rfl) rfl) (by rfl) rfl (by decide) (by kernel_rfl) (by kernel_rfl) (by kernel_rfl) (fun _ _ _ h => h) (Below.refl _ _) (fun q hq => yb (decide_eq_true (show (ofH (dropL ([0] : List Int) (trAs ([(⟨1, (⟨([7] : List Int), [], 1, []⟩ : Lf), Pn.zero⟩ : Nd), Nd.zero, Nd.zero] : List Nd))) 1) = (ofH (trAs (List.replicate 3 Nd.zero)) 1) from aw_without)) (y_seqS (xs := (ofH (dropL ([0] : List Int) (trAs ([(⟨1, (⟨([7] : List Int), [], 1, []⟩ : Lf), Pn.zero⟩ : Nd), Nd.zero, Nd.zero] : List Nd))) 1)) (ys := (ofH (trAs (List.replicate 3 Nd.zero)) 1)) by72 by76 rfl rfl rfl)) ?_
            refine zh 35 rfl rfl rfl rfl rfl (by kernel_rfl) (fun _ _ _ h => h) (fun q hq => y_pick true rfl rfl rfl) ?_
            refine zh 36 rfl rfl rfl rfl rfl (by kernel_rfl) (fun _ _ _ h => h) (fun q hq => y_assign rfl rfl) ?_
            refine hg_done (by kernel_rfl) ?_
            refine nx (zk1 0 rfl fn) ?_
            refine cg_ret ?_
            have u := u.trans (hw75.mono u.size)
            exact eg_ret_tmp rfl rfl ⟨_, rfl, rfl, u⟩
          · obtain ⟨bs78, hbs78⟩ : ∃ q, q = w70.heap.size := ⟨_, rfl⟩
            refine lg_mkR (K := 3) 3 (want_t (dj := 36) (by rfl) (by kernel_rfl) rfl) (by omega) (by omega) rfl rfl rfl rfl (by decide) fun s77 w77 f77 g77 l77 => ?_
            rw [← hbs78] at g77
            have z77 := l77.size
            refine hg_next l77 ?_
            refine hg_up l77 ?_
            have g4 := g4.keep hw68 (by omega)
            have g4 := g4.keep hw69 (by omega)
            have g4 := g4.keep n70.below (by omega)
            have g4 := g4.keep l77 (by omega)
            have m70 := m70.below (l77.mono (by omega))
            have u := u.trans (hw15.mono u.size)
            have u := u.trans (l65.mono u.size)
            have u := u.trans (n67.below.mono u.size)
            have u := u.trans (hw68.mono u.size)
            have u := u.trans (hw69.mono u.size)
            have u := u.trans (n70.below.mono u.size)
            have u := u.trans (l77.mono u.size)
            refine hg_one 29 (by rfl) (by kernel_rfl) (want_t (dj := 36) (by rfl) (by kernel_rfl) rfl) ?_
            refine lg_callw (want_t (dj := 36) (by rfl) (by kernel_rfl) rfl) (without_any ((g4.rowS (by omega)).more (B' := w77.heap.size) (by omega)) 1 (m70.more (B' := w77.heap.size) (by omega)) (Nat.le_refl _) (by first | omega | (simp only [List.length_cons, List.length_nil]; omega)) (Tt.up u rg)) (by kernel_rfl) rfl rfl rfl (by decide) ?_
            rintro _ w79 ⟨r79, rfl, m79, hw79⟩
            have zw79 := hw79.size
            have ol79 := ofH_len (dropL ([0] : List Int) (trAs ([(⟨1, (⟨([7] : List Int), [], 1, []⟩ : Lf), Pn.zero⟩ : Nd), Nd.zero, Nd.zero] : List Nd))) 1
            refine hg_next hw79 ?_
            refine hg_up hw79 ?_
            have by80 : Bytes (ofH (dropL ([0] : List Int) (trAs ([(⟨1, (⟨([7] : List Int), [], 1, []⟩ : Lf), Pn.zero⟩ : Nd), Nd.zero, Nd.zero] : List Nd))) 1) := m79.bytes
            refine hg_take 30 (by rfl) (want_t (dj := 36) (by rfl) (by kernel_rfl) rfl) (by rfl) rfl (by decide) (by kernel_rfl) (by kernel_rfl) (by kernel_rfl) (fun _ _ _ h => h) (Below.refl _ _) (fun q hq => y_strS (m79.below (hq.mono (by omega))) rfl rfl) ?_
            have g77 := g77.keep hw79 (by omega)
            have u := u.trans (hw79.mono u.size)
            refine hg_one 32 (by rfl) (by kernel_rfl) (want_t (dj := 36) (by rfl) (by kernel_rfl) rfl) ?_
            refine lg_callw (want_t (dj := 36) (by rfl) (by kernel_rfl) rfl) (of_any ((g77.rowS (by omega)).more (B' := w79.heap.size) (by omega)) 1 (Nat.le_refl _) (Tt.up u rg)) (by kernel_rfl) rfl rfl rfl (by decide) ?_
            rintro _ w81 ⟨r81, rfl, m81, hw81⟩
            have zw81 := hw81.size
            have ol81 := ofH_len (trAs (List.replicate 3 Nd.zero)) 1
            refine hg_next hw81 ?_
            refine hg_up hw81 ?_
            have by82 : Bytes (ofH (trAs (List.replicate 3 Nd.zero)) 1) := m81.bytes
            refine hg_take 33 (by rfl) (want_t (dj := 36) (by rfl) (by kernel_rfl) rfl) (by rfl) rfl (by decide) (by kernel_rfl) (by kernel_rfl) (by kernel_rfl) (fun _ _ _ h => h) (Below.refl _ _) (fun q hq => y_strS (m81.below (hq.mono (by omega))) rfl rfl) ?_
            refine hg_take 34 (by rfl) (want_t (dj := 36) (by rfl) (by kernel_rfl) rfl) (by rfl) rfl (by decide) (by kernel_rfl) (by kernel_rfl) (by kernel_rfl) (fun _ _ _ h => h) (Below.refl _ _) (fun q hq => yb (decide_eq_true (show (ofH (dropL ([0] : List Int) (trAs ([(⟨1, (⟨([7] : List Int), [], 1, []⟩ : Lf), Pn.zero⟩ : Nd), Nd.zero, Nd.zero] : List Nd))) 1) = (ofH (trAs (List.replicate 3 Nd.zero)) 1) from aw_without)) (y_seqS (xs := (ofH (dropL ([0] : List Int) (trAs ([(⟨1, (⟨([7] : List Int), [], 1, []⟩ : Lf), Pn.zero⟩ : Nd), Nd.zero, Nd.zero] : List Nd))) 1)) (ys := (ofH (trAs (List.replicate 3 Nd.zero)) 1)) by80 by82 rfl rfl rfl)) ?_
            refine zh 35 rfl rfl rfl rfl rfl (by kernel_rfl) (fun _ _ _ h => h) (fun q hq => y_pick true rfl rfl rfl) ?_
            refine zh 36 rfl rfl rfl rfl rfl (by kernel_rfl) (fun _ _ _ h => h) (fun q hq => y_assign rfl rfl) ?_
            refine hg_done (by kernel_rfl) ?_
            refine nx (zk1 0 rfl fn) ?_
            refine cg_ret ?_
            have u := u.trans (hw81.mono u.size)
            exact eg_ret_tmp rfl rfl ⟨_, rfl, rfl, u⟩
        · obtain ⟨bs84, hbs84⟩ : ∃ q, q = w69.heap.size := ⟨_, rfl⟩
          refine lg_mkR (K := 3) 3 (want_t (dj := 36) (by rfl) (by kernel_rfl) rfl) (by omega) (by omega) rfl rfl rfl rfl (by decide) fun s83 w83 f83 g83 l83 => ?_
          rw [← hbs84] at g83
          have z83 := l83.size
          refine hg_next l83 ?_
          refine hg_up l83 ?_
          refine hg_one 28 (by rfl) (by kernel_rfl) (want_t (dj := 36) (by rfl) (by kernel_rfl) rfl) ?_
          refine lg_bsliceW (el := 3) (z := nv 0) (cs := #[nv 0]) (want_t (dj := 36) (by rfl) (by kernel_rfl) rfl) huIs (by kernel_rfl) (by decide) (by decide) rfl rfl (by kernel_rfl) rfl (by decide) fun b85 w85 n85 => ?_
          have r85 := n85.row
          have k85 := n85.blk
          have z85 := n85.size
          have m85 : SlN w85 (b85 + 1) ⟨some ⟨b85, 0, none⟩, 1, 1⟩ [0] := new_SlN (xs := [0]) r85 rfl (of_decide_eq_true (by kernel_rfl))
          have og85 : w85.ownsRow b85 3 1 (.slice (some ⟨b85, 0, none⟩) 1 1) ([0] : List Int).length (([0] : List Int).map (Value.int .i64)) := new_ownN (xs := [0]) n85 rfl (of_decide_eq_true (by kernel_rfl))
          refine hg_next n85.below ?_
          refine hg_up n85.below ?_
          have g4 := g4.keep hw68 (by omega)
          have g4 := g4.keep hw69 (by omega)
          have g4 := g4.keep l83 (by omega)
          have g4 := g4.keep n85.below (by omega)
          have u := u.trans (hw15.mono u.size)
          have u := u.trans (l65.mono u.size)
          have u := u.trans (n67.below.mono u.size)
          have u := u.trans (hw68.mono u.size)
          have u := u.trans (hw69.mono u.size)
          have u := u.trans (l83.mono u.size)
          have u := u.trans (n85.below.mono u.size)
          refine hg_one 29 (by rfl) (by kernel_rfl) (want_t (dj := 36) (by rfl) (by kernel_rfl) rfl) ?_
          refine lg_callw (want_t (dj := 36) (by rfl) (by kernel_rfl) rfl) (without_any ((g4.rowS (by omega)).more (B' := w85.heap.size) (by omega)) 1 (m85.more (B' := w85.heap.size) (by omega)) (Nat.le_refl _) (by first | omega | (simp only [List.length_cons, List.length_nil]; omega)) (Tt.up u rg)) (by kernel_rfl) rfl rfl rfl (by decide) ?_
          rintro _ w86 ⟨r86, rfl, m86, hw86⟩
          have zw86 := hw86.size
          have ol86 := ofH_len (dropL ([0] : List Int) (trAs ([(⟨1, (⟨([7] : List Int), [], 1, []⟩ : Lf), Pn.zero⟩ : Nd), Nd.zero, Nd.zero] : List Nd))) 1
          refine hg_next hw86 ?_
          refine hg_up hw86 ?_
          have by87 : Bytes (ofH (dropL ([0] : List Int) (trAs ([(⟨1, (⟨([7] : List Int), [], 1, []⟩ : Lf), Pn.zero⟩ : Nd), Nd.zero, Nd.zero] : List Nd))) 1) := m86.bytes
          refine hg_take 30 (by rfl) (want_t (dj := 36) (by rfl) (by kernel_rfl) rfl) (by rfl) rfl (by decide) (by kernel_rfl) (by kernel_rfl) (by kernel_rfl) (fun _ _ _ h => h) (Below.refl _ _) (fun q hq => y_strS (m86.below (hq.mono (by omega))) rfl rfl) ?_
          have g83 := g83.keep n85.below (by omega)
          have g83 := g83.keep hw86 (by omega)
          have u := u.trans (hw86.mono u.size)
          refine hg_one 32 (by rfl) (by kernel_rfl) (want_t (dj := 36) (by rfl) (by kernel_rfl) rfl) ?_
          refine lg_callw (want_t (dj := 36) (by rfl) (by kernel_rfl) rfl) (of_any ((g83.rowS (by omega)).more (B' := w86.heap.size) (by omega)) 1 (Nat.le_refl _) (Tt.up u rg)) (by kernel_rfl) rfl rfl rfl (by decide) ?_
          rintro _ w88 ⟨r88, rfl, m88, hw88⟩
          have zw88 := hw88.size
          have ol88 := ofH_len (trAs (List.replicate 3 Nd.zero)) 1
          refine hg_next hw88 ?_
          refine hg_up hw88 ?_
          have by89 : Bytes (ofH (trAs (List.replicate 3 Nd.zero)) 1) := m88.bytes
          refine hg_take 33 (by rfl) (want_t (dj := 36) (by rfl) (by kernel_rfl) rfl) (by rfl) rfl (by decide) (by kernel_rfl) (by kernel_rfl) (by kernel_rfl) (fun _ _ _ h => h) (Below.refl _ _) (fun q hq => y_strS (m88.below (hq.mono (by omega))) rfl rfl) ?_
          refine hg_take 34 (by rfl) (want_t (dj := 36) (by rfl) (by kernel_rfl) rfl) (by rfl) rfl (by decide) (by kernel_rfl) (by kernel_rfl) (by kernel_rfl) (fun _ _ _ h => h) (Below.refl _ _) (fun q hq => yb (decide_eq_true (show (ofH (dropL ([0] : List Int) (trAs ([(⟨1, (⟨([7] : List Int), [], 1, []⟩ : Lf), Pn.zero⟩ : Nd), Nd.zero, Nd.zero] : List Nd))) 1) = (ofH (trAs (List.replicate 3 Nd.zero)) 1) from aw_without)) (y_seqS (xs := (ofH (dropL ([0] : List Int) (trAs ([(⟨1, (⟨([7] : List Int), [], 1, []⟩ : Lf), Pn.zero⟩ : Nd), Nd.zero, Nd.zero] : List Nd))) 1)) (ys := (ofH (trAs (List.replicate 3 Nd.zero)) 1)) by87 by89 rfl rfl rfl)) ?_
          refine zh 35 rfl rfl rfl rfl rfl (by kernel_rfl) (fun _ _ _ h => h) (fun q hq => y_pick true rfl rfl rfl) ?_
          refine zh 36 rfl rfl rfl rfl rfl (by kernel_rfl) (fun _ _ _ h => h) (fun q hq => y_assign rfl rfl) ?_
          refine hg_done (by kernel_rfl) ?_
          refine nx (zk1 0 rfl fn) ?_
          refine cg_ret ?_
          have u := u.trans (hw88.mono u.size)
          exact eg_ret_tmp rfl rfl ⟨_, rfl, rfl, u⟩
    · refine lg_bslice (z := .int .u8 0) (cs := #[.int .u8 1, .int .u8 0, .int .u8 0, .int .u8 0, .int .u8 0, .int .u8 0]) huo24 (by kernel_rfl) (by decide) (by decide) rfl rfl (by kernel_rfl) rfl rfl (by decide) fun b90 w90 n90 => ?_
      have r90 := n90.row
      have k90 := n90.blk
      have z90 := n90.size
      have m90 : Sl w90 (b90 + 1) ⟨some ⟨b90, 0, none⟩, 6, 6⟩ [1, 0, 0, 0, 0, 0] := ⟨Nat.le_refl _, of_decide_eq_true (by kernel_rfl), oct_lit r90 rfl (by decide)⟩
      refine hg_next n90.below ?_
      refine hg_up n90.below ?_
      have g7 := g7.keep n90.below (by omega)
      have u := u.trans (n1.below.mono u.size)
      have u := u.trans (n2.below.mono u.size)
      have u := u.trans (s3.below _ (by omega))
      have u := u.trans (l4.mono u.size)
      have u := u.trans (dW6.mono u.size)
      have u := u.trans (l7.mono u.size)
      have u := u.trans (n90.below.mono u.size)
      refine hg_one 1 (by rfl) (by kernel_rfl) (want_none (by rfl)) ?_
      refine lg_callw (want_none (by rfl)) (of_any ((g7.rowS (by omega)).more (B' := w90.heap.size) (by omega)) 0 (Nat.le_refl _) (Tt.up u rg)) (by kernel_rfl) rfl rfl rfl (by decide) ?_
      rintro _ w91 ⟨r91, rfl, m91, hw91⟩
      have zw91 := hw91.size
      have ol91 := ofH_len (trAs (List.replicate 1 Nd.zero)) 0
      refine hg_next hw91 ?_
      refine hg_up hw91 ?_
      have by92 : Bytes (ofH (trAs (List.replicate 1 Nd.zero)) 0) := m91.bytes
      refine zh 2 rfl rfl rfl rfl rfl (by kernel_rfl) (fun _ _ _ h => h) (fun q hq => y_strS (m91.below (hq.mono (by omega))) rfl rfl) ?_
      have m90 := m90.below (hw91.mono (by omega))
      have u := u.trans (hw91.mono u.size)
      refine hg_one 4 (by rfl) (by kernel_rfl) (want_none (by rfl)) ?_
      refine lg_callw (want_none (by rfl)) (sumS_any (m90.more (B' := w91.heap.size) (by omega)) (Nat.le_refl _) (by first | omega | (simp only [List.length_cons, List.length_nil]; omega)) (Tt.up u rg)) (by kernel_rfl) rfl rfl rfl (by decide) ?_
      rintro _ w93 ⟨r93, rfl, m93, hw93⟩
      have zw93 := hw93.size
      refine hg_next hw93 ?_
      refine hg_up hw93 ?_
      have by94 : Bytes (sumL ([1, 0, 0, 0, 0, 0] : List Int)) := m93.1.bytes
      refine zh 5 rfl rfl rfl rfl rfl (by kernel_rfl) (fun _ _ _ h => h) (fun q hq => y_strS (m93.below hq).1 rfl rfl) ?_
      refine zh 6 rfl rfl rfl rfl rfl (by kernel_rfl) (fun _ _ _ h => h) (fun q hq => yb (decide_eq_true (show (ofH (trAs (List.replicate 1 Nd.zero)) 0) = (sumL ([1, 0, 0, 0, 0, 0] : List Int)) from aw_one)) (y_seqS (xs := (ofH (trAs (List.replicate 1 Nd.zero)) 0)) (ys := (sumL ([1, 0, 0, 0, 0, 0] : List Int))) by92 by94 rfl rfl rfl)) ?_
      refine zh 7 rfl rfl rfl rfl rfl (by kernel_rfl) (fun _ _ _ h => h) (fun q hq => y_move rfl rfl) ?_
      refine hg_take 8 (by rfl) (want_t (dj := 17) (by rfl) (by kernel_rfl) rfl) (by rfl) rfl (by decide) (by kernel_rfl) (by kernel_rfl) (by kernel_rfl) (fun _ _ _ h => h) (Below.refl _ _) (fun q hq => y_move rfl rfl) ?_
      have g4 := g4.keep dW6 (by omega)
      have g4 := g4.keep l7 (by omega)
      have g4 := g4.keep n90.below (by omega)
      have g4 := g4.keep hw91 (by omega)
      have g4 := g4.keep hw93 (by omega)
      have u := u.trans (hw93.mono u.size)
      refine hg_one 9 (by rfl) (by kernel_rfl) (want_t (dj := 17) (by rfl) (by kernel_rfl) rfl) ?_
      refine lg_callw (want_t (dj := 17) (by rfl) (by kernel_rfl) rfl) (of_any ((g4.rowS (by omega)).more (B' := w93.heap.size) (by omega)) 1 (Nat.le_refl _) (Tt.up u rg)) (by kernel_rfl) rfl rfl rfl (by decide) ?_
      rintro _ w95 ⟨r95, rfl, m95, hw95⟩
      have zw95 := hw95.size
      have ol95 := ofH_len (trAs ([(⟨1, (⟨([7] : List Int), [], 1, []⟩ : Lf), Pn.zero⟩ : Nd), Nd.zero, Nd.zero] : List Nd)) 1
      refine hg_next hw95 ?_
      refine hg_up hw95 ?_
      refine hg_take 10 (by rfl) (want_t (dj := 17) (by rfl) (by kernel_rfl) rfl) (by rfl) rfl (by decide) (by kernel_rfl) (by kernel_rfl) (by kernel_rfl) (fun _ _ _ h => h) (Below.refl _ _) (fun q hq => y_lenS (el := 5) m95 (by kernel_rfl) rfl rfl) ?_
      refine hg_take 11 (by rfl) (want_t (dj := 17) (by rfl) (by kernel_rfl) rfl) (by rfl) rfl (by decide) (by kernel_rfl) (by kernel_rfl) (by kernel_rfl) (fun _ _ _ h => h) (Below.refl _ _) (fun q hq => yb (decide_eq_true (show ((ofH (trAs ([(⟨1, (⟨([7] : List Int), [], 1, []⟩ : Lf), Pn.zero⟩ : Nd), Nd.zero, Nd.zero] : List Nd)) 1).length : Int) = 32 from aw_len)) (yi_eql rfl rfl rfl)) ?_
      refine zh 12 rfl rfl rfl rfl rfl (by kernel_rfl) (fun _ _ _ h => h) (fun q hq => y_pick true rfl rfl rfl) ?_
      refine zh 13 rfl rfl rfl rfl rfl (by kernel_rfl) (fun _ _ _ h => h) (fun q hq => y_move rfl rfl) ?_
      refine hg_take 14 (by rfl) (want_t (dj := 23) (by rfl) (by kernel_rfl) rfl) (by rfl) rfl (by decide) (by kernel_rfl) (by kernel_rfl) (by kernel_rfl) (fun _ _ _ h => h) (Below.refl _ _) (fun q hq => y_move rfl rfl) ?_
      have g4 := g4.keep hw95 (by omega)
      have u := u.trans (hw95.mono u.size)
      refine hg_one 15 (by rfl) (by kernel_rfl) (want_t (dj := 23) (by rfl) (by kernel_rfl) rfl) ?_
      refine lg_callw (want_t (dj := 23) (by rfl) (by kernel_rfl) rfl) (all_any ((g4.rowS (by omega)).more (B' := w95.heap.size) (by omega)) (Nat.le_refl _) (Tt.up u rg)) (by kernel_rfl) rfl rfl rfl (by decide) ?_
      rintro _ w96 ⟨r96, rfl, m96, hw96⟩
      have zw96 := hw96.size
      refine hg_next hw96 ?_
      refine hg_up hw96 ?_
      refine hg_take 16 (by rfl) (want_t (dj := 23) (by rfl) (by kernel_rfl) rfl) (by rfl) rfl (by decide) (by kernel_rfl) (by kernel_rfl) (by kernel_rfl) (fun _ _ _ h => h) (Below.refl _ _) (fun q hq => y_lenM (el := 26) m96.len (by kernel_rfl) rfl rfl) ?_
      refine hg_take 17 (by rfl) (want_t (dj := 23) (by rfl) (by kernel_rfl) rfl) (by rfl) rfl (by decide) (by kernel_rfl) (by kernel_rfl) (by kernel_rfl) (fun _ _ _ h => h) (Below.refl _ _) (fun q hq => yb (decide_eq_true (show ((allH (trAs ([(⟨1, (⟨([7] : List Int), [], 1, []⟩ : Lf), Pn.zero⟩ : Nd), Nd.zero, Nd.zero] : List Nd))).length : Int) = 3 from aw_all)) (yi_eql rfl rfl rfl)) ?_
      refine zh 18 rfl rfl rfl rfl rfl (by kernel_rfl) (fun _ _ _ h => h) (fun q hq => y_pick true rfl rfl rfl) ?_
      refine zh 19 rfl rfl rfl rfl rfl (by kernel_rfl) (fun _ _ _ h => h) (fun q hq => y_move rfl rfl) ?_
      refine hg_take 20 (by rfl) (want_t (dj := 29) (by rfl) (by kernel_rfl) rfl) (by rfl) rfl (by decide) (by kernel_rfl) (by kernel_rfl) (by kernel_rfl) (fun _ _ _ h => h) (Below.refl _ _) (fun q hq => y_move rfl rfl) ?_
      refine hg_two 21 23 (by rfl) (by rfl) (by kernel_rfl) (want_t (dj := 29) (by rfl) (by kernel_rfl) rfl) (want_t (dj := 29) (by rfl) (by kernel_rfl) rfl) ?_ ?_
      · refine lg_bsliceW (el := 3) (z := nv 0) (cs := #[nv 0]) (want_t (dj := 29) (by rfl) (by kernel_rfl) rfl) huIs (by kernel_rfl) (by decide) (by decide) rfl rfl (by kernel_rfl) rfl (by decide) fun b97 w97 n97 => ?_
        have r97 := n97.row
        have k97 := n97.blk
        have z97 := n97.size
        have m97 : SlN w97 (b97 + 1) ⟨some ⟨b97, 0, none⟩, 1, 1⟩ [0] := new_SlN (xs := [0]) r97 rfl (of_decide_eq_true (by kernel_rfl))
        have og97 : w97.ownsRow b97 3 1 (.slice (some ⟨b97, 0, none⟩) 1 1) ([0] : List Int).length (([0] : List Int).map (Value.int .i64)) := new_ownN (xs := [0]) n97 rfl (of_decide_eq_true (by kernel_rfl))
        refine hg_next n97.below ?_
        refine hg_up n97.below ?_
        refine hg_two 22 23 (by rfl) (by rfl) (by kernel_rfl) (want_t (dj := 29) (by rfl) (by kernel_rfl) rfl) (want_t (dj := 29) (by rfl) (by kernel_rfl) rfl) ?_ ?_
        · have g4 := g4.keep hw96 (by omega)
          have g4 := g4.keep n97.below (by omega)
          refine lg_callw (want_t (dj := 29) (by rfl) (by kernel_rfl) rfl) (drop_any ((g4.rowS (by omega)).more (B' := w97.heap.size) (by omega)) (m97.more (B' := w97.heap.size) (by omega)) (Nat.le_refl _) (by first | omega | (simp only [List.length_cons, List.length_nil]; omega))) (by kernel_rfl) rfl rfl rfl (by decide) ?_
          rintro _ w98 ⟨s98, rfl, m98, hw98⟩
          have zw98 := hw98.size
          refine hg_next hw98 ?_
          refine hg_up hw98 ?_
          refine hg_one 23 (by rfl) (by kernel_rfl) (want_t (dj := 29) (by rfl) (by kernel_rfl) rfl) ?_
          obtain ⟨bs100, hbs100⟩ : ∃ q, q = w98.heap.size := ⟨_, rfl⟩
          refine lg_mkR (K := 3) 3 (want_t (dj := 29) (by rfl) (by kernel_rfl) rfl) (by omega) (by omega) rfl rfl rfl rfl (by decide) fun s99 w99 f99 g99 l99 => ?_
          rw [← hbs100] at g99
          have z99 := l99.size
          refine hg_next l99 ?_
          refine hg_up l99 ?_
          have m98 := m98.below (l99.mono (by omega))
          refine hg_one 24 (by rfl) (by kernel_rfl) (want_t (dj := 29) (by rfl) (by kernel_rfl) rfl) ?_
          refine lg_callw (want_t (dj := 29) (by rfl) (by kernel_rfl) rfl) (sameR_any (m98.more (B' := w99.heap.size) (by omega)) ((g99.rowS (by omega)).more (B' := w99.heap.size) (by omega)) (Nat.le_refl _)) (by kernel_rfl) rfl rfl rfl (by decide) ?_
          rintro u101 w101 ⟨e101, hw101⟩
          have zw101 := hw101.size
          obtain rfl : u101 = .bool true := e101.trans (congrArg Value.bool (decide_eq_true (show trSame (dropL ([0] : List Int) (trAs ([(⟨1, (⟨([7] : List Int), [], 1, []⟩ : Lf), Pn.zero⟩ : Nd), Nd.zero, Nd.zero] : List Nd))) (List.replicate 3 Nd.zero) from aw_same)))
          refine hg_next hw101 ?_
          refine hg_up hw101 ?_
          refine zh 25 rfl rfl rfl rfl rfl (by kernel_rfl) (fun _ _ _ h => h) (fun q hq => y_pick true rfl rfl rfl) ?_
          refine zh 26 rfl rfl rfl rfl rfl (by kernel_rfl) (fun _ _ _ h => h) (fun q hq => y_move rfl rfl) ?_
          refine hg_take 27 (by rfl) (want_t (dj := 36) (by rfl) (by kernel_rfl) rfl) (by rfl) rfl (by decide) (by kernel_rfl) (by kernel_rfl) (by kernel_rfl) (fun _ _ _ h => h) (Below.refl _ _) (fun q hq => y_move rfl rfl) ?_
          refine hg_two 28 31 (by rfl) (by rfl) (by kernel_rfl) (want_t (dj := 36) (by rfl) (by kernel_rfl) rfl) (want_t (dj := 36) (by rfl) (by kernel_rfl) rfl) ?_ ?_
          · refine lg_bsliceW (el := 3) (z := nv 0) (cs := #[nv 0]) (want_t (dj := 36) (by rfl) (by kernel_rfl) rfl) huIs (by kernel_rfl) (by decide) (by decide) rfl rfl (by kernel_rfl) rfl (by decide) fun b102 w102 n102 => ?_
            have r102 := n102.row
            have k102 := n102.blk
            have z102 := n102.size
            have m102 : SlN w102 (b102 + 1) ⟨some ⟨b102, 0, none⟩, 1, 1⟩ [0] := new_SlN (xs := [0]) r102 rfl (of_decide_eq_true (by kernel_rfl))
            have og102 : w102.ownsRow b102 3 1 (.slice (some ⟨b102, 0, none⟩) 1 1) ([0] : List Int).length (([0] : List Int).map (Value.int .i64)) := new_ownN (xs := [0]) n102 rfl (of_decide_eq_true (by kernel_rfl))
            refine hg_next n102.below ?_
            refine hg_up n102.below ?_
            refine hg_two 29 31 (by rfl) (by rfl) (by kernel_rfl) (want_t (dj := 36) (by rfl) (by kernel_rfl) rfl) (want_t (dj := 36) (by rfl) (by kernel_rfl) rfl) ?_ ?_
            · have g4 := g4.keep hw98 (by omega)
              have g4 := g4.keep l99 (by omega)
              have g4 := g4.keep hw101 (by omega)
              have g4 := g4.keep n102.below (by omega)
              have u := u.trans (hw96.mono u.size)
              have u := u.trans (n97.below.mono u.size)
              have u := u.trans (hw98.mono u.size)
              have u := u.trans (l99.mono u.size)
              have u := u.trans (hw101.mono u.size)
              have u := u.trans (n102.below.mono u.size)
              refine lg_callw (want_t (dj := 36) (by rfl) (by kernel_rfl) rfl) (without_any ((g4.rowS (by omega)).more (B' := w102.heap.size) (by omega)) 1 (m102.more (B' := w102.heap.size) (by omega)) (Nat.le_refl _) (by first | omega | (simp only [List.length_cons, List.length_nil]; omega)) (Tt.up u rg)) (by kernel_rfl) rfl rfl rfl (by decide) ?_
              rintro _ w103 ⟨r103, rfl, m103, hw103⟩
              have zw103 := hw103.size
              have ol103 := ofH_len (dropL ([0] : List Int) (trAs ([(⟨1, (⟨([7] : List Int), [], 1, []⟩ : Lf), Pn.zero⟩ : Nd), Nd.zero, Nd.zero] : List Nd))) 1
              refine hg_next hw103 ?_
              refine hg_up hw103 ?_
              have by104 : Bytes (ofH (dropL ([0] : List Int) (trAs ([(⟨1, (⟨([7] : List Int), [], 1, []⟩ : Lf), Pn.zero⟩ : Nd), Nd.zero, Nd.zero] : List Nd))) 1) := m103.bytes
              refine hg_take 30 (by rfl) (want_t (dj := 36) (by rfl) (by kernel_rfl) rfl) (by rfl) rfl (by decide) (by kernel_rfl) (by kernel_rfl) (by kernel_rfl) (fun _ _ _ h => h) (Below.refl _ _) (fun q hq => y_strS (m103.below (hq.mono (by omega))) rfl rfl) ?_
              refine hg_one 31 (by rfl) (by kernel_rfl) (want_t (dj := 36) (by rfl) (by kernel_rfl) rfl) ?_
              obtain ⟨bs106, hbs106⟩ : ∃ q, q = w103.heap.size := ⟨_, rfl⟩
              refine lg_mkR (K := 3) 3 (want_t (dj := 36) (by rfl) (by kernel_rfl) rfl) (by omega) (by omega) rfl rfl rfl rfl (by decide) fun s105 w105 f105 g105 l105 => ?_
              rw [← hbs106] at g105
              have z105 := l105.size
              refine hg_next l105 ?_
              refine hg_up l105 ?_
              have u := u.trans (hw103.mono u.size)
              have u := u.trans (l105.mono u.size)
              refine hg_one 32 (by rfl) (by kernel_rfl) (want_t (dj := 36) (by rfl) (by kernel_rfl) rfl) ?_
              refine lg_callw (want_t (dj := 36) (by rfl) (by kernel_rfl) rfl) (of_any ((g105.rowS (by omega)).more (B' := w105.heap.size) (by omega)) 1 (Nat.le_refl _) (Tt.up u rg)) (by kernel_rfl) rfl rfl rfl (by decide) ?_
              rintro _ w107 ⟨r107, rfl, m107, hw107⟩
              have zw107 := hw107.size
              have ol107 := ofH_len (trAs (List.replicate 3 Nd.zero)) 1
              refine hg_next hw107 ?_
              refine hg_up hw107 ?_
              have by108 : Bytes (ofH (trAs (List.replicate 3 Nd.zero)) 1) := m107.bytes
              refine hg_take 33 (by rfl) (want_t (dj := 36) (by rfl) (by kernel_rfl) rfl) (by rfl) rfl (by decide) (by kernel_rfl) (by kernel_rfl) (by kernel_rfl) (fun _ _ _ h => h) (Below.refl _ _) (fun q hq => y_strS (m107.below (hq.mono (by omega))) rfl rfl) ?_
              refine hg_take 34 (by rfl) (want_t (dj := 36) (by rfl) (by kernel_rfl) rfl) (by rfl) rfl (by decide) (by kernel_rfl) (by kernel_rfl) (by kernel_rfl) (fun _ _ _ h => h) (Below.refl _ _) (fun q hq => yb (decide_eq_true (show (ofH (dropL ([0] : List Int) (trAs ([(⟨1, (⟨([7] : List Int), [], 1, []⟩ : Lf), Pn.zero⟩ : Nd), Nd.zero, Nd.zero] : List Nd))) 1) = (ofH (trAs (List.replicate 3 Nd.zero)) 1) from aw_without)) (y_seqS (xs := (ofH (dropL ([0] : List Int) (trAs ([(⟨1, (⟨([7] : List Int), [], 1, []⟩ : Lf), Pn.zero⟩ : Nd), Nd.zero, Nd.zero] : List Nd))) 1)) (ys := (ofH (trAs (List.replicate 3 Nd.zero)) 1)) by104 by108 rfl rfl rfl)) ?_
              refine zh 35 rfl rfl rfl rfl rfl (by kernel_rfl) (fun _ _ _ h => h) (fun q hq => y_pick true rfl rfl rfl) ?_
              refine zh 36 rfl rfl rfl rfl rfl (by kernel_rfl) (fun _ _ _ h => h) (fun q hq => y_assign rfl rfl) ?_
              refine hg_done (by kernel_rfl) ?_
              refine nx (zk1 0 rfl fn) ?_
              refine cg_ret ?_
              have u := u.trans (hw107.mono u.size)
              exact eg_ret_tmp rfl rfl ⟨_, rfl, rfl, u⟩
            · obtain ⟨bs110, hbs110⟩ : ∃ q, q = w102.heap.size := ⟨_, rfl⟩
              refine lg_mkR (K := 3) 3 (want_t (dj := 36) (by rfl) (by kernel_rfl) rfl) (by omega) (by omega) rfl rfl rfl rfl (by decide) fun s109 w109 f109 g109 l109 => ?_
              rw [← hbs110] at g109
              have z109 := l109.size
              refine hg_next l109 ?_
              refine hg_up l109 ?_
              have g4 := g4.keep hw98 (by omega)
              have g4 := g4.keep l99 (by omega)
              have g4 := g4.keep hw101 (by omega)
              have g4 := g4.keep n102.below (by omega)
              have g4 := g4.keep l109 (by omega)
              have m102 := m102.below (l109.mono (by omega))
              have u := u.trans (hw96.mono u.size)
              have u := u.trans (n97.below.mono u.size)
              have u := u.trans (hw98.mono u.size)
              have u := u.trans (l99.mono u.size)
              have u := u.trans (hw101.mono u.size)
              have u := u.trans (n102.below.mono u.size)
              have u := u.trans (l109.mono u.size)
              refine hg_one 29 (by rfl) (by kernel_rfl) (want_t (dj := 36) (by rfl) (by kernel_rfl) rfl) ?_
              refine lg_callw (want_t (dj := 36) (by rfl) (by kernel_rfl) rfl) (without_any ((g4.rowS (by omega)).more (B' := w109.heap.size) (by omega)) 1 (m102.more (B' := w109.heap.size) (by omega)) (Nat.le_refl _) (by first | omega | (simp only [List.length_cons, List.length_nil]; omega)) (Tt.up u rg)) (by kernel_rfl) rfl rfl rfl (by decide) ?_
              rintro _ w111 ⟨r111, rfl, m111, hw111⟩
              have zw111 := hw111.size
              have ol111 := ofH_len (dropL ([0] : List Int) (trAs ([(⟨1, (⟨([7] : List Int), [], 1, []⟩ : Lf), Pn.zero⟩ : Nd), Nd.zero, Nd.zero] : List Nd))) 1
              refine hg_next hw111 ?_
              refine hg_up hw111 ?_
              have by112 : Bytes (ofH (dropL ([0] : List Int) (trAs ([(⟨1, (⟨([7] : List Int), [], 1, []⟩ : Lf), Pn.zero⟩ : Nd), Nd.zero, Nd.zero] : List Nd))) 1) := m111.bytes
              refine hg_take 30 (by rfl) (want_t (dj := 36) (by rfl) (by kernel_rfl) rfl) (by rfl) rfl (by decide) (by kernel_rfl) (by kernel_rfl) (by kernel_rfl) (fun _ _ _ h => h) (Below.refl _ _) (fun q hq => y_strS (m111.below (hq.mono (by omega))) rfl rfl) ?_
              have g109 := g109.keep hw111 (by omega)
              have u := u.trans (hw111.mono u.size)
              refine hg_one 32 (by rfl) (by kernel_rfl) (want_t (dj := 36) (by rfl) (by kernel_rfl) rfl) ?_
              refine lg_callw (want_t (dj := 36) (by rfl) (by kernel_rfl) rfl) (of_any ((g109.rowS (by omega)).more (B' := w111.heap.size) (by omega)) 1 (Nat.le_refl _) (Tt.up u rg)) (by kernel_rfl) rfl rfl rfl (by decide) ?_
              rintro _ w113 ⟨r113, rfl, m113, hw113⟩
              have zw113 := hw113.size
              have ol113 := ofH_len (trAs (List.replicate 3 Nd.zero)) 1
              refine hg_next hw113 ?_
              refine hg_up hw113 ?_
              have by114 : Bytes (ofH (trAs (List.replicate 3 Nd.zero)) 1) := m113.bytes
              refine hg_take 33 (by rfl) (want_t (dj := 36) (by rfl) (by kernel_rfl) rfl) (by rfl) rfl (by decide) (by kernel_rfl) (by kernel_rfl) (by kernel_rfl) (fun _ _ _ h => h) (Below.refl _ _) (fun q hq => y_strS (m113.below (hq.mono (by omega))) rfl rfl) ?_
              refine hg_take 34 (by rfl) (want_t (dj := 36) (by rfl) (by kernel_rfl) rfl) (by rfl) rfl (by decide) (by kernel_rfl) (by kernel_rfl) (by kernel_rfl) (fun _ _ _ h => h) (Below.refl _ _) (fun q hq => yb (decide_eq_true (show (ofH (dropL ([0] : List Int) (trAs ([(⟨1, (⟨([7] : List Int), [], 1, []⟩ : Lf), Pn.zero⟩ : Nd), Nd.zero, Nd.zero] : List Nd))) 1) = (ofH (trAs (List.replicate 3 Nd.zero)) 1) from aw_without)) (y_seqS (xs := (ofH (dropL ([0] : List Int) (trAs ([(⟨1, (⟨([7] : List Int), [], 1, []⟩ : Lf), Pn.zero⟩ : Nd), Nd.zero, Nd.zero] : List Nd))) 1)) (ys := (ofH (trAs (List.replicate 3 Nd.zero)) 1)) by112 by114 rfl rfl rfl)) ?_
              refine zh 35 rfl rfl rfl rfl rfl (by kernel_rfl) (fun _ _ _ h => h) (fun q hq => y_pick true rfl rfl rfl) ?_
              refine zh 36 rfl rfl rfl rfl rfl (by kernel_rfl) (fun _ _ _ h => h) (fun q hq => y_assign rfl rfl) ?_
              refine hg_done (by kernel_rfl) ?_
              refine nx (zk1 0 rfl fn) ?_
              refine cg_ret ?_
              have u := u.trans (hw113.mono u.size)
              exact eg_ret_tmp rfl rfl ⟨_, rfl, rfl, u⟩
          · obtain ⟨bs116, hbs116⟩ : ∃ q, q = w101.heap.size := ⟨_, rfl⟩
            refine lg_mkR (K := 3) 3 (want_t (dj := 36) (by rfl) (by kernel_rfl) rfl) (by omega) (by omega) rfl rfl rfl rfl (by decide) fun s115 w115 f115 g115 l115 => ?_
            rw [← hbs116] at g115
            have z115 := l115.size
            refine hg_next l115 ?_
            refine hg_up l115 ?_
            refine hg_one 28 (by rfl) (by kernel_rfl) (want_t (dj := 36) (by rfl) (by kernel_rfl) rfl) ?_
            refine lg_bsliceW (el := 3) (z := nv 0) (cs := #[nv 0]) (want_t (dj := 36) (by rfl) (by kernel_rfl) rfl) huIs (by kernel_rfl) (by decide) (by decide) rfl rfl (by kernel_rfl) rfl (by decide) fun b117 w117 n117 => ?_
            have r117 := n117.row
            have k117 := n117.blk
            have z117 := n117.size
            have m117 : SlN w117 (b117 + 1) ⟨some ⟨b117, 0, none⟩, 1, 1⟩ [0] := new_SlN (xs := [0]) r117 rfl (of_decide_eq_true (by kernel_rfl))
            have og117 : w117.ownsRow b117 3 1 (.slice (some ⟨b117, 0, none⟩) 1 1) ([0] : List Int).length (([0] : List Int).map (Value.int .i64)) := new_ownN (xs := [0]) n117 rfl (of_decide_eq_true (by kernel_rfl))
            refine hg_next n117.below ?_
            refine hg_up n117.below ?_
            have g4 := g4.keep hw98 (by omega)
            have g4 := g4.keep l99 (by omega)
            have g4 := g4.keep hw101 (by omega)
            have g4 := g4.keep l115 (by omega)
            have g4 := g4.keep n117.below (by omega)
            have u := u.trans (hw96.mono u.size)
            have u := u.trans (n97.below.mono u.size)
            have u := u.trans (hw98.mono u.size)
            have u := u.trans (l99.mono u.size)
            have u := u.trans (hw101.mono u.size)
            have u := u.trans (l115.mono u.size)
            have u := u.trans (n117.below.mono u.size)
            refine hg_one 29 (by rfl) (by kernel_rfl) (want_t (dj := 36) (by rfl) (by kernel_rfl) rfl) ?_
            refine lg_callw (want_t (dj := 36) (by rfl) (by kernel_rfl) rfl) (without_any ((g4.rowS (by omega)).more (B' := w117.heap.size) (by omega)) 1 (m117.more (B' := w117.heap.size) (by omega)) (Nat.le_refl _) (by first | omega | (simp only [List.length_cons, List.length_nil]; omega)) (Tt.up u rg)) (by kernel_rfl) rfl rfl rfl (by decide) ?_
            rintro _ w118 ⟨r118, rfl, m118, hw118⟩
            have zw118 := hw118.size
            have ol118 := ofH_len (dropL ([0] : List Int) (trAs ([(⟨1, (⟨([7] : List Int), [], 1, []⟩ : Lf), Pn.zero⟩ : Nd), Nd.zero, Nd.zero] : List Nd))) 1
            refine hg_next hw118 ?_
            refine hg_up hw118 ?_
            have by119 : Bytes (ofH (dropL ([0] : List Int) (trAs ([(⟨1, (⟨([7] : List Int), [], 1, []⟩ : Lf), Pn.zero⟩ : Nd), Nd.zero, Nd.zero] : List Nd))) 1) := m118.bytes
            refine hg_take 30 (by rfl) (want_t (dj := 36) (by rfl) (by kernel_rfl) rfl) (by rfl) rfl (by decide) (by kernel_rfl) (by kernel_rfl) (by kernel_rfl) (fun _ _ _ h => h) (Below.refl _ _) (fun q hq => y_strS (m118.below (hq.mono (by omega))) rfl rfl) ?_
            have g115 := g115.keep n117.below (by omega)
            have g115 := g115.keep hw118 (by omega)
            have u := u.trans (hw118.mono u.size)
            refine hg_one 32 (by rfl) (by kernel_rfl) (want_t (dj := 36) (by rfl) (by kernel_rfl) rfl) ?_
            refine lg_callw (want_t (dj := 36) (by rfl) (by kernel_rfl) rfl) (of_any ((g115.rowS (by omega)).more (B' := w118.heap.size) (by omega)) 1 (Nat.le_refl _) (Tt.up u rg)) (by kernel_rfl) rfl rfl rfl (by decide) ?_
            rintro _ w120 ⟨r120, rfl, m120, hw120⟩
            have zw120 := hw120.size
            have ol120 := ofH_len (trAs (List.replicate 3 Nd.zero)) 1
            refine hg_next hw120 ?_
            refine hg_up hw120 ?_
            have by121 : Bytes (ofH (trAs (List.replicate 3 Nd.zero)) 1) := m120.bytes
            refine hg_take 33 (by rfl) (want_t (dj := 36) (by rfl) (by kernel_rfl) rfl) (by rfl) rfl (by decide) (by kernel_rfl) (by kernel_rfl) (by kernel_rfl) (fun _ _ _ h => h) (Below.refl _ _) (fun q hq => y_strS (m120.below (hq.mono (by omega))) rfl rfl) ?_
            refine hg_take 34 (by rfl) (want_t (dj := 36) (by rfl) (by kernel_rfl) rfl) (by rfl) rfl (by decide) (by kernel_rfl) (by kernel_rfl) (by kernel_rfl) (fun _ _ _ h => h) (Below.refl _ _) (fun q hq => yb (decide_eq_true (show (ofH (dropL ([0] : List Int) (trAs ([(⟨1, (⟨([7] : List Int), [], 1, []⟩ : Lf), Pn.zero⟩ : Nd), Nd.zero, Nd.zero] : List Nd))) 1) = (ofH (trAs (List.replicate 3 Nd.zero)) 1) from aw_without)) (y_seqS (xs := (ofH (dropL ([0] : List Int) (trAs ([(⟨1, (⟨([7] : List Int), [], 1, []⟩ : Lf), Pn.zero⟩ : Nd), Nd.zero, Nd.zero] : List Nd))) 1)) (ys := (ofH (trAs (List.replicate 3 Nd.zero)) 1)) by119 by121 rfl rfl rfl)) ?_
            refine zh 35 rfl rfl rfl rfl rfl (by kernel_rfl) (fun _ _ _ h => h) (fun q hq => y_pick true rfl rfl rfl) ?_
            refine zh 36 rfl rfl rfl rfl rfl (by kernel_rfl) (fun _ _ _ h => h) (fun q hq => y_assign rfl rfl) ?_
            refine hg_done (by kernel_rfl) ?_
            refine nx (zk1 0 rfl fn) ?_
            refine cg_ret ?_
            have u := u.trans (hw120.mono u.size)
            exact eg_ret_tmp rfl rfl ⟨_, rfl, rfl, u⟩
        · obtain ⟨bs123, hbs123⟩ : ∃ q, q = w97.heap.size := ⟨_, rfl⟩
          refine lg_mkR (K := 3) 3 (want_t (dj := 29) (by rfl) (by kernel_rfl) rfl) (by omega) (by omega) rfl rfl rfl rfl (by decide) fun s122 w122 f122 g122 l122 => ?_
          rw [← hbs123] at g122
          have z122 := l122.size
          refine hg_next l122 ?_
          refine hg_up l122 ?_
          have g4 := g4.keep hw96 (by omega)
          have g4 := g4.keep n97.below (by omega)
          have g4 := g4.keep l122 (by omega)
          have m97 := m97.below (l122.mono (by omega))
          refine hg_one 22 (by rfl) (by kernel_rfl) (want_t (dj := 29) (by rfl) (by kernel_rfl) rfl) ?_
          refine lg_callw (want_t (dj := 29) (by rfl) (by kernel_rfl) rfl) (drop_any ((g4.rowS (by omega)).more (B' := w122.heap.size) (by omega)) (m97.more (B' := w122.heap.size) (by omega)) (Nat.le_refl _) (by first | omega | (simp only [List.length_cons, List.length_nil]; omega))) (by kernel_rfl) rfl rfl rfl (by decide) ?_
          rintro _ w124 ⟨s124, rfl, m124, hw124⟩
          have zw124 := hw124.size
          refine hg_next hw124 ?_
          refine hg_up hw124 ?_
          have g122 := g122.keep hw124 (by omega)
          refine hg_one 24 (by rfl) (by kernel_rfl) (want_t (dj := 29) (by rfl) (by kernel_rfl) rfl) ?_
          refine lg_callw (want_t (dj := 29) (by rfl) (by kernel_rfl) rfl) (sameR_any (m124.more (B' := w124.heap.size) (by omega)) ((g122.rowS (by omega)).more (B' := w124.heap.size) (by omega)) (Nat.le_refl _)) (by kernel_rfl) rfl rfl rfl (by decide) ?_
          rintro u125 w125 ⟨e125, hw125⟩
          have zw125 := hw125.size
          obtain rfl : u125 = .bool true := e125.trans (congrArg Value.bool (decide_eq_true (show trSame (dropL ([0] : List Int) (trAs ([(⟨1, (⟨([7] : List Int), [], 1, []⟩ : Lf), Pn.zero⟩ : Nd), Nd.zero, Nd.zero] : List Nd))) (List.replicate 3 Nd.zero) from aw_same)))
          refine hg_next hw125 ?_
          refine hg_up hw125 ?_
          refine zh 25 rfl rfl rfl rfl rfl (by kernel_rfl) (fun _ _ _ h => h) (fun q hq => y_pick true rfl rfl rfl) ?_
          refine zh 26 rfl rfl rfl rfl rfl (by kernel_rfl) (fun _ _ _ h => h) (fun q hq => y_move rfl rfl) ?_
          refine hg_take 27 (by rfl) (want_t (dj := 36) (by rfl) (by kernel_rfl) rfl) (by rfl) rfl (by decide) (by kernel_rfl) (by kernel_rfl) (by kernel_rfl) (fun _ _ _ h => h) (Below.refl _ _) (fun q hq => y_move rfl rfl) ?_
          refine hg_two 28 31 (by rfl) (by rfl) (by kernel_rfl) (want_t (dj := 36) (by rfl) (by kernel_rfl) rfl) (want_t (dj := 36) (by rfl) (by kernel_rfl) rfl) ?_ ?_
          · refine lg_bsliceW (el := 3) (z := nv 0) (cs := #[nv 0]) (want_t (dj := 36) (by rfl) (by kernel_rfl) rfl) huIs (by kernel_rfl) (by decide) (by decide) rfl rfl (by kernel_rfl) rfl (by decide) fun b126 w126 n126 => ?_
            have r126 := n126.row
            have k126 := n126.blk
            have z126 := n126.size
            have m126 : SlN w126 (b126 + 1) ⟨some ⟨b126, 0, none⟩, 1, 1⟩ [0] := new_SlN (xs := [0]) r126 rfl (of_decide_eq_true (by kernel_rfl))
            have og126 : w126.ownsRow b126 3 1 (.slice (some ⟨b126, 0, none⟩) 1 1) ([0] : List Int).length (([0] : List Int).map (Value.int .i64)) := new_ownN (xs := [0]) n126 rfl (of_decide_eq_true (by kernel_rfl))
            refine hg_next n126.below ?_
            refine hg_up n126.below ?_
            refine hg_two 29 31 (by rfl) (by rfl) (by kernel_rfl) (want_t (dj := 36) (by rfl) (by kernel_rfl) rfl) (want_t (dj := 36) (by rfl) (by kernel_rfl) rfl) ?_ ?_
            · have g4 := g4.keep hw124 (by omega)
              have g4 := g4.keep hw125 (by omega)
              have g4 := g4.keep n126.below (by omega)
              have u := u.trans (hw96.mono u.size)
              have u := u.trans (n97.below.mono u.size)
              have u := u.trans (l122.mono u.size)
              have u := u.trans (hw124.mono u.size)
              have u := u.trans (hw125.mono u.size)
              have u := u.trans (n126.below.mono u.size)
              refine lg_callw (want_t (dj := 36) (by rfl) (by kernel_rfl) rfl) (without_any ((g4.rowS (by omega)).more (B' := w126.heap.size) (by omega)) 1 (m126.more (B' := w126.heap.size) (by omega)) (Nat.le_refl _) (by first | omega | (simp only [List.length_cons, List.length_nil]; omega)) (Tt.up u rg)) (by kernel_rfl) rfl rfl rfl (by decide) ?_
              rintro _ w127 ⟨r127, rfl, m127, hw127⟩
              have zw127 := hw127.size
              have ol127 := ofH_len (dropL ([0] : List Int) (trAs ([(⟨1, (⟨([7] : List Int), [], 1, []⟩ : Lf), Pn.zero⟩ : Nd), Nd.zero, Nd.zero] : List Nd))) 1
              refine hg_next hw127 ?_
              refine hg_up hw127 ?_
              have by128 : Bytes (ofH (dropL ([0] : List Int) (trAs ([(⟨1, (⟨([7] : List Int), [], 1, []⟩ : Lf), Pn.zero⟩ : Nd), Nd.zero, Nd.zero] : List Nd))) 1) := m127.bytes
              refine hg_take 30 (by rfl) (want_t (dj := 36) (by rfl) (by kernel_rfl) rfl) (by rfl) rfl (by decide) (by kernel_rfl) (by kernel_rfl) (by kernel_rfl) (fun _ _ _ h => h) (Below.refl _ _) (fun q hq => y_strS (m127.below (hq.mono (by omega))) rfl rfl) ?_
              refine hg_one 31 (by rfl) (by kernel_rfl) (want_t (dj := 36) (by rfl) (by kernel_rfl) rfl) ?_
              obtain ⟨bs130, hbs130⟩ : ∃ q, q = w127.heap.size := ⟨_, rfl⟩
              refine lg_mkR (K := 3) 3 (want_t (dj := 36) (by rfl) (by kernel_rfl) rfl) (by omega) (by omega) rfl rfl rfl rfl (by decide) fun s129 w129 f129 g129 l129 => ?_
              rw [← hbs130] at g129
              have z129 := l129.size
              refine hg_next l129 ?_
              refine hg_up l129 ?_
              have u := u.trans (hw127.mono u.size)
              have u := u.trans (l129.mono u.size)
              refine hg_one 32 (by rfl) (by kernel_rfl) (want_t (dj := 36) (by rfl) (by kernel_rfl) rfl) ?_
              refine lg_callw (want_t (dj := 36) (by rfl) (by kernel_rfl) rfl) (of_any ((g129.rowS (by omega)).more (B' := w129.heap.size) (by omega)) 1 (Nat.le_refl _) (Tt.up u rg)) (by kernel_rfl) rfl rfl rfl (by decide) ?_
              rintro _ w131 ⟨r131, rfl, m131, hw131⟩
              have zw131 := hw131.size
              have ol131 := ofH_len (trAs (List.replicate 3 Nd.zero)) 1
              refine hg_next hw131 ?_
              refine hg_up hw131 ?_
              have by132 : Bytes (ofH (trAs (List.replicate 3 Nd.zero)) 1) := m131.bytes
              refine hg_take 33 (by rfl) (want_t (dj := 36) (by rfl) (by kernel_rfl) rfl) (by rfl) rfl (by decide) (by kernel_rfl) (by kernel_rfl) (by kernel_rfl) (fun _ _ _ h => h) (Below.refl _ _) (fun q hq => y_strS (m131.below (hq.mono (by omega))) rfl rfl) ?_
              refine hg_take 34 (by rfl) (want_t (dj := 36) (by rfl) (by kernel_rfl) rfl) (by rfl) rfl (by decide) (by kernel_rfl) (by kernel_rfl) (by kernel_rfl) (fun _ _ _ h => h) (Below.refl _ _) (fun q hq => yb (decide_eq_true (show (ofH (dropL ([0] : List Int) (trAs ([(⟨1, (⟨([7] : List Int), [], 1, []⟩ : Lf), Pn.zero⟩ : Nd), Nd.zero, Nd.zero] : List Nd))) 1) = (ofH (trAs (List.replicate 3 Nd.zero)) 1) from aw_without)) (y_seqS (xs := (ofH (dropL ([0] : List Int) (trAs ([(⟨1, (⟨([7] : List Int), [], 1, []⟩ : Lf), Pn.zero⟩ : Nd), Nd.zero, Nd.zero] : List Nd))) 1)) (ys := (ofH (trAs (List.replicate 3 Nd.zero)) 1)) by128 by132 rfl rfl rfl)) ?_
              refine zh 35 rfl rfl rfl rfl rfl (by kernel_rfl) (fun _ _ _ h => h) (fun q hq => y_pick true rfl rfl rfl) ?_
              refine zh 36 rfl rfl rfl rfl rfl (by kernel_rfl) (fun _ _ _ h => h) (fun q hq => y_assign rfl rfl) ?_
              refine hg_done (by kernel_rfl) ?_
              refine nx (zk1 0 rfl fn) ?_
              refine cg_ret ?_
              have u := u.trans (hw131.mono u.size)
              exact eg_ret_tmp rfl rfl ⟨_, rfl, rfl, u⟩
            · obtain ⟨bs134, hbs134⟩ : ∃ q, q = w126.heap.size := ⟨_, rfl⟩
              refine lg_mkR (K := 3) 3 (want_t (dj := 36) (by rfl) (by kernel_rfl) rfl) (by omega) (by omega) rfl rfl rfl rfl (by decide) fun s133 w133 f133 g133 l133 => ?_
              rw [← hbs134] at g133
              have z133 := l133.size
              refine hg_next l133 ?_
              refine hg_up l133 ?_
              have g4 := g4.keep hw124 (by omega)
              have g4 := g4.keep hw125 (by omega)
              have g4 := g4.keep n126.below (by omega)
              have g4 := g4.keep l133 (by omega)
              have m126 := m126.below (l133.mono (by omega))
              have u := u.trans (hw96.mono u.size)
              have u := u.trans (n97.below.mono u.size)
              have u := u.trans (l122.mono u.size)
              have u := u.trans (hw124.mono u.size)
              have u := u.trans (hw125.mono u.size)
              have u := u.trans (n126.below.mono u.size)
              have u := u.trans (l133.mono u.size)
              refine hg_one 29 (by rfl) (by kernel_rfl) (want_t (dj := 36) (by rfl) (by kernel_rfl) rfl) ?_
              refine lg_callw (want_t (dj := 36) (by rfl) (by kernel_rfl) rfl) (without_any ((g4.rowS (by omega)).more (B' := w133.heap.size) (by omega)) 1 (m126.more (B' := w133.heap.size) (by omega)) (Nat.le_refl _) (by first | omega | (simp only [List.length_cons, List.length_nil]; omega)) (Tt.up u rg)) (by kernel_rfl) rfl rfl rfl (by decide) ?_
              rintro _ w135 ⟨r135, rfl, m135, hw135⟩
              have zw135 := hw135.size
              have ol135 := ofH_len (dropL ([0] : List Int) (trAs ([(⟨1, (⟨([7] : List Int), [], 1, []⟩ : Lf), Pn.zero⟩ : Nd), Nd.zero, Nd.zero] : List Nd))) 1
              refine hg_next hw135 ?_
              refine hg_up hw135 ?_
              have by136 : Bytes (ofH (dropL ([0] : List Int) (trAs ([(⟨1, (⟨([7] : List Int), [], 1, []⟩ : Lf), Pn.zero⟩ : Nd), Nd.zero, Nd.zero] : List Nd))) 1) := m135.bytes
              refine hg_take 30 (by rfl) (want_t (dj := 36) (by rfl) (by kernel_rfl) rfl) (by rfl) rfl (by decide) (by kernel_rfl) (by kernel_rfl) (by kernel_rfl) (fun _ _ _ h => h) (Below.refl _ _) (fun q hq => y_strS (m135.below (hq.mono (by omega))) rfl rfl) ?_
              have g133 := g133.keep hw135 (by omega)
              have u := u.trans (hw135.mono u.size)
              refine hg_one 32 (by rfl) (by kernel_rfl) (want_t (dj := 36) (by rfl) (by kernel_rfl) rfl) ?_
              refine lg_callw (want_t (dj := 36) (by rfl) (by kernel_rfl) rfl) (of_any ((g133.rowS (by omega)).more (B' := w135.heap.size) (by omega)) 1 (Nat.le_refl _) (Tt.up u rg)) (by kernel_rfl) rfl rfl rfl (by decide) ?_
              rintro _ w137 ⟨r137, rfl, m137, hw137⟩
              have zw137 := hw137.size
              have ol137 := ofH_len (trAs (List.replicate 3 Nd.zero)) 1
              refine hg_next hw137 ?_
              refine hg_up hw137 ?_
              have by138 : Bytes (ofH (trAs (List.replicate 3 Nd.zero)) 1) := m137.bytes
              refine hg_take 33 (by rfl) (want_t (dj := 36) (by rfl) (by kernel_rfl) rfl) (by rfl) rfl (by decide) (by kernel_rfl) (by kernel_rfl) (by kernel_rfl) (fun _ _ _ h => h) (Below.refl _ _) (fun q hq => y_strS (m137.below (hq.mono (by omega))) rfl rfl) ?_
              refine hg_take 34 (by rfl) (want_t (dj := 36) (by rfl) (by kernel_rfl) rfl) (by rfl) rfl (by decide) (by kernel_rfl) (by kernel_rfl) (by kernel_rfl) (fun _ _ _ h => h) (Below.refl _ _) (fun q hq => yb (decide_eq_true (show (ofH (dropL ([0] : List Int) (trAs ([(⟨1, (⟨([7] : List Int), [], 1, []⟩ : Lf), Pn.zero⟩ : Nd), Nd.zero, Nd.zero] : List Nd))) 1) = (ofH (trAs (List.replicate 3 Nd.zero)) 1) from aw_without)) (y_seqS (xs := (ofH (dropL ([0] : List Int) (trAs ([(⟨1, (⟨([7] : List Int), [], 1, []⟩ : Lf), Pn.zero⟩ : Nd), Nd.zero, Nd.zero] : List Nd))) 1)) (ys := (ofH (trAs (List.replicate 3 Nd.zero)) 1)) by136 by138 rfl rfl rfl)) ?_
              refine zh 35 rfl rfl rfl rfl rfl (by kernel_rfl) (fun _ _ _ h => h) (fun q hq => y_pick true rfl rfl rfl) ?_
              refine zh 36 rfl rfl rfl rfl rfl (by kernel_rfl) (fun _ _ _ h => h) (fun q hq => y_assign rfl rfl) ?_
              refine hg_done (by kernel_rfl) ?_
              refine nx (zk1 0 rfl fn) ?_
              refine cg_ret ?_
              have u := u.trans (hw137.mono u.size)
              exact eg_ret_tmp rfl rfl ⟨_, rfl, rfl, u⟩
          · obtain ⟨bs140, hbs140⟩ : ∃ q, q = w125.heap.size := ⟨_, rfl⟩
            refine lg_mkR (K := 3) 3 (want_t (dj := 36) (by rfl) (by kernel_rfl) rfl) (by omega) (by omega) rfl rfl rfl rfl (by decide) fun s139 w139 f139 g139 l139 => ?_
            rw [← hbs140] at g139
            have z139 := l139.size
            refine hg_next l139 ?_
            refine hg_up l139 ?_
            refine hg_one 28 (by rfl) (by kernel_rfl) (want_t (dj := 36) (by rfl) (by kernel_rfl) rfl) ?_
            refine lg_bsliceW (el := 3) (z := nv 0) (cs := #[nv 0]) (want_t (dj := 36) (by rfl) (by kernel_rfl) rfl) huIs (by kernel_rfl) (by decide) (by decide) rfl rfl (by kernel_rfl) rfl (by decide) fun b141 w141 n141 => ?_
            have r141 := n141.row
            have k141 := n141.blk
            have z141 := n141.size
            have m141 : SlN w141 (b141 + 1) ⟨some ⟨b141, 0, none⟩, 1, 1⟩ [0] := new_SlN (xs := [0]) r141 rfl (of_decide_eq_true (by kernel_rfl))
            have og141 : w141.ownsRow b141 3 1 (.slice (some ⟨b141, 0, none⟩) 1 1) ([0] : List Int).length (([0] : List Int).map (Value.int .i64)) := new_ownN (xs := [0]) n141 rfl (of_decide_eq_true (by kernel_rfl))
            refine hg_next n141.below ?_
            refine hg_up n141.below ?_
            have g4 := g4.keep hw124 (by omega)
            have g4 := g4.keep hw125 (by omega)
            have g4 := g4.keep l139 (by omega)
            have g4 := g4.keep n141.below (by omega)
            have u := u.trans (hw96.mono u.size)
            have u := u.trans (n97.below.mono u.size)
            have u := u.trans (l122.mono u.size)
            have u := u.trans (hw124.mono u.size)
            have u := u.trans (hw125.mono u.size)
            have u := u.trans (l139.mono u.size)
            have u := u.trans (n141.below.mono u.size)
            refine hg_one 29 (by rfl) (by kernel_rfl) (want_t (dj := 36) (by rfl) (by kernel_rfl) rfl) ?_
            refine lg_callw (want_t (dj := 36) (by rfl) (by kernel_rfl) rfl) (without_any ((g4.rowS (by omega)).more (B' := w141.heap.size) (by omega)) 1 (m141.more (B' := w141.heap.size) (by omega)) (Nat.le_refl _) (by first | omega | (simp only [List.length_cons, List.length_nil]; omega)) (Tt.up u rg)) (by kernel_rfl) rfl rfl rfl (by decide) ?_
            rintro _ w142 ⟨r142, rfl, m142, hw142⟩
            have zw142 := hw142.size
            have ol142 := ofH_len (dropL ([0] : List Int) (trAs ([(⟨1, (⟨([7] : List Int), [], 1, []⟩ : Lf), Pn.zero⟩ : Nd), Nd.zero, Nd.zero] : List Nd))) 1
            refine hg_next hw142 ?_
            refine hg_up hw142 ?_
            have by143 : Bytes (ofH (dropL ([0] : List Int) (trAs ([(⟨1, (⟨([7] : List Int), [], 1, []⟩ : Lf), Pn.zero⟩ : Nd), Nd.zero, Nd.zero] : List Nd))) 1) := m142.bytes
            refine hg_take 30 (by rfl) (want_t (dj := 36) (by rfl) (by kernel_rfl) rfl) (by rfl) rfl (by decide) (by kernel_rfl) (by kernel_rfl) (by kernel_rfl) (fun _ _ _ h => h) (Below.refl _ _) (fun q hq => y_strS (m142.below (hq.mono (by omega))) rfl rfl) ?_
            have g139 := g139.keep n141.below (by omega)
            have g139 := g139.keep hw142 (by omega)
            have u := u.trans (hw142.mono u.size)
            refine hg_one 32 (by rfl) (by kernel_rfl) (want_t (dj := 36) (by rfl) (by kernel_rfl) rfl) ?_
            refine lg_callw (want_t (dj := 36) (by rfl) (by kernel_rfl) rfl) (of_any ((g139.rowS (by omega)).more (B' := w142.heap.size) (by omega)) 1 (Nat.le_refl _) (Tt.up u rg)) (by kernel_rfl) rfl rfl rfl (by decide) ?_
            rintro _ w144 ⟨r144, rfl, m144, hw144⟩
            have zw144 := hw144.size
            have ol144 := ofH_len (trAs (List.replicate 3 Nd.zero)) 1
            refine hg_next hw144 ?_
            refine hg_up hw144 ?_
            have by145 : Bytes (ofH (trAs (List.replicate 3 Nd.zero)) 1) := m144.bytes
            refine hg_take 33 (by rfl) (want_t (dj := 36) (by rfl) (by kernel_rfl) rfl) (by rfl) rfl (by decide) (by kernel_rfl) (by kernel_rfl) (by kernel_rfl) (fun _ _ _ h => h) (Below.refl _ _) (fun q hq => y_strS (m144.below (hq.mono (by omega))) rfl rfl) ?_
            refine hg_take 34 (by rfl) (want_t (dj := 36) (by rfl) (by kernel_rfl) rfl) (by rfl) rfl (by decide) (by kernel_rfl) (by kernel_rfl) (by kernel_rfl) (fun _ _ _ h => h) (Below.refl _ _) (fun q hq => yb (decide_eq_true (show (ofH (dropL ([0] : List Int) (trAs ([(⟨1, (⟨([7] : List Int), [], 1, []⟩ : Lf), Pn.zero⟩ : Nd), Nd.zero, Nd.zero] : List Nd))) 1) = (ofH (trAs (List.replicate 3 Nd.zero)) 1) from aw_without)) (y_seqS (xs := (ofH (dropL ([0] : List Int) (trAs ([(⟨1, (⟨([7] : List Int), [], 1, []⟩ : Lf), Pn.zero⟩ : Nd), Nd.zero, Nd.zero] : List Nd))) 1)) (ys := (ofH (trAs (List.replicate 3 Nd.zero)) 1)) by143 by145 rfl rfl rfl)) ?_
            refine zh 35 rfl rfl rfl rfl rfl (by kernel_rfl) (fun _ _ _ h => h) (fun q hq => y_pick true rfl rfl rfl) ?_
            refine zh 36 rfl rfl rfl rfl rfl (by kernel_rfl) (fun _ _ _ h => h) (fun q hq => y_assign rfl rfl) ?_
            refine hg_done (by kernel_rfl) ?_
            refine nx (zk1 0 rfl fn) ?_
            refine cg_ret ?_
            have u := u.trans (hw144.mono u.size)
            exact eg_ret_tmp rfl rfl ⟨_, rfl, rfl, u⟩
      · obtain ⟨bs147, hbs147⟩ : ∃ q, q = w96.heap.size := ⟨_, rfl⟩
        refine lg_mkR (K := 3) 3 (want_t (dj := 29) (by rfl) (by kernel_rfl) rfl) (by omega) (by omega) rfl rfl rfl rfl (by decide) fun s146 w146 f146 g146 l146 => ?_
        rw [← hbs147] at g146
        have z146 := l146.size
        refine hg_next l146 ?_
        refine hg_up l146 ?_
        refine hg_one 21 (by rfl) (by kernel_rfl) (want_t (dj := 29) (by rfl) (by kernel_rfl) rfl) ?_
        refine lg_bsliceW (el := 3) (z := nv 0) (cs := #[nv 0]) (want_t (dj := 29) (by rfl) (by kernel_rfl) rfl) huIs (by kernel_rfl) (by decide) (by decide) rfl rfl (by kernel_rfl) rfl (by decide) fun b148 w148 n148 => ?_
        have r148 := n148.row
        have k148 := n148.blk
        have z148 := n148.size
        have m148 : SlN w148 (b148 + 1) ⟨some ⟨b148, 0, none⟩, 1, 1⟩ [0] := new_SlN (xs := [0]) r148 rfl (of_decide_eq_true (by kernel_rfl))
        have og148 : w148.ownsRow b148 3 1 (.slice (some ⟨b148, 0, none⟩) 1 1) ([0] : List Int).length (([0] : List Int).map (Value.int .i64)) := new_ownN (xs := [0]) n148 rfl (of_decide_eq_true (by kernel_rfl))
        refine hg_next n148.below ?_
        refine hg_up n148.below ?_
        have g4 := g4.keep hw96 (by omega)
        have g4 := g4.keep l146 (by omega)
        have g4 := g4.keep n148.below (by omega)
        refine hg_one 22 (by rfl) (by kernel_rfl) (want_t (dj := 29) (by rfl) (by kernel_rfl) rfl) ?_
        refine lg_callw (want_t (dj := 29) (by rfl) (by kernel_rfl) rfl) (drop_any ((g4.rowS (by omega)).more (B' := w148.heap.size) (by omega)) (m148.more (B' := w148.heap.size) (by omega)) (Nat.le_refl _) (by first | omega | (simp only [List.length_cons, List.length_nil]; omega))) (by kernel_rfl) rfl rfl rfl (by decide) ?_
        rintro _ w149 ⟨s149, rfl, m149, hw149⟩
        have zw149 := hw149.size
        refine hg_next hw149 ?_
        refine hg_up hw149 ?_
        have g146 := g146.keep n148.below (by omega)
        have g146 := g146.keep hw149 (by omega)
        refine hg_one 24 (by rfl) (by kernel_rfl) (want_t (dj := 29) (by rfl) (by kernel_rfl) rfl) ?_
        refine lg_callw (want_t (dj := 29) (by rfl) (by kernel_rfl) rfl) (sameR_any (m149.more (B' := w149.heap.size) (by omega)) ((g146.rowS (by omega)).more (B' := w149.heap.size) (by omega)) (Nat.le_refl _)) (by kernel_rfl) rfl rfl rfl (by decide) ?_
        rintro u150 w150 ⟨e150, hw150⟩
        have zw150 := hw150.size
        obtain rfl : u150 = .bool true := e150.trans (congrArg Value.bool (decide_eq_true (show trSame (dropL ([0] : List Int) (trAs ([(⟨1, (⟨([7] : List Int), [], 1, []⟩ : Lf), Pn.zero⟩ : Nd), Nd.zero, Nd.zero] : List Nd))) (List.replicate 3 Nd.zero) from aw_same)))
        refine hg_next hw150 ?_
        refine hg_up hw150 ?_
        refine zh 25 rfl rfl rfl rfl rfl (by kernel_rfl) (fun _ _ _ h => h) (fun q hq => y_pick true rfl rfl rfl) ?_
        refine zh 26 rfl rfl rfl rfl rfl (by kernel_rfl) (fun _ _ _ h => h) (fun q hq => y_move rfl rfl) ?_
        refine hg_take 27 (by rfl) (want_t (dj := 36) (by rfl) (by kernel_rfl) rfl) (by rfl) rfl (by decide) (by kernel_rfl) (by kernel_rfl) (by kernel_rfl) (fun _ _ _ h => h) (Below.refl _ _) (fun q hq => y_move rfl rfl) ?_
        refine hg_two 28 31 (by rfl) (by rfl) (by kernel_rfl) (want_t (dj := 36) (by rfl) (by kernel_rfl) rfl) (want_t (dj := 36) (by rfl) (by kernel_rfl) rfl) ?_ ?_
        · refine lg_bsliceW (el := 3) (z := nv 0) (cs := #[nv 0]) (want_t (dj := 36) (by rfl) (by kernel_rfl) rfl) huIs (by kernel_rfl) (by decide) (by decide) rfl rfl (by kernel_rfl) rfl (by decide) fun b151 w151 n151 => ?_
          have r151 := n151.row
          have k151 := n151.blk
          have z151 := n151.size
          have m151 : SlN w151 (b151 + 1) ⟨some ⟨b151, 0, none⟩, 1, 1⟩ [0] := new_SlN (xs := [0]) r151 rfl (of_decide_eq_true (by kernel_rfl))
          have og151 : w151.ownsRow b151 3 1 (.slice (some ⟨b151, 0, none⟩) 1 1) ([0] : List Int).length (([0] : List Int).map (Value.int .i64)) := new_ownN (xs := [0]) n151 rfl (of_decide_eq_true (by kernel_rfl))
          refine hg_next n151.below ?_
          refine hg_up n151.below ?_
          refine hg_two 29 31 (by rfl) (by rfl) (by kernel_rfl) (want_t (dj := 36) (by rfl) (by kernel_rfl) rfl) (want_t (dj := 36) (by rfl) (by kernel_rfl) rfl) ?_ ?_
          · have g4 := g4.keep hw149 (by omega)
            have g4 := g4.keep hw150 (by omega)
            have g4 := g4.keep n151.below (by omega)
            have u := u.trans (hw96.mono u.size)
            have u := u.trans (l146.mono u.size)
            have u := u.trans (n148.below.mono u.size)
            have u := u.trans (hw149.mono u.size)
            have u := u.trans (hw150.mono u.size)
            have u := u.trans (n151.below.mono u.size)
            refine lg_callw (want_t (dj := 36) (by rfl) (by kernel_rfl) rfl) (without_any ((g4.rowS (by omega)).more (B' := w151.heap.size) (by omega)) 1 (m151.more (B' := w151.heap.size) (by omega)) (Nat.le_refl _) (by first | omega | (simp only [List.length_cons, List.length_nil]; omega)) (Tt.up u rg)) (by kernel_rfl) rfl rfl rfl (by decide) ?_
            rintro _ w152 ⟨r152, rfl, m152, hw152⟩
            have zw152 := hw152.size
            have ol152 := ofH_len (dropL ([0] : List Int) (trAs ([(⟨1, (⟨([7] : List Int), [], 1, []⟩ : Lf), Pn.zero⟩ : Nd), Nd.zero, Nd.zero] : List Nd))) 1
            refine hg_next hw152 ?_
            refine hg_up hw152 ?_
            have by153 : Bytes (ofH (dropL ([0] : List Int) (trAs ([(⟨1, (⟨([7] : List Int), [], 1, []⟩ : Lf), Pn.zero⟩ : Nd), Nd.zero, Nd.zero] : List Nd))) 1) := m152.bytes
            refine hg_take 30 (by rfl) (want_t (dj := 36) (by rfl) (by kernel_rfl) rfl) (by rfl) rfl (by decide) (by kernel_rfl) (by kernel_rfl) (by kernel_rfl) (fun _ _ _ h => h) (Below.refl _ _) (fun q hq => y_strS (m152.below (hq.mono (by omega))) rfl rfl) ?_
            refine hg_one 31 (by rfl) (by kernel_rfl) (want_t (dj := 36) (by rfl) (by kernel_rfl) rfl) ?_
            obtain ⟨bs155, hbs155⟩ : ∃ q, q = w152.heap.size := ⟨_, rfl⟩
            refine lg_mkR (K := 3) 3 (want_t (dj := 36) (by rfl) (by kernel_rfl) rfl) (by omega) (by omega) rfl rfl rfl rfl (by decide) fun s154 w154 f154 g154 l154 => ?_
            rw [← hbs155] at g154
            have z154 := l154.size
            refine hg_next l154 ?_
            refine hg_up l154 ?_
            have u := u.trans (hw152.mono u.size)
            have u := u.trans (l154.mono u.size)
            refine hg_one 32 (by rfl) (by kernel_rfl) (want_t (dj := 36) (by rfl) (by kernel_rfl) rfl) ?_
            refine lg_callw (want_t (dj := 36) (by rfl) (by kernel_rfl) rfl) (of_any ((g154.rowS (by omega)).more (B' := w154.heap.size) (by omega)) 1 (Nat.le_refl _) (Tt.up u rg)) (by kernel_rfl) rfl rfl rfl (by decide) ?_
            rintro _ w156 ⟨r156, rfl, m156, hw156⟩
            have zw156 := hw156.size
            have ol156 := ofH_len (trAs (List.replicate 3 Nd.zero)) 1
            refine hg_next hw156 ?_
            refine hg_up hw156 ?_
            have by157 : Bytes (ofH (trAs (List.replicate 3 Nd.zero)) 1) := m156.bytes
            refine hg_take 33 (by rfl) (want_t (dj := 36) (by rfl) (by kernel_rfl) rfl) (by rfl) rfl (by decide) (by kernel_rfl) (by kernel_rfl) (by kernel_rfl) (fun _ _ _ h => h) (Below.refl _ _) (fun q hq => y_strS (m156.below (hq.mono (by omega))) rfl rfl) ?_
            refine hg_take 34 (by rfl) (want_t (dj := 36) (by rfl) (by kernel_rfl) rfl) (by rfl) rfl (by decide) (by kernel_rfl) (by kernel_rfl) (by kernel_rfl) (fun _ _ _ h => h) (Below.refl _ _) (fun q hq => yb (decide_eq_true (show (ofH (dropL ([0] : List Int) (trAs ([(⟨1, (⟨([7] : List Int), [], 1, []⟩ : Lf), Pn.zero⟩ : Nd), Nd.zero, Nd.zero] : List Nd))) 1) = (ofH (trAs (List.replicate 3 Nd.zero)) 1) from aw_without)) (y_seqS (xs := (ofH (dropL ([0] : List Int) (trAs ([(⟨1, (⟨([7] : List Int), [], 1, []⟩ : Lf), Pn.zero⟩ : Nd), Nd.zero, Nd.zero] : List Nd))) 1)) (ys := (ofH (trAs (List.replicate 3 Nd.zero)) 1)) by153 by157 rfl rfl rfl)) ?_
            refine zh 35 rfl rfl rfl rfl rfl (by kernel_rfl) (fun _ _ _ h => h) (fun q hq => y_pick true rfl rfl rfl) ?_
            refine zh 36 rfl rfl rfl rfl rfl (by kernel_rfl) (fun _ _ _ h => h) (fun q hq => y_assign rfl rfl) ?_
            refine hg_done (by kernel_rfl) ?_
            refine nx (zk1 0 rfl fn) ?_
            refine cg_ret ?_
            have u := u.trans (hw156.mono u.size)
            exact eg_ret_tmp rfl rfl ⟨_, rfl, rfl, u⟩
          · obtain ⟨bs159, hbs159⟩ : ∃ q, q = w151.heap.size := ⟨_, rfl⟩
            refine lg_mkR (K := 3) 3 (want_t (dj := 36) (by rfl) (by kernel_rfl) rfl) (by omega) (by omega) rfl rfl rfl rfl (by decide) fun s158 w158 f158 g158 l158 => ?_
            rw [← hbs159] at g158
            have z158 := l158.size
            refine hg_next l158 ?_
            refine hg_up l158 ?_
            have g4 := g4.keep hw149 (by omega)
            have g4 := g4.keep hw150 (by omega)
            have g4 := g4.keep n151.below (by omega)
            have g4 := g4.keep l158 (by omega)
            have m151 := m151.below (l158.mono (by omega))
            have u := u.trans (hw96.mono u.size)
            have u := u.trans (l146.mono u.size)
            have u := u.trans (n148.below.mono u.size)
            have u := u.trans (hw149.mono u.size)
            have u := u.trans (hw150.mono u.size)
            have u := u.trans (n151.below.mono u.size)
            have u := u.trans (l158.mono u.size)
            refine hg_one 29 (by rfl) (by kernel_rfl) (want_t (dj := 36) (by rfl) (by kernel_rfl) rfl) ?_
            refine lg_callw (want_t (dj := 36) (by rfl) (by kernel_rfl) rfl) (without_any ((g4.rowS (by omega)).more (B' := w158.heap.size) (by omega)) 1 (m151.more (B' := w158.heap.size) (by omega)) (Nat.le_refl _) (by first | omega | (simp only [List.length_cons, List.length_nil]; omega)) (Tt.up u rg)) (by kernel_rfl) rfl rfl rfl (by decide) ?_
            rintro _ w160 ⟨r160, rfl, m160, hw160⟩
            have zw160 := hw160.size
            have ol160 := ofH_len (dropL ([0] : List Int) (trAs ([(⟨1, (⟨([7] : List Int), [], 1, []⟩ : Lf), Pn.zero⟩ : Nd), Nd.zero, Nd.zero] : List Nd))) 1
            refine hg_next hw160 ?_
            refine hg_up hw160 ?_
            have by161 : Bytes (ofH (dropL ([0] : List Int) (trAs ([(⟨1, (⟨([7] : List Int), [], 1, []⟩ : Lf), Pn.zero⟩ : Nd), Nd.zero, Nd.zero] : List Nd))) 1) := m160.bytes
            refine hg_take 30 (by rfl) (want_t (dj := 36) (by rfl) (by kernel_rfl) rfl) (by rfl) rfl (by decide) (by kernel_rfl) (by kernel_rfl) (by kernel_rfl) (fun _ _ _ h => h) (Below.refl _ _) (fun q hq => y_strS (m160.below (hq.mono (by omega))) rfl rfl) ?_
            have g158 := g158.keep hw160 (by omega)
            have u := u.trans (hw160.mono u.size)
            refine hg_one 32 (by rfl) (by kernel_rfl) (want_t (dj := 36) (by rfl) (by kernel_rfl) rfl) ?_
            refine lg_callw (want_t (dj := 36) (by rfl) (by kernel_rfl) rfl) (of_any ((g158.rowS (by omega)).more (B' := w160.heap.size) (by omega)) 1 (Nat.le_refl _) (Tt.up u rg)) (by kernel_rfl) rfl rfl rfl (by decide) ?_
            rintro _ w162 ⟨r162, rfl, m162, hw162⟩
            have zw162 := hw162.size
            have ol162 := ofH_len (trAs (List.replicate 3 Nd.zero)) 1
            refine hg_next hw162 ?_
            refine hg_up hw162 ?_
            have by163 : Bytes (ofH (trAs (List.replicate 3 Nd.zero)) 1) := m162.bytes
            refine hg_take 33 (by rfl) (want_t (dj := 36) (by rfl) (by kernel_rfl) rfl) (by rfl) rfl (by decide) (by kernel_rfl) (by kernel_rfl) (by kernel_rfl) (fun _ _ _ h => h) (Below.refl _ _) (fun q hq => y_strS (m162.below (hq.mono (by omega))) rfl rfl) ?_
            refine hg_take 34 (by rfl) (want_t (dj := 36) (by rfl) (by kernel_rfl) rfl) (by rfl) rfl (by decide) (by kernel_rfl) (by kernel_rfl) (by kernel_rfl) (fun _ _ _ h => h) (Below.refl _ _) (fun q hq => yb (decide_eq_true (show (ofH (dropL ([0] : List Int) (trAs ([(⟨1, (⟨([7] : List Int), [], 1, []⟩ : Lf), Pn.zero⟩ : Nd), Nd.zero, Nd.zero] : List Nd))) 1) = (ofH (trAs (List.replicate 3 Nd.zero)) 1) from aw_without)) (y_seqS (xs := (ofH (dropL ([0] : List Int) (trAs ([(⟨1, (⟨([7] : List Int), [], 1, []⟩ : Lf), Pn.zero⟩ : Nd), Nd.zero, Nd.zero] : List Nd))) 1)) (ys := (ofH (trAs (List.replicate 3 Nd.zero)) 1)) by161 by163 rfl rfl rfl)) ?_
            refine zh 35 rfl rfl rfl rfl rfl (by kernel_rfl) (fun _ _ _ h => h) (fun q hq => y_pick true rfl rfl rfl) ?_
            refine zh 36 rfl rfl rfl rfl rfl (by kernel_rfl) (fun _ _ _ h => h) (fun q hq => y_assign rfl rfl) ?_
            refine hg_done (by kernel_rfl) ?_
            refine nx (zk1 0 rfl fn) ?_
            refine cg_ret ?_
            have u := u.trans (hw162.mono u.size)
            exact eg_ret_tmp rfl rfl ⟨_, rfl, rfl, u⟩
        · obtain ⟨bs165, hbs165⟩ : ∃ q, q = w150.heap.size := ⟨_, rfl⟩
          refine lg_mkR (K := 3) 3 (want_t (dj := 36) (by rfl) (by kernel_rfl) rfl) (by omega) (by omega) rfl rfl rfl rfl (by decide) fun s164 w164 f164 g164 l164 => ?_
          rw [← hbs165] at g164
          have z164 := l164.size
          refine hg_next l164 ?_
          refine hg_up l164 ?_
          refine hg_one 28 (by rfl) (by kernel_rfl) (want_t (dj := 36) (by rfl) (by kernel_rfl) rfl) ?_
          refine lg_bsliceW (el := 3) (z := nv 0) (cs := #[nv 0]) (want_t (dj := 36) (by rfl) (by kernel_rfl) rfl) huIs (by kernel_rfl) (by decide) (by decide) rfl rfl (by kernel_rfl) rfl (by decide) fun b166 w166 n166 => ?_
          have r166 := n166.row
          have k166 := n166.blk
          have z166 := n166.size
          have m166 : SlN w166 (b166 + 1) ⟨some ⟨b166, 0, none⟩, 1, 1⟩ [0] := new_SlN (xs := [0]) r166 rfl (of_decide_eq_true (by kernel_rfl))
          have og166 : w166.ownsRow b166 3 1 (.slice (some ⟨b166, 0, none⟩) 1 1) ([0] : List Int).length (([0] : List Int).map (Value.int .i64)) := new_ownN (xs := [0]) n166 rfl (of_decide_eq_true (by kernel_rfl))
          refine hg_next n166.below ?_
          refine hg_up n166.below ?_
          have g4 := g4.keep hw149 (by omega)
          have g4 := g4.keep hw150 (by omega)
          have g4 := g4.keep l164 (by omega)
          have g4 := g4.keep n166.below (by omega)
          have u := u.trans (hw96.mono u.size)
          have u := u.trans (l146.mono u.size)
          have u := u.trans (n148.below.mono u.size)
          have u := u.trans (hw149.mono u.size)
          have u := u.trans (hw150.mono u.size)
          have u := u.trans (l164.mono u.size)
          have u := u.trans (n166.below.mono u.size)
          refine hg_one 29 (by rfl) (by kernel_rfl) (want_t (dj := 36) (by rfl) (by kernel_rfl) rfl) ?_
          refine lg_callw (want_t (dj := 36) (by rfl) (by kernel_rfl) rfl) (without_any ((g4.rowS (by omega)).more (B' := w166.heap.size) (by omega)) 1 (m166.more (B' := w166.heap.size) (by omega)) (Nat.le_refl _) (by first | omega | (simp only [List.length_cons, List.length_nil]; omega)) (Tt.up u rg)) (by kernel_rfl) rfl rfl rfl (by decide) ?_
          rintro _ w167 ⟨r167, rfl, m167, hw167⟩
          have zw167 := hw167.size
          have ol167 := ofH_len (dropL ([0] : List Int) (trAs ([(⟨1, (⟨([7] : List Int), [], 1, []⟩ : Lf), Pn.zero⟩ : Nd), Nd.zero, Nd.zero] : List Nd))) 1
          refine hg_next hw167 ?_
          refine hg_up hw167 ?_
          have by168 : Bytes (ofH (dropL ([0] : List Int) (trAs ([(⟨1, (⟨([7] : List Int), [], 1, []⟩ : Lf), Pn.zero⟩ : Nd), Nd.zero, Nd.zero] : List Nd))) 1) := m167.bytes
          refine hg_take 30 (by rfl) (want_t (dj := 36) (by rfl) (by kernel_rfl) rfl) (by rfl) rfl (by decide) (by kernel_rfl) (by kernel_rfl) (by kernel_rfl) (fun _ _ _ h => h) (Below.refl _ _) (fun q hq => y_strS (m167.below (hq.mono (by omega))) rfl rfl) ?_
          have g164 := g164.keep n166.below (by omega)
          have g164 := g164.keep hw167 (by omega)
          have u := u.trans (hw167.mono u.size)
          refine hg_one 32 (by rfl) (by kernel_rfl) (want_t (dj := 36) (by rfl) (by kernel_rfl) rfl) ?_
          refine lg_callw (want_t (dj := 36) (by rfl) (by kernel_rfl) rfl) (of_any ((g164.rowS (by omega)).more (B' := w167.heap.size) (by omega)) 1 (Nat.le_refl _) (Tt.up u rg)) (by kernel_rfl) rfl rfl rfl (by decide) ?_
          rintro _ w169 ⟨r169, rfl, m169, hw169⟩
          have zw169 := hw169.size
          have ol169 := ofH_len (trAs (List.replicate 3 Nd.zero)) 1
          refine hg_next hw169 ?_
          refine hg_up hw169 ?_
          have by170 : Bytes (ofH (trAs (List.replicate 3 Nd.zero)) 1) := m169.bytes
          refine hg_take 33 (by rfl) (want_t (dj := 36) (by rfl) (by kernel_rfl) rfl) (by rfl) rfl (by decide) (by kernel_rfl) (by kernel_rfl) (by kernel_rfl) (fun _ _ _ h => h) (Below.refl _ _) (fun q hq => y_strS (m169.below (hq.mono (by omega))) rfl rfl) ?_
          refine hg_take 34 (by rfl) (want_t (dj := 36) (by rfl) (by kernel_rfl) rfl) (by rfl) rfl (by decide) (by kernel_rfl) (by kernel_rfl) (by kernel_rfl) (fun _ _ _ h => h) (Below.refl _ _) (fun q hq => yb (decide_eq_true (show (ofH (dropL ([0] : List Int) (trAs ([(⟨1, (⟨([7] : List Int), [], 1, []⟩ : Lf), Pn.zero⟩ : Nd), Nd.zero, Nd.zero] : List Nd))) 1) = (ofH (trAs (List.replicate 3 Nd.zero)) 1) from aw_without)) (y_seqS (xs := (ofH (dropL ([0] : List Int) (trAs ([(⟨1, (⟨([7] : List Int), [], 1, []⟩ : Lf), Pn.zero⟩ : Nd), Nd.zero, Nd.zero] : List Nd))) 1)) (ys := (ofH (trAs (List.replicate 3 Nd.zero)) 1)) by168 by170 rfl rfl rfl)) ?_
          refine zh 35 rfl rfl rfl rfl rfl (by kernel_rfl) (fun _ _ _ h => h) (fun q hq => y_pick true rfl rfl rfl) ?_
          refine zh 36 rfl rfl rfl rfl rfl (by kernel_rfl) (fun _ _ _ h => h) (fun q hq => y_assign rfl rfl) ?_
          refine hg_done (by kernel_rfl) ?_
          refine nx (zk1 0 rfl fn) ?_
          refine cg_ret ?_
          have u := u.trans (hw169.mono u.size)
          exact eg_ret_tmp rfl rfl ⟨_, rfl, rfl, u⟩
  · refine lg_bslice (z := .int .u8 0) (cs := #[.int .u8 1, .int .u8 0, .int .u8 0, .int .u8 0, .int .u8 0, .int .u8 0]) huo24 (by kernel_rfl) (by decide) (by decide) rfl rfl (by kernel_rfl) rfl rfl (by decide) fun b171 w171 n171 => ?_
    have r171 := n171.row
    have k171 := n171.blk
    have z171 := n171.size
    have m171 : Sl w171 (b171 + 1) ⟨some ⟨b171, 0, none⟩, 6, 6⟩ [1, 0, 0, 0, 0, 0] := ⟨Nat.le_refl _, of_decide_eq_true (by kernel_rfl), oct_lit r171 rfl (by decide)⟩
    refine hg_next n171.below ?_
    refine hg_up n171.below ?_
    refine hg_one 0 (by rfl) (by kernel_rfl) (want_none (by rfl)) ?_
    obtain ⟨bs173, hbs173⟩ : ∃ q, q = w171.heap.size := ⟨_, rfl⟩
    refine lg_mkR (K := 1) 1 (want_none (by rfl)) (by omega) (by omega) rfl rfl rfl rfl (by decide) fun s172 w172 f172 g172 l172 => ?_
    rw [← hbs173] at g172
    have z172 := l172.size
    refine hg_next l172 ?_
    refine hg_up l172 ?_
    have u := u.trans (n1.below.mono u.size)
    have u := u.trans (n2.below.mono u.size)
    have u := u.trans (s3.below _ (by omega))
    have u := u.trans (l4.mono u.size)
    have u := u.trans (dW6.mono u.size)
    have u := u.trans (n171.below.mono u.size)
    have u := u.trans (l172.mono u.size)
    refine hg_one 1 (by rfl) (by kernel_rfl) (want_none (by rfl)) ?_
    refine lg_callw (want_none (by rfl)) (of_any ((g172.rowS (by omega)).more (B' := w172.heap.size) (by omega)) 0 (Nat.le_refl _) (Tt.up u rg)) (by kernel_rfl) rfl rfl rfl (by decide) ?_
    rintro _ w174 ⟨r174, rfl, m174, hw174⟩
    have zw174 := hw174.size
    have ol174 := ofH_len (trAs (List.replicate 1 Nd.zero)) 0
    refine hg_next hw174 ?_
    refine hg_up hw174 ?_
    have by175 : Bytes (ofH (trAs (List.replicate 1 Nd.zero)) 0) := m174.bytes
    refine zh 2 rfl rfl rfl rfl rfl (by kernel_rfl) (fun _ _ _ h => h) (fun q hq => y_strS (m174.below (hq.mono (by omega))) rfl rfl) ?_
    have m171 := m171.below (l172.mono (by omega))
    have m171 := m171.below (hw174.mono (by omega))
    have u := u.trans (hw174.mono u.size)
    refine hg_one 4 (by rfl) (by kernel_rfl) (want_none (by rfl)) ?_
    refine lg_callw (want_none (by rfl)) (sumS_any (m171.more (B' := w174.heap.size) (by omega)) (Nat.le_refl _) (by first | omega | (simp only [List.length_cons, List.length_nil]; omega)) (Tt.up u rg)) (by kernel_rfl) rfl rfl rfl (by decide) ?_
    rintro _ w176 ⟨r176, rfl, m176, hw176⟩
    have zw176 := hw176.size
    refine hg_next hw176 ?_
    refine hg_up hw176 ?_
    have by177 : Bytes (sumL ([1, 0, 0, 0, 0, 0] : List Int)) := m176.1.bytes
    refine zh 5 rfl rfl rfl rfl rfl (by kernel_rfl) (fun _ _ _ h => h) (fun q hq => y_strS (m176.below hq).1 rfl rfl) ?_
    refine zh 6 rfl rfl rfl rfl rfl (by kernel_rfl) (fun _ _ _ h => h) (fun q hq => yb (decide_eq_true (show (ofH (trAs (List.replicate 1 Nd.zero)) 0) = (sumL ([1, 0, 0, 0, 0, 0] : List Int)) from aw_one)) (y_seqS (xs := (ofH (trAs (List.replicate 1 Nd.zero)) 0)) (ys := (sumL ([1, 0, 0, 0, 0, 0] : List Int))) by175 by177 rfl rfl rfl)) ?_
    refine zh 7 rfl rfl rfl rfl rfl (by kernel_rfl) (fun _ _ _ h => h) (fun q hq => y_move rfl rfl) ?_
    refine hg_take 8 (by rfl) (want_t (dj := 17) (by rfl) (by kernel_rfl) rfl) (by rfl) rfl (by decide) (by kernel_rfl) (by kernel_rfl) (by kernel_rfl) (fun _ _ _ h => h) (Below.refl _ _) (fun q hq => y_move rfl rfl) ?_
    have g4 := g4.keep dW6 (by omega)
    have g4 := g4.keep n171.below (by omega)
    have g4 := g4.keep l172 (by omega)
    have g4 := g4.keep hw174 (by omega)
    have g4 := g4.keep hw176 (by omega)
    have u := u.trans (hw176.mono u.size)
    refine hg_one 9 (by rfl) (by kernel_rfl) (want_t (dj := 17) (by rfl) (by kernel_rfl) rfl) ?_
    refine lg_callw (want_t (dj := 17) (by rfl) (by kernel_rfl) rfl) (of_any ((g4.rowS (by omega)).more (B' := w176.heap.size) (by omega)) 1 (Nat.le_refl _) (Tt.up u rg)) (by kernel_rfl) rfl rfl rfl (by decide) ?_
    rintro _ w178 ⟨r178, rfl, m178, hw178⟩
    have zw178 := hw178.size
    have ol178 := ofH_len (trAs ([(⟨1, (⟨([7] : List Int), [], 1, []⟩ : Lf), Pn.zero⟩ : Nd), Nd.zero, Nd.zero] : List Nd)) 1
    refine hg_next hw178 ?_
    refine hg_up hw178 ?_
    refine hg_take 10 (by rfl) (want_t (dj := 17) (by rfl) (by kernel_rfl) rfl) (by rfl) rfl (by decide) (by kernel_rfl) (by kernel_rfl) (by kernel_rfl) (fun _ _ _ h => h) (Below.refl _ _) (fun q hq => y_lenS (el := 5) m178 (by kernel_rfl) rfl rfl) ?_
    refine hg_take 11 (by rfl) (want_t (dj := 17) (by rfl) (by kernel_rfl) rfl) (by rfl) rfl (by decide) (by kernel_rfl) (by kernel_rfl) (by kernel_rfl) (fun _ _ _ h => h) (Below.refl _ _) (fun q hq => yb (decide_eq_true (show ((ofH (trAs ([(⟨1, (⟨([7] : List Int), [], 1, []⟩ : Lf), Pn.zero⟩ : Nd), Nd.zero, Nd.zero] : List Nd)) 1).length : Int) = 32 from aw_len)) (yi_eql rfl rfl rfl)) ?_
    refine zh 12 rfl rfl rfl rfl rfl (by kernel_rfl) (fun _ _ _ h => h) (fun q hq => y_pick true rfl rfl rfl) ?_
    refine zh 13 rfl rfl rfl rfl rfl (by kernel_rfl) (fun _ _ _ h => h) (fun q hq => y_move rfl rfl) ?_
    refine hg_take 14 (by rfl) (want_t (dj := 23) (by rfl) (by kernel_rfl) rfl) (by rfl) rfl (by decide) (by kernel_rfl) (by kernel_rfl) (by kernel_rfl) (fun _ _ _ h => h) (Below.refl _ _) (fun q hq => y_move rfl rfl) ?_
    have g4 := g4.keep hw178 (by omega)
    have u := u.trans (hw178.mono u.size)
    refine hg_one 15 (by rfl) (by kernel_rfl) (want_t (dj := 23) (by rfl) (by kernel_rfl) rfl) ?_
    refine lg_callw (want_t (dj := 23) (by rfl) (by kernel_rfl) rfl) (all_any ((g4.rowS (by omega)).more (B' := w178.heap.size) (by omega)) (Nat.le_refl _) (Tt.up u rg)) (by kernel_rfl) rfl rfl rfl (by decide) ?_
    rintro _ w179 ⟨r179, rfl, m179, hw179⟩
    have zw179 := hw179.size
    refine hg_next hw179 ?_
    refine hg_up hw179 ?_
    refine hg_take 16 (by rfl) (want_t (dj := 23) (by rfl) (by kernel_rfl) rfl) (by rfl) rfl (by decide) (by kernel_rfl) (by kernel_rfl) (by kernel_rfl) (fun _ _ _ h => h) (Below.refl _ _) (fun q hq => y_lenM (el := 26) m179.len (by kernel_rfl) rfl rfl) ?_
    refine hg_take 17 (by rfl) (want_t (dj := 23) (by rfl) (by kernel_rfl) rfl) (by rfl) rfl (by decide) (by kernel_rfl) (by kernel_rfl) (by kernel_rfl) (fun _ _ _ h => h) (Below.refl _ _) (fun q hq => yb (decide_eq_true (show ((allH (trAs ([(⟨1, (⟨([7] : List Int), [], 1, []⟩ : Lf), Pn.zero⟩ : Nd), Nd.zero, Nd.zero] : List Nd))).length : Int) = 3 from aw_all)) (yi_eql rfl rfl rfl)) ?_
    refine zh 18 rfl rfl rfl rfl rfl (by kernel_rfl) (fun _ _ _ h => h) (fun q hq => y_pick true rfl rfl rfl) ?_
    refine zh 19 rfl rfl rfl rfl rfl (by kernel_rfl) (fun _ _ _ h => h) (fun q hq => y_move rfl rfl) ?_
    refine hg_take 20 (by rfl) (want_t (dj := 29) (by rfl) (by kernel_rfl) rfl) (by rfl) rfl (by decide) (by kernel_rfl) (by kernel_rfl) (by kernel_rfl) (fun _ _ _ h => h) (Below.refl _ _) (fun q hq => y_move rfl rfl) ?_
    refine hg_two 21 23 (by rfl) (by rfl) (by kernel_rfl) (want_t (dj := 29) (by rfl) (by kernel_rfl) rfl) (want_t (dj := 29) (by rfl) (by kernel_rfl) rfl) ?_ ?_
    · refine lg_bsliceW (el := 3) (z := nv 0) (cs := #[nv 0]) (want_t (dj := 29) (by rfl) (by kernel_rfl) rfl) huIs (by kernel_rfl) (by decide) (by decide) rfl rfl (by kernel_rfl) rfl (by decide) fun b180 w180 n180 => ?_
      have r180 := n180.row
      have k180 := n180.blk
      have z180 := n180.size
      have m180 : SlN w180 (b180 + 1) ⟨some ⟨b180, 0, none⟩, 1, 1⟩ [0] := new_SlN (xs := [0]) r180 rfl (of_decide_eq_true (by kernel_rfl))
      have og180 : w180.ownsRow b180 3 1 (.slice (some ⟨b180, 0, none⟩) 1 1) ([0] : List Int).length (([0] : List Int).map (Value.int .i64)) := new_ownN (xs := [0]) n180 rfl (of_decide_eq_true (by kernel_rfl))
      refine hg_next n180.below ?_
      refine hg_up n180.below ?_
      refine hg_two 22 23 (by rfl) (by rfl) (by kernel_rfl) (want_t (dj := 29) (by rfl) (by kernel_rfl) rfl) (want_t (dj := 29) (by rfl) (by kernel_rfl) rfl) ?_ ?_
      · have g4 := g4.keep hw179 (by omega)
        have g4 := g4.keep n180.below (by omega)
        refine lg_callw (want_t (dj := 29) (by rfl) (by kernel_rfl) rfl) (drop_any ((g4.rowS (by omega)).more (B' := w180.heap.size) (by omega)) (m180.more (B' := w180.heap.size) (by omega)) (Nat.le_refl _) (by first | omega | (simp only [List.length_cons, List.length_nil]; omega))) (by kernel_rfl) rfl rfl rfl (by decide) ?_
        rintro _ w181 ⟨s181, rfl, m181, hw181⟩
        have zw181 := hw181.size
        refine hg_next hw181 ?_
        refine hg_up hw181 ?_
        refine hg_one 23 (by rfl) (by kernel_rfl) (want_t (dj := 29) (by rfl) (by kernel_rfl) rfl) ?_
        obtain ⟨bs183, hbs183⟩ : ∃ q, q = w181.heap.size := ⟨_, rfl⟩
        refine lg_mkR (K := 3) 3 (want_t (dj := 29) (by rfl) (by kernel_rfl) rfl) (by omega) (by omega) rfl rfl rfl rfl (by decide) fun s182 w182 f182 g182 l182 => ?_
        rw [← hbs183] at g182
        have z182 := l182.size
        refine hg_next l182 ?_
        refine hg_up l182 ?_
        have m181 := m181.below (l182.mono (by omega))
        refine hg_one 24 (by rfl) (by kernel_rfl) (want_t (dj := 29) (by rfl) (by kernel_rfl) rfl) ?_
        refine lg_callw (want_t (dj := 29) (by rfl) (by kernel_rfl) rfl) (sameR_any (m181.more (B' := w182.heap.size) (by omega)) ((g182.rowS (by omega)).more (B' := w182.heap.size) (by omega)) (Nat.le_refl _)) (by kernel_rfl) rfl rfl rfl (by decide) ?_
        rintro u184 w184 ⟨e184, hw184⟩
        have zw184 := hw184.size
        obtain rfl : u184 = .bool true := e184.trans (congrArg Value.bool (decide_eq_true (show trSame (dropL ([0] : List Int) (trAs ([(⟨1, (⟨([7] : List Int), [], 1, []⟩ : Lf), Pn.zero⟩ : Nd), Nd.zero, Nd.zero] : List Nd))) (List.replicate 3 Nd.zero) from aw_same)))
        refine hg_next hw184 ?_
        refine hg_up hw184 ?_
        refine zh 25 rfl rfl rfl rfl rfl (by kernel_rfl) (fun _ _ _ h => h) (fun q hq => y_pick true rfl rfl rfl) ?_
        refine zh 26 rfl rfl rfl rfl rfl (by kernel_rfl) (fun _ _ _ h => h) (fun q hq => y_move rfl rfl) ?_
        refine hg_take 27 (by rfl) (want_t (dj := 36) (by rfl) (by kernel_rfl) rfl) (by rfl) rfl (by decide) (by kernel_rfl) (by kernel_rfl) (by kernel_rfl) (fun _ _ _ h => h) (Below.refl _ _) (fun q hq => y_move rfl rfl) ?_
        refine hg_two 28 31 (by rfl) (by rfl) (by kernel_rfl) (want_t (dj := 36) (by rfl) (by kernel_rfl) rfl) (want_t (dj := 36) (by rfl) (by kernel_rfl) rfl) ?_ ?_
        · refine lg_bsliceW (el := 3) (z := nv 0) (cs := #[nv 0]) (want_t (dj := 36) (by rfl) (by kernel_rfl) rfl) huIs (by kernel_rfl) (by decide) (by decide) rfl rfl (by kernel_rfl) rfl (by decide) fun b185 w185 n185 => ?_
          have r185 := n185.row
          have k185 := n185.blk
          have z185 := n185.size
          have m185 : SlN w185 (b185 + 1) ⟨some ⟨b185, 0, none⟩, 1, 1⟩ [0] := new_SlN (xs := [0]) r185 rfl (of_decide_eq_true (by kernel_rfl))
          have og185 : w185.ownsRow b185 3 1 (.slice (some ⟨b185, 0, none⟩) 1 1) ([0] : List Int).length (([0] : List Int).map (Value.int .i64)) := new_ownN (xs := [0]) n185 rfl (of_decide_eq_true (by kernel_rfl))
          refine hg_next n185.below ?_
          refine hg_up n185.below ?_
          refine hg_two 29 31 (by rfl) (by rfl) (by kernel_rfl) (want_t (dj := 36) (by rfl) (by kernel_rfl) rfl) (want_t (dj := 36) (by rfl) (by kernel_rfl) rfl) ?_ ?_
          · have g4 := g4.keep hw181 (by omega)
            have g4 := g4.keep l182 (by omega)
            have g4 := g4.keep hw184 (by omega)
            have g4 := g4.keep n185.below (by omega)
            have u := u.trans (hw179.mono u.size)
            have u := u.trans (n180.below.mono u.size)
            have u := u.trans (hw181.mono u.size)
            have u := u.trans (l182.mono u.size)
            have u := u.trans (hw184.mono u.size)
            have u := u.trans (n185.below.mono u.size)
            refine lg_callw (want_t (dj := 36) (by rfl) (by kernel_rfl) rfl) (without_any ((g4.rowS (by omega)).more (B' := w185.heap.size) (by omega)) 1 (m185.more (B' := w185.heap.size) (by omega)) (Nat.le_refl _) (by first | omega | (simp only [List.length_cons, List.length_nil]; omega)) (Tt.up u rg)) (by kernel_rfl) rfl rfl rfl (by decide) ?_
            rintro _ w186 ⟨r186, rfl, m186, hw186⟩
            have zw186 := hw186.size
            have ol186 := ofH_len (dropL ([0] : List Int) (trAs ([(⟨1, (⟨([7] : List Int), [], 1, []⟩ : Lf), Pn.zero⟩ : Nd), Nd.zero, Nd.zero] : List Nd))) 1
            refine hg_next hw186 ?_
            refine hg_up hw186 ?_
            have by187 : Bytes (ofH (dropL ([0] : List Int) (trAs ([(⟨1, (⟨([7] : List Int), [], 1, []⟩ : Lf), Pn.zero⟩ : Nd), Nd.zero, Nd.zero] : List Nd))) 1) := m186.bytes
            refine hg_take 30 (by rfl) (want_t (dj := 36) (by rfl) (by kernel_rfl) rfl) (by rfl) rfl (by decide) (by kernel_rfl) (by kernel_rfl) (by kernel_rfl) (fun _ _ _ h => h) (Below.refl _ _) (fun q hq => y_strS (m186.below (hq.mono (by omega))) rfl rfl) ?_
            refine hg_one 31 (by rfl) (by kernel_rfl) (want_t (dj := 36) (by rfl) (by kernel_rfl) rfl) ?_
            obtain ⟨bs189, hbs189⟩ : ∃ q, q = w186.heap.size := ⟨_, rfl⟩
            refine lg_mkR (K := 3) 3 (want_t (dj := 36) (by rfl) (by kernel_rfl) rfl) (by omega) (by omega) rfl rfl rfl rfl (by decide) fun s188 w188 f188 g188 l188 => ?_
            rw [← hbs189] at g188
            have z188 := l188.size
            refine hg_next l188 ?_
            refine hg_up l188 ?_
            have u := u.trans (hw186.mono u.size)
            have u := u.trans (l188.mono u.size)
            refine hg_one 32 (by rfl) (by kernel_rfl) (want_t (dj := 36) (by rfl) (by kernel_rfl) rfl) ?_
            refine lg_callw (want_t (dj := 36) (by rfl) (by kernel_rfl) rfl) (of_any ((g188.rowS (by omega)).more (B' := w188.heap.size) (by omega)) 1 (Nat.le_refl _) (Tt.up u rg)) (by kernel_rfl) rfl rfl rfl (by decide) ?_
            rintro _ w190 ⟨r190, rfl, m190, hw190⟩
            have zw190 := hw190.size
            have ol190 := ofH_len (trAs (List.replicate 3 Nd.zero)) 1
            refine hg_next hw190 ?_
            refine hg_up hw190 ?_
            have by191 : Bytes (ofH (trAs (List.replicate 3 Nd.zero)) 1) := m190.bytes
            refine hg_take 33 (by rfl) (want_t (dj := 36) (by rfl) (by kernel_rfl) rfl) (by rfl) rfl (by decide) (by kernel_rfl) (by kernel_rfl) (by kernel_rfl) (fun _ _ _ h => h) (Below.refl _ _) (fun q hq => y_strS (m190.below (hq.mono (by omega))) rfl rfl) ?_
            refine hg_take 34 (by rfl) (want_t (dj := 36) (by rfl) (by kernel_rfl) rfl) (by rfl) rfl (by decide) (by kernel_rfl) (by kernel_rfl) (by kernel_rfl) (fun _ _ _ h => h) (Below.refl _ _) (fun q hq => yb (decide_eq_true (show (ofH (dropL ([0] : List Int) (trAs ([(⟨1, (⟨([7] : List Int), [], 1, []⟩ : Lf), Pn.zero⟩ : Nd), Nd.zero, Nd.zero] : List Nd))) 1) = (ofH (trAs (List.replicate 3 Nd.zero)) 1) from aw_without)) (y_seqS (xs := (ofH (dropL ([0] : List Int) (trAs ([(⟨1, (⟨([7] : List Int), [], 1, []⟩ : Lf), Pn.zero⟩ : Nd), Nd.zero, Nd.zero] : List Nd))) 1)) (ys := (ofH (trAs (List.replicate 3 Nd.zero)) 1)) by187 by191 rfl rfl rfl)) ?_
            refine zh 35 rfl rfl rfl rfl rfl (by kernel_rfl) (fun _ _ _ h => h) (fun q hq => y_pick true rfl rfl rfl) ?_
            refine zh 36 rfl rfl rfl rfl rfl (by kernel_rfl) (fun _ _ _ h => h) (fun q hq => y_assign rfl rfl) ?_
            refine hg_done (by kernel_rfl) ?_
            refine nx (zk1 0 rfl fn) ?_
            refine cg_ret ?_
            have u := u.trans (hw190.mono u.size)
            exact eg_ret_tmp rfl rfl ⟨_, rfl, rfl, u⟩
          · obtain ⟨bs193, hbs193⟩ : ∃ q, q = w185.heap.size := ⟨_, rfl⟩
            refine lg_mkR (K := 3) 3 (want_t (dj := 36) (by rfl) (by kernel_rfl) rfl) (by omega) (by omega) rfl rfl rfl rfl (by decide) fun s192 w192 f192 g192 l192 => ?_
            rw [← hbs193] at g192
            have z192 := l192.size
            refine hg_next l192 ?_
            refine hg_up l192 ?_
            have g4 := g4.keep hw181 (by omega)
            have g4 := g4.keep l182 (by omega)
            have g4 := g4.keep hw184 (by omega)
            have g4 := g4.keep n185.below (by omega)
            have g4 := g4.keep l192 (by omega)
            have m185 := m185.below (l192.mono (by omega))
            have u := u.trans (hw179.mono u.size)
            have u := u.trans (n180.below.mono u.size)
            have u := u.trans (hw181.mono u.size)
            have u := u.trans (l182.mono u.size)
            have u := u.trans (hw184.mono u.size)
            have u := u.trans (n185.below.mono u.size)
            have u := u.trans (l192.mono u.size)
            refine hg_one 29 (by rfl) (by kernel_rfl) (want_t (dj := 36) (by rfl) (by kernel_rfl) rfl) ?_
            refine lg_callw (want_t (dj := 36) (by rfl) (by kernel_rfl) rfl) (without_any ((g4.rowS (by omega)).more (B' := w192.heap.size) (by omega)) 1 (m185.more (B' := w192.heap.size) (by omega)) (Nat.le_refl _) (by first | omega | (simp only [List.length_cons, List.length_nil]; omega)) (Tt.up u rg)) (by kernel_rfl) rfl rfl rfl (by decide) ?_
            rintro _ w194 ⟨r194, rfl, m194, hw194⟩
            have zw194 := hw194.size
            have ol194 := ofH_len (dropL ([0] : List Int) (trAs ([(⟨1, (⟨([7] : List Int), [], 1, []⟩ : Lf), Pn.zero⟩ : Nd), Nd.zero, Nd.zero] : List Nd))) 1
            refine hg_next hw194 ?_
            refine hg_up hw194 ?_
            have by195 : Bytes (ofH (dropL ([0] : List Int) (trAs ([(⟨1, (⟨([7] : List Int), [], 1, []⟩ : Lf), Pn.zero⟩ : Nd), Nd.zero, Nd.zero] : List Nd))) 1) := m194.bytes
            refine hg_take 30 (by rfl) (want_t (dj := 36) (by rfl) (by kernel_rfl) rfl) (by rfl) rfl (by decide) (by kernel_rfl) (by kernel_rfl) (by kernel_rfl) (fun _ _ _ h => h) (Below.refl _ _) (fun q hq => y_strS (m194.below (hq.mono (by omega))) rfl rfl) ?_
            have g192 := g192.keep hw194 (by omega)
            have u := u.trans (hw194.mono u.size)
            refine hg_one 32 (by rfl) (by kernel_rfl) (want_t (dj := 36) (by rfl) (by kernel_rfl) rfl) ?_
            refine lg_callw (want_t (dj := 36) (by rfl) (by kernel_rfl) rfl) (of_any ((g192.rowS (by omega)).more (B' := w194.heap.size) (by omega)) 1 (Nat.le_refl _) (Tt.up u rg)) (by kernel_rfl) rfl rfl rfl (by decide) ?_
            rintro _ w196 ⟨r196, rfl, m196, hw196⟩
            have zw196 := hw196.size
            have ol196 := ofH_len (trAs (List.replicate 3 Nd.zero)) 1
            refine hg_next hw196 ?_
            refine hg_up hw196 ?_
            have by197 : Bytes (ofH (trAs (List.replicate 3 Nd.zero)) 1) := m196.bytes
            refine hg_take 33 (by rfl) (want_t (dj := 36) (by rfl) (by kernel_rfl) rfl) (by rfl) rfl (by decide) (by kernel_rfl) (by kernel_rfl) (by kernel_rfl) (fun _ _ _ h => h) (Below.refl _ _) (fun q hq => y_strS (m196.below (hq.mono (by omega))) rfl rfl) ?_
            refine hg_take 34 (by rfl) (want_t (dj := 36) (by rfl) (by kernel_rfl) rfl) (by rfl) rfl (by decide) (by kernel_rfl) (by kernel_rfl) (by kernel_rfl) (fun _ _ _ h => h) (Below.refl _ _) (fun q hq => yb (decide_eq_true (show (ofH (dropL ([0] : List Int) (trAs ([(⟨1, (⟨([7] : List Int), [], 1, []⟩ : Lf), Pn.zero⟩ : Nd), Nd.zero, Nd.zero] : List Nd))) 1) = (ofH (trAs (List.replicate 3 Nd.zero)) 1) from aw_without)) (y_seqS (xs := (ofH (dropL ([0] : List Int) (trAs ([(⟨1, (⟨([7] : List Int), [], 1, []⟩ : Lf), Pn.zero⟩ : Nd), Nd.zero, Nd.zero] : List Nd))) 1)) (ys := (ofH (trAs (List.replicate 3 Nd.zero)) 1)) by195 by197 rfl rfl rfl)) ?_
            refine zh 35 rfl rfl rfl rfl rfl (by kernel_rfl) (fun _ _ _ h => h) (fun q hq => y_pick true rfl rfl rfl) ?_
            refine zh 36 rfl rfl rfl rfl rfl (by kernel_rfl) (fun _ _ _ h => h) (fun q hq => y_assign rfl rfl) ?_
            refine hg_done (by kernel_rfl) ?_
            refine nx (zk1 0 rfl fn) ?_
            refine cg_ret ?_
            have u := u.trans (hw196.mono u.size)
            exact eg_ret_tmp rfl rfl ⟨_, rfl, rfl, u⟩
        · obtain ⟨bs199, hbs199⟩ : ∃ q, q = w184.heap.size := ⟨_, rfl⟩
          refine lg_mkR (K := 3) 3 (want_t (dj := 36) (by rfl) (by kernel_rfl) rfl) (by omega) (by omega) rfl rfl rfl rfl (by decide) fun s198 w198 f198 g198 l198 => ?_
          rw [← hbs199] at g198
          have z198 := l198.size
          refine hg_next l198 ?_
          refine hg_up l198 ?_
          refine hg_one 28 (by rfl) (by kernel_rfl) (want_t (dj := 36) (by rfl) (by kernel_rfl) rfl) ?_
          refine lg_bsliceW (el := 3) (z := nv 0) (cs := #[nv 0]) (want_t (dj := 36) (by rfl) (by kernel_rfl) rfl) huIs (by kernel_rfl) (by decide) (by decide) rfl rfl (by kernel_rfl) rfl (by decide) fun b200 w200 n200 => ?_
          have r200 := n200.row
          have k200 := n200.blk
          have z200 := n200.size
          have m200 : SlN w200 (b200 + 1) ⟨some ⟨b200, 0, none⟩, 1, 1⟩ [0] := new_SlN (xs := [0]) r200 rfl (of_decide_eq_true (by kernel_rfl))
          have og200 : w200.ownsRow b200 3 1 (.slice (some ⟨b200, 0, none⟩) 1 1) ([0] : List Int).length (([0] : List Int).map (Value.int .i64)) := new_ownN (xs := [0]) n200 rfl (of_decide_eq_true (by kernel_rfl))
          refine hg_next n200.below ?_
          refine hg_up n200.below ?_
          have g4 := g4.keep hw181 (by omega)
          have g4 := g4.keep l182 (by omega)
          have g4 := g4.keep hw184 (by omega)
          have g4 := g4.keep l198 (by omega)
          have g4 := g4.keep n200.below (by omega)
          have u := u.trans (hw179.mono u.size)
          have u := u.trans (n180.below.mono u.size)
          have u := u.trans (hw181.mono u.size)
          have u := u.trans (l182.mono u.size)
          have u := u.trans (hw184.mono u.size)
          have u := u.trans (l198.mono u.size)
          have u := u.trans (n200.below.mono u.size)
          refine hg_one 29 (by rfl) (by kernel_rfl) (want_t (dj := 36) (by rfl) (by kernel_rfl) rfl) ?_
          refine lg_callw (want_t (dj := 36) (by rfl) (by kernel_rfl) rfl) (without_any ((g4.rowS (by omega)).more (B' := w200.heap.size) (by omega)) 1 (m200.more (B' := w200.heap.size) (by omega)) (Nat.le_refl _) (by first | omega | (simp only [List.length_cons, List.length_nil]; omega)) (Tt.up u rg)) (by kernel_rfl) rfl rfl rfl (by decide) ?_
          rintro _ w201 ⟨r201, rfl, m201, hw201⟩
          have zw201 := hw201.size
          have ol201 := ofH_len (dropL ([0] : List Int) (trAs ([(⟨1, (⟨([7] : List Int), [], 1, []⟩ : Lf), Pn.zero⟩ : Nd), Nd.zero, Nd.zero] : List Nd))) 1
          refine hg_next hw201 ?_
          refine hg_up hw201 ?_
          have by202 : Bytes (ofH (dropL ([0] : List Int) (trAs ([(⟨1, (⟨([7] : List Int), [], 1, []⟩ : Lf), Pn.zero⟩ : Nd), Nd.zero, Nd.zero] : List Nd))) 1) := m201.bytes
          refine hg_take 30 (by rfl) (want_t (dj := 36) (by rfl) (by kernel_rfl) rfl) (by rfl) rfl (by decide) (by kernel_rfl) (by kernel_rfl) (by kernel_rfl) (fun _ _ _ h => h) (Below.refl _ _) (fun q hq => y_strS (m201.below (hq.mono (by omega))) rfl rfl) ?_
          have g198 := g198.keep n200.below (by omega)
          have g198 := g198.keep hw201 (by omega)
          have u := u.trans (hw201.mono u.size)
          refine hg_one 32 (by rfl) (by kernel_rfl) (want_t (dj := 36) (by rfl) (by kernel_rfl) rfl) ?_
          refine lg_callw (want_t (dj := 36) (by rfl) (by kernel_rfl) rfl) (of_any ((g198.rowS (by omega)).more (B' := w201.heap.size) (by omega)) 1 (Nat.le_refl _) (Tt.up u rg)) (by kernel_rfl) rfl rfl rfl (by decide) ?_
          rintro _ w203 ⟨r203, rfl, m203, hw203⟩
          have zw203 := hw203.size
          have ol203 := ofH_len (trAs (List.replicate 3 Nd.zero)) 1
          refine hg_next hw203 ?_
          refine hg_up hw203 ?_
          have by204 : Bytes (ofH (trAs (List.replicate 3 Nd.zero)) 1) := m203.bytes
          refine hg_take 33 (by rfl) (want_t (dj := 36) (by rfl) (by kernel_rfl) rfl) (by rfl) rfl (by decide) (by kernel_rfl) (by kernel_rfl) (by kernel_rfl) (fun _ _ _ h => h) (Below.refl _ _) (fun q hq => y_strS (m203.below (hq.mono (by omega))) rfl rfl) ?_
          refine hg_take 34 (by rfl) (want_t (dj := 36) (by rfl) (by kernel_rfl) rfl) (by rfl) rfl (by decide) (by kernel_rfl) (by kernel_rfl) (by kernel_rfl) (fun _ _ _ h => h) (Below.refl _ _) (fun q hq => yb (decide_eq_true (show (ofH (dropL ([0] : List Int) (trAs ([(⟨1, (⟨([7] : List Int), [], 1, []⟩ : Lf), Pn.zero⟩ : Nd), Nd.zero, Nd.zero] : List Nd))) 1) = (ofH (trAs (List.replicate 3 Nd.zero)) 1) from aw_without)) (y_seqS (xs := (ofH (dropL ([0] : List Int) (trAs ([(⟨1, (⟨([7] : List Int), [], 1, []⟩ : Lf), Pn.zero⟩ : Nd), Nd.zero, Nd.zero] : List Nd))) 1)) (ys := (ofH (trAs (List.replicate 3 Nd.zero)) 1)) by202 by204 rfl rfl rfl)) ?_
          refine zh 35 rfl rfl rfl rfl rfl (by kernel_rfl) (fun _ _ _ h => h) (fun q hq => y_pick true rfl rfl rfl) ?_
          refine zh 36 rfl rfl rfl rfl rfl (by kernel_rfl) (fun _ _ _ h => h) (fun q hq => y_assign rfl rfl) ?_
          refine hg_done (by kernel_rfl) ?_
          refine nx (zk1 0 rfl fn) ?_
          refine cg_ret ?_
          have u := u.trans (hw203.mono u.size)
          exact eg_ret_tmp rfl rfl ⟨_, rfl, rfl, u⟩
      · obtain ⟨bs206, hbs206⟩ : ∃ q, q = w180.heap.size := ⟨_, rfl⟩
        refine lg_mkR (K := 3) 3 (want_t (dj := 29) (by rfl) (by kernel_rfl) rfl) (by omega) (by omega) rfl rfl rfl rfl (by decide) fun s205 w205 f205 g205 l205 => ?_
        rw [← hbs206] at g205
        have z205 := l205.size
        refine hg_next l205 ?_
        refine hg_up l205 ?_
        have g4 := g4.keep hw179 (by omega)
        have g4 := g4.keep n180.below (by omega)
        have g4 := g4.keep l205 (by omega)
        have m180 := m180.below (l205.mono (by omega))
        refine hg_one 22 (by rfl) (by kernel_rfl) (want_t (dj := 29) (by rfl) (by kernel_rfl) rfl) ?_
        refine lg_callw (want_t (dj := 29) (by rfl) (by kernel_rfl) rfl) (drop_any ((g4.rowS (by omega)).more (B' := w205.heap.size) (by omega)) (m180.more (B' := w205.heap.size) (by omega)) (Nat.le_refl _) (by first | omega | (simp only [List.length_cons, List.length_nil]; omega))) (by kernel_rfl) rfl rfl rfl (by decide) ?_
        rintro _ w207 ⟨s207, rfl, m207, hw207⟩
        have zw207 := hw207.size
        refine hg_next hw207 ?_
        refine hg_up hw207 ?_
        have g205 := g205.keep hw207 (by omega)
        refine hg_one 24 (by rfl) (by kernel_rfl) (want_t (dj := 29) (by rfl) (by kernel_rfl) rfl) ?_
        refine lg_callw (want_t (dj := 29) (by rfl) (by kernel_rfl) rfl) (sameR_any (m207.more (B' := w207.heap.size) (by omega)) ((g205.rowS (by omega)).more (B' := w207.heap.size) (by omega)) (Nat.le_refl _)) (by kernel_rfl) rfl rfl rfl (by decide) ?_
        rintro u208 w208 ⟨e208, hw208⟩
        have zw208 := hw208.size
        obtain rfl : u208 = .bool true := e208.trans (congrArg Value.bool (decide_eq_true (show trSame (dropL ([0] : List Int) (trAs ([(⟨1, (⟨([7] : List Int), [], 1, []⟩ : Lf), Pn.zero⟩ : Nd), Nd.zero, Nd.zero] : List Nd))) (List.replicate 3 Nd.zero) from aw_same)))
        refine hg_next hw208 ?_
        refine hg_up hw208 ?_
        refine zh 25 rfl rfl rfl rfl rfl (by kernel_rfl) (fun _ _ _ h => h) (fun q hq => y_pick true rfl rfl rfl) ?_
        refine zh 26 rfl rfl rfl rfl rfl (by kernel_rfl) (fun _ _ _ h => h) (fun q hq => y_move rfl rfl) ?_
        refine hg_take 27 (by rfl) (want_t (dj := 36) (by rfl) (by kernel_rfl) rfl) (by rfl) rfl (by decide) (by kernel_rfl) (by kernel_rfl) (by kernel_rfl) (fun _ _ _ h => h) (Below.refl _ _) (fun q hq => y_move rfl rfl) ?_
        refine hg_two 28 31 (by rfl) (by rfl) (by kernel_rfl) (want_t (dj := 36) (by rfl) (by kernel_rfl) rfl) (want_t (dj := 36) (by rfl) (by kernel_rfl) rfl) ?_ ?_
        · refine lg_bsliceW (el := 3) (z := nv 0) (cs := #[nv 0]) (want_t (dj := 36) (by rfl) (by kernel_rfl) rfl) huIs (by kernel_rfl) (by decide) (by decide) rfl rfl (by kernel_rfl) rfl (by decide) fun b209 w209 n209 => ?_
          have r209 := n209.row
          have k209 := n209.blk
          have z209 := n209.size
          have m209 : SlN w209 (b209 + 1) ⟨some ⟨b209, 0, none⟩, 1, 1⟩ [0] := new_SlN (xs := [0]) r209 rfl (of_decide_eq_true (by kernel_rfl))
          have og209 : w209.ownsRow b209 3 1 (.slice (some ⟨b209, 0, none⟩) 1 1) ([0] : List Int).length (([0] : List Int).map (Value.int .i64)) := new_ownN (xs := [0]) n209 rfl (of_decide_eq_true (by kernel_rfl))
          refine hg_next n209.below ?_
          refine hg_up n209.below ?_
          refine hg_two 29 31 (by rfl) (by rfl) (by kernel_rfl) (want_t (dj := 36) (by rfl) (by kernel_rfl) rfl) (want_t (dj := 36) (by rfl) (by kernel_rfl) rfl) ?_ ?_
          · have g4 := g4.keep hw207 (by omega)
            have g4 := g4.keep hw208 (by omega)
            have g4 := g4.keep n209.below (by omega)
            have u := u.trans (hw179.mono u.size)
            have u := u.trans (n180.below.mono u.size)
            have u := u.trans (l205.mono u.size)
            have u := u.trans (hw207.mono u.size)
            have u := u.trans (hw208.mono u.size)
            have u := u.trans (n209.below.mono u.size)
            refine lg_callw (want_t (dj := 36) (by rfl) (by kernel_rfl) rfl) (without_any ((g4.rowS (by omega)).more (B' := w209.heap.size) (by omega)) 1 (m209.more (B' := w209.heap.size) (by omega)) (Nat.le_refl _) (by first | omega | (simp only [List.length_cons, List.length_nil]; omega)) (Tt.up u rg)) (by kernel_rfl) rfl rfl rfl (by decide) ?_
            rintro _ w210 ⟨r210, rfl, m210, hw210⟩
            have zw210 := hw210.size
            have ol210 := ofH_len (dropL ([0] : List Int) (trAs ([(⟨1, (⟨([7] : List Int), [], 1, []⟩ : Lf), Pn.zero⟩ : Nd), Nd.zero, Nd.zero] : List Nd))) 1
            refine hg_next hw210 ?_
            refine hg_up hw210 ?_
            have by211 : Bytes (ofH (dropL ([0] : List Int) (trAs ([(⟨1, (⟨([7] : List Int), [], 1, []⟩ : Lf), Pn.zero⟩ : Nd), Nd.zero, Nd.zero] : List Nd))) 1) := m210.bytes
            refine hg_take 30 (by rfl) (want_t (dj := 36) (by rfl) (by kernel_rfl) rfl) (by rfl) rfl (by decide) (by kernel_rfl) (by kernel_rfl) (by kernel_rfl) (fun _ _ _ h => h) (Below.refl _ _) (fun q hq => y_strS (m210.below (hq.mono (by omega))) rfl rfl) ?_
            refine hg_one 31 (by rfl) (by kernel_rfl) (want_t (dj := 36) (by rfl) (by kernel_rfl) rfl) ?_
            obtain ⟨bs213, hbs213⟩ : ∃ q, q = w210.heap.size := ⟨_, rfl⟩
            refine lg_mkR (K := 3) 3 (want_t (dj := 36) (by rfl) (by kernel_rfl) rfl) (by omega) (by omega) rfl rfl rfl rfl (by decide) fun s212 w212 f212 g212 l212 => ?_
            rw [← hbs213] at g212
            have z212 := l212.size
            refine hg_next l212 ?_
            refine hg_up l212 ?_
            have u := u.trans (hw210.mono u.size)
            have u := u.trans (l212.mono u.size)
            refine hg_one 32 (by rfl) (by kernel_rfl) (want_t (dj := 36) (by rfl) (by kernel_rfl) rfl) ?_
            refine lg_callw (want_t (dj := 36) (by rfl) (by kernel_rfl) rfl) (of_any ((g212.rowS (by omega)).more (B' := w212.heap.size) (by omega)) 1 (Nat.le_refl _) (Tt.up u rg)) (by kernel_rfl) rfl rfl rfl (by decide) ?_
            rintro _ w214 ⟨r214, rfl, m214, hw214⟩
            have zw214 := hw214.size
            have ol214 := ofH_len (trAs (List.replicate 3 Nd.zero)) 1
            refine hg_next hw214 ?_
            refine hg_up hw214 ?_
            have by215 : Bytes (ofH (trAs (List.replicate 3 Nd.zero)) 1) := m214.bytes
            refine hg_take 33 (by rfl) (want_t (dj := 36) (by rfl) (by kernel_rfl) rfl) (by rfl) rfl (by decide) (by kernel_rfl) (by kernel_rfl) (by kernel_rfl) (fun _ _ _ h => h) (Below.refl _ _) (fun q hq => y_strS (m214.below (hq.mono (by omega))) rfl rfl) ?_
            refine hg_take 34 (by rfl) (want_t (dj := 36) (by rfl) (by kernel_rfl) rfl) (by rfl) rfl (by decide) (by kernel_rfl) (by kernel_rfl) (by kernel_rfl) (fun _ _ _ h => h) (Below.refl _ _) (fun q hq => yb (decide_eq_true (show (ofH (dropL ([0] : List Int) (trAs ([(⟨1, (⟨([7] : List Int), [], 1, []⟩ : Lf), Pn.zero⟩ : Nd), Nd.zero, Nd.zero] : List Nd))) 1) = (ofH (trAs (List.replicate 3 Nd.zero)) 1) from aw_without)) (y_seqS (xs := (ofH (dropL ([0] : List Int) (trAs ([(⟨1, (⟨([7] : List Int), [], 1, []⟩ : Lf), Pn.zero⟩ : Nd), Nd.zero, Nd.zero] : List Nd))) 1)) (ys := (ofH (trAs (List.replicate 3 Nd.zero)) 1)) by211 by215 rfl rfl rfl)) ?_
            refine zh 35 rfl rfl rfl rfl rfl (by kernel_rfl) (fun _ _ _ h => h) (fun q hq => y_pick true rfl rfl rfl) ?_
            refine zh 36 rfl rfl rfl rfl rfl (by kernel_rfl) (fun _ _ _ h => h) (fun q hq => y_assign rfl rfl) ?_
            refine hg_done (by kernel_rfl) ?_
            refine nx (zk1 0 rfl fn) ?_
            refine cg_ret ?_
            have u := u.trans (hw214.mono u.size)
            exact eg_ret_tmp rfl rfl ⟨_, rfl, rfl, u⟩
          · obtain ⟨bs217, hbs217⟩ : ∃ q, q = w209.heap.size := ⟨_, rfl⟩
            refine lg_mkR (K := 3) 3 (want_t (dj := 36) (by rfl) (by kernel_rfl) rfl) (by omega) (by omega) rfl rfl rfl rfl (by decide) fun s216 w216 f216 g216 l216 => ?_
            rw [← hbs217] at g216
            have z216 := l216.size
            refine hg_next l216 ?_
            refine hg_up l216 ?_
            have g4 := g4.keep hw207 (by omega)
            have g4 := g4.keep hw208 (by omega)
            have g4 := g4.keep n209.below (by omega)
            have g4 := g4.keep l216 (by omega)
            have m209 := m209.below (l216.mono (by omega))
            have u := u.trans (hw179.mono u.size)
            have u := u.trans (n180.below.mono u.size)
            have u := u.trans (l205.mono u.size)
            have u := u.trans (hw207.mono u.size)
            have u := u.trans (hw208.mono u.size)
            have u := u.trans (n209.below.mono u.size)
            have u := u.trans (l216.mono u.size)
            refine hg_one 29 (by rfl) (by kernel_rfl) (want_t (dj := 36) (by rfl) (by kernel_rfl) rfl) ?_
            refine lg_callw (want_t (dj := 36) (by rfl) (by kernel_rfl) rfl) (without_any ((g4.rowS (by omega)).more (B' := w216.heap.size) (by omega)) 1 (m209.more (B' := w216.heap.size) (by omega)) (Nat.le_refl _) (by first | omega | (simp only [List.length_cons, List.length_nil]; omega)) (Tt.up u rg)) (by kernel_rfl) rfl rfl rfl (by decide) ?_
            rintro _ w218 ⟨r218, rfl, m218, hw218⟩
            have zw218 := hw218.size
            have ol218 := ofH_len (dropL ([0] : List Int) (trAs ([(⟨1, (⟨([7] : List Int), [], 1, []⟩ : Lf), Pn.zero⟩ : Nd), Nd.zero, Nd.zero] : List Nd))) 1
            refine hg_next hw218 ?_
            refine hg_up hw218 ?_
            have by219 : Bytes (ofH (dropL ([0] : List Int) (trAs ([(⟨1, (⟨([7] : List Int), [], 1, []⟩ : Lf), Pn.zero⟩ : Nd), Nd.zero, Nd.zero] : List Nd))) 1) := m218.bytes
            refine hg_take 30 (by rfl) (want_t (dj := 36) (by rfl) (by kernel_rfl) rfl) (by rfl) rfl (by decide) (by kernel_rfl) (by kernel_rfl) (by kernel_rfl) (fun _ _ _ h => h) (Below.refl _ _) (fun q hq => y_strS (m218.below (hq.mono (by omega))) rfl rfl) ?_
            have g216 := g216.keep hw218 (by omega)
            have u := u.trans (hw218.mono u.size)
            refine hg_one 32 (by rfl) (by kernel_rfl) (want_t (dj := 36) (by rfl) (by kernel_rfl) rfl) ?_
            refine lg_callw (want_t (dj := 36) (by rfl) (by kernel_rfl) rfl) (of_any ((g216.rowS (by omega)).more (B' := w218.heap.size) (by omega)) 1 (Nat.le_refl _) (Tt.up u rg)) (by kernel_rfl) rfl rfl rfl (by decide) ?_
            rintro _ w220 ⟨r220, rfl, m220, hw220⟩
            have zw220 := hw220.size
            have ol220 := ofH_len (trAs (List.replicate 3 Nd.zero)) 1
            refine hg_next hw220 ?_
            refine hg_up hw220 ?_
            have by221 : Bytes (ofH (trAs (List.replicate 3 Nd.zero)) 1) := m220.bytes
            refine hg_take 33 (by rfl) (want_t (dj := 36) (by rfl) (by kernel_rfl) rfl) (by rfl) rfl (by decide) (by kernel_rfl) (by kernel_rfl) (by kernel_rfl) (fun _ _ _ h => h) (Below.refl _ _) (fun q hq => y_strS (m220.below (hq.mono (by omega))) rfl rfl) ?_
            refine hg_take 34 (by rfl) (want_t (dj := 36) (by rfl) (by kernel_rfl) rfl) (by rfl) rfl (by decide) (by kernel_rfl) (by kernel_rfl) (by kernel_rfl) (fun _ _ _ h => h) (Below.refl _ _) (fun q hq => yb (decide_eq_true (show (ofH (dropL ([0] : List Int) (trAs ([(⟨1, (⟨([7] : List Int), [], 1, []⟩ : Lf), Pn.zero⟩ : Nd), Nd.zero, Nd.zero] : List Nd))) 1) = (ofH (trAs (List.replicate 3 Nd.zero)) 1) from aw_without)) (y_seqS (xs := (ofH (dropL ([0] : List Int) (trAs ([(⟨1, (⟨([7] : List Int), [], 1, []⟩ : Lf), Pn.zero⟩ : Nd), Nd.zero, Nd.zero] : List Nd))) 1)) (ys := (ofH (trAs (List.replicate 3 Nd.zero)) 1)) by219 by221 rfl rfl rfl)) ?_
            refine zh 35 rfl rfl rfl rfl rfl (by kernel_rfl) (fun _ _ _ h => h) (fun q hq => y_pick true rfl rfl rfl) ?_
            refine zh 36 rfl rfl rfl rfl rfl (by kernel_rfl) (fun _ _ _ h => h) (fun q hq => y_assign rfl rfl) ?_
            refine hg_done (by kernel_rfl) ?_
            refine nx (zk1 0 rfl fn) ?_
            refine cg_ret ?_
            have u := u.trans (hw220.mono u.size)
            exact eg_ret_tmp rfl rfl ⟨_, rfl, rfl, u⟩
        · obtain ⟨bs223, hbs223⟩ : ∃ q, q = w208.heap.size := ⟨_, rfl⟩
          refine lg_mkR (K := 3) 3 (want_t (dj := 36) (by rfl) (by kernel_rfl) rfl) (by omega) (by omega) rfl rfl rfl rfl (by decide) fun s222 w222 f222 g222 l222 => ?_
          rw [← hbs223] at g222
          have z222 := l222.size
          refine hg_next l222 ?_
          refine hg_up l222 ?_
          refine hg_one 28 (by rfl) (by kernel_rfl) (want_t (dj := 36) (by rfl) (by kernel_rfl) rfl) ?_
          refine lg_bsliceW (el := 3) (z := nv 0) (cs := #[nv 0]) (want_t (dj := 36) (by rfl) (by kernel_rfl) rfl) huIs (by kernel_rfl) (by decide) (by decide) rfl rfl (by kernel_rfl) rfl (by decide) fun b224 w224 n224 => ?_
          have r224 := n224.row
          have k224 := n224.blk
          have z224 := n224.size
          have m224 : SlN w224 (b224 + 1) ⟨some ⟨b224, 0, none⟩, 1, 1⟩ [0] := new_SlN (xs := [0]) r224 rfl (of_decide_eq_true (by kernel_rfl))
          have og224 : w224.ownsRow b224 3 1 (.slice (some ⟨b224, 0, none⟩) 1 1) ([0] : List Int).length (([0] : List Int).map (Value.int .i64)) := new_ownN (xs := [0]) n224 rfl (of_decide_eq_true (by kernel_rfl))
          refine hg_next n224.below ?_
          refine hg_up n224.below ?_
          have g4 := g4.keep hw207 (by omega)
          have g4 := g4.keep hw208 (by omega)
          have g4 := g4.keep l222 (by omega)
          have g4 := g4.keep n224.below (by omega)
          have u := u.trans (hw179.mono u.size)
          have u := u.trans (n180.below.mono u.size)
          have u := u.trans (l205.mono u.size)
          have u := u.trans (hw207.mono u.size)
          have u := u.trans (hw208.mono u.size)
          have u := u.trans (l222.mono u.size)
          have u := u.trans (n224.below.mono u.size)
          refine hg_one 29 (by rfl) (by kernel_rfl) (want_t (dj := 36) (by rfl) (by kernel_rfl) rfl) ?_
          refine lg_callw (want_t (dj := 36) (by rfl) (by kernel_rfl) rfl) (without_any ((g4.rowS (by omega)).more (B' := w224.heap.size) (by omega)) 1 (m224.more (B' := w224.heap.size) (by omega)) (Nat.le_refl _) (by first | omega | (simp only [List.length_cons, List.length_nil]; omega)) (Tt.up u rg)) (by kernel_rfl) rfl rfl rfl (by decide) ?_
          rintro _ w225 ⟨r225, rfl, m225, hw225⟩
          have zw225 := hw225.size
          have ol225 := ofH_len (dropL ([0] : List Int) (trAs ([(⟨1, (⟨([7] : List Int), [], 1, []⟩ : Lf), Pn.zero⟩ : Nd), Nd.zero, Nd.zero] : List Nd))) 1
          refine hg_next hw225 ?_
          refine hg_up hw225 ?_
          have by226 : Bytes (ofH (dropL ([0] : List Int) (trAs ([(⟨1, (⟨([7] : List Int), [], 1, []⟩ : Lf), Pn.zero⟩ : Nd), Nd.zero, Nd.zero] : List Nd))) 1) := m225.bytes
          refine hg_take 30 (by rfl) (want_t (dj := 36) (by rfl) (by kernel_rfl) rfl) (by rfl) rfl (by decide) (by kernel_rfl) (by kernel_rfl) (by kernel_rfl) (fun _ _ _ h => h) (Below.refl _ _) (fun q hq => y_strS (m225.below (hq.mono (by omega))) rfl rfl) ?_
          have g222 := g222.keep n224.below (by omega)
          have g222 := g222.keep hw225 (by omega)
          have u := u.trans (hw225.mono u.size)
          refine hg_one 32 (by rfl) (by kernel_rfl) (want_t (dj := 36) (by rfl) (by kernel_rfl) rfl) ?_
          refine lg_callw (want_t (dj := 36) (by rfl) (by kernel_rfl) rfl) (of_any ((g222.rowS (by omega)).more (B' := w225.heap.size) (by omega)) 1 (Nat.le_refl _) (Tt.up u rg)) (by kernel_rfl) rfl rfl rfl (by decide) ?_
          rintro _ w227 ⟨r227, rfl, m227, hw227⟩
          have zw227 := hw227.size
          have ol227 := ofH_len (trAs (List.replicate 3 Nd.zero)) 1
          refine hg_next hw227 ?_
          refine hg_up hw227 ?_
          have by228 : Bytes (ofH (trAs (List.replicate 3 Nd.zero)) 1) := m227.bytes
          refine hg_take 33 (by rfl) (want_t (dj := 36) (by rfl) (by kernel_rfl) rfl) (by rfl) rfl (by decide) (by kernel_rfl) (by kernel_rfl) (by kernel_rfl) (fun _ _ _ h => h) (Below.refl _ _) (fun q hq => y_strS (m227.below (hq.mono (by omega))) rfl rfl) ?_
          refine hg_take 34 (by rfl) (want_t (dj := 36) (by rfl) (by kernel_rfl) rfl) (by rfl) rfl (by decide) (by kernel_rfl) (by kernel_rfl) (by kernel_rfl) (fun _ _ _ h => h) (Below.refl _ _) (fun q hq => yb (decide_eq_true (show (ofH (dropL ([0] : List Int) (trAs ([(⟨1, (⟨([7] : List Int), [], 1, []⟩ : Lf), Pn.zero⟩ : Nd), Nd.zero, Nd.zero] : List Nd))) 1) = (ofH (trAs (List.replicate 3 Nd.zero)) 1) from aw_without)) (y_seqS (xs := (ofH (dropL ([0] : List Int) (trAs ([(⟨1, (⟨([7] : List Int), [], 1, []⟩ : Lf), Pn.zero⟩ : Nd), Nd.zero, Nd.zero] : List Nd))) 1)) (ys := (ofH (trAs (List.replicate 3 Nd.zero)) 1)) by226 by228 rfl rfl rfl)) ?_
          refine zh 35 rfl rfl rfl rfl rfl (by kernel_rfl) (fun _ _ _ h => h) (fun q hq => y_pick true rfl rfl rfl) ?_
          refine zh 36 rfl rfl rfl rfl rfl (by kernel_rfl) (fun _ _ _ h => h) (fun q hq => y_assign rfl rfl) ?_
          refine hg_done (by kernel_rfl) ?_
          refine nx (zk1 0 rfl fn) ?_
          refine cg_ret ?_
          have u := u.trans (hw227.mono u.size)
          exact eg_ret_tmp rfl rfl ⟨_, rfl, rfl, u⟩
    · obtain ⟨bs230, hbs230⟩ : ∃ q, q = w179.heap.size := ⟨_, rfl⟩
      refine lg_mkR (K := 3) 3 (want_t (dj := 29) (by rfl) (by kernel_rfl) rfl) (by omega) (by omega) rfl rfl rfl rfl (by decide) fun s229 w229 f229 g229 l229 => ?_
      rw [← hbs230] at g229
      have z229 := l229.size
      refine hg_next l229 ?_
      refine hg_up l229 ?_
      refine hg_one 21 (by rfl) (by kernel_rfl) (want_t (dj := 29) (by rfl) (by kernel_rfl) rfl) ?_
      refine lg_bsliceW (el := 3) (z := nv 0) (cs := #[nv 0]) (want_t (dj := 29) (by rfl) (by kernel_rfl) rfl) huIs (by kernel_rfl) (by decide) (by decide) rfl rfl (by kernel_rfl) rfl (by decide) fun b231 w231 n231 => ?_
      have r231 := n231.row
      have k231 := n231.blk
      have z231 := n231.size
      have m231 : SlN w231 (b231 + 1) ⟨some ⟨b231, 0, none⟩, 1, 1⟩ [0] := new_SlN (xs := [0]) r231 rfl (of_decide_eq_true (by kernel_rfl))
      have og231 : w231.ownsRow b231 3 1 (.slice (some ⟨b231, 0, none⟩) 1 1) ([0] : List Int).length (([0] : List Int).map (Value.int .i64)) := new_ownN (xs := [0]) n231 rfl (of_decide_eq_true (by kernel_rfl))
      refine hg_next n231.below ?_
      refine hg_up n231.below ?_
      have g4 := g4.keep hw179 (by omega)
      have g4 := g4.keep l229 (by omega)
      have g4 := g4.keep n231.below (by omega)
      refine hg_one 22 (by rfl) (by kernel_rfl) (want_t (dj := 29) (by rfl) (by kernel_rfl) rfl) ?_
      refine lg_callw (want_t (dj := 29) (by rfl) (by kernel_rfl) rfl) (drop_any ((g4.rowS (by omega)).more (B' := w231.heap.size) (by omega)) (m231.more (B' := w231.heap.size) (by omega)) (Nat.le_refl _) (by first | omega | (simp only [List.length_cons, List.length_nil]; omega))) (by kernel_rfl) rfl rfl rfl (by decide) ?_
      rintro _ w232 ⟨s232, rfl, m232, hw232⟩
      have zw232 := hw232.size
      refine hg_next hw232 ?_
      refine hg_up hw232 ?_
      have g229 := g229.keep n231.below (by omega)
      have g229 := g229.keep hw232 (by omega)
      refine hg_one 24 (by rfl) (by kernel_rfl) (want_t (dj := 29) (by rfl) (by kernel_rfl) rfl) ?_
      refine lg_callw (want_t (dj := 29) (by rfl) (by kernel_rfl) rfl) (sameR_any (m232.more (B' := w232.heap.size) (by omega)) ((g229.rowS (by omega)).more (B' := w232.heap.size) (by omega)) (Nat.le_refl _)) (by kernel_rfl) rfl rfl rfl (by decide) ?_
      rintro u233 w233 ⟨e233, hw233⟩
      have zw233 := hw233.size
      obtain rfl : u233 = .bool true := e233.trans (congrArg Value.bool (decide_eq_true (show trSame (dropL ([0] : List Int) (trAs ([(⟨1, (⟨([7] : List Int), [], 1, []⟩ : Lf), Pn.zero⟩ : Nd), Nd.zero, Nd.zero] : List Nd))) (List.replicate 3 Nd.zero) from aw_same)))
      refine hg_next hw233 ?_
      refine hg_up hw233 ?_
      refine zh 25 rfl rfl rfl rfl rfl (by kernel_rfl) (fun _ _ _ h => h) (fun q hq => y_pick true rfl rfl rfl) ?_
      refine zh 26 rfl rfl rfl rfl rfl (by kernel_rfl) (fun _ _ _ h => h) (fun q hq => y_move rfl rfl) ?_
      refine hg_take 27 (by rfl) (want_t (dj := 36) (by rfl) (by kernel_rfl) rfl) (by rfl) rfl (by decide) (by kernel_rfl) (by kernel_rfl) (by kernel_rfl) (fun _ _ _ h => h) (Below.refl _ _) (fun q hq => y_move rfl rfl) ?_
      refine hg_two 28 31 (by rfl) (by rfl) (by kernel_rfl) (want_t (dj := 36) (by rfl) (by kernel_rfl) rfl) (want_t (dj := 36) (by rfl) (by kernel_rfl) rfl) ?_ ?_
      · refine lg_bsliceW (el := 3) (z := nv 0) (cs := #[nv 0]) (want_t (dj := 36) (by rfl) (by kernel_rfl) rfl) huIs (by kernel_rfl) (by decide) (by decide) rfl rfl (by kernel_rfl) rfl (by decide) fun b234 w234 n234 => ?_
        have r234 := n234.row
        have k234 := n234.blk
        have z234 := n234.size
        have m234 : SlN w234 (b234 + 1) ⟨some ⟨b234, 0, none⟩, 1, 1⟩ [0] := new_SlN (xs := [0]) r234 rfl (of_decide_eq_true (by kernel_rfl))
        have og234 : w234.ownsRow b234 3 1 (.slice (some ⟨b234, 0, none⟩) 1 1) ([0] : List Int).length (([0] : List Int).map (Value.int .i64)) := new_ownN (xs := [0]) n234 rfl (of_decide_eq_true (by kernel_rfl))
        refine hg_next n234.below ?_
        refine hg_up n234.below ?_
        refine hg_two 29 31 (by rfl) (by rfl) (by kernel_rfl) (want_t (dj := 36) (by rfl) (by kernel_rfl) rfl) (want_t (dj := 36) (by rfl) (by kernel_rfl) rfl) ?_ ?_
        · have g4 := g4.keep hw232 (by omega)
          have g4 := g4.keep hw233 (by omega)
          have g4 := g4.keep n234.below (by omega)
          have u := u.trans (hw179.mono u.size)
          have u := u.trans (l229.mono u.size)
          have u := u.trans (n231.below.mono u.size)
          have u := u.trans (hw232.mono u.size)
          have u := u.trans (hw233.mono u.size)
          have u := u.trans (n234.below.mono u.size)
          refine lg_callw (want_t (dj := 36) (by rfl) (by kernel_rfl) rfl) (without_any ((g4.rowS (by omega)).more (B' := w234.heap.size) (by omega)) 1 (m234.more (B' := w234.heap.size) (by omega)) (Nat.le_refl _) (by first | omega | (simp only [List.length_cons, List.length_nil]; omega)) (Tt.up u rg)) (by kernel_rfl) rfl rfl rfl (by decide) ?_
          rintro _ w235 ⟨r235, rfl, m235, hw235⟩
          have zw235 := hw235.size
          have ol235 := ofH_len (dropL ([0] : List Int) (trAs ([(⟨1, (⟨([7] : List Int), [], 1, []⟩ : Lf), Pn.zero⟩ : Nd), Nd.zero, Nd.zero] : List Nd))) 1
          refine hg_next hw235 ?_
          refine hg_up hw235 ?_
          have by236 : Bytes (ofH (dropL ([0] : List Int) (trAs ([(⟨1, (⟨([7] : List Int), [], 1, []⟩ : Lf), Pn.zero⟩ : Nd), Nd.zero, Nd.zero] : List Nd))) 1) := m235.bytes
          refine hg_take 30 (by rfl) (want_t (dj := 36) (by rfl) (by kernel_rfl) rfl) (by rfl) rfl (by decide) (by kernel_rfl) (by kernel_rfl) (by kernel_rfl) (fun _ _ _ h => h) (Below.refl _ _) (fun q hq => y_strS (m235.below (hq.mono (by omega))) rfl rfl) ?_
          refine hg_one 31 (by rfl) (by kernel_rfl) (want_t (dj := 36) (by rfl) (by kernel_rfl) rfl) ?_
          obtain ⟨bs238, hbs238⟩ : ∃ q, q = w235.heap.size := ⟨_, rfl⟩
          refine lg_mkR (K := 3) 3 (want_t (dj := 36) (by rfl) (by kernel_rfl) rfl) (by omega) (by omega) rfl rfl rfl rfl (by decide) fun s237 w237 f237 g237 l237 => ?_
          rw [← hbs238] at g237
          have z237 := l237.size
          refine hg_next l237 ?_
          refine hg_up l237 ?_
          have u := u.trans (hw235.mono u.size)
          have u := u.trans (l237.mono u.size)
          refine hg_one 32 (by rfl) (by kernel_rfl) (want_t (dj := 36) (by rfl) (by kernel_rfl) rfl) ?_
          refine lg_callw (want_t (dj := 36) (by rfl) (by kernel_rfl) rfl) (of_any ((g237.rowS (by omega)).more (B' := w237.heap.size) (by omega)) 1 (Nat.le_refl _) (Tt.up u rg)) (by kernel_rfl) rfl rfl rfl (by decide) ?_
          rintro _ w239 ⟨r239, rfl, m239, hw239⟩
          have zw239 := hw239.size
          have ol239 := ofH_len (trAs (List.replicate 3 Nd.zero)) 1
          refine hg_next hw239 ?_
          refine hg_up hw239 ?_
          have by240 : Bytes (ofH (trAs (List.replicate 3 Nd.zero)) 1) := m239.bytes
          refine hg_take 33 (by rfl) (want_t (dj := 36) (by rfl) (by kernel_rfl) rfl) (by rfl) rfl (by decide) (by kernel_rfl) (by kernel_rfl) (by kernel_rfl) (fun _ _ _ h => h) (Below.refl _ _) (fun q hq => y_strS (m239.below (hq.mono (by omega))) rfl rfl) ?_
          refine hg_take 34 (by rfl) (want_t (dj := 36) (by rfl) (by kernel_rfl) rfl) (by rfl) rfl (by decide) (by kernel_rfl) (by kernel_rfl) (by kernel_rfl) (fun _ _ _ h => h) (Below.refl _ _) (fun q hq => yb (decide_eq_true (show (ofH (dropL ([0] : List Int) (trAs ([(⟨1, (⟨([7] : List Int), [], 1, []⟩ : Lf), Pn.zero⟩ : Nd), Nd.zero, Nd.zero] : List Nd))) 1) = (ofH (trAs (List.replicate 3 Nd.zero)) 1) from aw_without)) (y_seqS (xs := (ofH (dropL ([0] : List Int) (trAs ([(⟨1, (⟨([7] : List Int), [], 1, []⟩ : Lf), Pn.zero⟩ : Nd), Nd.zero, Nd.zero] : List Nd))) 1)) (ys := (ofH (trAs (List.replicate 3 Nd.zero)) 1)) by236 by240 rfl rfl rfl)) ?_
          refine zh 35 rfl rfl rfl rfl rfl (by kernel_rfl) (fun _ _ _ h => h) (fun q hq => y_pick true rfl rfl rfl) ?_
          refine zh 36 rfl rfl rfl rfl rfl (by kernel_rfl) (fun _ _ _ h => h) (fun q hq => y_assign rfl rfl) ?_
          refine hg_done (by kernel_rfl) ?_
          refine nx (zk1 0 rfl fn) ?_
          refine cg_ret ?_
          have u := u.trans (hw239.mono u.size)
          exact eg_ret_tmp rfl rfl ⟨_, rfl, rfl, u⟩
        · obtain ⟨bs242, hbs242⟩ : ∃ q, q = w234.heap.size := ⟨_, rfl⟩
          refine lg_mkR (K := 3) 3 (want_t (dj := 36) (by rfl) (by kernel_rfl) rfl) (by omega) (by omega) rfl rfl rfl rfl (by decide) fun s241 w241 f241 g241 l241 => ?_
          rw [← hbs242] at g241
          have z241 := l241.size
          refine hg_next l241 ?_
          refine hg_up l241 ?_
          have g4 := g4.keep hw232 (by omega)
          have g4 := g4.keep hw233 (by omega)
          have g4 := g4.keep n234.below (by omega)
          have g4 := g4.keep l241 (by omega)
          have m234 := m234.below (l241.mono (by omega))
          have u := u.trans (hw179.mono u.size)
          have u := u.trans (l229.mono u.size)
          have u := u.trans (n231.below.mono u.size)
          have u := u.trans (hw232.mono u.size)
          have u := u.trans (hw233.mono u.size)
          have u := u.trans (n234.below.mono u.size)
          have u := u.trans (l241.mono u.size)
          refine hg_one 29 (by rfl) (by kernel_rfl) (want_t (dj := 36) (by rfl) (by kernel_rfl) rfl) ?_
          refine lg_callw (want_t (dj := 36) (by rfl) (by kernel_rfl) rfl) (without_any ((g4.rowS (by omega)).more (B' := w241.heap.size) (by omega)) 1 (m234.more (B' := w241.heap.size) (by omega)) (Nat.le_refl _) (by first | omega | (simp only [List.length_cons, List.length_nil]; omega)) (Tt.up u rg)) (by kernel_rfl) rfl rfl rfl (by decide) ?_
          rintro _ w243 ⟨r243, rfl, m243, hw243⟩
          have zw243 := hw243.size
          have ol243 := ofH_len (dropL ([0] : List Int) (trAs ([(⟨1, (⟨([7] : List Int), [], 1, []⟩ : Lf), Pn.zero⟩ : Nd), Nd.zero, Nd.zero] : List Nd))) 1
          refine hg_next hw243 ?_
          refine hg_up hw243 ?_
          have by244 : Bytes (ofH (dropL ([0] : List Int) (trAs ([(⟨1, (⟨([7] : List Int), [], 1, []⟩ : Lf), Pn.zero⟩ : Nd), Nd.zero, Nd.zero] : List Nd))) 1) := m243.bytes
          refine hg_take 30 (by rfl) (want_t (dj := 36) (by rfl) (by kernel_rfl) rfl) (by rfl) rfl (by decide) (by kernel_rfl) (by kernel_rfl) (by kernel_rfl) (fun _ _ _ h => h) (Below.refl _ _) (fun q hq => y_strS (m243.below (hq.mono (by omega))) rfl rfl) ?_
          have g241 := g241.keep hw243 (by omega)
          have u := u.trans (hw243.mono u.size)
          refine hg_one 32 (by rfl) (by kernel_rfl) (want_t (dj := 36) (by rfl) (by kernel_rfl) rfl) ?_
          refine lg_callw (want_t (dj := 36) (by rfl) (by kernel_rfl) rfl) (of_any ((g241.rowS (by omega)).more (B' := w243.heap.size) (by omega)) 1 (Nat.le_refl _) (Tt.up u rg)) (by kernel_rfl) rfl rfl rfl (by decide) ?_
          rintro _ w245 ⟨r245, rfl, m245, hw245⟩
          have zw245 := hw245.size
          have ol245 := ofH_len (trAs (List.replicate 3 Nd.zero)) 1
          refine hg_next hw245 ?_
          refine hg_up hw245 ?_
          have by246 : Bytes (ofH (trAs (List.replicate 3 Nd.zero)) 1) := m245.bytes
          refine hg_take 33 (by rfl) (want_t (dj := 36) (by rfl) (by kernel_rfl) rfl) (by rfl) rfl (by decide) (by kernel_rfl) (by kernel_rfl) (by kernel_rfl) (fun _ _ _ h => h) (Below.refl _ _) (fun q hq => y_strS (m245.below (hq.mono (by omega))) rfl rfl) ?_
          refine hg_take 34 (by rfl) (want_t (dj := 36) (by rfl) (by kernel_rfl) rfl) (by rfl) rfl (by decide) (by kernel_rfl) (by kernel_rfl) (by kernel_rfl) (fun _ _ _ h => h) (Below.refl _ _) (fun q hq => yb (decide_eq_true (show (ofH (dropL ([0] : List Int) (trAs ([(⟨1, (⟨([7] : List Int), [], 1, []⟩ : Lf), Pn.zero⟩ : Nd), Nd.zero, Nd.zero] : List Nd))) 1) = (ofH (trAs (List.replicate 3 Nd.zero)) 1) from aw_without)) (y_seqS (xs := (ofH (dropL ([0] : List Int) (trAs ([(⟨1, (⟨([7] : List Int), [], 1, []⟩ : Lf), Pn.zero⟩ : Nd), Nd.zero, Nd.zero] : List Nd))) 1)) (ys := (ofH (trAs (List.replicate 3 Nd.zero)) 1)) by244 by246 rfl rfl rfl)) ?_
          refine zh 35 rfl rfl rfl rfl rfl (by kernel_rfl) (fun _ _ _ h => h) (fun q hq => y_pick true rfl rfl rfl) ?_
          refine zh 36 rfl rfl rfl rfl rfl (by kernel_rfl) (fun _ _ _ h => h) (fun q hq => y_assign rfl rfl) ?_
          refine hg_done (by kernel_rfl) ?_
          refine nx (zk1 0 rfl fn) ?_
          refine cg_ret ?_
          have u := u.trans (hw245.mono u.size)
          exact eg_ret_tmp rfl rfl ⟨_, rfl, rfl, u⟩
      · obtain ⟨bs248, hbs248⟩ : ∃ q, q = w233.heap.size := ⟨_, rfl⟩
        refine lg_mkR (K := 3) 3 (want_t (dj := 36) (by rfl) (by kernel_rfl) rfl) (by omega) (by omega) rfl rfl rfl rfl (by decide) fun s247 w247 f247 g247 l247 => ?_
        rw [← hbs248] at g247
        have z247 := l247.size
        refine hg_next l247 ?_
        refine hg_up l247 ?_
        refine hg_one 28 (by rfl) (by kernel_rfl) (want_t (dj := 36) (by rfl) (by kernel_rfl) rfl) ?_
        refine lg_bsliceW (el := 3) (z := nv 0) (cs := #[nv 0]) (want_t (dj := 36) (by rfl) (by kernel_rfl) rfl) huIs (by kernel_rfl) (by decide) (by decide) rfl rfl (by kernel_rfl) rfl (by decide) fun b249 w249 n249 => ?_
        have r249 := n249.row
        have k249 := n249.blk
        have z249 := n249.size
        have m249 : SlN w249 (b249 + 1) ⟨some ⟨b249, 0, none⟩, 1, 1⟩ [0] := new_SlN (xs := [0]) r249 rfl (of_decide_eq_true (by kernel_rfl))
        have og249 : w249.ownsRow b249 3 1 (.slice (some ⟨b249, 0, none⟩) 1 1) ([0] : List Int).length (([0] : List Int).map (Value.int .i64)) := new_ownN (xs := [0]) n249 rfl (of_decide_eq_true (by kernel_rfl))
        refine hg_next n249.below ?_
        refine hg_up n249.below ?_
        have g4 := g4.keep hw232 (by omega)
        have g4 := g4.keep hw233 (by omega)
        have g4 := g4.keep l247 (by omega)
        have g4 := g4.keep n249.below (by omega)
        have u := u.trans (hw179.mono u.size)
        have u := u.trans (l229.mono u.size)
        have u := u.trans (n231.below.mono u.size)
        have u := u.trans (hw232.mono u.size)
        have u := u.trans (hw233.mono u.size)
        have u := u.trans (l247.mono u.size)
        have u := u.trans (n249.below.mono u.size)
        refine hg_one 29 (by rfl) (by kernel_rfl) (want_t (dj := 36) (by rfl) (by kernel_rfl) rfl) ?_
        refine lg_callw (want_t (dj := 36) (by rfl) (by kernel_rfl) rfl) (without_any ((g4.rowS (by omega)).more (B' := w249.heap.size) (by omega)) 1 (m249.more (B' := w249.heap.size) (by omega)) (Nat.le_refl _) (by first | omega | (simp only [List.length_cons, List.length_nil]; omega)) (Tt.up u rg)) (by kernel_rfl) rfl rfl rfl (by decide) ?_
        rintro _ w250 ⟨r250, rfl, m250, hw250⟩
        have zw250 := hw250.size
        have ol250 := ofH_len (dropL ([0] : List Int) (trAs ([(⟨1, (⟨([7] : List Int), [], 1, []⟩ : Lf), Pn.zero⟩ : Nd), Nd.zero, Nd.zero] : List Nd))) 1
        refine hg_next hw250 ?_
        refine hg_up hw250 ?_
        have by251 : Bytes (ofH (dropL ([0] : List Int) (trAs ([(⟨1, (⟨([7] : List Int), [], 1, []⟩ : Lf), Pn.zero⟩ : Nd), Nd.zero, Nd.zero] : List Nd))) 1) := m250.bytes
        refine hg_take 30 (by rfl) (want_t (dj := 36) (by rfl) (by kernel_rfl) rfl) (by rfl) rfl (by decide) (by kernel_rfl) (by kernel_rfl) (by kernel_rfl) (fun _ _ _ h => h) (Below.refl _ _) (fun q hq => y_strS (m250.below (hq.mono (by omega))) rfl rfl) ?_
        have g247 := g247.keep n249.below (by omega)
        have g247 := g247.keep hw250 (by omega)
        have u := u.trans (hw250.mono u.size)
        refine hg_one 32 (by rfl) (by kernel_rfl) (want_t (dj := 36) (by rfl) (by kernel_rfl) rfl) ?_
        refine lg_callw (want_t (dj := 36) (by rfl) (by kernel_rfl) rfl) (of_any ((g247.rowS (by omega)).more (B' := w250.heap.size) (by omega)) 1 (Nat.le_refl _) (Tt.up u rg)) (by kernel_rfl) rfl rfl rfl (by decide) ?_
        rintro _ w252 ⟨r252, rfl, m252, hw252⟩
        have zw252 := hw252.size
        have ol252 := ofH_len (trAs (List.replicate 3 Nd.zero)) 1
        refine hg_next hw252 ?_
        refine hg_up hw252 ?_
        have by253 : Bytes (ofH (trAs (List.replicate 3 Nd.zero)) 1) := m252.bytes
        refine hg_take 33 (by rfl) (want_t (dj := 36) (by rfl) (by kernel_rfl) rfl) (by rfl) rfl (by decide) (by kernel_rfl) (by kernel_rfl) (by kernel_rfl) (fun _ _ _ h => h) (Below.refl _ _) (fun q hq => y_strS (m252.below (hq.mono (by omega))) rfl rfl) ?_
        refine hg_take 34 (by rfl) (want_t (dj := 36) (by rfl) (by kernel_rfl) rfl) (by rfl) rfl (by decide) (by kernel_rfl) (by kernel_rfl) (by kernel_rfl) (fun _ _ _ h => h) (Below.refl _ _) (fun q hq => yb (decide_eq_true (show (ofH (dropL ([0] : List Int) (trAs ([(⟨1, (⟨([7] : List Int), [], 1, []⟩ : Lf), Pn.zero⟩ : Nd), Nd.zero, Nd.zero] : List Nd))) 1) = (ofH (trAs (List.replicate 3 Nd.zero)) 1) from aw_without)) (y_seqS (xs := (ofH (dropL ([0] : List Int) (trAs ([(⟨1, (⟨([7] : List Int), [], 1, []⟩ : Lf), Pn.zero⟩ : Nd), Nd.zero, Nd.zero] : List Nd))) 1)) (ys := (ofH (trAs (List.replicate 3 Nd.zero)) 1)) by251 by253 rfl rfl rfl)) ?_
        refine zh 35 rfl rfl rfl rfl rfl (by kernel_rfl) (fun _ _ _ h => h) (fun q hq => y_pick true rfl rfl rfl) ?_
        refine zh 36 rfl rfl rfl rfl rfl (by kernel_rfl) (fun _ _ _ h => h) (fun q hq => y_assign rfl rfl) ?_
        refine hg_done (by kernel_rfl) ?_
        refine nx (zk1 0 rfl fn) ?_
        refine cg_ret ?_
        have u := u.trans (hw252.mono u.size)
        exact eg_ret_tmp rfl rfl ⟨_, rfl, rfl, u⟩
end Go.Proofs.YtkcpmpbjjnknhaaGreatDoor
