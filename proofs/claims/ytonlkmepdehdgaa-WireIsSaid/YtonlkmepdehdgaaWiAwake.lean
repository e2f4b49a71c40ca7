/-
  The contract of the statements' own look at the document's examples of layer 2 (awake): it answers true, in every world, and changes nothing that was there.
-/
import Derived.Test.YtonlkmepdehdgaaWiInts
namespace Go.Proofs.Ytonlkmepdehdgaa
open Go.ChangeShapes Go.WideShapes Go.ChangeAt Go.RowKit
set_option linter.unusedVariables false

def AwNums (w : World) (e : Ending) (w' : World) : Prop :=
  ∃ A1 c1 A c, e = .returned (.tuple #[.slice A1 2 c1, .slice A 1 c, .int .i64 0]) ∧ Hid (Nums w' w'.heap.size A1 2 [1, 258]) ∧ Below w.heap.size w w'
theorem aw_nums (w : World) : Calls Try.prog 14 #[.slice (some ⟨w.heap.size, 0, none⟩) 10 10] (w.alloc (.cells #[.int .u8 8, .int .u8 0, .int .u8 0, .int .u8 0, .int .u8 1, .int .u8 0, .int .u8 0, .int .u8 1, .int .u8 2, .int .u8 9] 5)) (AwNums w) := by
  refine (getNums_any _ 10 10 _ [8, 0, 0, 0, 1, 0, 0, 1, 2, 9] _ (Oct.new w [8, 0, 0, 0, 1, 0, 0, 1, 2, 9] (by decide)) (Nat.le_refl _) (by decide) (by simp)).mono ?_
  rw [show numsL [8, 0, 0, 0, 1, 0, 0, 1, 2, 9] = [1, 258] from by decide +kernel, show numsR [8, 0, 0, 0, 1, 0, 0, 1, 2, 9] = [9] from by decide +kernel, show numsE [8, 0, 0, 0, 1, 0, 0, 1, 2, 9] = 0 from by decide +kernel]
  rintro e w' ⟨A1, n1, c1, A, n, c, rfl, _, _, hN, hO, hb⟩
  obtain rfl : 2 = n1 := hN.1
  obtain rfl : 1 = n := hO.1
  exact ⟨A1, c1, A, c, rfl, hN, ((Below.refl _ _).alloc (Nat.le_refl _) _).trans (hb.mono (by simp))⟩

def AwBytes (w : World) (e : Ending) (w' : World) : Prop :=
  ∃ A1 c1 A n c, e = .returned (.tuple #[.slice A1 2 c1, .slice A n c, .int .i64 0]) ∧ Below w.heap.size w w'
theorem aw_bytes (w : World) : Calls Try.prog 12 #[.slice (some ⟨w.heap.size, 0, none⟩) 3 3] (w.alloc (.cells #[.int .u8 2, .int .u8 7, .int .u8 8] 5)) (AwBytes w) := by
  refine (getBytes_any _ 3 3 _ [2, 7, 8] _ (Oct.new w [2, 7, 8] (by decide)) (Nat.le_refl _) (by decide) (by simp)).mono ?_
  rw [show bytesP [2, 7, 8] = [7, 8] from by decide +kernel, show bytesE [2, 7, 8] = 0 from by decide +kernel]
  rintro e w' ⟨A1, n1, c1, A, n, c, rfl, _, _, _, _, hO, _, hb⟩
  obtain rfl : 2 = n1 := hO.1
  exact ⟨A1, c1, A, n, c, rfl, ((Below.refl _ _).alloc (Nat.le_refl _) _).trans (hb.mono (by simp))⟩

def AwNum (w : World) (e : Ending) (w' : World) : Prop :=
  ∃ A n c, e = .returned (.tuple #[.int .i64 258, .slice A n c, .int .i64 0]) ∧ Below w.heap.size w w'
theorem aw_num (w : World) : Calls Try.prog 10 #[.slice (some ⟨w.heap.size, 0, none⟩) 2 2, .int .i64 2] (w.alloc (.cells #[.int .u8 1, .int .u8 2] 5)) (AwNum w) := by
  refine (getNum_any _ 2 2 _ [1, 2] 2 _ (Oct.new w [1, 2] (by decide)) (Nat.le_refl _) (by decide)).mono ?_
  rw [show numM [1, 2] 2 = 258 from by decide +kernel, show numE [1, 2] 2 = 0 from by decide +kernel]
  rintro e w' ⟨A, n, c, rfl, _, _, _, hb⟩
  exact ⟨A, n, c, rfl, ((Below.refl _ _).alloc (Nat.le_refl _) _).trans (hb.mono (by simp))⟩

def AwPut (w : World) (s : ByteArray) (e : Ending) (w' : World) : Prop :=
  ∃ A n c, e = .returned (.slice A n c) ∧ (convert 22 9 (.slice A n c)).run Try.prog w' = .ok (.string s) w' ∧ Below w.heap.size w w'
theorem aw_put (w : World) : Calls Try.prog 21 #[.slice none 0 0, .slice (some ⟨w.heap.size, 0, none⟩) 2 2] (w.alloc (.cells #[.int .u8 7, .int .u8 8] 5)) (AwPut w ⟨#[2, 7, 8]⟩) := by
  refine (putBytes_any none _ 0 0 2 2 _ [] [7, 8] _ (Oct.nil _ _ _) (Oct.new w [7, 8] (by decide)) (by simp) (Nat.le_refl _) (Nat.zero_le _) (by omega)).mono ?_
  rintro e w' ⟨A, n, c, rfl, _, _, hO, hb⟩
  have h := hO.str c
  rw [show strOfNums ([] ++ bytesOct [7, 8]) = ⟨#[2, 7, 8]⟩ from by decide +kernel] at h
  exact ⟨A, n, c, rfl, h, ((Below.refl _ _).alloc (Nat.le_refl _) _).trans (hb.mono (by simp))⟩

def AwFlag (w : World) (e : Ending) (w' : World) : Prop := ∃ A n c, e = .returned (.tuple #[.bool true, .slice A n c, .int .i64 0]) ∧ Below w.heap.size w w'

theorem new_two (w : World) (x y : Int) : Nums (w.alloc (.cells #[.int .i64 x, .int .i64 y] 3)) (w.heap.size + 1) (some ⟨w.heap.size, 0, none⟩) 2 [x, y] := by
  refine ⟨rfl, fun _ => ⟨w.heap.size, 0, rfl, by omega, fun i u hu => ?_⟩⟩
  rw [Nat.zero_add, cell_of_row _ _ i #[.int .i64 x, .int .i64 y] 3 (0, 0) (heap_alloc_new w _)]
  match i, hu with
  | 0, hu => simp at hu; subst hu; rfl
  | 1, hu => simp at hu; subst hu; rfl

def IsTrue (w : World) (e : Ending) (w' : World) : Prop := e = .returned (.bool true) ∧ Below w.heap.size w w'

theorem awake_any (w : World) : Calls Try.prog 9 #[] w (IsTrue w) := by
  go_enter Try.func9, Try.ntmps9
  go_wp2_with fail
  refine (aw_nums _).mono ?_
  rintro e w1 ⟨A1, c1, A2, c2, rfl, HN, hb1⟩
  have k1 := hb1.size
  go_wp2_with fail
  refine (putFlag_any none 0 0 0 [] true _ (Oct.nil _ _ _) (Nat.zero_le _) (by omega)).mono ?_
  rintro e w2 ⟨A3, n3, c3, rfl, g1, g2, hO3, hb2⟩
  have HO3 := Lib.hid hO3
  clear hO3
  have k2 := hb2.size
  go_wp2_with fail
  refine (getFlag_any A3 n3 c3 _ _ _ HO3.out g1 g2).mono ?_
  rw [show flagB ([] ++ flagOct true) = true from by decide +kernel, show flagE ([] ++ flagOct true) = 0 from by decide +kernel]
  rintro e w3 ⟨A4, n4, c4, rfl, _, _, hO4, hb3⟩
  clear hO4
  have k3 := hb3.size
  go_wp2_with fail
  refine (aw_bytes _).mono ?_
  rintro e w4 ⟨A5, c5, A6, n6, c6, rfl, hb4⟩
  have k4 := hb4.size
  go_wp2_with fail
  refine (aw_num _).mono ?_
  rintro e w5 ⟨A7, n7, c7, rfl, hb5⟩
  have k5 := hb5.size
  go_wp2_with fail
  refine (aw_put _).mono ?_
  rintro e w6 ⟨A8, n8, c8, rfl, hs8, hb6⟩
  have k6 := hb6.size
  have q6 : Below w1.heap.size w1 w6 := (((hb2.trans (hb3.mono k2)).trans (hb4.mono (by omega))).trans (hb5.mono (by omega))).trans (hb6.mono (by omega))
  have HN6 := Lib.hid ((HN.out.below q6).more q6.size)
  go_wp2_with fail
  clear hs8
  have ba : Below w6.heap.size w6 (w6.alloc (.cells #[.int .i64 1, .int .i64 258] 3)) := (Below.refl _ _).alloc (Nat.le_refl _) _
  refine (ints_same A1 _ 2 c1 2 _ _ [1, 258] _ (HN6.out.below ba) (new_two w6 1 258) (by decide)).mono ?_
  rintro e w' ⟨rfl, d, rfl⟩
  go_wp2
  go_ret
  exact ⟨rfl, (hb1.trans (q6.mono k1)).trans (below_drewN (ba.mono (by omega)) d)⟩
end Go.Proofs.Ytonlkmepdehdgaa
