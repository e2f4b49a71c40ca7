/-
  The contract of the statements' own look at the document's examples of layer 2 (awake): it answers true, in every world, and changes nothing that was there.
-/
import Derived.Test.YtakbbenegojcdaaWiInts
namespace Go.Proofs.Ytakbbenegojcdaa
open Go.ChangeShapes Go.WideShapes Go.ChangeAt Go.RowKit
set_option linter.unusedVariables false

def AwNums (w : World) (e : Ending) (w' : World) : Prop :=
  ∃ A1 c1 A c, e = .returned (.tuple #[.slice A1 2 c1, .slice A 1 c, .int .i64 0]) ∧ Hid (Nums w' w'.heap.size A1 2 [1, 258]) ∧ Below w.heap.size w w'
def AwBytes (w : World) (e : Ending) (w' : World) : Prop :=
  ∃ A1 c1 A n c, e = .returned (.tuple #[.slice A1 2 c1, .slice A n c, .int .i64 0]) ∧ Below w.heap.size w w'
theorem aw_bytes (w : World) : Calls Try.prog 20 #[.slice (some ⟨w.heap.size, 0, none⟩) 3 3] (w.alloc (.cells #[.int .u8 2, .int .u8 7, .int .u8 8] 5)) (AwBytes w) := by
  refine (getBytes_any _ 3 3 _ [2, 7, 8] _ (Oct.new w [2, 7, 8] (by decide)) (Nat.le_refl _) (by decide) (by simp)).mono ?_
  rw [show bytesP [2, 7, 8] = [7, 8] from by decide +kernel, show bytesE [2, 7, 8] = 0 from by decide +kernel]
  rintro e w' ⟨A1, n1, c1, A, n, c, rfl, _, _, _, _, hO, _, hb⟩
  obtain rfl : 2 = n1 := hO.1
  exact ⟨A1, c1, A, n, c, rfl, ((Below.refl _ _).alloc (Nat.le_refl _) _).trans (hb.mono (by simp))⟩

def AwNum (w : World) (e : Ending) (w' : World) : Prop :=
  ∃ A n c, e = .returned (.tuple #[.int .i64 258, .slice A n c, .int .i64 0]) ∧ Below w.heap.size w w'
theorem aw_num (w : World) : Calls Try.prog 22 #[.slice (some ⟨w.heap.size, 0, none⟩) 2 2, .int .i64 2] (w.alloc (.cells #[.int .u8 1, .int .u8 2] 5)) (AwNum w) := by
  refine (getNum_any _ 2 2 _ [1, 2] 2 _ (Oct.new w [1, 2] (by decide)) (Nat.le_refl _) (by decide)).mono ?_
  rw [show numM [1, 2] 2 = 258 from by decide +kernel, show numE [1, 2] 2 = 0 from by decide +kernel]
  rintro e w' ⟨A, n, c, rfl, _, _, _, hb⟩
  exact ⟨A, n, c, rfl, ((Below.refl _ _).alloc (Nat.le_refl _) _).trans (hb.mono (by simp))⟩

def AwPut (w : World) (s : ByteArray) (e : Ending) (w' : World) : Prop :=
  ∃ A n c, e = .returned (.slice A n c) ∧ (convert 22 9 (.slice A n c)).run Try.prog w' = .ok (.string s) w' ∧ Below w.heap.size w w'
theorem aw_put (w : World) : Calls Try.prog 27 #[.slice none 0 0, .slice (some ⟨w.heap.size, 0, none⟩) 2 2] (w.alloc (.cells #[.int .u8 7, .int .u8 8] 5)) (AwPut w ⟨#[2, 7, 8]⟩) := by
  refine (putBytes_any none _ 0 0 2 2 _ [] [7, 8] _ (Oct.nil _ _ _) (Oct.new w [7, 8] (by decide)) (by simp) (Nat.le_refl _) (Nat.zero_le _) (by omega)).mono ?_
  rintro e w' ⟨A, n, c, rfl, _, _, hO, hb⟩
  have h := hO.str c
  rw [show strOfNums ([] ++ bytesOct [7, 8]) = ⟨#[2, 7, 8]⟩ from by decide +kernel] at h
  exact ⟨A, n, c, rfl, h, ((Below.refl _ _).alloc (Nat.le_refl _) _).trans (hb.mono (by simp))⟩

def AwFlag (w : World) (e : Ending) (w' : World) : Prop := ∃ A n c, e = .returned (.tuple #[.bool true, .slice A n c, .int .i64 0]) ∧ Below w.heap.size w w'

end Go.Proofs.Ytakbbenegojcdaa
