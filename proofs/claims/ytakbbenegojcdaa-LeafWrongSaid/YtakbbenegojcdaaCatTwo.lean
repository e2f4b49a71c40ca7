/-
  Contracts of slices.Grow (of nil) and slices.Concat (of two slices of octets), which the program takes from Go's library.
-/
import Derived.Test.YtakbbenegojcdaaOct
import Derived.Lib.Hide
import Derived.Lib.AppendZeros
namespace Go.Proofs.Ytakbbenegojcdaa
open Go.ChangeShapes Go.WideShapes Go.ChangeAt Go.RowKit
set_option linter.unusedVariables false

theorem grow_nil (n : Nat) (m : Int) (hm : m = n) (w : World) (hn : n ≤ 70368744177664) :
    Calls Try.prog 41 #[.slice none 0 0, .int .i64 m] w (OwnSl w w.heap.size []) := by
  subst hm
  obtain ⟨i0, hi0, hz0, hz1, hz2⟩ := info_parts info5
  by_cases h0 : n = 0
  · subst h0
    go_enter Try.func41, Try.ntmps41
    go_wp2
    go_ret
    exact ⟨_, rfl, ⟨rfl, .inl ⟨rfl, rfl⟩⟩, Below.refl _ _, Nat.le_refl _⟩
  · have hr := Lib.run_append_nil_zeros (P := Try.prog) w 22 3 22 5 i0 _ .i64 .i64 Try.underlying22 Try.underlying3 hi0 hz0 n (by omega) (by omega) (by omega) (by rw [hz2]; omega)
    have hG := grownCap_ge w n 0 5
    have hG2 := grownCap_le_maxLen w n 0 5 (by unfold maxLen; omega)
    generalize grownCap w n 0 5 = G at *
    have HR := Lib.hid hr
    have hpos : 0 < n := by omega
    have hG3 : G ≤ 9223372036854775807 := hG2
    clear hr hG2
    go_enter Try.func41, Try.ntmps41
    go_wp2_with (at_builtin; refine Lib.wpList_append_run _ rfl _ _ _ _ rfl _ _ rfl rfl _ _ HR.out ?_)
    go_ret
    refine ⟨_, rfl, ⟨rfl, .inr ⟨w.heap.size, G, _, rfl, Nat.le_refl _, heap_alloc_new w.drew _, Nat.zero_le _, hG3, ?_, rfl⟩⟩, ((Below.refl _ _).drew).alloc (Nat.le_refl _) _, by simp⟩
    rw [Array.size_append, size_zeroCells, size_zeroCells]
    simp [Value.cells]
    omega

/-- How far the sum of two lengths has come. -/
def CatSum2 (n1 n2 : Nat) (s i : Value) : Prop :=
  (i = .int .i64 0 ∧ s = .int .i64 0) ∨ (i = .int .i64 1 ∧ s = .int .i64 n1) ∨ (i = .int .i64 2 ∧ s = .int .i64 ((n1 : Int) + n2))
/-- How far two slices of octets have been joined. -/
def CatRow2 (w : World) (x1 x2 : List Int) (v i : Value) (w' : World) : Prop :=
  Below w.heap.size w w' ∧ w.heap.size ≤ w'.heap.size ∧
  ((i = .int .i64 0 ∧ w'.ownsRow w.heap.size 5 1 v ([] : List Int).length (([] : List Int).map (Value.int .u8))) ∨
   (i = .int .i64 1 ∧ w'.ownsRow w.heap.size 5 1 v x1.length (x1.map (Value.int .u8))) ∨
   (i = .int .i64 2 ∧ w'.ownsRow w.heap.size 5 1 v (x1 ++ x2).length ((x1 ++ x2).map (Value.int .u8))))
theorem concat_two (b n1 n2 c1 c2 B : Nat) (A1 A2 : Option Addr) (x1 x2 : List Int) (w : World)
    (h1 : Oct w B A1 n1 x1) (h2 : Oct w B A2 n2 x2) (hB : B ≤ w.heap.size) (hb : b < w.heap.size)
    (e1 : w.cell? ⟨b, 0, none⟩ = some (.slice A1 n1 c1)) (e2 : w.cell? ⟨b, 1, none⟩ = some (.slice A2 n2 c2))
    (hn : n1 + n2 ≤ 70368744177664) :
    Calls Try.prog 29 #[.slice (some ⟨b, 0, none⟩) 2 2] w (OwnSl w w.heap.size (x1 ++ x2)) := by
  have H1 := Lib.hid h1
  have H2 := Lib.hid h2
  have L1 := Lib.hid h1.1
  have L2 := Lib.hid h2.1
  have E1 := Lib.hid e1
  have E2 := Lib.hid e2
  clear h1 h2 e1 e2
  go_enter Try.func29, Try.ntmps29
  go_wp2
  go_loop [3, 11] (fun s i => CatSum2 n1 n2 s i) (fun _ i => 2 - (intOf i).toNat)
  case atStart => exact .inl ⟨rfl, rfl⟩
  case round =>
    rcases hrel with ⟨rfl, rfl⟩ | ⟨rfl, rfl⟩ | ⟨rfl, rfl⟩
    · have e := E1.out
      go_wp2
      go_round
      case rel => exact .inr (.inl ⟨rfl, rfl⟩)
      case measure => simp [intOf]
    · have e := E2.out
      go_wp2
      go_round
      case rel => exact .inr (.inr ⟨rfl, rfl⟩)
      case measure => simp [intOf]
    · go_wp2_with fail
      refine (grow_nil (n1 + n2) _ (by omega) _ hn).mono ?_
      rintro e w1 ⟨v1, rfl, how1, hb1, hs1⟩
      have HOW1 := Lib.hid how1
      clear how1
      go_wp2_with fail
      go_loopw [6, 27] (fun v i w' => CatRow2 w x1 x2 v i w') (fun _ i _ => 2 - (intOf i).toNat)
      case atStart => exact ⟨hb1, hs1, .inl ⟨rfl, HOW1.out⟩⟩
      case round =>
        rcases hrel with ⟨hb2, hs2, ⟨rfl, how2⟩ | ⟨rfl, how2⟩ | ⟨rfl, how2⟩⟩
        · have HOW2 := Lib.hid how2
          have e := (hb2.cell (p := ⟨b, 0, none⟩) hb).trans E1.out
          clear how2
          go_wp2_with (at_builtin
                       refine wpList_append_oct _ rfl (.tmp 31) (.tmp 32) rfl rfl w.heap.size _ [] x1 A1 n1 c1 B rfl rfl ?hown ?hO ?hb ?hbase ?_
                       case hown => exact HOW2.out
                       case hO => exact H1.out.below (hb2.mono hB)
                       case hb => simp [L1.out, L2.out]; omega
                       case hbase => exact hs2
                       intro v4 w4 hj4
                       have hb4 := joined_below HOW2.out hj4 hb2 hs2
                       have H4 := Lib.hid hj4.1
                       clear hj4)
          go_roundw
          case rel =>
            have h4 := H4.out
            rw [← List.length_append] at h4
            exact ⟨hb4.1, hb4.2, .inr (.inl ⟨rfl, h4⟩)⟩
          case measure => simp [intOf]
        · have HOW2 := Lib.hid how2
          have e := (hb2.cell (p := ⟨b, 1, none⟩) hb).trans E2.out
          clear how2
          go_wp2_with (at_builtin
                       refine wpList_append_oct _ rfl (.tmp 31) (.tmp 32) rfl rfl w.heap.size _ x1 x2 A2 n2 c2 B rfl rfl ?hown ?hO ?hb ?hbase ?_
                       case hown => exact HOW2.out
                       case hO => exact H2.out.below (hb2.mono hB)
                       case hb => simp [L1.out, L2.out]; omega
                       case hbase => exact hs2
                       intro v4 w4 hj4
                       have hb4 := joined_below HOW2.out hj4 hb2 hs2
                       have H4 := Lib.hid hj4.1
                       clear hj4)
          go_roundw
          case rel =>
            have h4 := H4.out
            rw [← List.length_append] at h4
            exact ⟨hb4.1, hb4.2, .inr (.inr ⟨rfl, h4⟩)⟩
          case measure => simp [intOf]
        · have HOW2 := Lib.hid how2
          clear how2
          go_wp2
          go_ret
          exact ⟨_, rfl, HOW2.out, hb2, hs2⟩

end Go.Proofs.Ytakbbenegojcdaa
