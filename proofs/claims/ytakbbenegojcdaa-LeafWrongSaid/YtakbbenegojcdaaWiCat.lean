/-
  Contracts of slices.Grow (of nil) and slices.Concat (of three slices of octets), which the program takes from Go's library, and of wire.PutBytes.
-/
import Derived.Test.YtakbbenegojcdaaWiGet
import Derived.Lib.AppendZeros
namespace Go.Proofs.Ytakbbenegojcdaa
open Go.ChangeShapes Go.WideShapes Go.ChangeAt Go.RowKit
set_option linter.unusedVariables false

theorem grow_nil (n : Nat) (m : Int) (hm : m = n) (w : World) (hn : n ≤ 70368744177664) :
    Calls Try.prog 41 #[.slice none 0 0, .int .i64 m] w (OwnSl w w.heap.size []) := by
  subst hm
  obtain ⟨i0, hi0, hz0, hz1, hz2⟩ := info_parts info5
  by_cases h0 : n = 0
  · subst h0
    go_enter Try.func41, Try.ntmps41
    go_wp2
    go_ret
    exact ⟨_, rfl, ⟨rfl, .inl ⟨rfl, rfl⟩⟩, Below.refl _ _, Nat.le_refl _⟩
  · have hr := Lib.run_append_nil_zeros (P := Try.prog) w 22 3 22 5 i0 _ .i64 .i64 Try.underlying22 Try.underlying3 hi0 hz0 n (by omega) (by omega) (by omega) (by rw [hz2]; omega)
    have hG := grownCap_ge w n 0 5
    have hG2 := grownCap_le_maxLen w n 0 5 (by unfold maxLen; omega)
    generalize grownCap w n 0 5 = G at *
    have HR := Lib.hid hr
    have hpos : 0 < n := by omega
    have hG3 : G ≤ 9223372036854775807 := hG2
    clear hr hG2
    go_enter Try.func41, Try.ntmps41
    go_wp2_with (at_builtin; refine Lib.wpList_append_run _ rfl _ _ _ _ rfl _ _ rfl rfl _ _ HR.out ?_)
    go_ret
    refine ⟨_, rfl, ⟨rfl, .inr ⟨w.heap.size, G, _, rfl, Nat.le_refl _, heap_alloc_new w.drew _, Nat.zero_le _, hG3, ?_, rfl⟩⟩, ((Below.refl _ _).drew).alloc (Nat.le_refl _) _, by simp⟩
    rw [Array.size_append, size_zeroCells, size_zeroCells]
    simp [Value.cells]
    omega

/-- How far the sum of three lengths has come. -/
def CatSum (n1 n2 n3 : Nat) (s i : Value) : Prop :=
  (i = .int .i64 0 ∧ s = .int .i64 0) ∨ (i = .int .i64 1 ∧ s = .int .i64 n1) ∨ (i = .int .i64 2 ∧ s = .int .i64 ((n1 : Int) + n2)) ∨ (i = .int .i64 3 ∧ s = .int .i64 ((n1 : Int) + n2 + n3))

/-- How far three slices of octets have been joined. -/
def CatRow (w : World) (x1 x2 x3 : List Int) (v i : Value) (w' : World) : Prop :=
  Below w.heap.size w w' ∧ w.heap.size ≤ w'.heap.size ∧
  ((i = .int .i64 0 ∧ w'.ownsRow w.heap.size 5 1 v ([] : List Int).length (([] : List Int).map (Value.int .u8))) ∨
   (i = .int .i64 1 ∧ w'.ownsRow w.heap.size 5 1 v x1.length (x1.map (Value.int .u8))) ∨
   (i = .int .i64 2 ∧ w'.ownsRow w.heap.size 5 1 v (x1 ++ x2).length ((x1 ++ x2).map (Value.int .u8))) ∨
   (i = .int .i64 3 ∧ w'.ownsRow w.heap.size 5 1 v (x1 ++ x2 ++ x3).length ((x1 ++ x2 ++ x3).map (Value.int .u8))))

theorem concat_three (b n1 n2 n3 c1 c2 c3 B : Nat) (A1 A2 A3 : Option Addr) (x1 x2 x3 : List Int) (w : World)
    (h1 : Oct w B A1 n1 x1) (h2 : Oct w B A2 n2 x2) (h3 : Oct w B A3 n3 x3) (hB : B ≤ w.heap.size) (hb : b < w.heap.size)
    (e1 : w.cell? ⟨b, 0, none⟩ = some (.slice A1 n1 c1)) (e2 : w.cell? ⟨b, 1, none⟩ = some (.slice A2 n2 c2)) (e3 : w.cell? ⟨b, 2, none⟩ = some (.slice A3 n3 c3))
    (hn : n1 + n2 + n3 ≤ 70368744177664) :
    Calls Try.prog 29 #[.slice (some ⟨b, 0, none⟩) 3 3] w (OwnSl w w.heap.size (x1 ++ x2 ++ x3)) := by
  have H1 := Lib.hid h1
  have H2 := Lib.hid h2
  have H3 := Lib.hid h3
  have L1 := Lib.hid h1.1
  have L2 := Lib.hid h2.1
  have L3 := Lib.hid h3.1
  have E1 := Lib.hid e1
  have E2 := Lib.hid e2
  have E3 := Lib.hid e3
  clear h1 h2 h3 e1 e2 e3
  go_enter Try.func29, Try.ntmps29
  go_wp2
  go_loop [3, 11] (fun s i => CatSum n1 n2 n3 s i) (fun _ i => 3 - (intOf i).toNat)
  case atStart => exact .inl ⟨rfl, rfl⟩
  case round =>
    rcases hrel with ⟨rfl, rfl⟩ | ⟨rfl, rfl⟩ | ⟨rfl, rfl⟩ | ⟨rfl, rfl⟩
    · have e := E1.out
      go_wp2
      go_round
      case rel => exact .inr (.inl ⟨rfl, rfl⟩)
      case measure => simp [intOf]
    · have e := E2.out
      go_wp2
      go_round
      case rel => exact .inr (.inr (.inl ⟨rfl, rfl⟩))
      case measure => simp [intOf]
    · have e := E3.out
      go_wp2
      go_round
      case rel => exact .inr (.inr (.inr ⟨rfl, rfl⟩))
      case measure => simp [intOf]
    · go_wp2_with fail
      refine (grow_nil (n1 + n2 + n3) _ (by omega) _ hn).mono ?_
      rintro e w1 ⟨v1, rfl, how1, hb1, hs1⟩
      have HOW1 := Lib.hid how1
      clear how1
      go_wp2_with fail
      go_loopw [6, 27] (fun v i w' => CatRow w x1 x2 x3 v i w') (fun _ i _ => 3 - (intOf i).toNat)
      case atStart => exact ⟨hb1, hs1, .inl ⟨rfl, HOW1.out⟩⟩
      case round =>
        rcases hrel with ⟨hb2, hs2, ⟨rfl, how2⟩ | ⟨rfl, how2⟩ | ⟨rfl, how2⟩ | ⟨rfl, how2⟩⟩
        · have HOW2 := Lib.hid how2
          have e := (hb2.cell (p := ⟨b, 0, none⟩) hb).trans E1.out
          clear how2
          go_wp2_with (at_builtin
                       refine wpList_append_oct _ rfl (.tmp 31) (.tmp 32) rfl rfl w.heap.size _ [] x1 A1 n1 c1 B rfl rfl ?hown ?hO ?hb ?hbase ?_
                       case hown => exact HOW2.out
                       case hO => exact H1.out.below (hb2.mono hB)
                       case hb => simp [L1.out, L2.out]; omega
                       case hbase => exact hs2
                       intro v4 w4 hj4
                       have hb4 := joined_below HOW2.out hj4 hb2 hs2
                       have H4 := Lib.hid hj4.1
                       clear hj4)
          go_roundw
          case rel =>
            have h4 := H4.out
            rw [← List.length_append] at h4
            exact ⟨hb4.1, hb4.2, .inr (.inl ⟨rfl, h4⟩)⟩
          case measure => simp [intOf]
        · have HOW2 := Lib.hid how2
          have e := (hb2.cell (p := ⟨b, 1, none⟩) hb).trans E2.out
          clear how2
          go_wp2_with (at_builtin
                       refine wpList_append_oct _ rfl (.tmp 31) (.tmp 32) rfl rfl w.heap.size _ x1 x2 A2 n2 c2 B rfl rfl ?hown ?hO ?hb ?hbase ?_
                       case hown => exact HOW2.out
                       case hO => exact H2.out.below (hb2.mono hB)
                       case hb => simp [L1.out, L2.out]; omega
                       case hbase => exact hs2
                       intro v4 w4 hj4
                       have hb4 := joined_below HOW2.out hj4 hb2 hs2
                       have H4 := Lib.hid hj4.1
                       clear hj4)
          go_roundw
          case rel =>
            have h4 := H4.out
            rw [← List.length_append] at h4
            exact ⟨hb4.1, hb4.2, .inr (.inr (.inl ⟨rfl, h4⟩))⟩
          case measure => simp [intOf]
        · have HOW2 := Lib.hid how2
          have e := (hb2.cell (p := ⟨b, 2, none⟩) hb).trans E3.out
          clear how2
          go_wp2_with (at_builtin
                       refine wpList_append_oct _ rfl (.tmp 31) (.tmp 32) rfl rfl w.heap.size _ (x1 ++ x2) x3 A3 n3 c3 B rfl rfl ?hown ?hO ?hb ?hbase ?_
                       case hown => exact HOW2.out
                       case hO => exact H3.out.below (hb2.mono hB)
                       case hb => simp [L1.out, L2.out]; omega
                       case hbase => exact hs2
                       intro v4 w4 hj4
                       have hb4 := joined_below HOW2.out hj4 hb2 hs2
                       have H4 := Lib.hid hj4.1
                       clear hj4)
          go_roundw
          case rel =>
            have h4 := H4.out
            rw [← List.length_append] at h4
            exact ⟨hb4.1, hb4.2, .inr (.inr (.inr ⟨rfl, h4⟩))⟩
          case measure => simp [intOf]
        · have HOW2 := Lib.hid how2
          clear how2
          go_wp2
          go_ret
          exact ⟨_, rfl, HOW2.out, hb2, hs2⟩

/-- Octets, and how many they are ahead of them. -/
def bytesOct (vs : List Int) : List Int := if 1048576 < vs.length then [] else octN vs.length ++ vs

theorem new_three (w : World) (u0 u1 u2 : Value) (T : TypeId) :
    (w.alloc (.cells #[u0, u1, u2] T)).cell? ⟨w.heap.size, 0, none⟩ = some u0 ∧ (w.alloc (.cells #[u0, u1, u2] T)).cell? ⟨w.heap.size, 1, none⟩ = some u1 ∧ (w.alloc (.cells #[u0, u1, u2] T)).cell? ⟨w.heap.size, 2, none⟩ = some u2 := by
  have h := fun j => cell_of_row (w.alloc (.cells #[u0, u1, u2] T)) w.heap.size j #[u0, u1, u2] T (0, 0) (heap_alloc_new w _)
  refine ⟨?_, ?_, ?_⟩
  · rw [h 0]; rfl
  · rw [h 1]; rfl
  · rw [h 2]; rfl

theorem putBytes_any (A A2 : Option Addr) (n c n2 c2 B : Nat) (xs vs : List Int) (w : World) (hO : Oct w B A n xs) (hV : Oct w B A2 n2 vs) (hB : B ≤ w.heap.size) (hnc : n ≤ c) (hcm : c ≤ maxLen) (hn : n ≤ 35184372088832) :
    Calls Try.prog 27 #[.slice A n c, .slice A2 n2 c2] w (PutSl w (xs ++ bytesOct vs)) := by
  have HO := Lib.hid hO
  have HV := Lib.hid hV
  have L2 := Lib.hid hV.1
  clear hO hV
  by_cases hbig : 1048576 < n2
  · have e : bytesOct vs = [] := by unfold bytesOct; rw [L2.out, if_pos hbig]
    rw [e, List.append_nil]
    clear e
    go_enter Try.func27, Try.ntmps27
    go_wp2
    go_ret
    exact ⟨A, n, c, rfl, hnc, hcm, HO.out.more hB, Below.refl _ _⟩
  · have E : Hid (bytesOct vs = octN n2 ++ vs) := by show _ = _; unfold bytesOct; rw [L2.out, if_neg hbig]
    have hL4 := octN_le (n2 : Int)
    obtain ⟨L, hL⟩ : ∃ L, (octN (n2 : Int)).length = L := ⟨_, rfl⟩
    rw [hL] at hL4
    have HL := Lib.hid hL
    clear hL
    go_enter Try.func27, Try.ntmps27
    go_wp2_with fail
    refine (put_new (n2 : Int) _).mono ?_
    rw [HL.out]
    rintro e w1 ⟨A1, c1, rfl, hLc, hc1, hO1, hb1⟩
    have HO1 := Lib.hid hO1
    clear hO1
    have k1 := hb1.size
    go_wp2_with fail
    obtain ⟨f0, f1, f2⟩ := new_three w1 (.slice A n c) (.slice A1 L c1) (.slice A2 n2 c2) 22
    have ba : Below w1.heap.size w1 (w1.alloc (.cells #[.slice A n c, .slice A1 L c1, .slice A2 n2 c2] 22)) := (Below.refl _ _).alloc (Nat.le_refl _) _
    refine (concat_three w1.heap.size n L n2 c c1 c2 w1.heap.size A A1 A2 xs (octN n2) vs _ ((HO.out.below (hb1.mono hB)).more (by omega) |>.below ba) (HO1.out.below ba) ((HV.out.below (hb1.mono hB)).more (by omega) |>.below ba) (by simp) (by simp) f0 f1 f2 (by omega)).mono ?_
    clear f0 f1 f2
    rintro e w2 ⟨v2, rfl, how2, hb2, hs2⟩
    have HOW2 := Lib.hid how2
    clear how2
    go_wp2
    go_ret
    rw [E.out, ← List.append_assoc]
    have hy : ∀ y ∈ xs ++ octN n2 ++ vs, 0 ≤ y ∧ y ≤ 255 := fun y hy => by
      rcases List.mem_append.1 hy with h | h
      · rcases List.mem_append.1 h with h | h
        · exact HO.out.2.1 y h
        · exact octN_bytes _ y h
      · exact HV.out.2.1 y h
    obtain ⟨A3, c3, rfl, g1, g2, g3⟩ := own_sl HOW2.out hy
    exact ⟨A3, _, c3, rfl, g1, g2, g3, hb1.trans ((ba.trans (hb2.mono (by simp))).mono k1)⟩
end Go.Proofs.Ytakbbenegojcdaa
