/-
  The contract of varint.Put, for every slice of octets and every number.
-/
import Derived.Test.YtakbbenegojcdaaVaGot
import Derived.Laws.CopyOwn
import Derived.OwnWalk
import Derived.Laws.MakeOwn
namespace Go.Proofs.Ytakbbenegojcdaa
open Go.ChangeShapes Go.WideShapes Go.ChangeAt Go.RowKit
set_option linter.unusedVariables false

theorem put_none (v : Value) (m : Int) (w : World) (hm : sizeN m = 0) : Calls Try.prog 38 #[v, .int .i64 m] w fun e w' => e = .returned v ∧ w = w' := by
  go_enter Try.func38, Try.ntmps38
  go_wp2_with (go_at_call 44; refine (size_any _ _).mono ?_; rintro e w' ⟨rfl, rfl⟩)
  go_ret
  exact ⟨rfl, rfl⟩

/-- The octets of a number. -/
def octN (m : Int) : List Int :=
  if sizeN m = 4 then [128 + m / 16777216, m / 65536 % 256, m / 256 % 256, m % 256] else if sizeN m = 2 then [64 + m / 256, m % 256] else if sizeN m = 1 then [m] else []

/-- What Put answers of a number that has octets: a new row that reads as ys; nothing that was there has changed. -/
def PutWell (w : World) (ys : List Int) (e : Ending) (w' : World) : Prop :=
  ∃ g cap, e = .returned (.slice (some ⟨g, 0, none⟩) ys.length cap) ∧ w.heap.size ≤ g ∧ ys.length ≤ cap ∧ cap ≤ maxLen ∧ Oct w' w'.heap.size (some ⟨g, 0, none⟩) ys.length ys ∧ Below w.heap.size w w'

theorem well_of {w0 w : World} {g k cap : Nat} {l : List Value} {ys : List Int} (h : w.ownsRow w0.heap.size 5 1 (.slice (some ⟨g, 0, none⟩) k cap) k l) (hk : ys.length = k) (hl : l = ys.map (Value.int .u8)) (hy : ∀ y ∈ ys, 0 ≤ y ∧ y ≤ 255)
    (hb : Below w0.heap.size w0 w) : PutWell w0 ys (.returned (.slice (some ⟨g, 0, none⟩) k cap)) w := by
  subst hl hk
  obtain ⟨hg0, hg1⟩ := h.lt g rfl
  have hc := h.cells (g := g) rfl
  refine ⟨g, cap, rfl, hg0, ?_, ?_, ⟨rfl, hy, fun _ => ⟨g, 0, rfl, hg1, fun i x hx => ?_⟩⟩, hb⟩
  · rcases h.2 with ⟨hv, _⟩ | ⟨g', cap', cur, hv, _, _, h1, _⟩
    · simp at hv
    · simp at hv; omega
  · rcases h.2 with ⟨hv, _⟩ | ⟨g', cap', cur, hv, _, _, _, h2, _⟩
    · simp at hv
    · simp at hv; omega
  · have := hc i (.int .u8 x) (by rw [List.getElem?_map, hx]; rfl)
    rwa [Addr.add_lit] at this

theorem put4 (A : Option Addr) (n c B : Nat) (xs : List Int) (m : Int) (w : World) (hO : Oct w B A n xs) (hB : B ≤ w.heap.size) (hn : n ≤ 70368744177664) (h0 : 16383 < m) (h1 : m ≤ 1073741823) :
    Calls Try.prog 38 #[.slice A n c, .int .i64 m] w (PutWell w (xs ++ octN m)) := by
  obtain ⟨i0, hi0, hz0, hz1, hz2⟩ := info_parts info5
  have hs : sizeN m = 4 := sizeN_4 h0 h1
  have hmk := make_row n 4 4 rfl (by omega)
  obtain ⟨W1, hcp, how, hbw, hsz1⟩ := copy_row A n c B 4 xs w hO hB (by unfold maxLen; omega)
  have HO := Lib.hid hO
  have HOW := Lib.hid how
  have HN : Hid (octN m = [128 + m / 16777216, m / 65536 % 256, m / 256 % 256, m % 256]) := by show octN m = _; unfold octN; rw [hs]; rfl
  have HM : Hid (markN 4 = 2147483648) := by show markN 4 = _; rfl
  clear hO how
  go_enter Try.func38, Try.ntmps38
  go_wp2_with (first
    | (go_at_call 44; refine (size_any _ _).mono ?_; rintro e w' ⟨rfl, rfl⟩)
    | (go_at_call 46; refine (marked_any _ _ _ (by omega) (by omega)).mono ?_; rintro e w' ⟨rfl, rfl⟩)
    | (at_builtin
       refine wpList_append_fits _ rfl (.tmp 33) (.tmp 40) 22 rfl w.heap.size 5 i0 1 Try.underlying22 hi0 hz1 w.heap.size (n) (n + 4) (xs.map (Value.int .u8)) rfl (HOW.out.alloc _) ⟨W1.heap.size, 0, none⟩ 2 2 [Value.int .u8 ((m + markN 4) / 16777216 % 256), Value.int .u8 ((m + markN 4) / 65536 % 256)] rfl rfl (new_cells W1 _) (by simp [Value.oneCell']) (by omega) ?_
       intro W2 how2 hg2
       have H2 := Lib.hid how2
       clear how2)
    | (at_builtin
       refine wpList_append_fits _ rfl (.tmp 42) (.tmp 46) 22 rfl w.heap.size 5 i0 1 Try.underlying22 hi0 hz1 w.heap.size (n + 2) (n + 4) (xs.map (Value.int .u8) ++ [Value.int .u8 ((m + markN 4) / 16777216 % 256), Value.int .u8 ((m + markN 4) / 65536 % 256)]) rfl (H2.out.alloc _) ⟨W2.heap.size, 0, none⟩ 1 1 [Value.int .u8 ((m + markN 4) / 256 % 256)] rfl rfl (new_cells W2 _) (by simp [Value.oneCell']) (by omega) ?_
       intro W3 how3 hg3
       have H3 := Lib.hid how3
       clear how3)
    | (at_builtin
       refine wpList_append_fits _ rfl (.tmp 48) (.tmp 51) 22 rfl w.heap.size 5 i0 1 Try.underlying22 hi0 hz1 w.heap.size (n + 2 + 1) (n + 4) (xs.map (Value.int .u8) ++ [Value.int .u8 ((m + markN 4) / 16777216 % 256), Value.int .u8 ((m + markN 4) / 65536 % 256)] ++ [Value.int .u8 ((m + markN 4) / 256 % 256)]) rfl (H3.out.alloc _) ⟨W3.heap.size, 0, none⟩ 1 1 [Value.int .u8 ((m + markN 4) % 256)] rfl rfl (new_cells W3 _) (by simp [Value.oneCell']) (by omega) ?_
       intro W4 how4 hg4
       have H4 := Lib.hid how4
       clear how4))
  go_ret
  have b2 := below_app hbw (by omega) (Nat.le_refl _) hg2
  have b3 := below_app b2.1 b2.2 (Nat.le_refl _) hg3
  have b4 := below_app b3.1 b3.2 (Nat.le_refl _) hg4
  refine well_of H4.out ?_ ?_ ?_ b4.1
  · rw [HN.out, List.length_append, HO.out.1]; rfl
  · rw [HN.out, HM.out, List.map_append]
    simp only [List.append_assoc, List.cons_append, List.nil_append, List.map_cons, List.map_nil]
    rw [show (m + 2147483648) / 16777216 % 256 = 128 + m / 16777216 from by omega, show (m + 2147483648) / 65536 % 256 = m / 65536 % 256 from by omega, show (m + 2147483648) / 256 % 256 = m / 256 % 256 from by omega, show (m + 2147483648) % 256 = m % 256 from by omega]
  · rw [HN.out]
    intro y hy
    rw [List.mem_append] at hy
    rcases hy with hy | hy
    · exact HO.out.2.1 y hy
    · simp only [List.mem_cons, List.not_mem_nil, or_false] at hy
      omega

theorem put2 (A : Option Addr) (n c B : Nat) (xs : List Int) (m : Int) (w : World) (hO : Oct w B A n xs) (hB : B ≤ w.heap.size) (hn : n ≤ 70368744177664) (h0 : 63 < m) (h1 : m ≤ 16383) :
    Calls Try.prog 38 #[.slice A n c, .int .i64 m] w (PutWell w (xs ++ octN m)) := by
  obtain ⟨i0, hi0, hz0, hz1, hz2⟩ := info_parts info5
  have hs : sizeN m = 2 := sizeN_2 h0 h1
  have hmk := make_row n 2 2 rfl (by omega)
  obtain ⟨W1, hcp, how, hbw, hsz1⟩ := copy_row A n c B 2 xs w hO hB (by unfold maxLen; omega)
  have HO := Lib.hid hO
  have HOW := Lib.hid how
  have HN : Hid (octN m = [64 + m / 256, m % 256]) := by show octN m = _; unfold octN; rw [hs]; rfl
  have HM : Hid (markN 2 = 16384) := by show markN 2 = _; rfl
  clear hO how
  go_enter Try.func38, Try.ntmps38
  go_wp2_with (first
    | (go_at_call 44; refine (size_any _ _).mono ?_; rintro e w' ⟨rfl, rfl⟩)
    | (go_at_call 46; refine (marked_any _ _ _ (by omega) (by omega)).mono ?_; rintro e w' ⟨rfl, rfl⟩)
    | (at_builtin
       refine wpList_append_fits _ rfl (.tmp 42) (.tmp 46) 22 rfl w.heap.size 5 i0 1 Try.underlying22 hi0 hz1 w.heap.size (n) (n + 2) (xs.map (Value.int .u8)) rfl (HOW.out.alloc _) ⟨W1.heap.size, 0, none⟩ 1 1 [Value.int .u8 ((m + markN 2) / 256 % 256)] rfl rfl (new_cells W1 _) (by simp [Value.oneCell']) (by omega) ?_
       intro W2 how2 hg2
       have H2 := Lib.hid how2
       clear how2)
    | (at_builtin
       refine wpList_append_fits _ rfl (.tmp 48) (.tmp 51) 22 rfl w.heap.size 5 i0 1 Try.underlying22 hi0 hz1 w.heap.size (n + 1) (n + 2) (xs.map (Value.int .u8) ++ [Value.int .u8 ((m + markN 2) / 256 % 256)]) rfl (H2.out.alloc _) ⟨W2.heap.size, 0, none⟩ 1 1 [Value.int .u8 ((m + markN 2) % 256)] rfl rfl (new_cells W2 _) (by simp [Value.oneCell']) (by omega) ?_
       intro W3 how3 hg3
       have H3 := Lib.hid how3
       clear how3))
  go_ret
  have b2 := below_app hbw (by omega) (Nat.le_refl _) hg2
  have b3 := below_app b2.1 b2.2 (Nat.le_refl _) hg3
  refine well_of H3.out ?_ ?_ ?_ b3.1
  · rw [HN.out, List.length_append, HO.out.1]; rfl
  · rw [HN.out, HM.out, List.map_append]
    simp only [List.append_assoc, List.cons_append, List.nil_append, List.map_cons, List.map_nil]
    rw [show (m + 16384) / 256 % 256 = 64 + m / 256 from by omega, show (m + 16384) % 256 = m % 256 from by omega]
  · rw [HN.out]
    intro y hy
    rw [List.mem_append] at hy
    rcases hy with hy | hy
    · exact HO.out.2.1 y hy
    · simp only [List.mem_cons, List.not_mem_nil, or_false] at hy
      omega

theorem put1 (A : Option Addr) (n c B : Nat) (xs : List Int) (m : Int) (w : World) (hO : Oct w B A n xs) (hB : B ≤ w.heap.size) (hn : n ≤ 70368744177664) (h0 : 0 ≤ m) (h1 : m ≤ 63) :
    Calls Try.prog 38 #[.slice A n c, .int .i64 m] w (PutWell w (xs ++ octN m)) := by
  obtain ⟨i0, hi0, hz0, hz1, hz2⟩ := info_parts info5
  have hs : sizeN m = 1 := sizeN_1 h0 h1
  have hmk := make_row n 1 1 rfl (by omega)
  obtain ⟨W1, hcp, how, hbw, hsz1⟩ := copy_row A n c B 1 xs w hO hB (by unfold maxLen; omega)
  have HO := Lib.hid hO
  have HOW := Lib.hid how
  have HN : Hid (octN m = [m]) := by show octN m = _; unfold octN; rw [hs]; rfl
  have HM : Hid (markN 1 = 0) := by show markN 1 = _; rfl
  clear hO how
  go_enter Try.func38, Try.ntmps38
  go_wp2_with (first
    | (go_at_call 44; refine (size_any _ _).mono ?_; rintro e w' ⟨rfl, rfl⟩)
    | (go_at_call 46; refine (marked_any _ _ _ (by omega) (by omega)).mono ?_; rintro e w' ⟨rfl, rfl⟩)
    | (at_builtin
       refine wpList_append_fits _ rfl (.tmp 48) (.tmp 51) 22 rfl w.heap.size 5 i0 1 Try.underlying22 hi0 hz1 w.heap.size (n) (n + 1) (xs.map (Value.int .u8)) rfl (HOW.out.alloc _) ⟨W1.heap.size, 0, none⟩ 1 1 [Value.int .u8 ((m + markN 1) % 256)] rfl rfl (new_cells W1 _) (by simp [Value.oneCell']) (by omega) ?_
       intro W2 how2 hg2
       have H2 := Lib.hid how2
       clear how2))
  go_ret
  have b2 := below_app hbw (by omega) (Nat.le_refl _) hg2
  refine well_of H2.out ?_ ?_ ?_ b2.1
  · rw [HN.out, List.length_append, HO.out.1]; rfl
  · rw [HN.out, HM.out, List.map_append]
    simp only [List.map_cons, List.map_nil]
    rw [show (m + 0) % 256 = m from by omega]
  · rw [HN.out]
    intro y hy
    rw [List.mem_append] at hy
    rcases hy with hy | hy
    · exact HO.out.2.1 y hy
    · simp only [List.mem_cons, List.not_mem_nil, or_false] at hy
      omega

theorem sizeN_cases (m : Int) : sizeN m = 0 ∧ (m < 0 ∨ 1073741823 < m) ∨ sizeN m = 1 ∧ 0 ≤ m ∧ m ≤ 63 ∨ sizeN m = 2 ∧ 63 < m ∧ m ≤ 16383 ∨ sizeN m = 4 ∧ 16383 < m ∧ m ≤ 1073741823 := by
  by_cases h : m < 0 ∨ 1073741823 < m
  · exact .inl ⟨sizeN_0 h, h⟩
  · by_cases h1 : m ≤ 63
    · exact .inr (.inl ⟨sizeN_1 (by omega) h1, by omega, h1⟩)
    · by_cases h2 : m ≤ 16383
      · exact .inr (.inr (.inl ⟨sizeN_2 (by omega) h2, by omega, h2⟩))
      · exact .inr (.inr (.inr ⟨sizeN_4 (by omega) (by omega), by omega, by omega⟩))

theorem put_some (A : Option Addr) (n c B : Nat) (xs : List Int) (m : Int) (w : World) (hO : Oct w B A n xs) (hB : B ≤ w.heap.size) (hn : n ≤ 70368744177664) (hm : sizeN m ≠ 0) :
    Calls Try.prog 38 #[.slice A n c, .int .i64 m] w (PutWell w (xs ++ octN m)) := by
  rcases sizeN_cases m with h | h | h | h
  · exact absurd h.1 hm
  · exact put1 A n c B xs m w hO hB hn h.2.1 h.2.2
  · exact put2 A n c B xs m w hO hB hn h.2.1 h.2.2
  · exact put4 A n c B xs m w hO hB hn h.2.1 h.2.2

theorem octN_length (m : Int) : ((octN m).length : Int) = sizeN m := by
  unfold octN
  rcases sizeN_cases m with h | h | h | h <;> rw [h.1] <;> rfl
end Go.Proofs.Ytakbbenegojcdaa
