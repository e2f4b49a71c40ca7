/-
  Go's library on slices of whole numbers: joined, sorted, without neighbours that are the same, looked up.
-/
import Derived.Test.YtkcpmpbjjnknhaaGreatDoorNuCat
import Derived.Test.YtkcpmpbjjnknhaaGreatDoorKitN
import Derived.Test.YtkcpmpbjjnknhaaGreatDoorShelf
import Derived.Lib.OwnBridge
import Derived.Lib.RowBridge
import Derived.Sort.OwnSortedInts
namespace Go.Proofs.YtkcpmpbjjnknhaaGreatDoor
open Go.ChangeShapes Go.WideShapes Go.ChangeAt Go.RowKit
set_option linter.unusedVariables false

section
variable {w : World} {base B B2 : Nat} {v : Value} {s s2 : SlV} {xs ys : List Int}
theorem sort_own (h : w.ownsRow base 3 1 v ys.length (ys.map (Value.int .i64))) (hn : ys.length ≤ 1000000000000) (hbase : base ≤ w.heap.size) :
    Calls Tryz.prog 119 #[v] w fun e w' => ∃ v', e = .returned v' ∧ v' = .tuple #[] ∧ w'.ownsRow base 3 1 v (ys.mergeSort fun x y => decide (x ≤ y)).length ((ys.mergeSort fun x y => decide (x ≤ y)).map (Value.int .i64)) ∧ Below base w w' := by
  have hl : (ys.mergeSort fun x y => decide (x ≤ y)).length = ys.length := List.length_mergeSort ys
  rcases h.2 with ⟨rfl, h0⟩ | ⟨g, cap, cur, rfl, hg, hb, h1, h2, h3, h4⟩
  · have e : ys = [] := List.eq_nil_of_length_eq_zero h0
    subst e
    refine (Tryz.slices_Sort_int_none none 0 w).mono ?_
    rintro e w' ⟨rfl, rfl⟩
    exact ⟨_, rfl, rfl, by simpa using h, Below.refl _ _⟩
  · have hH := holds_of_blockI hb (by simpa using h4)
    refine (Tryz.slices_Sort_int g 0 cap ys w hH (Array.getElem?_eq_some_iff.1 hb).1 (by omega)).mono ?_
    rintro e w' ⟨rfl, n, os, rfl⟩
    refine ⟨_, rfl, rfl, ?_, (Below.refl _ _).grown (grownBy_sortedI _) hbase (fun k hk => by cases hk; exact hg)⟩
    rw [hl]
    exact ownsRow_sortedI hl hg hb h1 h2 h3
theorem compact_own (h : w.ownsRow base 3 1 v ys.length (ys.map (Value.int .i64))) (hn : ys.length ≤ 1000000000000) :
    Calls Tryz.prog 120 #[v] w fun e w' => ∃ v', e = .returned v' ∧ w'.ownsRow base 3 1 v' (Lib.compact ys).length ((Lib.compact ys).map (Value.int .i64)) ∧ Below base w w' := by
  rcases h.2 with ⟨rfl, h0⟩ | ⟨g, cap, cur, rfl, hg, hb, h1, h2, h3, h4⟩
  · have e : ys = [] := List.eq_nil_of_length_eq_zero h0
    subst e
    refine (Tryz.slices_Compact_int_empty none 0 w).mono ?_
    rintro e w' ⟨rfl, rfl⟩
    exact ⟨_, rfl, by simpa [Lib.compact, Lib.compactUpTo] using h, Below.refl _ _⟩
  · have hH := holds_of_blockI hb (by simpa using h4)
    have hle := Lib.compact_length_le ys
    refine (Tryz.slices_Compact_int g 0 cap ys w hH (by omega) h1).mono ?_
    rintro e w' ⟨rfl, q, rfl⟩
    have hc := Lib.ownsRow_putRow (q := q) (k := (Lib.compact ys).length) (ys := Lib.compact ys ++ List.replicate (ys.length - (Lib.compact ys).length) 0) h (by simp; omega) hle
    rw [List.take_left] at hc
    exact ⟨_, rfl, hc, Lib.below_putRow (Below.refl _ _) hg⟩
theorem search_S {x : Int} (h : SlN w B s xs) (hs : Rising xs) (hn : xs.length ≤ 1000000000000) :
    Calls Tryz.prog 117 #[s.v, nv x] w fun e w' => ∃ v, e = .returned v ∧ ∃ (k : Int) (b : Bool), v = .tuple #[nv k, .bool b] ∧ b = decide (x ∈ xs) ∧ Below w.heap.size w w' := by
  obtain ⟨A, m, c⟩ := s
  have hl : xs.length = m := h.len
  by_cases h0 : m = 0
  · subst h0
    have e : xs = [] := List.eq_nil_of_length_eq_zero hl
    subst e
    refine (Tryz.slices_BinarySearch_int_empty A c x w).mono ?_
    rintro e w' ⟨rfl, rfl⟩
    exact ⟨_, rfl, 0, false, rfl, by simp, Below.refl _ _⟩
  · obtain ⟨b, off, e, hB, hc⟩ := h.2.2.2 (by show 0 < m; omega)
    dsimp only at e
    subst e
    subst hl
    refine (Tryz.slices_BinarySearch_int b off xs.length c xs x w (Nat.le_refl _) (by omega) (fun j hj => hc j _ (by rw [List.getD_eq_getElem?_getD, List.getElem?_eq_getElem hj]; rfl)) (by rw [List.take_length]; exact rising_le hs)).mono ?_
    rintro e w' ⟨rfl, q, rfl⟩
    refine ⟨_, rfl, _, _, rfl, ?_, below_of_drewN _ _⟩
    rw [List.take_length, ← List.contains_eq_mem]
/-- A row of one's own that holds these numbers, laid ahead. -/
theorem concatN_S {b : Nat} {t : TypeId} (r : RowAt w b t #[s.v, s2.v]) (h : SlN w B s xs) (h2 : SlN w B2 s2 ys) (hB : B ≤ w.heap.size) (hB2 : B2 ≤ w.heap.size) (hn : xs.length + ys.length ≤ 1000000000000) :
    Calls Tryz.prog 118 #[.slice (some ⟨b, 0, none⟩) 2 2] w fun e w' => ∃ v, e = .returned v ∧ w'.ownsRow w.heap.size 3 1 v (xs ++ ys).length ((xs ++ ys).map (Value.int .i64)) ∧ Below w.heap.size w w' :=
  (concatN_two b s.m s2.m s.c s2.c w.heap.size s.A s2.A xs ys w (h.more hB).2.2 (h2.more hB2).2.2 (Nat.le_refl _) r.lt (by rw [cell_of_row w b 0 _ t _ r]; rfl) (by rw [cell_of_row w b 1 _ t _ r]; rfl) (by rw [← h.len, ← h2.len]; exact hn)).mono fun e w' ⟨v, e1, h1, h2, _⟩ => ⟨v, e1, h1, h2⟩
end
end Go.Proofs.YtkcpmpbjjnknhaaGreatDoor
