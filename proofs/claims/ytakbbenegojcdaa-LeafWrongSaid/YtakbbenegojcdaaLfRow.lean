/-
  Slices of leaves, as they read.
-/
import Derived.Test.YtakbbenegojcdaaLfBase
namespace Go.Proofs.Ytakbbenegojcdaa
open Go.ChangeShapes Go.WideShapes Go.ChangeAt Go.RowKit
set_option linter.unusedVariables false

/-- A slice of such, as it reads. -/
def RwLf (w : World) (B : Nat) (s : SlV) (Ls : List Lf) : Prop := s.m ≤ s.c ∧ s.c ≤ maxLen ∧ Ls.length = s.m ∧
  (0 < s.m → ∃ b o, s.A = some ⟨b, o, none⟩ ∧ b < B ∧ ∀ i L, Ls[i]? = some L → ∃ l : LfV, IsLf w B l L ∧ ∀ j u, (l.cs L)[j]? = some u → w.cell? ⟨b, o + i * 4 + j, none⟩ = some u)
theorem RwLf.below {w w' : World} {B : Nat} {s : SlV} {Ls : List Lf} (h : RwLf w B s Ls) (g : Below B w w') : RwLf w' B s Ls := by
  refine ⟨h.1, h.2.1, h.2.2.1, fun hm => ?_⟩
  obtain ⟨b, o, e, hB, hc⟩ := h.2.2.2 hm
  refine ⟨b, o, e, hB, fun i L hL => ?_⟩
  obtain ⟨l, hl, hj⟩ := hc i L hL
  exact ⟨l, hl.below g, fun j u hu => (g.cell (p := ⟨b, o + i * 4 + j, none⟩) hB).trans (hj j u hu)⟩
theorem RwLf.more {w : World} {B B' : Nat} {s : SlV} {Ls : List Lf} (h : RwLf w B s Ls) (g : B ≤ B') : RwLf w B' s Ls := by
  refine ⟨h.1, h.2.1, h.2.2.1, fun hm => ?_⟩
  obtain ⟨b, o, e, hB, hc⟩ := h.2.2.2 hm
  refine ⟨b, o, e, by omega, fun i L hL => ?_⟩
  obtain ⟨l, hl, hj⟩ := hc i L hL
  exact ⟨l, hl.more g, hj⟩
theorem RwLf.len {w : World} {B : Nat} {s : SlV} {Ls : List Lf} (h : RwLf w B s Ls) : Ls.length = s.m := h.2.2.1
/-- The element at a place. -/
theorem RwLf.at {w : World} {B : Nat} {s : SlV} {Ls : List Lf} (h : RwLf w B s Ls) (i : Nat) (hi : i < s.m) : ∃ (b o : Nat) (l : LfV) (L : Lf), s.A = some ⟨b, o, none⟩ ∧ b < B ∧ Ls[i]? = some L ∧ IsLf w B l L ∧ ∀ j u, (l.cs L)[j]? = some u → w.cell? ⟨b, o + i * 4 + j, none⟩ = some u := by
  obtain ⟨b, o, e, hB, hc⟩ := h.2.2.2 (by omega)
  have hl : i < Ls.length := by rw [h.len]; exact hi
  obtain ⟨l, h1, h2⟩ := hc i Ls[i] (List.getElem?_eq_getElem hl)
  exact ⟨b, o, l, Ls[i], e, hB, List.getElem?_eq_getElem hl, h1, h2⟩
end Go.Proofs.Ytakbbenegojcdaa
