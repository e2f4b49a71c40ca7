/-
  Slices of nodes, as they read.
-/
import Derived.Test.YtpoonjgkgaodmaaDoorNdBase
namespace Go.Proofs.YtpoonjgkgaodmaaDoor
open Go.ChangeShapes Go.WideShapes Go.ChangeAt Go.RowKit
set_option linter.unusedVariables false

/-- A slice of such, as it reads. -/
def RwNd (w : World) (B : Nat) (s : SlV) (Ls : List Nd) : Prop := s.m ≤ s.c ∧ s.c ≤ maxLen ∧ Ls.length = s.m ∧
  (0 < s.m → ∃ b o, s.A = some ⟨b, o, none⟩ ∧ b < B ∧ ∀ i L, Ls[i]? = some L → ∃ l : NdV, IsNd w B l L ∧ ∀ j u, (l.cs L)[j]? = some u → w.cell? ⟨b, o + i * 8 + j, none⟩ = some u)
theorem RwNd.below {w w' : World} {B : Nat} {s : SlV} {Ls : List Nd} (h : RwNd w B s Ls) (g : Below B w w') : RwNd w' B s Ls := by
  refine ⟨h.1, h.2.1, h.2.2.1, fun hm => ?_⟩
  obtain ⟨b, o, e, hB, hc⟩ := h.2.2.2 hm
  refine ⟨b, o, e, hB, fun i L hL => ?_⟩
  obtain ⟨l, hl, hj⟩ := hc i L hL
  exact ⟨l, hl.below g, fun j u hu => (g.cell (p := ⟨b, o + i * 8 + j, none⟩) hB).trans (hj j u hu)⟩
theorem RwNd.more {w : World} {B B' : Nat} {s : SlV} {Ls : List Nd} (h : RwNd w B s Ls) (g : B ≤ B') : RwNd w B' s Ls := by
  refine ⟨h.1, h.2.1, h.2.2.1, fun hm => ?_⟩
  obtain ⟨b, o, e, hB, hc⟩ := h.2.2.2 hm
  refine ⟨b, o, e, by omega, fun i L hL => ?_⟩
  obtain ⟨l, hl, hj⟩ := hc i L hL
  exact ⟨l, hl.more g, hj⟩
theorem RwNd.len {w : World} {B : Nat} {s : SlV} {Ls : List Nd} (h : RwNd w B s Ls) : Ls.length = s.m := h.2.2.1
/-- The element at a place. -/
theorem RwNd.at {w : World} {B : Nat} {s : SlV} {Ls : List Nd} (h : RwNd w B s Ls) (i : Nat) (hi : i < s.m) : ∃ (b o : Nat) (l : NdV) (L : Nd), s.A = some ⟨b, o, none⟩ ∧ b < B ∧ Ls[i]? = some L ∧ IsNd w B l L ∧ ∀ j u, (l.cs L)[j]? = some u → w.cell? ⟨b, o + i * 8 + j, none⟩ = some u := by
  obtain ⟨b, o, e, hB, hc⟩ := h.2.2.2 (by omega)
  have hl : i < Ls.length := by rw [h.len]; exact hi
  obtain ⟨l, h1, h2⟩ := hc i Ls[i] (List.getElem?_eq_getElem hl)
  exact ⟨b, o, l, Ls[i], e, hB, List.getElem?_eq_getElem hl, h1, h2⟩
end Go.Proofs.YtpoonjgkgaodmaaDoor
