/-
  Rows of nodes that came in.
-/
import Derived.Test.YtpoonjgkgaodmaaDoorNdLift
import Derived.Test.YtpoonjgkgaodmaaDoorNdRow
namespace Go.Proofs.YtpoonjgkgaodmaaDoor
open Go.ChangeShapes Go.WideShapes Go.ChangeAt Go.RowKit
set_option linter.unusedVariables false

section
variable {H : Type} {enc : TypeId × Value → H} {w : World} {spare : Nat → Bool} {held : Bool} {v : Value} {d : DataW H} {ps : List MemPlace} {r : Reach} {b0 : Nat}
theorem huNds : Tryd.prog.underlying 22 = some (.slice 30) := by kernel_rfl
theorem open_rowNd {fuel : Nat} {cs : List Value} {x : DataW H × List MemPlace} (h : DataW.trod enc Tryd.prog w 0 (fun _ => true) held fuel 22 cs = some x) :
    ∃ (s : SlV) (Ls : List Nd), cs = [s.v] ∧ RwNd w w.heap.size s Ls := by
  rcases Go.Deep.open_slice huNds h with ⟨hcs, _⟩ | ⟨a, len, cap, m, n, D, Pl, hcs, _, hl, hm, hmm, _, hx⟩
  · exact ⟨nilS, [], hcs, Nat.le_refl _, Nat.zero_le _, rfl, fun q => absurd q (by simp)⟩
  · rw [if_pos rfl] at hmm
    subst hmm
    have key : ∀ i, i < m → ∃ (l : NdV) (L : Nd), IsNd w w.heap.size l L ∧ ∀ j u, (l.cs L)[j]? = some u → w.cell? ((a.add (i * 8)).add j) = some u := by
      intro i hi
      obtain ⟨cs', h1, h2⟩ := hx i hi
      obtain ⟨l, L, e, h3⟩ := open_NdC h2
      rw [cellsNd] at h1
      refine ⟨l, L, h3, fun j u hu => cells_at h1 j u ?_⟩
      rw [e, Array.getElem?_toList]
      exact hu
    obtain ⟨b, off, spot⟩ := a
    refine ⟨⟨some ⟨b, off, spot⟩, len, m⟩, (List.range len).pmap (fun i hi => (key i hi).choose_spec.choose) (fun i hi => by have := List.mem_range.1 hi; omega), hcs, hl, hm, by simp, fun hpos => ?_⟩
    have hpos : 0 < len := hpos
    obtain ⟨l0, L0, _, hc0⟩ := key 0 (by omega)
    have hc := hc0 0 _ rfl
    have hspot : spot = none := by simpa [Addr.add] using World.cell?_spot hc
    subst hspot
    refine ⟨b, off, rfl, ?_, fun i L hL => ?_⟩
    · have := World.block_lt_of_cell? w _ hc
      simpa [Addr.add] using this
    · rw [List.getElem?_pmap, Option.pmap_eq_some_iff] at hL
      obtain ⟨i', hi', h4, rfl⟩ := hL
      have hi : i' = i := by
        rw [List.getElem?_range (by have := (List.getElem?_eq_some_iff.1 h4).1; simpa using this)] at h4
        exact (Option.some.inj h4).symm
      subst hi
      refine ⟨_, (key i' hi').choose_spec.choose_spec.1, fun j u hu => ?_⟩
      have := (key i' hi').choose_spec.choose_spec.2 j u hu
      simp only [Addr.add_lit] at this
      exact this
theorem open_rowNdS (hval : Value.okWide Tryd.prog w r b0 22 v) (hd : DataW.Trod enc Tryd.prog w 0 (fun _ => true) held 22 v d ps) : ∃ (s : SlV) (Ls : List Nd), v = s.v ∧ RwNd w w.heap.size s Ls := by
  obtain ⟨a, l, c, rfl⟩ := okWide_slice huNds hval
  obtain ⟨fuel, hf⟩ := hd
  obtain ⟨s, Ls, hcs, h⟩ := open_rowNd hf
  exact ⟨s, Ls, by simpa [Value.cells] using hcs, h⟩
end
end Go.Proofs.YtpoonjgkgaodmaaDoor
