/-
  Octets, numbers and nodes that came in; how much they may be.
-/
import Derived.Test.YtpoonjgkgaodmaaDoorNdBase
import Derived.ProofKit
import Derived.OpenShut
import Derived.ChangeOld
import Derived.Deep.Slices
import Derived.DataReads
import Derived.SizedLaws
namespace Go.Proofs.YtpoonjgkgaodmaaDoor
open Go.ChangeShapes Go.WideShapes Go.ChangeAt Go.RowKit
set_option linter.unusedVariables false

theorem own : ownKnob Tryd.prog.godebug = none := by kernel_rfl
theorem laidOut : laidOutB Tryd.prog = true := by kernel_rfl
/-- Where the fields of a struct lie. -/
def layOf : Option TypeDesc → Option (List (Nat × Nat))
  | some (.struct fs) => some (fs.toList.map fun f => (f.type, f.offset))
  | _ => none
theorem lay_str {P : Program} {t : TypeId} {ls : List (Nat × Nat)} (h : layOf (P.underlying t) = some ls) : ∃ fs, P.underlying t = some (.struct fs) ∧ fs.size = ls.length ∧ ∀ (i : Nat) (p : Nat × Nat), ls[i]? = some p → ∃ f, fs[i]? = some f ∧ f.type = p.1 ∧ f.offset = p.2 := by
  cases hq : P.underlying t with
  | none => rw [hq] at h; cases h
  | some d =>
    rw [hq] at h
    cases d with
    | struct fs =>
      simp only [layOf, Option.some.injEq] at h
      subst h
      refine ⟨fs, rfl, by simp, fun i p hp => ?_⟩
      rw [List.getElem?_map, Option.map_eq_some_iff] at hp
      obtain ⟨f, hf, rfl⟩ := hp
      exact ⟨f, by rw [← Array.getElem?_toList]; exact hf, rfl, rfl⟩
    | _ => cases h
theorem one_at {α : Type} {l : List α} {i : Nat} {x : α} (h : (l.drop i).take 1 = [x]) : l[i]? = some x := by
  have := congrArg (fun q : List α => q[0]?) h
  simpa [List.getElem?_take, List.getElem?_drop] using this
theorem many_at {α : Type} {l m : List α} {i n : Nat} (h : (l.drop i).take n = m) : ∀ j, j < n → l[i + j]? = m[j]? := by
  intro j hj
  rw [← h, List.getElem?_take, if_pos hj, List.getElem?_drop]
theorem cells_at {w : World} {base : Nat} {a : Addr} {n : Nat} {cs : List Value} (h : w.cells? base a n = some cs) : ∀ j u, cs[j]? = some u → w.cell? (a.add j) = some u := by
  have h1 := World.cells?_some h
  obtain ⟨_, h2, h3⟩ := h1
  intro j u hj
  have hl : j < cs.length := (List.getElem?_eq_some_iff.1 hj).1
  rw [h3 j (by omega)]
  exact hj
section
variable {H : Type} {enc : TypeId × Value → H} {w : World} {spare : Nat → Bool} {held : Bool} {v : Value} {d : DataW H} {ps : List MemPlace} {r : Reach} {b0 : Nat}
theorem cellsU8 : Tryd.prog.cellsOf 5 = 1 := by kernel_rfl
theorem open_bytesC {fuel : Nat} {cs : List Value} {x : DataW H × List MemPlace} (h : DataW.trod enc Tryd.prog w 0 (fun _ => true) held fuel 23 cs = some x) :
    ∃ (s : SlV) (xs : List Int), cs = [s.v] ∧ Sl w w.heap.size s xs := by
  rcases open_ints huo24 (show Tryd.prog.underlying 5 = some (.int .u8) by kernel_rfl) cellsU8 h with ⟨hcs, _⟩ | ⟨a, l, c, zs, hcs, _, hl, hm, hz, _, hcell, hwz⟩
  · exact ⟨nilS, [], hcs, Sl.nil _ _⟩
  · obtain ⟨h1, h2, h3⟩ := oct_of_row (len0 := l) (.inr ⟨a, rfl, hl, hm, by simpa using hz, hcell, hwz⟩ : IsRow .u8 w (some a) l c zs)
    exact ⟨⟨some a, l, c⟩, _, hcs, h1, h2, h3⟩
theorem open_bytesS (hval : Value.okWide Tryd.prog w r b0 23 v) (hd : DataW.Trod enc Tryd.prog w 0 (fun _ => true) held 23 v d ps) : ∃ (s : SlV) (xs : List Int), v = s.v ∧ Sl w w.heap.size s xs := by
  obtain ⟨a, l, c, rfl⟩ := okWide_slice huo24 hval
  obtain ⟨fuel, hf⟩ := hd
  obtain ⟨s, xs, hcs, h⟩ := open_bytesC hf
  exact ⟨s, xs, by simpa [Value.cells] using hcs, h⟩
end
section
variable {H : Type} {enc : TypeId × Value → H} {w : World} {spare : Nat → Bool} {held : Bool} {v : Value} {d : DataW H} {ps : List MemPlace} {r : Reach} {b0 : Nat}
theorem open_numsC {fuel : Nat} {cs : List Value} {x : DataW H × List MemPlace} (h : DataW.trod enc Tryd.prog w 0 (fun _ => true) held fuel 26 cs = some x) :
    ∃ (s : SlV) (xs : List Int), cs = [s.v] ∧ SlN w w.heap.size s xs := by
  rcases open_ints huIs huInt (show Tryd.prog.cellsOf 3 = 1 by kernel_rfl) h with ⟨hcs, _⟩ | ⟨a, l, c, zs, hcs, _, hl, hm, hz, _, hcell, hwz⟩
  · exact ⟨nilS, [], hcs, SlN.nil _ _⟩
  · obtain ⟨h1, h2, h3⟩ := nums_of_row (len0 := l) (.inr ⟨a, rfl, hl, hm, by simpa using hz, hcell, hwz⟩ : IsRow .i64 w (some a) l c zs)
    exact ⟨⟨some a, l, c⟩, _, hcs, h1, h2, h3⟩
theorem open_numsS (hval : Value.okWide Tryd.prog w r b0 26 v) (hd : DataW.Trod enc Tryd.prog w 0 (fun _ => true) held 26 v d ps) : ∃ (s : SlV) (xs : List Int), v = s.v ∧ SlN w w.heap.size s xs := by
  obtain ⟨a, l, c, rfl⟩ := okWide_slice huIs hval
  obtain ⟨fuel, hf⟩ := hd
  obtain ⟨s, xs, hcs, h⟩ := open_numsC hf
  exact ⟨s, xs, by simpa [Value.cells] using hcs, h⟩
end
section
variable {H : Type} {enc : TypeId × Value → H} {w : World} {spare : Nat → Bool} {held : Bool} {v : Value} {d : DataW H} {ps : List MemPlace} {r : Reach} {b0 : Nat}
theorem open_bytesB {fuel : Nat} {cs : List Value} {x : DataW H × List MemPlace} (h : DataW.trod enc Tryd.prog w 0 (fun _ => true) held fuel 23 cs = some x) :
    ∃ (s : SlV) (xs : List Int), cs = [s.v] ∧ Sl w w.heap.size s xs ∧ ∀ N, (∀ n ∈ x.1.weights Tryd.prog 23, n ≤ N) → xs.length ≤ N := by
  rcases open_ints huo24 (show Tryd.prog.underlying 5 = some (.int .u8) by kernel_rfl) cellsU8 h with ⟨hcs, _⟩ | ⟨a, l, c, zs, hcs, _, hl, hm, hz, hd, hcell, hwz⟩
  · exact ⟨nilS, [], hcs, Sl.nil _ _, fun _ _ => Nat.zero_le _⟩
  · obtain ⟨h1, h2, h3⟩ := oct_of_row (len0 := l) (.inr ⟨a, rfl, hl, hm, by simpa using hz, hcell, hwz⟩ : IsRow .u8 w (some a) l c zs)
    refine ⟨⟨some a, l, c⟩, _, hcs, ⟨h1, h2, h3⟩, fun N hN => ?_⟩
    rw [hd] at hN
    have hw := hN _ (by rw [DataW.weights, huo24]; exact List.mem_cons_self ..)
    rw [show Tryd.prog.bytesOf 5 = 1 by kernel_rfl] at hw
    simp only [lits, List.length_map, List.length_take, List.length_drop] at hw ⊢
    omega
theorem open_numsB {fuel : Nat} {cs : List Value} {x : DataW H × List MemPlace} (h : DataW.trod enc Tryd.prog w 0 (fun _ => true) held fuel 26 cs = some x) :
    ∃ (s : SlV) (xs : List Int), cs = [s.v] ∧ SlN w w.heap.size s xs ∧ ∀ N, (∀ n ∈ x.1.weights Tryd.prog 26, n ≤ N) → xs.length * 8 ≤ N := by
  rcases open_ints huIs huInt (show Tryd.prog.cellsOf 3 = 1 by kernel_rfl) h with ⟨hcs, _⟩ | ⟨a, l, c, zs, hcs, _, hl, hm, hz, hd, hcell, hwz⟩
  · exact ⟨nilS, [], hcs, SlN.nil _ _, fun _ _ => Nat.zero_le _⟩
  · obtain ⟨h1, h2, h3⟩ := nums_of_row (len0 := l) (.inr ⟨a, rfl, hl, hm, by simpa using hz, hcell, hwz⟩ : IsRow .i64 w (some a) l c zs)
    refine ⟨⟨some a, l, c⟩, _, hcs, ⟨h1, h2, h3⟩, fun N hN => ?_⟩
    rw [hd] at hN
    have hw := hN _ (by rw [DataW.weights, huIs]; exact List.mem_cons_self ..)
    rw [show Tryd.prog.bytesOf 3 = 8 by kernel_rfl] at hw
    simp only [lits, List.length_map, List.length_take, List.length_drop] at hw ⊢
    omega
theorem field_weights {P : Program} {T : TypeId} {fs : Array Field} (hu : P.underlying T = some (.struct fs)) {xs : List (DataW H × List MemPlace)} {i : Nat} {f : Field} {y : DataW H × List MemPlace} (hf : fs[i]? = some f) (hy : xs[i]? = some y) {N : Nat}
    (h : ∀ n ∈ (DataW.agg (xs.map (·.1)) : DataW H).weights P T, n ≤ N) : ∀ n ∈ y.1.weights P f.type, n ≤ N := fun n hn => h n (by
  rw [DataW.weights, hu]
  exact DataW.weights_mem_each (j := i) (by rw [List.getElem?_map, Array.getElem?_toList, hf]; rfl) (by rw [List.getElem?_map, hy]; rfl) n hn)
end
section
variable {H : Type} {enc : TypeId × Value → H} {w : World} {spare : Nat → Bool} {held : Bool} {v : Value} {d : DataW H} {ps : List MemPlace} {r : Reach} {b0 : Nat}
theorem cellsLf : Tryd.prog.cellsOf 25 = 4 := by kernel_rfl
theorem layLf : layOf (Tryd.prog.underlying 25) = some [(23, 0), (23, 1), (3, 2), (23, 3)] := by kernel_rfl
theorem open_LfC {fuel : Nat} {cs : List Value} {x : DataW H × List MemPlace} (h : DataW.trod enc Tryd.prog w 0 (fun _ => true) held fuel 25 cs = some x) :
    ∃ (l : LfV) (L : Lf), cs = (l.cs L).toList ∧ IsLf w w.heap.size l L := by
  obtain ⟨fs, hu, hsz, hf⟩ := lay_str layLf
  obtain ⟨xs, n, _, _, hl, hlen, hfl⟩ := DataW.trod_struct hu h
  rw [cellsLf] at hl
  obtain ⟨f0, g0, t0, o0⟩ := hf 0 _ rfl
  have h0 := hfl 0 f0 g0
  rw [t0, o0, show Tryd.prog.cellsOf 23 = 1 by kernel_rfl, List.getElem?_eq_getElem (by rw [hlen, hsz]; decide)] at h0
  obtain ⟨s0, x0, c0, p0⟩ := open_bytesC h0
  obtain ⟨f1, g1, t1, o1⟩ := hf 1 _ rfl
  have h1 := hfl 1 f1 g1
  rw [t1, o1, show Tryd.prog.cellsOf 23 = 1 by kernel_rfl, List.getElem?_eq_getElem (by rw [hlen, hsz]; decide)] at h1
  obtain ⟨s1, x1, c1, p1⟩ := open_bytesC h1
  obtain ⟨f2, g2, t2, o2⟩ := hf 2 _ rfl
  have h2 := hfl 2 f2 g2
  rw [t2, o2, show Tryd.prog.cellsOf 3 = 1 by kernel_rfl, List.getElem?_eq_getElem (by rw [hlen, hsz]; decide)] at h2
  obtain ⟨x2, c2, _, _⟩ := DataW.trod_int (show Tryd.prog.underlying 3 = some (.int .i64) by kernel_rfl) h2
  obtain ⟨f3, g3, t3, o3⟩ := hf 3 _ rfl
  have h3 := hfl 3 f3 g3
  rw [t3, o3, show Tryd.prog.cellsOf 23 = 1 by kernel_rfl, List.getElem?_eq_getElem (by rw [hlen, hsz]; decide)] at h3
  obtain ⟨s3, x3, c3, p3⟩ := open_bytesC h3
  refine ⟨⟨s0, s1, s3⟩, ⟨x0, x1, x2, x3⟩, ?_, ⟨p0, p1, p3⟩⟩
  refine List.ext_getElem? fun i => ?_
  match i with
  | 0 => exact (one_at c0)
  | 1 => exact (one_at c1)
  | 2 => exact (one_at c2)
  | 3 => exact (one_at c3)
  | i + 4 =>
    rw [List.getElem?_eq_none (by omega)]
    exact (List.getElem?_eq_none (by show 4 ≤ i + 4; omega)).symm
theorem open_LfS (hval : Value.okWide Tryd.prog w r b0 25 v) (hd : DataW.Trod enc Tryd.prog w 0 (fun _ => true) held 25 v d ps) : ∃ (l : LfV) (L : Lf), v = .agg (l.cs L) ∧ IsLf w w.heap.size l L := by
  obtain ⟨fs, hu, _⟩ := lay_str layLf
  obtain ⟨cs, rfl, _, _⟩ : ∃ cs, v = .agg cs ∧ cs.size = Tryd.prog.cellsOf 25 ∧ Row.okWide Tryd.prog w r b0 25 cs := by
    simpa [Value.okWide, hu] using hval
  obtain ⟨fuel, hf⟩ := hd
  obtain ⟨l, L, e, h⟩ := open_LfC hf
  exact ⟨l, L, congrArg Value.agg (Array.toList_inj.1 e), h⟩
theorem cellsPn : Tryd.prog.cellsOf 28 = 3 := by kernel_rfl
theorem layPn : layOf (Tryd.prog.underlying 28) = some [(23, 0), (23, 1), (26, 2)] := by kernel_rfl
theorem open_PnC {fuel : Nat} {cs : List Value} {x : DataW H × List MemPlace} (h : DataW.trod enc Tryd.prog w 0 (fun _ => true) held fuel 28 cs = some x) :
    ∃ (l : PnV) (L : Pn), cs = (l.cs L).toList ∧ IsPn w w.heap.size l L := by
  obtain ⟨fs, hu, hsz, hf⟩ := lay_str layPn
  obtain ⟨xs, n, _, _, hl, hlen, hfl⟩ := DataW.trod_struct hu h
  rw [cellsPn] at hl
  obtain ⟨f0, g0, t0, o0⟩ := hf 0 _ rfl
  have h0 := hfl 0 f0 g0
  rw [t0, o0, show Tryd.prog.cellsOf 23 = 1 by kernel_rfl, List.getElem?_eq_getElem (by rw [hlen, hsz]; decide)] at h0
  obtain ⟨s0, x0, c0, p0⟩ := open_bytesC h0
  obtain ⟨f1, g1, t1, o1⟩ := hf 1 _ rfl
  have h1 := hfl 1 f1 g1
  rw [t1, o1, show Tryd.prog.cellsOf 23 = 1 by kernel_rfl, List.getElem?_eq_getElem (by rw [hlen, hsz]; decide)] at h1
  obtain ⟨s1, x1, c1, p1⟩ := open_bytesC h1
  obtain ⟨f2, g2, t2, o2⟩ := hf 2 _ rfl
  have h2 := hfl 2 f2 g2
  rw [t2, o2, show Tryd.prog.cellsOf 26 = 1 by kernel_rfl, List.getElem?_eq_getElem (by rw [hlen, hsz]; decide)] at h2
  obtain ⟨s2, x2, c2, p2⟩ := open_numsC h2
  refine ⟨⟨s0, s1, s2⟩, ⟨x0, x1, x2⟩, ?_, ⟨p0, p1, p2⟩⟩
  refine List.ext_getElem? fun i => ?_
  match i with
  | 0 => exact (one_at c0)
  | 1 => exact (one_at c1)
  | 2 => exact (one_at c2)
  | i + 3 =>
    rw [List.getElem?_eq_none (by omega)]
    exact (List.getElem?_eq_none (by show 3 ≤ i + 3; omega)).symm
theorem open_PnS (hval : Value.okWide Tryd.prog w r b0 28 v) (hd : DataW.Trod enc Tryd.prog w 0 (fun _ => true) held 28 v d ps) : ∃ (l : PnV) (L : Pn), v = .agg (l.cs L) ∧ IsPn w w.heap.size l L := by
  obtain ⟨fs, hu, _⟩ := lay_str layPn
  obtain ⟨cs, rfl, _, _⟩ : ∃ cs, v = .agg cs ∧ cs.size = Tryd.prog.cellsOf 28 ∧ Row.okWide Tryd.prog w r b0 28 cs := by
    simpa [Value.okWide, hu] using hval
  obtain ⟨fuel, hf⟩ := hd
  obtain ⟨l, L, e, h⟩ := open_PnC hf
  exact ⟨l, L, congrArg Value.agg (Array.toList_inj.1 e), h⟩
theorem cellsNd : Tryd.prog.cellsOf 30 = 8 := by kernel_rfl
theorem layNd : layOf (Tryd.prog.underlying 30) = some [(3, 0), (25, 1), (28, 5)] := by kernel_rfl
theorem open_NdC {fuel : Nat} {cs : List Value} {x : DataW H × List MemPlace} (h : DataW.trod enc Tryd.prog w 0 (fun _ => true) held fuel 30 cs = some x) :
    ∃ (l : NdV) (L : Nd), cs = (l.cs L).toList ∧ IsNd w w.heap.size l L := by
  obtain ⟨fs, hu, hsz, hf⟩ := lay_str layNd
  obtain ⟨xs, n, _, _, hl, hlen, hfl⟩ := DataW.trod_struct hu h
  rw [cellsNd] at hl
  obtain ⟨f0, g0, t0, o0⟩ := hf 0 _ rfl
  have h0 := hfl 0 f0 g0
  rw [t0, o0, show Tryd.prog.cellsOf 3 = 1 by kernel_rfl, List.getElem?_eq_getElem (by rw [hlen, hsz]; decide)] at h0
  obtain ⟨x0, c0, _, _⟩ := DataW.trod_int (show Tryd.prog.underlying 3 = some (.int .i64) by kernel_rfl) h0
  obtain ⟨f1, g1, t1, o1⟩ := hf 1 _ rfl
  have h1 := hfl 1 f1 g1
  rw [t1, o1, show Tryd.prog.cellsOf 25 = 4 by kernel_rfl, List.getElem?_eq_getElem (by rw [hlen, hsz]; decide)] at h1
  obtain ⟨s1, x1, c1, p1⟩ := open_LfC h1
  obtain ⟨f2, g2, t2, o2⟩ := hf 2 _ rfl
  have h2 := hfl 2 f2 g2
  rw [t2, o2, show Tryd.prog.cellsOf 28 = 3 by kernel_rfl, List.getElem?_eq_getElem (by rw [hlen, hsz]; decide)] at h2
  obtain ⟨s2, x2, c2, p2⟩ := open_PnC h2
  refine ⟨⟨s1, s2⟩, ⟨x0, x1, x2⟩, ?_, ⟨p1, p2⟩⟩
  refine List.ext_getElem? fun i => ?_
  match i with
  | 0 => exact (one_at c0)
  | 1 => exact (many_at c1 0 (by decide))
  | 2 => exact (many_at c1 1 (by decide))
  | 3 => exact (many_at c1 2 (by decide))
  | 4 => exact (many_at c1 3 (by decide))
  | 5 => exact (many_at c2 0 (by decide))
  | 6 => exact (many_at c2 1 (by decide))
  | 7 => exact (many_at c2 2 (by decide))
  | i + 8 =>
    rw [List.getElem?_eq_none (by omega)]
    exact (List.getElem?_eq_none (by show 8 ≤ i + 8; omega)).symm
theorem open_NdS (hval : Value.okWide Tryd.prog w r b0 30 v) (hd : DataW.Trod enc Tryd.prog w 0 (fun _ => true) held 30 v d ps) : ∃ (l : NdV) (L : Nd), v = .agg (l.cs L) ∧ IsNd w w.heap.size l L := by
  obtain ⟨fs, hu, _⟩ := lay_str layNd
  obtain ⟨cs, rfl, _, _⟩ : ∃ cs, v = .agg cs ∧ cs.size = Tryd.prog.cellsOf 30 ∧ Row.okWide Tryd.prog w r b0 30 cs := by
    simpa [Value.okWide, hu] using hval
  obtain ⟨fuel, hf⟩ := hd
  obtain ⟨l, L, e, h⟩ := open_NdC hf
  exact ⟨l, L, congrArg Value.agg (Array.toList_inj.1 e), h⟩
theorem open_LfB {fuel : Nat} {cs : List Value} {x : DataW H × List MemPlace} (h : DataW.trod enc Tryd.prog w 0 (fun _ => true) held fuel 25 cs = some x) :
    ∃ (l : LfV) (L : Lf), cs = (l.cs L).toList ∧ IsLf w w.heap.size l L ∧ ∀ N, (∀ n ∈ x.1.weights Tryd.prog 25, n ≤ N) → L.enc.length ≤ N ∧ L.cred.length ≤ N ∧ L.par.length ≤ N := by
  obtain ⟨fs, hu, hsz, hf⟩ := lay_str layLf
  obtain ⟨xs, n, _, hx, hl, hlen, hfl⟩ := DataW.trod_struct hu h
  rw [cellsLf] at hl
  obtain ⟨f0, g0, t0, o0⟩ := hf 0 _ rfl
  have h0 := hfl 0 f0 g0
  have e0 := List.getElem?_eq_getElem (l := xs) (i := 0) (by rw [hlen, hsz]; decide)
  rw [t0, o0, show Tryd.prog.cellsOf 23 = 1 by kernel_rfl, e0] at h0
  obtain ⟨s0, x0, c0, p0, b0⟩ := open_bytesB h0
  obtain ⟨f1, g1, t1, o1⟩ := hf 1 _ rfl
  have h1 := hfl 1 f1 g1
  have e1 := List.getElem?_eq_getElem (l := xs) (i := 1) (by rw [hlen, hsz]; decide)
  rw [t1, o1, show Tryd.prog.cellsOf 23 = 1 by kernel_rfl, e1] at h1
  obtain ⟨s1, x1, c1, p1, b1⟩ := open_bytesB h1
  obtain ⟨f2, g2, t2, o2⟩ := hf 2 _ rfl
  have h2 := hfl 2 f2 g2
  have e2 := List.getElem?_eq_getElem (l := xs) (i := 2) (by rw [hlen, hsz]; decide)
  rw [t2, o2, show Tryd.prog.cellsOf 3 = 1 by kernel_rfl, e2] at h2
  obtain ⟨x2, c2, _, _⟩ := DataW.trod_int (show Tryd.prog.underlying 3 = some (.int .i64) by kernel_rfl) h2
  obtain ⟨f3, g3, t3, o3⟩ := hf 3 _ rfl
  have h3 := hfl 3 f3 g3
  have e3 := List.getElem?_eq_getElem (l := xs) (i := 3) (by rw [hlen, hsz]; decide)
  rw [t3, o3, show Tryd.prog.cellsOf 23 = 1 by kernel_rfl, e3] at h3
  obtain ⟨s3, x3, c3, p3, b3⟩ := open_bytesB h3
  refine ⟨⟨s0, s1, s3⟩, ⟨x0, x1, x2, x3⟩, ?_, ⟨p0, p1, p3⟩, fun N hN => ?_⟩
  · refine List.ext_getElem? fun i => ?_
    match i with
    | 0 => exact (one_at c0)
    | 1 => exact (one_at c1)
    | 2 => exact (one_at c2)
    | 3 => exact (one_at c3)
    | i + 4 =>
      rw [List.getElem?_eq_none (by omega)]
      exact (List.getElem?_eq_none (by show 4 ≤ i + 4; omega)).symm
  · rw [hx] at hN
    have w0 := field_weights hu g0 e0 hN
    rw [t0] at w0
    have q0 := b0 N w0
    have w1 := field_weights hu g1 e1 hN
    rw [t1] at w1
    have q1 := b1 N w1
    have w3 := field_weights hu g3 e3 hN
    rw [t3] at w3
    have q3 := b3 N w3
    exact ⟨q0, q1, q3⟩
theorem open_LfSB (hval : Value.okWide Tryd.prog w r b0 25 v) (hd : DataW.Trod enc Tryd.prog w 0 (fun _ => true) held 25 v d ps) : ∃ (l : LfV) (L : Lf), v = .agg (l.cs L) ∧ IsLf w w.heap.size l L ∧ ∀ N, (∀ n ∈ d.weights Tryd.prog 25, n ≤ N) → L.enc.length ≤ N ∧ L.cred.length ≤ N ∧ L.par.length ≤ N := by
  obtain ⟨fs, hu, _⟩ := lay_str layLf
  obtain ⟨cs, rfl, _, _⟩ : ∃ cs, v = .agg cs ∧ cs.size = Tryd.prog.cellsOf 25 ∧ Row.okWide Tryd.prog w r b0 25 cs := by
    simpa [Value.okWide, hu] using hval
  obtain ⟨fuel, hf⟩ := hd
  obtain ⟨l, L, e, h, hb⟩ := open_LfB hf
  have e2 : cs = l.cs L := Array.toList_inj.1 (by simpa [Value.cells] using e)
  subst e2
  exact ⟨l, L, rfl, h, hb⟩
theorem open_PnB {fuel : Nat} {cs : List Value} {x : DataW H × List MemPlace} (h : DataW.trod enc Tryd.prog w 0 (fun _ => true) held fuel 28 cs = some x) :
    ∃ (l : PnV) (L : Pn), cs = (l.cs L).toList ∧ IsPn w w.heap.size l L ∧ ∀ N, (∀ n ∈ x.1.weights Tryd.prog 28, n ≤ N) → L.enc.length ≤ N ∧ L.hash.length ≤ N ∧ L.unm.length * 8 ≤ N := by
  obtain ⟨fs, hu, hsz, hf⟩ := lay_str layPn
  obtain ⟨xs, n, _, hx, hl, hlen, hfl⟩ := DataW.trod_struct hu h
  rw [cellsPn] at hl
  obtain ⟨f0, g0, t0, o0⟩ := hf 0 _ rfl
  have h0 := hfl 0 f0 g0
  have e0 := List.getElem?_eq_getElem (l := xs) (i := 0) (by rw [hlen, hsz]; decide)
  rw [t0, o0, show Tryd.prog.cellsOf 23 = 1 by kernel_rfl, e0] at h0
  obtain ⟨s0, x0, c0, p0, b0⟩ := open_bytesB h0
  obtain ⟨f1, g1, t1, o1⟩ := hf 1 _ rfl
  have h1 := hfl 1 f1 g1
  have e1 := List.getElem?_eq_getElem (l := xs) (i := 1) (by rw [hlen, hsz]; decide)
  rw [t1, o1, show Tryd.prog.cellsOf 23 = 1 by kernel_rfl, e1] at h1
  obtain ⟨s1, x1, c1, p1, b1⟩ := open_bytesB h1
  obtain ⟨f2, g2, t2, o2⟩ := hf 2 _ rfl
  have h2 := hfl 2 f2 g2
  have e2 := List.getElem?_eq_getElem (l := xs) (i := 2) (by rw [hlen, hsz]; decide)
  rw [t2, o2, show Tryd.prog.cellsOf 26 = 1 by kernel_rfl, e2] at h2
  obtain ⟨s2, x2, c2, p2, b2⟩ := open_numsB h2
  refine ⟨⟨s0, s1, s2⟩, ⟨x0, x1, x2⟩, ?_, ⟨p0, p1, p2⟩, fun N hN => ?_⟩
  · refine List.ext_getElem? fun i => ?_
    match i with
    | 0 => exact (one_at c0)
    | 1 => exact (one_at c1)
    | 2 => exact (one_at c2)
    | i + 3 =>
      rw [List.getElem?_eq_none (by omega)]
      exact (List.getElem?_eq_none (by show 3 ≤ i + 3; omega)).symm
  · rw [hx] at hN
    have w0 := field_weights hu g0 e0 hN
    rw [t0] at w0
    have q0 := b0 N w0
    have w1 := field_weights hu g1 e1 hN
    rw [t1] at w1
    have q1 := b1 N w1
    have w2 := field_weights hu g2 e2 hN
    rw [t2] at w2
    have q2 := b2 N w2
    exact ⟨q0, q1, q2⟩
theorem open_PnSB (hval : Value.okWide Tryd.prog w r b0 28 v) (hd : DataW.Trod enc Tryd.prog w 0 (fun _ => true) held 28 v d ps) : ∃ (l : PnV) (L : Pn), v = .agg (l.cs L) ∧ IsPn w w.heap.size l L ∧ ∀ N, (∀ n ∈ d.weights Tryd.prog 28, n ≤ N) → L.enc.length ≤ N ∧ L.hash.length ≤ N ∧ L.unm.length * 8 ≤ N := by
  obtain ⟨fs, hu, _⟩ := lay_str layPn
  obtain ⟨cs, rfl, _, _⟩ : ∃ cs, v = .agg cs ∧ cs.size = Tryd.prog.cellsOf 28 ∧ Row.okWide Tryd.prog w r b0 28 cs := by
    simpa [Value.okWide, hu] using hval
  obtain ⟨fuel, hf⟩ := hd
  obtain ⟨l, L, e, h, hb⟩ := open_PnB hf
  have e2 : cs = l.cs L := Array.toList_inj.1 (by simpa [Value.cells] using e)
  subst e2
  exact ⟨l, L, rfl, h, hb⟩
theorem open_NdB {fuel : Nat} {cs : List Value} {x : DataW H × List MemPlace} (h : DataW.trod enc Tryd.prog w 0 (fun _ => true) held fuel 30 cs = some x) :
    ∃ (l : NdV) (L : Nd), cs = (l.cs L).toList ∧ IsNd w w.heap.size l L ∧ ∀ N, (∀ n ∈ x.1.weights Tryd.prog 30, n ≤ N) → L.leaf.enc.length ≤ N ∧ L.leaf.cred.length ≤ N ∧ L.leaf.par.length ≤ N ∧ L.inner.enc.length ≤ N ∧ L.inner.hash.length ≤ N ∧ L.inner.unm.length * 8 ≤ N := by
  obtain ⟨fs, hu, hsz, hf⟩ := lay_str layNd
  obtain ⟨xs, n, _, hx, hl, hlen, hfl⟩ := DataW.trod_struct hu h
  rw [cellsNd] at hl
  obtain ⟨f0, g0, t0, o0⟩ := hf 0 _ rfl
  have h0 := hfl 0 f0 g0
  have e0 := List.getElem?_eq_getElem (l := xs) (i := 0) (by rw [hlen, hsz]; decide)
  rw [t0, o0, show Tryd.prog.cellsOf 3 = 1 by kernel_rfl, e0] at h0
  obtain ⟨x0, c0, _, _⟩ := DataW.trod_int (show Tryd.prog.underlying 3 = some (.int .i64) by kernel_rfl) h0
  obtain ⟨f1, g1, t1, o1⟩ := hf 1 _ rfl
  have h1 := hfl 1 f1 g1
  have e1 := List.getElem?_eq_getElem (l := xs) (i := 1) (by rw [hlen, hsz]; decide)
  rw [t1, o1, show Tryd.prog.cellsOf 25 = 4 by kernel_rfl, e1] at h1
  obtain ⟨s1, x1, c1, p1, b1⟩ := open_LfB h1
  obtain ⟨f2, g2, t2, o2⟩ := hf 2 _ rfl
  have h2 := hfl 2 f2 g2
  have e2 := List.getElem?_eq_getElem (l := xs) (i := 2) (by rw [hlen, hsz]; decide)
  rw [t2, o2, show Tryd.prog.cellsOf 28 = 3 by kernel_rfl, e2] at h2
  obtain ⟨s2, x2, c2, p2, b2⟩ := open_PnB h2
  refine ⟨⟨s1, s2⟩, ⟨x0, x1, x2⟩, ?_, ⟨p1, p2⟩, fun N hN => ?_⟩
  · refine List.ext_getElem? fun i => ?_
    match i with
    | 0 => exact (one_at c0)
    | 1 => exact (many_at c1 0 (by decide))
    | 2 => exact (many_at c1 1 (by decide))
    | 3 => exact (many_at c1 2 (by decide))
    | 4 => exact (many_at c1 3 (by decide))
    | 5 => exact (many_at c2 0 (by decide))
    | 6 => exact (many_at c2 1 (by decide))
    | 7 => exact (many_at c2 2 (by decide))
    | i + 8 =>
      rw [List.getElem?_eq_none (by omega)]
      exact (List.getElem?_eq_none (by show 8 ≤ i + 8; omega)).symm
  · rw [hx] at hN
    have w1 := field_weights hu g1 e1 hN
    rw [t1] at w1
    have q1 := b1 N w1
    have w2 := field_weights hu g2 e2 hN
    rw [t2] at w2
    have q2 := b2 N w2
    exact ⟨q1.1, q1.2.1, q1.2.2, q2.1, q2.2.1, q2.2.2⟩
theorem open_NdSB (hval : Value.okWide Tryd.prog w r b0 30 v) (hd : DataW.Trod enc Tryd.prog w 0 (fun _ => true) held 30 v d ps) : ∃ (l : NdV) (L : Nd), v = .agg (l.cs L) ∧ IsNd w w.heap.size l L ∧ ∀ N, (∀ n ∈ d.weights Tryd.prog 30, n ≤ N) → L.leaf.enc.length ≤ N ∧ L.leaf.cred.length ≤ N ∧ L.leaf.par.length ≤ N ∧ L.inner.enc.length ≤ N ∧ L.inner.hash.length ≤ N ∧ L.inner.unm.length * 8 ≤ N := by
  obtain ⟨fs, hu, _⟩ := lay_str layNd
  obtain ⟨cs, rfl, _, _⟩ : ∃ cs, v = .agg cs ∧ cs.size = Tryd.prog.cellsOf 30 ∧ Row.okWide Tryd.prog w r b0 30 cs := by
    simpa [Value.okWide, hu] using hval
  obtain ⟨fuel, hf⟩ := hd
  obtain ⟨l, L, e, h, hb⟩ := open_NdB hf
  have e2 : cs = l.cs L := Array.toList_inj.1 (by simpa [Value.cells] using e)
  subst e2
  exact ⟨l, L, rfl, h, hb⟩
end
end Go.Proofs.YtpoonjgkgaodmaaDoor
