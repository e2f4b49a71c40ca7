/-
  Rows of nodes: as cells, of one's own, cut, joined, written.
-/
import Derived.Test.YtpoonjgkgaodmaaDoorNdRow
import Derived.Lib.Hide
import Derived.Lib.AppendZeros
import Derived.ArgAppend
namespace Go.Proofs.YtpoonjgkgaodmaaDoor
open Go.ChangeShapes Go.WideShapes Go.ChangeAt Go.RowKit
set_option linter.unusedVariables false

abbrev NdP := NdV × Nd
def ndc (p : NdP) : List Value := (p.1.cs p.2).toList
/-- The cells of nodes, one behind the other. -/
def ndCells : List NdP → List Value
  | [] => []
  | p :: ps => ndc p ++ ndCells ps
theorem ndc_len (p : NdP) : (ndc p).length = 8 := rfl
theorem ndCells_len : ∀ ps : List NdP, (ndCells ps).length = ps.length * 8
  | [] => rfl
  | p :: ps => by rw [ndCells, List.length_append, ndc_len, ndCells_len ps, List.length_cons]; omega
theorem ndCells_app : ∀ ps qs : List NdP, ndCells (ps ++ qs) = ndCells ps ++ ndCells qs
  | [], _ => rfl
  | p :: ps, qs => by rw [List.cons_append, ndCells, ndCells, ndCells_app ps qs, List.append_assoc]
theorem ndCells_at : ∀ (ps : List NdP) (i j : Nat) (p : NdP), ps[i]? = some p → j < 8 → (ndCells ps)[i * 8 + j]? = (ndc p)[j]?
  | [], _, _, _, h, _ => by simp at h
  | q :: ps, 0, j, p, h, hj => by
    obtain rfl : q = p := by simpa using h
    rw [ndCells, Nat.zero_mul, Nat.zero_add, List.getElem?_append_left (by rw [ndc_len]; exact hj)]
  | q :: ps, i + 1, j, p, h, hj => by
    rw [ndCells, List.getElem?_append_right (by rw [ndc_len]; omega), ndc_len, show (i + 1) * 8 + j - 8 = i * 8 + j by omega]
    exact ndCells_at ps i j p (by simpa using h) hj
theorem ndCells_take (ps : List NdP) (i : Nat) (hi : i ≤ ps.length) : (ndCells ps).take (i * 8) = ndCells (ps.take i) := by
  have h : ndCells ps = ndCells (ps.take i) ++ ndCells (ps.drop i) := by rw [← ndCells_app, List.take_append_drop]
  rw [h]
  exact List.take_left' (by rw [ndCells_len, List.length_take]; omega)
theorem ndCells_drop (ps : List NdP) (i : Nat) (hi : i ≤ ps.length) : (ndCells ps).drop (i * 8) = ndCells (ps.drop i) := by
  have h : ndCells ps = ndCells (ps.take i) ++ ndCells (ps.drop i) := by rw [← ndCells_app, List.take_append_drop]
  rw [h]
  exact List.drop_left' (by rw [ndCells_len, List.length_take]; omega)
theorem ndCells_set (ps : List NdP) (i : Nat) (p : NdP) (hi : i < ps.length) : (ndCells ps).take (i * 8) ++ ndc p ++ (ndCells ps).drop (i * 8 + 8) = ndCells (ps.set i p) := by
  rw [ndCells_take ps i (by omega), show i * 8 + 8 = (i + 1) * 8 by omega, ndCells_drop ps (i + 1) (by omega), List.set_eq_take_append_cons_drop, if_pos hi, ndCells_app, ndCells, List.append_assoc]
theorem ndCells_one : ∀ (ps : List NdP) (u : Value), u ∈ ndCells ps → u.oneCell' = true
  | [], u, h => by cases h
  | p :: ps, u, h => (List.mem_append.1 h).elim (fun h => List.all_eq_true.1 (show (ndc p).all (·.oneCell') = true from rfl) u h) (ndCells_one ps u)
/-- Nodes that are to be copied: what they say lies below block B. -/
def SrcNd (w : World) (B : Nat) (s : SlV) (Ls : List Nd) : Prop := ∃ ps : List NdP, ps.map (·.2) = Ls ∧ ps.length = s.m ∧ s.m ≤ s.c ∧ s.c ≤ maxLen ∧ (∀ p ∈ ps, IsNd w B p.1 p.2) ∧ (0 < s.m → ∃ ad, s.A = some ad) ∧
  ∀ ad, s.A = some ad → ∀ j u, (ndCells ps)[j]? = some u → w.cell? (ad.add j) = some u
/-- A row of nodes of one's own, from block base on; what they say lies below block B. -/
def OwnNd (w : World) (base B : Nat) (v : Value) (Ls : List Nd) : Prop := ∃ ps : List NdP, ps.map (·.2) = Ls ∧ w.ownsRow base 30 8 v ps.length (ndCells ps) ∧ ∀ p ∈ ps, IsNd w B p.1 p.2
abbrev zNd : Value := .agg (NdV.zero.cs Nd.zero)
theorem infoNd : (Tryd.prog.info? 30).map (fun i => (i.zero, i.size, i.bytes)) = some (some zNd, 8, 160) := by kernel_rfl
theorem huNd : Tryd.prog.underlying 22 = some (.slice 30) := by kernel_rfl
section
variable {w w' : World} {B B' base : Nat} {s : SlV} {v : Value} {Ls Ms : List Nd}
theorem RwNd.src (h : RwNd w B s Ls) : SrcNd w B s Ls := by
  by_cases hm : 0 < s.m
  · obtain ⟨b, o, e, hB, hc⟩ := h.2.2.2 hm
    have key : ∀ i : Nat, ∃ l : NdV, ∀ L, Ls[i]? = some L → IsNd w B l L ∧ ∀ j u, (l.cs L)[j]? = some u → w.cell? ⟨b, o + i * 8 + j, none⟩ = some u := by
      intro i
      cases hL : Ls[i]? with
      | none => exact ⟨NdV.zero, fun L q => by cases q⟩
      | some L =>
        obtain ⟨l, hl⟩ := hc i L hL
        exact ⟨l, fun M q => by cases q; exact hl⟩
    obtain ⟨f, hf⟩ := Classical.skolem.1 key
    refine ⟨Ls.mapIdx fun i L => (f i, L), ?_, by rw [List.length_mapIdx]; exact h.2.2.1, h.1, h.2.1, ?_, fun _ => ⟨_, e⟩, ?_⟩
    · refine List.ext_getElem? fun i => ?_
      rw [List.getElem?_map, List.getElem?_mapIdx]
      cases Ls[i]? <;> rfl
    · intro p hp
      obtain ⟨i, hi⟩ := List.mem_iff_getElem?.1 hp
      rw [List.getElem?_mapIdx, Option.map_eq_some_iff] at hi
      obtain ⟨L, hL, rfl⟩ := hi
      exact (hf i L hL).1
    · intro ad had j u hu
      obtain rfl : ad = ⟨b, o, none⟩ := Option.some.inj (had.symm.trans e)
      have hj := (List.getElem?_eq_some_iff.1 hu).1
      rw [ndCells_len, List.length_mapIdx] at hj
      have hi : j / 8 < Ls.length := by omega
      have hp : (Ls.mapIdx fun i L => (f i, L))[j / 8]? = some (f (j / 8), Ls[j / 8]) := by
        rw [List.getElem?_mapIdx, List.getElem?_eq_getElem hi]
        rfl
      have h1 := ndCells_at _ (j / 8) (j % 8) _ hp (Nat.mod_lt _ (by omega))
      rw [show j / 8 * 8 + j % 8 = j by omega, hu] at h1
      have h2 := (hf (j / 8) _ (List.getElem?_eq_getElem hi)).2 (j % 8) u (by rw [← Array.getElem?_toList]; exact h1.symm)
      rw [show o + j / 8 * 8 + j % 8 = o + j by omega] at h2
      rw [Addr.add_lit]
      exact h2
  · have e : Ls = [] := List.eq_nil_of_length_eq_zero (by rw [h.2.2.1]; omega)
    subst e
    exact ⟨[], rfl, (by show 0 = s.m; omega), h.1, h.2.1, (fun p hp => by cases hp), (fun q => absurd q hm), (fun ad _ j u hu => by simp [ndCells] at hu)⟩
theorem SrcNd.len (h : SrcNd w B s Ls) : Ls.length = s.m := by
  obtain ⟨ps, rfl, hl, _⟩ := h
  rw [List.length_map, hl]
theorem SrcNd.more (h : SrcNd w B s Ls) (g : B ≤ B') : SrcNd w B' s Ls := by
  obtain ⟨ps, e, hl, h1, h2, hp, h3, h4⟩ := h
  exact ⟨ps, e, hl, h1, h2, fun p q => (hp p q).more g, h3, h4⟩
theorem OwnNd.nil (w : World) (base B : Nat) : OwnNd w base B nilS.v [] := ⟨[], rfl, ⟨rfl, .inl ⟨rfl, rfl⟩⟩, fun p hp => by cases hp⟩
theorem OwnNd.keep (h : OwnNd w base B v Ls) (g : Below w.heap.size w w') (hB : B ≤ w.heap.size) : OwnNd w' base B v Ls := by
  obtain ⟨ps, e, ho, hp⟩ := h
  exact ⟨ps, e, own_below ho g, fun p q => (hp p q).below (g.mono hB)⟩
theorem OwnNd.more (h : OwnNd w base B v Ls) (g : B ≤ B') : OwnNd w base B' v Ls := by
  obtain ⟨ps, e, ho, hp⟩ := h
  exact ⟨ps, e, ho, fun p q => (hp p q).more g⟩
theorem OwnNd.row (h : OwnNd w base B v Ls) (hB : B ≤ w.heap.size) : ∃ s : SlV, v = s.v ∧ RwNd w w.heap.size s Ls := by
  obtain ⟨ps, rfl, ho, hp⟩ := h
  rcases ho.2 with ⟨rfl, h0⟩ | ⟨g, cap, cur, rfl, hg, hh, h1, h2, h3, h4⟩
  · exact ⟨nilS, rfl, Nat.le_refl _, Nat.zero_le _, by simpa using h0, fun q => absurd q (by simp)⟩
  · refine ⟨⟨some ⟨g, 0, none⟩, ps.length, cap⟩, rfl, h1, h2, by simp, fun hm => ⟨g, 0, rfl, (ho.lt g rfl).2, fun i L hL => ?_⟩⟩
    rw [List.getElem?_map, Option.map_eq_some_iff] at hL
    obtain ⟨p, hp', rfl⟩ := hL
    refine ⟨p.1, (hp p (List.mem_of_getElem? hp')).more hB, fun j u hu => ?_⟩
    have hj : j < 8 := (Array.getElem?_eq_some_iff.1 hu).1
    have := ho.cells (g := g) rfl (i * 8 + j) u (by
      rw [ndCells_at ps i j p hp' hj]
      rw [← Array.getElem?_toList] at hu
      exact hu)
    rw [Addr.add_lit, ← Nat.add_assoc] at this
    exact this
theorem SlV.v_inj {s r : SlV} (e : s.v = r.v) : s = r := by
  obtain ⟨A, m, c⟩ := s
  obtain ⟨A', m', c'⟩ := r
  simp only [SlV.v, Value.slice.injEq] at e
  obtain ⟨rfl, rfl, rfl⟩ := e
  rfl
theorem OwnNd.rowS (h : OwnNd w base B s.v Ls) (hB : B ≤ w.heap.size) : RwNd w w.heap.size s Ls := by
  obtain ⟨r, e, hr⟩ := h.row hB
  rw [SlV.v_inj e]
  exact hr
theorem OwnNd.addr (h : OwnNd w base B s.v Ls) {i : Nat} (hi : i < Ls.length) : ∃ g, s.A = some ⟨g, 0, none⟩ ∧ base ≤ g ∧ g < w.heap.size := by
  obtain ⟨ps, rfl, ho, hp⟩ := h
  rcases ho.2 with ⟨e, h0⟩ | ⟨g, cap, cur, e, hg, hh, h1, h2, h3, h4⟩
  · rw [List.length_map] at hi
    omega
  · have e2 : s = ⟨some ⟨g, 0, none⟩, ps.length, cap⟩ := SlV.v_inj e
    subst e2
    exact ⟨g, rfl, hg, (ho.lt g rfl).2⟩
/-- What an append of nodes to an own row gives. -/
theorem append_nds (w : World) (base B : Nat) (v : Value) (Ls Ms : List Nd) (s : SlV) (hown : OwnNd w base B v Ls) (hS : SrcNd w B s Ms) (hBb : B ≤ base) (hb : Ls.length + Ms.length ≤ 1000000) (hbase : base ≤ w.heap.size) :
    ∃ v' w', (Builtin.append_ #[22, 22] 22 #[v, s.v]).run Tryd.prog w = .ok v' w' ∧ OwnNd w' base B v' (Ls ++ Ms) ∧ Below base w w' ∧ w.grownBy w' v.ownBlock := by
  obtain ⟨i0, hi0, hz0, hz1, hz2⟩ := info_parts infoNd
  obtain ⟨ps, rfl, ho, hp⟩ := hown
  obtain ⟨qs, rfl, hl, hmc, hcm, hq, hA, hc⟩ := hS
  rw [List.length_map, List.length_map] at hb
  by_cases h0 : s.m = 0 ∧ s.A = none
  · have hy : qs = [] := List.eq_nil_of_length_eq_zero (by omega)
    subst hy
    refine ⟨v, w, ?_, ⟨ps, by simp, ho, hp⟩, Below.refl _ _, World.grownBy.refl w _⟩
    obtain ⟨A, m, c⟩ := s
    obtain ⟨rfl, rfl⟩ := h0
    rcases ho.2 with ⟨rfl, _⟩ | ⟨g, cap, cur, rfl, _, _, hnc, _⟩
    · simp [Builtin.append_, run_underlying huNd, sizeOf, typeInfo, hi0, Builtin.lenOf, Builtin.firstCells]
    · simp [Builtin.append_, run_underlying huNd, sizeOf, typeInfo, hi0, Builtin.lenOf, Builtin.firstCells, hnc, storeCells]
  · have hA2 : ∃ ad, s.A = some ad := by
      by_cases hm0 : s.m = 0
      · cases hq : s.A with
        | none => exact absurd ⟨hm0, hq⟩ h0
        | some ad => exact ⟨ad, rfl⟩
      · exact hA (by omega)
    obtain ⟨ad, hA2⟩ := hA2
    have hcc := hc ad hA2
    obtain ⟨A, m, c⟩ := s
    simp only at hA2 hl hcc
    subst hA2
    obtain ⟨v', w', hrun, h1, h2, _, h3⟩ := run_append_own_at (P := Tryd.prog) w base 22 22 30 i0 _ 8 160 huNd hi0 hz0 hz1 hz2 rfl (by omega) v _ _ ho ad m c (ndCells qs) (by rw [ndCells_len, hl]) hcc (ndCells_one qs) (by unfold maxLen; omega) (by omega) hbase
    have hbel : Below base w w' := (Below.refl _ _).grown h2 hbase (fun k hk => (ho.lt k hk).1)
    refine ⟨v', w', hrun, ⟨ps ++ qs, by simp, ?_, fun p hpq => ?_⟩, hbel, h2⟩
    · rw [ndCells_app, List.length_append, hl]
      exact h1
    · rcases List.mem_append.1 hpq with h | h
      · exact (hp p h).below (hbel.mono hBb)
      · exact (hq p h).below (hbel.mono hBb)
/-- append(t, make([]Node, n)...), t full: another row, blank nodes behind. -/
theorem append_ndz (w : World) (B : Nat) (s : SlV) (Ls : List Nd) (n : Nat) (hS : SrcNd w B s Ls) (hB : B ≤ w.heap.size) (hfull : s.c = s.m) (h0 : 0 < n) (hb : Ls.length + n ≤ 1000000) (hnil : s.A = none → s.m = 0) :
    ∃ v' w', (Builtin.append_ #[22, 3] 22 #[s.v, nv (n : Int)]).run Tryd.prog w = .ok v' w' ∧ OwnNd w' w.heap.size B v' (Ls ++ List.replicate n Nd.zero) ∧ Below w.heap.size w w' := by
  obtain ⟨i0, hi0, hz0, hz1, hz2⟩ := info_parts infoNd
  obtain ⟨qs, rfl, hl, hmc, hcm, hq, hA, hc⟩ := hS
  rw [List.length_map] at hb
  obtain ⟨A, m, c⟩ := s
  simp only at hl hmc hcm hfull hnil hA hc
  subst hfull
  subst hl
  have hw : IntKind.i64.wrap (n : Int) = n := by rw [IntKind.wrap_i64]; omega
  have hneg : ¬ ((n : Int) < 0) := by omega
  have h48i : ¬ (281474976710656 < (n : Int) * (i0.bytes : Int)) := by rw [hz2]; omega
  have hns : ¬ (n * i0.size = 0) := by rw [hz1]; omega
  have hn : ¬ (qs.length + n ≤ qs.length) := by omega
  have h63' : ¬ (9223372036854775807 < ((qs.length : Int) + (n : Int))) := by omega
  have h48' : ¬ (281474976710656 < Builtin.nextslicecap (qs.length + n) qs.length * i0.bytes) := by
    have := nextslicecap_le (need := qs.length + n) (old := qs.length) (by omega)
    rw [hz2]
    omega
  have hold : (Builtin.firstCells i0.size qs.length (.slice A qs.length qs.length)).run Tryd.prog w.drew = .ok (ndCells qs).toArray w.drew := by
    cases A with
    | none =>
      have e : qs = [] := List.eq_nil_of_length_eq_zero (hnil rfl)
      subst e
      exact run_firstCells_none _ _ _ _ _
    | some b =>
      exact run_firstCells_some (P := Tryd.prog) w.drew i0.size qs.length b qs.length qs.length (ndCells qs) (by rw [ndCells_len, hz1]) (by simpa using hc b rfl)
  have hge := grownCap_ge w (qs.length + n) qs.length 30
  have hcm2 : grownCap w (qs.length + n) qs.length 30 ≤ maxLen := grownCap_le_maxLen w (qs.length + n) qs.length 30 (by unfold maxLen; omega)
  have hr : (Builtin.append_ #[22, 3] 22 #[.slice A qs.length qs.length, nv (n : Int)]).run Tryd.prog w =
      .ok (.slice (some ⟨w.heap.size, 0, none⟩) (qs.length + n) (grownCap w (qs.length + n) qs.length 30))
        (w.drew.alloc (.cells ((ndCells qs).toArray ++ Builtin.zeroCells zNd.cells n ++ Builtin.zeroCells zNd.cells (grownCap w (qs.length + n) qs.length 30 - (qs.length + n))) 30)) := by
    simp [Builtin.append_, run_underlying huNd, run_underlying (show Tryd.prog.underlying 3 = some (.int .i64) by kernel_rfl), sizeOf, typeInfo, zeroValue, hi0, hz0, asInt, asIntOf, hw, hn, hneg, hns, h63', h48', h48i, Question.forced, hold, newRow, grownCap]
  generalize grownCap w (qs.length + n) qs.length 30 = G at *
  have hzs : ∀ k : Nat, (Builtin.zeroCells zNd.cells k).toList = ndCells (List.replicate k (NdV.zero, Nd.zero)) := by
    intro k
    refine List.ext_getElem (by rw [Array.length_toList, size_zeroCells, ndCells_len, List.length_replicate]; rfl) fun j h1 h2 => ?_
    have hk : j / 8 < k := by
      rw [ndCells_len, List.length_replicate] at h2
      omega
    have h3 := ndCells_at (List.replicate k (NdV.zero, Nd.zero)) (j / 8) (j % 8) (NdV.zero, Nd.zero) (by rw [List.getElem?_replicate, if_pos hk]) (Nat.mod_lt _ (by omega))
    rw [show j / 8 * 8 + j % 8 = j by omega, List.getElem?_eq_getElem h2] at h3
    have h4 : j % 8 < (ndc (NdV.zero, Nd.zero)).length := Nat.mod_lt _ (by omega)
    rw [List.getElem?_eq_getElem h4] at h3
    rw [Option.some.inj h3]
    simp only [Builtin.zeroCells, Array.getElem_toList, Array.getElem_map, Array.getElem_range]
    show (zNd.cells)[j % 8]! = _
    have h5 : j % 8 < 8 := Nat.mod_lt _ (by omega)
    generalize j % 8 = r at *
    match r, h5 with
    | 0, _ => rfl
    | 1, _ => rfl
    | 2, _ => rfl
    | 3, _ => rfl
    | 4, _ => rfl
    | 5, _ => rfl
    | 6, _ => rfl
    | 7, _ => rfl
  refine ⟨_, _, hr, ⟨qs ++ List.replicate n (NdV.zero, Nd.zero), by simp, ⟨by rw [ndCells_len], .inr ⟨w.heap.size, G, _, by rw [List.length_append, List.length_replicate], Nat.le_refl _, heap_alloc_new w.drew _, by rw [List.length_append, List.length_replicate]; exact hge, hcm2, ?_, ?_⟩⟩, fun p hp => ?_⟩, ((Below.refl _ _).drew).alloc (Nat.le_refl _) _⟩
  · simp only [Array.size_append, List.size_toArray, size_zeroCells, ndCells_len]
    show qs.length * 8 + n * 8 + (G - (qs.length + n)) * 8 = G * 8
    omega
  · simp only [Array.toList_append, hzs, ← ndCells_app]
    refine (ndCells_take _ _ (by simp)).trans (congrArg ndCells ?_)
    exact List.take_left
  · have hbel : Below w.heap.size w (w.drew.alloc (.cells ((ndCells qs).toArray ++ Builtin.zeroCells zNd.cells n ++ Builtin.zeroCells zNd.cells (G - (qs.length + n))) 30)) := ((Below.refl _ _).drew).alloc (Nat.le_refl _) _
    rcases List.mem_append.1 hp with h | h
    · exact (hq p h).below (hbel.mono hB)
    · rw [List.eq_of_mem_replicate h]
      exact IsNd.zero _ _
end
end Go.Proofs.YtpoonjgkgaodmaaDoor
