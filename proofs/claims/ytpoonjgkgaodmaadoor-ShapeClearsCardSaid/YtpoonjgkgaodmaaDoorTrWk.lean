/-
  Rules for rows of nodes: pieces, single nodes, appends, stores.
-/
import Derived.Test.YtpoonjgkgaodmaaDoorTrBase
namespace Go.Proofs.YtpoonjgkgaodmaaDoor
open Go.ChangeShapes Go.WideShapes Go.ChangeAt Go.RowKit
set_option linter.unusedVariables false

theorem RwNd.nil (w : World) (B : Nat) : RwNd w B nilS [] := ⟨Nat.le_refl _, Nat.zero_le _, rfl, fun q => absurd q (by simp)⟩
theorem RwNd.cast {w : World} {B : Nat} {s : SlV} {Ls Ms : List Nd} (h : RwNd w B s Ls) (e : Ls = Ms) : RwNd w B s Ms := e ▸ h
theorem RwNd.cap {w : World} {B : Nat} {s : SlV} {Ls : List Nd} (h : RwNd w B s Ls) : s.m ≤ s.c ∧ s.c ≤ 9223372036854775807 := ⟨h.1, by have := h.2.1; unfold maxLen at this; omega⟩
def cutR (A : Option Addr) (l m : Nat) : Option Addr := if m = l then A else A.map (·.add (l * 8))
theorem RwNd.cut {w : World} {B : Nat} {s : SlV} {Ls : List Nd} (h : RwNd w B s Ls) (l k m : Nat) (h1 : l ≤ k) (h2 : k ≤ s.m) (h3 : k ≤ m) (h4 : m ≤ s.c) : RwNd w B ⟨cutR s.A l m, k - l, m - l⟩ ((Ls.take k).drop l) := by
  refine ⟨by show k - l ≤ m - l; omega, by have := h.2.1; show m - l ≤ maxLen; omega, by rw [List.length_drop, List.length_take, h.len]; show min k s.m - l = k - l; omega, fun hm => ?_⟩
  have hm : 0 < k - l := hm
  obtain ⟨b, o, e, hB, hc⟩ := h.2.2.2 (by omega)
  have hne : ¬ m = l := by omega
  refine ⟨b, o + l * 8, by show cutR s.A l m = _; rw [cutR, if_neg hne, e]; simp [Addr.add], hB, fun i L hL => ?_⟩
  rw [List.getElem?_drop, List.getElem?_take] at hL
  split at hL
  · obtain ⟨l', h5, h6⟩ := hc (l + i) L hL
    refine ⟨l', h5, fun j u hu => ?_⟩
    have := h6 j u hu
    rw [show o + l * 8 + i * 8 + j = o + (l + i) * 8 + j by omega]
    exact this
  · cases hL
theorem run_cutG {w : World} (A : Option Addr) (n c l k m : Nat) (lo hi mx : Option Value) (hb : (Instr.sliceBounds true n c lo hi mx).run Tryd.prog w = .ok (l, k, m) w) :
    (Instr.sliceAt 22 (.slice A n c) lo hi mx).run Tryd.prog w = .ok (.slice (cutR A l m) (k - l) (m - l)) w := by
  obtain ⟨i0, hi0, hz0, hz1, hz2⟩ := info_parts infoNd
  simp [Instr.sliceAt, Instr.slice, run_underlying huNd, hb, sizeOf, typeInfo, hi0, hz1, cutR]
section
variable {ops : Array Oper} {Q : Exit → Act → World → Prop} {n d : Nat} {E : Env} {o : Oper} {rest : List Oper} {w w0 : World} {v : Value} {x y z q : Operand} {t t' : TypeId} {B base : Nat} {s : SlV} {Ls Ms : List Nd}
theorem y_cutR_h (k : Nat) {hi : Int} (e : hi = k) (h : k ≤ s.c) (ho : o.op = .slice 22 x none (some z) none) (hx : val E x = some s.v) (hz : val E z = some (nv hi)) : Yields Tryd.prog E o w (⟨cutR s.A 0 s.c, k - 0, s.c - 0⟩ : SlV).v := fun n a ha => .inl (by
  subst e
  unfold execOp
  rw [ho]
  simp only [ha.eval hx, Option.map_some, Option.map_none, ha.eval hz]
  rw [Sem.run_bind, run_cutG s.A s.m s.c 0 k s.c none (some (nv k)) none (by simp [Instr.sliceBounds, run_sliceBound, show (k : Int) ≤ s.c by omega])]
  rfl)
theorem y_cutR_hm (k m : Nat) {hi mx : Int} (e : hi = k) (e' : mx = m) (h : k ≤ m) (h' : m ≤ s.c) (ho : o.op = .slice 22 x none (some z) (some q)) (hx : val E x = some s.v) (hz : val E z = some (nv hi)) (hq : val E q = some (nv mx)) : Yields Tryd.prog E o w (⟨cutR s.A 0 m, k - 0, m - 0⟩ : SlV).v := fun n a ha => .inl (by
  subst e e'
  unfold execOp
  rw [ho]
  simp only [ha.eval hx, Option.map_some, Option.map_none, ha.eval hz, ha.eval hq]
  rw [Sem.run_bind, run_cutG s.A s.m s.c 0 k m none (some (nv k)) (some (nv m)) (by simp [Instr.sliceBounds, run_sliceBound, show (k : Int) ≤ m by omega, show (m : Int) ≤ s.c by omega])]
  rfl)
theorem y_cutR_lhm (l k m : Nat) {lo hi mx : Int} (e0 : lo = l) (e : hi = k) (e' : mx = m) (h0 : l ≤ k) (h : k ≤ m) (h' : m ≤ s.c) (ho : o.op = .slice 22 x (some y) (some z) (some q)) (hx : val E x = some s.v) (hy : val E y = some (nv lo)) (hz : val E z = some (nv hi)) (hq : val E q = some (nv mx)) : Yields Tryd.prog E o w (⟨cutR s.A l m, k - l, m - l⟩ : SlV).v := fun n a ha => .inl (by
  subst e0 e e'
  unfold execOp
  rw [ho]
  simp only [ha.eval hx, Option.map_some, ha.eval hy, ha.eval hz, ha.eval hq]
  rw [Sem.run_bind, run_cutG s.A s.m s.c l k m (some (nv l)) (some (nv k)) (some (nv m)) (by simp [Instr.sliceBounds, run_sliceBound, show (l : Int) ≤ k by omega, show (k : Int) ≤ m by omega, show (m : Int) ≤ s.c by omega])]
  rfl)
theorem y_cutR_lh (l k : Nat) {lo hi : Int} (e0 : lo = l) (e : hi = k) (h0 : l ≤ k) (h : k ≤ s.c) (ho : o.op = .slice 22 x (some y) (some z) none) (hx : val E x = some s.v) (hy : val E y = some (nv lo)) (hz : val E z = some (nv hi)) : Yields Tryd.prog E o w (⟨cutR s.A l s.c, k - l, s.c - l⟩ : SlV).v := fun n a ha => .inl (by
  subst e0 e
  unfold execOp
  rw [ho]
  simp only [ha.eval hx, Option.map_some, Option.map_none, ha.eval hy, ha.eval hz]
  rw [Sem.run_bind, run_cutG s.A s.m s.c l k s.c (some (nv l)) (some (nv k)) none (by simp [Instr.sliceBounds, run_sliceBound, show (l : Int) ≤ k by omega, show (k : Int) ≤ s.c by omega])]
  rfl)
/-- []api.Node{} -/
theorem lg_bs0R (hw : Want ops E o true) (ho : o.op = .buildSlice 22 0 #[]) (hd : o.dst = some d) (hn : d < n)
    (h : ∀ u w', OwnNd w' w.heap.size w.heap.size u [] → Below w.heap.size w w' → LG Tryd.prog ops Q n ((d, u) :: E) rest w') : LG Tryd.prog ops Q n E (o :: rest) w := by
  refine lg_do hw (fun n a ha => ?_) hd hn (h (.slice (some ⟨w.heap.size, 0, none⟩) 0 0) (w.alloc (.cells #[] 30)) ⟨[], rfl, ⟨rfl, .inr ⟨_, 0, #[], rfl, Nat.le_refl _, heap_alloc_new w _, Nat.le_refl _, Nat.zero_le _, rfl, rfl⟩⟩, fun p hp => by cases hp⟩ ((Below.refl _ _).alloc (Nat.le_refl _) _))
  obtain ⟨i0, hi0, hz0, hz1, hz2⟩ := info_parts infoNd
  simp [execOp, ho, Instr.buildSlice, run_underlying huNd, sizeOf, typeInfo, hi0, Instr.fill, newRow]
  have e : Array.map (fun (_ : Nat) => (default : Value)) (Array.range 0) = #[] := Array.eq_empty_of_size_eq_zero (by simp)
  rw [e]
theorem fill_one (l : NdV) (L : Nd) : Instr.fill (fun i => some (i * 8, 8)) ((Array.range 8).map (fun k => zNd.cells[k % zNd.cells.size]!)) [(0, .agg (l.cs L))] = some (l.cs L) := by kernel_rfl
/-- []api.Node{n} -/
theorem lg_bs1R {l : NdV} {L : Nd} (hw : Want ops E o true) (ho : o.op = .buildSlice 22 1 #[(0, x)]) (hx : val E x = some (.agg (l.cs L))) (hd : o.dst = some d) (hn : d < n)
    (h : ∀ b w', New w w' b 30 (l.cs L) → LG Tryd.prog ops Q n ((d, (⟨some ⟨b, 0, none⟩, 1, 1⟩ : SlV).v) :: E) rest w') : LG Tryd.prog ops Q n E (o :: rest) w := by
  refine lg_do hw (fun n a ha => ?_) hd hn (h _ _ (New.of_alloc 30 (l.cs L)))
  obtain ⟨i0, hi0, hz0, hz1, hz2⟩ := info_parts infoNd
  have hf := fill_one l L
  simp [execOp, ho, Instr.buildSlice, ha.eval hx, run_underlying huNd, sizeOf, typeInfo, hi0, hz1, zeroValue, hz0, hf, newRow]
theorem new_src {w' : World} {b : Nat} {tr : TypeId} {l : NdV} {L : Nd} (n : New w w' b tr (l.cs L)) (hl : IsNd w B l L) (hB : B ≤ w.heap.size) : SrcNd w' B ⟨some ⟨b, 0, none⟩, 1, 1⟩ [L] := by
  refine ⟨[(l, L)], rfl, rfl, Nat.le_refl _, by show 1 ≤ maxLen; unfold maxLen; omega, fun p hp => ?_, fun _ => ⟨_, rfl⟩, fun ad e j u hu => ?_⟩
  · obtain rfl : p = (l, L) := by simpa using hp
    exact hl.below (n.below.mono hB)
  · obtain rfl : ad = ⟨b, 0, none⟩ := (Option.some.inj e).symm
    rw [Addr.add_lit, Nat.zero_add, cell_of_row w' b j _ tr _ n.row, ← Array.getElem?_toList]
    simpa [ndCells, ndc] using hu
theorem new_row {w' : World} {b : Nat} {tr : TypeId} {l : NdV} {L : Nd} (n : New w w' b tr (l.cs L)) (hl : IsNd w B l L) (hB : B ≤ w.heap.size) : RwNd w' w'.heap.size ⟨some ⟨b, 0, none⟩, 1, 1⟩ [L] := by
  refine ⟨Nat.le_refl _, by show 1 ≤ maxLen; unfold maxLen; omega, rfl, fun _ => ⟨b, 0, rfl, by have := n.size; omega, fun i L' hL => ?_⟩⟩
  have hi : i = 0 := by
    have := (List.getElem?_eq_some_iff.1 hL).1
    simpa using this
  subst hi
  obtain rfl : L = L' := by simpa using hL
  refine ⟨l, (hl.below (n.below.mono hB)).more (by have := n.size; have := n.blk; omega), fun j u hu => ?_⟩
  rw [show 0 + 0 * 8 + j = j by omega, cell_of_row w' b j _ tr _ n.row]
  exact hu
/-- append(a, b...) of nodes, a a row of one's own. -/
theorem lg_appR {u : Value} (hown : OwnNd w base B u Ls) (hS : SrcNd w B s Ms) (hBb : B ≤ base) (hb : Ls.length + Ms.length ≤ 1000000) (hbase : base ≤ w.heap.size) (hw : Want ops E o true)
    (ho : o.op = .call { callee := .builtin .append, args := #[x, y], argTypes := #[22, 22] }) (hty : o.type = 22) (hx : val E x = some u) (hy : val E y = some s.v) (hd : o.dst = some d) (hn : d < n)
    (h : ∀ (r : SlV) w', OwnNd w' base B r.v (Ls ++ Ms) → RwNd w' w'.heap.size r (Ls ++ Ms) → Below base w w' → w.heap.size ≤ w'.heap.size → LG Tryd.prog ops Q n ((d, r.v) :: E) rest w') : LG Tryd.prog ops Q n E (o :: rest) w := by
  obtain ⟨v', w', hrun, h1, hg, _⟩ := append_nds w base B u Ls Ms s hown hS hBb hb hbase
  obtain ⟨r, rfl, hr⟩ := h1.row (Nat.le_trans (Nat.le_trans hBb hbase) hg.size)
  refine lg_do hw (fun n a ha => ?_) hd hn (h r w' h1 hr hg hg.size)
  simp [execOp, ho, hty, resolve, invoke, builtin, ha.eval hx, ha.eval hy, hrun, Result.andThen]
/-- append(a, make([]Node, k)...), a full. -/
theorem lg_appZ {k : Nat} {kI : Int} (hR : RwNd w B s Ls) (hB : B ≤ w.heap.size) (hfull : s.c = s.m) (e : kI = k) (h0 : 0 < k) (hb : Ls.length + k ≤ 1000000) (hw : Want ops E o true)
    (ho : o.op = .call { callee := .builtin .append, args := #[x, y], argTypes := #[22, 3] }) (hty : o.type = 22) (hx : val E x = some s.v) (hy : val E y = some (nv kI)) (hd : o.dst = some d) (hn : d < n)
    (h : ∀ (r : SlV) w', RwNd w' w'.heap.size r (Ls ++ List.replicate k Nd.zero) → Below w.heap.size w w' → LG Tryd.prog ops Q n ((d, r.v) :: E) rest w') : LG Tryd.prog ops Q n E (o :: rest) w := by
  subst e
  obtain ⟨v', w', hrun, h1, hg⟩ := append_ndz w B s Ls k hR.src hB hfull h0 hb (fun q => by
    by_cases hm : 0 < s.m
    · obtain ⟨b, o, e, _⟩ := hR.2.2.2 hm
      rw [e] at q
      cases q
    · omega)
  obtain ⟨r, rfl, hr⟩ := h1.row (Nat.le_trans hB hg.size)
  refine lg_do hw (fun n a ha => ?_) hd hn (h r w' hr hg)
  simp [execOp, ho, hty, resolve, invoke, builtin, ha.eval hx, ha.eval hy, hrun, Result.andThen]
/-- A node is written into a row of one's own. -/
theorem lg_stR {i g : Nat} {l : NdV} {L : Nd} (hown : OwnNd w base B s.v Ls) (hl : IsNd w B l L) (hBb : B ≤ base) (hi : i < Ls.length) (hA : s.A = some ⟨g, 0, none⟩) (hw : Want ops E o true)
    (ho : o.op = .store 30 x y) (hx : val E x = some (pv g (0 + i * 8))) (hy : val E y = some (.agg (l.cs L))) (hd : o.dst = none)
    (h : ∀ w' old new, RowAt w g 30 old → Set1 w w' g 30 new → OwnNd w' base B s.v (Ls.set i L) → Below base w w' → w'.heap.size = w.heap.size → LG Tryd.prog ops Q n E rest w') : LG Tryd.prog ops Q n E (o :: rest) w := by
  obtain ⟨ps, rfl, ho2, hp⟩ := hown
  rw [List.length_map] at hi
  rcases ho2.2 with ⟨e, h0⟩ | ⟨g', cap, cur, e, hg, hh, h1, h2, h3, h4⟩
  · omega
  · have e2 : s = ⟨some ⟨g', 0, none⟩, ps.length, cap⟩ := SlV.v_inj e
    subst e2
    obtain rfl : g' = g := by simpa using hA
    have hT : cur.toList = ndCells ps ++ cur.toList.drop (ps.length * 8) := by
      conv => lhs; rw [← List.take_append_drop (ps.length * 8) cur.toList, h4]
    generalize hR : cur.toList.drop (ps.length * 8) = R at hT
    have hlen := ndCells_len ps
    have hnew : cur.toList.take (0 + i * 8) ++ (l.cs L).toList ++ cur.toList.drop (0 + i * 8 + 8) = ndCells (ps.set i (l, L)) ++ R := by
      rw [← ndCells_set ps i (l, L) hi, hT, Nat.zero_add, List.take_append_of_le_length (by omega), List.drop_append_of_le_length (by omega)]
      simp only [List.append_assoc, ndc]
    refine lg_st (j := 0 + i * 8) hw (show RowAt w g' 30 cur from hh) ho hx hy (by kernel_rfl) (by kernel_rfl) (by rw [h3]; show 0 + i * 8 + 8 ≤ _; omega) rfl hd fun w' st => ?_
    refine h w' cur _ hh st ⟨ps.set i (l, L), by rw [List.map_set], ⟨by rw [ndCells_len], .inr ⟨g', cap, _, by rw [List.length_set], hg, st.row, by rw [List.length_set]; exact h1, h2, ?_, ?_⟩⟩, fun p hpq => ?_⟩ (st.below _ hg) st.size
    · have e3 : (ndCells (ps.set i (l, L)) ++ R).length = cap * 8 := by
        have hc : cur.toList.length = cap * 8 := by
          rw [Array.length_toList]
          exact h3
        rw [List.length_append, ndCells_len, List.length_set, ← hR, List.length_drop, hc]
        omega
      show (List.toArray (cur.toList.take (0 + i * 8) ++ (l.cs L).toList ++ cur.toList.drop (0 + i * 8 + 8))).size = _
      rw [List.size_toArray, hnew, e3]
    · show (cur.toList.take (0 + i * 8) ++ (l.cs L).toList ++ cur.toList.drop (0 + i * 8 + 8)).take _ = _
      rw [hnew]
      exact List.take_left' (by rw [ndCells_len])
    · rcases List.mem_or_eq_of_mem_set hpq with h | h
      · exact (hp p h).below (st.below _ (by omega))
      · rw [h]
        exact hl.below (st.below _ (by omega))
theorem y_nilR {b : Addr} (hA : s.A = some b) (ho : o.op = .binOp .eql 22 x y t') (hx : val E x = some s.v) (hy : val E y = some (.slice none 0 0)) : Yields Tryd.prog E o w (.bool false) :=
  y_bin (fun x y w => by
    obtain ⟨A, m, c⟩ := s
    simp only at hA
    subst hA
    rfl) ho hx hy
theorem y_max {P : Program} {r s : Int} {ts : Array TypeId} (ho : o.op = .call { callee := .builtin .max, args := #[x, y], argTypes := ts }) (hx : val E x = some (nv r)) (hy : val E y = some (nv s)) : Yields P E o w (nv (max r s)) := fun n a ha => .inl (by
  unfold execOp
  rw [ho]
  simp only [resolve, invoke, builtin, List.map_toArray, List.map_cons, List.map_nil, ha.eval hx, ha.eval hy, Sem.run_bind, Sem.run_pure, Result.andThen_ok]
  have e : (Builtin.max_ ts o.type #[nv r, nv s]).run P w = .ok (nv (max r s)) w := by
    simp only [Builtin.max_, Builtin.max2, List.foldlM]
    by_cases h : s ≤ r
    · by_cases h2 : r < s
      · omega
      · simp [h2, Int.max_eq_left h]
    · simp [show r < s by omega, Int.max_eq_right (show r ≤ s by omega)]
  simp [e])
end
end Go.Proofs.YtpoonjgkgaodmaaDoor
