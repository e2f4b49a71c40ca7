/-
  Maps of octets by whole numbers, rows of slices of octets, rows of nodes that are written: what they are, and rules.
-/
import Derived.Test.YtkcpmpbjjnknhaaGreatDoorKitT
import Derived.Test.YtkcpmpbjjnknhaaGreatDoorRsWk
import Derived.Test.YtkcpmpbjjnknhaaGreatDoorCoFr
import Derived.Test.YtkcpmpbjjnknhaaGreatDoorHsMath
import Derived.Maps.Keyed
namespace Go.Proofs.YtkcpmpbjjnknhaaGreatDoor
open Go.ChangeShapes Go.WideShapes Go.ChangeAt Go.RowKit
set_option linter.unusedVariables false

/-- All lies as it lay, but block c. -/
abbrev Alt (w w' : World) (c : Nat) : Prop := Kept (fun k => k ≠ c) w w'
/-- Octets in a row of octets. -/
def Hs (w : World) (s : SlV) (xs : List Int) : Prop := Sl w w.heap.size s xs ∧ U8 w s.A
section
variable {w w' : World} {s : SlV} {xs : List Int} {m : Nat → Prop} {b c : Nat} {t : List Nd}
theorem Hs.kept (h : Hs w s xs) (g : Kept m w w') (hm : ∀ k cs, w.heap[k]? = some (.cells cs 5 (0, 0)) → m k) : Hs w' s xs := by
  obtain ⟨⟨h1, h2, h3, h4, h5⟩, hu⟩ := h
  refine ⟨⟨h1, h2, h3, h4, fun h0 => ?_⟩, fun p e => ?_⟩
  · obtain ⟨k, off, e, hk, hc⟩ := h5 h0
    obtain ⟨cs, hcs⟩ := hu _ e
    exact ⟨k, off, e, Nat.lt_of_lt_of_le hk g.size, fun i z hi => (World.cell?_of_block (w := w) (a := ⟨k, off + i, none⟩) (g.block k hk (hm k cs hcs))).trans (hc i z hi)⟩
  · obtain ⟨cs, hcs⟩ := hu _ e
    exact ⟨cs, (g.block p.block (Array.getElem?_eq_some_iff.1 hcs).1 (hm _ cs hcs)).trans hcs⟩
theorem Hs.below (h : Hs w s xs) (g : Below w.heap.size w w') : Hs w' s xs := h.kept (m := fun _ => True) (Below.kept g) fun _ _ _ => trivial
theorem Hs.len (h : Hs w s xs) : xs.length = s.m := h.1.len
theorem Hs.of {v : Value} (h : SlT w xs v w') : ∃ r : SlV, v = r.v ∧ Hs w' r xs ∧ Below w.heap.size w w' := by
  obtain ⟨A, m, c, rfl, h1, ⟨h2, h3⟩, h4, h5⟩ := h
  exact ⟨⟨A, m, c⟩, rfl, ⟨⟨h1, h2, h4⟩, h3⟩, h5⟩
/-- Block b is a map in which nodes have their hashes. -/
def OMap (w : World) (b : Nat) (t : List Nd) : Prop := ∃ es clock, w.heap[b]? = some (.map es clock) ∧ ∀ e ∈ es.toList, ∃ (k : Int) (s : SlV), e.key = nv k ∧ e.val = s.v ∧ isN k (t.length : Int) ∧ Hs w s (hsL t k)
theorem OMap.lt (h : OMap w b t) : b < w.heap.size := by
  obtain ⟨es, clock, hb, _⟩ := h
  exact (Array.getElem?_eq_some_iff.1 hb).1
theorem OMap.nou8 (h : OMap w b t) : ∀ k cs, w.heap[k]? = some (.cells cs 5 (0, 0)) → k ≠ b := by
  obtain ⟨es, clock, hb, _⟩ := h
  rintro k cs e rfl
  rw [hb] at e
  cases e
theorem OMap.norow (h : OMap w b t) {k : Nat} {ty : TypeId} {cs : Array Value} (r : RowAt w k ty cs) : k ≠ b := by
  obtain ⟨es, clock, hb, _⟩ := h
  rintro rfl
  unfold RowAt at r
  rw [hb] at r
  cases r
theorem OMap.kept (h : OMap w b t) (g : Kept m w w') (hm : ∀ k cs, w.heap[k]? = some (.cells cs 5 (0, 0)) → m k) (hb' : m b) : OMap w' b t := by
  have hlt := h.lt
  obtain ⟨es, clock, hb, he⟩ := h
  refine ⟨es, clock, (g.block b hlt hb').trans hb, fun e q => ?_⟩
  obtain ⟨k, s, h1, h2, h3, h4⟩ := he e q
  exact ⟨k, s, h1, h2, h3, h4.kept g hm⟩
theorem OMap.below (h : OMap w b t) (g : Below w.heap.size w w') : OMap w' b t := h.kept (m := fun _ => True) (Below.kept g) (fun _ _ _ => trivial) trivial
/-- What does not touch the octets of rows of octets. -/
theorem Hs.alt (h : Hs w s xs) (mp : OMap w b t) (g : Alt w w' b) : Hs w' s xs := h.kept g mp.nou8
theorem keyI : Maps.Keyed Tryz.prog 3 := Maps.int_keyed huInt
theorem keyI_of {k n : Int} (h : isN k n) : keyOf Tryz.prog 3 (nv k) = some (.int .i64 k) := Maps.keyOf_int_mk huInt (by
  have := h.le
  simp [Lit.wf, IntKind.min, IntKind.max, IntKind.signed, IntKind.bits]
  omega)
theorem huSums : Tryz.prog.underlying 60 = some (.map 3 26) := by kernel_rfl
theorem infoOc : (Tryz.prog.info? 26).map (fun i => (i.zero, i.size, i.bytes)) = some (some nilS.v, 1, 24) := by kernel_rfl
/-- A map is asked. -/
theorem OMap.look (h : OMap w b t) {x : Int} (hx : isN x (t.length : Int)) : (Instr.lookup 60 (.map (some b)) (nv x) true).run Tryz.prog w = .ok (.tuple #[nilS.v, .bool false]) w ∨
    ∃ s : SlV, Hs w s (hsL t x) ∧ (Instr.lookup 60 (.map (some b)) (nv x) true).run Tryz.prog w = .ok (.tuple #[s.v, .bool true]) w := by
  obtain ⟨es, clock, hb, he⟩ := h
  have hk := keyI_of hx
  rcases keyI.find w hk es.toList (fun e q => by
    obtain ⟨k, s, h1, _, h3, _⟩ := he e q
    exact ⟨_, by rw [h1]; exact keyI_of h3⟩) with ⟨h1, _⟩ | ⟨j, e0, h1, h2, h3⟩
  · exact .inl (by simp [Instr.lookup, run_underlying huSums, MapKept.run_getObj_map hb, keyI.check w _ hk, h1, Result.andThen])
  · obtain ⟨k, s, e1, e2, _, e4⟩ := he e0 (List.mem_of_getElem? h2)
    rw [h3] at e1
    obtain rfl : x = k := by simpa using e1
    exact .inr ⟨s, e4, by simp [Instr.lookup, run_underlying huSums, MapKept.run_getObj_map hb, keyI.check w _ hk, h1, Result.andThen, e2]⟩
/-- A hash is kept. -/
theorem OMap.put (h : OMap w b t) {x : Int} (hx : isN x (t.length : Int)) (hs : Hs w s (hsL t x)) : ∃ w', (Instr.mapUpdate 60 (.map (some b)) (nv x) s.v).run Tryz.prog w = .ok () w' ∧ OMap w' b t ∧ Alt w w' b ∧ w'.heap.size = w.heap.size := by
  have hn := h.nou8
  obtain ⟨es, clock, hb, he⟩ := h
  have hk := keyI_of hx
  have alt : ∀ o, Alt w (ChangeMaps.setBlock w b o) b := fun o => ⟨rfl, rfl, rfl, by simp [ChangeMaps.setBlock], fun k _ hk => ChangeMaps.heap_setBlock_other hb o hk⟩
  have sz : ∀ o, (ChangeMaps.setBlock w b o).heap.size = w.heap.size := fun o => by simp [ChangeMaps.setBlock]
  rcases keyI.find w hk es.toList (fun e q => by
    obtain ⟨k, s, h1, _, h3, _⟩ := he e q
    exact ⟨_, by rw [h1]; exact keyI_of h3⟩) with ⟨h1, _⟩ | ⟨j, e0, h1, h2, h3⟩
  · refine ⟨ChangeMaps.setBlock w b (.map (es.push ⟨nv x, s.v, clock⟩) (clock + 1)), ?_, ⟨_, _, ChangeMaps.heap_setBlock_same hb _, fun e q => ?_⟩, alt _, sz _⟩
    · simp [Instr.mapUpdate, run_underlying huSums, MapKept.run_getObj_map hb, keyI.check w false hk, h1, MapKept.run_setObj_map _ hb, Result.andThen, ChangeMaps.setBlock]
    · rw [Array.toList_push] at q
      rcases List.mem_append.1 q with q | q
      · obtain ⟨k, s, h1, h2, h3, h4⟩ := he e q
        exact ⟨k, s, h1, h2, h3, h4.kept (alt _) hn⟩
      · obtain rfl : e = ⟨nv x, s.v, clock⟩ := by simpa using q
        exact ⟨x, s, rfl, rfl, hx, hs.kept (alt _) hn⟩
  · have hj : es[j]? = some e0 := by simpa using h2
    refine ⟨ChangeMaps.setBlock w b (.map (es.modify j fun e' => { e' with key := nv x, val := s.v }) clock), ?_, ⟨_, _, ChangeMaps.heap_setBlock_same hb _, fun e q => ?_⟩, alt _, sz _⟩
    · simp [Instr.mapUpdate, run_underlying huSums, MapKept.run_getObj_map hb, keyI.check w false hk, h1, hj, h3, keyI.stays w hk, MapKept.run_setObj_map _ hb, Result.andThen, ChangeMaps.setBlock]
    · rw [Array.toList_modify, ChangeMaps.modify_eq_set _ _ _ _ h2] at q
      rcases List.mem_or_eq_of_mem_set q with q | q
      · obtain ⟨k, s, h1, h2, h3, h4⟩ := he e q
        exact ⟨k, s, h1, h2, h3, h4.kept (alt _) hn⟩
      · subst q
        exact ⟨x, s, rfl, rfl, hx, hs.kept (alt _) hn⟩
theorem OMap.made (w : World) (t : List Nd) : OMap (w.alloc (.map #[] 0)) w.heap.size t := ⟨#[], 0, (MapKept.heap_alloc w _).1, fun e q => by simp at q⟩
/-- The tables of packages math/bits and block lie there. -/
structure Tt (w : World) : Prop where
  b : Tb w
  k : ∃ tg, RowAt w 0 tg (cW 64 num)
theorem Tt.up (u : Below w.heap.size w w') (h : Tt w) : Tt w' := by
  obtain ⟨hb, tg, r⟩ := h
  exact ⟨Tb.up u hb, tg, RowAt.below u r.lt r⟩
theorem Tt.alt (h : Tt w) (mp : OMap w b t) (g : Alt w w' b) : Tt w' := by
  obtain ⟨⟨tg, r⟩, tg2, r2⟩ := h
  exact ⟨⟨tg, (g.block _ r.lt (mp.norow r)).trans r⟩, tg2, (g.block _ r2.lt (mp.norow r2)).trans r2⟩
theorem Alt.below {B : Nat} (g : Alt w w' b) (hB : B ≤ b) (hw : B ≤ w.heap.size) : Below B w w' := Kept.below g (fun k hk => by omega) hw
theorem Alt.grow {v : World} (g : Alt w v b) (h : Below v.heap.size v w') : Alt w w' b := g.trans (Below.kept h)
end
section
variable {ops : Array Oper} {Q : Exit → Act → World → Prop} {n d : Nat} {E : Env} {o : Oper} {rest : List Oper} {w w' : World} {x y z : Operand} {ty : TypeId} {b : Nat} {t : List Nd} {s : SlV} {v : Value}
theorem lg_mkM (hw : Want ops E o true) (ho : o.op = .makeMap 60 none) (hd : o.dst = some d) (hn : d < n)
    (h : ∀ b w', b = w.heap.size → w'.heap.size = b + 1 → (∀ t, OMap w' b t) → Below w.heap.size w w' → LG Tryz.prog ops Q n ((d, .map (some b)) :: E) rest w') : LG Tryz.prog ops Q n E (o :: rest) w := by
  refine lg_do hw (fun n a ha => ?_) hd hn (h w.heap.size (w.alloc (.map #[] 0)) rfl (by simp) (fun t => OMap.made w t) ((Below.refl _ _).alloc (Nat.le_refl _) _))
  have hr : (Instr.makeMap 60 none).run Tryz.prog w = .ok (.map (some w.heap.size)) (w.alloc (.map #[] 0)) := rfl
  unfold execOp
  rw [ho]
  simp only [Option.map_none, Sem.run_bind, hr, Result.andThen_ok, Sem.run_pure]
theorem y_look {mv kv : Value} (hr : (Instr.lookup ty mv kv true).run Tryz.prog w = .ok v w) (ho : o.op = .lookup ty x y true) (hx : val E x = some mv) (hy : val E y = some kv) : Yields Tryz.prog E o w v := fun n a ha => .inl (by
  unfold execOp
  rw [ho]
  simp only [ha.eval hx, ha.eval hy]
  rw [Sem.run_bind, hr]
  rfl)
theorem lg_putM {k : Int} (mp : OMap w b t) (hk : isN k (t.length : Int)) (hs : Hs w s (hsL t k)) (hw : Want ops E o true) (ho : o.op = .mapUpdate 60 x y z) (hx : val E x = some (.map (some b))) (hy : val E y = some (nv k)) (hz : val E z = some s.v) (hd : o.dst = none)
    (h : ∀ w', OMap w' b t → Alt w w' b → w'.heap.size = w.heap.size → LG Tryz.prog ops Q n E rest w') : LG Tryz.prog ops Q n E (o :: rest) w := by
  obtain ⟨w', hr, h1, h2, h3⟩ := mp.put hk hs
  intro a ha
  unfold wpList
  rw [hw n a ha, if_pos rfl]
  refine .inl ?_
  unfold Oper.wp
  have he : (execOp a.eval o).run Tryz.prog w = .ok .skip w' := by
    unfold execOp
    rw [ho]
    simp only [ha.eval hx, ha.eval hy, ha.eval hz]
    rw [Sem.run_bind, hr]
    rfl
  rw [he]
  show wpList Tryz.prog ops Q rest (a.put o.dst _) w'
  rw [hd]
  exact h w' h1 h2 h3 a ha
end
/-- A row of slices of octets, as it reads. -/
def RwOc (w : World) (B : Nat) (s : SlV) (Xs : List (List Int)) : Prop := s.m ≤ s.c ∧ s.c ≤ maxLen ∧ Xs.length = s.m ∧
  (0 < s.m → ∃ b o, s.A = some ⟨b, o, none⟩ ∧ b < B ∧ ∀ i xs, Xs[i]? = some xs → ∃ r : SlV, Sl w B r xs ∧ w.cell? ⟨b, o + i * 1, none⟩ = some r.v)
abbrev OcP := SlV × List Int
/-- A row of one's own of slices of octets, each of them in a row of octets. -/
def OwnOc (w : World) (base : Nat) (v : Value) (Xs : List (List Int)) : Prop := ∃ ps : List OcP, ps.map (·.2) = Xs ∧ w.ownsRow base 26 1 v ps.length (ps.map (·.1.v)) ∧ ∀ p ∈ ps, Hs w p.1 p.2
section
variable {w w' : World} {B B' base b c : Nat} {s r : SlV} {v : Value} {Xs Ys : List (List Int)} {xs : List Int} {m : Nat → Prop} {t : List Nd}
theorem RwOc.nil (w : World) (B : Nat) : RwOc w B nilS [] := ⟨Nat.le_refl _, Nat.zero_le _, rfl, fun q => absurd q (by simp)⟩
theorem RwOc.cast (h : RwOc w B s Xs) (e : Xs = Ys) : RwOc w B s Ys := e ▸ h
theorem RwOc.len (h : RwOc w B s Xs) : Xs.length = s.m := h.2.2.1
theorem RwOc.cap (h : RwOc w B s Xs) : s.m ≤ s.c ∧ s.c ≤ 9223372036854775807 := ⟨h.1, by have := h.2.1; unfold maxLen at this; omega⟩
theorem RwOc.below (h : RwOc w B s Xs) (g : Below B w w') : RwOc w' B s Xs := by
  refine ⟨h.1, h.2.1, h.2.2.1, fun hm => ?_⟩
  obtain ⟨b, o, e, hB, hc⟩ := h.2.2.2 hm
  refine ⟨b, o, e, hB, fun i xs hx => ?_⟩
  obtain ⟨r, hr, hj⟩ := hc i xs hx
  exact ⟨r, hr.below g, (g.cell (p := ⟨b, o + i * 1, none⟩) hB).trans hj⟩
theorem RwOc.more (h : RwOc w B s Xs) (g : B ≤ B') : RwOc w B' s Xs := by
  refine ⟨h.1, h.2.1, h.2.2.1, fun hm => ?_⟩
  obtain ⟨b, o, e, hB, hc⟩ := h.2.2.2 hm
  refine ⟨b, o, e, by omega, fun i xs hx => ?_⟩
  obtain ⟨r, hr, hj⟩ := hc i xs hx
  exact ⟨r, hr.more g, hj⟩
theorem RwOc.at (h : RwOc w B s Xs) (i : Nat) (hi : i < s.m) : ∃ (b o : Nat) (r : SlV), s.A = some ⟨b, o, none⟩ ∧ b < B ∧ Sl w B r (Xs.getD i []) ∧ w.cell? ⟨b, o + i * 1, none⟩ = some r.v := by
  obtain ⟨b, o, e, hB, hc⟩ := h.2.2.2 (by omega)
  have hl : i < Xs.length := by rw [h.len]; exact hi
  obtain ⟨r, h1, h2⟩ := hc i (Xs.getD i []) (by rw [List.getD_eq_getElem?_getD, List.getElem?_eq_getElem hl]; rfl)
  exact ⟨b, o, r, e, hB, h1, h2⟩
theorem OwnOc.nil (w : World) (base : Nat) : OwnOc w base nilS.v [] := ⟨[], rfl, ⟨rfl, .inl ⟨rfl, rfl⟩⟩, fun p hp => by cases hp⟩
theorem OwnOc.cast (h : OwnOc w base v Xs) (e : Xs = Ys) : OwnOc w base v Ys := e ▸ h
theorem OwnOc.row (h : OwnOc w base s.v Xs) : RwOc w w.heap.size s Xs := by
  obtain ⟨ps, rfl, ho, hp⟩ := h
  rcases ho.2 with ⟨e, h0⟩ | ⟨g, cap, cur, e, hg, hh, h1, h2, h3, h4⟩
  · obtain rfl : s = nilS := SlV.v_inj e
    exact ⟨Nat.le_refl _, Nat.zero_le _, by simpa using h0, fun q => absurd q (by simp)⟩
  · obtain rfl : s = ⟨some ⟨g, 0, none⟩, ps.length, cap⟩ := SlV.v_inj e
    refine ⟨h1, h2, by simp, fun hm => ⟨g, 0, rfl, (ho.lt g rfl).2, fun i xs hx => ?_⟩⟩
    rw [List.getElem?_map, Option.map_eq_some_iff] at hx
    obtain ⟨p, hp', rfl⟩ := hx
    refine ⟨p.1, (hp p (List.mem_of_getElem? hp')).1, ?_⟩
    have := ho.cells (g := g) rfl i p.1.v (by rw [List.getElem?_map, hp']; rfl)
    rw [Addr.add_lit] at this
    simpa using this
theorem OwnOc.kept (h : OwnOc w base v Xs) (g : Kept m w w') (hm : ∀ k cs, w.heap[k]? = some (.cells cs 5 (0, 0)) → m k) (hv : ∀ k, v.ownBlock = some k → m k) : OwnOc w' base v Xs := by
  obtain ⟨ps, e, ho, hp⟩ := h
  exact ⟨ps, e, own_kept ho g hv, fun p q => (hp p q).kept g hm⟩
theorem OwnOc.below (h : OwnOc w base v Xs) (g : Below w.heap.size w w') : OwnOc w' base v Xs := h.kept (m := fun _ => True) (Below.kept g) (fun _ _ _ => trivial) fun _ _ => trivial
theorem OwnOc.blk (h : OwnOc w base v Xs) {k : Nat} (e : v.ownBlock = some k) : ∃ cs, w.heap[k]? = some (.cells cs 26 (0, 0)) ∧ base ≤ k := by
  obtain ⟨ps, _, ho, _⟩ := h
  rcases ho.2 with ⟨rfl, _⟩ | ⟨g, cap, cur, rfl, hg, hh, _⟩
  · cases e
  · cases e
    exact ⟨cur, hh, hg⟩
theorem OwnOc.alt (h : OwnOc w base v Xs) (mp : OMap w b t) (g : Alt w w' b) : OwnOc w' base v Xs := h.kept g mp.nou8 fun k e => by
  obtain ⟨cs, hc, _⟩ := h.blk e
  exact mp.norow (show RowAt w k _ cs from hc)
theorem oc_ne_u8 : 26 ≠ 5 := by decide
/-- What an append to a row of one's own leaves as it was. -/
theorem OwnOc.nou8 (h : OwnOc w base v Xs) : ∀ k cs, w.heap[k]? = some (.cells cs 5 (0, 0)) → some k ≠ v.ownBlock := by
  intro k cs e q
  obtain ⟨cs', hc, _⟩ := h.blk q.symm
  rw [hc] at e
  exact oc_ne_u8 (by injection e with e; injection e)
theorem OwnOc.nomap (h : OwnOc w base v Xs) (mp : OMap w b t) : some b ≠ v.ownBlock := by
  intro q
  obtain ⟨cs', hc, _⟩ := h.blk q.symm
  obtain ⟨es, clock, hb, _⟩ := mp
  rw [hc] at hb
  cases hb
end
section
variable {ops : Array Oper} {Q : Exit → Act → World → Prop} {n d : Nat} {E : Env} {o : Oper} {rest : List Oper} {w w' : World} {x y z : Operand} {ty : TypeId} {base : Nat} {s r : SlV} {u v : Value} {Xs : List (List Int)} {xs : List Int}
theorem huOcs : Tryz.prog.underlying 29 = some (.slice 26) := by kernel_rfl
/-- append(a, r), a a row of one's own. -/
theorem lg_appOc {g : Nat} {tr : TypeId} (hown : OwnOc w base u Xs) (hr : Hs w r xs) (hrow : RowAt w g tr #[r.v]) (hb : Xs.length ≤ 1000000) (hbase : base ≤ w.heap.size) (hw : Want ops E o true)
    (ho : o.op = .call { callee := .builtin .append, args := #[x, y], argTypes := #[29, 29] }) (hty : o.type = 29) (hx : val E x = some u) (hy : val E y = some (.slice (some ⟨g, 0, none⟩) 1 1)) (hd : o.dst = some d) (hn : d < n)
    (h : ∀ (q : SlV) w', OwnOc w' base q.v (Xs ++ [xs]) → Kept (fun k => some k ≠ u.ownBlock) w w' → Below base w w' → w.heap.size ≤ w'.heap.size → LG Tryz.prog ops Q n ((d, q.v) :: E) rest w') : LG Tryz.prog ops Q n E (o :: rest) w := by
  have hno := hown.nou8
  obtain ⟨i0, hi0, hz0, hz1, hz2⟩ := info_parts infoOc
  obtain ⟨ps, rfl, hO, hp⟩ := hown
  rw [List.length_map] at hb
  have hc : w.cell? ⟨g, 0, none⟩ = some r.v := by rw [cell_of_row w g 0 _ tr _ hrow]; rfl
  obtain ⟨v', w', hrun, h1, h2, _, h3⟩ := run_append_own_at (P := Tryz.prog) (w := w) base 29 29 26 i0 _ 1 24 huOcs hi0 hz0 hz1 hz2 rfl (by omega) u _ _ hO ⟨g, 0, none⟩ 1 1 [r.v] rfl (fun j q hj => by
    have hj0 : j = 0 := by
      have := (List.getElem?_eq_some_iff.1 hj).1
      simpa using this
    subst hj0
    obtain rfl : r.v = q := by simpa using hj
    exact hc) (fun q hq => by
    obtain rfl : q = r.v := by simpa using hq
    rfl) (by unfold maxLen; omega) (by omega) hbase
  have hk : Kept (fun k => some k ≠ u.ownBlock) w w' := ⟨h2.os, h2.tape, h2.output, h2.size, fun k hk q => h2.block k hk q⟩
  obtain ⟨q, rfl⟩ : ∃ q : SlV, v' = q.v := by
    rcases h1.2 with ⟨rfl, _⟩ | ⟨g, cap, cur, rfl, _⟩
    · exact ⟨nilS, rfl⟩
    · exact ⟨⟨some ⟨g, 0, none⟩, _, cap⟩, rfl⟩
  refine lg_do hw (fun n a ha => ?_) hd hn (h q w' ⟨ps ++ [(r, xs)], by simp, by simpa using h1, fun p hpq => ?_⟩ hk ((Below.refl _ _).grown h2 hbase (fun k hk => (hO.lt k hk).1)) h2.size)
  · simp [execOp, ho, hty, resolve, invoke, builtin, ha.eval hx, ha.eval hy, hrun, Result.andThen]
  · rcases List.mem_append.1 hpq with z | z
    · exact (hp p z).kept hk hno
    · obtain rfl : p = (r, xs) := by simpa using z
      exact hr.kept hk hno
/-- make([][]byte, 0, k) -/
theorem lg_mkOc {K : Int} (k : Nat) (hw : Want ops E o true) (e : K = k) (hk : k ≤ 1000000) (ho : o.op = .makeSlice 29 x y) (hx : val E x = some (nv 0)) (hy : val E y = some (nv K)) (hd : o.dst = some d) (hn : d < n)
    (h : ∀ (q : SlV) w', OwnOc w' w.heap.size q.v [] → Below w.heap.size w w' → LG Tryz.prog ops Q n ((d, q.v) :: E) rest w') : LG Tryz.prog ops Q n E (o :: rest) w := by
  subst e
  obtain ⟨i0, hi0, hz0, hz1, hz2⟩ := info_parts infoOc
  have hr := run_make (P := Tryz.prog) w 29 26 i0 _ huOcs hi0 hz0 .i64 .i64 0 (k : Int) (by omega) (by omega) (by rw [hz2]; omega) (by omega)
  refine lg_do hw (fun n a ha => ?_) hd hn (h ⟨some ⟨w.heap.size, 0, none⟩, 0, k⟩ (w.alloc (.cells (madeCells nilS.v.cells (k * i0.size)) 26)) ⟨[], rfl, ⟨rfl, .inr ⟨w.heap.size, k, _, rfl, Nat.le_refl _, heap_alloc_new w _, Nat.zero_le _, by unfold maxLen; omega, by rw [size_madeCells, hz1], rfl⟩⟩, fun p q => by cases q⟩ ((Below.refl _ _).alloc (Nat.le_refl _) _))
  have hr' : (Instr.makeSlice 29 (nv 0) (nv (k : Int))).run Tryz.prog w = .ok (.slice (some ⟨w.heap.size, 0, none⟩) 0 k) (w.alloc (.cells (madeCells nilS.v.cells (k * i0.size)) 26)) := by simpa using hr
  simp only [execOp, ho, ha.eval hx, ha.eval hy, Sem.run_bind, hr', Result.andThen_ok, Sem.run_pure]
end
/-- It does not lie in block g, if it lies anywhere. -/
def OffS (g : Nat) (s : SlV) : Prop := 0 < s.m → ∀ p, s.A = some p → p.block ≠ g
structure OffNd (g : Nat) (l : NdV) : Prop where
  enc : OffS g l.leaf.enc
  cred : OffS g l.leaf.cred
  par : OffS g l.leaf.par
  ienc : OffS g l.inner.enc
  hash : OffS g l.inner.hash
  unm : OffS g l.inner.unm
section
variable {w w' : World} {B B' g : Nat} {s : SlV} {xs : List Int} {l : NdV} {L : Nd}
theorem OffS.nil (g : Nat) : OffS g nilS := fun h => absurd h (Nat.lt_irrefl 0)
theorem OffS.of (h : Sl w B s xs) (hB : B ≤ g) : OffS g s := fun h0 p e q => by
  obtain ⟨b, o, e2, hb, _⟩ := h.2.2.2.2 h0
  rw [e2] at e
  obtain rfl : p = ⟨b, o, none⟩ := (Option.some.inj e).symm
  simp only at q
  omega
theorem OffS.ofN (h : SlN w B s xs) (hB : B ≤ g) : OffS g s := fun h0 p e q => by
  obtain ⟨b, o, e2, hb, _⟩ := h.2.2.2 h0
  rw [e2] at e
  obtain rfl : p = ⟨b, o, none⟩ := (Option.some.inj e).symm
  simp only at q
  omega
theorem OffS.fr {a : Nat} (f : Fr a s) (h : g < a) : OffS g s := fun _ p e q => by
  have := f p e
  omega
theorem OffNd.of (h : IsNd w B l L) (hB : B ≤ g) : OffNd g l := ⟨.of h.leaf.enc hB, .of h.leaf.cred hB, .of h.leaf.par hB, .of h.inner.enc hB, .of h.inner.hash hB, .ofN h.inner.unm hB⟩
theorem OffNd.zero (g : Nat) : OffNd g NdV.zero := ⟨.nil g, .nil g, .nil g, .nil g, .nil g, .nil g⟩
theorem Sl.off (h : Sl w w.heap.size s xs) (f : OffS g s) (k : Alt w w' g) : Sl w' w'.heap.size s xs :=
  ⟨h.1, h.2.1, h.2.2.1, h.2.2.2.1, fun h0 => by
    obtain ⟨b, o, e, hb, hc⟩ := h.2.2.2.2 h0
    exact ⟨b, o, e, Nat.lt_of_lt_of_le hb k.size, fun i z hi => (World.cell?_of_block (w := w) (a := ⟨b, o + i, none⟩) (k.block b hb (f h0 _ e))).trans (hc i z hi)⟩⟩
theorem SlN.off (h : SlN w w.heap.size s xs) (f : OffS g s) (k : Alt w w' g) : SlN w' w'.heap.size s xs :=
  ⟨h.1, h.2.1, h.2.2.1, fun h0 => by
    obtain ⟨b, o, e, hb, hc⟩ := h.2.2.2 h0
    exact ⟨b, o, e, Nat.lt_of_lt_of_le hb k.size, fun i z hi => (World.cell?_of_block (w := w) (a := ⟨b, o + i, none⟩) (k.block b hb (f h0 _ e))).trans (hc i z hi)⟩⟩
theorem IsNd.off (h : IsNd w w.heap.size l L) (f : OffNd g l) (k : Alt w w' g) : IsNd w' w'.heap.size l L :=
  ⟨⟨h.leaf.enc.off f.enc k, h.leaf.cred.off f.cred k, h.leaf.par.off f.par k⟩, ⟨h.inner.enc.off f.ienc k, h.inner.hash.off f.hash k, h.inner.unm.off f.unm k⟩⟩
end
/-- A row of nodes of one's own, in block g, none of which says what lies in that block; what they say lies below block T. -/
def OwnNa (w : World) (g T : Nat) (s : SlV) (Ls : List Nd) : Prop := s.A = some ⟨g, 0, none⟩ ∧ T ≤ w.heap.size ∧ ∃ (ps : List NdP) (cur : Array Value), ps.map (·.2) = Ls ∧ s.m = ps.length ∧ s.m ≤ s.c ∧ s.c ≤ maxLen ∧ RowAt w g 40 cur ∧ cur.size = s.c * 8 ∧ cur.toList.take (ps.length * 8) = ndCells ps ∧ ∀ p ∈ ps, IsNd w T p.1 p.2 ∧ OffNd g p.1
section
variable {w w' : World} {B B' g T : Nat} {s : SlV} {xs : List Int} {l : NdV} {L : Nd} {Ls Ms : List Nd}
theorem OwnNa.cast (h : OwnNa w g T s Ls) (e : Ls = Ms) : OwnNa w g T s Ms := e ▸ h
theorem OwnNa.lt (h : OwnNa w g T s Ls) : g < w.heap.size := by
  obtain ⟨_, _, ps, cur, _, _, _, _, hr, _⟩ := h
  exact hr.lt
theorem OwnNa.len (h : OwnNa w g T s Ls) : Ls.length = s.m := by
  obtain ⟨_, _, ps, cur, rfl, e, _⟩ := h
  rw [e, List.length_map]
theorem OwnNa.up (h : OwnNa w g T s Ls) : OwnNa w g w.heap.size s Ls := by
  obtain ⟨e, hT, ps, cur, h1, h2, h3, h4, h5, h6, h7, h8⟩ := h
  exact ⟨e, Nat.le_refl _, ps, cur, h1, h2, h3, h4, h5, h6, h7, fun p q => ⟨(h8 p q).1.more hT, (h8 p q).2⟩⟩
theorem OwnNa.of {base : Nat} (h : OwnNd w base B s.v Ls) (hB : B ≤ base) (hw : B ≤ w.heap.size) (hpos : 0 < Ls.length) : ∃ g, base ≤ g ∧ OwnNa w g w.heap.size s Ls := by
  obtain ⟨ps, rfl, ho, hp⟩ := h
  rw [List.length_map] at hpos
  rcases ho.2 with ⟨e, h0⟩ | ⟨g, cap, cur, e, hg, hh, h1, h2, h3, h4⟩
  · omega
  · obtain rfl : s = ⟨some ⟨g, 0, none⟩, ps.length, cap⟩ := SlV.v_inj e
    exact ⟨g, hg, rfl, Nat.le_refl _, ps, cur, rfl, rfl, h1, h2, hh, h3, h4, fun p q => ⟨(hp p q).more hw, .of (hp p q) (by omega)⟩⟩
theorem OwnNa.below (h : OwnNa w g T s Ls) (k : Below w.heap.size w w') : OwnNa w' g T s Ls := by
  obtain ⟨e, hT, ps, cur, h1, h2, h3, h4, h5, h6, h7, h8⟩ := h
  exact ⟨e, Nat.le_trans hT k.size, ps, cur, h1, h2, h3, h4, RowAt.below k h5.lt h5, h6, h7, fun p q => ⟨(h8 p q).1.below (k.mono hT), (h8 p q).2⟩⟩
theorem Set1.alt {b : Nat} {tb : TypeId} {new : Array Value} (st : Set1 w w' b tb new) : Alt w w' b := ⟨(st.below 0 (Nat.zero_le _)).os, (st.below 0 (Nat.zero_le _)).tape, (st.below 0 (Nat.zero_le _)).output, Nat.le_of_eq st.size.symm, fun j _ hj => st.other j hj⟩
/-- A newer block is written. -/
theorem OwnNa.set1 (h : OwnNa w g T s Ls) {b : Nat} {tb : TypeId} {new : Array Value} (st : Set1 w w' b tb new) (hb : T ≤ b) (hg : g ≠ b) : OwnNa w' g T s Ls := by
  obtain ⟨e, hT, ps, cur, h1, h2, h3, h4, h5, h6, h7, h8⟩ := h
  exact ⟨e, Nat.le_trans hT (Nat.le_of_eq st.size.symm), ps, cur, h1, h2, h3, h4, st.keep h5 hg, h6, h7, fun p q => ⟨(h8 p q).1.below (st.below _ hb), (h8 p q).2⟩⟩
theorem OwnNa.row (h : OwnNa w g T s Ls) : RwNd w w.heap.size s Ls := by
  obtain ⟨e, hT, ps, cur, rfl, h2, h3, h4, h5, h6, h7, h8⟩ := h
  refine ⟨h3, h4, by rw [List.length_map]; exact h2.symm, fun hm => ⟨g, 0, e, h5.lt, fun i L hL => ?_⟩⟩
  rw [List.getElem?_map, Option.map_eq_some_iff] at hL
  obtain ⟨p, hp', rfl⟩ := hL
  refine ⟨p.1, (h8 p (List.mem_of_getElem? hp')).1.more hT, fun j u hu => ?_⟩
  have hj : j < 8 := (Array.getElem?_eq_some_iff.1 hu).1
  have hi := (List.getElem?_eq_some_iff.1 hp').1
  rw [Nat.zero_add, cell_of_row w g (i * 8 + j) cur _ _ h5, ← Array.getElem?_toList]
  have h9 := ndCells_at ps i j p hp' hj
  rw [← h7, List.getElem?_take, if_pos (by omega)] at h9
  rw [h9, ndc, Array.getElem?_toList]
  exact hu
/-- The node at a place. -/
theorem OwnNa.at (h : OwnNa w g T s Ls) {i : Nat} (hi : i < Ls.length) : ∃ l : NdV, IsNd w T l (atN Ls i) ∧ OffNd g l ∧ ∀ j u, (l.cs (atN Ls i))[j]? = some u → w.cell? ⟨g, 0 + i * 8 + j, none⟩ = some u := by
  obtain ⟨e, hT, ps, cur, rfl, h2, h3, h4, h5, h6, h7, h8⟩ := h
  rw [List.length_map] at hi
  have hp' : ps[i]? = some ps[i] := List.getElem?_eq_getElem hi
  have hL : atN (ps.map (·.2)) i = ps[i].2 := atN_some (by rw [List.getElem?_map, hp']; rfl)
  rw [hL]
  refine ⟨ps[i].1, (h8 _ (List.mem_of_getElem? hp')).1, (h8 _ (List.mem_of_getElem? hp')).2, fun j u hu => ?_⟩
  have hj : j < 8 := (Array.getElem?_eq_some_iff.1 hu).1
  rw [Nat.zero_add, cell_of_row w g (i * 8 + j) cur _ _ h5, ← Array.getElem?_toList]
  have h9 := ndCells_at ps i j _ hp' hj
  rw [← h7, List.getElem?_take, if_pos (by omega)] at h9
  rw [h9, ndc, Array.getElem?_toList]
  exact hu
theorem OwnNa.set (h : OwnNa w g T s Ls) {i : Nat} (hi : i < Ls.length) (hl : IsNd w w.heap.size l L) (ho : OffNd g l) {new : Array Value} (st : Set1 w w' g 40 new)
    (hnew : ∀ cur : Array Value, RowAt w g 40 cur → new.toList = cur.toList.take (0 + i * 8) ++ (l.cs L).toList ++ cur.toList.drop (0 + i * 8 + 8)) : OwnNa w' g w'.heap.size s (Ls.set i L) := by
  obtain ⟨e, hTT, ps, cur, rfl, h2, h3, h4, h5, h6, h7, h8⟩ := h
  rw [List.length_map] at hi
  have hnew := hnew cur h5
  have k : Alt w w' g := st.alt
  have hT : cur.toList = ndCells ps ++ cur.toList.drop (ps.length * 8) := by
    conv => lhs; rw [← List.take_append_drop (ps.length * 8) cur.toList, h7]
  generalize hR : cur.toList.drop (ps.length * 8) = R at hT
  have hlen := ndCells_len ps
  have hnw : new.toList = ndCells (ps.set i (l, L)) ++ R := by
    rw [hnew, ← ndCells_set ps i (l, L) hi, hT, Nat.zero_add, List.take_append_of_le_length (by omega), List.drop_append_of_le_length (by omega)]
    simp only [List.append_assoc, ndc]
  refine ⟨e, Nat.le_refl _, ps.set i (l, L), new, by rw [List.map_set], by rw [List.length_set]; exact h2, h3, h4, st.row, ?_, ?_, fun p hp => ?_⟩
  · have hc : cur.toList.length = s.c * 8 := by
      rw [Array.length_toList]
      exact h6
    rw [← Array.length_toList, hnw, List.length_append, ndCells_len, List.length_set, ← hR, List.length_drop, hc]
    omega
  · rw [hnw]
    exact List.take_left' (by rw [ndCells_len])
  · rcases List.mem_or_eq_of_mem_set hp with q | q
    · exact ⟨((h8 p q).1.more hTT).off (h8 p q).2 k, (h8 p q).2⟩
    · subst q
      exact ⟨hl.off ho k, ho⟩
end
section
variable {ops : Array Oper} {Q : Exit → Act → World → Prop} {n d : Nat} {E : Env} {o : Oper} {rest : List Oper} {w w' : World} {x y z : Operand} {ty : TypeId} {g T : Nat} {s r : SlV} {l : NdV} {L : Nd} {Ls : List Nd} {xs : List Int}
/-- A node is written into such a row. -/
theorem lg_stA {i : Nat} (hown : OwnNa w g T s Ls) (hl : IsNd w w.heap.size l L) (hof : OffNd g l) (hi : i < Ls.length) (hw : Want ops E o true) (ho : o.op = .store 40 x y) (hx : val E x = some (pv g (0 + i * 8))) (hy : val E y = some (.agg (l.cs L))) (hd : o.dst = none)
    (h : ∀ w' new, Set1 w w' g 40 new → OwnNa w' g w'.heap.size s (Ls.set i L) → LG Tryz.prog ops Q n E rest w') : LG Tryz.prog ops Q n E (o :: rest) w := by
  have hm := hown.len
  have hown2 := hown
  obtain ⟨e, hT, ps, cur, h1, h2, h3, h4, h5, h6, h7, h8⟩ := hown
  refine lg_st (j := 0 + i * 8) hw h5 ho hx hy (by kernel_rfl) (by kernel_rfl) (by rw [h6]; show 0 + i * 8 + 8 ≤ _; omega) rfl hd fun w' st => h w' _ st (hown2.set hi hl hof st fun cur' r' => ?_)
  obtain rfl : cur = cur' := by
    unfold RowAt at h5 r'
    rw [h5] at r'
    injection r' with r'
    injection r'
  rfl
/-- The numbers of a node are written, in such a row. -/
theorem lg_stU {i : Nat} (hown : OwnNa w g T s Ls) (hl : SlN w w.heap.size r xs) (hof : OffS g r) (hi : i < Ls.length) (hw : Want ops E o true) (ho : o.op = .store 23 x y) (hx : val E x = some (pv g (0 + i * 8 + 7))) (hy : val E y = some r.v) (hd : o.dst = none)
    (h : ∀ w' new, Set1 w w' g 40 new → OwnNa w' g w'.heap.size s (Ls.set i ⟨(atN Ls i).kind, (atN Ls i).leaf, ⟨(atN Ls i).inner.enc, (atN Ls i).inner.hash, xs⟩⟩) → LG Tryz.prog ops Q n E rest w') : LG Tryz.prog ops Q n E (o :: rest) w := by
  have hm := hown.len
  obtain ⟨l, q1, q2, q3⟩ := hown.at hi
  have hown2 := hown
  obtain ⟨e, hT, ps, cur, h1, h2, h3, h4, h5, h6, h7, h8⟩ := hown
  have hsz : 0 + i * 8 + 7 < cur.size := by rw [h6]; omega
  refine lg_st1 (j := 0 + i * 8 + 7) hw h5 ho hx hy (by kernel_rfl) rfl hsz rfl hd fun w' st => h w' _ st (hown2.set (l := ⟨l.leaf, ⟨l.inner.enc, l.inner.hash, r⟩⟩) hi ⟨(q1.more hT).leaf, ⟨(q1.more hT).inner.enc, (q1.more hT).inner.hash, hl⟩⟩ ⟨q2.enc, q2.cred, q2.par, q2.ienc, q2.hash, hof⟩ st fun cur' r' => ?_)
  obtain rfl : cur = cur' := by
    unfold RowAt at h5 r'
    rw [h5] at r'
    injection r' with r'
    injection r'
  have hc : ∀ j u, (l.cs (atN Ls i))[j]? = some u → cur[0 + i * 8 + j]? = some u := fun j u hu => by
    have := q3 j u hu
    rwa [cell_of_row w g (0 + i * 8 + j) cur _ _ h5] at this
  refine List.ext_getElem? fun k => ?_
  rw [Array.toList_setIfInBounds, List.getElem?_set]
  have hlc : (cur.toList.take (0 + i * 8)).length = 0 + i * 8 := by rw [List.length_take, Array.length_toList]; omega
  by_cases k1 : k < 0 + i * 8
  · rw [if_neg (by omega), List.append_assoc, List.getElem?_append_left (by omega), List.getElem?_take, if_pos k1]
  · by_cases k2 : k < 0 + i * 8 + 8
    · obtain ⟨j, rfl⟩ : ∃ j, k = 0 + i * 8 + j := ⟨k - (0 + i * 8), by omega⟩
      have hj : j < 8 := by omega
      rw [List.append_assoc, List.getElem?_append_right (by omega), hlc, Nat.add_sub_cancel_left, List.getElem?_append_left (by show j < 8; exact hj), Array.getElem?_toList, Array.getElem?_toList]
      match j, hj with
      | 0, _ => rw [if_neg (by omega)]; exact hc 0 _ rfl
      | 1, _ => rw [if_neg (by omega)]; exact hc 1 _ rfl
      | 2, _ => rw [if_neg (by omega)]; exact hc 2 _ rfl
      | 3, _ => rw [if_neg (by omega)]; exact hc 3 _ rfl
      | 4, _ => rw [if_neg (by omega)]; exact hc 4 _ rfl
      | 5, _ => rw [if_neg (by omega)]; exact hc 5 _ rfl
      | 6, _ => rw [if_neg (by omega)]; exact hc 6 _ rfl
      | 7, _ => rw [if_pos rfl, if_pos (by rw [Array.length_toList]; exact hsz)]; rfl
    · rw [if_neg (by omega), List.append_assoc, List.getElem?_append_right (by omega), hlc, List.getElem?_append_right (by show 8 ≤ _; omega), List.getElem?_drop]
      congr 1
      show k = 0 + i * 8 + 8 + (k - (0 + i * 8) - 8)
      omega
end
end Go.Proofs.YtkcpmpbjjnknhaaGreatDoor
