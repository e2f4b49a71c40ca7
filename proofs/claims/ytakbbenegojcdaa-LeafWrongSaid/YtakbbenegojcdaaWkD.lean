/-
  Rules for octets beside blocks that are written, slices of arrays, slices of octets that are made.
-/
import Derived.Test.YtakbbenegojcdaaWkC
import Derived.Test.YtakbbenegojcdaaWkE
namespace Go.Proofs.Ytakbbenegojcdaa
open Go.ChangeShapes Go.WideShapes Go.ChangeAt Go.RowKit
set_option linter.unusedVariables false

section
variable {P : Program} {ops : Array Oper} {Q Q' : Exit → Act → World → Prop} {n d : Nat} {E : Env} {o : Oper} {rest : List Oper} {w w0 : World} {v : Value} {x y : Operand} {t t' : TypeId} {K : Act → World → Prop} {id id' : Nat}

theorem Oct.but {w' : World} {b B : Nat} {A : Option Addr} {m : Nat} {xs : List Int} (h : Oct w B A m xs) (g : But w w' b) (hB : B ≤ b) (hB' : B ≤ w.heap.size) : Oct w' B A m xs := h.below (g.below B hB hB')
/-- A row that holds no octet. -/
def NoOct (cs : Array Value) : Prop := ∀ (i : Nat) (z : Int), cs[i]? ≠ some (.int .u8 z)
theorem Oct.other {w' : World} {c B : Nat} {A : Option Addr} {m : Nat} {xs : List Int} {old : Array Value} (h : Oct w B A m xs) (r : RowAt w c t old) (hno : NoOct old) (hk : ∀ k, k < B → k ≠ c → w'.heap[k]? = w.heap[k]?) : Oct w' B A m xs := by
  refine ⟨h.1, h.2.1, fun hm => ?_⟩
  obtain ⟨b, off, e, hB, hc⟩ := h.2.2 hm
  refine ⟨b, off, e, hB, fun i z hz => ?_⟩
  have h1 := hc i z hz
  have hne : b ≠ c := by
    intro e2
    subst e2
    have hz2 : 0 < xs.length := by rw [h.1]; exact hm
    have h2 := h1
    rw [cell_of_row w b (off + i) old t _ r] at h2
    exact hno _ _ h2
  rw [← h1]
  unfold World.cell?
  rw [hk b hB hne]
theorem Oct.set {w' : World} {c B : Nat} {A : Option Addr} {m : Nat} {xs : List Int} {old new : Array Value} {t' : TypeId} (h : Oct w B A m xs) (r : RowAt w c t old) (hno : NoOct old) (s : Set1 w w' c t' new) : Oct w' B A m xs :=
  h.other r hno fun k _ hk => s.other k hk
theorem Oct.but2 {w' : World} {c B : Nat} {A : Option Addr} {m : Nat} {xs : List Int} {old : Array Value} (h : Oct w B A m xs) (r : RowAt w c t old) (hno : NoOct old) (hB : B ≤ w.heap.size) (s : But w w' c) : Oct w' B A m xs :=
  h.other r hno fun k hk hc => s.other k (by omega) hc
theorem cW_no {N : Nat} {F : Nat → BitVec 32} : NoOct (cW N F) := by
  intro i z e
  by_cases h : i < N
  · rw [cW_get h] at e
    simp [wv] at e
  · have : (cW N F)[i]? = none := by simp [cW]; omega
    rw [this] at e
    cases e
-- slices of an array of one's own
theorem run_arr {b N l h : Nat} {el : TypeId} (lo hi : Option Value) (hu : P.underlying t = some (.array N el)) (hs : (P.info? el).map (·.size) = some 1) (hb : (Instr.sliceBounds false N N lo hi none).run P w = .ok (l, h, N) w) (hl : l < N) :
    (Instr.sliceAt t (pv b 0) lo hi none).run P w = .ok (.slice (some ⟨b, l, none⟩) (h - l) (N - l)) w := by
  cases hq : P.info? el with
  | none => simp [hq] at hs
  | some i =>
    have hz : i.size = 1 := by simpa [hq] using hs
    by_cases h0 : N = l
    · omega
    · simp [Instr.sliceAt, run_underlying hu, Instr.sureAddr, hb, sizeOf, typeInfo, hq, hz, h0, Addr.add]
      exact fun e => e.symm
theorem y_arr_all {b N : Nat} {el : TypeId} (hu : P.underlying t = some (.array N el)) (hs : (P.info? el).map (·.size) = some 1) (h0 : 0 < N) (ho : o.op = .slice t x none none none) (hx : val E x = some (pv b 0)) : Yields P E o w (.slice (some ⟨b, 0, none⟩) N N) := fun n a ha => .inl (by
  unfold execOp
  rw [ho]
  simp only [ha.eval hx, Option.map_none]
  rw [Sem.run_bind, run_arr none none hu hs (l := 0) (h := N) (by simp [Instr.sliceBounds]) h0]
  rfl)
theorem y_arr_l {b N : Nat} {el : TypeId} (l : Nat) {lo : Int} (e : lo = l) (hu : P.underlying t = some (.array N el)) (hs : (P.info? el).map (·.size) = some 1) (h0 : l < N) (ho : o.op = .slice t x (some y) none none) (hx : val E x = some (pv b 0)) (hy : val E y = some (nv lo)) : Yields P E o w (.slice (some ⟨b, l, none⟩) (N - l) (N - l)) := fun n a ha => .inl (by
  subst e
  unfold execOp
  rw [ho]
  simp only [ha.eval hx, Option.map_none, Option.map_some, ha.eval hy]
  rw [Sem.run_bind, run_arr (some (nv l)) none hu hs (l := l) (h := N) (by simp [Instr.sliceBounds, run_sliceBound, show (l : Int) ≤ N by omega]) h0]
  rfl)
theorem y_arr_h {b N : Nat} {el : TypeId} (k : Nat) {hi : Int} (e : hi = k) (hu : P.underlying t = some (.array N el)) (hs : (P.info? el).map (·.size) = some 1) (h0 : 0 < N) (h1 : k ≤ N) (ho : o.op = .slice t x none (some y) none) (hx : val E x = some (pv b 0)) (hy : val E y = some (nv hi)) : Yields P E o w (.slice (some ⟨b, 0, none⟩) k N) := fun n a ha => .inl (by
  subst e
  unfold execOp
  rw [ho]
  simp only [ha.eval hx, Option.map_none, Option.map_some, ha.eval hy]
  rw [Sem.run_bind, run_arr none (some (nv k)) hu hs (l := 0) (h := k) (by simp [Instr.sliceBounds, run_sliceBound, show (k : Int) ≤ N by omega]) h0]
  rfl)
/-- A store of a whole row of one's own. -/
theorem lg_stw {tr : TypeId} {b : Nat} {old cs : Array Value} (hw : Want ops E o true) (hr : RowAt w b tr old) (ho : o.op = .store t x y) (hx : val E x = some (pv b 0)) (hy : val E y = some (.agg cs))
    (hi : (P.info? t).map (·.size) = some cs.size) (h1 : cs.all (·.oneCell') = true) (hsz : old.size = cs.size) (hd : o.dst = none)
    (h : ∀ w', Set1 w w' b tr cs → LG P ops Q n E rest w') : LG P ops Q n E (o :: rest) w :=
  lg_st hw hr ho hx hy hi h1 (by show 0 + cs.size ≤ _; omega) (by
    show (old.toList.take 0 ++ cs.toList ++ old.toList.drop (0 + cs.size)).toArray = cs
    rw [List.drop_eq_nil_of_le (by simp; omega)]
    simp) hd h
/-- A store of one cell into a row of one's own. -/
theorem lg_st1 {tr : TypeId} {b j : Nat} {old new : Array Value} {u : Value} (hw : Want ops E o true) (hr : RowAt w b tr old) (ho : o.op = .store t x y) (hx : val E x = some (pv b j)) (hy : val E y = some u)
    (hi : (P.info? t).map (·.size) = some 1) (h1 : u.oneCell' = true) (hfit : j < old.size) (hnew : old.setIfInBounds j u = new) (hd : o.dst = none)
    (h : ∀ w', Set1 w w' b tr new → LG P ops Q n E rest w') : LG P ops Q n E (o :: rest) w := by
  have hc : u.cells = #[u] := by cases u <;> first | rfl | simp [Value.oneCell'] at h1
  refine lg_st hw hr ho hx hy (by rw [hc]; exact hi) (by rw [hc]; simpa using h1) (by rw [hc]; show j + 1 ≤ _; omega) ?_ hd h
  rw [hc, ← hnew]
  refine Array.toList_inj.1 ?_
  simp only [Array.toList_setIfInBounds, List.size_toArray, List.length_cons, List.length_nil]
  rw [List.set_eq_take_append_cons_drop, if_pos (by simpa using hfit)]
  simp
end
-- slices of octets that are made
section
variable {ops : Array Oper} {Q : Exit → Act → World → Prop} {n d : Nat} {E : Env} {o : Oper} {rest : List Oper} {w w0 : World} {v : Value} {x y : Operand} {t t' : TypeId}
theorem zeros_cB (k : Nat) : (zeros k).toArray = cB k fun _ => 0 := by
  unfold zeros cB
  refine congrArg _ ?_
  refine List.ext_getElem? fun i => ?_
  by_cases h : i < k
  · simp [h]
    rfl
  · simp [h]
/-- make([]byte, k) -/
theorem lg_mk {K : Int} (k : Nat) (hw : Want ops E o true) (e : K = k) (hk : k ≤ 70368744177664) (ho : o.op = .makeSlice 22 x y) (hx : val E x = some (nv K)) (hy : val E y = some (nv K)) (hd : o.dst = some d) (hn : d < n)
    (h : ∀ b w', New w w' b 5 (cB k fun _ => 0) → LG Try.prog ops Q n ((d, .slice (some ⟨b, 0, none⟩) k k) :: E) rest w') : LG Try.prog ops Q n E (o :: rest) w := by
  subst e
  refine lg_do hw (fun n a ha => ?_) hd hn (h w.heap.size _ (New.of_alloc 5 (cB k fun _ => 0)))
  have h1 := make_row k 0 0 rfl (by omega) w
  simp only [Int.add_zero, Nat.add_zero] at h1
  rw [zeros_cB] at h1
  simp only [execOp, ho, ha.eval hx, ha.eval hy, Sem.run_bind, nv, h1, Result.andThen_ok, Sem.run_pure]
/-- make([]byte, 0, k) -/
theorem lg_mk0 {K : Int} (k : Nat) (hw : Want ops E o true) (e : K = k) (hk : k ≤ 70368744177664) (ho : o.op = .makeSlice 22 x y) (hx : val E x = some (nv 0)) (hy : val E y = some (nv K)) (hd : o.dst = some d) (hn : d < n)
    (h : ∀ u w', w'.ownsRow w.heap.size 5 1 u ([] : List Int).length (([] : List Int).map (Value.int .u8)) → Below w.heap.size w w' → LG Try.prog ops Q n ((d, u) :: E) rest w') : LG Try.prog ops Q n E (o :: rest) w := by
  refine lg_do hw (fun n a ha => ?_) hd hn (h (.slice (some ⟨w.heap.size, 0, none⟩) 0 k) (w.alloc (.cells (zeros k).toArray 5)) (room_own k (by unfold maxLen; omega) w) ((Below.refl _ _).alloc (Nat.le_refl _) _))
  have h1 := make_room k K e (by omega) w
  simp only [execOp, ho, ha.eval hx, ha.eval hy, Sem.run_bind, nv, h1, Result.andThen_ok, Sem.run_pure]
/-- []byte{} -/
theorem lg_bs0 (hw : Want ops E o true) (ho : o.op = .buildSlice 22 0 #[]) (hd : o.dst = some d) (hn : d < n)
    (h : ∀ u w', w'.ownsRow w.heap.size 5 1 u ([] : List Int).length (([] : List Int).map (Value.int .u8)) → Below w.heap.size w w' → LG Try.prog ops Q n ((d, u) :: E) rest w') : LG Try.prog ops Q n E (o :: rest) w := by
  refine lg_do hw (fun n a ha => ?_) hd hn (h (.slice (some ⟨w.heap.size, 0, none⟩) 0 0) (w.alloc (.cells #[] 5)) (own_empty w _ (Below.refl _ _)) ((Below.refl _ _).alloc (Nat.le_refl _) _))
  obtain ⟨i0, hi0, hz0, hz1, hz2⟩ := info_parts info5
  simp [execOp, ho, Instr.buildSlice, run_underlying huo24, sizeOf, typeInfo, hi0, hz1, Instr.fill, newRow]
  have e : Array.map (fun (_ : Nat) => (default : Value)) (Array.range 0) = #[] := Array.eq_empty_of_size_eq_zero (by simp)
  rw [e]
theorem oct_lit {b : Nat} {tr : TypeId} {cs : Array Value} {xs : List Int} (r : RowAt w b tr cs) (hc : cs.toList = xs.map (Value.int .u8)) (hx : ∀ z ∈ xs, 0 ≤ z ∧ z ≤ 255) : Oct w (b + 1) (some ⟨b, 0, none⟩) xs.length xs :=
  ⟨rfl, hx, fun _ => ⟨b, 0, rfl, by omega, fun i z hi => by
    rw [Nat.zero_add, cell_of_row w b i cs tr _ r, ← Array.getElem?_toList, hc, List.getElem?_map, hi]
    rfl⟩⟩
/-- A place in a slice of octets, and what lies there. -/
theorem y_ixo {b off m c i : Nat} {iI : Int} (e : iI = i) (hi : i < m) (ho : o.op = .indexAddr 22 x y) (hx : val E x = some (.slice (some ⟨b, off, none⟩) m c)) (hy : val E y = some (nv iI)) : Yields Try.prog E o w (pv b (off + i)) :=
  y_ix (by
    subst e
    obtain ⟨i0, hi0, hz0, hz1, hz2⟩ := info_parts info5
    simp [Instr.indexAt, asIntOf, run_underlying huo24, sizeOf, typeInfo, hi0, hz1, hi, Addr.add]) ho hx hy
theorem y_celld {b j : Nat} (hc : w.cell? ⟨b, j, none⟩ = some v) (hu : aggB Try.prog t = some false) (ho : o.op = .load t x) (hx : val E x = some (pv b j)) : Yields Try.prog E o w v :=
  y_load (by simp [loadVar, run_isAgg hu, hc]) ho hx
theorem y_to8 {m : Int} {t0 : TypeId} (hs : (Try.prog.underlying t0).isSome = true) (ho : o.op = .convert t0 5 x) (hx : val E x = some (nv m)) : Yields Try.prog E o w (ov (toB m)) := by
  cases hq : Try.prog.underlying t0 with
  | none => simp [hq] at hs
  | some ds =>
    have h := y_conv_u (w := w) hq (show Try.prog.underlying 5 = some (.int .u8) by kernel_rfl) ho hx
    have e : IntKind.u8.wrap m = vb (toB m) := by
      rw [wrap_u8]
      unfold vb toB
      rw [BitVec.toNat_ofInt]
      omega
    rw [e] at h
    exact h
end
end Go.Proofs.Ytakbbenegojcdaa
