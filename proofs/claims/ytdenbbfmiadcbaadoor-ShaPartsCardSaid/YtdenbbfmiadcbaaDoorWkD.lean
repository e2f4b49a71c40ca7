/-
  Rules for code: what an end of a piece of code leads to; loops; results; a block of one's own that a callee writes.
-/
import Derived.Test.YtdenbbfmiadcbaaDoorWkC
namespace Go.Proofs.YtdenbbfmiadcbaaDoor
open Go.ChangeShapes Go.WideShapes Go.ChangeAt Go.RowKit
set_option linter.unusedVariables false

section
variable {P : Program} {ops : Array Oper} {Q Q' : Exit → Act → World → Prop} {n d : Nat} {E : Env} {o : Oper} {rest : List Oper} {w w0 : World} {v : Value} {x y : Operand} {t t' : TypeId} {K : Act → World → Prop} {id id' : Nat}

theorem eg_seq_exit (h : ∀ a, Holds n E a → Q (.exit id) a w) : ∀ a, Holds n E a → Exit.then K Q (.exit id) a w := h
theorem eg_seq_ret (h : ∀ a, Holds n E a → Q .ret a w) : ∀ a, Holds n E a → Exit.then K Q .ret a w := h
theorem eg_block_norm (h : ∀ a, Holds n E a → Q .normal a w) : ∀ a, Holds n E a → Exit.inBlock id Q .normal a w := h
theorem eg_block_ret (h : ∀ a, Holds n E a → Q .ret a w) : ∀ a, Holds n E a → Exit.inBlock id Q .ret a w := h
theorem eg_block_exit (h : ∀ a, Holds n E a → Q .normal a w) : ∀ a, Holds n E a → Exit.inBlock id Q (.exit id) a w := fun a ha => by
  show (if id = id then _ else _)
  rw [if_pos rfl]
  exact h a ha
theorem eg_block_other (hne : id' ≠ id) (h : ∀ a, Holds n E a → Q (.exit id') a w) : ∀ a, Holds n E a → Exit.inBlock id Q (.exit id') a w := fun a ha => by
  show (if id' = id then _ else _)
  rw [if_neg hne]
  exact h a ha
theorem cg_ct {c : Operand} {x y : Code} (hc : val E c = some (.bool true)) (h : CG P Q n E x w) : CG P Q n E (.cond c x y) w := cg_cond true hc (fun _ => h) (fun e => by cases e)
theorem cg_cf {c : Operand} {x y : Code} (hc : val E c = some (.bool false)) (h : CG P Q n E y w) : CG P Q n E (.cond c x y) w := cg_cond false hc (fun e => by cases e) (fun _ => h)
theorem cg_if {p : Prop} [Decidable p] {c : Operand} {x y : Code} (hc : val E c = some (.bool (decide p))) (h1 : p → CG P Q n E x w) (h0 : ¬ p → CG P Q n E y w) : CG P Q n E (.cond c x y) w :=
  cg_cond (decide p) hc (fun e => h1 (of_decide_eq_true e)) (fun e => h0 (of_decide_eq_false e))
theorem cg_ifn {p : Prop} [Decidable p] {c : Operand} {x y : Code} (hc : val E c = some (.bool (!decide p))) (h1 : ¬ p → CG P Q n E x w) (h0 : p → CG P Q n E y w) : CG P Q n E (.cond c x y) w :=
  cg_cond (!decide p) hc (fun e => h1 (by simpa using e)) (fun e => h0 (by simpa using e))
theorem cg_loopE {c : Code} (I : Nat → Act → World → Prop) (N : Nat) (h0 : ∀ a, Holds n E a → I 0 a w) (round : ∀ t a v, t ≤ N → I t a v → c.wp P (Exit.then (fun a' w' => t < N ∧ I (t + 1) a' w') Q) a v) : CG P Q n E (.loop c) w :=
  fun a ha => cg_loop I N (h0 a ha) round
theorem eg_ret_tmp {fn : Func} {p : Tmp} {R : Ending → World → Prop} (h : fn.results = #[.tmp p]) (hp : look E p = some v) (hR : R (.returned v) w) : ∀ a, Holds n E a → bodyPost P fn R .ret a w :=
  fun a ha => bodyPost_ret (by have := ha.2.2 p _ hp; simp [results, h, this]) ha.2.1 hR
theorem eg_ret_tmp2 {fn : Func} {p q : Tmp} {u : Value} {R : Ending → World → Prop} (h : fn.results = #[.tmp p, .tmp q]) (hp : look E p = some v) (hq : look E q = some u) (hR : R (.returned (.tuple #[v, u])) w) : ∀ a, Holds n E a → bodyPost P fn R .ret a w :=
  fun a ha => bodyPost_ret (by have h1 := ha.2.2 p _ hp; have h2 := ha.2.2 q _ hq; simp [results, h, h1, h2]) ha.2.1 hR
theorem eg_ret_none {fn : Func} {R : Ending → World → Prop} (h : fn.results = #[]) (hR : R (.returned (.tuple #[])) w) : ∀ a, Holds n E a → bodyPost P fn R .ret a w :=
  fun a ha => bodyPost_ret (by simp [results, h]) ha.2.1 hR
theorem eg_ret_agg {fn : Func} {p : Tmp} {ty tr : TypeId} {b : Nat} {cs : Array Value} {R : Ending → World → Prop} (h : fn.results = #[.cell p ty]) (hp : look E p = some (pv b 0)) (hr : RowAt w b tr cs)
    (hu : aggB P ty = some true) (hi : (P.info? ty).map (·.size) = some cs.size) (hR : R (.returned (.agg cs)) w) : ∀ a, Holds n E a → bodyPost P fn R .ret a w :=
  fun a ha => by
    unfold aggB at hu
    cases hq : P.underlying ty with
    | none => simp [hq] at hu
    | some dd =>
      rw [hq] at hu
      exact bodyPost_ret (results_cell_row h a.tmps w b tr cs _ dd (by have := ha.2.2 p _ hp; simp [this]) hr hq (by cases dd <;> first | rfl | (simp at hu)) hi) ha.2.1 hR
theorem eg_end_none {fn : Func} {R : Ending → World → Prop} (h : fn.results = #[]) (hR : R (.returned (.tuple #[])) w) : ∀ a, Holds n E a → bodyPost P fn R .normal a w :=
  fun a ha => bodyPost_end (by simp [results, h]) ha.2.1 hR
/-- The call writes one block that was there, and makes others; nothing else. -/
structure But (w w' : World) (b : Nat) : Prop where
  size : w.heap.size ≤ w'.heap.size
  other : ∀ k, k < w.heap.size → k ≠ b → w'.heap[k]? = w.heap[k]?
  below : ∀ B, B ≤ b → B ≤ w.heap.size → Below B w w'
theorem But.keep {w' : World} {b b' : Nat} {cs' : Array Value} (h : But w w' b) (r : RowAt w b' t cs') (e : b' ≠ b) : RowAt w' b' t cs' := by
  unfold RowAt
  rw [h.other b' r.lt e]
  exact r
theorem But.refl (b : Nat) : But w w b := ⟨Nat.le_refl _, fun _ _ _ => rfl, fun B _ _ => Below.refl _ _⟩
theorem But.grow {v w' : World} {b : Nat} (h : But w v b) (g : Below v.heap.size v w') : But w w' b :=
  ⟨Nat.le_trans h.size g.size, fun k hk e => (g.block k (Nat.lt_of_lt_of_le hk h.size)).trans (h.other k hk e), fun B h1 h2 => (h.below B h1 h2).trans (g.mono (Nat.le_trans h2 h.size))⟩
theorem But.set {v w' : World} {b c : Nat} {cs : Array Value} (h : But w v b) (s : Set1 v w' c t cs) (hc : w.heap.size ≤ c ∨ c = b) : But w w' b :=
  ⟨by rw [s.size]; exact h.size, fun k hk e => (s.other k (by omega)).trans (h.other k hk e), fun B h1 h2 => (h.below B h1 h2).trans (s.below B (by omega))⟩
theorem But.but {v w' : World} {b : Nat} (h : But w v b) (g : But v w' b) : But w w' b :=
  ⟨Nat.le_trans h.size g.size, fun k hk e => (g.other k (Nat.lt_of_lt_of_le hk h.size) e).trans (h.other k hk e), fun B h1 h2 => (h.below B h1 h2).trans (g.below B h1 (Nat.le_trans h2 h.size))⟩
theorem Oct.but {w' : World} {b B : Nat} {A : Option Addr} {m : Nat} {xs : List Int} (h : Oct w B A m xs) (g : But w w' b) (hB : B ≤ b) (hB' : B ≤ w.heap.size) : Oct w' B A m xs := h.below (g.below B hB hB')
theorem below_drew (w W : World) (h : W = w.drew) : Below w.heap.size w W := by subst h; exact (Below.refl _ _).drew
theorem size_drew (w W : World) (h : W = w.drew) : W.heap.size = w.heap.size := by subst h; rfl
-- a region held by a condition of one's own
def HGS (P : Program) (ops : Array Oper) (Q : Exit → Act → World → Prop) (S : World → Prop) (n fuel : Nat) (listed : Array Bool) (E : Env) (w : World) : Prop := ∀ a, Holds n E a → wpAnyH P .any ops Q S fuel listed a w
theorem cg_heldS {l : List Oper} (S : World → Prop) (hm : P.follows .mixedOrders = true) (hS : ∀ W, W = w.drew → S W) (h : ∀ W, W = w.drew → HGS P l.toArray Q S n l.toArray.size (Array.replicate l.toArray.size false) E W) : CG P Q n E (.region id l.toArray true) w := fun a ha =>
  wp_region_held_drew (S := S) hm (hS _ rfl) (fun _ => h _ rfl a ha)
theorem hgs_take {S : World → Prop} {fuel : Nat} {listed : Array Bool} (i : Nat) (ho : ops[i]? = some o) (hw : Want ops E o true) (hv : isVal o.op = true) (hd : o.dst = some d) (hn : d < n)
    (hs : Region.noSelect ops = true) (hf : Region.free .any ops listed i = true) (hr : (Region.ready .any ops listed).contains i = true)
    (hQ : ∀ c a w, Q (.panic c) (a.put (some d) v) w → Q (.panic c) a w) (hb : S w) (y : ∀ w', S w' → Yields P E o w' v)
    (h : HGS P ops Q S n fuel (listed.setIfInBounds i true) ((d, v) :: E) w) : HGS P ops Q S n (fuel + 1) listed E w := by
  intro a ha
  have h' := h _ (ha.put (v := v) hn)
  rw [← hd] at h' hQ
  refine wpAnyH_take (i := i) (oi := o) (v := v) ho hs hf hr hQ (.inl ⟨hw n a ha, fun w' hS => ?_⟩) hb h'
  rcases y w' hS n a ha with hy | ⟨f, args, hy, hc⟩
  · exact hy
  · exact absurd hy (val_of hv)
theorem hgs_takev {S : World → Prop} {fuel : Nat} {listed : Array Bool} (i : Nat) (ho : ops[i]? = some o) (hw : Want ops E o true) (hd : o.dst = some d) (hn : d < n)
    (hs : Region.noSelect ops = true) (hf : Region.free .any ops listed i = true) (hr : (Region.ready .any ops listed).contains i = true)
    (hQ : ∀ c a w, Q (.panic c) (a.put (some d) v) w → Q (.panic c) a w) (hb : S w) (y : ∀ w' n a, Holds n E a → (execOp a.eval o).run P w' = .ok (.value v) w')
    (h : HGS P ops Q S n fuel (listed.setIfInBounds i true) ((d, v) :: E) w) : HGS P ops Q S n (fuel + 1) listed E w := by
  intro a ha
  have h' := h _ (ha.put (v := v) hn)
  rw [← hd] at h' hQ
  exact wpAnyH_take (i := i) (oi := o) (v := v) ho hs hf hr hQ (.inl ⟨hw n a ha, fun w' hS => y w' n a ha⟩) hb h'
theorem hgs_one {S : World → Prop} {fuel : Nat} {listed : Array Bool} (i : Nat) (ho : ops[i]? = some o) (hr : Region.ready .any ops listed = [i]) (hw : Want ops E o true)
    (h : LG P ops (Exit.then (fun a w' => S w' ∧ wpAnyH P .any ops Q S fuel (listed.setIfInBounds i true) a w') Q) n E [o] w) : HGS P ops Q S n (fuel + 1) listed E w := by
  intro a ha
  refine wpAnyH_all hr (by simp) fun j hj => ?_
  obtain rfl : j = i := by simpa using hj
  exact op_of_lg j ho hw ha h
theorem hgs_next {S : World → Prop} {fuel : Nat} {listed : Array Bool} {i : Nat} (hb : S w) (h : HGS P ops Q S n fuel (listed.setIfInBounds i true) E w) : LG P ops (Exit.then (fun a w' => S w' ∧ wpAnyH P .any ops Q S fuel (listed.setIfInBounds i true) a w') Q) n E [] w :=
  fun a ha => ⟨hb, h a ha⟩
theorem hgs_done {S : World → Prop} {fuel : Nat} {listed : Array Bool} (hr : Region.ready .any ops listed = []) (h : ∀ a, Holds n E a → Q .normal a w) : HGS P ops Q S n fuel listed E w := fun a ha => wpAnyH_done hr (h a ha) fuel
/-- A row that holds no octet. -/
def NoOct (cs : Array Value) : Prop := ∀ (i : Nat) (z : Int), cs[i]? ≠ some (.int .u8 z)
theorem Oct.other {w' : World} {c B : Nat} {A : Option Addr} {m : Nat} {xs : List Int} {old : Array Value} (h : Oct w B A m xs) (r : RowAt w c t old) (hno : NoOct old) (hk : ∀ k, k < B → k ≠ c → w'.heap[k]? = w.heap[k]?) : Oct w' B A m xs := by
  refine ⟨h.1, h.2.1, fun hm => ?_⟩
  obtain ⟨b, off, e, hB, hc⟩ := h.2.2 hm
  refine ⟨b, off, e, hB, fun i z hz => ?_⟩
  have h1 := hc i z hz
  have hne : b ≠ c := by
    intro e2
    subst e2
    have hz2 : 0 < xs.length := by rw [h.1]; exact hm
    have h2 := h1
    rw [cell_of_row w b (off + i) old t _ r] at h2
    exact hno _ _ h2
  rw [← h1]
  unfold World.cell?
  rw [hk b hB hne]
theorem Oct.set {w' : World} {c B : Nat} {A : Option Addr} {m : Nat} {xs : List Int} {old new : Array Value} {t' : TypeId} (h : Oct w B A m xs) (r : RowAt w c t old) (hno : NoOct old) (s : Set1 w w' c t' new) : Oct w' B A m xs :=
  h.other r hno fun k _ hk => s.other k hk
theorem Oct.but2 {w' : World} {c B : Nat} {A : Option Addr} {m : Nat} {xs : List Int} {old : Array Value} (h : Oct w B A m xs) (r : RowAt w c t old) (hno : NoOct old) (hB : B ≤ w.heap.size) (s : But w w' c) : Oct w' B A m xs :=
  h.other r hno fun k hk hc => s.other k (by omega) hc
theorem cW_no {N : Nat} {F : Nat → BitVec 32} : NoOct (cW N F) := by
  intro i z e
  by_cases h : i < N
  · rw [cW_get h] at e
    simp [wv] at e
  · have : (cW N F)[i]? = none := by simp [cW]; omega
    rw [this] at e
    cases e
-- slices of an array of one's own
theorem run_arr {b N l h : Nat} {el : TypeId} (lo hi : Option Value) (hu : P.underlying t = some (.array N el)) (hs : (P.info? el).map (·.size) = some 1) (hb : (Instr.sliceBounds false N N lo hi none).run P w = .ok (l, h, N) w) (hl : l < N) :
    (Instr.sliceAt t (pv b 0) lo hi none).run P w = .ok (.slice (some ⟨b, l, none⟩) (h - l) (N - l)) w := by
  cases hq : P.info? el with
  | none => simp [hq] at hs
  | some i =>
    have hz : i.size = 1 := by simpa [hq] using hs
    by_cases h0 : N = l
    · omega
    · simp [Instr.sliceAt, run_underlying hu, Instr.sureAddr, hb, sizeOf, typeInfo, hq, hz, h0, Addr.add]
      exact fun e => e.symm
theorem y_arr_all {b N : Nat} {el : TypeId} (hu : P.underlying t = some (.array N el)) (hs : (P.info? el).map (·.size) = some 1) (h0 : 0 < N) (ho : o.op = .slice t x none none none) (hx : val E x = some (pv b 0)) : Yields P E o w (.slice (some ⟨b, 0, none⟩) N N) := fun n a ha => .inl (by
  unfold execOp
  rw [ho]
  simp only [ha.eval hx, Option.map_none]
  rw [Sem.run_bind, run_arr none none hu hs (l := 0) (h := N) (by simp [Instr.sliceBounds]) h0]
  rfl)
theorem y_arr_l {b N : Nat} {el : TypeId} (l : Nat) {lo : Int} (e : lo = l) (hu : P.underlying t = some (.array N el)) (hs : (P.info? el).map (·.size) = some 1) (h0 : l < N) (ho : o.op = .slice t x (some y) none none) (hx : val E x = some (pv b 0)) (hy : val E y = some (nv lo)) : Yields P E o w (.slice (some ⟨b, l, none⟩) (N - l) (N - l)) := fun n a ha => .inl (by
  subst e
  unfold execOp
  rw [ho]
  simp only [ha.eval hx, Option.map_none, Option.map_some, ha.eval hy]
  rw [Sem.run_bind, run_arr (some (nv l)) none hu hs (l := l) (h := N) (by simp [Instr.sliceBounds, run_sliceBound, show (l : Int) ≤ N by omega]) h0]
  rfl)
theorem y_arr_h {b N : Nat} {el : TypeId} (k : Nat) {hi : Int} (e : hi = k) (hu : P.underlying t = some (.array N el)) (hs : (P.info? el).map (·.size) = some 1) (h0 : 0 < N) (h1 : k ≤ N) (ho : o.op = .slice t x none (some y) none) (hx : val E x = some (pv b 0)) (hy : val E y = some (nv hi)) : Yields P E o w (.slice (some ⟨b, 0, none⟩) k N) := fun n a ha => .inl (by
  subst e
  unfold execOp
  rw [ho]
  simp only [ha.eval hx, Option.map_none, Option.map_some, ha.eval hy]
  rw [Sem.run_bind, run_arr none (some (nv k)) hu hs (l := 0) (h := k) (by simp [Instr.sliceBounds, run_sliceBound, show (k : Int) ≤ N by omega]) h0]
  rfl)
/-- A store of a whole row of one's own. -/
theorem lg_stw {tr : TypeId} {b : Nat} {old cs : Array Value} (hw : Want ops E o true) (hr : RowAt w b tr old) (ho : o.op = .store t x y) (hx : val E x = some (pv b 0)) (hy : val E y = some (.agg cs))
    (hi : (P.info? t).map (·.size) = some cs.size) (h1 : cs.all (·.oneCell') = true) (hsz : old.size = cs.size) (hd : o.dst = none)
    (h : ∀ w', Set1 w w' b tr cs → LG P ops Q n E rest w') : LG P ops Q n E (o :: rest) w :=
  lg_st hw hr ho hx hy hi h1 (by show 0 + cs.size ≤ _; omega) (by
    show (old.toList.take 0 ++ cs.toList ++ old.toList.drop (0 + cs.size)).toArray = cs
    rw [List.drop_eq_nil_of_le (by simp; omega)]
    simp) hd h
/-- A store of one cell into a row of one's own. -/
theorem lg_st1 {tr : TypeId} {b j : Nat} {old new : Array Value} {u : Value} (hw : Want ops E o true) (hr : RowAt w b tr old) (ho : o.op = .store t x y) (hx : val E x = some (pv b j)) (hy : val E y = some u)
    (hi : (P.info? t).map (·.size) = some 1) (h1 : u.oneCell' = true) (hfit : j < old.size) (hnew : old.setIfInBounds j u = new) (hd : o.dst = none)
    (h : ∀ w', Set1 w w' b tr new → LG P ops Q n E rest w') : LG P ops Q n E (o :: rest) w := by
  have hc : u.cells = #[u] := by cases u <;> first | rfl | simp [Value.oneCell'] at h1
  refine lg_st hw hr ho hx hy (by rw [hc]; exact hi) (by rw [hc]; simpa using h1) (by rw [hc]; show j + 1 ≤ _; omega) ?_ hd h
  rw [hc, ← hnew]
  refine Array.toList_inj.1 ?_
  simp only [Array.toList_setIfInBounds, List.size_toArray, List.length_cons, List.length_nil]
  rw [List.set_eq_take_append_cons_drop, if_pos (by simpa using hfit)]
  simp
end
-- slices of octets that are made
section
variable {ops : Array Oper} {Q : Exit → Act → World → Prop} {n d : Nat} {E : Env} {o : Oper} {rest : List Oper} {w w0 : World} {v : Value} {x y : Operand} {t t' : TypeId}
theorem zeros_cB (k : Nat) : (zeros k).toArray = cB k fun _ => 0 := by
  unfold zeros cB
  refine congrArg _ ?_
  refine List.ext_getElem? fun i => ?_
  by_cases h : i < k
  · simp [h]
    rfl
  · simp [h]
/-- make([]byte, k) -/
theorem lg_mk {K : Int} (k : Nat) (hw : Want ops E o true) (e : K = k) (hk : k ≤ 70368744177664) (ho : o.op = .makeSlice 24 x y) (hx : val E x = some (nv K)) (hy : val E y = some (nv K)) (hd : o.dst = some d) (hn : d < n)
    (h : ∀ b w', New w w' b 5 (cB k fun _ => 0) → LG Tryd.prog ops Q n ((d, .slice (some ⟨b, 0, none⟩) k k) :: E) rest w') : LG Tryd.prog ops Q n E (o :: rest) w := by
  subst e
  refine lg_do hw (fun n a ha => ?_) hd hn (h w.heap.size _ (New.of_alloc 5 (cB k fun _ => 0)))
  have h1 := make_row k 0 0 rfl (by omega) w
  simp only [Int.add_zero, Nat.add_zero] at h1
  rw [zeros_cB] at h1
  simp only [execOp, ho, ha.eval hx, ha.eval hy, Sem.run_bind, nv, h1, Result.andThen_ok, Sem.run_pure]
/-- make([]byte, 0, k) -/
theorem lg_mk0 {K : Int} (k : Nat) (hw : Want ops E o true) (e : K = k) (hk : k ≤ 70368744177664) (ho : o.op = .makeSlice 24 x y) (hx : val E x = some (nv 0)) (hy : val E y = some (nv K)) (hd : o.dst = some d) (hn : d < n)
    (h : ∀ u w', w'.ownsRow w.heap.size 5 1 u ([] : List Int).length (([] : List Int).map (Value.int .u8)) → Below w.heap.size w w' → LG Tryd.prog ops Q n ((d, u) :: E) rest w') : LG Tryd.prog ops Q n E (o :: rest) w := by
  refine lg_do hw (fun n a ha => ?_) hd hn (h (.slice (some ⟨w.heap.size, 0, none⟩) 0 k) (w.alloc (.cells (zeros k).toArray 5)) (room_own k (by unfold maxLen; omega) w) ((Below.refl _ _).alloc (Nat.le_refl _) _))
  have h1 := make_room k K e (by omega) w
  simp only [execOp, ho, ha.eval hx, ha.eval hy, Sem.run_bind, nv, h1, Result.andThen_ok, Sem.run_pure]
/-- []byte{} -/
theorem lg_bs0 (hw : Want ops E o true) (ho : o.op = .buildSlice 24 0 #[]) (hd : o.dst = some d) (hn : d < n)
    (h : ∀ u w', w'.ownsRow w.heap.size 5 1 u ([] : List Int).length (([] : List Int).map (Value.int .u8)) → Below w.heap.size w w' → LG Tryd.prog ops Q n ((d, u) :: E) rest w') : LG Tryd.prog ops Q n E (o :: rest) w := by
  refine lg_do hw (fun n a ha => ?_) hd hn (h (.slice (some ⟨w.heap.size, 0, none⟩) 0 0) (w.alloc (.cells #[] 5)) (own_empty w _ (Below.refl _ _)) ((Below.refl _ _).alloc (Nat.le_refl _) _))
  obtain ⟨i0, hi0, hz0, hz1, hz2⟩ := info_parts info5
  simp [execOp, ho, Instr.buildSlice, run_underlying huo24, sizeOf, typeInfo, hi0, hz1, Instr.fill, newRow]
  have e : Array.map (fun (_ : Nat) => (default : Value)) (Array.range 0) = #[] := Array.eq_empty_of_size_eq_zero (by simp)
  rw [e]
theorem oct_lit {b : Nat} {tr : TypeId} {cs : Array Value} {xs : List Int} (r : RowAt w b tr cs) (hc : cs.toList = xs.map (Value.int .u8)) (hx : ∀ z ∈ xs, 0 ≤ z ∧ z ≤ 255) : Oct w (b + 1) (some ⟨b, 0, none⟩) xs.length xs :=
  ⟨rfl, hx, fun _ => ⟨b, 0, rfl, by omega, fun i z hi => by
    rw [Nat.zero_add, cell_of_row w b i cs tr _ r, ← Array.getElem?_toList, hc, List.getElem?_map, hi]
    rfl⟩⟩
/-- A place in a slice of octets, and what lies there. -/
theorem y_ixo {b off m c i : Nat} {iI : Int} (e : iI = i) (hi : i < m) (ho : o.op = .indexAddr 24 x y) (hx : val E x = some (.slice (some ⟨b, off, none⟩) m c)) (hy : val E y = some (nv iI)) : Yields Tryd.prog E o w (pv b (off + i)) :=
  y_ix (by
    subst e
    obtain ⟨i0, hi0, hz0, hz1, hz2⟩ := info_parts info5
    simp [Instr.indexAt, asIntOf, run_underlying huo24, sizeOf, typeInfo, hi0, hz1, hi, Addr.add]) ho hx hy
theorem y_celld {b j : Nat} (hc : w.cell? ⟨b, j, none⟩ = some v) (hu : aggB Tryd.prog t = some false) (ho : o.op = .load t x) (hx : val E x = some (pv b j)) : Yields Tryd.prog E o w v :=
  y_load (by simp [loadVar, run_isAgg hu, hc]) ho hx
theorem y_to8 {m : Int} {t0 : TypeId} (hs : (Tryd.prog.underlying t0).isSome = true) (ho : o.op = .convert t0 5 x) (hx : val E x = some (nv m)) : Yields Tryd.prog E o w (ov (toB m)) := by
  cases hq : Tryd.prog.underlying t0 with
  | none => simp [hq] at hs
  | some ds =>
    have h := y_conv_u (w := w) hq (show Tryd.prog.underlying 5 = some (.int .u8) by kernel_rfl) ho hx
    have e : IntKind.u8.wrap m = vb (toB m) := by
      rw [wrap_u8]
      unfold vb toB
      rw [BitVec.toNat_ofInt]
      omega
    rw [e] at h
    exact h
end
end Go.Proofs.YtdenbbfmiadcbaaDoor
