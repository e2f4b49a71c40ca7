/-
  Rules for code: what an end of a piece of code leads to; loops; results; a block of one's own that a callee writes: they name no type.
-/
import Derived.Test.YtakbbenegojcdaaWkI
namespace Go.Proofs.Ytakbbenegojcdaa
open Go.ChangeShapes Go.WideShapes Go.ChangeAt Go.RowKit
set_option linter.unusedVariables false

section
variable {P : Program} {ops : Array Oper} {Q Q' : Exit → Act → World → Prop} {n d : Nat} {E : Env} {o : Oper} {rest : List Oper} {w w0 : World} {v : Value} {x y : Operand} {t t' : TypeId} {K : Act → World → Prop} {id id' : Nat}

theorem eg_seq_exit (h : ∀ a, Holds n E a → Q (.exit id) a w) : ∀ a, Holds n E a → Exit.then K Q (.exit id) a w := h
theorem eg_seq_ret (h : ∀ a, Holds n E a → Q .ret a w) : ∀ a, Holds n E a → Exit.then K Q .ret a w := h
theorem eg_block_norm (h : ∀ a, Holds n E a → Q .normal a w) : ∀ a, Holds n E a → Exit.inBlock id Q .normal a w := h
theorem eg_block_ret (h : ∀ a, Holds n E a → Q .ret a w) : ∀ a, Holds n E a → Exit.inBlock id Q .ret a w := h
theorem eg_block_exit (h : ∀ a, Holds n E a → Q .normal a w) : ∀ a, Holds n E a → Exit.inBlock id Q (.exit id) a w := fun a ha => by
  show (if id = id then _ else _)
  rw [if_pos rfl]
  exact h a ha
theorem eg_block_other (hne : id' ≠ id) (h : ∀ a, Holds n E a → Q (.exit id') a w) : ∀ a, Holds n E a → Exit.inBlock id Q (.exit id') a w := fun a ha => by
  show (if id' = id then _ else _)
  rw [if_neg hne]
  exact h a ha
theorem cg_ct {c : Operand} {x y : Code} (hc : val E c = some (.bool true)) (h : CG P Q n E x w) : CG P Q n E (.cond c x y) w := cg_cond true hc (fun _ => h) (fun e => by cases e)
theorem cg_cf {c : Operand} {x y : Code} (hc : val E c = some (.bool false)) (h : CG P Q n E y w) : CG P Q n E (.cond c x y) w := cg_cond false hc (fun e => by cases e) (fun _ => h)
theorem cg_if {p : Prop} [Decidable p] {c : Operand} {x y : Code} (hc : val E c = some (.bool (decide p))) (h1 : p → CG P Q n E x w) (h0 : ¬ p → CG P Q n E y w) : CG P Q n E (.cond c x y) w :=
  cg_cond (decide p) hc (fun e => h1 (of_decide_eq_true e)) (fun e => h0 (of_decide_eq_false e))
theorem cg_ifn {p : Prop} [Decidable p] {c : Operand} {x y : Code} (hc : val E c = some (.bool (!decide p))) (h1 : ¬ p → CG P Q n E x w) (h0 : p → CG P Q n E y w) : CG P Q n E (.cond c x y) w :=
  cg_cond (!decide p) hc (fun e => h1 (by simpa using e)) (fun e => h0 (by simpa using e))
theorem cg_loopE {c : Code} (I : Nat → Act → World → Prop) (N : Nat) (h0 : ∀ a, Holds n E a → I 0 a w) (round : ∀ t a v, t ≤ N → I t a v → c.wp P (Exit.then (fun a' w' => t < N ∧ I (t + 1) a' w') Q) a v) : CG P Q n E (.loop c) w :=
  fun a ha => cg_loop I N (h0 a ha) round
theorem eg_ret_tmp {fn : Func} {p : Tmp} {R : Ending → World → Prop} (h : fn.results = #[.tmp p]) (hp : look E p = some v) (hR : R (.returned v) w) : ∀ a, Holds n E a → bodyPost P fn R .ret a w :=
  fun a ha => bodyPost_ret (by have := ha.2.2 p _ hp; simp [results, h, this]) ha.2.1 hR
theorem eg_ret_tmp2 {fn : Func} {p q : Tmp} {u : Value} {R : Ending → World → Prop} (h : fn.results = #[.tmp p, .tmp q]) (hp : look E p = some v) (hq : look E q = some u) (hR : R (.returned (.tuple #[v, u])) w) : ∀ a, Holds n E a → bodyPost P fn R .ret a w :=
  fun a ha => bodyPost_ret (by have h1 := ha.2.2 p _ hp; have h2 := ha.2.2 q _ hq; simp [results, h, h1, h2]) ha.2.1 hR
theorem eg_ret_none {fn : Func} {R : Ending → World → Prop} (h : fn.results = #[]) (hR : R (.returned (.tuple #[])) w) : ∀ a, Holds n E a → bodyPost P fn R .ret a w :=
  fun a ha => bodyPost_ret (by simp [results, h]) ha.2.1 hR
theorem eg_ret_agg {fn : Func} {p : Tmp} {ty tr : TypeId} {b : Nat} {cs : Array Value} {R : Ending → World → Prop} (h : fn.results = #[.cell p ty]) (hp : look E p = some (pv b 0)) (hr : RowAt w b tr cs)
    (hu : aggB P ty = some true) (hi : (P.info? ty).map (·.size) = some cs.size) (hR : R (.returned (.agg cs)) w) : ∀ a, Holds n E a → bodyPost P fn R .ret a w :=
  fun a ha => by
    unfold aggB at hu
    cases hq : P.underlying ty with
    | none => simp [hq] at hu
    | some dd =>
      rw [hq] at hu
      exact bodyPost_ret (results_cell_row h a.tmps w b tr cs _ dd (by have := ha.2.2 p _ hp; simp [this]) hr hq (by cases dd <;> first | rfl | (simp at hu)) hi) ha.2.1 hR
theorem eg_end_none {fn : Func} {R : Ending → World → Prop} (h : fn.results = #[]) (hR : R (.returned (.tuple #[])) w) : ∀ a, Holds n E a → bodyPost P fn R .normal a w :=
  fun a ha => bodyPost_end (by simp [results, h]) ha.2.1 hR
/-- The call writes one block that was there, and makes others; nothing else. -/
structure But (w w' : World) (b : Nat) : Prop where
  size : w.heap.size ≤ w'.heap.size
  other : ∀ k, k < w.heap.size → k ≠ b → w'.heap[k]? = w.heap[k]?
  below : ∀ B, B ≤ b → B ≤ w.heap.size → Below B w w'
theorem But.keep {w' : World} {b b' : Nat} {cs' : Array Value} (h : But w w' b) (r : RowAt w b' t cs') (e : b' ≠ b) : RowAt w' b' t cs' := by
  unfold RowAt
  rw [h.other b' r.lt e]
  exact r
theorem But.refl (b : Nat) : But w w b := ⟨Nat.le_refl _, fun _ _ _ => rfl, fun B _ _ => Below.refl _ _⟩
theorem But.grow {v w' : World} {b : Nat} (h : But w v b) (g : Below v.heap.size v w') : But w w' b :=
  ⟨Nat.le_trans h.size g.size, fun k hk e => (g.block k (Nat.lt_of_lt_of_le hk h.size)).trans (h.other k hk e), fun B h1 h2 => (h.below B h1 h2).trans (g.mono (Nat.le_trans h2 h.size))⟩
theorem But.set {v w' : World} {b c : Nat} {cs : Array Value} (h : But w v b) (s : Set1 v w' c t cs) (hc : w.heap.size ≤ c ∨ c = b) : But w w' b :=
  ⟨by rw [s.size]; exact h.size, fun k hk e => (s.other k (by omega)).trans (h.other k hk e), fun B h1 h2 => (h.below B h1 h2).trans (s.below B (by omega))⟩
theorem But.but {v w' : World} {b : Nat} (h : But w v b) (g : But v w' b) : But w w' b :=
  ⟨Nat.le_trans h.size g.size, fun k hk e => (g.other k (Nat.lt_of_lt_of_le hk h.size) e).trans (h.other k hk e), fun B h1 h2 => (h.below B h1 h2).trans (g.below B h1 (Nat.le_trans h2 h.size))⟩
theorem below_drew (w W : World) (h : W = w.drew) : Below w.heap.size w W := by subst h; exact (Below.refl _ _).drew
theorem size_drew (w W : World) (h : W = w.drew) : W.heap.size = w.heap.size := by subst h; rfl
-- a region held by a condition of one's own
def HGS (P : Program) (ops : Array Oper) (Q : Exit → Act → World → Prop) (S : World → Prop) (n fuel : Nat) (listed : Array Bool) (E : Env) (w : World) : Prop := ∀ a, Holds n E a → wpAnyH P .any ops Q S fuel listed a w
theorem cg_heldS {l : List Oper} (S : World → Prop) (hm : P.follows .mixedOrders = true) (hS : ∀ W, W = w.drew → S W) (h : ∀ W, W = w.drew → HGS P l.toArray Q S n l.toArray.size (Array.replicate l.toArray.size false) E W) : CG P Q n E (.region id l.toArray true) w := fun a ha =>
  wp_region_held_drew (S := S) hm (hS _ rfl) (fun _ => h _ rfl a ha)
theorem hgs_take {S : World → Prop} {fuel : Nat} {listed : Array Bool} (i : Nat) (ho : ops[i]? = some o) (hw : Want ops E o true) (hv : isVal o.op = true) (hd : o.dst = some d) (hn : d < n)
    (hs : Region.noSelect ops = true) (hf : Region.free .any ops listed i = true) (hr : (Region.ready .any ops listed).contains i = true)
    (hQ : ∀ c a w, Q (.panic c) (a.put (some d) v) w → Q (.panic c) a w) (hb : S w) (y : ∀ w', S w' → Yields P E o w' v)
    (h : HGS P ops Q S n fuel (listed.setIfInBounds i true) ((d, v) :: E) w) : HGS P ops Q S n (fuel + 1) listed E w := by
  intro a ha
  have h' := h _ (ha.put (v := v) hn)
  rw [← hd] at h' hQ
  refine wpAnyH_take (i := i) (oi := o) (v := v) ho hs hf hr hQ (.inl ⟨hw n a ha, fun w' hS => ?_⟩) hb h'
  rcases y w' hS n a ha with hy | ⟨f, args, hy, hc⟩
  · exact hy
  · exact absurd hy (val_of hv)
theorem hgs_takev {S : World → Prop} {fuel : Nat} {listed : Array Bool} (i : Nat) (ho : ops[i]? = some o) (hw : Want ops E o true) (hd : o.dst = some d) (hn : d < n)
    (hs : Region.noSelect ops = true) (hf : Region.free .any ops listed i = true) (hr : (Region.ready .any ops listed).contains i = true)
    (hQ : ∀ c a w, Q (.panic c) (a.put (some d) v) w → Q (.panic c) a w) (hb : S w) (y : ∀ w' n a, Holds n E a → (execOp a.eval o).run P w' = .ok (.value v) w')
    (h : HGS P ops Q S n fuel (listed.setIfInBounds i true) ((d, v) :: E) w) : HGS P ops Q S n (fuel + 1) listed E w := by
  intro a ha
  have h' := h _ (ha.put (v := v) hn)
  rw [← hd] at h' hQ
  exact wpAnyH_take (i := i) (oi := o) (v := v) ho hs hf hr hQ (.inl ⟨hw n a ha, fun w' hS => y w' n a ha⟩) hb h'
theorem hgs_one {S : World → Prop} {fuel : Nat} {listed : Array Bool} (i : Nat) (ho : ops[i]? = some o) (hr : Region.ready .any ops listed = [i]) (hw : Want ops E o true)
    (h : LG P ops (Exit.then (fun a w' => S w' ∧ wpAnyH P .any ops Q S fuel (listed.setIfInBounds i true) a w') Q) n E [o] w) : HGS P ops Q S n (fuel + 1) listed E w := by
  intro a ha
  refine wpAnyH_all hr (by simp) fun j hj => ?_
  obtain rfl : j = i := by simpa using hj
  exact op_of_lg j ho hw ha h
theorem hgs_next {S : World → Prop} {fuel : Nat} {listed : Array Bool} {i : Nat} (hb : S w) (h : HGS P ops Q S n fuel (listed.setIfInBounds i true) E w) : LG P ops (Exit.then (fun a w' => S w' ∧ wpAnyH P .any ops Q S fuel (listed.setIfInBounds i true) a w') Q) n E [] w :=
  fun a ha => ⟨hb, h a ha⟩
theorem hgs_done {S : World → Prop} {fuel : Nat} {listed : Array Bool} (hr : Region.ready .any ops listed = []) (h : ∀ a, Holds n E a → Q .normal a w) : HGS P ops Q S n fuel listed E w := fun a ha => wpAnyH_done hr (h a ha) fuel
theorem nd_t {p : Prop} [Decidable p] (h : ¬ p) : (!decide p) = true := by simp [h]
theorem nd_f {p : Prop} [Decidable p] (h : p) : (!decide p) = false := by simp [h]
end
end Go.Proofs.Ytakbbenegojcdaa
