/-
  A walk that knows of a frame only what lies in the slots that it names: rules for lists of operations, for regions whose order is left open, for code.
-/
import Derived.Test.YtakbbenegojcdaaBlBase
import Derived.StillTailTactics
import Derived.LoopN
import Derived.Laws.Tables
import Derived.Deep.WholeRow
namespace Go.Proofs.Ytakbbenegojcdaa
open Go.ChangeShapes Go.WideShapes Go.ChangeAt Go.RowKit
set_option linter.unusedVariables false

abbrev Env := List (Nat × Value)
def look : Env → Nat → Option Value
  | [], _ => none
  | (k, v) :: r, d => bif Nat.beq k d then some v else look r d
def val (E : Env) : Operand → Option Value
  | .tmp t => look E t
  | .const v => some v
  | .global g => some (.pointer (some ⟨g, 0, none⟩))
  | .func f => some (.func (.func f) #[] #[])
/-- The frame has n slots, no deferred calls, and holds what the list says. -/
def Holds (n : Nat) (E : Env) (a : Act) : Prop := a.tmps.size = n ∧ a.defers = [] ∧ ∀ d v, look E d = some v → a.tmps[d]? = some v

theorem Holds.put {n d : Nat} {E : Env} {a : Act} {v : Value} (h : Holds n E a) (hd : d < n) : Holds n ((d, v) :: E) (a.put (some d) v) := by
  obtain ⟨h1, h2, h3⟩ := h
  refine ⟨by simp [Act.put, h1], by simp [Act.put, h2], fun k u hk => ?_⟩
  unfold look at hk
  by_cases e : d = k
  · subst e
    simp at hk
    simp [Act.put, h1, hd, hk]
  · have : Nat.beq d k = false := by
      rw [Bool.eq_false_iff]
      intro q
      exact e (Nat.eq_of_beq_eq_true q)
    rw [this] at hk
    simp only [cond_false] at hk
    simp [Act.put, e, h3 k u hk]
theorem Holds.eval {n : Nat} {E : Env} {a : Act} {x : Operand} {v : Value} (h : Holds n E a) (hx : val E x = some v) : a.eval x = v := by
  cases x with
  | tmp t =>
    have := h.2.2 t v hx
    simp [Act.eval, this]
  | const u => simpa [val, Act.eval] using hx
  | global g => simpa [val, Act.eval] using hx
  | func f => simpa [val, Act.eval] using hx
theorem Holds.weak {n : Nat} {E E' : Env} {a : Act} (h : Holds n E a) (hs : ∀ d v, look E' d = some v → look E d = some v) : Holds n E' a :=
  ⟨h.1, h.2.1, fun d v q => h.2.2 d v (hs d v q)⟩
theorem Holds.keep {n : Nat} {E E' : Env} {a : Act} (h : Holds n E a) (hs : ∀ p ∈ E', look E p.1 = some p.2) : Holds n E' a := by
  refine h.weak fun d v q => ?_
  induction E' with
  | nil => simp [look] at q
  | cons p r ih =>
    obtain ⟨k, u⟩ := p
    unfold look at q
    by_cases e : k = d
    · subst e
      simp at q
      subst q
      exact hs (k, u) (by simp)
    · have : Nat.beq k d = false := by
        rw [Bool.eq_false_iff]
        intro q
        exact e (Nat.eq_of_beq_eq_true q)
      rw [this] at q
      exact ih (fun p hp => hs p (by simp [hp])) q
/-- The same for a frame of which all is known. -/
theorem Holds.lit {n : Nat} {E : Env} {l : List Value} (hn : l.length = n) (hs : ∀ p ∈ E, l[p.1]? = some p.2) : Holds n E { tmps := l.toArray, defers := [] } := by
  refine ⟨by simpa using hn, rfl, fun d v q => ?_⟩
  induction E with
  | nil => simp [look] at q
  | cons p r ih =>
    obtain ⟨k, u⟩ := p
    unfold look at q
    by_cases e : k = d
    · subst e
      simp at q
      subst q
      simpa using hs (k, u) (by simp)
    · have : Nat.beq k d = false := by
        rw [Bool.eq_false_iff]
        intro q
        exact e (Nat.eq_of_beq_eq_true q)
      rw [this] at q
      exact ih (fun p hp => hs p (by simp [hp])) q

section
variable {P : Program} {ops : Array Oper} {Q : Exit → Act → World → Prop} {n d : Nat} {E : Env} {o : Oper} {rest : List Oper} {w : World} {v : Value}

def Yields (P : Program) (E : Env) (o : Oper) (w : World) (v : Value) : Prop := ∀ n a, Holds n E a →
  ((execOp a.eval o).run P w = .ok (.value v) w ∨ ∃ f args, (execOp a.eval o).run P w = .ok (.enter f args) w ∧ Calls P f args w fun e w' => e = .returned v ∧ w' = w)
def LG (P : Program) (ops : Array Oper) (Q : Exit → Act → World → Prop) (n : Nat) (E : Env) (rest : List Oper) (w : World) : Prop := ∀ a, Holds n E a → wpList P ops Q rest a w
def SG (P : Program) (ops : Array Oper) (Q : Act → Prop) (n : Nat) (E : Env) (rest : List Oper) (w : World) : Prop := ∀ a, Holds n E a → wpStill P ops w Q rest a
def CG (P : Program) (Q : Exit → Act → World → Prop) (n : Nat) (E : Env) (c : Code) (w : World) : Prop := ∀ a, Holds n E a → c.wp P Q a w

theorem wanted_none (hg : o.guard = none) (f : Nat → Option Bool) : Region.wanted o f = true := by
  simp [Region.wanted, hg]
theorem ls (y : Yields P E o w v) (hd : o.dst = some d) (hg : o.guard = none) (hn : d < n) (h : LG P ops Q n ((d, v) :: E) rest w) : LG P ops Q n E (o :: rest) w := by
  intro a ha
  have h' := h _ (ha.put (v := v) hn)
  rw [← hd] at h'
  unfold wpList
  rw [wanted_none hg, if_pos rfl]
  refine .inl ?_
  unfold Oper.wp
  rcases y n a ha with hy | ⟨f, args, hy, hc⟩
  · rw [hy]
    exact h'
  · rw [hy, Oper.upon_enter]
    refine hc.mono ?_
    rintro e w' ⟨rfl, rfl⟩
    exact h'
theorem st {Q : Act → Prop} (y : Yields P E o w v) (hd : o.dst = some d) (hg : o.guard = none) (hn : d < n) (h : SG P ops Q n ((d, v) :: E) rest w) : SG P ops Q n E (o :: rest) w := by
  intro a ha
  have h' := h _ (ha.put (v := v) hn)
  rw [← hd] at h'
  unfold wpStill
  rw [wanted_none hg, if_pos rfl]
  unfold Oper.still
  rcases y n a ha with hy | ⟨f, args, hy, hc⟩
  · rw [hy]
    exact ⟨rfl, h'⟩
  · rw [hy]
    exact ⟨rfl, v, hc, h'⟩
theorem lg_nil (h : ∀ a, Holds n E a → Q .normal a w) : LG P ops Q n E [] w := h
theorem sg_nil {Q : Act → Prop} (h : ∀ a, Holds n E a → Q a) : SG P ops Q n E [] w := h
theorem cg_region {id : Nat} {l : List Oper} (h : LG P l.toArray Q n E l w) : CG P Q n E (.region id l.toArray false) w := fun a ha => wp_region_lit (h a ha)
theorem cg_still {id : Nat} {l : List Oper} (hm : P.follows .mixedOrders = true) (hB : Region.lexB .any l.toArray = true)
    (h : ∀ W, W = w.drew → SG P l.toArray (fun a => Q .normal a W) n E l W) : CG P Q n E (.region id l.toArray true) w := fun a ha =>
  wp_region_still_lit hm hB (h _ rfl a ha)
theorem cg_tail {id : Nat} {l : List Oper} (k : Nat) (hm : P.follows .mixedOrders = true) (hB : Region.lexTailB .any l.toArray k = true)
    (h : ∀ W, W = w.drew → SG P l.toArray (fun a => wpList P l.toArray Q (l.drop k) a W) n E (l.take k) W) : CG P Q n E (.region id l.toArray true) w := fun a ha =>
  wp_region_still_tail k hm hB (h _ rfl a ha)
theorem cg_seq {x y : Code} (h : CG P (Exit.then (y.wp P Q) Q) n E x w) : CG P Q n E (.seq x y) w := fun a ha => wp_seq (h a ha)
theorem cg_block {id : Nat} {c : Code} (h : CG P (Exit.inBlock id Q) n E c w) : CG P Q n E (.block id c) w := fun a ha => wp_block (h a ha)
theorem cg_cond {c : Operand} {x y : Code} (t : Bool) (hc : val E c = some (.bool t)) (h1 : t = true → CG P Q n E x w) (h0 : t = false → CG P Q n E y w) : CG P Q n E (.cond c x y) w := fun a ha =>
  wp_cond_split (ha.eval hc) (fun e => h1 e a ha) (fun e => h0 e a ha)
theorem cg_skip (h : ∀ a, Holds n E a → Q .normal a w) : CG P Q n E .skip w := fun a ha => wp_skip (h a ha)
theorem cg_ret (h : ∀ a, Holds n E a → Q .ret a w) : CG P Q n E .ret w := fun a ha => wp_ret (h a ha)
theorem cg_exit {id : Nat} (h : ∀ a, Holds n E a → Q (.exit id) a w) : CG P Q n E (.exit id) w := fun a ha => wp_exit (h a ha)

-- what the operations yield
theorem y_move {x : Operand} (ho : o.op = .move x) (hx : val E x = some v) : Yields P E o w v := fun n a ha => .inl (by
  unfold execOp
  rw [ho]
  simp only [ha.eval hx]
  rfl)
theorem y_assign {x : Operand} (ho : o.op = .assign x) (hx : val E x = some v) : Yields P E o w v := fun n a ha => .inl (by
  unfold execOp
  rw [ho]
  simp only [ha.eval hx]
  rfl)
theorem y_bin {x y : Operand} {b : BinOp} {t t' : TypeId} {vx vy : Value} (hb : ∀ x y w, (do eqGuard b t x y vx vy; binOp b t vx vy).run P w = .ok v w) (ho : o.op = .binOp b t x y t') (hx : val E x = some vx) (hy : val E y = some vy) : Yields P E o w v := fun n a ha => .inl (by
  unfold execOp
  rw [ho]
  simp only [ha.eval hx, ha.eval hy]
  rw [Sem.run_bind, hb x y w]
  rfl)
theorem y_un {x : Operand} {b : UnOp} {t : TypeId} {vx : Value} (hb : ∀ w, (Op.unary b vx).run P w = .ok v w) (ho : o.op = .unOp b t x) (hx : val E x = some vx) : Yields P E o w v := fun n a ha => .inl (by
  unfold execOp
  rw [ho]
  simp only [ha.eval hx]
  rw [Sem.run_bind, hb w]
  rfl)
theorem y_conv {x : Operand} {s t : TypeId} {vx : Value} (hb : ∀ w, (convert s t vx).run P w = .ok v w) (ho : o.op = .convert s t x) (hx : val E x = some vx) : Yields P E o w v := fun n a ha => .inl (by
  unfold execOp
  rw [ho]
  simp only [ha.eval hx]
  rw [Sem.run_bind, hb w]
  rfl)
theorem y_load {x : Operand} {t : TypeId} {p : Addr} (hb : (loadVar t p).run P w = .ok v w) (ho : o.op = .load t x) (hx : val E x = some (.pointer (some p))) : Yields P E o w v := fun n a ha => .inl (by
  unfold execOp
  rw [ho]
  simp only [ha.eval hx, Instr.loadAt, Instr.sureAddr, Sem.run_bind, Sem.run_pure, Result.andThen_ok, hb])
theorem y_ix {x y : Operand} {t : TypeId} {vx vy : Value} (hb : (Instr.indexAt t vx vy).run P w = .ok v w) (ho : o.op = .indexAddr t x y) (hx : val E x = some vx) (hy : val E y = some vy) : Yields P E o w v := fun n a ha => .inl (by
  unfold execOp
  rw [ho]
  simp only [ha.eval hx, ha.eval hy]
  rw [Sem.run_bind, hb]
  rfl)
theorem y_index {x y : Operand} {t : TypeId} {vx vy : Value} (hb : (Instr.index t vx vy).run P w = .ok v w) (ho : o.op = .index t x y) (hx : val E x = some vx) (hy : val E y = some vy) : Yields P E o w v := fun n a ha => .inl (by
  unfold execOp
  rw [ho]
  simp only [ha.eval hx, ha.eval hy]
  rw [Sem.run_bind, hb]
  rfl)
theorem call_enter {f : FuncId} (hf : ((P.funcs[f]?).map fun fn => (fn.name == "runtime.NumGoroutine", fn.body.isNone)) = some (false, false)) (args : Array Value) (w : World) :
    (callFunc f args).run P w = .ok (.enter f args) w := by
  cases hq : P.funcs[f]? with
  | none => rw [hq] at hf; simp at hf
  | some fn =>
    rw [hq] at hf
    simp only [Option.map_some, Option.some.injEq, Prod.mk.injEq] at hf
    have h1 : ¬ fn.name = "runtime.NumGoroutine" := by simpa using hf.1
    have h2 : ¬ fn.body = none := fun e => by have := hf.2; rw [e] at this; simp at this
    simp [callFunc, hq, h1, h2]
theorem exec_enter {f : FuncId} (hf : ((P.funcs[f]?).map fun fn => (fn.name == "runtime.NumGoroutine", fn.body.isNone)) = some (false, false)) (xs : Array Operand) (ts : Array TypeId) (a : Act) (args : Array Value)
    (hx : xs.map a.eval = args) (o : Oper) (ho : o.op = .call { callee := .value (.func f), args := xs, argTypes := ts }) (w : World) : (execOp a.eval o).run P w = .ok (.enter f args) w := by
  subst hx
  unfold execOp
  rw [ho]
  have := call_enter hf (xs.map a.eval) w
  simp [resolve, Deferred.ofValue, Act.eval, invoke, this]
/-- What a list of operands reads as. -/
def vals (E : Env) : List Operand → Option (List Value)
  | [] => some []
  | x :: r => (val E x).bind fun v => (vals E r).map (v :: ·)
theorem Holds.evals {a : Act} (h : Holds n E a) : ∀ {xs : List Operand} {vs : List Value}, vals E xs = some vs → xs.map a.eval = vs
  | [], vs, q => by simp [vals] at q; simp [q]
  | x :: r, vs, q => by
    unfold vals at q
    cases hx : val E x with
    | none => simp [hx] at q
    | some v =>
      cases hr : vals E r with
      | none => simp [hx, hr] at q
      | some us =>
        simp [hx, hr] at q
        subst q
        simp [h.eval hx, h.evals hr]
theorem y_call {f : FuncId} {xs : List Operand} {ts : Array TypeId} {vs : List Value} (hc : Calls P f vs.toArray w fun e w' => e = .returned v ∧ w' = w)
    (hf : ((P.funcs[f]?).map fun fn => (fn.name == "runtime.NumGoroutine", fn.body.isNone)) = some (false, false))
    (ho : o.op = .call { callee := .value (.func f), args := xs.toArray, argTypes := ts }) (hx : vals E xs = some vs) : Yields P E o w v := fun n a ha =>
  .inr ⟨f, vs.toArray, exec_enter hf xs.toArray ts a _ (by simp [ha.evals hx]) o ho w, hc⟩
/-- A call that leaves another world. -/
theorem lg_call {f : FuncId} {xs : List Operand} {ts : Array TypeId} {vs : List Value} {R : Value → World → Prop} (hc : Calls P f vs.toArray w fun e w' => ∃ v, e = .returned v ∧ R v w')
    (hf : ((P.funcs[f]?).map fun fn => (fn.name == "runtime.NumGoroutine", fn.body.isNone)) = some (false, false))
    (ho : o.op = .call { callee := .value (.func f), args := xs.toArray, argTypes := ts }) (hx : vals E xs = some vs) (hd : o.dst = some d) (hg : o.guard = none) (hn : d < n)
    (h : ∀ v w', R v w' → LG P ops Q n ((d, v) :: E) rest w') : LG P ops Q n E (o :: rest) w := by
  intro a ha
  unfold wpList
  rw [wanted_none hg, if_pos rfl]
  refine .inl ?_
  unfold Oper.wp
  rw [exec_enter hf xs.toArray ts a vs.toArray (by simp [ha.evals hx]) o ho w, Oper.upon_enter]
  refine hc.mono ?_
  rintro e w' ⟨v, rfl, hR⟩
  show wpList P ops Q rest (a.put o.dst v) w'
  rw [hd]
  exact h v w' hR _ (ha.put hn)

/-- A row of cells of its own. -/
def RowAt (w : World) (b : Nat) (t : TypeId) (cs : Array Value) : Prop := w.heap[b]? = some (.cells cs t (0, 0))
/-- One block more, that holds the row. -/
structure New (w w' : World) (b : Nat) (t : TypeId) (cs : Array Value) : Prop where
  blk : b = w.heap.size
  size : w'.heap.size = b + 1
  row : RowAt w' b t cs
  below : Below w.heap.size w w'
/-- The row of one block is another one, nothing else. -/
structure Set1 (w w' : World) (b : Nat) (t : TypeId) (cs : Array Value) : Prop where
  size : w'.heap.size = w.heap.size
  row : RowAt w' b t cs
  other : ∀ k, k ≠ b → w'.heap[k]? = w.heap[k]?
  below : ∀ B, B ≤ b → Below B w w'
theorem RowAt.lt {b : Nat} {t : TypeId} {cs : Array Value} (h : RowAt w b t cs) : b < w.heap.size := (Array.getElem?_eq_some_iff.1 h).1
theorem New.of_alloc (t : TypeId) (cs : Array Value) : New w (w.alloc (.cells cs t)) w.heap.size t cs :=
  ⟨rfl, by show (w.heap.push _).size = _; simp, heap_alloc_new w _, (Below.refl _ _).alloc (Nat.le_refl _) _⟩
theorem New.keep {w' : World} {b b' : Nat} {t t' : TypeId} {cs cs' : Array Value} (h : New w w' b t cs) (r : RowAt w b' t' cs') : RowAt w' b' t' cs' := by
  unfold RowAt
  rw [h.below.block b' r.lt]
  exact r
theorem Set1.keep {w' : World} {b b' : Nat} {t t' : TypeId} {cs cs' : Array Value} (h : Set1 w w' b t cs) (r : RowAt w b' t' cs') (e : b' ≠ b) : RowAt w' b' t' cs' := by
  unfold RowAt
  rw [h.other b' e]
  exact r
theorem RowAt.below {w' : World} {B b : Nat} {t : TypeId} {cs : Array Value} (h : Below B w w') (hb : b < B) (r : RowAt w b t cs) : RowAt w' b t cs := by
  unfold RowAt
  rw [h.block b hb]
  exact r
theorem Set1.of_setRow {b : Nat} {t : TypeId} {old cs : Array Value} (h : RowAt w b t old) : Set1 w (w.setRow b cs) b t cs :=
  ⟨by simp, setRow_heap w b old cs t _ h, fun k hk => setRow_other w b k cs hk, fun B hB => ⟨rfl, rfl, rfl, by simp, fun k hk => setRow_other w b k cs (by omega)⟩⟩
theorem lg_box {t : TypeId} {x : Operand} {cs : Array Value} (ho : o.op = .box t x) (hx : val E x = some (.agg cs)) (hi : (P.info? t).map (·.size) = some cs.size) (hd : o.dst = some d) (hg : o.guard = none) (hn : d < n)
    (h : ∀ b w', New w w' b t cs → LG P ops Q n ((d, .pointer (some ⟨b, 0, none⟩)) :: E) rest w') : LG P ops Q n E (o :: rest) w := by
  intro a ha
  unfold wpList
  rw [wanted_none hg, if_pos rfl]
  refine .inl ?_
  unfold Oper.wp
  have he : (execOp a.eval o).run P w = .ok (.value (.pointer (some ⟨w.heap.size, 0, none⟩))) (w.alloc (.cells cs t)) := by
    unfold execOp
    rw [ho]
    simp only [ha.eval hx]
    simp [Instr.box, newVar, newRow, Value.cells]
  rw [he]
  show wpList P ops Q rest (a.put o.dst _) _
  rw [hd]
  exact h _ _ (New.of_alloc t cs) _ (ha.put hn)
theorem lg_alloc {t : TypeId} {cs : Array Value} (ho : o.op = .alloc t) (hi : (P.info? t).map (fun i => (i.zero, i.size)) = some (some (.agg cs), cs.size)) (hd : o.dst = some d) (hg : o.guard = none) (hn : d < n)
    (h : ∀ b w', New w w' b t cs → LG P ops Q n ((d, .pointer (some ⟨b, 0, none⟩)) :: E) rest w') : LG P ops Q n E (o :: rest) w := by
  intro a ha
  unfold wpList
  rw [wanted_none hg, if_pos rfl]
  refine .inl ?_
  unfold Oper.wp
  have he : (execOp a.eval o).run P w = .ok (.value (.pointer (some ⟨w.heap.size, 0, none⟩))) (w.alloc (.cells cs t)) := by
    unfold execOp
    rw [ho]
    simp [Instr.alloc, newVar, newRow, Value.cells, (zero_of_info hi)]
  rw [he]
  show wpList P ops Q rest (a.put o.dst _) _
  rw [hd]
  exact h _ _ (New.of_alloc t cs) _ (ha.put hn)
theorem lg_store_row {t tr : TypeId} {x y : Operand} {b : Nat} {old cs : Array Value} (hr : RowAt w b tr old) (ho : o.op = .store t x y) (hx : val E x = some (.pointer (some ⟨b, 0, none⟩))) (hy : val E y = some (.agg cs))
    (hi : (P.info? t).map (·.size) = some cs.size) (hold : old.size = cs.size) (h1 : cs.all (·.oneCell') = true) (hd : o.dst = none) (hg : o.guard = none)
    (h : ∀ w', Set1 w w' b tr cs → LG P ops Q n E rest w') : LG P ops Q n E (o :: rest) w := fun a ha =>
  wpList_store_row hg t x y ho b cs (ha.eval hx) (ha.eval hy) tr old hr hi hold h1 (by rw [hd]; exact h _ (Set1.of_setRow hr) a ha)
theorem lg_store {t tr : TypeId} {x y : Operand} {b j : Nat} {old : Array Value} {v : Value} (hr : RowAt w b tr old) (hj : j < old.size) (hv : v.oneCell' = true) (ho : o.op = .store t x y) (hx : val E x = some (.pointer (some ⟨b, j, none⟩))) (hy : val E y = some v)
    (hi : (P.info? t).map (·.size) = some 1) (hd : o.dst = none) (hg : o.guard = none)
    (h : ∀ w', Set1 w w' b tr (old.setIfInBounds j v) → LG P ops Q n E rest w') : LG P ops Q n E (o :: rest) w := by
  intro a ha
  unfold wpList
  rw [wanted_none hg, if_pos rfl]
  refine .inl ?_
  unfold Oper.wp
  have hc : w.cell? ⟨b, j, none⟩ = some old[j] := by rw [cell_of_row w b j old tr _ hr]; simp [hj]
  have he : (execOp a.eval o).run P w = .ok .skip (w.setRow b (old.setIfInBounds j v)) := by
    unfold execOp
    rw [ho]
    simp only [ha.eval hx, ha.eval hy, Instr.storeAt, Instr.sureAddr]
    have hs : (storeVar t ⟨b, j, none⟩ v).run P w = .ok () (w.setRow b (old.setIfInBounds j v)) := by
      rw [← setCell_eq_setRow w b j old tr _ v hr]
      have hvc : v.cells = #[v] := by cases v <;> first | rfl | simp [Value.oneCell'] at hv
      cases hq : P.info? t with
      | none => simp [hq] at hi
      | some it =>
        have hz : it.size = 1 := by simpa [hq] using hi
        have hadd : (⟨b, j, none⟩ : Addr).add 0 = ⟨b, j, none⟩ := by simp [Addr.add]
        simp [storeVar, Sem.run_bind, sizeOf, typeInfo, hq, hz, hvc, storeCells, hadd, run_store P w _ v _ hv, hc, frozen_of_row w b j old tr hr]
    simp [hs]
  rw [he]
  show wpList P ops Q rest (a.put o.dst undef) _
  rw [hd]
  exact h _ (Set1.of_setRow hr) a ha
theorem y_build {t : TypeId} {parts : Array (Nat × Operand)} {cs : Array Value} {vs : List Value} (ho : o.op = .build t parts) (hx : vals E (parts.toList.map (·.2)) = some vs) (hb : P.built t ((parts.toList.map (·.1)).zip vs) = some cs) : Yields P E o w (.agg cs) := fun n a ha => .inl (by
  unfold execOp
  rw [ho]
  have e : (parts.map fun (i, x) => (i, a.eval x)).toList = (parts.toList.map (·.1)).zip vs := by
    rw [← ha.evals hx]
    rw [List.map_map, List.zip_map', Array.toList_map]
    rfl
  rw [Sem.run_bind, run_build w t _ cs (by rw [e]; exact hb)]
  rfl)
theorem cg_loop {c : Code} {a : Act} (I : Nat → Act → World → Prop) (N : Nat) (h0 : I 0 a w) (round : ∀ t a w, t ≤ N → I t a w → c.wp P (Exit.then (fun a' w' => t < N ∧ I (t + 1) a' w') Q) a w) : (Code.loop c).wp P Q a w := by
  refine wp_loop_rounds (N + 1) ?_
  have key : ∀ k t a w, t + k = N → I t a w → Code.rounds P c Q (k + 1) a w := by
    intro k
    induction k with
    | zero =>
      intro t a w ht hI
      refine Code.wp_mono (fun e a w q => ?_) (round t a w (by omega) hI)
      cases e <;> first | exact q | (have := q.1; omega)
    | succ k ih =>
      intro t a w ht hI
      refine Code.wp_mono (fun e a w q => ?_) (round t a w (by omega) hI)
      cases e <;> first | exact ih (t + 1) _ _ (by omega) q.2 | exact q
  exact key N 0 a w (by omega) h0
theorem fk {k : Nat} {v : Value} {r : Env} (h : look E k = some v) (hr : ∀ p ∈ r, look E p.1 = some p.2) : ∀ p ∈ (k, v) :: r, look E p.1 = some p.2 := by
  intro p hp
  rcases List.mem_cons.1 hp with rfl | h'
  · exact h
  · exact hr p h'
theorem cg_at {c : Code} {a : Act} (ha : Holds n E a) (h : CG P Q n E c w) : c.wp P Q a w := h a ha
theorem nxb {id : Nat} {E' : Env} {y : Code} {Q' : Exit → Act → World → Prop} (hE : ∀ p ∈ E', look E p.1 = some p.2) (h : CG P Q n E' y w) : ∀ a, Holds n E a → Exit.inBlock id (Exit.then (y.wp P Q) Q') .normal a w := fun a ha => h a (ha.keep hE)
theorem sg_lg (h : LG P ops Q n E rest w) : SG P ops (fun a => wpList P ops Q rest a w) n E [] w := h
theorem fn : ∀ p ∈ ([] : Env), look E p.1 = some p.2 := by simp
theorem nx {E' : Env} {y : Code} {Q' : Exit → Act → World → Prop} (hE : ∀ p ∈ E', look E p.1 = some p.2) (h : CG P Q n E' y w) : ∀ a, Holds n E a → Exit.then (y.wp P Q) Q' .normal a w := fun a ha => h a (ha.keep hE)
theorem ex_out {id : Nat} {K1 K2 : Act → World → Prop} (h : ∀ a, Holds n E a → Q .normal a w) : ∀ a, Holds n E a → Exit.then K1 (Exit.then K2 (Exit.inBlock id Q)) (.exit id) a w := fun a ha => by
  show (if id = id then _ else _)
  rw [if_pos rfl]
  exact h a ha
theorem calls_cg {f : FuncId} {fn : Func} {c : Code} {vs : List Value} {R : Ending → World → Prop} (hf : P.funcs[f]? = some fn) (hb : fn.body = some c) (hn : fn.ntmps = n) (hl : vs.length ≤ n)
    (h : CG P (bodyPost P fn R) n ((List.range vs.length).zip vs) c w) : Calls P f vs.toArray w R := by
  refine calls_of_wp hf hb (h _ ?_)
  refine ⟨by simp [hn]; omega, rfl, fun d v q => ?_⟩
  have key : ∀ (us : List Value) (k : Nat), look ((List.range' k us.length).zip us) d = some v → k ≤ d ∧ us[d - k]? = some v := by
    intro us
    induction us with
    | nil => intro k q; simp [look] at q
    | cons u us ih =>
      intro k q
      simp only [List.length_cons, List.range'_succ, List.zip_cons_cons] at q
      unfold look at q
      by_cases e : k = d
      · subst e
        simp at q
        simp [q]
      · have : Nat.beq k d = false := by
          rw [Bool.eq_false_iff]
          intro q
          exact e (Nat.eq_of_beq_eq_true q)
        rw [this] at q
        obtain ⟨h1, h2⟩ := ih (k + 1) q
        refine ⟨by omega, ?_⟩
        rw [show d - k = (d - (k + 1)) + 1 by omega]
        simpa using h2
  have := key vs 0 (by simpa [List.range_eq_range'] using q)
  have h2 : vs[d]? = some v := by simpa using this.2
  have hlt : d < vs.length := (List.getElem?_eq_some_iff.1 h2).1
  show (vs.toArray ++ _)[d]? = _
  rw [Array.getElem?_append_left (by simpa using hlt)]
  simpa using h2
theorem ret_row {fn : Func} {p : Tmp} {ty t : TypeId} {b : Nat} {cs : Array Value} {m : Nat} {e : TypeId} {R : Ending → World → Prop} (h : fn.results = #[.cell p ty]) (hp : look E p = some (.pointer (some ⟨b, 0, none⟩))) (hr : RowAt w b t cs)
    (hu : P.underlying ty = some (.array m e)) (hi : (P.info? ty).map (·.size) = some cs.size) (hR : R (.returned (.agg cs)) w) : CG P (bodyPost P fn R) n E .ret w :=
  cg_ret fun a ha => bodyPost_ret (results_cell_row h a.tmps w b t cs _ _ (by have := ha.2.2 p _ hp; simp [this]) hr hu rfl hi) ha.2.1 hR
end
end Go.Proofs.Ytakbbenegojcdaa
