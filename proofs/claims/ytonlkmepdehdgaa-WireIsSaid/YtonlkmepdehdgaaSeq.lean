/-
  A region whose order of evaluation is left open, walked in the order of its text: what only reads old memory may be taken first, in every world that keeps what was there; a call that makes memory is met where nothing else can come up.
-/
import Derived.Test.YtonlkmepdehdgaaRows
import Derived.Below
import Derived.KernelRfl
import Derived.Deep.RegionHeld
namespace Go.Proofs.Ytonlkmepdehdgaa
open Go.RowKit
set_option linter.unusedVariables false

section
variable {P : Program} {ops : Array Oper} {Q : Exit → Act → World → Prop} {md : Region.Mode}

/-- The worlds that keep all that was there. -/
def Keeps (w : World) : World → Prop := fun w' => Below w.heap.size w w'

theorem held_mono {S S' : World → Prop} (hS : ∀ w, S' w → S w) : ∀ (fuel : Nat) (listed : Array Bool) (a : Act) (w : World), wpAnyH P md ops Q S' fuel listed a w → wpAnyH P md ops Q S fuel listed a w
  | 0, _, _, _, h => h
  | fuel + 1, listed, a, w, h => ⟨h.1, fun i hi => wpOp_mono (fun a' w' k => ⟨hS _ k.1, held_mono hS fuel _ a' w' k.2⟩) (h.2 i hi)⟩

theorem seq_start {id : Nat} {a : Act} {w : World} (hm : P.follows .mixedOrders = true) (h : wpAnyH P .any ops Q (Keeps w.drew) ops.size (Array.replicate ops.size false) a w.drew) : (Code.region id ops true).wp P Q a w :=
  wp_region_held_drew hm (Below.refl _ _) (fun _ => h)

theorem seq_take {fuel : Nat} {listed : Array Bool} {a : Act} {w : World} (i : Nat) (d : Tmp) (v : Value) (op : Op)
    (hat : (ops[i]?).map (fun o => (o.op, o.dst)) = some (op, some d)) (hw : (ops[i]?).map (fun o => Region.wanted o (yielded ops a.tmps)) = some true)
    (hs : Region.noSelect ops = true) (hf : Region.free md ops listed i = true) (hr : (Region.ready md ops listed).contains i = true)
    (hQ : ∀ c a w, Q (.panic c) (a.put (some d) v) w → Q (.panic c) a w)
    (hy : ∀ o : Oper, o.op = op → ∀ w', Below w.heap.size w w' → (execOp a.eval o).run P w' = .ok (.value v) w')
    (h : wpAnyH P md ops Q (Keeps w) fuel (listed.setIfInBounds i true) (a.put (some d) v) w) : wpAnyH P md ops Q (Keeps w) (fuel + 1) listed a w := by
  cases ho : ops[i]? with
  | none => rw [ho] at hat; simp at hat
  | some o =>
    rw [ho] at hat hw
    simp only [Option.map_some, Option.some.injEq, Prod.mk.injEq] at hat hw
    refine wpAnyH_take (i := i) (oi := o) (v := v) ho hs hf hr (by rw [hat.2]; exact hQ) (.inl ⟨hw, fun w' hS => hy o hat.1 w' hS⟩) (Below.refl _ _) (by rw [hat.2]; exact h)

theorem seq_move {fuel : Nat} {listed : Array Bool} {a : Act} {w : World} (i : Nat) (d : Tmp) (v : Value) (x : Operand)
    (hat : (ops[i]?).map (fun o => (o.op, o.dst)) = some (.move x, some d)) (hw : (ops[i]?).map (fun o => Region.wanted o (yielded ops a.tmps)) = some true)
    (hs : Region.noSelect ops = true) (hf : Region.free md ops listed i = true) (hr : (Region.ready md ops listed).contains i = true)
    (hQ : ∀ c a w, Q (.panic c) (a.put (some d) v) w → Q (.panic c) a w) (hv : a.eval x = v)
    (h : wpAnyH P md ops Q (Keeps w) fuel (listed.setIfInBounds i true) (a.put (some d) v) w) : wpAnyH P md ops Q (Keeps w) (fuel + 1) listed a w :=
  seq_take i d v _ hat hw hs hf hr hQ (fun o ho w' _ => by unfold execOp; rw [ho]; simp only [hv]; rfl) h

theorem seq_assign {fuel : Nat} {listed : Array Bool} {a : Act} {w : World} (i : Nat) (d : Tmp) (v : Value) (x : Operand)
    (hat : (ops[i]?).map (fun o => (o.op, o.dst)) = some (.assign x, some d)) (hw : (ops[i]?).map (fun o => Region.wanted o (yielded ops a.tmps)) = some true)
    (hs : Region.noSelect ops = true) (hf : Region.free md ops listed i = true) (hr : (Region.ready md ops listed).contains i = true)
    (hQ : ∀ c a w, Q (.panic c) (a.put (some d) v) w → Q (.panic c) a w) (hv : a.eval x = v)
    (h : wpAnyH P md ops Q (Keeps w) fuel (listed.setIfInBounds i true) (a.put (some d) v) w) : wpAnyH P md ops Q (Keeps w) (fuel + 1) listed a w :=
  seq_take i d v _ hat hw hs hf hr hQ (fun o ho w' _ => by unfold execOp; rw [ho]; simp only [hv]; rfl) h

theorem seq_pick {fuel : Nat} {listed : Array Bool} {a : Act} {w : World} (i : Nat) (d : Tmp) (v : Value) (c x y : Operand) (b : Bool)
    (hat : (ops[i]?).map (fun o => (o.op, o.dst)) = some (.pick c x y, some d)) (hw : (ops[i]?).map (fun o => Region.wanted o (yielded ops a.tmps)) = some true)
    (hs : Region.noSelect ops = true) (hf : Region.free md ops listed i = true) (hr : (Region.ready md ops listed).contains i = true)
    (hQ : ∀ c a w, Q (.panic c) (a.put (some d) v) w → Q (.panic c) a w) (hc : a.eval c = .bool b) (hv : (if b then a.eval x else a.eval y) = v)
    (h : wpAnyH P md ops Q (Keeps w) fuel (listed.setIfInBounds i true) (a.put (some d) v) w) : wpAnyH P md ops Q (Keeps w) (fuel + 1) listed a w :=
  seq_take i d v _ hat hw hs hf hr hQ (fun o ho w' _ => by unfold execOp; rw [ho]; simp only [hc, ← hv]; rfl) h

theorem seq_convert {fuel : Nat} {listed : Array Bool} {a : Act} {w : World} (i : Nat) (d : Tmp) (v vx : Value) (src dst : TypeId) (x : Operand)
    (hat : (ops[i]?).map (fun o => (o.op, o.dst)) = some (.convert src dst x, some d)) (hw : (ops[i]?).map (fun o => Region.wanted o (yielded ops a.tmps)) = some true)
    (hs : Region.noSelect ops = true) (hf : Region.free md ops listed i = true) (hr : (Region.ready md ops listed).contains i = true)
    (hQ : ∀ c a w, Q (.panic c) (a.put (some d) v) w → Q (.panic c) a w) (hx : a.eval x = vx) (hc : ∀ w', Below w.heap.size w w' → (convert src dst vx).run P w' = .ok v w')
    (h : wpAnyH P md ops Q (Keeps w) fuel (listed.setIfInBounds i true) (a.put (some d) v) w) : wpAnyH P md ops Q (Keeps w) (fuel + 1) listed a w :=
  seq_take i d v _ hat hw hs hf hr hQ (fun o ho w' hb => by unfold execOp; rw [ho]; simp [hx, hc w' hb]) h

theorem seq_bin {fuel : Nat} {listed : Array Bool} {a : Act} {w : World} (i : Nat) (d : Tmp) (v vx vy : Value) (b : BinOp) (t t' : TypeId) (x y : Operand)
    (hat : (ops[i]?).map (fun o => (o.op, o.dst)) = some (.binOp b t x y t', some d)) (hw : (ops[i]?).map (fun o => Region.wanted o (yielded ops a.tmps)) = some true)
    (hs : Region.noSelect ops = true) (hf : Region.free md ops listed i = true) (hr : (Region.ready md ops listed).contains i = true)
    (hQ : ∀ c a w, Q (.panic c) (a.put (some d) v) w → Q (.panic c) a w) (hx : a.eval x = vx) (hy : a.eval y = vy)
    (hb : ∀ w', (do eqGuard b t x y vx vy; binOp b t vx vy).run P w' = .ok v w')
    (h : wpAnyH P md ops Q (Keeps w) fuel (listed.setIfInBounds i true) (a.put (some d) v) w) : wpAnyH P md ops Q (Keeps w) (fuel + 1) listed a w :=
  seq_take i d v _ hat hw hs hf hr hQ (fun o ho w' _ => by unfold execOp; rw [ho]; simp only [hx, hy]; rw [Sem.run_bind, hb w']; rfl) h

theorem call_enter {f : FuncId} (hf : ((P.funcs[f]?).map fun fn => (fn.name == "runtime.NumGoroutine", fn.body.isNone)) = some (false, false)) (args : Array Value) (w : World) :
    (callFunc f args).run P w = .ok (.enter f args) w := by
  cases hq : P.funcs[f]? with
  | none => rw [hq] at hf; simp at hf
  | some fn =>
    rw [hq] at hf
    simp only [Option.map_some, Option.some.injEq, Prod.mk.injEq] at hf
    have h1 : ¬ fn.name = "runtime.NumGoroutine" := by simpa using hf.1
    have h2 : ¬ fn.body = none := fun e => by have := hf.2; rw [e] at this; simp at this
    simp [callFunc, hq, h1, h2]

theorem exec_enter {f : FuncId} (hf : ((P.funcs[f]?).map fun fn => (fn.name == "runtime.NumGoroutine", fn.body.isNone)) = some (false, false)) (xs : Array Operand) (ts : Array TypeId) (a : Act) (args : Array Value)
    (hx : xs.map a.eval = args) (o : Oper) (ho : o.op = .call { callee := .value (.func f), args := xs, argTypes := ts }) (w : World) : (execOp a.eval o).run P w = .ok (.enter f args) w := by
  subst hx
  unfold execOp
  rw [ho]
  have := call_enter hf (xs.map a.eval) w
  simp [resolve, Deferred.ofValue, Act.eval, invoke, this]

theorem seq_call {fuel : Nat} {listed : Array Bool} {a : Act} {w : World} (i : Nat) (d : Tmp) (f : FuncId) (xs : Array Operand) (ts : Array TypeId) (args : Array Value)
    (hat : (ops[i]?).map (fun o => (o.op, o.dst)) = some (.call { callee := .value (.func f), args := xs, argTypes := ts }, some d)) (hw : (ops[i]?).map (fun o => Region.wanted o (yielded ops a.tmps)) = some true)
    (hr : Region.ready md ops listed = [i])
    (hf : ((P.funcs[f]?).map fun fn => (fn.name == "runtime.NumGoroutine", fn.body.isNone)) = some (false, false)) (hx : xs.map a.eval = args)
    (hc : Calls P f args w fun e w' => ∃ v, e = .returned v ∧ Below w.heap.size w w' ∧ wpAnyH P md ops Q (Keeps w') fuel (listed.setIfInBounds i true) (a.put (some d) v) w') :
    wpAnyH P md ops Q (Keeps w) (fuel + 1) listed a w := by
  cases ho : ops[i]? with
  | none => rw [ho] at hat; simp at hat
  | some o =>
    rw [ho] at hat hw
    simp only [Option.map_some, Option.some.injEq, Prod.mk.injEq] at hat hw
    refine wpAnyH_all hr (by simp) fun j hj => ?_
    obtain rfl : j = i := by simpa using hj
    unfold wpOp
    simp only [ho, hw, if_true]
    refine .inl ?_
    unfold Oper.wp
    rw [exec_enter hf xs ts a args hx o hat.1 w, Oper.upon_enter]
    refine hc.mono ?_
    rintro e w' ⟨v, rfl, hb, h⟩
    rw [hat.2]
    exact ⟨hb, held_mono (fun w'' hw'' => hb.trans (hw''.mono hb.size)) _ _ _ _ h⟩

/-- An operation whose guard does not want it. -/
theorem seq_skip {fuel : Nat} {listed : Array Bool} {a : Act} {w : World} (i : Nat) (d : Tmp)
    (hat : (ops[i]?).map (fun o => o.dst) = some (some d)) (hw : (ops[i]?).map (fun o => Region.wanted o (yielded ops a.tmps)) = some false)
    (hs : Region.noSelect ops = true) (hf : Region.free md ops listed i = true) (hr : (Region.ready md ops listed).contains i = true)
    (hQ : ∀ c a w, Q (.panic c) (a.put (some d) undef) w → Q (.panic c) a w)
    (h : wpAnyH P md ops Q (Keeps w) fuel (listed.setIfInBounds i true) (a.put (some d) undef) w) : wpAnyH P md ops Q (Keeps w) (fuel + 1) listed a w := by
  cases ho : ops[i]? with
  | none => rw [ho] at hat; simp at hat
  | some o =>
    rw [ho] at hat hw
    simp only [Option.map_some, Option.some.injEq] at hat hw
    exact wpAnyH_take (i := i) (oi := o) (v := undef) ho hs hf hr (by rw [hat]; exact hQ) (.inr ⟨hw, rfl⟩) (Below.refl _ _) (by rw [hat]; exact h)

/-- The same where nothing else can come up. -/
theorem seq_skip1 {fuel : Nat} {listed : Array Bool} {a : Act} {w : World} (i : Nat) (d : Tmp)
    (hat : (ops[i]?).map (fun o => o.dst) = some (some d)) (hw : (ops[i]?).map (fun o => Region.wanted o (yielded ops a.tmps)) = some false)
    (hr : Region.ready md ops listed = [i])
    (h : wpAnyH P md ops Q (Keeps w) fuel (listed.setIfInBounds i true) (a.put (some d) undef) w) : wpAnyH P md ops Q (Keeps w) (fuel + 1) listed a w := by
  cases ho : ops[i]? with
  | none => rw [ho] at hat; simp at hat
  | some o =>
    rw [ho] at hat hw
    simp only [Option.map_some, Option.some.injEq] at hat hw
    refine wpAnyH_all hr (by simp) fun j hj => ?_
    obtain rfl : j = i := by simpa using hj
    unfold wpOp
    simp only [ho, hw, Bool.false_eq_true, if_false]
    rw [hat]
    exact ⟨Below.refl _ _, h⟩

theorem seq_un {fuel : Nat} {listed : Array Bool} {a : Act} {w : World} (i : Nat) (d : Tmp) (v vx : Value) (b : UnOp) (t : TypeId) (x : Operand)
    (hat : (ops[i]?).map (fun o => (o.op, o.dst)) = some (.unOp b t x, some d)) (hw : (ops[i]?).map (fun o => Region.wanted o (yielded ops a.tmps)) = some true)
    (hs : Region.noSelect ops = true) (hf : Region.free md ops listed i = true) (hr : (Region.ready md ops listed).contains i = true)
    (hQ : ∀ c a w, Q (.panic c) (a.put (some d) v) w → Q (.panic c) a w) (hx : a.eval x = vx)
    (hb : ∀ w', (Op.unary b vx).run P w' = .ok v w')
    (h : wpAnyH P md ops Q (Keeps w) fuel (listed.setIfInBounds i true) (a.put (some d) v) w) : wpAnyH P md ops Q (Keeps w) (fuel + 1) listed a w :=
  seq_take i d v _ hat hw hs hf hr hQ (fun o ho w' _ => by unfold execOp; rw [ho]; simp only [hx]; rw [Sem.run_bind, hb w']; rfl) h

theorem seq_len {fuel : Nat} {listed : Array Bool} {a : Act} {w : World} (i : Nat) (d : Tmp) (A : Option Addr) (n c : Nat) (x : Operand) (ts : Array TypeId)
    (hat : (ops[i]?).map (fun o => (o.op, o.dst)) = some (.call { callee := .builtin .len, args := #[x], argTypes := ts }, some d)) (hw : (ops[i]?).map (fun o => Region.wanted o (yielded ops a.tmps)) = some true)
    (hs : Region.noSelect ops = true) (hf : Region.free md ops listed i = true) (hr : (Region.ready md ops listed).contains i = true)
    (hQ : ∀ c a w, Q (.panic c) (a.put (some d) (.int .i64 (n : Nat))) w → Q (.panic c) a w) (hx : a.eval x = .slice A n c) (T E : TypeId) (ht : ts[0]? = some T) (hu : P.underlying T = some (.slice E))
    (h : wpAnyH P md ops Q (Keeps w) fuel (listed.setIfInBounds i true) (a.put (some d) (.int .i64 (n : Nat))) w) : wpAnyH P md ops Q (Keeps w) (fuel + 1) listed a w :=
  seq_take i d _ _ hat hw hs hf hr hQ (fun o ho w' _ => by
    unfold execOp
    rw [ho]
    simp [resolve, invoke, builtin, Builtin.len_, ht, run_underlying hu, hx, goInt]) h

theorem seq_slice {fuel : Nat} {listed : Array Bool} {a : Act} {w : World} (i : Nat) (d : Tmp) (v vx vl : Value) (t : TypeId) (x lo : Operand)
    (hat : (ops[i]?).map (fun o => (o.op, o.dst)) = some (.slice t x (some lo) none none, some d)) (hw : (ops[i]?).map (fun o => Region.wanted o (yielded ops a.tmps)) = some true)
    (hs : Region.noSelect ops = true) (hf : Region.free md ops listed i = true) (hr : (Region.ready md ops listed).contains i = true)
    (hQ : ∀ c a w, Q (.panic c) (a.put (some d) v) w → Q (.panic c) a w) (hx : a.eval x = vx) (hl : a.eval lo = vl)
    (hb : ∀ w', (Instr.sliceAt t vx (some vl) none none).run P w' = .ok v w')
    (h : wpAnyH P md ops Q (Keeps w) fuel (listed.setIfInBounds i true) (a.put (some d) v) w) : wpAnyH P md ops Q (Keeps w) (fuel + 1) listed a w :=
  seq_take i d v _ hat hw hs hf hr hQ (fun o ho w' _ => by unfold execOp; rw [ho]; simp only [hx, hl, Option.map_some, Option.map_none]; rw [Sem.run_bind, hb w']; rfl) h

theorem put_lit (l : List Value) (ds : List Deferred) (d : Tmp) (v : Value) : Act.put { tmps := l.toArray, defers := ds } (some d) v = { tmps := (l.set d v).toArray, defers := ds } := by
  simp [Act.put]

/-- All have come up; the slots written out anew. -/
theorem seq_done {S : World → Prop} {listed : Array Bool} {a b : Act} {w : World} (hr : Region.ready md ops listed = []) (hb : a = b) (h : Q .normal b w) (fuel : Nat) : wpAnyH P md ops Q S fuel listed a w := by
  subst hb
  exact wpAnyH_done hr h fuel
end

end Go.Proofs.Ytonlkmepdehdgaa
