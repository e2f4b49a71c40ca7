/-
  Rules for code in a round of a loop over a function, and behind such a loop, where the frame has marks: code by the fenced rules, lists of operations by the plain ones; loops over functions; iterators that call yield.
-/
import Derived.Test.YtpoonjgkgaodmaaDoorKitA
import Derived.RangeFuncNested
import Derived.RangeFuncLeaves
import Derived.LoopNIn
import Derived.OrdersIn
namespace Go.Proofs.YtpoonjgkgaodmaaDoor
open Go.ChangeShapes Go.WideShapes Go.ChangeAt Go.RowKit
set_option linter.unusedVariables false

/-- The wide fence, of frames of functions (none) or of rounds of a loop. -/
def fen (ro : Option Nat) : Fence := { Fence.wide with round := ro }
/-- A frame with marks behind its deferred calls. -/
def mkd (ds : List Deferred) (a : Act) : Act := { a with defers := a.defers ++ ds }
abbrev mark (D : Nat) : Deferred := { target := .collected D, args := #[] }
theorem mkd_nil (a : Act) : mkd [] a = a := by
  cases a
  simp [mkd]
theorem mkd_put (ds : List Deferred) (a : Act) (d : Option Tmp) (v : Value) : (mkd ds a).put d v = mkd ds (a.put d v) := by
  cases d <;> rfl
def KX (ro : Option Nat) (P : Program) (Q : Exit → Act → World → Prop) (c : Code) (a : Act) (w : World) : Prop := (∀ a w, ¬ Q .outgrown a w) → c.wpIn (fen ro) 0 P Q a w
def CX (ro : Option Nat) (ds : List Deferred) (P : Program) (Q : Exit → Act → World → Prop) (n : Nat) (E : Env) (c : Code) (w : World) : Prop := ∀ a, Holds n E a → KX ro P Q c (mkd ds a) w
def LX (ro : Option Nat) (ds : List Deferred) (P : Program) (ops : Array Oper) (Q : Exit → Act → World → Prop) (n : Nat) (E : Env) (rest : List Oper) (w : World) : Prop := (∀ a w, ¬ Q .outgrown a w) → ∀ a, Holds n E a → wpListIn (fen ro) 0 P ops Q rest (mkd ds a) w
def ndOp : Op → Bool
  | .defer _ => false
  | _ => true
theorem nd_of {o : Oper} (h : ndOp o.op = true) : ∀ c, o.op ≠ .defer c := fun c e => by
  rw [e] at h
  cases h
theorem roomy {ro : Option Nat} (k : Nat) : (fen ro).room k := fun d hd => by cases hd
theorem wpIn_depth {ro : Option Nat} {m k : Nat} {P : Program} {c : Code} {Q : Exit → Act → World → Prop} {a : Act} {w : World} (h : c.wpIn (fen ro) k P Q a w) : c.wpIn (fen ro) m P Q a w :=
  fun b j cs hro hb hr => h b j cs hro hb (roomy _)
theorem callsIn_fen {ro : Option Nat} {m : Nat} {P : Program} {f : FuncId} {args : Array Value} {w : World} {R : Ending → World → Prop} (h : Calls P f args w R) : CallsIn (fen ro) m P f args w R :=
  ⟨trivial, fun cs _ => let ⟨e, w', fr, r, s, x⟩ := h cs; ⟨e, w', fr, r, comesIn_wide.2 s, x⟩⟩
theorem rowsIn_fen {ro : Option Nat} {m : Nat} {P : Program} {row : String} {args : Array Value} {w : World} {R : Value → World → Prop} (h : Rows P row args w R) : RowsIn (fen ro) m P row args w R :=
  fun c cs _ => let ⟨v, w', r, s⟩ := h c cs; ⟨v, w', r, stepsIn_wide.2 s⟩
theorem roundIn_fen {ro : Option Nat} {m k l : Nat} {P : Program} {f : FuncId} {tmps : Array Value} {asg body : Code} {w : World} {R : Ending → World → Prop} (h : RoundIn Fence.wide k P l f tmps asg body w R) : RoundIn (fen ro) m P l f tmps asg body w R :=
  ⟨trivial, fun c cs _ => h.2 c cs (room_wide _)⟩

section
variable {P : Program} {ops : Array Oper} {Q Q' : Exit → Act → World → Prop} {n d : Nat} {E E' : Env} {o : Oper} {rest : List Oper} {w w0 : World} {v : Value} {x y : Operand} {t t' : TypeId} {K : Act → World → Prop} {id id' : Nat} {ro : Option Nat} {ds : List Deferred}

theorem op_in {m : Nat} {a : Act} {K K' : Act → World → Prop} (hn : ∀ c, o.op ≠ .defer c) (hK : ∀ a w, K a w → K' (mkd ds a) w) (hq : ∀ a w, ¬ Q .outgrown a w) (h : o.wp P a w K (fun e a w => Q e (mkd ds a) w)) : o.wpIn (fen ro) m P (mkd ds a) w K' Q := by
  refine ⟨fun _ _ => trivial, ?_⟩
  rw [Oper.semAt_eq _ _ _ hn]
  unfold Oper.wp at h
  have he : (mkd ds a).eval = a.eval := rfl
  rw [he]
  generalize (execOp a.eval o).run P w = r at *
  cases r with
  | ok nx w' =>
    cases nx <;> simp only [Oper.upon, Oper.uponIn] at h ⊢
    case value u => rw [mkd_put]; exact hK _ _ h
    case skip => rw [mkd_put]; exact hK _ _ h
    case defer d =>
      have := hK _ _ h
      rw [← mkd_put] at this
      exact this
    case enter f args =>
      refine ⟨(fun q => by cases q), callsIn_fen (h.mono fun e w'' q => ?_)⟩
      cases e with
      | returned u =>
        show K' ((mkd ds a).put o.dst u) w''
        rw [mkd_put]
        exact hK _ _ q
      | panicked c => exact q
      | outgrown => exact absurd q.choose_spec.choose_spec (hq _ _)
    case row row args =>
      refine ⟨(fun q => by cases q), rowsIn_fen (h.mono fun u w'' q => ?_)⟩
      rw [mkd_put]
      exact hK _ _ q
  | halt z w' => cases z <;> simp only [Oper.upon, Oper.uponIn] at h ⊢ <;> exact h
theorem list_in {m : Nat} (hq : ∀ a w, ¬ Q .outgrown a w) : ∀ (l : List Oper) (a : Act) (w : World), (∀ o ∈ l, ∀ c, o.op ≠ .defer c) → wpList P ops (fun e a w => Q e (mkd ds a) w) l a w → wpListIn (fen ro) m P ops Q l (mkd ds a) w
  | [], _, _, _, h => h
  | o :: r, a, w, hn, h => by
    have hr := fun a w => list_in (m := m) hq r a w (fun o ho => hn o (List.mem_cons_of_mem _ ho))
    unfold wpList at h
    unfold wpListIn
    have he : (mkd ds a).tmps = a.tmps := rfl
    rw [he]
    split
    · rename_i hw
      rw [if_pos hw] at h
      rcases h with h | ⟨_, h⟩
      · exact op_in (hn o (by simp)) hr hq h
      · exact absurd h.choose_spec.choose_spec (hq _ _)
    · rename_i hw
      rw [if_neg hw] at h
      refine ⟨fun _ _ => trivial, ?_⟩
      rw [mkd_put]
      exact hr _ _ h
theorem any_in {m : Nat} {md : Region.Mode} (hq : ∀ a w, ¬ Q .outgrown a w) (hn : ∀ o ∈ ops.toList, ∀ c, o.op ≠ .defer c) : ∀ (fuel : Nat) (listed : Array Bool) (a : Act) (w : World), wpAny P md ops (fun e a w => Q e (mkd ds a) w) fuel listed a w → wpAnyIn (fen ro) m P md ops Q fuel listed (mkd ds a) w
  | 0, _, _, _, h => h
  | fuel + 1, listed, a, w, h => by
    refine ⟨h.1, fun i hi => ?_⟩
    have h2 := h.2 i hi
    have hr := fun a w => any_in (m := m) (md := md) hq hn fuel (listed.setIfInBounds i true) a w
    unfold wpOp at h2
    unfold wpOpIn
    cases ho : ops[i]? with
    | none =>
      simp only [ho] at h2 ⊢
      exact hr _ _ h2
    | some o =>
      simp only [ho] at h2 ⊢
      have he : (mkd ds a).tmps = a.tmps := rfl
      rw [he]
      have hm : o ∈ ops.toList := Array.mem_toList_iff.2 (Array.mem_of_getElem? ho)
      split
      · rename_i hw
        rw [if_pos hw] at h2
        rcases h2 with h2 | ⟨_, h2⟩
        · exact op_in (hn o hm) hr hq h2
        · exact absurd h2.choose_spec.choose_spec (hq _ _)
      · rename_i hw
        rw [if_neg hw] at h2
        refine ⟨fun _ _ => trivial, ?_⟩
        rw [mkd_put]
        exact hr _ _ h2
theorem nd_all {l : List Oper} (h : l.all (fun o => ndOp o.op) = true) : ∀ o ∈ l, ∀ c, o.op ≠ .defer c := fun o ho => nd_of (List.all_eq_true.1 h o ho)
theorem cx_region {l : List Oper} (h : LG P l.toArray (fun e a w => Q e (mkd ds a) w) n E l w) (nd : l.all (fun o => ndOp o.op) = true := by rfl) : CX ro ds P Q n E (.region id l.toArray false) w :=
  fun a ha hq => wpIn_region_lit (list_in hq l a w (nd_all nd) (h a ha))
theorem cx_any {l : List Oper} (hm : P.follows .mixedOrders = true) (nd : l.all (fun o => ndOp o.op) = true)
    (h : ∀ a, Holds n E a → wpAny P .any l.toArray (fun e a w => Q e (mkd ds a) w) l.toArray.size (Array.replicate l.toArray.size false) a w.drew) : CX ro ds P Q n E (.region id l.toArray true) w :=
  fun a ha hq => wpIn_region_any hm (any_in hq (by simpa using nd_all nd) _ _ a _ (h a ha))
theorem cx_still {l : List Oper} (hm : P.follows .mixedOrders = true) (hB : Region.lexB .any l.toArray = true)
    (h : ∀ W, W = w.drew → SG P l.toArray (fun a => Q .normal (mkd ds a) W) n E l W) (nd : l.all (fun o => ndOp o.op) = true := by rfl) : CX ro ds P Q n E (.region id l.toArray true) w :=
  cx_any hm nd fun a ha => by
    simp only [Region.lexB, Bool.and_eq_true] at hB
    refine wpAny_of_still (Q := fun a' => Q .normal (mkd ds a') w.drew) (fun _ h => h) _ _ _ ?_
    have := wpAnyS_lex (md := .any) (w := w.drew) (Q := fun a' => Q .normal (mkd ds a') w.drew) hB.1 l 0 (Array.replicate l.toArray.size false) a (by simp) (by simpa using hB.2) (h _ rfl a ha)
    simpa using this
theorem cx_held {l : List Oper} (hm : P.follows .mixedOrders = true) (h : ∀ W, W = w.drew → HG P l.toArray (fun e a w => Q e (mkd ds a) w) W n l.toArray.size (Array.replicate l.toArray.size false) E W) (nd : l.all (fun o => ndOp o.op) = true := by rfl) : CX ro ds P Q n E (.region id l.toArray true) w :=
  cx_any hm nd fun a ha => wpAny_of_held _ _ _ _ (h _ rfl a ha)
theorem cx_heldS {l : List Oper} (S : World → Prop) (hm : P.follows .mixedOrders = true) (hS : ∀ W, W = w.drew → S W) (h : ∀ W, W = w.drew → HGS P l.toArray (fun e a w => Q e (mkd ds a) w) S n l.toArray.size (Array.replicate l.toArray.size false) E W) (nd : l.all (fun o => ndOp o.op) = true := by rfl) : CX ro ds P Q n E (.region id l.toArray true) w :=
  cx_any hm nd fun a ha => wpAny_of_held _ _ _ _ (h _ rfl a ha)
theorem cx_seq {c c' : Code} (h : CX ro ds P (Exit.then (KX ro P Q c') Q) n E c w) : CX ro ds P Q n E (.seq c c') w := fun a ha hq =>
  wpIn_seq (wpIn_mono (h a ha (fun a w => hq a w)) fun e a w q => by cases e <;> first | exact q hq | exact q)
theorem cx_block {c : Code} (h : CX ro ds P (Exit.inBlock id Q) n E c w) : CX ro ds P Q n E (.block id c) w := fun a ha hq => wpIn_block (h a ha (fun a w => hq a w))
theorem cx_skip (h : ∀ a, Holds n E a → Q .normal (mkd ds a) w) : CX ro ds P Q n E .skip w := fun a ha _ => wpIn_skip (h a ha)
theorem cx_ret (h : ∀ a, Holds n E a → Q .ret (mkd ds a) w) : CX ro ds P Q n E .ret w := fun a ha _ => wpIn_ret (h a ha)
theorem cx_exit (h : ∀ a, Holds n E a → Q (.exit id) (mkd ds a) w) : CX ro ds P Q n E (.exit id) w := fun a ha _ => wpIn_exit (h a ha)
theorem cx_cond {c : Operand} {x y : Code} (t : Bool) (hc : val E c = some (.bool t)) (h1 : t = true → CX ro ds P Q n E x w) (h0 : t = false → CX ro ds P Q n E y w) : CX ro ds P Q n E (.cond c x y) w := fun a ha hq =>
  wpIn_cond_split (show (mkd ds a).eval c = _ from ha.eval hc) (fun e => h1 e a ha hq) (fun e => h0 e a ha hq)
theorem cx_ct {c : Operand} {x y : Code} (hc : val E c = some (.bool true)) (h : CX ro ds P Q n E x w) : CX ro ds P Q n E (.cond c x y) w := cx_cond true hc (fun _ => h) (fun e => by cases e)
theorem cx_cf {c : Operand} {x y : Code} (hc : val E c = some (.bool false)) (h : CX ro ds P Q n E y w) : CX ro ds P Q n E (.cond c x y) w := cx_cond false hc (fun e => by cases e) (fun _ => h)
theorem cx_if {p : Prop} [Decidable p] {c : Operand} {x y : Code} (hc : val E c = some (.bool (decide p))) (h1 : p → CX ro ds P Q n E x w) (h0 : ¬ p → CX ro ds P Q n E y w) : CX ro ds P Q n E (.cond c x y) w :=
  cx_cond (decide p) hc (fun e => h1 (of_decide_eq_true e)) (fun e => h0 (of_decide_eq_false e))
theorem cx_ifn {p : Prop} [Decidable p] {c : Operand} {x y : Code} (hc : val E c = some (.bool (!decide p))) (h1 : ¬ p → CX ro ds P Q n E x w) (h0 : p → CX ro ds P Q n E y w) : CX ro ds P Q n E (.cond c x y) w :=
  cx_cond (!decide p) hc (fun e => h1 (by simpa using e)) (fun e => h0 (by simpa using e))
theorem cx_at {c : Code} {a : Act} (ha : Holds n E a) (h : CX ro ds P Q n E c w) : KX ro P Q c (mkd ds a) w := h a ha
theorem cx_loopE {c : Code} (I : Nat → Act → World → Prop) (N : Nat) (h0 : ∀ a, Holds n E a → I 0 a w) (round : ∀ t a v, t ≤ N → I t a v → KX ro P (Exit.then (fun a' w' => t < N ∧ ∃ a0, a' = mkd ds a0 ∧ I (t + 1) a0 w') Q) c (mkd ds a) v) : CX ro ds P Q n E (.loop c) w := by
  intro a ha hq
  refine wpIn_loop_rounds (N + 1) ?_
  have key : ∀ k t a v, t + k = N → I t a v → Code.roundsIn (fen ro) 0 P c Q (k + 1) (mkd ds a) v := by
    intro k
    induction k with
    | zero =>
      intro t a v ht hI
      refine wpIn_mono (round t a v (by omega) hI (fun a w => hq a w)) fun e a w q => ?_
      cases e <;> first | exact q | (have := q.1; omega)
    | succ k ih =>
      intro t a v ht hI
      refine wpIn_mono (round t a v (by omega) hI (fun a w => hq a w)) fun e a w q => ?_
      cases e <;> first | (obtain ⟨_, a0, rfl, q⟩ := q; exact ih (t + 1) _ _ (by omega) q) | exact q
  exact key N 0 a w (by omega) (h0 a ha)
theorem cx_cut {c c' : Code} (J : World → Env → Prop) (hx : CX ro ds P (Exit.then (fun a v => ∃ a0, a = mkd ds a0 ∧ ∃ E', J v E' ∧ Holds n E' a0) Q) n E c w) (hy : ∀ v E', J v E' → CX ro ds P Q n E' c' v) : CX ro ds P Q n E (.seq c c') w := fun a ha hq =>
  wpIn_seq (wpIn_mono (hx a ha (fun a w => hq a w)) fun e a v q => by
    cases e <;> first | exact q | (obtain ⟨a0, rfl, E', h1, h2⟩ := q; exact hy v E' h1 a0 h2 hq))
-- the ends
theorem nxx {c : Code} (hE : ∀ p ∈ E', look E p.1 = some p.2) (h : CX ro ds P Q n E' c w) : ∀ a, Holds n E a → Exit.then (KX ro P Q c) Q' .normal (mkd ds a) w := fun a ha => h a (ha.keep hE)
theorem xg_seq_exit (h : ∀ a, Holds n E a → Q (.exit id) (mkd ds a) w) : ∀ a, Holds n E a → Exit.then K Q (.exit id) (mkd ds a) w := h
theorem xg_seq_ret (h : ∀ a, Holds n E a → Q .ret (mkd ds a) w) : ∀ a, Holds n E a → Exit.then K Q .ret (mkd ds a) w := h
theorem xg_block_norm (h : ∀ a, Holds n E a → Q .normal (mkd ds a) w) : ∀ a, Holds n E a → Exit.inBlock id Q .normal (mkd ds a) w := h
theorem xg_block_ret (h : ∀ a, Holds n E a → Q .ret (mkd ds a) w) : ∀ a, Holds n E a → Exit.inBlock id Q .ret (mkd ds a) w := h
theorem xg_block_exit (h : ∀ a, Holds n E a → Q .normal (mkd ds a) w) : ∀ a, Holds n E a → Exit.inBlock id Q (.exit id) (mkd ds a) w := fun a ha => by
  show (if id = id then _ else _)
  rw [if_pos rfl]
  exact h a ha
theorem xg_block_other (hne : id' ≠ id) (h : ∀ a, Holds n E a → Q (.exit id') (mkd ds a) w) : ∀ a, Holds n E a → Exit.inBlock id Q (.exit id') (mkd ds a) w := fun a ha => by
  show (if id' = id then _ else _)
  rw [if_neg hne]
  exact h a ha
/-- What a frame does behind 'return': the marks are met, each closes its block. -/
def closed : List Nat → World → World
  | [], w => w
  | D :: r, w => closed r (w.putObj D (.deferred none))
def Opens : List Nat → World → Prop
  | [], _ => True
  | D :: r, w => w.heap[D]? = some (.deferred (some [])) ∧ Opens r (w.putObj D (.deferred none))
theorem leaves_marks {fn : Func} {R : Ending → World → Prop} {tmps : Array Value} : ∀ (Ds : List Nat) (w : World), Opens Ds w → (results fn tmps).run P (closed Ds w) = .ok v (closed Ds w) → R (.returned v) (closed Ds w) → LeavesInM Fence.wide 0 P fn tmps R (Ds.map mark) .returning w
  | [], w, _, hr, hR => ⟨v, hr, hR⟩
  | D :: r, w, ho, hr, hR => ⟨by simp, .inl ⟨D, _, rfl, run_takeDeferred ho.1, leaves_marks r _ ho.2 hr hR⟩⟩
theorem xg_ret {fn : Func} {R : Ending → World → Prop} (Ds : List Nat) (ho : Opens Ds w) (hr : ∀ a, Holds n E a → (results fn a.tmps).run P (closed Ds w) = .ok v (closed Ds w)) (hR : R (.returned v) (closed Ds w)) : ∀ a, Holds n E a → bodyPostM Fence.wide 0 P fn R .ret (mkd (Ds.map mark) a) w := fun a ha => by
  show LeavesInM Fence.wide 0 P fn a.tmps R (a.defers ++ Ds.map mark) .returning w
  rw [ha.2.1]
  exact leaves_marks Ds w ho (hr a ha) hR
theorem xg_end {fn : Func} {R : Ending → World → Prop} (Ds : List Nat) (ho : Opens Ds w) (hr : ∀ a, Holds n E a → (results fn a.tmps).run P (closed Ds w) = .ok v (closed Ds w)) (hR : R (.returned v) (closed Ds w)) : ∀ a, Holds n E a → bodyPostM Fence.wide 0 P fn R .normal (mkd (Ds.map mark) a) w := fun a ha => by
  show LeavesInM Fence.wide 0 P fn a.tmps R (a.defers ++ Ds.map mark) .returning w
  rw [ha.2.1]
  exact leaves_marks Ds w ho (hr a ha) hR
theorem res_tmp {fn : Func} {p : Tmp} {w' : World} (h : fn.results = #[.tmp p]) (hp : look E p = some v) : ∀ a, Holds n E a → (results fn a.tmps).run P w' = .ok v w' := fun a ha => by
  have := ha.2.2 p _ hp
  simp [results, h, this]
theorem res_none {fn : Func} {w' : World} (h : fn.results = #[]) : ∀ a, Holds n E a → (results fn a.tmps).run P w' = .ok (.tuple #[]) w' := fun a ha => by simp [results, h]
theorem res_cell {fn : Func} {p : Tmp} {ty tr : TypeId} {b : Nat} {w' : World} (h : fn.results = #[.cell p ty]) (hp : look E p = some (pv b 0)) (hr : RowAt w' b tr #[v]) (hu : aggB P ty = some false) : ∀ a, Holds n E a → (results fn a.tmps).run P w' = .ok v w' := fun a ha => by
  have hq := ha.2.2 p _ hp
  have hc : w'.cell? ⟨b, 0, none⟩ = some v := by rw [cell_of_row w' b 0 _ tr _ hr]; rfl
  simp [results, h, hq, asAddr, loadVar, run_isAgg hu, hc]
theorem holds_args {f : FuncId} {fn : Func} {vs : List Value} (hn : fn.ntmps = n) (hl : vs.length ≤ n) : Holds n ((List.range vs.length).zip vs) { tmps := vs.toArray ++ Array.replicate (fn.ntmps - vs.toArray.size) undef, defers := [] } := by
  refine ⟨by simp [hn]; omega, rfl, fun d v q => ?_⟩
  have key : ∀ (us : List Value) (k : Nat), look ((List.range' k us.length).zip us) d = some v → k ≤ d ∧ us[d - k]? = some v := by
    intro us
    induction us with
    | nil => intro k q; simp [look] at q
    | cons u us ih =>
      intro k q
      simp only [List.length_cons, List.range'_succ, List.zip_cons_cons] at q
      unfold look at q
      by_cases e : k = d
      · subst e
        simp at q
        simp [q]
      · have : Nat.beq k d = false := by
          rw [Bool.eq_false_iff]
          intro q
          exact e (Nat.eq_of_beq_eq_true q)
        rw [this] at q
        obtain ⟨h1, h2⟩ := ih (k + 1) q
        refine ⟨by omega, ?_⟩
        rw [show d - k = (d - (k + 1)) + 1 by omega]
        simpa using h2
  have := key vs 0 (by simpa [List.range_eq_range'] using q)
  have h2 : vs[d]? = some v := by simpa using this.2
  have hlt : d < vs.length := (List.getElem?_eq_some_iff.1 h2).1
  show (vs.toArray ++ _)[d]? = _
  rw [Array.getElem?_append_left (by simpa using hlt)]
  simpa using h2
theorem calls_cx {f : FuncId} {fn : Func} {c : Code} {vs : List Value} {R : Ending → World → Prop} (hf : P.funcs[f]? = some fn) (hb : fn.body = some c) (hn : fn.ntmps = n) (hl : vs.length ≤ n) (hR : ∀ w, ¬ R .outgrown w)
    (h : CX none [] P (bodyPostM Fence.wide 0 P fn R) n ((List.range vs.length).zip vs) c w) : Calls P f vs.toArray w R := by
  refine callsIn_wide.1 (callsIn_of_wp_marks (n := 0) hf hb trivial ?_)
  have := h _ (holds_args (f := f) hn hl) (fun a w => hR w)
  rw [mkd_nil] at this
  exact this
-- iterators
theorem cx_regionx {l : List Oper} (h : LX ro ds P l.toArray Q n E l w) : CX ro ds P Q n E (.region id l.toArray false) w := fun a ha hq => wpIn_region_lit (h hq a ha)
theorem lx_nil (h : ∀ a, Holds n E a → Q .normal (mkd ds a) w) : LX ro ds P ops Q n E [] w := fun _ => h
theorem lxw (hw : Want ops E o true) (y : Yields P E o w v) (hd : o.dst = some d) (hn : d < n) (h : LX ro ds P ops Q n ((d, v) :: E) rest w) (nd : ndOp o.op = true := by rfl) : LX ro ds P ops Q n E (o :: rest) w := by
  intro hq a ha
  have h' := h hq _ (ha.put (v := v) hn)
  rw [← hd, ← mkd_put] at h'
  unfold wpListIn
  have he : (mkd ds a).tmps = a.tmps := rfl
  rw [he, hw n a ha, if_pos rfl]
  refine ⟨fun _ _ => trivial, ?_⟩
  rw [Oper.semAt_eq _ _ _ (nd_of nd)]
  have hev : (mkd ds a).eval = a.eval := rfl
  rw [hev]
  rcases y n a ha with hy | ⟨f, args, hy, hc⟩
  · rw [hy]
    exact h'
  · rw [hy, Oper.uponIn_enter]
    refine ⟨(fun q => by cases q), callsIn_fen (hc.mono ?_)⟩
    rintro e w' ⟨rfl, rfl⟩
    exact h'
theorem lxk (hw : Want ops E o false) (hd : o.dst = some d) (hn : d < n) (h : LX ro ds P ops Q n ((d, undef) :: E) rest w) : LX ro ds P ops Q n E (o :: rest) w := by
  intro hq a ha
  have h' := h hq _ (ha.put (v := undef) hn)
  rw [← hd, ← mkd_put] at h'
  unfold wpListIn
  have he : (mkd ds a).tmps = a.tmps := rfl
  rw [he, hw n a ha]
  exact ⟨fun _ _ => trivial, h'⟩
theorem exec_yield {l : Nat} {vs : List Value} (xs : List Operand) (ts : Array TypeId) (a : Act) (ha : Holds n E a) (hx : vals E xs = some vs) (hc : val E x = some (.func (.yield l) #[] #[])) (o : Oper) (ho : o.op = .call { callee := .value x, args := xs.toArray, argTypes := ts }) (w : World) :
    (execOp a.eval o).run P w = (Instr.yield l vs.toArray).run P w := by
  unfold execOp
  rw [ho]
  simp [resolve, Deferred.ofValue, ha.eval hc, invoke, ha.evals hx]
theorem lx_yield {l m : Nat} {xs : List Operand} {ts : Array TypeId} {vs : List Value} {R : Value → World → Prop} (hw : Want ops E o true) (hy : YieldAt Fence.wide m P l vs.toArray w fun e w' => ∃ v, e = .returned v ∧ R v w')
    (ho : o.op = .call { callee := .value x, args := xs.toArray, argTypes := ts }) (hv : val E x = some (.func (.yield l) #[] #[])) (hx : vals E xs = some vs) (hd : o.dst = some d) (hn : d < n)
    (h : ∀ v w', R v w' → LX ro ds P ops Q n ((d, v) :: E) rest w') : LX ro ds P ops Q n E (o :: rest) w := by
  intro hq a ha
  unfold wpListIn
  have he : (mkd ds a).tmps = a.tmps := rfl
  rw [he, hw n a ha, if_pos rfl]
  refine ⟨fun _ _ => trivial, ?_⟩
  rw [Oper.semAt_eq _ _ _ (fun c e => by rw [ho] at e; cases e)]
  have hev : (mkd ds a).eval = a.eval := rfl
  rw [hev, exec_yield xs ts a ha hx hv o ho w]
  obtain ⟨fn, tmps, asg, body, hr, hb⟩ := hy
  rw [hr, Oper.uponIn_round]
  refine ⟨(fun q => by cases q), roundIn_fen (hb.mono ?_)⟩
  rintro e w' ⟨v, rfl, hR⟩
  show wpListIn (fen ro) 0 P ops Q rest ((mkd ds a).put o.dst v) w'
  rw [hd, mkd_put]
  exact h v w' hR hq _ (ha.put hn)
theorem lx_yields {l m : Nat} {xs : List Operand} {ts : Array TypeId} {vs : List Value} {R1 R2 : World → Prop} (hw : Want ops E o true) (hy : YieldAt Fence.wide m P l vs.toArray w fun e w' => (e = .returned (.bool true) ∧ R1 w') ∨ (e = .returned (.bool false) ∧ R2 w'))
    (ho : o.op = .call { callee := .value x, args := xs.toArray, argTypes := ts }) (hv : val E x = some (.func (.yield l) #[] #[])) (hx : vals E xs = some vs) (hd : o.dst = some d) (hn : d < n)
    (h1 : ∀ w', R1 w' → LX ro ds P ops Q n ((d, .bool true) :: E) rest w') (h0 : ∀ w', R2 w' → LX ro ds P ops Q n ((d, .bool false) :: E) rest w') : LX ro ds P ops Q n E (o :: rest) w := by
  refine lx_yield (m := m) (R := fun u w' => (u = .bool true ∧ R1 w') ∨ (u = .bool false ∧ R2 w')) hw ?_ ho hv hx hd hn ?_
  · obtain ⟨fn, tmps, asg, body, hr, hb⟩ := hy
    refine ⟨fn, tmps, asg, body, hr, hb.mono ?_⟩
    rintro e w' (⟨rfl, h⟩ | ⟨rfl, h⟩)
    · exact ⟨_, rfl, .inl ⟨rfl, h⟩⟩
    · exact ⟨_, rfl, .inr ⟨rfl, h⟩⟩
  · rintro u w' (⟨rfl, h⟩ | ⟨rfl, h⟩)
    · exact h1 w' h
    · exact h0 w' h
-- loops over functions
theorem Holds.param {a : Act} {p : Nat} (ha : Holds n E a) (hp : p < n) : Holds n ((p, v) :: E) { tmps := a.tmps.setIfInBounds p v, defers := [] } := by
  have := ha.put (v := v) hp
  simpa [Act.put, ha.2.1] using this
/-- The loop's variable is no box: the code of the assignment copies it. -/
theorem cx_range {α : Type} {g : Operand} {p d' : Nat} {asg body : Code} {gf : FuncId} {lb : Array Value} {enc : α → Value} {N : Nat} {S Sp : List α → Prop} {Kp : World → World → Prop}
    (hf : ((P.funcs[gf]?).map fun fn => (fn.name == "runtime.NumGoroutine", fn.body.isNone)) = some (false, false))
    (hg : val E g = some (.func (.func gf) #[] lb)) (hseq : SeqStopsK Fence.wide 2 P gf lb (fun x => #[enc x]) Kp S Sp N w0) (hKt : ∀ {A B C : World}, Kp A B → Kp B C → Kp A C) (hKr : ∀ W, Kp W W) (hKb : ∀ (W : World) (l : Nat) (o o' : Obj), w.heap.size ≤ l → W.heap[l]? = some o → o.isCells = false → o.isWalk = false → Kp W (W.putObj l o')) (hb0 : Below w0.heap.size w0 w) (hp : p < n)
    (I : List α → World → Prop) (Ix : Code → List α → World → Prop) (hI : OwnFrom w.heap.size I) (hIx : ∀ c, OwnFrom w.heap.size (Ix c)) (h0 : I [] w)
    (hassign : ∀ l x W, CX (some l) [] P (Exit.then (fun a' W' => W' = W ∧ Holds n ((d', enc x) :: (p, enc x) :: E) a') (fun _ _ _ => False)) n ((p, enc x) :: E) asg W)
    (hbody : ∀ l pre x W, I pre W → pre.length < N → CX (some l) [] P (ownPostG w.heap.size Kp I Ix (pre ++ [x]) W) n ((d', enc x) :: (p, enc x) :: E) body W)
    (hdone : ∀ D xs W, w.heap.size ≤ D → S xs → I xs W → W.heap[D]? = some (.deferred (some [])) → ∀ a, Holds n E a → Q .normal (mkd (mark D :: ds) a) W)
    (hstop : ∀ D c pre W, w.heap.size ≤ D → Sp pre → Ix c pre W → W.heap[D]? = some (.deferred (some [])) → CX none (mark D :: ds) P Q n E c W) :
    CX none ds P Q n E (.rangeFunc g #[p] asg body) w := by
  intro a ha hq
  obtain ⟨tmps, dfs⟩ := a
  obtain rfl : dfs = [] := ha.2.1
  have hev : (mkd ds { tmps, defers := [] }).eval g = .func (.func gf) #[] lb := ha.eval hg
  refine wpIn_depth (k := 3) (wpIn_rangeFunc_ownH (F := fen none) (n := 3) rfl (by omega) hev trivial (fun args w => call_enter hf args w) (w0 := w0) (Kp := Kp) (N := N) hseq hKt hKb hb0 (fun _ => rfl) I Ix hI hIx h0
    (fun x a' _ => Holds n ((d', enc x) :: (p, enc x) :: E) a') (fun x a' => ownFrom_pure _ _) ?_ ?_ ?_ ?_)
  · intro l pre x W K hi hK
    have h := hassign l x W { tmps := tmps.setIfInBounds p (enc x), defers := [] } (ha.param hp) (fun _ _ q => q)
    have h2 : asg.wpIn (fen (some l)) 0 P (Exit.then K fun _ _ _ => False) (mkd [] { tmps := tmps.setIfInBounds p (enc x), defers := [] }) W := wpIn_mono h fun e a' W' q => by
      cases e <;> first | exact q | (obtain ⟨rfl, q⟩ := q; exact hK _ _ (KeepsFrom.refl _ _) (hKr _) hi q)
    have h3 : Code.wpIn ((fen none).inRound l) 1 P asg _ _ _ := wpIn_depth (ro := some l) (m := 1) h2
    simpa [mkd] using h3
  · intro l pre x a' W hl hr hi hax hlen
    have h := hbody l pre x W hi hlen a' hax (fun _ _ q => q)
    rw [mkd_nil] at h
    exact wpIn_depth (ro := some l) h
  · intro D xs W hD hs hi hK
    exact hdone D xs W hD hs hi hK _ ha
  · intro D c pre W hD hs hi hK
    exact wpIn_depth (hstop D c pre W hD hs hi hK _ ha hq)
/-- The code of the assignment, as it is where the loop's variable is no box. -/
theorem as_copy {d' p : Nat} {l : List Oper} (hl : l = [o]) (ho : o.op = .assign (.tmp p)) (hd : o.dst = some d') (hg : o.guard = none) (hn : d' < n) (k : Nat) (W : World) : CX (some k) [] P (Exit.then (fun a' W' => W' = W ∧ Holds n ((d', v) :: (p, v) :: E) a') (fun _ _ _ => False)) n ((p, v) :: E) (.region id l.toArray false) W := by
  subst hl
  refine cx_region (ls (y_assign ho (v := v) (by simp [val, look])) hd hg hn (lg_nil fun a ha => ?_)) ?_
  · rw [mkd_nil]
    exact ⟨rfl, ha⟩
  · simp [ndOp, ho]
-- what abides the loop's book-keeping
theorem row_nc {w w' : World} {row : Option Nat} {b : Nat} {cs : Array Value} (h : RowAt w b t cs) (hg : w.grownBy w' row) (hr : ∀ r, row = some r → ∃ o : Obj, w.heap[r]? = some o ∧ o.isCells = false) : RowAt w' b t cs := by
  unfold RowAt
  rw [hg.block b h.lt fun e => ?_]
  · exact h
  · obtain ⟨o, ho, hc⟩ := hr b e.symm
    rw [show w.heap[b]? = _ from h] at ho
    cases ho
    cases hc
theorem owns_nc {w w' : World} {row : Option Nat} {base e size k : Nat} {xs : List Value} (h : w.ownsRow base e size v k xs) (hg : w.grownBy w' row) (hr : ∀ r, row = some r → ∃ o : Obj, w.heap[r]? = some o ∧ o.isCells = false) : w'.ownsRow base e size v k xs := by
  refine h.kept hg ?_
  rcases h.2 with ⟨rfl, _⟩ | ⟨g, cap, cur, rfl, _, hgb, _⟩
  · exact .inl rfl
  · refine .inr fun e' => ?_
    obtain ⟨o, ho, hc⟩ := hr g (by simpa [Value.ownBlock] using e'.symm)
    rw [hgb] at ho
    cases ho
    cases hc
theorem below_nc {w0 w w' : World} {row : Option Nat} {B B' : Nat} (h : Below B' w0 w) (hB : B' ≤ B) (h0 : B' ≤ w0.heap.size) (hg : w.grownBy w' row) (hr : ∀ r, row = some r → B ≤ r) : Below B' w0 w' :=
  h.grown hg (Nat.le_trans h0 h.size) fun k e => Nat.le_trans hB (hr k e)
theorem put_grown (w : World) (D : Nat) (o : Obj) : w.grownBy (w.putObj D o) (some D) := grownBy_putObj' w D o
theorem put_nc {w : World} {D : Nat} {l : List Deferred} (h : w.heap[D]? = some (.deferred (some l))) : ∀ r, some D = some r → ∃ o : Obj, w.heap[r]? = some o ∧ o.isCells = false := fun r e => by
  cases e
  exact ⟨_, h, rfl⟩
-- what a body keeps of what is no cells
theorem kf_below {B : Nat} {w w' : World} (h : Below w.heap.size w w') : KeepsFrom B w w' := ⟨h.size, fun k o _ hk _ => (h.block k (Array.getElem?_eq_some_iff.1 hk).1).trans hk⟩
theorem kf_set {B b : Nat} {w w' : World} {old cs : Array Value} {t0 : TypeId} (h : Set1 w w' b t cs) (r : RowAt w b t0 old) : KeepsFrom B w w' := ⟨by rw [h.size]; exact Nat.le_refl _, fun k o _ hk hc => by
  by_cases e : k = b
  · subst e
    rw [show w.heap[k]? = _ from r] at hk
    cases hk
    cases hc
  · exact (h.other k e).trans hk⟩
theorem kf_grown {B : Nat} {w w' : World} {base e size k : Nat} {xs : List Value} (h : w.grownBy w' v.ownBlock) (ho : w.ownsRow base e size v k xs) : KeepsFrom B w w' :=
  (KeepsOthers.of_grownBy h fun j o ej hj => by
    rcases ho.2 with ⟨rfl, _⟩ | ⟨g, cap, cur, rfl, _, hgb, _⟩
    · simp [Value.ownBlock] at ej
    · obtain rfl : g = j := by simpa [Value.ownBlock] using ej
      rw [hgb] at hj
      cases hj
      rfl).from B
end
end Go.Proofs.YtpoonjgkgaodmaaDoor
