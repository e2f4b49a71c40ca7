/-
  Loops over functions that range over themselves: whose memory is whose is said by sets of blocks.
-/
import Derived.Test.YtkcpmpbjjnknhaaGreatDoorKitI
namespace Go.Proofs.YtkcpmpbjjnknhaaGreatDoor
open Go.ChangeShapes Go.WideShapes Go.ChangeAt Go.RowKit
set_option linter.unusedVariables false

/-- From A to B the blocks of m lie as they lay. -/
structure Kept (m : Nat → Prop) (A B : World) : Prop where
  os : B.os = A.os
  tape : B.tape = A.tape
  output : B.output = A.output
  size : A.heap.size ≤ B.heap.size
  block : ∀ k, k < A.heap.size → m k → B.heap[k]? = A.heap[k]?
theorem Kept.refl (m : Nat → Prop) (A : World) : Kept m A A := ⟨rfl, rfl, rfl, Nat.le_refl _, fun _ _ _ => rfl⟩
theorem Kept.trans {m : Nat → Prop} {A B C : World} (h : Kept m A B) (k : Kept m B C) : Kept m A C :=
  ⟨k.os.trans h.os, k.tape.trans h.tape, k.output.trans h.output, Nat.le_trans h.size k.size, fun i hi hm => (k.block i (Nat.lt_of_lt_of_le hi h.size) hm).trans (h.block i hi hm)⟩
theorem Kept.mono {m m' : Nat → Prop} {A B : World} (h : Kept m A B) (hm : ∀ k, k < A.heap.size → m' k → m k) : Kept m' A B := ⟨h.os, h.tape, h.output, h.size, fun k hk q => h.block k hk (hm k hk q)⟩
theorem Kept.below {m : Nat → Prop} {A B : World} {n0 : Nat} (h : Kept m A B) (hm : ∀ k, k < n0 → m k) (hn : n0 ≤ A.heap.size) : Below n0 A B := ⟨h.os, h.tape, h.output, h.size, fun k hk => h.block k (Nat.lt_of_lt_of_le hk hn) (hm k hk)⟩
theorem Below.kept {m : Nat → Prop} {A B : World} (h : Below A.heap.size A B) : Kept m A B := ⟨h.os, h.tape, h.output, h.size, fun k hk _ => h.block k hk⟩
theorem Kept.row {m : Nat → Prop} {A B : World} {b : Nat} {t : TypeId} {cs : Array Value} (h : Kept m A B) (hm : m b) (r : RowAt A b t cs) : RowAt B b t cs := (h.block b r.lt hm).trans r
theorem Kept.alloc (m : Nat → Prop) (A : World) (o : Obj) : Kept m A (A.alloc o) := Below.kept ((Below.refl _ A).alloc (Nat.le_refl _) o)
theorem Kept.putObj {m : Nat → Prop} (A : World) {l : Nat} (o : Obj) (hl : ¬ m l) : Kept m A (A.putObj l o) := ⟨rfl, rfl, rfl, by simp, fun k _ hk => World.putObj_heap_other (fun e => hl (e ▸ hk))⟩
/-- What a party does whose blocks are m, and then m'. -/
structure Did (m m' : Nat → Prop) (A B : World) : Prop where
  kept : Kept (fun k => ¬ m k) A B
  new : ∀ k, m' k → m k ∨ A.heap.size ≤ k
  lt : ∀ k, m' k → k < B.heap.size
theorem Did.refl {m : Nat → Prop} {A : World} (h : ∀ k, m k → k < A.heap.size) : Did m m A A := ⟨Kept.refl _ _, fun _ h => .inl h, h⟩
theorem Did.trans {m m1 m2 : Nat → Prop} {A B C : World} (h : Did m m1 A B) (k : Did m1 m2 B C) : Did m m2 A C :=
  ⟨⟨k.kept.os.trans h.kept.os, k.kept.tape.trans h.kept.tape, k.kept.output.trans h.kept.output, Nat.le_trans h.kept.size k.kept.size, fun i hi hm => (k.kept.block i (Nat.lt_of_lt_of_le hi h.kept.size) fun q => (h.new i q).elim hm fun q => by omega).trans (h.kept.block i hi hm)⟩,
    fun i hi => (k.new i hi).elim (h.new i) fun q => .inr (Nat.le_trans h.kept.size q), k.lt⟩
/-- A party's own step, blocks of which nobody else knows. -/
theorem Did.quiet {m : Nat → Prop} {A B : World} (hm : ∀ k, m k → k < A.heap.size) (h : Kept (fun _ => True) A B) : Did m m A B := ⟨h.mono fun _ _ _ => trivial, fun _ h => .inl h, fun k q => Nat.lt_of_lt_of_le (hm k q) h.size⟩
/-- A block that is not the party's: it is turned, and all else is as it was. -/
theorem Did.put {m m1 : Nat → Prop} {A B : World} (h : Did m m1 A B) {D : Nat} (hD : A.heap.size ≤ D) (o : Obj) : Did m m1 A (B.putObj D o) :=
  ⟨⟨h.kept.os, h.kept.tape, h.kept.output, by simpa using h.kept.size, fun k hk q => (World.putObj_heap_other (by omega)).trans (h.kept.block k hk q)⟩, h.new, fun k q => by simpa using h.lt k q⟩
/-- What a caller says of its own memory lasts while its own blocks, and all that lay below B, lie as they lay. -/
def Lasts {β : Type} (B : Nat) (J : β → (Nat → Prop) → World → Prop) : Prop := ∀ s m X Y, B ≤ X.heap.size → J s m X → Kept (fun k => m k ∨ k < B) X Y → J s m Y
/-- A function that tells the list xs when it is ranged over, and reads no more than the blocks of dep. -/
def Tells {α : Type} (P : Program) (gf : Nat) (lb : Array Value) (encs : α → Array Value) (xs : List α) (dep : Nat → Prop) (w0 : World) : Prop :=
  ∀ (l : Nat) (J Jx : List α → (Nat → Prop) → World → Prop) (W : World) (m0 : Nat → Prop), Kept dep w0 W → (∀ k, m0 k → ¬ dep k ∧ k < W.heap.size) → Lasts W.heap.size J → Lasts W.heap.size Jx →
    (∀ pre x W1 m, Did m0 m W W1 → J pre m W1 → (pre ++ [x]) <+: xs → YieldAt Fence.wide 1 P l (encs x) W1 fun e W' =>
      (e = .returned (.bool true) ∧ ∃ m', Did m m' W1 W' ∧ J (pre ++ [x]) m' W') ∨ (e = .returned (.bool false) ∧ ∃ m', Did m m' W1 W' ∧ Jx (pre ++ [x]) m' W')) →
    J [] m0 W →
    CallsIn Fence.wide 2 P gf (#[.func (.yield l) #[] #[]] ++ lb) W fun e W' => (∃ v, e = .returned v) ∧ ∃ m', Did m0 m' W W' ∧ (J xs m' W' ∨ ∃ pre, pre <+: xs ∧ Jx pre m' W')
theorem Tells.later {α : Type} {P : Program} {gf : Nat} {lb : Array Value} {encs : α → Array Value} {xs : List α} {dep : Nat → Prop} {w0 w1 : World} (h : Tells P gf lb encs xs dep w0) (k : Kept dep w0 w1) : Tells P gf lb encs xs dep w1 :=
  fun l J Jx W m0 hW => h l J Jx W m0 (k.trans hW)
/-- How a round's body may be left. -/
def toldPost {α : Type} (I : List α → (Nat → Prop) → World → Prop) (Ix : Code → List α → (Nat → Prop) → World → Prop) (xs : List α) (m : Nat → Prop) (W : World) : Exit → Act → World → Prop
  | .normal, _, W' => ∃ m', Did m m' W W' ∧ I xs m' W'
  | .ret, _, W' => ∃ m', Did m m' W W' ∧ Ix .ret xs m' W'
  | .exit id, _, W' => ∃ m', Did m m' W W' ∧ Ix (.exit id) xs m' W'
  | .goto t, _, W' => ∃ m', Did m m' W W' ∧ Ix (.goto t) xs m' W'
  | .panic _, _, _ => False
  | .outgrown, _, _ => False
/-- The blocks of m, and block l. -/
def also (m : Nat → Prop) (l : Nat) : Nat → Prop := fun k => m k ∨ k = l

section
variable {P : Program} {Q : Exit → Act → World → Prop} {n : Nat} {E : Env} {w w0 : World} {v : Value} {ds : List Deferred}
theorem Did.also {m m' : Nat → Prop} {X A B : World} {l : Nat} {o o1 : Obj} (hX : X.heap[l]? = some o1) (hA : A = X.putObj l o) (h : Did m m' A B) (o' : Obj) : Did (also m l) (also m' l) X (B.putObj l o') := by
  subst hA
  have hl : l < X.heap.size := (Array.getElem?_eq_some_iff.1 hX).1
  have hs := h.kept.size
  simp only [World.putObj_size] at hs
  refine ⟨⟨h.kept.os, h.kept.tape, h.kept.output, by simpa using hs, fun k hk q => ?_⟩, ?_, ?_⟩
  · have hkl : k ≠ l := fun e => q (.inr e)
    refine (World.putObj_heap_other hkl).trans ((h.kept.block k (by simpa using hk) fun z => q (.inl z)).trans (World.putObj_heap_other hkl))
  · rintro k (q | q)
    · rcases h.new k q with z | z
      · exact .inl (.inl z)
      · exact .inr (by simpa using z)
    · exact .inl (.inr q)
  · rintro k (q | rfl)
    · simpa using h.lt k q
    · simp
      omega
theorem cx_told {α : Type} {g : Operand} {ps : Array Nat} {asg body : Code} {gf : FuncId} {lb : Array Value} {encs : α → Array Value} {xs : List α} {dep : Nat → Prop} {m0 : Nat → Prop} (EX EA : α → Env)
    (hf : ((P.funcs[gf]?).map fun fn => (fn.name == "runtime.NumGoroutine", fn.body.isNone)) = some (false, false))
    (hg : val E g = some (.func (.func gf) #[] lb)) (hT : Tells P gf lb encs xs dep w) (hps : ∀ x, (encs x).size = ps.size) (hm : ∀ k, m0 k → ¬ dep k ∧ k < w.heap.size) (hdl : ∀ k, w.heap.size ≤ k → ¬ dep k)
    (hpar : ∀ x tmps, Holds n E { tmps, defers := [] } → Holds n (EX x) { tmps := (ps.zip (encs x)).foldl (fun t (p, v) => t.setIfInBounds p v) tmps, defers := [] })
    (I : List α → (Nat → Prop) → World → Prop) (Ix : Code → List α → (Nat → Prop) → World → Prop) (hI : Lasts w.heap.size I) (hIx : ∀ c, Lasts w.heap.size (Ix c)) (h0 : I [] m0 w)
    (hassign : ∀ l x W, CX (some l) [] P (Exit.then (fun a' W' => W' = W ∧ Holds n (EA x) a') (fun _ _ _ => False)) n (EX x) asg W)
    (hbody : ∀ l pre x W m, Did m0 m w W → I pre m W → (pre ++ [x]) <+: xs → CX (some l) [] P (toldPost I Ix (pre ++ [x]) m W) n (EA x) body W)
    (hdone : ∀ D W m, w.heap.size ≤ D → Did m0 m w W → ¬ m D → I xs m W → W.heap[D]? = some (.deferred (some [])) → ∀ a, Holds n E a → Q .normal (mkd (mark D :: ds) a) W)
    (hstop : ∀ D c pre W m, w.heap.size ≤ D → pre <+: xs → Did m0 m w W → ¬ m D → Ix c pre m W → W.heap[D]? = some (.deferred (some [])) → CX none (mark D :: ds) P Q n E c W) :
    CX none ds P Q n E (.rangeFunc g ps asg body) w := by
  intro a ha hq
  obtain ⟨tmps, dfs⟩ := a
  obtain rfl : dfs = [] := ha.2.1
  have hev : (mkd ds { tmps, defers := [] }).eval g = .func (.func gf) #[] lb := ha.eval hg
  refine wpIn_depth (k := 3) (wpIn_rangeFunc fun fn hfn => ?_)
  -- the two blocks of the loop: where the rounds' deferred calls go, and its record
  obtain ⟨rc, hrc⟩ : ∃ rc : LoopState → Option Code → Loop, rc = fun st pe => { state := st, pending := pe, fn, tmps, params := ps, assign := asg, body, defers := w.heap.size } := ⟨_, rfl⟩
  obtain ⟨W1, hW1⟩ : ∃ W1, (w.alloc (.deferred (some []))).alloc (.loop (rc .ready none)) = W1 := ⟨_, rfl⟩
  have hz : W1.heap.size = w.heap.size + 2 := by
    rw [← hW1]
    simp
  have k01 : Kept (fun _ => True) w W1 := by
    rw [← hW1]
    exact (Kept.alloc _ _ _).trans (Kept.alloc _ _ _)
  have hL1 : W1.heap[w.heap.size + 1]? = some (.loop (rc .ready none)) := by
    rw [← hW1]
    have := World.alloc_heap_new (w.alloc (.deferred (some []))) (.loop (rc .ready none))
    rwa [World.size_alloc] at this
  have hD1 : W1.heap[w.heap.size]? = some (.deferred (some [])) := by
    rw [← hW1]
    exact (Below.heap_alloc _ _ _ (by simp)).trans (World.alloc_heap_new w _)
  have hent : (Instr.enterLoop fn tmps ps asg body none).run P w = .ok (w.heap.size + 1, [mark w.heap.size]) W1 := by
    rw [← hW1, hrc]
    exact run_enterLoop_outer _ _ _ _ _
  obtain ⟨l, hl⟩ : ∃ l, l = w.heap.size + 1 := ⟨_, rfl⟩
  obtain ⟨D, hD⟩ : ∃ D, D = w.heap.size := ⟨_, rfl⟩
  rw [← hl] at hL1 hent
  rw [← hD] at hD1 hent
  have d0 : Did m0 m0 w W1 := Did.quiet (fun k q => (hm k q).2) k01
  have out : ∀ {m : Nat → Prop} {s : List α} {X Y : World}, Did m0 m w X → W1.heap.size ≤ X.heap.size → Kept (fun k => also m l k ∨ k < W1.heap.size) X Y → Did m0 m w Y := fun {m s X Y} d hX k =>
    ⟨⟨k.os.trans d.kept.os, k.tape.trans d.kept.tape, k.output.trans d.kept.output, Nat.le_trans d.kept.size k.size, fun i hi q => (k.block i (by omega) (.inr (by omega))).trans (d.kept.block i hi q)⟩, d.new, fun i q => Nat.lt_of_lt_of_le (d.lt i q) k.size⟩
  have inn : ∀ {m : Nat → Prop} {X Y : World}, Kept (fun k => also m l k ∨ k < W1.heap.size) X Y → Kept (fun k => m k ∨ k < w.heap.size) X Y := fun {m X Y} k => k.mono fun i _ q => q.elim (fun q => .inl (.inl q)) fun q => .inr (by omega)
  have put : ∀ {m : Nat → Prop} (X : World) (o : Obj), ¬ m l → Kept (fun k => m k ∨ k < w.heap.size) X (X.putObj l o) := fun {m} X o nl => Kept.putObj X o fun q => q.elim nl fun q => by omega
  refine ⟨l, [mark D], W1, { target := .fn (.func gf) lb, args := #[.func (.yield l) #[] #[]] }, W1, gf, #[.func (.yield l) #[] #[]] ++ lb, W1, hent, ?_, fun _ _ => trivial, ?_, (fun q => by cases q), ?_⟩
  · simp only [resolve, hev]
    simp [go_sem]
  · simp [invoke, go_sem, call_enter hf]
  refine (hT l (fun s m' X => ∃ m, m' = also m l ∧ Did m0 m w X ∧ ¬ m l ∧ ¬ m D ∧ I s m X ∧ X.heap[l]? = some (.loop (rc .ready none)) ∧ X.heap[D]? = some (.deferred (some [])))
    (fun s m' X => ∃ c m, m' = also m l ∧ Did m0 m w X ∧ ¬ m l ∧ ¬ m D ∧ Ix c s m X ∧ X.heap[l]? = some (.loop (rc .done (some c))) ∧ X.heap[D]? = some (.deferred (some [])))
    W1 (also m0 l) (k01.mono fun _ _ _ => trivial) ?_ ?_ ?_ ?_ ⟨m0, rfl, d0, fun q => ?_, fun q => ?_, hI _ _ _ _ (Nat.le_refl _) h0 (k01.mono fun _ _ _ => trivial), hL1, hD1⟩).mono ?_
  · rintro k (q | rfl)
    · exact ⟨(hm k q).1, by have := (hm k q).2; omega⟩
    · exact ⟨hdl k (by omega), by omega⟩
  · rintro s m' X Y hX ⟨m, rfl, d, nl, nD, hi, h1, h2⟩ k
    exact ⟨m, rfl, out (s := s) d hX k, nl, nD, hI _ _ _ _ (by omega) hi (inn k), (k.block l (by omega) (.inl (.inr rfl))).trans h1, (k.block D (by omega) (.inr (by omega))).trans h2⟩
  · rintro s m' X Y hX ⟨c, m, rfl, d, nl, nD, hi, h1, h2⟩ k
    exact ⟨c, m, rfl, out (s := s) d hX k, nl, nD, hIx c _ _ _ _ (by omega) hi (inn k), (k.block l (by omega) (.inl (.inr rfl))).trans h1, (k.block D (by omega) (.inr (by omega))).trans h2⟩
  · -- one round
    rintro pre x A m' hd' ⟨m, rfl, d, nl, nD, hi, h1, h2⟩ hpre
    have hlt : l < A.heap.size := (Array.getElem?_eq_some_iff.1 h1).1
    have hy := run_yield (P := P) (args := encs x) h1 (by rw [hrc]; exact hps x)
    rw [hrc] at hy
    refine ⟨fn, _, asg, body, hy, roundIn_of_wpIn trivial ?_⟩
    obtain ⟨A2, hA2⟩ : ∃ A2, A2 = A.putObj l (.loop { rc .ready none with state := .busy }) := ⟨_, rfl⟩
    have hb := run_beginRound (P := P) h1 (by rw [hrc])
    rw [← hA2] at hb
    have hbusy : A2.heap[l]? = some (.loop { rc .ready none with state := .busy }) := by
      rw [hA2]
      exact World.putObj_heap_same hlt
    have hD2 : A2.heap[D]? = some (.deferred (some [])) := by
      rw [hA2]
      exact (World.putObj_heap_other (by omega)).trans h2
    have hz2 : A2.heap.size = A.heap.size := by
      rw [hA2]
      simp
    have d2 : Did m0 m w A2 := by
      rw [hA2]
      exact d.put (by omega) _
    have hi2 : I pre m A2 := by
      rw [hA2]
      exact hI _ _ _ _ d.kept.size hi (put A _ nl)
    have h := hassign l x A { tmps := (ps.zip (encs x)).foldl (fun t (p, v) => t.setIfInBounds p v) tmps, defers := [] } (hpar x tmps ha) (fun _ _ q => q)
    rw [mkd_nil] at h
    refine wpIn_mono (wpIn_depth (ro := some l) h) ?_
    rintro e a' A' q
    cases e <;> first | exact q | skip
    obtain ⟨rfl, hax⟩ := q
    refine ⟨A2, hb, ?_⟩
    have hB := hbody l pre x A2 m d2 hi2 hpre a' hax (fun _ _ q => q)
    rw [mkd_nil] at hB
    refine wpIn_mono (wpIn_depth (ro := some l) hB) ?_
    have fin : ∀ (jump : Option Code) (A3 : World) (m2 : Nat → Prop), Did m m2 A2 A3 →
        (Instr.endRound l jump).run P A3 = .ok (.bool jump.isNone) (A3.putObj l (.loop (rc (if jump.isNone then .ready else .done) jump))) ∧
        (A3.putObj l (.loop (rc (if jump.isNone then .ready else .done) jump))).heap[l]? = some (.loop (rc (if jump.isNone then .ready else .done) jump)) ∧
        (A3.putObj l (.loop (rc (if jump.isNone then .ready else .done) jump))).heap[D]? = some (.deferred (some [])) ∧ ¬ m2 l ∧ ¬ m2 D ∧ w.heap.size ≤ A3.heap.size := fun jump A3 m2 d3 => by
      have h3 := (d3.kept.block l (by omega) nl).trans hbusy
      have := run_endRound (P := P) jump h3
      rw [hrc] at this ⊢
      refine ⟨this, World.putObj_heap_same (Array.getElem?_eq_some_iff.1 h3).1, (World.putObj_heap_other (by omega)).trans ((d3.kept.block D (by omega) nD).trans hD2), fun q => (d3.new l q).elim nl fun q => by omega, fun q => (d3.new D q).elim nD fun q => by omega, Nat.le_trans d2.kept.size d3.kept.size⟩
    rintro e a3 A3 hp
    cases e with
    | normal =>
      obtain ⟨m2, d3, hi3⟩ := hp
      obtain ⟨hr, hl3, hD3, nl3, nD3, hz3⟩ := fin none A3 m2 d3
      exact ⟨_, _, hr, .inl ⟨rfl, also m2 l, Did.also h1 hA2 d3 _, m2, rfl, (d2.trans d3).put (by omega) _, nl3, nD3, hI _ _ _ _ hz3 hi3 (put A3 _ nl3), hl3, hD3⟩⟩
    | ret =>
      obtain ⟨m2, d3, hi3⟩ := hp
      obtain ⟨hr, hl3, hD3, nl3, nD3, hz3⟩ := fin (some .ret) A3 m2 d3
      exact ⟨_, _, hr, .inr ⟨rfl, also m2 l, Did.also h1 hA2 d3 _, .ret, m2, rfl, (d2.trans d3).put (by omega) _, nl3, nD3, hIx _ _ _ _ _ hz3 hi3 (put A3 _ nl3), hl3, hD3⟩⟩
    | exit id =>
      obtain ⟨m2, d3, hi3⟩ := hp
      obtain ⟨hr, hl3, hD3, nl3, nD3, hz3⟩ := fin (some (.exit id)) A3 m2 d3
      exact ⟨_, _, hr, .inr ⟨rfl, also m2 l, Did.also h1 hA2 d3 _, .exit id, m2, rfl, (d2.trans d3).put (by omega) _, nl3, nD3, hIx _ _ _ _ _ hz3 hi3 (put A3 _ nl3), hl3, hD3⟩⟩
    | goto t =>
      obtain ⟨m2, d3, hi3⟩ := hp
      obtain ⟨hr, hl3, hD3, nl3, nD3, hz3⟩ := fin (some (.goto t)) A3 m2 d3
      exact ⟨_, _, hr, .inr ⟨rfl, also m2 l, Did.also h1 hA2 d3 _, .goto t, m2, rfl, (d2.trans d3).put (by omega) _, nl3, nD3, hIx _ _ _ _ _ hz3 hi3 (put A3 _ nl3), hl3, hD3⟩⟩
    | panic ch => exact hp.elim
    | outgrown => exact hp.elim
  · have := (hm _ q).2
    omega
  · have := (hm _ q).2
    omega
  · -- behind the function
    rintro e W2 ⟨⟨v, rfl⟩, m', dm, (⟨m, rfl, d, nl, nD, hi, h1, h2⟩ | ⟨pre, hpre, c, m, rfl, d, nl, nD, hi, h1, h2⟩)⟩
    · have hr := run_endLoop (P := P) h1 (by rw [hrc]; simp)
      rw [hrc] at hr
      exact ⟨none, _, hr, hdone D _ m (by omega) (d.put (by omega) _) nD (hI _ _ _ _ d.kept.size hi (put W2 _ nl)) ((World.putObj_heap_other (by omega)).trans h2) _ ha⟩
    · have hr := run_endLoop (P := P) h1 (by rw [hrc]; simp)
      rw [hrc] at hr
      exact ⟨some c, _, hr, wpIn_depth (hstop D c pre _ m (by omega) hpre (d.put (by omega) _) nD (hIx c _ _ _ _ d.kept.size hi (put W2 _ nl)) ((World.putObj_heap_other (by omega)).trans h2) _ ha hq)⟩
theorem hold_one {p : Nat} (hp : p < n) {enc : Value} {tmps : Array Value} (ha : Holds n E { tmps, defers := [] }) : Holds n ((p, enc) :: E) { tmps := ((#[p] : Array Nat).zip #[enc]).foldl (fun t (p, v) => t.setIfInBounds p v) tmps, defers := [] } := by
  simpa using ha.param (v := enc) hp
theorem cx_told1 {α : Type} {g : Operand} {p d' : Nat} {asg body : Code} {gf : FuncId} {lb : Array Value} {enc : α → Value} {xs : List α} {dep : Nat → Prop} {m0 : Nat → Prop}
    (hf : ((P.funcs[gf]?).map fun fn => (fn.name == "runtime.NumGoroutine", fn.body.isNone)) = some (false, false))
    (hg : val E g = some (.func (.func gf) #[] lb)) (hT : Tells P gf lb (fun x => #[enc x]) xs dep w) (hm : ∀ k, m0 k → ¬ dep k ∧ k < w.heap.size) (hdl : ∀ k, w.heap.size ≤ k → ¬ dep k) (hp : p < n)
    (I : List α → (Nat → Prop) → World → Prop) (Ix : Code → List α → (Nat → Prop) → World → Prop) (hI : Lasts w.heap.size I) (hIx : ∀ c, Lasts w.heap.size (Ix c)) (h0 : I [] m0 w)
    (hassign : ∀ l x W, CX (some l) [] P (Exit.then (fun a' W' => W' = W ∧ Holds n ((d', enc x) :: (p, enc x) :: E) a') (fun _ _ _ => False)) n ((p, enc x) :: E) asg W)
    (hbody : ∀ l pre x W m, Did m0 m w W → I pre m W → (pre ++ [x]) <+: xs → CX (some l) [] P (toldPost I Ix (pre ++ [x]) m W) n ((d', enc x) :: (p, enc x) :: E) body W)
    (hdone : ∀ D W m, w.heap.size ≤ D → Did m0 m w W → ¬ m D → I xs m W → W.heap[D]? = some (.deferred (some [])) → ∀ a, Holds n E a → Q .normal (mkd (mark D :: ds) a) W)
    (hstop : ∀ D c pre W m, w.heap.size ≤ D → pre <+: xs → Did m0 m w W → ¬ m D → Ix c pre m W → W.heap[D]? = some (.deferred (some [])) → CX none (mark D :: ds) P Q n E c W) :
    CX none ds P Q n E (.rangeFunc g #[p] asg body) w :=
  cx_told (fun x => (p, enc x) :: E) (fun x => (d', enc x) :: (p, enc x) :: E) hf hg hT (fun _ => rfl) hm hdl (fun x tmps ha => hold_one hp ha) I Ix hI hIx h0 hassign hbody hdone hstop
/-- The code of the assignment, where what is taken lies anywhere in the frame. -/
theorem as_take {d' p : Nat} {l : List Oper} {o : Oper} {v : Value} {id : Nat} (hl : l = [o]) (ho : o.op = .assign (.tmp p)) (hd : o.dst = some d') (hg : o.guard = none) (hn : d' < n) (hv : look E p = some v) (k : Nat) (W : World) : CX (some k) [] P (Exit.then (fun a' W' => W' = W ∧ Holds n ((d', v) :: E) a') (fun _ _ _ => False)) n E (.region id l.toArray false) W := by
  subst hl
  refine cx_region (ls (y_assign ho (v := v) (by simpa [val] using hv)) hd hg hn (lg_nil fun a ha => ?_)) ?_
  · rw [mkd_nil]
    exact ⟨rfl, ha⟩
  · simp [ndOp, ho]
-- what a party's own blocks are not
theorem Did.call {m m1 : Nat → Prop} {A B C : World} (h : Did m m1 A B) (k : Below B.heap.size B C) : Did m m1 A C := h.trans (Did.quiet h.lt (Below.kept k))
theorem Lasts.call {β : Type} {B : Nat} {J : β → (Nat → Prop) → World → Prop} (h : Lasts B J) {s : β} {m : Nat → Prop} {X Y : World} (hB : B ≤ X.heap.size) (hj : J s m X) (k : Below X.heap.size X Y) : J s m Y := h _ _ _ _ hB hj (Below.kept k)
/-- The marks of a frame: their blocks are open, and no party's. -/
def Marks (n0 : Nat) (m : Nat → Prop) (Ds : List Nat) (v : World) : Prop := Ds.Nodup ∧ ∀ D ∈ Ds, n0 ≤ D ∧ ¬ m D ∧ v.heap[D]? = some (.deferred (some []))
theorem Marks.nil (n0 : Nat) (m : Nat → Prop) (v : World) : Marks n0 m [] v := ⟨List.nodup_nil, fun D h => by cases h⟩
theorem Marks.did {n0 : Nat} {m m1 : Nat → Prop} {Ds : List Nat} {A B : World} (h : Marks n0 m Ds A) (k : Did m m1 A B) : Marks n0 m1 Ds B := ⟨h.1, fun D hD => by
  obtain ⟨h1, h2, h3⟩ := h.2 D hD
  have hlt := (Array.getElem?_eq_some_iff.1 h3).1
  exact ⟨h1, fun q => (k.new D q).elim h2 fun q => by omega, (k.kept.block D hlt h2).trans h3⟩⟩
theorem Marks.call {n0 : Nat} {m : Nat → Prop} {Ds : List Nat} {A B : World} (h : Marks n0 m Ds A) (k : Below A.heap.size A B) : Marks n0 m Ds B := ⟨h.1, fun D hD => by
  obtain ⟨h1, h2, h3⟩ := h.2 D hD
  exact ⟨h1, h2, (k.block D (Array.getElem?_eq_some_iff.1 h3).1).trans h3⟩⟩
theorem Marks.cons {n0 : Nat} {m m1 : Nat → Prop} {Ds : List Nat} {A B : World} {D : Nat} (h : Marks n0 m Ds A) (k : Did m m1 A B) (hn : n0 ≤ A.heap.size) (hA : A.heap.size ≤ D) (hm : ¬ m1 D) (hD : B.heap[D]? = some (.deferred (some []))) : Marks n0 m1 (D :: Ds) B := by
  refine ⟨List.nodup_cons.2 ⟨fun q => ?_, h.1⟩, fun E hE => ?_⟩
  · have := (Array.getElem?_eq_some_iff.1 (h.2 D q).2.2).1
    omega
  · rcases List.mem_cons.1 hE with rfl | hE
    · exact ⟨by omega, hm, hD⟩
    · exact (h.did k).2 E hE
theorem Marks.closed {m0 : Nat → Prop} {W : World} {n0 : Nat} (hn : W.heap.size ≤ n0) : ∀ {Ds : List Nat} {m : Nat → Prop} {v : World}, Marks n0 m Ds v → Did m0 m W v → Opens Ds v ∧ Did m0 m W (closed Ds v) ∧ Kept (fun k => m k ∨ k < n0) v (closed Ds v)
  | [], m, v, _, hd => ⟨trivial, hd, Kept.refl _ _⟩
  | D :: Ds, m, v, h, hd => by
    obtain ⟨h1, h2, h3⟩ := h.2 D (by simp)
    obtain ⟨hn1, hn2⟩ := List.nodup_cons.1 h.1
    obtain ⟨a, b, c⟩ := Marks.closed hn (Ds := Ds) (m := m) (v := v.putObj D (.deferred none)) ⟨hn2, fun E hE => by
      obtain ⟨g1, g2, g3⟩ := h.2 E (List.mem_cons_of_mem _ hE)
      exact ⟨g1, g2, (World.putObj_heap_other (fun e => hn1 (by rw [← e]; exact hE))).trans g3⟩⟩ (hd.put (by omega) _)
    exact ⟨⟨h3, a⟩, b, (Kept.putObj v _ (fun q => q.elim h2 fun q => by omega)).trans c⟩
/-- A loop with marks that come to be in its rounds. -/
theorem cx_loopD {Q : Exit → Act → World → Prop} {c : Code} (I : Nat → List Deferred → Act → World → Prop) (N : Nat) (h0 : ∀ a, Holds n E a → I 0 ds a w) (round : ∀ t ds a v, t ≤ N → I t ds a v → KX none P (Exit.then (fun a' w' => t < N ∧ ∃ ds' a0, a' = mkd ds' a0 ∧ I (t + 1) ds' a0 w') Q) c (mkd ds a) v) : CX none ds P Q n E (.loop c) w := by
  intro a ha hq
  refine wpIn_loop_rounds (N + 1) ?_
  have key : ∀ k t ds a v, t + k = N → I t ds a v → Code.roundsIn (fen none) 0 P c Q (k + 1) (mkd ds a) v := by
    intro k
    induction k with
    | zero =>
      intro t ds a v ht hI
      refine wpIn_mono (round t ds a v (by omega) hI (fun a w => hq a w)) fun e a w q => ?_
      cases e <;> first | exact q | (have := q.1; omega)
    | succ k ih =>
      intro t ds a v ht hI
      refine wpIn_mono (round t ds a v (by omega) hI (fun a w => hq a w)) fun e a w q => ?_
      cases e <;> first | (obtain ⟨_, ds', a0, rfl, q⟩ := q; exact ih (t + 1) _ _ _ (by omega) q) | exact q
  exact key N 0 ds a w (by omega) (h0 a ha)
theorem Did.set {m : Nat → Prop} {A B : World} {b : Nat} {t t0 : TypeId} {cs old : Array Value} (h : Set1 A B b t cs) (r : RowAt A b t0 old) (hb : m b) (hm : ∀ k, m k → k < A.heap.size) : Did m m A B := by
  have u := h.below 0 (Nat.zero_le _)
  exact ⟨⟨u.os, u.tape, u.output, u.size, fun k _ q => h.other k fun e => q (e ▸ hb)⟩, fun _ q => .inl q, fun k q => by rw [h.size]; exact hm k q⟩
theorem Did.below {m m1 : Nat → Prop} {A B : World} {n0 : Nat} (h : Did m m1 A B) (hn : n0 ≤ A.heap.size) (hm : ∀ k, m k → n0 ≤ k) : Below n0 A B := h.kept.below (fun k hk q => by have := hm k q; omega) hn
-- regions in any order that call yield
section
variable {ops : Array Oper} {Q : Exit → Act → World → Prop} {o : Oper} {d fuel : Nat} {listed : Array Bool}
end
end
end Go.Proofs.YtkcpmpbjjnknhaaGreatDoor
