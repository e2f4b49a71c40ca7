/-
  More rules: operations under a guard, regions with calls that make memory, arrays compared, conversions.
-/
import Derived.Test.YtnogmcldjfbfoaaDoorBlRule
import Derived.Deep.RegionHeld
import Derived.Laws.StructEq
namespace Go.Proofs.YtnogmcldjfbfoaaDoor
open Go.ChangeShapes Go.WideShapes Go.ChangeAt Go.RowKit
set_option linter.unusedVariables false

section
variable {P : Program} {ops : Array Oper} {Q : Exit → Act → World → Prop} {n d : Nat} {E : Env} {o : Oper} {rest : List Oper} {w w0 : World} {v : Value} {x y : Operand} {t t' : TypeId}

def Want (ops : Array Oper) (E : Env) (o : Oper) (c : Bool) : Prop := ∀ n a, Holds n E a → Region.wanted o (yielded ops a.tmps) = c
theorem want_none (hg : o.guard = none) : Want ops E o true := fun n a ha => wanted_none hg _
theorem want_some {j dj : Nat} {b c : Bool} (hg : o.guard = some (j, b)) (hj : (ops[j]?).bind (·.dst) = some dj) (hy : look E dj = some (.bool c)) : Want ops E o (c == b) := fun n a ha => by
  have h1 : a.tmps[dj]? = some (.bool c) := ha.2.2 _ _ hy
  have h2 : yielded ops a.tmps j = some c := by
    unfold yielded
    rw [hj]
    simp [h1]
  unfold Region.wanted
  rw [hg]
  simp [h2]
theorem want_t {j dj : Nat} {b : Bool} (hg : o.guard = some (j, b)) (hj : (ops[j]?).bind (·.dst) = some dj) (hy : look E dj = some (.bool b)) : Want ops E o true := by
  have h := want_some (o := o) hg hj hy
  simpa using h
theorem want_f {j dj : Nat} {b : Bool} (hg : o.guard = some (j, b)) (hj : (ops[j]?).bind (·.dst) = some dj) (hy : look E dj = some (.bool (!b))) : Want ops E o false := by
  have h := want_some (o := o) hg hj hy
  simpa using h
theorem want_u {j dj : Nat} {b : Bool} (hg : o.guard = some (j, b)) (hj : (ops[j]?).bind (·.dst) = some dj) (hy : look E dj = some undef) : Want ops E o false := fun n a ha => by
  have h1 : a.tmps[dj]? = some undef := ha.2.2 _ _ hy
  have h2 : yielded ops a.tmps j = none := by
    unfold yielded
    rw [hj]
    simp [h1, undef]
  unfold Region.wanted
  rw [hg]
  simp [h2]
theorem lsw (hw : Want ops E o true) (y : Yields P E o w v) (hd : o.dst = some d) (hn : d < n) (h : LG P ops Q n ((d, v) :: E) rest w) : LG P ops Q n E (o :: rest) w := by
  intro a ha
  have h' := h _ (ha.put (v := v) hn)
  rw [← hd] at h'
  unfold wpList
  rw [hw n a ha, if_pos rfl]
  refine .inl ?_
  unfold Oper.wp
  rcases y n a ha with hy | ⟨f, args, hy, hc⟩
  · rw [hy]
    exact h'
  · rw [hy, Oper.upon_enter]
    refine hc.mono ?_
    rintro e w' ⟨rfl, rfl⟩
    exact h'
theorem lsk (hw : Want ops E o false) (hd : o.dst = some d) (hn : d < n) (h : LG P ops Q n ((d, undef) :: E) rest w) : LG P ops Q n E (o :: rest) w := by
  intro a ha
  have h' := h _ (ha.put (v := undef) hn)
  rw [← hd] at h'
  unfold wpList
  rw [hw n a ha, if_neg (by simp)]
  exact h'
theorem stw {Q : Act → Prop} (hw : Want ops E o true) (y : Yields P E o w v) (hd : o.dst = some d) (hn : d < n) (h : SG P ops Q n ((d, v) :: E) rest w) : SG P ops Q n E (o :: rest) w := by
  intro a ha
  have h' := h _ (ha.put (v := v) hn)
  rw [← hd] at h'
  unfold wpStill
  rw [hw n a ha, if_pos rfl]
  unfold Oper.still
  rcases y n a ha with hy | ⟨f, args, hy, hc⟩
  · rw [hy]
    exact ⟨rfl, h'⟩
  · rw [hy]
    exact ⟨rfl, v, hc, h'⟩
theorem stk {Q : Act → Prop} (hw : Want ops E o false) (hd : o.dst = some d) (hn : d < n) (h : SG P ops Q n ((d, undef) :: E) rest w) : SG P ops Q n E (o :: rest) w := by
  intro a ha
  have h' := h _ (ha.put (v := undef) hn)
  rw [← hd] at h'
  unfold wpStill
  rw [hw n a ha, if_neg (by simp)]
  exact h'
theorem y_pick {c : Operand} (b : Bool) (ho : o.op = .pick c x y) (hc : val E c = some (.bool b)) (hv : val E (if b then x else y) = some v) : Yields P E o w v := fun n a ha => .inl (by
  unfold execOp
  rw [ho]
  have h1 := ha.eval hc
  have h2 := ha.eval hv
  cases b <;> simp_all [asBool])
theorem y_conv_u {k : IntKind} {ks : IntKind} {m : Int} {ds : TypeDesc} (hs : P.underlying t = some ds) (hu : P.underlying t' = some (.int k)) (ho : o.op = .convert t t' x) (hx : val E x = some (.int ks m)) : Yields P E o w (.int k (k.wrap m)) :=
  y_conv (fun w => by simp [convert, run_underlying hs, run_underlying hu, Conv.intToInt]) ho hx
theorem y_beq {a b : Bool} (hu : P.underlying t = some .bool) (ho : o.op = .binOp .eql t x y t') (hx : val E x = some (.bool a)) (hy : val E y = some (.bool b)) : Yields P E o w (.bool (a == b)) :=
  y_bin (fun x y w => by
    show (do let r ← Op.equal t (.bool a) (.bool b); pure (Value.bool r) : Sem Value).run P w = _
    rw [Sem.run_bind]
    unfold Op.equal
    rw [show Op.maxDepth = 9999 + 1 from rfl, run_equalIn_bool _ 9999 t a b hu]
    rfl) ho hx hy
theorem y_bne {a b : Bool} (hu : P.underlying t = some .bool) (ho : o.op = .binOp .neq t x y t') (hx : val E x = some (.bool a)) (hy : val E y = some (.bool b)) : Yields P E o w (.bool (!(a == b))) :=
  y_bin (fun x y w => by
    show (do let r ← Op.equal t (.bool a) (.bool b); pure (Value.bool (!r)) : Sem Value).run P w = _
    rw [Sem.run_bind]
    unfold Op.equal
    rw [show Op.maxDepth = 9999 + 1 from rfl, run_equalIn_bool _ 9999 t a b hu]
    rfl) ho hx hy
theorem forIn_all {α β : Type} {f : α → β → Sem (ForInStep β)} {s : β} : ∀ (l : List α), (∀ i ∈ l, ∀ w, (f i s).run P w = .ok (.yield s) w) → ∀ w, (forIn l s f).run P w = .ok s w
  | [], _, w => rfl
  | i :: l, h, w => by
    rw [List.forIn_cons, Sem.run_bind, h i (by simp) w]
    exact forIn_all l (fun j hj => h j (by simp [hj])) w
theorem run_eq_row {m : Nat} {el : TypeId} {k : IntKind} {cs : Array Value} (hu : P.underlying t = some (.array m el)) (hs : (P.info? el).map (·.size) = some 1) (hk : P.underlying el = some (.int k)) (hc : ∀ i, i < m → ∃ q : Int, cs[i]? = some (.int k q)) (w : World) :
    (Op.equal t (.agg cs) (.agg cs)).run P w = .ok true w := by
  cases hq : P.info? el with
  | none => simp [hq] at hs
  | some it =>
    have hz : it.size = 1 := by simpa [hq] using hs
    unfold Op.equal
    rw [show Op.maxDepth = 9999 + 1 from rfl]
    unfold Op.equalIn
    rw [Sem.run_bind, run_underlying hu, Result.andThen_ok]
    simp only [sizeOf, typeInfo, Sem.run_bind, run_program, Result.andThen_ok, hq, Sem.run_pure, hz, Nat.mul_one, Std.Legacy.Range.forIn_eq_forIn_range']
    rw [forIn_all _ (fun i hi w => ?_)]
    · rfl
    · obtain ⟨q, hq⟩ := hc i (by simp [Std.Legacy.Range.size] at hi; omega)
      have hp : ∀ w, (part el cs i).run P w = .ok (.int k q) w := fun w => by simp [part, isAgg, run_underlying hk, hq]
      rw [Sem.run_bind, hp, Result.andThen_ok, Sem.run_bind, hp, Result.andThen_ok, Sem.run_bind, run_equalIn_int _ _ _ _ _ _ _ hk]
      simp
theorem y_aeq {m : Nat} {el : TypeId} {k : IntKind} {cs : Array Value} (hg : P.eqGuardType P.depth t = false) (hu : P.underlying t = some (.array m el)) (hs : (P.info? el).map (·.size) = some 1) (hk : P.underlying el = some (.int k)) (hc : ∀ i, i < m → ∃ q : Int, cs[i]? = some (.int k q))
    (ho : o.op = .binOp .eql t x y t') (hx : val E x = some (.agg cs)) (hy : val E y = some (.agg cs)) : Yields P E o w (.bool true) :=
  y_bin (fun x y w => by
    rw [Sem.run_bind, run_eqGuard_agg _ _ _ _ _ _ _ hg, Result.andThen_ok]
    show (do let r ← Op.equal t (.agg cs) (.agg cs); pure (Value.bool r) : Sem Value).run P w = _
    rw [Sem.run_bind, run_eq_row hu hs hk hc]
    rfl) ho hx hy
theorem y_weq_t {X Y : BitVec 32} (h : X = Y) (ho : o.op = .binOp .eql t x y t') (hx : val E x = some (wv X)) (hy : val E y = some (wv Y)) : Yields P E o w (.bool true) := by
  have := y_weq (P := P) (w := w) ho hx hy
  rwa [show decide (X = Y) = true from decide_eq_true h] at this
theorem y_one_f {X Y : BitVec 8} (h : X = Y) (ho : o.op = .binOp .neq t x y t') (hx : val E x = some (ov X)) (hy : val E y = some (ov Y)) : Yields P E o w (.bool false) := by
  have := y_one (P := P) (w := w) ho hx hy
  rwa [show (!decide (X = Y)) = false by simp [h]] at this
theorem y_one_t {X Y : BitVec 8} (h : X ≠ Y) (ho : o.op = .binOp .neq t x y t') (hx : val E x = some (ov X)) (hy : val E y = some (ov Y)) : Yields P E o w (.bool true) := by
  have := y_one (P := P) (w := w) ho hx hy
  rwa [show (!decide (X = Y)) = true by simp [h]] at this
theorem y_oeq_t {X Y : BitVec 8} (h : X = Y) (ho : o.op = .binOp .eql t x y t') (hx : val E x = some (ov X)) (hy : val E y = some (ov Y)) : Yields P E o w (.bool true) := by
  have := y_oeq (P := P) (w := w) ho hx hy
  rwa [show decide (X = Y) = true from decide_eq_true h] at this
theorem y_oeq_f {X Y : BitVec 8} (h : X ≠ Y) (ho : o.op = .binOp .eql t x y t') (hx : val E x = some (ov X)) (hy : val E y = some (ov Y)) : Yields P E o w (.bool false) := by
  have := y_oeq (P := P) (w := w) ho hx hy
  rwa [show decide (X = Y) = false from decide_eq_false h] at this
theorem y_beq_t {a b : Bool} (hu : P.underlying t = some .bool) (h : a = b) (ho : o.op = .binOp .eql t x y t') (hx : val E x = some (.bool a)) (hy : val E y = some (.bool b)) : Yields P E o w (.bool true) := by
  have := y_beq (P := P) (w := w) hu ho hx hy
  rwa [show (a == b) = true by simp [h]] at this
theorem y_bne_f {a b : Bool} (hu : P.underlying t = some .bool) (h : a = b) (ho : o.op = .binOp .neq t x y t') (hx : val E x = some (.bool a)) (hy : val E y = some (.bool b)) : Yields P E o w (.bool false) := by
  have := y_bne (P := P) (w := w) hu ho hx hy
  rwa [show (!(a == b)) = false by simp [h]] at this
theorem y_iand {m : Int} (c : Nat) (hc : c < 64) (ho : o.op = .binOp .and t x y t') (hx : val E x = some (.int .i64 m)) (hy : val E y = some (.int .i64 (c : Int))) : Yields P E o w (iv (BitVec.ofInt 64 m &&& BitVec.ofNat 64 c).toNat) :=
  y_bin (fun x y w => by
    show Result.ok (Value.int .i64 (IntKind.i64.wrap ((BitVec.ofInt 64 m &&& BitVec.ofInt 64 (c : Int)).toNat : Nat))) w = _
    rw [BitVec.ofInt_natCast]
    have h1 : (BitVec.ofInt 64 m &&& BitVec.ofNat 64 c).toNat ≤ c := by
      rw [BitVec.toNat_and, BitVec.toNat_ofNat, Nat.mod_eq_of_lt (by omega)]
      exact Nat.and_le_right
    rw [wrap_i64 (by omega) (by omega)]) ho hx hy
theorem y_iquo (r s : Nat) (hs : 0 < s) (hr : r < 9223372036854775808) (ho : o.op = .binOp .quo t x y t') (hx : val E x = some (iv r)) (hy : val E y = some (iv s)) : Yields P E o w (iv (r / s)) :=
  y_bin (fun x y w => by
    have h1 : ¬ ((s : Int) = 0) := by omega
    have h2 : r / s ≤ r := Nat.div_le_self r s
    have h3 : ((r : Int)).tdiv (s : Int) = ((r / s : Nat) : Int) := by
      rw [Int.tdiv_eq_ediv_of_nonneg (by omega)]
      omega
    show (Op.intDiv .quo .i64 (r : Int) (s : Int)).run P w = _
    unfold Op.intDiv
    rw [if_neg h1]
    show Result.ok (Value.int .i64 (IntKind.i64.wrap ((r : Int).tdiv (s : Int)))) w = _
    have h4 : (0 : Int) ≤ ((r / s : Nat) : Int) := Int.natCast_nonneg _
    have h5 : ((r / s : Nat) : Int) ≤ (r : Int) := Int.ofNat_le.2 h2
    rw [h3, wrap_i64 (by omega) (by omega)]) ho hx hy
theorem y_iu {k : TypeDesc} (r : Nat) (h : r < 9223372036854775808) (hs : P.underlying t = some k) (hu : P.underlying t' = some (.int .u64)) (ho : o.op = .convert t t' x) (hx : val E x = some (iv r)) : Yields P E o w (.int .u64 (r : Int)) := by
  have h1 := y_conv_u (w := w) hs hu ho hx
  have e : IntKind.u64.wrap (r : Int) = (r : Int) := by
    unfold IntKind.wrap
    simp [IntKind.bits, IntKind.signed]
    omega
  rw [e] at h1
  exact h1
theorem y_ine (r s : Nat) (ho : o.op = .binOp .neq t x y t') (hx : val E x = some (iv r)) (hy : val E y = some (iv s)) : Yields P E o w (.bool (!decide (r = s))) :=
  y_bin (fun x y w => by
    show Result.ok (Value.bool ((r : Int) != (s : Int))) w = _
    by_cases e : r = s
    · subst e; simp
    · have : (r : Int) ≠ (s : Int) := by omega
      simp [e, this, bne]) ho hx hy
theorem y_igeq (r s : Nat) (ho : o.op = .binOp .geq t x y t') (hx : val E x = some (iv r)) (hy : val E y = some (iv s)) : Yields P E o w (.bool (decide (s ≤ r))) :=
  y_bin (fun x y w => by
    show Result.ok (Value.bool (decide ((r : Int) ≥ (s : Int)))) w = _
    refine congrArg (fun b => Result.ok (Value.bool b) w) ?_
    exact decide_eq_decide.2 (by omega)) ho hx hy
theorem ret_tmp {fn : Func} {p : Tmp} {R : Ending → World → Prop} (h : fn.results = #[.tmp p]) (hp : look E p = some v) (hR : R (.returned v) w) : CG P (bodyPost P fn R) n E .ret w :=
  cg_ret fun a ha => bodyPost_ret (by have := ha.2.2 p _ hp; simp [results, h, this]) ha.2.1 hR
theorem lg_bslice {el : TypeId} {len : Nat} {parts : Array (Nat × Operand)} {z : Value} {vs : List Value} {cs : Array Value} (hu : P.underlying t = some (.slice el)) (hz : (P.info? el).map (fun i => (i.zero, i.size)) = some (some z, 1)) (hl : 0 < len) (hl' : len ≤ 1000)
    (ho : o.op = .buildSlice t len parts) (hx : vals E (parts.toList.map (·.2)) = some vs) (hf : Instr.fill (fun i => some (i * 1, 1)) ((Array.range (len * 1)).map (fun k => z.cells[k % z.cells.size]!)) ((parts.toList.map (·.1)).zip vs) = some cs)
    (hd : o.dst = some d) (hg : o.guard = none) (hn : d < n)
    (h : ∀ b w', New w w' b el cs → LG P ops Q n ((d, .slice (some ⟨b, 0, none⟩) len len) :: E) rest w') : LG P ops Q n E (o :: rest) w := by
  intro a ha
  unfold wpList
  rw [wanted_none hg, if_pos rfl]
  refine .inl ?_
  unfold Oper.wp
  have e : (parts.map fun (i, x) => (i, a.eval x)).toList = (parts.toList.map (·.1)).zip vs := by
    rw [← ha.evals hx]
    rw [List.map_map, List.zip_map', Array.toList_map]
    rfl
  have he : (execOp a.eval o).run P w = .ok (.value (.slice (some ⟨w.heap.size, 0, none⟩) len len)) (w.alloc (.cells cs el)) := by
    unfold execOp
    rw [ho]
    have hzz := zero_of_info hz
    cases hq : P.info? el with
    | none => simp [hq] at hz
    | some it =>
      have hs1 : it.size = 1 := by simpa [hq] using hzz.2
      have h0 : ¬ len = 0 := by omega
      have h16 : ¬ 16777216 < len := by omega
      simp only [Instr.buildSlice, e]
      simp only [Nat.mul_one] at hf
      simp [run_underlying hu, sizeOf, typeInfo, hq, hs1, h0, h16, hzz.1, hf, newRow]
  rw [he]
  show wpList P ops Q rest (a.put o.dst _) _
  rw [hd]
  exact h _ _ (New.of_alloc el cs) _ (ha.put hn)

-- regions with calls that make memory
def Keeps (w : World) : World → Prop := fun w' => Below w.heap.size w w'
def HG (P : Program) (ops : Array Oper) (Q : Exit → Act → World → Prop) (w0 : World) (n fuel : Nat) (listed : Array Bool) (E : Env) (w : World) : Prop := ∀ a, Holds n E a → wpAnyH P .any ops Q (Keeps w0) fuel listed a w
theorem cg_held {id : Nat} {l : List Oper} (hm : P.follows .mixedOrders = true) (h : ∀ W, W = w.drew → HG P l.toArray Q W n l.toArray.size (Array.replicate l.toArray.size false) E W) : CG P Q n E (.region id l.toArray true) w := fun a ha =>
  wp_region_held_drew (S := Keeps w.drew) hm (Below.refl _ _) (fun _ => h _ rfl a ha)
def isVal : Op → Bool
  | .move _ | .assign _ | .load _ _ | .binOp _ _ _ _ _ | .pick _ _ _ | .indexAddr _ _ _ => true
  | _ => false
theorem val_of (hv : isVal o.op = true) {a : Act} {f : FuncId} {args : Array Value} {w' : World} : (execOp a.eval o).run P w ≠ .ok (.enter f args) w' := by
  have key : ∀ s : Sem Value, ((do pure (Next.value (← s)) : Sem Next)).run P w ≠ .ok (.enter f args) w' := by
    intro s
    rw [Sem.run_bind]
    cases s.run P w <;> simp
  unfold execOp
  cases ho : o.op <;> rw [ho] at hv <;> first | (simp [isVal] at hv; done) | (simp; done) | exact key _ | skip
  case pick c x y =>
    simp only []
    rw [Sem.run_bind]
    cases (asBool (a.eval c)).run P w <;> simp
theorem hg_take {fuel : Nat} {listed : Array Bool} (i : Nat) (ho : ops[i]? = some o) (hw : Want ops E o true) (hv : isVal o.op = true) (hd : o.dst = some d) (hn : d < n)
    (hs : Region.noSelect ops = true) (hf : Region.free .any ops listed i = true) (hr : (Region.ready .any ops listed).contains i = true)
    (hQ : ∀ c a w, Q (.panic c) (a.put (some d) v) w → Q (.panic c) a w) (hb : Below w0.heap.size w0 w) (y : ∀ w', Below w0.heap.size w0 w' → Yields P E o w' v)
    (h : HG P ops Q w0 n fuel (listed.setIfInBounds i true) ((d, v) :: E) w) : HG P ops Q w0 n (fuel + 1) listed E w := by
  intro a ha
  have h' := h _ (ha.put (v := v) hn)
  rw [← hd] at h' hQ
  refine wpAnyH_take (i := i) (oi := o) (v := v) ho hs hf hr hQ (.inl ⟨hw n a ha, fun w' hS => ?_⟩) hb h'
  rcases y w' hS n a ha with hy | ⟨f, args, hy, hc⟩
  · exact hy
  · exact absurd hy (val_of hv)
theorem hg_skip {fuel : Nat} {listed : Array Bool} (i : Nat) (ho : ops[i]? = some o) (hw : Want ops E o false) (hd : o.dst = some d) (hn : d < n)
    (hs : Region.noSelect ops = true) (hf : Region.free .any ops listed i = true) (hr : (Region.ready .any ops listed).contains i = true)
    (hQ : ∀ c a w, Q (.panic c) (a.put (some d) undef) w → Q (.panic c) a w) (hb : Below w0.heap.size w0 w)
    (h : HG P ops Q w0 n fuel (listed.setIfInBounds i true) ((d, undef) :: E) w) : HG P ops Q w0 n (fuel + 1) listed E w := by
  intro a ha
  have h' := h _ (ha.put (v := undef) hn)
  rw [← hd] at h' hQ
  exact wpAnyH_take (i := i) (oi := o) (v := undef) ho hs hf hr hQ (.inr ⟨hw n a ha, rfl⟩) hb h'
theorem hg_skip1 {fuel : Nat} {listed : Array Bool} (i : Nat) (hb : Below w0.heap.size w0 w) (ho : ops[i]? = some o) (hw : Want ops E o false) (hd : o.dst = some d) (hn : d < n) (hr : Region.ready .any ops listed = [i])
    (h : HG P ops Q w0 n fuel (listed.setIfInBounds i true) ((d, undef) :: E) w) : HG P ops Q w0 n (fuel + 1) listed E w := by
  intro a ha
  refine wpAnyH_all hr (by simp) fun j hj => ?_
  obtain rfl : j = i := by simpa using hj
  unfold wpOp
  simp only [ho, hw n a ha, Bool.false_eq_true, if_false]
  rw [hd]
  exact ⟨hb, h _ (ha.put hn)⟩
theorem op_of_lg {K : Act → World → Prop} {a : Act} (i : Nat) (ho : ops[i]? = some o) (hw : Want ops E o true) (ha : Holds n E a) (h : LG P ops (Exit.then K Q) n E [o] w) : wpOp P ops Q i K a w := by
  have h' := h a ha
  unfold wpList at h'
  rw [hw n a ha, if_pos rfl] at h'
  unfold wpOp
  simp only [ho, hw n a ha, if_true]
  rcases h' with h' | h'
  · refine .inl ?_
    unfold Oper.wp at *
    generalize (execOp a.eval o).run P w = r at *
    cases r with
    | ok nx w' =>
      cases nx <;> simp only [Oper.upon] at h' ⊢ <;> first | exact h' | skip
      all_goals
        refine h'.mono ?_
        intro e w'' q
        first | exact q | (cases e <;> first | exact q | (obtain ⟨a1, w1, q1⟩ := q; exact ⟨a1, w1, q1⟩))
    | halt x w' => cases x <;> exact h'
  · refine .inr ⟨h'.1, ?_⟩
    obtain ⟨a1, w1, q1⟩ := h'.2
    exact ⟨a1, w1, q1⟩
theorem hg_one {fuel : Nat} {listed : Array Bool} (i : Nat) (ho : ops[i]? = some o) (hr : Region.ready .any ops listed = [i]) (hw : Want ops E o true)
    (h : LG P ops (Exit.then (fun a w' => Keeps w0 w' ∧ wpAnyH P .any ops Q (Keeps w0) fuel (listed.setIfInBounds i true) a w') Q) n E [o] w) : HG P ops Q w0 n (fuel + 1) listed E w := by
  intro a ha
  refine wpAnyH_all hr (by simp) fun j hj => ?_
  obtain rfl : j = i := by simpa using hj
  exact op_of_lg j ho hw ha h
theorem hg_two {fuel : Nat} {listed : Array Bool} {o' : Oper} (i j : Nat) (ho : ops[i]? = some o) (ho' : ops[j]? = some o') (hr : Region.ready .any ops listed = [i, j]) (hw : Want ops E o true) (hw' : Want ops E o' true)
    (h : LG P ops (Exit.then (fun a w' => Keeps w0 w' ∧ wpAnyH P .any ops Q (Keeps w0) fuel (listed.setIfInBounds i true) a w') Q) n E [o] w)
    (h' : LG P ops (Exit.then (fun a w' => Keeps w0 w' ∧ wpAnyH P .any ops Q (Keeps w0) fuel (listed.setIfInBounds j true) a w') Q) n E [o'] w) : HG P ops Q w0 n (fuel + 1) listed E w := by
  intro a ha
  refine wpAnyH_all hr (by simp) fun k hk => ?_
  rcases (by simpa using hk : k = i ∨ k = j) with rfl | rfl
  · exact op_of_lg k ho hw ha h
  · exact op_of_lg k ho' hw' ha h'
theorem cg_cut {c c' : Code} (J : World → Env → Prop) (hx : CG P (Exit.then (fun a v => ∃ E', J v E' ∧ Holds n E' a) Q) n E c w) (hy : ∀ v E', J v E' → CG P Q n E' c' v) : CG P Q n E (.seq c c') w := fun a ha =>
  wp_seq (Code.wp_mono (fun e a v q => by
    cases e <;> first | exact q | (obtain ⟨E', h1, h2⟩ := q; exact hy v E' h1 a h2)) (hx a ha))
theorem hg_next {fuel : Nat} {listed : Array Bool} {i : Nat} (hb : Below w0.heap.size w0 w) (h : HG P ops Q w0 n fuel (listed.setIfInBounds i true) E w) : LG P ops (Exit.then (fun a w' => Keeps w0 w' ∧ wpAnyH P .any ops Q (Keeps w0) fuel (listed.setIfInBounds i true) a w') Q) n E [] w :=
  fun a ha => ⟨hb, h a ha⟩
theorem hg_done {fuel : Nat} {listed : Array Bool} (hr : Region.ready .any ops listed = []) (h : ∀ a, Holds n E a → Q .normal a w) : HG P ops Q w0 n fuel listed E w := fun a ha => wpAnyH_done hr (h a ha) fuel
/-- A call under a guard that wants it, which leaves another world. -/
theorem lg_callw {f : FuncId} {xs : List Operand} {ts : Array TypeId} {vs : List Value} {R : Value → World → Prop} (hw : Want ops E o true) (hc : Calls P f vs.toArray w fun e w' => ∃ v, e = .returned v ∧ R v w')
    (hf : ((P.funcs[f]?).map fun fn => (fn.name == "runtime.NumGoroutine", fn.body.isNone)) = some (false, false))
    (ho : o.op = .call { callee := .value (.func f), args := xs.toArray, argTypes := ts }) (hx : vals E xs = some vs) (hd : o.dst = some d) (hn : d < n)
    (h : ∀ v w', R v w' → LG P ops Q n ((d, v) :: E) rest w') : LG P ops Q n E (o :: rest) w := by
  intro a ha
  unfold wpList
  rw [hw n a ha, if_pos rfl]
  refine .inl ?_
  unfold Oper.wp
  rw [exec_enter hf xs.toArray ts a vs.toArray (by simp [ha.evals hx]) o ho w, Oper.upon_enter]
  refine hc.mono ?_
  rintro e w' ⟨v, rfl, hR⟩
  show wpList P ops Q rest (a.put o.dst v) w'
  rw [hd]
  exact h v w' hR _ (ha.put hn)
end
theorem g8 : Tryd.prog.eqGuardType Tryd.prog.depth 23 = false := by kernel_rfl
theorem g64 : Tryd.prog.eqGuardType Tryd.prog.depth 27 = false := by kernel_rfl
theorem cW_int {n : Nat} {F : Nat → BitVec 32} : ∀ i, i < n → ∃ q : Int, (cW n F)[i]? = some (.int .u32 q) := fun i h => ⟨_, cW_get h⟩
theorem hubo : Tryd.prog.underlying 4 = some .bool := by kernel_rfl
theorem hui : Tryd.prog.underlying 3 = some (.int .i64) := by kernel_rfl
theorem hus : Tryd.prog.underlying 38 = some (.slice 22) := by kernel_rfl
theorem hu31 : Tryd.prog.underlying 31 = some (.int .u64) := by kernel_rfl
theorem hzw : (Tryd.prog.info? 22).map (fun i => (i.zero, i.size)) = some (some (.int .u32 0), 1) := by kernel_rfl
theorem y_bw {E : Env} {o : Oper} {w : World} {x : Operand} {X : BitVec 8} (ho : o.op = .convert 5 22 x) (hx : val E x = some (ov X)) : Yields Tryd.prog E o w (wv (X.setWidth 32)) := by
  have h := y_conv_u (w := w) hub huw ho hx
  have e : IntKind.u32.wrap (vb X) = vw (X.setWidth 32) := by rw [u_of_b, vw_wrap]
  rw [e] at h
  exact h
theorem y_wb {E : Env} {o : Oper} {w : World} {x : Operand} {X : BitVec 32} (ho : o.op = .convert 22 5 x) (hx : val E x = some (wv X)) : Yields Tryd.prog E o w (ov (X.setWidth 8)) := by
  have h := y_conv_u (w := w) huw hub ho hx
  have e : IntKind.u8.wrap (vw X) = vb (X.setWidth 8) := by
    rw [wrap_u8]
    unfold vw vb
    rw [BitVec.toNat_setWidth]
    omega
  rw [e] at h
  exact h
theorem or4 (i j k l : Nat) (hj : j < 256) (hk : k < 256) (hl : l < 256) : ((i <<< 24 ||| j <<< 16) ||| k <<< 8) ||| l = i * 16777216 + j * 65536 + k * 256 + l := by
  rw [Nat.or_assoc, Nat.or_assoc]
  rw [← Nat.shiftLeft_add_eq_or_of_lt (show l < 2 ^ 8 by omega) k]
  have e1 : k <<< 8 + l = k * 256 + l := by rw [Nat.shiftLeft_eq]
  rw [e1, ← Nat.shiftLeft_add_eq_or_of_lt (show k * 256 + l < 2 ^ 16 by omega) j]
  have e2 : j <<< 16 = j * 65536 := by rw [Nat.shiftLeft_eq]
  rw [e2, ← Nat.shiftLeft_add_eq_or_of_lt (show j * 65536 + (k * 256 + l) < 2 ^ 24 by omega) i]
  have e3 : i <<< 24 = i * 16777216 := by rw [Nat.shiftLeft_eq]
  rw [e3]
  omega
theorem sw_nat (x : BitVec 8) : (x.setWidth 32).toNat = x.toNat := by
  have := x.isLt
  rw [BitVec.toNat_setWidth, Nat.mod_eq_of_lt (by omega)]
theorem sh_nat (x : BitVec 8) (k : Nat) (hk : k ≤ 24) : (x.setWidth 32 <<< k).toNat = x.toNat <<< k := by
  rw [BitVec.toNat_shiftLeft, sw_nat, Nat.mod_eq_of_lt]
  have := x.isLt
  rw [Nat.shiftLeft_eq]
  calc x.toNat * 2 ^ k ≤ 255 * 2 ^ 24 := Nat.mul_le_mul (by omega) (Nat.pow_le_pow_right (by omega) hk)
    _ < 2 ^ 32 := by decide
theorem wd_nat (i j k l : BitVec 8) : (wd i j k l).toNat = i.toNat * 16777216 + j.toNat * 65536 + k.toNat * 256 + l.toNat := by
  unfold wd
  rw [BitVec.toNat_or, BitVec.toNat_or, BitVec.toNat_or, sh_nat _ _ (by omega), sh_nat _ _ (by omega), sh_nat _ _ (by omega), sw_nat]
  exact or4 _ _ _ _ j.isLt k.isLt l.isLt
theorem mul_nat (x : BitVec 8) (c : Nat) (hc : c ≤ 16777216) : (x.setWidth 32 * BitVec.ofNat 32 c).toNat = x.toNat * c := by
  have h := x.isLt
  have h1 : x.toNat * c ≤ 255 * 16777216 := Nat.mul_le_mul (by omega) hc
  rw [BitVec.toNat_mul, sw_nat, BitVec.toNat_ofNat, Nat.mod_eq_of_lt (show c < 2 ^ 32 by omega), Nat.mod_eq_of_lt (by omega)]
theorem wd_sum (i j k l : BitVec 8) : i.setWidth 32 * 16777216#32 + j.setWidth 32 * 65536#32 + k.setWidth 32 * 256#32 + l.setWidth 32 = wd i j k l := by
  apply BitVec.eq_of_toNat_eq
  have hi := i.isLt
  have hj := j.isLt
  have hk := k.isLt
  have hl := l.isLt
  rw [wd_nat, BitVec.toNat_add, BitVec.toNat_add, BitVec.toNat_add, mul_nat _ _ (by omega), mul_nat _ _ (by omega), mul_nat _ _ (by omega), sw_nat]
  generalize i.toNat = a at *
  generalize j.toNat = b at *
  generalize k.toNat = c at *
  generalize l.toNat = d at *
  omega
end Go.Proofs.YtnogmcldjfbfoaaDoor
