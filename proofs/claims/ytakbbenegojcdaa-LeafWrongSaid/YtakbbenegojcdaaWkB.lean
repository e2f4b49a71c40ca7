/-
  Rules for words, octets, whole numbers, rows; operations under a guard; regions with calls that make memory.
-/
import Derived.Test.YtakbbenegojcdaaWkA
import Derived.Deep.RegionHeld
import Derived.Laws.StructEq
namespace Go.Proofs.Ytakbbenegojcdaa
open Go.ChangeShapes Go.WideShapes Go.ChangeAt Go.RowKit
set_option linter.unusedVariables false

abbrev wv (x : BitVec 32) : Value := .int .u32 (vw x)
abbrev ov (x : BitVec 8) : Value := .int .u8 (vb x)
abbrev iv (n : Nat) : Value := .int .i64 (n : Int)
abbrev pv (b j : Nat) : Value := .pointer (some ⟨b, j, none⟩)
def cW (n : Nat) (F : Nat → BitVec 32) : Array Value := ((List.range n).map fun i => wv (F i)).toArray
def cB (n : Nat) (F : Nat → BitVec 8) : Array Value := ((List.range n).map fun i => ov (F i)).toArray
def upd {α : Type} (F : Nat → α) (t : Nat) (x : α) : Nat → α := fun i => if i = t then x else F i
theorem cW_get {n j : Nat} {F : Nat → BitVec 32} (h : j < n) : (cW n F)[j]? = some (wv (F j)) := by simp [cW, h]
theorem cB_get {n j : Nat} {F : Nat → BitVec 8} (h : j < n) : (cB n F)[j]? = some (ov (F j)) := by simp [cB, h]
theorem cW_size (n : Nat) (F : Nat → BitVec 32) : (cW n F).size = n := by simp [cW]
theorem cB_size (n : Nat) (F : Nat → BitVec 8) : (cB n F).size = n := by simp [cB]
theorem cW_one (n : Nat) (F : Nat → BitVec 32) : (cW n F).all (·.oneCell') = true := by simp [cW, wv, Value.oneCell']
theorem cB_one (n : Nat) (F : Nat → BitVec 8) : (cB n F).all (·.oneCell') = true := by simp [cB, ov, Value.oneCell']
theorem cW_ext {n : Nat} {F G : Nat → BitVec 32} (h : ∀ i, i < n → F i = G i) : cW n F = cW n G := by
  unfold cW
  refine congrArg _ (List.map_congr_left fun i hi => ?_)
  rw [h i (by simpa using hi)]
theorem cW_set {n t : Nat} {F : Nat → BitVec 32} {x : BitVec 32} : (cW n F).setIfInBounds t (wv x) = cW n (upd F t x) := by
  refine Array.ext_getElem? fun i => ?_
  rw [Array.getElem?_setIfInBounds]
  by_cases e : t = i
  · subst e
    by_cases h : t < n
    · rw [if_pos rfl, if_pos (by rw [cW_size]; exact h), cW_get h]
      simp [upd]
    · simp [cW, h]
  · rw [if_neg e]
    by_cases h : i < n
    · rw [cW_get h, cW_get h]
      simp [upd, Ne.symm e]
    · simp [cW, h]
theorem cB_set {n t : Nat} {F : Nat → BitVec 8} {x : BitVec 8} : (cB n F).setIfInBounds t (ov x) = cB n (upd F t x) := by
  refine Array.ext_getElem? fun i => ?_
  rw [Array.getElem?_setIfInBounds]
  by_cases e : t = i
  · subst e
    by_cases h : t < n
    · rw [if_pos rfl, if_pos (by rw [cB_size]; exact h), cB_get h]
      simp [upd]
    · simp [cB, h]
  · rw [if_neg e]
    by_cases h : i < n
    · rw [cB_get h, cB_get h]
      simp [upd, Ne.symm e]
    · simp [cB, h]
theorem wrap_i64 {n : Int} (h0 : -9223372036854775808 ≤ n) (h1 : n < 9223372036854775808) : IntKind.i64.wrap n = n := by
  unfold IntKind.wrap
  simp [IntKind.bits, IntKind.signed]
  split <;> omega

section
variable {P : Program} {E : Env} {o : Oper} {w : World} {x y : Operand} {t t' : TypeId} {X Y : BitVec 32}
theorem y_add (ho : o.op = .binOp .add t x y t') (hx : val E x = some (wv X)) (hy : val E y = some (wv Y)) : Yields P E o w (wv (X + Y)) :=
  y_bin (fun x y w => by show Result.ok (Value.int .u32 (IntKind.u32.wrap (vw X + vw Y))) w = _; rw [u_add]) ho hx hy
theorem y_sub (ho : o.op = .binOp .sub t x y t') (hx : val E x = some (wv X)) (hy : val E y = some (wv Y)) : Yields P E o w (wv (X - Y)) :=
  y_bin (fun x y w => by show Result.ok (Value.int .u32 (IntKind.u32.wrap (vw X - vw Y))) w = _; rw [u_sub]) ho hx hy
theorem y_mul (ho : o.op = .binOp .mul t x y t') (hx : val E x = some (wv X)) (hy : val E y = some (wv Y)) : Yields P E o w (wv (X * Y)) :=
  y_bin (fun x y w => by show Result.ok (Value.int .u32 (IntKind.u32.wrap (vw X * vw Y))) w = _; rw [u_mul]) ho hx hy
theorem y_xor (ho : o.op = .binOp .xor t x y t') (hx : val E x = some (wv X)) (hy : val E y = some (wv Y)) : Yields P E o w (wv (X ^^^ Y)) :=
  y_bin (fun x y w => by show Result.ok (Value.int .u32 (bits .xor .u32 (vw X) (vw Y))) w = _; rw [u_xor]) ho hx hy
theorem y_and (ho : o.op = .binOp .and t x y t') (hx : val E x = some (wv X)) (hy : val E y = some (wv Y)) : Yields P E o w (wv (X &&& Y)) :=
  y_bin (fun x y w => by show Result.ok (Value.int .u32 (bits .and .u32 (vw X) (vw Y))) w = _; rw [u_and]) ho hx hy
theorem y_or (ho : o.op = .binOp .or t x y t') (hx : val E x = some (wv X)) (hy : val E y = some (wv Y)) : Yields P E o w (wv (X ||| Y)) :=
  y_bin (fun x y w => by show Result.ok (Value.int .u32 (bits .or .u32 (vw X) (vw Y))) w = _; rw [u_or]) ho hx hy
theorem y_not (ho : o.op = .unOp .xor t x) (hx : val E x = some (wv X)) : Yields P E o w (wv (~~~X)) :=
  y_un (fun w => by show Result.ok (Value.int .u32 (bits .xor .u32 IntKind.u32.max (vw X))) w = _; rw [u_not]) ho hx
theorem y_shr (k : Nat) (yk : IntKind) (hk : k < 32) (ho : o.op = .binOp .shr t x y t') (hx : val E x = some (wv X)) (hy : val E y = some (.int yk (k : Int))) : Yields P E o w (wv (X >>> k)) :=
  y_bin (fun x y w => by show (Op.shift .shr .u32 (vw X) yk (k : Nat)).run P w = _; rw [u_shr P X k hk]) ho hx hy
theorem y_shl (k : Nat) (yk : IntKind) (hk : k < 32) (ho : o.op = .binOp .shl t x y t') (hx : val E x = some (wv X)) (hy : val E y = some (.int yk (k : Int))) : Yields P E o w (wv (X <<< k)) :=
  y_bin (fun x y w => by show (Op.shift .shl .u32 (vw X) yk (k : Nat)).run P w = _; rw [u_shl P X k hk]) ho hx hy
theorem y_weq (ho : o.op = .binOp .eql t x y t') (hx : val E x = some (wv X)) (hy : val E y = some (wv Y)) : Yields P E o w (.bool (decide (X = Y))) :=
  y_bin (fun x y w => by
    show Result.ok (Value.bool (vw X == vw Y)) w = _
    by_cases e : X = Y
    · subst e; simp
    · have : vw X ≠ vw Y := fun h => e (vw_inj h)
      simp [e, this]) ho hx hy
theorem y_wne (ho : o.op = .binOp .neq t x y t') (hx : val E x = some (wv X)) (hy : val E y = some (wv Y)) : Yields P E o w (.bool (!decide (X = Y))) :=
  y_bin (fun x y w => by
    show Result.ok (Value.bool (vw X != vw Y)) w = _
    by_cases e : X = Y
    · subst e; simp
    · have : vw X ≠ vw Y := fun h => e (vw_inj h)
      simp [e, this, bne]) ho hx hy
theorem y_one {X Y : BitVec 8} (ho : o.op = .binOp .neq t x y t') (hx : val E x = some (ov X)) (hy : val E y = some (ov Y)) : Yields P E o w (.bool (!decide (X = Y))) :=
  y_bin (fun x y w => by
    show Result.ok (Value.bool (vb X != vb Y)) w = _
    by_cases e : X = Y
    · subst e; simp
    · have : vb X ≠ vb Y := fun h => e (vb_inj h)
      simp [e, this, bne]) ho hx hy
theorem y_oeq {X Y : BitVec 8} (ho : o.op = .binOp .eql t x y t') (hx : val E x = some (ov X)) (hy : val E y = some (ov Y)) : Yields P E o w (.bool (decide (X = Y))) :=
  y_bin (fun x y w => by
    show Result.ok (Value.bool (vb X == vb Y)) w = _
    by_cases e : X = Y
    · subst e; simp
    · have : vb X ≠ vb Y := fun h => e (vb_inj h)
      simp [e, this]) ho hx hy
theorem y_oxor {X Y : BitVec 8} (ho : o.op = .binOp .xor t x y t') (hx : val E x = some (ov X)) (hy : val E y = some (ov Y)) : Yields P E o w (ov (X ^^^ Y)) :=
  y_bin (fun x y w => by show Result.ok (Value.int .u8 (bits .xor .u8 (vb X) (vb Y))) w = _; rw [b_xor]) ho hx hy
-- whole numbers, none of them below 0
theorem y_iadd (r s : Nat) (h : r + s < 9223372036854775808) (ho : o.op = .binOp .add t x y t') (hx : val E x = some (iv r)) (hy : val E y = some (iv s)) : Yields P E o w (iv (r + s)) :=
  y_bin (fun x y w => by show Result.ok (Value.int .i64 (IntKind.i64.wrap ((r : Int) + (s : Int)))) w = _; rw [wrap_i64 (by omega) (by omega)]; rfl) ho hx hy
theorem y_imul (r s : Nat) (h : r * s < 9223372036854775808) (ho : o.op = .binOp .mul t x y t') (hx : val E x = some (iv r)) (hy : val E y = some (iv s)) : Yields P E o w (iv (r * s)) :=
  y_bin (fun x y w => by
    show Result.ok (Value.int .i64 (IntKind.i64.wrap ((r : Int) * (s : Int)))) w = _
    rw [← Int.natCast_mul, wrap_i64 (by omega) (by omega)]) ho hx hy
theorem y_isub (r s : Nat) (h : s ≤ r) (h' : r < 9223372036854775808) (ho : o.op = .binOp .sub t x y t') (hx : val E x = some (iv r)) (hy : val E y = some (iv s)) : Yields P E o w (iv (r - s)) :=
  y_bin (fun x y w => by
    show Result.ok (Value.int .i64 (IntKind.i64.wrap ((r : Int) - (s : Int)))) w = _
    rw [← Int.natCast_sub h, wrap_i64 (by omega) (by omega)]) ho hx hy
theorem y_ilss (r s : Nat) (ho : o.op = .binOp .lss t x y t') (hx : val E x = some (iv r)) (hy : val E y = some (iv s)) : Yields P E o w (.bool (decide (r < s))) :=
  y_bin (fun x y w => by
    show Result.ok (Value.bool (decide ((r : Int) < (s : Int)))) w = _
    refine congrArg (fun b => Result.ok (Value.bool b) w) ?_
    exact decide_eq_decide.2 (by omega)) ho hx hy
-- places
theorem y_ixa {b j len : Nat} {el : TypeId} (hu : P.underlying t = some (.array len el)) (hs : (P.info? el).map (·.size) = some 1) (hj : j < len) (ho : o.op = .indexAddr t x y) (hx : val E x = some (pv b 0)) (hy : val E y = some (iv j)) : Yields P E o w (pv b j) :=
  y_ix (by
    cases hq : P.info? el with
    | none => simp [hq] at hs
    | some i =>
      have hz : i.size = 1 := by simpa [hq] using hs
      simp [Instr.indexAt, asIntOf, run_underlying hu, Instr.sureAddr, sizeOf, typeInfo, hq, hz, hj, Addr.add]
      exact fun e => e.symm) ho hx hy
theorem y_ixs {b j len cap : Nat} {el : TypeId} (hu : P.underlying t = some (.slice el)) (hs : (P.info? el).map (·.size) = some 1) (hj : j < len) (ho : o.op = .indexAddr t x y) (hx : val E x = some (.slice (some ⟨b, 0, none⟩) len cap)) (hy : val E y = some (iv j)) : Yields P E o w (pv b j) :=
  y_ix (by
    cases hq : P.info? el with
    | none => simp [hq] at hs
    | some i =>
      have hz : i.size = 1 := by simpa [hq] using hs
      simp [Instr.indexAt, asIntOf, run_underlying hu, Instr.sureAddr, sizeOf, typeInfo, hq, hz, hj, Addr.add]
      exact fun e => e.symm) ho hx hy
theorem y_cell {b j : Nat} {tr : TypeId} {cs : Array Value} {v : Value} {k : IntKind} (hr : RowAt w b tr cs) (hj : cs[j]? = some v) (hu : P.underlying t = some (.int k)) (ho : o.op = .load t x) (hx : val E x = some (pv b j)) : Yields P E o w v :=
  y_load (by
    have hc : w.cell? ⟨b, j, none⟩ = some v := by rw [cell_of_row w b j cs tr _ hr, hj]
    simp [loadVar, isAgg, run_underlying hu, hc]) ho hx
theorem y_row {b m : Nat} {tr e : TypeId} {cs : Array Value} (hr : RowAt w b tr cs) (hu : P.underlying t = some (.array m e)) (hi : (P.info? t).map (·.size) = some cs.size) (ho : o.op = .load t x) (hx : val E x = some (pv b 0)) : Yields P E o w (.agg cs) :=
  y_load (run_loadVar_row w b tr t cs _ _ hr hu rfl hi) ho hx
theorem y_idx {j len : Nat} {el : TypeId} {cs : Array Value} {v : Value} {k : IntKind} (hu : P.underlying t = some (.array len el)) (hs : (P.info? el).map (·.size) = some 1) (hk : P.underlying el = some (.int k)) (hj : j < len) (hv : cs[j]? = some v) (ho : o.op = .index t x y) (hx : val E x = some (.agg cs)) (hy : val E y = some (iv j)) : Yields P E o w v :=
  y_index (by
    cases hq : P.info? el with
    | none => simp [hq] at hs
    | some i =>
      have hz : i.size = 1 := by simpa [hq] using hs
      simp [Instr.index, asIntOf, run_underlying hu, sizeOf, typeInfo, hq, hz, hj, part, isAgg, run_underlying hk, hv]) ho hx hy
end
section
variable {P : Program} {ops : Array Oper} {Q : Exit → Act → World → Prop} {n d : Nat} {E : Env} {o : Oper} {rest : List Oper} {w w0 : World} {v : Value} {x y : Operand} {t t' : TypeId}

def Want (ops : Array Oper) (E : Env) (o : Oper) (c : Bool) : Prop := ∀ n a, Holds n E a → Region.wanted o (yielded ops a.tmps) = c
theorem want_none (hg : o.guard = none) : Want ops E o true := fun n a ha => wanted_none hg _
theorem want_some {j dj : Nat} {b c : Bool} (hg : o.guard = some (j, b)) (hj : (ops[j]?).bind (·.dst) = some dj) (hy : look E dj = some (.bool c)) : Want ops E o (c == b) := fun n a ha => by
  have h1 : a.tmps[dj]? = some (.bool c) := ha.2.2 _ _ hy
  have h2 : yielded ops a.tmps j = some c := by
    unfold yielded
    rw [hj]
    simp [h1]
  unfold Region.wanted
  rw [hg]
  simp [h2]
theorem want_t {j dj : Nat} {b : Bool} (hg : o.guard = some (j, b)) (hj : (ops[j]?).bind (·.dst) = some dj) (hy : look E dj = some (.bool b)) : Want ops E o true := by
  have h := want_some (o := o) hg hj hy
  simpa using h
theorem want_f {j dj : Nat} {b : Bool} (hg : o.guard = some (j, b)) (hj : (ops[j]?).bind (·.dst) = some dj) (hy : look E dj = some (.bool (!b))) : Want ops E o false := by
  have h := want_some (o := o) hg hj hy
  simpa using h
theorem want_u {j dj : Nat} {b : Bool} (hg : o.guard = some (j, b)) (hj : (ops[j]?).bind (·.dst) = some dj) (hy : look E dj = some undef) : Want ops E o false := fun n a ha => by
  have h1 : a.tmps[dj]? = some undef := ha.2.2 _ _ hy
  have h2 : yielded ops a.tmps j = none := by
    unfold yielded
    rw [hj]
    simp [h1, undef]
  unfold Region.wanted
  rw [hg]
  simp [h2]
theorem lsw (hw : Want ops E o true) (y : Yields P E o w v) (hd : o.dst = some d) (hn : d < n) (h : LG P ops Q n ((d, v) :: E) rest w) : LG P ops Q n E (o :: rest) w := by
  intro a ha
  have h' := h _ (ha.put (v := v) hn)
  rw [← hd] at h'
  unfold wpList
  rw [hw n a ha, if_pos rfl]
  refine .inl ?_
  unfold Oper.wp
  rcases y n a ha with hy | ⟨f, args, hy, hc⟩
  · rw [hy]
    exact h'
  · rw [hy, Oper.upon_enter]
    refine hc.mono ?_
    rintro e w' ⟨rfl, rfl⟩
    exact h'
theorem lsk (hw : Want ops E o false) (hd : o.dst = some d) (hn : d < n) (h : LG P ops Q n ((d, undef) :: E) rest w) : LG P ops Q n E (o :: rest) w := by
  intro a ha
  have h' := h _ (ha.put (v := undef) hn)
  rw [← hd] at h'
  unfold wpList
  rw [hw n a ha, if_neg (by simp)]
  exact h'
theorem stw {Q : Act → Prop} (hw : Want ops E o true) (y : Yields P E o w v) (hd : o.dst = some d) (hn : d < n) (h : SG P ops Q n ((d, v) :: E) rest w) : SG P ops Q n E (o :: rest) w := by
  intro a ha
  have h' := h _ (ha.put (v := v) hn)
  rw [← hd] at h'
  unfold wpStill
  rw [hw n a ha, if_pos rfl]
  unfold Oper.still
  rcases y n a ha with hy | ⟨f, args, hy, hc⟩
  · rw [hy]
    exact ⟨rfl, h'⟩
  · rw [hy]
    exact ⟨rfl, v, hc, h'⟩
theorem stk {Q : Act → Prop} (hw : Want ops E o false) (hd : o.dst = some d) (hn : d < n) (h : SG P ops Q n ((d, undef) :: E) rest w) : SG P ops Q n E (o :: rest) w := by
  intro a ha
  have h' := h _ (ha.put (v := undef) hn)
  rw [← hd] at h'
  unfold wpStill
  rw [hw n a ha, if_neg (by simp)]
  exact h'
theorem y_pick {c : Operand} (b : Bool) (ho : o.op = .pick c x y) (hc : val E c = some (.bool b)) (hv : val E (if b then x else y) = some v) : Yields P E o w v := fun n a ha => .inl (by
  unfold execOp
  rw [ho]
  have h1 := ha.eval hc
  have h2 := ha.eval hv
  cases b <;> simp_all [asBool])
theorem y_conv_u {k : IntKind} {ks : IntKind} {m : Int} {ds : TypeDesc} (hs : P.underlying t = some ds) (hu : P.underlying t' = some (.int k)) (ho : o.op = .convert t t' x) (hx : val E x = some (.int ks m)) : Yields P E o w (.int k (k.wrap m)) :=
  y_conv (fun w => by simp [convert, run_underlying hs, run_underlying hu, Conv.intToInt]) ho hx
theorem y_beq {a b : Bool} (hu : P.underlying t = some .bool) (ho : o.op = .binOp .eql t x y t') (hx : val E x = some (.bool a)) (hy : val E y = some (.bool b)) : Yields P E o w (.bool (a == b)) :=
  y_bin (fun x y w => by
    show (do let r ← Op.equal t (.bool a) (.bool b); pure (Value.bool r) : Sem Value).run P w = _
    rw [Sem.run_bind]
    unfold Op.equal
    rw [show Op.maxDepth = 9999 + 1 from rfl, run_equalIn_bool _ 9999 t a b hu]
    rfl) ho hx hy
theorem y_bne {a b : Bool} (hu : P.underlying t = some .bool) (ho : o.op = .binOp .neq t x y t') (hx : val E x = some (.bool a)) (hy : val E y = some (.bool b)) : Yields P E o w (.bool (!(a == b))) :=
  y_bin (fun x y w => by
    show (do let r ← Op.equal t (.bool a) (.bool b); pure (Value.bool (!r)) : Sem Value).run P w = _
    rw [Sem.run_bind]
    unfold Op.equal
    rw [show Op.maxDepth = 9999 + 1 from rfl, run_equalIn_bool _ 9999 t a b hu]
    rfl) ho hx hy
theorem forIn_all {α β : Type} {f : α → β → Sem (ForInStep β)} {s : β} : ∀ (l : List α), (∀ i ∈ l, ∀ w, (f i s).run P w = .ok (.yield s) w) → ∀ w, (forIn l s f).run P w = .ok s w
  | [], _, w => rfl
  | i :: l, h, w => by
    rw [List.forIn_cons, Sem.run_bind, h i (by simp) w]
    exact forIn_all l (fun j hj => h j (by simp [hj])) w
theorem run_eq_row {m : Nat} {el : TypeId} {k : IntKind} {cs : Array Value} (hu : P.underlying t = some (.array m el)) (hs : (P.info? el).map (·.size) = some 1) (hk : P.underlying el = some (.int k)) (hc : ∀ i, i < m → ∃ q : Int, cs[i]? = some (.int k q)) (w : World) :
    (Op.equal t (.agg cs) (.agg cs)).run P w = .ok true w := by
  cases hq : P.info? el with
  | none => simp [hq] at hs
  | some it =>
    have hz : it.size = 1 := by simpa [hq] using hs
    unfold Op.equal
    rw [show Op.maxDepth = 9999 + 1 from rfl]
    unfold Op.equalIn
    rw [Sem.run_bind, run_underlying hu, Result.andThen_ok]
    simp only [sizeOf, typeInfo, Sem.run_bind, run_program, Result.andThen_ok, hq, Sem.run_pure, hz, Nat.mul_one, Std.Legacy.Range.forIn_eq_forIn_range']
    rw [forIn_all _ (fun i hi w => ?_)]
    · rfl
    · obtain ⟨q, hq⟩ := hc i (by simp [Std.Legacy.Range.size] at hi; omega)
      have hp : ∀ w, (part el cs i).run P w = .ok (.int k q) w := fun w => by simp [part, isAgg, run_underlying hk, hq]
      rw [Sem.run_bind, hp, Result.andThen_ok, Sem.run_bind, hp, Result.andThen_ok, Sem.run_bind, run_equalIn_int _ _ _ _ _ _ _ hk]
      simp
theorem y_aeq {m : Nat} {el : TypeId} {k : IntKind} {cs : Array Value} (hg : P.eqGuardType P.depth t = false) (hu : P.underlying t = some (.array m el)) (hs : (P.info? el).map (·.size) = some 1) (hk : P.underlying el = some (.int k)) (hc : ∀ i, i < m → ∃ q : Int, cs[i]? = some (.int k q))
    (ho : o.op = .binOp .eql t x y t') (hx : val E x = some (.agg cs)) (hy : val E y = some (.agg cs)) : Yields P E o w (.bool true) :=
  y_bin (fun x y w => by
    rw [Sem.run_bind, run_eqGuard_agg _ _ _ _ _ _ _ hg, Result.andThen_ok]
    show (do let r ← Op.equal t (.agg cs) (.agg cs); pure (Value.bool r) : Sem Value).run P w = _
    rw [Sem.run_bind, run_eq_row hu hs hk hc]
    rfl) ho hx hy
theorem y_weq_t {X Y : BitVec 32} (h : X = Y) (ho : o.op = .binOp .eql t x y t') (hx : val E x = some (wv X)) (hy : val E y = some (wv Y)) : Yields P E o w (.bool true) := by
  have := y_weq (P := P) (w := w) ho hx hy
  rwa [show decide (X = Y) = true from decide_eq_true h] at this
theorem y_one_f {X Y : BitVec 8} (h : X = Y) (ho : o.op = .binOp .neq t x y t') (hx : val E x = some (ov X)) (hy : val E y = some (ov Y)) : Yields P E o w (.bool false) := by
  have := y_one (P := P) (w := w) ho hx hy
  rwa [show (!decide (X = Y)) = false by simp [h]] at this
theorem y_one_t {X Y : BitVec 8} (h : X ≠ Y) (ho : o.op = .binOp .neq t x y t') (hx : val E x = some (ov X)) (hy : val E y = some (ov Y)) : Yields P E o w (.bool true) := by
  have := y_one (P := P) (w := w) ho hx hy
  rwa [show (!decide (X = Y)) = true by simp [h]] at this
theorem y_oeq_t {X Y : BitVec 8} (h : X = Y) (ho : o.op = .binOp .eql t x y t') (hx : val E x = some (ov X)) (hy : val E y = some (ov Y)) : Yields P E o w (.bool true) := by
  have := y_oeq (P := P) (w := w) ho hx hy
  rwa [show decide (X = Y) = true from decide_eq_true h] at this
theorem y_oeq_f {X Y : BitVec 8} (h : X ≠ Y) (ho : o.op = .binOp .eql t x y t') (hx : val E x = some (ov X)) (hy : val E y = some (ov Y)) : Yields P E o w (.bool false) := by
  have := y_oeq (P := P) (w := w) ho hx hy
  rwa [show decide (X = Y) = false from decide_eq_false h] at this
theorem y_beq_t {a b : Bool} (hu : P.underlying t = some .bool) (h : a = b) (ho : o.op = .binOp .eql t x y t') (hx : val E x = some (.bool a)) (hy : val E y = some (.bool b)) : Yields P E o w (.bool true) := by
  have := y_beq (P := P) (w := w) hu ho hx hy
  rwa [show (a == b) = true by simp [h]] at this
theorem y_bne_f {a b : Bool} (hu : P.underlying t = some .bool) (h : a = b) (ho : o.op = .binOp .neq t x y t') (hx : val E x = some (.bool a)) (hy : val E y = some (.bool b)) : Yields P E o w (.bool false) := by
  have := y_bne (P := P) (w := w) hu ho hx hy
  rwa [show (!(a == b)) = false by simp [h]] at this
theorem y_iand {m : Int} (c : Nat) (hc : c < 64) (ho : o.op = .binOp .and t x y t') (hx : val E x = some (.int .i64 m)) (hy : val E y = some (.int .i64 (c : Int))) : Yields P E o w (iv (BitVec.ofInt 64 m &&& BitVec.ofNat 64 c).toNat) :=
  y_bin (fun x y w => by
    show Result.ok (Value.int .i64 (IntKind.i64.wrap ((BitVec.ofInt 64 m &&& BitVec.ofInt 64 (c : Int)).toNat : Nat))) w = _
    rw [BitVec.ofInt_natCast]
    have h1 : (BitVec.ofInt 64 m &&& BitVec.ofNat 64 c).toNat ≤ c := by
      rw [BitVec.toNat_and, BitVec.toNat_ofNat, Nat.mod_eq_of_lt (by omega)]
      exact Nat.and_le_right
    rw [wrap_i64 (by omega) (by omega)]) ho hx hy
theorem y_iquo (r s : Nat) (hs : 0 < s) (hr : r < 9223372036854775808) (ho : o.op = .binOp .quo t x y t') (hx : val E x = some (iv r)) (hy : val E y = some (iv s)) : Yields P E o w (iv (r / s)) :=
  y_bin (fun x y w => by
    have h1 : ¬ ((s : Int) = 0) := by omega
    have h2 : r / s ≤ r := Nat.div_le_self r s
    have h3 : ((r : Int)).tdiv (s : Int) = ((r / s : Nat) : Int) := by
      rw [Int.tdiv_eq_ediv_of_nonneg (by omega)]
      omega
    show (Op.intDiv .quo .i64 (r : Int) (s : Int)).run P w = _
    unfold Op.intDiv
    rw [if_neg h1]
    show Result.ok (Value.int .i64 (IntKind.i64.wrap ((r : Int).tdiv (s : Int)))) w = _
    have h4 : (0 : Int) ≤ ((r / s : Nat) : Int) := Int.natCast_nonneg _
    have h5 : ((r / s : Nat) : Int) ≤ (r : Int) := Int.ofNat_le.2 h2
    rw [h3, wrap_i64 (by omega) (by omega)]) ho hx hy
theorem y_iu {k : TypeDesc} (r : Nat) (h : r < 9223372036854775808) (hs : P.underlying t = some k) (hu : P.underlying t' = some (.int .u64)) (ho : o.op = .convert t t' x) (hx : val E x = some (iv r)) : Yields P E o w (.int .u64 (r : Int)) := by
  have h1 := y_conv_u (w := w) hs hu ho hx
  have e : IntKind.u64.wrap (r : Int) = (r : Int) := by
    unfold IntKind.wrap
    simp [IntKind.bits, IntKind.signed]
    omega
  rw [e] at h1
  exact h1
theorem y_ine (r s : Nat) (ho : o.op = .binOp .neq t x y t') (hx : val E x = some (iv r)) (hy : val E y = some (iv s)) : Yields P E o w (.bool (!decide (r = s))) :=
  y_bin (fun x y w => by
    show Result.ok (Value.bool ((r : Int) != (s : Int))) w = _
    by_cases e : r = s
    · subst e; simp
    · have : (r : Int) ≠ (s : Int) := by omega
      simp [e, this, bne]) ho hx hy
theorem y_igeq (r s : Nat) (ho : o.op = .binOp .geq t x y t') (hx : val E x = some (iv r)) (hy : val E y = some (iv s)) : Yields P E o w (.bool (decide (s ≤ r))) :=
  y_bin (fun x y w => by
    show Result.ok (Value.bool (decide ((r : Int) ≥ (s : Int)))) w = _
    refine congrArg (fun b => Result.ok (Value.bool b) w) ?_
    exact decide_eq_decide.2 (by omega)) ho hx hy
theorem ret_tmp {fn : Func} {p : Tmp} {R : Ending → World → Prop} (h : fn.results = #[.tmp p]) (hp : look E p = some v) (hR : R (.returned v) w) : CG P (bodyPost P fn R) n E .ret w :=
  cg_ret fun a ha => bodyPost_ret (by have := ha.2.2 p _ hp; simp [results, h, this]) ha.2.1 hR
theorem lg_bslice {el : TypeId} {len : Nat} {parts : Array (Nat × Operand)} {z : Value} {vs : List Value} {cs : Array Value} (hu : P.underlying t = some (.slice el)) (hz : (P.info? el).map (fun i => (i.zero, i.size)) = some (some z, 1)) (hl : 0 < len) (hl' : len ≤ 1000)
    (ho : o.op = .buildSlice t len parts) (hx : vals E (parts.toList.map (·.2)) = some vs) (hf : Instr.fill (fun i => some (i * 1, 1)) ((Array.range (len * 1)).map (fun k => z.cells[k % z.cells.size]!)) ((parts.toList.map (·.1)).zip vs) = some cs)
    (hd : o.dst = some d) (hg : o.guard = none) (hn : d < n)
    (h : ∀ b w', New w w' b el cs → LG P ops Q n ((d, .slice (some ⟨b, 0, none⟩) len len) :: E) rest w') : LG P ops Q n E (o :: rest) w := by
  intro a ha
  unfold wpList
  rw [wanted_none hg, if_pos rfl]
  refine .inl ?_
  unfold Oper.wp
  have e : (parts.map fun (i, x) => (i, a.eval x)).toList = (parts.toList.map (·.1)).zip vs := by
    rw [← ha.evals hx]
    rw [List.map_map, List.zip_map', Array.toList_map]
    rfl
  have he : (execOp a.eval o).run P w = .ok (.value (.slice (some ⟨w.heap.size, 0, none⟩) len len)) (w.alloc (.cells cs el)) := by
    unfold execOp
    rw [ho]
    have hzz := zero_of_info hz
    cases hq : P.info? el with
    | none => simp [hq] at hz
    | some it =>
      have hs1 : it.size = 1 := by simpa [hq] using hzz.2
      have h0 : ¬ len = 0 := by omega
      have h16 : ¬ 16777216 < len := by omega
      simp only [Instr.buildSlice, e]
      simp only [Nat.mul_one] at hf
      simp [run_underlying hu, sizeOf, typeInfo, hq, hs1, h0, h16, hzz.1, hf, newRow]
  rw [he]
  show wpList P ops Q rest (a.put o.dst _) _
  rw [hd]
  exact h _ _ (New.of_alloc el cs) _ (ha.put hn)

-- regions with calls that make memory
def Keeps (w : World) : World → Prop := fun w' => Below w.heap.size w w'
def HG (P : Program) (ops : Array Oper) (Q : Exit → Act → World → Prop) (w0 : World) (n fuel : Nat) (listed : Array Bool) (E : Env) (w : World) : Prop := ∀ a, Holds n E a → wpAnyH P .any ops Q (Keeps w0) fuel listed a w
theorem cg_held {id : Nat} {l : List Oper} (hm : P.follows .mixedOrders = true) (h : ∀ W, W = w.drew → HG P l.toArray Q W n l.toArray.size (Array.replicate l.toArray.size false) E W) : CG P Q n E (.region id l.toArray true) w := fun a ha =>
  wp_region_held_drew (S := Keeps w.drew) hm (Below.refl _ _) (fun _ => h _ rfl a ha)
def isVal : Op → Bool
  | .move _ | .assign _ | .load _ _ | .binOp _ _ _ _ _ | .pick _ _ _ | .indexAddr _ _ _ | .unOp _ _ _ | .convert _ _ _ | .slice _ _ _ _ _ | .fieldAddr _ _ _ | .field _ _ _ | .index _ _ _ | .build _ _ | .makeFunc _ _ _ => true
  | .call c => match c.callee with | .builtin .len => true | _ => false
  | _ => false
theorem val_of (hv : isVal o.op = true) {a : Act} {f : FuncId} {args : Array Value} {w' : World} : (execOp a.eval o).run P w ≠ .ok (.enter f args) w' := by
  have key : ∀ s : Sem Value, ((do pure (Next.value (← s)) : Sem Next)).run P w ≠ .ok (.enter f args) w' := by
    intro s
    rw [Sem.run_bind]
    cases s.run P w <;> simp
  unfold execOp
  cases ho : o.op <;> rw [ho] at hv <;> first | (simp [isVal] at hv; done) | (simp; done) | exact key _ | skip
  case pick c x y =>
    simp only []
    rw [Sem.run_bind]
    cases (asBool (a.eval c)).run P w <;> simp
  case call c =>
    obtain ⟨callee, args, ats⟩ := c
    cases callee with
    | builtin b =>
      cases b <;> first | (simp [isVal] at hv; done) | skip
      exact key _
    | _ => simp [isVal] at hv
theorem hg_take {fuel : Nat} {listed : Array Bool} (i : Nat) (ho : ops[i]? = some o) (hw : Want ops E o true) (hv : isVal o.op = true) (hd : o.dst = some d) (hn : d < n)
    (hs : Region.noSelect ops = true) (hf : Region.free .any ops listed i = true) (hr : (Region.ready .any ops listed).contains i = true)
    (hQ : ∀ c a w, Q (.panic c) (a.put (some d) v) w → Q (.panic c) a w) (hb : Below w0.heap.size w0 w) (y : ∀ w', Below w0.heap.size w0 w' → Yields P E o w' v)
    (h : HG P ops Q w0 n fuel (listed.setIfInBounds i true) ((d, v) :: E) w) : HG P ops Q w0 n (fuel + 1) listed E w := by
  intro a ha
  have h' := h _ (ha.put (v := v) hn)
  rw [← hd] at h' hQ
  refine wpAnyH_take (i := i) (oi := o) (v := v) ho hs hf hr hQ (.inl ⟨hw n a ha, fun w' hS => ?_⟩) hb h'
  rcases y w' hS n a ha with hy | ⟨f, args, hy, hc⟩
  · exact hy
  · exact absurd hy (val_of hv)
theorem hg_takev {fuel : Nat} {listed : Array Bool} (i : Nat) (ho : ops[i]? = some o) (hw : Want ops E o true) (hd : o.dst = some d) (hn : d < n)
    (hs : Region.noSelect ops = true) (hf : Region.free .any ops listed i = true) (hr : (Region.ready .any ops listed).contains i = true)
    (hQ : ∀ c a w, Q (.panic c) (a.put (some d) v) w → Q (.panic c) a w) (hb : Below w0.heap.size w0 w) (y : ∀ w' n a, Holds n E a → (execOp a.eval o).run P w' = .ok (.value v) w')
    (h : HG P ops Q w0 n fuel (listed.setIfInBounds i true) ((d, v) :: E) w) : HG P ops Q w0 n (fuel + 1) listed E w := by
  intro a ha
  have h' := h _ (ha.put (v := v) hn)
  rw [← hd] at h' hQ
  exact wpAnyH_take (i := i) (oi := o) (v := v) ho hs hf hr hQ (.inl ⟨hw n a ha, fun w' hS => y w' n a ha⟩) hb h'
theorem v_nilc {p : Addr} (ho : o.op = .nilCheck x) (hx : val E x = some (.pointer (some p))) (w : World) (n : Nat) (a : Act) (ha : Holds n E a) : (execOp a.eval o).run P w = .ok (.value (.pointer (some p))) w := by
  unfold execOp
  rw [ho]
  simp only [ha.eval hx]
  rfl
theorem hg_skip {fuel : Nat} {listed : Array Bool} (i : Nat) (ho : ops[i]? = some o) (hw : Want ops E o false) (hd : o.dst = some d) (hn : d < n)
    (hs : Region.noSelect ops = true) (hf : Region.free .any ops listed i = true) (hr : (Region.ready .any ops listed).contains i = true)
    (hQ : ∀ c a w, Q (.panic c) (a.put (some d) undef) w → Q (.panic c) a w) (hb : Below w0.heap.size w0 w)
    (h : HG P ops Q w0 n fuel (listed.setIfInBounds i true) ((d, undef) :: E) w) : HG P ops Q w0 n (fuel + 1) listed E w := by
  intro a ha
  have h' := h _ (ha.put (v := undef) hn)
  rw [← hd] at h' hQ
  exact wpAnyH_take (i := i) (oi := o) (v := undef) ho hs hf hr hQ (.inr ⟨hw n a ha, rfl⟩) hb h'
theorem hg_skip1 {fuel : Nat} {listed : Array Bool} (i : Nat) (hb : Below w0.heap.size w0 w) (ho : ops[i]? = some o) (hw : Want ops E o false) (hd : o.dst = some d) (hn : d < n) (hr : Region.ready .any ops listed = [i])
    (h : HG P ops Q w0 n fuel (listed.setIfInBounds i true) ((d, undef) :: E) w) : HG P ops Q w0 n (fuel + 1) listed E w := by
  intro a ha
  refine wpAnyH_all hr (by simp) fun j hj => ?_
  obtain rfl : j = i := by simpa using hj
  unfold wpOp
  simp only [ho, hw n a ha, Bool.false_eq_true, if_false]
  rw [hd]
  exact ⟨hb, h _ (ha.put hn)⟩
theorem op_of_lg {K : Act → World → Prop} {a : Act} (i : Nat) (ho : ops[i]? = some o) (hw : Want ops E o true) (ha : Holds n E a) (h : LG P ops (Exit.then K Q) n E [o] w) : wpOp P ops Q i K a w := by
  have h' := h a ha
  unfold wpList at h'
  rw [hw n a ha, if_pos rfl] at h'
  unfold wpOp
  simp only [ho, hw n a ha, if_true]
  rcases h' with h' | h'
  · refine .inl ?_
    unfold Oper.wp at *
    generalize (execOp a.eval o).run P w = r at *
    cases r with
    | ok nx w' =>
      cases nx <;> simp only [Oper.upon] at h' ⊢ <;> first | exact h' | skip
      all_goals
        refine h'.mono ?_
        intro e w'' q
        first | exact q | (cases e <;> first | exact q | (obtain ⟨a1, w1, q1⟩ := q; exact ⟨a1, w1, q1⟩))
    | halt x w' => cases x <;> exact h'
  · refine .inr ⟨h'.1, ?_⟩
    obtain ⟨a1, w1, q1⟩ := h'.2
    exact ⟨a1, w1, q1⟩
theorem hg_one {fuel : Nat} {listed : Array Bool} (i : Nat) (ho : ops[i]? = some o) (hr : Region.ready .any ops listed = [i]) (hw : Want ops E o true)
    (h : LG P ops (Exit.then (fun a w' => Keeps w0 w' ∧ wpAnyH P .any ops Q (Keeps w0) fuel (listed.setIfInBounds i true) a w') Q) n E [o] w) : HG P ops Q w0 n (fuel + 1) listed E w := by
  intro a ha
  refine wpAnyH_all hr (by simp) fun j hj => ?_
  obtain rfl : j = i := by simpa using hj
  exact op_of_lg j ho hw ha h
theorem hg_two {fuel : Nat} {listed : Array Bool} {o' : Oper} (i j : Nat) (ho : ops[i]? = some o) (ho' : ops[j]? = some o') (hr : Region.ready .any ops listed = [i, j]) (hw : Want ops E o true) (hw' : Want ops E o' true)
    (h : LG P ops (Exit.then (fun a w' => Keeps w0 w' ∧ wpAnyH P .any ops Q (Keeps w0) fuel (listed.setIfInBounds i true) a w') Q) n E [o] w)
    (h' : LG P ops (Exit.then (fun a w' => Keeps w0 w' ∧ wpAnyH P .any ops Q (Keeps w0) fuel (listed.setIfInBounds j true) a w') Q) n E [o'] w) : HG P ops Q w0 n (fuel + 1) listed E w := by
  intro a ha
  refine wpAnyH_all hr (by simp) fun k hk => ?_
  rcases (by simpa using hk : k = i ∨ k = j) with rfl | rfl
  · exact op_of_lg k ho hw ha h
  · exact op_of_lg k ho' hw' ha h'
theorem cg_cut {c c' : Code} (J : World → Env → Prop) (hx : CG P (Exit.then (fun a v => ∃ E', J v E' ∧ Holds n E' a) Q) n E c w) (hy : ∀ v E', J v E' → CG P Q n E' c' v) : CG P Q n E (.seq c c') w := fun a ha =>
  wp_seq (Code.wp_mono (fun e a v q => by
    cases e <;> first | exact q | (obtain ⟨E', h1, h2⟩ := q; exact hy v E' h1 a h2)) (hx a ha))
theorem hg_next {fuel : Nat} {listed : Array Bool} {i : Nat} (hb : Below w0.heap.size w0 w) (h : HG P ops Q w0 n fuel (listed.setIfInBounds i true) E w) : LG P ops (Exit.then (fun a w' => Keeps w0 w' ∧ wpAnyH P .any ops Q (Keeps w0) fuel (listed.setIfInBounds i true) a w') Q) n E [] w :=
  fun a ha => ⟨hb, h a ha⟩
theorem hg_done {fuel : Nat} {listed : Array Bool} (hr : Region.ready .any ops listed = []) (h : ∀ a, Holds n E a → Q .normal a w) : HG P ops Q w0 n fuel listed E w := fun a ha => wpAnyH_done hr (h a ha) fuel
/-- A call under a guard that wants it, which leaves another world. -/
theorem lg_callw {f : FuncId} {xs : List Operand} {ts : Array TypeId} {vs : List Value} {R : Value → World → Prop} (hw : Want ops E o true) (hc : Calls P f vs.toArray w fun e w' => ∃ v, e = .returned v ∧ R v w')
    (hf : ((P.funcs[f]?).map fun fn => (fn.name == "runtime.NumGoroutine", fn.body.isNone)) = some (false, false))
    (ho : o.op = .call { callee := .value (.func f), args := xs.toArray, argTypes := ts }) (hx : vals E xs = some vs) (hd : o.dst = some d) (hn : d < n)
    (h : ∀ v w', R v w' → LG P ops Q n ((d, v) :: E) rest w') : LG P ops Q n E (o :: rest) w := by
  intro a ha
  unfold wpList
  rw [hw n a ha, if_pos rfl]
  refine .inl ?_
  unfold Oper.wp
  rw [exec_enter hf xs.toArray ts a vs.toArray (by simp [ha.evals hx]) o ho w, Oper.upon_enter]
  refine hc.mono ?_
  rintro e w' ⟨v, rfl, hR⟩
  show wpList P ops Q rest (a.put o.dst v) w'
  rw [hd]
  exact h v w' hR _ (ha.put hn)
end
theorem hubo : Try.prog.underlying 4 = some .bool := by kernel_rfl
end Go.Proofs.Ytakbbenegojcdaa
