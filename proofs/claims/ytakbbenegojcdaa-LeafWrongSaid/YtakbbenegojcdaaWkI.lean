/-
  Rules for whole numbers of either sign, fields, calls, functions as values: they name no type.
-/
import Derived.Test.YtakbbenegojcdaaWkB
import Derived.Laws.Slices
namespace Go.Proofs.Ytakbbenegojcdaa
open Go.ChangeShapes Go.WideShapes Go.ChangeAt Go.RowKit
set_option linter.unusedVariables false

section
variable {P : Program} {ops : Array Oper} {Q : Exit → Act → World → Prop} {n d : Nat} {E : Env} {o : Oper} {rest : List Oper} {w w0 : World} {v : Value} {x y : Operand} {t t' : TypeId}

abbrev nv (k : Int) : Value := .int .i64 k
/-- A truth value of which it is known which one it is. -/
theorem yb {b c : Bool} (h : b = c) (y : Yields P E o w (.bool b)) : Yields P E o w (.bool c) := h ▸ y
theorem yv {u : Value} (h : u = v) (y : Yields P E o w u) : Yields P E o w v := h ▸ y
theorem want_p {j dj : Nat} {b c d : Bool} (hg : o.guard = some (j, b)) (hj : (ops[j]?).bind (·.dst) = some dj) (hy : look E dj = some (.bool c)) (h : (c == b) = d) : Want ops E o d := h ▸ want_some hg hj hy
theorem yi_add {r s : Int} (ho : o.op = .binOp .add t x y t') (hx : val E x = some (nv r)) (hy : val E y = some (nv s)) (h0 : -9223372036854775808 ≤ r + s) (h1 : r + s < 9223372036854775808) : Yields P E o w (nv (r + s)) :=
  y_bin (fun x y w => by show Result.ok (Value.int .i64 (IntKind.i64.wrap (r + s))) w = _; rw [wrap_i64 h0 h1]) ho hx hy
theorem yi_sub {r s : Int} (ho : o.op = .binOp .sub t x y t') (hx : val E x = some (nv r)) (hy : val E y = some (nv s)) (h0 : -9223372036854775808 ≤ r - s) (h1 : r - s < 9223372036854775808) : Yields P E o w (nv (r - s)) :=
  y_bin (fun x y w => by show Result.ok (Value.int .i64 (IntKind.i64.wrap (r - s))) w = _; rw [wrap_i64 h0 h1]) ho hx hy
theorem yi_mul {r s : Int} (ho : o.op = .binOp .mul t x y t') (hx : val E x = some (nv r)) (hy : val E y = some (nv s)) (h0 : -9223372036854775808 ≤ r * s) (h1 : r * s < 9223372036854775808) : Yields P E o w (nv (r * s)) :=
  y_bin (fun x y w => by show Result.ok (Value.int .i64 (IntKind.i64.wrap (r * s))) w = _; rw [wrap_i64 h0 h1]) ho hx hy
theorem yi_lss {r s : Int} (ho : o.op = .binOp .lss t x y t') (hx : val E x = some (nv r)) (hy : val E y = some (nv s)) : Yields P E o w (.bool (decide (r < s))) :=
  y_bin (fun x y w => rfl) ho hx hy
theorem yi_leq {r s : Int} (ho : o.op = .binOp .leq t x y t') (hx : val E x = some (nv r)) (hy : val E y = some (nv s)) : Yields P E o w (.bool (decide (r ≤ s))) :=
  y_bin (fun x y w => rfl) ho hx hy
theorem yi_gtr {r s : Int} (ho : o.op = .binOp .gtr t x y t') (hx : val E x = some (nv r)) (hy : val E y = some (nv s)) : Yields P E o w (.bool (decide (s < r))) :=
  y_bin (fun x y w => rfl) ho hx hy
theorem yi_geq {r s : Int} (ho : o.op = .binOp .geq t x y t') (hx : val E x = some (nv r)) (hy : val E y = some (nv s)) : Yields P E o w (.bool (decide (s ≤ r))) :=
  y_bin (fun x y w => rfl) ho hx hy
theorem yi_eql {r s : Int} (ho : o.op = .binOp .eql t x y t') (hx : val E x = some (nv r)) (hy : val E y = some (nv s)) : Yields P E o w (.bool (decide (r = s))) :=
  y_bin (fun x y w => by
    show Result.ok (Value.bool (r == s)) w = _
    by_cases e : r = s
    · subst e; simp
    · simp [e]) ho hx hy
theorem yi_neq {r s : Int} (ho : o.op = .binOp .neq t x y t') (hx : val E x = some (nv r)) (hy : val E y = some (nv s)) : Yields P E o w (.bool (!decide (r = s))) :=
  y_bin (fun x y w => by
    show Result.ok (Value.bool (r != s)) w = _
    by_cases e : r = s
    · subst e; simp
    · simp [e, bne]) ho hx hy
theorem yi_rem {r s : Int} (ho : o.op = .binOp .rem t x y t') (hx : val E x = some (nv r)) (hy : val E y = some (nv s)) (h0 : 0 ≤ r) (h1 : 0 < s) : Yields P E o w (nv (r % s)) :=
  y_bin (fun x y w => by
    show (Op.intDiv .rem .i64 r s).run P w = _
    unfold Op.intDiv
    rw [if_neg (by omega)]
    show Result.ok (Value.int .i64 (r.tmod s)) w = _
    rw [Int.tmod_eq_emod_of_nonneg h0]) ho hx hy
theorem yi_quo {r s : Int} (ho : o.op = .binOp .quo t x y t') (hx : val E x = some (nv r)) (hy : val E y = some (nv s)) (h0 : 0 ≤ r) (h1 : 0 < s) (h2 : r < 9223372036854775808) : Yields P E o w (nv (r / s)) :=
  y_bin (fun x y w => by
    show (Op.intDiv .quo .i64 r s).run P w = _
    unfold Op.intDiv
    rw [if_neg (by omega)]
    show Result.ok (Value.int .i64 (IntKind.i64.wrap (r.tdiv s))) w = _
    have h3 : r / s ≤ r := Int.ediv_le_self _ h0
    have h4 : 0 ≤ r / s := Int.ediv_nonneg h0 (by omega)
    rw [Int.tdiv_eq_ediv_of_nonneg h0, wrap_i64 (by omega) (by omega)]) ho hx hy
theorem yi_shr {r s : Int} {k : IntKind} (ho : o.op = .binOp .shr t x y t') (hx : val E x = some (nv r)) (hy : val E y = some (.int k s)) (h1 : 0 ≤ s) (h2 : s < 64) : Yields P E o w (nv (r / 2 ^ s.toNat)) :=
  y_bin (fun x y w => by
    show (Op.shift .shr .i64 r k s).run P w = _
    unfold Op.shift
    rw [if_neg (by omega)]
    have hm : min s.toNat IntKind.i64.bits = s.toNat := by
      show min s.toNat 64 = s.toNat
      omega
    simp only [hm]
    show Result.ok (Value.int .i64 (r.fdiv (2 ^ s.toNat))) w = _
    rw [Int.fdiv_eq_ediv_of_nonneg _ (Int.pow_nonneg (by omega))]) ho hx hy
theorem yi_and {r s : Int} (ho : o.op = .binOp .and t x y t') (hx : val E x = some (nv r)) (hy : val E y = some (nv s)) : Yields P E o w (nv (bits .and .i64 r s)) :=
  y_bin (fun x y w => rfl) ho hx hy
theorem y_bnot {b : Bool} (ho : o.op = .unOp .not t x) (hx : val E x = some (.bool b)) : Yields P E o w (.bool (!b)) :=
  y_un (fun w => rfl) ho hx

-- fields
def aggB (P : Program) (t : TypeId) : Option Bool := (P.underlying t).map fun | .struct _ => true | .array _ _ => true | _ => false
theorem run_isAgg {b : Bool} (h : aggB P t = some b) : (isAgg t).run P w = .ok b w := by
  unfold aggB at h
  cases hq : P.underlying t with
  | none => simp [hq] at h
  | some dd =>
    have hr := run_underlying (w := w) hq
    cases dd <;> simp [hq] at h <;> subst h <;> simp [isAgg, hr]
def fldOff (P : Program) (s : TypeId) (f : Nat) : Option Nat :=
  match P.underlying s with
  | some (.struct fs) =>
    match fs[f]? with
    | some g => (P.info? g.type).bind fun i => if i.size = 0 then none else some g.offset
    | none => none
  | _ => none
theorem y_fld {s : TypeId} {f b j off : Nat} (hf : fldOff P s f = some off) (ho : o.op = .fieldAddr s x f) (hx : val E x = some (pv b j)) : Yields P E o w (pv b (j + off)) := fun n a ha => .inl (by
  unfold execOp
  rw [ho]
  simp only [ha.eval hx]
  have hb : (Instr.fieldAt s (pv b j) f).run P w = .ok (pv b (j + off)) w := by
    unfold fldOff at hf
    cases hu : P.underlying s with
    | none => simp [hu] at hf
    | some dd =>
      cases dd with
      | struct fs =>
        simp only [hu] at hf
        cases hg : fs[f]? with
        | none => simp [hg] at hf
        | some g =>
          simp only [hg] at hf
          cases hi : P.info? g.type with
          | none => simp [hi] at hf
          | some i =>
            by_cases hz : i.size = 0
            · simp [hi, hz] at hf
            · simp [hi, hz] at hf
              subst hf
              simp [Instr.fieldAt, run_underlying hu, hg, Instr.sureAddr, fieldPlace, sizeOf, typeInfo, hi, hz, Addr.add]
      | _ => simp [hu] at hf
  rw [Sem.run_bind, hb]
  rfl)
theorem y_cellv {b j : Nat} {tr : TypeId} {cs : Array Value} (hr : RowAt w b tr cs) (hj : cs[j]? = some v) (hu : aggB P t = some false) (ho : o.op = .load t x) (hx : val E x = some (pv b j)) : Yields P E o w v :=
  y_load (by
    have hc : w.cell? ⟨b, j, none⟩ = some v := by rw [cell_of_row w b j cs tr _ hr, hj]
    simp [loadVar, run_isAgg hu, hc]) ho hx
theorem y_part {b j m : Nat} {tr : TypeId} {cs ds : Array Value} (hr : RowAt w b tr cs) (he : cs.extract j (j + m) = ds) (hl : j + m ≤ cs.size) (hu : aggB P t = some true) (hi : (P.info? t).map (·.size) = some m) (ho : o.op = .load t x) (hx : val E x = some (pv b j)) : Yields P E o w (.agg ds) :=
  y_load (by
    have hd : ∀ k u, ds.toList[k]? = some u → w.cell? ((⟨b, j, none⟩ : Addr).add k) = some u := by
      intro k u hk
      rw [Addr.add_lit, cell_of_row w b (j + k) cs tr _ hr]
      subst he
      have hk' : k < m := by
        have := (List.getElem?_eq_some_iff.1 hk).1
        simp at this
        omega
      have : (cs.extract j (j + m))[k]? = some u := by rw [← Array.getElem?_toList]; exact hk
      rw [Array.getElem?_extract] at this
      rw [if_pos (by omega)] at this
      exact this
    have hsz : ds.size = m := by subst he; simp; omega
    cases hq : P.info? t with
    | none => simp [hq] at hi
    | some i =>
      have hz : i.size = m := by simpa [hq] using hi
      have hl := run_loadCells_list (P := P) w ⟨b, j, none⟩ ds.toList hd
      rw [Array.length_toList, hsz] at hl
      simp [loadVar, run_isAgg hu, sizeOf, typeInfo, hq, hz, hl]) ho hx
def fldTy (P : Program) (s : TypeId) (f : Nat) : Option (Nat × TypeId) :=
  match P.underlying s with
  | some (.struct fs) => (fs[f]?).map fun g => (g.offset, g.type)
  | _ => none
theorem run_field {s ft : TypeId} {f off : Nat} {cs : Array Value} (hf : fldTy P s f = some (off, ft)) : (Instr.field s (.agg cs) f).run P w = (part ft cs off).run P w := by
  unfold fldTy at hf
  cases hu : P.underlying s with
  | none => simp [hu] at hf
  | some dd =>
    cases dd with
    | struct fs =>
      simp only [hu] at hf
      cases hg : fs[f]? with
      | none => simp [hg] at hf
      | some g =>
        simp [hg] at hf
        obtain ⟨h1, h2⟩ := hf
        subst h1 h2
        simp [Instr.field, run_underlying hu, hg, asAgg]
    | _ => simp [hu] at hf
theorem y_fieldc {s ft : TypeId} {f off : Nat} {cs : Array Value} (hf : fldTy P s f = some (off, ft)) (hu : aggB P ft = some false) (ho : o.op = .field s x f) (hx : val E x = some (.agg cs)) (hv : cs[off]? = some v) : Yields P E o w v := fun n a ha => .inl (by
  unfold execOp
  rw [ho]
  simp only [ha.eval hx]
  rw [Sem.run_bind, run_field hf]
  simp [part, run_isAgg hu, hv])
theorem y_fieldp {s ft : TypeId} {f off m : Nat} {cs ds : Array Value} (hf : fldTy P s f = some (off, ft)) (hu : aggB P ft = some true) (hi : (P.info? ft).map (·.size) = some m) (ho : o.op = .field s x f) (hx : val E x = some (.agg cs)) (hv : cs.extract off (off + m) = ds) : Yields P E o w (.agg ds) := fun n a ha => .inl (by
  unfold execOp
  rw [ho]
  simp only [ha.eval hx]
  rw [Sem.run_bind, run_field hf]
  cases hq : P.info? ft with
  | none => simp [hq] at hi
  | some i =>
    have hz : i.size = m := by simpa [hq] using hi
    simp [part, run_isAgg hu, sizeOf, typeInfo, hq, hz, hv])
theorem y_nilc {p : Addr} (ho : o.op = .nilCheck x) (hx : val E x = some (.pointer (some p))) : Yields P E o w (.pointer (some p)) := fun n a ha => .inl (by
  unfold execOp
  rw [ho]
  simp only [ha.eval hx]
  rfl)
theorem y_mkf {f : Fn} {xs ys : List Operand} {vs us : List Value} (ho : o.op = .makeFunc f xs.toArray ys.toArray) (hx : vals E xs = some vs) (hy : vals E ys = some us) : Yields P E o w (.func f vs.toArray us.toArray) := fun n a ha => .inl (by
  unfold execOp
  rw [ho]
  simp [Instr.makeFunc, ha.evals hx, ha.evals hy])
theorem y_len {A : Option Addr} {m c : Nat} {el : TypeId} (hu : P.underlying t = some (.slice el)) (ho : o.op = .call { callee := .builtin .len, args := #[x], argTypes := #[t] }) (hx : val E x = some (.slice A m c)) : Yields P E o w (iv m) := fun n a ha => .inl (by
  unfold execOp
  rw [ho]
  simp [resolve, invoke, builtin, ha.eval hx, Builtin.len_, run_underlying hu]
  rfl)
theorem y_streq {s s' : ByteArray} (ho : o.op = .binOp .eql t x y t') (hx : val E x = some (.string s)) (hy : val E y = some (.string s')) : Yields P E o w (.bool (s.toList == s'.toList)) :=
  y_bin (fun x y w => rfl) ho hx hy
theorem y_streq_t {s s' : ByteArray} (h : s = s') (ho : o.op = .binOp .eql t x y t') (hx : val E x = some (.string s)) (hy : val E y = some (.string s')) : Yields P E o w (.bool true) :=
  yb (by subst h; simp) (y_streq ho hx hy)

-- calls
theorem exec_enterv {f : FuncId} {vs fs us : List Value} {E : Env} (hf : ((P.funcs[f]?).map fun fn => (fn.name == "runtime.NumGoroutine", fn.body.isNone)) = some (false, false)) (xs : List Operand) (ts : Array TypeId) (a : Act) (ha : Holds n E a)
    (hx : vals E xs = some vs) (hc : val E x = some (.func (.func f) fs.toArray us.toArray)) (o : Oper) (ho : o.op = .call { callee := .value x, args := xs.toArray, argTypes := ts }) (w : World) : (execOp a.eval o).run P w = .ok (.enter f (fs ++ vs ++ us).toArray) w := by
  unfold execOp
  rw [ho]
  have := call_enter hf (fs ++ vs ++ us).toArray w
  simp [resolve, Deferred.ofValue, ha.eval hc, invoke, ha.evals hx]
  simpa using this
/-- A call, of a function or of a function value, under a guard that wants it. -/
theorem lg_callv {f : FuncId} {xs : List Operand} {ts : Array TypeId} {vs fs us : List Value} {R : Value → World → Prop} (hw : Want ops E o true) (hc : Calls P f (fs ++ vs ++ us).toArray w fun e w' => ∃ v, e = .returned v ∧ R v w')
    (hf : ((P.funcs[f]?).map fun fn => (fn.name == "runtime.NumGoroutine", fn.body.isNone)) = some (false, false))
    (ho : o.op = .call { callee := .value x, args := xs.toArray, argTypes := ts }) (hv : val E x = some (.func (.func f) fs.toArray us.toArray)) (hx : vals E xs = some vs) (hd : o.dst = some d) (hn : d < n)
    (h : ∀ v w', R v w' → LG P ops Q n ((d, v) :: E) rest w') : LG P ops Q n E (o :: rest) w := by
  intro a ha
  unfold wpList
  rw [hw n a ha, if_pos rfl]
  refine .inl ?_
  unfold Oper.wp
  rw [exec_enterv hf xs ts a ha hx hv o ho w, Oper.upon_enter]
  refine hc.mono ?_
  rintro e w' ⟨v, rfl, hR⟩
  show wpList P ops Q rest (a.put o.dst v) w'
  rw [hd]
  exact h v w' hR _ (ha.put hn)
/-- An operation that yields a value and leaves another world. -/
theorem lg_do {w' : World} (hw : Want ops E o true) (hr : ∀ n a, Holds n E a → (execOp a.eval o).run P w = .ok (.value v) w') (hd : o.dst = some d) (hn : d < n) (h : LG P ops Q n ((d, v) :: E) rest w') : LG P ops Q n E (o :: rest) w := by
  intro a ha
  unfold wpList
  rw [hw n a ha, if_pos rfl]
  refine .inl ?_
  unfold Oper.wp
  rw [hr n a ha]
  show wpList P ops Q rest (a.put o.dst v) w'
  rw [hd]
  exact h _ (ha.put hn)
theorem lg_boxw {t : TypeId} {x : Operand} {cs : Array Value} (hw : Want ops E o true) (ho : o.op = .box t x) (hx : val E x = some (.agg cs)) (hi : (P.info? t).map (·.size) = some cs.size) (hd : o.dst = some d) (hn : d < n)
    (h : ∀ b w', New w w' b t cs → LG P ops Q n ((d, .pointer (some ⟨b, 0, none⟩)) :: E) rest w') : LG P ops Q n E (o :: rest) w :=
  lg_do hw (fun n a ha => by
    unfold execOp
    rw [ho]
    simp only [ha.eval hx]
    simp [Instr.box, newVar, newRow, Value.cells]) hd hn (h _ _ (New.of_alloc t cs))
theorem lg_allocw {t : TypeId} {cs : Array Value} (hw : Want ops E o true) (ho : o.op = .alloc t) (hi : (P.info? t).map (fun i => (i.zero, i.size)) = some (some (.agg cs), cs.size)) (hd : o.dst = some d) (hn : d < n)
    (h : ∀ b w', New w w' b t cs → LG P ops Q n ((d, .pointer (some ⟨b, 0, none⟩)) :: E) rest w') : LG P ops Q n E (o :: rest) w :=
  lg_do hw (fun n a ha => by
    unfold execOp
    rw [ho]
    simp [Instr.alloc, newVar, newRow, Value.cells, (zero_of_info hi)]) hd hn (h _ _ (New.of_alloc t cs))
/-- A store of some cells into a row of one's own. -/
theorem lg_st {t tr : TypeId} {b j : Nat} {old new : Array Value} {u : Value} (hw : Want ops E o true) (hr : RowAt w b tr old) (ho : o.op = .store t x y) (hx : val E x = some (pv b j)) (hy : val E y = some u)
    (hi : (P.info? t).map (·.size) = some u.cells.size) (h1 : u.cells.all (·.oneCell') = true) (hfit : j + u.cells.size ≤ old.size) (hnew : (old.toList.take j ++ u.cells.toList ++ old.toList.drop (j + u.cells.size)).toArray = new) (hd : o.dst = none)
    (h : ∀ w', Set1 w w' b tr new → LG P ops Q n E rest w') : LG P ops Q n E (o :: rest) w := by
  intro a ha
  unfold wpList
  rw [hw n a ha, if_pos rfl]
  refine .inl ?_
  unfold Oper.wp
  have he : (execOp a.eval o).run P w = .ok .skip (w.setRow b new) := by
    unfold execOp
    rw [ho]
    simp only [ha.eval hx, ha.eval hy, Instr.storeAt, Instr.sureAddr]
    have hs : (storeVar t ⟨b, j, none⟩ u).run P w = .ok () (w.setRow b new) := by
      cases hq : P.info? t with
      | none => simp [hq] at hi
      | some it =>
        have hz : it.size = u.cells.size := by simpa [hq] using hi
        have hst := run_storeCells_at P b j tr u.cells.toList 0 old w hr (by simpa using hfit) (fun v hv => by
          have := Array.all_eq_true.1 h1
          obtain ⟨k, hk, e⟩ := List.mem_iff_getElem.1 hv
          have h2 := this k (by simpa using hk)
          simpa [← e] using h2)
        simp only [Nat.add_zero, Array.length_toList] at hst
        rw [hnew] at hst
        simp [storeVar, sizeOf, typeInfo, hq, hz, hst]
    simp [hs]
  rw [he]
  show wpList P ops Q rest (a.put o.dst undef) _
  rw [hd]
  exact h _ (Set1.of_setRow hr) a ha
/-- One stands in a held region: the condition is strengthened to all that is there now. -/
theorem held_up {S S' : World → Prop} {md : Region.Mode} (hS : ∀ w, S' w → S w) : ∀ (fuel : Nat) (listed : Array Bool) (a : Act) (w : World), wpAnyH P md ops Q S' fuel listed a w → wpAnyH P md ops Q S fuel listed a w
  | 0, _, _, _, h => h
  | fuel + 1, listed, a, w, h => ⟨h.1, fun i hi => wpOp_mono (fun a' w' k => ⟨hS _ k.1, held_up hS fuel _ a' w' k.2⟩) (h.2 i hi)⟩
theorem hg_up {fuel : Nat} {listed : Array Bool} (hb : Below w0.heap.size w0 w) (h : HG P ops Q w n fuel listed E w) : HG P ops Q w0 n fuel listed E w := fun a ha =>
  held_up (fun w' hw => hb.trans (hw.mono hb.size)) _ _ _ _ (h a ha)
end
end Go.Proofs.Ytakbbenegojcdaa
