/-
  Slices of octets as one letter each, strings of octets, results of several kinds, calls that write two blocks.
-/
import Derived.Test.YtakbbenegojcdaaWkD
import Derived.Test.YtakbbenegojcdaaWkO
import Derived.Lib.Bytes
namespace Go.Proofs.Ytakbbenegojcdaa
open Go.ChangeShapes Go.WideShapes Go.ChangeAt Go.RowKit
set_option linter.unusedVariables false

structure SlV where
  A : Option Addr
  m : Nat
  c : Nat
abbrev SlV.v (s : SlV) : Value := .slice s.A s.m s.c
abbrev nilS : SlV := ⟨none, 0, 0⟩
abbrev Bytes (xs : List Int) : Prop := ∀ x ∈ xs, 0 ≤ x ∧ x ≤ 255
/-- A slice, with the bounds of its capacity, that reads as octets and lies below block B. -/
def Sl (w : World) (B : Nat) (s : SlV) (xs : List Int) : Prop := s.m ≤ s.c ∧ s.c ≤ maxLen ∧ Oct w B s.A s.m xs
section
variable {w w' : World} {B B' : Nat} {s : SlV} {xs ys : List Int}
theorem Sl.len (h : Sl w B s xs) : xs.length = s.m := h.2.2.1
theorem Sl.cap (h : Sl w B s xs) : s.m ≤ s.c ∧ s.c ≤ 9223372036854775807 := ⟨h.1, by have := h.2.1; unfold maxLen at this; omega⟩
theorem Sl.bytes (h : Sl w B s xs) : Bytes xs := h.2.2.2.1
theorem Sl.below (h : Sl w B s xs) (b : Below B w w') : Sl w' B s xs := ⟨h.1, h.2.1, h.2.2.below b⟩
theorem Sl.more (h : Sl w B s xs) (b : B ≤ B') : Sl w B' s xs := ⟨h.1, h.2.1, h.2.2.more b⟩
theorem Sl.nil (w : World) (B : Nat) : Sl w B nilS [] := ⟨Nat.le_refl _, Nat.zero_le _, Oct.nil _ _ _⟩
theorem Sl.cast (h : Sl w B s xs) (e : xs = ys) : Sl w B s ys := e ▸ h
theorem Sl.mk {A : Option Addr} {m c : Nat} (h1 : m ≤ c) (h2 : c ≤ maxLen) (h3 : Oct w B A m xs) : Sl w B ⟨A, m, c⟩ xs := ⟨h1, h2, h3⟩
theorem Sl.head (h : Sl w B s xs) (k : Nat) (hk : k ≤ s.m) : Sl w B ⟨s.A, k, s.c⟩ (xs.take k) := ⟨Nat.le_trans hk h.1, h.2.1, h.2.2.upto k hk⟩
theorem Sl.tail (h : Sl w B s xs) (k : Nat) (hk : k ≤ s.m) : Sl w B ⟨cutA s.A k s.c, s.m - k, s.c - k⟩ (xs.drop k) := ⟨Nat.sub_le_sub_right h.1 k, Nat.le_trans (Nat.sub_le _ _) h.2.1, h.2.2.cutA k _ h.1 hk⟩
/-- A row that holds no octet. -/
def noU8 : Value → Bool
  | .int .u8 _ => false
  | _ => true
theorem noOct_of {cs : Array Value} (h : cs.toList.all noU8 = true) : NoOct cs := by
  intro i z e
  have h1 := List.all_eq_true.1 h (.int .u8 z) (by
    rw [← Array.getElem?_toList] at e
    exact List.mem_of_getElem? e)
  simp [noU8] at h1
theorem Sl.set {c : Nat} {old new : Array Value} {t t' : TypeId} (h : Sl w B s xs) (r : RowAt w c t old) (no : old.toList.all noU8 = true) (st : Set1 w w' c t' new) : Sl w' B s xs := ⟨h.1, h.2.1, h.2.2.set r (noOct_of no) st⟩
theorem own_Sl {base n : Nat} {v : Value} (h : w.ownsRow base 5 1 v n (ys.map (Value.int .u8))) (hy : Bytes ys) : ∃ s : SlV, v = s.v ∧ Sl w w.heap.size s ys := by
  obtain ⟨A, cap, rfl, h1, h2, h3⟩ := own_sl h hy
  exact ⟨⟨A, n, cap⟩, rfl, h1, h2, h3⟩
theorem Bytes.app (h : Bytes xs) (h' : Bytes ys) : Bytes (xs ++ ys) := fun y hy => (List.mem_append.1 hy).elim (h y) (h' y)
theorem Bytes.nil : Bytes [] := fun y hy => by cases hy
theorem u8map_inj : ∀ {xs ys : List Int}, Bytes xs → Bytes ys → (xs.map fun n => UInt8.ofNat n.toNat) = (ys.map fun n => UInt8.ofNat n.toNat) → xs = ys
  | [], [], _, _, _ => rfl
  | [], _ :: _, _, _, h => by simp at h
  | _ :: _, [], _, _, h => by simp at h
  | x :: xs, y :: ys, hx, hy, h => by
    simp only [List.map_cons, List.cons.injEq] at h
    have h1 := hx x (by simp)
    have h2 := hy y (by simp)
    have h3 : (UInt8.ofNat x.toNat).toNat = (UInt8.ofNat y.toNat).toNat := congrArg UInt8.toNat h.1
    simp only [UInt8.toNat_ofNat'] at h3
    rw [u8map_inj (fun z hz => hx z (by simp [hz])) (fun z hz => hy z (by simp [hz])) h.2]
    have : x = y := by omega
    rw [this]
theorem strOf_inj (hx : Bytes xs) (hy : Bytes ys) (h : strOfNums xs = strOfNums ys) : xs = ys :=
  u8map_inj hx hy (congrArg (fun b : ByteArray => b.data.toList) h)
end

section
variable {P : Program} {ops : Array Oper} {Q : Exit → Act → World → Prop} {n d : Nat} {E : Env} {o : Oper} {rest : List Oper} {w w0 : World} {v : Value} {x y : Operand} {t t' : TypeId} {B : Nat} {s : SlV} {xs ys : List Int}
theorem y_lenS {el : TypeId} (h : Sl w0 B s xs) (hu : P.underlying t = some (.slice el)) (ho : o.op = .call { callee := .builtin .len, args := #[x], argTypes := #[t] }) (hx : val E x = some s.v) : Yields P E o w (nv (xs.length : Int)) :=
  yv (by rw [h.len]) (y_len hu ho hx)
theorem y_lenM {el : TypeId} {n : Nat} (hn : n = s.m) (hu : P.underlying t = some (.slice el)) (ho : o.op = .call { callee := .builtin .len, args := #[x], argTypes := #[t] }) (hx : val E x = some s.v) : Yields P E o w (nv (n : Int)) :=
  yv (by rw [hn]) (y_len hu ho hx)
/-- The place of an element of several cells. -/
theorem y_ixR {el : TypeId} {b off i k : Nat} {iI : Int} (hA : s.A = some ⟨b, off, none⟩) (hu : P.underlying t = some (.slice el)) (hs : (P.info? el).map (·.size) = some k) (e : iI = i) (hi : i < s.m) (ho : o.op = .indexAddr t x y) (hx : val E x = some s.v) (hy : val E y = some (nv iI)) : Yields P E o w (pv b (off + i * k)) :=
  y_ix (by
    subst e
    cases hq : P.info? el with
    | none => simp [hq] at hs
    | some it =>
      have hz : it.size = k := by simpa [hq] using hs
      simp [SlV.v, hA, Instr.indexAt, asIntOf, run_underlying hu, Instr.sureAddr, sizeOf, typeInfo, hq, hz, hi, Addr.add]
      try exact fun e => by omega) ho hx hy
theorem y_seqS (h : Bytes xs) (h' : Bytes ys) (ho : o.op = .binOp .eql t x y t') (hx : val E x = some (.string (strOfNums xs))) (hy : val E y = some (.string (strOfNums ys))) : Yields P E o w (.bool (decide (xs = ys))) :=
  yb (by
    by_cases e : xs = ys
    · subst e; simp
    · rw [decide_eq_false e]
      rw [beq_eq_false_iff_ne]
      intro q
      rw [Lib.strOfNums_toList, Lib.strOfNums_toList] at q
      exact e (u8map_inj h h' q)) (y_streq ho hx hy)
theorem y_sneS (h : Bytes xs) (h' : Bytes ys) (ho : o.op = .binOp .neq t x y t') (hx : val E x = some (.string (strOfNums xs))) (hy : val E y = some (.string (strOfNums ys))) : Yields P E o w (.bool (!decide (xs = ys))) :=
  yb (b := !((strOfNums xs).toList == (strOfNums ys).toList)) (by
    refine congrArg _ ?_
    by_cases e : xs = ys
    · subst e; simp
    · rw [decide_eq_false e]
      rw [beq_eq_false_iff_ne]
      intro q
      rw [Lib.strOfNums_toList, Lib.strOfNums_toList] at q
      exact e (u8map_inj h h' q)) (y_bin (fun x y w => rfl) ho hx hy)
theorem y_saddS (h : xs.length + ys.length ≤ 1000000000000) (ho : o.op = .binOp .add t x y t') (hx : val E x = some (.string (strOfNums xs))) (hy : val E y = some (.string (strOfNums ys))) : Yields P E o w (.string (strOfNums (xs ++ ys))) :=
  y_bin (fun x y w => by
    rw [← str_app]
    show (Op.stringOp .add (strOfNums xs) (strOfNums ys)).run P w = _
    have e : ¬ (((strOfNums xs).size + (strOfNums ys).size : Nat) : Int) > IntKind.i64.max := by
      rw [strOfNums_size, strOfNums_size]
      show ¬ ((xs.length + ys.length : Nat) : Int) > 9223372036854775807
      omega
    unfold Op.stringOp
    simp only []
    rw [if_neg e]
    rfl) ho hx hy
def maskK (m : Int) (c : Nat) : Nat := (BitVec.ofInt 64 m &&& BitVec.ofNat 64 c).toNat
theorem y_maskW {m : Int} (c : Nat) (hc : c < 9223372036854775808) (ho : o.op = .binOp .and t x y t') (hx : val E x = some (nv m)) (hy : val E y = some (.int .i64 (c : Int))) : Yields P E o w (nv ((maskK m c : Nat) : Int)) :=
  y_bin (fun x y w => by
    show Result.ok (Value.int .i64 (IntKind.i64.wrap ((BitVec.ofInt 64 m &&& BitVec.ofInt 64 (c : Int)).toNat : Nat))) w = _
    rw [BitVec.ofInt_natCast]
    have h1 : (BitVec.ofInt 64 m &&& BitVec.ofNat 64 c).toNat ≤ c := by
      rw [BitVec.toNat_and, BitVec.toNat_ofNat, Nat.mod_eq_of_lt (by omega)]
      exact Nat.and_le_right
    rw [wrap_i64 (by omega) (by omega)]
    rfl) ho hx hy
theorem rem_nat (a b : Nat) (h : 0 < b) : ∃ k : Nat, (a : Int) % (b : Int) = (k : Int) ∧ k < b := ⟨a % b, by omega, Nat.mod_lt _ h⟩
theorem yi_addW {r s : Int} (ho : o.op = .binOp .add t x y t') (hx : val E x = some (nv r)) (hy : val E y = some (nv s)) : Yields P E o w (nv (IntKind.i64.wrap (r + s))) := y_bin (fun x y w => rfl) ho hx hy
theorem yi_subW {r s : Int} (ho : o.op = .binOp .sub t x y t') (hx : val E x = some (nv r)) (hy : val E y = some (nv s)) : Yields P E o w (nv (IntKind.i64.wrap (r - s))) := y_bin (fun x y w => rfl) ho hx hy
theorem hgs_two {S : World → Prop} {fuel : Nat} {listed : Array Bool} {o' : Oper} (i j : Nat) (ho : ops[i]? = some o) (ho' : ops[j]? = some o') (hr : Region.ready .any ops listed = [i, j]) (hw : Want ops E o true) (hw' : Want ops E o' true)
    (h : LG P ops (Exit.then (fun a w' => S w' ∧ wpAnyH P .any ops Q S fuel (listed.setIfInBounds i true) a w') Q) n E [o] w)
    (h' : LG P ops (Exit.then (fun a w' => S w' ∧ wpAnyH P .any ops Q S fuel (listed.setIfInBounds j true) a w') Q) n E [o'] w) : HGS P ops Q S n (fuel + 1) listed E w := by
  intro a ha
  refine wpAnyH_all hr (by simp) fun k hk => ?_
  rcases (by simpa using hk : k = i ∨ k = j) with rfl | rfl
  · exact op_of_lg k ho hw ha h
  · exact op_of_lg k ho' hw' ha h'
-- results of several kinds
theorem run_load_agg {b : Nat} {tr : TypeId} {cs : Array Value} (hr : RowAt w b tr cs) (hu : aggB P t = some true) (hi : (P.info? t).map (·.size) = some cs.size) : (loadVar t ⟨b, 0, none⟩).run P w = .ok (.agg cs) w := by
  unfold aggB at hu
  cases hq : P.underlying t with
  | none => simp [hq] at hu
  | some dd =>
    rw [hq] at hu
    exact run_loadVar_row w b tr t cs _ dd hr hq (by cases dd <;> first | rfl | (simp at hu)) hi
theorem y_loadA {b : Nat} {tr : TypeId} {cs : Array Value} (hr : RowAt w b tr cs) (hu : aggB P t = some true) (hi : (P.info? t).map (·.size) = some cs.size) (ho : o.op = .load t x) (hx : val E x = some (pv b 0)) : Yields P E o w (.agg cs) :=
  y_load (run_load_agg hr hu hi) ho hx
/-- A struct in a row of many, cell by cell. -/
theorem y_loadC {b j : Nat} {cs : Array Value} (hc : ∀ k u, cs[k]? = some u → w.cell? ⟨b, j + k, none⟩ = some u) (hu : aggB P t = some true) (hi : (P.info? t).map (·.size) = some cs.size) (ho : o.op = .load t x) (hx : val E x = some (pv b j)) : Yields P E o w (.agg cs) :=
  y_load (by
    have hd : ∀ k u, cs.toList[k]? = some u → w.cell? ((⟨b, j, none⟩ : Addr).add k) = some u := by
      intro k u hk
      rw [Addr.add_lit]
      exact hc k u (by rw [← Array.getElem?_toList]; exact hk)
    cases hq : P.info? t with
    | none => simp [hq] at hi
    | some i =>
      have hz : i.size = cs.size := by simpa [hq] using hi
      have hl := run_loadCells_list (P := P) w ⟨b, j, none⟩ cs.toList hd
      rw [Array.length_toList] at hl
      simp [loadVar, run_isAgg hu, sizeOf, typeInfo, hq, hz, hl]) ho hx
theorem y_min {r s : Int} {ts : Array TypeId} (ho : o.op = .call { callee := .builtin .min, args := #[x, y], argTypes := ts }) (hx : val E x = some (nv r)) (hy : val E y = some (nv s)) : Yields P E o w (nv (min r s)) := fun n a ha => .inl (by
  unfold execOp
  rw [ho]
  simp only [resolve, invoke, builtin, List.map_toArray, List.map_cons, List.map_nil, ha.eval hx, ha.eval hy, Sem.run_bind, Sem.run_pure, Result.andThen_ok]
  have e : (Builtin.min_ ts o.type #[nv r, nv s]).run P w = .ok (nv (min r s)) w := by
    simp only [Builtin.min_, Builtin.min2, List.foldlM]
    by_cases h : r ≤ s
    · by_cases h2 : s < r
      · omega
      · simp [h2, Int.min_eq_left h, Sem.run_bind]
    · simp [show s < r by omega, Int.min_eq_right (show s ≤ r by omega), Sem.run_bind]
  simp [e])
theorem eg_ret_tmp3 {fn : Func} {p q r : Tmp} {u z : Value} {R : Ending → World → Prop} (h : fn.results = #[.tmp p, .tmp q, .tmp r]) (hp : look E p = some v) (hq : look E q = some u) (hr : look E r = some z) (hR : R (.returned (.tuple #[v, u, z])) w) : ∀ a, Holds n E a → bodyPost P fn R .ret a w :=
  fun a ha => bodyPost_ret (by have h1 := ha.2.2 p _ hp; have h2 := ha.2.2 q _ hq; have h3 := ha.2.2 r _ hr; simp [results, h, h1, h2, h3]) ha.2.1 hR
theorem eg_ret_agg3 {fn : Func} {p q r : Tmp} {ty tr : TypeId} {b : Nat} {cs : Array Value} {u z : Value} {R : Ending → World → Prop} (h : fn.results = #[.cell p ty, .tmp q, .tmp r]) (hp : look E p = some (pv b 0)) (hr : RowAt w b tr cs)
    (hu : aggB P ty = some true) (hi : (P.info? ty).map (·.size) = some cs.size) (hq : look E q = some u) (hz : look E r = some z) (hR : R (.returned (.tuple #[.agg cs, u, z])) w) : ∀ a, Holds n E a → bodyPost P fn R .ret a w :=
  fun a ha => bodyPost_ret (by
    have h1 := ha.2.2 p _ hp
    have h2 := ha.2.2 q _ hq
    have h3 := ha.2.2 r _ hz
    have e : (asAddr (pv b 0)).run P w = .ok ⟨b, 0, none⟩ w := rfl
    simp only [results, h]
    simp [h1, h2, h3, Sem.run_bind, Result.andThen, e, run_load_agg hr hu hi]) ha.2.1 hR
theorem eg_ret_agg2 {fn : Func} {p q : Tmp} {ty tr : TypeId} {b : Nat} {cs : Array Value} {u : Value} {R : Ending → World → Prop} (h : fn.results = #[.cell p ty, .tmp q]) (hp : look E p = some (pv b 0)) (hr : RowAt w b tr cs)
    (hu : aggB P ty = some true) (hi : (P.info? ty).map (·.size) = some cs.size) (hq : look E q = some u) (hR : R (.returned (.tuple #[.agg cs, u])) w) : ∀ a, Holds n E a → bodyPost P fn R .ret a w :=
  fun a ha => bodyPost_ret (by
    have h1 := ha.2.2 p _ hp
    have h2 := ha.2.2 q _ hq
    have e : (asAddr (pv b 0)).run P w = .ok ⟨b, 0, none⟩ w := rfl
    simp only [results, h]
    simp [h1, h2, Sem.run_bind, Result.andThen, e, run_load_agg hr hu hi]) ha.2.1 hR
/-- The call writes two blocks that were there, and makes others; nothing else. -/
structure But2 (w w' : World) (b c : Nat) : Prop where
  size : w.heap.size ≤ w'.heap.size
  other : ∀ k, k < w.heap.size → k ≠ b → k ≠ c → w'.heap[k]? = w.heap[k]?
  below : ∀ B, B ≤ b → B ≤ c → B ≤ w.heap.size → Below B w w'
theorem But2.keep {w' : World} {b c b' : Nat} {cs' : Array Value} (h : But2 w w' b c) (r : RowAt w b' t cs') (e : b' ≠ b) (e' : b' ≠ c) : RowAt w' b' t cs' := by
  unfold RowAt
  rw [h.other b' r.lt e e']
  exact r
theorem But2.refl (b c : Nat) : But2 w w b c := ⟨Nat.le_refl _, fun _ _ _ _ => rfl, fun B _ _ _ => Below.refl _ _⟩
theorem But2.grow {v w' : World} {b c : Nat} (h : But2 w v b c) (g : Below v.heap.size v w') : But2 w w' b c :=
  ⟨Nat.le_trans h.size g.size, fun k hk e e' => (g.block k (Nat.lt_of_lt_of_le hk h.size)).trans (h.other k hk e e'), fun B h1 h2 h3 => (h.below B h1 h2 h3).trans (g.mono (Nat.le_trans h3 h.size))⟩
theorem But2.set {v w' : World} {b c k : Nat} {cs : Array Value} (h : But2 w v b c) (s : Set1 v w' k t cs) (hc : w.heap.size ≤ k ∨ k = b ∨ k = c) : But2 w w' b c :=
  ⟨by rw [s.size]; exact h.size, fun j hj e e' => (s.other j (by omega)).trans (h.other j hj e e'), fun B h1 h2 h3 => (h.below B h1 h2 h3).trans (s.below B (by omega))⟩
end
section
variable {ops : Array Oper} {Q : Exit → Act → World → Prop} {n d : Nat} {E : Env} {o : Oper} {rest : List Oper} {w w0 : World} {v : Value} {x y : Operand} {t t' : TypeId} {B : Nat} {s : SlV} {xs ys : List Int}
theorem y_strS (h : Sl w B s xs) (ho : o.op = .convert 22 9 x) (hx : val E x = some s.v) : Yields Try.prog E o w (.string (strOfNums xs)) := y_str h.2.2 ho hx
theorem y_cutS_h (k : Nat) {hi : Int} (e : hi = k) (hk : k ≤ s.c) (ho : o.op = .slice 22 x none (some y) none) (hx : val E x = some s.v) (hy : val E y = some (nv hi)) : Yields Try.prog E o w (⟨s.A, k, s.c⟩ : SlV).v := y_cut_h k e hk ho hx hy
/-- An append of octets to a row of one's own. -/
theorem lg_appS {base : Nat} {u : Value} (hown : w.ownsRow base 5 1 u xs.length (xs.map (Value.int .u8))) (hb1 : Bytes xs) (hO : Sl w B s ys) (hb : xs.length + ys.length ≤ 70368744177664) (hbase : base ≤ w.heap.size) (hw : Want ops E o true)
    (ho : o.op = .call { callee := .builtin .append, args := #[x, y], argTypes := #[22, 22] }) (hty : o.type = 22) (hx : val E x = some u) (hy : val E y = some s.v) (hd : o.dst = some d) (hn : d < n)
    (h : ∀ (r : SlV) w', Sl w' w'.heap.size r (xs ++ ys) → w'.ownsRow base 5 1 r.v (xs ++ ys).length ((xs ++ ys).map (Value.int .u8)) → Below base w w' → w.heap.size ≤ w'.heap.size → LG Try.prog ops Q n ((d, r.v) :: E) rest w') : LG Try.prog ops Q n E (o :: rest) w := by
  obtain ⟨v', w', hrun, hj⟩ := append_oct w base u xs ys s.A s.m s.c B hown hO.2.2 (by rw [← hO.len]; exact hb) hbase
  have h1 : w'.ownsRow base 5 1 v' (xs ++ ys).length ((xs ++ ys).map (Value.int .u8)) := by rw [List.length_append]; exact hj.1
  obtain ⟨r, rfl, hr⟩ := own_Sl h1 (hb1.app hO.bytes)
  refine lg_do hw (fun n a ha => ?_) hd hn (h r w' hr h1 (joined_below hown hj (Below.refl _ _) hbase).1 hj.2.1.size)
  simp [execOp, ho, hty, resolve, invoke, builtin, ha.eval hx, ha.eval hy, hrun, Result.andThen]
end
end Go.Proofs.Ytakbbenegojcdaa
