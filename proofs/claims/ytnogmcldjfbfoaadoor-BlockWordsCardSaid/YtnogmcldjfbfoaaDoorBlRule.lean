/-
  Rules for words, octets, whole numbers, rows; the pure functions of the chapter.
-/
import Derived.Test.YtnogmcldjfbfoaaDoorBlSeq
namespace Go.Proofs.YtnogmcldjfbfoaaDoor
open Go.ChangeShapes Go.WideShapes Go.ChangeAt Go.RowKit
set_option linter.unusedVariables false

abbrev wv (x : BitVec 32) : Value := .int .u32 (vw x)
abbrev ov (x : BitVec 8) : Value := .int .u8 (vb x)
abbrev iv (n : Nat) : Value := .int .i64 (n : Int)
abbrev pv (b j : Nat) : Value := .pointer (some ⟨b, j, none⟩)
def cW (n : Nat) (F : Nat → BitVec 32) : Array Value := ((List.range n).map fun i => wv (F i)).toArray
def cB (n : Nat) (F : Nat → BitVec 8) : Array Value := ((List.range n).map fun i => ov (F i)).toArray
def upd {α : Type} (F : Nat → α) (t : Nat) (x : α) : Nat → α := fun i => if i = t then x else F i
theorem cW_get {n j : Nat} {F : Nat → BitVec 32} (h : j < n) : (cW n F)[j]? = some (wv (F j)) := by simp [cW, h]
theorem cB_get {n j : Nat} {F : Nat → BitVec 8} (h : j < n) : (cB n F)[j]? = some (ov (F j)) := by simp [cB, h]
theorem cW_size (n : Nat) (F : Nat → BitVec 32) : (cW n F).size = n := by simp [cW]
theorem cB_size (n : Nat) (F : Nat → BitVec 8) : (cB n F).size = n := by simp [cB]
theorem cW_one (n : Nat) (F : Nat → BitVec 32) : (cW n F).all (·.oneCell') = true := by simp [cW, wv, Value.oneCell']
theorem cB_one (n : Nat) (F : Nat → BitVec 8) : (cB n F).all (·.oneCell') = true := by simp [cB, ov, Value.oneCell']
theorem cW_ext {n : Nat} {F G : Nat → BitVec 32} (h : ∀ i, i < n → F i = G i) : cW n F = cW n G := by
  unfold cW
  refine congrArg _ (List.map_congr_left fun i hi => ?_)
  rw [h i (by simpa using hi)]
theorem cW_set {n t : Nat} {F : Nat → BitVec 32} {x : BitVec 32} : (cW n F).setIfInBounds t (wv x) = cW n (upd F t x) := by
  refine Array.ext_getElem? fun i => ?_
  rw [Array.getElem?_setIfInBounds]
  by_cases e : t = i
  · subst e
    by_cases h : t < n
    · rw [if_pos rfl, if_pos (by rw [cW_size]; exact h), cW_get h]
      simp [upd]
    · simp [cW, h]
  · rw [if_neg e]
    by_cases h : i < n
    · rw [cW_get h, cW_get h]
      simp [upd, Ne.symm e]
    · simp [cW, h]
theorem cB_set {n t : Nat} {F : Nat → BitVec 8} {x : BitVec 8} : (cB n F).setIfInBounds t (ov x) = cB n (upd F t x) := by
  refine Array.ext_getElem? fun i => ?_
  rw [Array.getElem?_setIfInBounds]
  by_cases e : t = i
  · subst e
    by_cases h : t < n
    · rw [if_pos rfl, if_pos (by rw [cB_size]; exact h), cB_get h]
      simp [upd]
    · simp [cB, h]
  · rw [if_neg e]
    by_cases h : i < n
    · rw [cB_get h, cB_get h]
      simp [upd, Ne.symm e]
    · simp [cB, h]
theorem wrap_i64 {n : Int} (h0 : -9223372036854775808 ≤ n) (h1 : n < 9223372036854775808) : IntKind.i64.wrap n = n := by
  unfold IntKind.wrap
  simp [IntKind.bits, IntKind.signed]
  split <;> omega

section
variable {P : Program} {E : Env} {o : Oper} {w : World} {x y : Operand} {t t' : TypeId} {X Y : BitVec 32}
theorem y_add (ho : o.op = .binOp .add t x y t') (hx : val E x = some (wv X)) (hy : val E y = some (wv Y)) : Yields P E o w (wv (X + Y)) :=
  y_bin (fun x y w => by show Result.ok (Value.int .u32 (IntKind.u32.wrap (vw X + vw Y))) w = _; rw [u_add]) ho hx hy
theorem y_sub (ho : o.op = .binOp .sub t x y t') (hx : val E x = some (wv X)) (hy : val E y = some (wv Y)) : Yields P E o w (wv (X - Y)) :=
  y_bin (fun x y w => by show Result.ok (Value.int .u32 (IntKind.u32.wrap (vw X - vw Y))) w = _; rw [u_sub]) ho hx hy
theorem y_mul (ho : o.op = .binOp .mul t x y t') (hx : val E x = some (wv X)) (hy : val E y = some (wv Y)) : Yields P E o w (wv (X * Y)) :=
  y_bin (fun x y w => by show Result.ok (Value.int .u32 (IntKind.u32.wrap (vw X * vw Y))) w = _; rw [u_mul]) ho hx hy
theorem y_xor (ho : o.op = .binOp .xor t x y t') (hx : val E x = some (wv X)) (hy : val E y = some (wv Y)) : Yields P E o w (wv (X ^^^ Y)) :=
  y_bin (fun x y w => by show Result.ok (Value.int .u32 (bits .xor .u32 (vw X) (vw Y))) w = _; rw [u_xor]) ho hx hy
theorem y_and (ho : o.op = .binOp .and t x y t') (hx : val E x = some (wv X)) (hy : val E y = some (wv Y)) : Yields P E o w (wv (X &&& Y)) :=
  y_bin (fun x y w => by show Result.ok (Value.int .u32 (bits .and .u32 (vw X) (vw Y))) w = _; rw [u_and]) ho hx hy
theorem y_or (ho : o.op = .binOp .or t x y t') (hx : val E x = some (wv X)) (hy : val E y = some (wv Y)) : Yields P E o w (wv (X ||| Y)) :=
  y_bin (fun x y w => by show Result.ok (Value.int .u32 (bits .or .u32 (vw X) (vw Y))) w = _; rw [u_or]) ho hx hy
theorem y_not (ho : o.op = .unOp .xor t x) (hx : val E x = some (wv X)) : Yields P E o w (wv (~~~X)) :=
  y_un (fun w => by show Result.ok (Value.int .u32 (bits .xor .u32 IntKind.u32.max (vw X))) w = _; rw [u_not]) ho hx
theorem y_shr (k : Nat) (yk : IntKind) (hk : k < 32) (ho : o.op = .binOp .shr t x y t') (hx : val E x = some (wv X)) (hy : val E y = some (.int yk (k : Int))) : Yields P E o w (wv (X >>> k)) :=
  y_bin (fun x y w => by show (Op.shift .shr .u32 (vw X) yk (k : Nat)).run P w = _; rw [u_shr P X k hk]) ho hx hy
theorem y_shl (k : Nat) (yk : IntKind) (hk : k < 32) (ho : o.op = .binOp .shl t x y t') (hx : val E x = some (wv X)) (hy : val E y = some (.int yk (k : Int))) : Yields P E o w (wv (X <<< k)) :=
  y_bin (fun x y w => by show (Op.shift .shl .u32 (vw X) yk (k : Nat)).run P w = _; rw [u_shl P X k hk]) ho hx hy
theorem y_weq (ho : o.op = .binOp .eql t x y t') (hx : val E x = some (wv X)) (hy : val E y = some (wv Y)) : Yields P E o w (.bool (decide (X = Y))) :=
  y_bin (fun x y w => by
    show Result.ok (Value.bool (vw X == vw Y)) w = _
    by_cases e : X = Y
    · subst e; simp
    · have : vw X ≠ vw Y := fun h => e (vw_inj h)
      simp [e, this]) ho hx hy
theorem y_wne (ho : o.op = .binOp .neq t x y t') (hx : val E x = some (wv X)) (hy : val E y = some (wv Y)) : Yields P E o w (.bool (!decide (X = Y))) :=
  y_bin (fun x y w => by
    show Result.ok (Value.bool (vw X != vw Y)) w = _
    by_cases e : X = Y
    · subst e; simp
    · have : vw X ≠ vw Y := fun h => e (vw_inj h)
      simp [e, this, bne]) ho hx hy
theorem y_one {X Y : BitVec 8} (ho : o.op = .binOp .neq t x y t') (hx : val E x = some (ov X)) (hy : val E y = some (ov Y)) : Yields P E o w (.bool (!decide (X = Y))) :=
  y_bin (fun x y w => by
    show Result.ok (Value.bool (vb X != vb Y)) w = _
    by_cases e : X = Y
    · subst e; simp
    · have : vb X ≠ vb Y := fun h => e (vb_inj h)
      simp [e, this, bne]) ho hx hy
theorem y_oeq {X Y : BitVec 8} (ho : o.op = .binOp .eql t x y t') (hx : val E x = some (ov X)) (hy : val E y = some (ov Y)) : Yields P E o w (.bool (decide (X = Y))) :=
  y_bin (fun x y w => by
    show Result.ok (Value.bool (vb X == vb Y)) w = _
    by_cases e : X = Y
    · subst e; simp
    · have : vb X ≠ vb Y := fun h => e (vb_inj h)
      simp [e, this]) ho hx hy
theorem y_oxor {X Y : BitVec 8} (ho : o.op = .binOp .xor t x y t') (hx : val E x = some (ov X)) (hy : val E y = some (ov Y)) : Yields P E o w (ov (X ^^^ Y)) :=
  y_bin (fun x y w => by show Result.ok (Value.int .u8 (bits .xor .u8 (vb X) (vb Y))) w = _; rw [b_xor]) ho hx hy
-- whole numbers, none of them below 0
theorem y_iadd (r s : Nat) (h : r + s < 9223372036854775808) (ho : o.op = .binOp .add t x y t') (hx : val E x = some (iv r)) (hy : val E y = some (iv s)) : Yields P E o w (iv (r + s)) :=
  y_bin (fun x y w => by show Result.ok (Value.int .i64 (IntKind.i64.wrap ((r : Int) + (s : Int)))) w = _; rw [wrap_i64 (by omega) (by omega)]; rfl) ho hx hy
theorem y_imul (r s : Nat) (h : r * s < 9223372036854775808) (ho : o.op = .binOp .mul t x y t') (hx : val E x = some (iv r)) (hy : val E y = some (iv s)) : Yields P E o w (iv (r * s)) :=
  y_bin (fun x y w => by
    show Result.ok (Value.int .i64 (IntKind.i64.wrap ((r : Int) * (s : Int)))) w = _
    rw [← Int.natCast_mul, wrap_i64 (by omega) (by omega)]) ho hx hy
theorem y_isub (r s : Nat) (h : s ≤ r) (h' : r < 9223372036854775808) (ho : o.op = .binOp .sub t x y t') (hx : val E x = some (iv r)) (hy : val E y = some (iv s)) : Yields P E o w (iv (r - s)) :=
  y_bin (fun x y w => by
    show Result.ok (Value.int .i64 (IntKind.i64.wrap ((r : Int) - (s : Int)))) w = _
    rw [← Int.natCast_sub h, wrap_i64 (by omega) (by omega)]) ho hx hy
theorem y_ilss (r s : Nat) (ho : o.op = .binOp .lss t x y t') (hx : val E x = some (iv r)) (hy : val E y = some (iv s)) : Yields P E o w (.bool (decide (r < s))) :=
  y_bin (fun x y w => by
    show Result.ok (Value.bool (decide ((r : Int) < (s : Int)))) w = _
    refine congrArg (fun b => Result.ok (Value.bool b) w) ?_
    exact decide_eq_decide.2 (by omega)) ho hx hy
-- places
theorem y_ixa {b j len : Nat} {el : TypeId} (hu : P.underlying t = some (.array len el)) (hs : (P.info? el).map (·.size) = some 1) (hj : j < len) (ho : o.op = .indexAddr t x y) (hx : val E x = some (pv b 0)) (hy : val E y = some (iv j)) : Yields P E o w (pv b j) :=
  y_ix (by
    cases hq : P.info? el with
    | none => simp [hq] at hs
    | some i =>
      have hz : i.size = 1 := by simpa [hq] using hs
      simp [Instr.indexAt, asIntOf, run_underlying hu, Instr.sureAddr, sizeOf, typeInfo, hq, hz, hj, Addr.add]
      exact fun e => e.symm) ho hx hy
theorem y_ixs {b j len cap : Nat} {el : TypeId} (hu : P.underlying t = some (.slice el)) (hs : (P.info? el).map (·.size) = some 1) (hj : j < len) (ho : o.op = .indexAddr t x y) (hx : val E x = some (.slice (some ⟨b, 0, none⟩) len cap)) (hy : val E y = some (iv j)) : Yields P E o w (pv b j) :=
  y_ix (by
    cases hq : P.info? el with
    | none => simp [hq] at hs
    | some i =>
      have hz : i.size = 1 := by simpa [hq] using hs
      simp [Instr.indexAt, asIntOf, run_underlying hu, Instr.sureAddr, sizeOf, typeInfo, hq, hz, hj, Addr.add]
      exact fun e => e.symm) ho hx hy
theorem y_cell {b j : Nat} {tr : TypeId} {cs : Array Value} {v : Value} {k : IntKind} (hr : RowAt w b tr cs) (hj : cs[j]? = some v) (hu : P.underlying t = some (.int k)) (ho : o.op = .load t x) (hx : val E x = some (pv b j)) : Yields P E o w v :=
  y_load (by
    have hc : w.cell? ⟨b, j, none⟩ = some v := by rw [cell_of_row w b j cs tr _ hr, hj]
    simp [loadVar, isAgg, run_underlying hu, hc]) ho hx
theorem y_row {b m : Nat} {tr e : TypeId} {cs : Array Value} (hr : RowAt w b tr cs) (hu : P.underlying t = some (.array m e)) (hi : (P.info? t).map (·.size) = some cs.size) (ho : o.op = .load t x) (hx : val E x = some (pv b 0)) : Yields P E o w (.agg cs) :=
  y_load (run_loadVar_row w b tr t cs _ _ hr hu rfl hi) ho hx
theorem y_idx {j len : Nat} {el : TypeId} {cs : Array Value} {v : Value} {k : IntKind} (hu : P.underlying t = some (.array len el)) (hs : (P.info? el).map (·.size) = some 1) (hk : P.underlying el = some (.int k)) (hj : j < len) (hv : cs[j]? = some v) (ho : o.op = .index t x y) (hx : val E x = some (.agg cs)) (hy : val E y = some (iv j)) : Yields P E o w v :=
  y_index (by
    cases hq : P.info? el with
    | none => simp [hq] at hs
    | some i =>
      have hz : i.size = 1 := by simpa [hq] using hs
      simp [Instr.index, asIntOf, run_underlying hu, sizeOf, typeInfo, hq, hz, hj, part, isAgg, run_underlying hk, hv]) ho hx hy
end
-- the same for this program
theorem hu8 : Tryd.prog.underlying 23 = some (.array 8 22) := by kernel_rfl
theorem hu64 : Tryd.prog.underlying 27 = some (.array 64 22) := by kernel_rfl
theorem huo : Tryd.prog.underlying 24 = some (.array 64 5) := by kernel_rfl
theorem huw : Tryd.prog.underlying 22 = some (.int .u32) := by kernel_rfl
theorem hub : Tryd.prog.underlying 5 = some (.int .u8) := by kernel_rfl
theorem hsw : (Tryd.prog.info? 22).map (·.size) = some 1 := by kernel_rfl
theorem hsb : (Tryd.prog.info? 5).map (·.size) = some 1 := by kernel_rfl
theorem hs8 (F : Nat → BitVec 32) : (Tryd.prog.info? 23).map (·.size) = some (cW 8 F).size := by rw [cW_size]; kernel_rfl
theorem hs64 (F : Nat → BitVec 32) : (Tryd.prog.info? 27).map (·.size) = some (cW 64 F).size := by rw [cW_size]; kernel_rfl
theorem hso (F : Nat → BitVec 8) : (Tryd.prog.info? 24).map (·.size) = some (cB 64 F).size := by rw [cB_size]; kernel_rfl
theorem hz8 : (Tryd.prog.info? 23).map (fun i => (i.zero, i.size)) = some (some (.agg (cW 8 fun _ => 0)), (cW 8 fun _ => 0).size) := by kernel_rfl
theorem hz64 : (Tryd.prog.info? 27).map (fun i => (i.zero, i.size)) = some (some (.agg (cW 64 fun _ => 0)), (cW 64 fun _ => 0).size) := by kernel_rfl
theorem hzo : (Tryd.prog.info? 24).map (fun i => (i.zero, i.size)) = some (some (.agg (cB 64 fun _ => 0)), (cB 64 fun _ => 0).size) := by kernel_rfl

-- the chapter's functions
def st8 (a b c d e f g z : BitVec 32) : Nat → BitVec 32
  | 0 => a | 1 => b | 2 => c | 3 => d | 4 => e | 5 => f | 6 => g | _ => z
def bigE (e : BitVec 32) : BitVec 32 := tw 6 e ^^^ tw 11 e ^^^ tw 25 e
def bigA (a : BitVec 32) : BitVec 32 := tw 2 a ^^^ tw 13 a ^^^ tw 22 a
def lowX (x : BitVec 32) : BitVec 32 := tw 7 x ^^^ tw 18 x ^^^ x >>> 3
def lowY (y : BitVec 32) : BitVec 32 := tw 17 y ^^^ tw 19 y ^^^ y >>> 10
def pP (h : Nat → BitVec 32) (nw : BitVec 32) : BitVec 32 := h 7 + bigE (h 4) + chw (h 4) (h 5) (h 6) + nw
def pQ (h : Nat → BitVec 32) : BitVec 32 := bigA (h 0) + mjw (h 0) (h 1) (h 2)
def stepF (h : Nat → BitVec 32) (nw : BitVec 32) : Nat → BitVec 32 := st8 (pP h nw + pQ h) (h 0) (h 1) (h 2) (h 3 + pP h nw) (h 4) (h 5) (h 6)
def w4 (b : Nat → BitVec 8) (t : Nat) : BitVec 32 := wd (b (4 * t)) (b (4 * t + 1)) (b (4 * t + 2)) (b (4 * t + 3))
def head (b : Nat → BitVec 8) : Nat → Nat → BitVec 32
  | 0 => fun _ => 0
  | t + 1 => upd (head b t) t (w4 b t)
def nxw (W : Nat → BitVec 32) (t : Nat) : BitVec 32 := W (t - 16) + lowX (W (t - 15)) + W (t - 7) + lowY (W (t - 2))
def tailF (b : Nat → BitVec 8) : Nat → Nat → BitVec 32
  | 0 => head b 16
  | k + 1 => upd (tailF b k) (16 + k) (nxw (tailF b k) (16 + k))
def spr (b : Nat → BitVec 8) : Nat → BitVec 32 := tailF b 48
def numsL : List Nat := [1116352408, 1899447441, 3049323471, 3921009573, 961987163, 1508970993, 2453635748, 2870763221, 3624381080, 310598401, 607225278, 1426881987, 1925078388, 2162078206, 2614888103, 3248222580, 3835390401, 4022224774, 264347078, 604807628, 770255983, 1249150122, 1555081692, 1996064986, 2554220882, 2821834349, 2952996808, 3210313671, 3336571891, 3584528711, 113926993, 338241895, 666307205, 773529912, 1294757372, 1396182291, 1695183700, 1986661051, 2177026350, 2456956037, 2730485921, 2820302411, 3259730800, 3345764771, 3516065817, 3600352804, 4094571909, 275423344, 430227734, 506948616, 659060556, 883997877, 958139571, 1322822218, 1537002063, 1747873779, 1955562222, 2024104815, 2227730452, 2361852424, 2428436474, 2756734187, 3204031479, 3329325298]
def num (t : Nat) : BitVec 32 := BitVec.ofNat 32 (numsL.getD t 0)
def vF (h : Nat → BitVec 32) (b : Nat → BitVec 8) : Nat → Nat → BitVec 32
  | 0 => h
  | t + 1 => stepF (vF h b t) (num t + spr b t)
def mixF (h : Nat → BitVec 32) (b : Nat → BitVec 8) : Nat → BitVec 32 := fun i => h i + vF h b 64 i
def firstF : Nat → BitVec 32 := st8 1779033703 3144134277 1013904242 2773480762 1359893119 2600822924 528734635 1541459225
end Go.Proofs.YtnogmcldjfbfoaaDoor
