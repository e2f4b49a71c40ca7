/-
  Where nodes stand in a row, as plain functions of whole numbers; what holds of all nodes of all widths, by trying all of them; rules for whole numbers that may leave 64 bits, shifts, octets counted by a table.
-/
import Derived.Test.YtpoonjgkgaodmaaDoorKitA
import Derived.KernelRfl
namespace Go.Proofs.YtpoonjgkgaodmaaDoor
open Go.ChangeShapes Go.WideShapes Go.ChangeAt Go.RowKit
set_option linter.unusedVariables false

def isW (w : Int) : Prop := w = 1 ∨ w = 3 ∨ w = 7 ∨ w = 15 ∨ w = 31 ∨ w = 63 ∨ w = 127
instance (w : Int) : Decidable (isW w) := by unfold isW; infer_instance
def isN (x w : Int) : Prop := isW w ∧ 0 ≤ x ∧ x < w
instance (x w : Int) : Decidable (isN x w) := by unfold isN; infer_instance
def isL (x : Int) : Prop := 0 ≤ x ∧ x < 127
instance (x : Int) : Decidable (isL x) := by unfold isL; infer_instance
def lvl (x : Int) : Int :=
  if x < 0 ∨ 126 < x then -1 else if x % 2 = 0 then 0 else if x % 4 = 1 then 1 else if x % 8 = 3 then 2 else if x % 16 = 7 then 3 else if x % 32 = 15 then 4 else if x % 64 = 31 then 5 else 6
def pw (k : Int) : Int := 2 ^ k.toNat
def rootI (w : Int) : Int := if isW w then (w - 1) / 2 else -1
def leftI (x w : Int) : Int := if isN x w ∧ lvl x ≠ 0 then x - pw (lvl x - 1) else -1
def rightI (x w : Int) : Int := if isN x w ∧ lvl x ≠ 0 then x + pw (lvl x - 1) else -1
def parI (x w : Int) : Int := if isN x w ∧ x ≠ (w - 1) / 2 then (if x / pw (lvl x + 1) % 2 = 0 then x + pw (lvl x) else x - pw (lvl x)) else -1
def sibI (x w : Int) : Int := if isN x w ∧ x ≠ (w - 1) / 2 then (if leftI (parI x w) w = x then rightI (parI x w) w else leftI (parI x w) w) else -1

theorem left_no {x w : Int} (h : ¬ isN x w) : leftI x w = -1 := if_neg fun q => h q.1
theorem right_no {x w : Int} (h : ¬ isN x w) : rightI x w = -1 := if_neg fun q => h q.1
theorem par_no {x w : Int} (h : ¬ isN x w) : parI x w = -1 := if_neg fun q => h q.1
theorem sib_no {x w : Int} (h : ¬ isN x w) : sibI x w = -1 := if_neg fun q => h q.1
theorem lvl_no {x : Int} (h : ¬ isL x) : lvl x = -1 := if_pos (by unfold isL at h; omega)
theorem root_no {w : Int} (h : ¬ isW w) : rootI w = -1 := if_neg h
theorem root_is {w : Int} (h : isW w) : rootI w = (w - 1) / 2 := if_pos h

def widths : List Int := [1, 3, 7, 15, 31, 63, 127]
def all0 (f : Int → Bool) : Bool := widths.all f
def all1 (f : Int → Bool) : Bool := (List.range 127).all fun x => f (x : Int)
def all2 (f : Int → Int → Bool) : Bool := widths.all fun w => (List.range w.toNat).all fun x => f (x : Int) w
theorem mem_widths {w : Int} (h : isW w) : w ∈ widths := by
  unfold isW at h
  simp [widths, h]
theorem fin0 {p : Int → Prop} [∀ w, Decidable (p w)] (h : all0 (fun w => decide (p w)) = true) {w : Int} (hw : isW w) : p w :=
  of_decide_eq_true (List.all_eq_true.1 h w (mem_widths hw))
theorem fin1 {p : Int → Prop} [∀ x, Decidable (p x)] (h : all1 (fun x => decide (p x)) = true) {x : Int} (hx : isL x) : p x := by
  obtain ⟨n, rfl⟩ := Int.eq_ofNat_of_zero_le hx.1
  have hn : n < 127 := by have := hx.2; omega
  exact of_decide_eq_true (List.all_eq_true.1 h n (List.mem_range.2 hn))
theorem fin2 {p : Int → Int → Prop} [∀ x w, Decidable (p x w)] (h : all2 (fun x w => decide (p x w)) = true) {x w : Int} (hn : isN x w) : p x w := by
  obtain ⟨n, rfl⟩ := Int.eq_ofNat_of_zero_le hn.2.1
  have hl : n < w.toNat := by have := hn.2.2; omega
  exact of_decide_eq_true (List.all_eq_true.1 (List.all_eq_true.1 h w (mem_widths hn.1)) n (List.mem_range.2 hl))

theorem isW.le {w : Int} (h : isW w) : 1 ≤ w ∧ w ≤ 127 := by unfold isW at h; omega
theorem isN.le {x w : Int} (h : isN x w) : 0 ≤ x ∧ x < w ∧ 1 ≤ w ∧ w ≤ 127 := ⟨h.2.1, h.2.2, h.1.le.1, h.1.le.2⟩
theorem isN.l {x w : Int} (h : isN x w) : isL x := ⟨h.2.1, by have := h.le; omega⟩


section
variable {P : Program} {ops : Array Oper} {Q : Exit → Act → World → Prop} {n d : Nat} {E : Env} {o : Oper} {rest : List Oper} {w w0 : World} {v : Value} {x y : Operand} {t t' : TypeId}
theorem yi_addw {r s : Int} (ho : o.op = .binOp .add t x y t') (hx : val E x = some (nv r)) (hy : val E y = some (nv s)) : Yields P E o w (nv (IntKind.i64.wrap (r + s))) := y_bin (fun x y w => rfl) ho hx hy
theorem yi_subw {r s : Int} (ho : o.op = .binOp .sub t x y t') (hx : val E x = some (nv r)) (hy : val E y = some (nv s)) : Yields P E o w (nv (IntKind.i64.wrap (r - s))) := y_bin (fun x y w => rfl) ho hx hy
theorem yi_mulw {r s : Int} (ho : o.op = .binOp .mul t x y t') (hx : val E x = some (nv r)) (hy : val E y = some (nv s)) : Yields P E o w (nv (IntKind.i64.wrap (r * s))) := y_bin (fun x y w => rfl) ho hx hy
theorem yi_quow {r s : Int} (h : s ≠ 0) (ho : o.op = .binOp .quo t x y t') (hx : val E x = some (nv r)) (hy : val E y = some (nv s)) : Yields P E o w (nv (IntKind.i64.wrap (r.tdiv s))) :=
  y_bin (fun x y w => by
    show (Op.intDiv .quo .i64 r s).run P w = _
    unfold Op.intDiv
    rw [if_neg h]
    rfl) ho hx hy
theorem yi_remw {r s : Int} (h : s ≠ 0) (ho : o.op = .binOp .rem t x y t') (hx : val E x = some (nv r)) (hy : val E y = some (nv s)) : Yields P E o w (nv (r.tmod s)) :=
  y_bin (fun x y w => by
    show (Op.intDiv .rem .i64 r s).run P w = _
    unfold Op.intDiv
    rw [if_neg h]
    rfl) ho hx hy
theorem yi_shl1 {k : Int} {ks : IntKind} (h0 : 0 ≤ k) (h1 : k < 63) (ho : o.op = .binOp .shl t x y t') (hx : val E x = some (nv 1)) (hy : val E y = some (.int ks k)) : Yields P E o w (nv (pw k)) :=
  y_bin (fun x y w => by
    show (Op.shift .shl .i64 1 ks k).run P w = _
    unfold Op.shift
    rw [if_neg (by omega)]
    have hm : min k.toNat IntKind.i64.bits = k.toNat := by
      show min k.toNat 64 = k.toNat
      omega
    simp only [hm]
    show Result.ok (Value.int .i64 (IntKind.i64.wrap (1 * 2 ^ k.toNat))) w = _
    have hp : (2 : Int) ^ k.toNat = ((2 ^ k.toNat : Nat) : Int) := by simp
    have hb : 2 ^ k.toNat ≤ 2 ^ 62 := Nat.pow_le_pow_right (by omega) (by omega)
    unfold pw
    rw [Int.one_mul, hp]
    generalize 2 ^ k.toNat = q at hb
    rw [wrap_i64 (by omega) (by omega)]) ho hx hy
theorem yi_shrp {r k : Int} {ks : IntKind} (h0 : 0 ≤ k) (h1 : k < 63) (ho : o.op = .binOp .shr t x y t') (hx : val E x = some (nv r)) (hy : val E y = some (.int ks k)) : Yields P E o w (nv (r / pw k)) :=
  yi_shr ho hx hy h0 (by omega)
theorem yu_eql {r s : Int} (ho : o.op = .binOp .eql t x y t') (hx : val E x = some (.int .u64 r)) (hy : val E y = some (.int .u64 s)) : Yields P E o w (.bool (decide (r = s))) :=
  y_bin (fun x y w => by
    show Result.ok (Value.bool (r == s)) w = _
    by_cases e : r = s
    · subst e; simp
    · simp [e]) ho hx hy
theorem yu_and {r s : Int} (ho : o.op = .binOp .and t x y t') (hx : val E x = some (.int .u64 r)) (hy : val E y = some (.int .u64 s)) : Yields P E o w (.int .u64 (bits .and .u64 r s)) := y_bin (fun x y w => rfl) ho hx hy
theorem yu_mul {r s : Int} (ho : o.op = .binOp .mul t x y t') (hx : val E x = some (.int .u64 r)) (hy : val E y = some (.int .u64 s)) : Yields P E o w (.int .u64 (IntKind.u64.wrap (r * s))) := y_bin (fun x y w => rfl) ho hx hy
theorem yu_neg {r : Int} (ho : o.op = .unOp .neg t x) (hx : val E x = some (.int .u64 r)) : Yields P E o w (.int .u64 (IntKind.u64.wrap (0 - r))) := y_un (fun w => rfl) ho hx
theorem yu_not {r : Int} (ho : o.op = .unOp .xor t x) (hx : val E x = some (.int .u64 r)) : Yields P E o w (.int .u64 (bits .xor .u64 IntKind.u64.max r)) := y_un (fun w => rfl) ho hx
theorem yu_shr {r : Int} {ks : IntKind} (ho : o.op = .binOp .shr t x y t') (hx : val E x = some (.int .u64 r)) (hy : val E y = some (.int ks 58)) : Yields P E o w (.int .u64 (r.fdiv (2 ^ 58))) :=
  y_bin (fun x y w => by
    show (Op.shift .shr .u64 r ks 58).run P w = _
    unfold Op.shift
    rw [if_neg (by omega)]
    rfl) ho hx hy
theorem y_ixk {b j len : Nat} {el : TypeId} {k : IntKind} {z : Int} (e : z = j) (hu : P.underlying t = some (.array len el)) (hs : (P.info? el).map (·.size) = some 1) (hj : j < len) (ho : o.op = .indexAddr t x y) (hx : val E x = some (pv b 0)) (hy : val E y = some (.int k z)) : Yields P E o w (pv b j) :=
  y_ix (by
    subst e
    cases hq : P.info? el with
    | none => simp [hq] at hs
    | some i =>
      have hz : i.size = 1 := by simpa [hq] using hs
      simp [Instr.indexAt, asIntOf, run_underlying hu, Instr.sureAddr, sizeOf, typeInfo, hq, hz, hj, Addr.add]
      exact fun e => e.symm) ho hx hy
end

section
variable {P : Program} {ops : Array Oper} {Q : Exit → Act → World → Prop} {n d : Nat} {E : Env} {o : Oper} {rest : List Oper} {w w0 : World} {v : Value} {x y : Operand} {t t' : TypeId}
end

/-- The table of places: how many zeros stand behind the lowest one, by where a fixed number stands behind it. -/
def tab (i : Nat) : BitVec 8 := BitVec.ofNat 8 ([0, 1, 56, 2, 57, 49, 28, 3, 61, 58, 42, 50, 38, 29, 17, 4, 62, 47, 59, 36, 45, 43, 51, 22, 53, 39, 33, 30, 24, 18, 12, 5, 63, 55, 48, 27, 60, 41, 37, 16, 46, 35, 44, 21, 52, 32, 23, 11, 54, 26, 40, 15, 34, 20, 31, 10, 25, 14, 19, 9, 13, 8, 7, 6].getD i 0)
def tzi (n : Int) : Int := (IntKind.u64.wrap (bits .and .u64 n (IntKind.u64.wrap (0 - n)) * 285870213051353865)).fdiv (2 ^ 58)
def comp (x : Int) : Int := bits .xor .u64 IntKind.u64.max (IntKind.u64.wrap x)
theorem comp_facts {x : Int} (h : isL x) : comp x ≠ 0 ∧ tzi (comp x) = ((tzi (comp x)).toNat : Int) ∧ (tzi (comp x)).toNat < 64 ∧ IntKind.i64.wrap (vb (tab (tzi (comp x)).toNat)) = lvl x :=
  fin1 (p := fun x => comp x ≠ 0 ∧ tzi (comp x) = ((tzi (comp x)).toNat : Int) ∧ (tzi (comp x)).toNat < 64 ∧ IntKind.i64.wrap (vb (tab (tzi (comp x)).toNat)) = lvl x) (by kernel_rfl) h
/-- The world holds the table where the program keeps it. -/
def Tb (w : World) : Prop := ∃ tg, RowAt w 1 tg (cB 64 tab)
theorem pw_succ {k : Nat} : pw ((k : Int) + 1) = 2 * pw k := by
  unfold pw
  rw [show ((k : Int) + 1).toNat = k + 1 by omega, show ((k : Int)).toNat = k by omega, Int.pow_succ, Int.mul_comm]
theorem pw_bound {k : Nat} (h : k ≤ 20) : 1 ≤ pw k ∧ pw k ≤ 1048576 := by
  unfold pw
  rw [show ((k : Int)).toNat = k by omega]
  have hp : (2 : Int) ^ k = ((2 ^ k : Nat) : Int) := by simp
  have hb : 2 ^ k ≤ 2 ^ 20 := Nat.pow_le_pow_right (by omega) h
  have hc : 0 < 2 ^ k := Nat.pow_pos (by omega)
  rw [hp]
  generalize 2 ^ k = q at *
  omega
end Go.Proofs.YtpoonjgkgaodmaaDoor
