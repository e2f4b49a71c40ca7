/-
  KitI: WkX, WkNX, IxBase, IxLite, IxProg, IxRef, WaMath, WaFacts, WaUp, WaProg, WaRef, WaFr.
-/
import Derived.Test.YtkcpmpbjjnknhaaGreatDoorKitA
import Derived.RangeFuncNested
import Derived.RangeFuncLeaves
import Derived.LoopNIn
import Derived.OrdersIn
import Derived.KernelRfl
namespace Go.Proofs.YtkcpmpbjjnknhaaGreatDoor
open Go.ChangeShapes Go.WideShapes Go.ChangeAt Go.RowKit
set_option linter.unusedVariables false

/- WkX:
  Rules for code in a round of a loop over a function, and behind such a loop, where the frame has marks: code by the fenced rules, lists of operations by the plain ones; loops over functions; iterators that call yield.
-/
/-- The wide fence, of frames of functions (none) or of rounds of a loop. -/
def fen (ro : Option Nat) : Fence := { Fence.wide with round := ro }
/-- A frame with marks behind its deferred calls. -/
def mkd (ds : List Deferred) (a : Act) : Act := { a with defers := a.defers ++ ds }
section
variable {P : Program} {ops : Array Oper} {Q Q' : Exit → Act → World → Prop} {n d : Nat} {E E' : Env} {o : Oper} {rest : List Oper} {w w0 : World} {v : Value} {x y : Operand} {t t' : TypeId} {K : Act → World → Prop} {id id' : Nat} {ro : Option Nat} {ds : List Deferred}

-- the ends
-- iterators
-- loops over functions
-- what abides the loop's book-keeping
-- what a body keeps of what is no cells
end
/- WkNX:
  Rules for slices of whole numbers beside loops over functions: one behind the others, and what stays.
-/
section
variable {ops : Array Oper} {Q : Exit → Act → World → Prop} {n d : Nat} {E : Env} {o : Oper} {rest : List Oper} {w w0 : World} {v : Value} {x y : Operand} {t t' : TypeId}
theorem KeepsFrom.zero {B : Nat} {w w' : World} (h : KeepsFrom 0 w w') : KeepsFrom B w w' := ⟨h.size, fun k o _ hk hc => h.same k o (Nat.zero_le _) hk hc⟩
end
/- IxBase:
  Where nodes stand in a row, as plain functions of whole numbers; what holds of all nodes of all widths, by trying all of them; rules for whole numbers that may leave 64 bits, shifts, octets counted by a table.
-/
def isW (w : Int) : Prop := w = 1 ∨ w = 3 ∨ w = 7 ∨ w = 15 ∨ w = 31 ∨ w = 63 ∨ w = 127
instance (w : Int) : Decidable (isW w) := by unfold isW; infer_instance
def isN (x w : Int) : Prop := isW w ∧ 0 ≤ x ∧ x < w
instance (x w : Int) : Decidable (isN x w) := by unfold isN; infer_instance
def isL (x : Int) : Prop := 0 ≤ x ∧ x < 127
instance (x : Int) : Decidable (isL x) := by unfold isL; infer_instance
def lvl (x : Int) : Int :=
  if x < 0 ∨ 126 < x then -1 else if x % 2 = 0 then 0 else if x % 4 = 1 then 1 else if x % 8 = 3 then 2 else if x % 16 = 7 then 3 else if x % 32 = 15 then 4 else if x % 64 = 31 then 5 else 6
def pw (k : Int) : Int := 2 ^ k.toNat
def rootI (w : Int) : Int := if isW w then (w - 1) / 2 else -1
def leftI (x w : Int) : Int := if isN x w ∧ lvl x ≠ 0 then x - pw (lvl x - 1) else -1
def rightI (x w : Int) : Int := if isN x w ∧ lvl x ≠ 0 then x + pw (lvl x - 1) else -1
def parI (x w : Int) : Int := if isN x w ∧ x ≠ (w - 1) / 2 then (if x / pw (lvl x + 1) % 2 = 0 then x + pw (lvl x) else x - pw (lvl x)) else -1
theorem left_no {x w : Int} (h : ¬ isN x w) : leftI x w = -1 := if_neg fun q => h q.1
theorem right_no {x w : Int} (h : ¬ isN x w) : rightI x w = -1 := if_neg fun q => h q.1
theorem lvl_no {x : Int} (h : ¬ isL x) : lvl x = -1 := if_pos (by unfold isL at h; omega)
def widths : List Int := [1, 3, 7, 15, 31, 63, 127]
def all1 (f : Int → Bool) : Bool := (List.range 127).all fun x => f (x : Int)
def all2 (f : Int → Int → Bool) : Bool := widths.all fun w => (List.range w.toNat).all fun x => f (x : Int) w
theorem mem_widths {w : Int} (h : isW w) : w ∈ widths := by
  unfold isW at h
  simp [widths, h]
theorem fin1 {p : Int → Prop} [∀ x, Decidable (p x)] (h : all1 (fun x => decide (p x)) = true) {x : Int} (hx : isL x) : p x := by
  obtain ⟨n, rfl⟩ := Int.eq_ofNat_of_zero_le hx.1
  have hn : n < 127 := by have := hx.2; omega
  exact of_decide_eq_true (List.all_eq_true.1 h n (List.mem_range.2 hn))
theorem fin2 {p : Int → Int → Prop} [∀ x w, Decidable (p x w)] (h : all2 (fun x w => decide (p x w)) = true) {x w : Int} (hn : isN x w) : p x w := by
  obtain ⟨n, rfl⟩ := Int.eq_ofNat_of_zero_le hn.2.1
  have hl : n < w.toNat := by have := hn.2.2; omega
  exact of_decide_eq_true (List.all_eq_true.1 (List.all_eq_true.1 h w (mem_widths hn.1)) n (List.mem_range.2 hl))

theorem isW.le {w : Int} (h : isW w) : 1 ≤ w ∧ w ≤ 127 := by unfold isW at h; omega
theorem isN.le {x w : Int} (h : isN x w) : 0 ≤ x ∧ x < w ∧ 1 ≤ w ∧ w ≤ 127 := ⟨h.2.1, h.2.2, h.1.le.1, h.1.le.2⟩
theorem isN.l {x w : Int} (h : isN x w) : isL x := ⟨h.2.1, by have := h.le; omega⟩


section
variable {P : Program} {ops : Array Oper} {Q : Exit → Act → World → Prop} {n d : Nat} {E : Env} {o : Oper} {rest : List Oper} {w w0 : World} {v : Value} {x y : Operand} {t t' : TypeId}
theorem yi_shl1 {k : Int} {ks : IntKind} (h0 : 0 ≤ k) (h1 : k < 63) (ho : o.op = .binOp .shl t x y t') (hx : val E x = some (nv 1)) (hy : val E y = some (.int ks k)) : Yields P E o w (nv (pw k)) :=
  y_bin (fun x y w => by
    show (Op.shift .shl .i64 1 ks k).run P w = _
    unfold Op.shift
    rw [if_neg (by omega)]
    have hm : min k.toNat IntKind.i64.bits = k.toNat := by
      show min k.toNat 64 = k.toNat
      omega
    simp only [hm]
    show Result.ok (Value.int .i64 (IntKind.i64.wrap (1 * 2 ^ k.toNat))) w = _
    have hp : (2 : Int) ^ k.toNat = ((2 ^ k.toNat : Nat) : Int) := by simp
    have hb : 2 ^ k.toNat ≤ 2 ^ 62 := Nat.pow_le_pow_right (by omega) (by omega)
    unfold pw
    rw [Int.one_mul, hp]
    generalize 2 ^ k.toNat = q at hb
    rw [wrap_i64 (by omega) (by omega)]) ho hx hy
theorem yu_eql {r s : Int} (ho : o.op = .binOp .eql t x y t') (hx : val E x = some (.int .u64 r)) (hy : val E y = some (.int .u64 s)) : Yields P E o w (.bool (decide (r = s))) :=
  y_bin (fun x y w => by
    show Result.ok (Value.bool (r == s)) w = _
    by_cases e : r = s
    · subst e; simp
    · simp [e]) ho hx hy
theorem yu_and {r s : Int} (ho : o.op = .binOp .and t x y t') (hx : val E x = some (.int .u64 r)) (hy : val E y = some (.int .u64 s)) : Yields P E o w (.int .u64 (bits .and .u64 r s)) := y_bin (fun x y w => rfl) ho hx hy
theorem yu_mul {r s : Int} (ho : o.op = .binOp .mul t x y t') (hx : val E x = some (.int .u64 r)) (hy : val E y = some (.int .u64 s)) : Yields P E o w (.int .u64 (IntKind.u64.wrap (r * s))) := y_bin (fun x y w => rfl) ho hx hy
theorem yu_neg {r : Int} (ho : o.op = .unOp .neg t x) (hx : val E x = some (.int .u64 r)) : Yields P E o w (.int .u64 (IntKind.u64.wrap (0 - r))) := y_un (fun w => rfl) ho hx
theorem yu_not {r : Int} (ho : o.op = .unOp .xor t x) (hx : val E x = some (.int .u64 r)) : Yields P E o w (.int .u64 (bits .xor .u64 IntKind.u64.max r)) := y_un (fun w => rfl) ho hx
theorem yu_shr {r : Int} {ks : IntKind} (ho : o.op = .binOp .shr t x y t') (hx : val E x = some (.int .u64 r)) (hy : val E y = some (.int ks 58)) : Yields P E o w (.int .u64 (r.fdiv (2 ^ 58))) :=
  y_bin (fun x y w => by
    show (Op.shift .shr .u64 r ks 58).run P w = _
    unfold Op.shift
    rw [if_neg (by omega)]
    rfl) ho hx hy
theorem y_ixk {b j len : Nat} {el : TypeId} {k : IntKind} {z : Int} (e : z = j) (hu : P.underlying t = some (.array len el)) (hs : (P.info? el).map (·.size) = some 1) (hj : j < len) (ho : o.op = .indexAddr t x y) (hx : val E x = some (pv b 0)) (hy : val E y = some (.int k z)) : Yields P E o w (pv b j) :=
  y_ix (by
    subst e
    cases hq : P.info? el with
    | none => simp [hq] at hs
    | some i =>
      have hz : i.size = 1 := by simpa [hq] using hs
      simp [Instr.indexAt, asIntOf, run_underlying hu, Instr.sureAddr, sizeOf, typeInfo, hq, hz, hj, Addr.add]
      exact fun e => e.symm) ho hx hy
end

section
variable {P : Program} {ops : Array Oper} {Q : Exit → Act → World → Prop} {n d : Nat} {E : Env} {o : Oper} {rest : List Oper} {w w0 : World} {v : Value} {x y : Operand} {t t' : TypeId}
end

/-- The table of places: how many zeros stand behind the lowest one, by where a fixed number stands behind it. -/
def tab (i : Nat) : BitVec 8 := BitVec.ofNat 8 ([0, 1, 56, 2, 57, 49, 28, 3, 61, 58, 42, 50, 38, 29, 17, 4, 62, 47, 59, 36, 45, 43, 51, 22, 53, 39, 33, 30, 24, 18, 12, 5, 63, 55, 48, 27, 60, 41, 37, 16, 46, 35, 44, 21, 52, 32, 23, 11, 54, 26, 40, 15, 34, 20, 31, 10, 25, 14, 19, 9, 13, 8, 7, 6].getD i 0)
def tzi (n : Int) : Int := (IntKind.u64.wrap (bits .and .u64 n (IntKind.u64.wrap (0 - n)) * 285870213051353865)).fdiv (2 ^ 58)
def comp (x : Int) : Int := bits .xor .u64 IntKind.u64.max (IntKind.u64.wrap x)
theorem comp_facts {x : Int} (h : isL x) : comp x ≠ 0 ∧ tzi (comp x) = ((tzi (comp x)).toNat : Int) ∧ (tzi (comp x)).toNat < 64 ∧ IntKind.i64.wrap (vb (tab (tzi (comp x)).toNat)) = lvl x :=
  fin1 (p := fun x => comp x ≠ 0 ∧ tzi (comp x) = ((tzi (comp x)).toNat : Int) ∧ (tzi (comp x)).toNat < 64 ∧ IntKind.i64.wrap (vb (tab (tzi (comp x)).toNat)) = lvl x) (by kernel_rfl) h
/-- The world holds the table where the program keeps it. -/
def Tb (w : World) : Prop := ∃ tg, RowAt w 2 tg (cB 64 tab)
theorem pw_succ {k : Nat} : pw ((k : Int) + 1) = 2 * pw k := by
  unfold pw
  rw [show ((k : Int) + 1).toNat = k + 1 by omega, show ((k : Int)).toNat = k by omega, Int.pow_succ, Int.mul_comm]
theorem pw_bound {k : Nat} (h : k ≤ 20) : 1 ≤ pw k ∧ pw k ≤ 1048576 := by
  unfold pw
  rw [show ((k : Int)).toNat = k by omega]
  have hp : (2 : Int) ^ k = ((2 ^ k : Nat) : Int) := by simp
  have hb : 2 ^ k ≤ 2 ^ 20 := Nat.pow_le_pow_right (by omega) h
  have hc : 0 < 2 ^ k := Nat.pow_pos (by omega)
  rw [hp]
  generalize 2 ^ k = q at *
  omega
/- IxLite:
  Widths, nodes and roots, without the table of package math/bits.
-/
theorem wholeL_and {w : Int} (h0 : 0 < w) (h1 : w ≤ 127) : bits .and .i64 w (w + 1) = 0 ↔ isW w := by
  have h := fin1 (p := fun x => bits .and .i64 (x + 1) (x + 1 + 1) = 0 ↔ isW (x + 1)) (by kernel_rfl) (x := w - 1) ⟨by omega, by omega⟩
  rwa [Int.sub_add_cancel] at h
theorem wholeL (w : Int) (W : World) : Calls Tryz.prog 44 #[nv w] W fun e w' => e = .returned (.bool (decide (isW w))) ∧ w' = W := by
  by_cases h0 : 0 < w
  · by_cases h1 : w ≤ 127
    · have hq := wholeL_and h0 h1
      by_cases hw : isW w
      · refine calls_cg (n := 16) Tryz.func44 rfl Tryz.ntmps44 (by simp) ?_
        show CG _ _ _ [(0, nv w)] _ _
        refine cg_seq ?_
        refine cg_region ?_
        refine zA rfl rfl rfl rfl rfl ?_
        refine lg_nil ?_
        refine nx (zk2 0 2 rfl rfl fn) ?_
        refine cg_seq ?_
        refine cg_region ?_
        refine zM rfl rfl rfl rfl rfl ?_
        refine za rfl (yb (decide_eq_true h0) (yi_gtr rfl rfl rfl)) rfl rfl ?_
        refine zM rfl rfl rfl rfl rfl ?_
        refine zt 5 rfl (by kernel_rfl) rfl (y_move rfl rfl) rfl rfl ?_
        refine zt 5 rfl (by kernel_rfl) rfl (yb (decide_eq_true h1) (yi_leq rfl rfl rfl)) rfl rfl ?_
        refine za rfl (y_pick true rfl rfl rfl) rfl rfl ?_
        refine zM rfl rfl rfl rfl rfl ?_
        refine zt 9 rfl (by kernel_rfl) rfl (y_move rfl rfl) rfl rfl ?_
        refine zt 9 rfl (by kernel_rfl) rfl (y_move rfl rfl) rfl rfl ?_
        refine zt 9 rfl (by kernel_rfl) rfl (yi_add rfl rfl rfl (by omega) (by omega)) rfl rfl ?_
        refine zt 9 rfl (by kernel_rfl) rfl (yi_and rfl rfl rfl) rfl rfl ?_
        refine zt 9 rfl (by kernel_rfl) rfl (yb (decide_eq_true (hq.2 hw)) (yi_eql rfl rfl rfl)) rfl rfl ?_
        refine za rfl (y_pick true rfl rfl rfl) rfl rfl ?_
        refine zA rfl rfl rfl rfl rfl ?_
        refine lg_nil ?_
        refine nx (zk1 2 rfl fn) ?_
        refine cg_ret ?_
        exact eg_ret_tmp rfl rfl ⟨congrArg (fun b => Ending.returned (Value.bool b)) (by simp [hw]), rfl⟩
      · refine calls_cg (n := 16) Tryz.func44 rfl Tryz.ntmps44 (by simp) ?_
        show CG _ _ _ [(0, nv w)] _ _
        refine cg_seq ?_
        refine cg_region ?_
        refine zA rfl rfl rfl rfl rfl ?_
        refine lg_nil ?_
        refine nx (zk2 0 2 rfl rfl fn) ?_
        refine cg_seq ?_
        refine cg_region ?_
        refine zM rfl rfl rfl rfl rfl ?_
        refine za rfl (yb (decide_eq_true h0) (yi_gtr rfl rfl rfl)) rfl rfl ?_
        refine zM rfl rfl rfl rfl rfl ?_
        refine zt 5 rfl (by kernel_rfl) rfl (y_move rfl rfl) rfl rfl ?_
        refine zt 5 rfl (by kernel_rfl) rfl (yb (decide_eq_true h1) (yi_leq rfl rfl rfl)) rfl rfl ?_
        refine za rfl (y_pick true rfl rfl rfl) rfl rfl ?_
        refine zM rfl rfl rfl rfl rfl ?_
        refine zt 9 rfl (by kernel_rfl) rfl (y_move rfl rfl) rfl rfl ?_
        refine zt 9 rfl (by kernel_rfl) rfl (y_move rfl rfl) rfl rfl ?_
        refine zt 9 rfl (by kernel_rfl) rfl (yi_add rfl rfl rfl (by omega) (by omega)) rfl rfl ?_
        refine zt 9 rfl (by kernel_rfl) rfl (yi_and rfl rfl rfl) rfl rfl ?_
        refine zt 9 rfl (by kernel_rfl) rfl (yb (decide_eq_false fun q => hw (hq.1 q)) (yi_eql rfl rfl rfl)) rfl rfl ?_
        refine za rfl (y_pick true rfl rfl rfl) rfl rfl ?_
        refine zA rfl rfl rfl rfl rfl ?_
        refine lg_nil ?_
        refine nx (zk1 2 rfl fn) ?_
        refine cg_ret ?_
        exact eg_ret_tmp rfl rfl ⟨congrArg (fun b => Ending.returned (Value.bool b)) (by simp [hw]), rfl⟩
    · have hw : ¬ isW w := by unfold isW; omega
      refine calls_cg (n := 16) Tryz.func44 rfl Tryz.ntmps44 (by simp) ?_
      show CG _ _ _ [(0, nv w)] _ _
      refine cg_seq ?_
      refine cg_region ?_
      refine zA rfl rfl rfl rfl rfl ?_
      refine lg_nil ?_
      refine nx (zk2 0 2 rfl rfl fn) ?_
      refine cg_seq ?_
      refine cg_region ?_
      refine zM rfl rfl rfl rfl rfl ?_
      refine za rfl (yb (decide_eq_true h0) (yi_gtr rfl rfl rfl)) rfl rfl ?_
      refine zM rfl rfl rfl rfl rfl ?_
      refine zt 5 rfl (by kernel_rfl) rfl (y_move rfl rfl) rfl rfl ?_
      refine zt 5 rfl (by kernel_rfl) rfl (yb (decide_eq_false h1) (yi_leq rfl rfl rfl)) rfl rfl ?_
      refine za rfl (y_pick true rfl rfl rfl) rfl rfl ?_
      refine zM rfl rfl rfl rfl rfl ?_
      refine zf 9 rfl (by kernel_rfl) rfl rfl rfl ?_
      refine zf 9 rfl (by kernel_rfl) rfl rfl rfl ?_
      refine zf 9 rfl (by kernel_rfl) rfl rfl rfl ?_
      refine zf 9 rfl (by kernel_rfl) rfl rfl rfl ?_
      refine zf 9 rfl (by kernel_rfl) rfl rfl rfl ?_
      refine za rfl (y_pick false rfl rfl rfl) rfl rfl ?_
      refine zA rfl rfl rfl rfl rfl ?_
      refine lg_nil ?_
      refine nx (zk1 2 rfl fn) ?_
      refine cg_ret ?_
      exact eg_ret_tmp rfl rfl ⟨congrArg (fun b => Ending.returned (Value.bool b)) (by simp [hw]), rfl⟩
  · have hw : ¬ isW w := by unfold isW; omega
    refine calls_cg (n := 16) Tryz.func44 rfl Tryz.ntmps44 (by simp) ?_
    show CG _ _ _ [(0, nv w)] _ _
    refine cg_seq ?_
    refine cg_region ?_
    refine zA rfl rfl rfl rfl rfl ?_
    refine lg_nil ?_
    refine nx (zk2 0 2 rfl rfl fn) ?_
    refine cg_seq ?_
    refine cg_region ?_
    refine zM rfl rfl rfl rfl rfl ?_
    refine za rfl (yb (decide_eq_false h0) (yi_gtr rfl rfl rfl)) rfl rfl ?_
    refine zM rfl rfl rfl rfl rfl ?_
    refine zf 5 rfl (by kernel_rfl) rfl rfl rfl ?_
    refine zf 5 rfl (by kernel_rfl) rfl rfl rfl ?_
    refine za rfl (y_pick false rfl rfl rfl) rfl rfl ?_
    refine zM rfl rfl rfl rfl rfl ?_
    refine zf 9 rfl (by kernel_rfl) rfl rfl rfl ?_
    refine zf 9 rfl (by kernel_rfl) rfl rfl rfl ?_
    refine zf 9 rfl (by kernel_rfl) rfl rfl rfl ?_
    refine zf 9 rfl (by kernel_rfl) rfl rfl rfl ?_
    refine zf 9 rfl (by kernel_rfl) rfl rfl rfl ?_
    refine za rfl (y_pick false rfl rfl rfl) rfl rfl ?_
    refine zA rfl rfl rfl rfl rfl ?_
    refine lg_nil ?_
    refine nx (zk1 2 rfl fn) ?_
    refine cg_ret ?_
    exact eg_ret_tmp rfl rfl ⟨congrArg (fun b => Ending.returned (Value.bool b)) (by simp [hw]), rfl⟩
theorem isL_any (x w : Int) (W : World) : Calls Tryz.prog 25 #[nv x, nv w] W fun e w' => e = .returned (.bool (decide (isN x w))) ∧ w' = W := by
  refine calls_cg (n := 16) Tryz.func25 rfl Tryz.ntmps25 (by simp) ?_
  show CG _ _ _ [(0, nv x), (1, nv w)] _ _
  refine cg_seq ?_
  refine cg_region ?_
  refine zA rfl rfl rfl rfl rfl ?_
  refine lg_nil ?_
  refine nx (zk3 0 1 4 rfl rfl rfl fn) ?_
  refine cg_seq ?_
  refine cg_region ?_
  refine zM rfl rfl rfl rfl rfl ?_
  by_cases c1 : isW w
  · refine za rfl (yb (decide_eq_true c1) (y_call (wholeL w _) (by kernel_rfl) rfl rfl)) rfl rfl ?_
    refine zM rfl rfl rfl rfl rfl ?_
    refine zt 7 rfl (by kernel_rfl) rfl (y_move rfl rfl) rfl rfl ?_
    by_cases c2 : 0 ≤ x
    · refine zt 7 rfl (by kernel_rfl) rfl (yb (decide_eq_true c2) (yi_geq rfl rfl rfl)) rfl rfl ?_
      refine za rfl (y_pick true rfl rfl rfl) rfl rfl ?_
      refine zM rfl rfl rfl rfl rfl ?_
      refine zt 11 rfl (by kernel_rfl) rfl (y_move rfl rfl) rfl rfl ?_
      refine zt 11 rfl (by kernel_rfl) rfl (y_move rfl rfl) rfl rfl ?_
      by_cases c3 : x < w
      · refine zt 11 rfl (by kernel_rfl) rfl (yb (decide_eq_true c3) (yi_lss rfl rfl rfl)) rfl rfl ?_
        refine za rfl (y_pick true rfl rfl rfl) rfl rfl ?_
        refine zA rfl rfl rfl rfl rfl ?_
        refine lg_nil ?_
        refine nx (zk1 4 rfl fn) ?_
        refine cg_ret ?_
        exact eg_ret_tmp rfl rfl ⟨congrArg (fun b => Ending.returned (Value.bool b)) (by simp [isN, *]), rfl⟩
      · refine zt 11 rfl (by kernel_rfl) rfl (yb (decide_eq_false c3) (yi_lss rfl rfl rfl)) rfl rfl ?_
        refine za rfl (y_pick true rfl rfl rfl) rfl rfl ?_
        refine zA rfl rfl rfl rfl rfl ?_
        refine lg_nil ?_
        refine nx (zk1 4 rfl fn) ?_
        refine cg_ret ?_
        exact eg_ret_tmp rfl rfl ⟨congrArg (fun b => Ending.returned (Value.bool b)) (by simp [isN, *]), rfl⟩
    · refine zt 7 rfl (by kernel_rfl) rfl (yb (decide_eq_false c2) (yi_geq rfl rfl rfl)) rfl rfl ?_
      refine za rfl (y_pick true rfl rfl rfl) rfl rfl ?_
      refine zM rfl rfl rfl rfl rfl ?_
      refine zf 11 rfl (by kernel_rfl) rfl rfl rfl ?_
      refine zf 11 rfl (by kernel_rfl) rfl rfl rfl ?_
      refine zf 11 rfl (by kernel_rfl) rfl rfl rfl ?_
      refine za rfl (y_pick false rfl rfl rfl) rfl rfl ?_
      refine zA rfl rfl rfl rfl rfl ?_
      refine lg_nil ?_
      refine nx (zk1 4 rfl fn) ?_
      refine cg_ret ?_
      exact eg_ret_tmp rfl rfl ⟨congrArg (fun b => Ending.returned (Value.bool b)) (by simp [isN, *]), rfl⟩
  · refine za rfl (yb (decide_eq_false c1) (y_call (wholeL w _) (by kernel_rfl) rfl rfl)) rfl rfl ?_
    refine zM rfl rfl rfl rfl rfl ?_
    refine zf 7 rfl (by kernel_rfl) rfl rfl rfl ?_
    refine zf 7 rfl (by kernel_rfl) rfl rfl rfl ?_
    refine za rfl (y_pick false rfl rfl rfl) rfl rfl ?_
    refine zM rfl rfl rfl rfl rfl ?_
    refine zf 11 rfl (by kernel_rfl) rfl rfl rfl ?_
    refine zf 11 rfl (by kernel_rfl) rfl rfl rfl ?_
    refine zf 11 rfl (by kernel_rfl) rfl rfl rfl ?_
    refine za rfl (y_pick false rfl rfl rfl) rfl rfl ?_
    refine zA rfl rfl rfl rfl rfl ?_
    refine lg_nil ?_
    refine nx (zk1 4 rfl fn) ?_
    refine cg_ret ?_
    exact eg_ret_tmp rfl rfl ⟨congrArg (fun b => Ending.returned (Value.bool b)) (by simp [isN, *]), rfl⟩
/-- Behind t rounds: n is the width at hand, and w is none of those before. -/
def WSL (w : Int) (t : Nat) (n : Int) : Prop := ((t = 0 ∧ n = 1) ∨ (t = 1 ∧ n = 3 ∧ w ≠ 1) ∨ (t = 2 ∧ n = 7 ∧ w ≠ 1 ∧ w ≠ 3) ∨ (t = 3 ∧ n = 15 ∧ w ≠ 1 ∧ w ≠ 3 ∧ w ≠ 7) ∨ (t = 4 ∧ n = 31 ∧ w ≠ 1 ∧ w ≠ 3 ∧ w ≠ 7 ∧ w ≠ 15) ∨ (t = 5 ∧ n = 63 ∧ w ≠ 1 ∧ w ≠ 3 ∧ w ≠ 7 ∧ w ≠ 15 ∧ w ≠ 31) ∨ (t = 6 ∧ n = 127 ∧ w ≠ 1 ∧ w ≠ 3 ∧ w ≠ 7 ∧ w ≠ 15 ∧ w ≠ 31 ∧ w ≠ 63) ∨ (t = 7 ∧ n = 255 ∧ w ≠ 1 ∧ w ≠ 3 ∧ w ≠ 7 ∧ w ≠ 15 ∧ w ≠ 31 ∧ w ≠ 63 ∧ w ≠ 127))
theorem WSL.next {w n : Int} {t : Nat} (h : WSL w t n) (h1 : n ≤ 127) (h2 : ¬ n = w) : t < 7 ∧ WSL w (t + 1) (2 * n + 1) := by
  unfold WSL at *
  rcases h with h | h | h | h | h | h | h | h
  · exact ⟨by omega, .inr (.inl (by omega))⟩
  · exact ⟨by omega, .inr (.inr (.inl (by omega)))⟩
  · exact ⟨by omega, .inr (.inr (.inr (.inl (by omega))))⟩
  · exact ⟨by omega, .inr (.inr (.inr (.inr (.inl (by omega)))))⟩
  · exact ⟨by omega, .inr (.inr (.inr (.inr (.inr (.inl (by omega))))))⟩
  · exact ⟨by omega, .inr (.inr (.inr (.inr (.inr (.inr (.inl (by omega)))))))⟩
  · exact ⟨by omega, .inr (.inr (.inr (.inr (.inr (.inr (.inr ((by omega))))))))⟩
  · exact absurd h1 (by omega)
theorem WSL.yes {w n : Int} {t : Nat} (h : WSL w t n) (h1 : n ≤ 127) (h2 : n = w) : isW w := by
  unfold WSL at h
  unfold isW
  rcases h with h | h | h | h | h | h | h | h <;> omega
theorem WSL.none {w n : Int} {t : Nat} (h : WSL w t n) (h1 : ¬ n ≤ 127) : ¬ isW w := by
  unfold WSL at h
  unfold isW
  rcases h with h | h | h | h | h | h | h | h <;> omega
theorem rwholeL (w : Int) (W : World) : Calls Tryz.prog 100 #[nv w] W fun e w' => e = .returned (.bool (decide (isW w))) ∧ w' = W := by
  refine calls_cg (n := 12) Tryz.func100 rfl Tryz.ntmps100 (by simp) ?_
  show CG _ _ _ [(0, nv w)] _ _
  refine cg_seq ?_
  refine cg_region ?_
  refine zA rfl rfl rfl rfl rfl ?_
  refine lg_nil ?_
  refine nx (zk2 0 2 rfl rfl fn) ?_
  refine cg_seq ?_
  refine cg_seq ?_
  refine cg_region ?_
  refine zA rfl rfl rfl rfl rfl ?_
  refine lg_nil ?_
  refine nx (zk3 0 2 3 rfl rfl rfl fn) ?_
  refine cg_block ?_
  refine cg_loopE (fun t a v => ∃ (n : Int), Holds 12 [(0, nv w), (3, nv n)] a ∧ v = W ∧ WSL w t n) 7 (fun a ha => ⟨1, ha.keep (fk rfl (fk rfl fn)), rfl, (.inl ⟨rfl, rfl⟩)⟩) ?_
  rintro t a v ht ⟨n, ha, hv, hd⟩
  refine cg_at ha ?_
  clear ha a
  have hb : 1 ≤ n ∧ n ≤ 255 := by unfold WSL at hd; rcases hd with h | h | h | h | h | h | h | h <;> omega
  refine cg_seq ?_
  refine cg_seq ?_
  refine cg_region ?_
  refine zM rfl rfl rfl rfl rfl ?_
  by_cases c1 : n ≤ 127
  · refine za rfl (yb (decide_eq_true c1) (yi_leq rfl rfl rfl)) rfl rfl ?_
    refine lg_nil ?_
    refine nx (zk3 0 3 4 rfl rfl rfl (zk1 5 rfl fn)) ?_
    refine cg_ct rfl ?_
    refine cg_skip ?_
    refine nx (zk3 0 3 4 rfl rfl rfl (zk1 5 rfl fn)) ?_
    refine cg_seq ?_
    refine cg_block ?_
    refine cg_seq ?_
    refine cg_region ?_
    refine zM rfl rfl rfl rfl rfl ?_
    refine zM rfl rfl rfl rfl rfl ?_
    by_cases c2 : n = w
    · refine za rfl (yb (decide_eq_true c2) (yi_eql rfl rfl rfl)) rfl rfl ?_
      refine lg_nil ?_
      refine nx (zk5 0 3 4 5 9 rfl rfl rfl rfl rfl (zk2 10 11 rfl rfl fn)) ?_
      refine cg_ct rfl ?_
      refine cg_seq ?_
      refine cg_region ?_
      refine zA rfl rfl rfl rfl rfl ?_
      refine lg_nil ?_
      refine nx (zk5 0 3 4 5 9 rfl rfl rfl rfl rfl (zk3 10 11 2 rfl rfl rfl fn)) ?_
      refine cg_ret ?_
      refine eg_block_ret ?_
      refine eg_seq_ret ?_
      refine eg_seq_ret ?_
      refine eg_block_ret ?_
      refine eg_seq_ret ?_
      exact eg_ret_tmp rfl rfl ⟨congrArg (fun b => Ending.returned (Value.bool b)) (decide_eq_true (hd.yes c1 c2)).symm, hv⟩
    · refine za rfl (yb (decide_eq_false c2) (yi_eql rfl rfl rfl)) rfl rfl ?_
      refine lg_nil ?_
      refine nx (zk5 0 3 4 5 9 rfl rfl rfl rfl rfl (zk2 10 11 rfl rfl fn)) ?_
      refine cg_cf rfl ?_
      refine cg_skip ?_
      refine eg_block_norm ?_
      refine nx (zk5 0 3 4 5 9 rfl rfl rfl rfl rfl (zk2 10 11 rfl rfl fn)) ?_
      refine cg_region ?_
      refine zM rfl rfl rfl rfl rfl ?_
      refine za rfl (yi_mul rfl rfl rfl (by omega) (by omega)) rfl rfl ?_
      refine za rfl (yi_add rfl rfl rfl (by omega) (by omega)) rfl rfl ?_
      refine zA rfl rfl rfl rfl rfl ?_
      refine lg_nil ?_
      have hq := hd.next c1 c2
      exact fun a ha => (show t < 7 ∧ _ from ⟨hq.1, (2 * n + 1), ha.keep (fk rfl (fk rfl fn)), hv, hq.2⟩)
  · refine za rfl (yb (decide_eq_false c1) (yi_leq rfl rfl rfl)) rfl rfl ?_
    refine lg_nil ?_
    refine nx (zk3 0 3 4 rfl rfl rfl (zk1 5 rfl fn)) ?_
    refine cg_cf rfl ?_
    refine cg_exit ?_
    refine eg_seq_exit ?_
    refine eg_seq_exit ?_
    refine eg_block_exit ?_
    refine nx (E' := []) fn ?_
    refine cg_seq ?_
    refine cg_region ?_
    refine zA rfl rfl rfl rfl rfl ?_
    refine lg_nil ?_
    refine nx (zk1 2 rfl fn) ?_
    refine cg_ret ?_
    exact eg_ret_tmp rfl rfl ⟨congrArg (fun b => Ending.returned (Value.bool b)) (decide_eq_false (hd.none c1)).symm, hv⟩
/- IxProg:
  Where nodes stand in a row: what the functions of the program answer.
-/
set_option maxRecDepth 20000
theorem tz64_any (z : Int) (j : Nat) (h0 : z ≠ 0) (hj : tzi z = j) (hl : j < 64) (W : World) (rg : Tb W) : Calls Tryz.prog 159 #[.int .u64 z] W fun e w' => e = .returned (.int .i64 (IntKind.i64.wrap (vb (tab j)))) ∧ w' = W := by
  obtain ⟨tg, rg⟩ := rg
  refine calls_cg (n := 14) Tryz.func159 rfl Tryz.ntmps159 (by simp) ?_
  show CG _ _ _ [(0, .int .u64 z)] _ _
  refine cg_seq ?_
  refine cg_region ?_
  refine zA rfl rfl rfl rfl rfl ?_
  refine lg_nil ?_
  refine nx (zk2 0 2 rfl rfl fn) ?_
  refine cg_seq ?_
  refine cg_seq ?_
  refine cg_region ?_
  refine zM rfl rfl rfl rfl rfl ?_
  refine za rfl (yb (decide_eq_false h0) (yu_eql rfl rfl rfl)) rfl rfl ?_
  refine lg_nil ?_
  refine nx (zk3 0 2 4 rfl rfl rfl fn) ?_
  refine cg_cf rfl ?_
  refine cg_skip ?_
  refine nx (zk2 0 2 rfl rfl fn) ?_
  refine cg_seq ?_
  refine cg_region ?_
  refine zM rfl rfl rfl rfl rfl ?_
  refine zM rfl rfl rfl rfl rfl ?_
  refine za rfl (yu_neg rfl rfl) rfl rfl ?_
  refine za rfl (yu_and rfl rfl rfl) rfl rfl ?_
  refine za rfl (yu_mul rfl rfl rfl) rfl rfl ?_
  refine za rfl (yu_shr rfl rfl rfl) rfl rfl ?_
  refine za rfl (y_ixk (len := 64) (el := 5) hj (by kernel_rfl) (by kernel_rfl) hl rfl rfl rfl) rfl rfl ?_
  refine za rfl (y_cellv rg (cB_get hl) (by kernel_rfl) rfl rfl) rfl rfl ?_
  refine za rfl (y_conv_u (ds := .int .u8) (k := .i64) (by kernel_rfl) (by kernel_rfl) rfl rfl) rfl rfl ?_
  refine zA rfl rfl rfl rfl rfl ?_
  refine lg_nil ?_
  refine nx (zk1 2 rfl fn) ?_
  refine cg_ret ?_
  exact eg_ret_tmp rfl rfl ⟨rfl, rfl⟩
theorem tz_any (z : Int) (j : Nat) (h0 : z ≠ 0) (hj : tzi z = j) (hl : j < 64) (W : World) (rg : Tb W) : Calls Tryz.prog 135 #[.int .u64 z] W fun e w' => e = .returned (.int .i64 (IntKind.i64.wrap (vb (tab j)))) ∧ w' = W := by
  refine calls_cg (n := 8) Tryz.func135 rfl Tryz.ntmps135 (by simp) ?_
  show CG _ _ _ [(0, .int .u64 z)] _ _
  refine cg_seq ?_
  refine cg_region ?_
  refine zA rfl rfl rfl rfl rfl ?_
  refine lg_nil ?_
  refine nx (zk2 0 2 rfl rfl fn) ?_
  refine cg_seq ?_
  refine cg_cf rfl ?_
  refine cg_skip ?_
  refine nx (zk2 0 2 rfl rfl fn) ?_
  refine cg_seq ?_
  refine cg_region ?_
  refine zM rfl rfl rfl rfl rfl ?_
  refine za rfl (y_call (tz64_any z j h0 hj hl _ rg) (by kernel_rfl) rfl rfl) rfl rfl ?_
  refine zA rfl rfl rfl rfl rfl ?_
  refine lg_nil ?_
  refine nx (zk1 2 rfl fn) ?_
  refine cg_ret ?_
  exact eg_ret_tmp rfl rfl ⟨rfl, rfl⟩
theorem level_any (x : Int) (W : World) (rg : Tb W) : Calls Tryz.prog 92 #[nv x] W fun e w' => e = .returned (nv (lvl x)) ∧ w' = W := by
  by_cases h0 : x < 0
  · refine calls_cg (n := 13) Tryz.func92 rfl Tryz.ntmps92 (by simp) ?_
    show CG _ _ _ [(0, nv x)] _ _
    refine cg_seq ?_
    refine cg_region ?_
    refine zA rfl rfl rfl rfl rfl ?_
    refine lg_nil ?_
    refine nx (zk2 0 2 rfl rfl fn) ?_
    refine cg_seq ?_
    refine cg_seq ?_
    refine cg_region ?_
    refine zM rfl rfl rfl rfl rfl ?_
    refine za rfl (yb (decide_eq_true h0) (yi_lss rfl rfl rfl)) rfl rfl ?_
    refine zM rfl rfl rfl rfl rfl ?_
    refine zf 5 rfl (by kernel_rfl) rfl rfl rfl ?_
    refine zf 5 rfl (by kernel_rfl) rfl rfl rfl ?_
    refine za rfl (y_pick true rfl rfl rfl) rfl rfl ?_
    refine lg_nil ?_
    refine nx (zk3 0 2 8 rfl rfl rfl fn) ?_
    refine cg_ct rfl ?_
    refine cg_seq ?_
    refine cg_region ?_
    refine zA rfl rfl rfl rfl rfl ?_
    refine lg_nil ?_
    refine nx (zk2 0 2 rfl rfl fn) ?_
    refine cg_ret ?_
    refine eg_seq_ret ?_
    exact eg_ret_tmp rfl rfl ⟨congrArg (fun k => Ending.returned (nv k)) (lvl_no (by unfold isL; omega)).symm, rfl⟩
  by_cases h1 : 127 ≤ x
  · refine calls_cg (n := 13) Tryz.func92 rfl Tryz.ntmps92 (by simp) ?_
    show CG _ _ _ [(0, nv x)] _ _
    refine cg_seq ?_
    refine cg_region ?_
    refine zA rfl rfl rfl rfl rfl ?_
    refine lg_nil ?_
    refine nx (zk2 0 2 rfl rfl fn) ?_
    refine cg_seq ?_
    refine cg_seq ?_
    refine cg_region ?_
    refine zM rfl rfl rfl rfl rfl ?_
    refine za rfl (yb (decide_eq_false h0) (yi_lss rfl rfl rfl)) rfl rfl ?_
    refine zM rfl rfl rfl rfl rfl ?_
    refine zt 5 rfl (by kernel_rfl) rfl (y_move rfl rfl) rfl rfl ?_
    refine zt 5 rfl (by kernel_rfl) rfl (yb (decide_eq_true h1) (yi_geq rfl rfl rfl)) rfl rfl ?_
    refine za rfl (y_pick false rfl rfl rfl) rfl rfl ?_
    refine lg_nil ?_
    refine nx (zk3 0 2 8 rfl rfl rfl fn) ?_
    refine cg_ct rfl ?_
    refine cg_seq ?_
    refine cg_region ?_
    refine zA rfl rfl rfl rfl rfl ?_
    refine lg_nil ?_
    refine nx (zk2 0 2 rfl rfl fn) ?_
    refine cg_ret ?_
    refine eg_seq_ret ?_
    exact eg_ret_tmp rfl rfl ⟨congrArg (fun k => Ending.returned (nv k)) (lvl_no (by unfold isL; omega)).symm, rfl⟩
  have hc := comp_facts (x := x) ⟨by omega, by omega⟩
  refine calls_cg (n := 13) Tryz.func92 rfl Tryz.ntmps92 (by simp) ?_
  show CG _ _ _ [(0, nv x)] _ _
  refine cg_seq ?_
  refine cg_region ?_
  refine zA rfl rfl rfl rfl rfl ?_
  refine lg_nil ?_
  refine nx (zk2 0 2 rfl rfl fn) ?_
  refine cg_seq ?_
  refine cg_seq ?_
  refine cg_region ?_
  refine zM rfl rfl rfl rfl rfl ?_
  refine za rfl (yb (decide_eq_false h0) (yi_lss rfl rfl rfl)) rfl rfl ?_
  refine zM rfl rfl rfl rfl rfl ?_
  refine zt 5 rfl (by kernel_rfl) rfl (y_move rfl rfl) rfl rfl ?_
  refine zt 5 rfl (by kernel_rfl) rfl (yb (decide_eq_false h1) (yi_geq rfl rfl rfl)) rfl rfl ?_
  refine za rfl (y_pick false rfl rfl rfl) rfl rfl ?_
  refine lg_nil ?_
  refine nx (zk3 0 2 8 rfl rfl rfl fn) ?_
  refine cg_cf rfl ?_
  refine cg_skip ?_
  refine nx (zk2 0 2 rfl rfl fn) ?_
  refine cg_seq ?_
  refine cg_region ?_
  refine zM rfl rfl rfl rfl rfl ?_
  refine za rfl (y_conv_u (ds := .int .i64) (k := .u64) (by kernel_rfl) (by kernel_rfl) rfl rfl) rfl rfl ?_
  refine za rfl (yu_not rfl rfl) rfl rfl ?_
  refine za rfl (y_call (tz_any (comp x) _ hc.1 hc.2.1 hc.2.2.1 _ rg) (by kernel_rfl) rfl rfl) rfl rfl ?_
  refine zA rfl rfl rfl rfl rfl ?_
  refine lg_nil ?_
  refine nx (zk1 2 rfl fn) ?_
  refine cg_ret ?_
  exact eg_ret_tmp rfl rfl ⟨congrArg (fun k => Ending.returned (nv k)) hc.2.2.2, rfl⟩
theorem whole_and {w : Int} (h0 : 0 < w) (h1 : w ≤ 127) : bits .and .i64 w (w + 1) = 0 ↔ isW w := by
  have h := fin1 (p := fun x => bits .and .i64 (x + 1) (x + 1 + 1) = 0 ↔ isW (x + 1)) (by kernel_rfl) (x := w - 1) ⟨by omega, by omega⟩
  rwa [Int.sub_add_cancel] at h
theorem whole_any (w : Int) (W : World) (rg : Tb W) : Calls Tryz.prog 44 #[nv w] W fun e w' => e = .returned (.bool (decide (isW w))) ∧ w' = W := by
  by_cases h0 : 0 < w
  · by_cases h1 : w ≤ 127
    · have hq := whole_and h0 h1
      by_cases hw : isW w
      · refine calls_cg (n := 16) Tryz.func44 rfl Tryz.ntmps44 (by simp) ?_
        show CG _ _ _ [(0, nv w)] _ _
        refine cg_seq ?_
        refine cg_region ?_
        refine zA rfl rfl rfl rfl rfl ?_
        refine lg_nil ?_
        refine nx (zk2 0 2 rfl rfl fn) ?_
        refine cg_seq ?_
        refine cg_region ?_
        refine zM rfl rfl rfl rfl rfl ?_
        refine za rfl (yb (decide_eq_true h0) (yi_gtr rfl rfl rfl)) rfl rfl ?_
        refine zM rfl rfl rfl rfl rfl ?_
        refine zt 5 rfl (by kernel_rfl) rfl (y_move rfl rfl) rfl rfl ?_
        refine zt 5 rfl (by kernel_rfl) rfl (yb (decide_eq_true h1) (yi_leq rfl rfl rfl)) rfl rfl ?_
        refine za rfl (y_pick true rfl rfl rfl) rfl rfl ?_
        refine zM rfl rfl rfl rfl rfl ?_
        refine zt 9 rfl (by kernel_rfl) rfl (y_move rfl rfl) rfl rfl ?_
        refine zt 9 rfl (by kernel_rfl) rfl (y_move rfl rfl) rfl rfl ?_
        refine zt 9 rfl (by kernel_rfl) rfl (yi_add rfl rfl rfl (by omega) (by omega)) rfl rfl ?_
        refine zt 9 rfl (by kernel_rfl) rfl (yi_and rfl rfl rfl) rfl rfl ?_
        refine zt 9 rfl (by kernel_rfl) rfl (yb (decide_eq_true (hq.2 hw)) (yi_eql rfl rfl rfl)) rfl rfl ?_
        refine za rfl (y_pick true rfl rfl rfl) rfl rfl ?_
        refine zA rfl rfl rfl rfl rfl ?_
        refine lg_nil ?_
        refine nx (zk1 2 rfl fn) ?_
        refine cg_ret ?_
        exact eg_ret_tmp rfl rfl ⟨congrArg (fun b => Ending.returned (Value.bool b)) (by simp [hw]), rfl⟩
      · refine calls_cg (n := 16) Tryz.func44 rfl Tryz.ntmps44 (by simp) ?_
        show CG _ _ _ [(0, nv w)] _ _
        refine cg_seq ?_
        refine cg_region ?_
        refine zA rfl rfl rfl rfl rfl ?_
        refine lg_nil ?_
        refine nx (zk2 0 2 rfl rfl fn) ?_
        refine cg_seq ?_
        refine cg_region ?_
        refine zM rfl rfl rfl rfl rfl ?_
        refine za rfl (yb (decide_eq_true h0) (yi_gtr rfl rfl rfl)) rfl rfl ?_
        refine zM rfl rfl rfl rfl rfl ?_
        refine zt 5 rfl (by kernel_rfl) rfl (y_move rfl rfl) rfl rfl ?_
        refine zt 5 rfl (by kernel_rfl) rfl (yb (decide_eq_true h1) (yi_leq rfl rfl rfl)) rfl rfl ?_
        refine za rfl (y_pick true rfl rfl rfl) rfl rfl ?_
        refine zM rfl rfl rfl rfl rfl ?_
        refine zt 9 rfl (by kernel_rfl) rfl (y_move rfl rfl) rfl rfl ?_
        refine zt 9 rfl (by kernel_rfl) rfl (y_move rfl rfl) rfl rfl ?_
        refine zt 9 rfl (by kernel_rfl) rfl (yi_add rfl rfl rfl (by omega) (by omega)) rfl rfl ?_
        refine zt 9 rfl (by kernel_rfl) rfl (yi_and rfl rfl rfl) rfl rfl ?_
        refine zt 9 rfl (by kernel_rfl) rfl (yb (decide_eq_false fun q => hw (hq.1 q)) (yi_eql rfl rfl rfl)) rfl rfl ?_
        refine za rfl (y_pick true rfl rfl rfl) rfl rfl ?_
        refine zA rfl rfl rfl rfl rfl ?_
        refine lg_nil ?_
        refine nx (zk1 2 rfl fn) ?_
        refine cg_ret ?_
        exact eg_ret_tmp rfl rfl ⟨congrArg (fun b => Ending.returned (Value.bool b)) (by simp [hw]), rfl⟩
    · have hw : ¬ isW w := by unfold isW; omega
      refine calls_cg (n := 16) Tryz.func44 rfl Tryz.ntmps44 (by simp) ?_
      show CG _ _ _ [(0, nv w)] _ _
      refine cg_seq ?_
      refine cg_region ?_
      refine zA rfl rfl rfl rfl rfl ?_
      refine lg_nil ?_
      refine nx (zk2 0 2 rfl rfl fn) ?_
      refine cg_seq ?_
      refine cg_region ?_
      refine zM rfl rfl rfl rfl rfl ?_
      refine za rfl (yb (decide_eq_true h0) (yi_gtr rfl rfl rfl)) rfl rfl ?_
      refine zM rfl rfl rfl rfl rfl ?_
      refine zt 5 rfl (by kernel_rfl) rfl (y_move rfl rfl) rfl rfl ?_
      refine zt 5 rfl (by kernel_rfl) rfl (yb (decide_eq_false h1) (yi_leq rfl rfl rfl)) rfl rfl ?_
      refine za rfl (y_pick true rfl rfl rfl) rfl rfl ?_
      refine zM rfl rfl rfl rfl rfl ?_
      refine zf 9 rfl (by kernel_rfl) rfl rfl rfl ?_
      refine zf 9 rfl (by kernel_rfl) rfl rfl rfl ?_
      refine zf 9 rfl (by kernel_rfl) rfl rfl rfl ?_
      refine zf 9 rfl (by kernel_rfl) rfl rfl rfl ?_
      refine zf 9 rfl (by kernel_rfl) rfl rfl rfl ?_
      refine za rfl (y_pick false rfl rfl rfl) rfl rfl ?_
      refine zA rfl rfl rfl rfl rfl ?_
      refine lg_nil ?_
      refine nx (zk1 2 rfl fn) ?_
      refine cg_ret ?_
      exact eg_ret_tmp rfl rfl ⟨congrArg (fun b => Ending.returned (Value.bool b)) (by simp [hw]), rfl⟩
  · have hw : ¬ isW w := by unfold isW; omega
    refine calls_cg (n := 16) Tryz.func44 rfl Tryz.ntmps44 (by simp) ?_
    show CG _ _ _ [(0, nv w)] _ _
    refine cg_seq ?_
    refine cg_region ?_
    refine zA rfl rfl rfl rfl rfl ?_
    refine lg_nil ?_
    refine nx (zk2 0 2 rfl rfl fn) ?_
    refine cg_seq ?_
    refine cg_region ?_
    refine zM rfl rfl rfl rfl rfl ?_
    refine za rfl (yb (decide_eq_false h0) (yi_gtr rfl rfl rfl)) rfl rfl ?_
    refine zM rfl rfl rfl rfl rfl ?_
    refine zf 5 rfl (by kernel_rfl) rfl rfl rfl ?_
    refine zf 5 rfl (by kernel_rfl) rfl rfl rfl ?_
    refine za rfl (y_pick false rfl rfl rfl) rfl rfl ?_
    refine zM rfl rfl rfl rfl rfl ?_
    refine zf 9 rfl (by kernel_rfl) rfl rfl rfl ?_
    refine zf 9 rfl (by kernel_rfl) rfl rfl rfl ?_
    refine zf 9 rfl (by kernel_rfl) rfl rfl rfl ?_
    refine zf 9 rfl (by kernel_rfl) rfl rfl rfl ?_
    refine zf 9 rfl (by kernel_rfl) rfl rfl rfl ?_
    refine za rfl (y_pick false rfl rfl rfl) rfl rfl ?_
    refine zA rfl rfl rfl rfl rfl ?_
    refine lg_nil ?_
    refine nx (zk1 2 rfl fn) ?_
    refine cg_ret ?_
    exact eg_ret_tmp rfl rfl ⟨congrArg (fun b => Ending.returned (Value.bool b)) (by simp [hw]), rfl⟩
theorem is_any (x w : Int) (W : World) (rg : Tb W) : Calls Tryz.prog 25 #[nv x, nv w] W fun e w' => e = .returned (.bool (decide (isN x w))) ∧ w' = W := by
  refine calls_cg (n := 16) Tryz.func25 rfl Tryz.ntmps25 (by simp) ?_
  show CG _ _ _ [(0, nv x), (1, nv w)] _ _
  refine cg_seq ?_
  refine cg_region ?_
  refine zA rfl rfl rfl rfl rfl ?_
  refine lg_nil ?_
  refine nx (zk3 0 1 4 rfl rfl rfl fn) ?_
  refine cg_seq ?_
  refine cg_region ?_
  refine zM rfl rfl rfl rfl rfl ?_
  by_cases c1 : isW w
  · refine za rfl (yb (decide_eq_true c1) (y_call (whole_any w _ rg) (by kernel_rfl) rfl rfl)) rfl rfl ?_
    refine zM rfl rfl rfl rfl rfl ?_
    refine zt 7 rfl (by kernel_rfl) rfl (y_move rfl rfl) rfl rfl ?_
    by_cases c2 : 0 ≤ x
    · refine zt 7 rfl (by kernel_rfl) rfl (yb (decide_eq_true c2) (yi_geq rfl rfl rfl)) rfl rfl ?_
      refine za rfl (y_pick true rfl rfl rfl) rfl rfl ?_
      refine zM rfl rfl rfl rfl rfl ?_
      refine zt 11 rfl (by kernel_rfl) rfl (y_move rfl rfl) rfl rfl ?_
      refine zt 11 rfl (by kernel_rfl) rfl (y_move rfl rfl) rfl rfl ?_
      by_cases c3 : x < w
      · refine zt 11 rfl (by kernel_rfl) rfl (yb (decide_eq_true c3) (yi_lss rfl rfl rfl)) rfl rfl ?_
        refine za rfl (y_pick true rfl rfl rfl) rfl rfl ?_
        refine zA rfl rfl rfl rfl rfl ?_
        refine lg_nil ?_
        refine nx (zk1 4 rfl fn) ?_
        refine cg_ret ?_
        exact eg_ret_tmp rfl rfl ⟨congrArg (fun b => Ending.returned (Value.bool b)) (by simp [isN, *]), rfl⟩
      · refine zt 11 rfl (by kernel_rfl) rfl (yb (decide_eq_false c3) (yi_lss rfl rfl rfl)) rfl rfl ?_
        refine za rfl (y_pick true rfl rfl rfl) rfl rfl ?_
        refine zA rfl rfl rfl rfl rfl ?_
        refine lg_nil ?_
        refine nx (zk1 4 rfl fn) ?_
        refine cg_ret ?_
        exact eg_ret_tmp rfl rfl ⟨congrArg (fun b => Ending.returned (Value.bool b)) (by simp [isN, *]), rfl⟩
    · refine zt 7 rfl (by kernel_rfl) rfl (yb (decide_eq_false c2) (yi_geq rfl rfl rfl)) rfl rfl ?_
      refine za rfl (y_pick true rfl rfl rfl) rfl rfl ?_
      refine zM rfl rfl rfl rfl rfl ?_
      refine zf 11 rfl (by kernel_rfl) rfl rfl rfl ?_
      refine zf 11 rfl (by kernel_rfl) rfl rfl rfl ?_
      refine zf 11 rfl (by kernel_rfl) rfl rfl rfl ?_
      refine za rfl (y_pick false rfl rfl rfl) rfl rfl ?_
      refine zA rfl rfl rfl rfl rfl ?_
      refine lg_nil ?_
      refine nx (zk1 4 rfl fn) ?_
      refine cg_ret ?_
      exact eg_ret_tmp rfl rfl ⟨congrArg (fun b => Ending.returned (Value.bool b)) (by simp [isN, *]), rfl⟩
  · refine za rfl (yb (decide_eq_false c1) (y_call (whole_any w _ rg) (by kernel_rfl) rfl rfl)) rfl rfl ?_
    refine zM rfl rfl rfl rfl rfl ?_
    refine zf 7 rfl (by kernel_rfl) rfl rfl rfl ?_
    refine zf 7 rfl (by kernel_rfl) rfl rfl rfl ?_
    refine za rfl (y_pick false rfl rfl rfl) rfl rfl ?_
    refine zM rfl rfl rfl rfl rfl ?_
    refine zf 11 rfl (by kernel_rfl) rfl rfl rfl ?_
    refine zf 11 rfl (by kernel_rfl) rfl rfl rfl ?_
    refine zf 11 rfl (by kernel_rfl) rfl rfl rfl ?_
    refine za rfl (y_pick false rfl rfl rfl) rfl rfl ?_
    refine zA rfl rfl rfl rfl rfl ?_
    refine lg_nil ?_
    refine nx (zk1 4 rfl fn) ?_
    refine cg_ret ?_
    exact eg_ret_tmp rfl rfl ⟨congrArg (fun b => Ending.returned (Value.bool b)) (by simp [isN, *]), rfl⟩
theorem tleft_any (w x : Int) (W : World) (rg : Tb W) (hn : isN x w) : Calls Tryz.prog 56 #[nv w, nv x] W fun e w' => e = .returned (nv (leftI x w)) ∧ w' = W := by
  refine calls_cg (n := 15) Tryz.func56 rfl Tryz.ntmps56 (by simp) ?_
  show CG _ _ _ [(0, nv w), (1, nv x)] _ _
  refine cg_seq ?_
  refine cg_region ?_
  refine zA rfl rfl rfl rfl rfl ?_
  refine lg_nil ?_
  refine nx (zk2 1 4 rfl rfl fn) ?_
  refine cg_seq ?_
  refine cg_region ?_
  refine zM rfl rfl rfl rfl rfl ?_
  refine za rfl (y_call (level_any x _ rg) (by kernel_rfl) rfl rfl) rfl rfl ?_
  refine zA rfl rfl rfl rfl rfl ?_
  refine lg_nil ?_
  refine nx (zk3 1 4 5 rfl rfl rfl fn) ?_
  refine cg_seq ?_
  refine cg_seq ?_
  refine cg_region ?_
  refine zM rfl rfl rfl rfl rfl ?_
  by_cases c1 : (lvl x) = 0
  · have f2 : (lvl x) = 0 := fin2 (p := fun x w => (lvl x) = 0 → (lvl x) = 0) (by kernel_rfl) hn c1
    refine za rfl (yb (decide_eq_true f2) (yi_eql rfl rfl rfl)) rfl rfl ?_
    refine lg_nil ?_
    refine nx (zk3 1 4 5 rfl rfl rfl (zk1 9 rfl fn)) ?_
    refine cg_ct rfl ?_
    refine cg_seq ?_
    refine cg_region ?_
    refine zA rfl rfl rfl rfl rfl ?_
    refine lg_nil ?_
    refine nx (zk3 1 5 4 rfl rfl rfl fn) ?_
    refine cg_ret ?_
    refine eg_seq_ret ?_
    have f3 : (-1) = leftI x w := fin2 (p := fun x w => (lvl x) = 0 → (-1) = leftI x w) (by kernel_rfl) hn c1
    exact eg_ret_tmp rfl rfl ⟨congrArg (fun k => Ending.returned (nv k)) f3, rfl⟩
  · have f4 : ¬ ((lvl x) = 0) := fin2 (p := fun x w => ¬ ((lvl x) = 0) → ¬ ((lvl x) = 0)) (by kernel_rfl) hn c1
    refine za rfl (yb (decide_eq_false f4) (yi_eql rfl rfl rfl)) rfl rfl ?_
    refine lg_nil ?_
    refine nx (zk3 1 4 5 rfl rfl rfl (zk1 9 rfl fn)) ?_
    refine cg_cf rfl ?_
    refine cg_skip ?_
    refine nx (zk3 1 4 5 rfl rfl rfl fn) ?_
    refine cg_seq ?_
    refine cg_region ?_
    refine zM rfl rfl rfl rfl rfl ?_
    refine zM rfl rfl rfl rfl rfl ?_
    have f5 : -9223372036854775808 ≤ ((lvl x) - 1) ∧ ((lvl x) - 1) < 9223372036854775808 := fin2 (p := fun x w => ¬ ((lvl x) = 0) → -9223372036854775808 ≤ ((lvl x) - 1) ∧ ((lvl x) - 1) < 9223372036854775808) (by kernel_rfl) hn c1
    refine za rfl (yi_sub rfl rfl rfl f5.1 f5.2) rfl rfl ?_
    have f6 : 0 ≤ ((lvl x) - 1) ∧ ((lvl x) - 1) < 63 := fin2 (p := fun x w => ¬ ((lvl x) = 0) → 0 ≤ ((lvl x) - 1) ∧ ((lvl x) - 1) < 63) (by kernel_rfl) hn c1
    refine za rfl (yi_shl1 f6.1 f6.2 rfl rfl rfl) rfl rfl ?_
    have f7 : -9223372036854775808 ≤ (x - (pw ((lvl x) - 1))) ∧ (x - (pw ((lvl x) - 1))) < 9223372036854775808 := fin2 (p := fun x w => ¬ ((lvl x) = 0) → -9223372036854775808 ≤ (x - (pw ((lvl x) - 1))) ∧ (x - (pw ((lvl x) - 1))) < 9223372036854775808) (by kernel_rfl) hn c1
    refine za rfl (yi_sub rfl rfl rfl f7.1 f7.2) rfl rfl ?_
    refine zA rfl rfl rfl rfl rfl ?_
    refine lg_nil ?_
    refine nx (zk1 4 rfl fn) ?_
    refine cg_ret ?_
    have f8 : (x - (pw ((lvl x) - 1))) = leftI x w := fin2 (p := fun x w => ¬ ((lvl x) = 0) → (x - (pw ((lvl x) - 1))) = leftI x w) (by kernel_rfl) hn c1
    exact eg_ret_tmp rfl rfl ⟨congrArg (fun k => Ending.returned (nv k)) f8, rfl⟩
theorem tright_any (w x : Int) (W : World) (rg : Tb W) (hn : isN x w) : Calls Tryz.prog 57 #[nv w, nv x] W fun e w' => e = .returned (nv (rightI x w)) ∧ w' = W := by
  refine calls_cg (n := 15) Tryz.func57 rfl Tryz.ntmps57 (by simp) ?_
  show CG _ _ _ [(0, nv w), (1, nv x)] _ _
  refine cg_seq ?_
  refine cg_region ?_
  refine zA rfl rfl rfl rfl rfl ?_
  refine lg_nil ?_
  refine nx (zk2 1 4 rfl rfl fn) ?_
  refine cg_seq ?_
  refine cg_region ?_
  refine zM rfl rfl rfl rfl rfl ?_
  refine za rfl (y_call (level_any x _ rg) (by kernel_rfl) rfl rfl) rfl rfl ?_
  refine zA rfl rfl rfl rfl rfl ?_
  refine lg_nil ?_
  refine nx (zk3 1 4 5 rfl rfl rfl fn) ?_
  refine cg_seq ?_
  refine cg_seq ?_
  refine cg_region ?_
  refine zM rfl rfl rfl rfl rfl ?_
  by_cases c1 : (lvl x) = 0
  · have f2 : (lvl x) = 0 := fin2 (p := fun x w => (lvl x) = 0 → (lvl x) = 0) (by kernel_rfl) hn c1
    refine za rfl (yb (decide_eq_true f2) (yi_eql rfl rfl rfl)) rfl rfl ?_
    refine lg_nil ?_
    refine nx (zk3 1 4 5 rfl rfl rfl (zk1 9 rfl fn)) ?_
    refine cg_ct rfl ?_
    refine cg_seq ?_
    refine cg_region ?_
    refine zA rfl rfl rfl rfl rfl ?_
    refine lg_nil ?_
    refine nx (zk3 1 5 4 rfl rfl rfl fn) ?_
    refine cg_ret ?_
    refine eg_seq_ret ?_
    have f3 : (-1) = rightI x w := fin2 (p := fun x w => (lvl x) = 0 → (-1) = rightI x w) (by kernel_rfl) hn c1
    exact eg_ret_tmp rfl rfl ⟨congrArg (fun k => Ending.returned (nv k)) f3, rfl⟩
  · have f4 : ¬ ((lvl x) = 0) := fin2 (p := fun x w => ¬ ((lvl x) = 0) → ¬ ((lvl x) = 0)) (by kernel_rfl) hn c1
    refine za rfl (yb (decide_eq_false f4) (yi_eql rfl rfl rfl)) rfl rfl ?_
    refine lg_nil ?_
    refine nx (zk3 1 4 5 rfl rfl rfl (zk1 9 rfl fn)) ?_
    refine cg_cf rfl ?_
    refine cg_skip ?_
    refine nx (zk3 1 4 5 rfl rfl rfl fn) ?_
    refine cg_seq ?_
    refine cg_region ?_
    refine zM rfl rfl rfl rfl rfl ?_
    refine zM rfl rfl rfl rfl rfl ?_
    have f5 : -9223372036854775808 ≤ ((lvl x) - 1) ∧ ((lvl x) - 1) < 9223372036854775808 := fin2 (p := fun x w => ¬ ((lvl x) = 0) → -9223372036854775808 ≤ ((lvl x) - 1) ∧ ((lvl x) - 1) < 9223372036854775808) (by kernel_rfl) hn c1
    refine za rfl (yi_sub rfl rfl rfl f5.1 f5.2) rfl rfl ?_
    have f6 : 0 ≤ ((lvl x) - 1) ∧ ((lvl x) - 1) < 63 := fin2 (p := fun x w => ¬ ((lvl x) = 0) → 0 ≤ ((lvl x) - 1) ∧ ((lvl x) - 1) < 63) (by kernel_rfl) hn c1
    refine za rfl (yi_shl1 f6.1 f6.2 rfl rfl rfl) rfl rfl ?_
    have f7 : -9223372036854775808 ≤ (x + (pw ((lvl x) - 1))) ∧ (x + (pw ((lvl x) - 1))) < 9223372036854775808 := fin2 (p := fun x w => ¬ ((lvl x) = 0) → -9223372036854775808 ≤ (x + (pw ((lvl x) - 1))) ∧ (x + (pw ((lvl x) - 1))) < 9223372036854775808) (by kernel_rfl) hn c1
    refine za rfl (yi_add rfl rfl rfl f7.1 f7.2) rfl rfl ?_
    refine zA rfl rfl rfl rfl rfl ?_
    refine lg_nil ?_
    refine nx (zk1 4 rfl fn) ?_
    refine cg_ret ?_
    have f8 : (x + (pw ((lvl x) - 1))) = rightI x w := fin2 (p := fun x w => ¬ ((lvl x) = 0) → (x + (pw ((lvl x) - 1))) = rightI x w) (by kernel_rfl) hn c1
    exact eg_ret_tmp rfl rfl ⟨congrArg (fun k => Ending.returned (nv k)) f8, rfl⟩
theorem told_left (x w : Int) (W : World) (rg : Tb W) : Calls Tryz.prog 55 #[nv x, nv w, .func (.func 56) #[] #[]] W fun e w' => e = .returned (nv (leftI x w)) ∧ w' = W := by
  by_cases hn : isN x w
  · refine calls_cg (n := 15) Tryz.func55 rfl Tryz.ntmps55 (by simp) ?_
    show CG _ _ _ [(0, nv x), (1, nv w), (2, .func (.func 56) #[] #[])] _ _
    refine cg_seq ?_
    refine cg_region ?_
    refine zA rfl rfl rfl rfl rfl ?_
    refine lg_nil ?_
    refine nx (zk3 0 1 2 rfl rfl rfl (zk1 6 rfl fn)) ?_
    refine cg_seq ?_
    refine cg_seq ?_
    refine cg_region ?_
    refine zM rfl rfl rfl rfl rfl ?_
    refine zM rfl rfl rfl rfl rfl ?_
    have f1 : isN x w := fin2 (p := fun x w => isN x w) (by kernel_rfl) hn
    refine za rfl (yb (decide_eq_true f1) (y_call (is_any x w _ rg) (by kernel_rfl) rfl rfl)) rfl rfl ?_
    refine za rfl (y_bnot rfl rfl) rfl rfl ?_
    refine lg_nil ?_
    refine nx (zk5 0 1 2 6 10 rfl rfl rfl rfl rfl fn) ?_
    refine cg_cf rfl ?_
    refine cg_skip ?_
    refine nx (zk3 0 1 2 rfl rfl rfl (zk1 6 rfl fn)) ?_
    refine cg_seq ?_
    refine cg_region ?_
    refine zM rfl rfl rfl rfl rfl ?_
    refine zM rfl rfl rfl rfl rfl ?_
    refine zM rfl rfl rfl rfl rfl ?_
    have f2 : isN x w := fin2 (p := fun x w => isN x w) (by kernel_rfl) hn
    refine za rfl (y_callf (tleft_any w x _ rg f2) (by kernel_rfl) rfl rfl rfl) rfl rfl ?_
    refine zA rfl rfl rfl rfl rfl ?_
    refine lg_nil ?_
    refine nx (zk1 6 rfl fn) ?_
    refine cg_ret ?_
    exact eg_ret_tmp rfl rfl ⟨rfl, rfl⟩
  · refine calls_cg (n := 15) Tryz.func55 rfl Tryz.ntmps55 (by simp) ?_
    show CG _ _ _ [(0, nv x), (1, nv w), (2, .func (.func 56) #[] #[])] _ _
    refine cg_seq ?_
    refine cg_region ?_
    refine zA rfl rfl rfl rfl rfl ?_
    refine lg_nil ?_
    refine nx (zk3 0 1 2 rfl rfl rfl (zk1 6 rfl fn)) ?_
    refine cg_seq ?_
    refine cg_seq ?_
    refine cg_region ?_
    refine zM rfl rfl rfl rfl rfl ?_
    refine zM rfl rfl rfl rfl rfl ?_
    refine za rfl (yb (decide_eq_false hn) (y_call (is_any x w _ rg) (by kernel_rfl) rfl rfl)) rfl rfl ?_
    refine za rfl (y_bnot rfl rfl) rfl rfl ?_
    refine lg_nil ?_
    refine nx (zk5 0 1 2 6 10 rfl rfl rfl rfl rfl fn) ?_
    refine cg_ct rfl ?_
    refine cg_seq ?_
    refine cg_region ?_
    refine zA rfl rfl rfl rfl rfl ?_
    refine lg_nil ?_
    refine nx (zk3 0 1 2 rfl rfl rfl (zk1 6 rfl fn)) ?_
    refine cg_ret ?_
    refine eg_seq_ret ?_
    exact eg_ret_tmp rfl rfl ⟨congrArg (fun k => Ending.returned (nv k)) (left_no hn).symm, rfl⟩
theorem left_any (x w : Int) (W : World) (rg : Tb W) : Calls Tryz.prog 28 #[nv x, nv w] W fun e w' => e = .returned (nv (leftI x w)) ∧ w' = W := by
  refine calls_cg (n := 8) Tryz.func28 rfl Tryz.ntmps28 (by simp) ?_
  show CG _ _ _ [(0, nv x), (1, nv w)] _ _
  refine cg_seq ?_
  refine cg_region ?_
  refine zA rfl rfl rfl rfl rfl ?_
  refine lg_nil ?_
  refine nx (zk3 0 1 4 rfl rfl rfl fn) ?_
  refine cg_seq ?_
  refine cg_region ?_
  refine zM rfl rfl rfl rfl rfl ?_
  refine zM rfl rfl rfl rfl rfl ?_
  refine za rfl (y_call (told_left x w _ rg) (by kernel_rfl) rfl rfl) rfl rfl ?_
  refine zA rfl rfl rfl rfl rfl ?_
  refine lg_nil ?_
  refine nx (zk1 4 rfl fn) ?_
  refine cg_ret ?_
  exact eg_ret_tmp rfl rfl ⟨rfl, rfl⟩
theorem told_right (x w : Int) (W : World) (rg : Tb W) : Calls Tryz.prog 55 #[nv x, nv w, .func (.func 57) #[] #[]] W fun e w' => e = .returned (nv (rightI x w)) ∧ w' = W := by
  by_cases hn : isN x w
  · refine calls_cg (n := 15) Tryz.func55 rfl Tryz.ntmps55 (by simp) ?_
    show CG _ _ _ [(0, nv x), (1, nv w), (2, .func (.func 57) #[] #[])] _ _
    refine cg_seq ?_
    refine cg_region ?_
    refine zA rfl rfl rfl rfl rfl ?_
    refine lg_nil ?_
    refine nx (zk3 0 1 2 rfl rfl rfl (zk1 6 rfl fn)) ?_
    refine cg_seq ?_
    refine cg_seq ?_
    refine cg_region ?_
    refine zM rfl rfl rfl rfl rfl ?_
    refine zM rfl rfl rfl rfl rfl ?_
    have f1 : isN x w := fin2 (p := fun x w => isN x w) (by kernel_rfl) hn
    refine za rfl (yb (decide_eq_true f1) (y_call (is_any x w _ rg) (by kernel_rfl) rfl rfl)) rfl rfl ?_
    refine za rfl (y_bnot rfl rfl) rfl rfl ?_
    refine lg_nil ?_
    refine nx (zk5 0 1 2 6 10 rfl rfl rfl rfl rfl fn) ?_
    refine cg_cf rfl ?_
    refine cg_skip ?_
    refine nx (zk3 0 1 2 rfl rfl rfl (zk1 6 rfl fn)) ?_
    refine cg_seq ?_
    refine cg_region ?_
    refine zM rfl rfl rfl rfl rfl ?_
    refine zM rfl rfl rfl rfl rfl ?_
    refine zM rfl rfl rfl rfl rfl ?_
    have f2 : isN x w := fin2 (p := fun x w => isN x w) (by kernel_rfl) hn
    refine za rfl (y_callf (tright_any w x _ rg f2) (by kernel_rfl) rfl rfl rfl) rfl rfl ?_
    refine zA rfl rfl rfl rfl rfl ?_
    refine lg_nil ?_
    refine nx (zk1 6 rfl fn) ?_
    refine cg_ret ?_
    exact eg_ret_tmp rfl rfl ⟨rfl, rfl⟩
  · refine calls_cg (n := 15) Tryz.func55 rfl Tryz.ntmps55 (by simp) ?_
    show CG _ _ _ [(0, nv x), (1, nv w), (2, .func (.func 57) #[] #[])] _ _
    refine cg_seq ?_
    refine cg_region ?_
    refine zA rfl rfl rfl rfl rfl ?_
    refine lg_nil ?_
    refine nx (zk3 0 1 2 rfl rfl rfl (zk1 6 rfl fn)) ?_
    refine cg_seq ?_
    refine cg_seq ?_
    refine cg_region ?_
    refine zM rfl rfl rfl rfl rfl ?_
    refine zM rfl rfl rfl rfl rfl ?_
    refine za rfl (yb (decide_eq_false hn) (y_call (is_any x w _ rg) (by kernel_rfl) rfl rfl)) rfl rfl ?_
    refine za rfl (y_bnot rfl rfl) rfl rfl ?_
    refine lg_nil ?_
    refine nx (zk5 0 1 2 6 10 rfl rfl rfl rfl rfl fn) ?_
    refine cg_ct rfl ?_
    refine cg_seq ?_
    refine cg_region ?_
    refine zA rfl rfl rfl rfl rfl ?_
    refine lg_nil ?_
    refine nx (zk3 0 1 2 rfl rfl rfl (zk1 6 rfl fn)) ?_
    refine cg_ret ?_
    refine eg_seq_ret ?_
    exact eg_ret_tmp rfl rfl ⟨congrArg (fun k => Ending.returned (nv k)) (right_no hn).symm, rfl⟩
theorem right_any (x w : Int) (W : World) (rg : Tb W) : Calls Tryz.prog 29 #[nv x, nv w] W fun e w' => e = .returned (nv (rightI x w)) ∧ w' = W := by
  refine calls_cg (n := 8) Tryz.func29 rfl Tryz.ntmps29 (by simp) ?_
  show CG _ _ _ [(0, nv x), (1, nv w)] _ _
  refine cg_seq ?_
  refine cg_region ?_
  refine zA rfl rfl rfl rfl rfl ?_
  refine lg_nil ?_
  refine nx (zk3 0 1 4 rfl rfl rfl fn) ?_
  refine cg_seq ?_
  refine cg_region ?_
  refine zM rfl rfl rfl rfl rfl ?_
  refine zM rfl rfl rfl rfl rfl ?_
  refine za rfl (y_call (told_right x w _ rg) (by kernel_rfl) rfl rfl) rfl rfl ?_
  refine zA rfl rfl rfl rfl rfl ?_
  refine lg_nil ?_
  refine nx (zk1 4 rfl fn) ?_
  refine cg_ret ?_
  exact eg_ret_tmp rfl rfl ⟨rfl, rfl⟩
/- IxRef:
  Where nodes stand in a row: what the document answers.
-/
set_option maxRecDepth 20000
/-- Behind t rounds: n is the width at hand, and w is none of those before. -/
def WS (w : Int) (t : Nat) (n : Int) : Prop := ((t = 0 ∧ n = 1) ∨ (t = 1 ∧ n = 3 ∧ w ≠ 1) ∨ (t = 2 ∧ n = 7 ∧ w ≠ 1 ∧ w ≠ 3) ∨ (t = 3 ∧ n = 15 ∧ w ≠ 1 ∧ w ≠ 3 ∧ w ≠ 7) ∨ (t = 4 ∧ n = 31 ∧ w ≠ 1 ∧ w ≠ 3 ∧ w ≠ 7 ∧ w ≠ 15) ∨ (t = 5 ∧ n = 63 ∧ w ≠ 1 ∧ w ≠ 3 ∧ w ≠ 7 ∧ w ≠ 15 ∧ w ≠ 31) ∨ (t = 6 ∧ n = 127 ∧ w ≠ 1 ∧ w ≠ 3 ∧ w ≠ 7 ∧ w ≠ 15 ∧ w ≠ 31 ∧ w ≠ 63) ∨ (t = 7 ∧ n = 255 ∧ w ≠ 1 ∧ w ≠ 3 ∧ w ≠ 7 ∧ w ≠ 15 ∧ w ≠ 31 ∧ w ≠ 63 ∧ w ≠ 127))
theorem WS.next {w n : Int} {t : Nat} (h : WS w t n) (h1 : n ≤ 127) (h2 : ¬ n = w) : t < 7 ∧ WS w (t + 1) (2 * n + 1) := by
  unfold WS at *
  rcases h with h | h | h | h | h | h | h | h
  · exact ⟨by omega, .inr (.inl (by omega))⟩
  · exact ⟨by omega, .inr (.inr (.inl (by omega)))⟩
  · exact ⟨by omega, .inr (.inr (.inr (.inl (by omega))))⟩
  · exact ⟨by omega, .inr (.inr (.inr (.inr (.inl (by omega)))))⟩
  · exact ⟨by omega, .inr (.inr (.inr (.inr (.inr (.inl (by omega))))))⟩
  · exact ⟨by omega, .inr (.inr (.inr (.inr (.inr (.inr (.inl (by omega)))))))⟩
  · exact ⟨by omega, .inr (.inr (.inr (.inr (.inr (.inr (.inr ((by omega))))))))⟩
  · exact absurd h1 (by omega)
theorem WS.yes {w n : Int} {t : Nat} (h : WS w t n) (h1 : n ≤ 127) (h2 : n = w) : isW w := by
  unfold WS at h
  unfold isW
  rcases h with h | h | h | h | h | h | h | h <;> omega
theorem WS.none {w n : Int} {t : Nat} (h : WS w t n) (h1 : ¬ n ≤ 127) : ¬ isW w := by
  unfold WS at h
  unfold isW
  rcases h with h | h | h | h | h | h | h | h <;> omega
theorem rwhole_any (w : Int) (W : World) (rg : Tb W) : Calls Tryz.prog 100 #[nv w] W fun e w' => e = .returned (.bool (decide (isW w))) ∧ w' = W := by
  refine calls_cg (n := 12) Tryz.func100 rfl Tryz.ntmps100 (by simp) ?_
  show CG _ _ _ [(0, nv w)] _ _
  refine cg_seq ?_
  refine cg_region ?_
  refine zA rfl rfl rfl rfl rfl ?_
  refine lg_nil ?_
  refine nx (zk2 0 2 rfl rfl fn) ?_
  refine cg_seq ?_
  refine cg_seq ?_
  refine cg_region ?_
  refine zA rfl rfl rfl rfl rfl ?_
  refine lg_nil ?_
  refine nx (zk3 0 2 3 rfl rfl rfl fn) ?_
  refine cg_block ?_
  refine cg_loopE (fun t a v => ∃ (n : Int), Holds 12 [(0, nv w), (3, nv n)] a ∧ v = W ∧ Tb v ∧ WS w t n) 7 (fun a ha => ⟨1, ha.keep (fk rfl (fk rfl fn)), rfl, rg, (.inl ⟨rfl, rfl⟩)⟩) ?_
  rintro t a v ht ⟨n, ha, hv, rg, hd⟩
  refine cg_at ha ?_
  clear ha a
  have hb : 1 ≤ n ∧ n ≤ 255 := by unfold WS at hd; rcases hd with h | h | h | h | h | h | h | h <;> omega
  refine cg_seq ?_
  refine cg_seq ?_
  refine cg_region ?_
  refine zM rfl rfl rfl rfl rfl ?_
  by_cases c1 : n ≤ 127
  · refine za rfl (yb (decide_eq_true c1) (yi_leq rfl rfl rfl)) rfl rfl ?_
    refine lg_nil ?_
    refine nx (zk3 0 3 4 rfl rfl rfl (zk1 5 rfl fn)) ?_
    refine cg_ct rfl ?_
    refine cg_skip ?_
    refine nx (zk3 0 3 4 rfl rfl rfl (zk1 5 rfl fn)) ?_
    refine cg_seq ?_
    refine cg_block ?_
    refine cg_seq ?_
    refine cg_region ?_
    refine zM rfl rfl rfl rfl rfl ?_
    refine zM rfl rfl rfl rfl rfl ?_
    by_cases c2 : n = w
    · refine za rfl (yb (decide_eq_true c2) (yi_eql rfl rfl rfl)) rfl rfl ?_
      refine lg_nil ?_
      refine nx (zk5 0 3 4 5 9 rfl rfl rfl rfl rfl (zk2 10 11 rfl rfl fn)) ?_
      refine cg_ct rfl ?_
      refine cg_seq ?_
      refine cg_region ?_
      refine zA rfl rfl rfl rfl rfl ?_
      refine lg_nil ?_
      refine nx (zk5 0 3 4 5 9 rfl rfl rfl rfl rfl (zk3 10 11 2 rfl rfl rfl fn)) ?_
      refine cg_ret ?_
      refine eg_block_ret ?_
      refine eg_seq_ret ?_
      refine eg_seq_ret ?_
      refine eg_block_ret ?_
      refine eg_seq_ret ?_
      exact eg_ret_tmp rfl rfl ⟨congrArg (fun b => Ending.returned (Value.bool b)) (decide_eq_true (hd.yes c1 c2)).symm, hv⟩
    · refine za rfl (yb (decide_eq_false c2) (yi_eql rfl rfl rfl)) rfl rfl ?_
      refine lg_nil ?_
      refine nx (zk5 0 3 4 5 9 rfl rfl rfl rfl rfl (zk2 10 11 rfl rfl fn)) ?_
      refine cg_cf rfl ?_
      refine cg_skip ?_
      refine eg_block_norm ?_
      refine nx (zk5 0 3 4 5 9 rfl rfl rfl rfl rfl (zk2 10 11 rfl rfl fn)) ?_
      refine cg_region ?_
      refine zM rfl rfl rfl rfl rfl ?_
      refine za rfl (yi_mul rfl rfl rfl (by omega) (by omega)) rfl rfl ?_
      refine za rfl (yi_add rfl rfl rfl (by omega) (by omega)) rfl rfl ?_
      refine zA rfl rfl rfl rfl rfl ?_
      refine lg_nil ?_
      have hq := hd.next c1 c2
      exact fun a ha => (show t < 7 ∧ _ from ⟨hq.1, (2 * n + 1), ha.keep (fk rfl (fk rfl fn)), hv, rg, hq.2⟩)
  · refine za rfl (yb (decide_eq_false c1) (yi_leq rfl rfl rfl)) rfl rfl ?_
    refine lg_nil ?_
    refine nx (zk3 0 3 4 rfl rfl rfl (zk1 5 rfl fn)) ?_
    refine cg_cf rfl ?_
    refine cg_exit ?_
    refine eg_seq_exit ?_
    refine eg_seq_exit ?_
    refine eg_block_exit ?_
    refine nx (E' := []) fn ?_
    refine cg_seq ?_
    refine cg_region ?_
    refine zA rfl rfl rfl rfl rfl ?_
    refine lg_nil ?_
    refine nx (zk1 2 rfl fn) ?_
    refine cg_ret ?_
    exact eg_ret_tmp rfl rfl ⟨congrArg (fun b => Ending.returned (Value.bool b)) (decide_eq_false (hd.none c1)).symm, hv⟩
theorem ris_any (x w : Int) (W : World) (rg : Tb W) : Calls Tryz.prog 110 #[nv x, nv w] W fun e w' => e = .returned (.bool (decide (isN x w))) ∧ w' = W := by
  refine calls_cg (n := 16) Tryz.func110 rfl Tryz.ntmps110 (by simp) ?_
  show CG _ _ _ [(0, nv x), (1, nv w)] _ _
  refine cg_seq ?_
  refine cg_region ?_
  refine zA rfl rfl rfl rfl rfl ?_
  refine lg_nil ?_
  refine nx (zk3 0 1 4 rfl rfl rfl fn) ?_
  refine cg_seq ?_
  refine cg_region ?_
  refine zM rfl rfl rfl rfl rfl ?_
  by_cases c1 : isW w
  · refine za rfl (yb (decide_eq_true c1) (y_call (rwhole_any w _ rg) (by kernel_rfl) rfl rfl)) rfl rfl ?_
    refine zM rfl rfl rfl rfl rfl ?_
    refine zt 7 rfl (by kernel_rfl) rfl (y_move rfl rfl) rfl rfl ?_
    by_cases c2 : 0 ≤ x
    · refine zt 7 rfl (by kernel_rfl) rfl (yb (decide_eq_true c2) (yi_geq rfl rfl rfl)) rfl rfl ?_
      refine za rfl (y_pick true rfl rfl rfl) rfl rfl ?_
      refine zM rfl rfl rfl rfl rfl ?_
      refine zt 11 rfl (by kernel_rfl) rfl (y_move rfl rfl) rfl rfl ?_
      refine zt 11 rfl (by kernel_rfl) rfl (y_move rfl rfl) rfl rfl ?_
      by_cases c3 : x < w
      · refine zt 11 rfl (by kernel_rfl) rfl (yb (decide_eq_true c3) (yi_lss rfl rfl rfl)) rfl rfl ?_
        refine za rfl (y_pick true rfl rfl rfl) rfl rfl ?_
        refine zA rfl rfl rfl rfl rfl ?_
        refine lg_nil ?_
        refine nx (zk1 4 rfl fn) ?_
        refine cg_ret ?_
        exact eg_ret_tmp rfl rfl ⟨congrArg (fun b => Ending.returned (Value.bool b)) (by simp [isN, *]), rfl⟩
      · refine zt 11 rfl (by kernel_rfl) rfl (yb (decide_eq_false c3) (yi_lss rfl rfl rfl)) rfl rfl ?_
        refine za rfl (y_pick true rfl rfl rfl) rfl rfl ?_
        refine zA rfl rfl rfl rfl rfl ?_
        refine lg_nil ?_
        refine nx (zk1 4 rfl fn) ?_
        refine cg_ret ?_
        exact eg_ret_tmp rfl rfl ⟨congrArg (fun b => Ending.returned (Value.bool b)) (by simp [isN, *]), rfl⟩
    · refine zt 7 rfl (by kernel_rfl) rfl (yb (decide_eq_false c2) (yi_geq rfl rfl rfl)) rfl rfl ?_
      refine za rfl (y_pick true rfl rfl rfl) rfl rfl ?_
      refine zM rfl rfl rfl rfl rfl ?_
      refine zf 11 rfl (by kernel_rfl) rfl rfl rfl ?_
      refine zf 11 rfl (by kernel_rfl) rfl rfl rfl ?_
      refine zf 11 rfl (by kernel_rfl) rfl rfl rfl ?_
      refine za rfl (y_pick false rfl rfl rfl) rfl rfl ?_
      refine zA rfl rfl rfl rfl rfl ?_
      refine lg_nil ?_
      refine nx (zk1 4 rfl fn) ?_
      refine cg_ret ?_
      exact eg_ret_tmp rfl rfl ⟨congrArg (fun b => Ending.returned (Value.bool b)) (by simp [isN, *]), rfl⟩
  · refine za rfl (yb (decide_eq_false c1) (y_call (rwhole_any w _ rg) (by kernel_rfl) rfl rfl)) rfl rfl ?_
    refine zM rfl rfl rfl rfl rfl ?_
    refine zf 7 rfl (by kernel_rfl) rfl rfl rfl ?_
    refine zf 7 rfl (by kernel_rfl) rfl rfl rfl ?_
    refine za rfl (y_pick false rfl rfl rfl) rfl rfl ?_
    refine zM rfl rfl rfl rfl rfl ?_
    refine zf 11 rfl (by kernel_rfl) rfl rfl rfl ?_
    refine zf 11 rfl (by kernel_rfl) rfl rfl rfl ?_
    refine zf 11 rfl (by kernel_rfl) rfl rfl rfl ?_
    refine za rfl (y_pick false rfl rfl rfl) rfl rfl ?_
    refine zA rfl rfl rfl rfl rfl ?_
    refine lg_nil ?_
    refine nx (zk1 4 rfl fn) ?_
    refine cg_ret ?_
    exact eg_ret_tmp rfl rfl ⟨congrArg (fun b => Ending.returned (Value.bool b)) (by simp [isN, *]), rfl⟩
theorem rlevel_any (x : Int) (W : World) (rg : Tb W) : Calls Tryz.prog 111 #[nv x] W fun e w' => e = .returned (nv (lvl x)) ∧ w' = W := by
  by_cases h0 : x < 0
  · refine calls_cg (n := 18) Tryz.func111 rfl Tryz.ntmps111 (by simp) ?_
    show CG _ _ _ [(0, nv x)] _ _
    refine cg_seq ?_
    refine cg_region ?_
    refine zA rfl rfl rfl rfl rfl ?_
    refine lg_nil ?_
    refine nx (zk2 0 2 rfl rfl fn) ?_
    refine cg_seq ?_
    refine cg_seq ?_
    refine cg_region ?_
    refine zM rfl rfl rfl rfl rfl ?_
    refine za rfl (yb (decide_eq_true h0) (yi_lss rfl rfl rfl)) rfl rfl ?_
    refine zM rfl rfl rfl rfl rfl ?_
    refine zf 6 rfl (by kernel_rfl) rfl rfl rfl ?_
    refine zf 6 rfl (by kernel_rfl) rfl rfl rfl ?_
    refine za rfl (y_pick true rfl rfl rfl) rfl rfl ?_
    refine lg_nil ?_
    refine nx (zk3 0 2 9 rfl rfl rfl fn) ?_
    refine cg_ct rfl ?_
    refine cg_seq ?_
    refine cg_region ?_
    refine zA rfl rfl rfl rfl rfl ?_
    refine lg_nil ?_
    refine nx (zk2 0 2 rfl rfl fn) ?_
    refine cg_ret ?_
    refine eg_seq_ret ?_
    exact eg_ret_tmp rfl rfl ⟨congrArg (fun k => Ending.returned (nv k)) (lvl_no (by unfold isL; omega)).symm, rfl⟩
  by_cases h1 : 126 < x
  · refine calls_cg (n := 18) Tryz.func111 rfl Tryz.ntmps111 (by simp) ?_
    show CG _ _ _ [(0, nv x)] _ _
    refine cg_seq ?_
    refine cg_region ?_
    refine zA rfl rfl rfl rfl rfl ?_
    refine lg_nil ?_
    refine nx (zk2 0 2 rfl rfl fn) ?_
    refine cg_seq ?_
    refine cg_seq ?_
    refine cg_region ?_
    refine zM rfl rfl rfl rfl rfl ?_
    refine za rfl (yb (decide_eq_false h0) (yi_lss rfl rfl rfl)) rfl rfl ?_
    refine zM rfl rfl rfl rfl rfl ?_
    refine zt 6 rfl (by kernel_rfl) rfl (y_move rfl rfl) rfl rfl ?_
    refine zt 6 rfl (by kernel_rfl) rfl (yb (decide_eq_true h1) (yi_gtr rfl rfl rfl)) rfl rfl ?_
    refine za rfl (y_pick false rfl rfl rfl) rfl rfl ?_
    refine lg_nil ?_
    refine nx (zk3 0 2 9 rfl rfl rfl fn) ?_
    refine cg_ct rfl ?_
    refine cg_seq ?_
    refine cg_region ?_
    refine zA rfl rfl rfl rfl rfl ?_
    refine lg_nil ?_
    refine nx (zk2 0 2 rfl rfl fn) ?_
    refine cg_ret ?_
    refine eg_seq_ret ?_
    exact eg_ret_tmp rfl rfl ⟨congrArg (fun k => Ending.returned (nv k)) (lvl_no (by unfold isL; omega)).symm, rfl⟩
  have hx : isL x := ⟨by omega, by omega⟩
  have h6 := fin1 (p := fun x => lvl x ≤ 6) (by kernel_rfl) hx
  refine calls_cg (n := 18) Tryz.func111 rfl Tryz.ntmps111 (by simp) ?_
  show CG _ _ _ [(0, nv x)] _ _
  refine cg_seq ?_
  refine cg_region ?_
  refine zA rfl rfl rfl rfl rfl ?_
  refine lg_nil ?_
  refine nx (zk2 0 2 rfl rfl fn) ?_
  refine cg_seq ?_
  refine cg_seq ?_
  refine cg_region ?_
  refine zM rfl rfl rfl rfl rfl ?_
  refine za rfl (yb (decide_eq_false h0) (yi_lss rfl rfl rfl)) rfl rfl ?_
  refine zM rfl rfl rfl rfl rfl ?_
  refine zt 6 rfl (by kernel_rfl) rfl (y_move rfl rfl) rfl rfl ?_
  refine zt 6 rfl (by kernel_rfl) rfl (yb (decide_eq_false h1) (yi_gtr rfl rfl rfl)) rfl rfl ?_
  refine za rfl (y_pick false rfl rfl rfl) rfl rfl ?_
  refine lg_nil ?_
  refine nx (zk3 0 2 9 rfl rfl rfl fn) ?_
  refine cg_cf rfl ?_
  refine cg_skip ?_
  refine nx (zk2 0 2 rfl rfl fn) ?_
  refine cg_seq ?_
  refine cg_region ?_
  refine zA rfl rfl rfl rfl rfl ?_
  refine lg_nil ?_
  refine nx (zk3 0 2 3 rfl rfl rfl fn) ?_
  refine cg_seq ?_
  refine cg_block ?_
  refine cg_loopE (fun t a v => ∃ (y : Int) (k : Int), Holds 18 [(0, nv y), (3, nv k)] a ∧ v = W ∧ Tb v ∧ isL y ∧ k = (t : Int) ∧ k + lvl y = lvl x) 7 (fun a ha => ⟨x, 0, ha.keep (fk rfl (fk rfl fn)), rfl, rg, hx, rfl, (Int.zero_add _)⟩) ?_
  rintro t a v ht ⟨y, k, ha, hv, rg, hy, hk, hl⟩
  refine cg_at ha ?_
  clear ha a
  refine cg_seq ?_
  refine cg_seq ?_
  refine cg_region ?_
  refine zM rfl rfl rfl rfl rfl ?_
  have f1 : 0 ≤ y := fin1 (p := fun y => 0 ≤ y) (by kernel_rfl) hy
  refine za rfl (yi_rem rfl rfl rfl f1 (by decide)) rfl rfl ?_
  by_cases c2 : (y % 2) = 1
  · have f3 : (y % 2) = 1 := fin1 (p := fun y => (y % 2) = 1 → (y % 2) = 1) (by kernel_rfl) hy c2
    refine za rfl (yb (decide_eq_true f3) (yi_eql rfl rfl rfl)) rfl rfl ?_
    refine lg_nil ?_
    refine nx (zk5 0 3 10 11 12 rfl rfl rfl rfl rfl fn) ?_
    refine cg_ct rfl ?_
    refine cg_skip ?_
    refine nx (zk5 0 3 10 11 12 rfl rfl rfl rfl rfl fn) ?_
    refine cg_block ?_
    refine cg_seq ?_
    refine cg_region ?_
    refine zM rfl rfl rfl rfl rfl ?_
    refine za rfl (yi_add rfl rfl rfl (by omega) (by omega)) rfl rfl ?_
    refine zA rfl rfl rfl rfl rfl ?_
    refine lg_nil ?_
    refine nx (zk5 0 10 11 12 13 rfl rfl rfl rfl rfl (zk2 14 3 rfl rfl fn)) ?_
    refine cg_region ?_
    refine zM rfl rfl rfl rfl rfl ?_
    have f4 : 0 ≤ y := fin1 (p := fun y => (y % 2) = 1 → 0 ≤ y) (by kernel_rfl) hy c2
    have f5 : y < 9223372036854775808 := fin1 (p := fun y => (y % 2) = 1 → y < 9223372036854775808) (by kernel_rfl) hy c2
    refine za rfl (yi_quo rfl rfl rfl f4 (by decide) f5) rfl rfl ?_
    refine zA rfl rfl rfl rfl rfl ?_
    refine lg_nil ?_
    refine eg_block_norm ?_
    have f6 : 1 ≤ lvl y ∧ isL (y / 2) ∧ lvl y = lvl (y / 2) + 1 := fin1 (p := fun y => (y % 2) = 1 → 1 ≤ lvl y ∧ isL (y / 2) ∧ lvl y = lvl (y / 2) + 1) (by kernel_rfl) hy c2
    exact fun a ha => (show t < 7 ∧ _ from ⟨(by omega), (y / 2), (k + 1), ha.keep (fk rfl (fk rfl fn)), hv, rg, f6.2.1, (by omega), (by omega)⟩)
  · have f7 : ¬ ((y % 2) = 1) := fin1 (p := fun y => ¬ ((y % 2) = 1) → ¬ ((y % 2) = 1)) (by kernel_rfl) hy c2
    refine za rfl (yb (decide_eq_false f7) (yi_eql rfl rfl rfl)) rfl rfl ?_
    refine lg_nil ?_
    refine nx (zk5 0 3 10 11 12 rfl rfl rfl rfl rfl fn) ?_
    refine cg_cf rfl ?_
    refine cg_exit ?_
    refine eg_seq_exit ?_
    refine eg_seq_exit ?_
    refine eg_block_exit ?_
    refine nx (zk1 3 rfl fn) ?_
    refine cg_seq ?_
    refine cg_region ?_
    refine zM rfl rfl rfl rfl rfl ?_
    refine zA rfl rfl rfl rfl rfl ?_
    refine lg_nil ?_
    refine nx (zk1 2 rfl fn) ?_
    refine cg_ret ?_
    have f8 : lvl y = 0 := fin1 (p := fun y => ¬ ((y % 2) = 1) → lvl y = 0) (by kernel_rfl) hy c2
    exact eg_ret_tmp rfl rfl ⟨congrArg (fun k => Ending.returned (nv k)) (show k = lvl x by omega), hv⟩
theorem rpower_any (k : Int) (W : World) (rg : Tb W) (hk : 0 ≤ k ∧ k ≤ 20) : Calls Tryz.prog 112 #[nv k] W fun e w' => e = .returned (nv (pw k)) ∧ w' = W := by
  refine calls_cg (n := 13) Tryz.func112 rfl Tryz.ntmps112 (by simp) ?_
  show CG _ _ _ [(0, nv k)] _ _
  refine cg_seq ?_
  refine cg_region ?_
  refine zA rfl rfl rfl rfl rfl ?_
  refine lg_nil ?_
  refine nx (zk2 0 2 rfl rfl fn) ?_
  refine cg_seq ?_
  refine cg_region ?_
  refine zA rfl rfl rfl rfl rfl ?_
  refine lg_nil ?_
  refine nx (zk3 0 2 3 rfl rfl rfl fn) ?_
  refine cg_seq ?_
  refine cg_seq ?_
  refine cg_region ?_
  refine zA rfl rfl rfl rfl rfl ?_
  refine lg_nil ?_
  refine nx (zk3 0 2 3 rfl rfl rfl (zk1 4 rfl fn)) ?_
  refine cg_block ?_
  refine cg_loopE (fun t a v => ∃ (n : Int) (i : Int), Holds 13 [(0, nv k), (3, nv n), (4, nv i)] a ∧ v = W ∧ Tb v ∧ i = (t : Int) ∧ n = pw (t : Int) ∧ i ≤ k) k.toNat (fun a ha => ⟨1, 0, ha.keep (fk rfl (fk rfl (fk rfl fn))), rfl, rg, rfl, rfl, hk.1⟩) ?_
  rintro t a v ht ⟨n, i, ha, hv, rg, hi, hp, hik⟩
  refine cg_at ha ?_
  clear ha a
  have hb := pw_bound (k := t) (by omega)
  refine cg_seq ?_
  refine cg_seq ?_
  refine cg_region ?_
  refine zM rfl rfl rfl rfl rfl ?_
  refine zM rfl rfl rfl rfl rfl ?_
  by_cases c1 : i < k
  · refine za rfl (yb (decide_eq_true c1) (yi_lss rfl rfl rfl)) rfl rfl ?_
    refine lg_nil ?_
    refine nx (zk5 0 3 4 5 6 rfl rfl rfl rfl rfl (zk1 7 rfl fn)) ?_
    refine cg_ct rfl ?_
    refine cg_skip ?_
    refine nx (zk5 0 3 4 5 6 rfl rfl rfl rfl rfl (zk1 7 rfl fn)) ?_
    refine cg_seq ?_
    refine cg_block ?_
    refine cg_region ?_
    refine zM rfl rfl rfl rfl rfl ?_
    refine za rfl (yi_mul rfl rfl rfl (by omega) (by omega)) rfl rfl ?_
    refine zA rfl rfl rfl rfl rfl ?_
    refine lg_nil ?_
    refine eg_block_norm ?_
    refine nx (zk5 0 4 5 6 7 rfl rfl rfl rfl rfl (zk3 10 11 3 rfl rfl rfl fn)) ?_
    refine cg_region ?_
    refine zM rfl rfl rfl rfl rfl ?_
    refine za rfl (yi_add rfl rfl rfl (by omega) (by omega)) rfl rfl ?_
    refine zA rfl rfl rfl rfl rfl ?_
    refine lg_nil ?_
    exact fun a ha => (show t < k.toNat ∧ _ from ⟨(by omega), (2 * n), (i + 1), ha.keep (fk rfl (fk rfl (fk rfl fn))), hv, rg, (by omega), (by rw [hp]; exact pw_succ.symm), (by omega)⟩)
  · refine za rfl (yb (decide_eq_false c1) (yi_lss rfl rfl rfl)) rfl rfl ?_
    refine lg_nil ?_
    refine nx (zk5 0 3 4 5 6 rfl rfl rfl rfl rfl (zk1 7 rfl fn)) ?_
    refine cg_cf rfl ?_
    refine cg_exit ?_
    refine eg_seq_exit ?_
    refine eg_seq_exit ?_
    refine eg_block_exit ?_
    refine nx (zk1 3 rfl fn) ?_
    refine cg_seq ?_
    refine cg_region ?_
    refine zM rfl rfl rfl rfl rfl ?_
    refine zA rfl rfl rfl rfl rfl ?_
    refine lg_nil ?_
    refine nx (zk1 2 rfl fn) ?_
    refine cg_ret ?_
    exact eg_ret_tmp rfl rfl ⟨congrArg (fun k => Ending.returned (nv k)) (show n = pw k by rw [hp, show k = (t : Int) by omega]), hv⟩
theorem rleft_any (x w : Int) (W : World) (rg : Tb W) : Calls Tryz.prog 69 #[nv x, nv w] W fun e w' => e = .returned (nv (leftI x w)) ∧ w' = W := by
  by_cases hn : isN x w
  · refine calls_cg (n := 20) Tryz.func69 rfl Tryz.ntmps69 (by simp) ?_
    show CG _ _ _ [(0, nv x), (1, nv w)] _ _
    refine cg_seq ?_
    refine cg_region ?_
    refine zA rfl rfl rfl rfl rfl ?_
    refine lg_nil ?_
    refine nx (zk3 0 1 4 rfl rfl rfl fn) ?_
    refine cg_seq ?_
    refine cg_seq ?_
    refine cg_region ?_
    refine zM rfl rfl rfl rfl rfl ?_
    refine zM rfl rfl rfl rfl rfl ?_
    have f1 : isN x w := fin2 (p := fun x w => isN x w) (by kernel_rfl) hn
    refine za rfl (yb (decide_eq_true f1) (y_call (ris_any x w _ rg) (by kernel_rfl) rfl rfl)) rfl rfl ?_
    refine za rfl (y_bnot rfl rfl) rfl rfl ?_
    refine zM rfl rfl rfl rfl rfl ?_
    refine zt 9 rfl (by kernel_rfl) rfl (y_move rfl rfl) rfl rfl ?_
    refine zt 9 rfl (by kernel_rfl) rfl (y_call (rlevel_any x _ rg) (by kernel_rfl) rfl rfl) rfl rfl ?_
    by_cases c2 : (lvl x) = 0
    · have f3 : (lvl x) = 0 := fin2 (p := fun x w => (lvl x) = 0 → (lvl x) = 0) (by kernel_rfl) hn c2
      refine zt 9 rfl (by kernel_rfl) rfl (yb (decide_eq_true f3) (yi_eql rfl rfl rfl)) rfl rfl ?_
      refine za rfl (y_pick false rfl rfl rfl) rfl rfl ?_
      refine lg_nil ?_
      refine nx (zk3 0 4 13 rfl rfl rfl fn) ?_
      refine cg_ct rfl ?_
      refine cg_seq ?_
      refine cg_region ?_
      refine zA rfl rfl rfl rfl rfl ?_
      refine lg_nil ?_
      refine nx (zk2 0 4 rfl rfl fn) ?_
      refine cg_ret ?_
      refine eg_seq_ret ?_
      have f4 : (-1) = leftI x w := fin2 (p := fun x w => (lvl x) = 0 → (-1) = leftI x w) (by kernel_rfl) hn c2
      exact eg_ret_tmp rfl rfl ⟨congrArg (fun k => Ending.returned (nv k)) f4, rfl⟩
    · have f5 : ¬ ((lvl x) = 0) := fin2 (p := fun x w => ¬ ((lvl x) = 0) → ¬ ((lvl x) = 0)) (by kernel_rfl) hn c2
      refine zt 9 rfl (by kernel_rfl) rfl (yb (decide_eq_false f5) (yi_eql rfl rfl rfl)) rfl rfl ?_
      refine za rfl (y_pick false rfl rfl rfl) rfl rfl ?_
      refine lg_nil ?_
      refine nx (zk3 0 4 13 rfl rfl rfl fn) ?_
      refine cg_cf rfl ?_
      refine cg_skip ?_
      refine nx (zk2 0 4 rfl rfl fn) ?_
      refine cg_seq ?_
      refine cg_region ?_
      refine zM rfl rfl rfl rfl rfl ?_
      refine zM rfl rfl rfl rfl rfl ?_
      refine za rfl (y_call (rlevel_any x _ rg) (by kernel_rfl) rfl rfl) rfl rfl ?_
      have f6 : -9223372036854775808 ≤ ((lvl x) - 1) ∧ ((lvl x) - 1) < 9223372036854775808 := fin2 (p := fun x w => ¬ ((lvl x) = 0) → -9223372036854775808 ≤ ((lvl x) - 1) ∧ ((lvl x) - 1) < 9223372036854775808) (by kernel_rfl) hn c2
      refine za rfl (yi_sub rfl rfl rfl f6.1 f6.2) rfl rfl ?_
      have f7 : 0 ≤ ((lvl x) - 1) ∧ ((lvl x) - 1) ≤ 20 := fin2 (p := fun x w => ¬ ((lvl x) = 0) → 0 ≤ ((lvl x) - 1) ∧ ((lvl x) - 1) ≤ 20) (by kernel_rfl) hn c2
      refine za rfl (y_call (rpower_any ((lvl x) - 1) _ rg f7) (by kernel_rfl) rfl rfl) rfl rfl ?_
      have f8 : -9223372036854775808 ≤ (x - (pw ((lvl x) - 1))) ∧ (x - (pw ((lvl x) - 1))) < 9223372036854775808 := fin2 (p := fun x w => ¬ ((lvl x) = 0) → -9223372036854775808 ≤ (x - (pw ((lvl x) - 1))) ∧ (x - (pw ((lvl x) - 1))) < 9223372036854775808) (by kernel_rfl) hn c2
      refine za rfl (yi_sub rfl rfl rfl f8.1 f8.2) rfl rfl ?_
      refine zA rfl rfl rfl rfl rfl ?_
      refine lg_nil ?_
      refine nx (zk1 4 rfl fn) ?_
      refine cg_ret ?_
      have f9 : (x - (pw ((lvl x) - 1))) = leftI x w := fin2 (p := fun x w => ¬ ((lvl x) = 0) → (x - (pw ((lvl x) - 1))) = leftI x w) (by kernel_rfl) hn c2
      exact eg_ret_tmp rfl rfl ⟨congrArg (fun k => Ending.returned (nv k)) f9, rfl⟩
  · refine calls_cg (n := 20) Tryz.func69 rfl Tryz.ntmps69 (by simp) ?_
    show CG _ _ _ [(0, nv x), (1, nv w)] _ _
    refine cg_seq ?_
    refine cg_region ?_
    refine zA rfl rfl rfl rfl rfl ?_
    refine lg_nil ?_
    refine nx (zk3 0 1 4 rfl rfl rfl fn) ?_
    refine cg_seq ?_
    refine cg_seq ?_
    refine cg_region ?_
    refine zM rfl rfl rfl rfl rfl ?_
    refine zM rfl rfl rfl rfl rfl ?_
    refine za rfl (yb (decide_eq_false hn) (y_call (ris_any x w _ rg) (by kernel_rfl) rfl rfl)) rfl rfl ?_
    refine za rfl (y_bnot rfl rfl) rfl rfl ?_
    refine zM rfl rfl rfl rfl rfl ?_
    refine zf 9 rfl (by kernel_rfl) rfl rfl rfl ?_
    refine zf 9 rfl (by kernel_rfl) rfl rfl rfl ?_
    refine zf 9 rfl (by kernel_rfl) rfl rfl rfl ?_
    refine za rfl (y_pick true rfl rfl rfl) rfl rfl ?_
    refine lg_nil ?_
    refine nx (zk3 0 4 13 rfl rfl rfl fn) ?_
    refine cg_ct rfl ?_
    refine cg_seq ?_
    refine cg_region ?_
    refine zA rfl rfl rfl rfl rfl ?_
    refine lg_nil ?_
    refine nx (zk2 0 4 rfl rfl fn) ?_
    refine cg_ret ?_
    refine eg_seq_ret ?_
    exact eg_ret_tmp rfl rfl ⟨congrArg (fun k => Ending.returned (nv k)) (left_no hn).symm, rfl⟩
theorem rright_any (x w : Int) (W : World) (rg : Tb W) : Calls Tryz.prog 70 #[nv x, nv w] W fun e w' => e = .returned (nv (rightI x w)) ∧ w' = W := by
  by_cases hn : isN x w
  · refine calls_cg (n := 20) Tryz.func70 rfl Tryz.ntmps70 (by simp) ?_
    show CG _ _ _ [(0, nv x), (1, nv w)] _ _
    refine cg_seq ?_
    refine cg_region ?_
    refine zA rfl rfl rfl rfl rfl ?_
    refine lg_nil ?_
    refine nx (zk3 0 1 4 rfl rfl rfl fn) ?_
    refine cg_seq ?_
    refine cg_seq ?_
    refine cg_region ?_
    refine zM rfl rfl rfl rfl rfl ?_
    refine zM rfl rfl rfl rfl rfl ?_
    have f1 : isN x w := fin2 (p := fun x w => isN x w) (by kernel_rfl) hn
    refine za rfl (yb (decide_eq_true f1) (y_call (ris_any x w _ rg) (by kernel_rfl) rfl rfl)) rfl rfl ?_
    refine za rfl (y_bnot rfl rfl) rfl rfl ?_
    refine zM rfl rfl rfl rfl rfl ?_
    refine zt 9 rfl (by kernel_rfl) rfl (y_move rfl rfl) rfl rfl ?_
    refine zt 9 rfl (by kernel_rfl) rfl (y_call (rlevel_any x _ rg) (by kernel_rfl) rfl rfl) rfl rfl ?_
    by_cases c2 : (lvl x) = 0
    · have f3 : (lvl x) = 0 := fin2 (p := fun x w => (lvl x) = 0 → (lvl x) = 0) (by kernel_rfl) hn c2
      refine zt 9 rfl (by kernel_rfl) rfl (yb (decide_eq_true f3) (yi_eql rfl rfl rfl)) rfl rfl ?_
      refine za rfl (y_pick false rfl rfl rfl) rfl rfl ?_
      refine lg_nil ?_
      refine nx (zk3 0 4 13 rfl rfl rfl fn) ?_
      refine cg_ct rfl ?_
      refine cg_seq ?_
      refine cg_region ?_
      refine zA rfl rfl rfl rfl rfl ?_
      refine lg_nil ?_
      refine nx (zk2 0 4 rfl rfl fn) ?_
      refine cg_ret ?_
      refine eg_seq_ret ?_
      have f4 : (-1) = rightI x w := fin2 (p := fun x w => (lvl x) = 0 → (-1) = rightI x w) (by kernel_rfl) hn c2
      exact eg_ret_tmp rfl rfl ⟨congrArg (fun k => Ending.returned (nv k)) f4, rfl⟩
    · have f5 : ¬ ((lvl x) = 0) := fin2 (p := fun x w => ¬ ((lvl x) = 0) → ¬ ((lvl x) = 0)) (by kernel_rfl) hn c2
      refine zt 9 rfl (by kernel_rfl) rfl (yb (decide_eq_false f5) (yi_eql rfl rfl rfl)) rfl rfl ?_
      refine za rfl (y_pick false rfl rfl rfl) rfl rfl ?_
      refine lg_nil ?_
      refine nx (zk3 0 4 13 rfl rfl rfl fn) ?_
      refine cg_cf rfl ?_
      refine cg_skip ?_
      refine nx (zk2 0 4 rfl rfl fn) ?_
      refine cg_seq ?_
      refine cg_region ?_
      refine zM rfl rfl rfl rfl rfl ?_
      refine zM rfl rfl rfl rfl rfl ?_
      refine za rfl (y_call (rlevel_any x _ rg) (by kernel_rfl) rfl rfl) rfl rfl ?_
      have f6 : -9223372036854775808 ≤ ((lvl x) - 1) ∧ ((lvl x) - 1) < 9223372036854775808 := fin2 (p := fun x w => ¬ ((lvl x) = 0) → -9223372036854775808 ≤ ((lvl x) - 1) ∧ ((lvl x) - 1) < 9223372036854775808) (by kernel_rfl) hn c2
      refine za rfl (yi_sub rfl rfl rfl f6.1 f6.2) rfl rfl ?_
      have f7 : 0 ≤ ((lvl x) - 1) ∧ ((lvl x) - 1) ≤ 20 := fin2 (p := fun x w => ¬ ((lvl x) = 0) → 0 ≤ ((lvl x) - 1) ∧ ((lvl x) - 1) ≤ 20) (by kernel_rfl) hn c2
      refine za rfl (y_call (rpower_any ((lvl x) - 1) _ rg f7) (by kernel_rfl) rfl rfl) rfl rfl ?_
      have f8 : -9223372036854775808 ≤ (x + (pw ((lvl x) - 1))) ∧ (x + (pw ((lvl x) - 1))) < 9223372036854775808 := fin2 (p := fun x w => ¬ ((lvl x) = 0) → -9223372036854775808 ≤ (x + (pw ((lvl x) - 1))) ∧ (x + (pw ((lvl x) - 1))) < 9223372036854775808) (by kernel_rfl) hn c2
      refine za rfl (yi_add rfl rfl rfl f8.1 f8.2) rfl rfl ?_
      refine zA rfl rfl rfl rfl rfl ?_
      refine lg_nil ?_
      refine nx (zk1 4 rfl fn) ?_
      refine cg_ret ?_
      have f9 : (x + (pw ((lvl x) - 1))) = rightI x w := fin2 (p := fun x w => ¬ ((lvl x) = 0) → (x + (pw ((lvl x) - 1))) = rightI x w) (by kernel_rfl) hn c2
      exact eg_ret_tmp rfl rfl ⟨congrArg (fun k => Ending.returned (nv k)) f9, rfl⟩
  · refine calls_cg (n := 20) Tryz.func70 rfl Tryz.ntmps70 (by simp) ?_
    show CG _ _ _ [(0, nv x), (1, nv w)] _ _
    refine cg_seq ?_
    refine cg_region ?_
    refine zA rfl rfl rfl rfl rfl ?_
    refine lg_nil ?_
    refine nx (zk3 0 1 4 rfl rfl rfl fn) ?_
    refine cg_seq ?_
    refine cg_seq ?_
    refine cg_region ?_
    refine zM rfl rfl rfl rfl rfl ?_
    refine zM rfl rfl rfl rfl rfl ?_
    refine za rfl (yb (decide_eq_false hn) (y_call (ris_any x w _ rg) (by kernel_rfl) rfl rfl)) rfl rfl ?_
    refine za rfl (y_bnot rfl rfl) rfl rfl ?_
    refine zM rfl rfl rfl rfl rfl ?_
    refine zf 9 rfl (by kernel_rfl) rfl rfl rfl ?_
    refine zf 9 rfl (by kernel_rfl) rfl rfl rfl ?_
    refine zf 9 rfl (by kernel_rfl) rfl rfl rfl ?_
    refine za rfl (y_pick true rfl rfl rfl) rfl rfl ?_
    refine lg_nil ?_
    refine nx (zk3 0 4 13 rfl rfl rfl fn) ?_
    refine cg_ct rfl ?_
    refine cg_seq ?_
    refine cg_region ?_
    refine zA rfl rfl rfl rfl rfl ?_
    refine lg_nil ?_
    refine nx (zk2 0 4 rfl rfl fn) ?_
    refine cg_ret ?_
    refine eg_seq_ret ?_
    exact eg_ret_tmp rfl rfl ⟨congrArg (fun k => Ending.returned (nv k)) (right_no hn).symm, rfl⟩
/- WaMath:
  Ways up, what stands beside them, what is below, as plain functions; what holds of all nodes, and of all pairs of nodes, of all widths, by trying all of them, in numbers that the kernel reckons with at once.
-/
def lvlN (x : Nat) : Nat := Nat.log2 (Nat.xor x (x + 1))
def p2 (k : Nat) : Nat := Nat.pow 2 k
def parN (x : Nat) : Nat := bif Nat.beq (Nat.mod (Nat.div x (p2 (lvlN x + 1))) 2) 0 then x + p2 (lvlN x) else x - p2 (lvlN x)
def sibN (x : Nat) : Nat := bif Nat.beq (Nat.mod (Nat.div x (p2 (lvlN x + 1))) 2) 0 then x + p2 (lvlN x + 1) else x - p2 (lvlN x + 1)
def dirN : Nat → Nat → Nat → List Nat
  | 0, _, _ => []
  | k + 1, x, w => bif Nat.beq x (w / 2) then [] else parN x :: dirN k (parN x) w
def copN : Nat → Nat → Nat → List Nat
  | 0, _, _ => []
  | k + 1, x, w => bif Nat.beq x (w / 2) then [] else sibN x :: copN k (parN x) w
/-- Is x y, or below y? By how far y reaches to either side. -/
def undN (x y : Nat) : Bool := Nat.ble (y + 1) (x + p2 (lvlN y)) && Nat.ble (x + 1) (y + p2 (lvlN y))
-- pairs of nodes
-- of whole numbers
def dirI (x w : Int) : List Int := if isN x w then (dirN 7 x.toNat w.toNat).map (fun (k : Nat) => (k : Int)) else []
def copI (x w : Int) : List Int := if isN x w then (copN 7 x.toNat w.toNat).map (fun (k : Nat) => (k : Int)) else []
def undI (x y w : Int) : Prop := isN x w ∧ isN y w ∧ undN x.toNat y.toNat = true
instance (x y w : Int) : Decidable (undI x y w) := by unfold undI; infer_instance
/- WaFacts:
  What the statements of layer 6 ask of ways up, what stands beside them, and what is below: of all nodes, and of all pairs of nodes.
-/
-- leaves below a node
-- the way, node by node
def wayAt (x w : Int) (i : Nat) : Prop := isN ((dirI x w).getD i 0) w ∧ dirI ((dirI x w).getD i 0) w = (dirI x w).drop (i + 1) ∧ undI x ((dirI x w).getD i 0) w
    ∧ isN ((copI x w).getD i 0) w ∧ parI ((copI x w).getD i 0) w = (dirI x w).getD i 0 ∧ ¬ undI x ((copI x w).getD i 0) w ∧ (i + 1 = (dirI x w).length → (dirI x w).getD i 0 = rootI w)
instance (x w : Int) (i : Nat) : Decidable (wayAt x w i) := by unfold wayAt; infer_instance
-- what stands beside the way of a leaf: how often a leaf is below one of it
theorem take_succ_getD (l : List Int) (i : Nat) (h : i < l.length) : l.take (i + 1) = l.take i ++ [l.getD i 0] := by
  rw [List.take_succ_eq_append_getElem h, List.getD_eq_getElem?_getD, List.getElem?_eq_getElem h]
  rfl
-- two ways meet
/- WaUp:
  Ways up, as functions that are ranged over.
-/
set_option maxRecDepth 20000
theorem Tb.up {w w' : World} (u : Below w.heap.size w w') (h : Tb w) : Tb w' := by
  obtain ⟨tg, r⟩ := h
  exact ⟨tg, RowAt.below u r.lt r⟩
theorem Tb.lt {w : World} (h : Tb w) : 2 < w.heap.size := by
  obtain ⟨tg, r⟩ := h
  exact r.lt
theorem Tb.from {B : Nat} {w w' : World} (u : Below B w w') (hg : 2 < B) (h : Tb w) : Tb w' := by
  obtain ⟨tg, r⟩ := h
  exact ⟨tg, RowAt.below u hg r⟩
/- WaProg:
  Ways up: what the functions of the program answer.
-/
set_option maxRecDepth 20000
/- WaRef:
  Ways up: what the document answers.
-/
set_option maxRecDepth 20000
theorem getD_mem {xs : List Int} {i : Nat} (h : i < xs.length) : xs.getD i 0 ∈ xs := by
  rw [List.getD_eq_getElem?_getD, List.getElem?_eq_getElem h]
  exact List.getElem_mem h
theorem mem_getD {xs : List Int} {x : Int} (h : x ∈ xs) : ∃ i, i < xs.length ∧ xs.getD i 0 = x := by
  obtain ⟨i, hi, e⟩ := List.mem_iff_getElem.1 h
  exact ⟨i, hi, by rw [List.getD_eq_getElem?_getD, List.getElem?_eq_getElem hi]; exact e⟩
/- WaFr:
  Ways up: the numbers that are handed out are new.
-/
end Go.Proofs.YtkcpmpbjjnknhaaGreatDoor
