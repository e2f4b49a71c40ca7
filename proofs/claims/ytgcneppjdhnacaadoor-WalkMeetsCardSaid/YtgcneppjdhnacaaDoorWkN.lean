/-
  Rules for slices of whole numbers: places, pieces, one number behind, rows of one's own.
-/
import Derived.Test.YtgcneppjdhnacaaDoorWkE
import Derived.Test.YtgcneppjdhnacaaDoorNums
namespace Go.Proofs.YtgcneppjdhnacaaDoor
open Go.ChangeShapes Go.WideShapes Go.ChangeAt Go.RowKit
set_option linter.unusedVariables false

theorem huIs : Tryd.prog.underlying 26 = some (.slice 3) := by kernel_rfl
theorem huInt : Tryd.prog.underlying 3 = some (.int .i64) := by kernel_rfl
/-- Where a slice lies: its block, and its first cell. -/
def blk : Option Addr → Nat
  | some ⟨b, _, _⟩ => b
  | none => 0
def off : Option Addr → Nat
  | some ⟨_, o, _⟩ => o
  | none => 0
theorem Nums.at {w : World} {B : Nat} {A : Option Addr} {m i : Nat} {xs : List Int} (h : Nums w B A m xs) (hi : i < m) : A = some ⟨blk A, off A, none⟩ ∧ blk A < B ∧ w.cell? ⟨blk A, off A + i, none⟩ = some (nv (xs.getD i 0)) := by
  obtain ⟨b, o, rfl, hB, hc⟩ := h.2 (by omega)
  have hl := h.1
  have hx : xs[i]? = some (xs.getD i 0) := by
    rw [List.getElem?_eq_getElem (by omega), List.getD_eq_getElem?_getD, List.getElem?_eq_getElem (by omega)]
    rfl
  exact ⟨rfl, hB, hc i _ hx⟩
theorem Nums.cutA {w : World} {B n : Nat} {A : Option Addr} {xs : List Int} (h : Nums w B A n xs) (l m : Nat) (hn : n ≤ m) (hl : l ≤ n) : Nums w B (cutA A l m) (n - l) (xs.drop l) := by
  refine ⟨by rw [List.length_drop, h.1], fun h0 => ?_⟩
  obtain ⟨b, o, rfl, hB, hc⟩ := h.2 (by omega)
  refine ⟨b, o + l, ?_, hB, fun i x hx => ?_⟩
  · unfold Go.Proofs.YtgcneppjdhnacaaDoor.cutA
    rw [if_neg (by omega), Option.map_some, Addr.add_lit, Nat.mul_one]
  · have := hc (l + i) x (by rw [List.getElem?_drop] at hx; exact hx)
    rwa [Nat.add_assoc]
theorem Nums.head {w : World} {B n : Nat} {A : Option Addr} {xs : List Int} (h : Nums w B A n xs) (k : Nat) (hk : k ≤ n) : Nums w B A k (xs.take k) := by
  have hl := h.1
  refine ⟨by rw [List.length_take]; omega, fun h0 => ?_⟩
  obtain ⟨b, o, rfl, hB, hc⟩ := h.2 (by omega)
  refine ⟨b, o, rfl, hB, fun i x hx => hc i x ?_⟩
  rw [List.getElem?_take] at hx
  split at hx
  · exact hx
  · cases hx
theorem sizeOf_int (w : World) : (sizeOf 3).run Tryd.prog w = .ok 1 w := by
  obtain ⟨i0, hi0, hz0, hz1, hz2⟩ := info_parts infoInt
  simp [sizeOf, typeInfo, hi0, hz1]
theorem elem_ints : Tryd.prog.elem 26 = 3 := by kernel_rfl
theorem run_cutN_l (A : Option Addr) (n c l : Nat) (lo : Int) (e : lo = l) (h : l ≤ n) (w : World) :
    (Instr.sliceAt 26 (.slice A n c) (some (.int .i64 lo)) none none).run Tryd.prog w = .ok (.slice (cutA A l c) (n - l) (c - l)) w := by
  subst e
  rw [run_sliceAt_slice _ _ _ _ _ _ Tryd.underlying26, run_slice_l _ _ _ _ _ Tryd.underlying26 _ _ (by omega) (by omega), elem_ints, sizeOf_int]
  rfl
theorem run_cutN_h (A : Option Addr) (n c l : Nat) (hi : Int) (e : hi = l) (h : l ≤ c) (w : World) :
    (Instr.sliceAt 26 (.slice A n c) none (some (.int .i64 hi)) none).run Tryd.prog w = .ok (.slice A l c) w := by
  subst e
  rw [run_sliceAt_slice _ _ _ _ _ _ Tryd.underlying26, run_slice_h _ _ _ _ _ Tryd.underlying26 _ _ (by omega) (by omega), elem_ints, sizeOf_int]
  cases A with
  | none => simp [sliced, Result.andThen]
  | some a => simp [sliced, Result.andThen, Addr.add]
theorem own_nilN (w : World) (base : Nat) : w.ownsRow base 3 1 (.slice none 0 0) ([] : List Int).length (([] : List Int).map (Value.int .i64)) := ⟨rfl, .inl ⟨rfl, rfl⟩⟩

section
variable {ops : Array Oper} {Q : Exit → Act → World → Prop} {n d : Nat} {E : Env} {o : Oper} {rest : List Oper} {w w0 : World} {v : Value} {x y : Operand} {t t' : TypeId}
theorem y_ixN {B m c i : Nat} {A : Option Addr} {xs : List Int} {iI : Int} (h : Nums w B A m xs) (e : iI = i) (hi : i < m) (ho : o.op = .indexAddr 26 x y) (hx : val E x = some (.slice A m c)) (hy : val E y = some (nv iI)) : Yields Tryd.prog E o w (pv (blk A) (off A + i)) :=
  y_ix (by
    subst e
    rw [(h.at hi).1]
    have hs : (Tryd.prog.info? 3).map (·.size) = some 1 := by kernel_rfl
    cases hq : Tryd.prog.info? 3 with
    | none => simp [hq] at hs
    | some it =>
      have hz : it.size = 1 := by simpa [hq] using hs
      simp [Instr.indexAt, asIntOf, run_underlying huIs, Instr.sureAddr, sizeOf, typeInfo, hq, hz, hi, Addr.add, blk, off]) ho hx hy
theorem y_ldN {B m i : Nat} {A : Option Addr} {xs : List Int} (h : Nums w B A m xs) (hi : i < m) (ho : o.op = .load 3 x) (hx : val E x = some (pv (blk A) (off A + i))) : Yields Tryd.prog E o w (nv (xs.getD i 0)) :=
  y_load (by simp [loadVar, isAgg, run_underlying huInt, (h.at hi).2.2]) ho hx
theorem y_cutN_l {A : Option Addr} {m c : Nat} (l : Nat) {lo : Int} (e : lo = l) (h : l ≤ m) (ho : o.op = .slice 26 x (some y) none none) (hx : val E x = some (.slice A m c)) (hy : val E y = some (nv lo)) : Yields Tryd.prog E o w (.slice (cutA A l c) (m - l) (c - l)) := fun n a ha => .inl (by
  unfold execOp
  rw [ho]
  simp only [ha.eval hx, Option.map_some, Option.map_none, ha.eval hy]
  rw [Sem.run_bind, run_cutN_l A m c l lo e h]
  rfl)
theorem y_cutN_h {A : Option Addr} {m c : Nat} (l : Nat) {hi : Int} (e : hi = l) (h : l ≤ c) (ho : o.op = .slice 26 x none (some y) none) (hx : val E x = some (.slice A m c)) (hy : val E y = some (nv hi)) : Yields Tryd.prog E o w (.slice A l c) := fun n a ha => .inl (by
  unfold execOp
  rw [ho]
  simp only [ha.eval hx, Option.map_some, Option.map_none, ha.eval hy]
  rw [Sem.run_bind, run_cutN_h A m c l hi e h]
  rfl)
/-- []int{k} -/
theorem lg_bs1N {k : Int} (hw : Want ops E o true) (ho : o.op = .buildSlice 26 1 #[(0, x)]) (hx : val E x = some (nv k)) (hd : o.dst = some d) (hn : d < n)
    (h : ∀ b w', New w w' b 3 #[nv k] → LG Tryd.prog ops Q n ((d, .slice (some ⟨b, 0, none⟩) 1 1) :: E) rest w') : LG Tryd.prog ops Q n E (o :: rest) w := by
  refine lg_do hw (fun n a ha => ?_) hd hn (h _ _ (New.of_alloc 3 #[nv k]))
  obtain ⟨i0, hi0, hz0, hz1, hz2⟩ := info_parts infoInt
  simp [execOp, ho, Instr.buildSlice, ha.eval hx, run_underlying huIs, sizeOf, typeInfo, hi0, hz1, zeroValue, hz0, Value.cells, Instr.fill, newRow]
  first | kernel_rfl | (refine congrArg (fun q => w.alloc (.cells q 3)) (Array.ext (by simp) fun i h1 h2 => ?_); have : i = 0 := by simpa using h2; subst this; simp)
/-- append(s, k), k in a row of its own. -/
theorem lg_appN {base g : Nat} {u : Value} {xs : List Int} {k : Int} {tr : TypeId} (hown : w.ownsRow base 3 1 u xs.length (xs.map (Value.int .i64))) (hr : RowAt w g tr #[nv k]) (hb : xs.length ≤ 1000000000) (hbase : base ≤ w.heap.size) (hw : Want ops E o true)
    (ho : o.op = .call { callee := .builtin .append, args := #[x, y], argTypes := #[26, 26] }) (hty : o.type = 26) (hx : val E x = some u) (hy : val E y = some (.slice (some ⟨g, 0, none⟩) 1 1)) (hd : o.dst = some d) (hn : d < n)
    (h : ∀ v' w', w'.ownsRow base 3 1 v' (xs ++ [k]).length ((xs ++ [k]).map (Value.int .i64)) → Below base w w' → LG Tryd.prog ops Q n ((d, v') :: E) rest w') : LG Tryd.prog ops Q n E (o :: rest) w := by
  have hc : w.cell? ⟨g, 0, none⟩ = some (nv k) := by rw [cell_of_row w g 0 _ tr _ hr]; rfl
  obtain ⟨v', w', hrun, hj⟩ := append_num w base u xs k g hown hc hb hbase
  refine lg_do hw (fun n a ha => ?_) hd hn (h v' w' (by rw [List.length_append]; exact hj.1) (joinedNum_below hown hj (Below.refl _ _) hbase).1)
  simp [execOp, ho, hty, resolve, invoke, builtin, ha.eval hx, ha.eval hy, hrun, Result.andThen]
/-- make([]int, k) -/
theorem lg_mkN {K : Int} (k : Nat) (hw : Want ops E o true) (e : K = k) (hk : k ≤ 1048576) (ho : o.op = .makeSlice 26 x y) (hx : val E x = some (nv K)) (hy : val E y = some (nv K)) (hd : o.dst = some d) (hn : d < n)
    (h : ∀ b w', New w w' b 3 (zerosI k).toArray → LG Tryd.prog ops Q n ((d, .slice (some ⟨b, 0, none⟩) k k) :: E) rest w') : LG Tryd.prog ops Q n E (o :: rest) w := by
  refine lg_do hw (fun n a ha => ?_) hd hn (h w.heap.size _ (New.of_alloc 3 (zerosI k).toArray))
  have h1 := make_nums k K e hk w
  simp only [execOp, ho, ha.eval hx, ha.eval hy, Sem.run_bind, nv, h1, Result.andThen_ok, Sem.run_pure]
end
end Go.Proofs.YtgcneppjdhnacaaDoor
