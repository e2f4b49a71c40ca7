/-
  Rules for slices of whole numbers beside loops over functions: one behind the others, and what stays.
-/
import Derived.Test.YtpoonjgkgaodmaaDoorWkX
import Derived.Test.YtpoonjgkgaodmaaDoorKitA
namespace Go.Proofs.YtpoonjgkgaodmaaDoor
open Go.ChangeShapes Go.WideShapes Go.ChangeAt Go.RowKit
set_option linter.unusedVariables false

section
variable {ops : Array Oper} {Q : Exit → Act → World → Prop} {n d : Nat} {E : Env} {o : Oper} {rest : List Oper} {w w0 : World} {v : Value} {x y : Operand} {t t' : TypeId}
/-- append(s, k), k in a row of its own: which block it may write, too. -/
theorem lg_appK {base g : Nat} {u : Value} {xs : List Int} {k : Int} {tr : TypeId} (hown : w.ownsRow base 3 1 u xs.length (xs.map (Value.int .i64))) (hr : RowAt w g tr #[nv k]) (hb : xs.length ≤ 1000000000) (hbase : base ≤ w.heap.size) (hw : Want ops E o true)
    (ho : o.op = .call { callee := .builtin .append, args := #[x, y], argTypes := #[26, 26] }) (hty : o.type = 26) (hx : val E x = some u) (hy : val E y = some (.slice (some ⟨g, 0, none⟩) 1 1)) (hd : o.dst = some d) (hn : d < n)
    (h : ∀ v' w', w'.ownsRow base 3 1 v' (xs ++ [k]).length ((xs ++ [k]).map (Value.int .i64)) → Below base w w' → KeepsFrom 0 w w' → LG Tryd.prog ops Q n ((d, v') :: E) rest w') : LG Tryd.prog ops Q n E (o :: rest) w := by
  have hc : w.cell? ⟨g, 0, none⟩ = some (nv k) := by rw [cell_of_row w g 0 _ tr _ hr]; rfl
  obtain ⟨v', w', hrun, hj⟩ := append_num w base u xs k g hown hc hb hbase
  refine lg_do hw (fun n a ha => ?_) hd hn (h v' w' (by rw [List.length_append]; exact hj.1) (joinedNum_below hown hj (Below.refl _ _) hbase).1 (kf_grown hj.2.1 hown))
  simp [execOp, ho, hty, resolve, invoke, builtin, ha.eval hx, ha.eval hy, hrun, Result.andThen]
theorem KeepsFrom.zero {B : Nat} {w w' : World} (h : KeepsFrom 0 w w') : KeepsFrom B w w' := ⟨h.size, fun k o _ hk hc => h.same k o (Nat.zero_le _) hk hc⟩
/-- []int{j, k} -/
theorem lg_bs2N {j k : Int} (hw : Want ops E o true) (ho : o.op = .buildSlice 26 2 #[(0, x), (1, y)]) (hx : val E x = some (nv j)) (hy : val E y = some (nv k)) (hd : o.dst = some d) (hn : d < n)
    (h : ∀ b w', New w w' b 3 #[nv j, nv k] → LG Tryd.prog ops Q n ((d, .slice (some ⟨b, 0, none⟩) 2 2) :: E) rest w') : LG Tryd.prog ops Q n E (o :: rest) w := by
  refine lg_do hw (fun n a ha => ?_) hd hn (h _ _ (New.of_alloc 3 #[nv j, nv k]))
  obtain ⟨i0, hi0, hz0, hz1, hz2⟩ := info_parts infoInt
  simp [execOp, ho, Instr.buildSlice, ha.eval hx, ha.eval hy, run_underlying huIs, sizeOf, typeInfo, hi0, hz1, zeroValue, hz0, Value.cells, Instr.fill, newRow]
  first | kernel_rfl | (refine congrArg (fun q => w.alloc (.cells q 3)) (Array.ext (by simp) fun i h1 h2 => ?_); match i, h2 with | 0, _ => simp | 1, _ => simp | i + 2, h2 => (exfalso; simp at h2; omega))
theorem nums_new1 {b : Nat} {j : Int} {w' : World} (h : New w w' b 3 #[nv j]) : Nums w' w'.heap.size (some ⟨b, 0, none⟩) 1 [j] :=
  ⟨rfl, fun _ => ⟨b, 0, rfl, by have := h.size; omega, fun i x hx => by
    rw [Nat.zero_add, cell_of_row _ _ i _ 3 (0, 0) h.row]
    match i, hx with
    | 0, hx => simp at hx; subst hx; rfl⟩⟩
theorem nums_new2 {b : Nat} {j k : Int} {w' : World} (h : New w w' b 3 #[nv j, nv k]) : Nums w' w'.heap.size (some ⟨b, 0, none⟩) 2 [j, k] :=
  ⟨rfl, fun _ => ⟨b, 0, rfl, by have := h.size; omega, fun i x hx => by
    rw [Nat.zero_add, cell_of_row _ _ i _ 3 (0, 0) h.row]
    match i, hx with
    | 0, hx => simp at hx; subst hx; rfl
    | 1, hx => simp at hx; subst hx; rfl⟩⟩
theorem own_numsA {base m : Nat} {A : Option Addr} {c : Nat} {ys : List Int} (h : w.ownsRow base 3 1 (.slice A m c) m (ys.map (Value.int .i64))) : Nums w w.heap.size A m ys := by
  obtain ⟨A', c', e, hn⟩ := own_nums_any h
  cases e
  exact hn
theorem own_capN {base m e : Nat} {A : Option Addr} {c k : Nat} {xs : List Value} (h : w.ownsRow base e 1 (.slice A m c) k xs) (hk : k = m) : m ≤ c := by
  subst hk
  rcases h.2 with ⟨q, rfl⟩ | ⟨g, cap, cur, q, _, _, h1, _⟩
  · exact Nat.zero_le _
  · cases q
    exact h1
theorem own_set {base e size k b : Nat} {xs : List Value} {tr tr' : TypeId} {u old : Array Value} {w' : World} (h : w.ownsRow base e size v k xs) (s : Set1 w w' b tr u) (r : RowAt w b tr' old) (hb : b < base) : w'.ownsRow base e size v k xs := by
  refine ⟨h.1, ?_⟩
  rcases h.2 with h | ⟨g, cap, cur, rfl, hg, hh, r⟩
  · exact .inl h
  · exact .inr ⟨g, cap, cur, rfl, hg, (s.other g (by omega)).trans hh, r⟩
end
end Go.Proofs.YtpoonjgkgaodmaaDoor
