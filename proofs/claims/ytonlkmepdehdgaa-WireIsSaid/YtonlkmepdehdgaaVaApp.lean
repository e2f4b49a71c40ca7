/-
  Octets appended to a row of the call's own, whatever the slice that holds them (nil, empty or not).
-/
import Derived.Test.YtonlkmepdehdgaaVaMore
import Derived.Maps.AppendAt
namespace Go.Proofs.Ytonlkmepdehdgaa
open Go.ChangeShapes Go.WideShapes Go.ChangeAt Go.RowKit
set_option linter.unusedVariables false

/-- What an append of octets to an own row gives: the row holds both. -/
def Joined (w : World) (base : Nat) (v : Value) (xs ys : List Int) (v' : Value) (w' : World) : Prop :=
  w'.ownsRow base 5 1 v' (xs.length + ys.length) ((xs ++ ys).map (Value.int .u8)) ∧ w.grownBy w' v.ownBlock ∧ (v'.ownBlock = v.ownBlock ∨ v'.ownBlock = some w.heap.size)

theorem append_oct (w : World) (base : Nat) (v : Value) (xs ys : List Int) (A : Option Addr) (m c B : Nat) (hown : w.ownsRow base 5 1 v xs.length (xs.map (Value.int .u8))) (hO : Oct w B A m ys)
    (hb : xs.length + m ≤ 70368744177664) (hbase : base ≤ w.heap.size) :
    ∃ v' w', (Builtin.append_ #[22, 22] 22 #[v, .slice A m c]).run Try.prog w = .ok v' w' ∧ Joined w base v xs ys v' w' := by
  obtain ⟨i0, hi0, hz0, hz1, hz2⟩ := info_parts info5
  have hm := hO.1
  by_cases h0 : m = 0 ∧ A = none
  · obtain ⟨rfl, rfl⟩ := h0
    have hy : ys = [] := List.eq_nil_of_length_eq_zero hm
    subst hy
    refine ⟨v, w, ?_, by simpa using hown, World.grownBy.refl w _, .inl rfl⟩
    rcases hown.2 with ⟨rfl, _⟩ | ⟨g, cap, cur, rfl, _, _, hnc, _⟩
    · simp [Builtin.append_, run_underlying Try.underlying22, sizeOf, typeInfo, hi0, Builtin.lenOf, Builtin.firstCells]
    · simp [Builtin.append_, run_underlying Try.underlying22, sizeOf, typeInfo, hi0, Builtin.lenOf, Builtin.firstCells, hnc, storeCells]
  · have hA : ∃ ad, A = some ad ∧ ∀ j u, (ys.map (Value.int .u8))[j]? = some u → w.cell? (ad.add j) = some u := by
      by_cases hm0 : m = 0
      · cases A with
        | none => exact absurd ⟨hm0, rfl⟩ h0
        | some ad =>
          have hy : ys = [] := List.eq_nil_of_length_eq_zero (by omega)
          subst hy
          exact ⟨ad, rfl, by simp⟩
      · exact hO.src (w' := w) (fun _ _ => rfl) (by omega)
    obtain ⟨ad, rfl, hc⟩ := hA
    obtain ⟨v', w', hrun, h1, h2, _, h3⟩ := run_append_own_at (P := Try.prog) w base 22 22 5 i0 _ 1 1 Try.underlying22 hi0 hz0 hz1 hz2 rfl (by omega) v _ _ hown ad m c (ys.map (Value.int .u8)) (by simp [hm]) hc (ints_oneCell _ _) (by unfold maxLen; omega) (by omega) hbase
    exact ⟨v', w', hrun, by rw [List.map_append, hm]; exact h1, h2, h3⟩

theorem wpList_append_oct (w : World) {ops : Array Oper} {rest : List Oper} {o : Oper} {a : Act} {Q : Exit → Act → World → Prop} (hgd : o.guard = none) (s x : Operand)
    (ho : o.op = .call { callee := .builtin .append, args := #[s, x], argTypes := #[22, 22] }) (hty : o.type = 22) (base : Nat) (v : Value) (xs ys : List Int) (A : Option Addr) (m c B : Nat)
    (hs : a.eval s = v) (hx : a.eval x = .slice A m c) (hown : w.ownsRow base 5 1 v xs.length (xs.map (Value.int .u8))) (hO : Oct w B A m ys) (hb : xs.length + m ≤ 70368744177664) (hbase : base ≤ w.heap.size)
    (h : ∀ v' w', Joined w base v xs ys v' w' → wpList Try.prog ops Q rest (a.put o.dst v') w') : wpList Try.prog ops Q (o :: rest) a w := by
  refine wpList_plain hgd fun K hK => ?_
  obtain ⟨v', w', hrun, hj⟩ := append_oct w base v xs ys A m c B hown hO hb hbase
  unfold Oper.wp
  simp [execOp, ho, hty, resolve, invoke, builtin, hs, hx, hrun, Result.andThen]
  exact hK _ _ (h v' w' hj)

/-- An own row that is not empty, as a slice that reads as octets. -/
theorem own_slice {w : World} {base n : Nat} {v : Value} {ys : List Int} (h : w.ownsRow base 5 1 v n (ys.map (Value.int .u8))) (hn : 0 < n) (hy : ∀ y ∈ ys, 0 ≤ y ∧ y ≤ 255) :
    ∃ g cap, v = .slice (some ⟨g, 0, none⟩) n cap ∧ n ≤ cap ∧ cap ≤ maxLen ∧ base ≤ g ∧ Oct w w.heap.size (some ⟨g, 0, none⟩) n ys := by
  have hl : ys.length = n := by simpa using h.1
  rcases h.2 with ⟨_, h0⟩ | ⟨g, cap, cur, rfl, hg, hh, h1, h2, _⟩
  · omega
  · refine ⟨g, cap, rfl, h1, h2, hg, hl, hy, fun _ => ⟨g, 0, rfl, (h.lt g rfl).2, fun i x hx => ?_⟩⟩
    have := h.cells (g := g) rfl i (.int .u8 x) (by rw [List.getElem?_map, hx]; rfl)
    rwa [Addr.add_lit] at this

theorem joined_below {w0 w w' : World} {base : Nat} {v v' : Value} {xs ys : List Int} {n : Nat} {l : List Value} (hown : w.ownsRow base 5 1 v n l) (h : Joined w base v xs ys v' w') (hb : Below base w0 w) (hB : base ≤ w.heap.size) : Below base w0 w' ∧ base ≤ w'.heap.size :=
  ⟨hb.grown h.2.1 hB (fun k hk => (hown.lt k hk).1), Nat.le_trans hB h.2.1.size⟩
theorem size_len (n : Int) (L : Nat) (w : World) (hL : (octN n).length = L) : Calls Try.prog 39 #[.int .i64 n] w fun e w' => e = .returned (.int .i64 (L : Int)) ∧ w = w' := by
  refine (size_any n w).mono ?_
  rintro e w' ⟨rfl, rfl⟩
  exact ⟨by rw [← hL, octN_length], rfl⟩
theorem octN_le (m : Int) : (octN m).length ≤ 4 := by
  have := octN_length m
  rcases sizeN_cases m with h | h | h | h <;> rw [h.1] at this <;> omega
theorem octN_bytes (m : Int) : ∀ y ∈ octN m, 0 ≤ y ∧ y ≤ 255 := by
  intro y hy
  unfold octN at hy
  rcases sizeN_cases m with h | h | h | h
  · rw [h.1] at hy; simp at hy
  · rw [h.1] at hy
    simp at hy
    omega
  · rw [h.1] at hy
    simp at hy
    omega
  · rw [h.1] at hy
    simp at hy
    omega
theorem Oct.upto {w : World} {B n : Nat} {A : Option Addr} {xs : List Int} (h : Oct w B A n xs) (i : Nat) (hi : i ≤ n) : Oct w B A i (xs.take i) := by
  refine ⟨by rw [List.length_take, h.1]; omega, fun x hx => h.2.1 x (List.mem_of_mem_take hx), fun hn => ?_⟩
  obtain ⟨b, o, e, hB, hc⟩ := h.2.2 (by omega)
  refine ⟨b, o, e, hB, fun j x hx => hc j x ?_⟩
  rw [List.getElem?_take] at hx
  split at hx
  · exact hx
  · cases hx
/-- A slice of integers that came in: it is nil; or it leads to a row of 'cap' cells, the numbers 'zs', each fitting its kind. -/
def IsRow (k : IntKind) (w : World) (a : Option Addr) (len cap : Nat) (zs : List Int) : Prop :=
  (a = none ∧ len = 0 ∧ cap = 0 ∧ zs = []) ∨
  ∃ x, a = some x ∧ len ≤ cap ∧ cap ≤ maxLen ∧ zs.length = cap ∧ (∀ i, i < zs.length → w.cell? (x.add i) = some (.int k (zs.getD i 0))) ∧ ∀ n ∈ zs, (Lit.int k n).wf = true

/-- The numbers of a slice of bytes that came in, up to its length, as octets. -/
theorem oct_of_row {w : World} {a0 : Option Addr} {len0 cap0 : Nat} {z0 : List Int} (h : IsRow .u8 w a0 len0 cap0 z0) : len0 ≤ cap0 ∧ cap0 ≤ maxLen ∧ Oct w w.heap.size a0 len0 (z0.take len0) := by
  rcases h with ⟨rfl, rfl, rfl, rfl⟩ | ⟨x, rfl, hl, hm, hz, hcell, hwz⟩
  · exact ⟨Nat.le_refl _, Nat.zero_le _, Oct.nil _ _ _⟩
  · refine ⟨hl, hm, by rw [List.length_take]; omega, fun y hy => wf_u8 (hwz y (List.mem_of_mem_take hy)), fun hn => ?_⟩
    obtain ⟨b, off, spot⟩ := x
    have hc := hcell 0 (by omega)
    have hspot : spot = none := by simpa [Addr.add] using World.cell?_spot hc
    subst hspot
    refine ⟨b, off, rfl, World.block_lt_of_cell? w _ hc, fun i y hy => ?_⟩
    rw [List.getElem?_take] at hy
    split at hy
    · have hi := (List.getElem?_eq_some_iff.1 hy).1
      have := hcell i hi
      rw [Addr.add_lit] at this
      rw [this, List.getD, hy]; rfl
    · cases hy

end Go.Proofs.Ytonlkmepdehdgaa
