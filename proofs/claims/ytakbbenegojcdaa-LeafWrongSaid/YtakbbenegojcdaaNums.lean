/-
  Slices of ints in memory.
-/
import Derived.Test.YtakbbenegojcdaaGen
namespace Go.Proofs.Ytakbbenegojcdaa
open Go.ChangeShapes Go.WideShapes Go.ChangeAt Go.RowKit
set_option linter.unusedVariables false

/-- The slice of n numbers at A reads, in w, as ls, and lies below block B. -/
def Nums (w : World) (B : Nat) (A : Option Addr) (n : Nat) (ls : List Int) : Prop :=
  ls.length = n ∧ (0 < n → ∃ b o, A = some ⟨b, o, none⟩ ∧ b < B ∧ ∀ i x, ls[i]? = some x → w.cell? ⟨b, o + i, none⟩ = some (.int .i64 x))
theorem Nums.keep {w w' : World} {B : Nat} {A : Option Addr} {n : Nat} {xs : List Int} (h : Nums w B A n xs) (hk : ∀ p : Addr, p.block < B → w'.cell? p = w.cell? p) : Nums w' B A n xs :=
  ⟨h.1, fun hn => by
    obtain ⟨b, o, e, hB, hc⟩ := h.2 hn
    exact ⟨b, o, e, hB, fun i x hx => (hk _ hB).trans (hc i x hx)⟩⟩
theorem Nums.below {w w' : World} {B : Nat} {A : Option Addr} {n : Nat} {xs : List Int} (h : Nums w B A n xs) (hb : Below B w w') : Nums w' B A n xs := h.keep fun _ hp => hb.cell hp
theorem Nums.more {w : World} {B B' : Nat} {A : Option Addr} {n : Nat} {xs : List Int} (h : Nums w B A n xs) (hB : B ≤ B') : Nums w B' A n xs :=
  ⟨h.1, fun hn => by
    obtain ⟨b, o, e, hb, hc⟩ := h.2 hn
    exact ⟨b, o, e, by omega, hc⟩⟩
theorem Nums.nil (w : World) (B : Nat) (A : Option Addr) : Nums w B A 0 [] := ⟨rfl, fun h => absurd h (by omega)⟩
/-- So many zeros, as cells. -/
def zerosI (n : Nat) : List Value := List.replicate n (.int .i64 0)
theorem zerosI_length (n : Nat) : (zerosI n).length = n := by simp [zerosI]
theorem zerosI_succ (n : Nat) : zerosI (n + 1) = .int .i64 0 :: zerosI n := rfl
theorem infoInt : (Try.prog.info? 3).map (fun i => (i.zero, i.size, i.bytes)) = some (some (.int .i64 0), 1, 8) := by kernel_rfl
/-- A row of k numbers of which the first j have been laid. -/
def rowAt (ls : List Int) (k j : Nat) : List Value := (ls.take j).map (Value.int .i64) ++ zerosI (k - j)
theorem rowAt_get (ls : List Int) (k j : Nat) (hl : ls.length = k) (h : j < k) : (rowAt ls k j)[j]? = some (.int .i64 0) := by
  unfold rowAt
  have e : ((ls.take j).map (Value.int .i64)).length = j := by simp; omega
  rw [List.getElem?_append_right (by omega), e, Nat.sub_self, show k - j = (k - j - 1) + 1 from by omega, zerosI_succ]; rfl
theorem rowAt_set (ls : List Int) (k j : Nat) (hl : ls.length = k) (h : j < k) (y : Int) (hy : ls.take (j + 1) = ls.take j ++ [y]) : (rowAt ls k j).set j (.int .i64 y) = rowAt ls k (j + 1) := by
  unfold rowAt
  have e : ((ls.take j).map (Value.int .i64)).length = j := by simp; omega
  rw [List.set_append_right _ _ (by omega), e, Nat.sub_self, show k - j = (k - (j + 1)) + 1 from by omega, zerosI_succ, hy]
  simp
theorem own_nums {w : World} {base g n : Nat} {ys : List Int} (h : w.ownsRow base 3 1 (.slice (some ⟨g, 0, none⟩) n n) n (ys.map (Value.int .i64))) : Nums w w.heap.size (some ⟨g, 0, none⟩) n ys := by
  have hl : ys.length = n := by simpa using h.1
  refine ⟨hl, fun _ => ⟨g, 0, rfl, (h.lt g rfl).2, fun i x hx => ?_⟩⟩
  have := h.cells (g := g) rfl i (.int .i64 x) (by rw [List.getElem?_map, hx]; rfl)
  rwa [Addr.add_lit] at this
theorem new_two (w : World) (x y : Int) : Nums (w.alloc (.cells #[.int .i64 x, .int .i64 y] 3)) (w.heap.size + 1) (some ⟨w.heap.size, 0, none⟩) 2 [x, y] := by
  refine ⟨rfl, fun _ => ⟨w.heap.size, 0, rfl, by omega, fun i u hu => ?_⟩⟩
  rw [Nat.zero_add, cell_of_row _ _ i #[.int .i64 x, .int .i64 y] 3 (0, 0) (heap_alloc_new w _)]
  match i, hu with
  | 0, hu => simp at hu; subst hu; rfl
  | 1, hu => simp at hu; subst hu; rfl
/-- The numbers of a slice of ints that came in, up to its length. -/
theorem nums_of_row {w : World} {a0 : Option Addr} {len0 cap0 : Nat} {z0 : List Int} (h : IsRow .i64 w a0 len0 cap0 z0) : len0 ≤ cap0 ∧ cap0 ≤ maxLen ∧ Nums w w.heap.size a0 len0 (z0.take len0) := by
  rcases h with ⟨rfl, rfl, rfl, rfl⟩ | ⟨x, rfl, hl, hm, hz, hcell, hwz⟩
  · exact ⟨Nat.le_refl _, Nat.zero_le _, Nums.nil _ _ _⟩
  · refine ⟨hl, hm, by rw [List.length_take]; omega, fun hn => ?_⟩
    obtain ⟨b, off, spot⟩ := x
    have hc := hcell 0 (by omega)
    have hspot : spot = none := by simpa [Addr.add] using World.cell?_spot hc
    subst hspot
    refine ⟨b, off, rfl, World.block_lt_of_cell? w _ hc, fun i y hy => ?_⟩
    rw [List.getElem?_take] at hy
    split at hy
    · have hi := (List.getElem?_eq_some_iff.1 hy).1
      have := hcell i hi
      rw [Addr.add_lit] at this
      rw [this, List.getD, hy]; rfl
    · cases hy
/-- What an append of one number to an own row gives: the row holds both. -/
def JoinedNum (w : World) (base : Nat) (v : Value) (xs : List Int) (y : Int) (v' : Value) (w' : World) : Prop :=
  w'.ownsRow base 3 1 v' (xs.length + 1) ((xs ++ [y]).map (Value.int .i64)) ∧ w.grownBy w' v.ownBlock ∧ (v'.ownBlock = v.ownBlock ∨ v'.ownBlock = some w.heap.size)
theorem joinedNum_below {w0 w w' : World} {base : Nat} {v v' : Value} {xs : List Int} {y : Int} {n : Nat} {l : List Value} (hown : w.ownsRow base 3 1 v n l) (h : JoinedNum w base v xs y v' w') (hb : Below base w0 w) (hB : base ≤ w.heap.size) : Below base w0 w' ∧ base ≤ w'.heap.size :=
  ⟨hb.grown h.2.1 hB (fun k hk => (hown.lt k hk).1), Nat.le_trans hB h.2.1.size⟩
theorem own_nums_any {w : World} {base n : Nat} {v : Value} {ys : List Int} (h : w.ownsRow base 3 1 v n (ys.map (Value.int .i64))) : ∃ A cap, v = .slice A n cap ∧ Nums w w.heap.size A n ys := by
  have hl : ys.length = n := by simpa using h.1
  rcases h.2 with ⟨rfl, rfl⟩ | ⟨g, cap, cur, rfl, _⟩
  · have e : ys = [] := List.eq_nil_of_length_eq_zero hl
    subst e
    exact ⟨none, 0, rfl, Nums.nil _ _ _⟩
  · refine ⟨_, cap, rfl, hl, fun _ => ⟨g, 0, rfl, (h.lt g rfl).2, fun i x hx => ?_⟩⟩
    have := h.cells (g := g) rfl i (.int .i64 x) (by rw [List.getElem?_map, hx]; rfl)
    rwa [Addr.add_lit] at this
end Go.Proofs.Ytakbbenegojcdaa
