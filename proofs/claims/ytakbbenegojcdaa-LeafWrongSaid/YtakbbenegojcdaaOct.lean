/-
  Octets in memory: slices that read as lists of octets, rows of the call's own, appends and cuts.
-/
import Derived.Test.YtakbbenegojcdaaGen
namespace Go.Proofs.Ytakbbenegojcdaa
open Go.ChangeShapes Go.WideShapes Go.ChangeAt Go.RowKit
set_option linter.unusedVariables false

theorem retInt {k : IntKind} {a b : Int} (h : a = b) : Ending.returned (.int k a) = .returned (.int k b) := by rw [h]
/-- The slice of n elements at A reads, in w, as the octets xs, and lies below block B. -/
def Oct (w : World) (B : Nat) (A : Option Addr) (n : Nat) (xs : List Int) : Prop :=
  xs.length = n ∧ (∀ x ∈ xs, 0 ≤ x ∧ x ≤ 255) ∧
  (0 < n → ∃ b o, A = some ⟨b, o, none⟩ ∧ b < B ∧ ∀ i x, xs[i]? = some x → w.cell? ⟨b, o + i, none⟩ = some (.int .u8 x))
theorem Oct.tail {w : World} {B : Nat} {A : Option Addr} {n : Nat} {x : Int} {ys : List Int} (h : Oct w B A n (x :: ys)) :
    ∃ b o, A = some ⟨b, o, none⟩ ∧ b < B ∧ 0 ≤ x ∧ x ≤ 255 ∧ w.cell? ⟨b, o, none⟩ = some (.int .u8 x) ∧ (∀ i y, ys[i]? = some y → w.cell? ⟨b, o + 1 + i, none⟩ = some (.int .u8 y)) ∧ (∀ y ∈ ys, 0 ≤ y ∧ y ≤ 255) := by
  obtain ⟨hl, hb, hc⟩ := h
  obtain ⟨b, o, rfl, hB, hc⟩ := hc (by rw [← hl]; simp)
  have hx := hb x (by simp)
  refine ⟨b, o, rfl, hB, hx.1, hx.2, hc 0 x (by simp), fun i y hy => ?_, fun y hy => hb y (by simp [hy])⟩
  have := hc (i + 1) y (by simpa using hy)
  rwa [show o + 1 + i = o + (i + 1) from by omega]
theorem Oct.cut {w : World} {B b o n : Nat} {xs : List Int} (h : Oct w B (some ⟨b, o, none⟩) n xs) (k : Nat) (hk : k ≤ n) (o' : Nat) (ho : k < n → o' = o + k) :
    Oct w B (some ⟨b, o', none⟩) (n - k) (xs.drop k) := by
  obtain ⟨hl, hb, hc⟩ := h
  refine ⟨by rw [List.length_drop, hl], fun x hx => hb x (List.mem_of_mem_drop hx), fun hn => ?_⟩
  obtain ⟨b1, o1, he, hB, hc⟩ := hc (by omega)
  injection he with he
  injection he with hb1 ho1
  subst hb1 ho1
  refine ⟨b, o + k, by rw [ho (by omega)], hB, fun i x hx => ?_⟩
  have := hc (k + i) x (by rw [List.getElem?_drop] at hx; exact hx)
  rwa [Nat.add_assoc]
theorem info5 : (Try.prog.info? 5).map (fun i => (i.zero, i.size, i.bytes)) = some (some (.int .u8 0), 1, 1) := by kernel_rfl
/-- A row of the call's own that begins with the octets xs. -/
def Own (w : World) (base : Nat) (v : Value) (xs : List Int) : Prop := w.ownsRow base 5 1 v xs.length (xs.map (Value.int .u8))
/-- So many zero octets, as cells. -/
def zeros (n : Nat) : List Value := List.replicate n (.int .u8 0)
theorem made_own (w : World) (g n k : Nat) (xs : List Int) (hl : xs.length = n) (hb : n + k ≤ maxLen)
    (h : w.heap[g]? = some (.cells (splice (zeros (n + k)) 0 (xs.map (Value.int .u8))).toArray 5 (0, 0))) (base : Nat) (hg : base ≤ g) :
    w.ownsRow base 5 1 (.slice (some ⟨g, 0, none⟩) n (n + k)) n (xs.map (Value.int .u8)) := by
  unfold zeros at h
  refine ⟨by simp [hl], .inr ⟨g, n + k, _, rfl, hg, h, by omega, hb, ?_, ?_⟩⟩
  · rw [List.size_toArray, length_splice _ _ _ (by simp; omega)]; simp
  · simp [splice, ← hl]
theorem make_row (n k : Nat) (K : Int) (hK : K = k) (hb : n + k ≤ 140737488355328) (w : World) :
    (Instr.makeSlice 22 (.int .i64 (n : Int)) (.int .i64 ((n : Int) + K))).run Try.prog w = .ok (.slice (some ⟨w.heap.size, 0, none⟩) n (n + k)) (w.alloc (.cells (zeros (n + k)).toArray 5)) := by
  subst hK
  obtain ⟨i, hi, hz, hs, hby⟩ := info_parts info5
  have hr := run_make (P := Try.prog) w 22 5 i _ Try.underlying22 hi hz .i64 .i64 (n : Int) ((n : Int) + (k : Int)) (by omega) (by omega) (by rw [hby]; omega) (by omega)
  rw [hr]
  have e1 : ((n : Int) + (k : Int)).toNat = n + k := by omega
  have e2 : (madeCells (Value.int .u8 0).cells ((n + k) * i.size)) = (zeros (n + k)).toArray := by
    have := toList_madeCells_one (Value.int .u8 0) (n + k)
    rw [hs, Nat.mul_one]
    exact Array.toList_inj.1 (by rw [List.toList_toArray]; exact this)
  rw [e1, Int.toNat_natCast, e2]
theorem Oct.src {w w' : World} {B n : Nat} {A : Option Addr} {xs : List Int} (h : Oct w B A n xs) (hk : ∀ p : Addr, p.block < B → w'.cell? p = w.cell? p) (hn : 0 < n) :
    ∃ ad, A = some ad ∧ ∀ j v, (xs.map (Value.int .u8))[j]? = some v → w'.cell? (ad.add j) = some v := by
  obtain ⟨b, o, rfl, hB, hc⟩ := h.2.2 hn
  refine ⟨_, rfl, fun j v hv => ?_⟩
  rw [List.getElem?_map, Option.map_eq_some_iff] at hv
  obtain ⟨x, hx, rfl⟩ := hv
  rw [Addr.add_lit, hk _ hB]
  exact hc j x hx
theorem copy_row (A : Option Addr) (n c B k : Nat) (xs : List Int) (w : World) (hO : Oct w B A n xs) (hB : B ≤ w.heap.size) (hb : n + k ≤ maxLen) :
    ∃ W1, (Builtin.copy_ #[22, 22] 3 #[.slice (some ⟨w.heap.size, 0, none⟩) n (n + k), .slice A n c]).run Try.prog (w.alloc (.cells (zeros (n + k)).toArray 5)) = .ok (.int .i64 n) W1 ∧
      W1.ownsRow w.heap.size 5 1 (.slice (some ⟨w.heap.size, 0, none⟩) n (n + k)) n (xs.map (Value.int .u8)) ∧ Below w.heap.size w W1 ∧ w.heap.size < W1.heap.size := by
  have hbel : Below w.heap.size w (w.alloc (.cells (zeros (n + k)).toArray 5)) := (Below.refl _ _).alloc (Nat.le_refl _) _
  have hsz : (Try.prog.info? 5).map (·.size) = some 1 := by kernel_rfl
  have hnew := heap_alloc_new w (.cells (zeros (n + k)).toArray 5)
  by_cases hn : n = 0
  · subst hn
    have hxs : xs = [] := List.eq_nil_of_length_eq_zero hO.1
    subst hxs
    refine ⟨_, run_copy_none (P := Try.prog) _ 22 22 3 5 _ _ 0 _ 0 _ Try.underlying22 hsz (by simp), ?_, hbel, by simp⟩
    exact made_own _ _ 0 k [] rfl hb (by simpa [splice] using hnew) _ (Nat.le_refl _)
  · obtain ⟨ad, rfl, hsrc⟩ := hO.src (w' := w.alloc (.cells (zeros (n + k)).toArray 5)) (fun p hp => World.cell?_alloc_lt w _ p (by omega)) (by omega)
    have hlz : (zeros (n + k)).length = n + k := by simp [zeros]
    have hrun := run_copy_row (P := Try.prog) _ 22 22 3 5 w.heap.size 0 n (n + k) ad n c (zeros (n + k)).toArray 5 (xs.map (Value.int .u8)) Try.underlying22 hsz hnew (by simp [hO.1]) hsrc (by simp [hlz, hO.1]) (ints_oneCell _ _)
    rw [hrun]
    refine ⟨_, by rw [List.length_map, hO.1]; rfl, ?_, below_setRow hbel (Nat.le_refl _) _, by simp [World.setRow]⟩
    exact made_own _ _ n k xs hO.1 hb (by
      have h := setRow_heap (w.alloc (.cells (zeros (n + k)).toArray 5)) w.heap.size _ ((zeros (n + k)).toArray.toList.take 0 ++ xs.map (Value.int .u8) ++ (zeros (n + k)).toArray.toList.drop (0 + (xs.map (Value.int .u8)).length)).toArray 5 _ hnew
      rw [List.length_map, hO.1] at h
      rw [h]
      simp [splice, hO.1]) _ (Nat.le_refl _)
theorem new_cells (w : World) (l : List Value) : ∀ j u, l[j]? = some u → (w.alloc (.cells l.toArray 5)).cell? ((⟨w.heap.size, 0, none⟩ : Addr).add j) = some u := by
  intro j u hu
  rw [Addr.add_lit, Nat.zero_add, cell_of_row _ _ j l.toArray 5 (0, 0) (heap_alloc_new w _)]
  simpa using hu
theorem below_app {w a b : World} {B : Nat} (h : Below B w a) (hB : B ≤ a.heap.size) {g : Nat} (hg : B ≤ g) {o : Obj} (hb : (a.alloc o).grownBy b (some g)) : Below B w b ∧ B ≤ b.heap.size := by
  have h1 : Below B w (a.alloc o) := h.alloc hB o
  have h2 : B ≤ (a.alloc o).heap.size := by simp; omega
  exact ⟨h1.grown hb h2 (fun k hk => by injection hk with hk; omega), Nat.le_trans h2 hb.size⟩
theorem Oct.keep {w w' : World} {B : Nat} {A : Option Addr} {n : Nat} {xs : List Int} (h : Oct w B A n xs) (hk : ∀ p : Addr, p.block < B → w'.cell? p = w.cell? p) : Oct w' B A n xs :=
  ⟨h.1, h.2.1, fun hn => by
    obtain ⟨b, o, e, hB, hc⟩ := h.2.2 hn
    exact ⟨b, o, e, hB, fun i x hx => (hk _ hB).trans (hc i x hx)⟩⟩
theorem Oct.below {w w' : World} {B : Nat} {A : Option Addr} {n : Nat} {xs : List Int} (h : Oct w B A n xs) (hb : Below B w w') : Oct w' B A n xs := h.keep fun _ hp => hb.cell hp
theorem Oct.drewN {w : World} {B : Nat} {A : Option Addr} {n : Nat} {xs : List Int} (h : Oct w B A n xs) (d : Nat) : Oct (w.drewN d) B A n xs := h
theorem Oct.more {w : World} {B B' : Nat} {A : Option Addr} {n : Nat} {xs : List Int} (h : Oct w B A n xs) (hB : B ≤ B') : Oct w B' A n xs :=
  ⟨h.1, h.2.1, fun hn => by
    obtain ⟨b, o, e, hb, hc⟩ := h.2.2 hn
    exact ⟨b, o, e, by omega, hc⟩⟩
theorem Oct.nil (w : World) (B : Nat) (A : Option Addr) : Oct w B A 0 [] := ⟨rfl, by simp, fun h => absurd h (by omega)⟩
theorem Oct.new (w : World) (xs : List Int) (hx : ∀ x ∈ xs, 0 ≤ x ∧ x ≤ 255) : Oct (w.alloc (.cells (xs.map (Value.int .u8)).toArray 5)) (w.heap.size + 1) (some ⟨w.heap.size, 0, none⟩) xs.length xs :=
  ⟨rfl, hx, fun _ => ⟨w.heap.size, 0, rfl, by omega, fun i x hi => by
    have := new_cells w (xs.map (Value.int .u8)) i (.int .u8 x) (by rw [List.getElem?_map, hi]; rfl)
    rwa [Addr.add_lit] at this⟩⟩
theorem below_drewN {B : Nat} {a w : World} (h : Below B a w) (n : Nat) : Below B a (w.drewN n) := ⟨h.os, h.tape, h.output, h.size, h.block⟩
theorem below_of_drewN (w : World) (n : Nat) : Below w.heap.size w (w.drewN n) := below_drewN (Below.refl _ _) n
/-- The numbers of a slice of bytes that came in are octets. -/
theorem wf_u8 {x : Int} (h : (Lit.int .u8 x).wf = true) : 0 ≤ x ∧ x ≤ 255 := by
  have := bounds_u8 h
  omega
/-- What an append of octets to an own row gives: the row holds both. -/
def Joined (w : World) (base : Nat) (v : Value) (xs ys : List Int) (v' : Value) (w' : World) : Prop :=
  w'.ownsRow base 5 1 v' (xs.length + ys.length) ((xs ++ ys).map (Value.int .u8)) ∧ w.grownBy w' v.ownBlock ∧ (v'.ownBlock = v.ownBlock ∨ v'.ownBlock = some w.heap.size)
theorem append_oct (w : World) (base : Nat) (v : Value) (xs ys : List Int) (A : Option Addr) (m c B : Nat) (hown : w.ownsRow base 5 1 v xs.length (xs.map (Value.int .u8))) (hO : Oct w B A m ys)
    (hb : xs.length + m ≤ 70368744177664) (hbase : base ≤ w.heap.size) :
    ∃ v' w', (Builtin.append_ #[22, 22] 22 #[v, .slice A m c]).run Try.prog w = .ok v' w' ∧ Joined w base v xs ys v' w' := by
  obtain ⟨i0, hi0, hz0, hz1, hz2⟩ := info_parts info5
  have hm := hO.1
  by_cases h0 : m = 0 ∧ A = none
  · obtain ⟨rfl, rfl⟩ := h0
    have hy : ys = [] := List.eq_nil_of_length_eq_zero hm
    subst hy
    refine ⟨v, w, ?_, by simpa using hown, World.grownBy.refl w _, .inl rfl⟩
    rcases hown.2 with ⟨rfl, _⟩ | ⟨g, cap, cur, rfl, _, _, hnc, _⟩
    · simp [Builtin.append_, run_underlying Try.underlying22, sizeOf, typeInfo, hi0, Builtin.lenOf, Builtin.firstCells]
    · simp [Builtin.append_, run_underlying Try.underlying22, sizeOf, typeInfo, hi0, Builtin.lenOf, Builtin.firstCells, hnc, storeCells]
  · have hA : ∃ ad, A = some ad ∧ ∀ j u, (ys.map (Value.int .u8))[j]? = some u → w.cell? (ad.add j) = some u := by
      by_cases hm0 : m = 0
      · cases A with
        | none => exact absurd ⟨hm0, rfl⟩ h0
        | some ad =>
          have hy : ys = [] := List.eq_nil_of_length_eq_zero (by omega)
          subst hy
          exact ⟨ad, rfl, by simp⟩
      · exact hO.src (w' := w) (fun _ _ => rfl) (by omega)
    obtain ⟨ad, rfl, hc⟩ := hA
    obtain ⟨v', w', hrun, h1, h2, _, h3⟩ := run_append_own_at (P := Try.prog) w base 22 22 5 i0 _ 1 1 Try.underlying22 hi0 hz0 hz1 hz2 rfl (by omega) v _ _ hown ad m c (ys.map (Value.int .u8)) (by simp [hm]) hc (ints_oneCell _ _) (by unfold maxLen; omega) (by omega) hbase
    exact ⟨v', w', hrun, by rw [List.map_append, hm]; exact h1, h2, h3⟩
theorem wpList_append_oct (w : World) {ops : Array Oper} {rest : List Oper} {o : Oper} {a : Act} {Q : Exit → Act → World → Prop} (hgd : o.guard = none) (s x : Operand)
    (ho : o.op = .call { callee := .builtin .append, args := #[s, x], argTypes := #[22, 22] }) (hty : o.type = 22) (base : Nat) (v : Value) (xs ys : List Int) (A : Option Addr) (m c B : Nat)
    (hs : a.eval s = v) (hx : a.eval x = .slice A m c) (hown : w.ownsRow base 5 1 v xs.length (xs.map (Value.int .u8))) (hO : Oct w B A m ys) (hb : xs.length + m ≤ 70368744177664) (hbase : base ≤ w.heap.size)
    (h : ∀ v' w', Joined w base v xs ys v' w' → wpList Try.prog ops Q rest (a.put o.dst v') w') : wpList Try.prog ops Q (o :: rest) a w := by
  refine wpList_plain hgd fun K hK => ?_
  obtain ⟨v', w', hrun, hj⟩ := append_oct w base v xs ys A m c B hown hO hb hbase
  unfold Oper.wp
  simp [execOp, ho, hty, resolve, invoke, builtin, hs, hx, hrun, Result.andThen]
  exact hK _ _ (h v' w' hj)
/-- An own row that is not empty, as a slice that reads as octets. -/
theorem own_slice {w : World} {base n : Nat} {v : Value} {ys : List Int} (h : w.ownsRow base 5 1 v n (ys.map (Value.int .u8))) (hn : 0 < n) (hy : ∀ y ∈ ys, 0 ≤ y ∧ y ≤ 255) :
    ∃ g cap, v = .slice (some ⟨g, 0, none⟩) n cap ∧ n ≤ cap ∧ cap ≤ maxLen ∧ base ≤ g ∧ Oct w w.heap.size (some ⟨g, 0, none⟩) n ys := by
  have hl : ys.length = n := by simpa using h.1
  rcases h.2 with ⟨_, h0⟩ | ⟨g, cap, cur, rfl, hg, hh, h1, h2, _⟩
  · omega
  · refine ⟨g, cap, rfl, h1, h2, hg, hl, hy, fun _ => ⟨g, 0, rfl, (h.lt g rfl).2, fun i x hx => ?_⟩⟩
    have := h.cells (g := g) rfl i (.int .u8 x) (by rw [List.getElem?_map, hx]; rfl)
    rwa [Addr.add_lit] at this
theorem joined_below {w0 w w' : World} {base : Nat} {v v' : Value} {xs ys : List Int} {n : Nat} {l : List Value} (hown : w.ownsRow base 5 1 v n l) (h : Joined w base v xs ys v' w') (hb : Below base w0 w) (hB : base ≤ w.heap.size) : Below base w0 w' ∧ base ≤ w'.heap.size :=
  ⟨hb.grown h.2.1 hB (fun k hk => (hown.lt k hk).1), Nat.le_trans hB h.2.1.size⟩
theorem Oct.upto {w : World} {B n : Nat} {A : Option Addr} {xs : List Int} (h : Oct w B A n xs) (i : Nat) (hi : i ≤ n) : Oct w B A i (xs.take i) := by
  refine ⟨by rw [List.length_take, h.1]; omega, fun x hx => h.2.1 x (List.mem_of_mem_take hx), fun hn => ?_⟩
  obtain ⟨b, o, e, hB, hc⟩ := h.2.2 (by omega)
  refine ⟨b, o, e, hB, fun j x hx => hc j x ?_⟩
  rw [List.getElem?_take] at hx
  split at hx
  · exact hx
  · cases hx
/-- The numbers of a slice of bytes that came in, up to its length, as octets. -/
theorem oct_of_row {w : World} {a0 : Option Addr} {len0 cap0 : Nat} {z0 : List Int} (h : IsRow .u8 w a0 len0 cap0 z0) : len0 ≤ cap0 ∧ cap0 ≤ maxLen ∧ Oct w w.heap.size a0 len0 (z0.take len0) := by
  rcases h with ⟨rfl, rfl, rfl, rfl⟩ | ⟨x, rfl, hl, hm, hz, hcell, hwz⟩
  · exact ⟨Nat.le_refl _, Nat.zero_le _, Oct.nil _ _ _⟩
  · refine ⟨hl, hm, by rw [List.length_take]; omega, fun y hy => wf_u8 (hwz y (List.mem_of_mem_take hy)), fun hn => ?_⟩
    obtain ⟨b, off, spot⟩ := x
    have hc := hcell 0 (by omega)
    have hspot : spot = none := by simpa [Addr.add] using World.cell?_spot hc
    subst hspot
    refine ⟨b, off, rfl, World.block_lt_of_cell? w _ hc, fun i y hy => ?_⟩
    rw [List.getElem?_take] at hy
    split at hy
    · have hi := (List.getElem?_eq_some_iff.1 hy).1
      have := hcell i hi
      rw [Addr.add_lit] at this
      rw [this, List.getD, hy]; rfl
    · cases hy
/-- What Put answers: a slice that reads as ys; nothing that was there has changed. -/
def PutAny (w : World) (ys : List Int) (e : Ending) (w' : World) : Prop :=
  ∃ A n c, e = .returned (.slice A n c) ∧ Oct w' w'.heap.size A n ys ∧ Below w.heap.size w w'
theorem own_any {w : World} {base n : Nat} {v : Value} {ys : List Int} (h : w.ownsRow base 5 1 v n (ys.map (Value.int .u8))) (hy : ∀ y ∈ ys, 0 ≤ y ∧ y ≤ 255) :
    ∃ A cap, v = .slice A n cap ∧ Oct w w.heap.size A n ys := by
  by_cases hn : 0 < n
  · obtain ⟨g, cap, rfl, _, _, _, hO⟩ := own_slice h hn hy
    exact ⟨_, cap, rfl, hO⟩
  · have hn0 : n = 0 := by omega
    subst hn0
    have hl : ys.length = 0 := by simpa using h.1
    have hys : ys = [] := List.eq_nil_of_length_eq_zero hl
    subst hys
    rcases h.2 with ⟨rfl, _⟩ | ⟨g, cap, cur, rfl, _⟩
    · exact ⟨none, 0, rfl, Oct.nil _ _ _⟩
    · exact ⟨_, cap, rfl, Oct.nil _ _ _⟩
/-- A slice that reads as ys, with the bounds of its capacity; nothing that was there has changed. -/
def PutSl (w : World) (ys : List Int) (e : Ending) (w' : World) : Prop :=
  ∃ A n c, e = .returned (.slice A n c) ∧ n ≤ c ∧ c ≤ maxLen ∧ Oct w' w'.heap.size A n ys ∧ Below w.heap.size w w'
theorem own_sl {w : World} {base n : Nat} {v : Value} {ys : List Int} (h : w.ownsRow base 5 1 v n (ys.map (Value.int .u8))) (hy : ∀ y ∈ ys, 0 ≤ y ∧ y ≤ 255) :
    ∃ A cap, v = .slice A n cap ∧ n ≤ cap ∧ cap ≤ maxLen ∧ Oct w w.heap.size A n ys := by
  by_cases hn : 0 < n
  · obtain ⟨g, cap, rfl, h1, h2, _, hO⟩ := own_slice h hn hy
    exact ⟨_, cap, rfl, h1, h2, hO⟩
  · have hn0 : n = 0 := by omega
    subst hn0
    have hl : ys.length = 0 := by simpa using h.1
    have hys : ys = [] := List.eq_nil_of_length_eq_zero hl
    subst hys
    rcases h.2 with ⟨rfl, _⟩ | ⟨g, cap, cur, rfl, _, _, h1, h2, _⟩
    · exact ⟨none, 0, rfl, Nat.le_refl _, Nat.zero_le _, Oct.nil _ _ _⟩
    · exact ⟨_, cap, rfl, h1, h2, Oct.nil _ _ _⟩
/-- A row of the call's own that reads as the octets ys; nothing that was there has changed. -/
def OwnSl (w : World) (base : Nat) (ys : List Int) (e : Ending) (w' : World) : Prop :=
  ∃ v, e = .returned v ∧ w'.ownsRow base 5 1 v ys.length (ys.map (Value.int .u8)) ∧ Below base w w' ∧ base ≤ w'.heap.size
/-- Where a slice of capacity m begins that is cut l elements behind A. -/
theorem Oct.cutA {w : World} {B n : Nat} {A : Option Addr} {xs : List Int} (h : Oct w B A n xs) (l m : Nat) (hn : n ≤ m) (hl : l ≤ n) : Oct w B (cutA A l m) (n - l) (xs.drop l) := by
  refine ⟨by rw [List.length_drop, h.1], fun x hx => h.2.1 x (List.mem_of_mem_drop hx), fun h0 => ?_⟩
  obtain ⟨b, o, rfl, hB, hc⟩ := h.2.2 (by omega)
  refine ⟨b, o + l, ?_, hB, fun i x hx => ?_⟩
  · unfold Go.Proofs.Ytakbbenegojcdaa.cutA
    rw [if_neg (by omega), Option.map_some, Addr.add_lit, Nat.mul_one]
  · have := hc (l + i) x (by rw [List.getElem?_drop] at hx; exact hx)
    rwa [Nat.add_assoc]
theorem sizeOf_octet (w : World) : (sizeOf 5).run Try.prog w = .ok 1 w := by
  obtain ⟨i0, hi0, hz0, hz1, hz2⟩ := info_parts info5
  simp [sizeOf, typeInfo, hi0, hz1]
theorem elem_octets : Try.prog.elem 22 = 5 := by kernel_rfl
theorem run_cut_l (A : Option Addr) (n c l : Nat) (lo : Int) (e : lo = l) (h : l ≤ n) (w : World) :
    (Instr.sliceAt 22 (.slice A n c) (some (.int .i64 lo)) none none).run Try.prog w = .ok (.slice (cutA A l c) (n - l) (c - l)) w := by
  subst e
  rw [run_sliceAt_slice _ _ _ _ _ _ Try.underlying22, run_slice_l _ _ _ _ _ Try.underlying22 _ _ (by omega) (by omega), elem_octets, sizeOf_octet]
  rfl
theorem run_cut_h (A : Option Addr) (n c l : Nat) (hi : Int) (e : hi = l) (h : l ≤ c) (w : World) :
    (Instr.sliceAt 22 (.slice A n c) none (some (.int .i64 hi)) none).run Try.prog w = .ok (.slice A l c) w := by
  subst e
  rw [run_sliceAt_slice _ _ _ _ _ _ Try.underlying22, run_slice_h _ _ _ _ _ Try.underlying22 _ _ (by omega) (by omega), elem_octets, sizeOf_octet]
  cases A with
  | none => simp [sliced, Result.andThen]
  | some a => simp [sliced, Result.andThen, Addr.add]
theorem run_cut_hm (A : Option Addr) (n c l : Nat) (hi : Int) (e : hi = l) (h : l ≤ c) (w : World) :
    (Instr.sliceAt 22 (.slice A n c) none (some (.int .i64 hi)) (some (.int .i64 hi))).run Try.prog w = .ok (.slice A l l) w := by
  subst e
  rw [run_sliceAt_slice _ _ _ _ _ _ Try.underlying22, run_slice_hm _ _ _ _ _ Try.underlying22 _ _ _ _ (by omega) (by omega) (by omega), elem_octets, sizeOf_octet]
  cases A with
  | none => simp [sliced, Result.andThen]
  | some a => simp [sliced, Result.andThen, Addr.add]
theorem run_cut_lh (A : Option Addr) (n c l m : Nat) (lo hi : Int) (e : lo = l) (e2 : hi = m) (h : l ≤ m) (h2 : m ≤ c) (w : World) :
    (Instr.sliceAt 22 (.slice A n c) (some (.int .i64 lo)) (some (.int .i64 hi)) none).run Try.prog w = .ok (.slice (cutA A l c) (m - l) (c - l)) w := by
  subst e e2
  rw [run_sliceAt_slice _ _ _ _ _ _ Try.underlying22, run_slice_lh _ _ _ _ _ Try.underlying22 _ _ _ _ (by omega) (by omega) (by omega), elem_octets, sizeOf_octet]
  rfl
theorem make_room (k : Nat) (K : Int) (hK : K = k) (hb : k ≤ 140737488355328) (w : World) :
    (Instr.makeSlice 22 (.int .i64 0) (.int .i64 K)).run Try.prog w = .ok (.slice (some ⟨w.heap.size, 0, none⟩) 0 k) (w.alloc (.cells (zeros k).toArray 5)) := by
  have h := make_row 0 k K hK (by omega) w
  simpa using h
theorem room_own (k : Nat) (hb : k ≤ maxLen) (w : World) : (w.alloc (.cells (zeros k).toArray 5)).ownsRow w.heap.size 5 1 (.slice (some ⟨w.heap.size, 0, none⟩) 0 k) 0 [] :=
  ⟨rfl, .inr ⟨w.heap.size, k, _, rfl, Nat.le_refl _, heap_alloc_new w _, Nat.zero_le _, hb, by simp [zeros], rfl⟩⟩
def IsTrue (w : World) (e : Ending) (w' : World) : Prop := e = .returned (.bool true) ∧ Below w.heap.size w w'
theorem own_empty (W w' : World) (h : Below (W.heap.size + 1) (W.alloc (.cells #[] 5)) w') : w'.ownsRow W.heap.size 5 1 (.slice (some ⟨W.heap.size, 0, none⟩) 0 0) 0 [] :=
  ⟨rfl, .inr ⟨W.heap.size, 0, #[], rfl, Nat.le_refl _, (h.block _ (by omega)).trans (heap_alloc_new W _), Nat.le_refl _, Nat.zero_le _, rfl, rfl⟩⟩
end Go.Proofs.Ytakbbenegojcdaa
