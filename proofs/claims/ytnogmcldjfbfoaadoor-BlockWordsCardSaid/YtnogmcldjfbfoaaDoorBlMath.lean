/-
  What the laws say of the pure functions.
-/
import Derived.Test.YtnogmcldjfbfoaaDoorBlVal
namespace Go.Proofs.YtnogmcldjfbfoaaDoor
open Go.ChangeShapes Go.WideShapes Go.ChangeAt Go.RowKit
set_option linter.unusedVariables false

theorem byte_nat (X : BitVec 32) (s : Nat) : ((X >>> s &&& 255#32).setWidth 8).toNat = X.toNat / 2 ^ s % 256 := by
  have h255 : (255#32).toNat = 2 ^ 8 - 1 := rfl
  rw [BitVec.toNat_setWidth, BitVec.toNat_and, BitVec.toNat_ushiftRight, h255, Nat.and_two_pow_sub_one_eq_mod, Nat.shiftRight_eq_div_pow]
  omega
theorem byte_of (b : Nat → BitVec 8) (t k : Nat) (ht : t < 16) (hk : k < 4) : (spr b t >>> (24 - 8 * k) &&& 255#32).setWidth 8 = b (4 * t + k) := by
  rw [spr_lo b ht]
  apply BitVec.eq_of_toNat_eq
  rw [byte_nat]
  unfold w4
  rw [wd_nat]
  have h0 := (b (4 * t)).isLt
  have h1 := (b (4 * t + 1)).isLt
  have h2 := (b (4 * t + 2)).isLt
  have h3 := (b (4 * t + 3)).isLt
  rcases (by omega : k = 0 ∨ k = 1 ∨ k = 2 ∨ k = 3) with rfl | rfl | rfl | rfl
  · rw [show 4 * t + 0 = 4 * t from rfl, show (24 - 8 * 0 : Nat) = 24 from rfl]
    generalize (b (4 * t)).toNat = a0 at *
    generalize (b (4 * t + 1)).toNat = a1 at *
    generalize (b (4 * t + 2)).toNat = a2 at *
    generalize (b (4 * t + 3)).toNat = a3 at *
    omega
  · rw [show (24 - 8 * 1 : Nat) = 16 from rfl]
    generalize (b (4 * t)).toNat = a0 at *
    generalize (b (4 * t + 1)).toNat = a1 at *
    generalize (b (4 * t + 2)).toNat = a2 at *
    generalize (b (4 * t + 3)).toNat = a3 at *
    omega
  · rw [show (24 - 8 * 2 : Nat) = 8 from rfl]
    generalize (b (4 * t)).toNat = a0 at *
    generalize (b (4 * t + 1)).toNat = a1 at *
    generalize (b (4 * t + 2)).toNat = a2 at *
    generalize (b (4 * t + 3)).toNat = a3 at *
    omega
  · rw [show (24 - 8 * 3 : Nat) = 0 from rfl]
    generalize (b (4 * t)).toNat = a0 at *
    generalize (b (4 * t + 1)).toNat = a1 at *
    generalize (b (4 * t + 2)).toNat = a2 at *
    generalize (b (4 * t + 3)).toNat = a3 at *
    omega
def zF (W : Nat → BitVec 32) : Nat → Nat → BitVec 32
  | 0 => W
  | k + 1 => upd (zF W k) k 0#32
theorem zF_eq (W : Nat → BitVec 32) : ∀ k i, zF W k i = if i < k then 0#32 else W i := by
  intro k
  induction k with
  | zero => intro i; simp [zF]
  | succ k ih =>
    intro i
    simp only [zF, upd, ih]
    by_cases e : i = k
    · subst e; simp
    · by_cases l : i < k
      · simp [e, l, show i < k + 1 by omega]
      · simp [e, l, show ¬ i < k + 1 by omega]
def bkn (V : Nat → BitVec 32) (t : Nat) : BitVec 32 := V t - lowX (V (t - 15)) - V (t - 7) - lowY (V (t - 2))
def bk (W : Nat → BitVec 32) : Nat → Nat → BitVec 32
  | 0 => zF W 48
  | k + 1 => upd (bk W k) (63 - k - 16) (bkn (bk W k) (63 - k))
theorem add3_sub3 (a x y z : BitVec 32) : a + x + y + z - x - y - z = a := by
  rw [show a + x + y + z = a + z + y + x by ac_rfl, BitVec.add_sub_cancel, BitVec.add_sub_cancel, BitVec.add_sub_cancel]
theorem bk_eq (b : Nat → BitVec 8) : ∀ k, k ≤ 48 → ∀ i, 48 - k ≤ i → i < 64 → bk (spr b) k i = spr b i := by
  intro k
  induction k with
  | zero =>
    intro _ i h1 h2
    show zF (spr b) 48 i = _
    rw [zF_eq, if_neg (by omega)]
  | succ k ih =>
    intro hk i h1 h2
    have ih := ih (by omega)
    show upd (bk (spr b) k) (63 - k - 16) (bkn (bk (spr b) k) (63 - k)) i = _
    unfold upd
    by_cases e : i = 63 - k - 16
    · rw [if_pos e]
      unfold bkn
      rw [ih (63 - k) (by omega) (by omega), ih (63 - k - 15) (by omega) (by omega), ih (63 - k - 7) (by omega) (by omega), ih (63 - k - 2) (by omega) (by omega)]
      have q := spr_hi b (k := 47 - k) (by omega)
      rw [show 16 + (47 - k) = 63 - k by omega] at q
      unfold nxw at q
      rw [q, add3_sub3, e]
    · rw [if_neg e]
      exact ih i (by omega) h2
theorem bk_end (b : Nat → BitVec 8) : cW 64 (bk (spr b) 48) = cW 64 (spr b) := cW_ext fun i hi => bk_eq b 48 (by omega) i (by omega) hi

theorem cancel1 (x y c : BitVec 32) (h : x + c = y + c) : x = y := by
  have := congrArg (fun q => q - c) h
  simpa [BitVec.add_sub_cancel] using this
theorem cancel3 (x y a c n : BitVec 32) (h : x + a + c + n = y + a + c + n) : x = y := cancel1 _ _ _ (cancel1 _ _ _ (cancel1 _ _ _ h))
theorem stepF_inj {h g : Nat → BitVec 32} {nw : BitVec 32} (e : ∀ n, n < 8 → stepF h nw n = stepF g nw n) : ∀ n, n < 8 → h n = g n := by
  have a0 : h 0 = g 0 := e 1 (by omega)
  have a1 : h 1 = g 1 := e 2 (by omega)
  have a2 : h 2 = g 2 := e 3 (by omega)
  have a4 : h 4 = g 4 := e 5 (by omega)
  have a5 : h 5 = g 5 := e 6 (by omega)
  have a6 : h 6 = g 6 := e 7 (by omega)
  have x0 : pP h nw + pQ h = pP g nw + pQ g := e 0 (by omega)
  have x4 : h 3 + pP h nw = g 3 + pP g nw := e 4 (by omega)
  have hq : pQ h = pQ g := by
    unfold pQ
    rw [a0, a1, a2]
  rw [hq] at x0
  have hp := cancel1 _ _ _ x0
  rw [hp] at x4
  have a3 := cancel1 _ _ _ x4
  unfold pP at hp
  rw [a4, a5, a6] at hp
  have a7 := cancel3 _ _ _ _ _ hp
  intro n hn
  rcases (by omega : n = 0 ∨ n = 1 ∨ n = 2 ∨ n = 3 ∨ n = 4 ∨ n = 5 ∨ n = 6 ∨ n = 7) with rfl | rfl | rfl | rfl | rfl | rfl | rfl | rfl <;> assumption
theorem vF_inj (b : Nat → BitVec 8) {h g : Nat → BitVec 32} : ∀ t, (∀ n, n < 8 → vF h b t n = vF g b t n) → ∀ n, n < 8 → h n = g n := by
  intro t
  induction t with
  | zero => intro e; exact e
  | succ t ih => intro e; exact ih (stepF_inj e)
def sm (x h y g : Nat → BitVec 32) : Nat → Bool
  | 0 => true
  | n + 1 => sm x h y g n && decide (x n - h n = y n - g n)
theorem sm_iff (x h y g : Nat → BitVec 32) : ∀ n, sm x h y g n = true ↔ ∀ i, i < n → x i - h i = y i - g i := by
  intro n
  induction n with
  | zero => simp [sm]
  | succ n ih =>
    simp only [sm, Bool.and_eq_true, ih, decide_eq_true_eq]
    constructor
    · rintro ⟨h1, h2⟩ i hi
      rcases (by omega : i < n ∨ i = n) with q | rfl
      · exact h1 i q
      · exact h2
    · intro h
      exact ⟨fun i hi => h i (by omega), h n (by omega)⟩
theorem mix_sub (h : Nat → BitVec 32) (b : Nat → BitVec 8) (n : Nat) : mixF h b n - h n = vF h b 64 n := by
  unfold mixF
  generalize h n = a
  generalize vF h b 64 n = c
  rw [BitVec.add_comm, BitVec.add_sub_cancel]
theorem xor_back {m : Nat} (a y : BitVec m) (h : a = a ^^^ y) : y = 0#m := by
  have : a ^^^ (a ^^^ y) = y := by rw [← BitVec.xor_assoc, BitVec.xor_self, BitVec.zero_xor]
  rw [← h, BitVec.xor_self] at this
  exact this.symm
theorem undo_sm (h : Nat → BitVec 32) (b : Nat → BitVec 8) (i : Nat) (y : BitVec 32) (hi : i < 8) :
    sm (mixF h b) h (mixF (upd h i (h i ^^^ y)) b) (upd h i (h i ^^^ y)) 8 = decide (y = 0#32) := by
  by_cases e : y = 0#32
  · subst e
    have hg : upd h i (h i ^^^ 0#32) = h := by
      funext n
      unfold upd
      by_cases q : n = i
      · subst q; simp
      · simp [q]
    rw [hg]
    simp only [decide_true]
    exact (sm_iff _ _ _ _ 8).2 fun n _ => rfl
  · rw [decide_eq_false e, Bool.eq_false_iff]
    intro q
    have q := (sm_iff _ _ _ _ 8).1 q
    have q2 : ∀ n, n < 8 → vF h b 64 n = vF (upd h i (h i ^^^ y)) b 64 n := fun n hn => by
      have := q n hn
      rw [mix_sub, mix_sub] at this
      exact this
    have q3 := vF_inj b 64 q2 i hi
    unfold upd at q3
    rw [if_pos rfl] at q3
    exact e (xor_back _ _ q3)
theorem words_iff (b : Nat → BitVec 8) (k t : Nat) (y : BitVec 8) (ht : t < 16) : (spr b t = spr (upd b k (b k ^^^ y)) t) ↔ (y = 0#8 ∨ t ≠ k / 4) := by
  rw [spr_lo _ ht, spr_lo _ ht]
  constructor
  · intro h
    by_cases e : t = k / 4
    · refine .inl ?_
      have h' := congrArg BitVec.toNat h
      unfold w4 at h'
      rw [wd_nat, wd_nat] at h'
      have l0 := (b (4 * t)).isLt
      have l1 := (b (4 * t + 1)).isLt
      have l2 := (b (4 * t + 2)).isLt
      have l3 := (b (4 * t + 3)).isLt
      have m0 := (upd b k (b k ^^^ y) (4 * t)).isLt
      have m1 := (upd b k (b k ^^^ y) (4 * t + 1)).isLt
      have m2 := (upd b k (b k ^^^ y) (4 * t + 2)).isLt
      have m3 := (upd b k (b k ^^^ y) (4 * t + 3)).isLt
      have key : ∀ r, r < 4 → b (4 * t + r) = upd b k (b k ^^^ y) (4 * t + r) := by
        intro r hr
        apply BitVec.eq_of_toNat_eq
        rcases (by omega : r = 0 ∨ r = 1 ∨ r = 2 ∨ r = 3) with rfl | rfl | rfl | rfl
        · show (b (4 * t)).toNat = (upd b k (b k ^^^ y) (4 * t)).toNat
          omega
        · omega
        · omega
        · omega
      have hk := key (k - 4 * t) (by omega)
      rw [show 4 * t + (k - 4 * t) = k by omega] at hk
      have hu : upd b k (b k ^^^ y) k = b k ^^^ y := by
        unfold upd
        rw [if_pos rfl]
      rw [hu] at hk
      exact xor_back _ _ hk
    · exact .inr e
  · rintro (h | h)
    · subst h
      have hg : upd b k (b k ^^^ 0#8) = b := by
        funext n
        unfold upd
        by_cases q : n = k
        · subst q; simp
        · simp [q]
      rw [hg]
    · unfold w4
      have o : ∀ r, r < 4 → upd b k (b k ^^^ y) (4 * t + r) = b (4 * t + r) := fun r hr => by
        unfold upd
        rw [if_neg (by omega)]
      have o0 : upd b k (b k ^^^ y) (4 * t) = b (4 * t) := o 0 (by omega)
      rw [o0, o 1 (by omega), o 2 (by omega), o 3 (by omega)]
theorem upd_same (b : Nat → BitVec 8) (k : Nat) : upd b k (b k ^^^ 0#8) = b := by
  funext n
  unfold upd
  by_cases q : n = k
  · subst q; simp
  · simp [q]
end Go.Proofs.YtnogmcldjfbfoaaDoor
