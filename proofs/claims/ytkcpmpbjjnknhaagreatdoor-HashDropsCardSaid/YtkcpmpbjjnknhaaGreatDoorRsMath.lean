/-
  Who has a key below a node: pure.
-/
import Derived.Test.YtkcpmpbjjnknhaaGreatDoorKitT
import Derived.Test.YtkcpmpbjjnknhaaGreatDoorKitI
namespace Go.Proofs.YtkcpmpbjjnknhaaGreatDoor
open Go.ChangeShapes Go.WideShapes Go.ChangeAt Go.RowKit
set_option linter.unusedVariables false

/-- The children of a node. -/
def kidI (x w : Int) (i : Nat) : Int := if i = 0 then leftI x w else rightI x w
theorem kids {x w : Int} (h : isN x w) : 0 ≤ lvl x ∧ lvl x ≤ 6 ∧ (lvl x = 0 → leftI x w = -1 ∧ rightI x w = -1) ∧ (lvl x ≠ 0 → isN (leftI x w) w ∧ isN (rightI x w) w ∧ lvl (leftI x w) = lvl x - 1 ∧ lvl (rightI x w) = lvl x - 1) :=
  fin2 (p := fun x w => 0 ≤ lvl x ∧ lvl x ≤ 6 ∧ (lvl x = 0 → leftI x w = -1 ∧ rightI x w = -1) ∧ (lvl x ≠ 0 → isN (leftI x w) w ∧ isN (rightI x w) w ∧ lvl (leftI x w) = lvl x - 1 ∧ lvl (rightI x w) = lvl x - 1)) (by kernel_rfl) h
theorem kid_lvl {x w : Int} {i : Nat} (h : isN x w) (hk : isN (kidI x w i) w) : lvl (kidI x w i) = lvl x - 1 := by
  obtain ⟨_, _, h0, h1⟩ := kids h
  by_cases q : lvl x = 0
  · obtain ⟨a, b⟩ := h0 q
    unfold kidI at hk
    split at hk <;> (have := hk.2.1; omega)
  · obtain ⟨_, _, a, b⟩ := h1 q
    unfold kidI
    split <;> assumption
/-- What is told of a node, if ks is told of its children. -/
def hiF (t : List Nd) (x : Int) (ks : Nat → List Int) : List Int := if isN x (t.length : Int) then (if (atN t x.toNat).kind = 0 then ks 0 ++ ks 1 else [x]) else []
/-- The nodes at or below one that are not blank, and have none such above them there. -/
def hiN : Nat → List Nd → Int → List Int
  | 0, _, _ => []
  | n + 1, t, x => hiF t x fun i => hiN n t (kidI x t.length i)
def hiL (t : List Nd) (x : Int) : List Int := hiN 7 t x
theorem hi_no {t : List Nd} {x : Int} {ks : Nat → List Int} (h : ¬ isN x (t.length : Int)) : hiF t x ks = [] := if_neg h
theorem hi_one {t : List Nd} {x : Int} {ks : Nat → List Int} (h : isN x (t.length : Int)) (hk : ¬ (atN t x.toNat).kind = 0) : hiF t x ks = [x] := by
  unfold hiF
  rw [if_pos h, if_neg hk]
theorem hi_two {t : List Nd} {x : Int} {ks : Nat → List Int} (h : isN x (t.length : Int)) (hk : (atN t x.toNat).kind = 0) : hiF t x ks = ks 0 ++ ks 1 := by
  unfold hiF
  rw [if_pos h, if_pos hk]
theorem hi_more : ∀ (n : Nat) (t : List Nd) (x : Int), (isN x (t.length : Int) → lvl x < n) → hiN (n + 1) t x = hiN n t x
  | 0, t, x, h => by
    by_cases q : isN x (t.length : Int)
    · have := h q
      have := (kids q).1
      omega
    · exact hi_no q
  | n + 1, t, x, h => by
    by_cases q : isN x (t.length : Int)
    · have e : ∀ i, hiN (n + 1) t (kidI x t.length i) = hiN n t (kidI x t.length i) := fun i => hi_more n t _ fun k => by
        have := kid_lvl q k
        have := h q
        omega
      show hiF t x _ = hiF t x _
      unfold hiF
      rw [if_pos q, if_pos q]
      simp only [e]
    · exact (hi_no q).trans (hi_no q).symm
theorem hi_eq (t : List Nd) (x : Int) : hiL t x = hiF t x fun i => hiL t (kidI x t.length i) := by
  have : hiN 8 t x = hiN 7 t x := hi_more 7 t x fun h => by have := (kids h).2.1; omega
  exact this.symm
/-- The children's, as far as they have come. -/
def hiK (ks : Nat → List Int) : Nat → List Int
  | 0 => []
  | n + 1 => hiK ks n ++ ks n
theorem hiK_two (ks : Nat → List Int) : hiK ks 2 = ks 0 ++ ks 1 := by simp [hiK]
theorem hiK_pre {ks : Nat → List Int} {t : Nat} {pre : List Int} (ht : t < 2) (h : pre <+: ks t) : hiK ks t ++ pre <+: ks 0 ++ ks 1 := by
  rw [← hiK_two]
  obtain ⟨r, hr⟩ := h
  rcases (by omega : t = 0 ∨ t = 1) with rfl | rfl
  · exact ⟨r ++ ks 1, by simp [hiK, ← hr]⟩
  · exact ⟨r, by simp [hiK, ← hr]⟩
/-- A node that is told, and who does not know it. -/
def nodeR (t : List Nd) (k : Int) : List Int := k :: (atN t k.toNat).inner.unm.map (2 * ·)
def resOf (t : List Nd) (l : List Int) : List Int := l.flatMap (nodeR t)
/-- Who has a key below a node. -/
def resL (t : List Nd) (x : Int) : List Int := resOf t (hiL t x)
theorem resOf_snoc (t : List Nd) (l : List Int) (k : Int) : resOf t (l ++ [k]) = resOf t l ++ nodeR t k := by simp [resOf]
theorem hiN_s (n : Nat) (t : List Nd) (x : Int) : hiN (n + 1) t x = hiF t x fun i => hiN n t (kidI x t.length i) := rfl
theorem hiN_isN : ∀ (n : Nat) (t : List Nd) (x k : Int), k ∈ hiN n t x → isN k (t.length : Int) ∧ (atN t k.toNat).kind ≠ 0
  | 0, t, x, k, h => by cases h
  | n + 1, t, x, k, h => by
    rw [hiN_s] at h
    by_cases q : isN x (t.length : Int)
    · by_cases r : (atN t x.toNat).kind = 0
      · rw [hi_two q r] at h
        rcases List.mem_append.1 h with h | h
        · exact hiN_isN n t _ k h
        · exact hiN_isN n t _ k h
      · rw [hi_one q r] at h
        obtain rfl : k = x := List.mem_singleton.1 h
        exact ⟨q, r⟩
    · rw [hi_no q] at h
      cases h
theorem hiN_len : ∀ (n : Nat) (t : List Nd) (x : Int), (hiN n t x).length ≤ 2 ^ n
  | 0, _, _ => Nat.zero_le _
  | n + 1, t, x => by
    have h0 := hiN_len n t (kidI x t.length 0)
    have h1 := hiN_len n t (kidI x t.length 1)
    show (hiF t x _).length ≤ _
    rw [Nat.pow_succ]
    unfold hiF
    have hp := Nat.two_pow_pos n
    split
    · split
      · rw [List.length_append]
        show (hiN n t _).length + (hiN n t _).length ≤ _
        omega
      · simp only [List.length_cons, List.length_nil]
        omega
    · exact Nat.zero_le _
theorem hiL_len (t : List Nd) (x : Int) : (hiL t x).length ≤ 128 := hiN_len 7 t x
theorem unm_small {a : List Nd} (h : trIs a) (i : Nat) : (∀ x ∈ (atN a i).inner.unm, 0 ≤ x ∧ x < 64) ∧ (atN a i).inner.unm.length ≤ 64 := by
  have ok := (trIs_ok h i).1
  have no : ¬ (atN a i).kind = 2 → (atN a i).inner.unm = [] := fun k => by
    unfold ndCheck at ok
    split at ok
    · omega
    · split at ok
      · omega
      · rename_i q
        have : PnSame (atN a i).inner Pn.zero := Classical.byContradiction fun z => q (.inr ⟨k, z⟩)
        exact this.2.2
  by_cases k : (atN a i).kind = 2
  · have hp : pnCheck (atN a i).inner = 0 := by
      unfold ndCheck at ok
      repeat' split at ok
      all_goals first | exact ok | omega
    exact ⟨(pnCheck_nums hp).1, (pnCheck_ok hp).2.2.2⟩
  · rw [no k]
    exact ⟨fun x q => absurd q (by simp), Nat.zero_le _⟩
theorem resOf_len {a : List Nd} (h : trIs a) : ∀ l : List Int, (resOf a l).length ≤ 65 * l.length
  | [] => Nat.le_refl _
  | k :: l => by
    have h1 := resOf_len h l
    have h2 := (unm_small h k.toNat).2
    have e : resOf a (k :: l) = nodeR a k ++ resOf a l := by simp [resOf]
    rw [e, List.length_append]
    simp only [nodeR, List.length_cons, List.length_map]
    omega
/-- What a round of the loop over those that are told knows. -/
theorem told_at {a : List Nd} {x k : Int} {pre : List Int} (h : trIs a) (hp : pre ++ [k] <+: hiL a x) : isN k (a.length : Int) ∧ (atN a k.toNat).kind ≠ 0 ∧ (resOf a pre).length ≤ 8255 := by
  obtain ⟨r, hr⟩ := hp
  have hm : k ∈ hiL a x := by rw [← hr]; simp
  have h1 := hiN_isN 7 a x k hm
  have h2 := hiL_len a x
  have h3 := resOf_len h pre
  rw [← hr] at h2
  simp only [List.length_append, List.length_cons, List.length_nil] at h2
  exact ⟨h1.1, h1.2, by omega⟩
theorem res_nil (x : Int) : resL [] x = [] := by
  unfold resL
  rw [hi_eq, hi_no (fun q => by have := q.le; simp only [List.length_nil] at this; omega)]
  rfl
theorem hi_none {t : List Nd} {x : Int} (h : ¬ isN x (t.length : Int)) : hiL t x = [] := by
  rw [hi_eq, hi_no h]
theorem hi_both {t : List Nd} {x : Int} (h : isN x (t.length : Int)) (hk : (atN t x.toNat).kind = 0) : hiL t x = hiL t (leftI x t.length) ++ hiL t (rightI x t.length) := by
  rw [hi_eq, hi_two h hk]
  rfl
theorem even_lvl {x w : Int} (h : isN x w) : x % 2 = 0 ↔ lvl x = 0 := fin2 (p := fun x w => x % 2 = 0 ↔ lvl x = 0) (by kernel_rfl) h
theorem hi_leaf {t : List Nd} {x : Int} (h : isN x (t.length : Int)) (hk : (atN t x.toNat).kind = 0) (he : x % 2 = 0) : hiL t x = [] := by
  obtain ⟨_, _, k, _⟩ := kids h
  obtain ⟨a, b⟩ := k ((even_lvl h).1 he)
  rw [hi_both h hk, a, b, hi_none (fun q => by have := q.2.1; omega)]
  rfl
theorem odd_kids {x w : Int} (h : isN x w) (ho : ¬ x % 2 = 0) : (isN (leftI x w) w ∧ lvl (leftI x w) = lvl x - 1) ∧ isN (rightI x w) w ∧ lvl (rightI x w) = lvl x - 1 := by
  obtain ⟨_, _, _, k⟩ := kids h
  obtain ⟨a, b, c, d⟩ := k fun q => ho ((even_lvl h).2 q)
  exact ⟨⟨a, c⟩, b, d⟩
end Go.Proofs.YtkcpmpbjjnknhaaGreatDoor
