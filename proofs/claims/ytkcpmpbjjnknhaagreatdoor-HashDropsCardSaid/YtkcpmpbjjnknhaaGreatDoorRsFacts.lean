/-
  What the statements of layer 11 ask of those that are told: pure.
-/
import Derived.Test.YtkcpmpbjjnknhaaGreatDoorRsMath
import Derived.Test.YtkcpmpbjjnknhaaGreatDoorKitI
namespace Go.Proofs.YtkcpmpbjjnknhaaGreatDoor
open Go.ChangeShapes Go.WideShapes Go.ChangeAt Go.RowKit
set_option linter.unusedVariables false

-- children, and below
def lftN (x : Nat) : Nat := x - p2 (lvlN x - 1)
def rgtN (x : Nat) : Nat := x + p2 (lvlN x - 1)
theorem pairs7 : all3N (fun x y w => bif Nat.beq (lvlN x) 0 then (undN y x == Nat.beq y x) else ((undN y x == (Nat.beq y x || undN y (lftN x) || undN y (rgtN x))) && !(undN y (lftN x) && undN y (rgtN x)) && (!undN y (rgtN x) || Nat.ble (x + 1) y))) = true := by kernel_rfl
theorem kids_nat {x w : Int} (h : isN x w) : lvl x = ((lvlN x.toNat : Nat) : Int) ∧ (lvl x ≠ 0 → leftI x w = ((lftN x.toNat : Nat) : Int) ∧ rightI x w = ((rgtN x.toNat : Nat) : Int)) :=
  fin2 (p := fun x w => lvl x = ((lvlN x.toNat : Nat) : Int) ∧ (lvl x ≠ 0 → leftI x w = ((lftN x.toNat : Nat) : Int) ∧ rightI x w = ((rgtN x.toNat : Nat) : Int))) (by kernel_rfl) h
theorem und_refl {x w : Int} (h : isN x w) : undI x x w := (und_dir h h).1 (.inl rfl)
theorem und_all {x y w : Int} (hx : isN x w) (hl : lvl x ≠ 0) (hy : isN y w) : (undI y x w ↔ y = x ∨ undI y (leftI x w) w ∨ undI y (rightI x w) w) ∧ ¬ (undI y (leftI x w) w ∧ undI y (rightI x w) w) ∧ (undI y (rightI x w) w → x < y) := by
  have hk := kids_nat hx
  obtain ⟨_, _, _, kk⟩ := kids hx
  obtain ⟨ka, kb, _, _⟩ := kk hl
  obtain ⟨el, er⟩ := hk.2 hl
  rw [el] at ka
  rw [er] at kb
  rw [el, er]
  obtain ⟨n, v, rfl, rfl, hv, hn⟩ := nat_of hx
  obtain ⟨m, v2, rfl, e, _, hm⟩ := nat_of hy
  obtain rfl : v = v2 := by omega
  have h := fin3N pairs7 hv hn hm
  simp only [Int.toNat_natCast] at hk ka kb ⊢
  have h0 : Nat.beq (lvlN n) 0 = false := by
    rw [Bool.eq_false_iff]
    intro t
    have := Nat.eq_of_beq_eq_true t
    omega
  rw [h0] at h
  simp only [cond_false, Bool.and_eq_true, beq_iff_eq] at h
  obtain ⟨⟨h1, h2⟩, h3⟩ := h
  have eu : ∀ z : Nat, isN (z : Int) v → (undI (m : Int) (z : Int) v ↔ undN m z = true) := fun z hz => by unfold undI; simp [hy, hz]
  rw [eu _ hx, eu _ ka, eu _ kb, h1]
  refine ⟨?_, ?_, ?_⟩
  · rw [Bool.or_eq_true, Bool.or_eq_true, Nat.beq_eq, or_assoc]
    constructor
    · exact fun q => q.imp (fun e => by omega) id
    · exact fun q => q.imp (fun e => by omega) id
  · rintro ⟨a, b⟩
    rw [a, b] at h2
    cases h2
  · intro a
    rw [a] at h3
    have : Nat.ble (n + 1) m = true := by simpa using h3
    have := Nat.le_of_ble_eq_true this
    omega
theorem und_kids {x y w : Int} (hx : isN x w) (hl : lvl x ≠ 0) : undI y x w ↔ y = x ∨ undI y (leftI x w) w ∨ undI y (rightI x w) w := by
  by_cases hy : isN y w
  · exact (und_all hx hl hy).1
  · exact ⟨fun u => absurd u.1 hy, fun u => by
      rcases u with e | u | u
      · exact absurd (e ▸ hx) hy
      · exact absurd u.1 hy
      · exact absurd u.1 hy⟩
-- those that are told of a node
theorem hi_ind {t : List Nd} {P : Int → Prop} (step : ∀ x, isN x (t.length : Int) → ((atN t x.toNat).kind = 0 → ¬ x % 2 = 0 → P (leftI x t.length) ∧ P (rightI x t.length)) → P x) : ∀ (n : Nat) (x : Int), isN x (t.length : Int) → lvl x < n → P x
  | 0, x, h, hl => by
    have := (kids h).1
    omega
  | n + 1, x, h, hl => step x h fun hk ho => by
    obtain ⟨⟨a, b⟩, c, d⟩ := odd_kids h ho
    exact ⟨hi_ind step n _ a (by omega), hi_ind step n _ c (by omega)⟩
theorem hi_all {t : List Nd} {P : Int → Prop} (one : ∀ x, isN x (t.length : Int) → ¬ (atN t x.toNat).kind = 0 → hiL t x = [x] → P x) (leaf : ∀ x, isN x (t.length : Int) → (atN t x.toNat).kind = 0 → lvl x = 0 → hiL t x = [] → P x)
    (both : ∀ x, isN x (t.length : Int) → (atN t x.toNat).kind = 0 → lvl x ≠ 0 → hiL t x = hiL t (leftI x t.length) ++ hiL t (rightI x t.length) → isN (leftI x t.length) t.length → isN (rightI x t.length) t.length → P (leftI x t.length) → P (rightI x t.length) → P x) {x : Int} (h : isN x (t.length : Int)) : P x := by
  refine hi_ind (fun x h ih => ?_) 7 x h (by have := (kids h).2.1; omega)
  by_cases q : (atN t x.toNat).kind = 0
  · by_cases e : x % 2 = 0
    · exact leaf x h q ((even_lvl h).1 e) (hi_leaf h q e)
    · obtain ⟨⟨a, _⟩, b, _⟩ := odd_kids h e
      obtain ⟨pa, pb⟩ := ih q e
      exact both x h q (fun z => e ((even_lvl h).2 z)) (hi_both h q) a b pa pb
  · exact one x h q (by rw [hi_eq, hi_one h q])
theorem hi_und {t : List Nd} {x : Int} (h : isN x (t.length : Int)) : ∀ k ∈ hiL t x, undI k x t.length :=
  hi_all (P := fun x => ∀ k ∈ hiL t x, undI k x t.length)
    (fun x h _ e k hk => by
      rw [e, List.mem_singleton] at hk
      rw [hk]
      exact und_refl h)
    (fun x h _ _ e k hk => by
      rw [e] at hk
      cases hk)
    (fun x h _ hl e _ _ a b k hk => by
      rw [e] at hk
      rcases List.mem_append.1 hk with hk | hk
      · exact (und_kids h hl).2 (.inr (.inl (a k hk)))
      · exact (und_kids h hl).2 (.inr (.inr (b k hk)))) h
theorem hi_in {t : List Nd} {x k : Int} (hk : k ∈ hiL t x) : isN x (t.length : Int) ∧ isN k (t.length : Int) ∧ (atN t k.toNat).kind ≠ 0 ∧ undI k x t.length := by
  have hx : isN x (t.length : Int) := Classical.byContradiction fun q => by
    rw [hi_none q] at hk
    cases hk
  have h1 := hiN_isN 7 t x k hk
  exact ⟨hx, h1.1, h1.2, hi_und hx k hk⟩
-- those that have a key
theorem mem_res {t : List Nd} {x k : Int} : k ∈ resL t x ↔ ∃ j ∈ hiL t x, k = j ∨ ∃ u ∈ (atN t j.toNat).inner.unm, k = 2 * u := by
  unfold resL resOf
  rw [List.mem_flatMap]
  constructor
  · rintro ⟨j, hj, hk⟩
    refine ⟨j, hj, ?_⟩
    rcases List.mem_cons.1 hk with e | e
    · exact .inl e
    · obtain ⟨u, hu, e⟩ := List.mem_map.1 e
      exact .inr ⟨u, hu, e.symm⟩
  · rintro ⟨j, hj, e | ⟨u, hu, e⟩⟩
    · exact ⟨j, hj, List.mem_cons.2 (.inl e)⟩
    · exact ⟨j, hj, List.mem_cons.2 (.inr (List.mem_map.2 ⟨u, hu, e.symm⟩))⟩
theorem getD_in {l : List Int} {k : Nat} (h : k < l.length) : l.getD k 0 ∈ l := by
  rw [List.getD_eq_getElem?_getD, List.getElem?_eq_getElem h]
  exact List.getElem_mem h
-- a way up, filtered
-- a tree that has grown
theorem grow_node {x w : Int} (h : isN x w) (hw : w ≤ 63) : isN x (2 * w + 1) ∧ leftI x (2 * w + 1) = leftI x w ∧ rightI x (2 * w + 1) = rightI x w ∧ dirI x (2 * w + 1) = dirI x w ++ [w] ∧ copI x (2 * w + 1) = copI x w ++ [rightI w (2 * w + 1)] :=
  fin2 (p := fun x w => w ≤ 63 → isN x (2 * w + 1) ∧ leftI x (2 * w + 1) = leftI x w ∧ rightI x (2 * w + 1) = rightI x w ∧ dirI x (2 * w + 1) = dirI x w ++ [w] ∧ copI x (2 * w + 1) = copI x w ++ [rightI w (2 * w + 1)]) (by kernel_rfl) h hw
section
variable {t g : List Nd} (hl : (g.length : Int) = 2 * t.length + 1) (hw : (t.length : Int) ≤ 63) (ha : ∀ i, atN g i = atN t i)
include hl hw ha
end
theorem grown {t : List Nd} (ht : trIs t) (h : growE t = 0) : ((growL t).length : Int) = 2 * t.length + 1 ∧ (t.length : Int) ≤ 63 ∧ ∀ i, atN (growL t) i = atN t i := by
  have h1 := growL_len h
  have h2 := grow_small h
  have h3 := growL_ok h
  rw [trAs_ok ht] at h1 h2 h3
  exact ⟨by omega, by omega, fun i => by rw [h3, atN_app_z]⟩
end Go.Proofs.YtkcpmpbjjnknhaaGreatDoor
