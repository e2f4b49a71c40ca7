/-
  What the statements of layer 6 ask of ways up, what stands beside them, and what is below: of all nodes, and of all pairs of nodes.
-/
import Derived.Test.YtpoonjgkgaodmaaDoorWaMath
namespace Go.Proofs.YtpoonjgkgaodmaaDoor
open Go.ChangeShapes Go.WideShapes Go.ChangeAt Go.RowKit
set_option linter.unusedVariables false

def lowN (x : Nat) : Nat := (x + 1 - p2 (lvlN x)) / 2
def higN (x : Nat) : Nat := (x + p2 (lvlN x) - 1) / 2
theorem below_nat {x w : Int} (h : isN x w) : lowI x w = ((lowN x.toNat : Nat) : Int) ∧ higI x w = ((higN x.toNat : Nat) : Int) :=
  fin2 (p := fun x w => lowI x w = ((lowN x.toNat : Nat) : Int) ∧ higI x w = ((higN x.toNat : Nat) : Int)) (by kernel_rfl) h
-- leaves below a node
theorem pairs4 : all3N (fun x y w => !Nat.beq (Nat.mod y 2) 0 || (undN y x == (Nat.ble (lowN x) (y / 2) && Nat.ble (y / 2) (higN x)))) = true := by kernel_rfl
theorem und_below {x y w : Int} (hx : isN x w) (hy : isN y w) (he : y % 2 = 0) : undI y x w ↔ lowI x w ≤ y / 2 ∧ y / 2 ≤ higI x w := by
  have hb := below_nat hx
  obtain ⟨n, v, rfl, rfl, hv, hn⟩ := nat_of hx
  obtain ⟨m, v2, rfl, e, _, hm⟩ := nat_of hy
  obtain rfl : v = v2 := by omega
  have h := fin3N pairs4 hv hn hm
  have hm0 : Nat.mod m 2 = 0 := by show m % 2 = 0; omega
  simp only [Int.toNat_natCast] at hb
  rw [hb.1, hb.2]
  unfold undI
  simp only [Int.toNat_natCast, hx, hy, true_and]
  rw [hm0] at h
  have h2 : undN m n = (Nat.ble (lowN n) (m / 2) && Nat.ble (m / 2) (higN n)) := by simpa using h
  rw [h2, Bool.and_eq_true, Nat.ble_eq, Nat.ble_eq]
  constructor <;> intro t <;> omega
-- the way, node by node
def wayAt (x w : Int) (i : Nat) : Prop := isN ((dirI x w).getD i 0) w ∧ dirI ((dirI x w).getD i 0) w = (dirI x w).drop (i + 1) ∧ undI x ((dirI x w).getD i 0) w
    ∧ isN ((copI x w).getD i 0) w ∧ parI ((copI x w).getD i 0) w = (dirI x w).getD i 0 ∧ ¬ undI x ((copI x w).getD i 0) w ∧ (i + 1 = (dirI x w).length → (dirI x w).getD i 0 = rootI w)
instance (x w : Int) (i : Nat) : Decidable (wayAt x w i) := by unfold wayAt; infer_instance
theorem way_at {x w : Int} (h : isN x w) {i : Nat} (hi : i < (dirI x w).length) : wayAt x w i := by
  have key := fin2 (p := fun x w => (dirI x w).length ≤ 6 ∧ ∀ i ∈ List.range 6, i < (dirI x w).length → wayAt x w i) (by kernel_rfl) h
  exact key.2 i (List.mem_range.2 (by omega)) hi
-- what stands beside the way of a leaf: how often a leaf is below one of it
def cntN (y : Nat) : List Nat → Nat
  | [] => 0
  | c :: r => (bif Nat.ble (lowN c) (y / 2) && Nat.ble (y / 2) (higN c) then 1 else 0) + cntN y r
theorem pairs5 : all3N (fun x y w => !(Nat.beq (Nat.mod x 2) 0 && Nat.beq (Nat.mod y 2) 0) || Nat.beq (cntN y (copN 7 x w)) (bif Nat.beq x y then 0 else 1)) = true := by kernel_rfl
def cntI (y w : Int) : List Int → Nat
  | [] => 0
  | c :: r => (if 2 * lowI c w ≤ y ∧ y ≤ 2 * higI c w then 1 else 0) + cntI y w r
theorem cntI_snoc (y w : Int) (l : List Int) (c : Int) : cntI y w (l ++ [c]) = cntI y w l + (if 2 * lowI c w ≤ y ∧ y ≤ 2 * higI c w then 1 else 0) := by
  induction l with
  | nil => simp [cntI]
  | cons d r ih =>
    show (if 2 * lowI d w ≤ y ∧ y ≤ 2 * higI d w then 1 else 0) + cntI y w (r ++ [c]) = (if 2 * lowI d w ≤ y ∧ y ≤ 2 * higI d w then 1 else 0) + cntI y w r + _
    rw [ih]
    omega
theorem take_succ_getD (l : List Int) (i : Nat) (h : i < l.length) : l.take (i + 1) = l.take i ++ [l.getD i 0] := by
  rw [List.take_succ_eq_append_getElem h, List.getD_eq_getElem?_getD, List.getElem?_eq_getElem h]
  rfl
theorem cntI_nat (m : Nat) (w : Int) (he : m % 2 = 0) : ∀ l : List Nat, (∀ c ∈ l, isN (c : Int) w) → cntI (m : Int) w (l.map fun (k : Nat) => (k : Int)) = cntN m l
  | [], _ => rfl
  | c :: r, h => by
    have hb := below_nat (h c (by simp))
    have ih := cntI_nat m w he r fun d hd => h d (by simp [hd])
    simp only [Int.toNat_natCast] at hb
    show (if 2 * lowI (c : Int) w ≤ m ∧ (m : Int) ≤ 2 * higI (c : Int) w then 1 else 0) + cntI (m : Int) w (r.map fun (k : Nat) => (k : Int)) = (bif Nat.ble (lowN c) (m / 2) && Nat.ble (m / 2) (higN c) then 1 else 0) + cntN m r
    rw [ih, hb.1, hb.2]
    refine congrArg (· + cntN m r) ?_
    by_cases q : Nat.ble (lowN c) (m / 2) && Nat.ble (m / 2) (higN c)
    · rw [if_pos, q]
      · rfl
      · rw [Bool.and_eq_true, Nat.ble_eq, Nat.ble_eq] at q
        omega
    · rw [if_neg]
      · rw [Bool.not_eq_true] at q
        rw [q]
        rfl
      · rw [Bool.and_eq_true, Nat.ble_eq, Nat.ble_eq] at q
        omega
theorem beside {x y w : Int} (hx : isN x w) (hy : isN y w) (ex : x % 2 = 0) (ey : y % 2 = 0) : cntI y w (copI x w) = if x = y then 0 else 1 := by
  have hway := fun i (hi : i < (dirI x w).length) => (way_at hx hi).2.2.2.1
  have hlen := (dir_len hx).2
  obtain ⟨n, v, rfl, rfl, hv, hn⟩ := nat_of hx
  obtain ⟨m, v2, rfl, e, _, hm⟩ := nat_of hy
  obtain rfl : v = v2 := by omega
  have h := fin3N pairs5 hv hn hm
  have hc : copI n v = (copN 7 n v).map fun (k : Nat) => (k : Int) := by unfold copI; rw [if_pos hx]; simp
  have hall : ∀ c ∈ copN 7 n v, isN (c : Int) (v : Int) := by
    intro c hmem
    obtain ⟨i, hi, rfl⟩ := List.mem_iff_getElem.1 hmem
    have hi2 : i < (copI n v).length := by rw [hc, List.length_map]; exact hi
    have := hway i (by omega)
    rw [hc, List.getD_eq_getElem?_getD, List.getElem?_map, List.getElem?_eq_getElem hi] at this
    simpa using this
  rw [hc, cntI_nat m v (by omega) _ hall]
  have n0 : Nat.mod n 2 = 0 := by show n % 2 = 0; omega
  have m0 : Nat.mod m 2 = 0 := by show m % 2 = 0; omega
  rw [n0, m0] at h
  have h2 : cntN m (copN 7 n v) = bif Nat.beq n m then 0 else 1 := by simpa using h
  rw [h2]
  by_cases q : n = m
  · subst q
    simp
  · have q1 : Nat.beq n m = false := by
      rw [Bool.eq_false_iff]
      intro t
      exact q (Nat.eq_of_beq_eq_true t)
    rw [q1, if_neg (by omega)]
    rfl
-- two ways meet
theorem pairs6 : all3N (fun x y w => Nat.ble (dirN 7 (comN x y) w).length (dirN 7 x w).length && ((dirN 7 x w).drop ((dirN 7 x w).length - (dirN 7 (comN x y) w).length) == dirN 7 (comN x y) w)
    && ((dirN 7 x w).take ((dirN 7 x w).length - (dirN 7 (comN x y) w).length)).all (fun z => Nat.beq z (comN x y) || !(((dirN 7 y w).take ((dirN 7 y w).length - (dirN 7 (comN x y) w).length)).any (Nat.beq z)))) = true := by kernel_rfl
theorem meets {x y w : Int} (hx : isN x w) (hy : isN y w) : (dirI (comI x y w) w).length ≤ (dirI x w).length ∧ (dirI x w).drop ((dirI x w).length - (dirI (comI x y w) w).length) = dirI (comI x y w) w
    ∧ ∀ i k, i < (dirI x w).length - (dirI (comI x y w) w).length → k < (dirI y w).length - (dirI (comI x y w) w).length → (dirI x w).getD i 0 = (dirI y w).getD k 0 → (dirI x w).getD i 0 = comI x y w := by
  have hcom := (com_facts hx hy).1
  have e1 : comI x y w = ((comN x.toNat y.toNat : Nat) : Int) := by unfold comI; rw [if_pos ⟨hx, hy⟩]
  obtain ⟨n, v, rfl, rfl, hv, hn⟩ := nat_of hx
  obtain ⟨m, v2, rfl, e, _, hm⟩ := nat_of hy
  obtain rfl : v = v2 := by omega
  simp only [Int.toNat_natCast] at e1
  rw [e1] at hcom ⊢
  have h := fin3N pairs6 hv hn hm
  have d1 : dirI n v = (dirN 7 n v).map fun (k : Nat) => (k : Int) := by unfold dirI; rw [if_pos hx]; simp
  have d2 : dirI m v = (dirN 7 m v).map fun (k : Nat) => (k : Int) := by unfold dirI; rw [if_pos hy]; simp
  have d3 : dirI ((comN n m : Nat) : Int) v = (dirN 7 (comN n m) v).map fun (k : Nat) => (k : Int) := by unfold dirI; rw [if_pos hcom]; simp
  rw [d1, d2, d3]
  simp only [List.length_map, ← List.map_drop]
  simp only [Bool.and_eq_true, Nat.ble_eq, beq_iff_eq, List.all_eq_true] at h
  obtain ⟨⟨h1, h2⟩, h3⟩ := h
  refine ⟨h1, by rw [h2], fun i k hi hk hik => ?_⟩
  have gi : ((dirN 7 n v).map fun (k : Nat) => (k : Int)).getD i 0 = (((dirN 7 n v)[i]'(by omega) : Nat) : Int) := by
    rw [List.getD_eq_getElem?_getD, List.getElem?_map, List.getElem?_eq_getElem (by omega)]
    rfl
  have gk : ((dirN 7 m v).map fun (k : Nat) => (k : Int)).getD k 0 = (((dirN 7 m v)[k]'(by omega) : Nat) : Int) := by
    rw [List.getD_eq_getElem?_getD, List.getElem?_map, List.getElem?_eq_getElem (by omega)]
    rfl
  rw [gi, gk] at hik
  rw [gi]
  have hmem : (dirN 7 n v)[i]'(by omega) ∈ (dirN 7 n v).take ((dirN 7 n v).length - (dirN 7 (comN n m) v).length) := by
    rw [List.mem_take_iff_getElem]
    exact ⟨i, by omega, rfl⟩
  have hmk : (dirN 7 m v)[k]'(by omega) ∈ (dirN 7 m v).take ((dirN 7 m v).length - (dirN 7 (comN n m) v).length) := by
    rw [List.mem_take_iff_getElem]
    exact ⟨k, by omega, rfl⟩
  have h4 := h3 _ hmem
  rw [Bool.or_eq_true] at h4
  rcases h4 with h4 | h4
  · rw [Nat.beq_eq] at h4
    rw [h4]
  · exfalso
    rw [Bool.not_eq_true', Bool.eq_false_iff] at h4
    exact h4 (List.any_eq_true.2 ⟨_, hmk, by rw [Nat.beq_eq]; omega⟩)
end Go.Proofs.YtpoonjgkgaodmaaDoor
