/-
  Ways up, what stands beside them, what is below, as plain functions; what holds of all nodes, and of all pairs of nodes, of all widths, by trying all of them, in numbers that the kernel reckons with at once.
-/
import Derived.Test.YtpoonjgkgaodmaaDoorIxBase
namespace Go.Proofs.YtpoonjgkgaodmaaDoor
open Go.ChangeShapes Go.WideShapes Go.ChangeAt Go.RowKit
set_option linter.unusedVariables false

def natMax (a b : Nat) : Nat := bif Nat.ble a b then b else a
def lvlN (x : Nat) : Nat := Nat.log2 (Nat.xor x (x + 1))
def p2 (k : Nat) : Nat := Nat.pow 2 k
def parN (x : Nat) : Nat := bif Nat.beq (Nat.mod (Nat.div x (p2 (lvlN x + 1))) 2) 0 then x + p2 (lvlN x) else x - p2 (lvlN x)
def sibN (x : Nat) : Nat := bif Nat.beq (Nat.mod (Nat.div x (p2 (lvlN x + 1))) 2) 0 then x + p2 (lvlN x + 1) else x - p2 (lvlN x + 1)
def dirN : Nat → Nat → Nat → List Nat
  | 0, _, _ => []
  | k + 1, x, w => bif Nat.beq x (w / 2) then [] else parN x :: dirN k (parN x) w
def copN : Nat → Nat → Nat → List Nat
  | 0, _, _ => []
  | k + 1, x, w => bif Nat.beq x (w / 2) then [] else sibN x :: copN k (parN x) w
/-- Is x y, or below y? By how far y reaches to either side. -/
def undN (x y : Nat) : Bool := Nat.ble (y + 1) (x + p2 (lvlN y)) && Nat.ble (x + 1) (y + p2 (lvlN y))
/-- The level at which both meet, and where. -/
def topN (x y : Nat) : Nat := natMax (natMax (lvlN x) (lvlN y)) (Nat.log2 (Nat.xor x y))
def comN (x y : Nat) : Nat := x / p2 (topN x y + 1) * p2 (topN x y + 1) + p2 (topN x y) - 1
def widthsN : List Nat := [1, 3, 7, 15, 31, 63, 127]
def all3N (f : Nat → Nat → Nat → Bool) : Bool := widthsN.all fun w => (List.range w).all fun x => (List.range w).all fun y => f x y w
theorem fin3N {p : Nat → Nat → Nat → Bool} (h : all3N p = true) {x y w : Nat} (hw : w ∈ widthsN) (hx : x < w) (hy : y < w) : p x y w = true :=
  List.all_eq_true.1 (List.all_eq_true.1 (List.all_eq_true.1 h w hw) x (List.mem_range.2 hx)) y (List.mem_range.2 hy)

-- pairs of nodes
theorem pairs1 : all3N (fun x y w => Nat.beq (comN x y) (comN y x) && Nat.ble (comN x y + 1) w && undN x (comN x y) && undN y (comN x y) && (!undN x y || Nat.beq (comN x y) y)) = true := by kernel_rfl
theorem pairs2 : all3N (fun x y w => bif undN y x then Nat.beq (comN x y) x else !Nat.beq x (w / 2) && Nat.beq (comN x y) (comN (parN x) y)) = true := by kernel_rfl
theorem pairs3 : all3N (fun x y w => (Nat.beq x y || (dirN 7 x w).any (Nat.beq y)) == undN x y) = true := by kernel_rfl

-- of whole numbers
def dirI (x w : Int) : List Int := if isN x w then (dirN 7 x.toNat w.toNat).map (fun (k : Nat) => (k : Int)) else []
def copI (x w : Int) : List Int := if isN x w then (copN 7 x.toNat w.toNat).map (fun (k : Nat) => (k : Int)) else []
def undI (x y w : Int) : Prop := isN x w ∧ isN y w ∧ undN x.toNat y.toNat = true
instance (x y w : Int) : Decidable (undI x y w) := by unfold undI; infer_instance
def comI (x y w : Int) : Int := if isN x w ∧ isN y w then ((comN x.toNat y.toNat : Nat) : Int) else -1
def lowI (x w : Int) : Int := if isN x w then (x + 1 - pw (lvl x)) / 2 else -1
def higI (x w : Int) : Int := if isN x w then (x - 1 + pw (lvl x)) / 2 else -1
theorem dir_no {x w : Int} (h : ¬ isN x w) : dirI x w = [] := if_neg h
theorem cop_no {x w : Int} (h : ¬ isN x w) : copI x w = [] := if_neg h
theorem com_no {x y w : Int} (h : ¬ (isN x w ∧ isN y w)) : comI x y w = -1 := if_neg h
theorem low_no {x w : Int} (h : ¬ isN x w) : lowI x w = -1 := if_neg h
theorem hig_no {x w : Int} (h : ¬ isN x w) : higI x w = -1 := if_neg h
theorem dir_step {x w : Int} (hn : isN x w) : dirI x w = if parI x w < 0 then [] else parI x w :: dirI (parI x w) w :=
  fin2 (p := fun x w => dirI x w = if parI x w < 0 then [] else parI x w :: dirI (parI x w) w) (by kernel_rfl) hn
theorem cop_step {x w : Int} (hn : isN x w) : copI x w = if parI x w < 0 then [] else sibI x w :: copI (parI x w) w :=
  fin2 (p := fun x w => copI x w = if parI x w < 0 then [] else sibI x w :: copI (parI x w) w) (by kernel_rfl) hn
theorem dir_len {x w : Int} (hn : isN x w) : ((dirI x w).length : Int) = lvl (rootI w) - lvl x ∧ (copI x w).length = (dirI x w).length :=
  fin2 (p := fun x w => ((dirI x w).length : Int) = lvl (rootI w) - lvl x ∧ (copI x w).length = (dirI x w).length) (by kernel_rfl) hn
theorem par_up {x w : Int} (hn : isN x w) : (parI x w < 0 ↔ x = rootI w) ∧ (¬ parI x w < 0 → isN (parI x w) w ∧ lvl (parI x w) = lvl x + 1) :=
  fin2 (p := fun x w => (parI x w < 0 ↔ x = rootI w) ∧ (¬ parI x w < 0 → isN (parI x w) w ∧ lvl (parI x w) = lvl x + 1)) (by kernel_rfl) hn
theorem nat_of {x w : Int} (h : isN x w) : ∃ n v : Nat, x = (n : Int) ∧ w = (v : Int) ∧ v ∈ widthsN ∧ n < v := by
  have hl := h.le
  obtain ⟨n, rfl⟩ := Int.eq_ofNat_of_zero_le hl.1
  obtain ⟨v, rfl⟩ := Int.eq_ofNat_of_zero_le (show 0 ≤ w by omega)
  refine ⟨n, v, rfl, rfl, ?_, by omega⟩
  have hw := h.1
  unfold isW at hw
  simp only [widthsN, List.mem_cons, List.not_mem_nil, or_false]
  omega
theorem par_nat {n v : Nat} (h : isN (n : Int) (v : Int)) : if n = v / 2 then parI n v = -1 else parI n v = ((parN n : Nat) : Int) := by
  have := fin2 (p := fun x w => if x.toNat = w.toNat / 2 then parI x w = -1 else parI x w = ((parN x.toNat : Nat) : Int)) (by kernel_rfl) h
  simpa using this
theorem und_dir {x y w : Int} (hx : isN x w) (hy : isN y w) : (x = y ∨ y ∈ dirI x w) ↔ undI x y w := by
  obtain ⟨n, v, rfl, rfl, hv, hn⟩ := nat_of hx
  obtain ⟨m, v2, rfl, e, _, hm⟩ := nat_of hy
  obtain rfl : v = v2 := by omega
  have h := fin3N pairs3 hv hn hm
  have h2 : (Nat.beq n m || (dirN 7 n v).any (Nat.beq m)) = undN n m := by simpa using h
  have hm2 : ((m : Int) ∈ dirI n v) ↔ (dirN 7 n v).any (Nat.beq m) = true := by
    unfold dirI
    rw [if_pos hx]
    simp only [Int.toNat_natCast, List.mem_map, List.any_eq_true]
    constructor
    · rintro ⟨k, hk, e⟩
      exact ⟨k, hk, by simp; omega⟩
    · rintro ⟨k, hk, e⟩
      exact ⟨k, hk, by simp at e; omega⟩
  rw [hm2]
  unfold undI
  simp only [Int.toNat_natCast, hx, hy, true_and]
  rw [← h2, Bool.or_eq_true]
  constructor
  · rintro (e | e)
    · exact .inl (by rw [Nat.beq_eq]; omega)
    · exact .inr e
  · rintro (e | e)
    · exact .inl (by rw [Nat.beq_eq] at e; omega)
    · exact .inr e
theorem com_facts {x y w : Int} (hx : isN x w) (hy : isN y w) : isN (comI x y w) w ∧ comI y x w = comI x y w ∧ undI x (comI x y w) w ∧ undI y (comI x y w) w ∧ (undI x y w → comI x y w = y) := by
  obtain ⟨n, v, rfl, rfl, hv, hn⟩ := nat_of hx
  obtain ⟨m, v2, rfl, e, _, hm⟩ := nat_of hy
  obtain rfl : v = v2 := by omega
  have h := fin3N pairs1 hv hn hm
  simp only [Bool.and_eq_true, Bool.or_eq_true, Bool.not_eq_true', Nat.beq_eq, Nat.ble_eq] at h
  obtain ⟨⟨⟨⟨h1, h2⟩, h3⟩, h4⟩, h5⟩ := h
  have e1 : comI n m v = ((comN n m : Nat) : Int) := by unfold comI; rw [if_pos ⟨hx, hy⟩]; simp
  have e2 : comI m n v = ((comN m n : Nat) : Int) := by unfold comI; rw [if_pos ⟨hy, hx⟩]; simp
  have hc : isN (comI n m v) v := ⟨hx.1, by omega, by omega⟩
  refine ⟨hc, by rw [e1, e2, h1], ⟨hx, hc, by rw [e1]; simpa using h3⟩, ⟨hy, hc, by rw [e1]; simpa using h4⟩, fun q => ?_⟩
  have q2 : undN n m = true := by simpa using q.2.2
  rcases h5 with h5 | h5
  · rw [q2] at h5; cases h5
  · rw [e1]; omega
theorem com_step {x y w : Int} (hx : isN x w) (hy : isN y w) : if undI y x w then comI x y w = x else ¬ parI x w < 0 ∧ comI x y w = comI (parI x w) y w := by
  have hup := par_up hx
  obtain ⟨n, v, rfl, rfl, hv, hn⟩ := nat_of hx
  obtain ⟨m, v2, rfl, e, _, hm⟩ := nat_of hy
  obtain rfl : v = v2 := by omega
  have h := fin3N pairs2 hv hn hm
  have hp := par_nat hx
  have e1 : comI n m v = ((comN n m : Nat) : Int) := by unfold comI; rw [if_pos ⟨hx, hy⟩]; simp
  have eu : undI m n v ↔ undN m n = true := by unfold undI; simp [hx, hy]
  by_cases q : undN m n = true
  · rw [if_pos (eu.2 q)]
    rw [q] at h
    simp only [cond_true, Nat.beq_eq] at h
    rw [e1, h]
  · rw [if_neg fun t => q (eu.1 t)]
    rw [Bool.not_eq_true] at q
    rw [q] at h
    simp only [cond_false, Bool.and_eq_true, Bool.not_eq_true', Nat.beq_eq] at h
    have hne : ¬ n = v / 2 := by
      intro t
      have := h.1
      rw [t, Nat.beq_refl] at this
      cases this
    rw [if_neg hne] at hp
    have hneg : ¬ parI (n : Int) (v : Int) < 0 := by rw [hp]; omega
    have hpn := (hup.2 hneg).1
    refine ⟨hneg, ?_⟩
    have e3 : comI (parI n v) m v = ((comN (parN n) m : Nat) : Int) := by unfold comI; rw [if_pos ⟨hpn, hy⟩, hp]; simp
    rw [e1, e3, h.2]
end Go.Proofs.YtpoonjgkgaodmaaDoor
