/-
  What the statements ask of ways besides: children of the lowest node of both, the lowest bits.
-/
import Derived.Test.YtgcneppjdhnacaaDoorWaFacts
namespace Go.Proofs.YtgcneppjdhnacaaDoor
open Go.ChangeShapes Go.WideShapes Go.ChangeAt Go.RowKit
set_option linter.unusedVariables false
set_option maxRecDepth 20000
def leftN (x : Nat) : Nat := x - p2 (lvlN x - 1)
def rightN (x : Nat) : Nat := x + p2 (lvlN x - 1)
theorem pairs7 : all3N (fun x y w => Nat.beq (lvlN (comN x y)) 0 || (!(undN x (leftN (comN x y)) && undN y (leftN (comN x y))) && !(undN x (rightN (comN x y)) && undN y (rightN (comN x y))))) = true := by kernel_rfl
theorem child_nat {x w : Int} (h : isN x w) : (0 ≤ leftI x w → lvlN x.toNat ≠ 0 ∧ leftI x w = ((leftN x.toNat : Nat) : Int)) ∧ (0 ≤ rightI x w → lvlN x.toNat ≠ 0 ∧ rightI x w = ((rightN x.toNat : Nat) : Int)) :=
  fin2 (p := fun x w => (0 ≤ leftI x w → lvlN x.toNat ≠ 0 ∧ leftI x w = ((leftN x.toNat : Nat) : Int)) ∧ (0 ≤ rightI x w → lvlN x.toNat ≠ 0 ∧ rightI x w = ((rightN x.toNat : Nat) : Int))) (by kernel_rfl) h
theorem com_low {x y w : Int} (hx : isN x w) (hy : isN y w) : (0 ≤ leftI (comI x y w) w → ¬ (undI x (leftI (comI x y w) w) w ∧ undI y (leftI (comI x y w) w) w)) ∧ (0 ≤ rightI (comI x y w) w → ¬ (undI x (rightI (comI x y w) w) w ∧ undI y (rightI (comI x y w) w) w)) := by
  have hc := child_nat (com_facts hx hy).1
  obtain ⟨n, v, rfl, rfl, hv, hn⟩ := nat_of hx
  obtain ⟨m, v2, rfl, e, _, hm⟩ := nat_of hy
  obtain rfl : v = v2 := by omega
  have h := fin3N pairs7 hv hn hm
  have e1 : comI n m v = ((comN n m : Nat) : Int) := by unfold comI; rw [if_pos ⟨hx, hy⟩]; simp
  rw [e1] at hc ⊢
  simp only [Int.toNat_natCast] at hc
  rw [Bool.or_eq_true, Nat.beq_eq] at h
  refine ⟨fun q => ?_, fun q => ?_⟩
  · have hq := hc.1 q
    have h2 := h.resolve_left hq.1
    rw [Bool.and_eq_true, Bool.not_eq_true', Bool.and_eq_false_iff] at h2
    rintro ⟨a, b⟩
    rw [hq.2] at a b
    have ha : undN n (leftN (comN n m)) = true := by simpa using a.2.2
    have hb : undN m (leftN (comN n m)) = true := by simpa using b.2.2
    rcases h2.1 with z | z
    · rw [z] at ha; cases ha
    · rw [z] at hb; cases hb
  · have hq := hc.2 q
    have h2 := h.resolve_left hq.1
    rw [Bool.and_eq_true, Bool.not_eq_true' , Bool.not_eq_true', Bool.and_eq_false_iff, Bool.and_eq_false_iff] at h2
    rintro ⟨a, b⟩
    rw [hq.2] at a b
    have ha : undN n (rightN (comN n m)) = true := by simpa using a.2.2
    have hb : undN m (rightN (comN n m)) = true := by simpa using b.2.2
    rcases h2.2 with z | z
    · rw [z] at ha; cases ha
    · rw [z] at hb; cases hb
theorem low_hig2 {x w : Int} (h : isN x w) : 0 ≤ lowI x w ∧ higI x w < 64 ∧ lowI x w ≤ higI x w :=
  fin2 (p := fun x w => 0 ≤ lowI x w ∧ higI x w < 64 ∧ lowI x w ≤ higI x w) (by kernel_rfl) h
theorem and_63 (z : Int) : 0 ≤ bits .and .i64 z 63 ∧ bits .and .i64 z 63 ≤ 63 := by
  have h : ∀ q : BitVec 64, (q &&& 63#64).toNat ≤ 63 := fun q => by
    rw [BitVec.toNat_and]
    exact Nat.and_le_right
  have h1 := h (BitVec.ofInt 64 z)
  show 0 ≤ IntKind.i64.wrap ((BitVec.ofInt 64 z &&& BitVec.ofInt 64 63).toNat : Nat) ∧ IntKind.i64.wrap ((BitVec.ofInt 64 z &&& BitVec.ofInt 64 63).toNat : Nat) ≤ 63
  have e : BitVec.ofInt 64 63 = 63#64 := rfl
  rw [e]
  generalize (BitVec.ofInt 64 z &&& 63#64).toNat = q at h1
  rw [wrap_i64 (by omega) (by omega)]
  omega
theorem and_65535 (z : Int) : 0 ≤ bits .and .i64 z 65535 ∧ bits .and .i64 z 65535 ≤ 65535 := by
  have h : ∀ q : BitVec 64, (q &&& 65535#64).toNat ≤ 65535 := fun q => by
    rw [BitVec.toNat_and]
    exact Nat.and_le_right
  have h1 := h (BitVec.ofInt 64 z)
  show 0 ≤ IntKind.i64.wrap ((BitVec.ofInt 64 z &&& BitVec.ofInt 64 65535).toNat : Nat) ∧ IntKind.i64.wrap ((BitVec.ofInt 64 z &&& BitVec.ofInt 64 65535).toNat : Nat) ≤ 65535
  have e : BitVec.ofInt 64 65535 = 65535#64 := rfl
  rw [e]
  generalize (BitVec.ofInt 64 z &&& 65535#64).toNat = q at h1
  rw [wrap_i64 (by omega) (by omega)]
  omega
end Go.Proofs.YtgcneppjdhnacaaDoor
