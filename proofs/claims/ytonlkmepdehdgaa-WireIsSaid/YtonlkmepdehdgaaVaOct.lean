/-
  Octets in memory: a slice that reads as a list of octets, and as a string.
-/
import Derived.Test.YtonlkmepdehdgaaVaPut
import Derived.Laws.BytesArg
namespace Go.Proofs.Ytonlkmepdehdgaa
open Go.ChangeShapes Go.WideShapes Go.ChangeAt Go.RowKit
set_option linter.unusedVariables false

theorem Oct.str {w : World} {B : Nat} {A : Option Addr} {n : Nat} {xs : List Int} (h : Oct w B A n xs) (c : Nat) :
    (convert 22 9 (.slice A n c)).run Try.prog w = .ok (.string (strOfNums xs)) w := by
  by_cases hn : n = 0
  · subst hn
    have hx : xs = [] := List.eq_nil_of_length_eq_zero h.1
    subst hx
    cases A with
    | none => exact run_convert_bytes_nil w 22 5 Try.underlying22 Try.underlying5 0 c 9 Try.underlying9
    | some a =>
      rw [run_convert_bytes_string w 22 9 5 _ 0 c Try.underlying22 Try.underlying5 Try.underlying9]
      rw [run_bytesToString w a 0 c [] (by simpa using run_loadCells_list (P := Try.prog) w a [] (by simp))]
      rfl
  · obtain ⟨b, o, rfl, _, hc⟩ := h.2.2 (by omega)
    exact run_convert_bytes_arg w 22 5 Try.underlying22 Try.underlying5 b o n c xs h.1 (fun i hi => by
      have hl : i < xs.length := by rw [h.1]; exact hi
      rw [hc i xs[i] (List.getElem?_eq_getElem hl)]
      simp [List.getD, List.getElem?_eq_getElem hl]) 9 Try.underlying9

theorem Oct.keep {w w' : World} {B : Nat} {A : Option Addr} {n : Nat} {xs : List Int} (h : Oct w B A n xs) (hk : ∀ p : Addr, p.block < B → w'.cell? p = w.cell? p) : Oct w' B A n xs :=
  ⟨h.1, h.2.1, fun hn => by
    obtain ⟨b, o, e, hB, hc⟩ := h.2.2 hn
    exact ⟨b, o, e, hB, fun i x hx => (hk _ hB).trans (hc i x hx)⟩⟩
theorem Oct.below {w w' : World} {B : Nat} {A : Option Addr} {n : Nat} {xs : List Int} (h : Oct w B A n xs) (hb : Below B w w') : Oct w' B A n xs := h.keep fun _ hp => hb.cell hp
theorem Oct.drewN {w : World} {B : Nat} {A : Option Addr} {n : Nat} {xs : List Int} (h : Oct w B A n xs) (d : Nat) : Oct (w.drewN d) B A n xs := h
theorem Oct.more {w : World} {B B' : Nat} {A : Option Addr} {n : Nat} {xs : List Int} (h : Oct w B A n xs) (hB : B ≤ B') : Oct w B' A n xs :=
  ⟨h.1, h.2.1, fun hn => by
    obtain ⟨b, o, e, hb, hc⟩ := h.2.2 hn
    exact ⟨b, o, e, by omega, hc⟩⟩
theorem Oct.nil (w : World) (B : Nat) (A : Option Addr) : Oct w B A 0 [] := ⟨rfl, by simp, fun h => absurd h (by omega)⟩
theorem Oct.new (w : World) (xs : List Int) (hx : ∀ x ∈ xs, 0 ≤ x ∧ x ≤ 255) : Oct (w.alloc (.cells (xs.map (Value.int .u8)).toArray 5)) (w.heap.size + 1) (some ⟨w.heap.size, 0, none⟩) xs.length xs :=
  ⟨rfl, hx, fun _ => ⟨w.heap.size, 0, rfl, by omega, fun i x hi => by
    have := new_cells w (xs.map (Value.int .u8)) i (.int .u8 x) (by rw [List.getElem?_map, hi]; rfl)
    rwa [Addr.add_lit] at this⟩⟩

theorem below_drewN {B : Nat} {a w : World} (h : Below B a w) (n : Nat) : Below B a (w.drewN n) := ⟨h.os, h.tape, h.output, h.size, h.block⟩

theorem below_of_drewN (w : World) (n : Nat) : Below w.heap.size w (w.drewN n) := below_drewN (Below.refl _ _) n

/-- What Get answers where octets begin with a number, the world told by 'Below' alone. -/
def GotSome (w : World) (B n c k : Nat) (m : Int) (ys : List Int) (e : Ending) (w' : World) : Prop :=
  ∃ A', e = .returned (.tuple #[.int .i64 m, .slice A' (n - k) (c - k), .int .i64 0]) ∧ Oct w' B A' (n - k) ys ∧ Below w.heap.size w w'

theorem get_some (A : Option Addr) (n c B : Nat) (xs : List Int) (w : World) (hO : Oct w B A n xs) (hnc : n ≤ c) (hcm : c ≤ maxLen) (hE : getE xs = 0) :
    Calls Try.prog 31 #[.slice A n c] w (GotSome w B n c (getK xs) (getV xs) (xs.drop (getK xs))) :=
  (get_good A n c B xs w hO hnc hcm hE).mono fun _ _ ⟨A', he, h, d, hd⟩ => by
    subst hd
    exact ⟨A', he, h.drewN d, below_of_drewN w d⟩

end Go.Proofs.Ytonlkmepdehdgaa
