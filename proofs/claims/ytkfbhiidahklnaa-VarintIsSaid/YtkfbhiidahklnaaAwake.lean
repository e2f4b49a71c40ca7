/-
  The contract of the statements' own look at the document's examples (awake): it answers true, in every world, and changes nothing that was there.
-/
import Derived.Test.YtkfbhiidahklnaaPut
import Derived.Laws.BytesArg
namespace Go.Proofs.Ytkfbhiidahklnaa
open Go.ChangeShapes Go.WideShapes Go.ChangeAt Go.RowKit
set_option linter.unusedVariables false

theorem Oct.str {w : World} {B : Nat} {A : Option Addr} {n : Nat} {xs : List Int} (h : Oct w B A n xs) (c : Nat) :
    (convert 22 9 (.slice A n c)).run Try.prog w = .ok (.string (strOfNums xs)) w := by
  by_cases hn : n = 0
  · subst hn
    have hx : xs = [] := List.eq_nil_of_length_eq_zero h.1
    subst hx
    cases A with
    | none => exact run_convert_bytes_nil w 22 5 Try.underlying22 Try.underlying5 0 c 9 Try.underlying9
    | some a =>
      rw [run_convert_bytes_string w 22 9 5 _ 0 c Try.underlying22 Try.underlying5 Try.underlying9]
      rw [run_bytesToString w a 0 c [] (by simpa using run_loadCells_list (P := Try.prog) w a [] (by simp))]
      rfl
  · obtain ⟨b, o, rfl, _, hc⟩ := h.2.2 (by omega)
    exact run_convert_bytes_arg w 22 5 Try.underlying22 Try.underlying5 b o n c xs h.1 (fun i hi => by
      have hl : i < xs.length := by rw [h.1]; exact hi
      rw [hc i xs[i] (List.getElem?_eq_getElem hl)]
      simp [List.getD, List.getElem?_eq_getElem hl]) 9 Try.underlying9

theorem Oct.keep {w w' : World} {B : Nat} {A : Option Addr} {n : Nat} {xs : List Int} (h : Oct w B A n xs) (hk : ∀ p : Addr, p.block < B → w'.cell? p = w.cell? p) : Oct w' B A n xs :=
  ⟨h.1, h.2.1, fun hn => by
    obtain ⟨b, o, e, hB, hc⟩ := h.2.2 hn
    exact ⟨b, o, e, hB, fun i x hx => (hk _ hB).trans (hc i x hx)⟩⟩
theorem Oct.below {w w' : World} {B : Nat} {A : Option Addr} {n : Nat} {xs : List Int} (h : Oct w B A n xs) (hb : Below B w w') : Oct w' B A n xs := h.keep fun _ hp => hb.cell hp
theorem Oct.drewN {w : World} {B : Nat} {A : Option Addr} {n : Nat} {xs : List Int} (h : Oct w B A n xs) (d : Nat) : Oct (w.drewN d) B A n xs := h
theorem Oct.more {w : World} {B B' : Nat} {A : Option Addr} {n : Nat} {xs : List Int} (h : Oct w B A n xs) (hB : B ≤ B') : Oct w B' A n xs :=
  ⟨h.1, h.2.1, fun hn => by
    obtain ⟨b, o, e, hb, hc⟩ := h.2.2 hn
    exact ⟨b, o, e, by omega, hc⟩⟩
theorem Oct.nil (w : World) (B : Nat) (A : Option Addr) : Oct w B A 0 [] := ⟨rfl, by simp, fun h => absurd h (by omega)⟩
theorem Oct.new (w : World) (xs : List Int) (hx : ∀ x ∈ xs, 0 ≤ x ∧ x ≤ 255) : Oct (w.alloc (.cells (xs.map (Value.int .u8)).toArray 5)) (w.heap.size + 1) (some ⟨w.heap.size, 0, none⟩) xs.length xs :=
  ⟨rfl, hx, fun _ => ⟨w.heap.size, 0, rfl, by omega, fun i x hi => by
    have := new_cells w (xs.map (Value.int .u8)) i (.int .u8 x) (by rw [List.getElem?_map, hi]; rfl)
    rwa [Addr.add_lit] at this⟩⟩

theorem below_drewN {B : Nat} {a w : World} (h : Below B a w) (n : Nat) : Below B a (w.drewN n) := ⟨h.os, h.tape, h.output, h.size, h.block⟩

theorem below_of_drewN (w : World) (n : Nat) : Below w.heap.size w (w.drewN n) := below_drewN (Below.refl _ _) n

/-- What Get answers where octets begin with a number, the world told by 'Below' alone. -/
def GotSome (w : World) (B n c k : Nat) (m : Int) (ys : List Int) (e : Ending) (w' : World) : Prop :=
  ∃ A', e = .returned (.tuple #[.int .i64 m, .slice A' (n - k) (c - k), .int .i64 0]) ∧ Oct w' B A' (n - k) ys ∧ Below w.heap.size w w'

theorem get_some (A : Option Addr) (n c B : Nat) (xs : List Int) (w : World) (hO : Oct w B A n xs) (hnc : n ≤ c) (hcm : c ≤ maxLen) (hE : getE xs = 0) :
    Calls Try.prog 10 #[.slice A n c] w (GotSome w B n c (getK xs) (getV xs) (xs.drop (getK xs))) :=
  (get_good A n c B xs w hO hnc hcm hE).mono fun _ _ ⟨A', he, h, d, hd⟩ => by
    subst hd
    exact ⟨A', he, h.drewN d, below_of_drewN w d⟩

def One (w : World) (e : Ending) (w' : World) : Prop := ∃ A', e = .returned (.tuple #[.int .i64 64, .slice A' 1 1, .int .i64 0]) ∧ Below w.heap.size w w'

theorem awake_get (w : World) : Calls Try.prog 10 #[.slice (some ⟨w.heap.size, 0, none⟩) 3 3] (w.alloc (.cells #[.int .u8 64, .int .u8 64, .int .u8 7] 5)) (One w) :=
  (get_some _ 3 3 _ [64, 64, 7] _ (Oct.new w [64, 64, 7] (by decide)) (Nat.le_refl _) (by decide) (by decide)).mono fun _ _ ⟨A', he, _, hd⟩ =>
    ⟨A', he, ((Below.refl _ _).alloc (Nat.le_refl _) _).trans (hd.mono (by simp))⟩

theorem awake_form (w : World) : Calls Try.prog 10 #[.slice (some ⟨w.heap.size, 0, none⟩) 2 2] (w.alloc (.cells #[.int .u8 64, .int .u8 63] 5)) fun e w' => e = .returned (.tuple #[.int .i64 0, .slice none 0 0, .int .i64 2]) ∧ Below w.heap.size w w' :=
  (get_bad _ 2 2 _ [64, 63] _ (Oct.new w [64, 63] (by decide)) (Nat.le_refl _) (by decide) (by decide)).mono fun _ _ ⟨he, hw⟩ => ⟨he, by
    subst hw
    exact (Below.refl _ _).alloc (Nat.le_refl _) _⟩

/-- A new slice of n octets that reads as the string s. -/
def Text (w : World) (n : Nat) (s : ByteArray) (e : Ending) (w' : World) : Prop :=
  ∃ g cap, e = .returned (.slice (some ⟨g, 0, none⟩) n cap) ∧ (convert 22 9 (.slice (some ⟨g, 0, none⟩) n cap)).run Try.prog w' = .ok (.string s) w' ∧ Below w.heap.size w w'

theorem awake_put (m : Int) (n : Nat) (s : ByteArray) (w : World) (hm : sizeN m ≠ 0) (hn : (octN m).length = n) (hs : strOfNums (octN m) = s) :
    Calls Try.prog 14 #[.slice none 0 0, .int .i64 m] w (Text w n s) := by
  refine (put_some none 0 0 0 [] m w (Oct.nil _ _ _) (Nat.zero_le _) (by omega) hm).mono ?_
  rintro e w' ⟨g, cap, he, _, _, _, hO, hb⟩
  rw [List.nil_append] at he hO
  subst hs hn
  exact ⟨g, cap, he, hO.str cap, hb⟩

theorem awake_any (w : World) : Calls Try.prog 9 #[] w fun e w' => e = .returned (.bool true) ∧ Below w.heap.size w w' := by
  go_enter Try.func9, Try.ntmps9
  go_wp2_with fail
  refine (awake_get _).mono ?_
  rintro e w1 ⟨A1, rfl, hb1⟩
  go_wp2_with fail
  refine (awake_form _).mono ?_
  rintro e w2 ⟨rfl, hb2⟩
  go_wp2_with fail
  refine (awake_put 63 1 ⟨#[63]⟩ _ (by decide) rfl rfl).mono ?_
  rintro e w3 ⟨g3, c3, rfl, hs3, hb3⟩
  go_wp2_with fail
  refine (awake_put 64 2 ⟨#[64, 64]⟩ _ (by decide) rfl rfl).mono ?_
  rintro e w4 ⟨g4, c4, rfl, hs4, hb4⟩
  clear hs3
  go_wp2_with fail
  refine (awake_put 16384 4 ⟨#[128, 0, 64, 0]⟩ _ (by decide) rfl rfl).mono ?_
  rintro e w5 ⟨g5, c5, rfl, hs5, hb5⟩
  clear hs4
  have h64 : sizeN 64 = 2 := by decide
  go_wp2_with (go_at_call 12; refine (size_any _ _).mono ?_; rintro e w' ⟨rfl, rfl⟩)
  go_ret
  refine ⟨rfl, ?_⟩
  have k1 := hb1.size
  have k2 := hb2.size
  have k3 := hb3.size
  have k4 := hb4.size
  exact (((hb1.trans (hb2.mono k1)).trans (hb3.mono (by omega))).trans (hb4.mono (by omega))).trans (hb5.mono (by omega))
end Go.Proofs.Ytkfbhiidahklnaa
