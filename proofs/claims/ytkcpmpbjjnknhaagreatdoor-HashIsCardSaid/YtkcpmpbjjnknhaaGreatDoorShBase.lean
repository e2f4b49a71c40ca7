/-
  States of a sum as values; what the chapter's functions answer, as plain functions.
-/
import Derived.Test.YtkcpmpbjjnknhaaGreatDoorKitA
import Derived.Test.YtkcpmpbjjnknhaaGreatDoorBlMix
import Derived.Test.YtkcpmpbjjnknhaaGreatDoorBlMore
import Derived.Test.YtkcpmpbjjnknhaaGreatDoorBlRef
namespace Go.Proofs.YtkcpmpbjjnknhaaGreatDoor
open Go.ChangeShapes Go.WideShapes Go.ChangeAt Go.RowKit
set_option linter.unusedVariables false

/-- The cells of a state. -/
def cS (h : Nat → BitVec 32) (s : Value) (k : Int) : Array Value := #[wv (h 0), wv (h 1), wv (h 2), wv (h 3), wv (h 4), wv (h 5), wv (h 6), wv (h 7), s, .int .i64 k]
theorem cS_part (h : Nat → BitVec 32) (s : Value) (k : Int) : (cS h s k).extract 0 (0 + 8) = cW 8 h := rfl
theorem cS_8 (h : Nat → BitVec 32) (s : Value) (k : Int) : (cS h s k)[8]? = some s := rfl
theorem cS_9 (h : Nat → BitVec 32) (s : Value) (k : Int) : (cS h s k)[9]? = some (nv k) := rfl
theorem cS_one (h : Nat → BitVec 32) (A : Option Addr) (m c : Nat) (k : Int) : (cS h (.slice A m c) k).all (·.oneCell') = true := by simp [cS, wv, Value.oneCell']
theorem cS_set (h g : Nat → BitVec 32) (s : Value) (k : Int) : ((cS h s k).toList.take 0 ++ (cW 8 g).toList ++ (cS h s k).toList.drop (0 + (cW 8 g).size)).toArray = cS g s k := rfl
theorem cS_all (h : Nat → BitVec 32) (s : Value) (k : Int) : (cS h s k).extract 0 (0 + 10) = cS h s k := rfl
theorem cS_no {h : Nat → BitVec 32} {A : Option Addr} {m c : Nat} {k : Int} : NoOct (cS h (.slice A m c) k) := by
  intro i z e
  match i, e with
  | 0, e | 1, e | 2, e | 3, e | 4, e | 5, e | 6, e | 7, e | 8, e | 9, e => simp [cS, wv] at e
  | i + 10, e => simp [cS] at e
theorem cB64_part (F : Nat → BitVec 8) : (cB 64 F).extract 0 (0 + 64) = cB 64 F := by
  have h := Array.extract_size (xs := cB 64 F)
  rw [cB_size] at h
  exact h
theorem cB_ext {n : Nat} {F G : Nat → BitVec 8} (h : ∀ i, i < n → F i = G i) : cB n F = cB n G := by
  unfold cB
  refine congrArg _ (List.map_congr_left fun i hi => ?_)
  rw [h i (by simpa using hi)]
theorem cW8_part (h : Nat → BitVec 32) : (cW 8 h).extract 0 (0 + 8) = cW 8 h := rfl
theorem hsS (h : Nat → BitVec 32) (s : Value) (k : Int) : (Tryz.prog.info? 85).map (·.size) = some (cS h s k).size := by kernel_rfl
theorem hsR (h : Nat → BitVec 32) (s : Value) (k : Int) : (Tryz.prog.info? 119).map (·.size) = some (cS h s k).size := by kernel_rfl
theorem hzS : (Tryz.prog.info? 85).map (fun i => (i.zero, i.size)) = some (some (.agg (cS (fun _ => 0) (.slice none 0 0) 0)), (cS (fun _ => 0) (.slice none 0 0) 0).size) := by kernel_rfl
theorem hzR : (Tryz.prog.info? 119).map (fun i => (i.zero, i.size)) = some (some (.agg (cS (fun _ => 0) (.slice none 0 0) 0)), (cS (fun _ => 0) (.slice none 0 0) 0).size) := by kernel_rfl
theorem hzM : (Tryz.prog.info? 113).map (fun i => (i.zero, i.size)) = some (some (.agg (cW 8 fun _ => 0)), (cW 8 fun _ => 0).size) := by kernel_rfl
theorem hsM (h : Nat → BitVec 32) : (Tryz.prog.info? 113).map (·.size) = some (cW 8 h).size := by rw [cW_size]; kernel_rfl

theorem bS3 (h : Nat → BitVec 32) {A : Option Addr} {m c : Nat} (h' : Unit) (k : Int) : Tryz.prog.built 85 [(0, .agg (cW 8 h)), (1, .slice A m c), (2, nv k)] = some (cS h (.slice A m c) k) := by kernel_rfl
theorem bR3 (h : Nat → BitVec 32) {A : Option Addr} {m c : Nat} (h' : Unit) (k : Int) : Tryz.prog.built 119 [(0, .agg (cW 8 h)), (1, .slice A m c), (2, nv k)] = some (cS h (.slice A m c) k) := by kernel_rfl
theorem bS1 (h : Nat → BitVec 32) : Tryz.prog.built 85 [(0, .agg (cW 8 h))] = some (cS h (.slice none 0 0) 0) := by kernel_rfl
theorem bR1 (h : Nat → BitVec 32) : Tryz.prog.built 119 [(0, .agg (cW 8 h))] = some (cS h (.slice none 0 0) 0) := by kernel_rfl
theorem bM (h : Nat → BitVec 32) : Tryz.prog.built 113 [(0, .agg (cW 8 h))] = some (cW 8 h) := by kernel_rfl
theorem bO : Tryz.prog.built 138 [] = some (cB 64 fun _ => 0) := by kernel_rfl

/-- What a state says. -/
structure S where
  h : Nat → BitVec 32
  b : List Int
  n : Int
def S.new : S := ⟨firstF, [], 0⟩
def S.ok (s : S) : Prop := s.b.length < 64 ∧ 0 ≤ s.n ∧ s.n ≤ 1125899906842624
instance (s : S) : Decidable s.ok := inferInstanceAs (Decidable (_ ∧ _))
def S.as (s : S) : S := if s.ok then s else S.new
def blkS (xs : List Int) (t : Nat) : Nat → BitVec 8 := fun i => toB (xs.getD (64 * t + i) 0)
def fold (h : Nat → BitVec 32) (xs : List Int) : Nat → Nat → BitVec 32
  | 0 => h
  | t + 1 => mixF (fold h xs t) (blkS xs t)
def hOf (h : Nat → BitVec 32) (xs : List Int) : Nat → BitVec 32 := fold h xs (xs.length / 64)
def rest (xs : List Int) : List Int := xs.drop (64 * (xs.length / 64))
def S.wr (s : S) (ys : List Int) : S :=
  if s.as.n + ys.length > 1125899906842624 then S.new else ⟨hOf s.as.h (s.as.b ++ ys), rest (s.as.b ++ ys), s.as.n + ys.length⟩
def be4 (x : BitVec 32) : List Int := [vb ((x >>> 24).setWidth 8), vb ((x >>> 16).setWidth 8), vb ((x >>> 8).setWidth 8), vb (x.setWidth 8)]
def outF (h : Nat → BitVec 32) : Nat → List Int
  | 0 => []
  | i + 1 => outF h i ++ be4 (h i)
def be8 (n : Int) : Nat → List Int
  | 0 => []
  | i + 1 => be8 n i ++ [n / 2 ^ (8 * (7 - i)) % 256]
def zeroN (n : Int) : Nat := ((64 - (n + 9) % 64) % 64).toNat
def padL (n : Int) : List Int := if 0 ≤ n ∧ n ≤ 1125899906842624 then 128 :: (List.replicate (zeroN n) 0 ++ be8 (n * 8) 8) else []
def S.done (s : S) : List Int := outF (s.as.wr (padL s.as.n)).h 8
def sumL (xs : List Int) : List Int := (S.new.wr xs).done

/-- A value that reads as a state, behind which nothing that was there has changed. -/
def StR (w : World) (s : S) (v : Value) (w' : World) : Prop :=
  ∃ A m c, v = .agg (cS s.h (.slice A m c) s.n) ∧ Oct w' w'.heap.size A m s.b ∧ Below w.heap.size w w'
def SlR (w : World) (xs : List Int) (v : Value) (w' : World) : Prop :=
  ∃ A m c, v = .slice A m c ∧ m ≤ c ∧ Oct w' w'.heap.size A m xs ∧ Below w.heap.size w w'
theorem S.as_ok {s : S} (h : s.ok) : s.as = s := if_pos h
theorem S.as_no {s : S} (h : ¬ s.ok) : s.as = S.new := if_neg h
theorem S.new_ok : S.new.ok := ⟨by simp [S.new], by simp [S.new], by simp [S.new]⟩
theorem S.as_b (s : S) : s.as.b.length < 64 := by
  by_cases h : s.ok
  · rw [S.as_ok h]; exact h.1
  · rw [S.as_no h]; exact S.new_ok.1
theorem S.as_n (s : S) : 0 ≤ s.as.n ∧ s.as.n ≤ 1125899906842624 := by
  by_cases h : s.ok
  · rw [S.as_ok h]; exact h.2
  · rw [S.as_no h]; exact S.new_ok.2
end Go.Proofs.YtkcpmpbjjnknhaaGreatDoor
