/-
  Contracts of wire.PutNums and wire.GetNums, for every list of numbers and every slice of octets.
-/
import Derived.Test.YtakbbenegojcdaaWiCat
import Derived.Test.YtakbbenegojcdaaNums
namespace Go.Proofs.Ytakbbenegojcdaa
open Go.ChangeShapes Go.WideShapes Go.ChangeAt Go.RowKit
set_option linter.unusedVariables false

/-- The four octets of each number. -/
def numsOct (ls : List Int) : List Int := ls.flatMap fun n => numOct n 4
theorem numsOct_length (ls : List Int) : (numsOct ls).length = 4 * ls.length := by
  induction ls with
  | nil => rfl
  | cons x l ih =>
    have e : numsOct (x :: l) = numOct x 4 ++ numsOct l := rfl
    rw [e, List.length_append, numOct_length, ih, List.length_cons]; omega
theorem numsOct_bytes (ls : List Int) : ∀ y ∈ numsOct ls, 0 ≤ y ∧ y ≤ 255 := by
  intro y hy
  unfold numsOct at hy
  rw [List.mem_flatMap] at hy
  obtain ⟨n, _, h⟩ := hy
  exact numOct_bytes n 4 y h
theorem numsOct_step (ls : List Int) (j : Nat) (h : j < ls.length) : numsOct (ls.take (j + 1)) = numsOct (ls.take j) ++ numOct ls[j] 4 := by
  unfold numsOct
  rw [List.take_succ_eq_append_getElem h, List.flatMap_append, List.flatMap_cons, List.flatMap_nil, List.append_nil]

/-- The numbers of four octets each. -/
def fours (ps : List Int) : List Int := (List.range (ps.length / 4)).map fun i => numV ((ps.drop (4 * i)).take 4)
theorem fours_length (ps : List Int) : (fours ps).length = ps.length / 4 := by simp [fours]
theorem fours_step (ps : List Int) (j : Nat) (h : j < ps.length / 4) : (fours ps).take (j + 1) = (fours ps).take j ++ [numV ((ps.drop (4 * j)).take 4)] := by
  rw [List.take_succ_eq_append_getElem (by rw [fours_length]; exact h)]
  simp [fours]

def numsE (xs : List Int) : Int := if bytesE xs ≠ 0 then bytesE xs else if (bytesP xs).length % 4 ≠ 0 then 2 else 0
def numsL (xs : List Int) : List Int := if numsE xs = 0 then fours (bytesP xs) else []
def numsR (xs : List Int) : List Int := if numsE xs = 0 then bytesR xs else []

/-- Numbers, the rest and an error are answered; nothing that was there has changed. -/
def GotNums (w : World) (B : Nat) (ls rs : List Int) (er : Int) (e : Ending) (w' : World) : Prop :=
  ∃ A1 n1 c1 A n c, e = .returned (.tuple #[.slice A1 n1 c1, .slice A n c, .int .i64 er]) ∧ n ≤ c ∧ c ≤ maxLen ∧ Nums w' w'.heap.size A1 n1 ls ∧ Oct w' B A n rs ∧ Below w.heap.size w w'

theorem run_cut_four (A : Option Addr) (n c j : Nat) (h2 : 4 * j + 4 ≤ c) (w : World) :
    (Instr.sliceAt 22 (.slice A n c) (some (.int .i64 (4 * (j : Int)))) (some (.int .i64 (4 * (j : Int) + 4))) none).run Try.prog w = .ok (.slice (cutA A (4 * j) c) 4 (c - 4 * j)) w := by
  have h := run_cut_lh A n c (4 * j) (4 * j + 4) (4 * (j : Int)) (4 * (j : Int) + 4) (by omega) (by omega) (by omega) h2 w
  rwa [show 4 * j + 4 - 4 * j = 4 from by omega] at h

theorem bytesP_le (xs : List Int) (hx : ∀ x ∈ xs, 0 ≤ x ∧ x ≤ 255) : (bytesP xs).length ≤ 1048576 := by
  unfold bytesP
  by_cases h : bytesE xs = 0
  · rw [if_pos h, List.length_take]
    have : ¬ 1048576 < getV xs := by
      intro h2
      unfold bytesE at h
      by_cases h3 : getE xs = 0
      · rw [if_neg (by simpa using h3), if_pos h2] at h; simp at h
      · rw [if_pos h3] at h; exact h3 h
    omega
  · rw [if_neg h]; simp

end Go.Proofs.Ytakbbenegojcdaa
