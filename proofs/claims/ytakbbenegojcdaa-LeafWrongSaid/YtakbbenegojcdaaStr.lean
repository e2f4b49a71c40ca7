/-
  Octets read as strings.
-/
import Derived.Test.YtakbbenegojcdaaOct
import Derived.Laws.BytesArg
namespace Go.Proofs.Ytakbbenegojcdaa
open Go.ChangeShapes Go.WideShapes Go.ChangeAt Go.RowKit
set_option linter.unusedVariables false

theorem Oct.str {w : World} {B : Nat} {A : Option Addr} {n : Nat} {xs : List Int} (h : Oct w B A n xs) (c : Nat) :
    (convert 22 9 (.slice A n c)).run Try.prog w = .ok (.string (strOfNums xs)) w := by
  by_cases hn : n = 0
  · subst hn
    have hx : xs = [] := List.eq_nil_of_length_eq_zero h.1
    subst hx
    cases A with
    | none => exact run_convert_bytes_nil w 22 5 Try.underlying22 Try.underlying5 0 c 9 Try.underlying9
    | some a =>
      rw [run_convert_bytes_string w 22 9 5 _ 0 c Try.underlying22 Try.underlying5 Try.underlying9]
      rw [run_bytesToString w a 0 c [] (by simpa using run_loadCells_list (P := Try.prog) w a [] (by simp))]
      rfl
  · obtain ⟨b, o, rfl, _, hc⟩ := h.2.2 (by omega)
    exact run_convert_bytes_arg w 22 5 Try.underlying22 Try.underlying5 b o n c xs h.1 (fun i hi => by
      have hl : i < xs.length := by rw [h.1]; exact hi
      rw [hc i xs[i] (List.getElem?_eq_getElem hl)]
      simp [List.getD, List.getElem?_eq_getElem hl]) 9 Try.underlying9
theorem strs_app (xs ys : List Int) : (strOfNums (xs ++ ys)).data.toList = (strOfNums xs).data.toList ++ (strOfNums ys).data.toList := by
  rw [strOfNums_data, strOfNums_data, strOfNums_data, List.map_append]
/-- A slice of octets that was there reads as the same string in every later world. -/
theorem conv_keep {w4 W : World} {B n c : Nat} {A : Option Addr} {xs : List Int} {s : ByteArray} (h : Oct w4 B A n xs) (hB : B ≤ w4.heap.size) (p : Below w4.heap.size w4 W) (hs : strOfNums xs = s) :
    ∀ w', Below W.heap.size W w' → (convert 22 9 (.slice A n c)).run Try.prog w' = .ok (.string s) w' := fun w' hb => by
  rw [← hs]
  exact (h.below ((p.trans (hb.mono p.size)).mono hB)).str c

theorem str_app (xs ys : List Int) : strOfNums xs ++ strOfNums ys = strOfNums (xs ++ ys) := by
  apply ByteArray.ext
  simp [strOfNums, ByteArray.data_append]

theorem app_small {ys rs xs : List Int} {sm sr : ByteArray} (em : strOfNums ys = sm) (er : strOfNums rs = sr) (h : ys ++ rs = xs) (hl : xs.length ≤ 1000000) : ¬ 9223372036854775807 < sm.size + sr.size := by
  rw [← em, ← er, strOfNums_size, strOfNums_size]
  have h2 := congrArg List.length h
  rw [List.length_append] at h2
  omega
end Go.Proofs.Ytakbbenegojcdaa
