/-
  Lists of whole numbers that rise: what a number laid into one makes of it; that they are told by their members; what sorting and leaving out neighbours that are the same makes.
-/
import Derived.Test.YtpoonjgkgaodmaaDoorRows
import Derived.Lib.SlicesCompact
namespace Go.Proofs.YtpoonjgkgaodmaaDoor

set_option linter.unusedVariables false

/-- A number laid into a rising list, once. -/
def insU (x : Int) : List Int → List Int
  | [] => [x]
  | y :: r => if x < y then x :: y :: r else if x = y then y :: r else y :: insU x r
/-- The numbers of a list, rising, each once. -/
def riseU : List Int → List Int
  | [] => []
  | x :: r => insU x (riseU r)
abbrev Rising (l : List Int) : Prop := l.Pairwise (· < ·)
theorem insU_mem {x y : Int} : ∀ {l : List Int}, y ∈ insU x l ↔ y = x ∨ y ∈ l
  | [] => by simp [insU]
  | z :: r => by
    unfold insU
    split
    · simp
    · split
      · rename_i h1 h2
        subst h2
        simp
      · simp only [List.mem_cons, insU_mem (l := r)]
        constructor
        · rintro (h | h | h) <;> simp [h]
        · rintro (h | h | h) <;> simp [h]
theorem insU_rising {x : Int} : ∀ {l : List Int}, Rising l → Rising (insU x l)
  | [], _ => by simp [insU]
  | z :: r, h => by
    have h1 := List.pairwise_cons.1 h
    unfold insU
    split
    · rename_i hx
      exact List.pairwise_cons.2 ⟨fun b hb => by
        rcases List.mem_cons.1 hb with rfl | hb
        · exact hx
        · have := h1.1 b hb; omega, h⟩
    · split
      · exact h
      · rename_i h2 h3
        refine List.pairwise_cons.2 ⟨fun b hb => ?_, insU_rising h1.2⟩
        rcases insU_mem.1 hb with rfl | hb
        · omega
        · exact h1.1 b hb
theorem riseU_mem {y : Int} : ∀ {l : List Int}, y ∈ riseU l ↔ y ∈ l
  | [] => Iff.rfl
  | x :: r => by
    unfold riseU
    rw [insU_mem, riseU_mem (l := r), List.mem_cons]
theorem riseU_rising : ∀ (l : List Int), Rising (riseU l)
  | [] => List.Pairwise.nil
  | x :: r => insU_rising (riseU_rising r)
theorem rising_ext : ∀ {l m : List Int}, Rising l → Rising m → (∀ x, x ∈ l ↔ x ∈ m) → l = m
  | [], [], _, _, _ => rfl
  | [], y :: s, _, _, h => absurd ((h y).2 (by simp)) (by simp)
  | x :: r, [], _, _, h => absurd ((h x).1 (by simp)) (by simp)
  | x :: r, y :: s, hl, hm, h => by
    have h1 := List.pairwise_cons.1 hl
    have h2 := List.pairwise_cons.1 hm
    have e : x = y := by
      rcases List.mem_cons.1 ((h x).1 (by simp)) with e | e
      · exact e
      · rcases List.mem_cons.1 ((h y).2 (by simp)) with e2 | e2
        · exact e2.symm
        · have := h2.1 x e
          have := h1.1 y e2
          omega
    subst e
    rw [rising_ext h1.2 h2.2 fun z => ?_]
    have hz := h z
    constructor
    · intro hm'
      rcases List.mem_cons.1 (hz.1 (by simp [hm'])) with e | e
      · subst e; have := h1.1 z hm'; omega
      · exact e
    · intro hm'
      rcases List.mem_cons.1 (hz.2 (by simp [hm'])) with e | e
      · subst e; have := h2.1 z hm'; omega
      · exact e
theorem riseU_id {l : List Int} (h : Rising l) : riseU l = l := rising_ext (riseU_rising l) h fun _ => riseU_mem
theorem riseU_congr {l m : List Int} (h : ∀ x, x ∈ l ↔ x ∈ m) : riseU l = riseU m := rising_ext (riseU_rising l) (riseU_rising m) fun x => by rw [riseU_mem, riseU_mem]; exact h x
theorem insU_length (x : Int) : ∀ (l : List Int), (insU x l).length ≤ l.length + 1
  | [] => by simp [insU]
  | y :: r => by
    unfold insU
    split
    · simp
    · split
      · simp
      · simp only [List.length_cons]; have := insU_length x r; omega
theorem riseU_length : ∀ (l : List Int), (riseU l).length ≤ l.length
  | [] => Nat.le_refl _
  | x :: r => by
    have h1 := insU_length x (riseU r)
    have h2 := riseU_length r
    unfold riseU
    simp only [List.length_cons]
    omega
theorem rising_at {l : List Int} (h : Rising l) {i j : Nat} (hij : i < j) (hj : j < l.length) : l.getD i 0 < l.getD j 0 := by
  have := List.pairwise_iff_getElem.1 h i j (by omega) hj hij
  simpa [List.getD_eq_getElem?_getD, show i < l.length by omega, hj] using this
theorem rising_of {l : List Int} (h : ∀ i, i + 1 < l.length → l.getD i 0 < l.getD (i + 1) 0) : Rising l := by
  have key : ∀ d i, i + d + 1 < l.length → l.getD i 0 < l.getD (i + d + 1) 0 := by
    intro d
    induction d with
    | zero => intro i hi; exact h i hi
    | succ d ih =>
      intro i hi
      have h1 := ih i (by omega)
      have h2 := h (i + d + 1) (by omega)
      have e : i + (d + 1) + 1 = i + d + 1 + 1 := by omega
      rw [e]
      omega
  refine List.pairwise_iff_getElem.2 fun i j hi hj hij => ?_
  have := key (j - i - 1) i (by omega)
  rw [show i + (j - i - 1) + 1 = j by omega] at this
  simpa [List.getD_eq_getElem?_getD, hi, hj] using this
theorem not_rising {l : List Int} {i : Nat} (hi : i + 1 < l.length) (h : l.getD (i + 1) 0 ≤ l.getD i 0) : ¬ Rising l := fun q => by
  have := rising_at q (show i < i + 1 by omega) hi
  omega
theorem rising_le {l : List Int} (h : Rising l) : l.Pairwise (· ≤ ·) := h.imp fun h => Int.le_of_lt h
theorem getD_mem {l : List Int} {i : Nat} (h : i < l.length) : l.getD i 0 ∈ l := by
  rw [List.getD_eq_getElem?_getD, List.getElem?_eq_getElem h]
  exact List.getElem_mem h
theorem mem_getD {l : List Int} {x : Int} (h : x ∈ l) : ∃ i, i < l.length ∧ l.getD i 0 = x := by
  obtain ⟨i, hi, rfl⟩ := List.getElem_of_mem h
  exact ⟨i, hi, by rw [List.getD_eq_getElem?_getD, List.getElem?_eq_getElem hi]; rfl⟩
-- sorted, and without neighbours that are the same
section
open Go.Lib
theorem get_bang {zs : List Int} {j : Nat} (h : j < zs.length) : zs.toArray[j]! = zs[j] := by simp [h]
theorem compact_mem (zs : List Int) (x : Int) : x ∈ compact zs ↔ x ∈ zs := by
  unfold compact compactUpTo
  rw [List.mem_map]
  constructor
  · rintro ⟨j, hj, rfl⟩
    rw [List.mem_filter, List.mem_range] at hj
    rw [get_bang hj.1]
    exact List.getElem_mem hj.1
  · intro h
    obtain ⟨i, hi, rfl⟩ := List.getElem_of_mem h
    have key : ∀ i (hi : i < zs.length), ∃ a, a ∈ (List.range zs.length).filter (keeps zs.toArray) ∧ zs.toArray[a]! = zs[i] := by
      intro i
      induction i with
      | zero => exact fun hi => ⟨0, by rw [List.mem_filter, List.mem_range]; exact ⟨hi, by simp [keeps]⟩, get_bang hi⟩
      | succ i ih =>
        intro hi
        by_cases e : zs[i + 1] = zs[i]
        · obtain ⟨a, h1, h2⟩ := ih (by omega)
          exact ⟨a, h1, h2.trans e.symm⟩
        · refine ⟨i + 1, ?_, get_bang hi⟩
          rw [List.mem_filter, List.mem_range]
          refine ⟨hi, ?_⟩
          unfold keeps
          rw [decide_eq_true_iff]
          exact .inr (by rw [get_bang hi, Nat.add_sub_cancel, get_bang (by omega)]; exact e)
    exact key i hi
theorem compact_rising {zs : List Int} (h : zs.Pairwise (· ≤ ·)) : Rising (compact zs) := by
  unfold compact compactUpTo
  rw [Rising, List.pairwise_map, List.pairwise_filter]
  have hr : (List.range zs.length).Pairwise (fun a b => a < b ∧ b < zs.length) := by
    refine List.pairwise_iff_getElem.2 fun i j hi hj hij => ?_
    rw [List.length_range] at hi hj
    simp only [List.getElem_range]
    exact ⟨hij, hj⟩
  refine hr.imp fun {a b} hab ha hb => ?_
  obtain ⟨hab, hbl⟩ := hab
  have hb' : b = 0 ∨ zs.toArray[b]! ≠ zs.toArray[b - 1]! := by simpa [keeps] using hb
  rcases hb' with hb' | hb'
  · omega
  · rw [get_bang hbl, get_bang (by omega)] at hb'
    rw [get_bang (by omega), get_bang hbl]
    have h1 : zs[b - 1] ≤ zs[b] := List.pairwise_iff_getElem.1 h (b - 1) b (by omega) hbl (by omega)
    by_cases e : a = b - 1
    · subst e
      omega
    · have h2 : zs[a] ≤ zs[b - 1] := List.pairwise_iff_getElem.1 h a (b - 1) (by omega) (by omega) (by omega)
      omega
theorem compact_sorted (zs : List Int) : compact (zs.mergeSort fun x y => decide (x ≤ y)) = riseU zs := by
  refine rising_ext (compact_rising ?_) (riseU_rising zs) fun x => ?_
  · have := List.pairwise_mergeSort (le := fun (x y : Int) => decide (x ≤ y)) (fun a b c h1 h2 => by simp at *; omega) (fun a b => by simp; omega) zs
    exact this.imp fun h => by simpa using h
  · rw [compact_mem, riseU_mem]
    exact List.mem_mergeSort
end
-- what is joined, and what is cut
def joinK (l : List Int) (i : Int) : List Int := riseU (l ++ [i])
def cutK (l i : List Int) : List Int := l.filter fun x => decide (x ∉ i)
theorem joinK_mem {l : List Int} {i x : Int} : x ∈ joinK l i ↔ x ∈ l ∨ x = i := by simp [joinK, riseU_mem]
theorem joinK_rising (l : List Int) (i : Int) : Rising (joinK l i) := riseU_rising _
theorem joinK_length (l : List Int) (i : Int) : (joinK l i).length ≤ l.length + 1 := by
  have := riseU_length (l ++ [i])
  rw [List.length_append] at this
  exact this
theorem joinK_eq {l m : List Int} {i : Int} (h : Rising m) (hm : ∀ x, x ∈ m ↔ x ∈ l ∨ x = i) : joinK l i = m := rising_ext (joinK_rising l i) h fun x => by rw [joinK_mem, hm]
theorem cutK_mem {l i : List Int} {x : Int} : x ∈ cutK l i ↔ x ∈ l ∧ x ∉ i := by simp [cutK]
theorem cutK_length (l i : List Int) : (cutK l i).length ≤ l.length := List.length_filter_le _ _
theorem cutK_take {l i : List Int} {t : Nat} (h : t < l.length) : cutK (l.take (t + 1)) i = cutK (l.take t) i ++ (if l.getD t 0 ∈ i then [] else [l.getD t 0]) := by
  have e : l.getD t 0 = l[t] := by rw [List.getD_eq_getElem?_getD, List.getElem?_eq_getElem h]; rfl
  rw [List.take_succ_eq_append_getElem h, cutK, List.filter_append, e]
  by_cases hm : l[t] ∈ i <;> simp [cutK, hm]
theorem cutK_congr {l i j : List Int} (h : ∀ x, x ∈ i ↔ x ∈ j) : cutK l i = cutK l j := by
  unfold cutK
  exact List.filter_congr fun x _ => by simp [h x]
theorem cutK_again (l i : List Int) : cutK (cutK l i) i = cutK l i := by
  unfold cutK
  rw [List.filter_filter]
  simp
theorem cutK_nil (l : List Int) : cutK l [] = l := by simp [cutK]
theorem cutK_self (l : List Int) : cutK l l = [] := by
  rw [cutK, List.filter_eq_nil_iff]
  intro x hx
  simp [hx]
theorem cutK_rising {l i : List Int} (h : Rising l) : Rising (cutK l i) := List.Pairwise.filter _ h
/-- A rising list without one of its numbers is one shorter. -/
theorem cutK_one : ∀ {l : List Int} {i : Int}, Rising l → i ∈ l → (cutK l [i]).length + 1 = l.length
  | x :: r, i, h, hi => by
    have h1 := List.pairwise_cons.1 h
    by_cases e : x = i
    · subst e
      have : cutK (x :: r) [x] = r := by
        have hr : ∀ y ∈ r, y ∉ [x] := fun y hy q => by
          have := h1.1 y hy
          rw [List.mem_singleton] at q
          omega
        rw [cutK, List.filter_cons]
        simp only [List.mem_singleton, not_true_eq_false, decide_false, Bool.false_eq_true, if_false]
        exact List.filter_eq_self.2 fun y hy => decide_eq_true (fun q => hr y hy (by rw [q]; simp))
      rw [this, List.length_cons]
    · have hi' : i ∈ r := by
        rcases List.mem_cons.1 hi with q | q
        · exact absurd q.symm e
        · exact q
      have := cutK_one h1.2 hi'
      have e2 : cutK (x :: r) [i] = x :: cutK r [i] := by
        unfold cutK
        rw [List.filter_cons]
        simp [e]
      rw [e2, List.length_cons, List.length_cons, this]
end Go.Proofs.YtpoonjgkgaodmaaDoor
