/-
  Trees as rows of nodes: what the document says of them.
-/
import Derived.Test.YtpoonjgkgaodmaaDoorNdMath
import Derived.Test.YtpoonjgkgaodmaaDoorIxBase
namespace Go.Proofs.YtpoonjgkgaodmaaDoor
open Go.ChangeShapes Go.WideShapes Go.ChangeAt Go.RowKit
set_option linter.unusedVariables false

def atN (a : List Nd) (i : Nat) : Nd := a.getD i Nd.zero
theorem atN_some {a : List Nd} {i : Nat} {L : Nd} (h : a[i]? = some L) : atN a i = L := by simp [atN, List.getD_eq_getElem?_getD, h]
theorem atN_none {a : List Nd} {i : Nat} (h : a.length ≤ i) : atN a i = Nd.zero := by simp [atN, List.getD_eq_getElem?_getD, h]
theorem atN_eq (a : List Nd) (i : Nat) : atN a i = a[i]?.getD Nd.zero := by simp [atN, List.getD_eq_getElem?_getD]
theorem atN_set {a : List Nd} {i j : Nat} {L : Nd} (hi : i < a.length) : atN (a.set i L) j = if j = i then L else atN a j := by
  rw [atN_eq, atN_eq, List.getElem?_set]
  by_cases e : i = j
  · subst e
    rw [if_pos rfl, if_pos rfl, if_pos hi]
    rfl
  · rw [if_neg e, if_neg (fun q => e q.symm)]
theorem atN_setz {a : List Nd} {i j : Nat} : atN (a.set i Nd.zero) j = if j = i then Nd.zero else atN a j := by
  by_cases hi : i < a.length
  · exact atN_set hi
  · rw [List.set_eq_of_length_le (by omega)]
    by_cases e : j = i
    · rw [if_pos e, atN_none (by omega)]
    · rw [if_neg e]
theorem atN_take {a : List Nd} {i k : Nat} (h : i < k) : atN (a.take k) i = atN a i := by
  rw [atN_eq, atN_eq, List.getElem?_take, if_pos h]
theorem atN_drop {a : List Nd} {i k : Nat} : atN (a.drop k) i = atN a (k + i) := by
  rw [atN_eq, atN_eq, List.getElem?_drop]
theorem atN_app_l {a b : List Nd} {i : Nat} (h : i < a.length) : atN (a ++ b) i = atN a i := by
  rw [atN_eq, atN_eq, List.getElem?_append_left h]
theorem atN_app_z {a : List Nd} {i n : Nat} : atN (a ++ List.replicate n Nd.zero) i = atN a i := by
  by_cases h : i < a.length
  · exact atN_app_l h
  · rw [atN_none (a := a) (by omega), atN_eq, List.getElem?_append_right (by omega), List.getElem?_replicate]
    split <;> rfl
theorem list_atN {a b : List Nd} (hl : a.length = b.length) (h : ∀ i, i < a.length → atN a i = atN b i) : a = b := by
  refine List.ext_getElem hl fun i h1 h2 => ?_
  have := h i h1
  rwa [atN_some (List.getElem?_eq_getElem h1), atN_some (List.getElem?_eq_getElem h2)] at this
/-- May a node of that kind stand there? -/
def fitK (i : Nat) (k : Int) : Prop := (i % 2 ≠ 0 ∨ k ≠ 2) ∧ (i % 2 = 0 ∨ k ≠ 1)
instance (i : Nat) (k : Int) : Decidable (fitK i k) := by unfold fitK; infer_instance
def okAt (i : Nat) (L : Nd) : Prop := ndCheck L = 0 ∧ fitK i L.kind
instance (i : Nat) (L : Nd) : Decidable (okAt i L) := by unfold okAt; infer_instance
/-- Is it a tree? -/
def trIs (a : List Nd) : Prop := (a.length = 0 ∨ isW (a.length : Int)) ∧ ∀ i, i < a.length → okAt i (atN a i)
instance (a : List Nd) : Decidable (trIs a) := by unfold trIs; infer_instance
/-- As what it counts. -/
def trAs (a : List Nd) : List Nd := if trIs a then a else []
theorem trAs_ok {a : List Nd} (h : trIs a) : trAs a = a := if_pos h
theorem trAs_no {a : List Nd} (h : ¬ trIs a) : trAs a = [] := if_neg h
theorem trIs_nil : trIs [] := ⟨.inl rfl, fun i h => absurd h (by simp)⟩
theorem trAs_is (a : List Nd) : trIs (trAs a) := by
  by_cases h : trIs a
  · rw [trAs_ok h]
    exact h
  · rw [trAs_no h]
    exact trIs_nil
theorem trAs_as (a : List Nd) : trAs (trAs a) = trAs a := trAs_ok (trAs_is a)
theorem trIs_le {a : List Nd} (h : trIs a) : a.length ≤ 127 := by
  rcases h.1 with e | e
  · omega
  · have := e.le
    omega
theorem trAs_le (a : List Nd) : (trAs a).length ≤ 127 := trIs_le (trAs_is a)
/-- The lengths of a tree. -/
theorem trIs_len {a : List Nd} (h : trIs a) : a.length = 0 ∨ a.length = 1 ∨ a.length = 3 ∨ a.length = 7 ∨ a.length = 15 ∨ a.length = 31 ∨ a.length = 63 ∨ a.length = 127 := by
  rcases h.1 with e | e
  · omega
  · unfold isW at e
    omega
theorem ok_zero (i : Nat) : okAt i Nd.zero := ⟨nd_zero, .inr (by decide), .inr (by decide)⟩
theorem ok_kind {i : Nat} {L : Nd} (h : okAt i L) : L.kind = 0 ∨ (L.kind = 1 ∧ i % 2 = 0) ∨ (L.kind = 2 ∧ i % 2 = 1) := by
  have h1 := ndCheck_kind h.1
  have h2 := h.2
  unfold fitK at h2
  omega
theorem trIs_ok {a : List Nd} (h : trIs a) (i : Nat) : okAt i (atN a i) := by
  by_cases hi : i < a.length
  · exact h.2 i hi
  · rw [atN_none (by omega)]
    exact ok_zero i
theorem trIs_set {a : List Nd} {i : Nat} {L : Nd} (h : trIs a) (ok : okAt i L) : trIs (a.set i L) := by
  by_cases hi : i < a.length
  · refine ⟨by rw [List.length_set]; exact h.1, fun j hj => ?_⟩
    rw [atN_set hi]
    split
    · rename_i e
      rw [e]
      exact ok
    · exact trIs_ok h j
  · rw [List.set_eq_of_length_le (by omega)]
    exact h
/-- How many leaves. -/
def leavesA (a : List Nd) : Nat := (a.length + 1) / 2
/-- The first blank leaf, from leaf i on, of k. -/
def freeN (a : List Nd) : Nat → Nat → Int
  | 0, _ => -1
  | k + 1, i => if (atN a (2 * i)).kind = 0 then (i : Int) else freeN a k (i + 1)
def freeA (a : List Nd) : Int := freeN a (leavesA a) 0
/-- The last node that is not blank, of the first k. -/
def lastN (a : List Nd) : Nat → Int
  | 0 => -1
  | k + 1 => if (atN a k).kind = 0 then lastN a k else (k : Int)
def lastA (a : List Nd) : Int := lastN a a.length
theorem freeN_is (a : List Nd) : ∀ (k i : Nat), (freeN a k i = -1 ∧ ∀ j, i ≤ j → j < i + k → (atN a (2 * j)).kind ≠ 0) ∨
    ∃ j : Nat, freeN a k i = (j : Int) ∧ i ≤ j ∧ j < i + k ∧ (atN a (2 * j)).kind = 0 ∧ ∀ q, i ≤ q → q < j → (atN a (2 * q)).kind ≠ 0
  | 0, i => .inl ⟨rfl, fun j h1 h2 => by omega⟩
  | k + 1, i => by
    rw [freeN]
    by_cases e : (atN a (2 * i)).kind = 0
    · rw [if_pos e]
      exact .inr ⟨i, rfl, Nat.le_refl _, by omega, e, fun q h1 h2 => by omega⟩
    · rw [if_neg e]
      rcases freeN_is a k (i + 1) with ⟨h1, h2⟩ | ⟨j, h1, h2, h3, h4, h5⟩
      · refine .inl ⟨h1, fun j h3 h4 => ?_⟩
        by_cases q : j = i
        · rw [q]
          exact e
        · exact h2 j (by omega) (by omega)
      · refine .inr ⟨j, h1, by omega, by omega, h4, fun q h6 h7 => ?_⟩
        by_cases r : q = i
        · rw [r]
          exact e
        · exact h5 q (by omega) h7
theorem freeA_is (a : List Nd) : (freeA a = -1 ∧ ∀ j, j < leavesA a → (atN a (2 * j)).kind ≠ 0) ∨
    ∃ j : Nat, freeA a = (j : Int) ∧ j < leavesA a ∧ (atN a (2 * j)).kind = 0 ∧ ∀ q, q < j → (atN a (2 * q)).kind ≠ 0 := by
  rcases freeN_is a (leavesA a) 0 with ⟨h1, h2⟩ | ⟨j, h1, h2, h3, h4, h5⟩
  · exact .inl ⟨h1, fun j hj => h2 j (by omega) (by omega)⟩
  · exact .inr ⟨j, h1, by omega, h4, fun q hq => h5 q (by omega) hq⟩
theorem freeA_one {a : List Nd} {j : Nat} (h1 : j < leavesA a) (h2 : (atN a (2 * j)).kind = 0) (h3 : ∀ q, q < j → (atN a (2 * q)).kind ≠ 0) : freeA a = (j : Int) := by
  rcases freeA_is a with ⟨_, h⟩ | ⟨k, h, h4, h5, h6⟩
  · exact absurd h2 (h j h1)
  · have : k = j := by
      by_cases q : k < j
      · exact absurd h5 (h3 k q)
      · by_cases r : j < k
        · exact absurd h2 (h6 j r)
        · omega
    rw [h, this]
theorem freeA_no {a : List Nd} (h : ∀ j, j < leavesA a → (atN a (2 * j)).kind ≠ 0) : freeA a = -1 := by
  rcases freeA_is a with ⟨e, _⟩ | ⟨k, e, h1, h2, _⟩
  · exact e
  · exact absurd h2 (h k h1)
theorem freeA_range (a : List Nd) : -1 ≤ freeA a ∧ freeA a < leavesA a ∧ ((leavesA a : Int) ≤ 64 → freeA a < 64) := by
  rcases freeA_is a with ⟨e, _⟩ | ⟨k, e, h1, _⟩
  · rw [e]
    omega
  · rw [e]
    omega
theorem lastN_is (a : List Nd) : ∀ k : Nat, (lastN a k = -1 ∧ ∀ j, j < k → (atN a j).kind = 0) ∨ ∃ j : Nat, lastN a k = (j : Int) ∧ j < k ∧ (atN a j).kind ≠ 0 ∧ ∀ q, j < q → q < k → (atN a q).kind = 0
  | 0 => .inl ⟨rfl, fun j h => by omega⟩
  | k + 1 => by
    rw [lastN]
    by_cases e : (atN a k).kind = 0
    · rw [if_pos e]
      rcases lastN_is a k with ⟨h1, h2⟩ | ⟨j, h1, h2, h3, h4⟩
      · refine .inl ⟨h1, fun j hj => ?_⟩
        by_cases q : j = k
        · rw [q]
          exact e
        · exact h2 j (by omega)
      · refine .inr ⟨j, h1, by omega, h3, fun q h5 h6 => ?_⟩
        by_cases r : q = k
        · rw [r]
          exact e
        · exact h4 q h5 (by omega)
    · rw [if_neg e]
      exact .inr ⟨k, rfl, by omega, e, fun q h1 h2 => by omega⟩
theorem lastA_is (a : List Nd) : (lastA a = -1 ∧ ∀ j, j < a.length → (atN a j).kind = 0) ∨ ∃ j : Nat, lastA a = (j : Int) ∧ j < a.length ∧ (atN a j).kind ≠ 0 ∧ ∀ q, j < q → q < a.length → (atN a q).kind = 0 := lastN_is a a.length
/-- A node is put at a place: the error. -/
def setE (a : List Nd) (x : Int) (L : Nd) : Int :=
  if ¬ isN x ((trAs a).length : Int) then 3 else if ¬ ndCheck L = 0 then ndCheck L else if ¬ fitK x.toNat L.kind then 7 else 0
def setL (a : List Nd) (x : Int) (L : Nd) : List Nd := if setE a x L = 0 then (trAs a).set x.toNat L else []
def clr : List Int → List Nd → List Nd
  | [], a => a
  | d :: ds, a => clr ds (a.set d.toNat Nd.zero)
/-- The tree grown. -/
def growE (a : List Nd) : Int := if leavesA (trAs a) = 64 then 10 else 0
def growL (a : List Nd) : List Nd := if growE a = 0 then trAs a ++ List.replicate ((trAs a).length + 1) Nd.zero else []
def noLeaf (a : List Nd) : Prop := ∀ i, i < a.length → (atN a i).kind ≠ 1
instance (a : List Nd) : Decidable (noLeaf a) := by unfold noLeaf; infer_instance
def trimN : Nat → List Nd → List Nd
  | 0, a => a
  | k + 1, a => if 1 < a.length ∧ noLeaf (a.drop (a.length / 2 + 1)) then trimN k (a.take (a.length / 2)) else a
def endA (a : List Nd) : List Nd := if a.length ≤ 1 ∧ noLeaf a then [] else a
def trimL (a : List Nd) : List Nd := endA (trimN 7 (trAs a))
def trSame (a b : List Nd) : Prop := a.length = b.length ∧ ∀ i, i < a.length → NdSame (atN a i) (atN b i)
instance (a b : List Nd) : Decidable (trSame a b) := by unfold trSame; infer_instance
theorem tr_same (a : List Nd) : trSame a a := ⟨rfl, fun i _ => nd_same _⟩
def trFew (a : List Nd) : Prop := (∀ i, i < a.length → ndFew (atN a i)) ∧ a.length ≤ 300
instance (a : List Nd) : Decidable (trFew a) := by unfold trFew; infer_instance
-- put
theorem set_facts {a : List Nd} {x : Int} {L : Nd} (h : setE a x L = 0) : isN x ((trAs a).length : Int) ∧ ndCheck L = 0 ∧ fitK x.toNat L.kind := by
  unfold setE at h
  split at h
  · exact absurd h (by decide)
  · rename_i h1
    split at h
    · rename_i h2
      exact absurd h h2
    · rename_i h2
      split at h
      · exact absurd h (by decide)
      · rename_i h3
        exact ⟨Classical.not_not.1 h1, Classical.not_not.1 h2, Classical.not_not.1 h3⟩
theorem setE_ok {a : List Nd} {x : Int} {L : Nd} (h1 : isN x ((trAs a).length : Int)) (h2 : ndCheck L = 0) (h3 : fitK x.toNat L.kind) : setE a x L = 0 := by
  unfold setE
  rw [if_neg (fun q => q h1), if_neg (fun q => q h2), if_neg (fun q => q h3)]
theorem setL_ok {a : List Nd} {x : Int} {L : Nd} (h : setE a x L = 0) : setL a x L = (trAs a).set x.toNat L := if_pos h
theorem setL_no {a : List Nd} {x : Int} {L : Nd} (h : ¬ setE a x L = 0) : setL a x L = [] := if_neg h
theorem trIs_setL (a : List Nd) (x : Int) (L : Nd) : trIs (setL a x L) := by
  by_cases h : setE a x L = 0
  · rw [setL_ok h]
    have := set_facts h
    exact trIs_set (trAs_is a) this.2
  · rw [setL_no h]
    exact trIs_nil
-- blank
theorem clr_len : ∀ (ds : List Int) (a : List Nd), (clr ds a).length = a.length
  | [], _ => rfl
  | d :: ds, a => by rw [clr, clr_len ds, List.length_set]
theorem clr_is : ∀ (ds : List Int) {a : List Nd}, trIs a → trIs (clr ds a)
  | [], _, h => h
  | d :: ds, a, h => clr_is ds (trIs_set h (ok_zero _))
theorem clr_at : ∀ (ds : List Int) (a : List Nd) (j : Nat), (∀ d ∈ ds, 0 ≤ d) → atN (clr ds a) j = if (j : Int) ∈ ds then Nd.zero else atN a j
  | [], a, j, _ => by
    rw [clr, if_neg (by simp)]
  | d :: ds, a, j, h => by
    rw [clr, clr_at ds _ j (fun q hq => h q (by simp [hq])), atN_setz]
    have hd := h d (by simp)
    by_cases e : (j : Int) ∈ ds
    · rw [if_pos e, if_pos (by simp [e])]
    · rw [if_neg e]
      by_cases e2 : j = d.toNat
      · rw [if_pos e2, if_pos (by rw [List.mem_cons]; left; omega)]
      · rw [if_neg e2, if_neg (by
          rw [List.mem_cons]
          rintro (q | q)
          · omega
          · exact e q)]
theorem clr_snoc : ∀ (ds : List Int) (d : Int) (a : List Nd), clr (ds ++ [d]) a = (clr ds a).set d.toNat Nd.zero
  | [], _, _ => rfl
  | c :: ds, d, a => by rw [List.cons_append, clr, clr_snoc ds d, clr]
-- grow
theorem growE_val (a : List Nd) : growE a = 0 ∨ growE a = 10 := by
  unfold growE
  split
  · exact .inr rfl
  · exact .inl rfl
theorem grow_small {a : List Nd} (h : growE a = 0) : (trAs a).length ≤ 63 := by
  have h1 := trIs_len (trAs_is a)
  unfold growE leavesA at h
  split at h
  · exact absurd h (by decide)
  · omega
theorem growL_ok {a : List Nd} (h : growE a = 0) : growL a = trAs a ++ List.replicate ((trAs a).length + 1) Nd.zero := if_pos h
theorem growL_no {a : List Nd} (h : ¬ growE a = 0) : growL a = [] := if_neg h
theorem growL_len {a : List Nd} (h : growE a = 0) : (growL a).length = 2 * (trAs a).length + 1 := by
  rw [growL_ok h, List.length_append, List.length_replicate]
  omega
theorem trIs_growL (a : List Nd) : trIs (growL a) := by
  by_cases h : growE a = 0
  · have hl := growL_len h
    have hs := grow_small h
    have h1 := trIs_len (trAs_is a)
    refine ⟨.inr ?_, fun i hi => ?_⟩
    · rw [hl]
      unfold isW
      omega
    · rw [growL_ok h, atN_app_z]
      exact trIs_ok (trAs_is a) i
  · rw [growL_no h]
    exact trIs_nil
-- trim
theorem noLeaf_nil : noLeaf [] := fun i h => absurd h (by simp)
theorem trim_stop {a : List Nd} (k : Nat) (h : ¬ (1 < a.length ∧ noLeaf (a.drop (a.length / 2 + 1)))) : trimN k a = a := by
  cases k with
  | zero => rfl
  | succ k => rw [trimN, if_neg h]
theorem trim_step {a : List Nd} (k : Nat) (h1 : 1 < a.length) (h2 : noLeaf (a.drop (a.length / 2 + 1))) : trimN (k + 1) a = trimN k (a.take (a.length / 2)) := by rw [trimN, if_pos ⟨h1, h2⟩]
theorem trIs_half {a : List Nd} (h : trIs a) (h1 : 1 < a.length) : trIs (a.take (a.length / 2)) := by
  have hl := trIs_len h
  refine ⟨.inr ?_, fun i hi => ?_⟩
  · rw [List.length_take]
    unfold isW
    omega
  · rw [List.length_take] at hi
    rw [atN_take (by omega)]
    exact trIs_ok h i
theorem trIs_trimN : ∀ (k : Nat) {a : List Nd}, trIs a → trIs (trimN k a)
  | 0, _, h => h
  | k + 1, a, h => by
    by_cases c : 1 < a.length ∧ noLeaf (a.drop (a.length / 2 + 1))
    · rw [trim_step k c.1 c.2]
      exact trIs_trimN k (trIs_half h c.1)
    · rw [trim_stop _ c]
      exact h
theorem trIs_end {a : List Nd} (h : trIs a) : trIs (endA a) := by
  unfold endA
  split
  · exact trIs_nil
  · exact h
theorem trIs_trimL (a : List Nd) : trIs (trimL a) := trIs_end (trIs_trimN 7 (trAs_is a))
theorem trim_take : ∀ (k : Nat) (a : List Nd), trimN k a = a.take (trimN k a).length
  | 0, a => by rw [trimN, List.take_length]
  | k + 1, a => by
    by_cases c : 1 < a.length ∧ noLeaf (a.drop (a.length / 2 + 1))
    · rw [trim_step k c.1 c.2]
      have h := trim_take k (a.take (a.length / 2))
      have hl : (trimN k (a.take (a.length / 2))).length ≤ a.length / 2 := by
        rw [h, List.length_take, List.length_take]
        omega
      rw [List.take_take, Nat.min_eq_left hl] at h
      exact h
    · rw [trim_stop _ c, List.take_length]
theorem end_take (a b : List Nd) (h : b = a.take b.length) : endA b = a.take (endA b).length := by
  unfold endA
  split
  · simp
  · exact h
theorem trimL_take (a : List Nd) : trimL a = (trAs a).take (trimL a).length := end_take _ _ (trim_take 7 _)
theorem trimL_le (a : List Nd) : (trimL a).length ≤ (trAs a).length := by
  rw [trimL_take a, List.length_take]
  omega
theorem trim_more : ∀ (k : Nat) {a : List Nd}, a.length < 2 ^ k → trimN (k + 1) a = trimN k a
  | 0, a, h => by
    rw [trim_stop _ (fun q => by have := q.1; simp at h; simp [h] at this)]
    rfl
  | k + 1, a, h => by
    by_cases c : 1 < a.length ∧ noLeaf (a.drop (a.length / 2 + 1))
    · rw [trim_step (k + 1) c.1 c.2, trim_step k c.1 c.2]
      refine trim_more k ?_
      rw [List.length_take]
      have : 2 ^ (k + 1) = 2 * 2 ^ k := by rw [Nat.pow_succ]; omega
      omega
    · rw [trim_stop _ c, trim_stop _ c]
theorem trim_done : ∀ (k : Nat) {a : List Nd}, a.length < 2 ^ k → ¬ (1 < (trimN k a).length ∧ noLeaf ((trimN k a).drop ((trimN k a).length / 2 + 1)))
  | 0, a, h => fun q => by
    have := q.1
    simp [trimN] at this h
    simp [h] at this
  | k + 1, a, h => by
    by_cases c : 1 < a.length ∧ noLeaf (a.drop (a.length / 2 + 1))
    · rw [trim_step k c.1 c.2]
      refine trim_done k ?_
      rw [List.length_take]
      have : 2 ^ (k + 1) = 2 * 2 ^ k := by rw [Nat.pow_succ]; omega
      omega
    · rw [trim_stop _ c]
      exact c
theorem trimL_done (a : List Nd) : ¬ (1 < (trimN 7 (trAs a)).length ∧ noLeaf ((trimN 7 (trAs a)).drop ((trimN 7 (trAs a)).length / 2 + 1))) :=
  trim_done 7 (by have := trAs_le a; omega)
theorem trimL_end (a : List Nd) : trimL a = [] ∨ (trimL a = trimN 7 (trAs a) ∧ ¬ ((trimN 7 (trAs a)).length ≤ 1 ∧ noLeaf (trimN 7 (trAs a)))) := by
  unfold trimL endA
  split
  · exact .inl rfl
  · rename_i h
    exact .inr ⟨rfl, h⟩
theorem trimL_nil : trimL [] = [] := by
  unfold trimL
  rw [trAs_ok trIs_nil, trim_stop 7 (fun q => absurd q.1 (by simp))]
  exact if_pos ⟨by simp, noLeaf_nil⟩
theorem trim_twice (a : List Nd) : trimL (trimL a) = trimL a := by
  rcases trimL_end a with e | ⟨e, h⟩
  · rw [e, trimL_nil]
  · rw [e]
    unfold trimL
    rw [trAs_ok (trIs_trimN 7 (trAs_is a)), trim_stop 7 (trimL_done a)]
    exact if_neg h
theorem trim_grow {a : List Nd} (h : growE a = 0) : trimL (growL a) = trimL a := by
  have hs := grow_small h
  have hl := growL_len h
  unfold trimL
  rw [trAs_ok (trIs_growL a)]
  by_cases h0 : (trAs a).length = 0
  · have e0 : trAs a = [] := List.eq_nil_of_length_eq_zero h0
    rw [growL_ok h, e0, trim_stop 7 (fun q => absurd q.1 (by simp)), trim_stop 7 (fun q => absurd q.1 (by simp))]
    exact (if_pos ⟨by simp, by decide⟩ : endA [Nd.zero] = []).trans (if_pos ⟨by simp, noLeaf_nil⟩).symm
  · have h7 : trimN 7 (growL a) = trimN 6 (trAs a) := by
      have e1 : (growL a).length / 2 = (trAs a).length := by omega
      rw [trim_step 6 (by omega) (by
        intro i hi
        have e2 : (trAs a).length ≤ (growL a).length / 2 + 1 + i := by omega
        rw [atN_drop]
        generalize (growL a).length / 2 + 1 + i = z at e2 ⊢
        rw [growL_ok h, atN_app_z, atN_none e2]
        decide), e1, growL_ok h, List.take_left' rfl]
    rw [h7, trim_more 6 (by omega)]
/-- A trimmed tree that is not empty has a leaf behind its root, or at it. -/
theorem trim_last {a : List Nd} (h : ¬ trimL a = []) : ∃ x, x < (trimL a).length ∧ (atN (trimL a) x).kind = 1 ∧ rootI ((trimL a).length : Int) ≤ x := by
  rcases trimL_end a with e | ⟨e, hn⟩
  · exact absurd e h
  · have hd := trimL_done a
    have hl := trIs_len (trIs_trimN 7 (trAs_is a))
    rw [← e] at hn hd hl
    have h0 : (trimL a).length ≠ 0 := fun q => h (List.eq_nil_of_length_eq_zero q)
    have hr : rootI ((trimL a).length : Int) = ((trimL a).length - 1 : Int) / 2 := root_is (by unfold isW; omega)
    generalize trimL a = s at *
    by_cases h1 : s.length ≤ 1
    · have hx : ¬ noLeaf s := fun q => hn ⟨h1, q⟩
      unfold noLeaf at hx
      simp only [Classical.not_forall, Classical.not_not] at hx
      obtain ⟨i, hi, hk⟩ := hx
      exact ⟨i, hi, hk, by rw [hr]; omega⟩
    · have hx : ¬ noLeaf (s.drop (s.length / 2 + 1)) := fun q => hd ⟨by omega, q⟩
      unfold noLeaf at hx
      simp only [Classical.not_forall, Classical.not_not] at hx
      obtain ⟨i, hi, hk⟩ := hx
      rw [List.length_drop] at hi
      rw [atN_drop] at hk
      exact ⟨_, by omega, hk, by rw [hr]; omega⟩
/-- A tree of one node has no leaf just if that is blank. -/
theorem end_one {a : List Nd} (h : trIs a) : endA a = if a.length = 1 ∧ (atN a 0).kind = 0 then [] else a := by
  unfold endA
  by_cases h1 : a.length = 1
  · have hk := ok_kind (trIs_ok h 0)
    by_cases h2 : (atN a 0).kind = 0
    · rw [if_pos ⟨by omega, fun i hi => by obtain rfl : i = 0 := by omega
                                           rw [h2]; decide⟩, if_pos ⟨h1, h2⟩]
    · rw [if_neg (fun q => q.2 0 (by omega) (by omega)), if_neg (fun q => h2 q.2)]
  · by_cases h0 : a.length = 0
    · have e : a = [] := List.eq_nil_of_length_eq_zero h0
      subst e
      rw [if_pos ⟨by simp, noLeaf_nil⟩, if_neg (fun q => h1 q.1)]
    · rw [if_neg (fun q => by omega), if_neg (fun q => h1 q.1)]
end Go.Proofs.YtpoonjgkgaodmaaDoor
