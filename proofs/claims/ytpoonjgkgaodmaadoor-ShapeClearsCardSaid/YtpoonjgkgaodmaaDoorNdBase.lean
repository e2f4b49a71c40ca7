/-
  Nodes in memory, and what the document says of them.
-/
import Derived.Test.YtpoonjgkgaodmaaDoorWiF
import Derived.Test.YtpoonjgkgaodmaaDoorLfMath
import Derived.Test.YtpoonjgkgaodmaaDoorPnMath
namespace Go.Proofs.YtpoonjgkgaodmaaDoor
open Go.ChangeShapes Go.WideShapes Go.ChangeAt Go.RowKit
set_option linter.unusedVariables false

/-- A function in a cell. -/
abbrev fnv : Option FuncId → Value
  | some f => .func (.func f) #[] #[]
  | none => .nilFunc
/-- Where the slices of a Nd lie. -/
structure NdV where
  leaf : LfV
  inner : PnV
/-- What a Nd says. -/
structure Nd where
  kind : Int
  leaf : Lf
  inner : Pn
abbrev NdV.cs (l : NdV) (L : Nd) : Array Value := #[nv L.kind, l.leaf.enc.v, l.leaf.cred.v, nv L.leaf.src, l.leaf.par.v, l.inner.enc.v, l.inner.hash.v, l.inner.unm.v]
structure IsNd (w : World) (B : Nat) (l : NdV) (L : Nd) : Prop where
  leaf : IsLf w B l.leaf L.leaf
  inner : IsPn w B l.inner L.inner
section
variable {w w' : World} {B B' : Nat} {l : NdV} {L : Nd}
theorem IsNd.below (h : IsNd w B l L) (b : Below B w w') : IsNd w' B l L := ⟨h.leaf.below b, h.inner.below b⟩
theorem IsNd.more (h : IsNd w B l L) (b : B ≤ B') : IsNd w B' l L := ⟨h.leaf.more b, h.inner.more b⟩
theorem IsNd.set {c : Nat} {old new : Array Value} {t t' : TypeId} (h : IsNd w B l L) (r : RowAt w c t old) (no : old.toList.all noNum = true) (st : Set1 w w' c t' new) : IsNd w' B l L := ⟨h.leaf.set r (noU8_of no) st, h.inner.set r no st⟩
abbrev NdV.zero : NdV := ⟨⟨nilS, nilS, nilS⟩, ⟨nilS, nilS, nilS⟩⟩
abbrev Nd.zero : Nd := ⟨0, ⟨[], [], 0, []⟩, ⟨[], [], []⟩⟩
theorem IsNd.zero (w : World) (B : Nat) : IsNd w B NdV.zero Nd.zero := ⟨IsLf.zero _ _, IsPn.zero _ _⟩
def NdV.fresh (a : Nat) (l : NdV) : Prop := l.inner.fresh a
theorem IsNd.setf {c a : Nat} {old new : Array Value} {t t' : TypeId} (h : IsNd w B l L) (r : RowAt w c t old) (no : old.toList.all noU8 = true) (f : l.fresh a) (hc : c < a) (st : Set1 w w' c t' new) : IsNd w' B l L := ⟨h.leaf.set r no st, h.inner.setf r no f hc st⟩
end
/-- Where the slices of a Cs lie. -/
structure CsV where

/-- What a Cs says. -/
structure Cs where
  put : Option FuncId
  get : Option FuncId
abbrev CsV.cs (l : CsV) (L : Cs) : Array Value := #[fnv L.put, fnv L.get]
structure IsCs (w : World) (B : Nat) (l : CsV) (L : Cs) : Prop where

section
variable {w w' : World} {B B' : Nat} {l : CsV} {L : Cs}
theorem IsCs.below (h : IsCs w B l L) (b : Below B w w') : IsCs w' B l L := ⟨⟩
theorem IsCs.more (h : IsCs w B l L) (b : B ≤ B') : IsCs w B' l L := ⟨⟩
theorem IsCs.set {c : Nat} {old new : Array Value} {t t' : TypeId} (h : IsCs w B l L) (r : RowAt w c t old) (no : old.toList.all noU8 = true) (st : Set1 w w' c t' new) : IsCs w' B l L := ⟨⟩
abbrev CsV.zero : CsV := ⟨⟩
abbrev Cs.zero : Cs := ⟨none, none⟩
theorem IsCs.zero (w : World) (B : Nat) : IsCs w B CsV.zero Cs.zero := ⟨⟩
end

/-- What is wrong with a node. -/
def ndCheck (L : Nd) : Int :=
  if L.kind < 0 ∨ 2 < L.kind then 7
  else if (¬ L.kind = 1 ∧ ¬ LfSame L.leaf Lf.zero) ∨ (¬ L.kind = 2 ∧ ¬ PnSame L.inner Pn.zero) then 2
  else if L.kind = 1 then lfCheck L.leaf
  else if L.kind = 2 then pnCheck L.inner
  else 0
/-- As what it counts. -/
def ndAs (L : Nd) : Nd := if ndCheck L = 0 then L else Nd.zero
def NdSame (L M : Nd) : Prop := L.kind = M.kind ∧ LfSame L.leaf M.leaf ∧ PnSame L.inner M.inner
instance (L M : Nd) : Decidable (NdSame L M) := by unfold NdSame; infer_instance
def ndFew (L : Nd) : Prop := lfFew L.leaf ∧ pnFew L.inner
instance (L : Nd) : Decidable (ndFew L) := by unfold ndFew; infer_instance
/-- The octets of a node. -/
def ndPut (L : Nd) : List Int :=
  if (ndAs L).kind = 1 then flagOct true ++ numOct 1 (widthK 1) ++ lfPut L.leaf
  else if (ndAs L).kind = 2 then flagOct true ++ numOct 2 (widthK 1) ++ pnPut L.inner
  else flagOct false
/-- The reading of a node: the error, the node, the rest. -/
def ndGet (xs : List Int) : Int × Nd × List Int :=
  if ¬ flagE xs = 0 then (flagE xs, Nd.zero, [])
  else if ¬ flagB xs = true then (0, Nd.zero, flagR xs)
  else if ¬ numE (flagR xs) 1 = 0 then (numE (flagR xs) 1, Nd.zero, [])
  else if numM (flagR xs) 1 = 1 then
    if ¬ (lfGet (numR (flagR xs) 1)).1 = 0 then ((lfGet (numR (flagR xs) 1)).1, Nd.zero, [])
    else (0, ⟨1, (lfGet (numR (flagR xs) 1)).2.1, Pn.zero⟩, (lfGet (numR (flagR xs) 1)).2.2)
  else if numM (flagR xs) 1 = 2 then
    if ¬ (pnGet (numR (flagR xs) 1)).1 = 0 then ((pnGet (numR (flagR xs) 1)).1, Nd.zero, [])
    else (0, ⟨2, Lf.zero, (pnGet (numR (flagR xs) 1)).2.1⟩, (pnGet (numR (flagR xs) 1)).2.2)
  else (7, Nd.zero, [])
/-- Whether it is of a kind, and, if it is, what it says. -/
def ndOnly (L : Nd) (k : Int) : List Int :=
  if (ndAs L).kind = k ∧ k = 1 then flagOct true ++ lfPut L.leaf
  else if (ndAs L).kind = k ∧ k = 2 then flagOct true ++ pnPut L.inner
  else flagOct false
def ofLeafO (i : Int) (L : Nd) : List Int := numOct 1 (widthK 1) ++ numOct i (widthK 4) ++ ndOnly L 1
def ofInnerO (L : Nd) (xs ys : List Int) : List Int := numOct 2 (widthK 1) ++ ndOnly L 2 ++ bytesOct xs ++ bytesOct ys
def ofParentO (L : Pn) (xs : List Int) : List Int := bytesOct L.enc ++ bytesOct L.hash ++ bytesOct xs
theorem ndAs_ok {L : Nd} (h : ndCheck L = 0) : ndAs L = L := if_pos h
theorem ndAs_no {L : Nd} (h : ¬ ndCheck L = 0) : ndAs L = Nd.zero := if_neg h
theorem ndAs_kind {L : Nd} (h : ¬ (ndAs L).kind = 0) : ndAs L = L ∧ ndCheck L = 0 := by
  by_cases e : ndCheck L = 0
  · exact ⟨ndAs_ok e, e⟩
  · exact absurd (by rw [ndAs_no e]) h
theorem ndCheck_kind {L : Nd} (h : ndCheck L = 0) : 0 ≤ L.kind ∧ L.kind ≤ 2 := by
  unfold ndCheck at h
  split at h <;> omega
theorem ndAs_range (L : Nd) : 0 ≤ (ndAs L).kind ∧ (ndAs L).kind ≤ 2 := by
  by_cases h : ndCheck L = 0
  · rw [ndAs_ok h]; exact ndCheck_kind h
  · rw [ndAs_no h]; exact ⟨by decide, by decide⟩
theorem widthK_4 : widthK 4 = 4 := by decide
theorem ndPut_le (L : Nd) : (ndPut L).length ≤ 2000 := by
  unfold ndPut
  have h1 := lfPut_le L.leaf
  have h2 := pnPut_le L.inner
  have := widthK1
  split
  · simp only [List.length_append, flagOct_length, numOct_length]; omega
  · split
    · simp only [List.length_append, flagOct_length, numOct_length]; omega
    · simp [flagOct_length]
theorem ndOnly_le (L : Nd) (k : Int) : (ndOnly L k).length ≤ 2000 := by
  unfold ndOnly
  have h1 := lfPut_le L.leaf
  have h2 := pnPut_le L.inner
  split
  · simp only [List.length_append, flagOct_length]; omega
  · split
    · simp only [List.length_append, flagOct_length]; omega
    · simp [flagOct_length]
theorem ofLeafO_le (i : Int) (L : Nd) : (ofLeafO i L).length ≤ 3000 := by
  have := ndOnly_le L 1
  have h1 := widthK1
  have h4 := widthK_4
  simp only [ofLeafO, List.length_append, numOct_length]; omega
theorem ofInnerO_le (L : Nd) (xs ys : List Int) : (ofInnerO L xs ys).length ≤ xs.length + ys.length + 3000 := by
  have := ndOnly_le L 2
  have h1 := widthK1
  have hx := bytesOct_le xs
  have hy := bytesOct_le ys
  simp only [ofInnerO, List.length_append, numOct_length]; omega
theorem ofParentO_le (L : Pn) (xs : List Int) : (ofParentO L xs).length ≤ L.enc.length + L.hash.length + xs.length + 3000 := by
  have h1 := bytesOct_le L.enc
  have h2 := bytesOct_le L.hash
  have hx := bytesOct_le xs
  simp only [ofParentO, List.length_append]; omega
end Go.Proofs.YtpoonjgkgaodmaaDoor
