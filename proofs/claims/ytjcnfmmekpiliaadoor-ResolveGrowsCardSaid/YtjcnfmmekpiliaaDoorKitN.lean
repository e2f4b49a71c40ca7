/-
  KitN: Rise, WiS, WiF, WiT, LfBase, LfMath, PnBase, PnMath, NdBase, NdMath, NdRow.
-/
import Derived.Test.YtjcnfmmekpiliaaDoorRows
import Derived.Lib.SlicesCompact
import Derived.Test.YtjcnfmmekpiliaaDoorKitA
import Derived.Test.YtjcnfmmekpiliaaDoorKitR
import Derived.Test.YtjcnfmmekpiliaaDoorKitV
namespace Go.Proofs.YtjcnfmmekpiliaaDoor
open Go.ChangeShapes Go.WideShapes Go.ChangeAt Go.RowKit
set_option linter.unusedVariables false

/- Rise:
  Lists of whole numbers that rise: what a number laid into one makes of it; that they are told by their members; what sorting and leaving out neighbours that are the same makes.
-/
abbrev Rising (l : List Int) : Prop := l.Pairwise (· < ·)
theorem rising_at {l : List Int} (h : Rising l) {i j : Nat} (hij : i < j) (hj : j < l.length) : l.getD i 0 < l.getD j 0 := by
  have := List.pairwise_iff_getElem.1 h i j (by omega) hj hij
  simpa [List.getD_eq_getElem?_getD, show i < l.length by omega, hj] using this
theorem rising_of {l : List Int} (h : ∀ i, i + 1 < l.length → l.getD i 0 < l.getD (i + 1) 0) : Rising l := by
  have key : ∀ d i, i + d + 1 < l.length → l.getD i 0 < l.getD (i + d + 1) 0 := by
    intro d
    induction d with
    | zero => intro i hi; exact h i hi
    | succ d ih =>
      intro i hi
      have h1 := ih i (by omega)
      have h2 := h (i + d + 1) (by omega)
      have e : i + (d + 1) + 1 = i + d + 1 + 1 := by omega
      rw [e]
      omega
  refine List.pairwise_iff_getElem.2 fun i j hi hj hij => ?_
  have := key (j - i - 1) i (by omega)
  rw [show i + (j - i - 1) + 1 = j by omega] at this
  simpa [List.getD_eq_getElem?_getD, hi, hj] using this
theorem not_rising {l : List Int} {i : Nat} (hi : i + 1 < l.length) (h : l.getD (i + 1) 0 ≤ l.getD i 0) : ¬ Rising l := fun q => by
  have := rising_at q (show i < i + 1 by omega) hi
  omega
theorem getD_mem {l : List Int} {i : Nat} (h : i < l.length) : l.getD i 0 ∈ l := by
  rw [List.getD_eq_getElem?_getD, List.getElem?_eq_getElem h]
  exact List.getElem_mem h
theorem mem_getD {l : List Int} {x : Int} (h : x ∈ l) : ∃ i, i < l.length ∧ l.getD i 0 = x := by
  obtain ⟨i, hi, rfl⟩ := List.getElem_of_mem h
  exact ⟨i, hi, by rw [List.getD_eq_getElem?_getD, List.getElem?_eq_getElem hi]; rfl⟩
-- sorted, and without neighbours that are the same
section
open Go.Lib
end
-- what is joined, and what is cut
/- WiS:
  Contracts of wire, and of the document's answers for it, with slices of octets as one letter each.
-/
section
variable {w : World} {B B2 : Nat} {s s2 : SlV} {xs vs : List Int}
def GotTwoS (w : World) (B : Nat) (xs : List Int) (v : Value) (w' : World) : Prop :=
  ∃ p r : SlV, v = .tuple #[p.v, r.v, nv (bytesE xs)] ∧ Sl w' B p (bytesP xs) ∧ Sl w' B r (bytesR xs) ∧ Below w.heap.size w w'
def GotIntS (w : World) (B : Nat) (xs : List Int) (k : Int) (v : Value) (w' : World) : Prop :=
  ∃ r : SlV, v = .tuple #[nv (numM xs k), r.v, nv (numE xs k)] ∧ Sl w' B r (numR xs k) ∧ Below w.heap.size w w'
def PutS (w : World) (ys : List Int) (v : Value) (w' : World) : Prop := ∃ r : SlV, v = r.v ∧ Sl w' w'.heap.size r ys ∧ Below w.heap.size w w'
theorem PutS.of {w' : World} {ys : List Int} {e : Ending} (h : PutSl w ys e w') : ∃ v, e = .returned v ∧ PutS w ys v w' := by
  obtain ⟨A, n, c, rfl, h1, h2, h3, h4⟩ := h
  exact ⟨_, rfl, ⟨A, n, c⟩, rfl, ⟨h1, h2, h3⟩, h4⟩
theorem GotTwoS.of {w' : World} {e : Ending} (h : GotTwo w B (bytesP xs) (bytesR xs) (bytesE xs) e w') : ∃ v, e = .returned v ∧ GotTwoS w B xs v w' := by
  obtain ⟨A1, n1, c1, A, n, c, rfl, h1, h2, h3, h4, h5, h6, h7⟩ := h
  exact ⟨_, rfl, ⟨A1, n1, c1⟩, ⟨A, n, c⟩, rfl, ⟨h1, h2, h5⟩, ⟨h3, h4, h6⟩, h7⟩
theorem GotIntS.of {w' : World} {e : Ending} {k : Int} (h : GotInt w B (numM xs k) (numR xs k) (numE xs k) e w') : ∃ v, e = .returned v ∧ GotIntS w B xs k v w' := by
  obtain ⟨A, n, c, rfl, h3, h4, h6, h7⟩ := h
  exact ⟨_, rfl, ⟨A, n, c⟩, rfl, ⟨h3, h4, h6⟩, h7⟩
/-- bytes.Equal. -/
theorem bytesEq_S (h : Sl w B s xs) (h2 : Sl w B2 s2 vs) : Calls Tryd.prog 73 #[s.v, s2.v] w fun e w' => e = .returned (.bool (decide (xs = vs))) ∧ w' = w := by
  refine calls_cg (n := 10) Tryd.func73 rfl Tryd.ntmps73 (by simp) ?_
  show CG _ _ _ [(0, s.v), (1, s2.v)] _ _
  refine cg_seq ?_
  refine cg_region ?_
  refine zA rfl rfl rfl rfl rfl ?_
  refine lg_nil ?_
  refine nx (zk2 0 1 rfl rfl fn) ?_
  refine cg_seq ?_
  refine cg_region ?_
  refine zM rfl rfl rfl rfl rfl ?_
  refine za rfl (y_strS h rfl rfl) rfl rfl ?_
  refine zM rfl rfl rfl rfl rfl ?_
  refine za rfl (y_strS h2 rfl rfl) rfl rfl ?_
  refine za rfl (y_seqS h.bytes h2.bytes rfl rfl rfl) rfl rfl ?_
  refine zA rfl rfl rfl rfl rfl ?_
  refine lg_nil ?_
  refine nx (zk1 4 rfl fn) ?_
  refine cg_ret ?_
  exact eg_ret_tmp rfl rfl ⟨rfl, rfl⟩
end
/- WiF:
  Flags, with slices of octets as one letter each.
-/
/-- A flag, the rest and an error. -/
def GotFlagS (w : World) (B : Nat) (xs : List Int) (v : Value) (w' : World) : Prop :=
  ∃ (b : Bool) (r : SlV), v = .tuple #[.bool b, r.v, nv (flagE xs)] ∧ b = decide (flagB xs = true) ∧ Sl w' B r (flagR xs) ∧ Below w.heap.size w w'
section
variable {w w' : World} {B : Nat} {s : SlV} {xs : List Int} {e : Ending}
theorem GotFlagS.of (h : GotFlag w B (flagB xs) (flagR xs) (flagE xs) e w') : ∃ v, e = .returned v ∧ GotFlagS w B xs v w' := by
  obtain ⟨A, n, c, rfl, h3, h4, h6, h7⟩ := h
  exact ⟨_, rfl, _, ⟨A, n, c⟩, rfl, by simp, ⟨h3, h4, h6⟩, h7⟩
end
/- WiT:
  Contracts of wire's lists, and of the document's, with slices as one letter each.
-/
section
variable {w : World} {B B2 : Nat} {s s2 : SlV} {xs vs ls : List Int}
def GotNumsS (w : World) (B : Nat) (xs : List Int) (v : Value) (w' : World) : Prop :=
  ∃ p r : SlV, v = .tuple #[p.v, r.v, nv (numsE xs)] ∧ SlN w' w'.heap.size p (numsL xs) ∧ Sl w' B r (numsR xs) ∧ Below w.heap.size w w'
theorem GotNumsS.of {w' : World} {e : Ending} (h : GotNums w B (numsL xs) (numsR xs) (numsE xs) e w') : ∃ v, e = .returned v ∧ GotNumsS w B xs v w' := by
  obtain ⟨A1, n1, c1, A, n, c, rfl, h1, h2, h3, h4, h5, h6, h7⟩ := h
  exact ⟨_, rfl, ⟨A1, n1, c1⟩, ⟨A, n, c⟩, rfl, ⟨h1, h2, h5⟩, ⟨h3, h4, h6⟩, h7⟩
/-- As GotNumsS; the numbers lie in a block that was not there. -/
def GotNumsSF (w : World) (B : Nat) (xs : List Int) (v : Value) (w' : World) : Prop :=
  ∃ p r : SlV, v = .tuple #[p.v, r.v, nv (numsE xs)] ∧ SlN w' w'.heap.size p (numsL xs) ∧ Sl w' B r (numsR xs) ∧ Fr w.heap.size p ∧ Below w.heap.size w w'
theorem GotNumsSF.of {w' : World} {e : Ending} (h : GotNumsF w B (numsL xs) (numsR xs) (numsE xs) e w') : ∃ v, e = .returned v ∧ GotNumsSF w B xs v w' := by
  obtain ⟨A1, n1, c1, A, n, c, rfl, h1, h2, h3, h4, h5, h6, h7, h8⟩ := h
  exact ⟨_, rfl, ⟨A1, n1, c1⟩, ⟨A, n, c⟩, rfl, ⟨h1, h2, h5⟩, ⟨h3, h4, h6⟩, h8, h7⟩
end
/- LfBase:
  Leaves in memory, and what the document says of them.
-/
/-- Where the slices of a Lf lie. -/
structure LfV where
  enc : SlV
  cred : SlV
  par : SlV
/-- What a Lf says. -/
structure Lf where
  enc : List Int
  cred : List Int
  src : Int
  par : List Int
abbrev LfV.cs (l : LfV) (L : Lf) : Array Value := #[l.enc.v, l.cred.v, nv L.src, l.par.v]
structure IsLf (w : World) (B : Nat) (l : LfV) (L : Lf) : Prop where
  enc : Sl w B l.enc L.enc
  cred : Sl w B l.cred L.cred
  par : Sl w B l.par L.par
section
variable {w w' : World} {B B' : Nat} {l : LfV} {L : Lf}
theorem IsLf.below (h : IsLf w B l L) (b : Below B w w') : IsLf w' B l L := ⟨h.enc.below b, h.cred.below b, h.par.below b⟩
theorem IsLf.more (h : IsLf w B l L) (b : B ≤ B') : IsLf w B' l L := ⟨h.enc.more b, h.cred.more b, h.par.more b⟩
theorem IsLf.set {c : Nat} {old new : Array Value} {t t' : TypeId} (h : IsLf w B l L) (r : RowAt w c t old) (no : old.toList.all noU8 = true) (st : Set1 w w' c t' new) : IsLf w' B l L := ⟨h.enc.set r no st, h.cred.set r no st, h.par.set r no st⟩
abbrev LfV.zero : LfV := ⟨nilS, nilS, nilS⟩
abbrev Lf.zero : Lf := ⟨[], [], 0, []⟩
theorem IsLf.zero (w : World) (B : Nat) : IsLf w B LfV.zero Lf.zero := ⟨Sl.nil _ _, Sl.nil _ _, Sl.nil _ _⟩
end

/-- What is wrong with a leaf. -/
def lfCheck (L : Lf) : Int :=
  if (L.enc.length : Int) = 0 then 5
  else if 200 < (L.enc.length : Int) ∨ 200 < (L.cred.length : Int) ∨ 200 < (L.par.length : Int) then 4
  else if ¬ (1 ≤ L.src ∧ L.src ≤ 3) then 7
  else if 0 < (L.par.length : Int) ∧ L.src ≠ 3 then 2
  else 0
def lfFew (L : Lf) : Prop := IntKind.i64.wrap (IntKind.i64.wrap ((L.enc.length : Int) + (L.cred.length : Int)) + (L.par.length : Int)) ≤ 1000
instance (L : Lf) : Decidable (lfFew L) := by unfold lfFew; infer_instance
def LfSame (L M : Lf) : Prop := L.enc = M.enc ∧ L.cred = M.cred ∧ L.src = M.src ∧ L.par = M.par
instance (L M : Lf) : Decidable (LfSame L M) := by unfold LfSame; infer_instance
/- LfMath:
  What is put of leaves is got; what is got was put; unlike leaves have unlike octets: by pure means.
-/
/- PnBase:
  Nodes that are no leaves in memory, and what the document says of them.
-/
/-- Where the slices of a Pn lie. -/
structure PnV where
  enc : SlV
  hash : SlV
  unm : SlV
/-- What a Pn says. -/
structure Pn where
  enc : List Int
  hash : List Int
  unm : List Int
abbrev PnV.cs (l : PnV) (L : Pn) : Array Value := #[l.enc.v, l.hash.v, l.unm.v]
structure IsPn (w : World) (B : Nat) (l : PnV) (L : Pn) : Prop where
  enc : Sl w B l.enc L.enc
  hash : Sl w B l.hash L.hash
  unm : SlN w B l.unm L.unm
section
variable {w w' : World} {B B' : Nat} {l : PnV} {L : Pn}
theorem IsPn.below (h : IsPn w B l L) (b : Below B w w') : IsPn w' B l L := ⟨h.enc.below b, h.hash.below b, h.unm.below b⟩
theorem IsPn.more (h : IsPn w B l L) (b : B ≤ B') : IsPn w B' l L := ⟨h.enc.more b, h.hash.more b, h.unm.more b⟩
theorem IsPn.set {c : Nat} {old new : Array Value} {t t' : TypeId} (h : IsPn w B l L) (r : RowAt w c t old) (no : old.toList.all noNum = true) (st : Set1 w w' c t' new) : IsPn w' B l L := ⟨h.enc.set r (noU8_of no) st, h.hash.set r (noU8_of no) st, h.unm.set r no st⟩
abbrev PnV.zero : PnV := ⟨nilS, nilS, nilS⟩
abbrev Pn.zero : Pn := ⟨[], [], []⟩
theorem IsPn.zero (w : World) (B : Nat) : IsPn w B PnV.zero Pn.zero := ⟨Sl.nil _ _, Sl.nil _ _, SlN.nil _ _⟩
end

/-- What is wrong with a node. -/
def pnCheck (L : Pn) : Int :=
  if (L.enc.length : Int) = 0 then 5
  else if 200 < (L.enc.length : Int) ∨ 200 < (L.hash.length : Int) ∨ 64 < (L.unm.length : Int) then 4
  else if ∃ x ∈ L.unm, x < 0 ∨ 64 ≤ x then 3
  else if ¬ Rising L.unm then 8
  else 0
def pnFew (L : Pn) : Prop := IntKind.i64.wrap (IntKind.i64.wrap ((L.enc.length : Int) + (L.hash.length : Int)) + (L.unm.length : Int)) ≤ 600
instance (L : Pn) : Decidable (pnFew L) := by unfold pnFew; infer_instance
def PnSame (L M : Pn) : Prop := L.enc = M.enc ∧ L.hash = M.hash ∧ L.unm = M.unm
instance (L M : Pn) : Decidable (PnSame L M) := by unfold PnSame; infer_instance
theorem pnCheck_ok {L : Pn} (h : pnCheck L = 0) : 0 < L.enc.length ∧ L.enc.length ≤ 200 ∧ L.hash.length ≤ 200 ∧ L.unm.length ≤ 64 := by
  unfold pnCheck at h
  repeat' split at h
  all_goals omega
theorem pnCheck_nums {L : Pn} (h : pnCheck L = 0) : (∀ x ∈ L.unm, 0 ≤ x ∧ x < 64) ∧ Rising L.unm := by
  unfold pnCheck at h
  split at h
  · omega
  · split at h
    · omega
    · split at h
      · omega
      · rename_i h3
        split at h
        · omega
        · rename_i h4
          exact ⟨fun x hx => by
            have : ¬ (x < 0 ∨ 64 ≤ x) := fun q => h3 ⟨x, hx, q⟩
            omega, Decidable.not_not.1 h4⟩
/- PnMath:
  What is put of nodes is got; what is got was put; which numbers may be named: by pure means.
-/
-- which numbers may be named
-- joined, and cut
/- NdBase:
  Nodes in memory, and what the document says of them.
-/
/-- A function in a cell. -/
abbrev fnv : Option FuncId → Value
  | some f => .func (.func f) #[] #[]
  | none => .nilFunc
/-- Where the slices of a Nd lie. -/
structure NdV where
  leaf : LfV
  inner : PnV
/-- What a Nd says. -/
structure Nd where
  kind : Int
  leaf : Lf
  inner : Pn
abbrev NdV.cs (l : NdV) (L : Nd) : Array Value := #[nv L.kind, l.leaf.enc.v, l.leaf.cred.v, nv L.leaf.src, l.leaf.par.v, l.inner.enc.v, l.inner.hash.v, l.inner.unm.v]
structure IsNd (w : World) (B : Nat) (l : NdV) (L : Nd) : Prop where
  leaf : IsLf w B l.leaf L.leaf
  inner : IsPn w B l.inner L.inner
section
variable {w w' : World} {B B' : Nat} {l : NdV} {L : Nd}
theorem IsNd.below (h : IsNd w B l L) (b : Below B w w') : IsNd w' B l L := ⟨h.leaf.below b, h.inner.below b⟩
theorem IsNd.more (h : IsNd w B l L) (b : B ≤ B') : IsNd w B' l L := ⟨h.leaf.more b, h.inner.more b⟩
theorem IsNd.set {c : Nat} {old new : Array Value} {t t' : TypeId} (h : IsNd w B l L) (r : RowAt w c t old) (no : old.toList.all noNum = true) (st : Set1 w w' c t' new) : IsNd w' B l L := ⟨h.leaf.set r (noU8_of no) st, h.inner.set r no st⟩
abbrev NdV.zero : NdV := ⟨⟨nilS, nilS, nilS⟩, ⟨nilS, nilS, nilS⟩⟩
abbrev Nd.zero : Nd := ⟨0, ⟨[], [], 0, []⟩, ⟨[], [], []⟩⟩
theorem IsNd.zero (w : World) (B : Nat) : IsNd w B NdV.zero Nd.zero := ⟨IsLf.zero _ _, IsPn.zero _ _⟩
end
/-- Where the slices of a Cs lie. -/
structure CsV where

/-- What a Cs says. -/
structure Cs where
  put : Option FuncId
  get : Option FuncId
abbrev CsV.cs (l : CsV) (L : Cs) : Array Value := #[fnv L.put, fnv L.get]
structure IsCs (w : World) (B : Nat) (l : CsV) (L : Cs) : Prop where

section
variable {w w' : World} {B B' : Nat} {l : CsV} {L : Cs}
theorem IsCs.below (h : IsCs w B l L) (b : Below B w w') : IsCs w' B l L := ⟨⟩
theorem IsCs.more (h : IsCs w B l L) (b : B ≤ B') : IsCs w B' l L := ⟨⟩
theorem IsCs.set {c : Nat} {old new : Array Value} {t t' : TypeId} (h : IsCs w B l L) (r : RowAt w c t old) (no : old.toList.all noU8 = true) (st : Set1 w w' c t' new) : IsCs w' B l L := ⟨⟩
abbrev CsV.zero : CsV := ⟨⟩
abbrev Cs.zero : Cs := ⟨none, none⟩
theorem IsCs.zero (w : World) (B : Nat) : IsCs w B CsV.zero Cs.zero := ⟨⟩
end

/-- What is wrong with a node. -/
def ndCheck (L : Nd) : Int :=
  if L.kind < 0 ∨ 2 < L.kind then 7
  else if (¬ L.kind = 1 ∧ ¬ LfSame L.leaf Lf.zero) ∨ (¬ L.kind = 2 ∧ ¬ PnSame L.inner Pn.zero) then 2
  else if L.kind = 1 then lfCheck L.leaf
  else if L.kind = 2 then pnCheck L.inner
  else 0
def NdSame (L M : Nd) : Prop := L.kind = M.kind ∧ LfSame L.leaf M.leaf ∧ PnSame L.inner M.inner
instance (L M : Nd) : Decidable (NdSame L M) := by unfold NdSame; infer_instance
def ndFew (L : Nd) : Prop := lfFew L.leaf ∧ pnFew L.inner
instance (L : Nd) : Decidable (ndFew L) := by unfold ndFew; infer_instance
theorem ndCheck_kind {L : Nd} (h : ndCheck L = 0) : 0 ≤ L.kind ∧ L.kind ≤ 2 := by
  unfold ndCheck at h
  split at h <;> omega
/- NdMath:
  What is put of nodes is got; what is got was put; what is summed up tells all: by pure means.
-/
theorem nd_zero : ndCheck Nd.zero = 0 := by decide
-- what is summed up
-- one behind the other
/- NdRow:
  Slices of nodes, as they read.
-/
/-- A slice of such, as it reads. -/
def RwNd (w : World) (B : Nat) (s : SlV) (Ls : List Nd) : Prop := s.m ≤ s.c ∧ s.c ≤ maxLen ∧ Ls.length = s.m ∧
  (0 < s.m → ∃ b o, s.A = some ⟨b, o, none⟩ ∧ b < B ∧ ∀ i L, Ls[i]? = some L → ∃ l : NdV, IsNd w B l L ∧ ∀ j u, (l.cs L)[j]? = some u → w.cell? ⟨b, o + i * 8 + j, none⟩ = some u)
theorem RwNd.below {w w' : World} {B : Nat} {s : SlV} {Ls : List Nd} (h : RwNd w B s Ls) (g : Below B w w') : RwNd w' B s Ls := by
  refine ⟨h.1, h.2.1, h.2.2.1, fun hm => ?_⟩
  obtain ⟨b, o, e, hB, hc⟩ := h.2.2.2 hm
  refine ⟨b, o, e, hB, fun i L hL => ?_⟩
  obtain ⟨l, hl, hj⟩ := hc i L hL
  exact ⟨l, hl.below g, fun j u hu => (g.cell (p := ⟨b, o + i * 8 + j, none⟩) hB).trans (hj j u hu)⟩
theorem RwNd.more {w : World} {B B' : Nat} {s : SlV} {Ls : List Nd} (h : RwNd w B s Ls) (g : B ≤ B') : RwNd w B' s Ls := by
  refine ⟨h.1, h.2.1, h.2.2.1, fun hm => ?_⟩
  obtain ⟨b, o, e, hB, hc⟩ := h.2.2.2 hm
  refine ⟨b, o, e, by omega, fun i L hL => ?_⟩
  obtain ⟨l, hl, hj⟩ := hc i L hL
  exact ⟨l, hl.more g, hj⟩
theorem RwNd.len {w : World} {B : Nat} {s : SlV} {Ls : List Nd} (h : RwNd w B s Ls) : Ls.length = s.m := h.2.2.1
/-- The element at a place. -/
theorem RwNd.at {w : World} {B : Nat} {s : SlV} {Ls : List Nd} (h : RwNd w B s Ls) (i : Nat) (hi : i < s.m) : ∃ (b o : Nat) (l : NdV) (L : Nd), s.A = some ⟨b, o, none⟩ ∧ b < B ∧ Ls[i]? = some L ∧ IsNd w B l L ∧ ∀ j u, (l.cs L)[j]? = some u → w.cell? ⟨b, o + i * 8 + j, none⟩ = some u := by
  obtain ⟨b, o, e, hB, hc⟩ := h.2.2.2 (by omega)
  have hl : i < Ls.length := by rw [h.len]; exact hi
  obtain ⟨l, h1, h2⟩ := hc i Ls[i] (List.getElem?_eq_getElem hl)
  exact ⟨b, o, l, Ls[i], e, hB, List.getElem?_eq_getElem hl, h1, h2⟩
end Go.Proofs.YtjcnfmmekpiliaaDoor
