/-
  Nodes that are no leaves in memory, and what the document says of them.
-/
import Derived.Test.YtpoonjgkgaodmaaDoorWiT
import Derived.Test.YtpoonjgkgaodmaaDoorRise
namespace Go.Proofs.YtpoonjgkgaodmaaDoor
open Go.ChangeShapes Go.WideShapes Go.ChangeAt Go.RowKit
set_option linter.unusedVariables false

/-- Where the slices of a Pn lie. -/
structure PnV where
  enc : SlV
  hash : SlV
  unm : SlV
/-- What a Pn says. -/
structure Pn where
  enc : List Int
  hash : List Int
  unm : List Int
abbrev PnV.cs (l : PnV) (L : Pn) : Array Value := #[l.enc.v, l.hash.v, l.unm.v]
structure IsPn (w : World) (B : Nat) (l : PnV) (L : Pn) : Prop where
  enc : Sl w B l.enc L.enc
  hash : Sl w B l.hash L.hash
  unm : SlN w B l.unm L.unm
section
variable {w w' : World} {B B' : Nat} {l : PnV} {L : Pn}
theorem IsPn.below (h : IsPn w B l L) (b : Below B w w') : IsPn w' B l L := ⟨h.enc.below b, h.hash.below b, h.unm.below b⟩
theorem IsPn.more (h : IsPn w B l L) (b : B ≤ B') : IsPn w B' l L := ⟨h.enc.more b, h.hash.more b, h.unm.more b⟩
theorem IsPn.set {c : Nat} {old new : Array Value} {t t' : TypeId} (h : IsPn w B l L) (r : RowAt w c t old) (no : old.toList.all noNum = true) (st : Set1 w w' c t' new) : IsPn w' B l L := ⟨h.enc.set r (noU8_of no) st, h.hash.set r (noU8_of no) st, h.unm.set r no st⟩
abbrev PnV.zero : PnV := ⟨nilS, nilS, nilS⟩
abbrev Pn.zero : Pn := ⟨[], [], []⟩
theorem IsPn.zero (w : World) (B : Nat) : IsPn w B PnV.zero Pn.zero := ⟨Sl.nil _ _, Sl.nil _ _, SlN.nil _ _⟩
def PnV.fresh (a : Nat) (l : PnV) : Prop := Fr a l.unm
theorem IsPn.setf {c a : Nat} {old new : Array Value} {t t' : TypeId} (h : IsPn w B l L) (r : RowAt w c t old) (no : old.toList.all noU8 = true) (f : l.fresh a) (hc : c < a) (st : Set1 w w' c t' new) : IsPn w' B l L := ⟨h.enc.set r no st, h.hash.set r no st, h.unm.setf f hc st⟩
end

/-- What is wrong with a node. -/
def pnCheck (L : Pn) : Int :=
  if (L.enc.length : Int) = 0 then 5
  else if 200 < (L.enc.length : Int) ∨ 200 < (L.hash.length : Int) ∨ 64 < (L.unm.length : Int) then 4
  else if ∃ x ∈ L.unm, x < 0 ∨ 64 ≤ x then 3
  else if ¬ Rising L.unm then 8
  else 0
/-- The octets of a node. -/
def pnOct (L : Pn) : List Int := bytesOct L.enc ++ bytesOct L.hash ++ bytesOct (numsOct L.unm)
def pnPut (L : Pn) : List Int := if pnCheck L = 0 then pnOct L else []
def pnFew (L : Pn) : Prop := IntKind.i64.wrap (IntKind.i64.wrap ((L.enc.length : Int) + (L.hash.length : Int)) + (L.unm.length : Int)) ≤ 600
instance (L : Pn) : Decidable (pnFew L) := by unfold pnFew; infer_instance
def PnSame (L M : Pn) : Prop := L.enc = M.enc ∧ L.hash = M.hash ∧ L.unm = M.unm
instance (L M : Pn) : Decidable (PnSame L M) := by unfold PnSame; infer_instance
/-- The reading of a node: the error, the node, the rest. -/
def pnGet (xs : List Int) : Int × Pn × List Int :=
  if ¬ bytesE xs = 0 then (bytesE xs, Pn.zero, [])
  else if ¬ bytesE (bytesR xs) = 0 then (bytesE (bytesR xs), Pn.zero, [])
  else if ¬ numsE (bytesR (bytesR xs)) = 0 then (numsE (bytesR (bytesR xs)), Pn.zero, [])
  else if ¬ pnCheck (⟨bytesP xs, bytesP (bytesR xs), numsL (bytesR (bytesR xs))⟩ : Pn) = 0 then (pnCheck (⟨bytesP xs, bytesP (bytesR xs), numsL (bytesR (bytesR xs))⟩ : Pn), Pn.zero, [])
  else (0, (⟨bytesP xs, bytesP (bytesR xs), numsL (bytesR (bytesR xs))⟩ : Pn), numsR (bytesR (bytesR xs)))
theorem pnCheck_ok {L : Pn} (h : pnCheck L = 0) : 0 < L.enc.length ∧ L.enc.length ≤ 200 ∧ L.hash.length ≤ 200 ∧ L.unm.length ≤ 64 := by
  unfold pnCheck at h
  repeat' split at h
  all_goals omega
theorem pnCheck_nums {L : Pn} (h : pnCheck L = 0) : (∀ x ∈ L.unm, 0 ≤ x ∧ x < 64) ∧ Rising L.unm := by
  unfold pnCheck at h
  split at h
  · omega
  · split at h
    · omega
    · split at h
      · omega
      · rename_i h3
        split at h
        · omega
        · rename_i h4
          exact ⟨fun x hx => by
            have : ¬ (x < 0 ∨ 64 ≤ x) := fun q => h3 ⟨x, hx, q⟩
            omega, Decidable.not_not.1 h4⟩
theorem pnCheck_of {L : Pn} (h1 : 0 < L.enc.length) (h2 : L.enc.length ≤ 200) (h3 : L.hash.length ≤ 200) (h4 : L.unm.length ≤ 64) (h5 : ∀ x ∈ L.unm, 0 ≤ x ∧ x < 64) (h6 : Rising L.unm) : pnCheck L = 0 := by
  unfold pnCheck
  rw [if_neg (by omega), if_neg (by omega), if_neg (by rintro ⟨x, hx, q⟩; have := h5 x hx; omega), if_neg (not_not_intro h6)]
theorem pnPut_le (L : Pn) : (pnPut L).length ≤ 668 := by
  unfold pnPut
  split
  · rename_i h
    have ok := pnCheck_ok h
    have h1 := bytesOct_le L.enc
    have h2 := bytesOct_le L.hash
    have h3 := bytesOct_le (numsOct L.unm)
    rw [numsOct_length] at h3
    simp only [pnOct, List.length_append]
    omega
  · simp
end Go.Proofs.YtpoonjgkgaodmaaDoor
