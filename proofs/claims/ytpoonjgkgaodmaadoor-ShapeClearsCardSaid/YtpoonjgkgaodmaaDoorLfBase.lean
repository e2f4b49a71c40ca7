/-
  Leaves in memory, and what the document says of them.
-/
import Derived.Test.YtpoonjgkgaodmaaDoorWiS
namespace Go.Proofs.YtpoonjgkgaodmaaDoor
open Go.ChangeShapes Go.WideShapes Go.ChangeAt Go.RowKit
set_option linter.unusedVariables false

/-- Where the slices of a Lf lie. -/
structure LfV where
  enc : SlV
  cred : SlV
  par : SlV
/-- What a Lf says. -/
structure Lf where
  enc : List Int
  cred : List Int
  src : Int
  par : List Int
abbrev LfV.cs (l : LfV) (L : Lf) : Array Value := #[l.enc.v, l.cred.v, nv L.src, l.par.v]
structure IsLf (w : World) (B : Nat) (l : LfV) (L : Lf) : Prop where
  enc : Sl w B l.enc L.enc
  cred : Sl w B l.cred L.cred
  par : Sl w B l.par L.par
section
variable {w w' : World} {B B' : Nat} {l : LfV} {L : Lf}
theorem IsLf.below (h : IsLf w B l L) (b : Below B w w') : IsLf w' B l L := ⟨h.enc.below b, h.cred.below b, h.par.below b⟩
theorem IsLf.more (h : IsLf w B l L) (b : B ≤ B') : IsLf w B' l L := ⟨h.enc.more b, h.cred.more b, h.par.more b⟩
theorem IsLf.set {c : Nat} {old new : Array Value} {t t' : TypeId} (h : IsLf w B l L) (r : RowAt w c t old) (no : old.toList.all noU8 = true) (st : Set1 w w' c t' new) : IsLf w' B l L := ⟨h.enc.set r no st, h.cred.set r no st, h.par.set r no st⟩
abbrev LfV.zero : LfV := ⟨nilS, nilS, nilS⟩
abbrev Lf.zero : Lf := ⟨[], [], 0, []⟩
theorem IsLf.zero (w : World) (B : Nat) : IsLf w B LfV.zero Lf.zero := ⟨Sl.nil _ _, Sl.nil _ _, Sl.nil _ _⟩
end

/-- What is wrong with a leaf. -/
def lfCheck (L : Lf) : Int :=
  if (L.enc.length : Int) = 0 then 5
  else if 200 < (L.enc.length : Int) ∨ 200 < (L.cred.length : Int) ∨ 200 < (L.par.length : Int) then 4
  else if ¬ (1 ≤ L.src ∧ L.src ≤ 3) then 7
  else if 0 < (L.par.length : Int) ∧ L.src ≠ 3 then 2
  else 0
/-- The octets of a leaf. -/
def lfOct (L : Lf) : List Int := bytesOct L.enc ++ bytesOct L.cred ++ numOct L.src (widthK 1) ++ (if L.src = 3 then bytesOct L.par else [])
def lfPut (L : Lf) : List Int := if lfCheck L = 0 then lfOct L else []
def lfFew (L : Lf) : Prop := IntKind.i64.wrap (IntKind.i64.wrap ((L.enc.length : Int) + (L.cred.length : Int)) + (L.par.length : Int)) ≤ 1000
instance (L : Lf) : Decidable (lfFew L) := by unfold lfFew; infer_instance
def LfSame (L M : Lf) : Prop := L.enc = M.enc ∧ L.cred = M.cred ∧ L.src = M.src ∧ L.par = M.par
instance (L M : Lf) : Decidable (LfSame L M) := by unfold LfSame; infer_instance
theorem LfSame.eq {L M : Lf} (h : LfSame L M) : L = M := by
  obtain ⟨a, b, c, d⟩ := L
  obtain ⟨a', b', c', d'⟩ := M
  obtain ⟨h1, h2, h3, h4⟩ := h
  simp only at h1 h2 h3 h4
  subst h1 h2 h3 h4
  rfl
theorem lfSame_iff {L M : Lf} : LfSame L M ↔ L = M := ⟨LfSame.eq, fun h => h ▸ ⟨rfl, rfl, rfl, rfl⟩⟩
/-- The reading of a leaf: the error, the leaf, the rest. -/
def lfGet (xs : List Int) : Int × Lf × List Int :=
  if bytesE xs ≠ 0 then (bytesE xs, Lf.zero, [])
  else if bytesE (bytesR xs) ≠ 0 then (bytesE (bytesR xs), Lf.zero, [])
  else
    let ys := bytesR (bytesR xs)
    if numE ys 1 ≠ 0 then (numE ys 1, Lf.zero, [])
    else if ¬ (1 ≤ numM ys 1 ∧ numM ys 1 ≤ 3) then (7, Lf.zero, [])
    else if numM ys 1 = 3 then
      if bytesE (numR ys 1) ≠ 0 then (bytesE (numR ys 1), Lf.zero, [])
      else
        let L : Lf := ⟨bytesP xs, bytesP (bytesR xs), numM ys 1, bytesP (numR ys 1)⟩
        if lfCheck L ≠ 0 then (lfCheck L, Lf.zero, []) else (0, L, bytesR (numR ys 1))
    else
      let L : Lf := ⟨bytesP xs, bytesP (bytesR xs), numM ys 1, []⟩
      if lfCheck L ≠ 0 then (lfCheck L, Lf.zero, []) else (0, L, numR ys 1)
/-- What one closure of Get does: reads octets where there is no error yet. -/
def stepB (xs : List Int) (e : Int) : List Int × List Int × Int := if e = 0 then (bytesP xs, bytesR xs, bytesE xs) else ([], xs, e)
def stepN (xs : List Int) (e : Int) : Int × List Int × Int :=
  if e = 0 then
    if numE xs 1 = 0 then (numM xs 1, numR xs 1, if 1 ≤ numM xs 1 ∧ numM xs 1 ≤ 3 then 0 else 7) else (numM xs 1, numR xs 1, numE xs 1)
  else (0, xs, e)
theorem lfCheck_ok {L : Lf} (h : lfCheck L = 0) : 0 < L.enc.length ∧ L.enc.length ≤ 200 ∧ L.cred.length ≤ 200 ∧ L.par.length ≤ 200 ∧ 1 ≤ L.src ∧ L.src ≤ 3 ∧ (L.par.length = 0 ∨ L.src = 3) := by
  unfold lfCheck at h
  repeat' split at h
  all_goals omega
def gA (xs : List Int) : List Int × List Int × Int := stepB xs 0
def gB (xs : List Int) : List Int × List Int × Int := stepB (gA xs).2.1 (gA xs).2.2
def gC (xs : List Int) : Int × List Int × Int := stepN (gB xs).2.1 (gB xs).2.2
def gD (xs : List Int) : List Int × List Int × Int := stepB (gC xs).2.1 (gC xs).2.2
theorem lfGet_steps (xs : List Int) : lfGet xs =
    if (gC xs).1 = 3 then
      if (gD xs).2.2 = 0 then
        if lfCheck (⟨(gA xs).1, (gB xs).1, (gC xs).1, (gD xs).1⟩ : Lf) = 0 then (0, (⟨(gA xs).1, (gB xs).1, (gC xs).1, (gD xs).1⟩ : Lf), (gD xs).2.1)
        else (lfCheck (⟨(gA xs).1, (gB xs).1, (gC xs).1, (gD xs).1⟩ : Lf), Lf.zero, [])
      else ((gD xs).2.2, Lf.zero, [])
    else
      if (gC xs).2.2 = 0 then
        if lfCheck (⟨(gA xs).1, (gB xs).1, (gC xs).1, []⟩ : Lf) = 0 then (0, (⟨(gA xs).1, (gB xs).1, (gC xs).1, []⟩ : Lf), (gC xs).2.1)
        else (lfCheck (⟨(gA xs).1, (gB xs).1, (gC xs).1, []⟩ : Lf), Lf.zero, [])
      else ((gC xs).2.2, Lf.zero, []) := by
  unfold lfGet
  by_cases h1 : bytesE xs = 0
  · by_cases h2 : bytesE (bytesR xs) = 0
    · by_cases h3 : numE (bytesR (bytesR xs)) 1 = 0
      · by_cases h4 : 1 ≤ numM (bytesR (bytesR xs)) 1 ∧ numM (bytesR (bytesR xs)) 1 ≤ 3
        · by_cases h5 : numM (bytesR (bytesR xs)) 1 = 3
          · by_cases h6 : bytesE (numR (bytesR (bytesR xs)) 1) = 0
            · simp [gD, gC, gB, gA, stepB, stepN, h1, h2, h3, h5, h6, apply_ite]
            · simp [gD, gC, gB, gA, stepB, stepN, h1, h2, h3, h5, h6]
          · simp [gC, gB, gA, stepB, stepN, h1, h2, h3, h4, h5]
        · simp [gD, gC, gB, gA, stepB, stepN, h1, h2, h3, h4]
      · simp [gD, gC, gB, gA, stepB, stepN, h1, h2, h3]
    · simp [gC, gB, gA, stepB, stepN, h1, h2]
  · simp [gC, gB, gA, stepB, stepN, h1]
end Go.Proofs.YtpoonjgkgaodmaaDoor
