/-
  KitV: Arith, VaBase, VaGet, VaGot, VaPut, VaOct, VaMore, VaApp, VaAny, WiBase, WiPut, WiGet, WiCat, WiNums, WiRow, WiMath, WiBits, CatTwo.
-/
import Derived.Test.YtpoonjgkgaodmaaDoorRows
import Derived.WalkKit
import Derived.ProofKit
import Derived.Laws.Bits128
import Derived.Laws.BytesArg
import Derived.Test.YtpoonjgkgaodmaaDoorKitA
import Derived.Deep.QuietTactic
import Derived.BigQuiet
import Derived.Deep.Draws
import Derived.Laws.OwnMore
import Derived.Laws.CopyOwn
import Derived.OwnWalk
import Derived.Laws.MakeOwn
import Derived.Maps.AppendAt
import Derived.Lib.AppendZeros
import Derived.Lib.Hide
namespace Go.Proofs.YtpoonjgkgaodmaaDoor
open Go.ChangeShapes Go.WideShapes Go.ChangeAt Go.RowKit
set_option linter.unusedVariables false

/- Arith:
  Bits as remainders; the order of octets as of strings.
-/
theorem and_low (n m : Int) (k : Nat) (hm : (BitVec.ofInt 64 m).toNat = 2 ^ k - 1) (hk : k ≤ 62) : bits .and .i64 n m = n % ((2 ^ k : Nat) : Int) := by
  have key : (BitVec.ofInt 64 n &&& BitVec.ofInt 64 m).toNat = (n % ((2 ^ 64 : Nat) : Int)).toNat % 2 ^ k := by
    rw [BitVec.toNat_and, BitVec.toNat_ofInt, hm, Nat.and_two_pow_sub_one_eq_mod]
  show IntKind.i64.wrap ((BitVec.ofInt 64 n &&& BitVec.ofInt 64 m).toNat : Nat) = _
  have hp : (2 : Nat) ^ 64 = 2 ^ k * 2 ^ (64 - k) := by rw [← Nat.pow_add]; congr 1; omega
  have hd : ((2 ^ k : Nat) : Int) ∣ ((2 ^ 64 : Nat) : Int) := ⟨((2 ^ (64 - k) : Nat) : Int), by rw [hp]; rfl⟩
  have hle : (2 : Nat) ^ k ≤ 2 ^ 62 := Nat.pow_le_pow_right (by omega) hk
  have h0 : (0 : Int) ≤ n % ((2 ^ 64 : Nat) : Int) := Int.emod_nonneg _ (by decide)
  have e : (((n % ((2 ^ 64 : Nat) : Int)).toNat % 2 ^ k : Nat) : Int) = n % ((2 ^ k : Nat) : Int) := by
    rw [Int.natCast_emod, Int.toNat_of_nonneg h0, Int.emod_emod_of_dvd _ hd]
  rw [key, e]
  have hpos : (0 : Int) < ((2 ^ k : Nat) : Int) := by have := Nat.two_pow_pos k; omega
  have h1 := Int.emod_nonneg n (show ((2 ^ k : Nat) : Int) ≠ 0 from by omega)
  have h2 := Int.emod_lt_of_pos n hpos
  have h3 : ((2 ^ k : Nat) : Int) ≤ 4611686018427387904 := by
    have : (2 : Nat) ^ 62 = 4611686018427387904 := by decide
    omega
  generalize n % ((2 ^ k : Nat) : Int) = r at *
  rw [IntKind.wrap_i64]
  omega
theorem and_1 (n : Int) : bits .and .i64 n 1 = n % 2 := and_low n 1 1 (by decide) (by decide)
theorem and_255 (n : Int) : bits .and .i64 n 255 = n % 256 := and_low n 255 8 (by decide) (by decide)
theorem and_65535 (n : Int) : bits .and .i64 n 65535 = n % 65536 := and_low n 65535 16 (by decide) (by decide)
theorem and_16777215 (n : Int) : bits .and .i64 n 16777215 = n % 16777216 := and_low n 16777215 24 (by decide) (by decide)
theorem and_4294967295 (n : Int) : bits .and .i64 n 4294967295 = n % 4294967296 := and_low n 4294967295 32 (by decide) (by decide)
/-- The order of octets: of the first place where they are unlike. -/
def lessN : List Int → List Int → Bool
  | _, [] => false
  | [], _ :: _ => true
  | a :: x, b :: y => decide (a < b) || (decide (a = b) && lessN x y)

theorem lessN_nil (x : List Int) : lessN x [] = false := by cases x <;> rfl

theorem u8_lt {a b : Int} (ha : 0 ≤ a ∧ a ≤ 255) (hb : 0 ≤ b ∧ b ≤ 255) : (UInt8.ofNat a.toNat < UInt8.ofNat b.toNat) ↔ a < b := by
  rw [UInt8.lt_iff_toNat_lt, UInt8.toNat_ofNat', UInt8.toNat_ofNat', Nat.mod_eq_of_lt (by omega), Nat.mod_eq_of_lt (by omega)]
  omega
theorem u8_eq {a b : Int} (ha : 0 ≤ a ∧ a ≤ 255) (hb : 0 ≤ b ∧ b ≤ 255) : (UInt8.ofNat a.toNat = UInt8.ofNat b.toNat) ↔ a = b := by
  constructor
  · intro h
    have h := congrArg UInt8.toNat h
    rw [UInt8.toNat_ofNat', UInt8.toNat_ofNat', Nat.mod_eq_of_lt (by omega), Nat.mod_eq_of_lt (by omega)] at h
    omega
  · intro h
    rw [h]

theorem less_nums : ∀ (xs ys : List Int), (∀ x ∈ xs, 0 ≤ x ∧ x ≤ 255) → (∀ y ∈ ys, 0 ≤ y ∧ y ≤ 255) → Op.bytesLess (strOfNums xs).toList (strOfNums ys).toList = lessN xs ys := by
  intro xs ys hx hy
  rw [ByteArray.toList_eq, ByteArray.toList_eq, strOfNums_data, strOfNums_data]
  induction xs generalizing ys with
  | nil => cases ys <;> rfl
  | cons a x ih =>
    cases ys with
    | nil => rfl
    | cons b y =>
      have ha := hx a (by simp)
      have hb := hy b (by simp)
      have h := ih y (fun z hz => hx z (by simp [hz])) (fun z hz => hy z (by simp [hz]))
      simp only [List.map_cons, Op.bytesLess, lessN, h]
      have e1 : decide (UInt8.ofNat a.toNat < UInt8.ofNat b.toNat) = decide (a < b) := by rw [decide_eq_decide]; exact u8_lt ha hb
      have e2 : (UInt8.ofNat a.toNat == UInt8.ofNat b.toNat) = decide (a = b) := by
        rw [Bool.eq_iff_iff, beq_iff_eq, decide_eq_true_iff]; exact u8_eq ha hb
      rw [e1, e2]
/- VaBase:
  Plain contracts of package varint's small functions (Size, told, marked), for every argument: what each returns, the world as it was.
-/
/-- How many octets a number has. -/
def sizeN (n : Int) : Int := if n < 0 ∨ 1073741823 < n then 0 else if n ≤ 63 then 1 else if n ≤ 16383 then 2 else 4
/-- How many octets a first octet tells. -/
def toldN (x : Int) : Int := if x < 64 then 1 else if x < 128 then 2 else if x < 192 then 4 else 0

theorem sizeN_0 {n : Int} (h : n < 0 ∨ 1073741823 < n) : sizeN n = 0 := by unfold sizeN; rw [if_pos h]
theorem sizeN_1 {n : Int} (h : 0 ≤ n) (h1 : n ≤ 63) : sizeN n = 1 := by unfold sizeN; rw [if_neg (by omega), if_pos h1]
theorem sizeN_2 {n : Int} (h : 63 < n) (h1 : n ≤ 16383) : sizeN n = 2 := by unfold sizeN; rw [if_neg (by omega), if_neg (by omega), if_pos h1]
theorem sizeN_4 {n : Int} (h : 16383 < n) (h1 : n ≤ 1073741823) : sizeN n = 4 := by unfold sizeN; rw [if_neg (by omega), if_neg (by omega), if_neg (by omega)]
theorem toldN_1 {n : Int} (h : n < 64) : toldN n = 1 := by unfold toldN; rw [if_pos h]
theorem toldN_2 {n : Int} (h : 64 ≤ n) (h1 : n < 128) : toldN n = 2 := by unfold toldN; rw [if_neg (by omega), if_pos h1]
theorem toldN_4 {n : Int} (h : 128 ≤ n) (h1 : n < 192) : toldN n = 4 := by unfold toldN; rw [if_neg (by omega), if_neg (by omega), if_pos h1]
theorem toldN_0 {n : Int} (h : 192 ≤ n) : toldN n = 0 := by unfold toldN; rw [if_neg (by omega), if_neg (by omega), if_neg (by omega)]

/-- The number that octets tell, the mark of the first one taken off. -/
def valN (x : Int) (ys : List Int) : Int := ys.foldl (fun a y => a * 256 + y) (x % 64)
theorem valN_snoc (x y : Int) (l : List Int) : valN x (l ++ [y]) = valN x l * 256 + y := by simp [valN, List.foldl_append]
theorem valN_step (x : Int) (ys : List Int) (j : Nat) (h : j < ys.length) : valN x (ys.take (j + 1)) = valN x (ys.take j) * 256 + ys[j] := by
  rw [List.take_succ_eq_append_getElem h, valN_snoc]
theorem valN_bd (x : Int) (ys : List Int) (h : ∀ y ∈ ys, 0 ≤ y ∧ y ≤ 255) (hl : ys.length ≤ 3) : 0 ≤ valN x ys ∧ valN x ys < 1073741824 := by
  match ys, h, hl with
  | [], _, _ => simp only [valN, List.foldl_nil]; omega
  | [a], h, _ => have ha := h a (by simp); simp only [valN, List.foldl_nil, List.foldl_cons]; omega
  | [a, b], h, _ => have ha := h a (by simp); have hb := h b (by simp); simp only [valN, List.foldl_nil, List.foldl_cons]; omega
  | [a, b, c], h, _ => have ha := h a (by simp); have hb := h b (by simp); have hc := h c (by simp); simp only [valN, List.foldl_nil, List.foldl_cons]; omega
  | _ :: _ :: _ :: _ :: _, _, hl => simp at hl

/-- What is added to a number of so many octets, so that the first one tells how many there are. -/
def markN (k : Int) : Int := if k = 2 then 16384 else if k = 4 then 2147483648 else 0
/- VaGet:
  The contract of varint.Get, for every slice of octets.
-/
/-- The error of Get, the number and how many octets it has. -/
def getK (xs : List Int) : Nat := (toldN (xs.headD 192)).toNat
def getV (xs : List Int) : Int := valN (xs.headD 0) (xs.tail.take (getK xs - 1))
def getE (xs : List Int) : Int :=
  if xs.length = 0 then 1 else if getK xs = 0 then 2 else if xs.length < getK xs then 1 else if sizeN (getV xs) = getK xs then 0 else 2
/- VaGot:
  The contract of varint.Get in two halves, for every slice of octets: where it answers an error, and where it answers a number and the rest.
-/
theorem toldN_cases (x : Int) : toldN x = 0 ∧ 192 ≤ x ∨ toldN x = 1 ∧ x < 64 ∨ toldN x = 2 ∧ 64 ≤ x ∧ x < 128 ∨ toldN x = 4 ∧ 128 ≤ x ∧ x < 192 := by
  rcases Int.lt_or_le x 64 with h | h
  · exact .inr (.inl ⟨toldN_1 h, h⟩)
  · rcases Int.lt_or_le x 128 with h1 | h1
    · exact .inr (.inr (.inl ⟨toldN_2 h h1, h, h1⟩))
    · rcases Int.lt_or_le x 192 with h2 | h2
      · exact .inr (.inr (.inr ⟨toldN_4 h1 h2, h1, h2⟩))
      · exact .inl ⟨toldN_0 h2, h2⟩

theorem getK_cons (x : Int) (ys : List Int) : getK (x :: ys) = (toldN x).toNat := rfl
theorem getV_cons (x : Int) (ys : List Int) : getV (x :: ys) = valN x (ys.take (getK (x :: ys) - 1)) := rfl
theorem getK_le (xs : List Int) : getK xs ≤ 4 := by
  unfold getK
  rcases toldN_cases (xs.headD 192) with h | h | h | h <;> rw [h.1] <;> decide

/-- What Get answers where octets begin with a number: the number, and a slice that reads as the rest. -/
def GotWell (w : World) (B n c : Nat) (xs : List Int) (e : Ending) (w' : World) : Prop :=
  ∃ A', e = .returned (.tuple #[.int .i64 (getV xs), .slice A' (n - getK xs) (c - getK xs), .int .i64 0]) ∧ Oct w B A' (n - getK xs) (xs.drop (getK xs)) ∧ ∃ d, w' = w.drewN d

theorem getE_ok {xs : List Int} (h : getE xs = 0) : 1 ≤ getK xs ∧ getK xs ≤ xs.length ∧ sizeN (getV xs) = getK xs := by
  unfold getE at h
  by_cases h0 : xs.length = 0
  · rw [if_pos h0] at h; simp at h
  · rw [if_neg h0] at h
    by_cases h1 : getK xs = 0
    · rw [if_pos h1] at h; simp at h
    · rw [if_neg h1] at h
      by_cases h2 : xs.length < getK xs
      · rw [if_pos h2] at h; simp at h
      · rw [if_neg h2] at h
        by_cases h3 : sizeN (getV xs) = getK xs
        · exact ⟨by omega, by omega, h3⟩
        · rw [if_neg h3] at h; simp at h
/- VaPut:
  The contract of varint.Put, for every slice of octets and every number.
-/
/-- The octets of a number. -/
def octN (m : Int) : List Int :=
  if sizeN m = 4 then [128 + m / 16777216, m / 65536 % 256, m / 256 % 256, m % 256] else if sizeN m = 2 then [64 + m / 256, m % 256] else if sizeN m = 1 then [m] else []

/-- What Put answers of a number that has octets: a new row that reads as ys; nothing that was there has changed. -/
def PutWell (w : World) (ys : List Int) (e : Ending) (w' : World) : Prop :=
  ∃ g cap, e = .returned (.slice (some ⟨g, 0, none⟩) ys.length cap) ∧ w.heap.size ≤ g ∧ ys.length ≤ cap ∧ cap ≤ maxLen ∧ Oct w' w'.heap.size (some ⟨g, 0, none⟩) ys.length ys ∧ Below w.heap.size w w'

theorem well_of {w0 w : World} {g k cap : Nat} {l : List Value} {ys : List Int} (h : w.ownsRow w0.heap.size 5 1 (.slice (some ⟨g, 0, none⟩) k cap) k l) (hk : ys.length = k) (hl : l = ys.map (Value.int .u8)) (hy : ∀ y ∈ ys, 0 ≤ y ∧ y ≤ 255)
    (hb : Below w0.heap.size w0 w) : PutWell w0 ys (.returned (.slice (some ⟨g, 0, none⟩) k cap)) w := by
  subst hl hk
  obtain ⟨hg0, hg1⟩ := h.lt g rfl
  have hc := h.cells (g := g) rfl
  refine ⟨g, cap, rfl, hg0, ?_, ?_, ⟨rfl, hy, fun _ => ⟨g, 0, rfl, hg1, fun i x hx => ?_⟩⟩, hb⟩
  · rcases h.2 with ⟨hv, _⟩ | ⟨g', cap', cur, hv, _, _, h1, _⟩
    · simp at hv
    · simp at hv; omega
  · rcases h.2 with ⟨hv, _⟩ | ⟨g', cap', cur, hv, _, _, _, h2, _⟩
    · simp at hv
    · simp at hv; omega
  · have := hc i (.int .u8 x) (by rw [List.getElem?_map, hx]; rfl)
    rwa [Addr.add_lit] at this

theorem sizeN_cases (m : Int) : sizeN m = 0 ∧ (m < 0 ∨ 1073741823 < m) ∨ sizeN m = 1 ∧ 0 ≤ m ∧ m ≤ 63 ∨ sizeN m = 2 ∧ 63 < m ∧ m ≤ 16383 ∨ sizeN m = 4 ∧ 16383 < m ∧ m ≤ 1073741823 := by
  by_cases h : m < 0 ∨ 1073741823 < m
  · exact .inl ⟨sizeN_0 h, h⟩
  · by_cases h1 : m ≤ 63
    · exact .inr (.inl ⟨sizeN_1 (by omega) h1, by omega, h1⟩)
    · by_cases h2 : m ≤ 16383
      · exact .inr (.inr (.inl ⟨sizeN_2 (by omega) h2, by omega, h2⟩))
      · exact .inr (.inr (.inr ⟨sizeN_4 (by omega) (by omega), by omega, by omega⟩))

theorem octN_length (m : Int) : ((octN m).length : Int) = sizeN m := by
  unfold octN
  rcases sizeN_cases m with h | h | h | h <;> rw [h.1] <;> rfl
/- VaOct:
  Octets in memory: a slice that reads as a list of octets, and as a string.
-/
/-- What Get answers where octets begin with a number, the world told by 'Below' alone. -/
def GotSome (w : World) (B n c k : Nat) (m : Int) (ys : List Int) (e : Ending) (w' : World) : Prop :=
  ∃ A', e = .returned (.tuple #[.int .i64 m, .slice A' (n - k) (c - k), .int .i64 0]) ∧ Oct w' B A' (n - k) ys ∧ Below w.heap.size w w'
/- VaMore:
  Put behind no octets, in one contract; plain facts on octets and strings.
-/
/-- What Put behind no octets answers: a slice of L octets that reads as ys; nothing that was there has changed. -/
def PutNew (w : World) (L : Nat) (ys : List Int) (e : Ending) (w' : World) : Prop :=
  ∃ A cap, e = .returned (.slice A L cap) ∧ L ≤ cap ∧ cap ≤ maxLen ∧ Oct w' w'.heap.size A L ys ∧ Below w.heap.size w w'

theorem octN_none {m : Int} (h : sizeN m = 0) : octN m = [] := by unfold octN; rw [h]; rfl

/-- What is got was put: the octets of the number are those with which it was told. -/
theorem oct_back (xs : List Int) (hx : ∀ x ∈ xs, 0 ≤ x ∧ x ≤ 255) (hE : getE xs = 0) : octN (getV xs) ++ xs.drop (getK xs) = xs := by
  obtain ⟨h1, h2, h3⟩ := getE_ok hE
  match xs, hx, h1, h2, h3 with
  | [], _, h1, h2, _ => simp at h2; omega
  | x :: ys, hx, h1, h2, h3 =>
    have bx := hx x (by simp)
    rw [getK_cons] at h1 h2 h3 ⊢
    rw [getV_cons, getK_cons] at h3 ⊢
    rcases toldN_cases x with h | h | h | h
    · rw [h.1] at h1; simp at h1
    · rw [h.1] at h3 ⊢
      have e : valN x (ys.take ((1 : Int).toNat - 1)) = x := by simp [valN]; omega
      rw [e, octN, sizeN_1 (by omega) (by omega)]
      simp
    · rw [h.1] at h2 h3 ⊢
      match ys, hx, h2, h3 with
      | [], _, h2, _ => simp at h2
      | y :: zs, hx, _, h3 =>
        have by_ := hx y (by simp)
        have e : valN x ((y :: zs).take ((2 : Int).toNat - 1)) = (x % 64) * 256 + y := by simp [valN]
        rw [e] at h3 ⊢
        rw [octN, h3]
        simp
        omega
    · rw [h.1] at h2 h3 ⊢
      match ys, hx, h2, h3 with
      | [], _, h2, _ => simp at h2
      | [_], _, h2, _ => simp at h2
      | [_, _], _, h2, _ => simp at h2
      | a :: b :: c :: zs, hx, _, h3 =>
        have ba := hx a (by simp)
        have bb := hx b (by simp)
        have bc := hx c (by simp)
        have e : valN x ((a :: b :: c :: zs).take ((4 : Int).toNat - 1)) = (((x % 64) * 256 + a) * 256 + b) * 256 + c := by simp [valN]
        rw [e] at h3 ⊢
        rw [octN, h3]
        simp
        omega

/-- What is put is got. -/
theorem got_put (m : Int) (zs : List Int) (hm : sizeN m ≠ 0) : getE (octN m ++ zs) = 0 ∧ getV (octN m ++ zs) = m ∧ getK (octN m ++ zs) = (octN m).length := by
  rcases sizeN_cases m with h | h | h | h
  · exact absurd h.1 hm
  · have e : octN m = [m] := by unfold octN; rw [h.1]; rfl
    have hk : getK (m :: zs) = 1 := by rw [getK_cons, toldN_1 (by omega)]; rfl
    have hv : getV (m :: zs) = m := by rw [getV_cons, hk]; simp [valN]; omega
    rw [e]
    simp only [List.cons_append, List.nil_append]
    refine ⟨?_, hv, hk⟩
    unfold getE
    rw [hv, hk, h.1]
    simp
  · have e : octN m = [64 + m / 256, m % 256] := by unfold octN; rw [h.1]; rfl
    have hk : getK ((64 + m / 256) :: (m % 256) :: zs) = 2 := by rw [getK_cons, toldN_2 (by omega) (by omega)]; rfl
    have hv : getV ((64 + m / 256) :: (m % 256) :: zs) = m := by rw [getV_cons, hk]; simp [valN]; omega
    rw [e]
    simp only [List.cons_append, List.nil_append]
    refine ⟨?_, hv, hk⟩
    unfold getE
    rw [hv, hk, h.1]
    simp
  · have e : octN m = [128 + m / 16777216, m / 65536 % 256, m / 256 % 256, m % 256] := by unfold octN; rw [h.1]; rfl
    have hk : getK ((128 + m / 16777216) :: (m / 65536 % 256) :: (m / 256 % 256) :: (m % 256) :: zs) = 4 := by rw [getK_cons, toldN_4 (by omega) (by omega)]; rfl
    have hv : getV ((128 + m / 16777216) :: (m / 65536 % 256) :: (m / 256 % 256) :: (m % 256) :: zs) = m := by rw [getV_cons, hk]; simp [valN]; omega
    rw [e]
    simp only [List.cons_append, List.nil_append]
    refine ⟨?_, hv, hk⟩
    unfold getE
    rw [hv, hk, h.1]
    simp

/-- No octet of a number can be missing. -/
theorem got_cut (m : Int) (i : Nat) (hi : i < (octN m).length) : getE ((octN m).take i) = 1 := by
  unfold octN at hi ⊢
  rcases sizeN_cases m with h | h | h | h
  · rw [h.1] at hi; simp at hi
  · rw [h.1] at hi ⊢
    simp at hi ⊢
    subst hi
    rfl
  · rw [h.1] at hi ⊢
    simp at hi ⊢
    rcases i with _ | _ | i
    · rfl
    · have hk : getK [64 + m / 256] = 2 := by rw [getK_cons, toldN_2 (by omega) (by omega)]; rfl
      show getE [64 + m / 256] = 1
      unfold getE
      rw [hk]
      simp
    · omega
  · rw [h.1] at hi ⊢
    simp at hi ⊢
    have ht : toldN (128 + m / 16777216) = 4 := toldN_4 (by omega) (by omega)
    rcases i with _ | _ | _ | _ | i
    · rfl
    · show getE [128 + m / 16777216] = 1
      unfold getE
      rw [getK_cons, ht]
      simp
    · show getE [128 + m / 16777216, m / 65536 % 256] = 1
      unfold getE
      rw [getK_cons, ht]
      simp
    · show getE [128 + m / 16777216, m / 65536 % 256, m / 256 % 256] = 1
      unfold getE
      rw [getK_cons, ht]
      simp
    · omega
/- VaApp:
  Octets appended to a row of the call's own, whatever the slice that holds them (nil, empty or not).
-/
theorem octN_le (m : Int) : (octN m).length ≤ 4 := by
  have := octN_length m
  rcases sizeN_cases m with h | h | h | h <;> rw [h.1] at this <;> omega
theorem octN_bytes (m : Int) : ∀ y ∈ octN m, 0 ≤ y ∧ y ≤ 255 := by
  intro y hy
  unfold octN at hy
  rcases sizeN_cases m with h | h | h | h
  · rw [h.1] at hy; simp at hy
  · rw [h.1] at hy
    simp at hy
    omega
  · rw [h.1] at hy
    simp at hy
    omega
  · rw [h.1] at hy
    simp at hy
    omega
/- VaAny:
  What varint.Get and varint.Put answer, error or none, in one contract each; with and without the bounds of the capacity.
-/
/-- The number that Get answers, and the rest. -/
def gotM (xs : List Int) : Int := if getE xs = 0 then getV xs else 0
def gotR (xs : List Int) : List Int := if getE xs = 0 then xs.drop (getK xs) else []
/-- What Get answers, error or none. -/
def GotAny (w : World) (B : Nat) (xs : List Int) (e : Ending) (w' : World) : Prop :=
  ∃ A n c, e = .returned (.tuple #[.int .i64 (gotM xs), .slice A n c, .int .i64 (getE xs)]) ∧ Oct w' B A n (gotR xs) ∧ Below w.heap.size w w'

/-- What Get answers, error or none, with the bounds of the capacity. -/
def GotSl (w : World) (B : Nat) (xs : List Int) (e : Ending) (w' : World) : Prop :=
  ∃ A n c, e = .returned (.tuple #[.int .i64 (gotM xs), .slice A n c, .int .i64 (getE xs)]) ∧ n ≤ c ∧ c ≤ maxLen ∧ Oct w' B A n (gotR xs) ∧ Below w.heap.size w w'
/- WiBase:
  Plain contracts of package wire's small functions (width, read, roomy, lay) and of PutNum, for every argument that they can get.
-/
/-- How many octets a number is given. -/
def widthK (k : Int) : Nat := if k < 1 then 1 else if 4 < k then 4 else k.toNat

theorem widthK_le (k : Int) : 1 ≤ widthK k ∧ widthK k ≤ 4 := by
  unfold widthK
  by_cases h : k < 1
  · rw [if_pos h]; omega
  · rw [if_neg h]
    by_cases h4 : 4 < k
    · rw [if_pos h4]; omega
    · rw [if_neg h4]; omega

/-- The number of octets, the highest first. -/
def numV (xs : List Int) : Int := xs.foldl (fun a y => a * 256 + y) 0
theorem numV_snoc (y : Int) (l : List Int) : numV (l ++ [y]) = numV l * 256 + y := by simp [numV, List.foldl_append]
theorem numV_step (ys : List Int) (j : Nat) (h : j < ys.length) : numV (ys.take (j + 1)) = numV (ys.take j) * 256 + ys[j] := by
  rw [List.take_succ_eq_append_getElem h, numV_snoc]
theorem numV_bd (ys : List Int) (h : ∀ y ∈ ys, 0 ≤ y ∧ y ≤ 255) (hl : ys.length ≤ 4) : 0 ≤ numV ys ∧ numV ys ≤ 4294967295 := by
  match ys, h, hl with
  | [], _, _ => simp only [numV, List.foldl_nil]; omega
  | [a], h, _ => have ha := h a (by simp); simp only [numV, List.foldl_nil, List.foldl_cons]; omega
  | [a, b], h, _ => have ha := h a (by simp); have hb := h b (by simp); simp only [numV, List.foldl_nil, List.foldl_cons]; omega
  | [a, b, c], h, _ => have ha := h a (by simp); have hb := h b (by simp); have hc := h c (by simp); simp only [numV, List.foldl_nil, List.foldl_cons]; omega
  | [a, b, c, d], h, _ => have ha := h a (by simp); have hb := h b (by simp); have hc := h c (by simp); have hd := h d (by simp); simp only [numV, List.foldl_nil, List.foldl_cons]; omega
  | _ :: _ :: _ :: _ :: _ :: _, _, hl => simp at hl
/- WiPut:
  Contracts of wire.roomy, wire.lay, wire.PutNum and wire.PutFlag, for every slice of octets and every number.
-/
/-- The lowest k octets of a number, the highest first. -/
def numOct (n : Int) (k : Nat) : List Int := (List.range k).map fun i => n / (2 : Int) ^ (8 * (k - 1 - i)) % 256
theorem numOct_length (n : Int) (k : Nat) : (numOct n k).length = k := by simp [numOct]
theorem numOct_bytes (n : Int) (k : Nat) : ∀ y ∈ numOct n k, 0 ≤ y ∧ y ≤ 255 := by
  intro y hy
  simp only [numOct, List.mem_map] at hy
  obtain ⟨i, _, rfl⟩ := hy
  omega
theorem numOct_get (n : Int) (k j : Nat) (h : j < k) : (numOct n k).take (j + 1) = (numOct n k).take j ++ [n / (2 : Int) ^ (8 * (k - 1 - j)) % 256] := by
  rw [List.take_succ_eq_append_getElem (by rw [numOct_length]; exact h)]
  simp [numOct]

/-- The octet of a flag. -/
def flagOct (b : Bool) : List Int := [if b then 1 else 0]
/- WiGet:
  Contracts of wire.GetNum, wire.GetFlag and wire.GetBytes, for every slice of octets.
-/
/-- A number, the rest and an error are answered; nothing that was there has changed. -/
def GotInt (w : World) (B : Nat) (m : Int) (rs : List Int) (er : Int) (e : Ending) (w' : World) : Prop :=
  ∃ A n c, e = .returned (.tuple #[.int .i64 m, .slice A n c, .int .i64 er]) ∧ n ≤ c ∧ c ≤ maxLen ∧ Oct w' B A n rs ∧ Below w.heap.size w w'
/-- A flag, the rest and an error are answered; nothing that was there has changed. -/
def GotFlag (w : World) (B : Nat) (b : Bool) (rs : List Int) (er : Int) (e : Ending) (w' : World) : Prop :=
  ∃ A n c, e = .returned (.tuple #[.bool b, .slice A n c, .int .i64 er]) ∧ n ≤ c ∧ c ≤ maxLen ∧ Oct w' B A n rs ∧ Below w.heap.size w w'
/-- Octets, the rest and an error are answered; nothing that was there has changed. -/
def GotTwo (w : World) (B : Nat) (ps rs : List Int) (er : Int) (e : Ending) (w' : World) : Prop :=
  ∃ A1 n1 c1 A n c, e = .returned (.tuple #[.slice A1 n1 c1, .slice A n c, .int .i64 er]) ∧ n1 ≤ c1 ∧ c1 ≤ maxLen ∧ n ≤ c ∧ c ≤ maxLen ∧ Oct w' B A1 n1 ps ∧ Oct w' B A n rs ∧ Below w.heap.size w w'

def numE (xs : List Int) (k : Int) : Int := if xs.length < widthK k then 1 else 0
def numM (xs : List Int) (k : Int) : Int := if xs.length < widthK k then 0 else numV (xs.take (widthK k))
def numR (xs : List Int) (k : Int) : List Int := if xs.length < widthK k then [] else xs.drop (widthK k)

def flagE (xs : List Int) : Int := if xs.length = 0 then 1 else if 1 < xs.headD 0 then 2 else 0
def flagB (xs : List Int) : Bool := xs.headD 0 == 1
def flagR (xs : List Int) : List Int := if flagE xs = 0 then xs.drop 1 else []

def bytesE (xs : List Int) : Int := if getE xs ≠ 0 then getE xs else if 1048576 < getV xs then 4 else if ((gotR xs).length : Int) < getV xs then 1 else 0
def bytesP (xs : List Int) : List Int := if bytesE xs = 0 then (gotR xs).take (getV xs).toNat else []
def bytesR (xs : List Int) : List Int := if bytesE xs = 0 then (gotR xs).drop (getV xs).toNat else []

theorem getV_nonneg (xs : List Int) (hx : ∀ x ∈ xs, 0 ≤ x ∧ x ≤ 255) : 0 ≤ getV xs := by
  unfold getV
  exact (valN_bd _ _ (fun y hy => hx y (List.mem_of_mem_tail (List.mem_of_mem_take hy))) (by rw [List.length_take]; have := getK_le xs; omega)).1
/- WiCat:
  Contracts of slices.Grow (of nil) and slices.Concat (of three slices of octets), which the program takes from Go's library, and of wire.PutBytes.
-/
/-- How far the sum of three lengths has come. -/
def CatSum (n1 n2 n3 : Nat) (s i : Value) : Prop :=
  (i = .int .i64 0 ∧ s = .int .i64 0) ∨ (i = .int .i64 1 ∧ s = .int .i64 n1) ∨ (i = .int .i64 2 ∧ s = .int .i64 ((n1 : Int) + n2)) ∨ (i = .int .i64 3 ∧ s = .int .i64 ((n1 : Int) + n2 + n3))

/-- How far three slices of octets have been joined. -/
def CatRow (w : World) (x1 x2 x3 : List Int) (v i : Value) (w' : World) : Prop :=
  Below w.heap.size w w' ∧ w.heap.size ≤ w'.heap.size ∧
  ((i = .int .i64 0 ∧ w'.ownsRow w.heap.size 5 1 v ([] : List Int).length (([] : List Int).map (Value.int .u8))) ∨
   (i = .int .i64 1 ∧ w'.ownsRow w.heap.size 5 1 v x1.length (x1.map (Value.int .u8))) ∨
   (i = .int .i64 2 ∧ w'.ownsRow w.heap.size 5 1 v (x1 ++ x2).length ((x1 ++ x2).map (Value.int .u8))) ∨
   (i = .int .i64 3 ∧ w'.ownsRow w.heap.size 5 1 v (x1 ++ x2 ++ x3).length ((x1 ++ x2 ++ x3).map (Value.int .u8))))

/-- Octets, and how many they are ahead of them. -/
def bytesOct (vs : List Int) : List Int := if 1048576 < vs.length then [] else octN vs.length ++ vs

theorem new_three (w : World) (u0 u1 u2 : Value) (T : TypeId) :
    (w.alloc (.cells #[u0, u1, u2] T)).cell? ⟨w.heap.size, 0, none⟩ = some u0 ∧ (w.alloc (.cells #[u0, u1, u2] T)).cell? ⟨w.heap.size, 1, none⟩ = some u1 ∧ (w.alloc (.cells #[u0, u1, u2] T)).cell? ⟨w.heap.size, 2, none⟩ = some u2 := by
  have h := fun j => cell_of_row (w.alloc (.cells #[u0, u1, u2] T)) w.heap.size j #[u0, u1, u2] T (0, 0) (heap_alloc_new w _)
  refine ⟨?_, ?_, ?_⟩
  · rw [h 0]; rfl
  · rw [h 1]; rfl
  · rw [h 2]; rfl
/- WiNums:
  Contracts of wire.PutNums and wire.GetNums, for every list of numbers and every slice of octets.
-/
/-- The four octets of each number. -/
def numsOct (ls : List Int) : List Int := ls.flatMap fun n => numOct n 4
theorem numsOct_length (ls : List Int) : (numsOct ls).length = 4 * ls.length := by
  induction ls with
  | nil => rfl
  | cons x l ih =>
    have e : numsOct (x :: l) = numOct x 4 ++ numsOct l := rfl
    rw [e, List.length_append, numOct_length, ih, List.length_cons]; omega
theorem numsOct_bytes (ls : List Int) : ∀ y ∈ numsOct ls, 0 ≤ y ∧ y ≤ 255 := by
  intro y hy
  unfold numsOct at hy
  rw [List.mem_flatMap] at hy
  obtain ⟨n, _, h⟩ := hy
  exact numOct_bytes n 4 y h
theorem numsOct_step (ls : List Int) (j : Nat) (h : j < ls.length) : numsOct (ls.take (j + 1)) = numsOct (ls.take j) ++ numOct ls[j] 4 := by
  unfold numsOct
  rw [List.take_succ_eq_append_getElem h, List.flatMap_append, List.flatMap_cons, List.flatMap_nil, List.append_nil]

/-- The numbers of four octets each. -/
def fours (ps : List Int) : List Int := (List.range (ps.length / 4)).map fun i => numV ((ps.drop (4 * i)).take 4)
theorem fours_length (ps : List Int) : (fours ps).length = ps.length / 4 := by simp [fours]
theorem fours_step (ps : List Int) (j : Nat) (h : j < ps.length / 4) : (fours ps).take (j + 1) = (fours ps).take j ++ [numV ((ps.drop (4 * j)).take 4)] := by
  rw [List.take_succ_eq_append_getElem (by rw [fours_length]; exact h)]
  simp [fours]

def numsE (xs : List Int) : Int := if bytesE xs ≠ 0 then bytesE xs else if (bytesP xs).length % 4 ≠ 0 then 2 else 0
def numsL (xs : List Int) : List Int := if numsE xs = 0 then fours (bytesP xs) else []
def numsR (xs : List Int) : List Int := if numsE xs = 0 then bytesR xs else []

/-- Numbers, the rest and an error are answered; nothing that was there has changed. -/
def GotNums (w : World) (B : Nat) (ls rs : List Int) (er : Int) (e : Ending) (w' : World) : Prop :=
  ∃ A1 n1 c1 A n c, e = .returned (.tuple #[.slice A1 n1 c1, .slice A n c, .int .i64 er]) ∧ n1 ≤ c1 ∧ c1 ≤ maxLen ∧ n ≤ c ∧ c ≤ maxLen ∧ Nums w' w'.heap.size A1 n1 ls ∧ Oct w' B A n rs ∧ Below w.heap.size w w'

/-- As GotNums; the numbers lie in a block that was not there. -/
def GotNumsF (w : World) (B : Nat) (ls rs : List Int) (er : Int) (e : Ending) (w' : World) : Prop :=
  ∃ A1 n1 c1 A n c, e = .returned (.tuple #[.slice A1 n1 c1, .slice A n c, .int .i64 er]) ∧ n1 ≤ c1 ∧ c1 ≤ maxLen ∧ n ≤ c ∧ c ≤ maxLen ∧ Nums w' w'.heap.size A1 n1 ls ∧ Oct w' B A n rs ∧ Below w.heap.size w w' ∧ ∀ p, A1 = some p → w.heap.size ≤ p.block
theorem GotNumsF.got {w w' : World} {B : Nat} {ls rs : List Int} {er : Int} {e : Ending} (h : GotNumsF w B ls rs er e w') : GotNums w B ls rs er e w' := by
  obtain ⟨A1, n1, c1, A, n, c, h0, h1, h2, h3, h4, h5, h6, h7, _⟩ := h
  exact ⟨A1, n1, c1, A, n, c, h0, h1, h2, h3, h4, h5, h6, h7⟩

theorem run_cut_four (A : Option Addr) (n c j : Nat) (h2 : 4 * j + 4 ≤ c) (w : World) :
    (Instr.sliceAt 23 (.slice A n c) (some (.int .i64 (4 * (j : Int)))) (some (.int .i64 (4 * (j : Int) + 4))) none).run Tryd.prog w = .ok (.slice (cutA A (4 * j) c) 4 (c - 4 * j)) w := by
  have h := run_cut_lh A n c (4 * j) (4 * j + 4) (4 * (j : Int)) (4 * (j : Int) + 4) (by omega) (by omega) (by omega) h2 w
  rwa [show 4 * j + 4 - 4 * j = 4 from by omega] at h

theorem bytesP_le (xs : List Int) (hx : ∀ x ∈ xs, 0 ≤ x ∧ x ≤ 255) : (bytesP xs).length ≤ 1048576 := by
  unfold bytesP
  by_cases h : bytesE xs = 0
  · rw [if_pos h, List.length_take]
    have : ¬ 1048576 < getV xs := by
      intro h2
      unfold bytesE at h
      by_cases h3 : getE xs = 0
      · rw [if_neg (by simpa using h3), if_pos h2] at h; simp at h
      · rw [if_pos h3] at h; exact h3 h
    omega
  · rw [if_neg h]; simp
/- WiRow:
  Slices of numbers that came in, read as lists; small bounds.
-/
theorem sizeN_bd (m : Int) : 0 ≤ sizeN m ∧ sizeN m ≤ 4 := by
  rcases sizeN_cases m with h | h | h | h <;> rw [h.1] <;> omega
/- WiMath:
  Plain facts on the octets of layer 2: what is put is got, what is got was put, what is cut short is short.
-/
theorem bytesOct_small {vs : List Int} (h : vs.length ≤ 1048576) : bytesOct vs = octN vs.length ++ vs := by unfold bytesOct; rw [if_neg (by omega)]
theorem sizeN_len {n : Nat} (h : n ≤ 1048576) : sizeN (n : Int) ≠ 0 := by
  rcases sizeN_cases (n : Int) with h1 | h1 | h1 | h1 <;> omega
theorem octN_pos {n : Nat} (h : n ≤ 1048576) : 0 < (octN (n : Int)).length := by
  have h1 := octN_length (n : Int)
  have h2 := sizeN_len h
  have h3 := sizeN_bd (n : Int)
  omega
theorem bytesOct_pos {vs : List Int} (h : vs.length ≤ 1048576) : 0 < (bytesOct vs).length := by
  have := octN_pos h
  rw [bytesOct_small h, List.length_append]; omega
theorem bytesOct_length {vs : List Int} (h : vs.length ≤ 1048576) : (bytesOct vs).length = (octN (vs.length : Int)).length + vs.length := by
  rw [bytesOct_small h, List.length_append]
theorem bytesOct_bytes {vs : List Int} (h : ∀ y ∈ vs, 0 ≤ y ∧ y ≤ 255) : ∀ y ∈ bytesOct vs, 0 ≤ y ∧ y ≤ 255 := by
  intro y hy
  unfold bytesOct at hy
  split at hy
  · cases hy
  · rcases List.mem_append.1 hy with h1 | h1
    · exact octN_bytes _ y h1
    · exact h y h1

/-- What is cut short is short. -/
theorem bytes_cut (vs : List Int) (i : Nat) (h : vs.length ≤ 1048576) (hi : i < (bytesOct vs).length) : bytesE ((bytesOct vs).take i) = 1 := by
  rw [bytesOct_length h] at hi
  rw [bytesOct_small h]
  by_cases hl : i < (octN (vs.length : Int)).length
  · rw [List.take_append_of_le_length (by omega)]
    have h1 := got_cut (vs.length : Int) i hl
    unfold bytesE
    rw [h1]
    simp
  · have e : (octN (vs.length : Int) ++ vs).take i = octN (vs.length : Int) ++ vs.take (i - (octN (vs.length : Int)).length) := by
      rw [List.take_append, List.take_of_length_le (by omega)]
    rw [e]
    obtain ⟨h1, h2, h3⟩ := got_put (vs.length : Int) (vs.take (i - (octN (vs.length : Int)).length)) (sizeN_len h)
    unfold bytesE gotR
    rw [h1, h2, h3, List.drop_left, if_neg (by decide), if_neg (by omega), if_pos rfl, if_pos]
    rw [List.length_take]
    omega
theorem nums_cut (ls : List Int) (i : Nat) (h : (numsOct ls).length ≤ 1048576) (hi : i < (bytesOct (numsOct ls)).length) : numsE ((bytesOct (numsOct ls)).take i) = 1 := by
  have h1 := bytes_cut (numsOct ls) i h hi
  unfold numsE
  rw [h1]
  simp

/-- What is put is got. -/
theorem bytes_put (vs zs : List Int) (h : vs.length ≤ 1048576) : bytesE (bytesOct vs ++ zs) = 0 ∧ bytesP (bytesOct vs ++ zs) = vs ∧ bytesR (bytesOct vs ++ zs) = zs := by
  rw [bytesOct_small h, List.append_assoc]
  obtain ⟨h1, h2, h3⟩ := got_put (vs.length : Int) (vs ++ zs) (sizeN_len h)
  have hr : gotR (octN (vs.length : Int) ++ (vs ++ zs)) = vs ++ zs := by
    unfold gotR
    rw [h1, if_pos rfl, h3, List.drop_left]
  have he : bytesE (octN (vs.length : Int) ++ (vs ++ zs)) = 0 := by
    unfold bytesE
    rw [h1, h2, hr, if_neg (by decide), if_neg (by omega), if_neg]
    rw [List.length_append]; omega
  refine ⟨he, ?_, ?_⟩
  · unfold bytesP
    rw [if_pos he, hr, h2, Int.toNat_natCast, List.take_left]
  · unfold bytesR
    rw [if_pos he, hr, h2, Int.toNat_natCast, List.drop_left]

theorem numOct4 (n : Int) : numOct n 4 = [n / 16777216 % 256, n / 65536 % 256, n / 256 % 256, n % 256] := by
  simp [numOct, List.range, List.range.loop]
theorem numV4 (a b c d : Int) : numV [a, b, c, d] = ((a * 256 + b) * 256 + c) * 256 + d := by simp [numV]
theorem num_put (n : Int) (h0 : 0 ≤ n) (h1 : n < 4294967296) : numV (numOct n 4) = n := by
  rw [numOct4, numV4]; omega
theorem num_got (a b c d : Int) (ha : 0 ≤ a ∧ a ≤ 255) (hb : 0 ≤ b ∧ b ≤ 255) (hc : 0 ≤ c ∧ c ≤ 255) (hd : 0 ≤ d ∧ d ≤ 255) : numOct (numV [a, b, c, d]) 4 = [a, b, c, d] := by
  rw [numV4, numOct4]
  congr 1
  · omega
  · congr 1
    · omega
    · congr 1
      · omega
      · congr 1
        omega

theorem fours_cons (p ps : List Int) (hp : p.length = 4) : fours (p ++ ps) = numV p :: fours ps := by
  unfold fours
  rw [List.length_append, hp, show (4 + ps.length) / 4 = ps.length / 4 + 1 from by omega, List.range_succ_eq_map, List.map_cons, List.map_map]
  congr 1
  · rw [Nat.mul_zero, List.drop_zero, ← hp, List.take_left]
  · refine List.map_congr_left fun i _ => ?_
    show numV (((p ++ ps).drop (4 * (i + 1))).take 4) = _
    rw [show 4 * (i + 1) = p.length + 4 * i from by omega, List.drop_append, Nat.add_sub_cancel_left, List.drop_eq_nil_of_le (by omega), List.nil_append]
theorem fours_put (ls : List Int) (h : ∀ n ∈ ls, 0 ≤ n ∧ n < 4294967296) : fours (numsOct ls) = ls := by
  induction ls with
  | nil => rfl
  | cons x l ih =>
    have e : numsOct (x :: l) = numOct x 4 ++ numsOct l := rfl
    rw [e, fours_cons _ _ (numOct_length _ _), num_put x (h x (by simp)).1 (h x (by simp)).2, ih fun n hn => h n (by simp [hn])]
theorem fours_got : ∀ (k : Nat) (ps : List Int), ps.length = 4 * k → (∀ p ∈ ps, 0 ≤ p ∧ p ≤ 255) → numsOct (fours ps) = ps
  | 0, ps, hl, _ => by
    have e : ps = [] := List.eq_nil_of_length_eq_zero (by omega)
    subst e
    rfl
  | k + 1, ps, hl, h => by
    match ps, hl, h with
    | a :: b :: c :: d :: qs, hl, h =>
      have e : a :: b :: c :: d :: qs = [a, b, c, d] ++ qs := rfl
      have ih := fours_got k qs (by simp at hl; omega) fun p hp => h p (by simp [hp])
      have e2 : ∀ x l, numsOct (x :: l) = numOct x 4 ++ numsOct l := fun _ _ => rfl
      rw [e, fours_cons _ _ rfl, e2, ih, num_got a b c d (h a (by simp)) (h b (by simp)) (h c (by simp)) (h d (by simp))]
    | [], hl, _ => simp at hl
    | [_], hl, _ => simp at hl; omega
    | [_, _], hl, _ => simp at hl; omega
    | [_, _, _], hl, _ => simp at hl; omega

theorem nums_put (ls zs : List Int) (hl : ls.length ≤ 262144) (h : ∀ n ∈ ls, 0 ≤ n ∧ n < 4294967296) :
    numsE (bytesOct (numsOct ls) ++ zs) = 0 ∧ numsL (bytesOct (numsOct ls) ++ zs) = ls ∧ numsR (bytesOct (numsOct ls) ++ zs) = zs := by
  obtain ⟨h1, h2, h3⟩ := bytes_put (numsOct ls) zs (by rw [numsOct_length]; omega)
  have he : numsE (bytesOct (numsOct ls) ++ zs) = 0 := by
    unfold numsE
    rw [h1, h2, numsOct_length]
    simp
  refine ⟨he, ?_, ?_⟩
  · unfold numsL
    rw [if_pos he, h2, fours_put ls h]
  · unfold numsR
    rw [if_pos he, h3]

theorem flag_put (b : Bool) (zs : List Int) : flagE (flagOct b ++ zs) = 0 ∧ flagB (flagOct b ++ zs) = b ∧ flagR (flagOct b ++ zs) = zs := by
  have he : flagE (flagOct b ++ zs) = 0 := by cases b <;> simp [flagE, flagOct]
  refine ⟨he, by cases b <;> simp [flagB, flagOct], ?_⟩
  unfold flagR
  rw [if_pos he]
  rfl

theorem getE_cases (xs : List Int) : getE xs = 0 ∨ getE xs = 1 ∨ getE xs = 2 := by
  unfold getE
  repeat' split
  all_goals omega

/-- What is got was put. -/
theorem bytes_got (xs : List Int) (hx : ∀ x ∈ xs, 0 ≤ x ∧ x ≤ 255) (hE : bytesE xs = 0) : bytesOct (bytesP xs) ++ bytesR xs = xs := by
  have hg : getE xs = 0 := by
    unfold bytesE at hE
    split at hE
    · contradiction
    · rename_i h; simpa using h
  have hE' := hE
  unfold bytesE at hE'
  rw [if_neg (by rw [hg]; decide)] at hE'
  have hv0 := getV_nonneg xs hx
  have hv1 : getV xs ≤ 1048576 := by
    by_cases h : 1048576 < getV xs
    · rw [if_pos h] at hE'; cases hE'
    · omega
  rw [if_neg (by omega)] at hE'
  have hv2 : getV xs ≤ ((gotR xs).length : Int) := by
    by_cases h : ((gotR xs).length : Int) < getV xs
    · rw [if_pos h] at hE'; cases hE'
    · omega
  have hp : bytesP xs = (gotR xs).take (getV xs).toNat := by unfold bytesP; rw [if_pos hE]
  have hr : bytesR xs = (gotR xs).drop (getV xs).toNat := by unfold bytesR; rw [if_pos hE]
  have hlen : ((bytesP xs).length : Int) = getV xs := by
    rw [hp, List.length_take]; omega
  have hgr : gotR xs = xs.drop (getK xs) := by unfold gotR; rw [if_pos hg]
  rw [bytesOct_small (by omega), hlen, List.append_assoc, hp, hr, List.take_append_drop, hgr, oct_back xs hx hg]

theorem bytesP_bytes (xs : List Int) (hx : ∀ x ∈ xs, 0 ≤ x ∧ x ≤ 255) : ∀ y ∈ bytesP xs, 0 ≤ y ∧ y ≤ 255 := by
  intro y hy
  unfold bytesP at hy
  split at hy
  · have h1 := List.mem_of_mem_take hy
    unfold gotR at h1
    split at h1
    · exact hx y (List.mem_of_mem_drop h1)
    · cases h1
  · cases hy

theorem nums_got (xs : List Int) (hx : ∀ x ∈ xs, 0 ≤ x ∧ x ≤ 255) (hE : numsE xs = 0) : bytesE xs = 0 ∧ bytesOct (numsOct (numsL xs)) ++ numsR xs = xs := by
  have hb : bytesE xs = 0 := by
    unfold numsE at hE
    split at hE
    · contradiction
    · rename_i h; simpa using h
  have h4 : (bytesP xs).length % 4 = 0 := by
    unfold numsE at hE
    rw [if_neg (by rw [hb]; decide)] at hE
    by_cases h : (bytesP xs).length % 4 = 0
    · exact h
    · rw [if_pos h] at hE; cases hE
  refine ⟨hb, ?_⟩
  unfold numsL numsR
  rw [if_pos hE, if_pos hE, fours_got ((bytesP xs).length / 4) _ (by omega) (bytesP_bytes xs hx), bytes_got xs hx hb]

theorem flag_got (xs : List Int) (hx : ∀ x ∈ xs, 0 ≤ x ∧ x ≤ 255) (hE : flagE xs = 0) : flagOct (flagB xs) ++ flagR xs = xs := by
  match xs, hx, hE with
  | [], _, hE => simp [flagE] at hE
  | x :: l, hx, hE =>
    have h := hx x (by simp)
    unfold flagR
    rw [if_pos hE]
    unfold flagE at hE
    simp at hE
    have : x = 0 ∨ x = 1 := by omega
    rcases this with rfl | rfl <;> simp [flagOct, flagB]
/- WiBits:
  The lowest bits of a number, as a remainder.
-/

/- CatTwo:
  Contracts of slices.Grow (of nil) and slices.Concat (of two slices of octets), which the program takes from Go's library.
-/
/-- How far the sum of two lengths has come. -/
def CatSum2 (n1 n2 : Nat) (s i : Value) : Prop :=
  (i = .int .i64 0 ∧ s = .int .i64 0) ∨ (i = .int .i64 1 ∧ s = .int .i64 n1) ∨ (i = .int .i64 2 ∧ s = .int .i64 ((n1 : Int) + n2))
/-- How far two slices of octets have been joined. -/
def CatRow2 (w : World) (x1 x2 : List Int) (v i : Value) (w' : World) : Prop :=
  Below w.heap.size w w' ∧ w.heap.size ≤ w'.heap.size ∧
  ((i = .int .i64 0 ∧ w'.ownsRow w.heap.size 5 1 v ([] : List Int).length (([] : List Int).map (Value.int .u8))) ∨
   (i = .int .i64 1 ∧ w'.ownsRow w.heap.size 5 1 v x1.length (x1.map (Value.int .u8))) ∨
   (i = .int .i64 2 ∧ w'.ownsRow w.heap.size 5 1 v (x1 ++ x2).length ((x1 ++ x2).map (Value.int .u8))))
end Go.Proofs.YtpoonjgkgaodmaaDoor
