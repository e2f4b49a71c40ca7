/-
  KitV: Arith, VaBase, VaGet, VaGot, VaPut, VaOct, VaMore, VaApp, VaAny, WiBase, WiPut, WiGet, WiCat, WiNums, WiRow, WiMath, WiBits, CatTwo.
-/
import Derived.Test.YtjcnfmmekpiliaaDoorRows
import Derived.WalkKit
import Derived.ProofKit
import Derived.Laws.Bits128
import Derived.Laws.BytesArg
import Derived.Test.YtjcnfmmekpiliaaDoorKitA
import Derived.Deep.QuietTactic
import Derived.BigQuiet
import Derived.Deep.Draws
import Derived.Laws.OwnMore
import Derived.Laws.CopyOwn
import Derived.OwnWalk
import Derived.Laws.MakeOwn
import Derived.Maps.AppendAt
import Derived.Lib.AppendZeros
import Derived.Lib.Hide
namespace Go.Proofs.YtjcnfmmekpiliaaDoor
open Go.ChangeShapes Go.WideShapes Go.ChangeAt Go.RowKit
set_option linter.unusedVariables false

/- Arith:
  Bits as remainders; the order of octets as of strings.
-/
/- VaBase:
  Plain contracts of package varint's small functions (Size, told, marked), for every argument: what each returns, the world as it was.
-/
/-- How many octets a number has. -/
def sizeN (n : Int) : Int := if n < 0 ∨ 1073741823 < n then 0 else if n ≤ 63 then 1 else if n ≤ 16383 then 2 else 4
/-- How many octets a first octet tells. -/
def toldN (x : Int) : Int := if x < 64 then 1 else if x < 128 then 2 else if x < 192 then 4 else 0

/-- The number that octets tell, the mark of the first one taken off. -/
def valN (x : Int) (ys : List Int) : Int := ys.foldl (fun a y => a * 256 + y) (x % 64)
/- VaGet:
  The contract of varint.Get, for every slice of octets.
-/
/-- The error of Get, the number and how many octets it has. -/
def getK (xs : List Int) : Nat := (toldN (xs.headD 192)).toNat
def getV (xs : List Int) : Int := valN (xs.headD 0) (xs.tail.take (getK xs - 1))
def getE (xs : List Int) : Int :=
  if xs.length = 0 then 1 else if getK xs = 0 then 2 else if xs.length < getK xs then 1 else if sizeN (getV xs) = getK xs then 0 else 2
/- VaGot:
  The contract of varint.Get in two halves, for every slice of octets: where it answers an error, and where it answers a number and the rest.
-/
/- VaPut:
  The contract of varint.Put, for every slice of octets and every number.
-/
/- VaOct:
  Octets in memory: a slice that reads as a list of octets, and as a string.
-/
/- VaMore:
  Put behind no octets, in one contract; plain facts on octets and strings.
-/
/- VaApp:
  Octets appended to a row of the call's own, whatever the slice that holds them (nil, empty or not).
-/
/- VaAny:
  What varint.Get and varint.Put answer, error or none, in one contract each; with and without the bounds of the capacity.
-/
def gotR (xs : List Int) : List Int := if getE xs = 0 then xs.drop (getK xs) else []
/- WiBase:
  Plain contracts of package wire's small functions (width, read, roomy, lay) and of PutNum, for every argument that they can get.
-/
/-- How many octets a number is given. -/
def widthK (k : Int) : Nat := if k < 1 then 1 else if 4 < k then 4 else k.toNat

/-- The number of octets, the highest first. -/
def numV (xs : List Int) : Int := xs.foldl (fun a y => a * 256 + y) 0
/- WiPut:
  Contracts of wire.roomy, wire.lay, wire.PutNum and wire.PutFlag, for every slice of octets and every number.
-/
/- WiGet:
  Contracts of wire.GetNum, wire.GetFlag and wire.GetBytes, for every slice of octets.
-/
/-- A number, the rest and an error are answered; nothing that was there has changed. -/
def GotInt (w : World) (B : Nat) (m : Int) (rs : List Int) (er : Int) (e : Ending) (w' : World) : Prop :=
  ∃ A n c, e = .returned (.tuple #[.int .i64 m, .slice A n c, .int .i64 er]) ∧ n ≤ c ∧ c ≤ maxLen ∧ Oct w' B A n rs ∧ Below w.heap.size w w'
/-- A flag, the rest and an error are answered; nothing that was there has changed. -/
def GotFlag (w : World) (B : Nat) (b : Bool) (rs : List Int) (er : Int) (e : Ending) (w' : World) : Prop :=
  ∃ A n c, e = .returned (.tuple #[.bool b, .slice A n c, .int .i64 er]) ∧ n ≤ c ∧ c ≤ maxLen ∧ Oct w' B A n rs ∧ Below w.heap.size w w'
/-- Octets, the rest and an error are answered; nothing that was there has changed. -/
def GotTwo (w : World) (B : Nat) (ps rs : List Int) (er : Int) (e : Ending) (w' : World) : Prop :=
  ∃ A1 n1 c1 A n c, e = .returned (.tuple #[.slice A1 n1 c1, .slice A n c, .int .i64 er]) ∧ n1 ≤ c1 ∧ c1 ≤ maxLen ∧ n ≤ c ∧ c ≤ maxLen ∧ Oct w' B A1 n1 ps ∧ Oct w' B A n rs ∧ Below w.heap.size w w'

def numE (xs : List Int) (k : Int) : Int := if xs.length < widthK k then 1 else 0
def numM (xs : List Int) (k : Int) : Int := if xs.length < widthK k then 0 else numV (xs.take (widthK k))
def numR (xs : List Int) (k : Int) : List Int := if xs.length < widthK k then [] else xs.drop (widthK k)

def flagE (xs : List Int) : Int := if xs.length = 0 then 1 else if 1 < xs.headD 0 then 2 else 0
def flagB (xs : List Int) : Bool := xs.headD 0 == 1
def flagR (xs : List Int) : List Int := if flagE xs = 0 then xs.drop 1 else []

def bytesE (xs : List Int) : Int := if getE xs ≠ 0 then getE xs else if 1048576 < getV xs then 4 else if ((gotR xs).length : Int) < getV xs then 1 else 0
def bytesP (xs : List Int) : List Int := if bytesE xs = 0 then (gotR xs).take (getV xs).toNat else []
def bytesR (xs : List Int) : List Int := if bytesE xs = 0 then (gotR xs).drop (getV xs).toNat else []

/- WiCat:
  Contracts of slices.Grow (of nil) and slices.Concat (of three slices of octets), which the program takes from Go's library, and of wire.PutBytes.
-/
/- WiNums:
  Contracts of wire.PutNums and wire.GetNums, for every list of numbers and every slice of octets.
-/
/-- The numbers of four octets each. -/
def fours (ps : List Int) : List Int := (List.range (ps.length / 4)).map fun i => numV ((ps.drop (4 * i)).take 4)
def numsE (xs : List Int) : Int := if bytesE xs ≠ 0 then bytesE xs else if (bytesP xs).length % 4 ≠ 0 then 2 else 0
def numsL (xs : List Int) : List Int := if numsE xs = 0 then fours (bytesP xs) else []
def numsR (xs : List Int) : List Int := if numsE xs = 0 then bytesR xs else []

/-- Numbers, the rest and an error are answered; nothing that was there has changed. -/
def GotNums (w : World) (B : Nat) (ls rs : List Int) (er : Int) (e : Ending) (w' : World) : Prop :=
  ∃ A1 n1 c1 A n c, e = .returned (.tuple #[.slice A1 n1 c1, .slice A n c, .int .i64 er]) ∧ n1 ≤ c1 ∧ c1 ≤ maxLen ∧ n ≤ c ∧ c ≤ maxLen ∧ Nums w' w'.heap.size A1 n1 ls ∧ Oct w' B A n rs ∧ Below w.heap.size w w'

/-- As GotNums; the numbers lie in a block that was not there. -/
def GotNumsF (w : World) (B : Nat) (ls rs : List Int) (er : Int) (e : Ending) (w' : World) : Prop :=
  ∃ A1 n1 c1 A n c, e = .returned (.tuple #[.slice A1 n1 c1, .slice A n c, .int .i64 er]) ∧ n1 ≤ c1 ∧ c1 ≤ maxLen ∧ n ≤ c ∧ c ≤ maxLen ∧ Nums w' w'.heap.size A1 n1 ls ∧ Oct w' B A n rs ∧ Below w.heap.size w w' ∧ ∀ p, A1 = some p → w.heap.size ≤ p.block
/- WiRow:
  Slices of numbers that came in, read as lists; small bounds.
-/
/- WiMath:
  Plain facts on the octets of layer 2: what is put is got, what is got was put, what is cut short is short.
-/
/- WiBits:
  The lowest bits of a number, as a remainder.
-/

/- CatTwo:
  Contracts of slices.Grow (of nil) and slices.Concat (of two slices of octets), which the program takes from Go's library.
-/
end Go.Proofs.YtjcnfmmekpiliaaDoor
