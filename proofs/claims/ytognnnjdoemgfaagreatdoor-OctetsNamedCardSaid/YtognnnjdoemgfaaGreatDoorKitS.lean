/-
  KitS: ShBase, ShSmall, ShCut, ShProg, ShRefW, ShRef, HsSum.
-/
import Derived.Test.YtognnnjdoemgfaaGreatDoorKitA
import Derived.Test.YtognnnjdoemgfaaGreatDoorKitB
import Derived.Test.YtognnnjdoemgfaaGreatDoorKitV
namespace Go.Proofs.YtognnnjdoemgfaaGreatDoor
open Go.ChangeShapes Go.WideShapes Go.ChangeAt Go.RowKit
set_option linter.unusedVariables false

/- ShBase:
  States of a sum as values; what the chapter's functions answer, as plain functions.
-/
/-- What a state says. -/
structure S where
 h:Nat→BitVec 32
 b:List Int
 n:Int
def S.new:S:=⟨firstF,[],0⟩
def S.ok (s:S):Prop:=s.b.length<64∧0≤s.n∧s.n≤1125899906842624
instance (s:S):Decidable s.ok:=inferInstanceAs (Decidable (_∧_))
def S.as (s:S):S:=if s.ok then s else S.new
def blkS (xs:List Int) (t:Nat):Nat→BitVec 8:=fun i=>toB (xs.getD (64*t+i) 0)
def fold (h:Nat→BitVec 32) (xs:List Int):Nat→Nat→BitVec 32
 | 0=>h
 | t+1=>mixF (fold h xs t) (blkS xs t)
def hOf (h:Nat→BitVec 32) (xs:List Int):Nat→BitVec 32:=fold h xs (xs.length / 64)
def rest (xs:List Int):List Int:=xs.drop (64*(xs.length / 64))
def S.wr (s:S) (ys:List Int):S :=
 if s.as.n+ys.length>1125899906842624 then S.new else ⟨hOf s.as.h (s.as.b++ys),rest (s.as.b++ys),s.as.n+ys.length⟩
def be4 (x:BitVec 32):List Int:=[vb ((x >>> 24).setWidth 8),vb ((x >>> 16).setWidth 8),vb ((x >>> 8).setWidth 8),vb (x.setWidth 8)]
def outF (h:Nat→BitVec 32):Nat→List Int
 | 0=>[]
 | i+1=>outF h i++be4 (h i)
def be8 (n:Int):Nat→List Int
 | 0=>[]
 | i+1=>be8 n i++[n / 2 ^ (8*(7-i)) % 256]
def zeroN (n:Int):Nat:=((64-(n+9) % 64) % 64).toNat
def padL (n:Int):List Int:=if 0≤n∧n≤1125899906842624 then 128::(List.replicate (zeroN n) 0++be8 (n*8) 8) else []
def S.done (s:S):List Int:=outF (s.as.wr (padL s.as.n)).h 8
def sumL (xs:List Int):List Int:=(S.new.wr xs).done

/- ShSmall:
  Contracts of the small functions of the sum and of the document: new states, what a state counts as, states handed on.
-/
set_option maxRecDepth 20000
/- ShCut:
  Contracts of how blocks are handed on and mixed in.
-/
set_option maxRecDepth 20000
/- ShProg:
  Contracts of the sum's exported functions.
-/
set_option maxRecDepth 20000
/- ShRefW:
  The document's Write.
-/
set_option maxRecDepth 20000
/- ShRef:
  The document's Pad, Done, Sum and Same.
-/
set_option maxRecDepth 20000
/- HsSum:
  The two sums of octets: what they answer, and where it lies.
-/
set_option maxRecDepth 20000
/-- It lies in a row of octets. -/
def U8 (w:World) (A:Option Addr):Prop:=∀ p,A=some p→∃ cs,w.heap[p.block]?=some (.cells cs 5 (0,0))
/-- It lies in memory from a on. -/
def FrA (a:Nat) (A:Option Addr):Prop:=∀ p,A=some p→a≤p.block
theorem FrA.le {a b:Nat} {A:Option Addr} (h:FrA a A) (e:b≤a):FrA b A:=fun p q=>Nat.le_trans e (h p q)
/-- Octets of one's own, in a row of octets. -/
def SlT (w:World) (xs:List Int) (v:Value) (w':World):Prop :=
 ∃ A m c,v=.slice A m c∧m≤c∧(c≤maxLen∧U8 w' A∧FrA w.heap.size A)∧Oct w' w'.heap.size A m xs∧Below w.heap.size w w'
end Go.Proofs.YtognnnjdoemgfaaGreatDoor
