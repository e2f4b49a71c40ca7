/-
  KitB: BlSmall, BlRule, BlStep, BlSpread, BlMix, BlMore, BlRef.
-/
import Derived.Test.YtognnnjdoemgfaaGreatDoorKitA
import Derived.Lib.Hide
namespace Go.Proofs.YtognnnjdoemgfaaGreatDoor
open Go.ChangeShapes Go.WideShapes Go.ChangeAt Go.RowKit
set_option linter.unusedVariables false

/- BlSmall:
  Contracts of block's small functions, and of the document's, on any words.
-/
/-- A word whose lowest n bits go to the top. -/
def tw (n:Nat) (x:BitVec 32):BitVec 32:=x >>> n ||| x <<< (32-n)
def chw (e f g:BitVec 32):BitVec 32:=e &&& f ||| ~~~e &&& g
def mjw (a b c:BitVec 32):BitVec 32:=a &&& b ||| a &&& c ||| b &&& c
def wd (i j k l:BitVec 8):BitVec 32:=i.setWidth 32 <<< 24 ||| j.setWidth 32 <<< 16 ||| k.setWidth 32 <<< 8 ||| l.setWidth 32
/- BlRule:
  The types of this program; the pure functions of the chapter.
-/
-- the same for this program
-- the chapter's functions
def st8 (a b c d e f g z:BitVec 32):Nat→BitVec 32
 | 0=>a | 1=>b | 2=>c | 3=>d | 4=>e | 5=>f | 6=>g | _=>z
def bigE (e:BitVec 32):BitVec 32:=tw 6 e ^^^ tw 11 e ^^^ tw 25 e
def bigA (a:BitVec 32):BitVec 32:=tw 2 a ^^^ tw 13 a ^^^ tw 22 a
def lowX (x:BitVec 32):BitVec 32:=tw 7 x ^^^ tw 18 x ^^^ x >>> 3
def lowY (y:BitVec 32):BitVec 32:=tw 17 y ^^^ tw 19 y ^^^ y >>> 10
def pP (h:Nat→BitVec 32) (nw:BitVec 32):BitVec 32:=h 7+bigE (h 4)+chw (h 4) (h 5) (h 6)+nw
def pQ (h:Nat→BitVec 32):BitVec 32:=bigA (h 0)+mjw (h 0) (h 1) (h 2)
def stepF (h:Nat→BitVec 32) (nw:BitVec 32):Nat→BitVec 32:=st8 (pP h nw+pQ h) (h 0) (h 1) (h 2) (h 3+pP h nw) (h 4) (h 5) (h 6)
def w4 (b:Nat→BitVec 8) (t:Nat):BitVec 32:=wd (b (4*t)) (b (4*t+1)) (b (4*t+2)) (b (4*t+3))
def head (b:Nat→BitVec 8):Nat→Nat→BitVec 32
 | 0=>fun _=>0
 | t+1=>upd (head b t) t (w4 b t)
def nxw (W:Nat→BitVec 32) (t:Nat):BitVec 32:=W (t-16)+lowX (W (t-15))+W (t-7)+lowY (W (t-2))
def tailF (b:Nat→BitVec 8):Nat→Nat→BitVec 32
 | 0=>head b 16
 | k+1=>upd (tailF b k) (16+k) (nxw (tailF b k) (16+k))
def spr (b:Nat→BitVec 8):Nat→BitVec 32:=tailF b 48
def tabNumsL:List Nat:=[1116352408,1899447441,3049323471,3921009573,961987163,1508970993,2453635748,2870763221,3624381080,310598401,607225278,1426881987,1925078388,2162078206,2614888103,3248222580,3835390401,4022224774,264347078,604807628,770255983,1249150122,1555081692,1996064986,2554220882,2821834349,2952996808,3210313671,3336571891,3584528711,113926993,338241895,666307205,773529912,1294757372,1396182291,1695183700,1986661051,2177026350,2456956037,2730485921,2820302411,3259730800,3345764771,3516065817,3600352804,4094571909,275423344,430227734,506948616,659060556,883997877,958139571,1322822218,1537002063,1747873779,1955562222,2024104815,2227730452,2361852424,2428436474,2756734187,3204031479,3329325298]
def num (t:Nat):BitVec 32:=BitVec.ofNat 32 (tabNumsL.getD t 0)
def vF (h:Nat→BitVec 32) (b:Nat→BitVec 8):Nat→Nat→BitVec 32
 | 0=>h
 | t+1=>stepF (vF h b t) (num t+spr b t)
def mixF (h:Nat→BitVec 32) (b:Nat→BitVec 8):Nat→BitVec 32:=fun i=>h i+vF h b 64 i
def firstF:Nat→BitVec 32:=st8 1779033703 3144134277 1013904242 2773480762 1359893119 2600822924 528734635 1541459225
/- BlStep:
  The contract of one of the sixty-four steps.
-/
set_option maxRecDepth 20000
/- BlSpread:
  The contract of Spread.
-/
set_option maxRecDepth 20000
/- BlMix:
  The contract of Mix.
-/
set_option maxRecDepth 20000
/- BlMore:
  More facts on the types of this program; words of four octets.
-/
/- BlRef:
  The contracts of First, and of the answers of the document.
-/
set_option maxRecDepth 20000
end Go.Proofs.YtognnnjdoemgfaaGreatDoor
