/-
  Octets in memory: a slice that reads as a list of octets, and as a string.
-/
import Derived.Test.YtakbbenegojcdaaVaPut
import Derived.Laws.BytesArg
import Derived.Test.YtakbbenegojcdaaStr
namespace Go.Proofs.Ytakbbenegojcdaa
open Go.ChangeShapes Go.WideShapes Go.ChangeAt Go.RowKit
set_option linter.unusedVariables false

/-- What Get answers where octets begin with a number, the world told by 'Below' alone. -/
def GotSome (w : World) (B n c k : Nat) (m : Int) (ys : List Int) (e : Ending) (w' : World) : Prop :=
  ∃ A', e = .returned (.tuple #[.int .i64 m, .slice A' (n - k) (c - k), .int .i64 0]) ∧ Oct w' B A' (n - k) ys ∧ Below w.heap.size w w'

theorem get_some (A : Option Addr) (n c B : Nat) (xs : List Int) (w : World) (hO : Oct w B A n xs) (hnc : n ≤ c) (hcm : c ≤ maxLen) (hE : getE xs = 0) :
    Calls Try.prog 33 #[.slice A n c] w (GotSome w B n c (getK xs) (getV xs) (xs.drop (getK xs))) :=
  (get_good A n c B xs w hO hnc hcm hE).mono fun _ _ ⟨A', he, h, d, hd⟩ => by
    subst hd
    exact ⟨A', he, h.drewN d, below_of_drewN w d⟩

end Go.Proofs.Ytakbbenegojcdaa
