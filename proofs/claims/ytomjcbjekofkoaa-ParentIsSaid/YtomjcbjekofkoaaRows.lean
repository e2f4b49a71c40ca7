/-
  No cell of these rows narrows 'for every input' (looked for: loops, veiled, ifaces, maps, wideKeys, modest, calm, conditions, laid).
  DERIVED. THE GIVEN ROWS OF THIS SEAT. 6 by the template 'for every input the law returns true; each argument reads behind the call as it read before'; 0 by the template 'total and deterministic' (their statements: YtomjcbjekofkoaaTotals.lean).
  GIVEN WITH THE SEED: the statements are not yours to turn. If you find one false, say at which input.
  Laid BY PROGRAM, IN A SANDBOX (cutbox-rows.mjs): the forced cells as the released guide's own fill.sh prints them over the translation bd5aeb47df5346d9… (all of the seat's roots in one cut). By AI agents, Wed Nov 11 2026. No macro, syntax, notation, axiom, sorry.
-/
import Derived.Test.YtomjcbjekofkoaaChecked
import GoSem.Claim
import GoSem.ClaimJoined
import GoSem.ClaimMapViews
import Derived.JoinedTies
import Derived.KernelRfl
namespace Go.Proofs.Ytomjcbjekofkoaa
/- THE CELL 'sum', in the pinned program and in every row, IS THE sha256 OF THE DUMP (.gsa) THAT YtomjcbjekofkoaaProg.lean LOADS. Nothing in Lean hashes anything: it is a label: what it is worth is what the hold of that sum in a sandbox is worth. -/
noncomputable def Try.pinned : Pinned := { name := "ytomjcbjekofkoaa", sum := "bd5aeb47df5346d9e621d4b1df32b7876057a26fa01671b730a9778079f71cba", checked := Try.checked }
namespace Rows
def none {H : Type} : Left H := { results := [], args := [] }

/-- 'cordwoodlaw08.ParentIs': WHATEVER THE INPUT: true; the input reads as it did. -/
def parentIsSpec : ChangeSpec := { name := "parentIs", fn := fun _ => fun
  | [d1, d2, d3, d4] => { results := [.lit (.bool true)], args := [d1, d2, d3, d4] }
  | _ => none }
def parentIsRow : OpenClaim := { program := "ytomjcbjekofkoaa", sum := "bd5aeb47df5346d9e621d4b1df32b7876057a26fa01671b730a9778079f71cba", func := "cordwood/cordwoodlaw08.ParentIs", spec := "parentIs", unfollowed := true, recurses := true, apart := false }
def ParentIsSaid : Prop := parentIsRow.holds Try.pinned (OpenSpec.ofChange parentIsSpec)

/-- ITS FALSE NEIGHBOUR: 'it returns false'. Refute it at one input. -/
def parentIsWrong : ChangeSpec := { name := "parentIs", fn := fun _ => fun
  | [d1, d2, d3, d4] => { results := [.lit (.bool false)], args := [d1, d2, d3, d4] }
  | _ => none }
def ParentIsWrongFalsely : Prop := parentIsRow.holds Try.pinned (OpenSpec.ofChange parentIsWrong)

/-- 'cordwoodlaw08.ParentBack': WHATEVER THE INPUT: true; the input reads as it did. -/
def parentBackSpec : ChangeSpec := { name := "parentBack", fn := fun _ => fun
  | [d1, d2, d3] => { results := [.lit (.bool true)], args := [d1, d2, d3] }
  | _ => none }
def parentBackRow : OpenClaim := { program := "ytomjcbjekofkoaa", sum := "bd5aeb47df5346d9e621d4b1df32b7876057a26fa01671b730a9778079f71cba", func := "cordwood/cordwoodlaw08.ParentBack", spec := "parentBack", unfollowed := true, recurses := true, apart := false }
def ParentBackSaid : Prop := parentBackRow.holds Try.pinned (OpenSpec.ofChange parentBackSpec)

/-- ITS FALSE NEIGHBOUR: 'it returns false'. Refute it at one input. -/
def parentBackWrong : ChangeSpec := { name := "parentBack", fn := fun _ => fun
  | [d1, d2, d3] => { results := [.lit (.bool false)], args := [d1, d2, d3] }
  | _ => none }
def ParentBackWrongFalsely : Prop := parentBackRow.holds Try.pinned (OpenSpec.ofChange parentBackWrong)

/-- 'cordwoodlaw08.ParentOnly': WHATEVER THE INPUT: true; the input reads as it did. -/
def parentOnlySpec : ChangeSpec := { name := "parentOnly", fn := fun _ => fun
  | [d] => { results := [.lit (.bool true)], args := [d] }
  | _ => none }
def parentOnlyRow : OpenClaim := { program := "ytomjcbjekofkoaa", sum := "bd5aeb47df5346d9e621d4b1df32b7876057a26fa01671b730a9778079f71cba", func := "cordwood/cordwoodlaw08.ParentOnly", spec := "parentOnly", unfollowed := true, recurses := true, apart := false }
def ParentOnlySaid : Prop := parentOnlyRow.holds Try.pinned (OpenSpec.ofChange parentOnlySpec)

/-- ITS FALSE NEIGHBOUR: 'it returns false'. Refute it at one input. -/
def parentOnlyWrong : ChangeSpec := { name := "parentOnly", fn := fun _ => fun
  | [d] => { results := [.lit (.bool false)], args := [d] }
  | _ => none }
def ParentOnlyWrongFalsely : Prop := parentOnlyRow.holds Try.pinned (OpenSpec.ofChange parentOnlyWrong)

/-- 'cordwoodlaw08.ParentJoin': WHATEVER THE INPUT: true; the input reads as it did. -/
def parentJoinSpec : ChangeSpec := { name := "parentJoin", fn := fun _ => fun
  | [d1, d2, d3] => { results := [.lit (.bool true)], args := [d1, d2, d3] }
  | _ => none }
def parentJoinRow : OpenClaim := { program := "ytomjcbjekofkoaa", sum := "bd5aeb47df5346d9e621d4b1df32b7876057a26fa01671b730a9778079f71cba", func := "cordwood/cordwoodlaw08.ParentJoin", spec := "parentJoin", unfollowed := true, recurses := true, apart := false }
def ParentJoinSaid : Prop := parentJoinRow.holds Try.pinned (OpenSpec.ofChange parentJoinSpec)

/-- ITS FALSE NEIGHBOUR: 'it returns false'. Refute it at one input. -/
def parentJoinWrong : ChangeSpec := { name := "parentJoin", fn := fun _ => fun
  | [d1, d2, d3] => { results := [.lit (.bool false)], args := [d1, d2, d3] }
  | _ => none }
def ParentJoinWrongFalsely : Prop := parentJoinRow.holds Try.pinned (OpenSpec.ofChange parentJoinWrong)

/-- 'cordwoodlaw08.ParentCuts': WHATEVER THE INPUT: true; the input reads as it did. -/
def parentCutsSpec : ChangeSpec := { name := "parentCuts", fn := fun _ => fun
  | [d1, d2] => { results := [.lit (.bool true)], args := [d1, d2] }
  | _ => none }
def parentCutsRow : OpenClaim := { program := "ytomjcbjekofkoaa", sum := "bd5aeb47df5346d9e621d4b1df32b7876057a26fa01671b730a9778079f71cba", func := "cordwood/cordwoodlaw08.ParentCuts", spec := "parentCuts", unfollowed := true, recurses := true, apart := false }
def ParentCutsSaid : Prop := parentCutsRow.holds Try.pinned (OpenSpec.ofChange parentCutsSpec)

/-- ITS FALSE NEIGHBOUR: 'it returns false'. Refute it at one input. -/
def parentCutsWrong : ChangeSpec := { name := "parentCuts", fn := fun _ => fun
  | [d1, d2] => { results := [.lit (.bool false)], args := [d1, d2] }
  | _ => none }
def ParentCutsWrongFalsely : Prop := parentCutsRow.holds Try.pinned (OpenSpec.ofChange parentCutsWrong)

/-- 'cordwoodlaw08.ParentUnmerged': WHATEVER THE INPUT: true; the input reads as it did. -/
def parentUnmergedSpec : ChangeSpec := { name := "parentUnmerged", fn := fun _ => fun
  | [d1, d2] => { results := [.lit (.bool true)], args := [d1, d2] }
  | _ => none }
def parentUnmergedRow : OpenClaim := { program := "ytomjcbjekofkoaa", sum := "bd5aeb47df5346d9e621d4b1df32b7876057a26fa01671b730a9778079f71cba", func := "cordwood/cordwoodlaw08.ParentUnmerged", spec := "parentUnmerged", unfollowed := true, recurses := true, apart := false }
def ParentUnmergedSaid : Prop := parentUnmergedRow.holds Try.pinned (OpenSpec.ofChange parentUnmergedSpec)

/-- ITS FALSE NEIGHBOUR: 'it returns false'. Refute it at one input. -/
def parentUnmergedWrong : ChangeSpec := { name := "parentUnmerged", fn := fun _ => fun
  | [d1, d2] => { results := [.lit (.bool false)], args := [d1, d2] }
  | _ => none }
def ParentUnmergedWrongFalsely : Prop := parentUnmergedRow.holds Try.pinned (OpenSpec.ofChange parentUnmergedWrong)

/- THE SECOND FORM. 'bulk': how many values and letters a reading holds, each counted each time it is reached (what is shared counts as often as it is met; a slice's spare places count too). A statement '..UptoSaid' is the law's where the arguments, and the package variables that the reading takes, are together of bulk at most 1048576: NARROWER than '..Said'. Prove '..Said' where nothing that the law and all that it calls make is longer than what came in: it says more and counts as full. Else prove '..UptoSaid'. A law counts once. -/
mutual
def uptoBulk {H : Type} : DataW H → Nat
  | .lit (.string bytes) => bytes.length + 1
  | .lit _ => 1
  | .nil => 1
  | .ptr d => uptoBulk d + 1
  | .slice elems spare => uptoBulkAll elems + uptoBulkAll spare + 1
  | .agg parts => uptoBulkAll parts + 1
  | .iface _ d => uptoBulk d + 1
  | .map entries => uptoBulkEntries entries + 1
  | .held _ => 1
def uptoBulkAll {H : Type} : List (DataW H) → Nat
  | [] => 0
  | d :: r => uptoBulk d + uptoBulkAll r
def uptoBulkEntries {H : Type} : List (Lit × DataW H) → Nat
  | [] => 0
  | x :: r => uptoBulkEntry x + uptoBulkEntries r
def uptoBulkEntry {H : Type} : Lit × DataW H → Nat
  | (.string bytes, d) => bytes.length + uptoBulk d + 1
  | (_, d) => uptoBulk d + 1
 end
def uptoSmall : (H : Type) → List (DataW H) → Bool := fun _ ds => decide (uptoBulkAll ds ≤ 1048576)
def OpenSpec.upto (s : _root_.Go.ChangeSpec) : _root_.Go.OpenSpec := { _root_.Go.OpenSpec.ofChange s with cond := some uptoSmall }

/-- 'cordwoodlaw08.ParentIs', WHERE WHAT IT READS IS OF BULK AT MOST 1048576: true; the input reads as it did. -/
def parentIsUptoRow : OpenClaim := { program := "ytomjcbjekofkoaa", sum := "bd5aeb47df5346d9e621d4b1df32b7876057a26fa01671b730a9778079f71cba", func := "cordwood/cordwoodlaw08.ParentIs", spec := "parentIs", unfollowed := true, recurses := true, apart := false, narrowed := true }
def ParentIsUptoSaid : Prop := parentIsUptoRow.holds Try.pinned (OpenSpec.upto parentIsSpec)

/-- 'cordwoodlaw08.ParentBack', WHERE WHAT IT READS IS OF BULK AT MOST 1048576: true; the input reads as it did. -/
def parentBackUptoRow : OpenClaim := { program := "ytomjcbjekofkoaa", sum := "bd5aeb47df5346d9e621d4b1df32b7876057a26fa01671b730a9778079f71cba", func := "cordwood/cordwoodlaw08.ParentBack", spec := "parentBack", unfollowed := true, recurses := true, apart := false, narrowed := true }
def ParentBackUptoSaid : Prop := parentBackUptoRow.holds Try.pinned (OpenSpec.upto parentBackSpec)

/-- 'cordwoodlaw08.ParentOnly', WHERE WHAT IT READS IS OF BULK AT MOST 1048576: true; the input reads as it did. -/
def parentOnlyUptoRow : OpenClaim := { program := "ytomjcbjekofkoaa", sum := "bd5aeb47df5346d9e621d4b1df32b7876057a26fa01671b730a9778079f71cba", func := "cordwood/cordwoodlaw08.ParentOnly", spec := "parentOnly", unfollowed := true, recurses := true, apart := false, narrowed := true }
def ParentOnlyUptoSaid : Prop := parentOnlyUptoRow.holds Try.pinned (OpenSpec.upto parentOnlySpec)

/-- 'cordwoodlaw08.ParentJoin', WHERE WHAT IT READS IS OF BULK AT MOST 1048576: true; the input reads as it did. -/
def parentJoinUptoRow : OpenClaim := { program := "ytomjcbjekofkoaa", sum := "bd5aeb47df5346d9e621d4b1df32b7876057a26fa01671b730a9778079f71cba", func := "cordwood/cordwoodlaw08.ParentJoin", spec := "parentJoin", unfollowed := true, recurses := true, apart := false, narrowed := true }
def ParentJoinUptoSaid : Prop := parentJoinUptoRow.holds Try.pinned (OpenSpec.upto parentJoinSpec)

/-- 'cordwoodlaw08.ParentCuts', WHERE WHAT IT READS IS OF BULK AT MOST 1048576: true; the input reads as it did. -/
def parentCutsUptoRow : OpenClaim := { program := "ytomjcbjekofkoaa", sum := "bd5aeb47df5346d9e621d4b1df32b7876057a26fa01671b730a9778079f71cba", func := "cordwood/cordwoodlaw08.ParentCuts", spec := "parentCuts", unfollowed := true, recurses := true, apart := false, narrowed := true }
def ParentCutsUptoSaid : Prop := parentCutsUptoRow.holds Try.pinned (OpenSpec.upto parentCutsSpec)

/-- 'cordwoodlaw08.ParentUnmerged', WHERE WHAT IT READS IS OF BULK AT MOST 1048576: true; the input reads as it did. -/
def parentUnmergedUptoRow : OpenClaim := { program := "ytomjcbjekofkoaa", sum := "bd5aeb47df5346d9e621d4b1df32b7876057a26fa01671b730a9778079f71cba", func := "cordwood/cordwoodlaw08.ParentUnmerged", spec := "parentUnmerged", unfollowed := true, recurses := true, apart := false, narrowed := true }
def ParentUnmergedUptoSaid : Prop := parentUnmergedUptoRow.holds Try.pinned (OpenSpec.upto parentUnmergedSpec)

end Rows
end Go.Proofs.Ytomjcbjekofkoaa
