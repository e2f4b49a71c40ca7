/-
  No cell of these rows narrows 'for every input' (looked for: loops, veiled, ifaces, maps, wideKeys, modest, calm, conditions, laid).
  DERIVED. THE GIVEN ROWS OF THIS SEAT. 4 by the template 'for every input the law returns true; each argument reads behind the call as it read before'; 0 by the template 'total and deterministic' (their statements: YtpoonjgkgaodmaaTotals.lean).
  GIVEN WITH THE SEED: the statements are not yours to turn. If you find one false, say at which input.
  Laid BY PROGRAM, IN A SANDBOX (cutbox-rows.mjs): the forced cells as the released guide's own fill.sh prints them over the translation 08107e1deafe7294… (all of the seat's roots in one cut). By AI agents, Wed Nov 11 2026. No macro, syntax, notation, axiom, sorry.
-/
import Derived.Test.YtpoonjgkgaodmaaChecked
import GoSem.Claim
import GoSem.ClaimJoined
import GoSem.ClaimMapViews
import Derived.JoinedTies
import Derived.KernelRfl
namespace Go.Proofs.Ytpoonjgkgaodmaa
/- THE CELL 'sum', in the pinned program and in every row, IS THE sha256 OF THE DUMP (.gsa) THAT YtpoonjgkgaodmaaProg.lean LOADS. Nothing in Lean hashes anything: it is a label: what it is worth is what the hold of that sum in a sandbox is worth. -/
noncomputable def Try.pinned : Pinned := { name := "ytpoonjgkgaodmaa", sum := "08107e1deafe7294a4070493da952eb8c386533c83e4287cb0c3a5c54780e4ef", checked := Try.checked }
namespace Rows
def none {H : Type} : Left H := { results := [], args := [] }

/-- 'cordwoodlaw10.ShapeTrims': WHATEVER THE INPUT: true; the input reads as it did. -/
def shapeTrimsSpec : ChangeSpec := { name := "shapeTrims", fn := fun _ => fun
  | [d] => { results := [.lit (.bool true)], args := [d] }
  | _ => none }
def shapeTrimsRow : OpenClaim := { program := "ytpoonjgkgaodmaa", sum := "08107e1deafe7294a4070493da952eb8c386533c83e4287cb0c3a5c54780e4ef", func := "cordwood/cordwoodlaw10.ShapeTrims", spec := "shapeTrims", unfollowed := true, recurses := true, apart := false }
def ShapeTrimsSaid : Prop := shapeTrimsRow.holds Try.pinned (OpenSpec.ofChange shapeTrimsSpec)

/-- ITS FALSE NEIGHBOUR: 'it returns false'. Refute it at one input. -/
def shapeTrimsWrong : ChangeSpec := { name := "shapeTrims", fn := fun _ => fun
  | [d] => { results := [.lit (.bool false)], args := [d] }
  | _ => none }
def ShapeTrimsWrongFalsely : Prop := shapeTrimsRow.holds Try.pinned (OpenSpec.ofChange shapeTrimsWrong)

/-- 'cordwoodlaw10.ShapeFree': WHATEVER THE INPUT: true; the input reads as it did. -/
def shapeFreeSpec : ChangeSpec := { name := "shapeFree", fn := fun _ => fun
  | [d1, d2] => { results := [.lit (.bool true)], args := [d1, d2] }
  | _ => none }
def shapeFreeRow : OpenClaim := { program := "ytpoonjgkgaodmaa", sum := "08107e1deafe7294a4070493da952eb8c386533c83e4287cb0c3a5c54780e4ef", func := "cordwood/cordwoodlaw10.ShapeFree", spec := "shapeFree", unfollowed := true, recurses := true, apart := false }
def ShapeFreeSaid : Prop := shapeFreeRow.holds Try.pinned (OpenSpec.ofChange shapeFreeSpec)

/-- ITS FALSE NEIGHBOUR: 'it returns false'. Refute it at one input. -/
def shapeFreeWrong : ChangeSpec := { name := "shapeFree", fn := fun _ => fun
  | [d1, d2] => { results := [.lit (.bool false)], args := [d1, d2] }
  | _ => none }
def ShapeFreeWrongFalsely : Prop := shapeFreeRow.holds Try.pinned (OpenSpec.ofChange shapeFreeWrong)

/-- 'cordwoodlaw10.ShapeSets': WHATEVER THE INPUT: true; the input reads as it did. -/
def shapeSetsSpec : ChangeSpec := { name := "shapeSets", fn := fun _ => fun
  | [d1, d2, d3, d4, d5] => { results := [.lit (.bool true)], args := [d1, d2, d3, d4, d5] }
  | _ => none }
def shapeSetsRow : OpenClaim := { program := "ytpoonjgkgaodmaa", sum := "08107e1deafe7294a4070493da952eb8c386533c83e4287cb0c3a5c54780e4ef", func := "cordwood/cordwoodlaw10.ShapeSets", spec := "shapeSets", unfollowed := true, recurses := true, apart := false }
def ShapeSetsSaid : Prop := shapeSetsRow.holds Try.pinned (OpenSpec.ofChange shapeSetsSpec)

/-- ITS FALSE NEIGHBOUR: 'it returns false'. Refute it at one input. -/
def shapeSetsWrong : ChangeSpec := { name := "shapeSets", fn := fun _ => fun
  | [d1, d2, d3, d4, d5] => { results := [.lit (.bool false)], args := [d1, d2, d3, d4, d5] }
  | _ => none }
def ShapeSetsWrongFalsely : Prop := shapeSetsRow.holds Try.pinned (OpenSpec.ofChange shapeSetsWrong)

/-- 'cordwoodlaw10.ShapeGrows': WHATEVER THE INPUT: true; the input reads as it did. -/
def shapeGrowsSpec : ChangeSpec := { name := "shapeGrows", fn := fun _ => fun
  | [d] => { results := [.lit (.bool true)], args := [d] }
  | _ => none }
def shapeGrowsRow : OpenClaim := { program := "ytpoonjgkgaodmaa", sum := "08107e1deafe7294a4070493da952eb8c386533c83e4287cb0c3a5c54780e4ef", func := "cordwood/cordwoodlaw10.ShapeGrows", spec := "shapeGrows", unfollowed := true, recurses := true, apart := false }
def ShapeGrowsSaid : Prop := shapeGrowsRow.holds Try.pinned (OpenSpec.ofChange shapeGrowsSpec)

/-- ITS FALSE NEIGHBOUR: 'it returns false'. Refute it at one input. -/
def shapeGrowsWrong : ChangeSpec := { name := "shapeGrows", fn := fun _ => fun
  | [d] => { results := [.lit (.bool false)], args := [d] }
  | _ => none }
def ShapeGrowsWrongFalsely : Prop := shapeGrowsRow.holds Try.pinned (OpenSpec.ofChange shapeGrowsWrong)

/- THE SECOND FORM. 'bulk': how many values and letters a reading holds, each counted each time it is reached (what is shared counts as often as it is met; a slice's spare places count too). A statement '..UptoSaid' is the law's where the arguments, and the package variables that the reading takes, are together of bulk at most 1048576: NARROWER than '..Said'. Prove '..Said' where nothing that the law and all that it calls make is longer than what came in: it says more and counts as full. Else prove '..UptoSaid'. A law counts once. -/
mutual
def uptoBulk {H : Type} : DataW H → Nat
  | .lit (.string bytes) => bytes.length + 1
  | .lit _ => 1
  | .nil => 1
  | .ptr d => uptoBulk d + 1
  | .slice elems spare => uptoBulkAll elems + uptoBulkAll spare + 1
  | .agg parts => uptoBulkAll parts + 1
  | .iface _ d => uptoBulk d + 1
  | .map entries => uptoBulkEntries entries + 1
  | .held _ => 1
def uptoBulkAll {H : Type} : List (DataW H) → Nat
  | [] => 0
  | d :: r => uptoBulk d + uptoBulkAll r
def uptoBulkEntries {H : Type} : List (Lit × DataW H) → Nat
  | [] => 0
  | x :: r => uptoBulkEntry x + uptoBulkEntries r
def uptoBulkEntry {H : Type} : Lit × DataW H → Nat
  | (.string bytes, d) => bytes.length + uptoBulk d + 1
  | (_, d) => uptoBulk d + 1
 end
def uptoSmall : (H : Type) → List (DataW H) → Bool := fun _ ds => decide (uptoBulkAll ds ≤ 1048576)
def OpenSpec.upto (s : _root_.Go.ChangeSpec) : _root_.Go.OpenSpec := { _root_.Go.OpenSpec.ofChange s with cond := some uptoSmall }

/-- 'cordwoodlaw10.ShapeTrims', WHERE WHAT IT READS IS OF BULK AT MOST 1048576: true; the input reads as it did. -/
def shapeTrimsUptoRow : OpenClaim := { program := "ytpoonjgkgaodmaa", sum := "08107e1deafe7294a4070493da952eb8c386533c83e4287cb0c3a5c54780e4ef", func := "cordwood/cordwoodlaw10.ShapeTrims", spec := "shapeTrims", unfollowed := true, recurses := true, apart := false, narrowed := true }
def ShapeTrimsUptoSaid : Prop := shapeTrimsUptoRow.holds Try.pinned (OpenSpec.upto shapeTrimsSpec)

/-- 'cordwoodlaw10.ShapeFree', WHERE WHAT IT READS IS OF BULK AT MOST 1048576: true; the input reads as it did. -/
def shapeFreeUptoRow : OpenClaim := { program := "ytpoonjgkgaodmaa", sum := "08107e1deafe7294a4070493da952eb8c386533c83e4287cb0c3a5c54780e4ef", func := "cordwood/cordwoodlaw10.ShapeFree", spec := "shapeFree", unfollowed := true, recurses := true, apart := false, narrowed := true }
def ShapeFreeUptoSaid : Prop := shapeFreeUptoRow.holds Try.pinned (OpenSpec.upto shapeFreeSpec)

/-- 'cordwoodlaw10.ShapeSets', WHERE WHAT IT READS IS OF BULK AT MOST 1048576: true; the input reads as it did. -/
def shapeSetsUptoRow : OpenClaim := { program := "ytpoonjgkgaodmaa", sum := "08107e1deafe7294a4070493da952eb8c386533c83e4287cb0c3a5c54780e4ef", func := "cordwood/cordwoodlaw10.ShapeSets", spec := "shapeSets", unfollowed := true, recurses := true, apart := false, narrowed := true }
def ShapeSetsUptoSaid : Prop := shapeSetsUptoRow.holds Try.pinned (OpenSpec.upto shapeSetsSpec)

/-- 'cordwoodlaw10.ShapeGrows', WHERE WHAT IT READS IS OF BULK AT MOST 1048576: true; the input reads as it did. -/
def shapeGrowsUptoRow : OpenClaim := { program := "ytpoonjgkgaodmaa", sum := "08107e1deafe7294a4070493da952eb8c386533c83e4287cb0c3a5c54780e4ef", func := "cordwood/cordwoodlaw10.ShapeGrows", spec := "shapeGrows", unfollowed := true, recurses := true, apart := false, narrowed := true }
def ShapeGrowsUptoSaid : Prop := shapeGrowsUptoRow.holds Try.pinned (OpenSpec.upto shapeGrowsSpec)

end Rows
end Go.Proofs.Ytpoonjgkgaodmaa
