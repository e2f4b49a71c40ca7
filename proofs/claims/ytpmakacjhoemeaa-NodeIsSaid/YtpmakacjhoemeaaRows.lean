/-
  No cell of these rows narrows 'for every input' (looked for: loops, veiled, ifaces, maps, wideKeys, modest, calm, conditions, laid).
  DERIVED. THE GIVEN ROWS OF THIS SEAT. 6 by the template 'for every input the law returns true; each argument reads behind the call as it read before'; 0 by the template 'total and deterministic' (their statements: YtpmakacjhoemeaaTotals.lean).
  GIVEN WITH THE SEED: the statements are not yours to turn. If you find one false, say at which input.
  Laid BY PROGRAM, IN A SANDBOX (cutbox-rows.mjs): the forced cells as the released guide's own fill.sh prints them over the translation 5dcf44b3c8ecfa24… (all of the seat's roots in one cut). By AI agents, Wed Nov 11 2026. No macro, syntax, notation, axiom, sorry.
-/
import Derived.Test.YtpmakacjhoemeaaChecked
import GoSem.Claim
import GoSem.ClaimJoined
import GoSem.ClaimMapViews
import Derived.JoinedTies
import Derived.KernelRfl
namespace Go.Proofs.Ytpmakacjhoemeaa
/- THE CELL 'sum', in the pinned program and in every row, IS THE sha256 OF THE DUMP (.gsa) THAT YtpmakacjhoemeaaProg.lean LOADS. Nothing in Lean hashes anything: it is a label: what it is worth is what the hold of that sum in a sandbox is worth. -/
noncomputable def Try.pinned : Pinned := { name := "ytpmakacjhoemeaa", sum := "5dcf44b3c8ecfa24fb76b548082c3981ff8ffc4fbfde6bfc44830b73cf746b8b", checked := Try.checked }
namespace Rows
def none {H : Type} : Left H := { results := [], args := [] }

/-- 'cordwoodlaw09.NodeIs': WHATEVER THE INPUT: true; the input reads as it did. -/
def nodeIsSpec : ChangeSpec := { name := "nodeIs", fn := fun _ => fun
  | [d1, d2, d3, d4, d5] => { results := [.lit (.bool true)], args := [d1, d2, d3, d4, d5] }
  | _ => none }
def nodeIsRow : OpenClaim := { program := "ytpmakacjhoemeaa", sum := "5dcf44b3c8ecfa24fb76b548082c3981ff8ffc4fbfde6bfc44830b73cf746b8b", func := "cordwood/cordwoodlaw09.NodeIs", spec := "nodeIs", unfollowed := true, recurses := true, apart := false }
def NodeIsSaid : Prop := nodeIsRow.holds Try.pinned (OpenSpec.ofChange nodeIsSpec)

/-- ITS FALSE NEIGHBOUR: 'it returns false'. Refute it at one input. -/
def nodeIsWrong : ChangeSpec := { name := "nodeIs", fn := fun _ => fun
  | [d1, d2, d3, d4, d5] => { results := [.lit (.bool false)], args := [d1, d2, d3, d4, d5] }
  | _ => none }
def NodeIsWrongFalsely : Prop := nodeIsRow.holds Try.pinned (OpenSpec.ofChange nodeIsWrong)

/-- 'cordwoodlaw09.NodeBack': WHATEVER THE INPUT: true; the input reads as it did. -/
def nodeBackSpec : ChangeSpec := { name := "nodeBack", fn := fun _ => fun
  | [d1, d2, d3] => { results := [.lit (.bool true)], args := [d1, d2, d3] }
  | _ => none }
def nodeBackRow : OpenClaim := { program := "ytpmakacjhoemeaa", sum := "5dcf44b3c8ecfa24fb76b548082c3981ff8ffc4fbfde6bfc44830b73cf746b8b", func := "cordwood/cordwoodlaw09.NodeBack", spec := "nodeBack", unfollowed := true, recurses := true, apart := false }
def NodeBackSaid : Prop := nodeBackRow.holds Try.pinned (OpenSpec.ofChange nodeBackSpec)

/-- ITS FALSE NEIGHBOUR: 'it returns false'. Refute it at one input. -/
def nodeBackWrong : ChangeSpec := { name := "nodeBack", fn := fun _ => fun
  | [d1, d2, d3] => { results := [.lit (.bool false)], args := [d1, d2, d3] }
  | _ => none }
def NodeBackWrongFalsely : Prop := nodeBackRow.holds Try.pinned (OpenSpec.ofChange nodeBackWrong)

/-- 'cordwoodlaw09.NodeOnly': WHATEVER THE INPUT: true; the input reads as it did. -/
def nodeOnlySpec : ChangeSpec := { name := "nodeOnly", fn := fun _ => fun
  | [d] => { results := [.lit (.bool true)], args := [d] }
  | _ => none }
def nodeOnlyRow : OpenClaim := { program := "ytpmakacjhoemeaa", sum := "5dcf44b3c8ecfa24fb76b548082c3981ff8ffc4fbfde6bfc44830b73cf746b8b", func := "cordwood/cordwoodlaw09.NodeOnly", spec := "nodeOnly", unfollowed := true, recurses := true, apart := false }
def NodeOnlySaid : Prop := nodeOnlyRow.holds Try.pinned (OpenSpec.ofChange nodeOnlySpec)

/-- ITS FALSE NEIGHBOUR: 'it returns false'. Refute it at one input. -/
def nodeOnlyWrong : ChangeSpec := { name := "nodeOnly", fn := fun _ => fun
  | [d] => { results := [.lit (.bool false)], args := [d] }
  | _ => none }
def NodeOnlyWrongFalsely : Prop := nodeOnlyRow.holds Try.pinned (OpenSpec.ofChange nodeOnlyWrong)

/-- 'cordwoodlaw09.NodeApart': WHATEVER THE INPUT: true; the input reads as it did. -/
def nodeApartSpec : ChangeSpec := { name := "nodeApart", fn := fun _ => fun
  | [d1, d2, d3, d4, d5, d6] => { results := [.lit (.bool true)], args := [d1, d2, d3, d4, d5, d6] }
  | _ => none }
def nodeApartRow : OpenClaim := { program := "ytpmakacjhoemeaa", sum := "5dcf44b3c8ecfa24fb76b548082c3981ff8ffc4fbfde6bfc44830b73cf746b8b", func := "cordwood/cordwoodlaw09.NodeApart", spec := "nodeApart", unfollowed := true, recurses := true, apart := false }
def NodeApartSaid : Prop := nodeApartRow.holds Try.pinned (OpenSpec.ofChange nodeApartSpec)

/-- ITS FALSE NEIGHBOUR: 'it returns false'. Refute it at one input. -/
def nodeApartWrong : ChangeSpec := { name := "nodeApart", fn := fun _ => fun
  | [d1, d2, d3, d4, d5, d6] => { results := [.lit (.bool false)], args := [d1, d2, d3, d4, d5, d6] }
  | _ => none }
def NodeApartWrongFalsely : Prop := nodeApartRow.holds Try.pinned (OpenSpec.ofChange nodeApartWrong)

/-- 'cordwoodlaw09.NodeTwo': WHATEVER THE INPUT: true; the input reads as it did. -/
def nodeTwoSpec : ChangeSpec := { name := "nodeTwo", fn := fun _ => fun
  | [d] => { results := [.lit (.bool true)], args := [d] }
  | _ => none }
def nodeTwoRow : OpenClaim := { program := "ytpmakacjhoemeaa", sum := "5dcf44b3c8ecfa24fb76b548082c3981ff8ffc4fbfde6bfc44830b73cf746b8b", func := "cordwood/cordwoodlaw09.NodeTwo", spec := "nodeTwo", unfollowed := true, recurses := true, apart := false }
def NodeTwoSaid : Prop := nodeTwoRow.holds Try.pinned (OpenSpec.ofChange nodeTwoSpec)

/-- ITS FALSE NEIGHBOUR: 'it returns false'. Refute it at one input. -/
def nodeTwoWrong : ChangeSpec := { name := "nodeTwo", fn := fun _ => fun
  | [d] => { results := [.lit (.bool false)], args := [d] }
  | _ => none }
def NodeTwoWrongFalsely : Prop := nodeTwoRow.holds Try.pinned (OpenSpec.ofChange nodeTwoWrong)

/-- 'cordwoodlaw09.NodeBlank': WHATEVER THE INPUT: true; the input reads as it did. -/
def nodeBlankSpec : ChangeSpec := { name := "nodeBlank", fn := fun _ => fun
  | [d1, d2, d3, d4] => { results := [.lit (.bool true)], args := [d1, d2, d3, d4] }
  | _ => none }
def nodeBlankRow : OpenClaim := { program := "ytpmakacjhoemeaa", sum := "5dcf44b3c8ecfa24fb76b548082c3981ff8ffc4fbfde6bfc44830b73cf746b8b", func := "cordwood/cordwoodlaw09.NodeBlank", spec := "nodeBlank", unfollowed := true, recurses := true, apart := false }
def NodeBlankSaid : Prop := nodeBlankRow.holds Try.pinned (OpenSpec.ofChange nodeBlankSpec)

/-- ITS FALSE NEIGHBOUR: 'it returns false'. Refute it at one input. -/
def nodeBlankWrong : ChangeSpec := { name := "nodeBlank", fn := fun _ => fun
  | [d1, d2, d3, d4] => { results := [.lit (.bool false)], args := [d1, d2, d3, d4] }
  | _ => none }
def NodeBlankWrongFalsely : Prop := nodeBlankRow.holds Try.pinned (OpenSpec.ofChange nodeBlankWrong)

/- THE SECOND FORM. 'bulk': how many values and letters a reading holds, each counted each time it is reached (what is shared counts as often as it is met; a slice's spare places count too). A statement '..UptoSaid' is the law's where the arguments, and the package variables that the reading takes, are together of bulk at most 1048576: NARROWER than '..Said'. Prove '..Said' where nothing that the law and all that it calls make is longer than what came in: it says more and counts as full. Else prove '..UptoSaid'. A law counts once. -/
mutual
def uptoBulk {H : Type} : DataW H → Nat
  | .lit (.string bytes) => bytes.length + 1
  | .lit _ => 1
  | .nil => 1
  | .ptr d => uptoBulk d + 1
  | .slice elems spare => uptoBulkAll elems + uptoBulkAll spare + 1
  | .agg parts => uptoBulkAll parts + 1
  | .iface _ d => uptoBulk d + 1
  | .map entries => uptoBulkEntries entries + 1
  | .held _ => 1
def uptoBulkAll {H : Type} : List (DataW H) → Nat
  | [] => 0
  | d :: r => uptoBulk d + uptoBulkAll r
def uptoBulkEntries {H : Type} : List (Lit × DataW H) → Nat
  | [] => 0
  | x :: r => uptoBulkEntry x + uptoBulkEntries r
def uptoBulkEntry {H : Type} : Lit × DataW H → Nat
  | (.string bytes, d) => bytes.length + uptoBulk d + 1
  | (_, d) => uptoBulk d + 1
 end
def uptoSmall : (H : Type) → List (DataW H) → Bool := fun _ ds => decide (uptoBulkAll ds ≤ 1048576)
def OpenSpec.upto (s : _root_.Go.ChangeSpec) : _root_.Go.OpenSpec := { _root_.Go.OpenSpec.ofChange s with cond := some uptoSmall }

/-- 'cordwoodlaw09.NodeIs', WHERE WHAT IT READS IS OF BULK AT MOST 1048576: true; the input reads as it did. -/
def nodeIsUptoRow : OpenClaim := { program := "ytpmakacjhoemeaa", sum := "5dcf44b3c8ecfa24fb76b548082c3981ff8ffc4fbfde6bfc44830b73cf746b8b", func := "cordwood/cordwoodlaw09.NodeIs", spec := "nodeIs", unfollowed := true, recurses := true, apart := false, narrowed := true }
def NodeIsUptoSaid : Prop := nodeIsUptoRow.holds Try.pinned (OpenSpec.upto nodeIsSpec)

/-- 'cordwoodlaw09.NodeBack', WHERE WHAT IT READS IS OF BULK AT MOST 1048576: true; the input reads as it did. -/
def nodeBackUptoRow : OpenClaim := { program := "ytpmakacjhoemeaa", sum := "5dcf44b3c8ecfa24fb76b548082c3981ff8ffc4fbfde6bfc44830b73cf746b8b", func := "cordwood/cordwoodlaw09.NodeBack", spec := "nodeBack", unfollowed := true, recurses := true, apart := false, narrowed := true }
def NodeBackUptoSaid : Prop := nodeBackUptoRow.holds Try.pinned (OpenSpec.upto nodeBackSpec)

/-- 'cordwoodlaw09.NodeOnly', WHERE WHAT IT READS IS OF BULK AT MOST 1048576: true; the input reads as it did. -/
def nodeOnlyUptoRow : OpenClaim := { program := "ytpmakacjhoemeaa", sum := "5dcf44b3c8ecfa24fb76b548082c3981ff8ffc4fbfde6bfc44830b73cf746b8b", func := "cordwood/cordwoodlaw09.NodeOnly", spec := "nodeOnly", unfollowed := true, recurses := true, apart := false, narrowed := true }
def NodeOnlyUptoSaid : Prop := nodeOnlyUptoRow.holds Try.pinned (OpenSpec.upto nodeOnlySpec)

/-- 'cordwoodlaw09.NodeApart', WHERE WHAT IT READS IS OF BULK AT MOST 1048576: true; the input reads as it did. -/
def nodeApartUptoRow : OpenClaim := { program := "ytpmakacjhoemeaa", sum := "5dcf44b3c8ecfa24fb76b548082c3981ff8ffc4fbfde6bfc44830b73cf746b8b", func := "cordwood/cordwoodlaw09.NodeApart", spec := "nodeApart", unfollowed := true, recurses := true, apart := false, narrowed := true }
def NodeApartUptoSaid : Prop := nodeApartUptoRow.holds Try.pinned (OpenSpec.upto nodeApartSpec)

/-- 'cordwoodlaw09.NodeTwo', WHERE WHAT IT READS IS OF BULK AT MOST 1048576: true; the input reads as it did. -/
def nodeTwoUptoRow : OpenClaim := { program := "ytpmakacjhoemeaa", sum := "5dcf44b3c8ecfa24fb76b548082c3981ff8ffc4fbfde6bfc44830b73cf746b8b", func := "cordwood/cordwoodlaw09.NodeTwo", spec := "nodeTwo", unfollowed := true, recurses := true, apart := false, narrowed := true }
def NodeTwoUptoSaid : Prop := nodeTwoUptoRow.holds Try.pinned (OpenSpec.upto nodeTwoSpec)

/-- 'cordwoodlaw09.NodeBlank', WHERE WHAT IT READS IS OF BULK AT MOST 1048576: true; the input reads as it did. -/
def nodeBlankUptoRow : OpenClaim := { program := "ytpmakacjhoemeaa", sum := "5dcf44b3c8ecfa24fb76b548082c3981ff8ffc4fbfde6bfc44830b73cf746b8b", func := "cordwood/cordwoodlaw09.NodeBlank", spec := "nodeBlank", unfollowed := true, recurses := true, apart := false, narrowed := true }
def NodeBlankUptoSaid : Prop := nodeBlankUptoRow.holds Try.pinned (OpenSpec.upto nodeBlankSpec)

end Rows
end Go.Proofs.Ytpmakacjhoemeaa
