/-
  DERIVED. GIVEN WITH THE SEED: THE CARDS: each row of YtgcneppjdhnacaaDoorRows.lean that lists a variable, with what it lists TIED to the program's text (the seventh form; the later family's looks); each row that meets fmt, with fmt's text TOLD by the authors' own Lean function (tested against real Go, not proved from fmt's source: count such statements apart). THE CARD IS WHAT COUNTS. Prove the row's statement (the work); the ties are given (YtgcneppjdhnacaaDoorTie.lean); close each card by the builder's one call (the guide's Derived/Test/ToyasCard.lean, 'card_holds'). Laid BY PROGRAM, IN A SANDBOX (cutbox-door.mjs). By AI agents, Wed Nov 11 2026. No macro, syntax, notation, axiom, sorry.
-/
import Derived.Test.YtgcneppjdhnacaaDoorRows
import GoSem.ClaimSeven
namespace Go.Proofs.YtgcneppjdhnacaaDoor
namespace Rows

/-- THE TIED CARD OF 'cordwoodlaw06.WalkIs'. -/
def walkIsCard : Claim7 := { stood := { row := walkIsRow, standIns := [], harness := (true, "7be1c1b04ecf46362a5c0582ab9d48caeefa04a35bd3ba78b8fcb03182b90c52"), looks := false }, kinds := [], alts := [], laidByText := true, laidKinds := [.data, .data], laidTests := true, laidLooks := .later }
def WalkIsCardSaid : Prop := Claim7.holds Tryd.pinned (.plain (OpenSpec.ofChange walkIsSpec)) walkIsCard

/-- THE TIED CARD OF 'cordwoodlaw06.WalkBeside'. -/
def walkBesideCard : Claim7 := { stood := { row := walkBesideRow, standIns := [], harness := (true, "7be1c1b04ecf46362a5c0582ab9d48caeefa04a35bd3ba78b8fcb03182b90c52"), looks := false }, kinds := [], alts := [], laidByText := true, laidKinds := [.data, .data], laidTests := true, laidLooks := .later }
def WalkBesideCardSaid : Prop := Claim7.holds Tryd.pinned (.plain (OpenSpec.ofChange walkBesideSpec)) walkBesideCard

/-- THE TIED CARD OF 'cordwoodlaw06.WalkCommon'. -/
def walkCommonCard : Claim7 := { stood := { row := walkCommonRow, standIns := [], harness := (true, "7be1c1b04ecf46362a5c0582ab9d48caeefa04a35bd3ba78b8fcb03182b90c52"), looks := false }, kinds := [], alts := [], laidByText := true, laidKinds := [.data, .data], laidTests := true, laidLooks := .later }
def WalkCommonCardSaid : Prop := Claim7.holds Tryd.pinned (.plain (OpenSpec.ofChange walkCommonSpec)) walkCommonCard

/-- THE TIED CARD OF 'cordwoodlaw06.WalkBelow'. -/
def walkBelowCard : Claim7 := { stood := { row := walkBelowRow, standIns := [], harness := (true, "7be1c1b04ecf46362a5c0582ab9d48caeefa04a35bd3ba78b8fcb03182b90c52"), looks := false }, kinds := [], alts := [], laidByText := true, laidKinds := [.data, .data], laidTests := true, laidLooks := .later }
def WalkBelowCardSaid : Prop := Claim7.holds Tryd.pinned (.plain (OpenSpec.ofChange walkBelowSpec)) walkBelowCard

/-- THE TIED CARD OF 'cordwoodlaw06.WalkLength'. -/
def walkLengthCard : Claim7 := { stood := { row := walkLengthRow, standIns := [], harness := (true, "7be1c1b04ecf46362a5c0582ab9d48caeefa04a35bd3ba78b8fcb03182b90c52"), looks := false }, kinds := [], alts := [], laidByText := true, laidKinds := [.data, .data], laidTests := true, laidLooks := .later }
def WalkLengthCardSaid : Prop := Claim7.holds Tryd.pinned (.plain (OpenSpec.ofChange walkLengthSpec)) walkLengthCard

/-- THE TIED CARD OF 'cordwoodlaw06.WalkMeets'. -/
def walkMeetsCard : Claim7 := { stood := { row := walkMeetsRow, standIns := [], harness := (true, "7be1c1b04ecf46362a5c0582ab9d48caeefa04a35bd3ba78b8fcb03182b90c52"), looks := false }, kinds := [], alts := [], laidByText := true, laidKinds := [.data, .data], laidTests := true, laidLooks := .later }
def WalkMeetsCardSaid : Prop := Claim7.holds Tryd.pinned (.plain (OpenSpec.ofChange walkMeetsSpec)) walkMeetsCard

/-- THE SECOND FORM's CARD OF 'cordwoodlaw06.WalkIs'. -/
def walkIsUptoCard : Claim7 := { stood := { row := walkIsUptoRow, standIns := [], harness := (true, "7be1c1b04ecf46362a5c0582ab9d48caeefa04a35bd3ba78b8fcb03182b90c52"), looks := false }, kinds := [], alts := [], laidByText := true, laidKinds := [.data, .data], laidTests := true, laidLooks := .later }
def WalkIsUptoCardSaid : Prop := Claim7.holds Tryd.pinned (.plain (OpenSpec.upto walkIsSpec)) walkIsUptoCard

/-- THE SECOND FORM's CARD OF 'cordwoodlaw06.WalkBeside'. -/
def walkBesideUptoCard : Claim7 := { stood := { row := walkBesideUptoRow, standIns := [], harness := (true, "7be1c1b04ecf46362a5c0582ab9d48caeefa04a35bd3ba78b8fcb03182b90c52"), looks := false }, kinds := [], alts := [], laidByText := true, laidKinds := [.data, .data], laidTests := true, laidLooks := .later }
def WalkBesideUptoCardSaid : Prop := Claim7.holds Tryd.pinned (.plain (OpenSpec.upto walkBesideSpec)) walkBesideUptoCard

/-- THE SECOND FORM's CARD OF 'cordwoodlaw06.WalkCommon'. -/
def walkCommonUptoCard : Claim7 := { stood := { row := walkCommonUptoRow, standIns := [], harness := (true, "7be1c1b04ecf46362a5c0582ab9d48caeefa04a35bd3ba78b8fcb03182b90c52"), looks := false }, kinds := [], alts := [], laidByText := true, laidKinds := [.data, .data], laidTests := true, laidLooks := .later }
def WalkCommonUptoCardSaid : Prop := Claim7.holds Tryd.pinned (.plain (OpenSpec.upto walkCommonSpec)) walkCommonUptoCard

/-- THE SECOND FORM's CARD OF 'cordwoodlaw06.WalkBelow'. -/
def walkBelowUptoCard : Claim7 := { stood := { row := walkBelowUptoRow, standIns := [], harness := (true, "7be1c1b04ecf46362a5c0582ab9d48caeefa04a35bd3ba78b8fcb03182b90c52"), looks := false }, kinds := [], alts := [], laidByText := true, laidKinds := [.data, .data], laidTests := true, laidLooks := .later }
def WalkBelowUptoCardSaid : Prop := Claim7.holds Tryd.pinned (.plain (OpenSpec.upto walkBelowSpec)) walkBelowUptoCard

/-- THE SECOND FORM's CARD OF 'cordwoodlaw06.WalkLength'. -/
def walkLengthUptoCard : Claim7 := { stood := { row := walkLengthUptoRow, standIns := [], harness := (true, "7be1c1b04ecf46362a5c0582ab9d48caeefa04a35bd3ba78b8fcb03182b90c52"), looks := false }, kinds := [], alts := [], laidByText := true, laidKinds := [.data, .data], laidTests := true, laidLooks := .later }
def WalkLengthUptoCardSaid : Prop := Claim7.holds Tryd.pinned (.plain (OpenSpec.upto walkLengthSpec)) walkLengthUptoCard

/-- THE SECOND FORM's CARD OF 'cordwoodlaw06.WalkMeets'. -/
def walkMeetsUptoCard : Claim7 := { stood := { row := walkMeetsUptoRow, standIns := [], harness := (true, "7be1c1b04ecf46362a5c0582ab9d48caeefa04a35bd3ba78b8fcb03182b90c52"), looks := false }, kinds := [], alts := [], laidByText := true, laidKinds := [.data, .data], laidTests := true, laidLooks := .later }
def WalkMeetsUptoCardSaid : Prop := Claim7.holds Tryd.pinned (.plain (OpenSpec.upto walkMeetsSpec)) walkMeetsUptoCard
end Rows
end Go.Proofs.YtgcneppjdhnacaaDoor
