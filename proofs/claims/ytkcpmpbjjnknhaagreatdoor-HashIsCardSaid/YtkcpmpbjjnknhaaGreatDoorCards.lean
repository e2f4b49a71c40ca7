/-
  DERIVED. GIVEN WITH THE SEED: THE CARDS: each row of YtkcpmpbjjnknhaaGreatDoorRows.lean that lists a variable, with what it lists TIED to the program's text (the seventh form; the later family's looks); each row that meets fmt, with fmt's text TOLD by the authors' own Lean function (tested against real Go, not proved from fmt's source: count such statements apart). THE CARD IS WHAT COUNTS. Prove the row's statement (the work); the ties are given (YtkcpmpbjjnknhaaGreatDoorTie.lean); close each card by the builder's one call (the guide's Derived/Test/ToyasCard.lean, 'card_holds'). Laid BY PROGRAM, IN A SANDBOX (cutbox-door.mjs). By AI agents, Wed Nov 11 2026. No macro, syntax, notation, axiom, sorry.
-/
import Derived.Test.YtkcpmpbjjnknhaaGreatDoorRows
import GoSem.ClaimSeven
namespace Go.Proofs.YtkcpmpbjjnknhaaGreatDoor
namespace Rows

/-- THE TIED CARD OF 'cordwoodlaw12.HashIs'. -/
def hashIsCard : Claim7 := { stood := { row := hashIsRow, standIns := [], harness := (true, "0383208879607b6fae36623fb25407a4b0b059347b2b979fc0bb45883e9b4c96"), looks := false }, kinds := [], alts := [], laidByText := true, laidKinds := [.data, .data, .data], laidTests := true, laidLooks := .later }
def HashIsCardSaid : Prop := Claim7.holds Tryz.pinned (.plain (OpenSpec.ofChange hashIsSpec)) hashIsCard

/-- THE TIED CARD OF 'cordwoodlaw12.HashBelow'. -/
def hashBelowCard : Claim7 := { stood := { row := hashBelowRow, standIns := [], harness := (true, "0383208879607b6fae36623fb25407a4b0b059347b2b979fc0bb45883e9b4c96"), looks := false }, kinds := [], alts := [], laidByText := true, laidKinds := [.data, .data, .data], laidTests := true, laidLooks := .later }
def HashBelowCardSaid : Prop := Claim7.holds Tryz.pinned (.plain (OpenSpec.ofChange hashBelowSpec)) hashBelowCard

/-- THE TIED CARD OF 'cordwoodlaw12.HashMade'. -/
def hashMadeCard : Claim7 := { stood := { row := hashMadeRow, standIns := [], harness := (true, "0383208879607b6fae36623fb25407a4b0b059347b2b979fc0bb45883e9b4c96"), looks := false }, kinds := [], alts := [], laidByText := true, laidKinds := [.data, .data, .data], laidTests := true, laidLooks := .later }
def HashMadeCardSaid : Prop := Claim7.holds Tryz.pinned (.plain (OpenSpec.ofChange hashMadeSpec)) hashMadeCard

/-- THE TIED CARD OF 'cordwoodlaw12.HashDrops'. -/
def hashDropsCard : Claim7 := { stood := { row := hashDropsRow, standIns := [], harness := (true, "0383208879607b6fae36623fb25407a4b0b059347b2b979fc0bb45883e9b4c96"), looks := false }, kinds := [], alts := [], laidByText := true, laidKinds := [.data, .data, .data], laidTests := true, laidLooks := .later }
def HashDropsCardSaid : Prop := Claim7.holds Tryz.pinned (.plain (OpenSpec.ofChange hashDropsSpec)) hashDropsCard

/-- THE TIED CARD OF 'cordwoodlaw12.HashGrows'. -/
def hashGrowsCard : Claim7 := { stood := { row := hashGrowsRow, standIns := [], harness := (true, "0383208879607b6fae36623fb25407a4b0b059347b2b979fc0bb45883e9b4c96"), looks := false }, kinds := [], alts := [], laidByText := true, laidKinds := [.data, .data, .data], laidTests := true, laidLooks := .later }
def HashGrowsCardSaid : Prop := Claim7.holds Tryz.pinned (.plain (OpenSpec.ofChange hashGrowsSpec)) hashGrowsCard

/-- THE TIED CARD OF 'cordwoodlaw12.HashParts'. -/
def hashPartsCard : Claim7 := { stood := { row := hashPartsRow, standIns := [], harness := (true, "0383208879607b6fae36623fb25407a4b0b059347b2b979fc0bb45883e9b4c96"), looks := false }, kinds := [], alts := [], laidByText := true, laidKinds := [.data, .data, .data], laidTests := true, laidLooks := .later }
def HashPartsCardSaid : Prop := Claim7.holds Tryz.pinned (.plain (OpenSpec.ofChange hashPartsSpec)) hashPartsCard

/-- THE SECOND FORM's CARD OF 'cordwoodlaw12.HashIs'. -/
def hashIsUptoCard : Claim7 := { stood := { row := hashIsUptoRow, standIns := [], harness := (true, "0383208879607b6fae36623fb25407a4b0b059347b2b979fc0bb45883e9b4c96"), looks := false }, kinds := [], alts := [], laidByText := true, laidKinds := [.data, .data, .data], laidTests := true, laidLooks := .later }
def HashIsUptoCardSaid : Prop := Claim7.holds Tryz.pinned (.plain (OpenSpec.upto hashIsSpec)) hashIsUptoCard

/-- THE SECOND FORM's CARD OF 'cordwoodlaw12.HashBelow'. -/
def hashBelowUptoCard : Claim7 := { stood := { row := hashBelowUptoRow, standIns := [], harness := (true, "0383208879607b6fae36623fb25407a4b0b059347b2b979fc0bb45883e9b4c96"), looks := false }, kinds := [], alts := [], laidByText := true, laidKinds := [.data, .data, .data], laidTests := true, laidLooks := .later }
def HashBelowUptoCardSaid : Prop := Claim7.holds Tryz.pinned (.plain (OpenSpec.upto hashBelowSpec)) hashBelowUptoCard

/-- THE SECOND FORM's CARD OF 'cordwoodlaw12.HashMade'. -/
def hashMadeUptoCard : Claim7 := { stood := { row := hashMadeUptoRow, standIns := [], harness := (true, "0383208879607b6fae36623fb25407a4b0b059347b2b979fc0bb45883e9b4c96"), looks := false }, kinds := [], alts := [], laidByText := true, laidKinds := [.data, .data, .data], laidTests := true, laidLooks := .later }
def HashMadeUptoCardSaid : Prop := Claim7.holds Tryz.pinned (.plain (OpenSpec.upto hashMadeSpec)) hashMadeUptoCard

/-- THE SECOND FORM's CARD OF 'cordwoodlaw12.HashDrops'. -/
def hashDropsUptoCard : Claim7 := { stood := { row := hashDropsUptoRow, standIns := [], harness := (true, "0383208879607b6fae36623fb25407a4b0b059347b2b979fc0bb45883e9b4c96"), looks := false }, kinds := [], alts := [], laidByText := true, laidKinds := [.data, .data, .data], laidTests := true, laidLooks := .later }
def HashDropsUptoCardSaid : Prop := Claim7.holds Tryz.pinned (.plain (OpenSpec.upto hashDropsSpec)) hashDropsUptoCard

/-- THE SECOND FORM's CARD OF 'cordwoodlaw12.HashGrows'. -/
def hashGrowsUptoCard : Claim7 := { stood := { row := hashGrowsUptoRow, standIns := [], harness := (true, "0383208879607b6fae36623fb25407a4b0b059347b2b979fc0bb45883e9b4c96"), looks := false }, kinds := [], alts := [], laidByText := true, laidKinds := [.data, .data, .data], laidTests := true, laidLooks := .later }
def HashGrowsUptoCardSaid : Prop := Claim7.holds Tryz.pinned (.plain (OpenSpec.upto hashGrowsSpec)) hashGrowsUptoCard

/-- THE SECOND FORM's CARD OF 'cordwoodlaw12.HashParts'. -/
def hashPartsUptoCard : Claim7 := { stood := { row := hashPartsUptoRow, standIns := [], harness := (true, "0383208879607b6fae36623fb25407a4b0b059347b2b979fc0bb45883e9b4c96"), looks := false }, kinds := [], alts := [], laidByText := true, laidKinds := [.data, .data, .data], laidTests := true, laidLooks := .later }
def HashPartsUptoCardSaid : Prop := Claim7.holds Tryz.pinned (.plain (OpenSpec.upto hashPartsSpec)) hashPartsUptoCard
end Rows
end Go.Proofs.YtkcpmpbjjnknhaaGreatDoor
