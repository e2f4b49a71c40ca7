/-
  DERIVED. GIVEN WITH THE SEED: THE CARDS: each row of YtognnnjdoemgfaaGreatDoorRows.lean that lists a variable, with what it lists TIED to the program's text (the seventh form; the later family's looks); each row that meets fmt, with fmt's text TOLD by the authors' own Lean function (tested against real Go, not proved from fmt's source: count such statements apart). THE CARD IS WHAT COUNTS. Prove the row's statement (the work); the ties are given (YtognnnjdoemgfaaGreatDoorTie.lean); close each card by the builder's one call (the guide's Derived/Test/ToyasCard.lean, 'card_holds'). Laid BY PROGRAM, IN A SANDBOX (cutbox-door.mjs). By AI agents, Wed Nov 11 2026. No macro, syntax, notation, axiom, sorry.
-/
import Derived.Test.YtognnnjdoemgfaaGreatDoorRows
import GoSem.ClaimSeven
namespace Go.Proofs.YtognnnjdoemgfaaGreatDoor
namespace Rows

/-- THE TIED CARD OF 'cordwoodlaw15.OctetsIs'. -/
def octetsIsCard : Claim7 := { stood := { row := octetsIsRow, standIns := [], harness := (true, "4259023bca60a50ce38f8f895e86fdf127b9772c0783a044e9da59d89445c8c0"), looks := false }, kinds := [], alts := [], laidByText := true, laidKinds := [.data, .data], laidTests := true, laidLooks := .later }
def OctetsIsCardSaid : Prop := Claim7.holds Tryz.pinned (.plain (OpenSpec.ofChange octetsIsSpec)) octetsIsCard

/-- THE TIED CARD OF 'cordwoodlaw15.OctetsNamed'. -/
def octetsNamedCard : Claim7 := { stood := { row := octetsNamedRow, standIns := [], harness := (true, "4259023bca60a50ce38f8f895e86fdf127b9772c0783a044e9da59d89445c8c0"), looks := false }, kinds := [], alts := [], laidByText := true, laidKinds := [.data, .data], laidTests := true, laidLooks := .later }
def OctetsNamedCardSaid : Prop := Claim7.holds Tryz.pinned (.plain (OpenSpec.ofChange octetsNamedSpec)) octetsNamedCard

/-- THE SECOND FORM's CARD OF 'cordwoodlaw15.OctetsIs'. -/
def octetsIsUptoCard : Claim7 := { stood := { row := octetsIsUptoRow, standIns := [], harness := (true, "4259023bca60a50ce38f8f895e86fdf127b9772c0783a044e9da59d89445c8c0"), looks := false }, kinds := [], alts := [], laidByText := true, laidKinds := [.data, .data], laidTests := true, laidLooks := .later }
def OctetsIsUptoCardSaid : Prop := Claim7.holds Tryz.pinned (.plain (OpenSpec.upto octetsIsSpec)) octetsIsUptoCard

/-- THE SECOND FORM's CARD OF 'cordwoodlaw15.OctetsNamed'. -/
def octetsNamedUptoCard : Claim7 := { stood := { row := octetsNamedUptoRow, standIns := [], harness := (true, "4259023bca60a50ce38f8f895e86fdf127b9772c0783a044e9da59d89445c8c0"), looks := false }, kinds := [], alts := [], laidByText := true, laidKinds := [.data, .data], laidTests := true, laidLooks := .later }
def OctetsNamedUptoCardSaid : Prop := Claim7.holds Tryz.pinned (.plain (OpenSpec.upto octetsNamedSpec)) octetsNamedUptoCard
end Rows
end Go.Proofs.YtognnnjdoemgfaaGreatDoor
