/-
  DERIVED. GIVEN WITH THE SEED: THE CARDS: each row of YtognnnjdoemgfaaDoorRows.lean that lists a variable, with what it lists TIED to the program's text (the seventh form; the later family's looks); each row that meets fmt, with fmt's text TOLD by the authors' own Lean function (tested against real Go, not proved from fmt's source: count such statements apart). THE CARD IS WHAT COUNTS. Prove the row's statement (the work); the ties are given (YtognnnjdoemgfaaDoorTie.lean); close each card by the builder's one call (the guide's Derived/Test/ToyasCard.lean, 'card_holds'). Laid BY PROGRAM, IN A SANDBOX (cutbox-door.mjs). By AI agents, Wed Nov 11 2026. No macro, syntax, notation, axiom, sorry.
-/
import Derived.Test.YtognnnjdoemgfaaDoorRows
import GoSem.ClaimSeven
namespace Go.Proofs.YtognnnjdoemgfaaDoor
namespace Rows

/-- THE TIED CARD OF 'cordwoodlaw15.OctetsOnly'. -/
def octetsOnlyCard : Claim7 := { stood := { row := octetsOnlyRow, standIns := [], harness := (true, "27e3067dd75a624c9cfa501ad9d638f41a2493e2fa7cbe38295e86ec43946ee6"), looks := false }, kinds := [], alts := [], laidByText := true, laidKinds := [.data, .data], laidTests := true, laidLooks := .later }
def OctetsOnlyCardSaid : Prop := Claim7.holds Tryd.pinned (.plain (OpenSpec.ofChange octetsOnlySpec)) octetsOnlyCard

/-- THE TIED CARD OF 'cordwoodlaw15.OctetsTrail'. -/
def octetsTrailCard : Claim7 := { stood := { row := octetsTrailRow, standIns := [], harness := (true, "27e3067dd75a624c9cfa501ad9d638f41a2493e2fa7cbe38295e86ec43946ee6"), looks := false }, kinds := [], alts := [], laidByText := true, laidKinds := [.data, .data], laidTests := true, laidLooks := .later }
def OctetsTrailCardSaid : Prop := Claim7.holds Tryd.pinned (.plain (OpenSpec.ofChange octetsTrailSpec)) octetsTrailCard

/-- THE SECOND FORM's CARD OF 'cordwoodlaw15.OctetsOnly'. -/
def octetsOnlyUptoCard : Claim7 := { stood := { row := octetsOnlyUptoRow, standIns := [], harness := (true, "27e3067dd75a624c9cfa501ad9d638f41a2493e2fa7cbe38295e86ec43946ee6"), looks := false }, kinds := [], alts := [], laidByText := true, laidKinds := [.data, .data], laidTests := true, laidLooks := .later }
def OctetsOnlyUptoCardSaid : Prop := Claim7.holds Tryd.pinned (.plain (OpenSpec.upto octetsOnlySpec)) octetsOnlyUptoCard

/-- THE SECOND FORM's CARD OF 'cordwoodlaw15.OctetsTrail'. -/
def octetsTrailUptoCard : Claim7 := { stood := { row := octetsTrailUptoRow, standIns := [], harness := (true, "27e3067dd75a624c9cfa501ad9d638f41a2493e2fa7cbe38295e86ec43946ee6"), looks := false }, kinds := [], alts := [], laidByText := true, laidKinds := [.data, .data], laidTests := true, laidLooks := .later }
def OctetsTrailUptoCardSaid : Prop := Claim7.holds Tryd.pinned (.plain (OpenSpec.upto octetsTrailSpec)) octetsTrailUptoCard
end Rows
end Go.Proofs.YtognnnjdoemgfaaDoor
