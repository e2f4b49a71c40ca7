/-
  DERIVED. GIVEN WITH THE SEED: THE CARDS: each row of YtjjdcnkbibkmkaaGreatDoorRows.lean that lists a variable, with what it lists TIED to the program's text (the seventh form; the later family's looks); each row that meets fmt, with fmt's text TOLD by the authors' own Lean function (tested against real Go, not proved from fmt's source: count such statements apart). THE CARD IS WHAT COUNTS. Prove the row's statement (the work); the ties are given (YtjjdcnkbibkmkaaGreatDoorTie.lean); close each card by the builder's one call (the guide's Derived/Test/ToyasCard.lean, 'card_holds'). Laid BY PROGRAM, IN A SANDBOX (cutbox-door.mjs). By AI agents, Wed Nov 11 2026. No macro, syntax, notation, axiom, sorry.
-/
import Derived.Test.YtjjdcnkbibkmkaaGreatDoorRows
import GoSem.ClaimSeven
namespace Go.Proofs.YtjjdcnkbibkmkaaGreatDoor
namespace Rows

/-- THE TIED CARD OF 'cordwoodlaw16.ModelIs'. -/
def modelIsCard : Claim7 := { stood := { row := modelIsRow, standIns := [], harness := (true, "9c7bff1ca64ea03e7795a20d62d065c05cb8e964cd1f0fef88f73ea1724732aa"), looks := false }, kinds := [], alts := [], laidByText := true, laidKinds := [.data, .data, .data], laidTests := true, laidLooks := .later }
def ModelIsCardSaid : Prop := Claim7.holds Tryz.pinned (.plain (OpenSpec.ofChange modelIsSpec)) modelIsCard

/-- THE TIED CARD OF 'cordwoodlaw16.ModelRuns'. -/
def modelRunsCard : Claim7 := { stood := { row := modelRunsRow, standIns := [], harness := (true, "9c7bff1ca64ea03e7795a20d62d065c05cb8e964cd1f0fef88f73ea1724732aa"), looks := false }, kinds := [], alts := [], laidByText := true, laidKinds := [.data, .data, .data], laidTests := true, laidLooks := .later }
def ModelRunsCardSaid : Prop := Claim7.holds Tryz.pinned (.plain (OpenSpec.ofChange modelRunsSpec)) modelRunsCard

/-- THE TIED CARD OF 'cordwoodlaw16.ModelStays'. -/
def modelStaysCard : Claim7 := { stood := { row := modelStaysRow, standIns := [], harness := (true, "9c7bff1ca64ea03e7795a20d62d065c05cb8e964cd1f0fef88f73ea1724732aa"), looks := false }, kinds := [], alts := [], laidByText := true, laidKinds := [.data, .data, .data], laidTests := true, laidLooks := .later }
def ModelStaysCardSaid : Prop := Claim7.holds Tryz.pinned (.plain (OpenSpec.ofChange modelStaysSpec)) modelStaysCard

/-- THE TIED CARD OF 'cordwoodlaw16.ModelSnaps'. -/
def modelSnapsCard : Claim7 := { stood := { row := modelSnapsRow, standIns := [], harness := (true, "9c7bff1ca64ea03e7795a20d62d065c05cb8e964cd1f0fef88f73ea1724732aa"), looks := false }, kinds := [], alts := [], laidByText := true, laidKinds := [.data, .data, .data], laidTests := true, laidLooks := .later }
def ModelSnapsCardSaid : Prop := Claim7.holds Tryz.pinned (.plain (OpenSpec.ofChange modelSnapsSpec)) modelSnapsCard

/-- THE TIED CARD OF 'cordwoodlaw16.ModelKept'. -/
def modelKeptCard : Claim7 := { stood := { row := modelKeptRow, standIns := [], harness := (true, "9c7bff1ca64ea03e7795a20d62d065c05cb8e964cd1f0fef88f73ea1724732aa"), looks := false }, kinds := [], alts := [], laidByText := true, laidKinds := [.data, .data, .data], laidTests := true, laidLooks := .later }
def ModelKeptCardSaid : Prop := Claim7.holds Tryz.pinned (.plain (OpenSpec.ofChange modelKeptSpec)) modelKeptCard

/-- THE TIED CARD OF 'cordwoodlaw16.ModelAsks'. -/
def modelAsksCard : Claim7 := { stood := { row := modelAsksRow, standIns := [], harness := (true, "9c7bff1ca64ea03e7795a20d62d065c05cb8e964cd1f0fef88f73ea1724732aa"), looks := false }, kinds := [], alts := [], laidByText := true, laidKinds := [.data, .data, .data], laidTests := true, laidLooks := .later }
def ModelAsksCardSaid : Prop := Claim7.holds Tryz.pinned (.plain (OpenSpec.ofChange modelAsksSpec)) modelAsksCard

/-- THE SECOND FORM's CARD OF 'cordwoodlaw16.ModelIs'. -/
def modelIsUptoCard : Claim7 := { stood := { row := modelIsUptoRow, standIns := [], harness := (true, "9c7bff1ca64ea03e7795a20d62d065c05cb8e964cd1f0fef88f73ea1724732aa"), looks := false }, kinds := [], alts := [], laidByText := true, laidKinds := [.data, .data, .data], laidTests := true, laidLooks := .later }
def ModelIsUptoCardSaid : Prop := Claim7.holds Tryz.pinned (.plain (OpenSpec.upto modelIsSpec)) modelIsUptoCard

/-- THE SECOND FORM's CARD OF 'cordwoodlaw16.ModelRuns'. -/
def modelRunsUptoCard : Claim7 := { stood := { row := modelRunsUptoRow, standIns := [], harness := (true, "9c7bff1ca64ea03e7795a20d62d065c05cb8e964cd1f0fef88f73ea1724732aa"), looks := false }, kinds := [], alts := [], laidByText := true, laidKinds := [.data, .data, .data], laidTests := true, laidLooks := .later }
def ModelRunsUptoCardSaid : Prop := Claim7.holds Tryz.pinned (.plain (OpenSpec.upto modelRunsSpec)) modelRunsUptoCard

/-- THE SECOND FORM's CARD OF 'cordwoodlaw16.ModelStays'. -/
def modelStaysUptoCard : Claim7 := { stood := { row := modelStaysUptoRow, standIns := [], harness := (true, "9c7bff1ca64ea03e7795a20d62d065c05cb8e964cd1f0fef88f73ea1724732aa"), looks := false }, kinds := [], alts := [], laidByText := true, laidKinds := [.data, .data, .data], laidTests := true, laidLooks := .later }
def ModelStaysUptoCardSaid : Prop := Claim7.holds Tryz.pinned (.plain (OpenSpec.upto modelStaysSpec)) modelStaysUptoCard

/-- THE SECOND FORM's CARD OF 'cordwoodlaw16.ModelSnaps'. -/
def modelSnapsUptoCard : Claim7 := { stood := { row := modelSnapsUptoRow, standIns := [], harness := (true, "9c7bff1ca64ea03e7795a20d62d065c05cb8e964cd1f0fef88f73ea1724732aa"), looks := false }, kinds := [], alts := [], laidByText := true, laidKinds := [.data, .data, .data], laidTests := true, laidLooks := .later }
def ModelSnapsUptoCardSaid : Prop := Claim7.holds Tryz.pinned (.plain (OpenSpec.upto modelSnapsSpec)) modelSnapsUptoCard

/-- THE SECOND FORM's CARD OF 'cordwoodlaw16.ModelKept'. -/
def modelKeptUptoCard : Claim7 := { stood := { row := modelKeptUptoRow, standIns := [], harness := (true, "9c7bff1ca64ea03e7795a20d62d065c05cb8e964cd1f0fef88f73ea1724732aa"), looks := false }, kinds := [], alts := [], laidByText := true, laidKinds := [.data, .data, .data], laidTests := true, laidLooks := .later }
def ModelKeptUptoCardSaid : Prop := Claim7.holds Tryz.pinned (.plain (OpenSpec.upto modelKeptSpec)) modelKeptUptoCard

/-- THE SECOND FORM's CARD OF 'cordwoodlaw16.ModelAsks'. -/
def modelAsksUptoCard : Claim7 := { stood := { row := modelAsksUptoRow, standIns := [], harness := (true, "9c7bff1ca64ea03e7795a20d62d065c05cb8e964cd1f0fef88f73ea1724732aa"), looks := false }, kinds := [], alts := [], laidByText := true, laidKinds := [.data, .data, .data], laidTests := true, laidLooks := .later }
def ModelAsksUptoCardSaid : Prop := Claim7.holds Tryz.pinned (.plain (OpenSpec.upto modelAsksSpec)) modelAsksUptoCard
end Rows
end Go.Proofs.YtjjdcnkbibkmkaaGreatDoor
