/-
  DERIVED. GIVEN WITH THE SEED: THE CARDS: each row of YtpoonjgkgaodmaaDoorRows.lean that lists a variable, with what it lists TIED to the program's text (the seventh form; the later family's looks); each row that meets fmt, with fmt's text TOLD by the authors' own Lean function (tested against real Go, not proved from fmt's source: count such statements apart). THE CARD IS WHAT COUNTS. Prove the row's statement (the work); the ties are given (YtpoonjgkgaodmaaDoorTie.lean); close each card by the builder's one call (the guide's Derived/Test/ToyasCard.lean, 'card_holds'). Laid BY PROGRAM, IN A SANDBOX (cutbox-door.mjs). By AI agents, Wed Nov 11 2026. No macro, syntax, notation, axiom, sorry.
-/
import Derived.Test.YtpoonjgkgaodmaaDoorRows
import GoSem.ClaimSeven
namespace Go.Proofs.YtpoonjgkgaodmaaDoor
namespace Rows

/-- THE TIED CARD OF 'cordwoodlaw10.ShapeIs'. -/
def shapeIsCard : Claim7 := { stood := { row := shapeIsRow, standIns := [], harness := (true, "b7c4f12100915122e73fc0cb439103492f626ee7375ffc569ef0692b57a23ce8"), looks := false }, kinds := [], alts := [], laidByText := true, laidKinds := [.data, .data], laidTests := true, laidLooks := .later }
def ShapeIsCardSaid : Prop := Claim7.holds Tryd.pinned (.plain (OpenSpec.ofChange shapeIsSpec)) shapeIsCard

/-- THE TIED CARD OF 'cordwoodlaw10.ShapeKeeps'. -/
def shapeKeepsCard : Claim7 := { stood := { row := shapeKeepsRow, standIns := [], harness := (true, "b7c4f12100915122e73fc0cb439103492f626ee7375ffc569ef0692b57a23ce8"), looks := false }, kinds := [], alts := [], laidByText := true, laidKinds := [.data, .data], laidTests := true, laidLooks := .later }
def ShapeKeepsCardSaid : Prop := Claim7.holds Tryd.pinned (.plain (OpenSpec.ofChange shapeKeepsSpec)) shapeKeepsCard

/-- THE TIED CARD OF 'cordwoodlaw10.ShapeClears'. -/
def shapeClearsCard : Claim7 := { stood := { row := shapeClearsRow, standIns := [], harness := (true, "b7c4f12100915122e73fc0cb439103492f626ee7375ffc569ef0692b57a23ce8"), looks := false }, kinds := [], alts := [], laidByText := true, laidKinds := [.data, .data], laidTests := true, laidLooks := .later }
def ShapeClearsCardSaid : Prop := Claim7.holds Tryd.pinned (.plain (OpenSpec.ofChange shapeClearsSpec)) shapeClearsCard

/-- THE SECOND FORM's CARD OF 'cordwoodlaw10.ShapeIs'. -/
def shapeIsUptoCard : Claim7 := { stood := { row := shapeIsUptoRow, standIns := [], harness := (true, "b7c4f12100915122e73fc0cb439103492f626ee7375ffc569ef0692b57a23ce8"), looks := false }, kinds := [], alts := [], laidByText := true, laidKinds := [.data, .data], laidTests := true, laidLooks := .later }
def ShapeIsUptoCardSaid : Prop := Claim7.holds Tryd.pinned (.plain (OpenSpec.upto shapeIsSpec)) shapeIsUptoCard

/-- THE SECOND FORM's CARD OF 'cordwoodlaw10.ShapeKeeps'. -/
def shapeKeepsUptoCard : Claim7 := { stood := { row := shapeKeepsUptoRow, standIns := [], harness := (true, "b7c4f12100915122e73fc0cb439103492f626ee7375ffc569ef0692b57a23ce8"), looks := false }, kinds := [], alts := [], laidByText := true, laidKinds := [.data, .data], laidTests := true, laidLooks := .later }
def ShapeKeepsUptoCardSaid : Prop := Claim7.holds Tryd.pinned (.plain (OpenSpec.upto shapeKeepsSpec)) shapeKeepsUptoCard

/-- THE SECOND FORM's CARD OF 'cordwoodlaw10.ShapeClears'. -/
def shapeClearsUptoCard : Claim7 := { stood := { row := shapeClearsUptoRow, standIns := [], harness := (true, "b7c4f12100915122e73fc0cb439103492f626ee7375ffc569ef0692b57a23ce8"), looks := false }, kinds := [], alts := [], laidByText := true, laidKinds := [.data, .data], laidTests := true, laidLooks := .later }
def ShapeClearsUptoCardSaid : Prop := Claim7.holds Tryd.pinned (.plain (OpenSpec.upto shapeClearsSpec)) shapeClearsUptoCard
end Rows
end Go.Proofs.YtpoonjgkgaodmaaDoor
