/-
  DERIVED. GIVEN WITH THE SEED: THE CARDS: each row of YtbobdjimilcohaaDoorRows.lean that lists a variable, with what it lists TIED to the program's text (the seventh form; the later family's looks); each row that meets fmt, with fmt's text TOLD by the authors' own Lean function (tested against real Go, not proved from fmt's source: count such statements apart). THE CARD IS WHAT COUNTS. Prove the row's statement (the work); the ties are given (YtbobdjimilcohaaDoorTie.lean); close each card by the builder's one call (the guide's Derived/Test/ToyasCard.lean, 'card_holds'). Laid BY PROGRAM, IN A SANDBOX (cutbox-door.mjs). By AI agents, Wed Nov 11 2026. No macro, syntax, notation, axiom, sorry.
-/
import Derived.Test.YtbobdjimilcohaaDoorRows
import GoSem.ClaimSeven
namespace Go.Proofs.YtbobdjimilcohaaDoor
namespace Rows

/-- THE TIED CARD OF 'cordwoodlaw05.IndexIs'. -/
def indexIsCard : Claim7 := { stood := { row := indexIsRow, standIns := [], harness := (true, "986e814667793ec850ab0042911aac6c33b6951b8bfb5d04ee2939ec9e85a736"), looks := false }, kinds := [], alts := [], laidByText := true, laidKinds := [.data, .data], laidTests := true, laidLooks := .later }
def IndexIsCardSaid : Prop := Claim7.holds Tryd.pinned (.plain (OpenSpec.ofChange indexIsSpec)) indexIsCard

/-- THE TIED CARD OF 'cordwoodlaw05.IndexBack'. -/
def indexBackCard : Claim7 := { stood := { row := indexBackRow, standIns := [], harness := (true, "986e814667793ec850ab0042911aac6c33b6951b8bfb5d04ee2939ec9e85a736"), looks := false }, kinds := [], alts := [], laidByText := true, laidKinds := [.data, .data], laidTests := true, laidLooks := .later }
def IndexBackCardSaid : Prop := Claim7.holds Tryd.pinned (.plain (OpenSpec.ofChange indexBackSpec)) indexBackCard

/-- THE TIED CARD OF 'cordwoodlaw05.IndexUp'. -/
def indexUpCard : Claim7 := { stood := { row := indexUpRow, standIns := [], harness := (true, "986e814667793ec850ab0042911aac6c33b6951b8bfb5d04ee2939ec9e85a736"), looks := false }, kinds := [], alts := [], laidByText := true, laidKinds := [.data, .data], laidTests := true, laidLooks := .later }
def IndexUpCardSaid : Prop := Claim7.holds Tryd.pinned (.plain (OpenSpec.ofChange indexUpSpec)) indexUpCard

/-- THE TIED CARD OF 'cordwoodlaw05.IndexGrows'. -/
def indexGrowsCard : Claim7 := { stood := { row := indexGrowsRow, standIns := [], harness := (true, "986e814667793ec850ab0042911aac6c33b6951b8bfb5d04ee2939ec9e85a736"), looks := false }, kinds := [], alts := [], laidByText := true, laidKinds := [.data, .data], laidTests := true, laidLooks := .later }
def IndexGrowsCardSaid : Prop := Claim7.holds Tryd.pinned (.plain (OpenSpec.ofChange indexGrowsSpec)) indexGrowsCard

/-- THE TIED CARD OF 'cordwoodlaw05.IndexLeaves'. -/
def indexLeavesCard : Claim7 := { stood := { row := indexLeavesRow, standIns := [], harness := (true, "986e814667793ec850ab0042911aac6c33b6951b8bfb5d04ee2939ec9e85a736"), looks := false }, kinds := [], alts := [], laidByText := true, laidKinds := [.data, .data], laidTests := true, laidLooks := .later }
def IndexLeavesCardSaid : Prop := Claim7.holds Tryd.pinned (.plain (OpenSpec.ofChange indexLeavesSpec)) indexLeavesCard

/-- THE TIED CARD OF 'cordwoodlaw05.IndexSame'. -/
def indexSameCard : Claim7 := { stood := { row := indexSameRow, standIns := [], harness := (true, "986e814667793ec850ab0042911aac6c33b6951b8bfb5d04ee2939ec9e85a736"), looks := false }, kinds := [], alts := [], laidByText := true, laidKinds := [.data, .data], laidTests := true, laidLooks := .later }
def IndexSameCardSaid : Prop := Claim7.holds Tryd.pinned (.plain (OpenSpec.ofChange indexSameSpec)) indexSameCard

/-- THE SECOND FORM's CARD OF 'cordwoodlaw05.IndexIs'. -/
def indexIsUptoCard : Claim7 := { stood := { row := indexIsUptoRow, standIns := [], harness := (true, "986e814667793ec850ab0042911aac6c33b6951b8bfb5d04ee2939ec9e85a736"), looks := false }, kinds := [], alts := [], laidByText := true, laidKinds := [.data, .data], laidTests := true, laidLooks := .later }
def IndexIsUptoCardSaid : Prop := Claim7.holds Tryd.pinned (.plain (OpenSpec.upto indexIsSpec)) indexIsUptoCard

/-- THE SECOND FORM's CARD OF 'cordwoodlaw05.IndexBack'. -/
def indexBackUptoCard : Claim7 := { stood := { row := indexBackUptoRow, standIns := [], harness := (true, "986e814667793ec850ab0042911aac6c33b6951b8bfb5d04ee2939ec9e85a736"), looks := false }, kinds := [], alts := [], laidByText := true, laidKinds := [.data, .data], laidTests := true, laidLooks := .later }
def IndexBackUptoCardSaid : Prop := Claim7.holds Tryd.pinned (.plain (OpenSpec.upto indexBackSpec)) indexBackUptoCard

/-- THE SECOND FORM's CARD OF 'cordwoodlaw05.IndexUp'. -/
def indexUpUptoCard : Claim7 := { stood := { row := indexUpUptoRow, standIns := [], harness := (true, "986e814667793ec850ab0042911aac6c33b6951b8bfb5d04ee2939ec9e85a736"), looks := false }, kinds := [], alts := [], laidByText := true, laidKinds := [.data, .data], laidTests := true, laidLooks := .later }
def IndexUpUptoCardSaid : Prop := Claim7.holds Tryd.pinned (.plain (OpenSpec.upto indexUpSpec)) indexUpUptoCard

/-- THE SECOND FORM's CARD OF 'cordwoodlaw05.IndexGrows'. -/
def indexGrowsUptoCard : Claim7 := { stood := { row := indexGrowsUptoRow, standIns := [], harness := (true, "986e814667793ec850ab0042911aac6c33b6951b8bfb5d04ee2939ec9e85a736"), looks := false }, kinds := [], alts := [], laidByText := true, laidKinds := [.data, .data], laidTests := true, laidLooks := .later }
def IndexGrowsUptoCardSaid : Prop := Claim7.holds Tryd.pinned (.plain (OpenSpec.upto indexGrowsSpec)) indexGrowsUptoCard

/-- THE SECOND FORM's CARD OF 'cordwoodlaw05.IndexLeaves'. -/
def indexLeavesUptoCard : Claim7 := { stood := { row := indexLeavesUptoRow, standIns := [], harness := (true, "986e814667793ec850ab0042911aac6c33b6951b8bfb5d04ee2939ec9e85a736"), looks := false }, kinds := [], alts := [], laidByText := true, laidKinds := [.data, .data], laidTests := true, laidLooks := .later }
def IndexLeavesUptoCardSaid : Prop := Claim7.holds Tryd.pinned (.plain (OpenSpec.upto indexLeavesSpec)) indexLeavesUptoCard

/-- THE SECOND FORM's CARD OF 'cordwoodlaw05.IndexSame'. -/
def indexSameUptoCard : Claim7 := { stood := { row := indexSameUptoRow, standIns := [], harness := (true, "986e814667793ec850ab0042911aac6c33b6951b8bfb5d04ee2939ec9e85a736"), looks := false }, kinds := [], alts := [], laidByText := true, laidKinds := [.data, .data], laidTests := true, laidLooks := .later }
def IndexSameUptoCardSaid : Prop := Claim7.holds Tryd.pinned (.plain (OpenSpec.upto indexSameSpec)) indexSameUptoCard
end Rows
end Go.Proofs.YtbobdjimilcohaaDoor
