/-
  DERIVED. GIVEN WITH THE SEED: THE CARDS: each row of YtfbnallapgokeaaGreatDoorRows.lean that lists a variable, with what it lists TIED to the program's text (the seventh form; the later family's looks); each row that meets fmt, with fmt's text TOLD by the authors' own Lean function (tested against real Go, not proved from fmt's source: count such statements apart). THE CARD IS WHAT COUNTS. Prove the row's statement (the work); the ties are given (YtfbnallapgokeaaGreatDoorTie.lean); close each card by the builder's one call (the guide's Derived/Test/ToyasCard.lean, 'card_holds'). Laid BY PROGRAM, IN A SANDBOX (cutbox-door.mjs). By AI agents, Wed Nov 11 2026. No macro, syntax, notation, axiom, sorry.
-/
import Derived.Test.YtfbnallapgokeaaGreatDoorRows
import GoSem.ClaimSeven
namespace Go.Proofs.YtfbnallapgokeaaGreatDoor
namespace Rows

/-- THE TIED CARD OF 'cordwoodlaw13.ChainIs'. -/
def chainIsCard : Claim7 := { stood := { row := chainIsRow, standIns := [], harness := (true, "39d4d074d5b0cd4ad6adc7a8c9e3248b125ec8028beeed255536085a039ba788"), looks := false }, kinds := [], alts := [], laidByText := true, laidKinds := [.data, .data, .data], laidTests := true, laidLooks := .later }
def ChainIsCardSaid : Prop := Claim7.holds Tryz.pinned (.plain (OpenSpec.ofChange chainIsSpec)) chainIsCard

/-- THE TIED CARD OF 'cordwoodlaw13.ChainPlanned'. -/
def chainPlannedCard : Claim7 := { stood := { row := chainPlannedRow, standIns := [], harness := (true, "39d4d074d5b0cd4ad6adc7a8c9e3248b125ec8028beeed255536085a039ba788"), looks := false }, kinds := [], alts := [], laidByText := true, laidKinds := [.data, .data, .data], laidTests := true, laidLooks := .later }
def ChainPlannedCardSaid : Prop := Claim7.holds Tryz.pinned (.plain (OpenSpec.ofChange chainPlannedSpec)) chainPlannedCard

/-- THE TIED CARD OF 'cordwoodlaw13.ChainLinks'. -/
def chainLinksCard : Claim7 := { stood := { row := chainLinksRow, standIns := [], harness := (true, "39d4d074d5b0cd4ad6adc7a8c9e3248b125ec8028beeed255536085a039ba788"), looks := false }, kinds := [], alts := [], laidByText := true, laidKinds := [.data, .data, .data], laidTests := true, laidLooks := .later }
def ChainLinksCardSaid : Prop := Claim7.holds Tryz.pinned (.plain (OpenSpec.ofChange chainLinksSpec)) chainLinksCard

/-- THE TIED CARD OF 'cordwoodlaw13.ChainAll'. -/
def chainAllCard : Claim7 := { stood := { row := chainAllRow, standIns := [], harness := (true, "39d4d074d5b0cd4ad6adc7a8c9e3248b125ec8028beeed255536085a039ba788"), looks := false }, kinds := [], alts := [], laidByText := true, laidKinds := [.data, .data, .data], laidTests := true, laidLooks := .later }
def ChainAllCardSaid : Prop := Claim7.holds Tryz.pinned (.plain (OpenSpec.ofChange chainAllSpec)) chainAllCard

/-- THE TIED CARD OF 'cordwoodlaw13.ChainKeys'. -/
def chainKeysCard : Claim7 := { stood := { row := chainKeysRow, standIns := [], harness := (true, "39d4d074d5b0cd4ad6adc7a8c9e3248b125ec8028beeed255536085a039ba788"), looks := false }, kinds := [], alts := [], laidByText := true, laidKinds := [.data, .data, .data], laidTests := true, laidLooks := .later }
def ChainKeysCardSaid : Prop := Claim7.holds Tryz.pinned (.plain (OpenSpec.ofChange chainKeysSpec)) chainKeysCard

/-- THE TIED CARD OF 'cordwoodlaw13.ChainFresh'. -/
def chainFreshCard : Claim7 := { stood := { row := chainFreshRow, standIns := [], harness := (true, "39d4d074d5b0cd4ad6adc7a8c9e3248b125ec8028beeed255536085a039ba788"), looks := false }, kinds := [], alts := [], laidByText := true, laidKinds := [.data, .data, .data], laidTests := true, laidLooks := .later }
def ChainFreshCardSaid : Prop := Claim7.holds Tryz.pinned (.plain (OpenSpec.ofChange chainFreshSpec)) chainFreshCard

/-- THE TIED CARD OF 'cordwoodlaw13.ChainApart'. -/
def chainApartCard : Claim7 := { stood := { row := chainApartRow, standIns := [], harness := (true, "39d4d074d5b0cd4ad6adc7a8c9e3248b125ec8028beeed255536085a039ba788"), looks := false }, kinds := [], alts := [], laidByText := true, laidKinds := [.data, .data, .data], laidTests := true, laidLooks := .later }
def ChainApartCardSaid : Prop := Claim7.holds Tryz.pinned (.plain (OpenSpec.ofChange chainApartSpec)) chainApartCard

/-- THE SECOND FORM's CARD OF 'cordwoodlaw13.ChainIs'. -/
def chainIsUptoCard : Claim7 := { stood := { row := chainIsUptoRow, standIns := [], harness := (true, "39d4d074d5b0cd4ad6adc7a8c9e3248b125ec8028beeed255536085a039ba788"), looks := false }, kinds := [], alts := [], laidByText := true, laidKinds := [.data, .data, .data], laidTests := true, laidLooks := .later }
def ChainIsUptoCardSaid : Prop := Claim7.holds Tryz.pinned (.plain (OpenSpec.upto chainIsSpec)) chainIsUptoCard

/-- THE SECOND FORM's CARD OF 'cordwoodlaw13.ChainPlanned'. -/
def chainPlannedUptoCard : Claim7 := { stood := { row := chainPlannedUptoRow, standIns := [], harness := (true, "39d4d074d5b0cd4ad6adc7a8c9e3248b125ec8028beeed255536085a039ba788"), looks := false }, kinds := [], alts := [], laidByText := true, laidKinds := [.data, .data, .data], laidTests := true, laidLooks := .later }
def ChainPlannedUptoCardSaid : Prop := Claim7.holds Tryz.pinned (.plain (OpenSpec.upto chainPlannedSpec)) chainPlannedUptoCard

/-- THE SECOND FORM's CARD OF 'cordwoodlaw13.ChainLinks'. -/
def chainLinksUptoCard : Claim7 := { stood := { row := chainLinksUptoRow, standIns := [], harness := (true, "39d4d074d5b0cd4ad6adc7a8c9e3248b125ec8028beeed255536085a039ba788"), looks := false }, kinds := [], alts := [], laidByText := true, laidKinds := [.data, .data, .data], laidTests := true, laidLooks := .later }
def ChainLinksUptoCardSaid : Prop := Claim7.holds Tryz.pinned (.plain (OpenSpec.upto chainLinksSpec)) chainLinksUptoCard

/-- THE SECOND FORM's CARD OF 'cordwoodlaw13.ChainAll'. -/
def chainAllUptoCard : Claim7 := { stood := { row := chainAllUptoRow, standIns := [], harness := (true, "39d4d074d5b0cd4ad6adc7a8c9e3248b125ec8028beeed255536085a039ba788"), looks := false }, kinds := [], alts := [], laidByText := true, laidKinds := [.data, .data, .data], laidTests := true, laidLooks := .later }
def ChainAllUptoCardSaid : Prop := Claim7.holds Tryz.pinned (.plain (OpenSpec.upto chainAllSpec)) chainAllUptoCard

/-- THE SECOND FORM's CARD OF 'cordwoodlaw13.ChainKeys'. -/
def chainKeysUptoCard : Claim7 := { stood := { row := chainKeysUptoRow, standIns := [], harness := (true, "39d4d074d5b0cd4ad6adc7a8c9e3248b125ec8028beeed255536085a039ba788"), looks := false }, kinds := [], alts := [], laidByText := true, laidKinds := [.data, .data, .data], laidTests := true, laidLooks := .later }
def ChainKeysUptoCardSaid : Prop := Claim7.holds Tryz.pinned (.plain (OpenSpec.upto chainKeysSpec)) chainKeysUptoCard

/-- THE SECOND FORM's CARD OF 'cordwoodlaw13.ChainFresh'. -/
def chainFreshUptoCard : Claim7 := { stood := { row := chainFreshUptoRow, standIns := [], harness := (true, "39d4d074d5b0cd4ad6adc7a8c9e3248b125ec8028beeed255536085a039ba788"), looks := false }, kinds := [], alts := [], laidByText := true, laidKinds := [.data, .data, .data], laidTests := true, laidLooks := .later }
def ChainFreshUptoCardSaid : Prop := Claim7.holds Tryz.pinned (.plain (OpenSpec.upto chainFreshSpec)) chainFreshUptoCard

/-- THE SECOND FORM's CARD OF 'cordwoodlaw13.ChainApart'. -/
def chainApartUptoCard : Claim7 := { stood := { row := chainApartUptoRow, standIns := [], harness := (true, "39d4d074d5b0cd4ad6adc7a8c9e3248b125ec8028beeed255536085a039ba788"), looks := false }, kinds := [], alts := [], laidByText := true, laidKinds := [.data, .data, .data], laidTests := true, laidLooks := .later }
def ChainApartUptoCardSaid : Prop := Claim7.holds Tryz.pinned (.plain (OpenSpec.upto chainApartSpec)) chainApartUptoCard
end Rows
end Go.Proofs.YtfbnallapgokeaaGreatDoor
