/-
  DERIVED. GIVEN WITH THE SEED: THE CARDS: each row of YtjcnfmmekpiliaaDoorRows.lean that lists a variable, with what it lists TIED to the program's text (the seventh form; the later family's looks); each row that meets fmt, with fmt's text TOLD by the authors' own Lean function (tested against real Go, not proved from fmt's source: count such statements apart). THE CARD IS WHAT COUNTS. Prove the row's statement (the work); the ties are given (YtjcnfmmekpiliaaDoorTie.lean); close each card by the builder's one call (the guide's Derived/Test/ToyasCard.lean, 'card_holds'). Laid BY PROGRAM, IN A SANDBOX (cutbox-door.mjs). By AI agents, Wed Nov 11 2026. No macro, syntax, notation, axiom, sorry.
-/
import Derived.Test.YtjcnfmmekpiliaaDoorRows
import GoSem.ClaimSeven
namespace Go.Proofs.YtjcnfmmekpiliaaDoor
namespace Rows

/-- THE TIED CARD OF 'cordwoodlaw11.ResolveIs'. -/
def resolveIsCard : Claim7 := { stood := { row := resolveIsRow, standIns := [], harness := (true, "745f88fa1192a167c85cb461c44a3d60e2e72f95eb43173100ecfcc1930e7324"), looks := false }, kinds := [], alts := [], laidByText := true, laidKinds := [.data, .data], laidTests := true, laidLooks := .later }
def ResolveIsCardSaid : Prop := Claim7.holds Tryd.pinned (.plain (OpenSpec.ofChange resolveIsSpec)) resolveIsCard

/-- THE TIED CARD OF 'cordwoodlaw11.ResolveCovers'. -/
def resolveCoversCard : Claim7 := { stood := { row := resolveCoversRow, standIns := [], harness := (true, "745f88fa1192a167c85cb461c44a3d60e2e72f95eb43173100ecfcc1930e7324"), looks := false }, kinds := [], alts := [], laidByText := true, laidKinds := [.data, .data], laidTests := true, laidLooks := .later }
def ResolveCoversCardSaid : Prop := Claim7.holds Tryd.pinned (.plain (OpenSpec.ofChange resolveCoversSpec)) resolveCoversCard

/-- THE TIED CARD OF 'cordwoodlaw11.ResolveBoth'. -/
def resolveBothCard : Claim7 := { stood := { row := resolveBothRow, standIns := [], harness := (true, "745f88fa1192a167c85cb461c44a3d60e2e72f95eb43173100ecfcc1930e7324"), looks := false }, kinds := [], alts := [], laidByText := true, laidKinds := [.data, .data], laidTests := true, laidLooks := .later }
def ResolveBothCardSaid : Prop := Claim7.holds Tryd.pinned (.plain (OpenSpec.ofChange resolveBothSpec)) resolveBothCard

/-- THE TIED CARD OF 'cordwoodlaw11.ResolveFilter'. -/
def resolveFilterCard : Claim7 := { stood := { row := resolveFilterRow, standIns := [], harness := (true, "745f88fa1192a167c85cb461c44a3d60e2e72f95eb43173100ecfcc1930e7324"), looks := false }, kinds := [], alts := [], laidByText := true, laidKinds := [.data, .data], laidTests := true, laidLooks := .later }
def ResolveFilterCardSaid : Prop := Claim7.holds Tryd.pinned (.plain (OpenSpec.ofChange resolveFilterSpec)) resolveFilterCard

/-- THE TIED CARD OF 'cordwoodlaw11.ResolveOnce'. -/
def resolveOnceCard : Claim7 := { stood := { row := resolveOnceRow, standIns := [], harness := (true, "745f88fa1192a167c85cb461c44a3d60e2e72f95eb43173100ecfcc1930e7324"), looks := false }, kinds := [], alts := [], laidByText := true, laidKinds := [.data, .data], laidTests := true, laidLooks := .later }
def ResolveOnceCardSaid : Prop := Claim7.holds Tryd.pinned (.plain (OpenSpec.ofChange resolveOnceSpec)) resolveOnceCard

/-- THE TIED CARD OF 'cordwoodlaw11.ResolveGrows'. -/
def resolveGrowsCard : Claim7 := { stood := { row := resolveGrowsRow, standIns := [], harness := (true, "745f88fa1192a167c85cb461c44a3d60e2e72f95eb43173100ecfcc1930e7324"), looks := false }, kinds := [], alts := [], laidByText := true, laidKinds := [.data, .data], laidTests := true, laidLooks := .later }
def ResolveGrowsCardSaid : Prop := Claim7.holds Tryd.pinned (.plain (OpenSpec.ofChange resolveGrowsSpec)) resolveGrowsCard

/-- THE SECOND FORM's CARD OF 'cordwoodlaw11.ResolveIs'. -/
def resolveIsUptoCard : Claim7 := { stood := { row := resolveIsUptoRow, standIns := [], harness := (true, "745f88fa1192a167c85cb461c44a3d60e2e72f95eb43173100ecfcc1930e7324"), looks := false }, kinds := [], alts := [], laidByText := true, laidKinds := [.data, .data], laidTests := true, laidLooks := .later }
def ResolveIsUptoCardSaid : Prop := Claim7.holds Tryd.pinned (.plain (OpenSpec.upto resolveIsSpec)) resolveIsUptoCard

/-- THE SECOND FORM's CARD OF 'cordwoodlaw11.ResolveCovers'. -/
def resolveCoversUptoCard : Claim7 := { stood := { row := resolveCoversUptoRow, standIns := [], harness := (true, "745f88fa1192a167c85cb461c44a3d60e2e72f95eb43173100ecfcc1930e7324"), looks := false }, kinds := [], alts := [], laidByText := true, laidKinds := [.data, .data], laidTests := true, laidLooks := .later }
def ResolveCoversUptoCardSaid : Prop := Claim7.holds Tryd.pinned (.plain (OpenSpec.upto resolveCoversSpec)) resolveCoversUptoCard

/-- THE SECOND FORM's CARD OF 'cordwoodlaw11.ResolveBoth'. -/
def resolveBothUptoCard : Claim7 := { stood := { row := resolveBothUptoRow, standIns := [], harness := (true, "745f88fa1192a167c85cb461c44a3d60e2e72f95eb43173100ecfcc1930e7324"), looks := false }, kinds := [], alts := [], laidByText := true, laidKinds := [.data, .data], laidTests := true, laidLooks := .later }
def ResolveBothUptoCardSaid : Prop := Claim7.holds Tryd.pinned (.plain (OpenSpec.upto resolveBothSpec)) resolveBothUptoCard

/-- THE SECOND FORM's CARD OF 'cordwoodlaw11.ResolveFilter'. -/
def resolveFilterUptoCard : Claim7 := { stood := { row := resolveFilterUptoRow, standIns := [], harness := (true, "745f88fa1192a167c85cb461c44a3d60e2e72f95eb43173100ecfcc1930e7324"), looks := false }, kinds := [], alts := [], laidByText := true, laidKinds := [.data, .data], laidTests := true, laidLooks := .later }
def ResolveFilterUptoCardSaid : Prop := Claim7.holds Tryd.pinned (.plain (OpenSpec.upto resolveFilterSpec)) resolveFilterUptoCard

/-- THE SECOND FORM's CARD OF 'cordwoodlaw11.ResolveOnce'. -/
def resolveOnceUptoCard : Claim7 := { stood := { row := resolveOnceUptoRow, standIns := [], harness := (true, "745f88fa1192a167c85cb461c44a3d60e2e72f95eb43173100ecfcc1930e7324"), looks := false }, kinds := [], alts := [], laidByText := true, laidKinds := [.data, .data], laidTests := true, laidLooks := .later }
def ResolveOnceUptoCardSaid : Prop := Claim7.holds Tryd.pinned (.plain (OpenSpec.upto resolveOnceSpec)) resolveOnceUptoCard

/-- THE SECOND FORM's CARD OF 'cordwoodlaw11.ResolveGrows'. -/
def resolveGrowsUptoCard : Claim7 := { stood := { row := resolveGrowsUptoRow, standIns := [], harness := (true, "745f88fa1192a167c85cb461c44a3d60e2e72f95eb43173100ecfcc1930e7324"), looks := false }, kinds := [], alts := [], laidByText := true, laidKinds := [.data, .data], laidTests := true, laidLooks := .later }
def ResolveGrowsUptoCardSaid : Prop := Claim7.holds Tryd.pinned (.plain (OpenSpec.upto resolveGrowsSpec)) resolveGrowsUptoCard
end Rows
end Go.Proofs.YtjcnfmmekpiliaaDoor
