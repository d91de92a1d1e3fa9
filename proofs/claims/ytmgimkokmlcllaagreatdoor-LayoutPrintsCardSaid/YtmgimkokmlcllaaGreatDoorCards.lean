/-
  DERIVED. GIVEN WITH THE SEED: THE CARDS: each row of YtmgimkokmlcllaaGreatDoorRows.lean that lists a variable, with what it lists TIED to the program's text (the seventh form; the later family's looks); each row that meets fmt, with fmt's text TOLD by the authors' own Lean function (tested against real Go, not proved from fmt's source: count such statements apart). THE CARD IS WHAT COUNTS. Prove the row's statement (the work); the ties are given (YtmgimkokmlcllaaGreatDoorTie.lean); close each card by the builder's one call (the guide's Derived/Test/ToyasCard.lean, 'card_holds'). Laid BY PROGRAM, IN A SANDBOX (cutbox-door.mjs). By AI agents, Wed Nov 11 2026. No macro, syntax, notation, axiom, sorry.
-/
import Derived.Test.YtmgimkokmlcllaaGreatDoorRows
import GoSem.ClaimSeven
namespace Go.Proofs.YtmgimkokmlcllaaGreatDoor
namespace Rows

/-- THE TIED CARD OF 'firebelllaw15.LayoutPrints'. -/
def layoutPrintsCard : Claim7 := { stood := { row := layoutPrintsRow, standIns := [], harness := (true, "06c14ee99058da337913228477ea3fb850e0ad2982dda974907ce2427b41edc8"), looks := true }, kinds := [], alts := [], laidByText := true, laidKinds := [.data, .data, .data, .data, .pinned], laidTests := true, laidLooks := .later }
def LayoutPrintsCardSaid : Prop := Claim7.holds Tryz.pinned (.plain (OpenSpec.ofChange layoutPrintsSpec)) layoutPrintsCard

/-- THE TIED CARD OF 'firebelllaw15.LayoutAgain'. -/
def layoutAgainCard : Claim7 := { stood := { row := layoutAgainRow, standIns := [], harness := (true, "06c14ee99058da337913228477ea3fb850e0ad2982dda974907ce2427b41edc8"), looks := true }, kinds := [], alts := [], laidByText := true, laidKinds := [.data, .data, .data, .data, .pinned], laidTests := true, laidLooks := .later }
def LayoutAgainCardSaid : Prop := Claim7.holds Tryz.pinned (.plain (OpenSpec.ofChange layoutAgainSpec)) layoutAgainCard

/-- THE TIED CARD OF 'firebelllaw15.LayoutTells'. -/
def layoutTellsCard : Claim7 := { stood := { row := layoutTellsRow, standIns := [], harness := (true, "06c14ee99058da337913228477ea3fb850e0ad2982dda974907ce2427b41edc8"), looks := true }, kinds := [], alts := [], laidByText := true, laidKinds := [.data, .data, .data, .data, .pinned], laidTests := true, laidLooks := .later }
def LayoutTellsCardSaid : Prop := Claim7.holds Tryz.pinned (.plain (OpenSpec.ofChange layoutTellsSpec)) layoutTellsCard

/-- THE SECOND FORM's CARD OF 'firebelllaw15.LayoutPrints'. -/
def layoutPrintsUptoCard : Claim7 := { stood := { row := layoutPrintsUptoRow, standIns := [], harness := (true, "06c14ee99058da337913228477ea3fb850e0ad2982dda974907ce2427b41edc8"), looks := true }, kinds := [], alts := [], laidByText := true, laidKinds := [.data, .data, .data, .data, .pinned], laidTests := true, laidLooks := .later }
def LayoutPrintsUptoCardSaid : Prop := Claim7.holds Tryz.pinned (.plain (OpenSpec.upto layoutPrintsSpec)) layoutPrintsUptoCard

/-- THE SECOND FORM's CARD OF 'firebelllaw15.LayoutAgain'. -/
def layoutAgainUptoCard : Claim7 := { stood := { row := layoutAgainUptoRow, standIns := [], harness := (true, "06c14ee99058da337913228477ea3fb850e0ad2982dda974907ce2427b41edc8"), looks := true }, kinds := [], alts := [], laidByText := true, laidKinds := [.data, .data, .data, .data, .pinned], laidTests := true, laidLooks := .later }
def LayoutAgainUptoCardSaid : Prop := Claim7.holds Tryz.pinned (.plain (OpenSpec.upto layoutAgainSpec)) layoutAgainUptoCard

/-- THE SECOND FORM's CARD OF 'firebelllaw15.LayoutTells'. -/
def layoutTellsUptoCard : Claim7 := { stood := { row := layoutTellsUptoRow, standIns := [], harness := (true, "06c14ee99058da337913228477ea3fb850e0ad2982dda974907ce2427b41edc8"), looks := true }, kinds := [], alts := [], laidByText := true, laidKinds := [.data, .data, .data, .data, .pinned], laidTests := true, laidLooks := .later }
def LayoutTellsUptoCardSaid : Prop := Claim7.holds Tryz.pinned (.plain (OpenSpec.upto layoutTellsSpec)) layoutTellsUptoCard
end Rows
end Go.Proofs.YtmgimkokmlcllaaGreatDoor
