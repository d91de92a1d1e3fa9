/-
  DERIVED. GIVEN WITH THE SEED: THE CARDS: each row of YthfmllgflnideaaGreatDoorRows.lean that lists a variable, with what it lists TIED to the program's text (the seventh form; the later family's looks); each row that meets fmt, with fmt's text TOLD by the authors' own Lean function (tested against real Go, not proved from fmt's source: count such statements apart). THE CARD IS WHAT COUNTS. Prove the row's statement (the work); the ties are given (YthfmllgflnideaaGreatDoorTie.lean); close each card by the builder's one call (the guide's Derived/Test/ToyasCard.lean, 'card_holds'). Laid BY PROGRAM, IN A SANDBOX (cutbox-door.mjs). By AI agents, Wed Nov 11 2026. No macro, syntax, notation, axiom, sorry.
-/
import Derived.Test.YthfmllgflnideaaGreatDoorRows
import GoSem.ClaimSeven
namespace Go.Proofs.YthfmllgflnideaaGreatDoor
namespace Rows

/-- THE TIED CARD OF 'firebelllaw14.TreeParses'. -/
def treeParsesCard : Claim7 := { stood := { row := treeParsesRow, standIns := [], harness := (true, "37c142a07847b448b267a934175d4b08a188414a75fe67bc5c5501eb6d316ffa"), looks := true }, kinds := [], alts := [], laidByText := true, laidKinds := [.data, .pinned], laidTests := true, laidLooks := .later }
def TreeParsesCardSaid : Prop := Claim7.holds Tryz.pinned (.plain (OpenSpec.ofChange treeParsesSpec)) treeParsesCard

/-- THE TIED CARD OF 'firebelllaw14.TreeTokens'. -/
def treeTokensCard : Claim7 := { stood := { row := treeTokensRow, standIns := [], harness := (true, "37c142a07847b448b267a934175d4b08a188414a75fe67bc5c5501eb6d316ffa"), looks := true }, kinds := [], alts := [], laidByText := true, laidKinds := [.data, .pinned], laidTests := true, laidLooks := .later }
def TreeTokensCardSaid : Prop := Claim7.holds Tryz.pinned (.plain (OpenSpec.ofChange treeTokensSpec)) treeTokensCard

/-- THE SECOND FORM's CARD OF 'firebelllaw14.TreeParses'. -/
def treeParsesUptoCard : Claim7 := { stood := { row := treeParsesUptoRow, standIns := [], harness := (true, "37c142a07847b448b267a934175d4b08a188414a75fe67bc5c5501eb6d316ffa"), looks := true }, kinds := [], alts := [], laidByText := true, laidKinds := [.data, .pinned], laidTests := true, laidLooks := .later }
def TreeParsesUptoCardSaid : Prop := Claim7.holds Tryz.pinned (.plain (OpenSpec.upto treeParsesSpec)) treeParsesUptoCard

/-- THE SECOND FORM's CARD OF 'firebelllaw14.TreeTokens'. -/
def treeTokensUptoCard : Claim7 := { stood := { row := treeTokensUptoRow, standIns := [], harness := (true, "37c142a07847b448b267a934175d4b08a188414a75fe67bc5c5501eb6d316ffa"), looks := true }, kinds := [], alts := [], laidByText := true, laidKinds := [.data, .pinned], laidTests := true, laidLooks := .later }
def TreeTokensUptoCardSaid : Prop := Claim7.holds Tryz.pinned (.plain (OpenSpec.upto treeTokensSpec)) treeTokensUptoCard
end Rows
end Go.Proofs.YthfmllgflnideaaGreatDoor
