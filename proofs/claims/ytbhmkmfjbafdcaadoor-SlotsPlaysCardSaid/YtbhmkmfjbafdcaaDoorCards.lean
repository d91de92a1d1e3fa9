/-
  DERIVED. GIVEN WITH THE SEED: THE CARDS: each row of YtbhmkmfjbafdcaaDoorRows.lean that lists a variable, with what it lists TIED to the program's text (the seventh form; the later family's looks); each row that meets fmt, with fmt's text TOLD by the authors' own Lean function (tested against real Go, not proved from fmt's source: count such statements apart). THE CARD IS WHAT COUNTS. Prove the row's statement (the work); the ties are given (YtbhmkmfjbafdcaaDoorTie.lean); close each card by the builder's one call (the guide's Derived/Test/ToyasCard.lean, 'card_holds'). Laid BY PROGRAM, IN A SANDBOX (cutbox-door.mjs). By AI agents, Wed Nov 11 2026. No macro, syntax, notation, axiom, sorry.
-/
import Derived.Test.YtbhmkmfjbafdcaaDoorRows
import GoSem.ClaimSeven
namespace Go.Proofs.YtbhmkmfjbafdcaaDoor
namespace Rows

/-- THE TIED CARD OF 'firebelllaw11.SlotsPlays'. -/
def slotsPlaysCard : Claim7 := { stood := { row := slotsPlaysRow, standIns := [], harness := (true, "db1f338b95bd4e19404b0eb5b37024884d4d91c46bb69739493484e3c8709a92"), looks := false }, kinds := [], alts := [], laidByText := true, laidKinds := [.data], laidTests := true, laidLooks := .later }
def SlotsPlaysCardSaid : Prop := Claim7.holds Tryd.pinned (.plain (OpenSpec.ofChange slotsPlaysSpec)) slotsPlaysCard

/-- THE TIED CARD OF 'firebelllaw11.SlotsLasts'. -/
def slotsLastsCard : Claim7 := { stood := { row := slotsLastsRow, standIns := [], harness := (true, "db1f338b95bd4e19404b0eb5b37024884d4d91c46bb69739493484e3c8709a92"), looks := false }, kinds := [], alts := [], laidByText := true, laidKinds := [.data], laidTests := true, laidLooks := .later }
def SlotsLastsCardSaid : Prop := Claim7.holds Tryd.pinned (.plain (OpenSpec.ofChange slotsLastsSpec)) slotsLastsCard

/-- THE TIED CARD OF 'firebelllaw11.SlotsReads'. -/
def slotsReadsCard : Claim7 := { stood := { row := slotsReadsRow, standIns := [], harness := (true, "db1f338b95bd4e19404b0eb5b37024884d4d91c46bb69739493484e3c8709a92"), looks := false }, kinds := [], alts := [], laidByText := true, laidKinds := [.data], laidTests := true, laidLooks := .later }
def SlotsReadsCardSaid : Prop := Claim7.holds Tryd.pinned (.plain (OpenSpec.ofChange slotsReadsSpec)) slotsReadsCard

/-- THE SECOND FORM's CARD OF 'firebelllaw11.SlotsPlays'. -/
def slotsPlaysUptoCard : Claim7 := { stood := { row := slotsPlaysUptoRow, standIns := [], harness := (true, "db1f338b95bd4e19404b0eb5b37024884d4d91c46bb69739493484e3c8709a92"), looks := false }, kinds := [], alts := [], laidByText := true, laidKinds := [.data], laidTests := true, laidLooks := .later }
def SlotsPlaysUptoCardSaid : Prop := Claim7.holds Tryd.pinned (.plain (OpenSpec.upto slotsPlaysSpec)) slotsPlaysUptoCard

/-- THE SECOND FORM's CARD OF 'firebelllaw11.SlotsLasts'. -/
def slotsLastsUptoCard : Claim7 := { stood := { row := slotsLastsUptoRow, standIns := [], harness := (true, "db1f338b95bd4e19404b0eb5b37024884d4d91c46bb69739493484e3c8709a92"), looks := false }, kinds := [], alts := [], laidByText := true, laidKinds := [.data], laidTests := true, laidLooks := .later }
def SlotsLastsUptoCardSaid : Prop := Claim7.holds Tryd.pinned (.plain (OpenSpec.upto slotsLastsSpec)) slotsLastsUptoCard

/-- THE SECOND FORM's CARD OF 'firebelllaw11.SlotsReads'. -/
def slotsReadsUptoCard : Claim7 := { stood := { row := slotsReadsUptoRow, standIns := [], harness := (true, "db1f338b95bd4e19404b0eb5b37024884d4d91c46bb69739493484e3c8709a92"), looks := false }, kinds := [], alts := [], laidByText := true, laidKinds := [.data], laidTests := true, laidLooks := .later }
def SlotsReadsUptoCardSaid : Prop := Claim7.holds Tryd.pinned (.plain (OpenSpec.upto slotsReadsSpec)) slotsReadsUptoCard
end Rows
end Go.Proofs.YtbhmkmfjbafdcaaDoor
