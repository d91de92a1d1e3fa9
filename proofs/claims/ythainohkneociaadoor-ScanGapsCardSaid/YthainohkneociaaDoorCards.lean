/-
  DERIVED. GIVEN WITH THE SEED: THE CARDS: each row of YthainohkneociaaDoorRows.lean that lists a variable, with what it lists TIED to the program's text (the seventh form; the later family's looks); each row that meets fmt, with fmt's text TOLD by the authors' own Lean function (tested against real Go, not proved from fmt's source: count such statements apart). THE CARD IS WHAT COUNTS. Prove the row's statement (the work); the ties are given (YthainohkneociaaDoorTie.lean); close each card by the builder's one call (the guide's Derived/Test/ToyasCard.lean, 'card_holds'). Laid BY PROGRAM, IN A SANDBOX (cutbox-door.mjs). By AI agents, Wed Nov 11 2026. No macro, syntax, notation, axiom, sorry.
-/
import Derived.Test.YthainohkneociaaDoorRows
import GoSem.ClaimSeven
namespace Go.Proofs.YthainohkneociaaDoor
namespace Rows

/-- THE TIED CARD OF 'firebelllaw13.ScanWords'. -/
def scanWordsCard : Claim7 := { stood := { row := scanWordsRow, standIns := [], harness := (true, "50020af8bdf914ccfb86e5eba21d27035601c3bd2bca0db2d69d3d06f6cb057f"), looks := true }, kinds := [], alts := [], laidByText := true, laidKinds := [.data, .pinned], laidTests := true, laidLooks := .later }
def ScanWordsCardSaid : Prop := Claim7.holds Tryd.pinned (.plain (OpenSpec.ofChange scanWordsSpec)) scanWordsCard

/-- THE TIED CARD OF 'firebelllaw13.ScanGaps'. -/
def scanGapsCard : Claim7 := { stood := { row := scanGapsRow, standIns := [], harness := (true, "50020af8bdf914ccfb86e5eba21d27035601c3bd2bca0db2d69d3d06f6cb057f"), looks := true }, kinds := [], alts := [], laidByText := true, laidKinds := [.data, .pinned], laidTests := true, laidLooks := .later }
def ScanGapsCardSaid : Prop := Claim7.holds Tryd.pinned (.plain (OpenSpec.ofChange scanGapsSpec)) scanGapsCard

/-- THE SECOND FORM's CARD OF 'firebelllaw13.ScanWords'. -/
def scanWordsUptoCard : Claim7 := { stood := { row := scanWordsUptoRow, standIns := [], harness := (true, "50020af8bdf914ccfb86e5eba21d27035601c3bd2bca0db2d69d3d06f6cb057f"), looks := true }, kinds := [], alts := [], laidByText := true, laidKinds := [.data, .pinned], laidTests := true, laidLooks := .later }
def ScanWordsUptoCardSaid : Prop := Claim7.holds Tryd.pinned (.plain (OpenSpec.upto scanWordsSpec)) scanWordsUptoCard

/-- THE SECOND FORM's CARD OF 'firebelllaw13.ScanGaps'. -/
def scanGapsUptoCard : Claim7 := { stood := { row := scanGapsUptoRow, standIns := [], harness := (true, "50020af8bdf914ccfb86e5eba21d27035601c3bd2bca0db2d69d3d06f6cb057f"), looks := true }, kinds := [], alts := [], laidByText := true, laidKinds := [.data, .pinned], laidTests := true, laidLooks := .later }
def ScanGapsUptoCardSaid : Prop := Claim7.holds Tryd.pinned (.plain (OpenSpec.upto scanGapsSpec)) scanGapsUptoCard
end Rows
end Go.Proofs.YthainohkneociaaDoor
