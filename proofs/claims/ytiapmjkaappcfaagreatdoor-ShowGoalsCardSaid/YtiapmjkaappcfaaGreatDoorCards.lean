/-
  DERIVED. GIVEN WITH THE SEED: THE CARDS: each row of YtiapmjkaappcfaaGreatDoorRows.lean that lists a variable, with what it lists TIED to the program's text (the seventh form; the later family's looks); each row that meets fmt, with fmt's text TOLD by the authors' own Lean function (tested against real Go, not proved from fmt's source: count such statements apart). THE CARD IS WHAT COUNTS. Prove the row's statement (the work); the ties are given (YtiapmjkaappcfaaGreatDoorTie.lean); close each card by the builder's one call (the guide's Derived/Test/ToyasCard.lean, 'card_holds'). Laid BY PROGRAM, IN A SANDBOX (cutbox-door.mjs). By AI agents, Wed Nov 11 2026. No macro, syntax, notation, axiom, sorry.
-/
import Derived.Test.YtiapmjkaappcfaaGreatDoorRows
import GoSem.ClaimSeven
namespace Go.Proofs.YtiapmjkaappcfaaGreatDoor
namespace Rows

/-- THE TIED CARD OF 'firebelllaw16.CompileReads'. -/
def compileReadsCard : Claim7 := { stood := { row := compileReadsRow, standIns := [], harness := (true, "61cf6414f632b50e13f0f15bb04d5290120296340e13564207cf96149b260916"), looks := true }, kinds := [], alts := [], laidByText := true, laidKinds := [.data, .pinned], laidTests := true, laidLooks := .later }
def CompileReadsCardSaid : Prop := Claim7.holds Tryz.pinned (.plain (OpenSpec.ofChange compileReadsSpec)) compileReadsCard

/-- THE TIED CARD OF 'firebelllaw16.CompileTrees'. -/
def compileTreesCard : Claim7 := { stood := { row := compileTreesRow, standIns := [], harness := (true, "61cf6414f632b50e13f0f15bb04d5290120296340e13564207cf96149b260916"), looks := true }, kinds := [], alts := [], laidByText := true, laidKinds := [.data, .pinned], laidTests := true, laidLooks := .later }
def CompileTreesCardSaid : Prop := Claim7.holds Tryz.pinned (.plain (OpenSpec.ofChange compileTreesSpec)) compileTreesCard

/-- THE TIED CARD OF 'firebelllaw16.CompileTurns'. -/
def compileTurnsCard : Claim7 := { stood := { row := compileTurnsRow, standIns := [], harness := (true, "61cf6414f632b50e13f0f15bb04d5290120296340e13564207cf96149b260916"), looks := true }, kinds := [], alts := [], laidByText := true, laidKinds := [.data, .pinned], laidTests := true, laidLooks := .later }
def CompileTurnsCardSaid : Prop := Claim7.holds Tryz.pinned (.plain (OpenSpec.ofChange compileTurnsSpec)) compileTurnsCard

/-- THE TIED CARD OF 'firebelllaw16.CompileJoins'. -/
def compileJoinsCard : Claim7 := { stood := { row := compileJoinsRow, standIns := [], harness := (true, "61cf6414f632b50e13f0f15bb04d5290120296340e13564207cf96149b260916"), looks := true }, kinds := [], alts := [], laidByText := true, laidKinds := [.data, .pinned], laidTests := true, laidLooks := .later }
def CompileJoinsCardSaid : Prop := Claim7.holds Tryz.pinned (.plain (OpenSpec.ofChange compileJoinsSpec)) compileJoinsCard

/-- THE TIED CARD OF 'firebelllaw17.ShowPrints'. -/
def showPrintsCard : Claim7 := { stood := { row := showPrintsRow, standIns := [], harness := (true, "61cf6414f632b50e13f0f15bb04d5290120296340e13564207cf96149b260916"), looks := true }, kinds := [], alts := [], laidByText := true, laidKinds := [.data, .data, .data, .data, .pinned], laidTests := true, laidLooks := .later }
def ShowPrintsCardSaid : Prop := Claim7.holds Tryz.pinned (.plain (OpenSpec.ofChange showPrintsSpec)) showPrintsCard

/-- THE TIED CARD OF 'firebelllaw17.ShowGoals'. -/
def showGoalsCard : Claim7 := { stood := { row := showGoalsRow, standIns := [], harness := (true, "61cf6414f632b50e13f0f15bb04d5290120296340e13564207cf96149b260916"), looks := true }, kinds := [], alts := [], laidByText := true, laidKinds := [.data, .data, .data, .data, .pinned], laidTests := true, laidLooks := .later }
def ShowGoalsCardSaid : Prop := Claim7.holds Tryz.pinned (.plain (OpenSpec.ofChange showGoalsSpec)) showGoalsCard

/-- THE TIED CARD OF 'firebelllaw17.ShowAgain'. -/
def showAgainCard : Claim7 := { stood := { row := showAgainRow, standIns := [], harness := (true, "61cf6414f632b50e13f0f15bb04d5290120296340e13564207cf96149b260916"), looks := true }, kinds := [], alts := [], laidByText := true, laidKinds := [.data, .data, .data, .data, .pinned], laidTests := true, laidLooks := .later }
def ShowAgainCardSaid : Prop := Claim7.holds Tryz.pinned (.plain (OpenSpec.ofChange showAgainSpec)) showAgainCard

/-- THE SECOND FORM's CARD OF 'firebelllaw16.CompileReads'. -/
def compileReadsUptoCard : Claim7 := { stood := { row := compileReadsUptoRow, standIns := [], harness := (true, "61cf6414f632b50e13f0f15bb04d5290120296340e13564207cf96149b260916"), looks := true }, kinds := [], alts := [], laidByText := true, laidKinds := [.data, .pinned], laidTests := true, laidLooks := .later }
def CompileReadsUptoCardSaid : Prop := Claim7.holds Tryz.pinned (.plain (OpenSpec.upto compileReadsSpec)) compileReadsUptoCard

/-- THE SECOND FORM's CARD OF 'firebelllaw16.CompileTrees'. -/
def compileTreesUptoCard : Claim7 := { stood := { row := compileTreesUptoRow, standIns := [], harness := (true, "61cf6414f632b50e13f0f15bb04d5290120296340e13564207cf96149b260916"), looks := true }, kinds := [], alts := [], laidByText := true, laidKinds := [.data, .pinned], laidTests := true, laidLooks := .later }
def CompileTreesUptoCardSaid : Prop := Claim7.holds Tryz.pinned (.plain (OpenSpec.upto compileTreesSpec)) compileTreesUptoCard

/-- THE SECOND FORM's CARD OF 'firebelllaw16.CompileTurns'. -/
def compileTurnsUptoCard : Claim7 := { stood := { row := compileTurnsUptoRow, standIns := [], harness := (true, "61cf6414f632b50e13f0f15bb04d5290120296340e13564207cf96149b260916"), looks := true }, kinds := [], alts := [], laidByText := true, laidKinds := [.data, .pinned], laidTests := true, laidLooks := .later }
def CompileTurnsUptoCardSaid : Prop := Claim7.holds Tryz.pinned (.plain (OpenSpec.upto compileTurnsSpec)) compileTurnsUptoCard

/-- THE SECOND FORM's CARD OF 'firebelllaw16.CompileJoins'. -/
def compileJoinsUptoCard : Claim7 := { stood := { row := compileJoinsUptoRow, standIns := [], harness := (true, "61cf6414f632b50e13f0f15bb04d5290120296340e13564207cf96149b260916"), looks := true }, kinds := [], alts := [], laidByText := true, laidKinds := [.data, .pinned], laidTests := true, laidLooks := .later }
def CompileJoinsUptoCardSaid : Prop := Claim7.holds Tryz.pinned (.plain (OpenSpec.upto compileJoinsSpec)) compileJoinsUptoCard

/-- THE SECOND FORM's CARD OF 'firebelllaw17.ShowPrints'. -/
def showPrintsUptoCard : Claim7 := { stood := { row := showPrintsUptoRow, standIns := [], harness := (true, "61cf6414f632b50e13f0f15bb04d5290120296340e13564207cf96149b260916"), looks := true }, kinds := [], alts := [], laidByText := true, laidKinds := [.data, .data, .data, .data, .pinned], laidTests := true, laidLooks := .later }
def ShowPrintsUptoCardSaid : Prop := Claim7.holds Tryz.pinned (.plain (OpenSpec.upto showPrintsSpec)) showPrintsUptoCard

/-- THE SECOND FORM's CARD OF 'firebelllaw17.ShowGoals'. -/
def showGoalsUptoCard : Claim7 := { stood := { row := showGoalsUptoRow, standIns := [], harness := (true, "61cf6414f632b50e13f0f15bb04d5290120296340e13564207cf96149b260916"), looks := true }, kinds := [], alts := [], laidByText := true, laidKinds := [.data, .data, .data, .data, .pinned], laidTests := true, laidLooks := .later }
def ShowGoalsUptoCardSaid : Prop := Claim7.holds Tryz.pinned (.plain (OpenSpec.upto showGoalsSpec)) showGoalsUptoCard

/-- THE SECOND FORM's CARD OF 'firebelllaw17.ShowAgain'. -/
def showAgainUptoCard : Claim7 := { stood := { row := showAgainUptoRow, standIns := [], harness := (true, "61cf6414f632b50e13f0f15bb04d5290120296340e13564207cf96149b260916"), looks := true }, kinds := [], alts := [], laidByText := true, laidKinds := [.data, .data, .data, .data, .pinned], laidTests := true, laidLooks := .later }
def ShowAgainUptoCardSaid : Prop := Claim7.holds Tryz.pinned (.plain (OpenSpec.upto showAgainSpec)) showAgainUptoCard
end Rows
end Go.Proofs.YtiapmjkaappcfaaGreatDoor
