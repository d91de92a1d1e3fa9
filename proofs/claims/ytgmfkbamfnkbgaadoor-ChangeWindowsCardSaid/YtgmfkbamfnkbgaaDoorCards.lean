/-
  DERIVED. GIVEN WITH THE SEED: THE CARDS: each row of YtgmfkbamfnkbgaaDoorRows.lean that lists a variable, with what it lists TIED to the program's text (the seventh form; the later family's looks); each row that meets fmt, with fmt's text TOLD by the authors' own Lean function (tested against real Go, not proved from fmt's source: count such statements apart). THE CARD IS WHAT COUNTS. Prove the row's statement (the work); the ties are given (YtgmfkbamfnkbgaaDoorTie.lean); close each card by the builder's one call (the guide's Derived/Test/ToyasCard.lean, 'card_holds'). Laid BY PROGRAM, IN A SANDBOX (cutbox-door.mjs). By AI agents, Wed Nov 11 2026. No macro, syntax, notation, axiom, sorry.
-/
import Derived.Test.YtgmfkbamfnkbgaaDoorRows
import GoSem.ClaimSeven
namespace Go.Proofs.YtgmfkbamfnkbgaaDoor
namespace Rows

/-- THE TIED CARD OF 'firebelllaw18.ChangePlans'. -/
def changePlansCard : Claim7 := { stood := { row := changePlansRow, standIns := [], harness := (true, "80e347a2419b042ebb1013e8e98e9b9bdf00238a4e6a7529f0c99b1e9888cfd6"), looks := false }, kinds := [], alts := [], laidByText := true, laidKinds := [.data, .pinned], laidTests := true, laidLooks := .later }
def ChangePlansCardSaid : Prop := Claim7.holds Tryd.pinned (.plain (OpenSpec.ofChange changePlansSpec)) changePlansCard

/-- THE TIED CARD OF 'firebelllaw18.ChangeBack'. -/
def changeBackCard : Claim7 := { stood := { row := changeBackRow, standIns := [], harness := (true, "80e347a2419b042ebb1013e8e98e9b9bdf00238a4e6a7529f0c99b1e9888cfd6"), looks := false }, kinds := [], alts := [], laidByText := true, laidKinds := [.data, .pinned], laidTests := true, laidLooks := .later }
def ChangeBackCardSaid : Prop := Claim7.holds Tryd.pinned (.plain (OpenSpec.ofChange changeBackSpec)) changeBackCard

/-- THE TIED CARD OF 'firebelllaw18.ChangeWindows'. -/
def changeWindowsCard : Claim7 := { stood := { row := changeWindowsRow, standIns := [], harness := (true, "80e347a2419b042ebb1013e8e98e9b9bdf00238a4e6a7529f0c99b1e9888cfd6"), looks := false }, kinds := [], alts := [], laidByText := true, laidKinds := [.data, .pinned], laidTests := true, laidLooks := .later }
def ChangeWindowsCardSaid : Prop := Claim7.holds Tryd.pinned (.plain (OpenSpec.ofChange changeWindowsSpec)) changeWindowsCard

/-- THE SECOND FORM's CARD OF 'firebelllaw18.ChangePlans'. -/
def changePlansUptoCard : Claim7 := { stood := { row := changePlansUptoRow, standIns := [], harness := (true, "80e347a2419b042ebb1013e8e98e9b9bdf00238a4e6a7529f0c99b1e9888cfd6"), looks := false }, kinds := [], alts := [], laidByText := true, laidKinds := [.data, .pinned], laidTests := true, laidLooks := .later }
def ChangePlansUptoCardSaid : Prop := Claim7.holds Tryd.pinned (.plain (OpenSpec.upto changePlansSpec)) changePlansUptoCard

/-- THE SECOND FORM's CARD OF 'firebelllaw18.ChangeBack'. -/
def changeBackUptoCard : Claim7 := { stood := { row := changeBackUptoRow, standIns := [], harness := (true, "80e347a2419b042ebb1013e8e98e9b9bdf00238a4e6a7529f0c99b1e9888cfd6"), looks := false }, kinds := [], alts := [], laidByText := true, laidKinds := [.data, .pinned], laidTests := true, laidLooks := .later }
def ChangeBackUptoCardSaid : Prop := Claim7.holds Tryd.pinned (.plain (OpenSpec.upto changeBackSpec)) changeBackUptoCard

/-- THE SECOND FORM's CARD OF 'firebelllaw18.ChangeWindows'. -/
def changeWindowsUptoCard : Claim7 := { stood := { row := changeWindowsUptoRow, standIns := [], harness := (true, "80e347a2419b042ebb1013e8e98e9b9bdf00238a4e6a7529f0c99b1e9888cfd6"), looks := false }, kinds := [], alts := [], laidByText := true, laidKinds := [.data, .pinned], laidTests := true, laidLooks := .later }
def ChangeWindowsUptoCardSaid : Prop := Claim7.holds Tryd.pinned (.plain (OpenSpec.upto changeWindowsSpec)) changeWindowsUptoCard
end Rows
end Go.Proofs.YtgmfkbamfnkbgaaDoor
