/-
  DERIVED. GIVEN WITH THE SEED: THE CARDS: each row of YtiephcjdbndjaaaDoorRows.lean that lists a variable, with what it lists TIED to the program's text (the seventh form; the later family's looks); each row that meets fmt, with fmt's text TOLD by the authors' own Lean function (tested against real Go, not proved from fmt's source: count such statements apart). THE CARD IS WHAT COUNTS. Prove the row's statement (the work); the ties are given (YtiephcjdbndjaaaDoorTie.lean); close each card by the builder's one call (the guide's Derived/Test/ToyasCard.lean, 'card_holds'). Laid BY PROGRAM, IN A SANDBOX (cutbox-door.mjs). By AI agents, Wed Nov 11 2026. No macro, syntax, notation, axiom, sorry.
-/
import Derived.Test.YtiephcjdbndjaaaDoorRows
import GoSem.ClaimSeven
namespace Go.Proofs.YtiephcjdbndjaaaDoor
namespace Rows

/-- THE TIED CARD OF 'firebelllaw08.CrcSums'. -/
def crcSumsCard : Claim7 := { stood := { row := crcSumsRow, standIns := [], harness := (true, "995f0dd94d3864ed02c00f97277d2fb9fbba627702682d9edd17e3785e6154c6"), looks := false }, kinds := [], alts := [], laidByText := true, laidKinds := [.data], laidTests := true, laidLooks := .later }
def CrcSumsCardSaid : Prop := Claim7.holds Tryd.pinned (.plain (OpenSpec.ofChange crcSumsSpec)) crcSumsCard

/-- THE TIED CARD OF 'firebelllaw08.CrcOpens'. -/
def crcOpensCard : Claim7 := { stood := { row := crcOpensRow, standIns := [], harness := (true, "995f0dd94d3864ed02c00f97277d2fb9fbba627702682d9edd17e3785e6154c6"), looks := false }, kinds := [], alts := [], laidByText := true, laidKinds := [.data], laidTests := true, laidLooks := .later }
def CrcOpensCardSaid : Prop := Claim7.holds Tryd.pinned (.plain (OpenSpec.ofChange crcOpensSpec)) crcOpensCard

/-- THE TIED CARD OF 'firebelllaw08.CrcTorn'. -/
def crcTornCard : Claim7 := { stood := { row := crcTornRow, standIns := [], harness := (true, "995f0dd94d3864ed02c00f97277d2fb9fbba627702682d9edd17e3785e6154c6"), looks := false }, kinds := [], alts := [], laidByText := true, laidKinds := [.data], laidTests := true, laidLooks := .later }
def CrcTornCardSaid : Prop := Claim7.holds Tryd.pinned (.plain (OpenSpec.ofChange crcTornSpec)) crcTornCard

/-- THE SECOND FORM's CARD OF 'firebelllaw08.CrcSums'. -/
def crcSumsUptoCard : Claim7 := { stood := { row := crcSumsUptoRow, standIns := [], harness := (true, "995f0dd94d3864ed02c00f97277d2fb9fbba627702682d9edd17e3785e6154c6"), looks := false }, kinds := [], alts := [], laidByText := true, laidKinds := [.data], laidTests := true, laidLooks := .later }
def CrcSumsUptoCardSaid : Prop := Claim7.holds Tryd.pinned (.plain (OpenSpec.upto crcSumsSpec)) crcSumsUptoCard

/-- THE SECOND FORM's CARD OF 'firebelllaw08.CrcOpens'. -/
def crcOpensUptoCard : Claim7 := { stood := { row := crcOpensUptoRow, standIns := [], harness := (true, "995f0dd94d3864ed02c00f97277d2fb9fbba627702682d9edd17e3785e6154c6"), looks := false }, kinds := [], alts := [], laidByText := true, laidKinds := [.data], laidTests := true, laidLooks := .later }
def CrcOpensUptoCardSaid : Prop := Claim7.holds Tryd.pinned (.plain (OpenSpec.upto crcOpensSpec)) crcOpensUptoCard

/-- THE SECOND FORM's CARD OF 'firebelllaw08.CrcTorn'. -/
def crcTornUptoCard : Claim7 := { stood := { row := crcTornUptoRow, standIns := [], harness := (true, "995f0dd94d3864ed02c00f97277d2fb9fbba627702682d9edd17e3785e6154c6"), looks := false }, kinds := [], alts := [], laidByText := true, laidKinds := [.data], laidTests := true, laidLooks := .later }
def CrcTornUptoCardSaid : Prop := Claim7.holds Tryd.pinned (.plain (OpenSpec.upto crcTornSpec)) crcTornUptoCard
end Rows
end Go.Proofs.YtiephcjdbndjaaaDoor
