/-
  No cell of these rows narrows 'for every input' (looked for: loops, veiled, ifaces, maps, wideKeys, modest, calm, conditions, laid).
  DERIVED. THE GIVEN ROWS OF THIS SEAT. 3 by the template 'for every input the law returns true; each argument reads behind the call as it read before'; 0 by the template 'total and deterministic' (their statements: YthhaineoflpkkaaTotals.lean).
  GIVEN WITH THE SEED: the statements are not yours to turn. If you find one false, say at which input.
  Laid BY PROGRAM, IN A SANDBOX (cutbox-rows.mjs): the forced cells as the released guide's own fill.sh prints them over the translation b8e16fd6005233d2… (all of the seat's roots in one cut). By AI agents, Wed Nov 11 2026. No macro, syntax, notation, axiom, sorry.
-/
import Derived.Test.YthhaineoflpkkaaChecked
import GoSem.Claim
import GoSem.ClaimJoined
import GoSem.ClaimMapViews
import Derived.JoinedTies
import Derived.KernelRfl
namespace Go.Proofs.Ythhaineoflpkkaa
/- THE CELL 'sum', in the pinned program and in every row, IS THE sha256 OF THE DUMP (.gsa) THAT YthhaineoflpkkaaProg.lean LOADS. Nothing in Lean hashes anything: it is a label: what it is worth is what the hold of that sum in a sandbox is worth. -/
noncomputable def Try.pinned : Pinned := { name := "ythhaineoflpkkaa", sum := "b8e16fd6005233d25bfd606271139f908c5b6623af4709778199f5d46ca70e97", checked := Try.checked }
namespace Rows
def none {H : Type} : Left H := { results := [], args := [] }

/-- 'firebelllaw05.CivilDates': WHATEVER THE INPUT: true; the input reads as it did. -/
def civilDatesSpec : ChangeSpec := { name := "civilDates", fn := fun _ => fun
  | [d] => { results := [.lit (.bool true)], args := [d] }
  | _ => none }
def civilDatesRow : OpenClaim := { program := "ythhaineoflpkkaa", sum := "b8e16fd6005233d25bfd606271139f908c5b6623af4709778199f5d46ca70e97", func := "firebell/firebelllaw05.CivilDates", spec := "civilDates", apart := false }
def CivilDatesSaid : Prop := civilDatesRow.holds Try.pinned (OpenSpec.ofChange civilDatesSpec)

/-- ITS FALSE NEIGHBOUR: 'it returns false'. Refute it at one input. -/
def civilDatesWrong : ChangeSpec := { name := "civilDates", fn := fun _ => fun
  | [d] => { results := [.lit (.bool false)], args := [d] }
  | _ => none }
def CivilDatesWrongFalsely : Prop := civilDatesRow.holds Try.pinned (OpenSpec.ofChange civilDatesWrong)

/-- 'firebelllaw05.CivilTicks': WHATEVER THE INPUT: true; the input reads as it did. -/
def civilTicksSpec : ChangeSpec := { name := "civilTicks", fn := fun _ => fun
  | [d1, d2] => { results := [.lit (.bool true)], args := [d1, d2] }
  | _ => none }
def civilTicksRow : OpenClaim := { program := "ythhaineoflpkkaa", sum := "b8e16fd6005233d25bfd606271139f908c5b6623af4709778199f5d46ca70e97", func := "firebell/firebelllaw05.CivilTicks", spec := "civilTicks", apart := false }
def CivilTicksSaid : Prop := civilTicksRow.holds Try.pinned (OpenSpec.ofChange civilTicksSpec)

/-- ITS FALSE NEIGHBOUR: 'it returns false'. Refute it at one input. -/
def civilTicksWrong : ChangeSpec := { name := "civilTicks", fn := fun _ => fun
  | [d1, d2] => { results := [.lit (.bool false)], args := [d1, d2] }
  | _ => none }
def CivilTicksWrongFalsely : Prop := civilTicksRow.holds Try.pinned (OpenSpec.ofChange civilTicksWrong)

/-- 'firebelllaw05.CivilPeriods': WHATEVER THE INPUT: true; the input reads as it did. -/
def civilPeriodsSpec : ChangeSpec := { name := "civilPeriods", fn := fun _ => fun
  | [d] => { results := [.lit (.bool true)], args := [d] }
  | _ => none }
def civilPeriodsRow : OpenClaim := { program := "ythhaineoflpkkaa", sum := "b8e16fd6005233d25bfd606271139f908c5b6623af4709778199f5d46ca70e97", func := "firebell/firebelllaw05.CivilPeriods", spec := "civilPeriods", apart := false }
def CivilPeriodsSaid : Prop := civilPeriodsRow.holds Try.pinned (OpenSpec.ofChange civilPeriodsSpec)

/-- ITS FALSE NEIGHBOUR: 'it returns false'. Refute it at one input. -/
def civilPeriodsWrong : ChangeSpec := { name := "civilPeriods", fn := fun _ => fun
  | [d] => { results := [.lit (.bool false)], args := [d] }
  | _ => none }
def CivilPeriodsWrongFalsely : Prop := civilPeriodsRow.holds Try.pinned (OpenSpec.ofChange civilPeriodsWrong)

/- THE SECOND FORM. 'bulk': how many values and letters a reading holds, each counted each time it is reached (what is shared counts as often as it is met; a slice's spare places count too). A statement '..UptoSaid' is the law's where the arguments, and the package variables that the reading takes, are together of bulk at most 1048576: NARROWER than '..Said'. Prove '..Said' where nothing that the law and all that it calls make is longer than what came in: it says more and counts as full. Else prove '..UptoSaid'. A law counts once. -/
mutual
def uptoBulk {H : Type} : DataW H → Nat
  | .lit (.string bytes) => bytes.length + 1
  | .lit _ => 1
  | .nil => 1
  | .ptr d => uptoBulk d + 1
  | .slice elems spare => uptoBulkAll elems + uptoBulkAll spare + 1
  | .agg parts => uptoBulkAll parts + 1
  | .iface _ d => uptoBulk d + 1
  | .map entries => uptoBulkEntries entries + 1
  | .held _ => 1
def uptoBulkAll {H : Type} : List (DataW H) → Nat
  | [] => 0
  | d :: r => uptoBulk d + uptoBulkAll r
def uptoBulkEntries {H : Type} : List (Lit × DataW H) → Nat
  | [] => 0
  | x :: r => uptoBulkEntry x + uptoBulkEntries r
def uptoBulkEntry {H : Type} : Lit × DataW H → Nat
  | (.string bytes, d) => bytes.length + uptoBulk d + 1
  | (_, d) => uptoBulk d + 1
 end
def uptoSmall : (H : Type) → List (DataW H) → Bool := fun _ ds => decide (uptoBulkAll ds ≤ 1048576)
def OpenSpec.upto (s : _root_.Go.ChangeSpec) : _root_.Go.OpenSpec := { _root_.Go.OpenSpec.ofChange s with cond := some uptoSmall }

/-- 'firebelllaw05.CivilDates', WHERE WHAT IT READS IS OF BULK AT MOST 1048576: true; the input reads as it did. -/
def civilDatesUptoRow : OpenClaim := { program := "ythhaineoflpkkaa", sum := "b8e16fd6005233d25bfd606271139f908c5b6623af4709778199f5d46ca70e97", func := "firebell/firebelllaw05.CivilDates", spec := "civilDates", apart := false, narrowed := true }
def CivilDatesUptoSaid : Prop := civilDatesUptoRow.holds Try.pinned (OpenSpec.upto civilDatesSpec)

/-- 'firebelllaw05.CivilTicks', WHERE WHAT IT READS IS OF BULK AT MOST 1048576: true; the input reads as it did. -/
def civilTicksUptoRow : OpenClaim := { program := "ythhaineoflpkkaa", sum := "b8e16fd6005233d25bfd606271139f908c5b6623af4709778199f5d46ca70e97", func := "firebell/firebelllaw05.CivilTicks", spec := "civilTicks", apart := false, narrowed := true }
def CivilTicksUptoSaid : Prop := civilTicksUptoRow.holds Try.pinned (OpenSpec.upto civilTicksSpec)

/-- 'firebelllaw05.CivilPeriods', WHERE WHAT IT READS IS OF BULK AT MOST 1048576: true; the input reads as it did. -/
def civilPeriodsUptoRow : OpenClaim := { program := "ythhaineoflpkkaa", sum := "b8e16fd6005233d25bfd606271139f908c5b6623af4709778199f5d46ca70e97", func := "firebell/firebelllaw05.CivilPeriods", spec := "civilPeriods", apart := false, narrowed := true }
def CivilPeriodsUptoSaid : Prop := civilPeriodsUptoRow.holds Try.pinned (OpenSpec.upto civilPeriodsSpec)

end Rows
end Go.Proofs.Ythhaineoflpkkaa
