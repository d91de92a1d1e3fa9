/-
  A token that is handed in, and tokens: what they are.
-/
import Derived.Test.YtmgimkokmlcllaaGreatDoorRows
import Derived.ProofKit
import Derived.OpenShut
import Derived.ChangeArms
import Derived.Lib.SmallJoins
import Derived.Deep.Strs
import Derived.Deep.Slices
import Derived.ChangeOld
namespace Go.Proofs.YtmgimkokmlcllaaGreatDoor
open Go.ChangeShapes Go.WideShapes Go.ChangeAt Go.RowKit Go.Joins Go.Deep

/-- What is right with a token's fields. -/
structure TokWf (k : Int) (s : ByteArray) (n a b : Int) : Prop where
  k0 : (Lit.int .i64 k).wf = true
  s0 : s.size ≤ maxLen
  n0 : (Lit.int .u64 n).wf = true
  a0 : (Lit.int .i64 a).wf = true
  b0 : (Lit.int .i64 b).wf = true
def tokD {H : Type} (k : Int) (s : ByteArray) (n a b : Int) : DataW H := .agg [.lit (.int .i64 k), .lit (.string s.data.toList), .lit (.int .u64 n), .agg [.lit (.int .i64 a), .lit (.int .i64 b)]]
end Go.Proofs.YtmgimkokmlcllaaGreatDoor

/-
  Tokens that are handed in: what they are.
-/
namespace Go.Proofs.YtmgimkokmlcllaaGreatDoor
open Go.ChangeShapes Go.WideShapes Go.ChangeAt Go.RowKit Go.Joins Go.Deep

/-- A token that is handed in. -/
structure TokQ where
  k : Int := 0
  s : ByteArray := ⟨#[]⟩
  n : Int := 0
  a : Int := 0
  b : Int := 0
/-- What is right with its numbers. -/
structure TokQ.Ok (x : TokQ) : Prop where
  k0 : -9223372036854775808 ≤ x.k ∧ x.k ≤ 9223372036854775807
  n0 : 0 ≤ x.n ∧ x.n ≤ 18446744073709551615
  s0 : x.s.size ≤ 9223372036854775807
/-- A slice of them. -/
def ToksIs (W : World) (v : Value) (l : List TokQ) : Prop :=
  ∃ a cap, v = .slice a l.length cap ∧ l.length ≤ cap ∧ ∀ i, i < l.length → ∃ b off, a = some ⟨b, off, none⟩ ∧ W.cell? ⟨b, off + i * 5, none⟩ = some (.int .i64 (l.getD i {}).k) ∧ W.cell? ⟨b, off + i * 5 + 1, none⟩ = some (.string (l.getD i {}).s) ∧
    W.cell? ⟨b, off + i * 5 + 2, none⟩ = some (.int .u64 (l.getD i {}).n) ∧ W.cell? ⟨b, off + i * 5 + 3, none⟩ = some (.int .i64 (l.getD i {}).a) ∧ W.cell? ⟨b, off + i * 5 + 4, none⟩ = some (.int .i64 (l.getD i {}).b)
/-- Bytes that are handed in. -/
def GapsIs (W : World) (v : Value) (l : List Int) : Prop := ∃ a cap, v = .slice a l.length cap ∧ l.length ≤ cap ∧ ∀ i, i < l.length → ∃ b off, a = some ⟨b, off, none⟩ ∧ W.cell? ⟨b, off + i, none⟩ = some (.int .u8 (l.getD i 0))
end Go.Proofs.YtmgimkokmlcllaaGreatDoor
