/-
  A token that is handed in, and tokens: what they are.
-/
import Derived.Test.YtmgimkokmlcllaaGreatDoorRows
import Derived.ProofKit
import Derived.OpenShut
import Derived.ChangeArms
import Derived.Lib.SmallJoins
import Derived.Deep.Strs
import Derived.Deep.Slices
import Derived.ChangeOld
namespace Go.Proofs.YtmgimkokmlcllaaGreatDoor
open Go.ChangeShapes Go.WideShapes Go.ChangeAt Go.RowKit Go.Joins Go.Deep

theorem cells_one_int : Tryz.prog.cellsOf 3 = 1 := by kernel_rfl
theorem cells_one_str : Tryz.prog.cellsOf 9 = 1 := by kernel_rfl
theorem cells_one_u64 : Tryz.prog.cellsOf 57 = 1 := by kernel_rfl
theorem cells_spot : Tryz.prog.cellsOf 30 = 2 := by kernel_rfl
theorem cells_tok : Tryz.prog.cellsOf 59 = 5 := by kernel_rfl
structure TokWf (k : Int) (s : ByteArray) (n a b : Int) : Prop where
  k0 : (Lit.int .i64 k).wf = true
  s0 : s.size ≤ maxLen
  n0 : (Lit.int .u64 n).wf = true
  a0 : (Lit.int .i64 a).wf = true
  b0 : (Lit.int .i64 b).wf = true
def tokD {H : Type} (k : Int) (s : ByteArray) (n a b : Int) : DataW H := .agg [.lit (.int .i64 k), .lit (.string s.data.toList), .lit (.int .u64 n), .agg [.lit (.int .i64 a), .lit (.int .i64 b)]]
theorem tok_trod {H : Type} {enc : TypeId × Value → H} {W : World} {base : Nat} {spare : Nat → Bool} {held : Bool} {fuel : Nat} {c0 c1 c2 c3 c4 : Value} {y : DataW H × List MemPlace}
    (hf : DataW.trod enc Tryz.prog W base spare held fuel 59 [c0, c1, c2, c3, c4] = some y) :
    ∃ (k : Int) (s : ByteArray) (n a b : Int), c0 = .int .i64 k ∧ c1 = .string s ∧ c2 = .int .u64 n ∧ c3 = .int .i64 a ∧ c4 = .int .i64 b ∧ y = (tokD k s n a b, []) ∧ TokWf k s n a b := by
  obtain ⟨y0, y1, y2, y3, m, hx, _, h0, h1, h2, h3⟩ := trod_struct4 Tryz.underlying59 hf
  simp only [cells_one_int, cells_one_str, cells_one_u64, cells_spot, List.drop_zero, List.take_succ_cons, List.take_zero, List.drop_succ_cons] at h0 h1 h2 h3
  obtain ⟨k, e0, rfl, w0⟩ := DataW.trod_int Tryz.underlying3 h0
  obtain ⟨s, e1, rfl, w1⟩ := DataW.trod_string Tryz.underlying9 h1
  obtain ⟨n, e2, rfl, w2⟩ := DataW.trod_int Tryz.underlying57 h2
  obtain ⟨z0, z1, m2, hz, _, g0, g1⟩ := trod_struct2 Tryz.underlying30 h3
  simp only [cells_one_int, List.drop_zero, List.take_succ_cons, List.take_zero, List.drop_succ_cons] at g0 g1
  obtain ⟨a, f0, rfl, w3⟩ := DataW.trod_int Tryz.underlying3 g0
  obtain ⟨b, f1, rfl, w4⟩ := DataW.trod_int Tryz.underlying3 g1
  simp only [List.cons.injEq, and_true] at e0 e1 e2 f0 f1
  subst e0 e1 e2 f0 f1 hz
  exact ⟨k, s, n, a, b, rfl, rfl, rfl, rfl, rfl, by simpa [tokD] using hx, w0, w1, w2, w3, w4⟩
end Go.Proofs.YtmgimkokmlcllaaGreatDoor

/-
  Tokens that are handed in: what they are.
-/
namespace Go.Proofs.YtmgimkokmlcllaaGreatDoor
open Go.ChangeShapes Go.WideShapes Go.ChangeAt Go.RowKit Go.Joins Go.Deep

structure TokQ where
  k : Int := 0
  s : ByteArray := ⟨#[]⟩
  n : Int := 0
  a : Int := 0
  b : Int := 0
structure TokQ.Ok (x : TokQ) : Prop where
  k0 : -9223372036854775808 ≤ x.k ∧ x.k ≤ 9223372036854775807
  n0 : 0 ≤ x.n ∧ x.n ≤ 18446744073709551615
  s0 : x.s.size ≤ 9223372036854775807
def ToksIs (W : World) (v : Value) (l : List TokQ) : Prop :=
  ∃ a cap, v = .slice a l.length cap ∧ l.length ≤ cap ∧ ∀ i, i < l.length → ∃ b off, a = some ⟨b, off, none⟩ ∧ W.cell? ⟨b, off + i * 5, none⟩ = some (.int .i64 (l.getD i {}).k) ∧ W.cell? ⟨b, off + i * 5 + 1, none⟩ = some (.string (l.getD i {}).s) ∧
    W.cell? ⟨b, off + i * 5 + 2, none⟩ = some (.int .u64 (l.getD i {}).n) ∧ W.cell? ⟨b, off + i * 5 + 3, none⟩ = some (.int .i64 (l.getD i {}).a) ∧ W.cell? ⟨b, off + i * 5 + 4, none⟩ = some (.int .i64 (l.getD i {}).b)
theorem add_none5 (a : Addr) : a.add 0 = a := by cases a; simp [Addr.add]
theorem add_plain5 (b off n : Nat) : (⟨b, off, none⟩ : Addr).add n = ⟨b, off + n, none⟩ := by unfold Addr.add; split <;> simp_all
def GapsIs (W : World) (v : Value) (l : List Int) : Prop := ∃ a cap, v = .slice a l.length cap ∧ l.length ≤ cap ∧ ∀ i, i < l.length → ∃ b off, a = some ⟨b, off, none⟩ ∧ W.cell? ⟨b, off + i, none⟩ = some (.int .u8 (l.getD i 0))
end Go.Proofs.YtmgimkokmlcllaaGreatDoor
