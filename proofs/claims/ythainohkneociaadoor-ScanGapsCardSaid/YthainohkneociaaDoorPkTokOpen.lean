/-
  A token that is handed in, and tokens: what they are.
-/
import Derived.Test.YthainohkneociaaDoorRows
import Derived.ProofKit
import Derived.OpenShut
import Derived.ChangeArms
import Derived.Lib.SmallJoins
import Derived.Deep.Strs
import Derived.Deep.Slices
namespace Go.Proofs.YthainohkneociaaDoor
open Go.ChangeShapes Go.WideShapes Go.ChangeAt Go.RowKit Go.Joins Go.Deep

theorem cells_one_int : Tryd.prog.cellsOf 3 = 1 := by kernel_rfl
theorem cells_one_str : Tryd.prog.cellsOf 9 = 1 := by kernel_rfl
theorem cells_one_u64 : Tryd.prog.cellsOf 23 = 1 := by kernel_rfl
theorem cells_spot : Tryd.prog.cellsOf 25 = 2 := by kernel_rfl
theorem cells_tok : Tryd.prog.cellsOf 27 = 5 := by kernel_rfl
theorem array5 {α : Type} {cs : Array α} (h : cs.size = 5) : ∃ c0 c1 c2 c3 c4, cs = #[c0, c1, c2, c3, c4] := by
  obtain ⟨l⟩ := cs
  match l, h with
  | [c0, c1, c2, c3, c4], _ => exact ⟨c0, c1, c2, c3, c4, rfl⟩
/-- What is right with a token's fields. -/
structure TokWf (k : Int) (s : ByteArray) (n a b : Int) : Prop where
  k0 : (Lit.int .i64 k).wf = true
  s0 : s.size ≤ maxLen
  n0 : (Lit.int .u64 n).wf = true
  a0 : (Lit.int .i64 a).wf = true
  b0 : (Lit.int .i64 b).wf = true
def tokD {H : Type} (k : Int) (s : ByteArray) (n a b : Int) : DataW H := .agg [.lit (.int .i64 k), .lit (.string s.data.toList), .lit (.int .u64 n), .agg [.lit (.int .i64 a), .lit (.int .i64 b)]]
theorem tok_trod {H : Type} {enc : TypeId × Value → H} {W : World} {base : Nat} {spare : Nat → Bool} {held : Bool} {fuel : Nat} {c0 c1 c2 c3 c4 : Value} {y : DataW H × List MemPlace}
    (hf : DataW.trod enc Tryd.prog W base spare held fuel 27 [c0, c1, c2, c3, c4] = some y) :
    ∃ (k : Int) (s : ByteArray) (n a b : Int), c0 = .int .i64 k ∧ c1 = .string s ∧ c2 = .int .u64 n ∧ c3 = .int .i64 a ∧ c4 = .int .i64 b ∧ y = (tokD k s n a b, []) ∧ TokWf k s n a b := by
  obtain ⟨y0, y1, y2, y3, m, hx, _, h0, h1, h2, h3⟩ := trod_struct4 Tryd.underlying27 hf
  simp only [cells_one_int, cells_one_str, cells_one_u64, cells_spot, List.drop_zero, List.take_succ_cons, List.take_zero, List.drop_succ_cons] at h0 h1 h2 h3
  obtain ⟨k, e0, rfl, w0⟩ := DataW.trod_int Tryd.underlying3 h0
  obtain ⟨s, e1, rfl, w1⟩ := DataW.trod_string Tryd.underlying9 h1
  obtain ⟨n, e2, rfl, w2⟩ := DataW.trod_int Tryd.underlying23 h2
  obtain ⟨z0, z1, m2, hz, _, g0, g1⟩ := trod_struct2 Tryd.underlying25 h3
  simp only [cells_one_int, List.drop_zero, List.take_succ_cons, List.take_zero, List.drop_succ_cons] at g0 g1
  obtain ⟨a, f0, rfl, w3⟩ := DataW.trod_int Tryd.underlying3 g0
  obtain ⟨b, f1, rfl, w4⟩ := DataW.trod_int Tryd.underlying3 g1
  simp only [List.cons.injEq, and_true] at e0 e1 e2 f0 f1
  subst e0 e1 e2 f0 f1 hz
  exact ⟨k, s, n, a, b, rfl, rfl, rfl, rfl, rfl, by simpa [tokD] using hx, w0, w1, w2, w3, w4⟩
set_option maxRecDepth 100000 in
theorem open_tok {H : Type} {enc : TypeId × Value → H} {W : World} {base : Nat} {spare : Nat → Bool} {held : Bool} {r : Reach} {b0 : Nat} {v : Value} {d : DataW H} {p : List MemPlace}
    (hv : Value.okWide Tryd.prog W r b0 27 v) (h : DataW.Trod enc Tryd.prog W base spare held 27 v d p) :
    ∃ (k : Int) (s : ByteArray) (n a b : Int), v = .agg #[.int .i64 k, .string s, .int .u64 n, .int .i64 a, .int .i64 b] ∧ d = tokD k s n a b ∧ p = [] ∧ TokWf k s n a b := by
  obtain ⟨cs, rfl, hsz⟩ := okWide_struct Tryd.underlying27 hv
  obtain ⟨c0, c1, c2, c3, c4, rfl⟩ := array5 (hsz.trans cells_tok)
  obtain ⟨fuel, hf⟩ := h
  obtain ⟨k, s, n, a, b, rfl, rfl, rfl, rfl, rfl, hy, hw⟩ := tok_trod hf
  simp only [Prod.mk.injEq] at hy
  exact ⟨k, s, n, a, b, rfl, hy.1, hy.2, hw⟩
theorem trod_str_mk {H : Type} {enc : TypeId × Value → H} {W : World} {base : Nat} {spare : Nat → Bool} {held : Bool} (m : Nat) {s : ByteArray} (hs : s.size ≤ maxLen) : DataW.trod enc Tryd.prog W base spare held (m + 1) 9 [.string s] = some (.lit (.string s.data.toList), []) := by
  simp [DataW.trod, Tryd.underlying9]
  exact hs
theorem shut_tok {H : Type} {enc : TypeId × Value → H} (W : World) (spare : Nat → Bool) {k : Int} {s : ByteArray} {n a b : Int} (w : TokWf k s n a b) :
    DataW.Trod enc Tryd.prog W 0 spare true 27 (.agg #[.int .i64 k, .string s, .int .u64 n, .int .i64 a, .int .i64 b]) (tokD k s n a b) [] :=
  ⟨3, trod_struct4_mk (n := 2) (cs := [.int .i64 k, .string s, .int .u64 n, .int .i64 a, .int .i64 b]) (y0 := (.lit (.int .i64 k), [])) (y1 := (.lit (.string s.data.toList), [])) (y2 := (.lit (.int .u64 n), [])) (y3 := (.agg [.lit (.int .i64 a), .lit (.int .i64 b)], [])) Tryd.underlying27 (by simp [cells_tok])
    (by simpa [cells_one_int] using trod_int_mk 1 Tryd.underlying3 w.k0) (by simpa [cells_one_str] using trod_str_mk 1 w.s0) (by simpa [cells_one_u64] using trod_int_mk 1 Tryd.underlying23 w.n0)
    (by
      simp only [cells_spot, List.drop_succ_cons, List.drop_zero, List.take_succ_cons, List.take_zero]
      exact trod_struct2_mk (n := 1) (cs := [.int .i64 a, .int .i64 b]) (y0 := (.lit (.int .i64 a), [])) (y1 := (.lit (.int .i64 b), [])) Tryd.underlying25 (by simp [cells_spot]) (by simpa [cells_one_int] using trod_int_mk 0 Tryd.underlying3 w.a0) (by simpa [cells_one_int] using trod_int_mk 0 Tryd.underlying3 w.b0))⟩

end Go.Proofs.YthainohkneociaaDoor
