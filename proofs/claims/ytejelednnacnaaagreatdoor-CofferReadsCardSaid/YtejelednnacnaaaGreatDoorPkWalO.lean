/-
  Calls and a crash that are handed in (stage 10): what they are.
-/
import Derived.Test.YtejelednnacnaaaGreatDoorPkMarkA
import Derived.Test.YtejelednnacnaaaGreatDoorPkActs
import Derived.Test.YtejelednnacnaaaGreatDoorRows
import Derived.ProofKit
import Derived.OpenShut
import Derived.Deep.Slices
import Derived.Deep.Strs
import Derived.Lib.SmallJoins
namespace Go.Proofs.YtejelednnacnaaaGreatDoor
open Go.ChangeShapes Go.WideShapes Go.ChangeAt Go.RowKit Go.Joins Go.Deep

theorem array6 {α : Type} {cs : Array α} (h : cs.size = 6) : ∃ c0 c1 c2 c3 c4 c5, cs = #[c0, c1, c2, c3, c4, c5] := by
  obtain ⟨l⟩ := cs
  match l, h with
  | [c0, c1, c2, c3, c4, c5], _ => exact ⟨c0, c1, c2, c3, c4, c5, rfl⟩
theorem cells_int1 : Tryz.prog.cellsOf 3 = 1 := by kernel_rfl
theorem cells_crash : Tryz.prog.cellsOf 24 = 6 := by kernel_rfl
/-- What is handed in. -/
def crashV (x0 x1 x2 x3 x4 x5 : Int) : Value := .agg #[.int .i64 x0, .int .i64 x1, .int .i64 x2, .int .i64 x3, .int .i64 x4, .int .i64 x5]
set_option maxRecDepth 100000 in
theorem open_crash {H : Type} {enc : TypeId × Value → H} {W : World} {base : Nat} {spare : Nat → Bool} {held : Bool} {r : Reach} {b0 : Nat} {v : Value} {d : DataW H} {p : List MemPlace}
    (hv : Value.okWide Tryz.prog W r b0 24 v) (h : DataW.Trod enc Tryz.prog W base spare held 24 v d p) :
    ∃ (x0 x1 x2 x3 x4 x5 : Int), v = .agg #[.int .i64 x0, .int .i64 x1, .int .i64 x2, .int .i64 x3, .int .i64 x4, .int .i64 x5] ∧ d = .agg [.lit (.int .i64 x0), .lit (.int .i64 x1), .lit (.int .i64 x2), .lit (.int .i64 x3), .lit (.int .i64 x4), .lit (.int .i64 x5)] ∧ p = [] ∧
      ((Lit.int .i64 x0).wf = true ∧ (Lit.int .i64 x1).wf = true ∧ (Lit.int .i64 x2).wf = true ∧ (Lit.int .i64 x3).wf = true ∧ (Lit.int .i64 x4).wf = true ∧ (Lit.int .i64 x5).wf = true) := by
  obtain ⟨cs, rfl, hsz⟩ := okWide_struct Tryz.underlying24 hv
  obtain ⟨c0, c1, c2, c3, c4, c5, rfl⟩ := array6 (hsz.trans cells_crash)
  obtain ⟨fuel, hf⟩ := h
  obtain ⟨xs, n, _, hx, hl, hlen, hfd⟩ := DataW.trod_struct Tryz.underlying24 hf
  match xs, hlen with
  | [y0, y1, y2, y3, y4, y5], _ =>
    have h0 : DataW.trod enc Tryz.prog W base spare held n 3 [c0] = some y0 := hfd 0 _ rfl
    have h1 : DataW.trod enc Tryz.prog W base spare held n 3 [c1] = some y1 := hfd 1 _ rfl
    have h2 : DataW.trod enc Tryz.prog W base spare held n 3 [c2] = some y2 := hfd 2 _ rfl
    have h3 : DataW.trod enc Tryz.prog W base spare held n 3 [c3] = some y3 := hfd 3 _ rfl
    have h4 : DataW.trod enc Tryz.prog W base spare held n 3 [c4] = some y4 := hfd 4 _ rfl
    have h5 : DataW.trod enc Tryz.prog W base spare held n 3 [c5] = some y5 := hfd 5 _ rfl
    obtain ⟨x0, e0, q0, w0⟩ := DataW.trod_int Tryz.underlying3 h0
    obtain ⟨x1, e1, q1, w1⟩ := DataW.trod_int Tryz.underlying3 h1
    obtain ⟨x2, e2, q2, w2⟩ := DataW.trod_int Tryz.underlying3 h2
    obtain ⟨x3, e3, q3, w3⟩ := DataW.trod_int Tryz.underlying3 h3
    obtain ⟨x4, e4, q4, w4⟩ := DataW.trod_int Tryz.underlying3 h4
    obtain ⟨x5, e5, q5, w5⟩ := DataW.trod_int Tryz.underlying3 h5
    simp only [List.cons.injEq, and_true] at e0 e1 e2 e3 e4 e5
    subst e0 e1 e2 e3 e4 e5 q0 q1 q2 q3 q4 q5
    simp only [List.map_cons, List.map_nil, List.flatMap_cons, List.flatMap_nil, List.append_nil, Prod.mk.injEq] at hx
    exact ⟨x0, x1, x2, x3, x4, x5, rfl, hx.1, hx.2, w0, w1, w2, w3, w4, w5⟩
theorem shut_crash {H : Type} {enc : TypeId × Value → H} (W : World) (spare : Nat → Bool) (x0 x1 x2 x3 x4 x5 : Int) (w0 : (Lit.int .i64 x0).wf = true) (w1 : (Lit.int .i64 x1).wf = true) (w2 : (Lit.int .i64 x2).wf = true) (w3 : (Lit.int .i64 x3).wf = true) (w4 : (Lit.int .i64 x4).wf = true) (w5 : (Lit.int .i64 x5).wf = true) :
    DataW.Trod enc Tryz.prog W 0 spare true 24 (.agg #[.int .i64 x0, .int .i64 x1, .int .i64 x2, .int .i64 x3, .int .i64 x4, .int .i64 x5]) (.agg [.lit (.int .i64 x0), .lit (.int .i64 x1), .lit (.int .i64 x2), .lit (.int .i64 x3), .lit (.int .i64 x4), .lit (.int .i64 x5)]) [] := by
  have q := fun (x : Int) (h : (Lit.int .i64 x).wf = true) => trod_int_mk (enc := enc) (w := W) (base := 0) (spare := spare) (held := true) 0 Tryz.underlying3 h
  have h := trod_struct_mk (enc := enc) (w := W) (base := 0) (spare := spare) (held := true) (n := 1) (cs := [.int .i64 x0, .int .i64 x1, .int .i64 x2, .int .i64 x3, .int .i64 x4, .int .i64 x5]) (xs := [(.lit (.int .i64 x0), []), (.lit (.int .i64 x1), []), (.lit (.int .i64 x2), []), (.lit (.int .i64 x3), []), (.lit (.int .i64 x4), []), (.lit (.int .i64 x5), [])]) Tryz.underlying24 (by simp [cells_crash]) (by simp [cells_int1, q _ w0, q _ w1, q _ w2, q _ w3, q _ w4, q _ w5])
  refine ⟨2, ?_⟩
  have h2 : DataW.trod enc Tryz.prog W 0 spare true 2 24 [.int .i64 x0, .int .i64 x1, .int .i64 x2, .int .i64 x3, .int .i64 x4, .int .i64 x5] = some (.agg [.lit (.int .i64 x0), .lit (.int .i64 x1), .lit (.int .i64 x2), .lit (.int .i64 x3), .lit (.int .i64 x4), .lit (.int .i64 x5)], []) := by simpa using h
  exact h2

end Go.Proofs.YtejelednnacnaaaGreatDoor
