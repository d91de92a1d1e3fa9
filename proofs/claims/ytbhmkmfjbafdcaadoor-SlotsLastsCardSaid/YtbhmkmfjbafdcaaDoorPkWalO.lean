/-
  Calls and a crash that are handed in (stage 10): what they are.
-/
import Derived.Test.YtbhmkmfjbafdcaaDoorPkMarkA
import Derived.Test.YtbhmkmfjbafdcaaDoorPkActs
import Derived.Test.YtbhmkmfjbafdcaaDoorRows
import Derived.ProofKit
import Derived.OpenShut
import Derived.Deep.Slices
import Derived.Deep.Strs
import Derived.Lib.SmallJoins
namespace Go.Proofs.YtbhmkmfjbafdcaaDoor
open Go.ChangeShapes Go.WideShapes Go.ChangeAt Go.RowKit Go.Joins Go.Deep

theorem cells_actw : Tryd.prog.cellsOf 40 = 2 := by kernel_rfl
set_option maxRecDepth 100000 in
theorem open_actw {H : Type} {enc : TypeId × Value → H} {W : World} {base : Nat} {held : Bool} {r : Reach} {b0 : Nat} {v : Value} {d : DataW H} {p : List MemPlace}
    (hv : Value.okWide Tryd.prog W r b0 22 v) (h : DataW.Trod enc Tryd.prog W base (fun _ => true) held 22 v d p) :
    ∃ l, ActsW W v l ∧ ∀ x ∈ l, x.Ok := by
  obtain ⟨a0, len0, cap0, rfl⟩ := okWide_slice Tryd.underlying22 hv
  obtain ⟨fuel, hf⟩ := h
  rcases open_slice Tryd.underlying22 hf with ⟨hcs, _⟩ | ⟨a, len, cap, m, n, D, Pl, hcs, _, hl, _, hm, _, hcell⟩
  · simp [Value.cells] at hcs
    obtain ⟨rfl, rfl, rfl⟩ := hcs
    exact ⟨[], ⟨none, 0, rfl, Nat.le_refl _, fun i hi => by cases hi⟩, fun x hx => by cases hx⟩
  · simp [Value.cells] at hcs
    obtain ⟨rfl, rfl, rfl⟩ := hcs
    have hmc : m = cap0 := by simpa using hm
    have hx : ∀ i, i < len0 → ∃ q : ActW × Value, q.1.Ok ∧ W.cell? (a.add (i * 2)) = some (.int .i64 q.1.kind) ∧ W.cell? ((a.add (i * 2)).add 1) = some q.2 ∧ ArgB W q.2 q.1.b := fun i hi => by
      obtain ⟨cs', h1, h2⟩ := hcell i (by omega)
      rw [cells_actw] at h1
      obtain ⟨_, hlen, hc⟩ := World.cells?_some h1
      obtain ⟨y0, y1, k, _, _, g0, g1⟩ := trod_struct2 Tryd.underlying40 h2
      match cs', hlen with
      | [v0, v1], _ =>
        have g0' : DataW.trod enc Tryd.prog W base (fun _ => true) held k 3 [v0] = some y0 := g0
        have g1' : DataW.trod enc Tryd.prog W base (fun _ => true) held k 36 [v1] = some y1 := g1
        obtain ⟨z0, e0, _, w0⟩ := DataW.trod_int Tryd.underlying3 g0'
        obtain ⟨bl, ab, bb, bn⟩ := open_bytes_at g1'
        simp only [List.cons.injEq, and_true] at e0
        subst e0
        have c0 := hc 0 (by decide)
        rw [add_none] at c0
        have c1 := hc 1 (by decide)
        exact ⟨(⟨z0, bl⟩, v1), ⟨bb, bn⟩, by simpa using c0, by simpa using c1, ab⟩
    haveI : Inhabited (ActW × Value) := ⟨({}, undef)⟩
    obtain ⟨q, hq⟩ := choose_lt hx
    have hl2 : ((List.range len0).map fun i => (q i).1).length = len0 := by simp
    have hget : ∀ i, i < len0 → ((List.range len0).map fun i => (q i).1).getD i {} = (q i).1 := fun i hi => by
      rw [List.getD_eq_getElem?_getD, List.getElem?_map, List.getElem?_range hi]; rfl
    refine ⟨(List.range len0).map fun i => (q i).1, ⟨some a, cap0, by rw [hl2], by omega, fun i hi => ?_⟩, fun x hxm => ?_⟩
    · rw [hl2] at hi
      obtain ⟨_, c0, c1, ab⟩ := hq i hi
      obtain ⟨b, off, spot⟩ := a
      have hspot : spot = none := by
        have h00 := (hq 0 (by omega)).2.1
        simpa [Addr.add] using World.cell?_spot h00
      subst hspot
      rw [add_plain4] at c0 c1
      rw [add_plain4] at c1
      rw [hget i hi]
      exact ⟨b, off, (q i).2, rfl, c0, c1, ab⟩
    · obtain ⟨i, hi, rfl⟩ := List.mem_map.mp hxm
      exact (hq i (List.mem_range.mp hi)).1

theorem array6 {α : Type} {cs : Array α} (h : cs.size = 6) : ∃ c0 c1 c2 c3 c4 c5, cs = #[c0, c1, c2, c3, c4, c5] := by
  obtain ⟨l⟩ := cs
  match l, h with
  | [c0, c1, c2, c3, c4, c5], _ => exact ⟨c0, c1, c2, c3, c4, c5, rfl⟩
theorem cells_int1 : Tryd.prog.cellsOf 3 = 1 := by kernel_rfl
theorem cells_crash : Tryd.prog.cellsOf 48 = 6 := by kernel_rfl
/-- What is handed in. -/
def crashV (x0 x1 x2 x3 x4 x5 : Int) : Value := .agg #[.int .i64 x0, .int .i64 x1, .int .i64 x2, .int .i64 x3, .int .i64 x4, .int .i64 x5]
set_option maxRecDepth 100000 in
theorem open_crash {H : Type} {enc : TypeId × Value → H} {W : World} {base : Nat} {spare : Nat → Bool} {held : Bool} {r : Reach} {b0 : Nat} {v : Value} {d : DataW H} {p : List MemPlace}
    (hv : Value.okWide Tryd.prog W r b0 48 v) (h : DataW.Trod enc Tryd.prog W base spare held 48 v d p) :
    ∃ (x0 x1 x2 x3 x4 x5 : Int), v = .agg #[.int .i64 x0, .int .i64 x1, .int .i64 x2, .int .i64 x3, .int .i64 x4, .int .i64 x5] ∧ d = .agg [.lit (.int .i64 x0), .lit (.int .i64 x1), .lit (.int .i64 x2), .lit (.int .i64 x3), .lit (.int .i64 x4), .lit (.int .i64 x5)] ∧ p = [] ∧
      ((Lit.int .i64 x0).wf = true ∧ (Lit.int .i64 x1).wf = true ∧ (Lit.int .i64 x2).wf = true ∧ (Lit.int .i64 x3).wf = true ∧ (Lit.int .i64 x4).wf = true ∧ (Lit.int .i64 x5).wf = true) := by
  obtain ⟨cs, rfl, hsz⟩ := okWide_struct Tryd.underlying48 hv
  obtain ⟨c0, c1, c2, c3, c4, c5, rfl⟩ := array6 (hsz.trans cells_crash)
  obtain ⟨fuel, hf⟩ := h
  obtain ⟨xs, n, _, hx, hl, hlen, hfd⟩ := DataW.trod_struct Tryd.underlying48 hf
  match xs, hlen with
  | [y0, y1, y2, y3, y4, y5], _ =>
    have h0 : DataW.trod enc Tryd.prog W base spare held n 3 [c0] = some y0 := hfd 0 _ rfl
    have h1 : DataW.trod enc Tryd.prog W base spare held n 3 [c1] = some y1 := hfd 1 _ rfl
    have h2 : DataW.trod enc Tryd.prog W base spare held n 3 [c2] = some y2 := hfd 2 _ rfl
    have h3 : DataW.trod enc Tryd.prog W base spare held n 3 [c3] = some y3 := hfd 3 _ rfl
    have h4 : DataW.trod enc Tryd.prog W base spare held n 3 [c4] = some y4 := hfd 4 _ rfl
    have h5 : DataW.trod enc Tryd.prog W base spare held n 3 [c5] = some y5 := hfd 5 _ rfl
    obtain ⟨x0, e0, q0, w0⟩ := DataW.trod_int Tryd.underlying3 h0
    obtain ⟨x1, e1, q1, w1⟩ := DataW.trod_int Tryd.underlying3 h1
    obtain ⟨x2, e2, q2, w2⟩ := DataW.trod_int Tryd.underlying3 h2
    obtain ⟨x3, e3, q3, w3⟩ := DataW.trod_int Tryd.underlying3 h3
    obtain ⟨x4, e4, q4, w4⟩ := DataW.trod_int Tryd.underlying3 h4
    obtain ⟨x5, e5, q5, w5⟩ := DataW.trod_int Tryd.underlying3 h5
    simp only [List.cons.injEq, and_true] at e0 e1 e2 e3 e4 e5
    subst e0 e1 e2 e3 e4 e5 q0 q1 q2 q3 q4 q5
    simp only [List.map_cons, List.map_nil, List.flatMap_cons, List.flatMap_nil, List.append_nil, Prod.mk.injEq] at hx
    exact ⟨x0, x1, x2, x3, x4, x5, rfl, hx.1, hx.2, w0, w1, w2, w3, w4, w5⟩
theorem shut_crash {H : Type} {enc : TypeId × Value → H} (W : World) (spare : Nat → Bool) (x0 x1 x2 x3 x4 x5 : Int) (w0 : (Lit.int .i64 x0).wf = true) (w1 : (Lit.int .i64 x1).wf = true) (w2 : (Lit.int .i64 x2).wf = true) (w3 : (Lit.int .i64 x3).wf = true) (w4 : (Lit.int .i64 x4).wf = true) (w5 : (Lit.int .i64 x5).wf = true) :
    DataW.Trod enc Tryd.prog W 0 spare true 48 (.agg #[.int .i64 x0, .int .i64 x1, .int .i64 x2, .int .i64 x3, .int .i64 x4, .int .i64 x5]) (.agg [.lit (.int .i64 x0), .lit (.int .i64 x1), .lit (.int .i64 x2), .lit (.int .i64 x3), .lit (.int .i64 x4), .lit (.int .i64 x5)]) [] := by
  have q := fun (x : Int) (h : (Lit.int .i64 x).wf = true) => trod_int_mk (enc := enc) (w := W) (base := 0) (spare := spare) (held := true) 0 Tryd.underlying3 h
  have h := trod_struct_mk (enc := enc) (w := W) (base := 0) (spare := spare) (held := true) (n := 1) (cs := [.int .i64 x0, .int .i64 x1, .int .i64 x2, .int .i64 x3, .int .i64 x4, .int .i64 x5]) (xs := [(.lit (.int .i64 x0), []), (.lit (.int .i64 x1), []), (.lit (.int .i64 x2), []), (.lit (.int .i64 x3), []), (.lit (.int .i64 x4), []), (.lit (.int .i64 x5), [])]) Tryd.underlying48 (by simp [cells_crash]) (by simp [cells_int1, q _ w0, q _ w1, q _ w2, q _ w3, q _ w4, q _ w5])
  refine ⟨2, ?_⟩
  have h2 : DataW.trod enc Tryd.prog W 0 spare true 2 48 [.int .i64 x0, .int .i64 x1, .int .i64 x2, .int .i64 x3, .int .i64 x4, .int .i64 x5] = some (.agg [.lit (.int .i64 x0), .lit (.int .i64 x1), .lit (.int .i64 x2), .lit (.int .i64 x3), .lit (.int .i64 x4), .lit (.int .i64 x5)], []) := by simpa using h
  exact h2

end Go.Proofs.YtbhmkmfjbafdcaaDoor
