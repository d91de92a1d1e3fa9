/-
  Things that are handed in (stage 7): what they are.
-/
import Derived.Test.YteekpmpfgjpodaaWirR
import Derived.Test.YteekpmpfgjpodaaArgs
import Derived.Deep.SlicePairs
namespace Go.Proofs.Yteekpmpfgjpodaa
open Go.ChangeShapes Go.WideShapes Go.ChangeAt Go.RowKit Go.Joins Go.Deep

theorem cells_thing : Try.prog.cellsOf 48 = 2 := by kernel_rfl
theorem cells_int1 : Try.prog.cellsOf 3 = 1 := by kernel_rfl
theorem open_things {H : Type} {enc : TypeId × Value → H} {W : World} {base : Nat} {held : Bool} {r : Reach} {b0 : Nat} {v : Value} {d : DataW H} {p : List MemPlace}
    (hv : Value.okWide Try.prog W r b0 42 v) (h : DataW.Trod enc Try.prog W base (fun _ => true) held 42 v d p) :
    ∃ l, ThingsIs W v l ∧ ∀ x ∈ l, (-9223372036854775808 ≤ x.1 ∧ x.1 ≤ 9223372036854775807) ∧ (-9223372036854775808 ≤ x.2 ∧ x.2 ≤ 9223372036854775807) := by
  obtain ⟨a0, len0, cap0, rfl⟩ := okWide_slice Try.underlying42 hv
  obtain ⟨fuel, hf⟩ := h
  rcases open_slice_pairs Try.underlying42 Try.underlying48 cells_thing rfl rfl cells_int1 cells_int1 hf with ⟨hcs, _⟩ | ⟨a, len, cap, m, n, V0, V1, D0, D1, P0, P1, hcs, _, hl, _, hm, _, hcell⟩
  · simp [Value.cells] at hcs
    obtain ⟨rfl, rfl, rfl⟩ := hcs
    exact ⟨[], ⟨none, 0, rfl, Nat.le_refl _, fun i hi => by cases hi⟩, fun x hx => by cases hx⟩
  · simp [Value.cells] at hcs
    obtain ⟨rfl, rfl, rfl⟩ := hcs
    have hmc : m = cap0 := by simpa using hm
    have hx : ∀ i, i < len0 → ∃ q : Int × Int, V0 i = .int .i64 q.1 ∧ V1 i = .int .i64 q.2 ∧ (Lit.int .i64 q.1).wf = true ∧ (Lit.int .i64 q.2).wf = true := fun i hi => by
      obtain ⟨_, _, t0, t1⟩ := hcell i (by omega)
      obtain ⟨x, e0, _, w0⟩ := DataW.trod_int Try.underlying3 t0
      obtain ⟨y, e1, _, w1⟩ := DataW.trod_int Try.underlying3 t1
      simp only [List.cons.injEq, and_true] at e0 e1
      exact ⟨(x, y), e0, e1, w0, w1⟩
    obtain ⟨q, hq⟩ := choose_lt hx
    have hl2 : ((List.range len0).map q).length = len0 := by simp
    have hget : ∀ i, i < len0 → ((List.range len0).map q).getD i (0, 0) = q i := fun i hi => by
      rw [List.getD_eq_getElem?_getD, List.getElem?_map, List.getElem?_range hi]; rfl
    refine ⟨(List.range len0).map q, ⟨some a, cap0, by rw [hl2], by omega, fun i hi => ?_⟩, fun x hxm => ?_⟩
    · rw [hl2] at hi
      obtain ⟨c0, c1, _, _⟩ := hcell i (by omega)
      obtain ⟨e0, e1, _, _⟩ := hq i hi
      obtain ⟨b, off, spot⟩ := a
      have hspot : spot = none := by have h00 := (hcell 0 (by omega)).1; simpa [Addr.add] using World.cell?_spot h00
      subst hspot
      refine ⟨b, off, rfl, ?_, ?_⟩
      · rw [hget i hi, ← e0, ← c0]
        rcases i with _ | i <;> simp [Addr.add]
      · rw [hget i hi, ← e1, ← c1]
        simp [Addr.add, Nat.add_assoc]
    · obtain ⟨i, hi, rfl⟩ := List.mem_map.mp hxm
      obtain ⟨_, _, w0, w1⟩ := hq i (List.mem_range.mp hi)
      exact ⟨by simpa [Lit.wf, IntKind.min, IntKind.max, IntKind.signed, IntKind.bits] using w0, by simpa [Lit.wf, IntKind.min, IntKind.max, IntKind.signed, IntKind.bits] using w1⟩

end Go.Proofs.Yteekpmpfgjpodaa
