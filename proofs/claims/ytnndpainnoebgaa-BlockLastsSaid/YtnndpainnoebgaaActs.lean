/-
  Calls that are handed in (stage 9): what they are.
-/
import Derived.Test.YtnndpainnoebgaaArgs
import Derived.Deep.Slices
import Derived.Lib.SmallJoins
namespace Go.Proofs.Ytnndpainnoebgaa
open Go.ChangeShapes Go.WideShapes Go.ChangeAt Go.RowKit Go.Joins Go.Deep

/-- Bytes in a cell. -/
theorem open_bytes_at {H : Type} {enc : TypeId × Value → H} {W : World} {base : Nat} {held : Bool} {fuel : Nat} {v : Value} {y : DataW H × List MemPlace}
    (hf : DataW.trod enc Try.prog W base (fun _ => true) held fuel 30 [v] = some y) : ∃ l, ArgB W v l ∧ (∀ z ∈ l, 0 ≤ z ∧ z ≤ 255) ∧ (l.length : Int) ≤ 9223372036854775807 := by
  rcases open_ints Try.underlying30 Try.underlying5 (by kernel_rfl) hf with ⟨hcs, _⟩ | ⟨x, l, c, zs, hcs, _, hl, hm, hz, _, hcell, hwz⟩
  · simp at hcs
    subst hcs
    exact ⟨[], Or.inl ⟨rfl, rfl⟩, (fun z hz => by cases hz), by decide⟩
  · simp at hcs
    subst hcs
    have hz' : zs.length = c := by simpa using hz
    have hlen : (zs.take l).length = l := by rw [List.length_take]; omega
    refine ⟨zs.take l, Or.inr ⟨x, c, by rw [hlen], by omega, fun i hi => ?_⟩, fun z hzm => ?_, by rw [hlen]; unfold maxLen at hm; omega⟩
    · rw [hlen] at hi
      rw [hcell i (by omega), List.getD_eq_getElem?_getD, List.getD_eq_getElem?_getD, List.getElem?_take_of_lt hi]
    · have := hwz z (List.mem_of_mem_take hzm)
      simpa [Lit.wf, IntKind.min, IntKind.max, IntKind.signed, IntKind.bits] using this

/-- A call. -/
structure ActV where
  kind : Int := 0
  i : Int := 0
  k : Int := 0
  b : List Int := []
/-- What is right with one. -/
structure ActV.Ok (x : ActV) : Prop where
  q0 : -9223372036854775808 ≤ x.kind ∧ x.kind ≤ 9223372036854775807
  i0 : -9223372036854775808 ≤ x.i ∧ x.i ≤ 9223372036854775807
  k0 : -9223372036854775808 ≤ x.k ∧ x.k ≤ 9223372036854775807
  b0 : ∀ z ∈ x.b, 0 ≤ z ∧ z ≤ 255
  b1 : (x.b.length : Int) ≤ 9223372036854775807
/-- A slice of them. -/
def ActsIs (W : World) (v : Value) (l : List ActV) : Prop :=
  ∃ a cap, v = .slice a l.length cap ∧ l.length ≤ cap ∧ ∀ i, i < l.length → ∃ b off bv, a = some ⟨b, off, none⟩ ∧ W.cell? ⟨b, off + i * 4, none⟩ = some (.int .i64 (l.getD i {}).kind) ∧ W.cell? ⟨b, off + i * 4 + 1, none⟩ = some (.int .i64 (l.getD i {}).i) ∧
    W.cell? ⟨b, off + i * 4 + 2, none⟩ = some (.int .i64 (l.getD i {}).k) ∧ W.cell? ⟨b, off + i * 4 + 3, none⟩ = some bv ∧ ArgB W bv (l.getD i {}).b
theorem ActsIs.below {w w' : World} {v : Value} {l : List ActV} (h : ActsIs w v l) (hb : Below w.heap.size w w') : ActsIs w' v l := by
  obtain ⟨a, cap, rfl, hc, hcell⟩ := h
  refine ⟨a, cap, rfl, hc, fun i hi => ?_⟩
  obtain ⟨b, off, bv, rfl, h0, h1, h2, h3, h4⟩ := hcell i hi
  have hlt := World.block_lt_of_cell? _ _ h0
  exact ⟨b, off, bv, rfl, (hb.cell (p := ⟨b, off + i * 4, none⟩) hlt).trans h0, (hb.cell (p := ⟨b, off + i * 4 + 1, none⟩) hlt).trans h1, (hb.cell (p := ⟨b, off + i * 4 + 2, none⟩) hlt).trans h2, (hb.cell (p := ⟨b, off + i * 4 + 3, none⟩) hlt).trans h3, h4.below hb⟩
theorem ActsIs.size {w : World} {v : Value} {l : List ActV} (h : ActsIs w v l) : ∃ a cap, v = .slice a l.length cap := by
  obtain ⟨a, cap, rfl, _⟩ := h
  exact ⟨a, cap, rfl⟩
/-- With an address of their own. -/
theorem ActsIs.at {w : World} {v : Value} {l : List ActV} (h : ActsIs w v l) (hl : 0 < l.length) : ∃ b off cap, v = .slice (some ⟨b, off, none⟩) l.length cap ∧ b < w.heap.size ∧ ∀ i, i < l.length → ∃ bv, w.cell? ⟨b, off + i * 4, none⟩ = some (.int .i64 (l.getD i {}).kind) ∧ w.cell? ⟨b, off + i * 4 + 1, none⟩ = some (.int .i64 (l.getD i {}).i) ∧
    w.cell? ⟨b, off + i * 4 + 2, none⟩ = some (.int .i64 (l.getD i {}).k) ∧ w.cell? ⟨b, off + i * 4 + 3, none⟩ = some bv ∧ ArgB w bv (l.getD i {}).b := by
  obtain ⟨a, cap, rfl, hc, hcell⟩ := h
  obtain ⟨b, off, _, rfl, h0, _⟩ := hcell 0 hl
  refine ⟨b, off, cap, rfl, World.block_lt_of_cell? _ _ h0, fun i hi => ?_⟩
  obtain ⟨b', off', bv, he, hx⟩ := hcell i hi
  simp only [Option.some.injEq, Addr.mk.injEq, and_true] at he
  obtain ⟨rfl, rfl⟩ := he
  exact ⟨bv, hx⟩
theorem cells_act : Try.prog.cellsOf 32 = 4 := by kernel_rfl
theorem add_none (a : Addr) : a.add 0 = a := by cases a; simp [Addr.add]
theorem add_plain4 (b off n : Nat) : (⟨b, off, none⟩ : Addr).add n = ⟨b, off + n, none⟩ := by unfold Addr.add; split <;> simp_all
theorem open_acts {H : Type} {enc : TypeId × Value → H} {W : World} {base : Nat} {held : Bool} {r : Reach} {b0 : Nat} {v : Value} {d : DataW H} {p : List MemPlace}
    (hv : Value.okWide Try.prog W r b0 22 v) (h : DataW.Trod enc Try.prog W base (fun _ => true) held 22 v d p) :
    ∃ l, ActsIs W v l ∧ ∀ x ∈ l, x.Ok := by
  obtain ⟨a0, len0, cap0, rfl⟩ := okWide_slice Try.underlying22 hv
  obtain ⟨fuel, hf⟩ := h
  rcases open_slice Try.underlying22 hf with ⟨hcs, _⟩ | ⟨a, len, cap, m, n, D, Pl, hcs, _, hl, _, hm, _, hcell⟩
  · simp [Value.cells] at hcs
    obtain ⟨rfl, rfl, rfl⟩ := hcs
    exact ⟨[], ⟨none, 0, rfl, Nat.le_refl _, fun i hi => by cases hi⟩, fun x hx => by cases hx⟩
  · simp [Value.cells] at hcs
    obtain ⟨rfl, rfl, rfl⟩ := hcs
    have hmc : m = cap0 := by simpa using hm
    have hx : ∀ i, i < len0 → ∃ q : ActV × Value, q.1.Ok ∧ W.cell? (a.add (i * 4)) = some (.int .i64 q.1.kind) ∧ W.cell? ((a.add (i * 4)).add 1) = some (.int .i64 q.1.i) ∧ W.cell? ((a.add (i * 4)).add 2) = some (.int .i64 q.1.k) ∧ W.cell? ((a.add (i * 4)).add 3) = some q.2 ∧ ArgB W q.2 q.1.b := fun i hi => by
      obtain ⟨cs', h1, h2⟩ := hcell i (by omega)
      rw [cells_act] at h1
      obtain ⟨_, hlen, hc⟩ := World.cells?_some h1
      obtain ⟨y0, y1, y2, y3, k, _, _, g0, g1, g2, g3⟩ := trod_struct4 Try.underlying32 h2
      match cs', hlen with
      | [v0, v1, v2, v3], _ =>
        have g0' : DataW.trod enc Try.prog W base (fun _ => true) held k 3 [v0] = some y0 := g0
        have g1' : DataW.trod enc Try.prog W base (fun _ => true) held k 3 [v1] = some y1 := g1
        have g2' : DataW.trod enc Try.prog W base (fun _ => true) held k 3 [v2] = some y2 := g2
        have g3' : DataW.trod enc Try.prog W base (fun _ => true) held k 30 [v3] = some y3 := g3
        obtain ⟨z0, e0, _, w0⟩ := DataW.trod_int Try.underlying3 g0'
        obtain ⟨z1, e1, _, w1⟩ := DataW.trod_int Try.underlying3 g1'
        obtain ⟨z2, e2, _, w2⟩ := DataW.trod_int Try.underlying3 g2'
        obtain ⟨bl, ab, bb, bn⟩ := open_bytes_at g3'
        simp only [List.cons.injEq, and_true] at e0 e1 e2
        subst e0 e1 e2
        have c0 := hc 0 (by decide)
        rw [add_none] at c0
        have c1 := hc 1 (by decide)
        have c2 := hc 2 (by decide)
        have c3 := hc 3 (by decide)
        exact ⟨(⟨z0, z1, z2, bl⟩, v3), ⟨by simpa [Lit.wf, IntKind.min, IntKind.max, IntKind.signed, IntKind.bits] using w0, by simpa [Lit.wf, IntKind.min, IntKind.max, IntKind.signed, IntKind.bits] using w1, by simpa [Lit.wf, IntKind.min, IntKind.max, IntKind.signed, IntKind.bits] using w2, bb, bn⟩, by simpa using c0, by simpa using c1, by simpa using c2, by simpa using c3, ab⟩
    haveI : Inhabited (ActV × Value) := ⟨({}, undef)⟩
    obtain ⟨q, hq⟩ := choose_lt hx
    have hl2 : ((List.range len0).map fun i => (q i).1).length = len0 := by simp
    have hget : ∀ i, i < len0 → ((List.range len0).map fun i => (q i).1).getD i {} = (q i).1 := fun i hi => by
      rw [List.getD_eq_getElem?_getD, List.getElem?_map, List.getElem?_range hi]; rfl
    refine ⟨(List.range len0).map fun i => (q i).1, ⟨some a, cap0, by rw [hl2], by omega, fun i hi => ?_⟩, fun x hxm => ?_⟩
    · rw [hl2] at hi
      obtain ⟨_, c0, c1, c2, c3, ab⟩ := hq i hi
      obtain ⟨b, off, spot⟩ := a
      have hspot : spot = none := by
        have h00 := (hq 0 (by omega)).2.1
        simpa [Addr.add] using World.cell?_spot h00
      subst hspot
      rw [add_plain4] at c0 c1 c2 c3
      rw [add_plain4] at c1 c2 c3
      rw [hget i hi]
      exact ⟨b, off, (q i).2, rfl, c0, c1, c2, c3, ab⟩
    · obtain ⟨i, hi, rfl⟩ := List.mem_map.mp hxm
      exact (hq i (List.mem_range.mp hi)).1

end Go.Proofs.Ytnndpainnoebgaa
