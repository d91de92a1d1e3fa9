/-
  Tokens that are handed in: what they are.
-/
import Derived.Test.YthainohkneociaaDoorPkTokOpen
import Derived.ChangeOld
namespace Go.Proofs.YthainohkneociaaDoor
open Go.ChangeShapes Go.WideShapes Go.ChangeAt Go.RowKit Go.Joins Go.Deep

/-- A token that is handed in. -/
structure TokQ where
  k : Int := 0
  s : ByteArray := ⟨#[]⟩
  n : Int := 0
  a : Int := 0
  b : Int := 0
/-- What is right with its numbers. -/
structure TokQ.Ok (x : TokQ) : Prop where
  k0 : -9223372036854775808 ≤ x.k ∧ x.k ≤ 9223372036854775807
  n0 : 0 ≤ x.n ∧ x.n ≤ 18446744073709551615
  s0 : x.s.size ≤ 9223372036854775807
/-- A slice of them. -/
def ToksIs (W : World) (v : Value) (l : List TokQ) : Prop :=
  ∃ a cap, v = .slice a l.length cap ∧ l.length ≤ cap ∧ ∀ i, i < l.length → ∃ b off, a = some ⟨b, off, none⟩ ∧ W.cell? ⟨b, off + i * 5, none⟩ = some (.int .i64 (l.getD i {}).k) ∧ W.cell? ⟨b, off + i * 5 + 1, none⟩ = some (.string (l.getD i {}).s) ∧
    W.cell? ⟨b, off + i * 5 + 2, none⟩ = some (.int .u64 (l.getD i {}).n) ∧ W.cell? ⟨b, off + i * 5 + 3, none⟩ = some (.int .i64 (l.getD i {}).a) ∧ W.cell? ⟨b, off + i * 5 + 4, none⟩ = some (.int .i64 (l.getD i {}).b)
theorem ToksIs.below {w w' : World} {v : Value} {l : List TokQ} (h : ToksIs w v l) (hb : Below w.heap.size w w') : ToksIs w' v l := by
  obtain ⟨a, cap, rfl, hc, hcell⟩ := h
  refine ⟨a, cap, rfl, hc, fun i hi => ?_⟩
  obtain ⟨b, off, rfl, h0, h1, h2, h3, h4⟩ := hcell i hi
  have hlt := World.block_lt_of_cell? _ _ h0
  exact ⟨b, off, rfl, (hb.cell (p := ⟨b, off + i * 5, none⟩) hlt).trans h0, (hb.cell (p := ⟨b, off + i * 5 + 1, none⟩) hlt).trans h1, (hb.cell (p := ⟨b, off + i * 5 + 2, none⟩) hlt).trans h2, (hb.cell (p := ⟨b, off + i * 5 + 3, none⟩) hlt).trans h3, (hb.cell (p := ⟨b, off + i * 5 + 4, none⟩) hlt).trans h4⟩
theorem ToksIs.size {w : World} {v : Value} {l : List TokQ} (h : ToksIs w v l) : ∃ a cap, v = .slice a l.length cap := by
  obtain ⟨a, cap, rfl, _⟩ := h
  exact ⟨a, cap, rfl⟩
/-- With an address of their own. -/
theorem ToksIs.at {w : World} {v : Value} {l : List TokQ} (h : ToksIs w v l) (hl : 0 < l.length) : ∃ b off cap, v = .slice (some ⟨b, off, none⟩) l.length cap ∧ l.length ≤ cap ∧ b < w.heap.size ∧ ∀ i, i < l.length → w.cell? ⟨b, off + i * 5, none⟩ = some (.int .i64 (l.getD i {}).k) ∧ w.cell? ⟨b, off + i * 5 + 1, none⟩ = some (.string (l.getD i {}).s) ∧
    w.cell? ⟨b, off + i * 5 + 2, none⟩ = some (.int .u64 (l.getD i {}).n) ∧ w.cell? ⟨b, off + i * 5 + 3, none⟩ = some (.int .i64 (l.getD i {}).a) ∧ w.cell? ⟨b, off + i * 5 + 4, none⟩ = some (.int .i64 (l.getD i {}).b) := by
  obtain ⟨a, cap, rfl, hc, hcell⟩ := h
  obtain ⟨b, off, rfl, h0, _⟩ := hcell 0 hl
  refine ⟨b, off, cap, rfl, hc, World.block_lt_of_cell? _ _ h0, fun i hi => ?_⟩
  obtain ⟨b', off', he, hx⟩ := hcell i hi
  simp only [Option.some.injEq, Addr.mk.injEq, and_true] at he
  obtain ⟨rfl, rfl⟩ := he
  exact hx
theorem add_none5 (a : Addr) : a.add 0 = a := by cases a; simp [Addr.add]
theorem add_plain5 (b off n : Nat) : (⟨b, off, none⟩ : Addr).add n = ⟨b, off + n, none⟩ := by unfold Addr.add; split <;> simp_all
set_option maxRecDepth 100000 in
theorem open_toks {H : Type} {enc : TypeId × Value → H} {W : World} {base : Nat} {held : Bool} {r : Reach} {b0 : Nat} {v : Value} {d : DataW H} {p : List MemPlace}
    (hv : Value.okWide Tryd.prog W r b0 35 v) (h : DataW.Trod enc Tryd.prog W base (fun _ => true) held 35 v d p) :
    ∃ l, ToksIs W v l ∧ ∀ x ∈ l, x.Ok := by
  obtain ⟨a0, len0, cap0, rfl⟩ := okWide_slice Tryd.underlying35 hv
  obtain ⟨fuel, hf⟩ := h
  rcases open_slice Tryd.underlying35 hf with ⟨hcs, _⟩ | ⟨a, len, cap, m, n, D, Pl, hcs, _, hl, _, hm, _, hcell⟩
  · simp [Value.cells] at hcs
    obtain ⟨rfl, rfl, rfl⟩ := hcs
    exact ⟨[], ⟨none, 0, rfl, Nat.le_refl _, fun i hi => by cases hi⟩, fun x hx => by cases hx⟩
  · simp [Value.cells] at hcs
    obtain ⟨rfl, rfl, rfl⟩ := hcs
    have hmc : m = cap0 := by simpa using hm
    have hx : ∀ i, i < len0 → ∃ q : TokQ, q.Ok ∧ W.cell? (a.add (i * 5)) = some (.int .i64 q.k) ∧ W.cell? ((a.add (i * 5)).add 1) = some (.string q.s) ∧ W.cell? ((a.add (i * 5)).add 2) = some (.int .u64 q.n) ∧ W.cell? ((a.add (i * 5)).add 3) = some (.int .i64 q.a) ∧ W.cell? ((a.add (i * 5)).add 4) = some (.int .i64 q.b) := fun i hi => by
      obtain ⟨cs', h1, h2⟩ := hcell i (by omega)
      rw [cells_tok] at h1
      obtain ⟨_, hlen, hc⟩ := World.cells?_some h1
      match cs', hlen with
      | [v0, v1, v2, v3, v4], _ =>
        obtain ⟨k, s, n, x, y, rfl, rfl, rfl, rfl, rfl, _, hw⟩ := tok_trod h2
        have c0 := hc 0 (by decide)
        rw [add_none5] at c0
        have c1 := hc 1 (by decide)
        have c2 := hc 2 (by decide)
        have c3 := hc 3 (by decide)
        have c4 := hc 4 (by decide)
        exact ⟨⟨k, s, n, x, y⟩, ⟨by simpa [Lit.wf, IntKind.min, IntKind.max, IntKind.signed, IntKind.bits] using hw.k0, by simpa [Lit.wf, IntKind.min, IntKind.max, IntKind.signed, IntKind.bits] using hw.n0, by have := hw.s0; unfold maxLen at this; exact Nat.le_trans this (by decide)⟩, by simpa using c0, by simpa using c1, by simpa using c2, by simpa using c3, by simpa using c4⟩
    haveI : Inhabited TokQ := ⟨{}⟩
    obtain ⟨q, hq⟩ := choose_lt hx
    have hl2 : ((List.range len0).map fun i => q i).length = len0 := by simp
    have hget : ∀ i, i < len0 → ((List.range len0).map fun i => q i).getD i {} = q i := fun i hi => by
      rw [List.getD_eq_getElem?_getD, List.getElem?_map, List.getElem?_range hi]; rfl
    refine ⟨(List.range len0).map fun i => q i, ⟨some a, cap0, by rw [hl2], by omega, fun i hi => ?_⟩, fun x hxm => ?_⟩
    · rw [hl2] at hi
      obtain ⟨_, c0, c1, c2, c3, c4⟩ := hq i hi
      obtain ⟨b, off, spot⟩ := a
      have hspot : spot = none := by
        have h00 := (hq 0 (by omega)).2.1
        simpa [Addr.add] using World.cell?_spot h00
      subst hspot
      rw [add_plain5] at c0 c1 c2 c3 c4
      rw [add_plain5] at c1 c2 c3 c4
      rw [hget i hi]
      exact ⟨b, off, rfl, c0, c1, c2, c3, c4⟩
    · obtain ⟨i, hi, rfl⟩ := List.mem_map.mp hxm
      exact (hq i (List.mem_range.mp hi)).1

/-- Bytes that are handed in. -/
def GapsIs (W : World) (v : Value) (l : List Int) : Prop := ∃ a cap, v = .slice a l.length cap ∧ l.length ≤ cap ∧ ∀ i, i < l.length → ∃ b off, a = some ⟨b, off, none⟩ ∧ W.cell? ⟨b, off + i, none⟩ = some (.int .u8 (l.getD i 0))
theorem GapsIs.below {w w' : World} {v : Value} {l : List Int} (h : GapsIs w v l) (hb : Below w.heap.size w w') : GapsIs w' v l := by
  obtain ⟨a, cap, rfl, hc, hcell⟩ := h
  refine ⟨a, cap, rfl, hc, fun i hi => ?_⟩
  obtain ⟨b, off, rfl, h0⟩ := hcell i hi
  exact ⟨b, off, rfl, (hb.cell (p := ⟨b, off + i, none⟩) (World.block_lt_of_cell? _ _ h0)).trans h0⟩
theorem GapsIs.size {w : World} {v : Value} {l : List Int} (h : GapsIs w v l) : ∃ a cap, v = .slice a l.length cap := by
  obtain ⟨a, cap, rfl, _⟩ := h
  exact ⟨a, cap, rfl⟩
/-- With an address of their own. -/
theorem GapsIs.at {w : World} {v : Value} {l : List Int} (h : GapsIs w v l) (hl : 0 < l.length) : ∃ b off cap, v = .slice (some ⟨b, off, none⟩) l.length cap ∧ l.length ≤ cap ∧ b < w.heap.size ∧ ∀ i, i < l.length → w.cell? ⟨b, off + i, none⟩ = some (.int .u8 (l.getD i 0)) := by
  obtain ⟨a, cap, rfl, hc, hcell⟩ := h
  obtain ⟨b, off, rfl, h0⟩ := hcell 0 hl
  refine ⟨b, off, cap, rfl, hc, World.block_lt_of_cell? _ _ h0, fun i hi => ?_⟩
  obtain ⟨b', off', he, hx⟩ := hcell i hi
  simp only [Option.some.injEq, Addr.mk.injEq, and_true] at he
  obtain ⟨rfl, rfl⟩ := he
  exact hx
set_option maxRecDepth 100000 in
theorem open_gaps {H : Type} {enc : TypeId × Value → H} {W : World} {base : Nat} {held : Bool} {r : Reach} {b0 : Nat} {v : Value} {d : DataW H} {p : List MemPlace}
    (hv : Value.okWide Tryd.prog W r b0 41 v) (h : DataW.Trod enc Tryd.prog W base (fun _ => true) held 41 v d p) : ∃ l, GapsIs W v l ∧ ∀ z ∈ l, 0 ≤ z ∧ z ≤ 255 := by
  obtain ⟨a0, len0, cap0, rfl⟩ := okWide_slice Tryd.underlying41 hv
  obtain ⟨fuel, hf⟩ := h
  rcases open_ints Tryd.underlying41 Tryd.underlying5 (by kernel_rfl) hf with ⟨hcs, _⟩ | ⟨x, l, c, zs, hcs, _, hl, hm, hz, _, hcell, hwz⟩
  · simp [Value.cells] at hcs
    obtain ⟨rfl, rfl, rfl⟩ := hcs
    exact ⟨[], ⟨none, 0, rfl, Nat.le_refl _, fun i hi => by cases hi⟩, fun z hz => by cases hz⟩
  · simp [Value.cells] at hcs
    obtain ⟨rfl, rfl, rfl⟩ := hcs
    have hz' : zs.length = cap0 := by simpa using hz
    have hlen : (zs.take len0).length = len0 := by rw [List.length_take]; omega
    refine ⟨zs.take len0, ⟨some x, cap0, by rw [hlen], by omega, fun i hi => ?_⟩, fun z hzm => ?_⟩
    · rw [hlen] at hi
      have hc := hcell i (by omega)
      have hc0 := hcell 0 (by omega)
      obtain ⟨b, off, spot⟩ := x
      have hspot : spot = none := by simpa [Addr.add] using World.cell?_spot hc0
      subst hspot
      rw [add_plain5] at hc
      refine ⟨b, off, rfl, ?_⟩
      rw [hc, List.getD_eq_getElem?_getD, List.getD_eq_getElem?_getD, List.getElem?_take_of_lt hi]
    · have := hwz z (List.mem_of_mem_take hzm)
      simpa [Lit.wf, IntKind.min, IntKind.max, IntKind.signed, IntKind.bits] using this

end Go.Proofs.YthainohkneociaaDoor
