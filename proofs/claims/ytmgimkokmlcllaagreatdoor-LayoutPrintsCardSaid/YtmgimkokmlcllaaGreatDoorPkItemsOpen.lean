/-
  Items that are handed in: what they are.
-/
import Derived.Test.YtmgimkokmlcllaaGreatDoorPkTok
import Derived.Test.YtmgimkokmlcllaaGreatDoorPkLaya
import Derived.Test.YtmgimkokmlcllaaGreatDoorPkTrem
namespace Go.Proofs.YtmgimkokmlcllaaGreatDoor
open Go.ChangeShapes Go.WideShapes Go.ChangeAt Go.RowKit Go.Joins Go.Deep

theorem cells_item6 : Tryz.prog.cellsOf 51 = 6 := by kernel_rfl
theorem cells_one_toks : Tryz.prog.cellsOf 49 = 1 := by kernel_rfl
theorem cells_one_items : Tryz.prog.cellsOf 22 = 1 := by kernel_rfl
theorem cells_one_bool : Tryz.prog.cellsOf 4 = 1 := by kernel_rfl

theorem ItemsIs.up {d : Nat} {w : World} {S : Nat → Prop} {v : Value} {L : List It} (h : ItemsIs d w S v L) : ItemsIs (d + 1) w S v L := by
  rcases h.deeper with h | ⟨rfl, a, cap, rfl⟩
  · exact h
  · exact ⟨a, cap, rfl, Nat.zero_le _, fun i hi => by cases hi⟩
section
variable {H : Type} {enc : TypeId × Value → H} {W : World} {base : Nat} {spare : Nat → Bool} {held : Bool}
theorem trod_struct5 {P : Program} {t : TypeId} {f0 f1 f2 f3 f4 : Field} {fuel : Nat} {cs : List Value} {x : DataW H × List MemPlace} (ht : P.underlying t = some (.struct #[f0, f1, f2, f3, f4])) (h : DataW.trod enc P W base spare held fuel t cs = some x) :
    ∃ y0 y1 y2 y3 y4 n, fuel = n + 1 ∧ DataW.trod enc P W base spare held n f0.type ((cs.drop f0.offset).take (P.cellsOf f0.type)) = some y0 ∧ DataW.trod enc P W base spare held n f1.type ((cs.drop f1.offset).take (P.cellsOf f1.type)) = some y1 ∧
      DataW.trod enc P W base spare held n f2.type ((cs.drop f2.offset).take (P.cellsOf f2.type)) = some y2 ∧ DataW.trod enc P W base spare held n f3.type ((cs.drop f3.offset).take (P.cellsOf f3.type)) = some y3 ∧ DataW.trod enc P W base spare held n f4.type ((cs.drop f4.offset).take (P.cellsOf f4.type)) = some y4 := by
  obtain ⟨xs, n, hn, rfl, hl, hlen, hf⟩ := DataW.trod_struct ht h
  match xs, hlen with
  | [y0, y1, y2, y3, y4], _ => exact ⟨y0, y1, y2, y3, y4, n, hn, by simpa using hf 0 f0 rfl, by simpa using hf 1 f1 rfl, by simpa using hf 2 f2 rfl, by simpa using hf 3 f3 rfl, by simpa using hf 4 f4 rfl⟩

theorem item_trod {fuel : Nat} {c0 c1 c2 c3 c4 c5 : Value} {y : DataW H × List MemPlace}
    (hf : DataW.trod enc Tryz.prog W base spare held fuel 51 [c0, c1, c2, c3, c4, c5] = some y) :
    ∃ (s : ByteArray) (k : Bool) (a b : Int) (n : Nat) (y1 y3 : DataW H × List MemPlace), fuel = n + 1 ∧ c0 = .string s ∧ c2 = .bool k ∧ c4 = .int .i64 a ∧ c5 = .int .i64 b ∧
      DataW.trod enc Tryz.prog W base spare held n 49 [c1] = some y1 ∧ DataW.trod enc Tryz.prog W base spare held n 22 [c3] = some y3 := by
  obtain ⟨y0, y1, y2, y3, y4, n, hn, h0, h1, h2, h3, h4⟩ := trod_struct5 Tryz.underlying51 hf
  simp only [cells_one_str, cells_one_toks, cells_one_bool, cells_one_items, cells_spot, List.drop_zero, List.take_succ_cons, List.take_zero, List.drop_succ_cons] at h0 h1 h2 h3 h4
  obtain ⟨s, e0, _, _⟩ := DataW.trod_string Tryz.underlying9 h0
  obtain ⟨k, e2, _⟩ := DataW.trod_bool Tryz.underlying4 h2
  obtain ⟨z0, z1, m2, _, _, g0, g1⟩ := trod_struct2 Tryz.underlying30 h4
  simp only [cells_one_int, List.drop_zero, List.take_succ_cons, List.take_zero, List.drop_succ_cons] at g0 g1
  obtain ⟨a, f0, _, _⟩ := DataW.trod_int Tryz.underlying3 g0
  obtain ⟨b, f1, _, _⟩ := DataW.trod_int Tryz.underlying3 g1
  simp only [List.cons.injEq, and_true] at e0 e2 f0 f1
  exact ⟨s, k, a, b, n, y1, y3, hn, e0, e2, f0, f1, h1, h3⟩

theorem words_trod {fuel : Nat} {v : Value} {x : DataW H × List MemPlace} (hf : DataW.trod enc Tryz.prog W base spare held fuel 49 [v] = some x) :
    ∃ wd, WordsIs W (fun b => b < W.heap.size) v wd ∧ ∀ t ∈ wd, 0 ≤ t.n ∧ t.n ≤ 18446744073709551615 := by
  rcases open_slice Tryz.underlying49 hf with ⟨hcs, _⟩ | ⟨a, len, cap, m, n, D, Pl, hcs, _, hl, _, hm, _, hcell⟩
  · simp only [List.cons.injEq, and_true] at hcs
    subst hcs
    exact ⟨[], ⟨none, 0, rfl, Nat.le_refl _, fun i hi => by cases hi⟩, fun x hx => by cases hx⟩
  · simp only [List.cons.injEq, and_true] at hcs
    subst hcs
    have hmc : len ≤ m := by rw [hm]; split <;> omega
    have hx : ∀ i, i < len → ∃ q : Tk3, (0 ≤ q.n ∧ q.n ≤ 18446744073709551615) ∧ W.cell? (a.add (i * 5)) = some (.int .i64 q.k) ∧ W.cell? ((a.add (i * 5)).add 1) = some (.string q.s) ∧ W.cell? ((a.add (i * 5)).add 2) = some (.int .u64 q.n) ∧ W.cell? ((a.add (i * 5)).add 3) = some (.int .i64 q.a) ∧ W.cell? ((a.add (i * 5)).add 4) = some (.int .i64 q.b) := fun i hi => by
      obtain ⟨cs', h1, h2⟩ := hcell i (by omega)
      rw [cells_tok] at h1
      obtain ⟨_, hlen, hc⟩ := World.cells?_some h1
      match cs', hlen with
      | [v0, v1, v2, v3, v4], _ =>
        obtain ⟨k, s, n, x, y, rfl, rfl, rfl, rfl, rfl, _, hw⟩ := tok_trod h2
        have c0 := hc 0 (by decide)
        rw [add_none5] at c0
        have c1 := hc 1 (by decide)
        have c2 := hc 2 (by decide)
        have c3 := hc 3 (by decide)
        have c4 := hc 4 (by decide)
        exact ⟨⟨k, s, n, x, y⟩, by simpa [Lit.wf, IntKind.min, IntKind.max, IntKind.signed, IntKind.bits] using hw.n0, by simpa using c0, by simpa using c1, by simpa using c2, by simpa using c3, by simpa using c4⟩
    haveI : Inhabited Tk3 := ⟨{}⟩
    obtain ⟨q, hq⟩ := choose_lt hx
    have hl2 : ((List.range len).map fun i => q i).length = len := by simp
    have hget : ∀ i, i < len → ((List.range len).map fun i => q i).getD i {} = q i := fun i hi => by
      rw [List.getD_eq_getElem?_getD, List.getElem?_map, List.getElem?_range hi]; rfl
    refine ⟨(List.range len).map fun i => q i, ⟨some a, cap, by rw [hl2], by omega, fun i hi => ?_⟩, fun x hxm => ?_⟩
    · rw [hl2] at hi
      obtain ⟨_, c0, c1, c2, c3, c4⟩ := hq i hi
      obtain ⟨b, off, spot⟩ := a
      have hspot : spot = none := by
        have h00 := (hq 0 (by omega)).2.1
        simpa [Addr.add] using World.cell?_spot h00
      subst hspot
      rw [add_plain5] at c0 c1 c2 c3 c4
      rw [add_plain5] at c1 c2 c3 c4
      rw [hget i hi]
      exact ⟨b, off, rfl, World.block_lt_of_cell? _ _ c0, c0, c1, c2, c3, c4⟩
    · obtain ⟨i, hi, rfl⟩ := List.mem_map.mp hxm
      exact (hq i (List.mem_range.mp hi)).1

theorem numsR_of : ∀ {L : List It}, (∀ x ∈ L, (∀ t ∈ x.words, 0 ≤ t.n ∧ t.n ≤ 18446744073709551615) ∧ NumsR x.kids) → NumsR L
  | [], _ => by simp [NumsR]
  | .mk n w k kids a b :: l, h => by
    rw [NumsR]
    have h0 := h _ (List.mem_cons_self ..)
    exact ⟨h0.1, h0.2, numsR_of (fun x hx => h x (List.mem_cons_of_mem _ hx))⟩

theorem items_trod : ∀ (fuel : Nat) (v : Value) (x : DataW H × List MemPlace), DataW.trod enc Tryz.prog W base spare held fuel 22 [v] = some x →
    ∃ L, ItemsIs fuel W (fun b => b < W.heap.size) v L ∧ NumsR L := by
  intro fuel
  induction fuel using Nat.strongRecOn with
  | _ fuel ih =>
    intro v x hf
    rcases DataW.trod_slice Tryz.underlying22 hf with ⟨hcs, _⟩ | ⟨a, len, cap, elems, rest, n, rfl, hcs, _, _, hl, _, hlen, hel, _⟩
    · simp only [List.cons.injEq, and_true] at hcs
      subst hcs
      cases fuel with
      | zero => simp [DataW.trod] at hf
      | succ d => exact ⟨[], ⟨none, 0, rfl, Nat.le_refl _, fun i hi => (by cases hi)⟩, by simp [NumsR]⟩
    · simp only [List.cons.injEq, and_true] at hcs
      subst hcs
      have hx : ∀ i, i < len → ∃ q : It, ((∀ t ∈ q.words, 0 ≤ t.n ∧ t.n ≤ 18446744073709551615) ∧ NumsR q.kids) ∧ ∃ wv kv, W.cell? (a.add (i * 6)) = some (.string q.name) ∧ W.cell? ((a.add (i * 6)).add 1) = some wv ∧ W.cell? ((a.add (i * 6)).add 2) = some (.bool q.block) ∧ W.cell? ((a.add (i * 6)).add 3) = some kv ∧ W.cell? ((a.add (i * 6)).add 4) = some (.int .i64 q.a) ∧ W.cell? ((a.add (i * 6)).add 5) = some (.int .i64 q.b) ∧
          WordsIs W (fun b => b < W.heap.size) wv q.words ∧ ItemsIs n W (fun b => b < W.heap.size) kv q.kids := fun i hi => by
        have h1 := hel i hi
        rw [List.getElem?_eq_getElem (by omega)] at h1
        obtain ⟨cs', h1, h2⟩ := Option.bind_eq_some_iff.mp h1
        rw [cells_item6] at h1
        obtain ⟨_, hlen6, hc⟩ := World.cells?_some h1
        match cs', hlen6 with
        | [v0, v1, v2, v3, v4, v5], _ =>
          obtain ⟨s, k, pa, pb, m, y1, y3, rfl, rfl, rfl, rfl, rfl, hw, hk⟩ := item_trod h2
          obtain ⟨wd, hwd, hwn⟩ := words_trod hw
          obtain ⟨kd, hkd, hkn⟩ := ih m (by omega) _ _ hk
          have c0 := hc 0 (by decide)
          rw [add_none5] at c0
          have c1 := hc 1 (by decide)
          have c2 := hc 2 (by decide)
          have c3 := hc 3 (by decide)
          have c4 := hc 4 (by decide)
          have c5 := hc 5 (by decide)
          exact ⟨.mk s wd k kd pa pb, ⟨hwn, hkn⟩, v1, v3, by simpa [It.name] using c0, by simpa using c1, by simpa [It.block] using c2, by simpa using c3, by simpa [It.a] using c4, by simpa [It.b] using c5, hwd, hkd.up⟩
      obtain ⟨q, hq⟩ := choose_lt hx
      have hl2 : ((List.range len).map fun i => q i).length = len := by simp
      have hget : ∀ i, i < len → ((List.range len).map fun i => q i).getD i default = q i := fun i hi => by
        rw [List.getD_eq_getElem?_getD, List.getElem?_map, List.getElem?_range hi]; rfl
      refine ⟨(List.range len).map fun i => q i, ⟨some a, cap, by rw [hl2], by omega, fun i hi => ?_⟩, numsR_of (fun x hxm => ?_)⟩
      · rw [hl2] at hi
        obtain ⟨_, wv, kv, c0, c1, c2, c3, c4, c5, hw, hk⟩ := hq i hi
        obtain ⟨b, off, spot⟩ := a
        have hspot : spot = none := by
          obtain ⟨_, _, _, h00, _⟩ := hq 0 (by omega)
          simpa [Addr.add] using World.cell?_spot h00
        subst hspot
        rw [add_plain5] at c0 c1 c2 c3 c4 c5
        rw [add_plain5] at c1 c2 c3 c4 c5
        rw [hget i hi]
        exact ⟨b, off, wv, kv, rfl, World.block_lt_of_cell? _ _ c0, c0, c1, c2, c3, c4, c5, hw, hk⟩
      · obtain ⟨i, hi, rfl⟩ := List.mem_map.mp hxm
        exact (hq i (List.mem_range.mp hi)).1
end
def TreeIs (W : World) (v : Value) (L : List It) : Prop := ∃ D, ItemsIs D W (fun b => b < W.heap.size) v L
set_option maxRecDepth 100000 in
theorem open_items {H : Type} {enc : TypeId × Value → H} {W : World} {base : Nat} {held : Bool} {r : Reach} {b0 : Nat} {v : Value} {d : DataW H} {p : List MemPlace}
    (hv : Value.okWide Tryz.prog W r b0 22 v) (h : DataW.Trod enc Tryz.prog W base (fun _ => true) held 22 v d p) :
    ∃ L, TreeIs W v L ∧ NumsR L := by
  obtain ⟨a0, len0, cap0, rfl⟩ := okWide_slice Tryz.underlying22 hv
  obtain ⟨fuel, hf⟩ := h
  have hf2 : DataW.trod enc Tryz.prog W base (fun _ => true) held fuel 22 [.slice a0 len0 cap0] = some (d, p) := by simpa [Value.cells] using hf
  obtain ⟨L, h1, h2⟩ := items_trod fuel _ _ hf2
  exact ⟨L, ⟨fuel, h1⟩, h2⟩

end Go.Proofs.YtmgimkokmlcllaaGreatDoor
