/-
  Bytes 0 put behind bytes of the call's own ('append(x, make([]byte, n)...)': one operation): with room for them or not.
-/
import Derived.Test.YtiephcjdbndjaaaDoorJoin
import Derived.Lib.AppendZerosOnto
namespace Go.Proofs.YtiephcjdbndjaaaDoor
open Go.RowKit

theorem zero_cells (n : Nat) : Builtin.zeroCells (Value.int IntKind.u8 0).cells n = (List.replicate n (Value.int .u8 0)).toArray := by
  show Builtin.zeroCells #[Value.int .u8 0] n = _
  apply Array.ext
  · simp [Builtin.zeroCells]
  · intro i h1 h2
    simp [Builtin.zeroCells, Nat.mod_one]
theorem rep_map (n : Nat) : (List.replicate n (0 : Int)).map (Value.int .u8) = List.replicate n (Value.int .u8 0) := by simp
theorem run_zeros_own (w : World) (base : Nat) (v : Value) (l : List Int) (h : OwnInts 5 .u8 w base v l) (k : Nat) (k0 : 0 < k) (hlen : l.length + k ≤ 1000000) (hbase : base ≤ w.heap.size) (ty : TypeId) :
    ∃ v' w', (Builtin.append_ #[22, 3] ty #[v, .int .i64 (k : Int)]).run Tryd.prog w = .ok v' w' ∧ OwnInts 5 .u8 w' base v' (l ++ List.replicate k 0) ∧ Below base w w' ∧ base ≤ w'.heap.size := by
  obtain ⟨i0, hi, hz0, hz1, hz2⟩ := info_parts info_byte
  obtain ⟨⟨h1, h2⟩, hn⟩ := h
  rcases h2 with ⟨e, _⟩ | ⟨g, cap, cur, rfl, hbg, hg, hnc, hcm, hcs, htake⟩
  · exact (hn e).elim
  have hlen2 : (l.map (Value.int .u8)).length = l.length := by simp
  have hcs' : cur.size = cap := by simpa using hcs
  have htake' : cur.toList.take l.length = l.map (Value.int .u8) := by simpa using htake
  have hrl : (l ++ List.replicate k (0 : Int)).length = l.length + k := by simp
  by_cases hroom : l.length + k ≤ cap
  · have hst := run_storeCells_at (P := Tryd.prog) g l.length 5 (List.replicate k (Value.int .u8 0)) 0 cur w hg (by simp; omega) (fun u hu => by obtain ⟨_, rfl⟩ := List.mem_replicate.mp hu; rfl)
    simp only [Nat.add_zero, List.length_replicate] at hst
    have hw : IntKind.i64.wrap (k : Int) = k := by rw [IntKind.wrap_i64]; omega
    have hneg : ¬ ((k : Int) < 0) := by omega
    have h48i : ¬ (281474976710656 < (k : Int)) := by omega
    have hns : ¬ k = 0 := by omega
    have hadd : (⟨g, 0, none⟩ : Addr).add l.length = ⟨g, l.length, none⟩ := by unfold Addr.add; split <;> simp_all
    have hlt : g < w.heap.size := (Array.getElem?_eq_some_iff.1 hg).1
    refine ⟨.slice (some ⟨g, 0, none⟩) (l.length + k) cap, w.setRow g (cur.toList.take l.length ++ List.replicate k (Value.int .u8 0) ++ cur.toList.drop (l.length + k)).toArray, ?_, ⟨⟨?_, Or.inr ⟨g, cap, _, by rw [hrl], hbg, setRow_heap w g cur _ 5 _ hg, by rw [hrl]; exact hroom, hcm, ?_, ?_⟩⟩, by simp⟩, ?_, by simpa using hbase⟩
    · simp [Builtin.append_, run_underlying Tryd.underlying22, run_underlying Tryd.underlying3, sizeOf, typeInfo, zeroValue, hi, hz0, hz1, hz2, asInt, asIntOf, hw, hneg, hns, hroom, hadd, h48i, zero_cells, hst]
    · simp
    · simp; omega
    · rw [hrl, List.map_append, rep_map, htake', Nat.mul_one]
      have e : (l.map (Value.int .u8) ++ List.replicate k (Value.int .u8 0)).length = l.length + k := by simp
      show ((l.map (Value.int .u8) ++ List.replicate k (Value.int .u8 0)) ++ _).take (l.length + k) = _
      rw [← e, List.take_left]
    · exact ⟨rfl, rfl, rfl, by simp, fun j hj => setRow_other w g j _ (by omega)⟩
  · have hcellD : ∀ j u, (l.map (Value.int .u8))[j]? = some u → w.drew.cell? ((⟨g, 0, none⟩ : Addr).add j) = some u := fun j u hu => World.ownsRow.cells (w := w) ⟨h1, Or.inr ⟨g, cap, cur, rfl, hbg, hg, hnc, hcm, hcs, htake⟩⟩ (g := g) rfl j u hu
    have hold : (Builtin.firstCells i0.size l.length (.slice (some ⟨g, 0, none⟩) l.length cap)).run Tryd.prog w.drew = .ok (l.map (Value.int .u8)).toArray w.drew := by
      rw [hz1]
      exact run_firstCells_some w.drew 1 l.length ⟨g, 0, none⟩ l.length cap (l.map (Value.int .u8)) (by simp) hcellD
    have hr := Lib.run_append_grow_zeros (P := Tryd.prog) w 22 3 ty 5 i0 (.int .u8 0) .i64 .i64 Tryd.underlying22 Tryd.underlying3 hi hz0 (some ⟨g, 0, none⟩) l.length cap (l.map (Value.int .u8)) hold k k0 (by rw [hz1]; decide) (by omega) (by omega) (by rw [hz2]; omega) (growslice_fits (by omega) (by rw [hz2]; omega))
    have hge := grownCap_ge w (l.length + k) cap 5
    have hcm2 : grownCap w (l.length + k) cap 5 ≤ maxLen := grownCap_le_maxLen w (l.length + k) cap 5 (by unfold maxLen; omega)
    refine ⟨_, _, hr, ⟨⟨by simp, Or.inr ⟨w.heap.size, _, _, by rw [hrl], hbase, heap_alloc_new w.drew _, by rw [hrl]; exact hge, hcm2, ?_, ?_⟩⟩, by simp⟩, ?_, ?_⟩
    · simp only [Array.size_append, size_zeroCells, List.size_toArray, hlen2]
      show l.length + k * 1 + _ * 1 = _ * 1
      omega
    · rw [hrl, List.map_append, rep_map, Nat.mul_one, zero_cells]
      have e : (l.map (Value.int .u8) ++ List.replicate k (Value.int .u8 0)).length = l.length + k := by simp
      simp only [Array.toList_append]
      rw [← e, List.take_left]
    · exact ((Below.refl base w).drew).alloc hbase _
    · have := ((Below.refl base w).drew).alloc hbase (.cells ((l.map (Value.int .u8)).toArray ++ Builtin.zeroCells (Value.int IntKind.u8 0).cells k ++ Builtin.zeroCells (Value.int IntKind.u8 0).cells (grownCap w (l.length + k) cap 5 - (l.length + k))) 5)
      exact Nat.le_trans hbase this.size

/-- The operation, for a walk. -/
theorem wp_zeros {w : World} {ops : Array Oper} {rest : List Oper} {o : Oper} {a : Act} {Q : Exit → Act → World → Prop} (hgd : o.guard = none) (s x : Operand)
    (ho : o.op = .call { callee := .builtin .append, args := #[s, x], argTypes := #[22, 3] })
    (base : Nat) (v : Value) (l : List Int) (hs : a.eval s = v) (hown : OwnInts 5 .u8 w base v l) (k : Nat) (k0 : 0 < k) (hx : a.eval x = .int .i64 (k : Int))
    (hlen : l.length + k ≤ 1000000) (hbase : base ≤ w.heap.size)
    (h : ∀ v' w', OwnInts 5 .u8 w' base v' (l ++ List.replicate k 0) → Below base w w' → base ≤ w'.heap.size → wpList Tryd.prog ops Q rest (a.put o.dst v') w') : wpList Tryd.prog ops Q (o :: rest) a w := by
  obtain ⟨v', w', hr, h1, h2, h3⟩ := run_zeros_own w base v l hown k k0 hlen hbase o.type
  exact Lib.wpList_append_run w hgd s x _ _ ho v _ hs hx v' w' hr (h v' w' h1 h2 h3)

end Go.Proofs.YtiephcjdbndjaaaDoor
