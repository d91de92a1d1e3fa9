/-
  Bytes that are handed in: what they are.
-/
import Derived.Test.YtnndpainnoebgaaWirS
import Derived.Test.YtnndpainnoebgaaRows
import Derived.ProofKit
import Derived.OpenShut
import Derived.ChangeOld
import Derived.Lib.SmallJoins
namespace Go.Proofs.Ytnndpainnoebgaa
open Go.ChangeShapes Go.WideShapes Go.ChangeAt Go.RowKit Go.Joins

/-- Bytes that are handed in: nil, or some. -/
def ArgB (w : World) (v : Value) (l : List Int) : Prop :=
  (v = .slice none 0 0 ∧ l = []) ∨ ∃ (x : Addr) (cap : Nat), v = .slice (some x) l.length cap ∧ l.length ≤ cap ∧ ∀ i, i < l.length → w.cell? (x.add i) = some (.int .u8 (l.getD i 0))
theorem arg_addr {w : World} {x : Addr} {l : List Int} (h : ∀ i, i < l.length → w.cell? (x.add i) = some (.int .u8 (l.getD i 0))) (hl : 0 < l.length) : ∃ b off, x = ⟨b, off, none⟩ ∧ ∀ i, i < l.length → w.cell? ⟨b, off + i, none⟩ = some (.int .u8 (l.getD i 0)) := ints_at h hl
theorem ArgB.bytesIs {w : World} {v : Value} {l : List Int} (h : ArgB w v l) : BytesIs w v l := by
  rcases h with ⟨rfl, rfl⟩ | ⟨x, cap, rfl, hc, hcell⟩
  · exact ⟨none, 0, rfl, Nat.le_refl _, fun i hi => by cases hi⟩
  · refine ⟨_, cap, rfl, hc, fun i hi => ?_⟩
    obtain ⟨b, off, rfl, h⟩ := arg_addr hcell (by omega)
    exact ⟨b, off, rfl, h i hi⟩
theorem ArgB.below {w w' : World} {v : Value} {l : List Int} (h : ArgB w v l) (hb : Below w.heap.size w w') : ArgB w' v l := by
  rcases h with h | ⟨x, cap, rfl, hc, hcell⟩
  · exact Or.inl h
  · exact Or.inr ⟨x, cap, rfl, hc, fun i hi => (hb.cell (World.block_lt_of_cell? _ _ (hcell i hi))).trans (hcell i hi)⟩
theorem open_bytes {H : Type} {enc : TypeId × Value → H} {W : World} {base : Nat} {held : Bool} {r : Reach} {b0 : Nat} {v : Value} {d : DataW H} {p : List MemPlace}
    (hv : Value.okWide Try.prog W r b0 30 v) (h : DataW.Trod enc Try.prog W base (fun _ => true) held 30 v d p) : ∃ l, ArgB W v l ∧ ∀ z ∈ l, 0 ≤ z ∧ z ≤ 255 := by
  obtain ⟨a0, len0, cap0, rfl⟩ := okWide_slice Try.underlying30 hv
  obtain ⟨fuel, hf⟩ := h
  rcases open_ints Try.underlying30 Try.underlying5 (by kernel_rfl) hf with ⟨hcs, _⟩ | ⟨x, l, c, zs, hcs, _, hl, hm, hz, _, hcell, hwz⟩
  · simp [Value.cells] at hcs
    obtain ⟨rfl, rfl, rfl⟩ := hcs
    exact ⟨[], Or.inl ⟨rfl, rfl⟩, fun z hz => by cases hz⟩
  · simp [Value.cells] at hcs
    obtain ⟨rfl, rfl, rfl⟩ := hcs
    have hz' : zs.length = cap0 := by simpa using hz
    have hlen : (zs.take len0).length = len0 := by rw [List.length_take]; omega
    refine ⟨zs.take len0, Or.inr ⟨x, cap0, by rw [hlen], by omega, fun i hi => ?_⟩, fun z hzm => ?_⟩
    · rw [hlen] at hi
      rw [hcell i (by omega), List.getD_eq_getElem?_getD, List.getD_eq_getElem?_getD, List.getElem?_take_of_lt hi]
    · have := hwz z (List.mem_of_mem_take hzm)
      simpa [Lit.wf, IntKind.min, IntKind.max, IntKind.signed, IntKind.bits] using this

end Go.Proofs.Ytnndpainnoebgaa
