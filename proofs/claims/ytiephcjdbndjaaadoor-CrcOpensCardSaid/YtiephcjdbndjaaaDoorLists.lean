/-
  Slices of slices of bytes: what they are.
-/
import Derived.Test.YtiephcjdbndjaaaDoorJoin
namespace Go.Proofs.YtiephcjdbndjaaaDoor
open Go.RowKit

/-- A slice of slices of bytes that reads as a list of lists: nil, or some. -/
def ArgLL (w : World) (v : Value) (L : List (List Int)) : Prop :=
  (v = .slice none 0 0 ∧ L = []) ∨ ∃ (x : Addr) (cap : Nat) (vs : Nat → Value), v = .slice (some x) L.length cap ∧ L.length ≤ cap ∧ ∀ i, i < L.length → w.cell? (x.add i) = some (vs i) ∧ ArgB w (vs i) (L.getD i [])
theorem ArgLL.below {w w' : World} {v : Value} {L : List (List Int)} (h : ArgLL w v L) (hb : Below w.heap.size w w') : ArgLL w' v L := by
  rcases h with h | ⟨x, cap, vs, rfl, hc, hcell⟩
  · exact Or.inl h
  · exact Or.inr ⟨x, cap, vs, rfl, hc, fun i hi => ⟨(hb.cell (World.block_lt_of_cell? _ _ (hcell i hi).1)).trans (hcell i hi).1, (hcell i hi).2.below hb⟩⟩
theorem info_slice : (Tryd.prog.info? 22).map (fun i => (i.zero, i.size, i.bytes)) = some (some (.slice none 0 0), 1, 24) := by kernel_rfl
/-- The slices of bytes in a slice of slices, with an address of their own. -/
theorem ArgLL.at {w : World} {v : Value} {L : List (List Int)} (h : ArgLL w v L) (hl : 0 < L.length) : ∃ b off cap, ∃ vs : Nat → Value, v = .slice (some ⟨b, off, none⟩) L.length cap ∧ ∀ i, i < L.length → w.cell? ⟨b, off + i, none⟩ = some (vs i) ∧ ArgB w (vs i) (L.getD i []) := by
  rcases h with ⟨_, rfl⟩ | ⟨x, cap, vs, rfl, hc, hcell⟩
  · simp at hl
  · obtain ⟨b, off, rfl⟩ : ∃ b off, x = ⟨b, off, none⟩ := by
      have h0 := (hcell 0 hl).1
      obtain ⟨b, off, sp⟩ := x
      have : sp = none := by simpa [Addr.add] using World.cell?_spot h0
      subst this
      exact ⟨b, off, rfl⟩
    have e3 : ∀ j : Nat, (⟨b, off, none⟩ : Addr).add j = ⟨b, off + j, none⟩ := fun j => by unfold Addr.add; split <;> simp_all
    exact ⟨b, off, cap, vs, rfl, fun i hi => by have := hcell i hi; rw [e3] at this; exact this⟩
theorem ArgLL.size {w : World} {v : Value} {L : List (List Int)} (h : ArgLL w v L) : ∃ a cap, v = .slice a L.length cap := by
  rcases h with ⟨rfl, rfl⟩ | ⟨x, cap, vs, rfl, _⟩
  · exact ⟨none, 0, rfl⟩
  · exact ⟨some x, cap, rfl⟩

end Go.Proofs.YtiephcjdbndjaaaDoor
