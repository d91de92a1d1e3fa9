/-
  A slice of bits that reads as a list, in a world: what it is, and that it stays while new memory is made.
-/
import Derived.WalkKit
import Derived.WalkSmall
import Derived.Test.YtfdpiiahclglcaaDoorProg
import Derived.Test.YtfdpiiahclglcaaDoorBits
namespace Go.Proofs.YtfdpiiahclglcaaDoor
open Go.RowKit

/-- The value is a slice that is there, and reads as the list. -/
def Bools (w : World) (v : Value) (l : List Bool) : Prop :=
  ∃ b off cap, v = .slice (some ⟨b, off, none⟩) l.length cap ∧ l.length ≤ cap ∧ b < w.heap.size ∧ ∀ i, i < l.length → w.cell? ⟨b, off + i, none⟩ = some (.bool (l.getD i false))
/-- The same, or nil and empty. -/
def BoolsN (w : World) (v : Value) (l : List Bool) : Prop := (v = .slice none 0 0 ∧ l = []) ∨ Bools w v l

theorem Bools.orNil {w : World} {v : Value} {l : List Bool} (h : Bools w v l) : BoolsN w v l := Or.inr h
theorem BoolsN.nil (w : World) : BoolsN w (.slice none 0 0) [] := Or.inl ⟨rfl, rfl⟩
theorem Bools.below {w w' : World} {v : Value} {l : List Bool} (h : Bools w v l) (hb : Below w.heap.size w w') : Bools w' v l := by
  obtain ⟨b, off, cap, rfl, hc, hlt, hcell⟩ := h
  exact ⟨b, off, cap, rfl, hc, Nat.lt_of_lt_of_le hlt hb.size, fun i hi => (hb.cell (p := ⟨b, off + i, none⟩) hlt).trans (hcell i hi)⟩
theorem Bools.alloc {w : World} {v : Value} {l : List Bool} (h : Bools w v l) (o : Obj) : Bools (w.alloc o) v l :=
  h.below ((Below.refl _ _).alloc (Nat.le_refl _) o)
theorem Bools.drew {w : World} {v : Value} {l : List Bool} (h : Bools w v l) : Bools w.drew v l := h.below (Below.refl _ _).drew
theorem Bools.drewN {w : World} {v : Value} {l : List Bool} (h : Bools w v l) (n : Nat) : Bools (w.drewN n) v l := h.below (below_drewN (Below.refl _ _) n)
theorem Bools.setCell {w : World} {v : Value} {l : List Bool} (h : Bools w v l) {a : Addr} (u : Value) (B : Nat) (hv : ∀ b, v.ownBlock = some b → b < B) (ha : B ≤ a.block) : Bools (w.setCell a u) v l := by
  obtain ⟨b, off, cap, rfl, hc, hlt, hcell⟩ := h
  have hb : Below B w (w.setCell a u) := (Below.refl _ _).setCell ha u
  have := hv b rfl
  exact ⟨b, off, cap, rfl, hc, Nat.lt_of_lt_of_le hlt hb.size, fun i hi => (hb.cell (p := ⟨b, off + i, none⟩) this).trans (hcell i hi)⟩
theorem Bools.lt {w : World} {v : Value} {l : List Bool} (h : Bools w v l) : ∀ b, v.ownBlock = some b → b < w.heap.size := by
  obtain ⟨b, off, cap, rfl, hc, hlt, hcell⟩ := h
  intro b' hb
  simp only [Value.ownBlock, Option.some.injEq] at hb
  subst hb; exact hlt
/-- Over any steps that leave what lies below a block alone. -/
theorem Bools.belowOf {w w' : World} {v : Value} {l : List Bool} (h : Bools w v l) {B : Nat} (hB : w.heap.size ≤ B) (hb : Below B w w') : Bools w' v l := h.below (hb.mono hB)
theorem BoolsN.belowOf {w w' : World} {v : Value} {l : List Bool} (h : BoolsN w v l) {B : Nat} (hB : w.heap.size ≤ B) (hb : Below B w w') : BoolsN w' v l := by
  rcases h with h | h
  · exact Or.inl h
  · exact Or.inr (h.belowOf hB hb)

/-- A slice of bits that the call has made. -/
def OwnBits (w : World) (base : Nat) (v : Value) (l : List Bool) : Prop :=
  w.ownsRow base 4 1 v l.length (l.map Value.bool) ∧ v ≠ .slice none 0 0
theorem OwnBits.bools {w : World} {base : Nat} {v : Value} {l : List Bool} (h : OwnBits w base v l) : Bools w v l := by
  obtain ⟨h, hn⟩ := h
  have hlt := h.lt
  have hcs := @World.ownsRow.cells _ _ _ _ _ _ _ h
  rcases h.2 with ⟨rfl, h0⟩ | ⟨g, cap, cur, rfl, h1, h2, h3, h4, h5, h6⟩
  · exact absurd rfl hn
  · refine ⟨g, 0, cap, rfl, h3, (hlt g rfl).2, fun i hi => ?_⟩
    have := hcs (g := g) rfl i (.bool (l.getD i false)) (by rw [List.getElem?_map, List.getElem?_eq_getElem hi, List.getD_eq_getElem?_getD, List.getElem?_eq_getElem hi]; rfl)
    rcases i with _ | i <;> simpa [Addr.add] using this
/-- A new one, of no bits. -/
theorem OwnBits.fresh (w : World) (base g : Nat) (hg : g = w.heap.size) (h : base ≤ g) : OwnBits (w.alloc (.cells #[] 4)) base (.slice (some ⟨g, 0, none⟩) 0 0) [] := by
  subst hg
  exact ⟨World.ownsRow_made w #[] 0 h (Nat.zero_le _) rfl, by simp⟩
theorem OwnBits.one (w : World) (base g : Nat) (x : Bool) (hg : g = w.heap.size) (h : base ≤ g) : OwnBits (w.alloc (.cells #[.bool x] 4)) base (.slice (some ⟨g, 0, none⟩) 1 1) [x] := by
  subst hg
  exact ⟨⟨rfl, .inr ⟨w.heap.size, 1, _, rfl, h, heap_alloc_new w _, Nat.le_refl _, by decide, rfl, rfl⟩⟩, by simp⟩
/-- The cells of a slice that is there. -/
theorem Bools.news {w : World} {b off n cap : Nat} {l : List Bool} (h : Bools w (.slice (some ⟨b, off, none⟩) n cap) l) : ∀ j u, (l.map Value.bool)[j]? = some u → w.cell? ((⟨b, off, none⟩ : Addr).add j) = some u := by
  obtain ⟨b', off', cap', he, _, _, hcell⟩ := h
  simp only [Value.slice.injEq, Option.some.injEq, Addr.mk.injEq, and_true] at he
  obtain ⟨⟨rfl, rfl⟩, _, _⟩ := he
  intro j u hj
  rw [List.getElem?_map] at hj
  obtain ⟨x, hx, rfl⟩ := Option.map_eq_some_iff.mp hj
  obtain ⟨hlt, hx⟩ := List.getElem?_eq_some_iff.mp hx
  have := hcell j hlt
  rw [List.getD_eq_getElem?_getD, List.getElem?_eq_getElem hlt, hx] at this
  rcases j with _ | j <;> simpa [Addr.add] using this
theorem Bools.at {w : World} {b off n cap : Nat} {l : List Bool} (h : Bools w (.slice (some ⟨b, off, none⟩) n cap) l) {i : Nat} (hi : i < l.length) : w.cell? ⟨b, off + i, none⟩ = some (.bool (l.getD i false)) := by
  obtain ⟨b', off', cap', he, _, _, hcell⟩ := h
  simp only [Value.slice.injEq, Option.some.injEq, Addr.mk.injEq, and_true] at he
  obtain ⟨⟨rfl, rfl⟩, _, _⟩ := he
  exact hcell i hi
theorem bools_one (l : List Bool) : ∀ u ∈ l.map Value.bool, u.oneCell' = true := by
  intro u hu
  obtain ⟨x, _, rfl⟩ := List.mem_map.mp hu
  rfl
theorem OwnBits.alloc {w : World} {base : Nat} {v : Value} {l : List Bool} (h : OwnBits w base v l) (o : Obj) : OwnBits (w.alloc o) base v l := ⟨h.1.alloc o, h.2⟩
theorem OwnBits.append {w' : World} {base : Nat} {v' : Value} {l : List Bool} {m : Nat} {news : List Bool} (h : w'.ownsRow base 4 1 v' (l.length + m) (l.map Value.bool ++ news.map Value.bool)) (hm : news.length = m)
    (hi : ¬ v' = .slice none 0 0) : OwnBits w' base v' (l ++ news) := by
  refine ⟨?_, hi⟩
  rw [List.map_append, List.length_append, hm]
  exact h
theorem info_bool : (Tryd.prog.info? 4).map (fun i => (i.zero, i.size, i.bytes)) = some (some (.bool false), 1, 1) := by kernel_rfl

end Go.Proofs.YtfdpiiahclglcaaDoor
