/-
  A slice of integers of one kind that reads as a list, in a world: what it is, and that it stays while new memory is made.
-/
import Derived.WalkKit
import Derived.WalkSmall
import Derived.Test.YtnndpainnoebgaaBoxes
namespace Go.Proofs.Ytnndpainnoebgaa
open Go.RowKit

/-- The value is a slice that is there, and reads as the list. -/
def Ints (k : IntKind) (w : World) (v : Value) (l : List Int) : Prop :=
  ∃ b off cap, v = .slice (some ⟨b, off, none⟩) l.length cap ∧ l.length ≤ cap ∧ b < w.heap.size ∧ ∀ i, i < l.length → w.cell? ⟨b, off + i, none⟩ = some (.int k (l.getD i 0))
theorem Ints.below {k : IntKind} {w w' : World} {v : Value} {l : List Int} (h : Ints k w v l) (hb : Below w.heap.size w w') : Ints k w' v l := by
  obtain ⟨b, off, cap, rfl, hc, hlt, hcell⟩ := h
  exact ⟨b, off, cap, rfl, hc, Nat.lt_of_lt_of_le hlt hb.size, fun i hi => (hb.cell (p := ⟨b, off + i, none⟩) hlt).trans (hcell i hi)⟩
theorem Ints.at {k : IntKind} {w : World} {b off n cap : Nat} {l : List Int} (h : Ints k w (.slice (some ⟨b, off, none⟩) n cap) l) {i : Nat} (hi : i < l.length) : w.cell? ⟨b, off + i, none⟩ = some (.int k (l.getD i 0)) := by
  obtain ⟨b', off', cap', he, _, _, hcell⟩ := h
  simp only [Value.slice.injEq, Option.some.injEq, Addr.mk.injEq, and_true] at he
  obtain ⟨⟨rfl, rfl⟩, _, _⟩ := he
  exact hcell i hi
/-- A slice of integers that the call has made. -/
def OwnInts (t : TypeId) (k : IntKind) (w : World) (base : Nat) (v : Value) (l : List Int) : Prop :=
  w.ownsRow base t 1 v l.length (l.map (Value.int k)) ∧ v ≠ .slice none 0 0
theorem OwnInts.ints {t : TypeId} {k : IntKind} {w : World} {base : Nat} {v : Value} {l : List Int} (h : OwnInts t k w base v l) : Ints k w v l := by
  obtain ⟨h, hn⟩ := h
  have hlt := h.lt
  have hcs := @World.ownsRow.cells _ _ _ _ _ _ _ h
  rcases h.2 with ⟨rfl, h0⟩ | ⟨g, cap, cur, rfl, h1, h2, h3, h4, h5, h6⟩
  · exact absurd rfl hn
  · refine ⟨g, 0, cap, rfl, h3, (hlt g rfl).2, fun i hi => ?_⟩
    have := hcs (g := g) rfl i (.int k (l.getD i 0)) (by rw [List.getElem?_map, List.getElem?_eq_getElem hi, List.getD_eq_getElem?_getD, List.getElem?_eq_getElem hi]; rfl)
    rcases i with _ | i <;> simpa [Addr.add] using this
/-- A new one, of none. -/
theorem OwnInts.fresh (t : TypeId) (k : IntKind) (w : World) (base g : Nat) (hg : g = w.heap.size) (h : base ≤ g) : OwnInts t k (w.alloc (.cells #[] t)) base (.slice (some ⟨g, 0, none⟩) 0 0) [] := by
  subst hg
  exact ⟨World.ownsRow_made w #[] 0 h (Nat.zero_le _) rfl, by simp⟩
theorem OwnInts.alloc {t : TypeId} {k : IntKind} {w : World} {base : Nat} {v : Value} {l : List Int} (h : OwnInts t k w base v l) (o : Obj) : OwnInts t k (w.alloc o) base v l := ⟨h.1.alloc o, h.2⟩
theorem OwnInts.append {t : TypeId} {k : IntKind} {w' : World} {base : Nat} {v' : Value} {l : List Int} {m : Nat} {news : List Int} (h : w'.ownsRow base t 1 v' (l.length + m) (l.map (Value.int k) ++ news.map (Value.int k))) (hm : news.length = m)
    (hi : ¬ v' = .slice none 0 0) : OwnInts t k w' base v' (l ++ news) := by
  refine ⟨?_, hi⟩
  rw [List.map_append, List.length_append, hm]
  exact h
theorem ints_one (k : IntKind) (l : List Int) : ∀ u ∈ l.map (Value.int k), u.oneCell' = true := by
  intro u hu
  obtain ⟨x, _, rfl⟩ := List.mem_map.mp hu
  rfl
/-- One more, behind a list of the call's own: what is known of the slice, and of what lies below. -/
theorem ints_next {t : TypeId} {k : IntKind} {w wr w1 : World} {base : Nat} {v v' : Value} {x : List Int} {z : Int} (hown : OwnInts t k wr base v x)
    (hown' : w1.ownsRow base t 1 v' (x.length + 1) (x.map (Value.int k) ++ [.int k z])) (hgrow : (wr.alloc (.cells #[.int k z] t)).grownBy w1 v.ownBlock) (hiff : ¬ v' = .slice none 0 0)
    (hbel : Below w.heap.size w wr) (hsz : w.heap.size ≤ base) (hbs : base ≤ wr.heap.size) :
    OwnInts t k w1 base v' (x ++ [z]) ∧ Below w.heap.size w w1 ∧ base ≤ w1.heap.size := by
  have hlt := hown.1.lt
  have ha : Below w.heap.size w (wr.alloc (.cells #[.int k z] t)) := hbel.alloc (by omega) _
  refine ⟨OwnInts.append (news := [z]) hown' rfl hiff, ha.grown hgrow (by simp; omega) (fun b hk => by have := (hlt _ hk).1; omega), ?_⟩
  have := hgrow.size; simp at this; omega

end Go.Proofs.Ytnndpainnoebgaa
