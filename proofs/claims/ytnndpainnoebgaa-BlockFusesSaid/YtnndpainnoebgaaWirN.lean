/-
  The document's own answers of layer 7, walked: Num, Int, Text.
-/
import Derived.Test.YtnndpainnoebgaaWirA
import Derived.Test.YtnndpainnoebgaaInts
import Derived.Test.YtnndpainnoebgaaRead
import Derived.Laws.AppendOwn
import Derived.Laws.OwnMore
import Derived.Lib.AppendStr
import Derived.Laws.BytesArg
import Derived.Lib.Hide
import Derived.WalkSmall
namespace Go.Proofs.Ytnndpainnoebgaa
open Go.RowKit

/-- What a call hands back that makes bytes: a slice of its own that reads as the list; nothing old has changed. -/
def GivesB (l : List Int) (w : World) (e : Ending) (w' : World) : Prop := ∃ g cap, e = .returned (.slice (some ⟨g, 0, none⟩) l.length cap) ∧ OwnInts 5 .u8 w' w.heap.size (.slice (some ⟨g, 0, none⟩) l.length cap) l ∧ Below w.heap.size w w'
theorem OwnInts.form {t : TypeId} {k : IntKind} {w : World} {base : Nat} {v : Value} {l : List Int} (h : OwnInts t k w base v l) : ∃ g cap, v = .slice (some ⟨g, 0, none⟩) l.length cap := by
  rcases h.1.2 with ⟨e, _⟩ | ⟨g, cap, _, e, _⟩
  · exact (h.2 e).elim
  · exact ⟨g, cap, e⟩
theorem info_byte : (Try.prog.info? 5).map (fun i => (i.zero, i.size, i.bytes)) = some (some (.int .u8 0), 1, 1) := by kernel_rfl
/-- A list of one's own, made with what it holds. -/
theorem OwnInts.one (t : TypeId) (k : IntKind) (w : World) (base : Nat) (z : Int) (g : Nat) (hg : g = w.heap.size) (h : base ≤ g) : OwnInts t k (w.alloc (.cells #[.int k z] t)) base (.slice (some ⟨g, 0, none⟩) 1 1) [z] := by
  subst hg
  exact ⟨⟨rfl, .inr ⟨w.heap.size, 1, #[.int k z], rfl, h, heap_alloc_new w _, Nat.le_refl _, by decide, rfl, rfl⟩⟩, by simp⟩
/-- A list of one's own behind another one: what is known of the slice, and of what lies below. -/
theorem ints_join {t : TypeId} {k : IntKind} {w wr w1 : World} {base : Nat} {v v' : Value} {x y : List Int} (hown : OwnInts t k wr base v x)
    (hown' : w1.ownsRow base t 1 v' (x.length + y.length) (x.map (Value.int k) ++ y.map (Value.int k))) (hgrow : wr.grownBy w1 v.ownBlock) (hiff : ¬ v' = .slice none 0 0)
    (hbel : Below w.heap.size w wr) (hsz : w.heap.size ≤ base) (hbs : base ≤ wr.heap.size) :
    OwnInts t k w1 base v' (x ++ y) ∧ Below w.heap.size w w1 ∧ base ≤ w1.heap.size := by
  have hlt := hown.1.lt
  refine ⟨OwnInts.append (news := y) hown' rfl hiff, hbel.grown hgrow (by omega) (fun b hk => by have := (hlt _ hk).1; omega), ?_⟩
  have := hgrow.size; omega
theorem ints_cells {k : IntKind} {w : World} {g off n cap : Nat} {l : List Int} (h : Ints k w (.slice (some ⟨g, off, none⟩) n cap) l) : ∀ j u, (l.map (Value.int k))[j]? = some u → w.cell? ((⟨g, off, none⟩ : Addr).add j) = some u := by
  intro j u hu
  rw [List.getElem?_map] at hu
  obtain ⟨z, hz, rfl⟩ := Option.map_eq_some_iff.mp hu
  have hj : j < l.length := (List.getElem?_eq_some_iff.mp hz).1
  have := h.at hj
  rw [List.getD_eq_getElem?_getD, hz] at this
  rcases j with _ | j <;> simpa [Addr.add] using this

theorem OwnInts.put {t : TypeId} {k : IntKind} {w : World} {base g cap : Nat} {l : List Int} (h : OwnInts t k w base (.slice (some ⟨g, 0, none⟩) l.length cap) l) (j : Nat) (z : Int) :
    OwnInts t k (w.setCell ⟨g, j, none⟩ (.int k z)) base (.slice (some ⟨g, 0, none⟩) l.length cap) (l.set j z) := by
  refine ⟨?_, by simp⟩
  have := (h.1.stored j (.int k z)).1
  rw [List.length_set, List.map_set]
  exact this
theorem OwnInts.base_le {t : TypeId} {k : IntKind} {w : World} {base g n cap : Nat} {l : List Int} (h : OwnInts t k w base (.slice (some ⟨g, 0, none⟩) n cap) l) : base ≤ g ∧ g < w.heap.size := h.1.lt g rfl
theorem strCells_nums (s : ByteArray) : Lib.strCells s = (nums s).map (Value.int .u8) := by
  unfold Lib.strCells nums
  rw [List.map_map]
  rfl

theorem strOfNums_inj {a b : List Int} (ha : ∀ z ∈ a, 0 ≤ z ∧ z ≤ 255) (hb : ∀ z ∈ b, 0 ≤ z ∧ z ≤ 255) (h : strOfNums a = strOfNums b) : a = b := by
  rw [← nums_strOfNums a ha, ← nums_strOfNums b hb, h]
end Go.Proofs.Ytnndpainnoebgaa
