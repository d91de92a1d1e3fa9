/-
  Two lists with the same tokens are the same, as the document's answer compares them.
-/
import Derived.Test.YthainohkneociaaDoorPkScnJ
namespace Go.Proofs.YthainohkneociaaDoor
open Go.RowKit

theorem toksV_at (l : List Int) {L : List (TkV × Nat)} {i : Nat} (h : i < L.length) : (toksV l L).getD i [] = tkC l (L.getD i (tk0, 0)) := by
  unfold toksV
  simp [List.getD_eq_getElem?_getD, h]
/-- A row's cells, by its tokens. -/
theorem tok_row {l : List Int} {L : List (TkV × Nat)} {w : World} {base g n cap : Nat} (h : RowK 27 5 w base (.slice (some ⟨g, 0, none⟩) n cap) (toksV l L)) (i : Nat) (hi : i < L.length) :
    w.cell? ⟨g, i * 5, none⟩ = some (.int .i64 ((L.getD i (tk0, 0)).1.kind : Int)) ∧ w.cell? ⟨g, i * 5 + 1, none⟩ = some (.string (strOfNums (L.getD i (tk0, 0)).1.text)) ∧ w.cell? ⟨g, i * 5 + 2, none⟩ = some (.int .u64 ((L.getD i (tk0, 0)).1.n : Int)) ∧ w.cell? ⟨g, i * 5 + 3, none⟩ = some (.int .i64 (spotAt l (L.getD i (tk0, 0)).2).1) ∧ w.cell? ⟨g, i * 5 + 4, none⟩ = some (.int .i64 (spotAt l (L.getD i (tk0, 0)).2).2) := by
  have hl : i < (toksV l L).length := by rw [toksV_len]; exact hi
  have e0 := h.at i 0 hl (by decide)
  have e1 := h.at i 1 hl (by decide)
  have e2 := h.at i 2 hl (by decide)
  have e3 := h.at i 3 hl (by decide)
  have e4 := h.at i 4 hl (by decide)
  rw [toksV_at l hi] at e0 e1 e2 e3 e4
  exact ⟨e0, e1, e2, e3, e4⟩
end Go.Proofs.YthainohkneociaaDoor
