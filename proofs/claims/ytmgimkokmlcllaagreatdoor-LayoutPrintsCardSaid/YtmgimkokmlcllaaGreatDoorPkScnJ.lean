/-
  The document's Tokens, walked.
-/
import Derived.Test.YtmgimkokmlcllaaGreatDoorPkScnp
import Derived.Test.YtmgimkokmlcllaaGreatDoorPkMixs
import Derived.Deep.QuietTactic
import Derived.BigQuiet
namespace Go.Proofs.YtmgimkokmlcllaaGreatDoor
open Go.RowKit

def tkC (l : List Int) (p : TkV × Nat) : List Value := [.int .i64 (p.1.kind : Int), .string (strOfNums p.1.text), .int .u64 (p.1.n : Int), .int .i64 (spotAt l p.2).1, .int .i64 (spotAt l p.2).2]
def toksV (l : List Int) (L : List (TkV × Nat)) : List (List Value) := L.map (tkC l)
theorem toksV_len (l : List Int) (L : List (TkV × Nat)) : (toksV l L).length = L.length := by unfold toksV; simp
theorem toksV_more (l : List Int) (L : List (TkV × Nat)) (p : TkV × Nat) : toksV l (L ++ [p]) = toksV l L ++ [tkC l p] := by unfold toksV; simp
theorem tkC_one (l : List Int) (p : TkV × Nat) : ∀ u ∈ tkC l p, u.oneCell' = true := fun u hu => by
  simp only [tkC, List.mem_cons, List.not_mem_nil, or_false] at hu
  rcases hu with rfl | rfl | rfl | rfl | rfl <;> rfl
theorem info_tok : (Tryz.prog.info? 59).map (fun i => (i.zero, i.size, i.bytes)) = some (some (.agg #[.int .i64 0, .string ⟨#[]⟩, .int .u64 0, .int .i64 0, .int .i64 0]), 5, 48) := by kernel_rfl
theorem tok_cells {w : World} {p : Nat} {x0 x1 x2 x3 x4 : Value} (h0 : w.cell? ⟨p, 0, none⟩ = some x0) (h1 : w.cell? ⟨p, 1, none⟩ = some x1) (h2 : w.cell? ⟨p, 2, none⟩ = some x2) (h3 : w.cell? ⟨p, 3, none⟩ = some x3) (h4 : w.cell? ⟨p, 4, none⟩ = some x4) : ∀ j, j < 5 → w.cell? ⟨p, j, none⟩ = some (([x0, x1, x2, x3, x4] : List Value).getD j undef) := fun j hj => by
  have : j = 0 ∨ j = 1 ∨ j = 2 ∨ j = 3 ∨ j = 4 := by omega
  rcases this with rfl | rfl | rfl | rfl | rfl
  · exact h0
  · exact h1
  · exact h2
  · exact h3
  · exact h4
theorem load_fault {W : World} {g : Nat} {x y z : Value} (h : Var3 W g x y z) : (loadVar 32 ⟨g, 0, none⟩).run Tryz.prog W = .ok (.agg #[x, y, z]) W := by
  obtain ⟨c0, c1, c2, _, _, _, _⟩ := h
  go_simp
def GivesToks (l : List Int) (w : World) (e : Ending) (w' : World) : Prop :=
  Below w.heap.size w w' ∧ ((∃ k c, tokF l 0 = .error (k, c) ∧ e = .returned (.tuple #[.slice none 0 0, .agg #[.int .i64 c, .int .i64 (spotAt l k).1, .int .i64 (spotAt l k).2]])) ∨
    ∃ L v, tokF l 0 = .ok L ∧ e = .returned (.tuple #[v, .agg #[.int .i64 0, .int .i64 0, .int .i64 0]]) ∧ RowK 59 5 w' w.heap.size v (toksV l (L ++ [(tk0, l.length)])))
def Ahead (l : List Int) (i : Nat) (acc : List (TkV × Nat)) : Prop := tokF l 0 = (tokF l i).map (fun L => acc ++ L)
theorem Ahead.zero (l : List Int) : Ahead l 0 [] := by
  unfold Ahead
  cases tokF l 0 <;> rfl
theorem Ahead.same {l : List Int} {i j : Nat} {acc : List (TkV × Nat)} (h : Ahead l i acc) (e : tokF l i = tokF l j) : Ahead l j acc := by
  unfold Ahead at *
  rw [h, e]
theorem Ahead.more {l : List Int} {i j : Nat} {acc : List (TkV × Nat)} {t : TkV} (h : Ahead l i acc) (e : tokF l i = (tokF l j).map (fun L => (t, i) :: L)) : Ahead l j (acc ++ [(t, i)]) := by
  unfold Ahead at *
  rw [h, e]
  cases tokF l j with
  | error x => rfl
  | ok L => simp [Except.map]
theorem Ahead.bad {l : List Int} {i : Nat} {acc : List (TkV × Nat)} {x : Nat × Int} (h : Ahead l i acc) (e : tokF l i = .error x) : tokF l 0 = .error x := by
  unfold Ahead at h
  rw [h, e]
  rfl
theorem Ahead.fine {l : List Int} {i : Nat} {acc : List (TkV × Nat)} (h : Ahead l i acc) (e : tokF l i = .ok []) : tokF l 0 = .ok acc := by
  unfold Ahead at h
  rw [h, e]
  simp [Except.map]

theorem Var5.put34 {W : World} {p : Nat} {x0 x1 x2 x3 x4 : Value} (h : Var5 W p x0 x1 x2 x3 x4) (y3 y4 : Value) : Var5 ((W.setCell ⟨p, 3, none⟩ y3).setCell ⟨p, 4, none⟩ y4) p x0 x1 x2 y3 y4 := by
  obtain ⟨c0, c1, c2, c3, c4, q, s⟩ := h
  refine ⟨?_, ?_, ?_, ?_, ?_, fun i => ?_, ?_⟩ <;> simp [go_sem, *]
def TF (C : Int) (g n cap2 i : Nat) (X Y : Int) : Nat → Value → World → Prop
  | 0, v, _ => v = .int .i64 C
  | 1, v, _ => v = .slice (some ⟨g, 0, none⟩) (n + 1) cap2
  | 2, v, _ => v = .int .i64 (i : Int)
  | 3, v, _ => v = .pointer (some ⟨g, i * 2, none⟩)
  | 4, v, _ => v = .agg #[.int .i64 X, .int .i64 Y]
  | 5, v, _ => v = .agg #[.int .i64 C, .int .i64 X, .int .i64 Y]
  | 6, v, _ => v = .slice none 0 0
  | _, _, _ => True
end Go.Proofs.YtmgimkokmlcllaaGreatDoor
