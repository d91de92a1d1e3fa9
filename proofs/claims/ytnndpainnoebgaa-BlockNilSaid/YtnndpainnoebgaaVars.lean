/-
  Variables of two and of three cells: what stands in them, that they may be written, and that they stay while new memory is made.
-/
import Derived.Test.YtnndpainnoebgaaBoxes
namespace Go.Proofs.Ytnndpainnoebgaa
open Go.RowKit

theorem below_frozen {w w' : World} {n p i : Nat} (h : Below n w w') (hp : p < n) : w'.frozen? ⟨p, i, none⟩ = w.frozen? ⟨p, i, none⟩ := h.frozen hp
/-- Two cells. -/
structure Var2 (W : World) (p : Nat) (x y : Value) : Prop where
  c0 : W.cell? ⟨p, 0, none⟩ = some x
  c1 : W.cell? ⟨p, 1, none⟩ = some y
  q0 : W.frozen? ⟨p, 0, none⟩ = false
  q1 : W.frozen? ⟨p, 1, none⟩ = false
  s : p < W.heap.size
theorem Var2.after {W W1 : World} {p : Nat} {x y : Value} (k : Var2 W p x y) (hb : Below W.heap.size W W1) : Var2 W1 p x y :=
  ⟨(hb.cell (p := ⟨p, 0, none⟩) k.s).trans k.c0, (hb.cell (p := ⟨p, 1, none⟩) k.s).trans k.c1, (below_frozen hb k.s).trans k.q0, (below_frozen hb k.s).trans k.q1, Nat.lt_of_lt_of_le k.s hb.size⟩
theorem Var2.fresh (W : World) (x y : Value) (t : TypeId) (p : Nat) (hp : p = W.heap.size) : Var2 (W.alloc (.cells #[x, y] t)) p x y := by
  subst hp; exact ⟨by simp, by simp, by simp [go_sem], by simp [go_sem], by simp⟩
theorem Var2.alloc {W : World} {p : Nat} {x y : Value} (k : Var2 W p x y) (o : Obj) : Var2 (W.alloc o) p x y := k.after ((Below.refl _ _).alloc (Nat.le_refl _) o)
theorem Var2.drew {W : World} {p : Nat} {x y : Value} (k : Var2 W p x y) : Var2 W.drew p x y := k.after (Below.refl _ _).drew
/-- Three cells. -/
structure Var3 (W : World) (p : Nat) (x y z : Value) : Prop where
  c0 : W.cell? ⟨p, 0, none⟩ = some x
  c1 : W.cell? ⟨p, 1, none⟩ = some y
  c2 : W.cell? ⟨p, 2, none⟩ = some z
  q0 : W.frozen? ⟨p, 0, none⟩ = false
  q1 : W.frozen? ⟨p, 1, none⟩ = false
  q2 : W.frozen? ⟨p, 2, none⟩ = false
  s : p < W.heap.size
theorem Var3.after {W W1 : World} {p : Nat} {x y z : Value} (k : Var3 W p x y z) (hb : Below W.heap.size W W1) : Var3 W1 p x y z :=
  ⟨(hb.cell (p := ⟨p, 0, none⟩) k.s).trans k.c0, (hb.cell (p := ⟨p, 1, none⟩) k.s).trans k.c1, (hb.cell (p := ⟨p, 2, none⟩) k.s).trans k.c2, (below_frozen hb k.s).trans k.q0, (below_frozen hb k.s).trans k.q1, (below_frozen hb k.s).trans k.q2, Nat.lt_of_lt_of_le k.s hb.size⟩
theorem Var3.fresh (W : World) (x y z : Value) (t : TypeId) (p : Nat) (hp : p = W.heap.size) : Var3 (W.alloc (.cells #[x, y, z] t)) p x y z := by
  subst hp; exact ⟨by simp, by simp, by simp, by simp [go_sem], by simp [go_sem], by simp [go_sem], by simp⟩
theorem Var3.alloc {W : World} {p : Nat} {x y z : Value} (k : Var3 W p x y z) (o : Obj) : Var3 (W.alloc o) p x y z := k.after ((Below.refl _ _).alloc (Nat.le_refl _) o)
theorem Var3.drew {W : World} {p : Nat} {x y z : Value} (k : Var3 W p x y z) : Var3 W.drew p x y z := k.after (Below.refl _ _).drew

end Go.Proofs.Ytnndpainnoebgaa
