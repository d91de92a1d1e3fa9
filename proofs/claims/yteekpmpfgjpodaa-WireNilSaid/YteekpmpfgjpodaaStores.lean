/-
  Values stored into variables of two and of three cells: what is there then, and what is as it was.
-/
import Derived.Test.YteekpmpfgjpodaaVars
namespace Go.Proofs.Yteekpmpfgjpodaa
open Go.RowKit

/-- Three cells stored. -/
def put3 (W : World) (p : Nat) (x y z : Value) : World := ((W.setCell ⟨p, 0, none⟩ x).setCell ⟨p, 1, none⟩ y).setCell ⟨p, 2, none⟩ z
def put2 (W : World) (p : Nat) (x y : Value) : World := (W.setCell ⟨p, 0, none⟩ x).setCell ⟨p, 1, none⟩ y
theorem Var3.put {W : World} {p : Nat} {x y z : Value} (k : Var3 W p x y z) (x' y' z' : Value) : Var3 (put3 W p x' y' z') p x' y' z' := by
  obtain ⟨c0, c1, c2, q0, q1, q2, s⟩ := k
  unfold put3
  refine ⟨?_, ?_, ?_, ?_, ?_, ?_, ?_⟩ <;> simp [go_sem, *]
theorem Var2.put {W : World} {p : Nat} {x y : Value} (k : Var2 W p x y) (x' y' : Value) : Var2 (put2 W p x' y') p x' y' := by
  obtain ⟨c0, c1, q0, q1, s⟩ := k
  unfold put2
  refine ⟨?_, ?_, ?_, ?_, ?_⟩ <;> simp [go_sem, *]
theorem Var3.else3 {W : World} {p r : Nat} {x y z : Value} (k : Var3 W p x y z) (h : r ≠ p) (x' y' z' : Value) : Var3 (put3 W r x' y' z') p x y z := by
  obtain ⟨c0, c1, c2, q0, q1, q2, s⟩ := k
  have h2 : ¬ r = p := h
  have h3 : ¬ p = r := fun e => h e.symm
  unfold put3
  refine ⟨?_, ?_, ?_, ?_, ?_, ?_, ?_⟩ <;> simp [go_sem, *]
theorem Var2.else3 {W : World} {p r : Nat} {x y : Value} (k : Var2 W p x y) (h : r ≠ p) (x' y' z' : Value) : Var2 (put3 W r x' y' z') p x y := by
  obtain ⟨c0, c1, q0, q1, s⟩ := k
  have h2 : ¬ r = p := h
  have h3 : ¬ p = r := fun e => h e.symm
  unfold put3
  refine ⟨?_, ?_, ?_, ?_, ?_⟩ <;> simp [go_sem, *]
theorem Var3.else2 {W : World} {p r : Nat} {x y z : Value} (k : Var3 W p x y z) (h : r ≠ p) (x' y' : Value) : Var3 (put2 W r x' y') p x y z := by
  obtain ⟨c0, c1, c2, q0, q1, q2, s⟩ := k
  have h2 : ¬ r = p := h
  have h3 : ¬ p = r := fun e => h e.symm
  unfold put2
  refine ⟨?_, ?_, ?_, ?_, ?_, ?_, ?_⟩ <;> simp [go_sem, *]
theorem Var2.else2 {W : World} {p r : Nat} {x y : Value} (k : Var2 W p x y) (h : r ≠ p) (x' y' : Value) : Var2 (put2 W r x' y') p x y := by
  obtain ⟨c0, c1, q0, q1, s⟩ := k
  have h2 : ¬ r = p := h
  have h3 : ¬ p = r := fun e => h e.symm
  unfold put2
  refine ⟨?_, ?_, ?_, ?_, ?_⟩ <;> simp [go_sem, *]
theorem below_put3 {B : Nat} {w W : World} (h : Below B w W) {p : Nat} (hp : B ≤ p) (x y z : Value) : Below B w (put3 W p x y z) := ((h.setCell hp _).setCell hp _).setCell hp _
theorem below_put2 {B : Nat} {w W : World} (h : Below B w W) {p : Nat} (hp : B ≤ p) (x y : Value) : Below B w (put2 W p x y) := (h.setCell hp _).setCell hp _

end Go.Proofs.Yteekpmpfgjpodaa
