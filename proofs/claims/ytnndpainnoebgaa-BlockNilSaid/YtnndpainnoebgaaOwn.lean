/-
  Things that change in place: the blocks that they lean on, and that nothing else has changed.
-/
import Derived.Test.YtnndpainnoebgaaVars
import Derived.Lib.Hide
namespace Go.Proofs.Ytnndpainnoebgaa
open Go.RowKit

/-- Blocks. -/
abbrev Foot := Nat → Prop
/-- Only these blocks have changed, and new memory is made. -/
structure OnlyO (base : Nat) (O : Foot) (w w' : World) : Prop where
  bel : Below base w w'
  keep : ∀ i, i < w.heap.size → ¬ O i → w'.heap[i]? = w.heap[i]?
theorem OnlyO.size {base : Nat} {O : Foot} {w w' : World} (h : OnlyO base O w w') : w.heap.size ≤ w'.heap.size := h.bel.size
theorem OnlyO.refl (base : Nat) (O : Foot) (w : World) : OnlyO base O w w := ⟨Below.refl _ _, fun _ _ _ => rfl⟩
theorem OnlyO.of {base : Nat} {O : Foot} {w w' : World} (h : Below w.heap.size w w') (hb : base ≤ w.heap.size) : OnlyO base O w w' := ⟨h.mono hb, fun i hi _ => h.block i hi⟩
/-- What becomes of blocks: the same, or new ones. -/
def Grown (O O' : Foot) (n : Nat) : Prop := ∀ i, O' i → O i ∨ n ≤ i
theorem Grown.refl (O : Foot) (n : Nat) : Grown O O n := fun _ h => Or.inl h
theorem Grown.trans {O O' O2 : Foot} {n m : Nat} (h : Grown O O' n) (g : Grown O' O2 m) (hn : n ≤ m) : Grown O O2 n := fun i hi => by
  rcases g i hi with hi | hi
  · exact h i hi
  · exact Or.inr (by omega)
theorem OnlyO.trans {base : Nat} {O O' : Foot} {a b c : World} (h : OnlyO base O a b) (g : OnlyO base O' b c) (hg : Grown O O' a.heap.size) : OnlyO base O a c :=
  ⟨h.bel.trans g.bel, fun i hi hne => (g.keep i (Nat.lt_of_lt_of_le hi h.size) (fun ho => by rcases hg i ho with ho | ho; exact hne ho; omega)).trans (h.keep i hi hne)⟩
theorem OnlyO.cell {base : Nat} {O : Foot} {w w' : World} (h : OnlyO base O w w') {b o : Nat} (hb : b < w.heap.size) (hne : ¬ O b) : w'.cell? ⟨b, o, none⟩ = w.cell? ⟨b, o, none⟩ := World.cell?_of_block (h.keep b hb hne)
theorem OnlyO.frozen {base : Nat} {O : Foot} {w w' : World} (h : OnlyO base O w w') {b o : Nat} (hb : b < w.heap.size) (hne : ¬ O b) : w'.frozen? ⟨b, o, none⟩ = w.frozen? ⟨b, o, none⟩ := World.frozen?_of_block (h.keep b hb hne)
theorem OnlyO.set {base : Nat} {O : Foot} {a b : World} (h : OnlyO base O a b) {r : Nat} (hr : O r) (hb : base ≤ r) (i : Nat) (v : Value) : OnlyO base O a (b.setCell ⟨r, i, none⟩ v) :=
  ⟨h.bel.setCell hb v, fun j hj hne => (Below.heap_setCell b ⟨r, i, none⟩ v j (fun e => by cases e; exact hne hr)).trans (h.keep j hj hne)⟩

end Go.Proofs.Ytnndpainnoebgaa
