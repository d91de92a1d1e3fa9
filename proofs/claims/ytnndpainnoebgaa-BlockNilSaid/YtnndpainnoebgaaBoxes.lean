/-
  Numbers of 128 bits in variables: that they stay while new memory is made.
-/
import Derived.WalkKit
import Derived.Test.YtnndpainnoebgaaProg
namespace Go.Proofs.Ytnndpainnoebgaa
open Go.RowKit

theorem below_step {w a b : World} (h : Below w.heap.size w a) (g : Below a.heap.size a b) : Below w.heap.size w b := h.trans (g.mono h.size)
theorem below_more {w a : World} (h : Below w.heap.size w a) (o : Obj) : Below w.heap.size w (a.alloc o) := h.alloc h.size o
/-- A number in a variable. -/
def Box (W : World) (p : Nat) (h l : Int) : Prop := W.cell? ⟨p, 0, none⟩ = some (.int .u64 h) ∧ W.cell? ⟨p, 1, none⟩ = some (.int .u64 l) ∧ p < W.heap.size
theorem Box.after {W W1 : World} {p : Nat} {h l : Int} (k : Box W p h l) (hb : Below W.heap.size W W1) : Box W1 p h l := by
  obtain ⟨c0, c1, s⟩ := k
  exact ⟨(hb.cell (p := ⟨p, 0, none⟩) s).trans c0, (hb.cell (p := ⟨p, 1, none⟩) s).trans c1, Nat.lt_of_lt_of_le s hb.size⟩
theorem Box.alloc {W : World} {p : Nat} {h l : Int} (k : Box W p h l) (o : Obj) : Box (W.alloc o) p h l := k.after ((Below.refl _ _).alloc (Nat.le_refl _) o)
theorem Box.drew {W : World} {p : Nat} {h l : Int} (k : Box W p h l) : Box W.drew p h l := k.after (Below.refl _ _).drew

end Go.Proofs.Ytnndpainnoebgaa
