/-
  What the program's calls lean on beside their arguments: package crc's table, what a register of four bits has come to when they have fallen out.
-/
import Derived.Test.YtiephcjdbndjaaaDoorBoxes
import Derived.Test.YtiephcjdbndjaaaDoorTabMem
import Derived.Test.YtiephcjdbndjaaaDoorCrcA
namespace Go.Proofs.YtiephcjdbndjaaaDoor
open Go.RowKit

def turnsL : List Int := [0, 274646895, 549293790, 820201905, 1098587580, 1361435347, 1640403810, 1905808397, 2197175160, 2460548119, 2722870694, 2987750089, 3280807620, 3553878443, 3811616794, 4084100981]
/-- The table stands, and goes on standing whatever new memory holds. -/
def Turns (w : World) : Prop := Lib.TabBelow Tryd.prog w.heap.size w "firebell/crc.turns" .u32 turnsL
theorem Turns.step {w w' : World} (h : Turns w) (hb : Below w.heap.size w w') : Turns w' := fun x hx => h x (below_step hb hx)
/-- Each of its cells is what four bits come to. -/
theorem Turns.cell {w : World} (h : Turns w) (i : Nat) (hi : i < 16) : w.cell? ⟨0, i, none⟩ = some (.int .u32 (shsC i 4 : Nat)) := by
  have hg : Tryd.prog.globalNamed "firebell/crc.turns" = some 0 := by kernel_rfl
  have hc := h.here.cell hg i (by simpa [turnsL] using hi)
  rw [hc]
  have key : ∀ i : Nat, i < 16 → turnsL.getD i 0 = ((shsC i 4 : Nat) : Int) := by decide +kernel
  have hk := key i hi
  rw [List.getD_eq_getElem?_getD] at hk
  simp_all
/-- A row that lists the table hands it over. -/
theorem turns_of_laid {laid : List (String × DataW Unit)} {W : World} (h : laidMet Tryd.prog laid W) (hm : ("firebell/crc.turns", Lib.tabData .u32 turnsL) ∈ laid) : Turns W :=
  Lib.tabBelow_of_tabIs (tabIs_of_mem (g := 0) (t := 41) (e := 25) (n := 16) (by kernel_rfl) (by kernel_rfl) Tryd.underlying41 Tryd.underlying25 (by kernel_rfl) (by kernel_rfl) h hm)

def Env (w : World) : Prop := Turns w
theorem Env.step {w w' : World} (h : Env w) (hb : Below w.heap.size w w') : Env w' := Turns.step h hb
theorem Env.turns {w : World} (h : Env w) : Turns w := h

end Go.Proofs.YtiephcjdbndjaaaDoor
