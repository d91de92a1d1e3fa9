/-
  What the program's calls lean on beside their arguments: the library's table of powers of ten, and the program's own table of the widths of a date's parts.
-/
import Derived.Test.YthhaineoflpkkaaDoorTab
namespace Go.Proofs.YthhaineoflpkkaaDoor
open Go.RowKit

/-- The widths stand, and go on standing whatever new memory holds. -/
def Wid (w : World) : Prop := Lib.TabBelow Tryd.prog w.heap.size w "firebell/civil.widths" .i64 [4, 2, 2]
theorem Wid.step {w w' : World} (h : Wid w) (hb : Below w.heap.size w w') : Wid w' := fun x hx => h x (below_step hb hx)
theorem Wid.cells {w : World} (h : Wid w) : w.cell? ⟨0, 0, none⟩ = some (.int .i64 4) ∧ w.cell? ⟨0, 1, none⟩ = some (.int .i64 2) ∧ w.cell? ⟨0, 2, none⟩ = some (.int .i64 2) := by
  have hg : Tryd.prog.globalNamed "firebell/civil.widths" = some 0 := by kernel_rfl
  exact ⟨h.here.cell hg 0 (by decide), h.here.cell hg 1 (by decide), h.here.cell hg 2 (by decide)⟩
/-- A row that lists the widths hands them over. -/
theorem wid_of_laid {laid : List (String × DataW Unit)} {W : World} (h : laidMet Tryd.prog laid W) (hm : ("firebell/civil.widths", Lib.tabData .i64 [4, 2, 2]) ∈ laid) : Wid W :=
  Lib.tabBelow_of_tabIs (tabIs_of_mem (g := 0) (t := 34) (e := 3) (n := 3) (by kernel_rfl) (by kernel_rfl) Tryd.underlying34 Tryd.underlying3 (by kernel_rfl) (by kernel_rfl) h hm)

def Env (w : World) : Prop := Tab w ∧ Wid w
theorem Env.step {w w' : World} (h : Env w) (hb : Below w.heap.size w w') : Env w' := ⟨Tab.step h.1 hb, Wid.step h.2 hb⟩
theorem Env.tab {w : World} (h : Env w) : Tab w := h.1
theorem Env.wid {w : World} (h : Env w) : Wid w := h.2

end Go.Proofs.YthhaineoflpkkaaDoor
