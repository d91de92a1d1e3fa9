/-
  What package text's calls lean on beside their arguments: the library's tables of a rune's first bytes and of the places of single bits.
-/
import Derived.Test.YtkhmaiggcihneaaDoorBoxes
import Derived.Test.YtkhmaiggcihneaaDoorShelf
import Derived.Lib.AppendIntMem
import Derived.Lib.LaidTab
import Derived.Stop.LaidErr
namespace Go.Proofs.YtkhmaiggcihneaaDoor
open Go.RowKit

def deTab : List Int := [0, 1, 56, 2, 57, 49, 28, 3, 61, 58, 42, 50, 38, 29, 17, 4, 62, 47, 59, 36, 45, 43, 51, 22, 53, 39, 33, 30, 24, 18, 12, 5, 63, 55, 48, 27, 60, 41, 37, 16, 46, 35, 44, 21, 52, 32, 23, 11, 54, 26, 40, 15, 34, 20, 31, 10, 25, 14, 19, 9, 13, 8, 7, 6]
/-- The table of places stands, and goes on standing whatever new memory holds. -/
def DeB (w : World) : Prop := Lib.TabBelow Tryd.prog w.heap.size w "math/bits.deBruijn64tab" .u8 deTab
theorem DeB.step {w w' : World} (h : DeB w) (hb : Below w.heap.size w w') : DeB w' := fun x hx => h x (below_step hb hx)
/-- The place of sixteen's bit. -/
theorem DeB.four {w : World} (h : DeB w) : w.cell? ⟨4, 15, none⟩ = some (.int .u8 4) := by
  have hg : Tryd.prog.globalNamed "math/bits.deBruijn64tab" = some 4 := by kernel_rfl
  exact h.here.cell hg 15 (by decide)
/-- The tables of first bytes stand. -/
def Utf (w : World) : Prop := Lib.Utf8Tabs 0 1 w
theorem Utf.step {w w' : World} (h : Utf w) (hb : Below w.heap.size w w') : Utf w' := Utf8Tabs_below h hb

theorem tabAt_of_mem {laid : List (String × DataW Unit)} {W : World} {name : String} {k : IntKind} {zs : List Int} {g : Nat} {t e : TypeId} {n : Nat}
    (hg : Tryd.prog.globalNamed name = some g) (hty : (Tryd.prog.globals[g]?).map (·.type) = some t) (ht : Tryd.prog.underlying t = some (.array n e)) (he : Tryd.prog.underlying e = some (.int k)) (hce : Tryd.prog.cellsOf e = 1) (hct : Tryd.prog.cellsOf t = n)
    (h : laidMet Tryd.prog laid W) (hm : (name, Lib.tabData k zs) ∈ laid) : Lib.TabIs Tryd.prog W name k zs := by
  induction laid with
  | nil => cases hm
  | cons x r ih =>
    rcases List.mem_cons.mp hm with hx | hx
    · subst hx
      exact Lib.tabIs_of_head hg hty ht he hce hct h
    · exact ih h.tail hx
/-- A row that lists the tables hands them over. -/
theorem deb_of_laid {laid : List (String × DataW Unit)} {W : World} (h : laidMet Tryd.prog laid W) (hm : ("math/bits.deBruijn64tab", Lib.tabData .u8 deTab) ∈ laid) : DeB W :=
  Lib.tabBelow_of_tabIs (tabAt_of_mem (g := 4) (t := 80) (e := 5) (n := 64) (by kernel_rfl) (by kernel_rfl) Tryd.underlying80 Tryd.underlying5 (by kernel_rfl) (by kernel_rfl) h hm)
theorem utf_of_laid {laid : List (String × DataW Unit)} {W : World} (h : laidMet Tryd.prog laid W) (h3 : ("unicode/utf8.first", Lib.firstData) ∈ laid) (h4 : ("unicode/utf8.acceptRanges", Lib.acceptData) ∈ laid) : Utf W :=
  Tryd.utf8_tabs (Lib.laidMet.reads h h3) (Lib.laidMet.reads h h4)

def Env (w : World) : Prop := DeB w ∧ Utf w
theorem Env.step {w w' : World} (h : Env w) (hb : Below w.heap.size w w') : Env w' := ⟨h.1.step hb, h.2.step hb⟩
theorem Env.deb {w : World} (h : Env w) : DeB w := h.1
theorem Env.utf {w : World} (h : Env w) : Utf w := h.2

end Go.Proofs.YtkhmaiggcihneaaDoor
