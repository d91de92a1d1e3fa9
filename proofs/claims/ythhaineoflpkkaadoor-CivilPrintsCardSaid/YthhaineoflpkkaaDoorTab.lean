/-
  The library's table of powers of ten, as a fact on a world that later worlds keep; and strconv.FormatInt at base 10, by a number's digits.
-/
import Derived.Test.YthhaineoflpkkaaDoorRead
import Derived.Test.YthhaineoflpkkaaDoorBoxes
import Derived.Test.YthhaineoflpkkaaDoorShelf
import Derived.Lib.AppendIntMem
import Derived.Lib.LaidTab
import Derived.Stop.LaidErr
namespace Go.Proofs.YthhaineoflpkkaaDoor
open Go.RowKit

/-- The table stands, and goes on standing whatever new memory holds. -/
def Tab (w : World) : Prop := Lib.TabBelow Tryd.prog w.heap.size w "internal/strconv.uint64pow10" .u64 Lib.pow10Tab
theorem Tab.step {w w' : World} (h : Tab w) (hb : Below w.heap.size w w') : Tab w' := fun x hx => h x (below_step hb hx)

theorem dec_digits (n : Nat) : (⟨(Lib.decDigits n).toArray⟩ : ByteArray) = strOfNums (dec n) := by
  have key : ∀ n : Nat, Lib.decDigits n = (dec n).map fun z => UInt8.ofNat z.toNat := by
    intro n
    induction n using Nat.strongRecOn with
    | _ n ih =>
      by_cases h : n < 10
      · rw [dec_small h, Lib.decDigits_one h]
        simp only [List.map_cons, List.map_nil]
        rw [show (48 + (n : Int)).toNat = 48 + n by omega]
      · rw [dec_big h, Lib.decDigits, dif_neg h, ih (n / 10) (by omega), List.map_append]
        simp only [List.map_cons, List.map_nil]
        rw [show (48 + ((n % 10 : Nat) : Int)).toNat = 48 + n % 10 by omega]
  unfold strOfNums
  rw [key]

theorem tabIs_of_mem {laid : List (String × DataW Unit)} {W : World} {name : String} {k : IntKind} {zs : List Int} {g : Nat} {t e : TypeId} {n : Nat}
    (hg : Tryd.prog.globalNamed name = some g) (hty : (Tryd.prog.globals[g]?).map (·.type) = some t) (ht : Tryd.prog.underlying t = some (.array n e)) (he : Tryd.prog.underlying e = some (.int k)) (hce : Tryd.prog.cellsOf e = 1) (hct : Tryd.prog.cellsOf t = n)
    (h : laidMet Tryd.prog laid W) (hm : (name, Lib.tabData k zs) ∈ laid) : Lib.TabIs Tryd.prog W name k zs := by
  induction laid with
  | nil => cases hm
  | cons x r ih =>
    rcases List.mem_cons.mp hm with hx | hx
    · subst hx
      exact Lib.tabIs_of_head hg hty ht he hce hct h
    · exact ih h.tail hx
/-- A row that lists the table hands it over. -/
theorem tab_of_laid {laid : List (String × DataW Unit)} {W : World} (h : laidMet Tryd.prog laid W) (hm : ("internal/strconv.uint64pow10", Lib.tabData .u64 Lib.pow10Tab) ∈ laid) : Tab W :=
  Lib.tabBelow_of_tabIs (tabIs_of_mem (g := 1) (t := 74) (e := 61) (n := 20) (by kernel_rfl) (by kernel_rfl) Tryd.underlying74 Tryd.underlying61 (by kernel_rfl) (by kernel_rfl) h hm)

end Go.Proofs.YthhaineoflpkkaaDoor
