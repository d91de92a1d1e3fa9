/-
  A row that lists tables hands them over, whichever place a table has in its list.
-/
import Derived.Test.YtiephcjdbndjaaaDoorChecked
import Derived.Lib.AppendIntMem
import Derived.Lib.LaidTab
import Derived.Stop.LaidErr
namespace Go.Proofs.YtiephcjdbndjaaaDoor
open Go.RowKit

theorem tabIs_of_mem {laid : List (String × DataW Unit)} {W : World} {name : String} {k : IntKind} {zs : List Int} {g : Nat} {t e : TypeId} {n : Nat}
    (hg : Tryd.prog.globalNamed name = some g) (hty : (Tryd.prog.globals[g]?).map (·.type) = some t) (ht : Tryd.prog.underlying t = some (.array n e)) (he : Tryd.prog.underlying e = some (.int k)) (hce : Tryd.prog.cellsOf e = 1) (hct : Tryd.prog.cellsOf t = n)
    (h : laidMet Tryd.prog laid W) (hm : (name, Lib.tabData k zs) ∈ laid) : Lib.TabIs Tryd.prog W name k zs := by
  induction laid with
  | nil => cases hm
  | cons x r ih =>
    rcases List.mem_cons.mp hm with hx | hx
    · subst hx
      exact Lib.tabIs_of_head hg hty ht he hce hct h
    · exact ih h.tail hx
end Go.Proofs.YtiephcjdbndjaaaDoor
