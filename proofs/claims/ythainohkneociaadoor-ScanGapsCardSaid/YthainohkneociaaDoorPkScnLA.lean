/-
  ScanTells, walked.
-/
import Derived.Test.YthainohkneociaaDoorPkScnZ
import Derived.Test.YthainohkneociaaDoorPkScnL
namespace Go.Proofs.YthainohkneociaaDoor
open Go.RowKit

/-- A fault in a variable of its own. -/
structure FaultMade (w : World) (g : Nat) (c x y : Int) (W2 W3 : World) : Prop where
  g0 : w.heap.size = g
  a2 : w.alloc (.cells #[.int .i64 0, .int .i64 0, .int .i64 0] 37) = W2
  s3 : ((W2.setCell ⟨g, 0, none⟩ (.int .i64 c)).setCell ⟨g, 1, none⟩ (.int .i64 x)).setCell ⟨g, 2, none⟩ (.int .i64 y) = W3
  v2 : Var3 W2 g (.int .i64 0) (.int .i64 0) (.int .i64 0)
  v3 : Var3 W3 g (.int .i64 c) (.int .i64 x) (.int .i64 y)
  bel : Below w.heap.size w W3
theorem fault_made (w : World) (c x y : Int) : ∃ g W2 W3, FaultMade w g c x y W2 W3 := by
  obtain ⟨g, hg⟩ : ∃ g, w.heap.size = g := ⟨_, rfl⟩
  obtain ⟨W2, hW2⟩ : ∃ W, w.alloc (.cells #[.int .i64 0, .int .i64 0, .int .i64 0] 37) = W := ⟨_, rfl⟩
  have b2 : Below w.heap.size w W2 := by rw [← hW2]; exact (Below.refl _ _).alloc (Nat.le_refl _) _
  have V2 : Var3 W2 g (.int .i64 0) (.int .i64 0) (.int .i64 0) := by rw [← hW2]; exact Var3.fresh _ _ _ _ _ _ hg.symm
  exact ⟨g, W2, _, hg, hW2, rfl, V2, V2.put _ _ _, below_put3 b2 (by omega) _ _ _⟩

end Go.Proofs.YthainohkneociaaDoor
