/-
  ScanTells, walked.
-/
import Derived.Test.YtmgimkokmlcllaaGreatDoorPkTrel
import Derived.Test.YtmgimkokmlcllaaGreatDoorPkScnL
namespace Go.Proofs.YtmgimkokmlcllaaGreatDoor
open Go.RowKit

structure FaultMade (w : World) (g : Nat) (c x y : Int) (W2 W3 : World) : Prop where
  g0 : w.heap.size = g
  a2 : w.alloc (.cells #[.int .i64 0, .int .i64 0, .int .i64 0] 32) = W2
  s3 : ((W2.setCell ⟨g, 0, none⟩ (.int .i64 c)).setCell ⟨g, 1, none⟩ (.int .i64 x)).setCell ⟨g, 2, none⟩ (.int .i64 y) = W3
  v2 : Var3 W2 g (.int .i64 0) (.int .i64 0) (.int .i64 0)
  v3 : Var3 W3 g (.int .i64 c) (.int .i64 x) (.int .i64 y)
  bel : Below w.heap.size w W3
end Go.Proofs.YtmgimkokmlcllaaGreatDoor
