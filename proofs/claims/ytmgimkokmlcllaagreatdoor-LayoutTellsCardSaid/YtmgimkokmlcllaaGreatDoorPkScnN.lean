/-
  A factor, written, as the document's answer writes it.
-/
import Derived.Test.YtmgimkokmlcllaaGreatDoorPkScnM
import Derived.Test.YtmgimkokmlcllaaGreatDoorPkMixs
import Derived.Test.YtmgimkokmlcllaaGreatDoorPkScnb
namespace Go.Proofs.YtmgimkokmlcllaaGreatDoor
open Go.RowKit

/-- What each operation of the digits ahead has made. -/
def TP (p n q L r : Nat) : Nat → Value → World → Prop
  | 0, v, _ => v = .pointer (some ⟨p, 2, none⟩)
  | 1, v, _ => v = .int .u64 (n : Int)
  | 2, v, _ => v = .int .u64 (q : Int)
  | 3, v, _ => v = .string (strOfNums (dec q))
  | 4, v, _ => v = .string (strOfNums (dec q ++ [46]))
  | 5, v, _ => v = .int .u64 (L : Int)
  | 6, v, _ => v = .int .u64 (r : Int)
  | 7, v, _ => v = .int .u8 (r : Int)
  | 8, v, _ => v = .int .u8 (48 + (r : Int))
  | 9, v, W => ∃ g, v = .slice (some ⟨g, 0, none⟩) 1 1 ∧ g < W.heap.size ∧ W.cell? ⟨g, 0, none⟩ = some (.int .u8 (48 + (r : Int)))
  | 10, v, _ => v = .string (strOfNums [48 + (r : Int)])
  | 11, v, _ => v = .string (strOfNums (dec q ++ [46, 48 + (r : Int)]))
  | _, _, _ => True
end Go.Proofs.YtmgimkokmlcllaaGreatDoor
