/-
  Package text's calls, walked: all of them.
-/
import Derived.Test.YtmgimkokmlcllaaGreatDoorPkTxtp
import Derived.Test.YtmgimkokmlcllaaGreatDoorPkTexts
namespace Go.Proofs.YtmgimkokmlcllaaGreatDoor
open Go.RowKit

theorem tname_any (s : ByteArray) (w : World) (_env : Env w) (hm : s.size ≤ 4294967296) : Calls Tryz.prog 40 #[.string s] w (GivesQ (NameL (runesOf (nums s))) w) := tname_plain s w hm

end Go.Proofs.YtmgimkokmlcllaaGreatDoor
