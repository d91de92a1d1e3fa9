/-
  How a token is written, as the document's answer says it.
-/
import Derived.Test.YtmgimkokmlcllaaGreatDoorPkScne
import Derived.Test.YtmgimkokmlcllaaGreatDoorPkTexts
import Derived.Test.YtmgimkokmlcllaaGreatDoorPkPpmr
import Derived.Test.YtmgimkokmlcllaaGreatDoorPkSpanr
import Derived.Deep.QuietTactic
import Derived.BigQuiet
import Derived.Lib.QuietBelow
namespace Go.Proofs.YtmgimkokmlcllaaGreatDoor
open Go.RowKit

/-- The digits behind the first one of a factor's. -/
def tailD (r : Nat) : List Int := if r = 0 then [] else (48 + ((r / 10 : Nat) : Int)) :: (if r % 10 = 0 then [] else [48 + ((r % 10 : Nat) : Int)])
/-- A factor, written. -/
def facP (n : Nat) : List Int := dec (n / 1000) ++ [46] ++ [48 + ((n % 1000 / 100 : Nat) : Int)] ++ tailD (n % 100)
/-- A token, written. -/
def prT (k : Int) (s : ByteArray) (n : Nat) : List Int :=
  if k = 1 then nums s else if k = 2 then quoteL (runesOf (nums s)) else if k = 3 then dec n else if k = 4 then facP n else if k = 5 then pct n else if k = 6 then spn n
  else if k = 7 then [123] else if k = 8 then [125] else if k = 9 then [59] else []

end Go.Proofs.YtmgimkokmlcllaaGreatDoor
