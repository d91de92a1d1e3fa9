/-
  How a token is written, as the document's answer says it.
-/
import Derived.Test.YthfmllgflnideaaGreatDoorPkScne
import Derived.Test.YthfmllgflnideaaGreatDoorPkTexts
import Derived.Test.YthfmllgflnideaaGreatDoorPkPpmr
import Derived.Test.YthfmllgflnideaaGreatDoorPkSpanr
import Derived.Deep.QuietTactic
import Derived.BigQuiet
import Derived.Lib.QuietBelow
namespace Go.Proofs.YthfmllgflnideaaGreatDoor
open Go.RowKit

/-- The digits behind the first one of a factor's. -/
def tailD (r : Nat) : List Int := if r = 0 then [] else (48 + ((r / 10 : Nat) : Int)) :: (if r % 10 = 0 then [] else [48 + ((r % 10 : Nat) : Int)])
theorem tailD_step {r : Nat} (h : r < 100) (h0 : 0 < r) : tailD r = (48 + ((r / 10 : Nat) : Int)) :: tailD (r % 10 * 10) := by
  unfold tailD
  rw [if_neg (by omega)]
  congr 1
  by_cases hr : r % 10 = 0
  · rw [if_pos hr, if_pos (by omega)]
  · rw [if_neg hr, if_neg (by omega)]
    have e1 : r % 10 * 10 / 10 = r % 10 := by omega
    have e2 : r % 10 * 10 % 10 = 0 := by omega
    rw [e1, if_pos e2]
/-- A factor, written. -/
def facP (n : Nat) : List Int := dec (n / 1000) ++ [46] ++ [48 + ((n % 1000 / 100 : Nat) : Int)] ++ tailD (n % 100)
/-- A token, written. -/
def prT (k : Int) (s : ByteArray) (n : Nat) : List Int :=
  if k = 1 then nums s else if k = 2 then quoteL (runesOf (nums s)) else if k = 3 then dec n else if k = 4 then facP n else if k = 5 then pct n else if k = 6 then spn n
  else if k = 7 then [123] else if k = 8 then [125] else if k = 9 then [59] else []

end Go.Proofs.YthfmllgflnideaaGreatDoor
