/-
  The document's own runes of a text, walked.
-/
import Derived.Test.YtmgimkokmlcllaaGreatDoorPkPlain
import Derived.Test.YtmgimkokmlcllaaGreatDoorPkVrs
import Derived.WalkSpells
import Derived.WalkLawsBesides
import Derived.Lib.Hide
import Derived.Lib.OthersKept
namespace Go.Proofs.YtmgimkokmlcllaaGreatDoor
open Go.RowKit

/-- What is made so far, in front of a place. -/
structure RunesAt (zs : List Int) (i : Nat) (l : List Int) : Prop where
  all : runesOf zs = l ++ rfrom zs i
  len : l.length ≤ i
def bdC : Nat → Int
  | 0 => 31
  | k + 1 => 64 * bdC k + 63
/-- What is known within a rune of more than one byte. -/
structure InR (zs : List Int) (i k : Nat) (c : Int) : Prop where
  all : allB zs i k = true
  ec : c = cAt zs i k
  c0 : 0 ≤ c
  c1 : c ≤ bdC k
/-- What Runes hands back. -/
def GivesRunes (l : List Int) (w : World) (e : Ending) (w' : World) : Prop := ∃ v, e = .returned v ∧ Ints .i32 w' v l ∧ Below w.heap.size w w' ∧ ∀ b, v.ownBlock = some b → w.heap.size ≤ b

end Go.Proofs.YtmgimkokmlcllaaGreatDoor
