/-
  The document's own Unquote, walked.
-/
import Derived.Test.YtmgimkokmlcllaaGreatDoorPkTexts
import Derived.Test.YtmgimkokmlcllaaGreatDoorPkPlain
import Derived.Deep.RegionHeld3
namespace Go.Proofs.YtmgimkokmlcllaaGreatDoor
open Go.RowKit

def GivesUnq (l : List Int) (w : World) (e : Ending) (w' : World) : Prop := ∃ t c, e = .returned (.tuple #[.string (strOfNums t), .int .i64 c]) ∧ UnqL l t c ∧ Below w.heap.size w w'
theorem GivesUnq.word {l : List Int} {w w' : World} (h : NoQ l) (hb : Below w.heap.size w w') : GivesUnq l w (.returned (.tuple #[.string ⟨#[]⟩, .int .i64 5])) w' := ⟨[], 5, rfl, Or.inl ⟨h, rfl, rfl⟩, hb⟩
theorem GivesUnq.long {l xs : List Int} {w w' : World} (h : uf l = .done xs) (hx : 120 < xs.length) (hb : Below w.heap.size w w') : GivesUnq l w (.returned (.tuple #[.string ⟨#[]⟩, .int .i64 9])) w' := ⟨[], 9, rfl, Or.inr ⟨xs, h, Or.inl ⟨hx, rfl, rfl⟩⟩, hb⟩
theorem GivesUnq.fine {l xs : List Int} {w w' : World} (h : uf l = .done xs) (hx : xs.length ≤ 120) (hb : Below w.heap.size w w') : GivesUnq l w (.returned (.tuple #[.string (strOfNums (xs.flatMap encL)), .int .i64 0])) w' := ⟨_, 0, rfl, Or.inr ⟨xs, h, Or.inr ⟨hx, rfl, rfl⟩⟩, hb⟩
def bdH : Nat → Int
  | 0 => 0
  | k + 1 => 16 * bdH k + 15
end Go.Proofs.YtmgimkokmlcllaaGreatDoor
