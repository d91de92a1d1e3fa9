/-
  Spans: what Print, Read and Exact come to, of each number and each text: plain arithmetic; no call is walked here.
-/
import Derived.Test.YtmgimkokmlcllaaGreatDoorPkSpanr
import Derived.Test.YtmgimkokmlcllaaGreatDoorPkPlain
namespace Go.Proofs.YtmgimkokmlcllaaGreatDoor
open Go.RowKit

def ExactOut (s : ByteArray) (x c : Int) : Prop := ∃ y d, SpanOut (nums s) y d ∧ ((d = 0 ∧ strOfNums (spn y.toNat) = s ∧ x = y ∧ c = 0) ∨ (d = 0 ∧ strOfNums (spn y.toNat) ≠ s ∧ x = 0 ∧ c = 5) ∨ (d ≠ 0 ∧ x = 0 ∧ c = d))
def GivesExact (s : ByteArray) (w : World) (e : Ending) (w' : World) : Prop := ∃ x c : Int, e = .returned (.tuple #[.int .i64 x, .int .i64 c]) ∧ ExactOut s x c ∧ Below w.heap.size w w'
def roundI (n u : Int) : Int := if n < 0 ∨ 253402300799 < n ∨ u < 1 then 0 else if n % u = 0 ∨ 253402300799 < u ∨ 253402300799 / u ≤ n / u then n else (n / u + 1) * u

end Go.Proofs.YtmgimkokmlcllaaGreatDoor
