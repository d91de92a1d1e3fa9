/-
  A slice of bits that reads as a list, in a world: what it is, and that it stays while new memory is made.
-/
import Derived.WalkKit
import Derived.WalkSmall
import Derived.Test.YtmgimkokmlcllaaGreatDoorProg
import Derived.Test.YtmgimkokmlcllaaGreatDoorPkPlain
import Derived.WalkSpells
import Derived.WalkLawsBesides
import Derived.Lib.Hide
import Derived.KernelRfl
import Derived.Deep.OwnRows
import Derived.Deep.LoopGhost
namespace Go.Proofs.YtmgimkokmlcllaaGreatDoor
open Go.RowKit

/-- The value is a slice that is there, and reads as the list. -/
def Bools (w : World) (v : Value) (l : List Bool) : Prop :=
  ∃ b off cap, v = .slice (some ⟨b, off, none⟩) l.length cap ∧ l.length ≤ cap ∧ b < w.heap.size ∧ ∀ i, i < l.length → w.cell? ⟨b, off + i, none⟩ = some (.bool (l.getD i false))
/-- The same, or nil and empty. -/
def BoolsN (w : World) (v : Value) (l : List Bool) : Prop := (v = .slice none 0 0 ∧ l = []) ∨ Bools w v l

/-- A slice of bits that the call has made. -/
def OwnBits (w : World) (base : Nat) (v : Value) (l : List Bool) : Prop :=
  w.ownsRow base 4 1 v l.length (l.map Value.bool) ∧ v ≠ .slice none 0 0
end Go.Proofs.YtmgimkokmlcllaaGreatDoor

/-
  The document's own answers for numbers of bits, walked: a bit of a list; which of two lists is the greater number.
-/
namespace Go.Proofs.YtmgimkokmlcllaaGreatDoor
open Go.RowKit

end Go.Proofs.YtmgimkokmlcllaaGreatDoor

/-
  The document's own answers for numbers of bits, walked: the bits of a number; both of two numbers, bit by bit.
-/
namespace Go.Proofs.YtmgimkokmlcllaaGreatDoor
open Go.RowKit

/-- What a call hands back that makes bits: a slice of its own that reads as some list; nothing old has changed. -/
def GivesBits (P : List Bool → Prop) (w : World) (e : Ending) (w' : World) : Prop := ∃ v l, e = .returned v ∧ Bools w' v l ∧ P l ∧ Below w.heap.size w w'
def GivesNew (P : List Bool → Prop) (w : World) (e : Ending) (w' : World) : Prop := ∃ v l, e = .returned v ∧ Bools w' v l ∧ P l ∧ Below w.heap.size w w' ∧ ∀ b, v.ownBlock = some b → w.heap.size ≤ b
end Go.Proofs.YtmgimkokmlcllaaGreatDoor

/-
  The document's own answers for numbers of bits, walked: both, bit by bit; one times the other.
-/
namespace Go.Proofs.YtmgimkokmlcllaaGreatDoor
open Go.RowKit

/-- What the places so far come to. -/
def SumTo (la lb x : List Bool) (c : Nat) : Prop := val x + 2 ^ x.length * c = lo la x.length + lo lb x.length
end Go.Proofs.YtmgimkokmlcllaaGreatDoor

/-
  The document's own answers for numbers of bits, walked: one times the other.
-/
namespace Go.Proofs.YtmgimkokmlcllaaGreatDoor
open Go.RowKit

/-- What is known at the head of a round. -/
structure TimesAt (la lb lo' ls : List Bool) (k : Nat) : Prop where
  len1 : ls.length = la.length + k
  len2 : lo'.length ≤ la.length + k
  vs : val ls = val la * 2 ^ k
  vo : val lo' = val la * lo lb k
end Go.Proofs.YtmgimkokmlcllaaGreatDoor

/-
  The document's own answers for numbers of bits, walked: bits as a number; whether an answer is what bits say.
-/
namespace Go.Proofs.YtmgimkokmlcllaaGreatDoor
open Go.RowKit

/-- What Of hands back. -/
def GivesOf (N : Nat) (w : World) (e : Ending) (w' : World) : Prop := ∃ (h l : Int) (ok : Bool), e = .returned (.tuple #[.agg #[.int .u64 h, .int .u64 l], .bool ok]) ∧ IsW h l (capN N) ∧ (ok = true ↔ W128 N) ∧ Below w.heap.size w w'

/-- What stands in the call's own memory. -/
structure OfMem (w wr : World) (h l : Int) : Prop where
  r0 : wr.cell? ⟨w.heap.size, 0, none⟩ = some (.int .u64 0)
  r1 : wr.cell? ⟨w.heap.size, 1, none⟩ = some (.int .u64 0)
  q0 : wr.frozen? ⟨w.heap.size, 0, none⟩ = false
  q1 : wr.frozen? ⟨w.heap.size, 1, none⟩ = false
  c0 : wr.cell? ⟨w.heap.size + 1, 0, none⟩ = some (.int .u64 h)
  c1 : wr.cell? ⟨w.heap.size + 1, 1, none⟩ = some (.int .u64 l)
  f0 : wr.frozen? ⟨w.heap.size + 1, 0, none⟩ = false
  f1 : wr.frozen? ⟨w.heap.size + 1, 1, none⟩ = false
  bel : Below w.heap.size w wr
  size : wr.heap.size = w.heap.size + 2
end Go.Proofs.YtmgimkokmlcllaaGreatDoor

/-
  The document's own answers for numbers of bits, walked: one less the other.
-/
namespace Go.Proofs.YtmgimkokmlcllaaGreatDoor
open Go.RowKit

/-- What the places so far come to. -/
def DiffTo (la lb x : List Bool) (c : Nat) : Prop := lo la x.length + 2 ^ x.length * c = val x + lo lb x.length
end Go.Proofs.YtmgimkokmlcllaaGreatDoor

/-
  The document's own answers for numbers of bits, walked: how often a number fits, and what is left.
-/
namespace Go.Proofs.YtmgimkokmlcllaaGreatDoor
open Go.RowKit

/-- What is known at the head of a round. -/
structure DivAt (la ln ll lq : List Bool) (k : Nat) : Prop where
  lenq : lq.length = la.length
  lenl : ll.length + k = la.length
  low : ∀ j, j < k → lq.getD j false = false
  num : hi lq k * val ln + val ll = hi la k
  less : val ll < val ln
/-- The row of the quotient's bits. -/
structure QMem (w wr : World) (lq : List Bool) : Prop where
  row : ∀ i, i < lq.length → wr.cell? ⟨w.heap.size, i, none⟩ = some (.bool (lq.getD i false))
  free : ∀ i, i < lq.length → wr.frozen? ⟨w.heap.size, i, none⟩ = false
  size : w.heap.size < wr.heap.size
/-- What Divide hands back. -/
def GivesDiv (q r n : Nat) (w : World) (e : Ending) (w' : World) : Prop := ∃ vq vl lq ll, e = .returned (.tuple #[vq, vl]) ∧ Bools w' vq lq ∧ Bools w' vl ll ∧ lq.length = n ∧ ll.length = n ∧ val lq = q ∧ val ll = r ∧ Below w.heap.size w w'

end Go.Proofs.YtmgimkokmlcllaaGreatDoor

/-
  The document's own answers for numbers of bits, walked: the decimal digits.
-/
namespace Go.Proofs.YtmgimkokmlcllaaGreatDoor
open Go.RowKit

/-- What holds at the head of a round. -/
structure DigitsAt (A n : Nat) (l : List Bool) (xs : List Int) : Prop where
  all : dec A = dec (val l) ++ xs
  len : l.length = n
  lt : W128 (val l)

end Go.Proofs.YtmgimkokmlcllaaGreatDoor
