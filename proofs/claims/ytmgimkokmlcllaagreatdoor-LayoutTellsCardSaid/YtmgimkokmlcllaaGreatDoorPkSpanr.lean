/-
  The document's own answers for spans, walked: Unit, digits, Print.
-/
import Derived.Test.YtmgimkokmlcllaaGreatDoorPkPlain
import Derived.WalkKit
import Derived.WalkSpells
import Derived.WalkLawsBesides
import Derived.WalkSmall
import Derived.Lib.Hide
import Derived.Lib.OthersKept
import Derived.Deep.LoopGhost
import Derived.Deep.RegionHeld3
import Derived.Laws.BytesArg
import Derived.Test.YtmgimkokmlcllaaGreatDoorPkVrs
namespace Go.Proofs.YtmgimkokmlcllaaGreatDoor
open Go.RowKit

/-- At the head of a round: a digits' number is left, or none. -/
def DecAt (A a : Nat) (xs : List Int) : Prop := (a = 0 ∧ dec A = xs) ∨ (1 ≤ a ∧ dec A = dec a ++ xs)
/-- What is printed so far, and what is left. -/
structure SpAt (N k m : Nat) (xs : List Int) : Prop where
  all : sp units N = xs ++ sp (units.drop k) m
  le : m ≤ 253402300799
  len : xs.length ≤ 40 * k
theorem SpAt.start (N : Nat) (h : N ≤ 253402300799) : SpAt N 0 N [] := ⟨rfl, h, by simp⟩
theorem SpAt.yes {N k m : Nat} {xs : List Int} (h : SpAt N k m xs) {c : Int} {r : List Int} (hd : units.drop k = c :: r) (hr : units.drop (k + 1) = r) (hm : unitOf c ≤ m) : SpAt N (k + 1) (m % unitOf c) (xs ++ (dec (m / unitOf c) ++ [c])) := by
  obtain ⟨h1, h2, h3⟩ := h
  have h4 : (dec (m / unitOf c)).length ≤ 39 := dec_len (by have := Nat.div_le_self m (unitOf c); unfold W128; omega)
  refine ⟨?_, by have := Nat.mod_le m (unitOf c); omega, by simp only [List.length_append, List.length_singleton]; omega⟩
  rw [h1, hd, hr, sp, if_pos hm]; simp
theorem SpAt.no {N k m : Nat} {xs : List Int} (h : SpAt N k m xs) {c : Int} {r : List Int} (hd : units.drop k = c :: r) (hr : units.drop (k + 1) = r) (hm : ¬ unitOf c ≤ m) : SpAt N (k + 1) m xs := by
  obtain ⟨h1, h2, h3⟩ := h
  refine ⟨?_, h2, by omega⟩
  rw [h1, hd, hr, sp, if_neg hm]
theorem SpAt.fin {N m : Nat} {xs : List Int} (h : SpAt N 5 m xs) : sp units N = xs := by
  rw [h.all]; simp [units, sp]
end Go.Proofs.YtmgimkokmlcllaaGreatDoor

/-
  The document's own Read of spans, walked: piece by piece.
-/
namespace Go.Proofs.YtmgimkokmlcllaaGreatDoor
open Go.RowKit

/-- What reading a text comes to: a span, or why it is none. -/
def SpanOut (zs : List Int) (x c : Int) : Prop := ((∀ N, ¬ Tells zs N) ∧ x = 0 ∧ c = 5) ∨ ∃ N, Tells zs N ∧ ((253402300799 < N ∧ x = 0 ∧ c = 8) ∨ (N ≤ 253402300799 ∧ x = (N : Int) ∧ c = 0))
def GivesSpan (zs : List Int) (w : World) (e : Ending) (w' : World) : Prop := ∃ x c : Int, e = .returned (.tuple #[.int .i64 x, .int .i64 c]) ∧ SpanOut zs x c ∧ Below w.heap.size w w'
theorem GivesSpan.word {zs : List Int} {w w' : World} (h : ∀ N, ¬ Tells zs N) (hb : Below w.heap.size w w') : GivesSpan zs w (.returned (.tuple #[.int .i64 0, .int .i64 5])) w' := ⟨0, 5, rfl, Or.inl ⟨h, rfl, rfl⟩, hb⟩
theorem GivesSpan.far {zs : List Int} {w w' : World} {N : Nat} (h : Tells zs N) (hN : 253402300799 < N) (hb : Below w.heap.size w w') : GivesSpan zs w (.returned (.tuple #[.int .i64 0, .int .i64 8])) w' := ⟨0, 8, rfl, Or.inr ⟨N, h, Or.inl ⟨hN, rfl, rfl⟩⟩, hb⟩
theorem GivesSpan.fine {zs : List Int} {w w' : World} {N : Nat} {x : Int} (h : Tells zs N) (hN : N ≤ 253402300799) (hx : x = (N : Int)) (hb : Below w.heap.size w w') : GivesSpan zs w (.returned (.tuple #[.int .i64 x, .int .i64 0])) w' := ⟨x, 0, rfl, Or.inr ⟨N, h, Or.inr ⟨hN, hx, rfl⟩⟩, hb⟩

/-- What is known at the beginning of a piece. -/
structure RdS (zs : List Int) (i acc : Nat) (last sum : Int) (far : Bool) : Prop where
  run : runs St0 (zs.take i) = some ⟨acc, last.toNat, none⟩
  l0 : 1 ≤ last
  l1 : last ≤ 1000000
  s0 : 0 ≤ sum
  s1 : sum ≤ 253402300799
  near : far = false → sum = (acc : Int)
  over : far = true → 253402300799 < acc
/-- What is known within a piece's digits. -/
structure InS (zs : List Int) (i k acc : Nat) (last n : Int) (N : Nat) : Prop where
  run : runs St0 (zs.take k) = some ⟨acc, last.toNat, if k = i then none else some N⟩
  zero : k = i → N = 0
  n0 : 0 ≤ n
  n1 : n ≤ 2534023007999
  near : n ≤ 253402300799 → n = (N : Int)
  over : 253402300799 < n → 253402300799 < N
end Go.Proofs.YtmgimkokmlcllaaGreatDoor
