/-
  The document's own answers for shares, walked: Read in its outcomes.
-/
import Derived.Test.YtmgimkokmlcllaaGreatDoorPkPpm
import Derived.Deep.LoopGhost
import Derived.Test.YtmgimkokmlcllaaGreatDoorPkRefs
namespace Go.Proofs.YtmgimkokmlcllaaGreatDoor
open Go.RowKit

theorem ends_len {s : ByteArray} {ys : List Int} (h : nums s = ys ++ [37]) : s.size = ys.length + 1 := by rw [← nums_length, h]; simp
theorem ends_last {s : ByteArray} {ys : List Int} (h : nums s = ys ++ [37]) : (nums s).getD (s.size - 1) 0 = 37 := by
  rw [ends_len h, h, List.getD_eq_getElem?_getD, List.getElem?_append_right (by omega)]; simp
theorem ends_of {s : ByteArray} (h0 : 0 < s.size) (h : (nums s).getD (s.size - 1) 0 = 37) : ∃ ys, nums s = ys ++ [37] := by
  have hl : nums s ≠ [] := fun e => by have := nums_length s; rw [e] at this; simp at this; omega
  refine ⟨(nums s).dropLast, ?_⟩
  have hx := List.dropLast_concat_getLast hl
  rw [List.getLast_eq_getElem] at hx
  have e : (nums s)[(nums s).length - 1]'(by have := nums_length s; omega) = 37 := by
    rw [← nums_length, List.getD_eq_getElem?_getD, List.getElem?_eq_getElem (by have := nums_length s; omega)] at h
    exact h
  rw [e] at hx
  exact hx.symm

/-- A digit's letter. -/
def isD (z : Int) : Prop := 48 ≤ z ∧ z ≤ 57
/-- The letters of a text that ends with %, by place. -/
structure Lets (s : ByteArray) (A B : List Int) (d : Bool) : Prop where
  size : s.size = if d then A.length + B.length + 2 else A.length + 1
  ahead : ∀ i, i < A.length → (nums s).getD i 0 = A.getD i 0 ∧ A.getD i 0 ≠ 46
  point : d = true → (nums s).getD A.length 0 = 46
  behind : ∀ i, i < B.length → (nums s).getD (A.length + 1 + i) 0 = B.getD i 0
  last : (nums s).getD (s.size - 1) 0 = 37
  nil : d = false → B = []
/-- Where the point is, as far as it is known. -/
def dotI (a n k : Nat) : Int := if k ≤ a then (n : Int) - 1 else a
/-- All letters so far are digits, but for the point. -/
def DigTo (s : ByteArray) (a k : Nat) : Prop := ∀ i, i < k → i ≠ a → isD ((nums s).getD i 0)
/-- The parts of a text of percents, digit by digit. -/
def vv (A B : List Int) : Nat → Nat
  | 0 => numOf A
  | k + 1 => 10 * vv A B k + dB B k
theorem numOf_lt {A : List Int} (h : ∀ i, i < A.length → 48 ≤ A.getD i 0 ∧ A.getD i 0 ≤ 57) (k : Nat) (hk : k ≤ A.length) : numOf (A.take k) < 10 ^ k := by
  induction k with
  | zero => simp [numOf_nil]
  | succ k ih =>
    have := ih (by omega)
    have h1 := h k (by omega)
    rw [numOf_step A k (by omega), Nat.pow_succ]; omega
/-- What the document's Read hands back, for a text that ends with %. -/
def GivesRd (A B : List Int) (d : Bool) (w : World) (e : Ending) (w' : World) : Prop := ∃ (N : Nat) (c x : Int), e = .returned (.tuple #[.int .u32 x, .int .i64 c]) ∧ x = (N : Int) ∧
  ((¬ Written A B d ∧ N = 0 ∧ c = 5) ∨ (Written A B d ∧ 1000000 < parts A B ∧ N = 0 ∧ c = 8) ∨ (Written A B d ∧ parts A B ≤ 1000000 ∧ N = parts A B ∧ c = 0)) ∧ w = w'
end Go.Proofs.YtmgimkokmlcllaaGreatDoor

/-
  The document's own answers for shares, walked: Read of a text that ends with %.
-/
namespace Go.Proofs.YtmgimkokmlcllaaGreatDoor
open Go.RowKit

end Go.Proofs.YtmgimkokmlcllaaGreatDoor

/-
  The document's own answers for shares, walked: Print, and Read in its outcomes.
-/
namespace Go.Proofs.YtmgimkokmlcllaaGreatDoor
open Go.RowKit

/-- The digits behind the point, one after the other: k are left. -/
structure FrAt (L k m : Nat) (xs : List Int) : Prop where
  le : k ≤ 4
  lt : m < 10000
  all : fr 4 L = xs ++ fr k m
  div : m % 10 ^ (4 - k) = 0
  len : xs.length ≤ 4 - k
/-- What stands ahead of the digits behind the point. -/
def preOf (p : Nat) : List Int := dec (p / 10000) ++ (if p % 10000 = 0 then [] else [46])
end Go.Proofs.YtmgimkokmlcllaaGreatDoor

/-
  The document's own Read of shares, in its outcomes; and the chapter's examples.
-/
namespace Go.Proofs.YtmgimkokmlcllaaGreatDoor
open Go.RowKit

end Go.Proofs.YtmgimkokmlcllaaGreatDoor
