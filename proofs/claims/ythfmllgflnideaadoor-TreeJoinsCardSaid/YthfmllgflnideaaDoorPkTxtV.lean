/-
  The document's own Unquote, walked.
-/
import Derived.Test.YthfmllgflnideaaDoorPkTexts
import Derived.Test.YthfmllgflnideaaDoorPkPlain
import Derived.Deep.RegionHeld3
namespace Go.Proofs.YthfmllgflnideaaDoor
open Go.RowKit

def GivesUnq (l : List Int) (w : World) (e : Ending) (w' : World) : Prop := ∃ t c, e = .returned (.tuple #[.string (strOfNums t), .int .i64 c]) ∧ UnqL l t c ∧ Below w.heap.size w w'
theorem GivesUnq.word {l : List Int} {w w' : World} (h : NoQ l) (hb : Below w.heap.size w w') : GivesUnq l w (.returned (.tuple #[.string ⟨#[]⟩, .int .i64 5])) w' := ⟨[], 5, rfl, Or.inl ⟨h, rfl, rfl⟩, hb⟩
theorem GivesUnq.long {l xs : List Int} {w w' : World} (h : uf l = .done xs) (hx : 120 < xs.length) (hb : Below w.heap.size w w') : GivesUnq l w (.returned (.tuple #[.string ⟨#[]⟩, .int .i64 9])) w' := ⟨[], 9, rfl, Or.inr ⟨xs, h, Or.inl ⟨hx, rfl, rfl⟩⟩, hb⟩
theorem GivesUnq.fine {l xs : List Int} {w w' : World} (h : uf l = .done xs) (hx : xs.length ≤ 120) (hb : Below w.heap.size w w') : GivesUnq l w (.returned (.tuple #[.string (strOfNums (xs.flatMap encL)), .int .i64 0])) w' := ⟨_, 0, rfl, Or.inr ⟨xs, h, Or.inr ⟨hx, rfl, rfl⟩⟩, hb⟩
theorem enc_snoc (xs : List Int) (z : Int) : (xs ++ [z]).flatMap encL = xs.flatMap encL ++ encL z := by simp
theorem enc_len (xs : List Int) : (xs.flatMap encL).length ≤ 4 * xs.length := by
  induction xs with
  | nil => simp
  | cons z l ih => rw [List.flatMap_cons, List.length_append, List.length_cons]; have := encL_len z; omega
theorem hexV_bd (r : Int) : hexV r = -1 ∨ (0 ≤ hexV r ∧ hexV r ≤ 15) := by unfold hexV; split <;> (try split) <;> omega
theorem step_norm {xs : List Int} {z : Int} (h : z ≠ 34) (h2 : ¬ (z < 32 ∨ z = 127)) (h3 : z ≠ 92) : ustep (.norm xs) z = .norm (xs ++ [z]) := by
  show (if z = 34 then Qs.done xs else if z < 32 ∨ z = 127 then .dead else if z = 92 then .esc xs else .norm (xs ++ [z])) = _
  rw [if_neg h, if_neg h2, if_neg h3]
theorem step_bad {xs : List Int} {z : Int} (h : z ≠ 34) (h2 : z < 32 ∨ z = 127) : ustep (.norm xs) z = .dead := by
  show (if z = 34 then Qs.done xs else if z < 32 ∨ z = 127 then .dead else if z = 92 then .esc xs else .norm (xs ++ [z])) = _
  rw [if_neg h, if_pos h2]
theorem step_esc {xs : List Int} {z : Int} (h1 : z ≠ 34) (h2 : z ≠ 92) (h3 : z ≠ 110) (h4 : z ≠ 116) (h5 : z ≠ 117) : ustep (.esc xs) z = .dead := by
  show (if z = 34 ∨ z = 92 then Qs.norm (xs ++ [z]) else if z = 110 then .norm (xs ++ [10]) else if z = 116 then .norm (xs ++ [9]) else if z = 117 then .uni xs else .dead) = _
  rw [if_neg (by omega), if_neg h3, if_neg h4, if_neg h5]
theorem step_dig {xs : List Int} {k : Nat} {x z d : Int} (hd : hexV z = d) (h0 : 0 ≤ d) (hk : k < 6) : ustep (.hex xs k x) z = .hex xs (k + 1) (16 * x + d) := by
  show (if 0 ≤ hexV z ∧ k < 6 then Qs.hex xs (k + 1) (16 * x + hexV z) else _) = _
  rw [if_pos (by omega), hd]
theorem step_end {xs : List Int} {k : Nat} {x z : Int} (hd : ¬ (0 ≤ hexV z ∧ k < 6)) (h : z = 125 ∧ k ≠ 0 ∧ x ≤ 1114111 ∧ ¬ (55296 ≤ x ∧ x < 57344)) : ustep (.hex xs k x) z = .norm (xs ++ [x]) := by
  show (if 0 ≤ hexV z ∧ k < 6 then Qs.hex xs (k + 1) (16 * x + hexV z) else if z = 125 ∧ k ≠ 0 ∧ x ≤ 1114111 ∧ ¬ (55296 ≤ x ∧ x < 57344) then .norm (xs ++ [x]) else .dead) = _
  rw [if_neg hd, if_pos h]
theorem step_off {xs : List Int} {k : Nat} {x z : Int} (hd : ¬ (0 ≤ hexV z ∧ k < 6)) (h : ¬ (z = 125 ∧ k ≠ 0 ∧ x ≤ 1114111 ∧ ¬ (55296 ≤ x ∧ x < 57344))) : ustep (.hex xs k x) z = .dead := by
  show (if 0 ≤ hexV z ∧ k < 6 then Qs.hex xs (k + 1) (16 * x + hexV z) else if z = 125 ∧ k ≠ 0 ∧ x ≤ 1114111 ∧ ¬ (55296 ≤ x ∧ x < 57344) then .norm (xs ++ [x]) else .dead) = _
  rw [if_neg hd, if_neg h]
theorem step_open {xs : List Int} {z : Int} (h : z ≠ 123) : ustep (.uni xs) z = .dead := if_neg h
theorem hexV_end : hexV 125 = -1 := by decide
/-- The bound of a number of so many digits. -/
def bdH : Nat → Int
  | 0 => 0
  | k + 1 => 16 * bdH k + 15
theorem bdH_le {k : Nat} (h : k ≤ 6) : bdH k ≤ 16777215 := by
  have : k = 0 ∨ k = 1 ∨ k = 2 ∨ k = 3 ∨ k = 4 ∨ k = 5 ∨ k = 6 := by omega
  rcases this with rfl | rfl | rfl | rfl | rfl | rfl | rfl <;> decide

end Go.Proofs.YthfmllgflnideaaDoor
