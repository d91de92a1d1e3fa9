/-
  The document's own answers for shares, walked: Read in its outcomes.
-/
import Derived.Test.YthfmllgflnideaaDoorPkPpm
import Derived.Deep.LoopGhost
import Derived.Test.YthfmllgflnideaaDoorPkRefs
namespace Go.Proofs.YthfmllgflnideaaDoor
open Go.RowKit

theorem letter_at (s : ByteArray) (k : Nat) (h : k < s.size) : ((s[k]'h).toNat : Int) = (nums s).getD k 0 := (nums_at s k h).symm
theorem ends_len {s : ByteArray} {ys : List Int} (h : nums s = ys ++ [37]) : s.size = ys.length + 1 := by rw [← nums_length, h]; simp
theorem ends_last {s : ByteArray} {ys : List Int} (h : nums s = ys ++ [37]) : (nums s).getD (s.size - 1) 0 = 37 := by
  rw [ends_len h, h, List.getD_eq_getElem?_getD, List.getElem?_append_right (by omega)]; simp
theorem ends_of {s : ByteArray} (h0 : 0 < s.size) (h : (nums s).getD (s.size - 1) 0 = 37) : ∃ ys, nums s = ys ++ [37] := by
  have hl : nums s ≠ [] := fun e => by have := nums_length s; rw [e] at this; simp at this; omega
  refine ⟨(nums s).dropLast, ?_⟩
  have hx := List.dropLast_concat_getLast hl
  rw [List.getLast_eq_getElem] at hx
  have e : (nums s)[(nums s).length - 1]'(by have := nums_length s; omega) = 37 := by
    rw [← nums_length, List.getD_eq_getElem?_getD, List.getElem?_eq_getElem (by have := nums_length s; omega)] at h
    exact h
  rw [e] at hx
  exact hx.symm

/-- A digit's letter. -/
def isD (z : Int) : Prop := 48 ≤ z ∧ z ≤ 57
/-- The letters of a text that ends with %, by place. -/
structure Lets (s : ByteArray) (A B : List Int) (d : Bool) : Prop where
  size : s.size = if d then A.length + B.length + 2 else A.length + 1
  ahead : ∀ i, i < A.length → (nums s).getD i 0 = A.getD i 0 ∧ A.getD i 0 ≠ 46
  point : d = true → (nums s).getD A.length 0 = 46
  behind : ∀ i, i < B.length → (nums s).getD (A.length + 1 + i) 0 = B.getD i 0
  last : (nums s).getD (s.size - 1) 0 = 37
  nil : d = false → B = []
theorem Ends.lets {s : ByteArray} {ys A B : List Int} {d : Bool} (h : Ends s ys A B d) : Lets s A B d := by
  obtain ⟨h1, h2, h3, h4⟩ := h
  have hl := ends_len h1
  subst h2
  refine ⟨?_, fun i hi => ⟨?_, ?_⟩, fun hd => ?_, fun i hi => ?_, ends_last h1, h4⟩
  · rw [hl]; cases d <;> simp <;> omega
  · rw [h1, List.append_assoc, List.getD_eq_getElem?_getD, List.getElem?_append_left hi, ← List.getD_eq_getElem?_getD]
  · intro e
    apply h3
    rw [← e]; exact getD_mem hi
  · subst hd
    rw [h1, List.append_assoc, List.getD_eq_getElem?_getD, List.getElem?_append_right (Nat.le_refl _)]
    simp
  · cases d with
    | false => rw [h4 rfl] at hi; simp at hi
    | true =>
      rw [h1, List.append_assoc, List.getD_eq_getElem?_getD, List.getElem?_append_right (by omega), show A.length + 1 + i - A.length = i + 1 by omega]
      simp only [if_true, List.cons_append, List.getElem?_cons_succ]
      rw [List.getElem?_append_left hi, ← List.getD_eq_getElem?_getD]
/-- Where the point is, as far as it is known. -/
def dotI (a n k : Nat) : Int := if k ≤ a then (n : Int) - 1 else a
/-- All letters so far are digits, but for the point. -/
def DigTo (s : ByteArray) (a k : Nat) : Prop := ∀ i, i < k → i ≠ a → isD ((nums s).getD i 0)
theorem DigTo.zero (s : ByteArray) (a : Nat) : DigTo s a 0 := fun i h => by omega
theorem DigTo.next {s : ByteArray} {a k : Nat} (h : DigTo s a k) (hk : isD ((nums s).getD k 0)) : DigTo s a (k + 1) := fun i hi hn => by
  by_cases e : i = k
  · subst e; exact hk
  · exact h i (by omega) hn
theorem DigTo.skip {s : ByteArray} {a k : Nat} (h : DigTo s a k) (hk : k = a) : DigTo s a (k + 1) := fun i hi hn => h i (by omega) hn
/-- A letter that is no digit makes it no print. -/
theorem Lets.bad {s : ByteArray} {A B : List Int} {d : Bool} (h : Lets s A B d) {k : Nat} (hk : k < s.size - 1) (hn : k ≠ A.length) (hz : ¬ isD ((nums s).getD k 0)) : ¬ Written A B d := by
  intro g
  have hs := h.size
  by_cases h1 : k < A.length
  · rw [(h.ahead k h1).1] at hz
    exact hz (g.dg.all k h1)
  · cases d with
    | false => simp at hs; omega
    | true =>
      simp at hs
      have h2 := h.behind (k - A.length - 1) (by omega)
      rw [show A.length + 1 + (k - A.length - 1) = k by omega] at h2
      rw [h2] at hz
      exact hz ((g.fr rfl).all _ (by omega))
theorem Lets.good {s : ByteArray} {A B : List Int} {d : Bool} (h : Lets s A B d) (hd : DigTo s A.length (s.size - 1)) (h0 : 1 ≤ A.length) (h1 : (nums s).getD 0 0 = 48 → A.length = 1)
    (h2 : d = true → 1 ≤ B.length ∧ B.length ≤ 4 ∧ (nums s).getD (s.size - 2) 0 ≠ 48) : Written A B d := by
  have hs := h.size
  refine ⟨⟨fun e => by rw [e] at h0; simp at h0, fun e => h1 (by rw [(h.ahead 0 (by omega)).1]; exact e), fun i hi => ?_⟩, fun e => ?_⟩
  · rw [← (h.ahead i hi).1]
    exact hd i (by split at hs <;> omega) (by omega)
  · obtain ⟨a1, a2, a3⟩ := h2 e
    subst e
    simp at hs
    refine ⟨a1, a2, fun i hi => ?_, ?_⟩
    · rw [← h.behind i hi]
      exact hd _ (by omega) (by omega)
    · rw [← h.behind _ (by omega), show A.length + 1 + (B.length - 1) = s.size - 2 by omega]
      exact a3
/-- What the tests behind the first loop say of a print. -/
theorem Lets.tests {s : ByteArray} {A B : List Int} {d : Bool} (h : Lets s A B d) (g : Written A B d) : 1 ≤ A.length ∧ ((nums s).getD 0 0 = 48 → A.length = 1) ∧ (d = true → 1 ≤ B.length ∧ B.length ≤ 4 ∧ (nums s).getD (s.size - 2) 0 ≠ 48) := by
  have hs := h.size
  have h0 : 1 ≤ A.length := by
    have := g.dg.some
    cases A with
    | nil => exact (this rfl).elim
    | cons x l => simp
  refine ⟨h0, fun e => g.dg.head (by rw [← (h.ahead 0 (by omega)).1]; exact e), fun e => ?_⟩
  have f := g.fr e
  subst e
  simp at hs
  refine ⟨f.some, f.few, ?_⟩
  have h1 := f.some
  rw [show s.size - 2 = A.length + 1 + (B.length - 1) by omega, h.behind _ (by omega)]
  exact f.last

/-- The parts of a text of percents, digit by digit. -/
def vv (A B : List Int) : Nat → Nat
  | 0 => numOf A
  | k + 1 => 10 * vv A B k + dB B k
theorem vv_four (A B : List Int) : vv A B 4 = parts A B := by
  unfold parts
  rw [pv_four]
  simp only [vv]
  omega
theorem numOf_lt {A : List Int} (h : ∀ i, i < A.length → 48 ≤ A.getD i 0 ∧ A.getD i 0 ≤ 57) (k : Nat) (hk : k ≤ A.length) : numOf (A.take k) < 10 ^ k := by
  induction k with
  | zero => simp [numOf_nil]
  | succ k ih =>
    have := ih (by omega)
    have h1 := h k (by omega)
    rw [numOf_step A k (by omega), Nat.pow_succ]; omega
theorem vv_lt {A B : List Int} (h : ∀ i, i < A.length → 48 ≤ A.getD i 0 ∧ A.getD i 0 ≤ 57) (hB : ∀ i, i < B.length → 48 ≤ B.getD i 0 ∧ B.getD i 0 ≤ 57) (ha : A.length ≤ 3) (k : Nat) : vv A B k < 10 ^ (3 + k) := by
  induction k with
  | zero =>
    have h1 := numOf_lt h A.length (Nat.le_refl _)
    rw [List.take_length] at h1
    have h2 : 10 ^ A.length ≤ 10 ^ 3 := Nat.pow_le_pow_right (by decide) ha
    simp only [vv, Nat.add_zero]; omega
  | succ k ih =>
    have := dB_le hB k
    rw [vv, ← Nat.add_assoc, Nat.pow_succ]; omega
theorem Written.wide {A B : List Int} {d : Bool} (g : Written A B d) (h : 3 < A.length) : 1000000 < parts A B := by
  have h1 := g.dg.all 0 (by omega)
  have h2 : 49 ≤ A.getD 0 0 := by
    have : ¬ A.getD 0 0 = 48 := fun e => by have := g.dg.head e; omega
    omega
  have h3 : 10 ^ 3 ≤ numOf (A.take 4) := numOf_pow A h2 3 (by omega)
  have h4 := numOf_take A 4 (by omega)
  unfold parts; omega
theorem Written.digB {A B : List Int} {d : Bool} (g : Written A B d) (h : d = false → B = []) : ∀ i, i < B.length → 48 ≤ B.getD i 0 ∧ B.getD i 0 ≤ 57 := by
  intro i hi
  cases d with
  | false => rw [h rfl] at hi; simp at hi
  | true => exact (g.fr rfl).all i hi

/-- What the document's Read hands back, for a text that ends with %. -/
def GivesRd (A B : List Int) (d : Bool) (w : World) (e : Ending) (w' : World) : Prop := ∃ (N : Nat) (c x : Int), e = .returned (.tuple #[.int .u32 x, .int .i64 c]) ∧ x = (N : Int) ∧
  ((¬ Written A B d ∧ N = 0 ∧ c = 5) ∨ (Written A B d ∧ 1000000 < parts A B ∧ N = 0 ∧ c = 8) ∨ (Written A B d ∧ parts A B ≤ 1000000 ∧ N = parts A B ∧ c = 0)) ∧ w = w'
theorem GivesRd.no {A B : List Int} {d : Bool} {w : World} (h : ¬ Written A B d) : GivesRd A B d w (.returned (.tuple #[.int .u32 0, .int .i64 5])) w := ⟨0, 5, 0, rfl, rfl, Or.inl ⟨h, rfl, rfl⟩, rfl⟩
theorem GivesRd.big {A B : List Int} {d : Bool} {w : World} (h : Written A B d) (hp : 1000000 < parts A B) : GivesRd A B d w (.returned (.tuple #[.int .u32 0, .int .i64 8])) w := ⟨0, 8, 0, rfl, rfl, Or.inr (Or.inl ⟨h, hp, rfl, rfl⟩), rfl⟩
theorem GivesRd.fine {A B : List Int} {d : Bool} {w : World} {x : Int} (h : Written A B d) (hp : parts A B ≤ 1000000) (hx : x = (parts A B : Int)) : GivesRd A B d w (.returned (.tuple #[.int .u32 x, .int .i64 0])) w := ⟨_, 0, x, rfl, hx, Or.inr (Or.inr ⟨h, hp, rfl, rfl⟩), rfl⟩

end Go.Proofs.YthfmllgflnideaaDoor

/-
  The document's own answers for shares, walked: Read of a text that ends with %.
-/
namespace Go.Proofs.YthfmllgflnideaaDoor
open Go.RowKit

theorem dot_end {s : ByteArray} {A B : List Int} {d : Bool} {a : Nat} (h : Lets s A B d) (ha : A.length = a) : dotI a s.size (s.size - 1) = (a : Int) := by
  have hs := h.size
  unfold dotI
  split
  · cases d <;> simp at hs <;> omega
  · rfl
theorem dot_low {a n k : Nat} (h : k ≤ a) : dotI a n k = (n : Int) - 1 := if_pos h
theorem dot_high {a n k : Nat} (h : ¬ k ≤ a) : dotI a n k = (a : Int) := if_neg h
theorem num_room {A B : List Int} {d : Bool} {a : Nat} (g : Written A B d) (ha : A.length = a) (h3 : a ≤ 3) (k : Nat) (hk : k ≤ a) : numOf (A.take k) ≤ 999 := by
  have h1 := numOf_lt g.dg.all k (by omega)
  have h2 : 10 ^ k ≤ 10 ^ 3 := Nat.pow_le_pow_right (by decide) (by omega)
  omega
theorem num_step {s : ByteArray} {A B : List Int} {d : Bool} {a : Nat} (h : Lets s A B d) (g : Written A B d) (ha : A.length = a) (k : Nat) (hk : k < a) :
    ∃ (z : Int), ((s[k]'(by have := h.size; split at this <;> omega)).toNat : Int) = z ∧ 48 ≤ z ∧ z ≤ 57 ∧ numOf (A.take (k + 1)) = 10 * numOf (A.take k) + (z - 48).toNat := by
  have h1 := g.dg.all k (by omega)
  refine ⟨A.getD k 0, ?_, h1.1, h1.2, numOf_step A k (by omega)⟩
  rw [letter_at, (h.ahead k (by omega)).1]
theorem vv_room {s : ByteArray} {A B : List Int} {d : Bool} {a : Nat} (h : Lets s A B d) (g : Written A B d) (ha : A.length = a) (h3 : a ≤ 3) (j : Nat) (hj : j ≤ 4) : vv A B j ≤ 9999999 := by
  have h1 := vv_lt g.dg.all (g.digB h.nil) (by omega) j
  have h2 : 10 ^ (3 + j) ≤ 10 ^ 7 := Nat.pow_le_pow_right (by decide) (by omega)
  omega
theorem vv_less {s : ByteArray} {A B : List Int} {d : Bool} {a : Nat} (h : Lets s A B d) (g : Written A B d) (ha : A.length = a) (h3 : a ≤ 3) (j : Nat) (hj : j < 4) : vv A B j ≤ 999999 := by
  have h1 := vv_lt g.dg.all (g.digB h.nil) (by omega) j
  have h2 : 10 ^ (3 + j) ≤ 10 ^ 6 := Nat.pow_le_pow_right (by decide) (by omega)
  omega
theorem vv_step (A B : List Int) (j : Nat) : vv A B (j + 1) = 10 * vv A B j + dB B j := rfl
theorem behind_in {s : ByteArray} {A B : List Int} {d : Bool} {a : Nat} (h : Lets s A B d) (ha : A.length = a) (j : Nat) (hj : j < B.length) : (a : Int) + 1 + j < (s.size : Int) - 1 := by
  have hs := h.size
  cases d with
  | false => rw [h.nil rfl] at hj; simp at hj
  | true => simp at hs; omega
theorem behind_out {s : ByteArray} {A B : List Int} {d : Bool} {a : Nat} (h : Lets s A B d) (ha : A.length = a) (j : Nat) (hj : ¬ j < B.length) : ¬ (a : Int) + 1 + j < (s.size : Int) - 1 := by
  have hs := h.size
  cases d with
  | false => simp at hs; omega
  | true => simp at hs; omega
theorem behind_step {s : ByteArray} {A B : List Int} {d : Bool} {a : Nat} (h : Lets s A B d) (g : Written A B d) (ha : A.length = a) (j : Nat) (hj : j < B.length) :
    ∃ (z : Int), ((s[a + 1 + j]'(by have := behind_in h ha j hj; omega)).toNat : Int) = z ∧ 48 ≤ z ∧ z ≤ 57 ∧ dB B j = (z - 48).toNat := by
  have h1 := g.digB h.nil j hj
  refine ⟨B.getD j 0, ?_, h1.1, h1.2, dB_at hj⟩
  rw [letter_at, ← ha, h.behind j hj]
theorem int_eq {k : IntKind} {x y : Int} (h : x = y) : Value.int k x = Value.int k y := by rw [h]

end Go.Proofs.YthfmllgflnideaaDoor

/-
  The document's own answers for shares, walked: Print, and Read in its outcomes.
-/
namespace Go.Proofs.YthfmllgflnideaaDoor
open Go.RowKit

/-- The digits behind the point, one after the other: k are left. -/
structure FrAt (L k m : Nat) (xs : List Int) : Prop where
  le : k ≤ 4
  lt : m < 10000
  all : fr 4 L = xs ++ fr k m
  div : m % 10 ^ (4 - k) = 0
  len : xs.length ≤ 4 - k
theorem FrAt.start (L : Nat) (h : L < 10000) : FrAt L 4 L [] := ⟨Nat.le_refl _, h, by simp, by simp [Nat.mod_one], by simp⟩
theorem FrAt.some {L k m : Nat} {xs : List Int} (h : FrAt L k m xs) (hm : ¬ m = 0) : ¬ k = 0 := by
  rintro rfl
  have h1 := h.div; have h2 := h.lt
  simp at h1; omega
theorem FrAt.next {L k m : Nat} {xs : List Int} (h : FrAt L k m xs) (hm : ¬ m = 0) : FrAt L (k - 1) (m % 1000 * 10) (xs ++ [48 + ((m / 1000 : Nat) : Int)]) := by
  have hk := h.some hm
  obtain ⟨h1, h2, h3, h4, h5⟩ := h
  obtain ⟨j, rfl⟩ : ∃ j, k = j + 1 := ⟨k - 1, by omega⟩
  refine ⟨by omega, by omega, ?_, ?_, by simp; omega⟩
  · rw [h3, fr_step hm]; simp
  · have hj : j = 0 ∨ j = 1 ∨ j = 2 ∨ j = 3 := by omega
    rcases hj with rfl | rfl | rfl | rfl <;> simp at h4 ⊢ <;> omega
theorem FrAt.last {L k m : Nat} {xs : List Int} (h : FrAt L k m xs) (hm : m = 0) : fr 4 L = xs := by
  subst hm; rw [h.all, fr_zero]; simp

/-- What stands ahead of the digits behind the point. -/
def preOf (p : Nat) : List Int := dec (p / 10000) ++ (if p % 10000 = 0 then [] else [46])
theorem preOf_len (p : Nat) (h : p ≤ 1000000) : (preOf p).length ≤ 40 := by
  unfold preOf
  have := dec_small_len (show p / 10000 ≤ 1000000 by omega)
  split <;> simp <;> omega
theorem pct_pre (p : Nat) : pct p = preOf p ++ fr 4 (p % 10000) ++ [37] := by
  unfold pct preOf tailOf
  split
  · rename_i h; rw [h, fr_zero]; simp
  · simp

end Go.Proofs.YthfmllgflnideaaDoor

/-
  The document's own Read of shares, in its outcomes; and the chapter's examples.
-/
namespace Go.Proofs.YthfmllgflnideaaDoor
open Go.RowKit

theorem halves_ex (ys : List Int) : ∃ A B d, Halves ys A B d := by
  induction ys with
  | nil => exact ⟨[], [], false, ⟨rfl, by simp, fun _ => rfl⟩⟩
  | cons x l ih =>
    by_cases h : x = 46
    · subst h
      exact ⟨[], l, true, ⟨rfl, by simp, fun e => by cases e⟩⟩
    · obtain ⟨A, B, d, h1, h2, h3⟩ := ih
      refine ⟨x :: A, B, d, ⟨by rw [h1]; rfl, fun hc => ?_, h3⟩⟩
      rcases List.mem_cons.mp hc with e | e
      · exact h e.symm
      · exact h2 e
theorem pct_len (p : Nat) (h : p ≤ 1000000) : (pct p).length ≤ 60 := by
  rw [pct_pre]
  have h1 := preOf_len p h
  have h2 := fr_len 4 (p % 10000)
  simp only [List.length_append, List.length_singleton]; omega
theorem awake_one : strOfNums (pct 999000) = ⟨#[57, 57, 46, 57, 37]⟩ := by
  simp [pct, dec, tailOf, fr, strOfNums]
theorem awake_two : strOfNums (pct 12345) = ⟨#[49, 46, 50, 51, 52, 53, 37]⟩ := by
  simp [pct, dec, tailOf, fr, strOfNums]
end Go.Proofs.YthfmllgflnideaaDoor
