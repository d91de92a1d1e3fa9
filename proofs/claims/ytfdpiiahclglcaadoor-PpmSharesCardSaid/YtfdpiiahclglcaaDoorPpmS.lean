/-
  The document's own answers for shares, walked: Read in its outcomes.
-/
import Derived.Test.YtfdpiiahclglcaaDoorPpmD
import Derived.Deep.LoopGhost
namespace Go.Proofs.YtfdpiiahclglcaaDoor
open Go.RowKit

theorem letter_at (s : ByteArray) (k : Nat) (h : k < s.size) : ((s[k]'h).toNat : Int) = (nums s).getD k 0 := (nums_at s k h).symm
theorem ends_len {s : ByteArray} {ys : List Int} (h : nums s = ys ++ [37]) : s.size = ys.length + 1 := by rw [← nums_length, h]; simp
theorem ends_last {s : ByteArray} {ys : List Int} (h : nums s = ys ++ [37]) : (nums s).getD (s.size - 1) 0 = 37 := by
  rw [ends_len h, h, List.getD_eq_getElem?_getD, List.getElem?_append_right (by omega)]; simp
theorem ends_of {s : ByteArray} (h0 : 0 < s.size) (h : (nums s).getD (s.size - 1) 0 = 37) : ∃ ys, nums s = ys ++ [37] := by
  have hl : nums s ≠ [] := fun e => by have := nums_length s; rw [e] at this; simp at this; omega
  refine ⟨(nums s).dropLast, ?_⟩
  have hx := List.dropLast_concat_getLast hl
  rw [List.getLast_eq_getElem] at hx
  have e : (nums s)[(nums s).length - 1]'(by have := nums_length s; omega) = 37 := by
    rw [← nums_length, List.getD_eq_getElem?_getD, List.getElem?_eq_getElem (by have := nums_length s; omega)] at h
    exact h
  rw [e] at hx
  exact hx.symm

set_option maxRecDepth 100000 in
theorem rread_noend (s : ByteArray) (w : World) (hm : s.size ≤ 9223372036854775807) (h : ¬ ∃ ys, nums s = ys ++ [37]) :
    Calls Tryd.prog 9 #[.string s] w (GivesPC 0 5 w) := by
  by_cases h2 : s.size < 2
  · clear h
    go_enter Tryd.func9, Tryd.ntmps9
    go_wp2
    go_ret2
    exact ⟨0, rfl, by decide, by decide, rfl, Below.refl _ _⟩
  · obtain ⟨z, hz⟩ : ∃ z, (nums s).getD (s.size - 1) 0 = z := ⟨_, rfl⟩
    have hzn : ¬ z = 37 := fun e => h (ends_of (by omega) (hz.trans e))
    have hzb : (z != 37) = true := by simpa using hzn
    have hx := letter_at s (s.size - 1) (by omega)
    rw [hz] at hx
    have c1 : 0 ≤ (s.size : Int) - 1 := by omega
    have c2 : (s.size : Int) - 1 < s.size := by omega
    clear h hz hzn
    go_enter Tryd.func9, Tryd.ntmps9
    go_wp2
    go_ret2
    exact ⟨0, rfl, by decide, by decide, rfl, Below.refl _ _⟩

/-- A digit's letter. -/
def isD (z : Int) : Prop := 48 ≤ z ∧ z ≤ 57
/-- The letters of a text that ends with %, by place. -/
structure Lets (s : ByteArray) (A B : List Int) (d : Bool) : Prop where
  size : s.size = if d then A.length + B.length + 2 else A.length + 1
  ahead : ∀ i, i < A.length → (nums s).getD i 0 = A.getD i 0 ∧ A.getD i 0 ≠ 46
  point : d = true → (nums s).getD A.length 0 = 46
  behind : ∀ i, i < B.length → (nums s).getD (A.length + 1 + i) 0 = B.getD i 0
  last : (nums s).getD (s.size - 1) 0 = 37
  nil : d = false → B = []
theorem Ends.lets {s : ByteArray} {ys A B : List Int} {d : Bool} (h : Ends s ys A B d) : Lets s A B d := by
  obtain ⟨h1, h2, h3, h4⟩ := h
  have hl := ends_len h1
  subst h2
  refine ⟨?_, fun i hi => ⟨?_, ?_⟩, fun hd => ?_, fun i hi => ?_, ends_last h1, h4⟩
  · rw [hl]; cases d <;> simp <;> omega
  · rw [h1, List.append_assoc, List.getD_eq_getElem?_getD, List.getElem?_append_left hi, ← List.getD_eq_getElem?_getD]
  · intro e
    apply h3
    rw [← e]; exact getD_mem hi
  · subst hd
    rw [h1, List.append_assoc, List.getD_eq_getElem?_getD, List.getElem?_append_right (Nat.le_refl _)]
    simp
  · cases d with
    | false => rw [h4 rfl] at hi; simp at hi
    | true =>
      rw [h1, List.append_assoc, List.getD_eq_getElem?_getD, List.getElem?_append_right (by omega), show A.length + 1 + i - A.length = i + 1 by omega]
      simp only [if_true, List.cons_append, List.getElem?_cons_succ]
      rw [List.getElem?_append_left hi, ← List.getD_eq_getElem?_getD]
/-- Where the point is, as far as it is known. -/
def dotI (a n k : Nat) : Int := if k ≤ a then (n : Int) - 1 else a
/-- All letters so far are digits, but for the point. -/
def DigTo (s : ByteArray) (a k : Nat) : Prop := ∀ i, i < k → i ≠ a → isD ((nums s).getD i 0)
theorem DigTo.zero (s : ByteArray) (a : Nat) : DigTo s a 0 := fun i h => by omega
theorem DigTo.next {s : ByteArray} {a k : Nat} (h : DigTo s a k) (hk : isD ((nums s).getD k 0)) : DigTo s a (k + 1) := fun i hi hn => by
  by_cases e : i = k
  · subst e; exact hk
  · exact h i (by omega) hn
theorem DigTo.skip {s : ByteArray} {a k : Nat} (h : DigTo s a k) (hk : k = a) : DigTo s a (k + 1) := fun i hi hn => h i (by omega) hn
/-- A letter that is no digit makes it no print. -/
theorem Lets.bad {s : ByteArray} {A B : List Int} {d : Bool} (h : Lets s A B d) {k : Nat} (hk : k < s.size - 1) (hn : k ≠ A.length) (hz : ¬ isD ((nums s).getD k 0)) : ¬ Written A B d := by
  intro g
  have hs := h.size
  by_cases h1 : k < A.length
  · rw [(h.ahead k h1).1] at hz
    exact hz (g.dg.all k h1)
  · cases d with
    | false => simp at hs; omega
    | true =>
      simp at hs
      have h2 := h.behind (k - A.length - 1) (by omega)
      rw [show A.length + 1 + (k - A.length - 1) = k by omega] at h2
      rw [h2] at hz
      exact hz ((g.fr rfl).all _ (by omega))
theorem Lets.good {s : ByteArray} {A B : List Int} {d : Bool} (h : Lets s A B d) (hd : DigTo s A.length (s.size - 1)) (h0 : 1 ≤ A.length) (h1 : (nums s).getD 0 0 = 48 → A.length = 1)
    (h2 : d = true → 1 ≤ B.length ∧ B.length ≤ 4 ∧ (nums s).getD (s.size - 2) 0 ≠ 48) : Written A B d := by
  have hs := h.size
  refine ⟨⟨fun e => by rw [e] at h0; simp at h0, fun e => h1 (by rw [(h.ahead 0 (by omega)).1]; exact e), fun i hi => ?_⟩, fun e => ?_⟩
  · rw [← (h.ahead i hi).1]
    exact hd i (by split at hs <;> omega) (by omega)
  · obtain ⟨a1, a2, a3⟩ := h2 e
    subst e
    simp at hs
    refine ⟨a1, a2, fun i hi => ?_, ?_⟩
    · rw [← h.behind i hi]
      exact hd _ (by omega) (by omega)
    · rw [← h.behind _ (by omega), show A.length + 1 + (B.length - 1) = s.size - 2 by omega]
      exact a3
/-- What the tests behind the first loop say of a print. -/
theorem Lets.tests {s : ByteArray} {A B : List Int} {d : Bool} (h : Lets s A B d) (g : Written A B d) : 1 ≤ A.length ∧ ((nums s).getD 0 0 = 48 → A.length = 1) ∧ (d = true → 1 ≤ B.length ∧ B.length ≤ 4 ∧ (nums s).getD (s.size - 2) 0 ≠ 48) := by
  have hs := h.size
  have h0 : 1 ≤ A.length := by
    have := g.dg.some
    cases A with
    | nil => exact (this rfl).elim
    | cons x l => simp
  refine ⟨h0, fun e => g.dg.head (by rw [← (h.ahead 0 (by omega)).1]; exact e), fun e => ?_⟩
  have f := g.fr e
  subst e
  simp at hs
  refine ⟨f.some, f.few, ?_⟩
  have h1 := f.some
  rw [show s.size - 2 = A.length + 1 + (B.length - 1) by omega, h.behind _ (by omega)]
  exact f.last

/-- The parts of a text of percents, digit by digit. -/
def vv (A B : List Int) : Nat → Nat
  | 0 => numOf A
  | k + 1 => 10 * vv A B k + dB B k
theorem vv_four (A B : List Int) : vv A B 4 = parts A B := by
  unfold parts
  rw [pv_four]
  simp only [vv]
  omega
theorem numOf_lt {A : List Int} (h : ∀ i, i < A.length → 48 ≤ A.getD i 0 ∧ A.getD i 0 ≤ 57) (k : Nat) (hk : k ≤ A.length) : numOf (A.take k) < 10 ^ k := by
  induction k with
  | zero => simp [numOf_nil]
  | succ k ih =>
    have := ih (by omega)
    have h1 := h k (by omega)
    rw [numOf_step A k (by omega), Nat.pow_succ]; omega
theorem vv_lt {A B : List Int} (h : ∀ i, i < A.length → 48 ≤ A.getD i 0 ∧ A.getD i 0 ≤ 57) (hB : ∀ i, i < B.length → 48 ≤ B.getD i 0 ∧ B.getD i 0 ≤ 57) (ha : A.length ≤ 3) (k : Nat) : vv A B k < 10 ^ (3 + k) := by
  induction k with
  | zero =>
    have h1 := numOf_lt h A.length (Nat.le_refl _)
    rw [List.take_length] at h1
    have h2 : 10 ^ A.length ≤ 10 ^ 3 := Nat.pow_le_pow_right (by decide) ha
    simp only [vv, Nat.add_zero]; omega
  | succ k ih =>
    have := dB_le hB k
    rw [vv, ← Nat.add_assoc, Nat.pow_succ]; omega
theorem Written.wide {A B : List Int} {d : Bool} (g : Written A B d) (h : 3 < A.length) : 1000000 < parts A B := by
  have h1 := g.dg.all 0 (by omega)
  have h2 : 49 ≤ A.getD 0 0 := by
    have : ¬ A.getD 0 0 = 48 := fun e => by have := g.dg.head e; omega
    omega
  have h3 : 10 ^ 3 ≤ numOf (A.take 4) := numOf_pow A h2 3 (by omega)
  have h4 := numOf_take A 4 (by omega)
  unfold parts; omega
theorem Written.digB {A B : List Int} {d : Bool} (g : Written A B d) (h : d = false → B = []) : ∀ i, i < B.length → 48 ≤ B.getD i 0 ∧ B.getD i 0 ≤ 57 := by
  intro i hi
  cases d with
  | false => rw [h rfl] at hi; simp at hi
  | true => exact (g.fr rfl).all i hi

/-- What the document's Read hands back, for a text that ends with %. -/
def GivesRd (A B : List Int) (d : Bool) (w : World) (e : Ending) (w' : World) : Prop := ∃ (N : Nat) (c x : Int), e = .returned (.tuple #[.int .u32 x, .int .i64 c]) ∧ x = (N : Int) ∧
  ((¬ Written A B d ∧ N = 0 ∧ c = 5) ∨ (Written A B d ∧ 1000000 < parts A B ∧ N = 0 ∧ c = 8) ∨ (Written A B d ∧ parts A B ≤ 1000000 ∧ N = parts A B ∧ c = 0)) ∧ w = w'
theorem GivesRd.no {A B : List Int} {d : Bool} {w : World} (h : ¬ Written A B d) : GivesRd A B d w (.returned (.tuple #[.int .u32 0, .int .i64 5])) w := ⟨0, 5, 0, rfl, rfl, Or.inl ⟨h, rfl, rfl⟩, rfl⟩
theorem GivesRd.big {A B : List Int} {d : Bool} {w : World} (h : Written A B d) (hp : 1000000 < parts A B) : GivesRd A B d w (.returned (.tuple #[.int .u32 0, .int .i64 8])) w := ⟨0, 8, 0, rfl, rfl, Or.inr (Or.inl ⟨h, hp, rfl, rfl⟩), rfl⟩
theorem GivesRd.fine {A B : List Int} {d : Bool} {w : World} {x : Int} (h : Written A B d) (hp : parts A B ≤ 1000000) (hx : x = (parts A B : Int)) : GivesRd A B d w (.returned (.tuple #[.int .u32 x, .int .i64 0])) w := ⟨_, 0, x, rfl, hx, Or.inr (Or.inr ⟨h, hp, rfl, rfl⟩), rfl⟩

end Go.Proofs.YtfdpiiahclglcaaDoor
