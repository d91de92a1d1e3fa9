/-
  The calendar by whole years at once: how many years of 366 days lie ahead of one, and a first guess at a day's year: plain arithmetic. No program in sight.
-/
import Derived.Test.YthhaineoflpkkaaDoorCivM
namespace Go.Proofs.YthhaineoflpkkaaDoor

/-- How many years up to one, from 1 on, have 366 days. -/
def lps (z : Int) : Int := z / 4 - z / 100 + z / 400
theorem yearI_lps (y : Int) : yearI y = 365 + (lps y - lps (y - 1)) := by
  unfold yearI leapB lps
  by_cases h400 : y % 400 = 0
  · rw [decide_eq_true h400]; simp; omega
  · rw [decide_eq_false h400]
    by_cases h4 : y % 4 = 0
    · rw [decide_eq_true h4]
      by_cases h100 : y % 100 = 0
      · rw [decide_eq_true h100]; simp; omega
      · rw [decide_eq_false h100]; simp; omega
    · rw [decide_eq_false h4]; simp; omega
theorem dby_lps (k : Nat) : dby k = 365 * (k : Int) + lps (1969 + (k : Int)) - 477 := by
  induction k with
  | zero => decide
  | succ k ih =>
    rw [dby, ih, yearI_lps, show 1970 + (k : Int) - 1 = 1969 + (k : Int) by omega, show 1969 + ((k + 1 : Nat) : Int) = 1970 + (k : Int) by omega]
    omega
/-- A day's year is one that begins no later: at the first guess, and behind each step. -/
theorem guess_le (n : Int) (_n0 : 0 ≤ n) (k : Nat) (hk : n * 400 / 146097 = (k : Int)) : k = 0 ∨ dby (k - 1) ≤ n := by
  by_cases h : k = 0
  · exact Or.inl h
  · right
    rw [dby_lps]
    unfold lps
    omega
theorem dbm_end (y : Int) (k j : Nat) (h : k ≤ j) : dbm y k ≤ dbm y j := by
  have := dbm_mono y k (j - k)
  rw [show k + (j - k) = j by omega] at this
  exact this

end Go.Proofs.YthhaineoflpkkaaDoor
