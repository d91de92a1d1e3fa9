/-
  The calendar: leap years, days of months, days ahead of a year and of a month, a date's first tick: plain arithmetic. No program in sight.
-/
namespace Go.Proofs.YthhaineoflpkkaaDoor

/-- A year of 366 days? -/
def leapB (y : Int) : Bool := decide (y % 400 = 0) || (decide (y % 4 = 0) && !decide (y % 100 = 0))
def yearI (y : Int) : Int := if leapB y then 366 else 365
def monI (m : Int) : Int := if m = 1 then 31 else if m = 2 then 28 else if m = 3 then 31 else if m = 4 then 30 else if m = 5 then 31 else if m = 6 then 30 else if m = 7 then 31 else if m = 8 then 31 else if m = 9 then 30 else if m = 10 then 31 else if m = 11 then 30 else if m = 12 then 31 else 0
def daysI (y m : Int) : Int := if m = 2 ∧ leapB y = true then 29 else monI m
structure RightD (y m d : Int) : Prop where
  y0 : 1970 ≤ y
  y1 : y ≤ 9999
  m0 : 1 ≤ m
  m1 : m ≤ 12
  d0 : 1 ≤ d
  d1 : d ≤ daysI y m
theorem yearI_bd (y : Int) : 365 ≤ yearI y ∧ yearI y ≤ 366 := by unfold yearI; split <;> omega
theorem monI_bd (m : Int) : 0 ≤ monI m ∧ monI m ≤ 31 := by
  by_cases h : 1 ≤ m ∧ m ≤ 12
  · have : m = 1 ∨ m = 2 ∨ m = 3 ∨ m = 4 ∨ m = 5 ∨ m = 6 ∨ m = 7 ∨ m = 8 ∨ m = 9 ∨ m = 10 ∨ m = 11 ∨ m = 12 := by omega
    rcases this with rfl | rfl | rfl | rfl | rfl | rfl | rfl | rfl | rfl | rfl | rfl | rfl <;> decide
  · unfold monI
    rw [if_neg (by omega), if_neg (by omega), if_neg (by omega), if_neg (by omega), if_neg (by omega), if_neg (by omega), if_neg (by omega), if_neg (by omega), if_neg (by omega), if_neg (by omega), if_neg (by omega), if_neg (by omega)]
    decide
theorem twelve {m : Int} (h0 : 1 ≤ m) (h1 : m ≤ 12) : m = 1 ∨ m = 2 ∨ m = 3 ∨ m = 4 ∨ m = 5 ∨ m = 6 ∨ m = 7 ∨ m = 8 ∨ m = 9 ∨ m = 10 ∨ m = 11 ∨ m = 12 := by omega
theorem monI_in {m : Int} (h0 : 1 ≤ m) (h1 : m ≤ 12) : 28 ≤ monI m := by
  rcases twelve h0 h1 with rfl | rfl | rfl | rfl | rfl | rfl | rfl | rfl | rfl | rfl | rfl | rfl <;> decide
theorem monI_out {m : Int} (h : m < 1 ∨ 12 < m) : monI m = 0 := by
  unfold monI
  rw [if_neg (by omega), if_neg (by omega), if_neg (by omega), if_neg (by omega), if_neg (by omega), if_neg (by omega), if_neg (by omega), if_neg (by omega), if_neg (by omega), if_neg (by omega), if_neg (by omega), if_neg (by omega)]
theorem daysI_bd (y m : Int) : 0 ≤ daysI y m ∧ daysI y m ≤ 31 := by
  unfold daysI
  have := monI_bd m
  split <;> omega
theorem daysI_in (y : Int) {m : Int} (h0 : 1 ≤ m) (h1 : m ≤ 12) : 28 ≤ daysI y m := by
  unfold daysI
  have := monI_in h0 h1
  split <;> omega
theorem daysI_out (y : Int) {m : Int} (h : m < 1 ∨ 12 < m) : daysI y m = 0 := by
  unfold daysI
  rw [if_neg (by omega), monI_out h]

/-- Days ahead of the year 1970 + k; of a month. -/
def dby : Nat → Int
  | 0 => 0
  | k + 1 => dby k + yearI (1970 + k)
def dbm (y : Int) : Nat → Int
  | 0 => 0
  | k + 1 => dbm y k + daysI y (1 + k)
theorem dbm_year (y : Int) : dbm y 12 = yearI y := by
  simp only [dbm, daysI, monI, yearI]
  cases h : leapB y <;> simp
theorem dby_bd (k : Nat) : 365 * (k : Int) ≤ dby k ∧ dby k ≤ 366 * (k : Int) := by
  induction k with
  | zero => simp [dby]
  | succ k ih => have := yearI_bd (1970 + k); simp only [dby]; omega
theorem dbm_mono (y : Int) (k j : Nat) : dbm y k ≤ dbm y (k + j) := by
  induction j with
  | zero => exact Int.le_refl _
  | succ j ih => have := daysI_bd y (1 + ((k + j : Nat) : Int)); rw [← Nat.add_assoc, dbm]; omega
theorem dby_mono (k j : Nat) : dby k ≤ dby (k + j) := by
  induction j with
  | zero => exact Int.le_refl _
  | succ j ih => have := yearI_bd (1970 + ((k + j : Nat) : Int)); rw [← Nat.add_assoc, dby]; omega
theorem dbm_bd (y : Int) (k : Nat) (h : k ≤ 12) : 0 ≤ dbm y k ∧ dbm y k ≤ 366 := by
  have h1 := dbm_mono y 0 k
  have h2 := dbm_mono y k (12 - k)
  have h3 := yearI_bd y
  rw [Nat.zero_add] at h1
  rw [show k + (12 - k) = 12 by omega, dbm_year] at h2
  have h4 : dbm y 0 = 0 := rfl
  omega
/-- The day of a date, from 1970 on; its first tick. -/
def dayI (y m d : Int) : Int := dby (y - 1970).toNat + dbm y (m - 1).toNat + (d - 1)
def tickI (y m d : Int) : Int := 86400 * dayI y m d
theorem dayI_room {y m d : Int} (h : RightD y m d) : dby (y - 1970).toNat ≤ dayI y m d ∧ dayI y m d < dby ((y - 1970).toNat + 1) := by
  obtain ⟨y0, y1, m0, m1, d0, d1⟩ := h
  have h1 := dbm_bd y (m - 1).toNat (by omega)
  have h2 := dbm_mono y ((m - 1).toNat + 1) (12 - ((m - 1).toNat + 1))
  rw [show (m - 1).toNat + 1 + (12 - ((m - 1).toNat + 1)) = 12 by omega, dbm_year, dbm, show 1 + (((m - 1).toNat : Nat) : Int) = m by omega] at h2
  have h3 : dby ((y - 1970).toNat + 1) = dby (y - 1970).toNat + yearI y := by rw [dby, show 1970 + (((y - 1970).toNat : Nat) : Int) = y by omega]
  unfold dayI
  omega
theorem dby_lt {k j : Nat} (h : k < j) : dby (k + 1) ≤ dby j := by
  have := dby_mono (k + 1) (j - (k + 1))
  rw [show k + 1 + (j - (k + 1)) = j by omega] at this
  exact this
theorem dbm_lt (y : Int) {k j : Nat} (h : k < j) : dbm y (k + 1) ≤ dbm y j := by
  have := dbm_mono y (k + 1) (j - (k + 1))
  rw [show k + 1 + (j - (k + 1)) = j by omega] at this
  exact this
/-- Each day has one date. -/
theorem RightD.unique {y m d y' m' d' : Int} (h : RightD y m d) (g : RightD y' m' d') (e : dayI y m d = dayI y' m' d') : y = y' ∧ m = m' ∧ d = d' := by
  have r1 := dayI_room h
  have r2 := dayI_room g
  have hy : y = y' := by
    have n1 : ¬ (y - 1970).toNat < (y' - 1970).toNat := fun c => by have := dby_lt c; omega
    have n2 : ¬ (y' - 1970).toNat < (y - 1970).toNat := fun c => by have := dby_lt c; omega
    have := h.y0; have := g.y0
    omega
  subst hy
  have hm : m = m' := by
    have s1 : dbm y ((m - 1).toNat + 1) = dbm y (m - 1).toNat + daysI y m := by rw [dbm, show 1 + (((m - 1).toNat : Nat) : Int) = m by have := h.m0; omega]
    have s2 : dbm y ((m' - 1).toNat + 1) = dbm y (m' - 1).toNat + daysI y m' := by rw [dbm, show 1 + (((m' - 1).toNat : Nat) : Int) = m' by have := g.m0; omega]
    unfold dayI at e
    have := h.d0; have := h.d1; have := g.d0; have := g.d1; have := h.m0; have := g.m0
    have n1 : ¬ (m - 1).toNat < (m' - 1).toNat := fun c => by have := dbm_lt y c; omega
    have n2 : ¬ (m' - 1).toNat < (m - 1).toNat := fun c => by have := dbm_lt y c; omega
    omega
  subst hm
  unfold dayI at e
  exact ⟨rfl, rfl, by omega⟩
theorem tickI_unique {y m d y' m' d' : Int} (h : RightD y m d) (g : RightD y' m' d') (e : tickI y m d = tickI y' m' d') : y = y' ∧ m = m' ∧ d = d' := h.unique g (by unfold tickI at e; omega)

theorem tmod_zero (y k : Int) : (y.tmod k == 0) = decide (y % k = 0) := by
  have h : y.tmod k = 0 ↔ y % k = 0 := by rw [← Int.dvd_iff_tmod_eq_zero, ← Int.dvd_iff_emod_eq_zero]
  by_cases e : y % k = 0
  · rw [decide_eq_true e]; simpa using h.mpr e
  · rw [decide_eq_false e]
    have : ¬ y.tmod k = 0 := fun c => e (h.mp c)
    simpa using this

end Go.Proofs.YthhaineoflpkkaaDoor
