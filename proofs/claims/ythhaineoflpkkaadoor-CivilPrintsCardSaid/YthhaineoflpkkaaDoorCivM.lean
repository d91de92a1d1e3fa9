/-
  Periods one behind the other: plain arithmetic. No program in sight.
-/
import Derived.Test.YthhaineoflpkkaaDoorCivP
namespace Go.Proofs.YthhaineoflpkkaaDoor

/-- The tick behind a year's first months. -/
def endI (y : Int) (k : Nat) : Int := 86400 * (dby (y - 1970).toNat + dbm y k)
theorem tick_first (y m : Int) : tickI y m 1 = endI y (m - 1).toNat := by unfold tickI dayI endI; omega
theorem tick_in (y m d : Int) : tickI y m d = tickI y m 1 + 86400 * (d - 1) := by unfold tickI dayI; omega
theorem end_mono (y : Int) {k j : Nat} (h : k ≤ j) : endI y k ≤ endI y j := by
  have := dbm_mono y k (j - k)
  rw [show k + (j - k) = j by omega] at this
  unfold endI; omega
theorem end_step (y m : Int) (m0 : 1 ≤ m) : endI y (m - 1).toNat + 86400 * daysI y m = endI y m.toNat := by
  have e : m.toNat = (m - 1).toNat + 1 := by omega
  rw [e]
  unfold endI
  rw [dbm, show 1 + (((m - 1).toNat : Nat) : Int) = m by omega]
  omega
theorem month_ends (y m : Int) (m0 : 1 ≤ m) : tickI y (qmI 1 m) 1 = endI y (m - 1).toNat ∧ tickI y (qmI 1 m) 1 + 86400 * dsum y (qmI 1 m) 1 = endI y m.toNat := by
  have e : qmI 1 m = m := by unfold qmI; omega
  rw [e, tick_first]
  refine ⟨rfl, ?_⟩
  rw [← end_step y m m0]
  simp [dsum]
theorem quarter_ends (y m : Int) (m0 : 1 ≤ m) (m1 : m ≤ 12) : ∃ k : Nat, (k : Int) ≤ m - 1 ∧ m ≤ (k : Int) + 3 ∧ k ≤ 9 ∧ tickI y (qmI 3 m) 1 = endI y k ∧ tickI y (qmI 3 m) 1 + 86400 * dsum y (qmI 3 m) 3 = endI y (k + 3) := by
  obtain ⟨q, hq⟩ : ∃ q, qmI 3 m = q := ⟨_, rfl⟩
  have hq2 := hq
  unfold qmI at hq2
  have q0 : 1 ≤ q := by omega
  refine ⟨(q - 1).toNat, by omega, by omega, by omega, by rw [hq, tick_first], ?_⟩
  rw [hq, tick_first]
  have e1 := end_step y q q0
  have e2 := end_step y (q + 1) (by omega)
  have e3 := end_step y (q + 2) (by omega)
  rw [show (q + 1 - 1).toNat = q.toNat by omega] at e2
  rw [show (q + 2 - 1).toNat = (q + 1).toNat by omega] at e3
  rw [show (q - 1).toNat + 3 = (q + 2).toNat by omega]
  simp only [dsum]
  rw [show q + ((0 : Nat) : Int) = q by omega, show q + ((1 : Nat) : Int) = q + 1 by omega, show q + ((2 : Nat) : Int) = q + 2 by omega]
  omega
theorem end_year (y : Int) (y0 : 1970 ≤ y) : endI y 12 = endI (y + 1) 0 := by
  unfold endI
  rw [dbm_year, show (y + 1 - 1970).toNat = (y - 1970).toNat + 1 by omega, dby, show 1970 + (((y - 1970).toNat : Nat) : Int) = y by omega]
  have : dbm (y + 1) 0 = 0 := rfl
  omega
theorem end_all (y : Int) (_y0 : 1970 ≤ y) (y1 : y ≤ 9999) {k : Nat} (hk : k ≤ 12) : endI y k ≤ 253402300800 := by
  have h1 := end_mono y hk
  rw [end_year y _y0] at h1
  have h2 := dby_mono (y + 1 - 1970).toNat (8030 - (y + 1 - 1970).toNat)
  rw [show (y + 1 - 1970).toNat + (8030 - (y + 1 - 1970).toNat) = 8030 by omega, dby_all] at h2
  have e : endI (y + 1) 0 = 86400 * dby (y + 1 - 1970).toNat := by
    unfold endI
    have : dbm (y + 1) 0 = 0 := rfl
    omega
  omega
/-- What the two periods of a tick are, and what comes behind. -/
structure Periods (t a b c d : Int) : Prop where
  at0 : a ≤ t
  tb : t < b
  ca : c ≤ a
  bd : b ≤ d
  a0 : 0 ≤ a
  c0 : 0 ≤ c
  d9 : d ≤ 253402300800
  next : b ≤ 253402300799 → ∃ y m, RightD y m 1 ∧ tickI y m 1 = b / 86400 * 86400 ∧ tickI y m 1 = b
theorem periods_of {t y m d a b : Int} (hD : RightD y m d) (ht : tickI y m d = t / 86400 * 86400) (_t0 : 0 ≤ t) (ha : tickI y (qmI 1 m) 1 = a) (hb : tickI y (qmI 1 m) 1 + 86400 * dsum y (qmI 1 m) 1 = b)
    {c e : Int} (hc : tickI y (qmI 3 m) 1 = c) (he : tickI y (qmI 3 m) 1 + 86400 * dsum y (qmI 3 m) 3 = e) : Periods t a b c e := by
  obtain ⟨y0, y1, m0, m1, d0, d1⟩ := hD
  obtain ⟨h1, h2⟩ := month_ends y m m0
  obtain ⟨k, k0, k1, k2, h3, h4⟩ := quarter_ends y m m0 m1
  have h5 := tick_in y m d
  rw [tick_first] at h5
  have h6 := end_step y m m0
  have h7 := end_mono y (show k ≤ (m - 1).toNat by omega)
  have h8 := end_mono y (show m.toNat ≤ k + 3 by omega)
  have h9 := end_all y y0 y1 (show k + 3 ≤ 12 by omega)
  have h10 := end_mono y (Nat.zero_le k)
  have h11 : 0 ≤ endI y 0 := by
    unfold endI
    have e1 : dbm y 0 = 0 := rfl
    have := (dby_bd (y - 1970).toNat).1
    omega
  refine ⟨by omega, by omega, by omega, by omega, by omega, by omega, by omega, fun hn => ?_⟩
  have hb2 : b = endI y m.toNat := by omega
  have hmul : b / 86400 * 86400 = b := by
    rw [hb2]; unfold endI; omega
  by_cases h12 : m = 12
  · subst h12
    have e1 : endI y (12 : Int).toNat = endI (y + 1) 0 := end_year y y0
    have hy : y + 1 ≤ 9999 := by
      refine Classical.byContradiction fun hc => ?_
      have e4 : (y + 1 - 1970).toNat = 8030 := by omega
      have e2 : endI (y + 1) 0 = 86400 * (dby 8030 + dbm (y + 1) 0) := by unfold endI; rw [e4]
      have e3 : dbm (y + 1) 0 = 0 := rfl
      rw [e3, dby_all] at e2
      omega
    refine ⟨y + 1, 1, ⟨by omega, hy, by decide, by decide, by decide, by have := daysI_in (y + 1) (m := 1) (by decide) (by decide); omega⟩, ?_, ?_⟩
    · rw [hmul, tick_first, hb2, e1]; rfl
    · rw [tick_first, hb2, e1]; rfl
  · have hr : RightD y (m + 1) 1 := ⟨y0, y1, by omega, by omega, by decide, by have := daysI_in y (m := m + 1) (by omega) (by omega); omega⟩
    have e : tickI y (m + 1) 1 = b := by rw [tick_first, hb2, show (m + 1 - 1).toNat = m.toNat by omega]
    exact ⟨y, m + 1, hr, by rw [hmul, e], e⟩

end Go.Proofs.YthhaineoflpkkaaDoor
