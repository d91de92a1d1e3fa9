/-
  The plain arithmetic of one number of 128 bits divided by one of 64 bits, two digits of 32 bits one behind the other. No program in sight.
-/
namespace Go.Proofs.YtfdpiiahclglcaaDoor

/-- What holds at the head of a search for a digit: the digit is not too small; what is left by it is exact. -/
structure DigAt (u u1 v1 v0 Q q r : Int) : Prop where
  hu : q * v1 + r = u
  hq : Q ≤ q
  hr0 : 0 ≤ r
  hr : r < 4294967296

theorem dig_exit {u u1 v1 v0 Q q r : Int} (h : DigAt u u1 v1 v0 Q q r) (hv : 0 < v1 * 4294967296 + v0)
    (hQ : u * 4294967296 + u1 < (Q + 1) * (v1 * 4294967296 + v0)) (hle : q * v0 ≤ 4294967296 * r + u1) : q = Q := by
  obtain ⟨h1, hq, _, _⟩ := h
  have e : q * (v1 * 4294967296 + v0) ≤ u * 4294967296 + u1 := by
    subst h1; grind
  have : ¬ Q + 1 ≤ q := fun hc => by
    have := Int.mul_le_mul_of_nonneg_right hc (Int.le_of_lt hv)
    omega
  omega

/-- The digit is tried too great: one less isn't too small. -/
theorem dig_less {u u1 v1 v0 Q q r : Int} (h : DigAt u u1 v1 v0 Q q r) (hv : 0 < v1 * 4294967296 + v0) (h0 : 0 ≤ u1) (h1 : u1 < 4294967296)
    (hQ : Q * (v1 * 4294967296 + v0) ≤ u * 4294967296 + u1) (hu : u < v1 * 4294967296 + v0)
    (hc : 4294967296 ≤ q ∨ 4294967296 * r + u1 < q * v0) : Q ≤ q - 1 := by
  obtain ⟨e1, hq, _, _⟩ := h
  have hlt : Q < q := by
    rcases hc with hc | hc
    · have : ¬ 4294967296 ≤ Q := fun hb => by
        have := Int.mul_le_mul_of_nonneg_right hb (Int.le_of_lt hv)
        omega
      omega
    · have e : u * 4294967296 + u1 < q * (v1 * 4294967296 + v0) := by
        subst e1; grind
      have : ¬ q ≤ Q := fun hb => by
        have := Int.mul_le_mul_of_nonneg_right hb (Int.le_of_lt hv)
        omega
      omega
  omega

theorem dig_next {u u1 v1 v0 Q q r : Int} (h : DigAt u u1 v1 v0 Q q r) (hv1 : 0 ≤ v1) (hQ : Q ≤ q - 1) (hb : r + v1 < 4294967296) : DigAt u u1 v1 v0 Q (q - 1) (r + v1) := by
  obtain ⟨e1, _, h2, _⟩ := h
  exact ⟨by grind, hQ, by omega, hb⟩

/-- What is left is beyond 32 bits: the digit is found. -/
theorem dig_break {u u1 v1 v0 Q q r : Int} (h : DigAt u u1 v1 v0 Q q r) (hv1 : 0 < v1) (hv0 : 0 ≤ v0) (hv0' : v0 < 4294967296) (h0 : 0 ≤ u1)
    (hQ : Q ≤ q - 1) (hQ0 : 0 ≤ Q) (hQ' : u * 4294967296 + u1 < (Q + 1) * (v1 * 4294967296 + v0)) (hu : u < v1 * 4294967296 + v0) (hb : 4294967296 ≤ r + v1) : q - 1 = Q := by
  obtain ⟨e1, _, h2, _⟩ := h
  have e2 : (q - 1) * v1 + (r + v1) = u := by grind
  have hlt : q - 1 < 4294967296 := by
    have : ¬ 4294967296 ≤ q - 1 := fun hc => by
      have := Int.mul_le_mul_of_nonneg_right hc (Int.le_of_lt hv1)
      omega
    omega
  have hm : (q - 1) * v0 ≤ 4294967296 * (r + v1) + u1 := by
    have a1 : (q - 1) * v0 ≤ (q - 1) * 4294967296 := Int.mul_le_mul_of_nonneg_left (by omega) (by omega)
    omega
  have e : (q - 1) * (v1 * 4294967296 + v0) ≤ u * 4294967296 + u1 := by
    rw [← e2]; grind
  have : ¬ Q + 1 ≤ q - 1 := fun hc => by
    have := Int.mul_le_mul_of_nonneg_right hc (by omega : 0 ≤ v1 * 4294967296 + v0)
    omega
  omega

/-- The first try. -/
theorem dig_first (u u1 v1 v0 : Int) (hv1 : 0 < v1) (hv1' : v1 < 4294967296) (hv0 : 0 ≤ v0) (hu0 : 0 ≤ u) (h0 : 0 ≤ u1) (h1 : u1 < 4294967296) :
    DigAt u u1 v1 v0 ((u * 4294967296 + u1) / (v1 * 4294967296 + v0)) (u / v1) (u - u / v1 * v1) := by
  have e := Int.emod_add_mul_ediv u v1
  have l := Int.emod_nonneg u (by omega : v1 ≠ 0)
  have g := Int.emod_lt_of_pos u hv1
  have e' : u / v1 * v1 = v1 * (u / v1) := Int.mul_comm _ _
  refine ⟨by omega, ?_, by omega, by omega⟩
  have hpos : 0 < v1 * 4294967296 + v0 := by omega
  have hlt : (u * 4294967296 + u1) / (v1 * 4294967296 + v0) < u / v1 + 1 := by
    refine (Int.ediv_lt_iff_lt_mul hpos).mpr ?_
    have hq0 : 0 ≤ u / v1 := Int.ediv_nonneg hu0 (by omega)
    have h2 : 0 ≤ (u / v1 + 1) * v0 := Int.mul_nonneg (by omega) hv0
    have h3 : (u / v1 + 1) * (v1 * 4294967296 + v0) = (v1 * (u / v1) + v1) * 4294967296 + (u / v1 + 1) * v0 := by grind
    omega
  omega

/-- The facts of a quotient. -/
theorem quo_facts (a b : Int) (hb : 0 < b) : a / b * b ≤ a ∧ a < (a / b + 1) * b := by
  have e := Int.emod_add_mul_ediv a b
  have l := Int.emod_nonneg a (by omega : b ≠ 0)
  have g := Int.emod_lt_of_pos a hb
  have e' : a / b * b = b * (a / b) := Int.mul_comm _ _
  have e2 : (a / b + 1) * b = b * (a / b) + b := by grind
  omega

theorem quo_small (u u1 v : Int) (hv : 0 < v) (hu : u < v) (h1 : u1 < 4294967296) : (u * 4294967296 + u1) / v < 4294967296 :=
  (Int.ediv_lt_iff_lt_mul hv).mpr (by omega)

/-- Both digits are the quotient, and what is left is what is left. -/
theorem two_digits (u u1 u0 v : Int) (hv : 0 < v) :
    let q1 := (u * 4294967296 + u1) / v
    let r1 := u * 4294967296 + u1 - q1 * v
    let q0 := (r1 * 4294967296 + u0) / v
    q1 * 4294967296 + q0 = (u * 18446744073709551616 + u1 * 4294967296 + u0) / v ∧ r1 * 4294967296 + u0 - q0 * v = (u * 18446744073709551616 + u1 * 4294967296 + u0) % v := by
  intro q1 r1 q0
  have hN : u * 18446744073709551616 + u1 * 4294967296 + u0 = (r1 * 4294967296 + u0) + (q1 * 4294967296) * v := by
    show _ = (u * 4294967296 + u1 - q1 * v) * 4294967296 + u0 + (q1 * 4294967296) * v
    grind
  have e1 : (u * 18446744073709551616 + u1 * 4294967296 + u0) / v = q0 + q1 * 4294967296 := by
    rw [hN, Int.add_mul_ediv_right _ _ (by omega)]
  refine ⟨by omega, ?_⟩
  rw [Int.emod_def, e1, hN]
  grind

end Go.Proofs.YtfdpiiahclglcaaDoor
