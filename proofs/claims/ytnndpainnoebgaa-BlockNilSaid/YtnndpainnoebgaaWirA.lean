/-
  Numbers as bytes: the digits of a number by 256, the highest first, and the number of a list of bytes: plain arithmetic. No program in sight.
-/
namespace Go.Proofs.Ytnndpainnoebgaa

/-- A number's bytes, the highest first; none of 0. -/
def digs (n : Nat) : List Int := if n = 0 then [] else digs (n / 256) ++ [((n % 256 : Nat) : Int)]
termination_by n
decreasing_by omega
theorem digs_zero : digs 0 = [] := by rw [digs, if_pos rfl]
theorem digs_pos {n : Nat} (h : n ≠ 0) : digs n = digs (n / 256) ++ [((n % 256 : Nat) : Int)] := by rw [digs, if_neg h]
/-- The number of bytes. -/
def valB (zs : List Int) : Nat := zs.foldl (fun a z => 256 * a + z.toNat) 0
theorem valB_nil : valB [] = 0 := rfl
theorem valB_snoc (zs : List Int) (z : Int) : valB (zs ++ [z]) = 256 * valB zs + z.toNat := by simp [valB]
theorem valB_step (zs : List Int) (k : Nat) (h : k < zs.length) : valB (zs.take (k + 1)) = 256 * valB (zs.take k) + (zs.getD k 0).toNat := by
  rw [List.take_succ_eq_append_getElem h, valB_snoc, List.getD_eq_getElem?_getD, List.getElem?_eq_getElem h]; rfl
theorem digs_byte (n : Nat) : ∀ z ∈ digs n, 0 ≤ z ∧ z ≤ 255 := by
  induction n using Nat.strongRecOn with
  | _ n ih =>
    by_cases h : n = 0
    · subst h; rw [digs_zero]; intro z hz; cases hz
    · rw [digs_pos h]
      intro z hz
      rcases List.mem_append.mp hz with hz | hz
      · exact ih (n / 256) (by omega) z hz
      · rw [List.mem_singleton.mp hz]; omega
theorem digs_len (n k : Nat) (h : n < 256 ^ k) : (digs n).length ≤ k := by
  induction k generalizing n with
  | zero => obtain rfl : n = 0 := by simpa using h
            rw [digs_zero]; exact Nat.le_refl _
  | succ k ih =>
    by_cases h0 : n = 0
    · subst h0; rw [digs_zero]; exact Nat.zero_le _
    · rw [digs_pos h0, List.length_append, List.length_singleton]
      have := ih (n / 256) (by rw [Nat.pow_succ] at h; omega)
      omega
theorem digs_len8 {n : Nat} (h : n ≤ 18446744073709551615) : (digs n).length ≤ 8 := digs_len n 8 (by omega)
theorem digs_some {n : Nat} (h : n ≠ 0) : 1 ≤ (digs n).length := by rw [digs_pos h, List.length_append, List.length_singleton]; omega
theorem digs_head (n : Nat) (h : n ≠ 0) : 1 ≤ (digs n).getD 0 0 := by
  induction n using Nat.strongRecOn with
  | _ n ih =>
    by_cases h2 : n / 256 = 0
    · rw [digs_pos h, h2, digs_zero]; simp; omega
    · have h3 := ih (n / 256) (by omega) h2
      have h4 := digs_some h2
      rw [digs_pos h, List.getD_eq_getElem?_getD, List.getElem?_append_left (by omega), ← List.getD_eq_getElem?_getD]
      exact h3
theorem valB_digs (n : Nat) : valB (digs n) = n := by
  induction n using Nat.strongRecOn with
  | _ n ih =>
    by_cases h : n = 0
    · subst h; rw [digs_zero]; rfl
    · rw [digs_pos h, valB_snoc, ih (n / 256) (by omega)]; omega
theorem valB_lt (zs : List Int) (hb : ∀ z ∈ zs, 0 ≤ z ∧ z ≤ 255) : ∀ k, k ≤ zs.length → valB (zs.take k) < 256 ^ k := by
  intro k
  induction k with
  | zero => intro _; rw [List.take_zero]; decide
  | succ k ih =>
    intro hk
    have h1 := ih (by omega)
    have h2 : zs.getD k 0 ≤ 255 := (hb _ (by rw [List.getD_eq_getElem?_getD, List.getElem?_eq_getElem (by omega)]; exact List.getElem_mem _)).2
    rw [valB_step zs k (by omega), Nat.pow_succ]
    omega
/-- What is read is written. -/
theorem digs_back (zs : List Int) (hb : ∀ z ∈ zs, 0 ≤ z ∧ z ≤ 255) (hh : 1 ≤ zs.length → 1 ≤ zs.getD 0 0) : ∀ k, k ≤ zs.length → digs (valB (zs.take k)) = zs.take k := by
  intro k
  induction k with
  | zero => intro _; rw [List.take_zero, valB_nil, digs_zero]
  | succ k ih =>
    intro hk
    have h2 := hb (zs.getD k 0) (by rw [List.getD_eq_getElem?_getD, List.getElem?_eq_getElem (by omega)]; exact List.getElem_mem _)
    have hz : valB (zs.take (k + 1)) ≠ 0 := by
      rw [valB_step zs k (by omega)]
      by_cases hk0 : k = 0
      · subst hk0
        have := hh (by omega)
        omega
      · intro hc
        have h0 : valB (zs.take k) = 0 := by omega
        have hi := ih (by omega)
        rw [h0, digs_zero] at hi
        have := congrArg List.length hi
        rw [List.length_take, List.length_nil] at this
        omega
    rw [digs_pos hz, valB_step zs k (by omega), show (256 * valB (zs.take k) + (zs.getD k 0).toNat) / 256 = valB (zs.take k) by omega, ih (by omega), show ((((256 * valB (zs.take k) + (zs.getD k 0).toNat) % 256 : Nat)) : Int) = zs.getD k 0 by omega,
      List.take_succ_eq_append_getElem (by omega), List.getD_eq_getElem?_getD, List.getElem?_eq_getElem (by omega)]
    rfl
/-- A number as it is written: how many bytes, and they. -/
def numB (n : Nat) : List Int := ((digs n).length : Int) :: digs n
theorem numB_len {n : Nat} (h : n ≤ 18446744073709551615) : 1 ≤ (numB n).length ∧ (numB n).length ≤ 9 := by
  have := digs_len8 h
  unfold numB
  rw [List.length_cons]; omega
theorem numB_byte {n : Nat} (h : n ≤ 18446744073709551615) : ∀ z ∈ numB n, 0 ≤ z ∧ z ≤ 255 := by
  have := digs_len8 h
  intro z hz
  rcases List.mem_cons.mp hz with rfl | hz
  · omega
  · exact digs_byte n z hz
/-- A whole number as it is written. -/
def intB (i : Int) : List Int := if 0 ≤ i then numB i.toNat else (((digs (-i).toNat).length : Int) + 16) :: digs (-i).toNat

end Go.Proofs.Ytnndpainnoebgaa
