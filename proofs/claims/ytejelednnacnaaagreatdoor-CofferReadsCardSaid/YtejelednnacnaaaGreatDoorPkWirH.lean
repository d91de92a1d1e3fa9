/-
  Package wire's number: how many bytes a size has, and they, the highest first: walked.
-/
import Derived.Test.YtejelednnacnaaaGreatDoorPkBase
import Derived.Test.YtejelednnacnaaaGreatDoorPkShelf
import Derived.Lib.BitFns
import Derived.WalkSpells
import Derived.WalkLawsBesides
import Derived.Lib.Hide
namespace Go.Proofs.YtejelednnacnaaaGreatDoor
open Go.RowKit

/-- How many bytes: by the bits. -/
theorem digs_bits (n : Nat) (hn : n < 18446744073709551616) : (digs n).length = (Lib.bitLen n + 7) / 8 := by
  induction n using Nat.strongRecOn with
  | _ n ih =>
    by_cases h0 : n = 0
    · subst h0; rw [digs_zero]; rfl
    · rw [digs_pos h0, List.length_append, List.length_singleton]
      by_cases h : n < 256
      · have h1 := Lib.bitLen_half n h0 (by omega)
        have h2 := Lib.bitLen_le8 ⟨n, h⟩
        simp only at h2
        rw [show n / 256 = 0 by omega, digs_zero, List.length_nil]
        omega
      · rw [ih (n / 256) (by omega) (by omega), Lib.bitLen_shift8 n (by omega) hn]
        omega
/-- One byte more. -/
theorem digs_next (n j : Nat) (h : j < (digs n).length) : digs (n / 256 ^ j) = digs (n / 256 ^ (j + 1)) ++ [((n / 256 ^ j % 256 : Nat) : Int)] := by
  have h0 : n / 256 ^ j ≠ 0 := by
    intro e
    have hp : 0 < 256 ^ j := Nat.pow_pos (by decide)
    have h1 : n < 256 ^ j := by
      by_cases hc : n < 256 ^ j
      · exact hc
      · have := Nat.div_pos (Nat.le_of_not_lt hc) hp; omega
    have := digs_len n j h1
    omega
  rw [digs_pos h0, Nat.pow_succ, ← Nat.div_div_eq_div_mul]
theorem digs_none (n : Nat) : digs (n / 256 ^ (digs n).length) = [] := by
  have h : n < 256 ^ (digs n).length := by
    have := valB_lt (digs n) (digs_byte n) (digs n).length (Nat.le_refl _)
    rwa [List.take_length, valB_digs] at this
  rw [Nat.div_eq_of_lt h, digs_zero]

end Go.Proofs.YtejelednnacnaaaGreatDoor
