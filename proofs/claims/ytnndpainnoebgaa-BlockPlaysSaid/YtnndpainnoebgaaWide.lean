/-
  Numbers of 128 bits in two halves; sums and what is beyond: plain arithmetic. No program in sight.
-/
import Derived.Test.YtnndpainnoebgaaBits
namespace Go.Proofs.Ytnndpainnoebgaa

/-- The two halves are the number. -/
structure IsW (h l : Int) (N : Nat) : Prop where
  h0 : 0 ≤ h
  h1 : h ≤ 18446744073709551615
  l0 : 0 ≤ l
  l1 : l ≤ 18446744073709551615
  n : h * 18446744073709551616 + l = (N : Int)

theorem IsW.num {h l : Int} {N : Nat} (w : IsW h l N) : wide h.toNat l.toNat = N := by
  obtain ⟨a, b, c, d, e⟩ := w; unfold Go.Proofs.Ytnndpainnoebgaa.wide; omega
theorem IsW.lt {h l : Int} {N : Nat} (w : IsW h l N) : W128 N := by
  obtain ⟨a, b, c, d, e⟩ := w; unfold W128; omega
theorem IsW.unique {h l h' l' : Int} {N : Nat} (w : IsW h l N) (w' : IsW h' l' N) : h = h' ∧ l = l' := by
  obtain ⟨a, b, c, d, e⟩ := w; obtain ⟨a', b', c', d', e'⟩ := w'; omega
theorem IsW.zero : IsW 0 0 0 := ⟨by decide, by decide, by decide, by decide, rfl⟩
theorem IsW.one : IsW 0 1 1 := ⟨by decide, by decide, by decide, by decide, rfl⟩
theorem IsW.of {h l : Int} (h0 : 0 ≤ h) (h1 : h ≤ 18446744073709551615) (l0 : 0 ≤ l) (l1 : l ≤ 18446744073709551615) : IsW h l (wide h.toNat l.toNat) :=
  ⟨h0, h1, l0, l1, by unfold Go.Proofs.Ytnndpainnoebgaa.wide; omega⟩
theorem IsW.small {l : Int} (l0 : 0 ≤ l) (l1 : l ≤ 18446744073709551615) : IsW 0 l l.toNat := ⟨by decide, by decide, l0, l1, by omega⟩

/-- The number, if there is room for it; else none. -/
def capN (n : Nat) : Nat := if n < 340282366920938463463374607431768211456 then n else 0
/-- Its code: there is room, or it is beyond. -/
def capC (n : Nat) : Int := if n < 340282366920938463463374607431768211456 then 0 else 3
theorem capN_in {n : Nat} (h : W128 n) : capN n = n := if_pos h
theorem capC_in {n : Nat} (h : W128 n) : capC n = 0 := if_pos h
theorem capN_out {n : Nat} (h : ¬ W128 n) : capN n = 0 := if_neg h
theorem capC_out {n : Nat} (h : ¬ W128 n) : capC n = 3 := if_neg h

/-- Both, by halves. -/
theorem add_in {ah al bh bl : Int} {A B : Nat} (ha : IsW ah al A) (hb : IsW bh bl B) (h : (ah + bh + (al + bl) / 18446744073709551616) / 18446744073709551616 = 0) :
    W128 (A + B) ∧ IsW ((ah + bh + (al + bl) / 18446744073709551616) % 18446744073709551616) ((al + bl) % 18446744073709551616) (A + B) := by
  obtain ⟨a, b, c, d, e⟩ := ha; obtain ⟨a', b', c', d', e'⟩ := hb
  exact ⟨by unfold W128; omega, ⟨by omega, by omega, by omega, by omega, by omega⟩⟩
theorem add_out {ah al bh bl : Int} {A B : Nat} (ha : IsW ah al A) (hb : IsW bh bl B) (h : ¬ (ah + bh + (al + bl) / 18446744073709551616) / 18446744073709551616 = 0) : ¬ W128 (A + B) := by
  obtain ⟨a, b, c, d, e⟩ := ha; obtain ⟨a', b', c', d', e'⟩ := hb
  unfold W128; omega

/-- One bit more, in the low half or the high one. -/
theorem two_pow_cast (k : Nat) : ((2 : Int) ^ k) = ((2 ^ k : Nat) : Int) := by simp
theorem of_low {h l : Int} {x : List Bool} {k : Nat} (w : IsW h l (lo x k)) (hk : k < 64) (hb : x.getD k false = true) : IsW h (l + 2 ^ k) (lo x (k + 1)) := by
  obtain ⟨a, b, c, d, e⟩ := w
  have h1 := lo_lt x k
  have e1 : bitN x k = 1 := by unfold bitN; rw [hb]; rfl
  have h2 : 2 ^ k ≤ 2 ^ 63 := Nat.pow_le_pow_right (by decide) (by omega)
  have h3 := lo_succ x k
  rw [e1] at h3
  rw [two_pow_cast]
  exact ⟨a, b, by omega, by omega, by omega⟩
theorem of_high {h l : Int} {x : List Bool} {k : Nat} (w : IsW h l (lo x k)) (hk : 64 ≤ k) (hk' : k < 128) (hb : x.getD k false = true) : IsW (h + 2 ^ (k - 64)) l (lo x (k + 1)) := by
  obtain ⟨a, b, c, d, e⟩ := w
  have h1 := lo_lt x k
  have e1 : bitN x k = 1 := by unfold bitN; rw [hb]; rfl
  have h2 : 2 ^ (k - 64) ≤ 2 ^ 63 := Nat.pow_le_pow_right (by decide) (by omega)
  have h3 := lo_succ x k
  have h4 : 2 ^ k = 18446744073709551616 * 2 ^ (k - 64) := by
    rw [show (18446744073709551616 : Nat) = 2 ^ 64 from rfl, ← Nat.pow_add, show 64 + (k - 64) = k by omega]
  rw [e1] at h3
  rw [two_pow_cast]
  exact ⟨by omega, by omega, c, d, by omega⟩
theorem of_none {h l : Int} {x : List Bool} {k : Nat} (w : IsW h l (lo x k)) (hb : x.getD k false = false) : IsW h l (lo x (k + 1)) := by
  have e1 : bitN x k = 0 := by unfold bitN; rw [hb]; rfl
  rw [lo_succ, e1]; simpa using w
theorem of_beyond {x : List Bool} {k : Nat} (hk : 128 ≤ k) (hb : x.getD k false = true) : ¬ W128 (val x) := by
  have e1 : bitN x k = 1 := by unfold bitN; rw [hb]; rfl
  have h1 := val_split x k
  have h2 := hi_step x k
  have h3 : 2 ^ 128 ≤ 2 ^ k := Nat.pow_le_pow_right (by decide) hk
  have h4 : 2 ^ k * 1 ≤ 2 ^ k * hi x k := Nat.mul_le_mul_left _ (by omega)
  unfold W128; omega

end Go.Proofs.Ytnndpainnoebgaa
