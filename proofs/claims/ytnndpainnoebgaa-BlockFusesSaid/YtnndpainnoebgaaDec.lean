/-
  A number's decimal digits, as bytes: plain arithmetic. No program in sight.
-/
import Derived.Test.YtnndpainnoebgaaWide
namespace Go.Proofs.Ytnndpainnoebgaa

/-- The digits, as bytes. -/
def dec (n : Nat) : List Int := if n < 10 then [48 + (n : Int)] else dec (n / 10) ++ [48 + ((n % 10 : Nat) : Int)]
termination_by n
decreasing_by omega

theorem dec_small {n : Nat} (h : n < 10) : dec n = [48 + (n : Int)] := by rw [dec, if_pos h]
theorem dec_big {n : Nat} (h : ¬ n < 10) : dec n = dec (n / 10) ++ [48 + ((n % 10 : Nat) : Int)] := by rw [dec, if_neg h]
theorem dec_pos (n : Nat) : 1 ≤ (dec n).length := by
  rw [dec]; split <;> simp
theorem dec_byte (n : Nat) : ∀ x ∈ dec n, 48 ≤ x ∧ x ≤ 57 := by
  induction n using Nat.strongRecOn with
  | _ n ih =>
    intro x hx
    by_cases h : n < 10
    · rw [dec_small h] at hx
      simp at hx; omega
    · rw [dec_big h] at hx
      rcases List.mem_append.mp hx with hx | hx
      · exact ih (n / 10) (by omega) x hx
      · simp at hx; omega

/-- What holds at the head of a round: what is left to print, and what is printed. -/
structure PrintAt (A a : Nat) (xs : List Int) : Prop where
  all : dec A = dec a ++ xs
  some : xs = [] ∨ 1 ≤ a
  le : a * 10 ^ xs.length ≤ A
theorem PrintAt.start (A : Nat) : PrintAt A A [] := ⟨by simp, Or.inl rfl, by simp⟩
theorem PrintAt.next {A a : Nat} {xs : List Int} (h : PrintAt A a xs) (ha : ¬ a < 10) : PrintAt A (a / 10) ((48 + ((a % 10 : Nat) : Int)) :: xs) := by
  obtain ⟨h1, h2, h3⟩ := h
  refine ⟨by rw [h1, dec_big ha]; simp, Or.inr (by omega), ?_⟩
  have : a / 10 * 10 ^ (xs.length + 1) = (a / 10 * 10) * 10 ^ xs.length := by rw [Nat.pow_succ]; grind
  have h4 : (a / 10 * 10) * 10 ^ xs.length ≤ a * 10 ^ xs.length := Nat.mul_le_mul_right _ (by omega)
  simp only [List.length_cons]; omega
theorem PrintAt.last {A a : Nat} {xs : List Int} (h : PrintAt A a xs) (ha : a < 10) : dec A = (48 + ((a % 10 : Nat) : Int)) :: xs := by
  rw [h.all, dec_small ha, Nat.mod_eq_of_lt ha]; rfl
/-- There is room for one digit more. -/
theorem PrintAt.room {A a : Nat} {xs : List Int} (h : PrintAt A a xs) (hA : W128 A) : xs.length < 39 := by
  obtain ⟨h1, h2, h3⟩ := h
  rcases h2 with rfl | h2
  · simp
  · have : ¬ 39 ≤ xs.length := fun hc => by
      have h4 : 10 ^ 39 ≤ 10 ^ xs.length := Nat.pow_le_pow_right (by decide) hc
      have h5 : 1 * 10 ^ xs.length ≤ a * 10 ^ xs.length := Nat.mul_le_mul_right _ h2
      unfold W128 at hA
      omega
    omega

end Go.Proofs.Ytnndpainnoebgaa
