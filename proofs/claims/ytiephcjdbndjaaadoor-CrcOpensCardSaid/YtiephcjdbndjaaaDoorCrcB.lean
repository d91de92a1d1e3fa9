/-
  What opening bytes comes to, as package crc looks at it: plain lists of bytes.
-/
import Derived.Test.YtiephcjdbndjaaaDoorCrcF
namespace Go.Proofs.YtiephcjdbndjaaaDoor
open Go.RowKit

theorem fourN_four (n : Nat) (h : n < 4294967296) : fourN ((n / 16777216 % 256 : Nat) : Int) ((n / 65536 % 256 : Nat) : Int) ((n / 256 % 256 : Nat) : Int) ((n % 256 : Nat) : Int) = n := by
  unfold fourN; omega
theorem four_fourN {a b c d : Int} (ha : 0 ≤ a ∧ a ≤ 255) (hb : 0 ≤ b ∧ b ≤ 255) (hc : 0 ≤ c ∧ c ≤ 255) (hd : 0 ≤ d ∧ d ≤ 255) : fourL (fourN a b c d) = [a, b, c, d] := by
  unfold fourL fourN
  simp only [List.cons.injEq, and_true]
  refine ⟨?_, ?_, ?_, ?_⟩ <;> omega
/-- Nine bytes, and what is left. -/
theorem nine {B : List Int} (h : 10 ≤ B.length) : ∃ b0 b1 b2 b3 b4 b5 b6 b7 b8 R, B = b0 :: b1 :: b2 :: b3 :: b4 :: b5 :: b6 :: b7 :: b8 :: R ∧ 1 ≤ R.length := by
  match B, h with
  | b0 :: b1 :: b2 :: b3 :: b4 :: b5 :: b6 :: b7 :: b8 :: R, h => exact ⟨b0, b1, b2, b3, b4, b5, b6, b7, b8, R, rfl, by simp only [List.length_cons] at h; omega⟩
/-- What opening bytes comes to, as the program looks at it. -/
theorem open_if {B : List Int} (hb : ∀ z ∈ B, 0 ≤ z ∧ z ≤ 255) (h10 : 10 ≤ B.length) (n : Nat) (hs : saidN B = n) (hn : n + 10 ≤ B.length) (h0 : B.getD 0 0 = 245) (h9 : B.getD (9 + n) 0 = 95) :
    openL B = if sumL ((B.drop 9).take n) = highN ((B.drop 5).take 4) then some ((B.drop 9).take n) else none := by
  obtain ⟨b0, b1, b2, b3, b4, b5, b6, b7, b8, R, rfl, hR⟩ := nine h10
  obtain rfl : b0 = 245 := h0
  have e5 : ((245 :: b1 :: b2 :: b3 :: b4 :: b5 :: b6 :: b7 :: b8 :: R).drop 5).take 4 = [b5, b6, b7, b8] := rfl
  have e9 : ((245 :: b1 :: b2 :: b3 :: b4 :: b5 :: b6 :: b7 :: b8 :: R).drop 9) = R := rfl
  have y : ∀ k, k ∈ [b1, b2, b3, b4, b5, b6, b7, b8] → 0 ≤ k ∧ k ≤ 255 := fun k hk => hb k (by simp at hk ⊢; omega)
  have y1 := y b1 (by simp)
  have y2 := y b2 (by simp)
  have y3 := y b3 (by simp)
  have y4 := y b4 (by simp)
  have y5 := y b5 (by simp)
  have y6 := y b6 (by simp)
  have y7 := y b7 (by simp)
  have y8 := y b8 (by simp)
  rw [e5, e9, highN_four _ _ _ _ y5.1 y6.1 y7.1 y8.1]
  have hs2 : fourN b1 b2 b3 b4 = n := hs
  have hlR : n + 1 ≤ R.length := by simp only [List.length_cons] at hn; omega
  have hR9 : R.getD n 0 = 95 := by rw [Nat.add_comm] at h9; simpa using h9
  have hX : (R.take n).length = n := by rw [List.length_take]; omega
  have htake : (245 :: b1 :: b2 :: b3 :: b4 :: b5 :: b6 :: b7 :: b8 :: R).take (n + 10) = 245 :: b1 :: b2 :: b3 :: b4 :: b5 :: b6 :: b7 :: b8 :: (R.take n ++ [95]) := by
    have : R.take (n + 1) = R.take n ++ [95] := by rw [take_snocI (by omega), hR9]
    rw [← this]
    rfl
  have hfr : frameL (R.take n) = [245] ++ ([b1, b2, b3, b4] ++ (fourL (sumL (R.take n)) ++ (R.take n ++ [95]))) := by
    unfold frameL
    rw [hX, ← hs2, four_fourN y1 y2 y3 y4]
  unfold openL
  rw [hs, e9, htake]
  by_cases hsum : sumL (R.take n) = fourN b5 b6 b7 b8
  · have h3 : frameL (R.take n) = 245 :: b1 :: b2 :: b3 :: b4 :: b5 :: b6 :: b7 :: b8 :: (R.take n ++ [95]) := by
      rw [hfr, hsum, four_fourN y5 y6 y7 y8]; rfl
    exact (if_pos ⟨h10, hn, h3⟩).trans (if_pos hsum).symm
  · refine (if_neg ?_).trans (if_neg hsum).symm
    rintro ⟨_, _, h3⟩
    rw [hfr] at h3
    apply hsum
    have h4 : fourL (sumL (R.take n)) = [b5, b6, b7, b8] := by
      have := congrArg (fun l => (l.drop 5).take 4) h3
      simpa [fourL] using this
    have h5 := fourN_four (sumL (R.take n)) (sumL_lt _)
    unfold fourL at h4
    simp only [List.cons.injEq, and_true] at h4
    rw [h4.1, h4.2.1, h4.2.2.1, h4.2.2.2] at h5
    exact h5.symm
theorem said_high {B : List Int} (hb : ∀ z ∈ B, 0 ≤ z ∧ z ≤ 255) (h10 : 10 ≤ B.length) : highN ((B.drop 1).take 4) = saidN B := by
  obtain ⟨b0, b1, b2, b3, b4, b5, b6, b7, b8, R, rfl, hR⟩ := nine h10
  have y : ∀ k, k ∈ [b1, b2, b3, b4] → 0 ≤ k := fun k hk => (hb k (by simp at hk ⊢; omega)).1
  exact highN_four _ _ _ _ (y _ (by simp)) (y _ (by simp)) (y _ (by simp)) (y _ (by simp))

end Go.Proofs.YtiephcjdbndjaaaDoor
