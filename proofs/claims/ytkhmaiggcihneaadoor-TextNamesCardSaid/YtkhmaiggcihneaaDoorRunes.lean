/-
  Runes of a text, by its bytes: what each begins, how wide it is, and all of them: plain arithmetic; and what the model's decoding has to do with it.
-/
import Derived.Test.YtkhmaiggcihneaaDoorRead
import Derived.Laws.RangeAny
namespace Go.Proofs.YtkhmaiggcihneaaDoor

/-- How many bytes follow a first one; what it holds; the least rune of that form. -/
def clsN (b : Int) : Nat := if 192 ≤ b ∧ b < 224 then 1 else if 224 ≤ b ∧ b < 240 then 2 else if 240 ≤ b ∧ b < 248 then 3 else 0
def clsB (b : Int) : Int := if 192 ≤ b ∧ b < 224 then b - 192 else if 224 ≤ b ∧ b < 240 then b - 224 else if 240 ≤ b ∧ b < 248 then b - 240 else b
def clsL (b : Int) : Int := if 192 ≤ b ∧ b < 224 then 128 else if 224 ≤ b ∧ b < 240 then 2048 else if 240 ≤ b ∧ b < 248 then 65536 else 0
/-- A byte that follows. -/
def contB (zs : List Int) (j : Nat) : Bool := decide (j < zs.length) && decide (128 ≤ zs.getD j 0) && decide (zs.getD j 0 ≤ 191)
def allB (zs : List Int) (i : Nat) : Nat → Bool
  | 0 => true
  | k + 1 => allB zs i k && contB zs (i + (k + 1))
/-- The number, put together. -/
def cAt (zs : List Int) (i : Nat) : Nat → Int
  | 0 => clsB (zs.getD i 0)
  | k + 1 => 64 * cAt zs i k + zs.getD (i + (k + 1)) 0 - 128
/-- A rune of more than one byte begins here. -/
def wholeB (zs : List Int) (i : Nat) : Bool :=
  decide (0 < clsN (zs.getD i 0)) && allB zs i (clsN (zs.getD i 0)) && decide (clsL (zs.getD i 0) ≤ cAt zs i (clsN (zs.getD i 0))) && decide (cAt zs i (clsN (zs.getD i 0)) ≤ 1114111) && !(decide (55296 ≤ cAt zs i (clsN (zs.getD i 0))) && decide (cAt zs i (clsN (zs.getD i 0)) < 57344))
/-- The rune (-1: a bad byte), and its width. -/
def runeA (zs : List Int) (i : Nat) : Int := if zs.getD i 0 < 128 then zs.getD i 0 else if wholeB zs i = true then cAt zs i (clsN (zs.getD i 0)) else -1
def widA (zs : List Int) (i : Nat) : Nat := if zs.getD i 0 < 128 then 1 else if wholeB zs i = true then clsN (zs.getD i 0) + 1 else 1
theorem widA_pos (zs : List Int) (i : Nat) : 1 ≤ widA zs i := by
  unfold widA
  split
  · exact Nat.le_refl _
  · split <;> omega
/-- All runes, from a place on. -/
def rfrom (zs : List Int) (i : Nat) : List Int := if i < zs.length then runeA zs i :: rfrom zs (i + widA zs i) else []
termination_by zs.length - i
decreasing_by have := widA_pos zs i; omega
theorem rfrom_in {zs : List Int} {i : Nat} (h : i < zs.length) : rfrom zs i = runeA zs i :: rfrom zs (i + widA zs i) := by rw [rfrom, if_pos h]
theorem rfrom_out {zs : List Int} {i : Nat} (h : ¬ i < zs.length) : rfrom zs i = [] := by rw [rfrom, if_neg h]
/-- All of a text's. -/
def runesOf (zs : List Int) : List Int := rfrom zs 0

theorem clsN_le (b : Int) : clsN b ≤ 3 := by unfold clsN; repeat' split
                                             all_goals omega
theorem contB_iff {zs : List Int} {j : Nat} : contB zs j = true ↔ j < zs.length ∧ 128 ≤ zs.getD j 0 ∧ zs.getD j 0 ≤ 191 := by
  unfold contB; simp [and_assoc]
theorem allB_in {zs : List Int} {i k : Nat} (h : allB zs i k = true) {j : Nat} (h1 : 1 ≤ j) (h2 : j ≤ k) : contB zs (i + j) = true := by
  induction k with
  | zero => omega
  | succ k ih =>
    simp only [allB, Bool.and_eq_true] at h
    by_cases e : j = k + 1
    · subst e; exact h.2
    · exact ih h.1 (by omega)
theorem allB_less {zs : List Int} {i k : Nat} (h : allB zs i k = false) {n : Nat} (hn : k ≤ n) : allB zs i n = false := by
  induction n with
  | zero => obtain rfl : k = 0 := by omega
            exact h
  | succ n ih =>
    by_cases e : k = n + 1
    · subst e; exact h
    · simp only [allB, ih (by omega), Bool.false_and]
theorem wholeB_end {zs : List Int} {i : Nat} (h : wholeB zs i = true) : i + clsN (zs.getD i 0) < zs.length := by
  unfold wholeB at h
  simp only [Bool.and_eq_true, decide_eq_true_eq] at h
  have := allB_in h.1.1.1.2 (j := clsN (zs.getD i 0)) (by omega) (Nat.le_refl _)
  exact (contB_iff.mp this).1
theorem widA_in {zs : List Int} {i : Nat} (h : i < zs.length) : i + widA zs i ≤ zs.length := by
  unfold widA
  split
  · omega
  · split
    · rename_i hw; have := wholeB_end hw; omega
    · omega
theorem runeA_le (zs : List Int) (i : Nat) (h0 : 0 ≤ zs.getD i 0) : -1 ≤ runeA zs i ∧ runeA zs i ≤ 1114111 := by
  unfold runeA
  split
  · omega
  · split
    · rename_i hw
      unfold wholeB at hw
      simp only [Bool.and_eq_true, decide_eq_true_eq] at hw
      have h1 := hw.1.2
      have h2 := hw.1.1.2
      have h3 : 0 ≤ clsL (zs.getD i 0) := by unfold clsL; repeat' split
                                             all_goals omega
      omega
    · omega
/-- A byte that is none of a rune's. -/
theorem runeA_bad {zs : List Int} {i : Nat} (h1 : ¬ zs.getD i 0 < 128) (h2 : wholeB zs i = false) : runeA zs i = -1 ∧ widA zs i = 1 := by
  unfold runeA widA
  rw [if_neg h1, if_neg h1, h2]
  exact ⟨rfl, rfl⟩
theorem runeA_good {zs : List Int} {i : Nat} (h1 : ¬ zs.getD i 0 < 128) (h2 : wholeB zs i = true) : runeA zs i = cAt zs i (clsN (zs.getD i 0)) ∧ widA zs i = clsN (zs.getD i 0) + 1 := by
  unfold runeA widA
  rw [if_neg h1, if_neg h1, if_pos h2, if_pos h2]
  exact ⟨rfl, rfl⟩
theorem runeA_low {zs : List Int} {i : Nat} (h1 : zs.getD i 0 < 128) : runeA zs i = zs.getD i 0 ∧ widA zs i = 1 := by
  unfold runeA widA
  rw [if_pos h1, if_pos h1]
  exact ⟨rfl, rfl⟩

theorem nums_get (s : ByteArray) (k : Nat) : (((s.get! k).toNat : Nat) : Int) = (nums s).getD k 0 := by
  by_cases h : k < s.size
  · rw [nums_at s k h]
    congr 2
    simp [ByteArray.get!, h]
    rfl
  · rw [List.getD_eq_getElem?_getD, List.getElem?_eq_none (by rw [nums_length]; omega)]
    have : s.get! k = 0 := by
      simp [ByteArray.get!, h]
      rfl
    rw [this]; rfl
theorem cont_get (s : ByteArray) (k : Nat) : (decide (k < s.size) && (s.get! k).toNat / 64 == 2) = contB (nums s) k := by
  have hg := nums_get s k
  obtain ⟨a, ha⟩ : ∃ a, (s.get! k).toNat = a := ⟨_, rfl⟩
  rw [ha] at hg ⊢
  unfold contB
  rw [nums_length, ← hg]
  by_cases hk : k < s.size
  · have e : (a / 64 == 2) = (decide ((128 : Int) ≤ a) && decide ((a : Int) ≤ 191)) := by
      rw [Bool.eq_iff_iff]
      simp only [beq_iff_eq, Bool.and_eq_true, decide_eq_true_eq]
      omega
    rw [e, Bool.and_assoc]
  · simp [hk]
/-- What the model's decoding tells, in these words. -/
theorem decode_rune (s : ByteArray) (pos : Nat) (_h : pos < s.size) :
    (runeA (nums s) pos = -1 ∧ widA (nums s) pos = 1 ∧ Utf8.decode s pos = (65533, 1)) ∨ (0 ≤ runeA (nums s) pos ∧ Utf8.decode s pos = ((runeA (nums s) pos).toNat, widA (nums s) pos)) := by
  have g0 := nums_get s pos
  have g1 := nums_get s (pos + 1)
  have g2 := nums_get s (pos + 2)
  have g3 := nums_get s (pos + 3)
  have c1 := cont_get s (pos + 1)
  have c2 := cont_get s (pos + 2)
  have c3 := cont_get s (pos + 3)
  obtain ⟨a0, e0⟩ : ∃ a, (s.get! pos).toNat = a := ⟨_, rfl⟩
  obtain ⟨a1, e1⟩ : ∃ a, (s.get! (pos + 1)).toNat = a := ⟨_, rfl⟩
  obtain ⟨a2, e2⟩ : ∃ a, (s.get! (pos + 2)).toNat = a := ⟨_, rfl⟩
  obtain ⟨a3, e3⟩ : ∃ a, (s.get! (pos + 3)).toNat = a := ⟨_, rfl⟩
  have b0 : a0 < 256 := by rw [← e0]; exact (s.get! pos).toNat_lt
  have b1 : a1 < 256 := by rw [← e1]; exact (s.get! (pos + 1)).toNat_lt
  have b2 : a2 < 256 := by rw [← e2]; exact (s.get! (pos + 2)).toNat_lt
  have b3 : a3 < 256 := by rw [← e3]; exact (s.get! (pos + 3)).toNat_lt
  rw [e0] at g0
  rw [e1] at g1 c1
  rw [e2] at g2 c2
  rw [e3] at g3 c3
  simp only [Utf8.decode, Nat.add_zero, e0, e1, e2, e3, c1, c2, c3]
  generalize hzs : nums s = zs at *
  by_cases k0 : a0 < 128
  · rw [if_pos k0]
    obtain ⟨r1, r2⟩ := runeA_low (zs := zs) (i := pos) (by omega)
    rw [r1, r2, ← g0]
    exact Or.inr ⟨by omega, by simp⟩
  rw [if_neg k0]
  have kk : ¬ zs.getD pos 0 < 128 := by omega
  have q1 : allB zs pos 1 = contB zs (pos + 1) := by simp [allB]
  have q2 : allB zs pos 2 = (contB zs (pos + 1) && contB zs (pos + 2)) := by simp [allB]
  have q3 : allB zs pos 3 = (contB zs (pos + 1) && contB zs (pos + 2) && contB zs (pos + 3)) := by simp [allB]
  have none : wholeB zs pos = false → (runeA zs pos = -1 ∧ widA zs pos = 1 ∧ (Utf8.runeError, 1) = (65533, 1)) := fun h => ⟨(runeA_bad kk h).1, (runeA_bad kk h).2, rfl⟩
  have some : ∀ n c, wholeB zs pos = true → clsN (zs.getD pos 0) = n → cAt zs pos n = ((c : Nat) : Int) → (0 ≤ runeA zs pos ∧ ((c, n + 1) : Nat × Nat) = ((runeA zs pos).toNat, widA zs pos)) := fun n c h hn hc => by
    obtain ⟨h1, h2⟩ := runeA_good kk h
    rw [h1, h2, hn, hc]
    exact ⟨by omega, by simp⟩
  by_cases k2 : 192 ≤ a0 ∧ a0 < 224
  · have n1 : clsN (zs.getD pos 0) = 1 := by unfold clsN; rw [if_pos (by omega)]
    have l1 : clsL (zs.getD pos 0) = 128 := by unfold clsL; rw [if_pos (by omega)]
    have v1 : cAt zs pos 1 = ((a0 : Int) - 192) * 64 + a1 - 128 := by simp only [cAt, clsB]; rw [if_pos (by omega), ← g0, ← g1]; omega
    have t1 : (a0 / 32 == 6) = true := by simp; omega
    have t2 : (a0 / 16 == 14) = false := by simp; omega
    have t3 : (a0 / 8 == 30) = false := by simp; omega
    rw [t1, t2, t3]
    simp only [Bool.true_and, Bool.false_and, Bool.false_eq_true, if_false]
    cases hc1 : contB zs (pos + 1) with
    | false =>
      left
      simp only [Bool.false_eq_true, if_false]
      exact none (by unfold wholeB; rw [n1, q1, hc1]; rfl)
    | true =>
      have := contB_iff.mp hc1
      simp only [if_true]
      by_cases hv : a0 % 32 * 64 + a1 % 64 ≥ 128
      · rw [if_pos hv]
        right
        exact some 1 _ (by unfold wholeB; rw [n1, q1, hc1, l1, v1]; simp; omega) n1 (by rw [v1]; omega)
      · rw [if_neg hv]
        left
        exact none (by unfold wholeB; rw [n1, q1, hc1, l1, v1]; simp; omega)
  by_cases k3 : 224 ≤ a0 ∧ a0 < 240
  · have n1 : clsN (zs.getD pos 0) = 2 := by unfold clsN; rw [if_neg (by omega), if_pos (by omega)]
    have l1 : clsL (zs.getD pos 0) = 2048 := by unfold clsL; rw [if_neg (by omega), if_pos (by omega)]
    have v1 : cAt zs pos 2 = 64 * (((a0 : Int) - 224) * 64 + a1 - 128) + a2 - 128 := by simp only [cAt, clsB]; rw [if_neg (by omega), if_pos (by omega), ← g0, ← g1, ← g2]; omega
    have t1 : (a0 / 32 == 6) = false := by simp; omega
    have t2 : (a0 / 16 == 14) = true := by simp; omega
    have t3 : (a0 / 8 == 30) = false := by simp; omega
    rw [t1, t2, t3]
    simp only [Bool.true_and, Bool.false_and, Bool.false_eq_true, if_false]
    cases hc : (contB zs (pos + 1) && contB zs (pos + 2)) with
    | false =>
      left
      simp only [Bool.false_eq_true, if_false]
      exact none (by unfold wholeB; rw [n1, q2, hc]; rfl)
    | true =>
      have hcc := hc
      rw [Bool.and_eq_true, contB_iff, contB_iff] at hcc
      simp only [if_true]
      obtain ⟨c, hcv⟩ : ∃ c, a0 % 16 * 4096 + a1 % 64 * 64 + a2 % 64 = c := ⟨_, rfl⟩
      rw [hcv]
      have hcx : (c : Int) = cAt zs pos 2 := by rw [v1]; omega
      by_cases hv : (decide (c ≥ 2048) && Utf8.valid (c : Int)) = true
      · rw [if_pos hv]
        right
        refine some 2 _ ?_ n1 hcx.symm
        unfold wholeB Utf8.valid at *
        rw [n1, q2, hc, l1, ← hcx]
        simp at hv ⊢; omega
      · rw [if_neg hv]
        left
        refine none ?_
        unfold wholeB Utf8.valid at *
        rw [n1, q2, hc, l1, ← hcx]
        simp at hv ⊢; omega
  by_cases k4 : 240 ≤ a0 ∧ a0 < 248
  · have n1 : clsN (zs.getD pos 0) = 3 := by unfold clsN; rw [if_neg (by omega), if_neg (by omega), if_pos (by omega)]
    have l1 : clsL (zs.getD pos 0) = 65536 := by unfold clsL; rw [if_neg (by omega), if_neg (by omega), if_pos (by omega)]
    have v1 : cAt zs pos 3 = 64 * (64 * (((a0 : Int) - 240) * 64 + a1 - 128) + a2 - 128) + a3 - 128 := by simp only [cAt, clsB]; rw [if_neg (by omega), if_neg (by omega), if_pos (by omega), ← g0, ← g1, ← g2, ← g3]; omega
    have t1 : (a0 / 32 == 6) = false := by simp; omega
    have t2 : (a0 / 16 == 14) = false := by simp; omega
    have t3 : (a0 / 8 == 30) = true := by simp; omega
    rw [t1, t2, t3]
    simp only [Bool.true_and, Bool.false_and, Bool.false_eq_true, if_false]
    cases hc : (contB zs (pos + 1) && contB zs (pos + 2) && contB zs (pos + 3)) with
    | false =>
      left
      simp only [Bool.false_eq_true, if_false]
      exact none (by unfold wholeB; rw [n1, q3, hc]; rfl)
    | true =>
      have hcc := hc
      rw [Bool.and_eq_true, Bool.and_eq_true, contB_iff, contB_iff, contB_iff] at hcc
      simp only [if_true]
      obtain ⟨c, hcv⟩ : ∃ c, a0 % 8 * 262144 + a1 % 64 * 4096 + a2 % 64 * 64 + a3 % 64 = c := ⟨_, rfl⟩
      rw [hcv]
      have hcx : (c : Int) = cAt zs pos 3 := by rw [v1]; omega
      by_cases hv : (decide (c ≥ 65536) && Utf8.valid (c : Int)) = true
      · rw [if_pos hv]
        right
        refine some 3 _ ?_ n1 hcx.symm
        unfold wholeB Utf8.valid at *
        rw [n1, q3, hc, l1, ← hcx]
        simp at hv ⊢; omega
      · rw [if_neg hv]
        left
        refine none ?_
        unfold wholeB Utf8.valid at *
        rw [n1, q3, hc, l1, ← hcx]
        simp at hv ⊢; omega
  · have n1 : clsN (zs.getD pos 0) = 0 := by unfold clsN; rw [if_neg (by omega), if_neg (by omega), if_neg (by omega)]
    have t1 : (a0 / 32 == 6) = false := by simp; omega
    have t2 : (a0 / 16 == 14) = false := by simp; omega
    have t3 : (a0 / 8 == 30) = false := by simp; omega
    rw [t1, t2, t3]
    simp only [Bool.false_and, Bool.false_eq_true, if_false]
    left
    exact none (by unfold wholeB; rw [n1]; rfl)

end Go.Proofs.YtkhmaiggcihneaaDoor
