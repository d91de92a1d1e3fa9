/-
  Runes of texts put together and cut, and that what is quoted is unquoted: plain arithmetic. No program in sight.
-/
import Derived.Test.YtkhmaiggcihneaaDoorTxtU
namespace Go.Proofs.YtkhmaiggcihneaaDoor

/-- A rune that is one. -/
def RuneOk (r : Int) : Prop := 0 ≤ r ∧ r ≤ 1114111 ∧ ¬ (55296 ≤ r ∧ r < 57344)

theorem getD_right (a b : List Int) (i : Nat) : (a ++ b).getD (a.length + i) 0 = b.getD i 0 := by
  simp only [List.getD_eq_getElem?_getD]
  rw [List.getElem?_append_right (by omega)]
  congr 2
  omega
theorem contB_right (a b : List Int) (i : Nat) : contB (a ++ b) (a.length + i) = contB b i := by
  unfold contB
  rw [getD_right, List.length_append]
  congr 2
  simp
theorem allB_right (a b : List Int) (i k : Nat) : allB (a ++ b) (a.length + i) k = allB b i k := by
  induction k with
  | zero => rfl
  | succ k ih => simp only [allB]; rw [ih, Nat.add_assoc, contB_right]
theorem cAt_right (a b : List Int) (i k : Nat) : cAt (a ++ b) (a.length + i) k = cAt b i k := by
  induction k with
  | zero => simp only [cAt]; rw [getD_right]
  | succ k ih => simp only [cAt]; rw [ih, Nat.add_assoc, getD_right]
theorem wholeB_right (a b : List Int) (i : Nat) : wholeB (a ++ b) (a.length + i) = wholeB b i := by
  unfold wholeB
  rw [getD_right, allB_right, cAt_right]
theorem runeA_right (a b : List Int) (i : Nat) : runeA (a ++ b) (a.length + i) = runeA b i := by
  unfold runeA
  rw [getD_right, wholeB_right, cAt_right]
theorem widA_right (a b : List Int) (i : Nat) : widA (a ++ b) (a.length + i) = widA b i := by
  unfold widA
  rw [getD_right, wholeB_right]
theorem rfrom_right (a b : List Int) : ∀ (n i : Nat), b.length - i ≤ n → rfrom (a ++ b) (a.length + i) = rfrom b i := by
  intro n
  induction n with
  | zero => intro i hi; rw [rfrom_out (by rw [List.length_append]; omega), rfrom_out (by omega)]
  | succ n ih =>
    intro i hi
    by_cases h : i < b.length
    · rw [rfrom_in (by rw [List.length_append]; omega), rfrom_in h, runeA_right, widA_right, Nat.add_assoc, ih (i + widA b i) (by have := widA_pos b i; omega)]
    · rw [rfrom_out (by rw [List.length_append]; omega), rfrom_out h]
theorem runes_right (a b : List Int) : rfrom (a ++ b) a.length = runesOf b := rfrom_right a b b.length 0 (by omega)
theorem rfrom_drop {zs : List Int} {i : Nat} (h : i ≤ zs.length) : rfrom zs i = runesOf (zs.drop i) := by
  have := runes_right (zs.take i) (zs.drop i)
  rw [List.take_append_drop, List.length_take, Nat.min_eq_left h] at this
  exact this
theorem runes_nil : runesOf [] = [] := rfrom_out (by simp)
/-- What is encoded is decoded. -/
theorem runes_enc {r : Int} (h : RuneOk r) (ys : List Int) : runesOf (encL r ++ ys) = r :: runesOf ys := by
  obtain ⟨h0, h1, h2⟩ := h
  have key : ∀ a : List Int, 0 < a.length → runeA (a ++ ys) 0 = r → widA (a ++ ys) 0 = a.length → runesOf (a ++ ys) = r :: runesOf ys := fun a ha hr hw => by
    have e := rfrom_in (zs := a ++ ys) (i := 0) (by rw [List.length_append]; omega)
    rw [hr, hw, Nat.zero_add, runes_right] at e
    exact e
  unfold encL
  split
  · rename_i h3
    exact key [r] (by simp) (runeA_low (by simpa using h3)).1 (runeA_low (by simpa using h3)).2
  split
  · rename_i h3 h4
    refine key _ (by simp) ?_ ?_
    all_goals
      have hb : ([192 + r / 64, 128 + r % 64] ++ ys).getD 0 0 = 192 + r / 64 := rfl
      have hc : ([192 + r / 64, 128 + r % 64] ++ ys).getD 1 0 = 128 + r % 64 := rfl
      have hn : clsN (([192 + r / 64, 128 + r % 64] ++ ys).getD 0 0) = 1 := by rw [hb]; unfold clsN; rw [if_pos (by omega)]
      have hv : cAt ([192 + r / 64, 128 + r % 64] ++ ys) 0 1 = r := by simp only [cAt, Nat.zero_add]; rw [hb, hc]; unfold clsB; rw [if_pos (by omega)]; omega
      have hw : wholeB ([192 + r / 64, 128 + r % 64] ++ ys) 0 = true := by
        unfold wholeB
        rw [hn, hv, hb]
        have : allB ([192 + r / 64, 128 + r % 64] ++ ys) 0 1 = true := by simp only [allB, Bool.true_and, Nat.zero_add]; exact contB_iff.mpr ⟨by simp, by rw [hc]; omega, by rw [hc]; omega⟩
        rw [this]; unfold clsL; rw [if_pos (by omega)]; simp; omega
      have := runeA_good (by rw [hb]; omega) hw
      rw [hn, hv] at this
      first | exact this.1 | exact this.2
  split
  · rename_i h3 h4 h5
    refine key _ (by simp) ?_ ?_
    all_goals
      have hb : ([224 + r / 4096, 128 + r / 64 % 64, 128 + r % 64] ++ ys).getD 0 0 = 224 + r / 4096 := rfl
      have hc : ([224 + r / 4096, 128 + r / 64 % 64, 128 + r % 64] ++ ys).getD 1 0 = 128 + r / 64 % 64 := rfl
      have hd : ([224 + r / 4096, 128 + r / 64 % 64, 128 + r % 64] ++ ys).getD 2 0 = 128 + r % 64 := rfl
      have hn : clsN (([224 + r / 4096, 128 + r / 64 % 64, 128 + r % 64] ++ ys).getD 0 0) = 2 := by rw [hb]; unfold clsN; rw [if_neg (by omega), if_pos (by omega)]
      have hv : cAt ([224 + r / 4096, 128 + r / 64 % 64, 128 + r % 64] ++ ys) 0 2 = r := by simp only [cAt, Nat.zero_add]; rw [hb, hc, hd]; unfold clsB; rw [if_neg (by omega), if_pos (by omega)]; omega
      have hw : wholeB ([224 + r / 4096, 128 + r / 64 % 64, 128 + r % 64] ++ ys) 0 = true := by
        unfold wholeB
        rw [hn, hv, hb]
        have : allB ([224 + r / 4096, 128 + r / 64 % 64, 128 + r % 64] ++ ys) 0 2 = true := by
          simp only [allB, Bool.true_and, Nat.zero_add, Bool.and_eq_true]
          exact ⟨contB_iff.mpr ⟨by simp, by rw [hc]; omega, by rw [hc]; omega⟩, contB_iff.mpr ⟨by simp, by rw [hd]; omega, by rw [hd]; omega⟩⟩
        rw [this]; unfold clsL; rw [if_neg (by omega), if_pos (by omega)]; simp; omega
      have := runeA_good (by rw [hb]; omega) hw
      rw [hn, hv] at this
      first | exact this.1 | exact this.2
  · rename_i h3 h4 h5
    refine key _ (by simp) ?_ ?_
    all_goals
      have hb : ([240 + r / 262144, 128 + r / 4096 % 64, 128 + r / 64 % 64, 128 + r % 64] ++ ys).getD 0 0 = 240 + r / 262144 := rfl
      have hc : ([240 + r / 262144, 128 + r / 4096 % 64, 128 + r / 64 % 64, 128 + r % 64] ++ ys).getD 1 0 = 128 + r / 4096 % 64 := rfl
      have hd : ([240 + r / 262144, 128 + r / 4096 % 64, 128 + r / 64 % 64, 128 + r % 64] ++ ys).getD 2 0 = 128 + r / 64 % 64 := rfl
      have he : ([240 + r / 262144, 128 + r / 4096 % 64, 128 + r / 64 % 64, 128 + r % 64] ++ ys).getD 3 0 = 128 + r % 64 := rfl
      have hn : clsN (([240 + r / 262144, 128 + r / 4096 % 64, 128 + r / 64 % 64, 128 + r % 64] ++ ys).getD 0 0) = 3 := by rw [hb]; unfold clsN; rw [if_neg (by omega), if_neg (by omega), if_pos (by omega)]
      have hv : cAt ([240 + r / 262144, 128 + r / 4096 % 64, 128 + r / 64 % 64, 128 + r % 64] ++ ys) 0 3 = r := by simp only [cAt, Nat.zero_add]; rw [hb, hc, hd, he]; unfold clsB; rw [if_neg (by omega), if_neg (by omega), if_pos (by omega)]; omega
      have hw : wholeB ([240 + r / 262144, 128 + r / 4096 % 64, 128 + r / 64 % 64, 128 + r % 64] ++ ys) 0 = true := by
        unfold wholeB
        rw [hn, hv, hb]
        have : allB ([240 + r / 262144, 128 + r / 4096 % 64, 128 + r / 64 % 64, 128 + r % 64] ++ ys) 0 3 = true := by
          simp only [allB, Bool.true_and, Nat.zero_add, Bool.and_eq_true]
          exact ⟨⟨contB_iff.mpr ⟨by simp, by rw [hc]; omega, by rw [hc]; omega⟩, contB_iff.mpr ⟨by simp, by rw [hd]; omega, by rw [hd]; omega⟩⟩, contB_iff.mpr ⟨by simp, by rw [he]; omega, by rw [he]; omega⟩⟩
        rw [this]; unfold clsL; rw [if_neg (by omega), if_neg (by omega), if_pos (by omega)]; simp; omega
      have := runeA_good (by rw [hb]; omega) hw
      rw [hn, hv] at this
      first | exact this.1 | exact this.2
theorem runes_low {r : Int} (h0 : 0 ≤ r) (h : r < 128) (ys : List Int) : runesOf (r :: ys) = r :: runesOf ys := by
  have := runes_enc (r := r) ⟨h0, by omega, by omega⟩ ys
  unfold encL at this
  rw [if_pos h] at this
  exact this

end Go.Proofs.YtkhmaiggcihneaaDoor
