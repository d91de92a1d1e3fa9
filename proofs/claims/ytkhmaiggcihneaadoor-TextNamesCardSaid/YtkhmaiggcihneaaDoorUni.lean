/-
  Texts by their runes: how many the library counts, and which texts it calls valid: plain arithmetic.
-/
import Derived.Test.YtkhmaiggcihneaaDoorTxtK
import Derived.Lib.RuneBytes
import Derived.Lib.RuneCount
import Derived.Lib.ValidLaws
namespace Go.Proofs.YtkhmaiggcihneaaDoor

theorem decode_wid (s : ByteArray) (pos : Nat) (h : pos < s.size) : (Utf8.decode s pos).2 = widA (nums s) pos := by
  rcases decode_rune s pos h with ⟨_, h2, h3⟩ | ⟨_, h3⟩
  · rw [h3, h2]
  · rw [h3]
theorem count_runes (s : ByteArray) : Lib.runeCount s = (runesOf (nums s)).length := by
  have key : ∀ fuel pos, s.size - pos ≤ fuel → Lib.runeCountFrom s fuel pos = (rfrom (nums s) pos).length := by
    intro fuel
    induction fuel with
    | zero => intro pos h; rw [rfrom_out (by rw [nums_length]; omega)]; rfl
    | succ n ih =>
      intro pos h
      by_cases hp : pos < s.size
      · have hw := widA_pos (nums s) pos
        rw [rfrom_in (by rw [nums_length]; exact hp), List.length_cons, ← ih (pos + widA (nums s) pos) (by omega)]
        simp only [Lib.runeCountFrom, if_pos hp, decode_wid s pos hp]
        omega
      · rw [rfrom_out (by rw [nums_length]; exact hp), Lib.runeCountFrom_end s _ pos hp]; rfl
  exact key s.size 0 (by omega)
theorem good_cons {z : Int} {l : List Int} : GoodL (z :: l) ↔ 0 ≤ z ∧ GoodL l := by
  constructor
  · intro h
    exact ⟨h 0 (by simp), fun i hi => h (i + 1) (by simpa using hi)⟩
  · rintro ⟨h0, h⟩ i hi
    match i, hi with
    | 0, _ => exact h0
    | i + 1, hi => exact h i (by simpa using hi)
theorem good_nil : GoodL [] := fun i hi => by cases hi
theorem valid_good (s : ByteArray) : (Lib.validD s.data.toList = true) ↔ GoodL (runesOf (nums s)) := by
  have key : ∀ n pos, s.size - pos ≤ n → (Lib.validD (s.data.toList.drop pos) = true ↔ GoodL (rfrom (nums s) pos)) := by
    intro n
    induction n with
    | zero =>
      intro pos h
      rw [rfrom_out (by rw [nums_length]; omega), List.drop_eq_nil_of_le (by rw [Array.length_toList]; show s.size ≤ pos; omega), Lib.validD_nil]
      exact ⟨fun _ => good_nil, fun _ => rfl⟩
    | succ n ih =>
      intro pos h
      by_cases hp : pos < s.size
      · have hw := widA_pos (nums s) pos
        have hne : s.data.toList.drop pos ≠ [] := fun e => by
          have := congrArg List.length e
          rw [List.length_drop, Array.length_toList] at this
          have : s.size - pos = 0 := this
          omega
        rw [Lib.validD_step _ hne, Lib.decodeL_drop, rfrom_in (by rw [nums_length]; exact hp), good_cons]
        rcases decode_rune s pos hp with ⟨h1, h2, h3⟩ | ⟨h1, h3⟩
        · rw [h3, h1]; simp
        · rw [h3]
          have hnot : ¬ ((runeA (nums s) pos).toNat = 65533 ∧ widA (nums s) pos = 1) := by
            rintro ⟨ha, hb⟩
            by_cases k0 : (nums s).getD pos 0 < 128
            · have := (runeA_low k0).1; omega
            · cases hq : wholeB (nums s) pos with
              | true =>
                have h5 := (runeA_good k0 hq).2
                have h6 : 0 < clsN ((nums s).getD pos 0) := by
                  unfold wholeB at hq
                  simp only [Bool.and_eq_true, decide_eq_true_eq] at hq
                  exact hq.1.1.1.1
                omega
              | false => have := (runeA_bad k0 hq).1; omega
          rw [if_neg hnot, List.drop_drop, ih (pos + widA (nums s) pos) (by omega)]
          exact ⟨fun g => ⟨h1, g⟩, fun g => g.2⟩
      · rw [rfrom_out (by rw [nums_length]; exact hp), List.drop_eq_nil_of_le (by rw [Array.length_toList]; show s.size ≤ pos; omega), Lib.validD_nil]
        exact ⟨fun _ => good_nil, fun _ => rfl⟩
  have := key s.size 0 (by omega)
  rwa [List.drop_zero] at this
theorem valid_no {s : ByteArray} (h : ¬ GoodL (runesOf (nums s))) : Lib.validD s.data.toList = false := by
  cases e : Lib.validD s.data.toList with
  | false => rfl
  | true => exact (h ((valid_good s).mp e)).elim

/-- The runes of a good text are runes. -/
theorem good_ok {s : ByteArray} (h : GoodL (runesOf (nums s))) : ∀ r ∈ runesOf (nums s), RuneOk r := (good_back (nums_byte s) (good_mem h)).1
/-- What the library lays for a rune. -/
theorem encode_enc {r : Int} (h : RuneOk r) : Lib.encodeRuneZ r = encL r := by
  obtain ⟨h0, h1, h2⟩ := h
  unfold encL
  by_cases a : r < 128
  · rw [if_pos a, Lib.encodeRuneZ_one h0 (by omega)]
  · by_cases b : r < 2048
    · rw [if_neg a, if_pos b, Lib.encodeRuneZ_two (by omega) (by omega)]
    · by_cases c : r < 65536
      · rw [if_neg a, if_neg b, if_pos c, Lib.encodeRuneZ_three (by omega)]
      · rw [if_neg a, if_neg b, if_neg c, Lib.encodeRuneZ_four (by omega) h1]

end Go.Proofs.YtkhmaiggcihneaaDoor
