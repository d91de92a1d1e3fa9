/-
  A text's first runes, and its small letters: plain arithmetic. No program in sight.
-/
import Derived.Test.YtkhmaiggcihneaaDoorTxtM
namespace Go.Proofs.YtkhmaiggcihneaaDoor

/-- The place behind so many runes. -/
def posOf (zs : List Int) : Nat → Nat
  | 0 => 0
  | k + 1 => if posOf zs k < zs.length then posOf zs k + widA zs (posOf zs k) else posOf zs k
theorem pos_le (zs : List Int) (k : Nat) : posOf zs k ≤ zs.length := by
  induction k with
  | zero => exact Nat.zero_le _
  | succ k ih =>
    simp only [posOf]
    split
    · rename_i h; exact widA_in h
    · exact ih
theorem pos_drop (zs : List Int) (k : Nat) : rfrom zs (posOf zs k) = (runesOf zs).drop k := by
  induction k with
  | zero => rfl
  | succ k ih =>
    simp only [posOf]
    split
    · rename_i h
      rw [rfrom_in h] at ih
      have : (runesOf zs).drop (k + 1) = ((runesOf zs).drop k).drop 1 := by rw [List.drop_drop]
      rw [this, ← ih]; rfl
    · rename_i h
      rw [rfrom_out h] at ih
      rw [rfrom_out h]
      have : (runesOf zs).drop (k + 1) = ((runesOf zs).drop k).drop 1 := by rw [List.drop_drop]
      rw [this, ← ih]; rfl
theorem getD_take {zs : List Int} {p i : Nat} (h : i < p) : (zs.take p).getD i 0 = zs.getD i 0 := by
  simp only [List.getD_eq_getElem?_getD]
  rw [List.getElem?_take_of_lt h]
theorem contB_take {zs : List Int} {p j : Nat} (hp : p ≤ zs.length) (h : contB (zs.take p) j = true) : contB zs j = true ∧ j < p := by
  obtain ⟨h1, h2, h3⟩ := contB_iff.mp h
  rw [List.length_take, Nat.min_eq_left hp] at h1
  rw [getD_take h1] at h2 h3
  exact ⟨contB_iff.mpr ⟨by omega, h2, h3⟩, h1⟩
theorem contB_into {zs : List Int} {p j : Nat} (hp : p ≤ zs.length) (h : contB zs j = true) (hj : j < p) : contB (zs.take p) j = true := by
  obtain ⟨h1, h2, h3⟩ := contB_iff.mp h
  exact contB_iff.mpr ⟨by rw [List.length_take, Nat.min_eq_left hp]; exact hj, by rw [getD_take hj]; exact h2, by rw [getD_take hj]; exact h3⟩
theorem allB_take {zs : List Int} {p i k : Nat} (hp : p ≤ zs.length) (h : allB (zs.take p) i k = true) : allB zs i k = true := by
  induction k with
  | zero => rfl
  | succ k ih =>
    simp only [allB, Bool.and_eq_true] at h ⊢
    exact ⟨ih h.1, (contB_take hp h.2).1⟩
theorem allB_into {zs : List Int} {p i k : Nat} (hp : p ≤ zs.length) (h : allB zs i k = true) (hj : i + k < p) : allB (zs.take p) i k = true := by
  induction k with
  | zero => rfl
  | succ k ih =>
    simp only [allB, Bool.and_eq_true] at h ⊢
    exact ⟨ih h.1 (by omega), contB_into hp h.2 hj⟩
theorem cAt_take {zs : List Int} {p i k : Nat} (hj : i + k < p) : cAt (zs.take p) i k = cAt zs i k := by
  induction k with
  | zero => simp only [cAt]; rw [getD_take (by omega)]
  | succ k ih => simp only [cAt]; rw [ih (by omega), getD_take hj]
/-- A rune that lies in front of a place is the same in what lies in front of it. -/
theorem rune_take {zs : List Int} {p i : Nat} (hp : p ≤ zs.length) (hi : i < p) (h : i + widA zs i ≤ p) : runeA (zs.take p) i = runeA zs i ∧ widA (zs.take p) i = widA zs i := by
  have hg := getD_take (zs := zs) hi
  by_cases k0 : zs.getD i 0 < 128
  · have h1 := runeA_low k0
    have h2 := runeA_low (zs := zs.take p) (i := i) (by rw [hg]; exact k0)
    rw [h1.1, h1.2, h2.1, h2.2, hg]; exact ⟨rfl, rfl⟩
  · have k1 : ¬ (zs.take p).getD i 0 < 128 := by rw [hg]; exact k0
    cases hw : wholeB zs i with
    | true =>
      have h1 := runeA_good k0 hw
      rw [h1.2] at h
      have hc := cAt_take (zs := zs) (p := p) (i := i) (k := clsN (zs.getD i 0)) (by omega)
      have hw2 : wholeB (zs.take p) i = true := by
        have hw3 := hw
        unfold wholeB at hw3 ⊢
        rw [hg, hc]
        simp only [Bool.and_eq_true] at hw3 ⊢
        exact ⟨⟨⟨⟨hw3.1.1.1.1, allB_into hp hw3.1.1.1.2 (by omega)⟩, hw3.1.1.2⟩, hw3.1.2⟩, hw3.2⟩
      have h2 := runeA_good k1 hw2
      rw [h1.1, h1.2, h2.1, h2.2, hg, hc]; exact ⟨rfl, rfl⟩
    | false =>
      have h1 := runeA_bad k0 hw
      have hw2 : wholeB (zs.take p) i = false := by
        cases hx : wholeB (zs.take p) i with
        | false => rfl
        | true =>
          have he := wholeB_end hx
          rw [hg, List.length_take, Nat.min_eq_left hp] at he
          have hc := cAt_take (zs := zs) (p := p) (i := i) (k := clsN (zs.getD i 0)) (by omega)
          have hw3 := hx
          unfold wholeB at hw3
          rw [hg, hc] at hw3
          simp only [Bool.and_eq_true] at hw3
          have : wholeB zs i = true := by
            unfold wholeB
            simp only [Bool.and_eq_true]
            exact ⟨⟨⟨⟨hw3.1.1.1.1, allB_take hp hw3.1.1.1.2⟩, hw3.1.1.2⟩, hw3.1.2⟩, hw3.2⟩
          rw [this] at hw; cases hw
      have h2 := runeA_bad k1 hw2
      rw [h1.1, h1.2, h2.1, h2.2]; exact ⟨rfl, rfl⟩
theorem pos_mono (zs : List Int) (k : Nat) : posOf zs k ≤ posOf zs (k + 1) := by
  simp only [posOf]
  split <;> omega
theorem pos_take (zs : List Int) (k : Nat) : runesOf (zs.take (posOf zs k)) = (runesOf zs).take k := by
  have hp := pos_le zs k
  obtain ⟨p, hpp⟩ : ∃ p, posOf zs k = p := ⟨_, rfl⟩
  have hmono : ∀ j, j ≤ k → posOf zs j ≤ p := fun j hj => by
    rw [← hpp]
    obtain ⟨d, rfl⟩ : ∃ d, k = j + d := ⟨k - j, by omega⟩
    clear hpp hj hp
    induction d with
    | zero => exact Nat.le_refl _
    | succ d ih => exact Nat.le_trans ih (pos_mono zs (j + d))
  rw [hpp] at hp ⊢
  have hlen : (zs.take p).length = p := by rw [List.length_take, Nat.min_eq_left hp]
  have key : ∀ n j, k - j ≤ n → j ≤ k → rfrom (zs.take p) (posOf zs j) = ((runesOf zs).drop j).take (k - j) := by
    intro n
    induction n with
    | zero =>
      intro j hj hjk
      obtain rfl : j = k := by omega
      rw [hpp, rfrom_out (by rw [hlen]; omega)]; simp
    | succ n ih =>
      intro j hj hjk
      by_cases e : j = k
      · subst e; rw [hpp, rfrom_out (by rw [hlen]; omega)]; simp
      · have hn := ih (j + 1) (by omega) (by omega)
        have hd := pos_drop zs j
        have hm := hmono (j + 1) (by omega)
        simp only [posOf] at hn hm
        by_cases hl : posOf zs j < zs.length
        · rw [if_pos hl] at hn hm
          have hw := widA_pos zs (posOf zs j)
          obtain ⟨r1, r2⟩ := rune_take hp (show posOf zs j < p by omega) hm
          rw [rfrom_in (by rw [hlen]; omega), r1, r2, hn]
          rw [rfrom_in hl] at hd
          rw [← hd, show k - j = (k - (j + 1)) + 1 by omega, List.take_succ_cons]
          congr 2
          have h1 : (runesOf zs).drop (j + 1) = ((runesOf zs).drop j).drop 1 := by rw [List.drop_drop]
          rw [h1, ← hd]; rfl
        · rw [if_neg hl] at hn hm
          rw [rfrom_out hl] at hd
          rw [← hd, rfrom_out (by rw [hlen]; omega)]; simp
  exact key k 0 (by omega) (Nat.zero_le _)
/-- A small letter in a great one's place. -/
def foldB (z : Int) : Int := if 65 ≤ z ∧ z ≤ 90 then z + 32 else z
theorem foldB_byte {zs : List Int} (h : ∀ z ∈ zs, 0 ≤ z ∧ z ≤ 255) : ∀ z ∈ zs.map foldB, 0 ≤ z ∧ z ≤ 255 := by
  intro z hz
  obtain ⟨y, hy, rfl⟩ := List.mem_map.mp hz
  have := h y hy
  unfold foldB
  split <;> omega
theorem map_getD (f : Int → Int) {zs : List Int} {i : Nat} (h : i < zs.length) : (zs.map f).getD i 0 = f (zs.getD i 0) := by
  simp [List.getD_eq_getElem?_getD, List.getElem?_map, List.getElem?_eq_getElem h]

end Go.Proofs.YtkhmaiggcihneaaDoor
