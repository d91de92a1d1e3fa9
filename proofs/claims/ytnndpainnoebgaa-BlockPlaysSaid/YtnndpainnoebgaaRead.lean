/-
  Texts of digits, as bytes, and the numbers that they are: plain arithmetic. No program in sight.
-/
import Derived.Test.YtnndpainnoebgaaDec
import Derived.Laws.BytesArg
namespace Go.Proofs.Ytnndpainnoebgaa

/-- A text's bytes. -/
def nums (s : ByteArray) : List Int := s.data.toList.map fun b => (b.toNat : Int)
/-- Digits, without noughts ahead. -/
structure Dg (zs : List Int) : Prop where
  some : zs ≠ []
  head : zs.getD 0 0 = 48 → zs.length = 1
  all : ∀ i, i < zs.length → 48 ≤ zs.getD i 0 ∧ zs.getD i 0 ≤ 57
/-- The number of a list of digits. -/
def numOf (zs : List Int) : Nat := zs.foldl (fun a z => 10 * a + (z - 48).toNat) 0

theorem nums_length (s : ByteArray) : (nums s).length = s.size := by simp [nums]
theorem nums_at (s : ByteArray) (i : Nat) (h : i < s.size) : (nums s).getD i 0 = (s[i].toNat : Int) := by
  rw [List.getD_eq_getElem?_getD, nums, List.getElem?_map, List.getElem?_eq_getElem (by simpa using h)]
  rfl
theorem nums_byte (s : ByteArray) : ∀ z ∈ nums s, 0 ≤ z ∧ z ≤ 255 := by
  intro z hz
  obtain ⟨b, _, rfl⟩ := List.mem_map.mp hz
  have := b.toNat_lt
  omega
theorem strOfNums_nums (s : ByteArray) : strOfNums (nums s) = s := by
  unfold strOfNums nums
  apply ByteArray.ext
  simp only [List.map_map]
  have : (fun n : Int => UInt8.ofNat n.toNat) ∘ (fun b : UInt8 => (b.toNat : Int)) = id := by
    funext b; simp
  rw [this]; simp
theorem nums_strOfNums (zs : List Int) (h : ∀ z ∈ zs, 0 ≤ z ∧ z ≤ 255) : nums (strOfNums zs) = zs := by
  unfold strOfNums nums
  simp only [List.map_map]
  conv => rhs; rw [← List.map_id zs]
  apply List.map_congr_left
  intro z hz
  have := h z hz
  simp only [Function.comp, id, UInt8.toNat_ofNat']
  omega

theorem numOf_snoc (zs : List Int) (z : Int) : numOf (zs ++ [z]) = 10 * numOf zs + (z - 48).toNat := by simp [numOf]
theorem numOf_nil : numOf [] = 0 := rfl
theorem numOf_step (zs : List Int) (k : Nat) (h : k < zs.length) : numOf (zs.take (k + 1)) = 10 * numOf (zs.take k) + (zs.getD k 0 - 48).toNat := by
  rw [List.take_succ_eq_append_getElem h, numOf_snoc, List.getD_eq_getElem?_getD, List.getElem?_eq_getElem h]; rfl
theorem numOf_mono (zs : List Int) (k j : Nat) (h : k + j ≤ zs.length) : numOf (zs.take k) ≤ numOf (zs.take (k + j)) := by
  induction j with
  | zero => exact Nat.le_refl _
  | succ j ih =>
    have := ih (by omega)
    have e := numOf_step zs (k + j) (by omega)
    rw [← Nat.add_assoc, e]; omega
theorem numOf_take (zs : List Int) (k : Nat) (h : k ≤ zs.length) : numOf (zs.take k) ≤ numOf zs := by
  have := numOf_mono zs k (zs.length - k) (by omega)
  rw [show k + (zs.length - k) = zs.length by omega, List.take_length] at this
  exact this
theorem numOf_pow (zs : List Int) (hd : 49 ≤ zs.getD 0 0) (j : Nat) (h : j + 1 ≤ zs.length) : 10 ^ j ≤ numOf (zs.take (j + 1)) := by
  induction j with
  | zero =>
    rw [numOf_step zs 0 (by omega), List.take_zero, numOf_nil]
    have e : (10 : Nat) ^ 0 = 1 := rfl
    omega
  | succ j ih =>
    have := ih (by omega)
    rw [numOf_step zs (j + 1) (by omega), Nat.pow_succ]; omega
/-- Digits that are too many. -/
theorem Dg.long {zs : List Int} (h : Dg zs) (hl : 39 < zs.length) : ¬ W128 (numOf zs) := by
  have h1 := h.all 0 (by omega)
  have h2 : 49 ≤ zs.getD 0 0 := by
    have : ¬ zs.getD 0 0 = 48 := fun e => by have := h.head e; omega
    omega
  have h3 : 10 ^ 39 ≤ numOf (zs.take 40) := numOf_pow zs h2 39 (by omega)
  have h4 := numOf_take zs 40 (by omega)
  unfold W128; omega

theorem numOf_dec (n : Nat) : numOf (dec n) = n := by
  induction n using Nat.strongRecOn with
  | _ n ih =>
    by_cases h : n < 10
    · rw [dec_small h, show [48 + (n : Int)] = [] ++ [48 + (n : Int)] from rfl, numOf_snoc, numOf_nil]; omega
    · rw [dec_big h, numOf_snoc, ih (n / 10) (by omega)]; omega
theorem dec_head (n : Nat) (h : 1 ≤ n) : 49 ≤ (dec n).getD 0 0 := by
  induction n using Nat.strongRecOn with
  | _ n ih =>
    by_cases hs : n < 10
    · rw [dec_small hs]; simp; omega
    · have h1 := ih (n / 10) (by omega) (by omega)
      have h2 := dec_pos (n / 10)
      rw [dec_big hs]
      rw [List.getD_eq_getElem?_getD, List.getElem?_append_left (by omega), ← List.getD_eq_getElem?_getD]
      exact h1
theorem getD_mem {zs : List Int} {i : Nat} (h : i < zs.length) : zs.getD i 0 ∈ zs := by
  rw [List.getD_eq_getElem?_getD, List.getElem?_eq_getElem h]; exact List.getElem_mem h
theorem dec_dg (n : Nat) : Dg (dec n) := by
  refine ⟨fun e => by have := dec_pos n; rw [e] at this; simp at this, fun e => ?_, fun i hi => dec_byte n _ (getD_mem hi)⟩
  have : ¬ 1 ≤ n := fun h => by have := dec_head n h; omega
  obtain rfl : n = 0 := by omega
  rw [dec_small (by decide)]; rfl
/-- What is read is what is printed. -/
theorem dec_numOf {zs : List Int} (h : Dg zs) : ∀ k, 1 ≤ k → k ≤ zs.length → (2 ≤ k → 49 ≤ zs.getD 0 0) → dec (numOf (zs.take k)) = zs.take k := by
  intro k
  induction k with
  | zero => intro h; omega
  | succ k ih =>
    intro _ hk hh
    have ha := h.all k (by omega)
    have hst := numOf_step zs k (by omega)
    have htk : zs.take (k + 1) = zs.take k ++ [zs.getD k 0] := by
      rw [List.take_succ_eq_append_getElem (by omega), List.getD_eq_getElem?_getD, List.getElem?_eq_getElem (by omega)]; rfl
    by_cases h0 : k = 0
    · subst h0
      rw [hst, htk]
      simp only [List.take_zero, numOf_nil, List.nil_append]
      rw [dec_small (by omega)]
      congr 1; omega
    · have h49 := hh (by omega)
      have hi := ih (by omega) (by omega) (fun _ => h49)
      have hp := numOf_pow zs h49 (k - 1) (by omega)
      rw [show k - 1 + 1 = k by omega] at hp
      have h1 : 1 ≤ 10 ^ (k - 1) := Nat.one_le_pow _ _ (by decide)
      rw [hst, dec_big (by omega), htk]
      have e1 : (10 * numOf (zs.take k) + (zs.getD k 0 - 48).toNat) / 10 = numOf (zs.take k) := by omega
      have e2 : (10 * numOf (zs.take k) + (zs.getD k 0 - 48).toNat) % 10 = (zs.getD k 0 - 48).toNat := by omega
      rw [e1, e2, hi]
      congr 2; omega
theorem Dg.back {zs : List Int} (h : Dg zs) : dec (numOf zs) = zs := by
  have hl : 1 ≤ zs.length := by have := h.some; cases zs with | nil => exact absurd rfl this | cons a l => simp
  have := dec_numOf h zs.length hl (Nat.le_refl _) (fun h2 => by
    have h1 := h.all 0 (by omega)
    have : ¬ zs.getD 0 0 = 48 := fun e => by have := h.head e; omega
    omega)
  rw [List.take_length] at this
  exact this
theorem dec_str (n : Nat) : nums (strOfNums (dec n)) = dec n := nums_strOfNums _ (fun z hz => by have := dec_byte n z hz; omega)
theorem str_back {s : ByteArray} (h : Dg (nums s)) : strOfNums (dec (numOf (nums s))) = s := by rw [h.back, strOfNums_nums]

theorem dec_len {n : Nat} (h : W128 n) : (dec n).length ≤ 39 := by
  by_cases h0 : n = 0
  · subst h0; rw [dec_small (by decide)]; decide
  · have h1 := dec_head n (by omega)
    have h2 := dec_pos n
    have h3 := numOf_pow (dec n) h1 ((dec n).length - 1) (by omega)
    rw [show (dec n).length - 1 + 1 = (dec n).length by omega, List.take_length, numOf_dec] at h3
    have h4 : ¬ 39 ≤ (dec n).length - 1 := fun hc => by
      have : 10 ^ 39 ≤ 10 ^ ((dec n).length - 1) := Nat.pow_le_pow_right (by decide) hc
      unfold W128 at h; omega
    omega
theorem strOfNums_append (a b : List Int) : strOfNums a ++ strOfNums b = strOfNums (a ++ b) := by
  apply ByteArray.ext
  simp [strOfNums]

end Go.Proofs.Ytnndpainnoebgaa
