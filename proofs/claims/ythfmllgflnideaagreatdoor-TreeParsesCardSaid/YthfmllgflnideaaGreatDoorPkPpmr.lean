/-
  The document's own answers for shares, walked: Read in its outcomes.
-/
import Derived.Test.YthfmllgflnideaaGreatDoorPkPpm
import Derived.Deep.LoopGhost
import Derived.Test.YthfmllgflnideaaGreatDoorPkRefs
namespace Go.Proofs.YthfmllgflnideaaGreatDoor
open Go.RowKit

theorem letter_at (s : ByteArray) (k : Nat) (h : k < s.size) : ((s[k]'h).toNat : Int) = (nums s).getD k 0 := (nums_at s k h).symm
theorem ends_len {s : ByteArray} {ys : List Int} (h : nums s = ys ++ [37]) : s.size = ys.length + 1 := by rw [← nums_length, h]; simp
theorem ends_last {s : ByteArray} {ys : List Int} (h : nums s = ys ++ [37]) : (nums s).getD (s.size - 1) 0 = 37 := by
  rw [ends_len h, h, List.getD_eq_getElem?_getD, List.getElem?_append_right (by omega)]; simp
theorem ends_of {s : ByteArray} (h0 : 0 < s.size) (h : (nums s).getD (s.size - 1) 0 = 37) : ∃ ys, nums s = ys ++ [37] := by
  have hl : nums s ≠ [] := fun e => by have := nums_length s; rw [e] at this; simp at this; omega
  refine ⟨(nums s).dropLast, ?_⟩
  have hx := List.dropLast_concat_getLast hl
  rw [List.getLast_eq_getElem] at hx
  have e : (nums s)[(nums s).length - 1]'(by have := nums_length s; omega) = 37 := by
    rw [← nums_length, List.getD_eq_getElem?_getD, List.getElem?_eq_getElem (by have := nums_length s; omega)] at h
    exact h
  rw [e] at hx
  exact hx.symm

set_option maxRecDepth 100000 in
theorem rread_noend (s : ByteArray) (w : World) (hm : s.size ≤ 9223372036854775807) (h : ¬ ∃ ys, nums s = ys ++ [37]) :
    Calls Tryz.prog 48 #[.string s] w (GivesPC 0 5 w) := by
  by_cases h2 : s.size < 2
  · clear h
    go_enter Tryz.func48, Tryz.ntmps48
    go_wp2
    go_ret2
    exact ⟨0, rfl, by decide, by decide, rfl, Below.refl _ _⟩
  · obtain ⟨z, hz⟩ : ∃ z, (nums s).getD (s.size - 1) 0 = z := ⟨_, rfl⟩
    have hzn : ¬ z = 37 := fun e => h (ends_of (by omega) (hz.trans e))
    have hzb : (z != 37) = true := by simpa using hzn
    have hx := letter_at s (s.size - 1) (by omega)
    rw [hz] at hx
    have c1 : 0 ≤ (s.size : Int) - 1 := by omega
    have c2 : (s.size : Int) - 1 < s.size := by omega
    clear h hz hzn
    go_enter Tryz.func48, Tryz.ntmps48
    go_wp2
    go_ret2
    exact ⟨0, rfl, by decide, by decide, rfl, Below.refl _ _⟩

/-- A digit's letter. -/
def isD (z : Int) : Prop := 48 ≤ z ∧ z ≤ 57
/-- The letters of a text that ends with %, by place. -/
structure Lets (s : ByteArray) (A B : List Int) (d : Bool) : Prop where
  size : s.size = if d then A.length + B.length + 2 else A.length + 1
  ahead : ∀ i, i < A.length → (nums s).getD i 0 = A.getD i 0 ∧ A.getD i 0 ≠ 46
  point : d = true → (nums s).getD A.length 0 = 46
  behind : ∀ i, i < B.length → (nums s).getD (A.length + 1 + i) 0 = B.getD i 0
  last : (nums s).getD (s.size - 1) 0 = 37
  nil : d = false → B = []
theorem Ends.lets {s : ByteArray} {ys A B : List Int} {d : Bool} (h : Ends s ys A B d) : Lets s A B d := by
  obtain ⟨h1, h2, h3, h4⟩ := h
  have hl := ends_len h1
  subst h2
  refine ⟨?_, fun i hi => ⟨?_, ?_⟩, fun hd => ?_, fun i hi => ?_, ends_last h1, h4⟩
  · rw [hl]; cases d <;> simp <;> omega
  · rw [h1, List.append_assoc, List.getD_eq_getElem?_getD, List.getElem?_append_left hi, ← List.getD_eq_getElem?_getD]
  · intro e
    apply h3
    rw [← e]; exact getD_mem hi
  · subst hd
    rw [h1, List.append_assoc, List.getD_eq_getElem?_getD, List.getElem?_append_right (Nat.le_refl _)]
    simp
  · cases d with
    | false => rw [h4 rfl] at hi; simp at hi
    | true =>
      rw [h1, List.append_assoc, List.getD_eq_getElem?_getD, List.getElem?_append_right (by omega), show A.length + 1 + i - A.length = i + 1 by omega]
      simp only [if_true, List.cons_append, List.getElem?_cons_succ]
      rw [List.getElem?_append_left hi, ← List.getD_eq_getElem?_getD]
/-- Where the point is, as far as it is known. -/
def dotI (a n k : Nat) : Int := if k ≤ a then (n : Int) - 1 else a
/-- All letters so far are digits, but for the point. -/
def DigTo (s : ByteArray) (a k : Nat) : Prop := ∀ i, i < k → i ≠ a → isD ((nums s).getD i 0)
theorem DigTo.zero (s : ByteArray) (a : Nat) : DigTo s a 0 := fun i h => by omega
theorem DigTo.next {s : ByteArray} {a k : Nat} (h : DigTo s a k) (hk : isD ((nums s).getD k 0)) : DigTo s a (k + 1) := fun i hi hn => by
  by_cases e : i = k
  · subst e; exact hk
  · exact h i (by omega) hn
theorem DigTo.skip {s : ByteArray} {a k : Nat} (h : DigTo s a k) (hk : k = a) : DigTo s a (k + 1) := fun i hi hn => h i (by omega) hn
/-- A letter that is no digit makes it no print. -/
theorem Lets.bad {s : ByteArray} {A B : List Int} {d : Bool} (h : Lets s A B d) {k : Nat} (hk : k < s.size - 1) (hn : k ≠ A.length) (hz : ¬ isD ((nums s).getD k 0)) : ¬ Written A B d := by
  intro g
  have hs := h.size
  by_cases h1 : k < A.length
  · rw [(h.ahead k h1).1] at hz
    exact hz (g.dg.all k h1)
  · cases d with
    | false => simp at hs; omega
    | true =>
      simp at hs
      have h2 := h.behind (k - A.length - 1) (by omega)
      rw [show A.length + 1 + (k - A.length - 1) = k by omega] at h2
      rw [h2] at hz
      exact hz ((g.fr rfl).all _ (by omega))
theorem Lets.good {s : ByteArray} {A B : List Int} {d : Bool} (h : Lets s A B d) (hd : DigTo s A.length (s.size - 1)) (h0 : 1 ≤ A.length) (h1 : (nums s).getD 0 0 = 48 → A.length = 1)
    (h2 : d = true → 1 ≤ B.length ∧ B.length ≤ 4 ∧ (nums s).getD (s.size - 2) 0 ≠ 48) : Written A B d := by
  have hs := h.size
  refine ⟨⟨fun e => by rw [e] at h0; simp at h0, fun e => h1 (by rw [(h.ahead 0 (by omega)).1]; exact e), fun i hi => ?_⟩, fun e => ?_⟩
  · rw [← (h.ahead i hi).1]
    exact hd i (by split at hs <;> omega) (by omega)
  · obtain ⟨a1, a2, a3⟩ := h2 e
    subst e
    simp at hs
    refine ⟨a1, a2, fun i hi => ?_, ?_⟩
    · rw [← h.behind i hi]
      exact hd _ (by omega) (by omega)
    · rw [← h.behind _ (by omega), show A.length + 1 + (B.length - 1) = s.size - 2 by omega]
      exact a3
/-- What the tests behind the first loop say of a print. -/
theorem Lets.tests {s : ByteArray} {A B : List Int} {d : Bool} (h : Lets s A B d) (g : Written A B d) : 1 ≤ A.length ∧ ((nums s).getD 0 0 = 48 → A.length = 1) ∧ (d = true → 1 ≤ B.length ∧ B.length ≤ 4 ∧ (nums s).getD (s.size - 2) 0 ≠ 48) := by
  have hs := h.size
  have h0 : 1 ≤ A.length := by
    have := g.dg.some
    cases A with
    | nil => exact (this rfl).elim
    | cons x l => simp
  refine ⟨h0, fun e => g.dg.head (by rw [← (h.ahead 0 (by omega)).1]; exact e), fun e => ?_⟩
  have f := g.fr e
  subst e
  simp at hs
  refine ⟨f.some, f.few, ?_⟩
  have h1 := f.some
  rw [show s.size - 2 = A.length + 1 + (B.length - 1) by omega, h.behind _ (by omega)]
  exact f.last

/-- The parts of a text of percents, digit by digit. -/
def vv (A B : List Int) : Nat → Nat
  | 0 => numOf A
  | k + 1 => 10 * vv A B k + dB B k
theorem vv_four (A B : List Int) : vv A B 4 = parts A B := by
  unfold parts
  rw [pv_four]
  simp only [vv]
  omega
theorem numOf_lt {A : List Int} (h : ∀ i, i < A.length → 48 ≤ A.getD i 0 ∧ A.getD i 0 ≤ 57) (k : Nat) (hk : k ≤ A.length) : numOf (A.take k) < 10 ^ k := by
  induction k with
  | zero => simp [numOf_nil]
  | succ k ih =>
    have := ih (by omega)
    have h1 := h k (by omega)
    rw [numOf_step A k (by omega), Nat.pow_succ]; omega
theorem vv_lt {A B : List Int} (h : ∀ i, i < A.length → 48 ≤ A.getD i 0 ∧ A.getD i 0 ≤ 57) (hB : ∀ i, i < B.length → 48 ≤ B.getD i 0 ∧ B.getD i 0 ≤ 57) (ha : A.length ≤ 3) (k : Nat) : vv A B k < 10 ^ (3 + k) := by
  induction k with
  | zero =>
    have h1 := numOf_lt h A.length (Nat.le_refl _)
    rw [List.take_length] at h1
    have h2 : 10 ^ A.length ≤ 10 ^ 3 := Nat.pow_le_pow_right (by decide) ha
    simp only [vv, Nat.add_zero]; omega
  | succ k ih =>
    have := dB_le hB k
    rw [vv, ← Nat.add_assoc, Nat.pow_succ]; omega
theorem Written.wide {A B : List Int} {d : Bool} (g : Written A B d) (h : 3 < A.length) : 1000000 < parts A B := by
  have h1 := g.dg.all 0 (by omega)
  have h2 : 49 ≤ A.getD 0 0 := by
    have : ¬ A.getD 0 0 = 48 := fun e => by have := g.dg.head e; omega
    omega
  have h3 : 10 ^ 3 ≤ numOf (A.take 4) := numOf_pow A h2 3 (by omega)
  have h4 := numOf_take A 4 (by omega)
  unfold parts; omega
theorem Written.digB {A B : List Int} {d : Bool} (g : Written A B d) (h : d = false → B = []) : ∀ i, i < B.length → 48 ≤ B.getD i 0 ∧ B.getD i 0 ≤ 57 := by
  intro i hi
  cases d with
  | false => rw [h rfl] at hi; simp at hi
  | true => exact (g.fr rfl).all i hi

/-- What the document's Read hands back, for a text that ends with %. -/
def GivesRd (A B : List Int) (d : Bool) (w : World) (e : Ending) (w' : World) : Prop := ∃ (N : Nat) (c x : Int), e = .returned (.tuple #[.int .u32 x, .int .i64 c]) ∧ x = (N : Int) ∧
  ((¬ Written A B d ∧ N = 0 ∧ c = 5) ∨ (Written A B d ∧ 1000000 < parts A B ∧ N = 0 ∧ c = 8) ∨ (Written A B d ∧ parts A B ≤ 1000000 ∧ N = parts A B ∧ c = 0)) ∧ w = w'
theorem GivesRd.no {A B : List Int} {d : Bool} {w : World} (h : ¬ Written A B d) : GivesRd A B d w (.returned (.tuple #[.int .u32 0, .int .i64 5])) w := ⟨0, 5, 0, rfl, rfl, Or.inl ⟨h, rfl, rfl⟩, rfl⟩
theorem GivesRd.big {A B : List Int} {d : Bool} {w : World} (h : Written A B d) (hp : 1000000 < parts A B) : GivesRd A B d w (.returned (.tuple #[.int .u32 0, .int .i64 8])) w := ⟨0, 8, 0, rfl, rfl, Or.inr (Or.inl ⟨h, hp, rfl, rfl⟩), rfl⟩
theorem GivesRd.fine {A B : List Int} {d : Bool} {w : World} {x : Int} (h : Written A B d) (hp : parts A B ≤ 1000000) (hx : x = (parts A B : Int)) : GivesRd A B d w (.returned (.tuple #[.int .u32 x, .int .i64 0])) w := ⟨_, 0, x, rfl, hx, Or.inr (Or.inr ⟨h, hp, rfl, rfl⟩), rfl⟩

end Go.Proofs.YthfmllgflnideaaGreatDoor

/-
  The document's own answers for shares, walked: Read of a text that ends with %.
-/
namespace Go.Proofs.YthfmllgflnideaaGreatDoor
open Go.RowKit

theorem dot_end {s : ByteArray} {A B : List Int} {d : Bool} {a : Nat} (h : Lets s A B d) (ha : A.length = a) : dotI a s.size (s.size - 1) = (a : Int) := by
  have hs := h.size
  unfold dotI
  split
  · cases d <;> simp at hs <;> omega
  · rfl
theorem dot_low {a n k : Nat} (h : k ≤ a) : dotI a n k = (n : Int) - 1 := if_pos h
theorem dot_high {a n k : Nat} (h : ¬ k ≤ a) : dotI a n k = (a : Int) := if_neg h
theorem num_room {A B : List Int} {d : Bool} {a : Nat} (g : Written A B d) (ha : A.length = a) (h3 : a ≤ 3) (k : Nat) (hk : k ≤ a) : numOf (A.take k) ≤ 999 := by
  have h1 := numOf_lt g.dg.all k (by omega)
  have h2 : 10 ^ k ≤ 10 ^ 3 := Nat.pow_le_pow_right (by decide) (by omega)
  omega
theorem num_step {s : ByteArray} {A B : List Int} {d : Bool} {a : Nat} (h : Lets s A B d) (g : Written A B d) (ha : A.length = a) (k : Nat) (hk : k < a) :
    ∃ (z : Int), ((s[k]'(by have := h.size; split at this <;> omega)).toNat : Int) = z ∧ 48 ≤ z ∧ z ≤ 57 ∧ numOf (A.take (k + 1)) = 10 * numOf (A.take k) + (z - 48).toNat := by
  have h1 := g.dg.all k (by omega)
  refine ⟨A.getD k 0, ?_, h1.1, h1.2, numOf_step A k (by omega)⟩
  rw [letter_at, (h.ahead k (by omega)).1]
theorem vv_room {s : ByteArray} {A B : List Int} {d : Bool} {a : Nat} (h : Lets s A B d) (g : Written A B d) (ha : A.length = a) (h3 : a ≤ 3) (j : Nat) (hj : j ≤ 4) : vv A B j ≤ 9999999 := by
  have h1 := vv_lt g.dg.all (g.digB h.nil) (by omega) j
  have h2 : 10 ^ (3 + j) ≤ 10 ^ 7 := Nat.pow_le_pow_right (by decide) (by omega)
  omega
theorem vv_less {s : ByteArray} {A B : List Int} {d : Bool} {a : Nat} (h : Lets s A B d) (g : Written A B d) (ha : A.length = a) (h3 : a ≤ 3) (j : Nat) (hj : j < 4) : vv A B j ≤ 999999 := by
  have h1 := vv_lt g.dg.all (g.digB h.nil) (by omega) j
  have h2 : 10 ^ (3 + j) ≤ 10 ^ 6 := Nat.pow_le_pow_right (by decide) (by omega)
  omega
theorem vv_step (A B : List Int) (j : Nat) : vv A B (j + 1) = 10 * vv A B j + dB B j := rfl
theorem behind_in {s : ByteArray} {A B : List Int} {d : Bool} {a : Nat} (h : Lets s A B d) (ha : A.length = a) (j : Nat) (hj : j < B.length) : (a : Int) + 1 + j < (s.size : Int) - 1 := by
  have hs := h.size
  cases d with
  | false => rw [h.nil rfl] at hj; simp at hj
  | true => simp at hs; omega
theorem behind_out {s : ByteArray} {A B : List Int} {d : Bool} {a : Nat} (h : Lets s A B d) (ha : A.length = a) (j : Nat) (hj : ¬ j < B.length) : ¬ (a : Int) + 1 + j < (s.size : Int) - 1 := by
  have hs := h.size
  cases d with
  | false => simp at hs; omega
  | true => simp at hs; omega
theorem behind_step {s : ByteArray} {A B : List Int} {d : Bool} {a : Nat} (h : Lets s A B d) (g : Written A B d) (ha : A.length = a) (j : Nat) (hj : j < B.length) :
    ∃ (z : Int), ((s[a + 1 + j]'(by have := behind_in h ha j hj; omega)).toNat : Int) = z ∧ 48 ≤ z ∧ z ≤ 57 ∧ dB B j = (z - 48).toNat := by
  have h1 := g.digB h.nil j hj
  refine ⟨B.getD j 0, ?_, h1.1, h1.2, dB_at hj⟩
  rw [letter_at, ← ha, h.behind j hj]
theorem int_eq {k : IntKind} {x y : Int} (h : x = y) : Value.int k x = Value.int k y := by rw [h]

set_option maxRecDepth 100000 in
set_option maxHeartbeats 4000000 in
theorem rread_all (s : ByteArray) (A B : List Int) (d : Bool) (w : World) (hm : s.size ≤ 9223372036854775807) (hL : Lets s A B d) :
    Calls Tryz.prog 48 #[.string s] w (GivesRd A B d w) := by
  have HL := Lib.hid hL
  obtain ⟨a, ha⟩ : ∃ a, A.length = a := ⟨_, rfl⟩
  have Ha := Lib.hid ha
  by_cases h2 : s.size < 2
  · have hbad := Lib.hid (fun g : Written A B d => (by have h1 := (hL.tests g).1; have h2 := hL.size; split at h2 <;> omega : False))
    clear ha hL
    go_enter Tryz.func48, Tryz.ntmps48
    go_wp2
    go_ret2
    exact GivesRd.no hbad.out
  · have hx := letter_at s (s.size - 1) (by omega)
    rw [hL.last] at hx
    clear ha hL
    have c1 : 0 ≤ (s.size : Int) - 1 := by omega
    have c2 : (s.size : Int) - 1 < s.size := by omega
    go_enter Tryz.func48, Tryz.ntmps48
    go_wp2
    go_loop [5, 6] (fun v5 v6 => ∃ (k : Nat) (D : Int), k ≤ s.size - 1 ∧ v6 = .int .i64 k ∧ v5 = .int .i64 D ∧ Hid (D = dotI a s.size k) ∧ DigTo s a k) (fun _ v6 => s.size - (intOf v6).toNat)
    case atStart => exact ⟨0, _, Nat.zero_le _, rfl, rfl, Lib.hid (dot_low (Nat.zero_le _)).symm, DigTo.zero _ _⟩
    case round =>
      obtain ⟨k, D, hk, rfl, rfl, hD, hdig⟩ := hrel
      replace hdig := Lib.hid (show DigTo s A.length k by rw [Ha.out]; exact hdig)
      by_cases h1 : k < s.size - 1
      · have h1i : (k : Int) < (s.size : Int) - 1 := by omega
        by_cases hka : k = a
        · subst hka
          have hDn : D = (s.size : Int) - 1 := by rw [hD.out, dot_low (Nat.le_refl _)]
          subst hDn
          clear hD
          have hd : d = true := by have := HL.out.size; rw [Ha.out] at this; cases d; (simp at this; omega); rfl
          have hz : ((s[k]'(by omega)).toNat : Int) = 46 := (letter_at s k (by omega)).trans (by have h5 := HL.out.point hd; rw [Ha.out] at h5; exact h5)
          have hnext := Lib.hid (show DigTo s k (k + 1) by have := hdig.out.skip Ha.out.symm; rw [Ha.out] at this; exact this)
          go_wp2
          go_round
          case rel => exact ⟨k + 1, k, by omega, by go_num, rfl, Lib.hid (dot_high (by omega)).symm, hnext.out⟩
          case measure => simp [intOf]; omega
        · obtain ⟨z, hzz, hz⟩ : ∃ z, Hid ((nums s).getD k 0 = z) ∧ ((s[k]'(by omega)).toNat : Int) = z := ⟨_, Lib.hid rfl, letter_at s k (by omega)⟩
          by_cases hlt : k < a
          · have hDn : D = (s.size : Int) - 1 := by rw [hD.out, dot_low (by omega)]
            subst hDn
            clear hD
            have hz46 : (z == 46) = false := by have := (HL.out.ahead k (by rw [Ha.out]; exact hlt)).2; rw [← (HL.out.ahead k (by rw [Ha.out]; exact hlt)).1, hzz.out] at this; simpa using this
            by_cases hd48 : z < 48
            · have hbad := Lib.hid (HL.out.bad h1 (by have h2 := Ha.out; omega) (fun h : isD _ => by rw [hzz.out] at h; have := h.1; omega))
              go_wp2 <;> (go_ret2; exact GivesRd.no hbad.out)
            · by_cases hd57 : 57 < z
              · have hbad := Lib.hid (HL.out.bad h1 (by have h2 := Ha.out; omega) (fun h : isD _ => by rw [hzz.out] at h; have := h.2; omega))
                go_wp2 <;> (go_ret2; exact GivesRd.no hbad.out)
              · have hnext := Lib.hid (show DigTo s a (k + 1) by have h5 := hdig.out.next (show isD _ by rw [hzz.out]; exact ⟨by omega, by omega⟩); rw [Ha.out] at h5; exact h5)
                go_wp2
                go_round
                case rel => exact ⟨k + 1, _, by omega, by go_num, rfl, Lib.hid ((dot_low (by omega)).symm), hnext.out⟩
                case measure => simp [intOf]; omega
          · have hDn : D = (a : Int) := by rw [hD.out, dot_high (by omega)]
            subst hDn
            clear hD
            have hDb : ((a : Int) == (s.size : Int) - 1) = false := by simp; omega
            by_cases hz4 : z = 46
            · have hbad := Lib.hid (HL.out.bad h1 (by have h2 := Ha.out; omega) (fun h : isD _ => by rw [hzz.out] at h; have := h.1; omega))
              subst hz4
              go_wp2 <;> (go_ret2; exact GivesRd.no hbad.out)
            · have hz46 : (z == 46) = false := by simpa using hz4
              clear hz4
              by_cases hd48 : z < 48
              · have hbad := Lib.hid (HL.out.bad h1 (by have h2 := Ha.out; omega) (fun h : isD _ => by rw [hzz.out] at h; have := h.1; omega))
                go_wp2 <;> (go_ret2; exact GivesRd.no hbad.out)
              · by_cases hd57 : 57 < z
                · have hbad := Lib.hid (HL.out.bad h1 (by have h2 := Ha.out; omega) (fun h : isD _ => by rw [hzz.out] at h; have := h.2; omega))
                  go_wp2 <;> (go_ret2; exact GivesRd.no hbad.out)
                · have hnext := Lib.hid (show DigTo s a (k + 1) by have h5 := hdig.out.next (show isD _ by rw [hzz.out]; exact ⟨by omega, by omega⟩); rw [Ha.out] at h5; exact h5)
                  go_wp2
                  go_round
                  case rel => exact ⟨k + 1, _, by omega, by go_num, rfl, Lib.hid ((dot_high (by omega)).symm), hnext.out⟩
                  case measure => simp [intOf]; omega
      · have hke : k = s.size - 1 := by omega
        have hki : ¬ (k : Int) < (s.size : Int) - 1 := by omega
        have hDa : D = (a : Int) := by rw [hD.out, hke]; exact dot_end HL.out Ha.out
        subst hDa
        replace hdig := Lib.hid (show DigTo s A.length (s.size - 1) by rw [← hke]; exact hdig.out)
        clear hD h1 hke
        obtain ⟨x0, hx0, e0⟩ : ∃ x, Hid ((nums s).getD 0 0 = x) ∧ ((s[0]'(by omega)).toNat : Int) = x := ⟨_, Lib.hid rfl, letter_at s 0 (by omega)⟩
        obtain ⟨x2, hx2, e2⟩ : ∃ x, Hid ((nums s).getD (s.size - 2) 0 = x) ∧ ((s[s.size - 2]'(by omega)).toNat : Int) = x := ⟨_, Lib.hid rfl, letter_at s (s.size - 2) (by omega)⟩
        obtain ⟨bh, hbh⟩ : ∃ bh, (s.size : Int) - 2 - a = bh := ⟨_, rfl⟩
        have hsz := HL.out.size
        rw [Ha.out] at hsz
        cases d with
        | false =>
          simp only [Bool.false_eq_true, if_false] at hsz
          have hda : ¬ (a : Int) < (s.size : Int) - 1 := by omega
          clear hsz
          by_cases ha0 : a = 0
          · have hbad := Lib.hid (fun g : Written A B false => (by have h1 := (HL.out.tests g).1; have h2 := Ha.out; omega : False))
            have hab : ((a : Int) == 0) = true := by simp; omega
            go_wp2 <;> (go_ret2; exact GivesRd.no hbad.out)
          · have hab : ((a : Int) == 0) = false := by simp; omega
            by_cases hz0 : x0 = 48
            · have hxb : (x0 == 48) = true := by simpa using hz0
              by_cases ha1 : 1 < a
              · have hbad := Lib.hid (fun g : Written A B false => (by have h1 := (HL.out.tests g).2.1 (hx0.out.trans hz0); have h2 := Ha.out; omega : False))
                clear hz0
                go_wp2 <;> (go_ret2; exact GivesRd.no hbad.out)
              · have hfs := Lib.hid (show (nums s).getD 0 0 = 48 → A.length = 1 by intro _; have h2 := Ha.out; omega)
                clear hz0
                have HW := Lib.hid (HL.out.good hdig.out (by have h1 := Ha.out; omega) (by have h1 := Ha.out; intro e; exact hfs.out e) (fun e => by cases e))
                by_cases h3 : 3 < a
                · have hbig := Lib.hid (HW.out.wide (by have h1 := Ha.out; omega))
                  go_wp2 <;> (go_ret2; exact GivesRd.big HW.out hbig.out)
                · go_wp2
                  go_loop [8, 9] (fun v8 v9 => ∃ k : Nat, k ≤ a ∧ v9 = .int .i64 k ∧ v8 = .int .u32 (numOf (A.take k) : Nat)) (fun _ v9 => a - (intOf v9).toNat)
                  case atStart => exact ⟨0, Nat.zero_le _, rfl, rfl⟩
                  case round =>
                    obtain ⟨k, hk, rfl, rfl⟩ := hrel
                    obtain ⟨V, hV⟩ : ∃ V, numOf (A.take k) = V := ⟨_, rfl⟩
                    have hV9 := num_room HW.out Ha.out (by omega) k hk
                    rw [hV] at hV9
                    by_cases hlt : k < a
                    · obtain ⟨z, hz, z0, z1, hst⟩ := num_step HL.out HW.out Ha.out k hlt
                      have hks : (k : Int) < (s.size : Int) := by have h8 := HL.out.size; have h9 := Ha.out; split at h8 <;> omega
                      rw [hV] at hst
                      replace hst := Lib.hid hst
                      replace hV := Lib.hid hV
                      rw [hV.out]
                      go_wp2
                      go_round
                      case rel => exact ⟨k + 1, by omega, by go_num, by rw [hst.out]; exact int_eq (by omega)⟩
                      case measure => simp [intOf]; omega
                    · obtain rfl : k = a := by omega
                      have hall : Hid (V = vv A B 0) := by unfold Hid; rw [← hV, ← Ha.out, List.take_length]; rfl
                      rw [hV]
                      clear hV
                      go_wp2
                      go_loop [8, 10] (fun v8 v10 => ∃ j : Nat, j ≤ 4 ∧ v10 = .int .i64 j ∧ v8 = .int .u32 (vv A B j : Nat)) (fun _ v10 => 4 - (intOf v10).toNat)
                      case atStart => exact ⟨0, by omega, rfl, by rw [← hall.out]⟩
                      case round =>
                        obtain ⟨j, hj, rfl, rfl⟩ := hrel
                        clear hall hV9
                        obtain ⟨U, hU⟩ : ∃ U, vv A B j = U := ⟨_, rfl⟩
                        have hU9 := vv_room HL.out HW.out Ha.out (by omega) j hj
                        rw [hU] at hU9
                        by_cases h4 : j < 4
                        · have hU8 := vv_less HL.out HW.out Ha.out (by omega) j h4
                          rw [hU] at hU8
                          have hst := vv_step A B j
                          rw [hU] at hst
                          by_cases hb : j < B.length
                          · obtain ⟨z, hz, z0, z1, hdB⟩ := behind_step HL.out HW.out Ha.out j hb
                            rw [hdB] at hst
                            have hin := behind_in HL.out Ha.out j hb
                            replace hst := Lib.hid hst
                            replace hU := Lib.hid hU
                            rw [hU.out]
                            go_wp2
                            all_goals
                              go_round
                              case rel => exact ⟨j + 1, by omega, by go_num, by rw [hst.out]; exact int_eq (by omega)⟩
                              case measure => simp [intOf]; omega
                          · have hout := behind_out HL.out Ha.out j hb
                            rw [dB_none hb] at hst
                            replace hst := Lib.hid hst
                            replace hU := Lib.hid hU
                            rw [hU.out]
                            go_wp2
                            all_goals
                              go_round
                              case rel => exact ⟨j + 1, by omega, by go_num, by rw [hst.out]; exact int_eq (by omega)⟩
                              case measure => simp [intOf]; omega
                        · obtain rfl : j = 4 := by omega
                          rw [vv_four] at hU
                          rw [show vv A B 4 = U by rw [vv_four]; exact hU]
                          by_cases hp : 1000000 < U
                          · have hfin : Hid (1000000 < parts A B) := by unfold Hid; rw [hU]; exact hp
                            replace hU := Lib.hid hU
                            have hpi : (1000000 : Int) < U := by omega
                            go_wp2
                            go_ret2
                            exact GivesRd.big HW.out hfin.out
                          · have hfin : Hid (parts A B ≤ 1000000) := by unfold Hid; rw [hU]; omega
                            replace hU := Lib.hid hU
                            have hpi : (U : Int) ≤ 1000000 := by omega
                            clear hp
                            go_wp2
                            go_ret2
                            exact GivesRd.fine HW.out hfin.out (by rw [hU.out])
            · have hxb : (x0 == 48) = false := by simpa using hz0
              have hfs := Lib.hid (show (nums s).getD 0 0 = 48 → A.length = 1 from fun e => (hz0 (hx0.out.symm.trans e)).elim)
              clear hz0
              have HW := Lib.hid (HL.out.good hdig.out (by have h1 := Ha.out; omega) (by have h1 := Ha.out; intro e; exact hfs.out e) (fun e => by cases e))
              by_cases h3 : 3 < a
              · have hbig := Lib.hid (HW.out.wide (by have h1 := Ha.out; omega))
                go_wp2 <;> (go_ret2; exact GivesRd.big HW.out hbig.out)
              · go_wp2
                go_loop [8, 9] (fun v8 v9 => ∃ k : Nat, k ≤ a ∧ v9 = .int .i64 k ∧ v8 = .int .u32 (numOf (A.take k) : Nat)) (fun _ v9 => a - (intOf v9).toNat)
                case atStart => exact ⟨0, Nat.zero_le _, rfl, rfl⟩
                case round =>
                  obtain ⟨k, hk, rfl, rfl⟩ := hrel
                  obtain ⟨V, hV⟩ : ∃ V, numOf (A.take k) = V := ⟨_, rfl⟩
                  have hV9 := num_room HW.out Ha.out (by omega) k hk
                  rw [hV] at hV9
                  by_cases hlt : k < a
                  · obtain ⟨z, hz, z0, z1, hst⟩ := num_step HL.out HW.out Ha.out k hlt
                    have hks : (k : Int) < (s.size : Int) := by have h8 := HL.out.size; have h9 := Ha.out; split at h8 <;> omega
                    rw [hV] at hst
                    replace hst := Lib.hid hst
                    replace hV := Lib.hid hV
                    rw [hV.out]
                    go_wp2
                    go_round
                    case rel => exact ⟨k + 1, by omega, by go_num, by rw [hst.out]; exact int_eq (by omega)⟩
                    case measure => simp [intOf]; omega
                  · obtain rfl : k = a := by omega
                    have hall : Hid (V = vv A B 0) := by unfold Hid; rw [← hV, ← Ha.out, List.take_length]; rfl
                    rw [hV]
                    clear hV
                    go_wp2
                    go_loop [8, 10] (fun v8 v10 => ∃ j : Nat, j ≤ 4 ∧ v10 = .int .i64 j ∧ v8 = .int .u32 (vv A B j : Nat)) (fun _ v10 => 4 - (intOf v10).toNat)
                    case atStart => exact ⟨0, by omega, rfl, by rw [← hall.out]⟩
                    case round =>
                      obtain ⟨j, hj, rfl, rfl⟩ := hrel
                      clear hall hV9
                      obtain ⟨U, hU⟩ : ∃ U, vv A B j = U := ⟨_, rfl⟩
                      have hU9 := vv_room HL.out HW.out Ha.out (by omega) j hj
                      rw [hU] at hU9
                      by_cases h4 : j < 4
                      · have hU8 := vv_less HL.out HW.out Ha.out (by omega) j h4
                        rw [hU] at hU8
                        have hst := vv_step A B j
                        rw [hU] at hst
                        by_cases hb : j < B.length
                        · obtain ⟨z, hz, z0, z1, hdB⟩ := behind_step HL.out HW.out Ha.out j hb
                          rw [hdB] at hst
                          have hin := behind_in HL.out Ha.out j hb
                          replace hst := Lib.hid hst
                          replace hU := Lib.hid hU
                          rw [hU.out]
                          go_wp2
                          all_goals
                            go_round
                            case rel => exact ⟨j + 1, by omega, by go_num, by rw [hst.out]; exact int_eq (by omega)⟩
                            case measure => simp [intOf]; omega
                        · have hout := behind_out HL.out Ha.out j hb
                          rw [dB_none hb] at hst
                          replace hst := Lib.hid hst
                          replace hU := Lib.hid hU
                          rw [hU.out]
                          go_wp2
                          all_goals
                            go_round
                            case rel => exact ⟨j + 1, by omega, by go_num, by rw [hst.out]; exact int_eq (by omega)⟩
                            case measure => simp [intOf]; omega
                      · obtain rfl : j = 4 := by omega
                        rw [vv_four] at hU
                        rw [show vv A B 4 = U by rw [vv_four]; exact hU]
                        by_cases hp : 1000000 < U
                        · have hfin : Hid (1000000 < parts A B) := by unfold Hid; rw [hU]; exact hp
                          replace hU := Lib.hid hU
                          have hpi : (1000000 : Int) < U := by omega
                          go_wp2
                          go_ret2
                          exact GivesRd.big HW.out hfin.out
                        · have hfin : Hid (parts A B ≤ 1000000) := by unfold Hid; rw [hU]; omega
                          replace hU := Lib.hid hU
                          have hpi : (U : Int) ≤ 1000000 := by omega
                          clear hp
                          go_wp2
                          go_ret2
                          exact GivesRd.fine HW.out hfin.out (by rw [hU.out])
        | true =>
          simp only [if_true] at hsz
          have hda : (a : Int) < (s.size : Int) - 1 := by omega
          have hbl : Hid (bh = (B.length : Int)) := by unfold Hid; omega
          clear hsz
          by_cases hb1 : bh < 1
          · have hbad := Lib.hid (fun g : Written A B true => (by have h1 := ((HL.out.tests g).2.2 rfl).1; have h2 := hbl.out; omega : False))
            go_wp2 <;> (go_ret2; exact GivesRd.no hbad.out)
          · by_cases hb4 : 4 < bh
            · have hbad := Lib.hid (fun g : Written A B true => (by have h1 := ((HL.out.tests g).2.2 rfl).2.1; have h2 := hbl.out; omega : False))
              go_wp2 <;> (go_ret2; exact GivesRd.no hbad.out)
            · by_cases hb8 : x2 = 48
              · have hbad := Lib.hid (fun g : Written A B true => ((HL.out.tests g).2.2 rfl).2.2 (hx2.out.trans hb8))
                have hxb2 : (x2 == 48) = true := by simpa using hb8
                clear hb8
                go_wp2 <;> (go_ret2; exact GivesRd.no hbad.out)
              · have hfr := Lib.hid (show 1 ≤ B.length ∧ B.length ≤ 4 ∧ (nums s).getD (s.size - 2) 0 ≠ 48 from ⟨by have h2 := hbl.out; omega, by have h2 := hbl.out; omega, fun e => hb8 (hx2.out.symm.trans e)⟩)
                have hxb2 : (x2 == 48) = false := by simpa using hb8
                clear hb8
                by_cases ha0 : a = 0
                · have hbad := Lib.hid (fun g : Written A B true => (by have h1 := (HL.out.tests g).1; have h2 := Ha.out; omega : False))
                  have hab : ((a : Int) == 0) = true := by simp; omega
                  go_wp2 <;> (go_ret2; exact GivesRd.no hbad.out)
                · have hab : ((a : Int) == 0) = false := by simp; omega
                  by_cases hz0 : x0 = 48
                  · have hxb : (x0 == 48) = true := by simpa using hz0
                    by_cases ha1 : 1 < a
                    · have hbad := Lib.hid (fun g : Written A B true => (by have h1 := (HL.out.tests g).2.1 (hx0.out.trans hz0); have h2 := Ha.out; omega : False))
                      clear hz0
                      go_wp2 <;> (go_ret2; exact GivesRd.no hbad.out)
                    · have hfs := Lib.hid (show (nums s).getD 0 0 = 48 → A.length = 1 by intro _; have h2 := Ha.out; omega)
                      clear hz0
                      have HW := Lib.hid (HL.out.good hdig.out (by have h1 := Ha.out; omega) (by have h1 := Ha.out; intro e; exact hfs.out e) (fun _ => hfr.out))
                      by_cases h3 : 3 < a
                      · have hbig := Lib.hid (HW.out.wide (by have h1 := Ha.out; omega))
                        go_wp2 <;> (go_ret2; exact GivesRd.big HW.out hbig.out)
                      · go_wp2
                        go_loop [8, 9] (fun v8 v9 => ∃ k : Nat, k ≤ a ∧ v9 = .int .i64 k ∧ v8 = .int .u32 (numOf (A.take k) : Nat)) (fun _ v9 => a - (intOf v9).toNat)
                        case atStart => exact ⟨0, Nat.zero_le _, rfl, rfl⟩
                        case round =>
                          obtain ⟨k, hk, rfl, rfl⟩ := hrel
                          obtain ⟨V, hV⟩ : ∃ V, numOf (A.take k) = V := ⟨_, rfl⟩
                          have hV9 := num_room HW.out Ha.out (by omega) k hk
                          rw [hV] at hV9
                          by_cases hlt : k < a
                          · obtain ⟨z, hz, z0, z1, hst⟩ := num_step HL.out HW.out Ha.out k hlt
                            have hks : (k : Int) < (s.size : Int) := by have h8 := HL.out.size; have h9 := Ha.out; split at h8 <;> omega
                            rw [hV] at hst
                            replace hst := Lib.hid hst
                            replace hV := Lib.hid hV
                            rw [hV.out]
                            go_wp2
                            go_round
                            case rel => exact ⟨k + 1, by omega, by go_num, by rw [hst.out]; exact int_eq (by omega)⟩
                            case measure => simp [intOf]; omega
                          · obtain rfl : k = a := by omega
                            have hall : Hid (V = vv A B 0) := by unfold Hid; rw [← hV, ← Ha.out, List.take_length]; rfl
                            rw [hV]
                            clear hV
                            go_wp2
                            go_loop [8, 10] (fun v8 v10 => ∃ j : Nat, j ≤ 4 ∧ v10 = .int .i64 j ∧ v8 = .int .u32 (vv A B j : Nat)) (fun _ v10 => 4 - (intOf v10).toNat)
                            case atStart => exact ⟨0, by omega, rfl, by rw [← hall.out]⟩
                            case round =>
                              obtain ⟨j, hj, rfl, rfl⟩ := hrel
                              clear hall hV9
                              obtain ⟨U, hU⟩ : ∃ U, vv A B j = U := ⟨_, rfl⟩
                              have hU9 := vv_room HL.out HW.out Ha.out (by omega) j hj
                              rw [hU] at hU9
                              by_cases h4 : j < 4
                              · have hU8 := vv_less HL.out HW.out Ha.out (by omega) j h4
                                rw [hU] at hU8
                                have hst := vv_step A B j
                                rw [hU] at hst
                                by_cases hb : j < B.length
                                · obtain ⟨z, hz, z0, z1, hdB⟩ := behind_step HL.out HW.out Ha.out j hb
                                  rw [hdB] at hst
                                  have hin := behind_in HL.out Ha.out j hb
                                  replace hst := Lib.hid hst
                                  replace hU := Lib.hid hU
                                  rw [hU.out]
                                  go_wp2
                                  all_goals
                                    go_round
                                    case rel => exact ⟨j + 1, by omega, by go_num, by rw [hst.out]; exact int_eq (by omega)⟩
                                    case measure => simp [intOf]; omega
                                · have hout := behind_out HL.out Ha.out j hb
                                  rw [dB_none hb] at hst
                                  replace hst := Lib.hid hst
                                  replace hU := Lib.hid hU
                                  rw [hU.out]
                                  go_wp2
                                  all_goals
                                    go_round
                                    case rel => exact ⟨j + 1, by omega, by go_num, by rw [hst.out]; exact int_eq (by omega)⟩
                                    case measure => simp [intOf]; omega
                              · obtain rfl : j = 4 := by omega
                                rw [vv_four] at hU
                                rw [show vv A B 4 = U by rw [vv_four]; exact hU]
                                by_cases hp : 1000000 < U
                                · have hfin : Hid (1000000 < parts A B) := by unfold Hid; rw [hU]; exact hp
                                  replace hU := Lib.hid hU
                                  have hpi : (1000000 : Int) < U := by omega
                                  go_wp2
                                  go_ret2
                                  exact GivesRd.big HW.out hfin.out
                                · have hfin : Hid (parts A B ≤ 1000000) := by unfold Hid; rw [hU]; omega
                                  replace hU := Lib.hid hU
                                  have hpi : (U : Int) ≤ 1000000 := by omega
                                  clear hp
                                  go_wp2
                                  go_ret2
                                  exact GivesRd.fine HW.out hfin.out (by rw [hU.out])
                  · have hxb : (x0 == 48) = false := by simpa using hz0
                    have hfs := Lib.hid (show (nums s).getD 0 0 = 48 → A.length = 1 from fun e => (hz0 (hx0.out.symm.trans e)).elim)
                    clear hz0
                    have HW := Lib.hid (HL.out.good hdig.out (by have h1 := Ha.out; omega) (by have h1 := Ha.out; intro e; exact hfs.out e) (fun _ => hfr.out))
                    by_cases h3 : 3 < a
                    · have hbig := Lib.hid (HW.out.wide (by have h1 := Ha.out; omega))
                      go_wp2 <;> (go_ret2; exact GivesRd.big HW.out hbig.out)
                    · go_wp2
                      go_loop [8, 9] (fun v8 v9 => ∃ k : Nat, k ≤ a ∧ v9 = .int .i64 k ∧ v8 = .int .u32 (numOf (A.take k) : Nat)) (fun _ v9 => a - (intOf v9).toNat)
                      case atStart => exact ⟨0, Nat.zero_le _, rfl, rfl⟩
                      case round =>
                        obtain ⟨k, hk, rfl, rfl⟩ := hrel
                        obtain ⟨V, hV⟩ : ∃ V, numOf (A.take k) = V := ⟨_, rfl⟩
                        have hV9 := num_room HW.out Ha.out (by omega) k hk
                        rw [hV] at hV9
                        by_cases hlt : k < a
                        · obtain ⟨z, hz, z0, z1, hst⟩ := num_step HL.out HW.out Ha.out k hlt
                          have hks : (k : Int) < (s.size : Int) := by have h8 := HL.out.size; have h9 := Ha.out; split at h8 <;> omega
                          rw [hV] at hst
                          replace hst := Lib.hid hst
                          replace hV := Lib.hid hV
                          rw [hV.out]
                          go_wp2
                          go_round
                          case rel => exact ⟨k + 1, by omega, by go_num, by rw [hst.out]; exact int_eq (by omega)⟩
                          case measure => simp [intOf]; omega
                        · obtain rfl : k = a := by omega
                          have hall : Hid (V = vv A B 0) := by unfold Hid; rw [← hV, ← Ha.out, List.take_length]; rfl
                          rw [hV]
                          clear hV
                          go_wp2
                          go_loop [8, 10] (fun v8 v10 => ∃ j : Nat, j ≤ 4 ∧ v10 = .int .i64 j ∧ v8 = .int .u32 (vv A B j : Nat)) (fun _ v10 => 4 - (intOf v10).toNat)
                          case atStart => exact ⟨0, by omega, rfl, by rw [← hall.out]⟩
                          case round =>
                            obtain ⟨j, hj, rfl, rfl⟩ := hrel
                            clear hall hV9
                            obtain ⟨U, hU⟩ : ∃ U, vv A B j = U := ⟨_, rfl⟩
                            have hU9 := vv_room HL.out HW.out Ha.out (by omega) j hj
                            rw [hU] at hU9
                            by_cases h4 : j < 4
                            · have hU8 := vv_less HL.out HW.out Ha.out (by omega) j h4
                              rw [hU] at hU8
                              have hst := vv_step A B j
                              rw [hU] at hst
                              by_cases hb : j < B.length
                              · obtain ⟨z, hz, z0, z1, hdB⟩ := behind_step HL.out HW.out Ha.out j hb
                                rw [hdB] at hst
                                have hin := behind_in HL.out Ha.out j hb
                                replace hst := Lib.hid hst
                                replace hU := Lib.hid hU
                                rw [hU.out]
                                go_wp2
                                all_goals
                                  go_round
                                  case rel => exact ⟨j + 1, by omega, by go_num, by rw [hst.out]; exact int_eq (by omega)⟩
                                  case measure => simp [intOf]; omega
                              · have hout := behind_out HL.out Ha.out j hb
                                rw [dB_none hb] at hst
                                replace hst := Lib.hid hst
                                replace hU := Lib.hid hU
                                rw [hU.out]
                                go_wp2
                                all_goals
                                  go_round
                                  case rel => exact ⟨j + 1, by omega, by go_num, by rw [hst.out]; exact int_eq (by omega)⟩
                                  case measure => simp [intOf]; omega
                            · obtain rfl : j = 4 := by omega
                              rw [vv_four] at hU
                              rw [show vv A B 4 = U by rw [vv_four]; exact hU]
                              by_cases hp : 1000000 < U
                              · have hfin : Hid (1000000 < parts A B) := by unfold Hid; rw [hU]; exact hp
                                replace hU := Lib.hid hU
                                have hpi : (1000000 : Int) < U := by omega
                                go_wp2
                                go_ret2
                                exact GivesRd.big HW.out hfin.out
                              · have hfin : Hid (parts A B ≤ 1000000) := by unfold Hid; rw [hU]; omega
                                replace hU := Lib.hid hU
                                have hpi : (U : Int) ≤ 1000000 := by omega
                                clear hp
                                go_wp2
                                go_ret2
                                exact GivesRd.fine HW.out hfin.out (by rw [hU.out])

end Go.Proofs.YthfmllgflnideaaGreatDoor

/-
  The document's own answers for shares, walked: Print, and Read in its outcomes.
-/
namespace Go.Proofs.YthfmllgflnideaaGreatDoor
open Go.RowKit

/-- The digits behind the point, one after the other: k are left. -/
structure FrAt (L k m : Nat) (xs : List Int) : Prop where
  le : k ≤ 4
  lt : m < 10000
  all : fr 4 L = xs ++ fr k m
  div : m % 10 ^ (4 - k) = 0
  len : xs.length ≤ 4 - k
theorem FrAt.start (L : Nat) (h : L < 10000) : FrAt L 4 L [] := ⟨Nat.le_refl _, h, by simp, by simp [Nat.mod_one], by simp⟩
theorem FrAt.some {L k m : Nat} {xs : List Int} (h : FrAt L k m xs) (hm : ¬ m = 0) : ¬ k = 0 := by
  rintro rfl
  have h1 := h.div; have h2 := h.lt
  simp at h1; omega
theorem FrAt.next {L k m : Nat} {xs : List Int} (h : FrAt L k m xs) (hm : ¬ m = 0) : FrAt L (k - 1) (m % 1000 * 10) (xs ++ [48 + ((m / 1000 : Nat) : Int)]) := by
  have hk := h.some hm
  obtain ⟨h1, h2, h3, h4, h5⟩ := h
  obtain ⟨j, rfl⟩ : ∃ j, k = j + 1 := ⟨k - 1, by omega⟩
  refine ⟨by omega, by omega, ?_, ?_, by simp; omega⟩
  · rw [h3, fr_step hm]; simp
  · have hj : j = 0 ∨ j = 1 ∨ j = 2 ∨ j = 3 := by omega
    rcases hj with rfl | rfl | rfl | rfl <;> simp at h4 ⊢ <;> omega
theorem FrAt.last {L k m : Nat} {xs : List Int} (h : FrAt L k m xs) (hm : m = 0) : fr 4 L = xs := by
  subst hm; rw [h.all, fr_zero]; simp

/-- What stands ahead of the digits behind the point. -/
def preOf (p : Nat) : List Int := dec (p / 10000) ++ (if p % 10000 = 0 then [] else [46])
theorem preOf_len (p : Nat) (h : p ≤ 1000000) : (preOf p).length ≤ 40 := by
  unfold preOf
  have := dec_small_len (show p / 10000 ≤ 1000000 by omega)
  split <;> simp <;> omega
theorem pct_pre (p : Nat) : pct p = preOf p ++ fr 4 (p % 10000) ++ [37] := by
  unfold pct preOf tailOf
  split
  · rename_i h; rw [h, fr_zero]; simp
  · simp

end Go.Proofs.YthfmllgflnideaaGreatDoor

/-
  The document's own Read of shares, in its outcomes; and the chapter's examples.
-/
namespace Go.Proofs.YthfmllgflnideaaGreatDoor
open Go.RowKit

theorem halves_ex (ys : List Int) : ∃ A B d, Halves ys A B d := by
  induction ys with
  | nil => exact ⟨[], [], false, ⟨rfl, by simp, fun _ => rfl⟩⟩
  | cons x l ih =>
    by_cases h : x = 46
    · subst h
      exact ⟨[], l, true, ⟨rfl, by simp, fun e => by cases e⟩⟩
    · obtain ⟨A, B, d, h1, h2, h3⟩ := ih
      refine ⟨x :: A, B, d, ⟨by rw [h1]; rfl, fun hc => ?_, h3⟩⟩
      rcases List.mem_cons.mp hc with e | e
      · exact h e.symm
      · exact h2 e
theorem rread_cases (s : ByteArray) (hm : s.size ≤ 9223372036854775807) : Outcome (fun N c => ∀ w, Calls Tryz.prog 48 #[.string s] w (GivesPC N c w)) s := by
  by_cases he : ∃ ys, nums s = ys ++ [37]
  · obtain ⟨ys, hy⟩ := he
    obtain ⟨A, B, d, hH⟩ := halves_ex ys
    have hE : Ends s ys A B d := ⟨hy, hH⟩
    refine Or.inr ⟨ys, A, B, d, hE, ?_⟩
    have hr := fun w => rread_all s A B d w hm hE.lets
    by_cases hW : Written A B d
    · refine Or.inr ?_
      by_cases hp : 1000000 < parts A B
      · refine Or.inl ⟨hW, hp, fun w => (hr w).mono ?_⟩
        rintro e w' ⟨N, c, x, rfl, rfl, h, rfl⟩
        rcases h with ⟨h, _⟩ | ⟨_, _, rfl, rfl⟩ | ⟨_, h, _⟩
        · exact (h hW).elim
        · exact ⟨0, rfl, by decide, by decide, rfl, Below.refl _ _⟩
        · omega
      · refine Or.inr ⟨hW, by omega, fun w => (hr w).mono ?_⟩
        rintro e w' ⟨N, c, x, rfl, rfl, h, rfl⟩
        rcases h with ⟨h, _⟩ | ⟨_, h, _⟩ | ⟨_, h, rfl, rfl⟩
        · exact (h hW).elim
        · omega
        · exact ⟨_, rfl, by omega, by omega, by omega, Below.refl _ _⟩
    · refine Or.inl ⟨hW, fun w => (hr w).mono ?_⟩
      rintro e w' ⟨N, c, x, rfl, rfl, h, rfl⟩
      rcases h with ⟨_, rfl, rfl⟩ | ⟨h, _⟩ | ⟨h, _⟩
      · exact ⟨0, rfl, by decide, by decide, rfl, Below.refl _ _⟩
      · exact (hW h).elim
      · exact (hW h).elim
  · exact Or.inl ⟨he, fun w => rread_noend s w hm he⟩

theorem pct_len (p : Nat) (h : p ≤ 1000000) : (pct p).length ≤ 60 := by
  rw [pct_pre]
  have h1 := preOf_len p h
  have h2 := fr_len 4 (p % 10000)
  simp only [List.length_append, List.length_singleton]; omega
theorem awake_one : strOfNums (pct 999000) = ⟨#[57, 57, 46, 57, 37]⟩ := by
  simp [pct, dec, tailOf, fr, strOfNums]
theorem awake_two : strOfNums (pct 12345) = ⟨#[49, 46, 50, 51, 52, 53, 37]⟩ := by
  simp [pct, dec, tailOf, fr, strOfNums]
end Go.Proofs.YthfmllgflnideaaGreatDoor
