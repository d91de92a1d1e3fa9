/-
  The document's own answers for shares, walked: Read in its outcomes.
-/
import Derived.Test.YtmgimkokmlcllaaGreatDoorPkPpm
import Derived.Deep.LoopGhost
import Derived.Test.YtmgimkokmlcllaaGreatDoorPkRefs
namespace Go.Proofs.YtmgimkokmlcllaaGreatDoor
open Go.RowKit

theorem ends_len {s : ByteArray} {ys : List Int} (h : nums s = ys ++ [37]) : s.size = ys.length + 1 := by rw [← nums_length, h]; simp
theorem ends_last {s : ByteArray} {ys : List Int} (h : nums s = ys ++ [37]) : (nums s).getD (s.size - 1) 0 = 37 := by
  rw [ends_len h, h, List.getD_eq_getElem?_getD, List.getElem?_append_right (by omega)]; simp
theorem ends_of {s : ByteArray} (h0 : 0 < s.size) (h : (nums s).getD (s.size - 1) 0 = 37) : ∃ ys, nums s = ys ++ [37] := by
  have hl : nums s ≠ [] := fun e => by have := nums_length s; rw [e] at this; simp at this; omega
  refine ⟨(nums s).dropLast, ?_⟩
  have hx := List.dropLast_concat_getLast hl
  rw [List.getLast_eq_getElem] at hx
  have e : (nums s)[(nums s).length - 1]'(by have := nums_length s; omega) = 37 := by
    rw [← nums_length, List.getD_eq_getElem?_getD, List.getElem?_eq_getElem (by have := nums_length s; omega)] at h
    exact h
  rw [e] at hx
  exact hx.symm

def isD (z : Int) : Prop := 48 ≤ z ∧ z ≤ 57
structure Lets (s : ByteArray) (A B : List Int) (d : Bool) : Prop where
  size : s.size = if d then A.length + B.length + 2 else A.length + 1
  ahead : ∀ i, i < A.length → (nums s).getD i 0 = A.getD i 0 ∧ A.getD i 0 ≠ 46
  point : d = true → (nums s).getD A.length 0 = 46
  behind : ∀ i, i < B.length → (nums s).getD (A.length + 1 + i) 0 = B.getD i 0
  last : (nums s).getD (s.size - 1) 0 = 37
  nil : d = false → B = []
def dotI (a n k : Nat) : Int := if k ≤ a then (n : Int) - 1 else a
def DigTo (s : ByteArray) (a k : Nat) : Prop := ∀ i, i < k → i ≠ a → isD ((nums s).getD i 0)
def vv (A B : List Int) : Nat → Nat
  | 0 => numOf A
  | k + 1 => 10 * vv A B k + dB B k
theorem numOf_lt {A : List Int} (h : ∀ i, i < A.length → 48 ≤ A.getD i 0 ∧ A.getD i 0 ≤ 57) (k : Nat) (hk : k ≤ A.length) : numOf (A.take k) < 10 ^ k := by
  induction k with
  | zero => simp [numOf_nil]
  | succ k ih =>
    have := ih (by omega)
    have h1 := h k (by omega)
    rw [numOf_step A k (by omega), Nat.pow_succ]; omega
def GivesRd (A B : List Int) (d : Bool) (w : World) (e : Ending) (w' : World) : Prop := ∃ (N : Nat) (c x : Int), e = .returned (.tuple #[.int .u32 x, .int .i64 c]) ∧ x = (N : Int) ∧
  ((¬ Written A B d ∧ N = 0 ∧ c = 5) ∨ (Written A B d ∧ 1000000 < parts A B ∧ N = 0 ∧ c = 8) ∨ (Written A B d ∧ parts A B ≤ 1000000 ∧ N = parts A B ∧ c = 0)) ∧ w = w'
end Go.Proofs.YtmgimkokmlcllaaGreatDoor

/-
  The document's own answers for shares, walked: Read of a text that ends with %.
-/
namespace Go.Proofs.YtmgimkokmlcllaaGreatDoor
open Go.RowKit

end Go.Proofs.YtmgimkokmlcllaaGreatDoor

/-
  The document's own answers for shares, walked: Print, and Read in its outcomes.
-/
namespace Go.Proofs.YtmgimkokmlcllaaGreatDoor
open Go.RowKit

theorem digits_num (A : Nat) (v : Value) (l : List Bool) (w : World) (hv : Bools w v l) (hl : l.length ≤ 100000) (hA : W128 A) (he : val l = A) :
    Calls Tryz.prog 76 #[v] w fun e w' => e = .returned (.string (strOfNums (dec A))) ∧ Below w.heap.size w w' := by
  subst he; exact digits_any v l w hv hl hA
structure FrAt (L k m : Nat) (xs : List Int) : Prop where
  le : k ≤ 4
  lt : m < 10000
  all : fr 4 L = xs ++ fr k m
  div : m % 10 ^ (4 - k) = 0
  len : xs.length ≤ 4 - k
theorem FrAt.start (L : Nat) (h : L < 10000) : FrAt L 4 L [] := ⟨Nat.le_refl _, h, by simp, by simp [Nat.mod_one], by simp⟩
theorem FrAt.some {L k m : Nat} {xs : List Int} (h : FrAt L k m xs) (hm : ¬ m = 0) : ¬ k = 0 := by
  rintro rfl
  have h1 := h.div; have h2 := h.lt
  simp at h1; omega
theorem FrAt.next {L k m : Nat} {xs : List Int} (h : FrAt L k m xs) (hm : ¬ m = 0) : FrAt L (k - 1) (m % 1000 * 10) (xs ++ [48 + ((m / 1000 : Nat) : Int)]) := by
  have hk := h.some hm
  obtain ⟨h1, h2, h3, h4, h5⟩ := h
  obtain ⟨j, rfl⟩ : ∃ j, k = j + 1 := ⟨k - 1, by omega⟩
  refine ⟨by omega, by omega, ?_, ?_, by simp; omega⟩
  · rw [h3, fr_step hm]; simp
  · have hj : j = 0 ∨ j = 1 ∨ j = 2 ∨ j = 3 := by omega
    rcases hj with rfl | rfl | rfl | rfl <;> simp at h4 ⊢ <;> omega
theorem FrAt.last {L k m : Nat} {xs : List Int} (h : FrAt L k m xs) (hm : m = 0) : fr 4 L = xs := by
  subst hm; rw [h.all, fr_zero]; simp

def preOf (p : Nat) : List Int := dec (p / 10000) ++ (if p % 10000 = 0 then [] else [46])
theorem preOf_len (p : Nat) (h : p ≤ 1000000) : (preOf p).length ≤ 40 := by
  unfold preOf
  have := dec_small_len (show p / 10000 ≤ 1000000 by omega)
  split <;> simp <;> omega
theorem pct_pre (p : Nat) : pct p = preOf p ++ fr 4 (p % 10000) ++ [37] := by
  unfold pct preOf tailOf
  split
  · rename_i h; rw [h, fr_zero]; simp
  · simp

set_option maxRecDepth 100000 in
set_option maxHeartbeats 1000000 in
theorem rpprint_any (p : Int) (w : World) (h0 : 0 ≤ p) (h : p ≤ 1000000) :
    Calls Tryz.prog 47 #[.int .u32 p] w fun e w' => e = .returned (.string (strOfNums (pct p.toNat))) ∧ Below w.heap.size w w' := by
  obtain ⟨q, hq⟩ : ∃ q, p / 10000 = q := ⟨_, rfl⟩
  obtain ⟨L, hL⟩ : ∃ L : Nat, p % 10000 = (L : Int) := ⟨(p % 10000).toNat, by omega⟩
  have q0 : 0 ≤ q := by omega
  have q1 : q ≤ 100 := by omega
  have hL9 : Hid (L < 10000) := by unfold Hid; omega
  have hqn : Hid (q.toNat = p.toNat / 10000) := by unfold Hid; omega
  have hln : Hid (L = p.toNat % 10000) := by unfold Hid; omega
  have hpl : Hid ((preOf p.toNat).length ≤ 40) := preOf_len _ (by omega)
  have hfin := Lib.hid (pct_pre p.toNat)
  have hsq : (strOfNums (dec q.toNat)).size ≤ 39 := by rw [strOfNums_size]; exact dec_small_len (by omega)
  by_cases hz : L = 0
  · have hpre : Hid (strOfNums (dec q.toNat) = strOfNums (preOf p.toNat)) := by unfold Hid preOf; rw [if_pos (by have := hln.out; omega), hqn.out]; simp
    subst hz
    have e0 : ((0 : Nat) : Int) = 0 := rfl
    go_enter Tryz.func47, Tryz.ntmps47
    go_wp2_with (first
      | (go_at_call 77; (with_reducible refine (bits_small q _ q0 (by omega)).mono ?_); rintro e w1 ⟨v, l, rfl, hv, ⟨hl, he⟩, g1⟩)
      | (go_at_call 76; (with_reducible refine (digits_num q.toNat v l _ hv (by omega) (by unfold W128; omega) he).mono ?_); rintro e w2 ⟨rfl, g2⟩; clear hl he hv; have DD := below_step g1 g2))
    go_loopg [3, 4] 4 (fun k v3 v4 wr => ∃ (j m : Nat) (xs : List Int), Hid (j ≤ k) ∧ v3 = .string (strOfNums (preOf p.toNat ++ xs)) ∧ v4 = .int .u32 m ∧ FrAt 0 j m xs ∧ Below w.heap.size w wr)
    case atStart => exact ⟨4, 0, [], Lib.hid (Nat.le_refl _), by rw [List.append_nil, ← hpre.out], by rw [hL], FrAt.start 0 hL9.out, DD⟩
    case round =>
      obtain ⟨j, m, xs, hj, rfl, rfl, hF, hbel⟩ := hrel
      have HF := Lib.hid hF
      have hm9 : m < 10000 := hF.lt
      have hsz : (strOfNums (preOf p.toNat ++ xs)).size ≤ 44 := by rw [strOfNums_size, List.length_append]; have h1 := hpl.out; have h2 := hF.len; omega
      clear hF
      by_cases hm : m = 0
      · have hlast := Lib.hid (HF.out.last hm)
        subst hm
        have hs1 : (strOfNums (preOf p.toNat ++ xs)).size + 1 ≤ 9223372036854775807 := by omega
        go_wp2
        go_ret
        exact ⟨by rw [hfin.out, ← hln.out, hlast.out, ← str_percent]; rfl, hbel⟩
      · have hk := HF.out.some hm
        have hnext := Lib.hid (HF.out.next hm)
        have hmp : 0 < (m : Int) := by omega
        have hmb : decide ((m : Int) > 0) = true := by simp; omega
        obtain ⟨r, hr⟩ : ∃ r, (m : Int) / 1000 = r := ⟨_, rfl⟩
        obtain ⟨y, hy⟩ : ∃ y, (m : Int) % 1000 = y := ⟨_, rfl⟩
        have r0 : 0 ≤ r := by omega
        have r1 : r ≤ 9 := by omega
        have y0 : 0 ≤ y := by omega
        have y1 : y ≤ 999 := by omega
        have hrn : Hid (r = ((m / 1000 : Nat) : Int)) := by unfold Hid; omega
        have hyn : Hid (y * 10 = ((m % 1000 * 10 : Nat) : Int)) := by unfold Hid; omega
        have hcv := one_letter wr (48 + r) wr.heap.size rfl
        have hap := strOfNums_append (preOf p.toNat ++ xs) [48 + r]
        have hs1 : (strOfNums (preOf p.toNat ++ xs)).size + (strOfNums [48 + r]).size ≤ 9223372036854775807 := by have e : (strOfNums [48 + r]).size = 1 := rfl; omega
        clear hm
        go_wp2
        have D2 := below_more hbel (.cells #[.int .u8 (48 + r)] 5)
        go_roundg (j - 1)
        case measure => have := hj.out; omega
        case rel => exact ⟨j - 1, m % 1000 * 10, xs ++ [48 + r], Lib.hid (Nat.le_refl _), by rw [← List.append_assoc], by rw [hyn.out], by rw [hrn.out]; exact hnext.out, D2⟩
  · have hpre : Hid (strOfNums (dec q.toNat) ++ ⟨#[46]⟩ = strOfNums (preOf p.toNat)) := by unfold Hid preOf; rw [if_neg (by have := hln.out; omega), hqn.out, str_point]
    have hLp : 0 < (L : Int) := by omega
    have hLb : decide ((L : Int) > 0) = true := by simp; omega
    have hs1 : (strOfNums (dec q.toNat)).size + 1 ≤ 9223372036854775807 := by omega
    clear hz
    go_enter Tryz.func47, Tryz.ntmps47
    go_wp2_with (first
      | (go_at_call 77; (with_reducible refine (bits_small q _ q0 (by omega)).mono ?_); rintro e w1 ⟨v, l, rfl, hv, ⟨hl, he⟩, g1⟩)
      | (go_at_call 76; (with_reducible refine (digits_num q.toNat v l _ hv (by omega) (by unfold W128; omega) he).mono ?_); rintro e w2 ⟨rfl, g2⟩; clear hl he hv; have DD := below_step g1 g2))
    go_loopg [3, 4] 4 (fun k v3 v4 wr => ∃ (j m : Nat) (xs : List Int), Hid (j ≤ k) ∧ v3 = .string (strOfNums (preOf p.toNat ++ xs)) ∧ v4 = .int .u32 m ∧ FrAt L j m xs ∧ Below w.heap.size w wr)
    case atStart => exact ⟨4, L, [], Lib.hid (Nat.le_refl _), by rw [List.append_nil, ← hpre.out], by rw [hL], FrAt.start L hL9.out, DD⟩
    case round =>
      obtain ⟨j, m, xs, hj, rfl, rfl, hF, hbel⟩ := hrel
      have HF := Lib.hid hF
      have hm9 : m < 10000 := hF.lt
      have hsz : (strOfNums (preOf p.toNat ++ xs)).size ≤ 44 := by rw [strOfNums_size, List.length_append]; have h1 := hpl.out; have h2 := hF.len; omega
      clear hF
      by_cases hm : m = 0
      · have hlast := Lib.hid (HF.out.last hm)
        subst hm
        have hs1 : (strOfNums (preOf p.toNat ++ xs)).size + 1 ≤ 9223372036854775807 := by omega
        go_wp2
        go_ret
        exact ⟨by rw [hfin.out, ← hln.out, hlast.out, ← str_percent]; rfl, hbel⟩
      · have hk := HF.out.some hm
        have hnext := Lib.hid (HF.out.next hm)
        have hmp : 0 < (m : Int) := by omega
        have hmb : decide ((m : Int) > 0) = true := by simp; omega
        obtain ⟨r, hr⟩ : ∃ r, (m : Int) / 1000 = r := ⟨_, rfl⟩
        obtain ⟨y, hy⟩ : ∃ y, (m : Int) % 1000 = y := ⟨_, rfl⟩
        have r0 : 0 ≤ r := by omega
        have r1 : r ≤ 9 := by omega
        have y0 : 0 ≤ y := by omega
        have y1 : y ≤ 999 := by omega
        have hrn : Hid (r = ((m / 1000 : Nat) : Int)) := by unfold Hid; omega
        have hyn : Hid (y * 10 = ((m % 1000 * 10 : Nat) : Int)) := by unfold Hid; omega
        have hcv := one_letter wr (48 + r) wr.heap.size rfl
        have hap := strOfNums_append (preOf p.toNat ++ xs) [48 + r]
        have hs1 : (strOfNums (preOf p.toNat ++ xs)).size + (strOfNums [48 + r]).size ≤ 9223372036854775807 := by have e : (strOfNums [48 + r]).size = 1 := rfl; omega
        clear hm
        go_wp2
        have D2 := below_more hbel (.cells #[.int .u8 (48 + r)] 5)
        go_roundg (j - 1)
        case measure => have := hj.out; omega
        case rel => exact ⟨j - 1, m % 1000 * 10, xs ++ [48 + r], Lib.hid (Nat.le_refl _), by rw [← List.append_assoc], by rw [hyn.out], by rw [hrn.out]; exact hnext.out, D2⟩

end Go.Proofs.YtmgimkokmlcllaaGreatDoor

/-
  The document's own Read of shares, in its outcomes; and the chapter's examples.
-/
namespace Go.Proofs.YtmgimkokmlcllaaGreatDoor
open Go.RowKit

end Go.Proofs.YtmgimkokmlcllaaGreatDoor
