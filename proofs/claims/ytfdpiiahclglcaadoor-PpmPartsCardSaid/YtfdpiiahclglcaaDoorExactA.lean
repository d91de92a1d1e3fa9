/-
  Package exact, walked: order, Compare, Times, Ratio, Add, Less: each by what its numbers are.
-/
import Derived.WalkKit
import Derived.WalkSpells
import Derived.WalkLawsBesides
import Derived.WalkSmall
import Derived.Lib.Hide
import Derived.Laws.Externs
import Derived.Shelf.Spec.BitsCarry
import Derived.Test.YtfdpiiahclglcaaDoorShelf
import Derived.Test.YtfdpiiahclglcaaDoorWide
namespace Go.Proofs.YtfdpiiahclglcaaDoor
open Go.RowKit

theorem order_any (a b : Int) (w : World) (ha : 0 ≤ a) (hb : 0 ≤ b) :
    Calls Tryd.prog 44 #[.int .u64 a, .int .u64 b] w fun e w' => e = .returned (.int .i64 (cmpI a.toNat b.toNat)) ∧ w = w' := by
  by_cases h1 : a < b
  · have hc := Lib.hid (cmpI_lt (show a.toNat < b.toNat by omega))
    go_enter Tryd.func44, Tryd.ntmps44
    go_wp2
    go_ret
    exact ⟨by rw [hc.out]; rfl, rfl⟩
  · by_cases h2 : b < a
    · have hc := Lib.hid (cmpI_gt (show b.toNat < a.toNat by omega))
      go_enter Tryd.func44, Tryd.ntmps44
      go_wp2
      go_ret
      exact ⟨by rw [hc.out]; rfl, rfl⟩
    · have hc := Lib.hid (cmpI_eq (show a.toNat = b.toNat by omega))
      go_enter Tryd.func44, Tryd.ntmps44
      go_wp2
      go_ret
      exact ⟨by rw [hc.out]; rfl, rfl⟩

theorem cmp_hi {ah al bh bl : Int} {A B : Nat} (ha : IsW ah al A) (hb : IsW bh bl B) (h : ¬ ah = bh) : cmpI ah.toNat bh.toNat = cmpI A B := by
  obtain ⟨a, b, c, d, e⟩ := ha; obtain ⟨a', b', c', d', e'⟩ := hb
  by_cases hlt : ah < bh
  · rw [cmpI_lt (by omega), cmpI_lt (by omega)]
  · rw [cmpI_gt (by omega), cmpI_gt (by omega)]
theorem cmp_lo {ah al bl : Int} {A B : Nat} (ha : IsW ah al A) (hb : IsW ah bl B) : cmpI al.toNat bl.toNat = cmpI A B := by
  obtain ⟨a, b, c, d, e⟩ := ha; obtain ⟨a', b', c', d', e'⟩ := hb
  by_cases hlt : al < bl
  · rw [cmpI_lt (by omega), cmpI_lt (by omega)]
  · by_cases hgt : bl < al
    · rw [cmpI_gt (by omega), cmpI_gt (by omega)]
    · rw [cmpI_eq (by omega), cmpI_eq (by omega)]

theorem ecompare_any (ah al bh bl : Int) (A B : Nat) (w : World) (ha : IsW ah al A) (hb : IsW bh bl B) :
    Calls Tryd.prog 28 #[.agg #[.int .u64 ah, .int .u64 al], .agg #[.int .u64 bh, .int .u64 bl]] w fun e w' => e = .returned (.int .i64 (cmpI A B)) ∧ Below w.heap.size w w' := by
  have HA := Lib.hid ha
  have HB := Lib.hid hb
  obtain ⟨a0, _, a1, _, _⟩ := ha
  obtain ⟨b0, _, b1, _, _⟩ := hb
  by_cases h : ah = bh
  · subst h
    have hc := Lib.hid (cmp_lo HA.out HB.out)
    go_enter Tryd.func28, Tryd.ntmps28
    go_wp2_with (go_at_call 44; (with_reducible refine (order_any _ _ _ (by assumption) (by assumption)).mono ?_); rintro e w' ⟨rfl, rfl⟩)
    go_ret
    exact ⟨by rw [hc.out]; rfl, ((Below.refl _ _).alloc (Nat.le_refl _) _).alloc (by simp) _⟩
  · have hc := Lib.hid (cmp_hi HA.out HB.out h)
    have hne : (ah == bh) = false := by simpa using h
    go_enter Tryd.func28, Tryd.ntmps28
    go_wp2_with (go_at_call 44; (with_reducible refine (order_any _ _ _ (by assumption) (by assumption)).mono ?_); rintro e w' ⟨rfl, rfl⟩)
    go_ret
    exact ⟨by rw [hc.out]; rfl, ((Below.refl _ _).alloc (Nat.le_refl _) _).alloc (by simp) _⟩

/-- Two halves that are a number. -/
def GivesMul (N : Nat) (w : World) (e : Ending) (w' : World) : Prop := ∃ h l : Int, e = .returned (.tuple #[.int .u64 h, .int .u64 l]) ∧ IsW h l N ∧ w = w'
def GivesW (N : Nat) (w : World) (e : Ending) (w' : World) : Prop := ∃ h l : Int, e = .returned (.agg #[.int .u64 h, .int .u64 l]) ∧ IsW h l N ∧ Below w.heap.size w w'
def GivesWC (N : Nat) (c : Int) (w : World) (e : Ending) (w' : World) : Prop := ∃ h l : Int, e = .returned (.tuple #[.agg #[.int .u64 h, .int .u64 l], .int .i64 c]) ∧ IsW h l N ∧ Below w.heap.size w w'

theorem mul64_any (x y : Int) (w : World) (hx : 0 ≤ x) (hx' : x ≤ 18446744073709551615) (hy : 0 ≤ y) (hy' : y ≤ 18446744073709551615) :
    Calls Tryd.prog 45 #[.int .u64 x, .int .u64 y] w (GivesMul (x.toNat * y.toNat) w) := by
  obtain ⟨x, rfl⟩ := Int.eq_ofNat_of_zero_le hx
  obtain ⟨y, rfl⟩ := Int.eq_ofNat_of_zero_le hy
  refine (Tryd.bits_Mul64 x y (by omega) (by omega) w).mono ?_
  rintro e w' ⟨rfl, rfl⟩
  have h1 : x * y ≤ 18446744073709551615 * 18446744073709551615 := Nat.mul_le_mul (by omega) (by omega)
  exact ⟨_, _, rfl, ⟨by omega, by omega, by omega, by omega, by rw [Int.toNat_natCast, Int.toNat_natCast]; omega⟩, rfl⟩

theorem etimes_any (x y : Int) (w : World) (hx : 0 ≤ x) (hx' : x ≤ 18446744073709551615) (hy : 0 ≤ y) (hy' : y ≤ 18446744073709551615) :
    Calls Tryd.prog 30 #[.int .u64 x, .int .u64 y] w (GivesW (x.toNat * y.toNat) w) := by
  go_enter Tryd.func30, Tryd.ntmps30
  go_wp2_with (go_at_call 45; (with_reducible refine (mul64_any x y _ hx hx' hy hy').mono ?_); rintro e w' ⟨h, l, rfl, hW, rfl⟩)
  refine bodyPost_ret (v := .agg #[.int .u64 h, .int .u64 l]) (by simp [results, Tryd.results30, go_sem]) rfl ⟨h, l, rfl, hW, ?_⟩
  exact (Below.refl _ _).alloc (Nat.le_refl _) _

end Go.Proofs.YtfdpiiahclglcaaDoor
