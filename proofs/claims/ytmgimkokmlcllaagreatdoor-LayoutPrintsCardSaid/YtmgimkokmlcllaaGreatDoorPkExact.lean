/-
  Package exact, walked: order, Compare, Times, Ratio, Add, Less: each by what its numbers are.
-/
import Derived.WalkKit
import Derived.WalkSpells
import Derived.WalkLawsBesides
import Derived.WalkSmall
import Derived.Lib.Hide
import Derived.Laws.Externs
import Derived.Shelf.Spec.BitsCarry
import Derived.Test.YtmgimkokmlcllaaGreatDoorPkShelf
import Derived.Test.YtmgimkokmlcllaaGreatDoorPkPlain
import Derived.Test.YtmgimkokmlcllaaGreatDoorProg
import Derived.Deep.QuietTactic
import Derived.BigQuiet
import Derived.Deep.Cut
import Derived.Deep.CutRange
import Derived.Deep.DeepCutAuto
import Derived.Deep.CutBlock
import Derived.Lib.ItoaNum
import Derived.Laws.BitsAllLaws
import Derived.Deep.RegionHeld3
import Derived.StillTactics
import Derived.Laws.Pointers
import Derived.Lib.OthersKept
import Derived.Laws.BytesArg
namespace Go.Proofs.YtmgimkokmlcllaaGreatDoor
open Go.RowKit

theorem order_any (a b : Int) (w : World) (ha : 0 ≤ a) (hb : 0 ≤ b) :
    Calls Tryz.prog 179 #[.int .u64 a, .int .u64 b] w fun e w' => e = .returned (.int .i64 (cmpI a.toNat b.toNat)) ∧ w = w' := by
  by_cases h1 : a < b
  · have hc := Lib.hid (cmpI_lt (show a.toNat < b.toNat by omega))
    go_enter Tryz.func179, Tryz.ntmps179
    go_wp2
    go_ret
    exact ⟨by rw [hc.out]; rfl, rfl⟩
  · by_cases h2 : b < a
    · have hc := Lib.hid (cmpI_gt (show b.toNat < a.toNat by omega))
      go_enter Tryz.func179, Tryz.ntmps179
      go_wp2
      go_ret
      exact ⟨by rw [hc.out]; rfl, rfl⟩
    · have hc := Lib.hid (cmpI_eq (show a.toNat = b.toNat by omega))
      go_enter Tryz.func179, Tryz.ntmps179
      go_wp2
      go_ret
      exact ⟨by rw [hc.out]; rfl, rfl⟩

theorem cmp_hi {ah al bh bl : Int} {A B : Nat} (ha : IsW ah al A) (hb : IsW bh bl B) (h : ¬ ah = bh) : cmpI ah.toNat bh.toNat = cmpI A B := by
  obtain ⟨a, b, c, d, e⟩ := ha; obtain ⟨a', b', c', d', e'⟩ := hb
  by_cases hlt : ah < bh
  · rw [cmpI_lt (by omega), cmpI_lt (by omega)]
  · rw [cmpI_gt (by omega), cmpI_gt (by omega)]
theorem cmp_lo {ah al bl : Int} {A B : Nat} (ha : IsW ah al A) (hb : IsW ah bl B) : cmpI al.toNat bl.toNat = cmpI A B := by
  obtain ⟨a, b, c, d, e⟩ := ha; obtain ⟨a', b', c', d', e'⟩ := hb
  by_cases hlt : al < bl
  · rw [cmpI_lt (by omega), cmpI_lt (by omega)]
  · by_cases hgt : bl < al
    · rw [cmpI_gt (by omega), cmpI_gt (by omega)]
    · rw [cmpI_eq (by omega), cmpI_eq (by omega)]

theorem ecompare_any (ah al bh bl : Int) (A B : Nat) (w : World) (ha : IsW ah al A) (hb : IsW bh bl B) :
    Calls Tryz.prog 159 #[.agg #[.int .u64 ah, .int .u64 al], .agg #[.int .u64 bh, .int .u64 bl]] w fun e w' => e = .returned (.int .i64 (cmpI A B)) ∧ Below w.heap.size w w' := by
  have HA := Lib.hid ha
  have HB := Lib.hid hb
  obtain ⟨a0, _, a1, _, _⟩ := ha
  obtain ⟨b0, _, b1, _, _⟩ := hb
  by_cases h : ah = bh
  · subst h
    have hc := Lib.hid (cmp_lo HA.out HB.out)
    go_enter Tryz.func159, Tryz.ntmps159
    go_wp2_with (go_at_call 179; (with_reducible refine (order_any _ _ _ (by assumption) (by assumption)).mono ?_); rintro e w' ⟨rfl, rfl⟩)
    go_ret
    exact ⟨by rw [hc.out]; rfl, ((Below.refl _ _).alloc (Nat.le_refl _) _).alloc (by simp) _⟩
  · have hc := Lib.hid (cmp_hi HA.out HB.out h)
    have hne : (ah == bh) = false := by simpa using h
    go_enter Tryz.func159, Tryz.ntmps159
    go_wp2_with (go_at_call 179; (with_reducible refine (order_any _ _ _ (by assumption) (by assumption)).mono ?_); rintro e w' ⟨rfl, rfl⟩)
    go_ret
    exact ⟨by rw [hc.out]; rfl, ((Below.refl _ _).alloc (Nat.le_refl _) _).alloc (by simp) _⟩

def GivesMul (N : Nat) (w : World) (e : Ending) (w' : World) : Prop := ∃ h l : Int, e = .returned (.tuple #[.int .u64 h, .int .u64 l]) ∧ IsW h l N ∧ w = w'
def GivesW (N : Nat) (w : World) (e : Ending) (w' : World) : Prop := ∃ h l : Int, e = .returned (.agg #[.int .u64 h, .int .u64 l]) ∧ IsW h l N ∧ Below w.heap.size w w'
def GivesWC (N : Nat) (c : Int) (w : World) (e : Ending) (w' : World) : Prop := ∃ h l : Int, e = .returned (.tuple #[.agg #[.int .u64 h, .int .u64 l], .int .i64 c]) ∧ IsW h l N ∧ Below w.heap.size w w'

theorem mul64_any (x y : Int) (w : World) (hx : 0 ≤ x) (hx' : x ≤ 18446744073709551615) (hy : 0 ≤ y) (hy' : y ≤ 18446744073709551615) :
    Calls Tryz.prog 115 #[.int .u64 x, .int .u64 y] w (GivesMul (x.toNat * y.toNat) w) := by
  obtain ⟨x, rfl⟩ := Int.eq_ofNat_of_zero_le hx
  obtain ⟨y, rfl⟩ := Int.eq_ofNat_of_zero_le hy
  refine (Tryz.bits_Mul64 x y (by omega) (by omega) w).mono ?_
  rintro e w' ⟨rfl, rfl⟩
  have h1 : x * y ≤ 18446744073709551615 * 18446744073709551615 := Nat.mul_le_mul (by omega) (by omega)
  exact ⟨_, _, rfl, ⟨by omega, by omega, by omega, by omega, by rw [Int.toNat_natCast, Int.toNat_natCast]; omega⟩, rfl⟩

theorem etimes_any (x y : Int) (w : World) (hx : 0 ≤ x) (hx' : x ≤ 18446744073709551615) (hy : 0 ≤ y) (hy' : y ≤ 18446744073709551615) :
    Calls Tryz.prog 161 #[.int .u64 x, .int .u64 y] w (GivesW (x.toNat * y.toNat) w) := by
  go_enter Tryz.func161, Tryz.ntmps161
  go_wp2_with (go_at_call 115; (with_reducible refine (mul64_any x y _ hx hx' hy hy').mono ?_); rintro e w' ⟨h, l, rfl, hW, rfl⟩)
  refine bodyPost_ret (v := .agg #[.int .u64 h, .int .u64 l]) (by simp [results, Tryz.results161, go_sem]) rfl ⟨h, l, rfl, hW, ?_⟩
  exact (Below.refl _ _).alloc (Nat.le_refl _) _

end Go.Proofs.YtmgimkokmlcllaaGreatDoor

/-
  Package exact, walked: Ratio, Add, Less: each by what its numbers are.
-/
namespace Go.Proofs.YtmgimkokmlcllaaGreatDoor
open Go.RowKit

theorem add64 (x y c : Int) (hx : 0 ≤ x) (hy : 0 ≤ y) (hc0 : 0 ≤ c) (hc : c ≤ 1) (w : World) : (callFunc 176 #[.int .u64 x, .int .u64 y, .int .u64 c]).run Tryz.prog w =
    .ok (.value (.tuple #[.int .u64 ((x + y + c) % 18446744073709551616), .int .u64 ((x + y + c) / 18446744073709551616)])) w := by
  rw [run_callFunc_extern Tryz.func176 (by kernel_rfl) (by kernel_rfl) (by kernel_rfl) (e := add64Entry) (by kernel_rfl), run_add64 x y c hx hy hc0 hc]
  rfl
theorem add64_0 (x y : Int) (hx : 0 ≤ x) (hy : 0 ≤ y) (w : World) : (callFunc 176 #[.int .u64 x, .int .u64 y, .int .u64 0]).run Tryz.prog w =
    .ok (.value (.tuple #[.int .u64 ((x + y) % 18446744073709551616), .int .u64 ((x + y) / 18446744073709551616)])) w := by
  simpa using add64 x y 0 hx hy (Int.le_refl 0) (by decide) w
theorem eadd_any (ah al bh bl : Int) (A B : Nat) (w : World) (ha : IsW ah al A) (hb : IsW bh bl B) :
    Calls Tryz.prog 155 #[.agg #[.int .u64 ah, .int .u64 al], .agg #[.int .u64 bh, .int .u64 bl]] w (GivesWC (capN (A + B)) (capC (A + B)) w) := by
  have HA := Lib.hid ha
  have HB := Lib.hid hb
  obtain ⟨a0, _, a1, a2, _⟩ := ha
  obtain ⟨b0, _, b1, b2, _⟩ := hb
  have k0 : 0 ≤ (al + bl) / 18446744073709551616 := by omega
  have k1 : (al + bl) / 18446744073709551616 ≤ 1 := by omega
  by_cases h : (ah + bh + (al + bl) / 18446744073709551616) / 18446744073709551616 = 0
  · obtain ⟨hs, hW⟩ := add_in HA.out HB.out h
    rw [capN_in hs, capC_in hs]
    clear hs
    go_enter Tryz.func155, Tryz.ntmps155
    go_wp2_with (first | simp only [add64_0 al bl a1 b1] | simp only [add64 ah bh _ a0 b0 k0 k1])
    refine bodyPost_ret (v := .tuple #[.agg #[.int .u64 ((ah + bh + (al + bl) / 18446744073709551616) % 18446744073709551616), .int .u64 ((al + bl) % 18446744073709551616)], .int .i64 0]) (by simp [results, Tryz.results155, go_sem]) rfl ⟨_, _, rfl, hW, ?_⟩
    exact (((Below.refl _ _).alloc (Nat.le_refl _) _).alloc (by simp) _).alloc (by simp; omega) _
  · have hs := add_out HA.out HB.out h
    rw [capN_out hs, capC_out hs]
    clear hs
    have h' : ((ah + bh + (al + bl) / 18446744073709551616) / 18446744073709551616 == 0) = false := by simpa using h
    go_enter Tryz.func155, Tryz.ntmps155
    go_wp2_with (first | simp only [add64_0 al bl a1 b1] | simp only [add64 ah bh _ a0 b0 k0 k1])
    refine bodyPost_ret (v := .tuple #[.agg #[.int .u64 0, .int .u64 0], .int .i64 3]) (by simp [results, Tryz.results155, go_sem]) rfl ⟨_, _, rfl, IsW.zero, ?_⟩
    exact (((Below.refl _ _).alloc (Nat.le_refl _) _).alloc (by simp) _).alloc (by simp; omega) _

def bor (x y : Int) : Int := if x < y then 1 else 0
def lessN (a b : Nat) : Nat := if b ≤ a then a - b else 0
def lessC (a b : Nat) : Int := if b ≤ a then 0 else 3
end Go.Proofs.YtmgimkokmlcllaaGreatDoor

/-
  math/bits.Div64, walked: of a high half that is below the divisor it answers the quotient of the number of 128 bits, and what is left; it changes nothing.
-/
namespace Go.Proofs.YtmgimkokmlcllaaGreatDoor
open Go.RowKit
def DigRel (u u1 v1 v0 Q : Int) (a b : Value) : Prop := ∃ q r : Int, a = .int .u64 q ∧ b = .int .u64 r ∧ DigAt u u1 v1 v0 Q q r ∧ 0 ≤ q ∧ q ≤ 17179869184 ∧ 0 ≤ q * v0 ∧ (q < 4294967296 → q * v0 ≤ 18446744073709551615)

theorem dig_rest2 {q v0 : Int} (g1 : 0 ≤ q) (g2 : q ≤ 17179869184) (b16 : 0 ≤ v0) (b17 : v0 < 4294967296) (c : q ≤ 4294967296) (h : 0 ≤ q - 1) :
    0 ≤ q - 1 ∧ q - 1 ≤ 17179869184 ∧ 0 ≤ (q - 1) * v0 ∧ (q - 1 < 4294967296 → (q - 1) * v0 ≤ 18446744073709551615) := by
  refine ⟨h, by omega, Int.mul_nonneg h b16, fun _ => ?_⟩
  have := Int.mul_le_mul (by omega : q - 1 ≤ 4294967295) (by omega : v0 ≤ 4294967295) b16 (by omega)
  omega
theorem dig_rest {q v0 : Int} (g1 : 0 ≤ q) (g2 : q ≤ 17179869184) (b16 : 0 ≤ v0) (b17 : v0 < 4294967296) (c1 : 4294967296 ≤ q) (h : 0 ≤ q - 1) :
    0 ≤ q - 1 ∧ q - 1 ≤ 17179869184 ∧ 0 ≤ (q - 1) * v0 ∧ (q - 1 < 4294967296 → (q - 1) * v0 ≤ 18446744073709551615) := by
  refine ⟨h, by omega, Int.mul_nonneg h b16, fun _ => ?_⟩
  have := Int.mul_le_mul (by omega : q - 1 ≤ 4294967295) (by omega : v0 ≤ 4294967295) b16 (by omega)
  omega
set_option maxHeartbeats 1000000 in
theorem div_core (hi lo y v v1 v0 A u m u1 u0 p Q n p2 Q0 R : Int) (s : Nat) (h0 : 1 ≤ hi) (h1 : hi < y) (_hl : 0 ≤ lo) (_hl' : lo ≤ 18446744073709551615) (_hy' : y ≤ 18446744073709551615) (hs : s ≤ 63)
    (ev : y * 2 ^ s = v) (b1 : 9223372036854775808 ≤ v) (b2 : v ≤ 18446744073709551615) (ev1 : v / 4294967296 = v1) (ev0 : bits BinOp.and IntKind.u64 v 4294967295 = v0)
    (eA : hi * 2 ^ s = A) (b3 : 0 ≤ A) (b4 : A ≤ 18446744073709551615) (eu : bits BinOp.or IntKind.u64 A (lo / 2 ^ (64 - s)) = u) (b5 : 0 ≤ u) (b6 : u < v)
    (em : IntKind.u64.wrap (lo * 2 ^ s) = m) (em1 : m / 4294967296 = u1) (em0 : bits BinOp.and IntKind.u64 m 4294967295 = u0) (_b7 : 0 ≤ m) (_b8 : m ≤ 18446744073709551615)
    (ep : u / v1 * v1 = p) (_b9 : 0 ≤ u / v1) (_b10 : u / v1 ≤ 17179869184) (b11 : 0 ≤ p) (b12 : p ≤ u) (b13 : 1 ≤ v1)
    (hQ : 0 ≤ Q) (hQ' : Q < 4294967296) (ew : v = v1 * 4294967296 + v0)
    (b14 : 0 ≤ u1) (b15 : u1 < 4294967296) (b16 : 0 ≤ v0) (b17 : v0 < 4294967296) (b18 : v1 < 4294967296) (b19 : 0 ≤ u0) (b20 : u0 < 4294967296)
    (HD : Hid (DigRel u u1 v1 v0 Q (.int .u64 (u / v1)) (.int .u64 (u - p))))
    (eQ1 : Hid (Q * (v1 * 4294967296 + v0) ≤ u * 4294967296 + u1)) (eQ2 : Hid (u * 4294967296 + u1 < (Q + 1) * (v1 * 4294967296 + v0)))
    (en : IntKind.u64.wrap (IntKind.u64.wrap (IntKind.u64.wrap (u * 4294967296) + u1) - IntKind.u64.wrap (Q * v)) = n) (b21 : 0 ≤ n) (b22 : n < v)
    (ep2 : n / v1 * v1 = p2) (_b23 : 0 ≤ n / v1) (_b24 : n / v1 ≤ 17179869184) (b25 : 0 ≤ p2) (b26 : p2 ≤ n)
    (HD2 : Hid (DigRel n u0 v1 v0 Q0 (.int .u64 (n / v1)) (.int .u64 (n - p2))))
    (hQ0 : 0 ≤ Q0) (hQ0' : Q0 < 4294967296)
    (eQ01 : Hid (Q0 * (v1 * 4294967296 + v0) ≤ n * 4294967296 + u0)) (eQ02 : Hid (n * 4294967296 + u0 < (Q0 + 1) * (v1 * 4294967296 + v0)))
    (eR : IntKind.u64.wrap (IntKind.u64.wrap (IntKind.u64.wrap (n * 4294967296) + u0) - IntKind.u64.wrap (Q0 * v)) = R) (_b27 : 0 ≤ R) (_b28 : R ≤ 18446744073709551615)
    (lz : ∀ w, Calls Tryz.prog 163 #[.int .u64 y] w fun e w' => e = .returned (.int .i64 s) ∧ w = w') (w : World) :
    Calls Tryz.prog 140 #[.int .u64 hi, .int .u64 lo, .int .u64 y] w fun e w' => e = .returned (.tuple #[.int .u64 (Q * 4294967296 + Q0), .int .u64 (R / 2 ^ s)]) ∧ ∃ n, w' = w.drewN n := by
  have h2 : ¬ y ≤ hi := by omega
  have h3 : (y == 0) = false := by simp; omega
  have h4 : (hi == 0) = false := by simp; omega
  have hv : u < v1 * 4294967296 + v0 := by omega
  have hv2 : n < v1 * 4294967296 + v0 := by omega
  clear ew
  go_enter Tryz.func140, Tryz.ntmps140
  go_upto_block 0 with (go_at_call 163; refine (lz _).mono ?_; rintro e w' ⟨rfl, rfl⟩)
  go_cut [15, 16] from 67 to 85 (fun a _ w' => a = .int .u64 Q ∧ w = w')
  case first =>
    go_wp2_with fail
    go_loop [15, 16] (fun a b => DigRel u u1 v1 v0 Q a b) (fun a _ => (intOf a - Q).toNat)
    case atStart => exact HD.out
    case round =>
      obtain ⟨q, r, rfl, rfl, hd, g1, g2, g3, g4⟩ := hrel
      have hr0 := hd.hr0
      have hr := hd.hr
      have hq := hd.hq
      have hd := Lib.hid hd
      by_cases c1 : 4294967296 ≤ q
      · have hl := dig_less hd.out (by omega) b14 b15 eQ1.out hv (Or.inl c1)
        by_cases c2 : 4294967296 ≤ r + v1
        · have hb := Lib.hid (dig_break hd.out (by omega) b16 b17 b14 hl (by assumption) eQ2.out hv c2)
          go_wp2_with fail
          go_meet
          exact ⟨by rw [hb.out], rfl⟩
        · have hn := Lib.hid (dig_next hd.out (by omega) hl (by omega))
          have gn := Lib.hid (dig_rest g1 g2 b16 b17 c1 (Int.le_trans (by assumption) hl))
          go_wp2_with fail
          go_round
          case rel => exact ⟨_, _, rfl, rfl, hn.out, gn.out⟩
          case measure => simp [intOf]; omega
      · have g4 := g4 (by omega)
        by_cases c3 : 4294967296 * r + u1 < q * v0
        · have hl := dig_less hd.out (by omega) b14 b15 eQ1.out hv (Or.inr c3)
          by_cases c2 : 4294967296 ≤ r + v1
          · have hb := Lib.hid (dig_break hd.out (by omega) b16 b17 b14 hl (by assumption) eQ2.out hv c2)
            go_wp2_with fail
            go_meet
            exact ⟨by rw [hb.out], rfl⟩
          · have hn := Lib.hid (dig_next hd.out (by omega) hl (by omega))
            have gn := Lib.hid (dig_rest2 g1 g2 b16 b17 (by omega) (Int.le_trans (by assumption) hl))
            go_wp2_with fail
            go_round
            case rel => exact ⟨_, _, rfl, rfl, hn.out, gn.out⟩
            case measure => simp [intOf]; omega
        · have hb := Lib.hid (dig_exit hd.out (by omega) eQ2.out (by omega))
          go_wp2_with fail
          go_meet
          exact ⟨by rw [hb.out], rfl⟩
  case rest =>
    obtain ⟨rfl, rfl⟩ := hcut
    go_upto_block 2 with fail
    go_cut [18, 16] from 102 to 120 (fun a _ w' => a = .int .u64 Q0 ∧ w = w')
    case first =>
      go_wp2_with fail
      go_loop [18, 16] (fun a b => DigRel n u0 v1 v0 Q0 a b) (fun a _ => (intOf a - Q0).toNat)
      case atStart => exact HD2.out
      case round =>
        obtain ⟨q, r, rfl, rfl, hd, g1, g2, g3, g4⟩ := hrel
        have hr0 := hd.hr0
        have hr := hd.hr
        have hq := hd.hq
        have hd := Lib.hid hd
        by_cases c1 : 4294967296 ≤ q
        · have hl := dig_less hd.out (by omega) b19 b20 eQ01.out hv2 (Or.inl c1)
          by_cases c2 : 4294967296 ≤ r + v1
          · have hb := Lib.hid (dig_break hd.out (by omega) b16 b17 b19 hl (by assumption) eQ02.out hv2 c2)
            go_wp2_with fail
            go_meet
            exact ⟨by rw [hb.out], rfl⟩
          · have hn := Lib.hid (dig_next hd.out (by omega) hl (by omega))
            have gn := Lib.hid (dig_rest g1 g2 b16 b17 c1 (Int.le_trans (by assumption) hl))
            go_wp2_with fail
            go_round
            case rel => exact ⟨_, _, rfl, rfl, hn.out, gn.out⟩
            case measure => simp [intOf]; omega
        · have g4 := g4 (by omega)
          by_cases c3 : 4294967296 * r + u0 < q * v0
          · have hl := dig_less hd.out (by omega) b19 b20 eQ01.out hv2 (Or.inr c3)
            by_cases c2 : 4294967296 ≤ r + v1
            · have hb := Lib.hid (dig_break hd.out (by omega) b16 b17 b19 hl (by assumption) eQ02.out hv2 c2)
              go_wp2_with fail
              go_meet
              exact ⟨by rw [hb.out], rfl⟩
            · have hn := Lib.hid (dig_next hd.out (by omega) hl (by omega))
              have gn := Lib.hid (dig_rest2 g1 g2 b16 b17 (by omega) (Int.le_trans (by assumption) hl))
              go_wp2_with fail
              go_round
              case rel => exact ⟨_, _, rfl, rfl, hn.out, gn.out⟩
              case measure => simp [intOf]; omega
          · have hb := Lib.hid (dig_exit hd.out (by omega) eQ02.out (by omega))
            go_wp2_with fail
            go_meet
            exact ⟨by rw [hb.out], rfl⟩
    case rest =>
      obtain ⟨rfl, rfl⟩ := hcut
      go_wp2_with fail
      go_ret2
      exact ⟨rfl, 0, rfl⟩

theorem and_low (v : Int) (h0 : 0 ≤ v) (h1 : v ≤ 18446744073709551615) : bits BinOp.and IntKind.u64 v 4294967295 = v % 4294967296 := by
  obtain ⟨n, rfl⟩ := Int.eq_ofNat_of_zero_le h0
  have := u64_and_nat n 4294967295 (by omega) (by omega)
  have e : n &&& 4294967295 = n % 4294967296 := Nat.and_two_pow_sub_one_eq_mod n 32
  rw [e] at this
  rw [show (4294967295 : Int) = ((4294967295 : Nat) : Int) from rfl, this]
  omega
theorem or_join (A x : Int) (s : Nat) (hA : 0 ≤ A) (hA' : A * 2 ^ s ≤ 18446744073709551615) (hx : 0 ≤ x) (hx' : x < 2 ^ s) (hx2 : x ≤ 18446744073709551615) : bits BinOp.or IntKind.u64 (A * 2 ^ s) x = A * 2 ^ s + x := by
  obtain ⟨a, rfl⟩ := Int.eq_ofNat_of_zero_le hA
  obtain ⟨b, rfl⟩ := Int.eq_ofNat_of_zero_le hx
  have e1 : ((a : Int) * 2 ^ s) = ((a * 2 ^ s : Nat) : Int) := by simp
  have e2 : b < 2 ^ s := by
    have : ((2 : Int) ^ s) = ((2 ^ s : Nat) : Int) := by simp
    omega
  rw [e1] at hA' ⊢
  have := u64_or_nat (a * 2 ^ s) b (by omega) (by omega)
  rw [this, nat_join s (a * 2 ^ s) b (Nat.mul_mod_left _ _) e2]
  omega

theorem top_bit (y : Int) (h : 1 ≤ y) (h' : y ≤ 18446744073709551615) : ∃ s : Nat, s ≤ 63 ∧ (64 - (Lib.bitLen y.toNat : Int)) = s ∧ 9223372036854775808 ≤ y * 2 ^ s ∧ y * 2 ^ s ≤ 18446744073709551615 := by
  obtain ⟨n, rfl⟩ := Int.eq_ofNat_of_zero_le (by omega : 0 ≤ y)
  have hb := Lib.bitLenAux_bounds 64 n (by omega) (by omega)
  have hle := Lib.bitLen_le n 64 (Nat.le_refl _) (by omega)
  have hL : ∃ L, L = Lib.bitLen n := ⟨_, rfl⟩
  obtain ⟨L, hL⟩ := hL
  have hb : 1 ≤ L ∧ 2 ^ (L - 1) ≤ n ∧ n < 2 ^ L := by rw [hL]; exact hb
  rw [← hL] at hle
  obtain ⟨hb1, hb2, hb3⟩ := hb
  refine ⟨64 - L, by omega, by rw [Int.toNat_natCast, ← hL]; omega, ?_, ?_⟩
  · have : 2 ^ (L - 1) * 2 ^ (64 - L) = (2 : Nat) ^ 63 := by rw [← Nat.pow_add]; congr 1; omega
    have h2 := Nat.mul_le_mul_right (2 ^ (64 - L)) hb2
    have e1 : ((n : Int) * 2 ^ (64 - L)) = ((n * 2 ^ (64 - L) : Nat) : Int) := by simp
    omega
  · have : 2 ^ L * 2 ^ (64 - L) = (2 : Nat) ^ 64 := by rw [← Nat.pow_add]; congr 1; omega
    have h2 := Nat.mul_lt_mul_of_pos_right hb3 (Nat.two_pow_pos (64 - L))
    have e1 : ((n : Int) * 2 ^ (64 - L)) = ((n * 2 ^ (64 - L) : Nat) : Int) := by simp
    omega

theorem digRel_first (u u1 v v1 v0 : Int) (hv : v = v1 * 4294967296 + v0) (h1 : 2147483648 ≤ v1) (h1' : v1 < 4294967296) (h0 : 0 ≤ v0) (h0' : v0 < 4294967296) (hu : 0 ≤ u) (hu' : u ≤ 18446744073709551615)
    (g0 : 0 ≤ u1) (g1 : u1 < 4294967296) :
    DigRel u u1 v1 v0 ((u * 4294967296 + u1) / v) (.int .u64 (u / v1)) (.int .u64 (u - u / v1 * v1)) ∧ 0 ≤ u / v1 ∧ u / v1 ≤ 17179869184 ∧ 0 ≤ u / v1 * v1 ∧ u / v1 * v1 ≤ u := by
  have hq0 : 0 ≤ u / v1 := Int.ediv_nonneg hu (by omega)
  have hq1 : u / v1 < 17179869185 := (Int.ediv_lt_iff_lt_mul (by omega)).mpr (by omega)
  have hd := dig_first u u1 v1 v0 (by omega) h1' h0 hu g0 g1
  rw [← hv] at hd
  have := hd.hr0
  refine ⟨⟨_, _, rfl, rfl, hd, hq0, by omega, Int.mul_nonneg hq0 h0, fun hlt => ?_⟩, hq0, by omega, Int.mul_nonneg hq0 (by omega), by omega⟩
  have := Int.mul_le_mul (by omega : u / v1 ≤ 4294967295) (by omega : v0 ≤ 4294967295) h0 (by omega)
  omega

theorem wrap_left (u u1 x v : Int) (h : 0 ≤ u * 4294967296 + u1 - x * v) (h' : u * 4294967296 + u1 - x * v < v) (hv : v ≤ 18446744073709551615) :
    IntKind.u64.wrap (IntKind.u64.wrap (IntKind.u64.wrap (u * 4294967296) + u1) - IntKind.u64.wrap (x * v)) = u * 4294967296 + u1 - x * v := by
  simp only [IntKind.wrap_u64]
  omega

theorem div_deep (hi lo y : Int) (h0 : 1 ≤ hi) (h1 : hi < y) (hl : 0 ≤ lo) (hl' : lo ≤ 18446744073709551615) (hy' : y ≤ 18446744073709551615) (w : World) :
    Calls Tryz.prog 140 #[.int .u64 hi, .int .u64 lo, .int .u64 y] w fun e w' => e = .returned (.tuple #[.int .u64 ((hi * 18446744073709551616 + lo) / y), .int .u64 ((hi * 18446744073709551616 + lo) % y)]) ∧ ∃ n, w' = w.drewN n := by
  obtain ⟨s, hs, es, b1, b2⟩ := top_bit y (by omega) hy'
  have lz : ∀ w, Calls Tryz.prog 163 #[.int .u64 y] w fun e w' => e = .returned (.int .i64 s) ∧ w = w' := fun w =>
    (Tryz.bits_LeadingZeros64 y w (by omega) hy').mono fun e w' ⟨a, b⟩ => ⟨by rw [a, es], b.symm⟩
  -- the powers
  have hT : ∃ T : Int, T = 2 ^ s := ⟨_, rfl⟩
  have hP : ∃ P : Int, P = 2 ^ (64 - s) := ⟨_, rfl⟩
  obtain ⟨T, hT⟩ := hT
  obtain ⟨P, hP⟩ := hP
  have hPT : P * T = 18446744073709551616 := by
    rw [hT, hP, ← Int.pow_add, show 64 - s + s = 64 by omega]; rfl
  have hT0 : 0 < T := by rw [hT]; exact Int.pow_pos (by decide)
  have hP0 : 0 < P := by rw [hP]; exact Int.pow_pos (by decide)
  rw [← hT] at b1 b2
  have d1 := Int.emod_add_mul_ediv lo P
  have d2 := Int.emod_nonneg lo (by omega : P ≠ 0)
  have d3 := Int.emod_lt_of_pos lo hP0
  have d4 : 0 ≤ lo / P := Int.ediv_nonneg hl (by omega)
  have d5 : lo / P < T := (Int.ediv_lt_iff_lt_mul hP0).mpr (by rw [Int.mul_comm]; omega)
  have a1 : (hi + 1) * T ≤ y * T := Int.mul_le_mul_of_nonneg_right (by omega) (by omega)
  have a2 : (hi + 1) * T = hi * T + T := by grind
  have a3 : 0 ≤ hi * T := Int.mul_nonneg (by omega) (by omega)
  have eu := or_join hi (lo / P) s (by omega) (by rw [← hT]; omega) d4 (by rw [← hT]; omega) (by omega)
  rw [← hT] at eu
  have em : IntKind.u64.wrap (lo * T) = lo % P * T := by
    rw [IntKind.wrap_u64, ← hPT, Int.mul_comm P T, Int.mul_comm lo T, Int.mul_emod_mul_of_pos _ _ hT0, Int.mul_comm]
  have m0 : 0 ≤ lo % P * T := Int.mul_nonneg d2 (by omega)
  have m1 : lo % P * T ≤ 18446744073709551615 := by
    have : lo % P * T ≤ (P - 1) * T := Int.mul_le_mul_of_nonneg_right (by omega) (by omega)
    have : (P - 1) * T = P * T - T := by grind
    omega
  obtain ⟨u, hu⟩ : ∃ u, u = hi * T + lo / P := ⟨_, rfl⟩
  obtain ⟨m, hm⟩ : ∃ m, m = lo % P * T := ⟨_, rfl⟩
  have hN : u * 18446744073709551616 + m = (hi * 18446744073709551616 + lo) * T := by
    rw [hu, hm, ← hPT]
    have : lo = lo % P + P * (lo / P) := by omega
    grind
  rw [← hu] at eu
  rw [← hm] at em m0 m1
  obtain ⟨v, hv⟩ : ∃ v, v = y * T := ⟨_, rfl⟩
  have hsplit : m = m / 4294967296 * 4294967296 + m % 4294967296 := by omega
  have hvs : v = v / 4294967296 * 4294967296 + v % 4294967296 := by omega
  have hvpos : 0 < v := by omega
  have huv : u < v := by omega
  have hu0 : 0 ≤ u := by omega
  obtain ⟨f1, f2, f3, f4, f5⟩ := digRel_first u (m / 4294967296) v (v / 4294967296) (v % 4294967296) hvs (by omega) (by omega) (by omega) (by omega) hu0 (by omega) (by omega) (by omega)
  have q1 := quo_facts (u * 4294967296 + m / 4294967296) v hvpos
  have k1 := quo_small u (m / 4294967296) v hvpos huv (by omega)
  have k0 : 0 ≤ (u * 4294967296 + m / 4294967296) / v := Int.ediv_nonneg (by omega) (by omega)
  have td := two_digits u (m / 4294967296) (m % 4294967296) v hvpos
  have hsum : u * 18446744073709551616 + m / 4294967296 * 4294967296 + m % 4294967296 = (hi * 18446744073709551616 + lo) * T := by omega
  simp only [hsum] at td
  obtain ⟨Q, hQ⟩ : ∃ Q, Q = (u * 4294967296 + m / 4294967296) / v := ⟨_, rfl⟩
  rw [← hQ] at q1 k1 k0 td f1
  have q1' : (Q + 1) * v = Q * v + v := by grind
  obtain ⟨n, hn⟩ : ∃ n, n = u * 4294967296 + m / 4294967296 - Q * v := ⟨_, rfl⟩
  have n0 : 0 ≤ n := by omega
  have n1 : n < v := by omega
  obtain ⟨r1, r2, r3, r4, r5⟩ := digRel_first n (m % 4294967296) v (v / 4294967296) (v % 4294967296) hvs (by omega) (by omega) (by omega) (by omega) n0 (by omega) (by omega) (by omega)
  have p1 := quo_facts (n * 4294967296 + m % 4294967296) v hvpos
  have j1 := quo_small n (m % 4294967296) v hvpos n1 (by omega)
  have j0 : 0 ≤ (n * 4294967296 + m % 4294967296) / v := Int.ediv_nonneg (by omega) (by omega)
  rw [← hn] at td
  obtain ⟨Q0, hQ0⟩ : ∃ Q0, Q0 = (n * 4294967296 + m % 4294967296) / v := ⟨_, rfl⟩
  rw [← hQ0] at p1 j1 j0 td r1
  have p1' : (Q0 + 1) * v = Q0 * v + v := by grind
  obtain ⟨t1, t2⟩ := td
  rw [hv, Int.mul_ediv_mul_of_pos_left _ _ hT0] at t1
  have t3 : n * 4294967296 + m % 4294967296 - Q0 * v = (hi * 18446744073709551616 + lo) % y * T := by
    rw [t2, hv, Int.mul_comm _ T, Int.mul_comm y T, Int.mul_emod_mul_of_pos _ _ hT0, Int.mul_comm]
  have wl1 := wrap_left u (m / 4294967296) Q v (by omega) (by omega) (by omega)
  have wl2 := wrap_left n (m % 4294967296) Q0 v (by omega) (by omega) (by omega)
  rw [← hn] at wl1
  refine (div_core hi lo y v (v / 4294967296) (v % 4294967296) (hi * T) u m (m / 4294967296) (m % 4294967296) (u / (v / 4294967296) * (v / 4294967296)) Q n (n / (v / 4294967296) * (v / 4294967296)) Q0 ((hi * 18446744073709551616 + lo) % y * T) s h0 h1 hl hl' hy' hs
    (by rw [← hT, hv]) (by omega) (by omega) rfl (and_low v (by omega) (by omega))
    (by rw [← hT]) a3 (by omega) (by rw [← hP]; exact eu) hu0 huv
    (by rw [← hT]; exact em) rfl (and_low m m0 m1) m0 m1
    rfl f2 f3 f4 f5 (by omega)
    k0 k1 hvs
    (by omega) (by omega) (by omega) (by omega) (by omega) (by omega) (by omega)
    f1 (by rw [← hvs]; exact q1.1) (by rw [← hvs]; exact q1.2)
    wl1 n0 n1 rfl r2 r3 r4 r5 r1 j0 j1 (by rw [← hvs]; exact p1.1) (by rw [← hvs]; exact p1.2)
    (by rw [wl2, t3]) (by omega) (by omega) lz w).mono ?_
  rintro e w' ⟨rfl, hw⟩
  refine ⟨?_, hw⟩
  rw [t1, ← hT, Int.mul_ediv_cancel _ (by omega)]

set_option maxHeartbeats 400000 in
theorem div_flat (lo y : Int) (hl : 0 ≤ lo) (hl' : lo ≤ 18446744073709551615) (hy : 1 ≤ y) (_hy' : y ≤ 18446744073709551615) (w : World) :
    Calls Tryz.prog 140 #[.int .u64 0, .int .u64 lo, .int .u64 y] w fun e w' => e = .returned (.tuple #[.int .u64 (lo / y), .int .u64 (lo % y)]) ∧ ∃ n, w' = w.drewN n := by
  have h0 : ¬ y ≤ 0 := by omega
  have h1 : (y == 0) = false := by simp; omega
  go_enter Tryz.func140, Tryz.ntmps140
  go_wp2
  go_quiet (fail)
  go_wp2
  go_ret2
  exact ⟨rfl, _, rfl⟩

theorem div_any (hi lo y : Int) (h0 : 0 ≤ hi) (h1 : hi < y) (hl : 0 ≤ lo) (hl' : lo ≤ 18446744073709551615) (hy' : y ≤ 18446744073709551615) (w : World) :
    Calls Tryz.prog 140 #[.int .u64 hi, .int .u64 lo, .int .u64 y] w fun e w' => e = .returned (.tuple #[.int .u64 ((hi * 18446744073709551616 + lo) / y), .int .u64 ((hi * 18446744073709551616 + lo) % y)]) ∧ ∃ n, w' = w.drewN n := by
  by_cases h : hi = 0
  · subst h
    refine (div_flat lo y hl hl' (by omega) hy' w).mono ?_
    rintro e w' ⟨rfl, hw⟩
    exact ⟨by simp, hw⟩
  · exact div_deep hi lo y (by omega) h1 hl hl' hy' w
end Go.Proofs.YtmgimkokmlcllaaGreatDoor

/-
  Package exact, walked: Floor, Ceil, More: each by what its numbers are.
-/
namespace Go.Proofs.YtmgimkokmlcllaaGreatDoor
open Go.RowKit

def GivesF (q r : Nat) (c : Int) (w : World) (e : Ending) (w' : World) : Prop := ∃ h l x : Int, e = .returned (.tuple #[.agg #[.int .u64 h, .int .u64 l], .int .u64 x, .int .i64 c]) ∧ IsW h l q ∧ 0 ≤ x ∧ x.toNat = r ∧ Below w.heap.size w w'

theorem floor_num {h l n : Int} {A : Nat} (hA : IsW h l A) (hn : 1 ≤ n) (hn' : n ≤ 18446744073709551615) :
    IsW (h / n) ((h % n * 18446744073709551616 + l) / n) (A / n.toNat) ∧ 0 ≤ (h % n * 18446744073709551616 + l) % n ∧ ((h % n * 18446744073709551616 + l) % n).toNat = A % n.toNat := by
  obtain ⟨a, b, c, d, e⟩ := hA
  have m1 := Int.emod_add_mul_ediv h n
  have m2 := Int.emod_nonneg h (by omega : n ≠ 0)
  have m3 := Int.emod_lt_of_pos h (by omega : 0 < n)
  have q0 : 0 ≤ h / n := Int.ediv_nonneg a (by omega)
  have q1 : h / n ≤ h := Int.ediv_le_self _ a
  have r0 : 0 ≤ (h % n * 18446744073709551616 + l) / n := Int.ediv_nonneg (by omega) (by omega)
  have r1 : (h % n * 18446744073709551616 + l) / n < 18446744073709551616 := (Int.ediv_lt_iff_lt_mul (by omega)).mpr (by omega)
  have hAe : (A : Int) = (h % n * 18446744073709551616 + l) + (h / n * 18446744073709551616) * n := by grind
  have e1 : (A : Int) / n = (h % n * 18446744073709551616 + l) / n + h / n * 18446744073709551616 := by
    rw [hAe, Int.add_mul_ediv_right _ _ (by omega)]
  have e2 : (A : Int) % n = (h % n * 18446744073709551616 + l) % n := by
    rw [hAe, Int.add_mul_emod_self_right]
  have en : (n.toNat : Int) = n := by omega
  have e3 : ((A / n.toNat : Nat) : Int) = (A : Int) / n := by rw [Int.natCast_ediv, en]
  have e4 : ((A % n.toNat : Nat) : Int) = (A : Int) % n := by rw [Int.natCast_emod, en]
  have f0 := Int.emod_nonneg (h % n * 18446744073709551616 + l) (by omega : n ≠ 0)
  refine ⟨⟨q0, by omega, r0, by omega, by rw [e3, e1]; omega⟩, f0, ?_⟩
  have : ((A % n.toNat : Nat) : Int) = (h % n * 18446744073709551616 + l) % n := by rw [e4, e2]
  omega

theorem floor_any (h l n : Int) (A : Nat) (w : World) (hA : IsW h l A) (hn : 1 ≤ n) (hn' : n ≤ 18446744073709551615) :
    Calls Tryz.prog 121 #[.agg #[.int .u64 h, .int .u64 l], .int .u64 n] w (GivesF (A / n.toNat) (A % n.toNat) 0 w) := by
  obtain ⟨n1, n2, n3⟩ := floor_num hA hn hn'
  replace n1 := Lib.hid n1
  replace n3 := Lib.hid n3
  have n2 := Lib.hid n2
  obtain ⟨a0, a4, a1, a2, _⟩ := hA
  have hne : (n == 0) = false := by simp; omega
  have m2 := Int.emod_nonneg h (by omega : n ≠ 0)
  have m3 := Int.emod_lt_of_pos h (by omega : 0 < n)
  have q0 : 0 ≤ h / n := Int.ediv_nonneg a0 (by omega)
  have q1 : h / n ≤ h := Int.ediv_le_self _ a0
  go_enter Tryz.func121, Tryz.ntmps121
  go_wp2
  go_quiet ((go_at_call 140; refine Calls.quiet_of (n := _) (div_any (h % n) l n m2 m3 a1 a2 hn' _)))
  go_wp2
  refine bodyPost_ret (v := .tuple #[.agg #[.int .u64 (h / n), .int .u64 ((h % n * 18446744073709551616 + l) / n)], .int .u64 ((h % n * 18446744073709551616 + l) % n), .int .i64 0]) (by simp [results, Tryz.results121, go_sem]) rfl ⟨_, _, _, rfl, n1.out, n2.out, n3.out, ?_⟩
  exact ((Go.below_drewN (((Below.refl _ _).alloc (Nat.le_refl _) _).alloc (by simp) _) _).setCell (by simp) _).setCell (by simp) _
end Go.Proofs.YtmgimkokmlcllaaGreatDoor

/-
  Package exact, walked: More and Ceil: each by what its numbers are.
-/
namespace Go.Proofs.YtmgimkokmlcllaaGreatDoor
open Go.RowKit

theorem more_in {ah al hh hl n : Int} {A : Nat} (hA : IsW ah al A) (hn : 0 ≤ n) (h : IsW hh hl (ah.toNat * n.toNat)) (hz : hh = 0) :
    IsW hl 0 (hl.toNat * 18446744073709551616) ∧ hl.toNat * 18446744073709551616 + al.toNat * n.toNat = A * n.toNat := by
  obtain ⟨a, b, c, d, e⟩ := hA; obtain ⟨a', b', c', d', e'⟩ := h
  obtain ⟨x, rfl⟩ := Int.eq_ofNat_of_zero_le a
  obtain ⟨y, rfl⟩ := Int.eq_ofNat_of_zero_le c
  obtain ⟨m, rfl⟩ := Int.eq_ofNat_of_zero_le hn
  simp only [Int.toNat_natCast] at *
  have hAe : A = x * 18446744073709551616 + y := by omega
  have he : hl.toNat = x * m := by omega
  refine ⟨⟨c', d', by decide, by decide, by omega⟩, ?_⟩
  rw [he, hAe]; grind
theorem more_out {ah al hh hl n : Int} {A : Nat} (hA : IsW ah al A) (hn : 0 ≤ n) (h : IsW hh hl (ah.toNat * n.toNat)) (hz : ¬ hh = 0) : ¬ W128 (A * n.toNat) := by
  obtain ⟨a, b, c, d, e⟩ := hA; obtain ⟨a', b', c', d', e'⟩ := h
  obtain ⟨x, rfl⟩ := Int.eq_ofNat_of_zero_le a
  obtain ⟨y, rfl⟩ := Int.eq_ofNat_of_zero_le c
  obtain ⟨m, rfl⟩ := Int.eq_ofNat_of_zero_le hn
  simp only [Int.toNat_natCast] at *
  have hAe : A = x * 18446744073709551616 + y := by omega
  have h1 : A * m = x * m * 18446744073709551616 + y * m := by rw [hAe]; grind
  unfold W128
  have : 0 ≤ y * m := Nat.zero_le _
  omega

theorem low_of {hh hl : Int} {N : Nat} (h : IsW hh hl N) (hN : N < 18446744073709551616) : hh = 0 := by
  obtain ⟨_, _, _, _, e⟩ := h; omega
theorem high_of {hh hl : Int} {N : Nat} (h : IsW hh hl N) (hN : ¬ N < 18446744073709551616) : ¬ hh = 0 := by
  obtain ⟨_, _, _, _, e⟩ := h; omega
structure BoxRes (w W : World) (ah al : Int) : Prop where
  c0 : W.cell? ⟨w.heap.size, 0, none⟩ = some (.int .u64 ah)
  c1 : W.cell? ⟨w.heap.size, 1, none⟩ = some (.int .u64 al)
  r0 : W.cell? ⟨w.heap.size + 1, 0, none⟩ = some (.int .u64 0)
  r1 : W.cell? ⟨w.heap.size + 1, 1, none⟩ = some (.int .u64 0)
  q0 : W.frozen? ⟨w.heap.size + 1, 0, none⟩ = false
  q1 : W.frozen? ⟨w.heap.size + 1, 1, none⟩ = false
  size : w.heap.size + 1 < W.heap.size
  size0 : w.heap.size < W.heap.size
  bel : Below w.heap.size w W
theorem BoxRes.start (w : World) (ah al : Int) : BoxRes w ((w.alloc (.cells #[.int .u64 ah, .int .u64 al] 108)).alloc (.cells #[.int .u64 0, .int .u64 0] 108)) ah al :=
  ⟨by simp [go_sem], by simp [go_sem], by simp [go_sem], by simp [go_sem], by simp [go_sem], by simp [go_sem], by simp, by simp; omega, ((Below.refl _ _).alloc (Nat.le_refl _) _).alloc (by simp) _⟩
theorem BoxRes.after {w W W1 : World} {ah al : Int} (h : BoxRes w W ah al) (hb : Below W.heap.size W W1) : BoxRes w W1 ah al := by
  obtain ⟨c0, c1, r0, r1, q0, q1, s1, s0, bel⟩ := h
  have hc : ∀ b o, b < W.heap.size → W1.cell? ⟨b, o, none⟩ = W.cell? ⟨b, o, none⟩ := fun b o h => hb.cell (p := ⟨b, o, none⟩) h
  have hf : ∀ b o, b < W.heap.size → W1.frozen? ⟨b, o, none⟩ = W.frozen? ⟨b, o, none⟩ := fun b o h => hb.frozen (p := ⟨b, o, none⟩) h
  have := hb.size
  exact ⟨by rw [hc _ _ s0, c0], by rw [hc _ _ s0, c1], by rw [hc _ _ s1, r0], by rw [hc _ _ s1, r1], by rw [hf _ _ s1, q0], by rw [hf _ _ s1, q1], by omega, by omega, bel.trans (hb.mono bel.size)⟩

set_option maxRecDepth 100000 in
set_option maxHeartbeats 1000000 in
theorem more_any (ah al n : Int) (A : Nat) (w : World) (hA : IsW ah al A) (hn : 0 ≤ n) (hn' : n ≤ 18446744073709551615) :
    Calls Tryz.prog 154 #[.agg #[.int .u64 ah, .int .u64 al], .int .u64 n] w (GivesWC (capN (A * n.toNat)) (capC (A * n.toNat)) w) := by
  have HA := Lib.hid hA
  obtain ⟨a0, a4, a1, a2, _⟩ := hA
  by_cases hp : ah.toNat * n.toNat < 18446744073709551616
  · have hp := Lib.hid hp
    go_enter Tryz.func154, Tryz.ntmps154
    go_wp2_with (go_at_call 161; (with_reducible refine (etimes_any ah n _ a0 a4 hn hn').mono ?_); rintro e w1 ⟨hh, hl, rfl, hW1, g1⟩; obtain rfl := low_of hW1 hp.out; obtain ⟨hI, hS⟩ := more_in HA.out hn hW1 rfl; replace hS := Lib.hid hS; replace hW1 := Lib.hid hW1; have B1 := (BoxRes.start w ah al).after g1; obtain ⟨c0, c1, r0, r1, q0, q1, s1, s0, bel⟩ := B1)
    have hm1 : (w1.alloc (.cells #[.int .u64 0, .int .u64 hl] 108)).drew.cell? ⟨w1.heap.size, 1, none⟩ = some (.int .u64 hl) := by simp [go_sem]
    have hne : ¬ w.heap.size + 1 = w1.heap.size := by omega
    have B2 := Lib.hid (((BoxRes.start w ah al).after g1).after ((Below.refl _ _).alloc (Nat.le_refl _) (.cells #[.int .u64 0, .int .u64 hl] 108)).drew)
    go_region_held3 (fun W => W.cell? ⟨w1.heap.size, 1, none⟩ = some (.int .u64 hl) ∧ W.cell? ⟨w.heap.size, 1, none⟩ = some (.int .u64 al)) (first | (exact ⟨hm1, (B2.out).c1⟩) | (refine ⟨?_, ?_⟩ <;> assumption) | go_keep)
      (first
        | (go_at_call 161; refine (etimes_any al n _ a1 a2 hn hn').mono ?_; rintro e w2 ⟨th, tl, rfl, hW2, g2⟩; have B3 := Lib.hid (B2.out.after g2); have k1 := (g2.cell (p := ⟨w1.heap.size, 1, none⟩) (by simp [go_sem])).trans hm1; have k2 := B3.out.c1; have z2 : w1.heap.size < w2.heap.size := (by have := g2.size; simp [go_sem] at this; omega))
        | (go_at_call 155; refine (eadd_any hl 0 th tl _ _ _ hI hW2).mono ?_; rintro e w3 ⟨sh, sl, rfl, hW3, g3⟩; have B4 := B3.out.after g3; obtain ⟨d0, d1, e0, e1, x0, x1, t1, t0, bel4⟩ := B4; have k1 := d1; have k3 := (g3.cell (p := ⟨w1.heap.size, 1, none⟩) z2).trans ((g2.cell (p := ⟨w1.heap.size, 1, none⟩) (by simp [go_sem])).trans hm1)))
    go_wp2
    have hW4 := hW3
    rw [hS.out] at hW4
    refine bodyPost_ret (v := .tuple #[.agg #[.int .u64 sh, .int .u64 sl], .int .i64 (capC (hl.toNat * 18446744073709551616 + al.toNat * n.toNat))]) (by simp [results, Tryz.results154, go_sem, e0, e1]) rfl ⟨sh, sl, by rw [hS.out], hW4, ?_⟩
    exact (bel4.setCell (by simp) _).setCell (by simp) _
  · have hp := Lib.hid hp
    go_enter Tryz.func154, Tryz.ntmps154
    go_wp2_with (go_at_call 161; (with_reducible refine (etimes_any ah n _ a0 a4 hn hn').mono ?_); rintro e w1 ⟨hh, hl, rfl, hW1, g1⟩; have hz := high_of hW1 hp.out; have hov := Lib.hid (more_out HA.out hn hW1 hz); replace hz : (hh == 0) = false := (by simpa using hz); replace hW1 := Lib.hid hW1; have B1 := (BoxRes.start w ah al).after g1; obtain ⟨c0, c1, r0, r1, q0, q1, s1, s0, bel⟩ := B1)
    refine bodyPost_ret (v := .tuple #[.agg #[.int .u64 0, .int .u64 0], .int .i64 3]) (by simp [results, Tryz.results154, go_sem, r0, r1, s1]) rfl ⟨0, 0, by rw [capC_out hov.out], by rw [capN_out hov.out]; exact IsW.zero, ?_⟩
    exact ((bel.setCell (by simp) _).setCell (by simp) _).alloc (by simp; omega) _

def ceilN (A n : Nat) : Nat := if n = 0 then 0 else A / n + if A % n = 0 then 0 else 1
def ceilC (n : Nat) : Int := if n = 0 then 4 else 0
end Go.Proofs.YtmgimkokmlcllaaGreatDoor

/-
  Package exact, walked: whether a text is digits as Print writes them.
-/
namespace Go.Proofs.YtmgimkokmlcllaaGreatDoor
open Go.RowKit

theorem next_rune (w : World) (k : Nat) (s : ByteArray) (pos : Nat) (hk : w.heap[k]? = some (.stringIter s pos)) (h : pos < s.size) :
    ∃ (z : Int) (p : Nat), (∀ ty, (Instr.next (.pointer (some ⟨k, 0, none⟩)) true ty).run Tryz.prog w = .ok (.tuple #[.bool true, .int .i64 pos, .int .i32 z]) (w.iterAt k s p)) ∧ 0 ≤ z ∧ z ≤ 2147483647 ∧
      (48 ≤ z ∧ z ≤ 57 → p = pos + 1 ∧ (nums s).getD pos 0 = z) ∧ (¬ (48 ≤ z ∧ z ≤ 57) → ¬ (48 ≤ (nums s).getD pos 0 ∧ (nums s).getD pos 0 ≤ 57)) := by
  rw [nums_at s pos h]
  by_cases ha : s[pos].toNat < 128
  · refine ⟨(s[pos].toNat : Int), pos + 1, fun ty => Lib.run_next_ascii_at w k s pos ty hk h ha, by omega, by omega, fun _ => ⟨rfl, rfl⟩, fun hn => hn⟩
  · have hd := decode_high s pos h (by omega)
    have hl := decode_le s pos
    exact ⟨_, _, fun ty => Lib.run_next_any_at w k s pos ty hk h, by omega, by omega, fun hc => by omega, fun _ hc => by omega⟩

theorem toList_empty {s : ByteArray} (h : 0 < s.size) : s.toList.isEmpty = false ∧ ¬ s.toList = [] := by
  have e : s.toList = s.data.toList := ByteArray.toList_eq s
  have hl : s.data.toList.length = s.size := by simp
  rw [e]
  cases hd : s.data.toList with
  | nil => rw [hd] at hl; simp at hl; omega
  | cons a l => simp
theorem toList_other {s : ByteArray} (h : ¬ s.size = 1) : (s.toList == [48]) = false := by
  have e : s.toList = s.data.toList := ByteArray.toList_eq s
  have hl : s.data.toList.length = s.size := by simp
  rw [e]
  cases hq : (s.data.toList == [48]) with
  | false => rfl
  | true => have : s.data.toList = [48] := by simpa using hq
            rw [this] at hl; simp at hl; omega
theorem toList_nought {s : ByteArray} (h : s.size = 1) (h0 : (nums s).getD 0 0 = 48) : s = ⟨#[48]⟩ := by
  have hn : (nums s).length = 1 := by rw [nums_length, h]
  have : nums s = [48] := by
    cases hx : nums s with
    | nil => rw [hx] at hn; simp at hn
    | cons a l =>
      rw [hx] at hn h0
      have : l = [] := by cases l with | nil => rfl | cons b m => simp at hn
      subst this
      simp at h0; rw [h0]
  have hs := strOfNums_nums s
  rw [this] at hs
  rw [← hs]; rfl

def GivesB (P : Prop) (w : World) (e : Ending) (w' : World) : Prop := ∃ b : Bool, e = .returned (.bool b) ∧ (b = true ↔ P) ∧ Below w.heap.size w w'

theorem iter_at (w : World) (s : ByteArray) (p q : Nat) : (w.iter s p).iterAt w.heap.size s q = w.iter s q := World.iter_set w s p q
theorem iter_below (w : World) (s : ByteArray) (p : Nat) : Below w.heap.size w (w.iter s p) := (Below.refl _ _).alloc (Nat.le_refl _) _

set_option maxRecDepth 100000 in
set_option maxHeartbeats 1000000 in
/-- A text that isn't empty, and has no nought ahead of other letters. -/
theorem printed_loop (s : ByteArray) (w : World) (hm : s.size ≤ 9223372036854775807) (h0 : 0 < s.size) (hh : (s[0].toNat : Int) = 48 → False) :
    Calls Tryz.prog 153 #[.string s] w (GivesB (Dg (nums s)) w) := by
  obtain ⟨e1, e2⟩ := toList_empty h0
  have hne : nums s ≠ [] := fun e => by have := nums_length s; rw [e] at this; simp at this; omega
  have hhead : (nums s).getD 0 0 = 48 → (nums s).length = 1 := fun e => (hh (by rw [← nums_at s 0 h0]; exact e)).elim
  have hz : ((s[0].toNat : Int) == 48) = false := by
    cases hq : ((s[0].toNat : Int) == 48) with
    | false => rfl
    | true => exact (hh (by simpa using hq)).elim
  replace hne := Lib.hid hne
  replace hhead := Lib.hid hhead
  clear hh
  go_enter Tryz.func153, Tryz.ntmps153
  go_wp2
  go_loopw [4] (fun _ w' => ∃ pos : Nat, pos ≤ s.size ∧ w' = w.iter s pos ∧ Hid (∀ i, i < pos → 48 ≤ (nums s).getD i 0 ∧ (nums s).getD i 0 ≤ 57)) (fun _ w' => s.size - w'.iterPos w.heap.size)
  case atStart => exact ⟨0, Nat.zero_le _, rfl, Lib.hid (fun i hi => by omega)⟩
  case round =>
    obtain ⟨pos, hp, rfl, hall⟩ := hrel
    by_cases h1 : pos < s.size
    · obtain ⟨z, p, hnx, z0, z1, hyes, hno⟩ := next_rune (w.iter s pos) w.heap.size s pos (World.iter_heap w s pos) h1
      simp only [iter_at] at hnx
      replace hyes := Lib.hid hyes
      replace hno := Lib.hid hno
      by_cases h2 : z < 48
      · have hbad := Lib.hid (fun hd : Dg (nums s) => hno.out (by omega) (hd.all pos (by rw [nums_length]; exact h1)))
        go_wp2
        go_ret
        exact ⟨false, rfl, ⟨fun e => (Bool.noConfusion e), fun hd => (hbad.out hd).elim⟩, iter_below _ _ _⟩
      · by_cases h3 : 57 < z
        · have hbad := Lib.hid (fun hd : Dg (nums s) => hno.out (by omega) (hd.all pos (by rw [nums_length]; exact h1)))
          go_wp2
          go_ret
          exact ⟨false, rfl, ⟨fun e => (Bool.noConfusion e), fun hd => (hbad.out hd).elim⟩, iter_below _ _ _⟩
        · obtain ⟨rfl, hz2⟩ := hyes.out ⟨by omega, by omega⟩
          have hall' : Hid (∀ i, i < pos + 1 → 48 ≤ (nums s).getD i 0 ∧ (nums s).getD i 0 ≤ 57) := by
            intro i hi
            by_cases e : i = pos
            · rw [e, hz2]; exact ⟨by omega, by omega⟩
            · exact hall.out i (by omega)
          replace hz2 := Lib.hid hz2
          go_wp2
          go_roundw
          case rel => exact ⟨pos + 1, by omega, rfl, hall'.out⟩
          case measure => simp; omega
    · have hnx : ∀ ty, (Instr.next (.pointer (some ⟨w.heap.size, 0, none⟩)) true ty).run Tryz.prog (w.iter s pos) = _ := fun ty => run_next_end w s pos ty h1
      go_wp2
      go_ret
      exact ⟨true, rfl, ⟨fun _ => ⟨hne.out, hhead.out, fun i hi => hall.out i (by rw [nums_length] at hi; omega)⟩, fun _ => rfl⟩, iter_below _ _ _⟩

set_option maxRecDepth 100000 in
theorem printed_empty (w : World) : Calls Tryz.prog 153 #[.string ⟨#[]⟩] w fun e w' => e = .returned (.bool false) ∧ w = w' := by
  go_enter Tryz.func153, Tryz.ntmps153
  go_wp2
  go_ret
  exact ⟨rfl, rfl⟩
set_option maxRecDepth 100000 in
theorem printed_nought (w : World) : Calls Tryz.prog 153 #[.string ⟨#[48]⟩] w fun e w' => e = .returned (.bool true) ∧ Below w.heap.size w w' := by
  have h1 : ∀ ty, (Instr.next (.pointer (some ⟨w.heap.size, 0, none⟩)) true ty).run Tryz.prog (w.iter ⟨#[48]⟩ 0) = .ok (.tuple #[.bool true, .int .i64 0, .int .i32 48]) (w.iter ⟨#[48]⟩ 1) := fun ty => run_next_ascii w ⟨#[48]⟩ 0 ty (by decide) (by decide)
  have h2 : ∀ ty, (Instr.next (.pointer (some ⟨w.heap.size, 0, none⟩)) true ty).run Tryz.prog (w.iter ⟨#[48]⟩ 1) = .ok (.tuple #[.bool false]) (w.iter ⟨#[48]⟩ 1) := fun ty => run_next_end w ⟨#[48]⟩ 1 ty (by decide)
  go_enter Tryz.func153, Tryz.ntmps153
  go_wp2
  go_loopw [4] (fun _ w' => ∃ pos : Nat, pos ≤ 1 ∧ w' = w.iter ⟨#[48]⟩ pos) (fun _ w' => 1 - w'.iterPos w.heap.size)
  case atStart => exact ⟨0, by omega, rfl⟩
  case round =>
    obtain ⟨pos, hp, rfl⟩ := hrel
    by_cases hz : pos = 0
    · subst hz
      go_wp2
      go_roundw
      case rel => exact ⟨1, by omega, rfl⟩
      case measure => simp
    · obtain rfl : pos = 1 := by omega
      go_wp2
      go_ret
      exact ⟨rfl, iter_below _ _ _⟩
set_option maxRecDepth 100000 in
theorem printed_ahead (s : ByteArray) (w : World) (h0 : 1 < s.size) (hh : (s[0].toNat : Int) = 48) :
    Calls Tryz.prog 153 #[.string s] w fun e w' => e = .returned (.bool false) ∧ w = w' := by
  obtain ⟨e1, e2⟩ := toList_empty (s := s) (by omega)
  have e3 := toList_other (s := s) (by omega)
  have h1 : 0 < s.size := by omega
  go_enter Tryz.func153, Tryz.ntmps153
  go_wp2
  go_ret
  exact ⟨rfl, rfl⟩

theorem printed_any (s : ByteArray) (w : World) (hm : s.size ≤ 9223372036854775807) : Calls Tryz.prog 153 #[.string s] w (GivesB (Dg (nums s)) w) := by
  by_cases h0 : s.size = 0
  · have hs : s = ⟨#[]⟩ := by
      have hn : nums s = [] := List.eq_nil_of_length_eq_zero (by rw [nums_length, h0])
      rw [← strOfNums_nums s, hn]; rfl
    subst hs
    exact (printed_empty w).mono fun _ _ ⟨he, hw⟩ => ⟨false, he, ⟨fun e => Bool.noConfusion e, fun hd => (hd.some rfl).elim⟩, hw ▸ Below.refl _ _⟩
  · have hp : 0 < s.size := by omega
    by_cases hh : (s[0].toNat : Int) = 48
    · by_cases h1 : s.size = 1
      · obtain rfl := toList_nought h1 (by rw [nums_at s 0 hp]; exact hh)
        refine (printed_nought w).mono fun _ _ ⟨he, hb⟩ => ⟨true, he, ⟨fun _ => ?_, fun _ => rfl⟩, hb⟩
        refine ⟨by decide, fun _ => rfl, fun i hi => ?_⟩
        obtain rfl : i = 0 := by simp [nums] at hi; omega
        decide
      · refine (printed_ahead s w (by omega) hh).mono fun _ _ ⟨he, hw⟩ => ⟨false, he, ⟨fun e => Bool.noConfusion e, fun hd => ?_⟩, hw ▸ Below.refl _ _⟩
        have := hd.head (by rw [nums_at s 0 hp]; exact hh)
        rw [nums_length] at this; omega
    · exact printed_loop s w hm hp hh
end Go.Proofs.YtmgimkokmlcllaaGreatDoor

/-
  Package exact, walked: Read: the number whose print a text is, or why there is none.
-/
namespace Go.Proofs.YtmgimkokmlcllaaGreatDoor
open Go.RowKit

structure RMem (w w1 wr : World) (s : ByteArray) (pos : Nat) (ah al : Int) : Prop where
  it : wr.heap[w1.heap.size + 1]? = some (.stringIter s pos)
  a0 : wr.cell? ⟨w1.heap.size, 0, none⟩ = some (.int .u64 ah)
  a1 : wr.cell? ⟨w1.heap.size, 1, none⟩ = some (.int .u64 al)
  f0 : wr.frozen? ⟨w1.heap.size, 0, none⟩ = false
  f1 : wr.frozen? ⟨w1.heap.size, 1, none⟩ = false
  r0 : wr.cell? ⟨w.heap.size, 0, none⟩ = some (.int .u64 0)
  r1 : wr.cell? ⟨w.heap.size, 1, none⟩ = some (.int .u64 0)
  q0 : wr.frozen? ⟨w.heap.size, 0, none⟩ = false
  q1 : wr.frozen? ⟨w.heap.size, 1, none⟩ = false
  bel : Below w.heap.size w wr
  lt0 : w.heap.size < w1.heap.size
  s0 : w.heap.size < wr.heap.size
  s1 : w1.heap.size < wr.heap.size
  s2 : w1.heap.size + 1 < wr.heap.size
theorem RMem.after {w w1 wr w2 : World} {s : ByteArray} {pos : Nat} {ah al : Int} (h : RMem w w1 wr s pos ah al) (hb : Below wr.heap.size wr w2) : RMem w w1 w2 s pos ah al := by
  obtain ⟨it, a0, a1, f0, f1, r0, r1, q0, q1, bel, lt0, s0, s1, s2⟩ := h
  have hc : ∀ b o, b < wr.heap.size → w2.cell? ⟨b, o, none⟩ = wr.cell? ⟨b, o, none⟩ := fun b o h => hb.cell (p := ⟨b, o, none⟩) h
  have hf : ∀ b o, b < wr.heap.size → w2.frozen? ⟨b, o, none⟩ = wr.frozen? ⟨b, o, none⟩ := fun b o h => hb.frozen (p := ⟨b, o, none⟩) h
  have := hb.size
  exact ⟨(hb.block _ s2).trans it, by rw [hc _ _ s1, a0], by rw [hc _ _ s1, a1], by rw [hf _ _ s1, f0], by rw [hf _ _ s1, f1], by rw [hc _ _ s0, r0], by rw [hc _ _ s0, r1], by rw [hf _ _ s0, q0], by rw [hf _ _ s0, q1], bel.trans (hb.mono bel.size), lt0, by omega, by omega, by omega⟩
theorem RMem.next {w w1 wr : World} {s : ByteArray} {pos : Nat} {ah al : Int} (h : RMem w w1 wr s pos ah al) (p : Nat) : RMem w w1 (wr.iterAt (w1.heap.size + 1) s p) s p ah al := by
  obtain ⟨it, a0, a1, f0, f1, r0, r1, q0, q1, bel, lt0, s0, s1, s2⟩ := h
  have hk : ∀ k, k ≠ w1.heap.size + 1 → (wr.iterAt (w1.heap.size + 1) s p).heap[k]? = wr.heap[k]? := fun k hk => Lib.iterAt_other wr _ k s p hk
  have hz := Lib.iterAt_size wr (w1.heap.size + 1) s p
  have c1 : ∀ o, (wr.iterAt (w1.heap.size + 1) s p).cell? ⟨w1.heap.size, o, none⟩ = wr.cell? ⟨w1.heap.size, o, none⟩ := fun o => World.cell?_of_block (hk _ (by simp))
  have c0 : ∀ o, (wr.iterAt (w1.heap.size + 1) s p).cell? ⟨w.heap.size, o, none⟩ = wr.cell? ⟨w.heap.size, o, none⟩ := fun o => World.cell?_of_block (hk _ (by simp; omega))
  have g1 : ∀ o, (wr.iterAt (w1.heap.size + 1) s p).frozen? ⟨w1.heap.size, o, none⟩ = wr.frozen? ⟨w1.heap.size, o, none⟩ := fun o => World.frozen?_of_block (hk _ (by simp))
  have g0 : ∀ o, (wr.iterAt (w1.heap.size + 1) s p).frozen? ⟨w.heap.size, o, none⟩ = wr.frozen? ⟨w.heap.size, o, none⟩ := fun o => World.frozen?_of_block (hk _ (by simp; omega))
  exact ⟨Lib.iterAt_heap wr _ s pos p it, by rw [c1, a0], by rw [c1, a1], by rw [g1, f0], by rw [g1, f1], by rw [c0, r0], by rw [c0, r1], by rw [g0, q0], by rw [g0, q1], Lib.below_iterAt bel (by omega) s p, lt0, by omega, by omega, by omega⟩
theorem RMem.put {w w1 wr : World} {s : ByteArray} {pos : Nat} {ah al : Int} (h : RMem w w1 wr s pos ah al) (x y : Int) :
    RMem w w1 ((wr.setCell ⟨w1.heap.size, 0, none⟩ (.int .u64 x)).setCell ⟨w1.heap.size, 1, none⟩ (.int .u64 y)) s pos x y := by
  obtain ⟨it, a0, a1, f0, f1, r0, r1, q0, q1, bel, lt0, s0, s1, s2⟩ := h
  refine ⟨?_, ?_, World.cell?_setCell_same _ _ _ (by rw [World.cell?_setCell_other _ _ _ _ (by simp)]; exact a1), by rw [World.frozen?_setCell, World.frozen?_setCell]; exact f0, by rw [World.frozen?_setCell, World.frozen?_setCell]; exact f1, ?_, ?_,
    by rw [World.frozen?_setCell, World.frozen?_setCell]; exact q0, by rw [World.frozen?_setCell, World.frozen?_setCell]; exact q1, (bel.setCell (by simp; omega) _).setCell (by simp; omega) _, lt0, by simpa using s0, by simpa using s1, by simpa using s2⟩
  · rw [Below.heap_setCell _ _ _ _ (by simp), Below.heap_setCell _ _ _ _ (by simp)]; exact it
  · rw [World.cell?_setCell_other _ _ _ _ (by simp)]; exact World.cell?_setCell_same _ _ _ a0
  · rw [World.cell?_setCell_other _ _ _ _ (by first | (simp; done) | (simp; omega)), World.cell?_setCell_other _ _ _ _ (by first | (simp; done) | (simp; omega))]; exact r0
  · rw [World.cell?_setCell_other _ _ _ _ (by first | (simp; done) | (simp; omega)), World.cell?_setCell_other _ _ _ _ (by first | (simp; done) | (simp; omega))]; exact r1

theorem read_over {zs : List Int} {k : Nat} (hk : k < zs.length) (h : ¬ W128 (numOf (zs.take k) * 10)) : ¬ W128 (numOf zs) := by
  have h1 := numOf_step zs k hk
  have h2 := numOf_take zs (k + 1) (by omega)
  unfold W128 at *; omega
theorem read_over2 {zs : List Int} {k : Nat} (hk : k < zs.length) (h : ¬ W128 (numOf (zs.take (k + 1)))) : ¬ W128 (numOf zs) := by
  have h2 := numOf_take zs (k + 1) (by omega)
  unfold W128 at *; omega

theorem res_kept {w w1 : World} (hb : Below (w.alloc (.cells #[.int .u64 0, .int .u64 0] 108)).heap.size (w.alloc (.cells #[.int .u64 0, .int .u64 0] 108)) w1) :
    w1.cell? ⟨w.heap.size, 0, none⟩ = some (.int .u64 0) ∧ w1.cell? ⟨w.heap.size, 1, none⟩ = some (.int .u64 0) ∧ w1.frozen? ⟨w.heap.size, 0, none⟩ = false ∧ w1.frozen? ⟨w.heap.size, 1, none⟩ = false ∧ w.heap.size < w1.heap.size ∧ Below w.heap.size w w1 := by
  have hs := hb.size
  simp at hs
  exact ⟨(hb.cell (p := ⟨w.heap.size, 0, none⟩) (by simp)).trans (by simp), (hb.cell (p := ⟨w.heap.size, 1, none⟩) (by simp)).trans (by simp),
    (hb.frozen (p := ⟨w.heap.size, 0, none⟩) (by simp)).trans (by simp), (hb.frozen (p := ⟨w.heap.size, 1, none⟩) (by simp)).trans (by simp), by omega, ((Below.refl _ _).alloc (Nat.le_refl _) _).trans (hb.mono (by simp))⟩

set_option maxRecDepth 100000 in
set_option maxHeartbeats 1000000 in
theorem eread_no (s : ByteArray) (w : World) (hm : s.size ≤ 9223372036854775807) (hd : ¬ Dg (nums s)) :
    Calls Tryz.prog 134 #[.string s] w (GivesWC 0 5 w) := by
  replace hd := Lib.hid hd
  go_enter Tryz.func134, Tryz.ntmps134
  go_wp2_with (go_at_call 153; refine (printed_any s _ hm).mono ?_; rintro e w1 ⟨b, rfl, hb, g1⟩; obtain rfl : b = false := (by cases b; rfl; exact (hd.out (hb.mp rfl)).elim); clear hb; obtain ⟨r0, r1, q0, q1, s0, bel⟩ := res_kept g1)
  refine bodyPost_ret (v := .tuple #[.agg #[.int .u64 0, .int .u64 0], .int .i64 5]) (by simp [results, Tryz.results134, go_sem, r0, r1]) rfl ⟨0, 0, rfl, IsW.zero, ?_⟩
  exact (bel.setCell (by simp) _).setCell (by simp) _

theorem more_ten (ah al : Int) (N : Nat) (w : World) (hA : IsW ah al N) :
    Calls Tryz.prog 154 #[.agg #[.int .u64 ah, .int .u64 al], .int .u64 10] w (GivesWC (capN (N * 10)) (capC (N * 10)) w) := more_any ah al 10 N w hA (by decide) (by decide)
theorem RMem.start {w w1 : World} {s : ByteArray} (r0 : w1.cell? ⟨w.heap.size, 0, none⟩ = some (.int .u64 0)) (r1 : w1.cell? ⟨w.heap.size, 1, none⟩ = some (.int .u64 0))
    (q0 : w1.frozen? ⟨w.heap.size, 0, none⟩ = false) (q1 : w1.frozen? ⟨w.heap.size, 1, none⟩ = false) (bel : Below w.heap.size w w1) (s0 : w.heap.size < w1.heap.size) :
    RMem w w1 ((w1.alloc (.cells #[.int .u64 0, .int .u64 0] 108)).iter s 0) s 0 0 0 := by
  have hz : (w1.alloc (.cells #[.int .u64 0, .int .u64 0] 108)).heap.size = w1.heap.size + 1 := by simp
  have b2 := iter_below (w1.alloc (.cells #[.int .u64 0, .int .u64 0] 108)) s 0
  have b1 : Below w1.heap.size w1 ((w1.alloc (.cells #[.int .u64 0, .int .u64 0] 108)).iter s 0) := ((Below.refl _ _).alloc (Nat.le_refl _) _).trans (b2.mono (by simp))
  have hi := World.iter_heap (w1.alloc (.cells #[.int .u64 0, .int .u64 0] 108)) s 0
  have hs : ((w1.alloc (.cells #[.int .u64 0, .int .u64 0] 108)).iter s 0).heap.size = w1.heap.size + 2 := by simp [World.iter]
  rw [hz] at hi
  refine ⟨hi, ?_, ?_, ?_, ?_, ?_, ?_, ?_, ?_, bel.trans (b1.mono bel.size), s0, by omega, by omega, by omega⟩
  · exact (b2.cell (p := ⟨w1.heap.size, 0, none⟩) (by simp)).trans (by simp)
  · exact (b2.cell (p := ⟨w1.heap.size, 1, none⟩) (by simp)).trans (by simp)
  · exact (b2.frozen (p := ⟨w1.heap.size, 0, none⟩) (by simp)).trans (by simp)
  · exact (b2.frozen (p := ⟨w1.heap.size, 1, none⟩) (by simp)).trans (by simp)
  · exact (b1.cell (p := ⟨w.heap.size, 0, none⟩) s0).trans r0
  · exact (b1.cell (p := ⟨w.heap.size, 1, none⟩) s0).trans r1
  · exact (b1.frozen (p := ⟨w.heap.size, 0, none⟩) s0).trans q0
  · exact (b1.frozen (p := ⟨w.heap.size, 1, none⟩) s0).trans q1

set_option maxRecDepth 100000 in
set_option maxHeartbeats 2000000 in
theorem eread_yes (s : ByteArray) (w : World) (hm : s.size ≤ 9223372036854775807) (hd : Dg (nums s)) :
    Calls Tryz.prog 134 #[.string s] w (GivesWC (capN (numOf (nums s))) (capC (numOf (nums s))) w) := by
  replace hd := Lib.hid hd
  go_enter Tryz.func134, Tryz.ntmps134
  go_wp2_with (go_at_call 153; refine (printed_any s _ hm).mono ?_; rintro e w1 ⟨b, rfl, hb, g1⟩; obtain rfl := hb.mpr hd.out; clear hb; obtain ⟨r0, r1, q0, q1, s0, bel⟩ := res_kept g1)
  go_loopw [6, 7, 8] (fun _ _ _ wr => ∃ (pos : Nat) (ah al : Int), pos ≤ s.size ∧ IsW ah al (numOf ((nums s).take pos)) ∧ RMem w w1 wr s pos ah al) (fun _ _ _ wr => s.size - wr.iterPos (w1.heap.size + 1))
  case atStart =>
    exact ⟨0, 0, 0, Nat.zero_le _, IsW.zero, RMem.start r0 r1 q0 q1 bel s0⟩
  case round =>
    obtain ⟨pos, ah, al, hp, hW, hM⟩ := hrel
    clear r0 r1 q0 q1 bel
    by_cases h1 : pos < s.size
    · obtain ⟨z, p, hnx, z0, z1, hyes, hno⟩ := next_rune wr (w1.heap.size + 1) s pos hM.it h1
      have hl : pos < (nums s).length := by rw [nums_length]; exact h1
      have hdg := hd.out.all pos hl
      have hz : 48 ≤ z ∧ z ≤ 57 := by
        by_cases hz : 48 ≤ z ∧ z ≤ 57
        · exact hz
        · exact (hno hz hdg).elim
      obtain ⟨rfl, hzz⟩ := hyes hz
      clear hyes hno hdg
      obtain ⟨hz1, hz2⟩ := hz
      obtain ⟨N, hN⟩ : ∃ N, N = numOf ((nums s).take pos) := ⟨_, rfl⟩
      have hst : numOf ((nums s).take (pos + 1)) = N * 10 + (z - 48).toNat := by rw [numOf_step _ _ hl, hzz, ← hN]; omega
      have ho1 := read_over hl
      have ho2 := read_over2 hl
      rw [← hN] at hW ho1
      rw [hst] at ho2
      replace ho1 := Lib.hid ho1
      replace ho2 := Lib.hid ho2
      replace hst := Lib.hid hst
      have M2 := Lib.hid (hM.next (pos + 1))
      have hM0 := Lib.hid hM.it
      clear hM hzz hN
      obtain ⟨_, a0, a1, f0, f1, r0, r1, q0, q1, bel, _, s0, s1, s2⟩ := M2.out
      by_cases o1 : W128 (N * 10)
      · have hc1 : capC (N * 10) = 0 := capC_in o1
        by_cases o2 : W128 (N * 10 + (z - 48).toNat)
        · have hc2 : capC (N * 10 + (z - 48).toNat) = 0 := capC_in o2
          replace o1 := Lib.hid o1
          replace o2 := Lib.hid o2
          go_wp2_with (first | (go_at_call 154; refine (more_ten ah al N _ hW).mono ?_; rintro e w3 ⟨th, tl, rfl, hW3, g3⟩; rw [capN_in o1.out] at hW3; have M3 := Lib.hid ((M2.out.after g3).after ((Below.refl _ _).alloc (Nat.le_refl _) (.cells #[.int .u64 th, .int .u64 tl] 108)))) | (go_at_call 155; refine (eadd_any th tl 0 (z - 48) _ _ _ hW3 (IsW.small (by omega) (by omega))).mono ?_; rintro e w4 ⟨sh, sl, rfl, hW4, g4⟩; rw [capN_in o2.out] at hW4; have M4 := Lib.hid (M3.out.after g4); obtain ⟨_, a0, a1, f0, f1, r0, r1, q0, q1, bel, _, s0, s1, s2⟩ := M4.out))
          have M5 := M4.out.put sh sl
          have hit := M5.it
          go_roundw
          case rel => exact ⟨pos + 1, sh, sl, by omega, by rw [hst.out]; exact hW4, M5⟩
          case measure => rw [iterPos_of hit, iterPos_of hM0.out]; omega
        · have hc2 : capC (N * 10 + (z - 48).toNat) = 3 := capC_out o2
          have hall := Lib.hid (ho2.out o2)
          replace o1 := Lib.hid o1
          replace o2 := Lib.hid o2
          go_wp2_with (first | (go_at_call 154; refine (more_ten ah al N _ hW).mono ?_; rintro e w3 ⟨th, tl, rfl, hW3, g3⟩; rw [capN_in o1.out] at hW3; have M3 := Lib.hid ((M2.out.after g3).after ((Below.refl _ _).alloc (Nat.le_refl _) (.cells #[.int .u64 th, .int .u64 tl] 108)))) | (go_at_call 155; refine (eadd_any th tl 0 (z - 48) _ _ _ hW3 (IsW.small (by omega) (by omega))).mono ?_; rintro e w4 ⟨sh, sl, rfl, hW4, g4⟩; have M4 := Lib.hid (M3.out.after g4); obtain ⟨_, a0, a1, f0, f1, r0, r1, q0, q1, bel, _, s0, s1, s2⟩ := M4.out; have s3 : w.heap.size ≠ w1.heap.size := (by omega)))
          have M5 := M4.out.put sh sl
          refine bodyPost_ret (v := .tuple #[.agg #[.int .u64 0, .int .u64 0], .int .i64 3]) (by simp [results, Tryz.results134, go_sem, M5.r0, M5.r1]) rfl ⟨0, 0, by rw [capC_out hall.out], by rw [capN_out hall.out]; exact IsW.zero, ?_⟩
          exact (M5.bel.setCell (by simp) _).setCell (by simp) _
      · have hc1 : capC (N * 10) = 3 := capC_out o1
        have hall := Lib.hid (ho1.out o1)
        replace o1 := Lib.hid o1
        go_wp2_with (go_at_call 154; refine (more_ten ah al N _ hW).mono ?_; rintro e w3 ⟨th, tl, rfl, hW3, g3⟩; have M3 := Lib.hid (M2.out.after g3); obtain ⟨_, a0, a1, f0, f1, r0, r1, q0, q1, bel, _, s0, s1, s2⟩ := M3.out)
        refine bodyPost_ret (v := .tuple #[.agg #[.int .u64 0, .int .u64 0], .int .i64 3]) (by simp [results, Tryz.results134, go_sem, r0, r1, s0]) rfl ⟨0, 0, by rw [capC_out hall.out], by rw [capN_out hall.out]; exact IsW.zero, ?_⟩
        exact ((bel.setCell (by simp) _).setCell (by simp) _).alloc (by simp; omega) _
    · obtain rfl : pos = s.size := by omega
      have hnx : ∀ ty, (Instr.next (.pointer (some ⟨w1.heap.size + 1, 0, none⟩)) true ty).run Tryz.prog wr = _ := fun ty => Lib.run_next_end_at wr (w1.heap.size + 1) s s.size ty hM.it (Nat.lt_irrefl _)
      have hN : (nums s).take s.size = nums s := by rw [← nums_length, List.take_length]
      rw [hN] at hW
      have hW2 := Lib.hid hW
      replace hN := Lib.hid hN
      obtain ⟨_, a0, a1, f0, f1, r0, r1, q0, q1, bel, _, s0, s1, s2⟩ := hM
      clear hW
      go_wp2
      refine bodyPost_ret (v := .tuple #[.agg #[.int .u64 ah, .int .u64 al], .int .i64 0]) (by simp [results, Tryz.results134, go_sem, r0, r1]) rfl ⟨ah, al, by rw [capC_in hW2.out.lt], by rw [capN_in hW2.out.lt]; exact hW2.out, ?_⟩
      exact (bel.setCell (by simp) _).setCell (by simp) _
end Go.Proofs.YtmgimkokmlcllaaGreatDoor

/-
  Package exact, walked: Print: its decimal digits.
-/
namespace Go.Proofs.YtmgimkokmlcllaaGreatDoor
open Go.RowKit

structure PMem (w wr : World) (f : Nat) (ah al : Int) (xs : List Int) : Prop where
  c0 : wr.cell? ⟨w.heap.size, 0, none⟩ = some (.int .u64 ah)
  c1 : wr.cell? ⟨w.heap.size, 1, none⟩ = some (.int .u64 al)
  f0 : wr.frozen? ⟨w.heap.size, 0, none⟩ = false
  f1 : wr.frozen? ⟨w.heap.size, 1, none⟩ = false
  row : ∀ i, i < 39 → ∃ v, wr.cell? ⟨w.heap.size + 1, i, none⟩ = some v
  free : ∀ i, i < 39 → wr.frozen? ⟨w.heap.size + 1, i, none⟩ = false
  got : ∀ i, i < xs.length → wr.cell? ⟨w.heap.size + 1, f + i, none⟩ = some (.int .u8 (xs.getD i 0))
  bel : Below w.heap.size w wr
  size : w.heap.size + 1 < wr.heap.size

theorem cell_new_at (W : World) (C : Array Value) (t : TypeId) (g j : Nat) (hg : g = W.heap.size) (hj : j < C.size) : ∃ v, (W.alloc (.cells C t)).cell? ⟨g, j, none⟩ = some v := by
  subst hg
  exact ⟨C[j], by rw [World.cell?_alloc_mark]; exact Array.getElem?_eq_getElem hj⟩
theorem PMem.after {w wr w1 : World} {f : Nat} {ah al : Int} {xs : List Int} (h : PMem w wr f ah al xs) (hb : Below wr.heap.size wr w1) : PMem w w1 f ah al xs := by
  obtain ⟨c0, c1, f0, f1, row, free, got, bel, size⟩ := h
  have hc : ∀ b o, b < wr.heap.size → w1.cell? ⟨b, o, none⟩ = wr.cell? ⟨b, o, none⟩ := fun b o h => hb.cell (p := ⟨b, o, none⟩) h
  have hf : ∀ b o, b < wr.heap.size → w1.frozen? ⟨b, o, none⟩ = wr.frozen? ⟨b, o, none⟩ := fun b o h => hb.frozen (p := ⟨b, o, none⟩) h
  have := hb.size
  exact ⟨by rw [hc _ _ (by omega), c0], by rw [hc _ _ (by omega), c1], by rw [hf _ _ (by omega), f0], by rw [hf _ _ (by omega), f1],
    fun i hi => by rw [hc _ _ (by omega)]; exact row i hi, fun i hi => by rw [hf _ _ (by omega)]; exact free i hi, fun i hi => by rw [hc _ _ (by omega)]; exact got i hi,
    bel.trans (hb.mono bel.size), by omega⟩

theorem PMem.put {w W : World} {f : Nat} {ah al d : Int} {xs : List Int} (h : PMem w W f ah al xs) (hf : 0 < f) (hf' : f ≤ 39) : PMem w (W.setCell ⟨w.heap.size + 1, f - 1, none⟩ (.int .u8 d)) (f - 1) ah al (d :: xs) := by
  obtain ⟨c0, c1, f0, f1, row, free, got, bel, size⟩ := h
  obtain ⟨v, hv⟩ := row (f - 1) (by omega)
  refine ⟨?_, ?_, by rw [World.frozen?_setCell]; exact f0, by rw [World.frozen?_setCell]; exact f1, ?_, fun i hi => by rw [World.frozen?_setCell]; exact free i hi, ?_, bel.setCell (by simp) _, by simpa using size⟩
  · rw [World.cell?_setCell_other _ _ _ _ (by simp)]; exact c0
  · rw [World.cell?_setCell_other _ _ _ _ (by simp)]; exact c1
  · intro i hi
    by_cases he : i = f - 1
    · subst he; exact ⟨_, World.cell?_setCell_same _ _ _ hv⟩
    · rw [World.cell?_setCell_other _ _ _ _ (by first | (simp; done) | (simp; omega))]; exact row i hi
  · intro i hi
    rcases i with _ | i
    · exact World.cell?_setCell_same _ _ _ hv
    · rw [World.cell?_setCell_other _ _ _ _ (by first | (simp; done) | (simp; omega)), show f - 1 + (i + 1) = f + i by omega]
      simpa using got i (by simpa using hi)
theorem PMem.move {w W : World} {f : Nat} {ah al h l : Int} {xs : List Int} (k : PMem w W f ah al xs) : PMem w ((W.setCell ⟨w.heap.size, 0, none⟩ (.int .u64 h)).setCell ⟨w.heap.size, 1, none⟩ (.int .u64 l)) f h l xs := by
  obtain ⟨c0, c1, f0, f1, row, free, got, bel, size⟩ := k
  have hc : ∀ i, ((W.setCell ⟨w.heap.size, 0, none⟩ (.int .u64 h)).setCell ⟨w.heap.size, 1, none⟩ (.int .u64 l)).cell? ⟨w.heap.size + 1, i, none⟩ = W.cell? ⟨w.heap.size + 1, i, none⟩ := fun i => by
    rw [World.cell?_setCell_other _ _ _ _ (by simp), World.cell?_setCell_other _ _ _ _ (by simp)]
  refine ⟨?_, ?_, by rw [World.frozen?_setCell, World.frozen?_setCell]; exact f0, by rw [World.frozen?_setCell, World.frozen?_setCell]; exact f1, ?_, fun i hi => by rw [World.frozen?_setCell, World.frozen?_setCell]; exact free i hi, ?_, (bel.setCell (by simp) _).setCell (by simp) _, by simpa using size⟩
  · rw [World.cell?_setCell_other _ _ _ _ (by simp)]; exact World.cell?_setCell_same _ _ _ c0
  · exact World.cell?_setCell_same _ _ _ (by rw [World.cell?_setCell_other _ _ _ _ (by simp)]; exact c1)
  · intro i hi; rw [hc]; exact row i hi
  · intro i hi; rw [hc]; exact got i hi
theorem conv_row {w W : World} {f : Nat} {ah al : Int} {xs : List Int} (h : PMem w W f ah al xs) (n : Nat) (hn : n = xs.length) :
    (convert 41 9 (.slice (some ⟨w.heap.size + 1, f, none⟩) n n)).run Tryz.prog W = .ok (.string (strOfNums xs)) W :=
  run_convert_bytes_arg W 41 5 Tryz.underlying41 Tryz.underlying5 _ _ _ _ xs hn.symm (fun i hi => h.got i (by omega)) 9 Tryz.underlying9
theorem arrayLen_digits : Tryz.prog.arrayLen 142 = 39 := by kernel_rfl
theorem slice_tail (W : World) (B f n : Nat) (z : Int) (hz : z = f) (hf : n + f = 39) (h0 : f < 39) :
    (Instr.sliceAt 142 (.pointer (some ⟨B, 0, none⟩)) (some (.int .i64 z)) none none).run Tryz.prog W = .ok (.slice (some ⟨B, f, none⟩) n n) W := by
  subst hz
  have := run_sliceAt_array_l (P := Tryz.prog) W 142 ⟨B, 0, none⟩ (by kernel_rfl) .i64 (f : Int) (by omega) (by rw [arrayLen_digits]; omega)
  rw [this, arrayLen_digits]
  have hs : (sizeOf (Tryz.prog.elem 142)).run Tryz.prog W = .ok 1 W := by kernel_rfl
  rw [hs]
  simp only [Result.andThen, slicedAt, Int.toNat_natCast, Nat.mul_one]
  rw [if_neg (by omega), show 39 - f = n by omega]
  rcases f with _ | f <;> simp [Addr.add]
theorem print_last {A a : Nat} {xs : List Int} {x : Int} (h : PrintAt A a xs) (ha : a < 10) (_h0 : 0 ≤ x) (hx : x.toNat = a % 10) : strOfNums ((48 + x) :: xs) = strOfNums (dec A) := by
  rw [h.last ha]
  have e : x = ((a % 10 : Nat) : Int) := by omega
  rw [e]
theorem print_next {A a : Nat} {xs : List Int} {x : Int} (h : PrintAt A a xs) (ha : ¬ a < 10) (h0 : 0 ≤ x) (hx : x.toNat = a % 10) : PrintAt A (a / 10) ((48 + x) :: xs) := by
  have e : x = ((a % 10 : Nat) : Int) := by omega
  rw [e]; exact h.next ha
theorem not_zero_of {a : Nat} (h1 : IsW 0 0 (a / 10)) (ha : ¬ a < 10) : False := by
  have h2 : IsW 0 0 (a / 10) := h1
  obtain ⟨_, _, _, _, e⟩ := h2
  omega
theorem ten {h l : Int} {a : Nat} (h1 : IsW h l (a / 10)) : IsW h l (a / 10) := h1
theorem floor_dig {x : Int} {a : Nat} (_h0 : 0 ≤ x) (h : x.toNat = a % 10) : x ≤ 9 := by
  omega
theorem zero_of {h l : Int} {a : Nat} (h1 : IsW h l (a / 10)) (ha : a < 10) : h = 0 ∧ l = 0 := by
  have e : a / 10 = 0 := by have : 10 = 10 := rfl; omega
  rw [e] at h1
  exact h1.unique IsW.zero

set_option maxRecDepth 100000 in
set_option maxHeartbeats 1000000 in
theorem print_any (h l : Int) (A : Nat) (w : World) (hA : IsW h l A) :
    Calls Tryz.prog 98 #[.agg #[.int .u64 h, .int .u64 l]] w fun e w' => e = .returned (.string (strOfNums (dec A))) ∧ Below w.heap.size w w' := by
  have HA := Lib.hid hA
  have HL := Lib.hid hA.lt
  go_enter Tryz.func98, Tryz.ntmps98
  go_wp2
  go_loopw [4, 5, 6, 7] (fun i _ _ _ wr => ∃ (f a : Nat) (ah al : Int) (xs : List Int), f ≤ 39 ∧ i = .int .i64 f ∧ Hid (xs.length + f = 39) ∧ IsW ah al a ∧ PrintAt A a xs ∧ PMem w wr f ah al xs) (fun i _ _ _ _ => (intOf i).toNat)
  case atStart =>
    refine ⟨39, A, h, l, [], by omega, rfl, Lib.hid rfl, hA, PrintAt.start A, ⟨by simp [go_sem], by simp [go_sem], by simp [go_sem], by simp [go_sem], ?_, ?_, ?_, ((Below.refl _ _).alloc (Nat.le_refl _) _).alloc (by simp) _, by simp⟩⟩
    · intro i hi; exact cell_new_at _ _ _ _ _ (by simp) (by simpa using hi)
    · intro i hi; simp [go_sem]
    · intro i hi; simp at hi
  case round =>
    obtain ⟨f, a, ah, al, xs, hf, rfl, hlen, hW, hP, hM⟩ := hrel
    have hroom := hP.room HL.out
    have hf0 : 0 < f := by have := hlen.out; omega
    obtain ⟨c0, c1, _, _, _, _, _, _, hsz⟩ := hM.after (Below.refl _ _)
    by_cases ha : a < 10
    · go_wp2_with (go_at_call 121; refine (floor_any ah al 10 a _ hW (by decide) (by decide)).mono ?_; rintro e w1 ⟨h', l', x, rfl, hW1, hx0, hx, hb⟩; have hM1 := hM.after hb; obtain ⟨d0, d1, e0, e1, row, free, _, _, hsz1⟩ := hM1; obtain ⟨v, hv⟩ := row (f - 1) (by omega); have hv' := free (f - 1) (by omega); clear row free; replace hx : x.toNat = a % 10 := hx; replace hW1 : IsW h' l' (a / 10) := hW1; have hx9 : x ≤ 9 := floor_dig hx0 hx; obtain ⟨rfl, rfl⟩ := zero_of hW1 ha; have hsl := fun W => slice_tail W (w.heap.size + 1) (f - 1) (xs.length + 1) (f - 1) (by omega) (by have := hlen.out; omega) (by omega); have hcv := conv_row (((hM.after hb).put (d := 48 + x) hf0 hf).after ((Below.refl _ _).alloc (Nat.le_refl _) (.cells #[.int .u64 0, .int .u64 0] 108))) (xs.length + 1) rfl; have hlast := Lib.hid (print_last hP ha hx0 hx); have hbel := (hM.after hb).bel)
      go_ret
      exact ⟨by rw [hlast.out]; rfl, (hbel.setCell (by simp) _).alloc (by simp; omega) _⟩
    · go_wp2_with (go_at_call 121; refine (floor_any ah al 10 a _ hW (by decide) (by decide)).mono ?_; rintro e w1 ⟨h', l', x, rfl, hW1, hx0, hx, hb⟩; have hM1 := hM.after hb; obtain ⟨d0, d1, e0, e1, row, free, _, _, hsz1⟩ := hM1; obtain ⟨v, hv⟩ := row (f - 1) (by omega); have hv' := free (f - 1) (by omega); clear row free; replace hx : x.toNat = a % 10 := hx; replace hW1 : IsW h' l' (a / 10) := hW1; have hx9 : x ≤ 9 := floor_dig hx0 hx; have HW1 := Lib.hid hW1; have HX := Lib.hid (print_next hP ha hx0 hx); have hsz2 : w.heap.size < w1.heap.size := (by omega))
      · have z1 : h' = 0 := by assumption
        have z2 : l' = 0 := by assumption
        have hw := HW1.out
        rw [z1, z2] at hw
        exact (not_zero_of hw ha).elim
      · have z1 : h' = 0 := by assumption
        have hw := HW1.out
        rw [z1] at hw
        have hm := (((hM.after hb).put (d := 48 + x) hf0 hf).move (h := 0) (l := l')).after ((Below.refl _ _).alloc (Nat.le_refl _) (.cells #[.int .u64 0, .int .u64 l'] 108))
        go_roundw
        case rel => exact ⟨f - 1, a / 10, 0, l', _, by omega, by rw [show ((f - 1 : Nat) : Int) = (f : Int) - 1 by omega], Lib.hid (by have := hlen.out; simp only [List.length_cons]; omega), hw, HX.out, hm⟩
        case measure => simp [intOf]; omega
      · have hm := (((hM.after hb).put (d := 48 + x) hf0 hf).move (h := h') (l := l')).after ((Below.refl _ _).alloc (Nat.le_refl _) (.cells #[.int .u64 h', .int .u64 l'] 108))
        go_roundw
        case rel => exact ⟨f - 1, a / 10, h', l', _, by omega, by rw [show ((f - 1 : Nat) : Int) = (f : Int) - 1 by omega], Lib.hid (by have := hlen.out; simp only [List.length_cons]; omega), HW1.out, HX.out, hm⟩
        case measure => simp [intOf]; omega
end Go.Proofs.YtmgimkokmlcllaaGreatDoor
