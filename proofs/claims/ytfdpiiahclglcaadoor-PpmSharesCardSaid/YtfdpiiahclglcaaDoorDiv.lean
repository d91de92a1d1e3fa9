/-
  math/bits.Div64, walked: of a high half that is below the divisor it answers the quotient of the number of 128 bits, and what is left; it changes nothing.
-/
import Derived.Test.YtfdpiiahclglcaaDoorProg
import Derived.Test.YtfdpiiahclglcaaDoorShelf
import Derived.Test.YtfdpiiahclglcaaDoorDivMath
import Derived.WalkKit
import Derived.WalkSpells
import Derived.WalkLawsBesides
import Derived.Deep.QuietTactic
import Derived.BigQuiet
import Derived.Deep.Cut
import Derived.Deep.CutRange
import Derived.Deep.DeepCutAuto
import Derived.Deep.CutBlock
import Derived.Lib.Hide
import Derived.Lib.ItoaNum
import Derived.Laws.BitsAllLaws
namespace Go.Proofs.YtfdpiiahclglcaaDoor
open Go.RowKit
def DigRel (u u1 v1 v0 Q : Int) (a b : Value) : Prop := ∃ q r : Int, a = .int .u64 q ∧ b = .int .u64 r ∧ DigAt u u1 v1 v0 Q q r ∧ 0 ≤ q ∧ q ≤ 17179869184 ∧ 0 ≤ q * v0 ∧ (q < 4294967296 → q * v0 ≤ 18446744073709551615)

theorem dig_rest2 {q v0 : Int} (g1 : 0 ≤ q) (g2 : q ≤ 17179869184) (b16 : 0 ≤ v0) (b17 : v0 < 4294967296) (c : q ≤ 4294967296) (h : 0 ≤ q - 1) :
    0 ≤ q - 1 ∧ q - 1 ≤ 17179869184 ∧ 0 ≤ (q - 1) * v0 ∧ (q - 1 < 4294967296 → (q - 1) * v0 ≤ 18446744073709551615) := by
  refine ⟨h, by omega, Int.mul_nonneg h b16, fun _ => ?_⟩
  have := Int.mul_le_mul (by omega : q - 1 ≤ 4294967295) (by omega : v0 ≤ 4294967295) b16 (by omega)
  omega
theorem dig_rest {q v0 : Int} (g1 : 0 ≤ q) (g2 : q ≤ 17179869184) (b16 : 0 ≤ v0) (b17 : v0 < 4294967296) (c1 : 4294967296 ≤ q) (h : 0 ≤ q - 1) :
    0 ≤ q - 1 ∧ q - 1 ≤ 17179869184 ∧ 0 ≤ (q - 1) * v0 ∧ (q - 1 < 4294967296 → (q - 1) * v0 ≤ 18446744073709551615) := by
  refine ⟨h, by omega, Int.mul_nonneg h b16, fun _ => ?_⟩
  have := Int.mul_le_mul (by omega : q - 1 ≤ 4294967295) (by omega : v0 ≤ 4294967295) b16 (by omega)
  omega
set_option maxHeartbeats 1000000 in
theorem div_core (hi lo y v v1 v0 A u m u1 u0 p Q n p2 Q0 R : Int) (s : Nat) (h0 : 1 ≤ hi) (h1 : hi < y) (_hl : 0 ≤ lo) (_hl' : lo ≤ 18446744073709551615) (_hy' : y ≤ 18446744073709551615) (hs : s ≤ 63)
    (ev : y * 2 ^ s = v) (b1 : 9223372036854775808 ≤ v) (b2 : v ≤ 18446744073709551615) (ev1 : v / 4294967296 = v1) (ev0 : bits BinOp.and IntKind.u64 v 4294967295 = v0)
    (eA : hi * 2 ^ s = A) (b3 : 0 ≤ A) (b4 : A ≤ 18446744073709551615) (eu : bits BinOp.or IntKind.u64 A (lo / 2 ^ (64 - s)) = u) (b5 : 0 ≤ u) (b6 : u < v)
    (em : IntKind.u64.wrap (lo * 2 ^ s) = m) (em1 : m / 4294967296 = u1) (em0 : bits BinOp.and IntKind.u64 m 4294967295 = u0) (_b7 : 0 ≤ m) (_b8 : m ≤ 18446744073709551615)
    (ep : u / v1 * v1 = p) (_b9 : 0 ≤ u / v1) (_b10 : u / v1 ≤ 17179869184) (b11 : 0 ≤ p) (b12 : p ≤ u) (b13 : 1 ≤ v1)
    (hQ : 0 ≤ Q) (hQ' : Q < 4294967296) (ew : v = v1 * 4294967296 + v0)
    (b14 : 0 ≤ u1) (b15 : u1 < 4294967296) (b16 : 0 ≤ v0) (b17 : v0 < 4294967296) (b18 : v1 < 4294967296) (b19 : 0 ≤ u0) (b20 : u0 < 4294967296)
    (HD : Hid (DigRel u u1 v1 v0 Q (.int .u64 (u / v1)) (.int .u64 (u - p))))
    (eQ1 : Hid (Q * (v1 * 4294967296 + v0) ≤ u * 4294967296 + u1)) (eQ2 : Hid (u * 4294967296 + u1 < (Q + 1) * (v1 * 4294967296 + v0)))
    (en : IntKind.u64.wrap (IntKind.u64.wrap (IntKind.u64.wrap (u * 4294967296) + u1) - IntKind.u64.wrap (Q * v)) = n) (b21 : 0 ≤ n) (b22 : n < v)
    (ep2 : n / v1 * v1 = p2) (_b23 : 0 ≤ n / v1) (_b24 : n / v1 ≤ 17179869184) (b25 : 0 ≤ p2) (b26 : p2 ≤ n)
    (HD2 : Hid (DigRel n u0 v1 v0 Q0 (.int .u64 (n / v1)) (.int .u64 (n - p2))))
    (hQ0 : 0 ≤ Q0) (hQ0' : Q0 < 4294967296)
    (eQ01 : Hid (Q0 * (v1 * 4294967296 + v0) ≤ n * 4294967296 + u0)) (eQ02 : Hid (n * 4294967296 + u0 < (Q0 + 1) * (v1 * 4294967296 + v0)))
    (eR : IntKind.u64.wrap (IntKind.u64.wrap (IntKind.u64.wrap (n * 4294967296) + u0) - IntKind.u64.wrap (Q0 * v)) = R) (_b27 : 0 ≤ R) (_b28 : R ≤ 18446744073709551615)
    (lz : ∀ w, Calls Tryd.prog 53 #[.int .u64 y] w fun e w' => e = .returned (.int .i64 s) ∧ w = w') (w : World) :
    Calls Tryd.prog 46 #[.int .u64 hi, .int .u64 lo, .int .u64 y] w fun e w' => e = .returned (.tuple #[.int .u64 (Q * 4294967296 + Q0), .int .u64 (R / 2 ^ s)]) ∧ ∃ n, w' = w.drewN n := by
  have h2 : ¬ y ≤ hi := by omega
  have h3 : (y == 0) = false := by simp; omega
  have h4 : (hi == 0) = false := by simp; omega
  have hv : u < v1 * 4294967296 + v0 := by omega
  have hv2 : n < v1 * 4294967296 + v0 := by omega
  clear ew
  go_enter Tryd.func46, Tryd.ntmps46
  go_upto_block 0 with (go_at_call 53; refine (lz _).mono ?_; rintro e w' ⟨rfl, rfl⟩)
  go_cut [15, 16] from 67 to 85 (fun a _ w' => a = .int .u64 Q ∧ w = w')
  case first =>
    go_wp2_with fail
    go_loop [15, 16] (fun a b => DigRel u u1 v1 v0 Q a b) (fun a _ => (intOf a - Q).toNat)
    case atStart => exact HD.out
    case round =>
      obtain ⟨q, r, rfl, rfl, hd, g1, g2, g3, g4⟩ := hrel
      have hr0 := hd.hr0
      have hr := hd.hr
      have hq := hd.hq
      have hd := Lib.hid hd
      by_cases c1 : 4294967296 ≤ q
      · have hl := dig_less hd.out (by omega) b14 b15 eQ1.out hv (Or.inl c1)
        by_cases c2 : 4294967296 ≤ r + v1
        · have hb := Lib.hid (dig_break hd.out (by omega) b16 b17 b14 hl (by assumption) eQ2.out hv c2)
          go_wp2_with fail
          go_meet
          exact ⟨by rw [hb.out], rfl⟩
        · have hn := Lib.hid (dig_next hd.out (by omega) hl (by omega))
          have gn := Lib.hid (dig_rest g1 g2 b16 b17 c1 (Int.le_trans (by assumption) hl))
          go_wp2_with fail
          go_round
          case rel => exact ⟨_, _, rfl, rfl, hn.out, gn.out⟩
          case measure => simp [intOf]; omega
      · have g4 := g4 (by omega)
        by_cases c3 : 4294967296 * r + u1 < q * v0
        · have hl := dig_less hd.out (by omega) b14 b15 eQ1.out hv (Or.inr c3)
          by_cases c2 : 4294967296 ≤ r + v1
          · have hb := Lib.hid (dig_break hd.out (by omega) b16 b17 b14 hl (by assumption) eQ2.out hv c2)
            go_wp2_with fail
            go_meet
            exact ⟨by rw [hb.out], rfl⟩
          · have hn := Lib.hid (dig_next hd.out (by omega) hl (by omega))
            have gn := Lib.hid (dig_rest2 g1 g2 b16 b17 (by omega) (Int.le_trans (by assumption) hl))
            go_wp2_with fail
            go_round
            case rel => exact ⟨_, _, rfl, rfl, hn.out, gn.out⟩
            case measure => simp [intOf]; omega
        · have hb := Lib.hid (dig_exit hd.out (by omega) eQ2.out (by omega))
          go_wp2_with fail
          go_meet
          exact ⟨by rw [hb.out], rfl⟩
  case rest =>
    obtain ⟨rfl, rfl⟩ := hcut
    go_upto_block 2 with fail
    go_cut [18, 16] from 102 to 120 (fun a _ w' => a = .int .u64 Q0 ∧ w = w')
    case first =>
      go_wp2_with fail
      go_loop [18, 16] (fun a b => DigRel n u0 v1 v0 Q0 a b) (fun a _ => (intOf a - Q0).toNat)
      case atStart => exact HD2.out
      case round =>
        obtain ⟨q, r, rfl, rfl, hd, g1, g2, g3, g4⟩ := hrel
        have hr0 := hd.hr0
        have hr := hd.hr
        have hq := hd.hq
        have hd := Lib.hid hd
        by_cases c1 : 4294967296 ≤ q
        · have hl := dig_less hd.out (by omega) b19 b20 eQ01.out hv2 (Or.inl c1)
          by_cases c2 : 4294967296 ≤ r + v1
          · have hb := Lib.hid (dig_break hd.out (by omega) b16 b17 b19 hl (by assumption) eQ02.out hv2 c2)
            go_wp2_with fail
            go_meet
            exact ⟨by rw [hb.out], rfl⟩
          · have hn := Lib.hid (dig_next hd.out (by omega) hl (by omega))
            have gn := Lib.hid (dig_rest g1 g2 b16 b17 c1 (Int.le_trans (by assumption) hl))
            go_wp2_with fail
            go_round
            case rel => exact ⟨_, _, rfl, rfl, hn.out, gn.out⟩
            case measure => simp [intOf]; omega
        · have g4 := g4 (by omega)
          by_cases c3 : 4294967296 * r + u0 < q * v0
          · have hl := dig_less hd.out (by omega) b19 b20 eQ01.out hv2 (Or.inr c3)
            by_cases c2 : 4294967296 ≤ r + v1
            · have hb := Lib.hid (dig_break hd.out (by omega) b16 b17 b19 hl (by assumption) eQ02.out hv2 c2)
              go_wp2_with fail
              go_meet
              exact ⟨by rw [hb.out], rfl⟩
            · have hn := Lib.hid (dig_next hd.out (by omega) hl (by omega))
              have gn := Lib.hid (dig_rest2 g1 g2 b16 b17 (by omega) (Int.le_trans (by assumption) hl))
              go_wp2_with fail
              go_round
              case rel => exact ⟨_, _, rfl, rfl, hn.out, gn.out⟩
              case measure => simp [intOf]; omega
          · have hb := Lib.hid (dig_exit hd.out (by omega) eQ02.out (by omega))
            go_wp2_with fail
            go_meet
            exact ⟨by rw [hb.out], rfl⟩
    case rest =>
      obtain ⟨rfl, rfl⟩ := hcut
      go_wp2_with fail
      go_ret2
      exact ⟨rfl, 0, rfl⟩

theorem and_low (v : Int) (h0 : 0 ≤ v) (h1 : v ≤ 18446744073709551615) : bits BinOp.and IntKind.u64 v 4294967295 = v % 4294967296 := by
  obtain ⟨n, rfl⟩ := Int.eq_ofNat_of_zero_le h0
  have := u64_and_nat n 4294967295 (by omega) (by omega)
  have e : n &&& 4294967295 = n % 4294967296 := Nat.and_two_pow_sub_one_eq_mod n 32
  rw [e] at this
  rw [show (4294967295 : Int) = ((4294967295 : Nat) : Int) from rfl, this]
  omega
theorem or_join (A x : Int) (s : Nat) (hA : 0 ≤ A) (hA' : A * 2 ^ s ≤ 18446744073709551615) (hx : 0 ≤ x) (hx' : x < 2 ^ s) (hx2 : x ≤ 18446744073709551615) : bits BinOp.or IntKind.u64 (A * 2 ^ s) x = A * 2 ^ s + x := by
  obtain ⟨a, rfl⟩ := Int.eq_ofNat_of_zero_le hA
  obtain ⟨b, rfl⟩ := Int.eq_ofNat_of_zero_le hx
  have e1 : ((a : Int) * 2 ^ s) = ((a * 2 ^ s : Nat) : Int) := by simp
  have e2 : b < 2 ^ s := by
    have : ((2 : Int) ^ s) = ((2 ^ s : Nat) : Int) := by simp
    omega
  rw [e1] at hA' ⊢
  have := u64_or_nat (a * 2 ^ s) b (by omega) (by omega)
  rw [this, nat_join s (a * 2 ^ s) b (Nat.mul_mod_left _ _) e2]
  omega

/-- Where the number's top bit is moved to. -/
theorem top_bit (y : Int) (h : 1 ≤ y) (h' : y ≤ 18446744073709551615) : ∃ s : Nat, s ≤ 63 ∧ (64 - (Lib.bitLen y.toNat : Int)) = s ∧ 9223372036854775808 ≤ y * 2 ^ s ∧ y * 2 ^ s ≤ 18446744073709551615 := by
  obtain ⟨n, rfl⟩ := Int.eq_ofNat_of_zero_le (by omega : 0 ≤ y)
  have hb := Lib.bitLenAux_bounds 64 n (by omega) (by omega)
  have hle := Lib.bitLen_le n 64 (Nat.le_refl _) (by omega)
  have hL : ∃ L, L = Lib.bitLen n := ⟨_, rfl⟩
  obtain ⟨L, hL⟩ := hL
  have hb : 1 ≤ L ∧ 2 ^ (L - 1) ≤ n ∧ n < 2 ^ L := by rw [hL]; exact hb
  rw [← hL] at hle
  obtain ⟨hb1, hb2, hb3⟩ := hb
  refine ⟨64 - L, by omega, by rw [Int.toNat_natCast, ← hL]; omega, ?_, ?_⟩
  · have : 2 ^ (L - 1) * 2 ^ (64 - L) = (2 : Nat) ^ 63 := by rw [← Nat.pow_add]; congr 1; omega
    have h2 := Nat.mul_le_mul_right (2 ^ (64 - L)) hb2
    have e1 : ((n : Int) * 2 ^ (64 - L)) = ((n * 2 ^ (64 - L) : Nat) : Int) := by simp
    omega
  · have : 2 ^ L * 2 ^ (64 - L) = (2 : Nat) ^ 64 := by rw [← Nat.pow_add]; congr 1; omega
    have h2 := Nat.mul_lt_mul_of_pos_right hb3 (Nat.two_pow_pos (64 - L))
    have e1 : ((n : Int) * 2 ^ (64 - L)) = ((n * 2 ^ (64 - L) : Nat) : Int) := by simp
    omega

theorem digRel_first (u u1 v v1 v0 : Int) (hv : v = v1 * 4294967296 + v0) (h1 : 2147483648 ≤ v1) (h1' : v1 < 4294967296) (h0 : 0 ≤ v0) (h0' : v0 < 4294967296) (hu : 0 ≤ u) (hu' : u ≤ 18446744073709551615)
    (g0 : 0 ≤ u1) (g1 : u1 < 4294967296) :
    DigRel u u1 v1 v0 ((u * 4294967296 + u1) / v) (.int .u64 (u / v1)) (.int .u64 (u - u / v1 * v1)) ∧ 0 ≤ u / v1 ∧ u / v1 ≤ 17179869184 ∧ 0 ≤ u / v1 * v1 ∧ u / v1 * v1 ≤ u := by
  have hq0 : 0 ≤ u / v1 := Int.ediv_nonneg hu (by omega)
  have hq1 : u / v1 < 17179869185 := (Int.ediv_lt_iff_lt_mul (by omega)).mpr (by omega)
  have hd := dig_first u u1 v1 v0 (by omega) h1' h0 hu g0 g1
  rw [← hv] at hd
  have := hd.hr0
  refine ⟨⟨_, _, rfl, rfl, hd, hq0, by omega, Int.mul_nonneg hq0 h0, fun hlt => ?_⟩, hq0, by omega, Int.mul_nonneg hq0 (by omega), by omega⟩
  have := Int.mul_le_mul (by omega : u / v1 ≤ 4294967295) (by omega : v0 ≤ 4294967295) h0 (by omega)
  omega

theorem wrap_left (u u1 x v : Int) (h : 0 ≤ u * 4294967296 + u1 - x * v) (h' : u * 4294967296 + u1 - x * v < v) (hv : v ≤ 18446744073709551615) :
    IntKind.u64.wrap (IntKind.u64.wrap (IntKind.u64.wrap (u * 4294967296) + u1) - IntKind.u64.wrap (x * v)) = u * 4294967296 + u1 - x * v := by
  simp only [IntKind.wrap_u64]
  omega

theorem div_deep (hi lo y : Int) (h0 : 1 ≤ hi) (h1 : hi < y) (hl : 0 ≤ lo) (hl' : lo ≤ 18446744073709551615) (hy' : y ≤ 18446744073709551615) (w : World) :
    Calls Tryd.prog 46 #[.int .u64 hi, .int .u64 lo, .int .u64 y] w fun e w' => e = .returned (.tuple #[.int .u64 ((hi * 18446744073709551616 + lo) / y), .int .u64 ((hi * 18446744073709551616 + lo) % y)]) ∧ ∃ n, w' = w.drewN n := by
  obtain ⟨s, hs, es, b1, b2⟩ := top_bit y (by omega) hy'
  have lz : ∀ w, Calls Tryd.prog 53 #[.int .u64 y] w fun e w' => e = .returned (.int .i64 s) ∧ w = w' := fun w =>
    (Tryd.bits_LeadingZeros64 y w (by omega) hy').mono fun e w' ⟨a, b⟩ => ⟨by rw [a, es], b.symm⟩
  -- the powers
  have hT : ∃ T : Int, T = 2 ^ s := ⟨_, rfl⟩
  have hP : ∃ P : Int, P = 2 ^ (64 - s) := ⟨_, rfl⟩
  obtain ⟨T, hT⟩ := hT
  obtain ⟨P, hP⟩ := hP
  have hPT : P * T = 18446744073709551616 := by
    rw [hT, hP, ← Int.pow_add, show 64 - s + s = 64 by omega]; rfl
  have hT0 : 0 < T := by rw [hT]; exact Int.pow_pos (by decide)
  have hP0 : 0 < P := by rw [hP]; exact Int.pow_pos (by decide)
  rw [← hT] at b1 b2
  have d1 := Int.emod_add_mul_ediv lo P
  have d2 := Int.emod_nonneg lo (by omega : P ≠ 0)
  have d3 := Int.emod_lt_of_pos lo hP0
  have d4 : 0 ≤ lo / P := Int.ediv_nonneg hl (by omega)
  have d5 : lo / P < T := (Int.ediv_lt_iff_lt_mul hP0).mpr (by rw [Int.mul_comm]; omega)
  have a1 : (hi + 1) * T ≤ y * T := Int.mul_le_mul_of_nonneg_right (by omega) (by omega)
  have a2 : (hi + 1) * T = hi * T + T := by grind
  have a3 : 0 ≤ hi * T := Int.mul_nonneg (by omega) (by omega)
  have eu := or_join hi (lo / P) s (by omega) (by rw [← hT]; omega) d4 (by rw [← hT]; omega) (by omega)
  rw [← hT] at eu
  have em : IntKind.u64.wrap (lo * T) = lo % P * T := by
    rw [IntKind.wrap_u64, ← hPT, Int.mul_comm P T, Int.mul_comm lo T, Int.mul_emod_mul_of_pos _ _ hT0, Int.mul_comm]
  have m0 : 0 ≤ lo % P * T := Int.mul_nonneg d2 (by omega)
  have m1 : lo % P * T ≤ 18446744073709551615 := by
    have : lo % P * T ≤ (P - 1) * T := Int.mul_le_mul_of_nonneg_right (by omega) (by omega)
    have : (P - 1) * T = P * T - T := by grind
    omega
  obtain ⟨u, hu⟩ : ∃ u, u = hi * T + lo / P := ⟨_, rfl⟩
  obtain ⟨m, hm⟩ : ∃ m, m = lo % P * T := ⟨_, rfl⟩
  have hN : u * 18446744073709551616 + m = (hi * 18446744073709551616 + lo) * T := by
    rw [hu, hm, ← hPT]
    have : lo = lo % P + P * (lo / P) := by omega
    grind
  rw [← hu] at eu
  rw [← hm] at em m0 m1
  obtain ⟨v, hv⟩ : ∃ v, v = y * T := ⟨_, rfl⟩
  have hsplit : m = m / 4294967296 * 4294967296 + m % 4294967296 := by omega
  have hvs : v = v / 4294967296 * 4294967296 + v % 4294967296 := by omega
  have hvpos : 0 < v := by omega
  have huv : u < v := by omega
  have hu0 : 0 ≤ u := by omega
  obtain ⟨f1, f2, f3, f4, f5⟩ := digRel_first u (m / 4294967296) v (v / 4294967296) (v % 4294967296) hvs (by omega) (by omega) (by omega) (by omega) hu0 (by omega) (by omega) (by omega)
  have q1 := quo_facts (u * 4294967296 + m / 4294967296) v hvpos
  have k1 := quo_small u (m / 4294967296) v hvpos huv (by omega)
  have k0 : 0 ≤ (u * 4294967296 + m / 4294967296) / v := Int.ediv_nonneg (by omega) (by omega)
  have td := two_digits u (m / 4294967296) (m % 4294967296) v hvpos
  have hsum : u * 18446744073709551616 + m / 4294967296 * 4294967296 + m % 4294967296 = (hi * 18446744073709551616 + lo) * T := by omega
  simp only [hsum] at td
  obtain ⟨Q, hQ⟩ : ∃ Q, Q = (u * 4294967296 + m / 4294967296) / v := ⟨_, rfl⟩
  rw [← hQ] at q1 k1 k0 td f1
  have q1' : (Q + 1) * v = Q * v + v := by grind
  obtain ⟨n, hn⟩ : ∃ n, n = u * 4294967296 + m / 4294967296 - Q * v := ⟨_, rfl⟩
  have n0 : 0 ≤ n := by omega
  have n1 : n < v := by omega
  obtain ⟨r1, r2, r3, r4, r5⟩ := digRel_first n (m % 4294967296) v (v / 4294967296) (v % 4294967296) hvs (by omega) (by omega) (by omega) (by omega) n0 (by omega) (by omega) (by omega)
  have p1 := quo_facts (n * 4294967296 + m % 4294967296) v hvpos
  have j1 := quo_small n (m % 4294967296) v hvpos n1 (by omega)
  have j0 : 0 ≤ (n * 4294967296 + m % 4294967296) / v := Int.ediv_nonneg (by omega) (by omega)
  rw [← hn] at td
  obtain ⟨Q0, hQ0⟩ : ∃ Q0, Q0 = (n * 4294967296 + m % 4294967296) / v := ⟨_, rfl⟩
  rw [← hQ0] at p1 j1 j0 td r1
  have p1' : (Q0 + 1) * v = Q0 * v + v := by grind
  obtain ⟨t1, t2⟩ := td
  rw [hv, Int.mul_ediv_mul_of_pos_left _ _ hT0] at t1
  have t3 : n * 4294967296 + m % 4294967296 - Q0 * v = (hi * 18446744073709551616 + lo) % y * T := by
    rw [t2, hv, Int.mul_comm _ T, Int.mul_comm y T, Int.mul_emod_mul_of_pos _ _ hT0, Int.mul_comm]
  have wl1 := wrap_left u (m / 4294967296) Q v (by omega) (by omega) (by omega)
  have wl2 := wrap_left n (m % 4294967296) Q0 v (by omega) (by omega) (by omega)
  rw [← hn] at wl1
  refine (div_core hi lo y v (v / 4294967296) (v % 4294967296) (hi * T) u m (m / 4294967296) (m % 4294967296) (u / (v / 4294967296) * (v / 4294967296)) Q n (n / (v / 4294967296) * (v / 4294967296)) Q0 ((hi * 18446744073709551616 + lo) % y * T) s h0 h1 hl hl' hy' hs
    (by rw [← hT, hv]) (by omega) (by omega) rfl (and_low v (by omega) (by omega))
    (by rw [← hT]) a3 (by omega) (by rw [← hP]; exact eu) hu0 huv
    (by rw [← hT]; exact em) rfl (and_low m m0 m1) m0 m1
    rfl f2 f3 f4 f5 (by omega)
    k0 k1 hvs
    (by omega) (by omega) (by omega) (by omega) (by omega) (by omega) (by omega)
    f1 (by rw [← hvs]; exact q1.1) (by rw [← hvs]; exact q1.2)
    wl1 n0 n1 rfl r2 r3 r4 r5 r1 j0 j1 (by rw [← hvs]; exact p1.1) (by rw [← hvs]; exact p1.2)
    (by rw [wl2, t3]) (by omega) (by omega) lz w).mono ?_
  rintro e w' ⟨rfl, hw⟩
  refine ⟨?_, hw⟩
  rw [t1, ← hT, Int.mul_ediv_cancel _ (by omega)]

set_option maxHeartbeats 400000 in
theorem div_flat (lo y : Int) (hl : 0 ≤ lo) (hl' : lo ≤ 18446744073709551615) (hy : 1 ≤ y) (_hy' : y ≤ 18446744073709551615) (w : World) :
    Calls Tryd.prog 46 #[.int .u64 0, .int .u64 lo, .int .u64 y] w fun e w' => e = .returned (.tuple #[.int .u64 (lo / y), .int .u64 (lo % y)]) ∧ ∃ n, w' = w.drewN n := by
  have h0 : ¬ y ≤ 0 := by omega
  have h1 : (y == 0) = false := by simp; omega
  go_enter Tryd.func46, Tryd.ntmps46
  go_wp2
  go_quiet (fail)
  go_wp2
  go_ret2
  exact ⟨rfl, _, rfl⟩

/-- math/bits.Div64: of a high half below the divisor: the quotient, and what is left. -/
theorem div_any (hi lo y : Int) (h0 : 0 ≤ hi) (h1 : hi < y) (hl : 0 ≤ lo) (hl' : lo ≤ 18446744073709551615) (hy' : y ≤ 18446744073709551615) (w : World) :
    Calls Tryd.prog 46 #[.int .u64 hi, .int .u64 lo, .int .u64 y] w fun e w' => e = .returned (.tuple #[.int .u64 ((hi * 18446744073709551616 + lo) / y), .int .u64 ((hi * 18446744073709551616 + lo) % y)]) ∧ ∃ n, w' = w.drewN n := by
  by_cases h : hi = 0
  · subst h
    refine (div_flat lo y hl hl' (by omega) hy' w).mono ?_
    rintro e w' ⟨rfl, hw⟩
    exact ⟨by simp, hw⟩
  · exact div_deep hi lo y (by omega) h1 hl hl' hy' w
end Go.Proofs.YtfdpiiahclglcaaDoor
