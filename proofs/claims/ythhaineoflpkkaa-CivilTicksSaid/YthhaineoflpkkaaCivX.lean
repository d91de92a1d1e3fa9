/-
  The statement CivilPeriods, walked: over the contracts of package civil's calls.
-/
import Derived.Test.YthhaineoflpkkaaCivW
namespace Go.Proofs.Ythhaineoflpkkaa
open Go.RowKit

theorem find_step (f : Nat → Int) (n : Int) (h0 : f 0 ≤ n) : ∀ K, n < f K → ∃ k, k < K ∧ f k ≤ n ∧ n < f (k + 1)
  | 0, h => by omega
  | K + 1, h => by
    by_cases hk : n < f K
    · obtain ⟨k, h1, h2, h3⟩ := find_step f n h0 K hk
      exact ⟨k, by omega, h2, h3⟩
    · exact ⟨K, by omega, by omega, h⟩
/-- Each day has a date. -/
theorem day_ex (n : Int) (h0 : 0 ≤ n) (h1 : n ≤ 2932896) : ∃ y m d, RightD y m d ∧ dayI y m d = n := by
  obtain ⟨k, k1, k2, k3⟩ := find_step dby n h0 8030 (by rw [dby_all]; omega)
  have hs : dby (k + 1) = dby k + yearI (1970 + k) := rfl
  have hy := dbm_year (1970 + (k : Int))
  obtain ⟨j, j1, j2, j3⟩ := find_step (dbm (1970 + (k : Int))) (n - dby k) (by show (0 : Int) ≤ _; omega) 12 (by omega)
  have hm : dbm (1970 + (k : Int)) (j + 1) = dbm (1970 + (k : Int)) j + daysI (1970 + (k : Int)) (1 + j) := rfl
  refine ⟨1970 + (k : Int), 1 + (j : Int), n - dby k - dbm (1970 + (k : Int)) j + 1, ⟨by omega, by omega, by omega, by omega, by omega, by omega⟩, ?_⟩
  unfold dayI
  rw [show (1970 + (k : Int) - 1970).toNat = k by omega, show (1 + (j : Int) - 1).toNat = j by omega]
  omega
theorem tick_ex {t : Int} (t0 : 0 ≤ t) (t1 : t ≤ 253402300799) : ∃ y m d, RightD y m d ∧ tickI y m d = t / 86400 * 86400 := by
  obtain ⟨y, m, d, h, e⟩ := day_ex (t / 86400) (by omega) (by omega)
  exact ⟨y, m, d, h, by unfold tickI; omega⟩

theorem cmonth_is {t y m d a b : Int} (h : RightD y m d) (ht : tickI y m d = t / 86400 * 86400) (t0 : 0 ≤ t) (t1 : t ≤ 253402300799) (ha : tickI y (qmI 1 m) 1 = a) (hb : tickI y (qmI 1 m) 1 + 86400 * dsum y (qmI 1 m) 1 = b) (w : World) (env : Env w) :
    Calls Try.prog 17 #[.int .i64 t] w fun e w' => e = .returned (.tuple #[.int .i64 a, .int .i64 b, .int .i64 0]) ∧ Below w.heap.size w w' := by
  refine (cmonth_yes t w env t0 t1).mono ?_
  rintro e w' ⟨y', m', d', hD', ht', rfl, g⟩
  obtain ⟨rfl, rfl, rfl⟩ := cat_same h ht hD' ht'
  subst ha hb
  exact ⟨rfl, g⟩
theorem cquarter_is {t y m d a b : Int} (h : RightD y m d) (ht : tickI y m d = t / 86400 * 86400) (t0 : 0 ≤ t) (t1 : t ≤ 253402300799) (ha : tickI y (qmI 3 m) 1 = a) (hb : tickI y (qmI 3 m) 1 + 86400 * dsum y (qmI 3 m) 3 = b) (w : World) (env : Env w) :
    Calls Try.prog 18 #[.int .i64 t] w fun e w' => e = .returned (.tuple #[.int .i64 a, .int .i64 b, .int .i64 0]) ∧ Below w.heap.size w w' := by
  refine (cquarter_yes t w env t0 t1).mono ?_
  rintro e w' ⟨y', m', d', hD', ht', rfl, g⟩
  obtain ⟨rfl, rfl, rfl⟩ := cat_same h ht hD' ht'
  subst ha hb
  exact ⟨rfl, g⟩
theorem rperiod_one {t y m d a b : Int} (h : RightD y m d) (ht : tickI y m d = t / 86400 * 86400) (t0 : 0 ≤ t) (t1 : t ≤ 253402300799) (ha : tickI y (qmI 1 m) 1 = a) (hb : tickI y (qmI 1 m) 1 + 86400 * dsum y (qmI 1 m) 1 = b) (w : World) :
    Calls Try.prog 19 #[.int .i64 t, .int .i64 1] w fun e w' => e = .returned (.tuple #[.int .i64 a, .int .i64 b]) ∧ Below w.heap.size w w' := by
  refine (rperiod_any t 1 w t0 t1 (Or.inl rfl)).mono ?_
  rintro e w' ⟨y', m', d', hD', ht', rfl, g⟩
  obtain ⟨rfl, rfl, rfl⟩ := cat_same h ht hD' ht'
  subst ha hb
  exact ⟨rfl, g⟩
theorem rperiod_three {t y m d a b : Int} (h : RightD y m d) (ht : tickI y m d = t / 86400 * 86400) (t0 : 0 ≤ t) (t1 : t ≤ 253402300799) (ha : tickI y (qmI 3 m) 1 = a) (hb : tickI y (qmI 3 m) 1 + 86400 * dsum y (qmI 3 m) 3 = b) (w : World) :
    Calls Try.prog 19 #[.int .i64 t, .int .i64 3] w fun e w' => e = .returned (.tuple #[.int .i64 a, .int .i64 b]) ∧ Below w.heap.size w w' := by
  refine (rperiod_any t 3 w t0 t1 (Or.inr rfl)).mono ?_
  rintro e w' ⟨y', m', d', hD', ht', rfl, g⟩
  obtain ⟨rfl, rfl, rfl⟩ := cat_same h ht hD' ht'
  subst ha hb
  exact ⟨rfl, g⟩

set_option maxRecDepth 100000 in
set_option maxHeartbeats 4000000 in
theorem civperiods_walk (t : Int) (w : World) (env : Env w) : Calls Try.prog 5 #[.int .i64 t] w fun e w' => e = .returned (.bool true) ∧ Below w.heap.size w w' := by
  by_cases h : t < 0 ∨ 253402300799 < t
  · have H := Lib.hid h
    by_cases h0 : t < 0
    · clear h
      go_enter Try.func5, Try.ntmps5
      go_wp2_with (first
        | (go_at_call 6; (with_reducible refine (civ_awake _ env).mono ?_); rintro e w1 ⟨rfl, g⟩; have DD := g; clear g)
        | (go_at_call 17; (with_reducible refine (cmonth_no t _ (env.step DD) H.out).mono ?_); rintro e w2 ⟨rfl, g⟩; have DD := below_step DD g; clear g)
        | (go_at_call 18; (with_reducible refine (cquarter_no t _ (env.step DD) H.out).mono ?_); rintro e w3 ⟨rfl, g⟩; have DD := below_step DD g; clear g))
      go_ret
      exact ⟨rfl, DD⟩
    · have h1 : 253402300799 < t := by omega
      clear h
      go_enter Try.func5, Try.ntmps5
      go_wp2_with (first
        | (go_at_call 6; (with_reducible refine (civ_awake _ env).mono ?_); rintro e w1 ⟨rfl, g⟩; have DD := g; clear g)
        | (go_at_call 17; (with_reducible refine (cmonth_no t _ (env.step DD) H.out).mono ?_); rintro e w2 ⟨rfl, g⟩; have DD := below_step DD g; clear g)
        | (go_at_call 18; (with_reducible refine (cquarter_no t _ (env.step DD) H.out).mono ?_); rintro e w3 ⟨rfl, g⟩; have DD := below_step DD g; clear g))
      go_ret
      exact ⟨rfl, DD⟩
  · have t0 : 0 ≤ t := by omega
    have t1 : t ≤ 253402300799 := by omega
    clear h
    obtain ⟨y, m, d, hD, ht⟩ := tick_ex t0 t1
    obtain ⟨a, ha⟩ : ∃ a, tickI y (qmI 1 m) 1 = a := ⟨_, rfl⟩
    obtain ⟨b, hb⟩ : ∃ b, tickI y (qmI 1 m) 1 + 86400 * dsum y (qmI 1 m) 1 = b := ⟨_, rfl⟩
    obtain ⟨c, hc⟩ : ∃ c, tickI y (qmI 3 m) 1 = c := ⟨_, rfl⟩
    obtain ⟨k, hk⟩ : ∃ k, tickI y (qmI 3 m) 1 + 86400 * dsum y (qmI 3 m) 3 = k := ⟨_, rfl⟩
    have CM := Lib.hid (fun w env => cmonth_is hD ht t0 t1 ha hb w env)
    have CQ := Lib.hid (fun w env => cquarter_is hD ht t0 t1 hc hk w env)
    have RM := Lib.hid (fun w => rperiod_one hD ht t0 t1 ha hb w)
    have RQ := Lib.hid (fun w => rperiod_three hD ht t0 t1 hc hk w)
    obtain ⟨p1, p2, p3, p4, p5, p6, p7, p8⟩ := periods_of hD ht t0 ha hb hc hk
    replace p8 := Lib.hid p8
    clear hD ht ha hb hc hk
    by_cases hb9 : 253402300799 < b
    · obtain rfl : b = 253402300800 := by omega
      obtain rfl : k = 253402300800 := by omega
      clear p8 hb9
      go_enter Try.func5, Try.ntmps5
      go_wp2_with (first
        | (go_at_call 6; (with_reducible refine (civ_awake _ env).mono ?_); rintro e w1 ⟨rfl, g⟩; have DD := g; clear g)
        | (go_at_call 17; (with_reducible refine (CM.out _ (env.step DD)).mono ?_); rintro e w2 ⟨rfl, g⟩; have DD := below_step DD g; clear g)
        | (go_at_call 18; (with_reducible refine (CQ.out _ (env.step DD)).mono ?_); rintro e w3 ⟨rfl, g⟩; have DD := below_step DD g; clear g)
        | (go_at_call 19; (with_reducible refine (RM.out _).mono ?_); rintro e w4 ⟨rfl, g⟩; have DD := below_step DD g; clear g)
        | (go_at_call 19; (with_reducible refine (RQ.out _).mono ?_); rintro e w5 ⟨rfl, g⟩; have DD := below_step DD g; clear g))
      go_ret
      exact ⟨rfl, DD⟩
    · have hb8 : b ≤ 253402300799 := by omega
      obtain ⟨y2, m2, hD2, ht2, hx2⟩ := p8.out hb8
      have hq : qmI 1 m2 = m2 := by unfold qmI; omega
      obtain ⟨z, hz⟩ : ∃ z, tickI y2 (qmI 1 m2) 1 + 86400 * dsum y2 (qmI 1 m2) 1 = z := ⟨_, rfl⟩
      have CB := Lib.hid (fun w env => cmonth_is hD2 ht2 (by omega) hb8 (by rw [hq, hx2]) hz w env)
      clear hD2 ht2 hx2 hz hq p8 hb9
      go_enter Try.func5, Try.ntmps5
      go_wp2_with (first
        | (go_at_call 6; (with_reducible refine (civ_awake _ env).mono ?_); rintro e w1 ⟨rfl, g⟩; have DD := g; clear g)
        | (go_at_call 17; (with_reducible refine (CM.out _ (env.step DD)).mono ?_); rintro e w2 ⟨rfl, g⟩; have DD := below_step DD g; clear g)
        | (go_at_call 18; (with_reducible refine (CQ.out _ (env.step DD)).mono ?_); rintro e w3 ⟨rfl, g⟩; have DD := below_step DD g; clear g)
        | (go_at_call 19; (with_reducible refine (RM.out _).mono ?_); rintro e w4 ⟨rfl, g⟩; have DD := below_step DD g; clear g)
        | (go_at_call 19; (with_reducible refine (RQ.out _).mono ?_); rintro e w5 ⟨rfl, g⟩; have DD := below_step DD g; clear g)
        | (go_at_call 17; (with_reducible refine (CB.out _ (env.step DD)).mono ?_); rintro e w6 ⟨rfl, g⟩; have DD := below_step DD g; clear g))
      go_ret
      exact ⟨rfl, DD⟩

end Go.Proofs.Ythhaineoflpkkaa
