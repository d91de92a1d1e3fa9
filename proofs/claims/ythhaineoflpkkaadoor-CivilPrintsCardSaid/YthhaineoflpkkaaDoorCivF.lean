/-
  Package civil's calls, walked: the days ahead of a month, a day's year, At, Tick, the first tick of a month, periods.
-/
import Derived.Test.YthhaineoflpkkaaDoorCivC
import Derived.OwnWalk
namespace Go.Proofs.YthhaineoflpkkaaDoor
open Go.RowKit

theorem lps_1969 : lps 1969 = 477 := by decide
theorem clps_first (w : World) : Calls Tryd.prog 29 #[.int .i64 1970] w fun e w' => e = .returned (.int .i64 477) ∧ w = w' := by
  have h := clps_any 1969 w (by decide) (by decide)
  rw [lps_1969] at h
  exact h
theorem clps_year (k : Nat) (y : Int) (hy : y = 1970 + (k : Int)) (hk : (k : Int) ≤ 8040) (w : World) : Calls Tryd.prog 29 #[.int .i64 y] w fun e w' => e = .returned (.int .i64 (dby k - 365 * (k : Int) + 477)) ∧ w = w' := by
  have h := clps_any (1969 + (k : Int)) w (by omega) (by omega)
  rw [show 1969 + (k : Int) + 1 = y by omega, show lps (1969 + (k : Int)) = dby k - 365 * (k : Int) + 477 by rw [dby_lps]; omega] at h
  exact h

set_option maxRecDepth 100000 in
set_option maxHeartbeats 2000000 in
theorem cahead_any (y m : Int) (k J : Nat) (w : World) (hy : y = 1970 + (k : Int)) (hk : (k : Int) ≤ 8040) (hm : m = 1 + (J : Int)) (hJ : J ≤ 12) :
    Calls Tryd.prog 19 #[.int .i64 y, .int .i64 m] w fun e w' => e = .returned (.int .i64 (dby k + dbm y J)) ∧ w = w' := by
  have hbd := dby_bd k
  have CL := Lib.hid (fun w => clps_year k y hy hk w)
  obtain ⟨N, hN⟩ : ∃ N, dby k = N := ⟨_, rfl⟩
  rw [hN] at hbd CL ⊢
  have y0 : 1970 ≤ y := by omega
  have y1 : y ≤ 10010 := by omega
  obtain ⟨L, hL⟩ : ∃ L, N - 365 * (k : Int) + 477 = L := ⟨_, rfl⟩
  rw [hL] at CL
  have l0 : 0 ≤ L := by omega
  have l1 : L ≤ 9000 := by omega
  have hs : (y - 1970) * 365 + L - 477 = N := by omega
  have HN := Lib.hid hN
  have n0 : 0 ≤ N := by omega
  have n1 : N ≤ 3000000 := by omega
  have j9 : (J : Int) ≤ 12 := by omega
  clear hN hL hbd hk hy
  go_enter Tryd.func19, Tryd.ntmps19
  go_wp2_with (first
    | (go_at_call 29; (with_reducible refine (CL.out _).mono ?_); rintro e w1 ⟨rfl, rfl⟩)
    | (go_at_call 29; (with_reducible refine (clps_first _).mono ?_); rintro e w1 ⟨rfl, rfl⟩))
  go_loop [5, 6] (fun v5 v6 => ∃ j : Nat, j ≤ J ∧ v6 = .int .i64 (1 + (j : Int)) ∧ v5 = .int .i64 (N + dbm y j)) (fun _ v6 => 100 - (intOf v6).toNat)
  case atStart => exact ⟨0, Nat.zero_le _, rfl, congrArg (Value.int IntKind.i64) (by rw [show dbm y 0 = 0 from rfl]; omega)⟩
  case round =>
    obtain ⟨j, hj, rfl, rfl⟩ := hrel
    have hmb := dbm_bd y j (by omega)
    obtain ⟨B, hB⟩ : ∃ B, dbm y j = B := ⟨_, rfl⟩
    rw [hB] at hmb
    obtain ⟨b0, b1⟩ := hmb
    by_cases hlt : j < J
    · have hmi : 1 + (j : Int) < m := by omega
      have hdb := daysI_bd y (1 + (j : Int))
      obtain ⟨x, hx⟩ : ∃ x, daysI y (1 + (j : Int)) = x := ⟨_, rfl⟩
      rw [hx] at hdb
      obtain ⟨x0, x1⟩ := hdb
      have hst : Hid (dbm y (j + 1) = B + x) := by unfold Hid; rw [dbm, hB, hx]
      have HY := Lib.hid (fun w => cdays_same y (1 + (j : Int)) w)
      rw [hx] at HY
      replace hB := Lib.hid hB
      clear hx
      rw [hB.out]
      go_wp2_with (go_at_call 11; (with_reducible refine (HY.out _).mono ?_); rintro e w1 ⟨rfl, rfl⟩)
      go_round
      case rel => exact ⟨j + 1, by omega, congrArg (Value.int IntKind.i64) (by omega), by rw [hst.out]; exact congrArg (Value.int IntKind.i64) (by omega)⟩
      case measure => simp [intOf]; omega
    · obtain rfl : j = J := by omega
      have hmi : ¬ 1 + (j : Int) < m := by omega
      have HB := Lib.hid hB
      rw [hB]
      clear hB
      go_wp2
      go_ret
      exact ⟨by rw [HB.out]; rfl, rfl⟩
theorem cahead_first (y : Int) (k : Nat) (w : World) (hy : y = 1970 + (k : Int)) (hk : (k : Int) ≤ 8040) :
    Calls Tryd.prog 19 #[.int .i64 y, .int .i64 1] w fun e w' => e = .returned (.int .i64 (dby k)) ∧ w = w' := by
  have h := cahead_any y 1 k 0 w hy hk (by decide) (by decide)
  rw [show dby k + dbm y 0 = dby k from Int.add_zero _] at h
  exact h

/-- What a day's year is. -/
def GivesYear (n : Int) (w : World) (e : Ending) (w' : World) : Prop := ∃ k : Nat, e = .returned (.int .i64 (1970 + (k : Int))) ∧ dby k ≤ n ∧ n < dby (k + 1) ∧ w = w'
/-- A year so far: it begins no later than the day. -/
def YearSo (n : Int) (k : Nat) : Prop := k = 0 ∨ dby (k - 1) ≤ n
theorem YearSo.room {n : Int} {k : Nat} (h : YearSo n k) (hn : n ≤ 2932896) : (k : Int) ≤ 8030 := by
  rcases h with h | h
  · omega
  · refine Classical.byContradiction fun hc => ?_
    have h1 := dby_mono 8030 (k - 1 - 8030)
    rw [show 8030 + (k - 1 - 8030) = k - 1 by omega, dby_all] at h1
    omega
theorem YearSo.next {n : Int} {k : Nat} (h : dby k ≤ n) : YearSo n (k + 1) := Or.inr h
theorem YearSo.done {n : Int} {k : Nat} (h : YearSo n k) (n0 : 0 ≤ n) (hk : n < dby k) : ∃ j : Nat, k = j + 1 ∧ dby j ≤ n ∧ n < dby (j + 1) := by
  rcases h with h | h
  · subst h
    have : dby 0 = 0 := rfl
    omega
  · cases k with
    | zero => have : dby 0 = 0 := rfl; omega
    | succ j => exact ⟨j, rfl, h, hk⟩

set_option maxRecDepth 100000 in
set_option maxHeartbeats 2000000 in
theorem cyear_any (n : Int) (w : World) (n0 : 0 ≤ n) (n1 : n ≤ 2932896) : Calls Tryd.prog 18 #[.int .i64 n] w (GivesYear n w) := by
  obtain ⟨K, hK⟩ : ∃ K : Nat, n * 400 / 146097 = (K : Int) := ⟨(n * 400 / 146097).toNat, by omega⟩
  have hS := Lib.hid (show YearSo n K from guess_le n n0 K hK)
  have k9 : (K : Int) ≤ 8030 := by omega
  have hq : (n * 400).tdiv 146097 = (K : Int) := by rw [Int.tdiv_eq_ediv_of_nonneg (by omega)]; exact hK
  have hw : IntKind.i64.wrap (K : Int) = (K : Int) := by rw [IntKind.wrap_i64]; omega
  have HK := Lib.hid hK
  clear hK
  go_enter Tryd.func18, Tryd.ntmps18
  go_wp2
  go_loop [3] (fun v3 => ∃ k : Nat, v3 = .int .i64 (1969 + (k : Int)) ∧ YearSo n k) (fun v3 => 100000 - (intOf v3).toNat)
  case atStart => exact ⟨K, congrArg (Value.int IntKind.i64) (by omega), hS.out⟩
  case round =>
    obtain ⟨k, rfl, hk⟩ := hrel
    have k8 := hk.room n1
    have HS := Lib.hid hk
    clear hk
    obtain ⟨N, hN⟩ : ∃ N, dby k = N := ⟨_, rfl⟩
    have CA := Lib.hid (fun w => cahead_first (1969 + (k : Int) + 1) k w (by omega) (by omega))
    rw [hN] at CA
    by_cases hle : N ≤ n
    · have hnx : Hid (YearSo n (k + 1)) := YearSo.next (by rw [hN]; exact hle)
      clear hN
      go_wp2_with (go_at_call 19; (with_reducible refine (CA.out _).mono ?_); rintro e w1 ⟨rfl, rfl⟩)
      go_round
      case rel => exact ⟨k + 1, congrArg (Value.int IntKind.i64) (by omega), hnx.out⟩
      case measure => simp [intOf]; omega
    · obtain ⟨j, hj, h1, h2⟩ := HS.out.done n0 (by rw [hN]; omega)
      have H1 := Lib.hid h1
      have H2 := Lib.hid h2
      have HJ := Lib.hid hj
      clear hN h1 h2 hj
      go_wp2_with (go_at_call 19; (with_reducible refine (CA.out _).mono ?_); rintro e w1 ⟨rfl, rfl⟩)
      go_ret
      exact ⟨j, congrArg (fun z => Ending.returned (Value.int IntKind.i64 z)) (by have := HJ.out; omega), H1.out, H2.out, rfl⟩

theorem year_facts {n : Int} {k : Nat} (h1 : dby k ≤ n) (h2 : n < dby (k + 1)) (hn : n ≤ 2932896) : ∃ N : Int, N ≤ n ∧ Hid (dby k = N) ∧ Hid (dby k ≤ n) ∧ Hid (n < dby (k + 1)) ∧ (k : Int) ≤ 8035 ∧ 0 ≤ N := by
  have hb := dby_bd k
  exact ⟨dby k, h1, rfl, h1, h2, by omega, by omega⟩
/-- What At hands back. -/
def GivesAtC (t : Int) (w : World) (e : Ending) (w' : World) : Prop := ∃ y m d : Int, e = .returned (.tuple #[.agg #[.int .i64 y, .int .i64 m, .int .i64 d], .int .i64 0]) ∧ RightD y m d ∧ tickI y m d = t / 86400 * 86400 ∧ Below w.heap.size w w'
set_option maxRecDepth 100000 in
set_option maxHeartbeats 4000000 in
theorem cat_yes (t : Int) (w : World) (_env : Env w) (t0 : 0 ≤ t) (t1 : t ≤ 253402300799) : Calls Tryd.prog 10 #[.int .i64 t] w (GivesAtC t w) := by
  obtain ⟨n, hn⟩ : ∃ n, t / 86400 = n := ⟨_, rfl⟩
  have n0 : 0 ≤ n := by omega
  have n1 : n ≤ 2932896 := by omega
  have hq : t.tdiv 86400 = n := by rw [Int.tdiv_eq_ediv_of_nonneg t0]; exact hn
  have hw : IntKind.i64.wrap n = n := by rw [IntKind.wrap_i64]; omega
  have HN := Lib.hid hn
  clear hn
  have MR := Lib.hid (Var3.fresh w (.int .i64 0) (.int .i64 0) (.int .i64 0) 23 _ rfl)
  go_enter Tryd.func10, Tryd.ntmps10
  go_wp2_with (first
    | (go_at_call 18; (with_reducible refine (cyear_any n _ n0 n1).mono ?_); rintro e w1 ⟨K, rfl, hK1, hK2, rfl⟩; obtain ⟨N, hN, HNN, HK1, HK2, k9, N0⟩ := year_facts hK1 hK2 n1; clear hK1 hK2)
    | (go_at_call 19; (with_reducible refine (cahead_first (1970 + (K : Int)) K _ rfl (by omega)).mono ?_); rintro e w1 ⟨rfl, rfl⟩; rw [HNN.out]))
  have hM : Hid (MonAt n K 0 (n - N)) := ⟨by omega, by have := HNN.out; rw [show dbm (1970 + (K : Int)) 0 = 0 from rfl]; omega, by have := HK2.out; rw [dby] at this; exact this⟩
  have k8 : K < 8030 := by
    refine Classical.byContradiction fun hc => ?_
    have h1 := dby_mono 8030 (K - 8030)
    rw [show 8030 + (K - 8030) = K by omega, dby_all] at h1
    have := HK1.out
    omega
  go_loop [6, 7] (fun v6 v7 => ∃ (j : Nat) (lf : Int), v6 = .int .i64 (lf + 1) ∧ v7 = .int .i64 (1 + (j : Int)) ∧ MonAt n K j lf ∧ lf ≤ n) (fun v6 _ => (intOf v6).toNat)
  case atStart => exact ⟨0, n - N, congrArg (Value.int IntKind.i64) (by omega), rfl, hM.out, by omega⟩
  case round =>
    obtain ⟨j, lf, rfl, rfl, hJ, hle⟩ := hrel
    have HJ := Lib.hid hJ
    have j9 := hJ.room
    have l02 := hJ.l0
    clear hJ
    have hdb := daysI_in (1970 + (K : Int)) (m := 1 + (j : Int)) (by omega) (by omega)
    have hdc := daysI_bd (1970 + (K : Int)) (1 + (j : Int))
    obtain ⟨z, hz⟩ : ∃ z, daysI (1970 + (K : Int)) (1 + (j : Int)) = z := ⟨_, rfl⟩
    have HZ := Lib.hid (fun w => cdays_same (1970 + (K : Int)) (1 + (j : Int)) w)
    rw [hz] at HZ hdb hdc
    obtain ⟨_, z1⟩ := hdc
    by_cases hge2 : z < lf + 1
    · have hnext : Hid (MonAt n K (j + 1) (lf - z)) := ⟨by omega, by have := HJ.out.is; rw [dbm, hz]; omega, HJ.out.yr⟩
      clear hz
      go_wp2_with (go_at_call 11; (with_reducible refine (HZ.out _).mono ?_); rintro e w1 ⟨rfl, rfl⟩)
      go_round
      case rel => exact ⟨j + 1, lf - z, congrArg (Value.int IntKind.i64) (by omega), congrArg (Value.int IntKind.i64) (by omega), hnext.out, by omega⟩
      case measure => simp [intOf]; omega
    · have hdate := Lib.hid (HJ.out.date k8 (by rw [hz]; omega))
      clear hz
      obtain ⟨r0, r1, r2, p0, p1, p2, s0⟩ := MR.out
      go_wp2_with (go_at_call 11; (with_reducible refine (HZ.out _).mono ?_); rintro e w1 ⟨rfl, rfl⟩)
      refine bodyPost_ret (v := .tuple #[.agg #[.int .i64 (1970 + (K : Int)), .int .i64 (1 + (j : Int)), .int .i64 (lf + 1)], .int .i64 0]) (by simp [results, Tryd.results10, go_sem]) rfl ⟨_, _, _, rfl, hdate.out.1, by rw [hdate.out.2, HN.out], ?_⟩
      exact (Below.refl _ _).alloc (Nat.le_refl _) _
theorem cat_no (t : Int) (w : World) (_env : Env w) (h : t < 0 ∨ 253402300799 < t) : Calls Tryd.prog 10 #[.int .i64 t] w fun e w' => e = .returned (.tuple #[.agg #[.int .i64 0, .int .i64 0, .int .i64 0], .int .i64 8]) ∧ Below w.heap.size w w' := by
  have MR := Var3.fresh w (.int .i64 0) (.int .i64 0) (.int .i64 0) 23 _ rfl
  have DD : Below w.heap.size w (w.alloc (.cells #[.int .i64 0, .int .i64 0, .int .i64 0] 23)) := (Below.refl _ _).alloc (Nat.le_refl _) _
  obtain ⟨r0, r1, r2, p0, p1, p2, s0⟩ := MR
  by_cases h0 : t < 0
  · clear h
    go_enter Tryd.func10, Tryd.ntmps10
    go_wp2
    refine bodyPost_ret (v := .tuple #[.agg #[.int .i64 0, .int .i64 0, .int .i64 0], .int .i64 8]) (by simp [results, Tryd.results10, go_sem, r0, r1, r2]) rfl ⟨rfl, ?_⟩
    first | exact DD | exact ((DD.setCell (Nat.le_refl _) _).setCell (Nat.le_refl _) _).setCell (Nat.le_refl _) _
  · have h1 : 253402300799 < t := by omega
    clear h
    go_enter Tryd.func10, Tryd.ntmps10
    go_wp2
    refine bodyPost_ret (v := .tuple #[.agg #[.int .i64 0, .int .i64 0, .int .i64 0], .int .i64 8]) (by simp [results, Tryd.results10, go_sem, r0, r1, r2]) rfl ⟨rfl, ?_⟩
    first | exact DD | exact ((DD.setCell (Nat.le_refl _) _).setCell (Nat.le_refl _) _).setCell (Nat.le_refl _) _

theorem end_bd (y : Int) (y0 : 1970 ≤ y) (y1 : y ≤ 9999) {k : Nat} (hk : k ≤ 12) : 0 ≤ endI y k ∧ endI y k ≤ 253402300800 := by
  have h1 := end_all y y0 y1 hk
  have h2 := end_mono y (Nat.zero_le k)
  have h3 : 0 ≤ endI y 0 := by
    unfold endI
    have e1 : dbm y 0 = 0 := rfl
    have := (dby_bd (y - 1970).toNat).1
    omega
  omega
theorem end_sum (y : Int) (k s : Nat) : endI y k + 86400 * dsum y (1 + (k : Int)) s = endI y (k + s) := by
  induction s with
  | zero => simp [dsum]
  | succ s ih =>
    rw [dsum, Int.mul_add, ← Int.add_assoc, ih, ← Nat.add_assoc]
    unfold endI
    rw [dbm, show 1 + ((k + s : Nat) : Int) = 1 + (k : Int) + (s : Int) by omega]
    omega
/-- What Month and Quarter hand back. -/
def GivesPer (t : Int) (size : Nat) (w : World) (e : Ending) (w' : World) : Prop := ∃ y m d : Int, RightD y m d ∧ tickI y m d = t / 86400 * 86400 ∧
  e = .returned (.tuple #[.int .i64 (tickI y (qmI size m) 1), .int .i64 (tickI y (qmI size m) 1 + 86400 * dsum y (qmI size m) size), .int .i64 0]) ∧ Below w.heap.size w w'
end Go.Proofs.YthhaineoflpkkaaDoor
