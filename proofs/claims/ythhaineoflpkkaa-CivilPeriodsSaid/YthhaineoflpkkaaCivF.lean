/-
  Package civil's calls, walked: the days ahead of a month, a day's year, At, Tick, the first tick of a month, periods.
-/
import Derived.Test.YthhaineoflpkkaaCivC
import Derived.OwnWalk
namespace Go.Proofs.Ythhaineoflpkkaa
open Go.RowKit

theorem lps_1969 : lps 1969 = 477 := by decide
theorem clps_first (w : World) : Calls Try.prog 25 #[.int .i64 1970] w fun e w' => e = .returned (.int .i64 477) ∧ w = w' := by
  have h := clps_any 1969 w (by decide) (by decide)
  rw [lps_1969] at h
  exact h
theorem clps_year (k : Nat) (y : Int) (hy : y = 1970 + (k : Int)) (hk : (k : Int) ≤ 8040) (w : World) : Calls Try.prog 25 #[.int .i64 y] w fun e w' => e = .returned (.int .i64 (dby k - 365 * (k : Int) + 477)) ∧ w = w' := by
  have h := clps_any (1969 + (k : Int)) w (by omega) (by omega)
  rw [show 1969 + (k : Int) + 1 = y by omega, show lps (1969 + (k : Int)) = dby k - 365 * (k : Int) + 477 by rw [dby_lps]; omega] at h
  exact h

set_option maxRecDepth 100000 in
set_option maxHeartbeats 2000000 in
theorem cahead_any (y m : Int) (k J : Nat) (w : World) (hy : y = 1970 + (k : Int)) (hk : (k : Int) ≤ 8040) (hm : m = 1 + (J : Int)) (hJ : J ≤ 12) :
    Calls Try.prog 21 #[.int .i64 y, .int .i64 m] w fun e w' => e = .returned (.int .i64 (dby k + dbm y J)) ∧ w = w' := by
  have hbd := dby_bd k
  have CL := Lib.hid (fun w => clps_year k y hy hk w)
  obtain ⟨N, hN⟩ : ∃ N, dby k = N := ⟨_, rfl⟩
  rw [hN] at hbd CL ⊢
  have y0 : 1970 ≤ y := by omega
  have y1 : y ≤ 10010 := by omega
  obtain ⟨L, hL⟩ : ∃ L, N - 365 * (k : Int) + 477 = L := ⟨_, rfl⟩
  rw [hL] at CL
  have l0 : 0 ≤ L := by omega
  have l1 : L ≤ 9000 := by omega
  have hs : (y - 1970) * 365 + L - 477 = N := by omega
  have HN := Lib.hid hN
  have n0 : 0 ≤ N := by omega
  have n1 : N ≤ 3000000 := by omega
  have j9 : (J : Int) ≤ 12 := by omega
  clear hN hL hbd hk hy
  go_enter Try.func21, Try.ntmps21
  go_wp2_with (first
    | (go_at_call 25; (with_reducible refine (CL.out _).mono ?_); rintro e w1 ⟨rfl, rfl⟩)
    | (go_at_call 25; (with_reducible refine (clps_first _).mono ?_); rintro e w1 ⟨rfl, rfl⟩))
  go_loop [5, 6] (fun v5 v6 => ∃ j : Nat, j ≤ J ∧ v6 = .int .i64 (1 + (j : Int)) ∧ v5 = .int .i64 (N + dbm y j)) (fun _ v6 => 100 - (intOf v6).toNat)
  case atStart => exact ⟨0, Nat.zero_le _, rfl, congrArg (Value.int IntKind.i64) (by rw [show dbm y 0 = 0 from rfl]; omega)⟩
  case round =>
    obtain ⟨j, hj, rfl, rfl⟩ := hrel
    have hmb := dbm_bd y j (by omega)
    obtain ⟨B, hB⟩ : ∃ B, dbm y j = B := ⟨_, rfl⟩
    rw [hB] at hmb
    obtain ⟨b0, b1⟩ := hmb
    by_cases hlt : j < J
    · have hmi : 1 + (j : Int) < m := by omega
      have hdb := daysI_bd y (1 + (j : Int))
      obtain ⟨x, hx⟩ : ∃ x, daysI y (1 + (j : Int)) = x := ⟨_, rfl⟩
      rw [hx] at hdb
      obtain ⟨x0, x1⟩ := hdb
      have hst : Hid (dbm y (j + 1) = B + x) := by unfold Hid; rw [dbm, hB, hx]
      have HY := Lib.hid (fun w => cdays_same y (1 + (j : Int)) w)
      rw [hx] at HY
      replace hB := Lib.hid hB
      clear hx
      rw [hB.out]
      go_wp2_with (go_at_call 13; (with_reducible refine (HY.out _).mono ?_); rintro e w1 ⟨rfl, rfl⟩)
      go_round
      case rel => exact ⟨j + 1, by omega, congrArg (Value.int IntKind.i64) (by omega), by rw [hst.out]; exact congrArg (Value.int IntKind.i64) (by omega)⟩
      case measure => simp [intOf]; omega
    · obtain rfl : j = J := by omega
      have hmi : ¬ 1 + (j : Int) < m := by omega
      have HB := Lib.hid hB
      rw [hB]
      clear hB
      go_wp2
      go_ret
      exact ⟨by rw [HB.out]; rfl, rfl⟩
theorem cahead_first (y : Int) (k : Nat) (w : World) (hy : y = 1970 + (k : Int)) (hk : (k : Int) ≤ 8040) :
    Calls Try.prog 21 #[.int .i64 y, .int .i64 1] w fun e w' => e = .returned (.int .i64 (dby k)) ∧ w = w' := by
  have h := cahead_any y 1 k 0 w hy hk (by decide) (by decide)
  rw [show dby k + dbm y 0 = dby k from Int.add_zero _] at h
  exact h

/-- What a day's year is. -/
def GivesYear (n : Int) (w : World) (e : Ending) (w' : World) : Prop := ∃ k : Nat, e = .returned (.int .i64 (1970 + (k : Int))) ∧ dby k ≤ n ∧ n < dby (k + 1) ∧ w = w'
/-- A year so far: it begins no later than the day. -/
def YearSo (n : Int) (k : Nat) : Prop := k = 0 ∨ dby (k - 1) ≤ n
theorem YearSo.room {n : Int} {k : Nat} (h : YearSo n k) (hn : n ≤ 2932896) : (k : Int) ≤ 8030 := by
  rcases h with h | h
  · omega
  · refine Classical.byContradiction fun hc => ?_
    have h1 := dby_mono 8030 (k - 1 - 8030)
    rw [show 8030 + (k - 1 - 8030) = k - 1 by omega, dby_all] at h1
    omega
theorem YearSo.next {n : Int} {k : Nat} (h : dby k ≤ n) : YearSo n (k + 1) := Or.inr h
theorem YearSo.done {n : Int} {k : Nat} (h : YearSo n k) (n0 : 0 ≤ n) (hk : n < dby k) : ∃ j : Nat, k = j + 1 ∧ dby j ≤ n ∧ n < dby (j + 1) := by
  rcases h with h | h
  · subst h
    have : dby 0 = 0 := rfl
    omega
  · cases k with
    | zero => have : dby 0 = 0 := rfl; omega
    | succ j => exact ⟨j, rfl, h, hk⟩

set_option maxRecDepth 100000 in
set_option maxHeartbeats 2000000 in
theorem cyear_any (n : Int) (w : World) (n0 : 0 ≤ n) (n1 : n ≤ 2932896) : Calls Try.prog 20 #[.int .i64 n] w (GivesYear n w) := by
  obtain ⟨K, hK⟩ : ∃ K : Nat, n * 400 / 146097 = (K : Int) := ⟨(n * 400 / 146097).toNat, by omega⟩
  have hS := Lib.hid (show YearSo n K from guess_le n n0 K hK)
  have k9 : (K : Int) ≤ 8030 := by omega
  have hq : (n * 400).tdiv 146097 = (K : Int) := by rw [Int.tdiv_eq_ediv_of_nonneg (by omega)]; exact hK
  have hw : IntKind.i64.wrap (K : Int) = (K : Int) := by rw [IntKind.wrap_i64]; omega
  have HK := Lib.hid hK
  clear hK
  go_enter Try.func20, Try.ntmps20
  go_wp2
  go_loop [3] (fun v3 => ∃ k : Nat, v3 = .int .i64 (1969 + (k : Int)) ∧ YearSo n k) (fun v3 => 100000 - (intOf v3).toNat)
  case atStart => exact ⟨K, congrArg (Value.int IntKind.i64) (by omega), hS.out⟩
  case round =>
    obtain ⟨k, rfl, hk⟩ := hrel
    have k8 := hk.room n1
    have HS := Lib.hid hk
    clear hk
    obtain ⟨N, hN⟩ : ∃ N, dby k = N := ⟨_, rfl⟩
    have CA := Lib.hid (fun w => cahead_first (1969 + (k : Int) + 1) k w (by omega) (by omega))
    rw [hN] at CA
    by_cases hle : N ≤ n
    · have hnx : Hid (YearSo n (k + 1)) := YearSo.next (by rw [hN]; exact hle)
      clear hN
      go_wp2_with (go_at_call 21; (with_reducible refine (CA.out _).mono ?_); rintro e w1 ⟨rfl, rfl⟩)
      go_round
      case rel => exact ⟨k + 1, congrArg (Value.int IntKind.i64) (by omega), hnx.out⟩
      case measure => simp [intOf]; omega
    · obtain ⟨j, hj, h1, h2⟩ := HS.out.done n0 (by rw [hN]; omega)
      have H1 := Lib.hid h1
      have H2 := Lib.hid h2
      have HJ := Lib.hid hj
      clear hN h1 h2 hj
      go_wp2_with (go_at_call 21; (with_reducible refine (CA.out _).mono ?_); rintro e w1 ⟨rfl, rfl⟩)
      go_ret
      exact ⟨j, congrArg (fun z => Ending.returned (Value.int IntKind.i64 z)) (by have := HJ.out; omega), H1.out, H2.out, rfl⟩

theorem year_facts {n : Int} {k : Nat} (h1 : dby k ≤ n) (h2 : n < dby (k + 1)) (hn : n ≤ 2932896) : ∃ N : Int, N ≤ n ∧ Hid (dby k = N) ∧ Hid (dby k ≤ n) ∧ Hid (n < dby (k + 1)) ∧ (k : Int) ≤ 8035 ∧ 0 ≤ N := by
  have hb := dby_bd k
  exact ⟨dby k, h1, rfl, h1, h2, by omega, by omega⟩
/-- What At hands back. -/
def GivesAtC (t : Int) (w : World) (e : Ending) (w' : World) : Prop := ∃ y m d : Int, e = .returned (.tuple #[.agg #[.int .i64 y, .int .i64 m, .int .i64 d], .int .i64 0]) ∧ RightD y m d ∧ tickI y m d = t / 86400 * 86400 ∧ Below w.heap.size w w'
set_option maxRecDepth 100000 in
set_option maxHeartbeats 4000000 in
theorem cat_yes (t : Int) (w : World) (_env : Env w) (t0 : 0 ≤ t) (t1 : t ≤ 253402300799) : Calls Try.prog 7 #[.int .i64 t] w (GivesAtC t w) := by
  obtain ⟨n, hn⟩ : ∃ n, t / 86400 = n := ⟨_, rfl⟩
  have n0 : 0 ≤ n := by omega
  have n1 : n ≤ 2932896 := by omega
  have hq : t.tdiv 86400 = n := by rw [Int.tdiv_eq_ediv_of_nonneg t0]; exact hn
  have hw : IntKind.i64.wrap n = n := by rw [IntKind.wrap_i64]; omega
  have HN := Lib.hid hn
  clear hn
  have MR := Lib.hid (Var3.fresh w (.int .i64 0) (.int .i64 0) (.int .i64 0) 24 _ rfl)
  go_enter Try.func7, Try.ntmps7
  go_wp2_with (first
    | (go_at_call 20; (with_reducible refine (cyear_any n _ n0 n1).mono ?_); rintro e w1 ⟨K, rfl, hK1, hK2, rfl⟩; obtain ⟨N, hN, HNN, HK1, HK2, k9, N0⟩ := year_facts hK1 hK2 n1; clear hK1 hK2)
    | (go_at_call 21; (with_reducible refine (cahead_first (1970 + (K : Int)) K _ rfl (by omega)).mono ?_); rintro e w1 ⟨rfl, rfl⟩; rw [HNN.out]))
  have hM : Hid (MonAt n K 0 (n - N)) := ⟨by omega, by have := HNN.out; rw [show dbm (1970 + (K : Int)) 0 = 0 from rfl]; omega, by have := HK2.out; rw [dby] at this; exact this⟩
  have k8 : K < 8030 := by
    refine Classical.byContradiction fun hc => ?_
    have h1 := dby_mono 8030 (K - 8030)
    rw [show 8030 + (K - 8030) = K by omega, dby_all] at h1
    have := HK1.out
    omega
  go_loop [6, 7] (fun v6 v7 => ∃ (j : Nat) (lf : Int), v6 = .int .i64 (lf + 1) ∧ v7 = .int .i64 (1 + (j : Int)) ∧ MonAt n K j lf ∧ lf ≤ n) (fun v6 _ => (intOf v6).toNat)
  case atStart => exact ⟨0, n - N, congrArg (Value.int IntKind.i64) (by omega), rfl, hM.out, by omega⟩
  case round =>
    obtain ⟨j, lf, rfl, rfl, hJ, hle⟩ := hrel
    have HJ := Lib.hid hJ
    have j9 := hJ.room
    have l02 := hJ.l0
    clear hJ
    have hdb := daysI_in (1970 + (K : Int)) (m := 1 + (j : Int)) (by omega) (by omega)
    have hdc := daysI_bd (1970 + (K : Int)) (1 + (j : Int))
    obtain ⟨z, hz⟩ : ∃ z, daysI (1970 + (K : Int)) (1 + (j : Int)) = z := ⟨_, rfl⟩
    have HZ := Lib.hid (fun w => cdays_same (1970 + (K : Int)) (1 + (j : Int)) w)
    rw [hz] at HZ hdb hdc
    obtain ⟨_, z1⟩ := hdc
    by_cases hge2 : z < lf + 1
    · have hnext : Hid (MonAt n K (j + 1) (lf - z)) := ⟨by omega, by have := HJ.out.is; rw [dbm, hz]; omega, HJ.out.yr⟩
      clear hz
      go_wp2_with (go_at_call 13; (with_reducible refine (HZ.out _).mono ?_); rintro e w1 ⟨rfl, rfl⟩)
      go_round
      case rel => exact ⟨j + 1, lf - z, congrArg (Value.int IntKind.i64) (by omega), congrArg (Value.int IntKind.i64) (by omega), hnext.out, by omega⟩
      case measure => simp [intOf]; omega
    · have hdate := Lib.hid (HJ.out.date k8 (by rw [hz]; omega))
      clear hz
      obtain ⟨r0, r1, r2, p0, p1, p2, s0⟩ := MR.out
      go_wp2_with (go_at_call 13; (with_reducible refine (HZ.out _).mono ?_); rintro e w1 ⟨rfl, rfl⟩)
      refine bodyPost_ret (v := .tuple #[.agg #[.int .i64 (1970 + (K : Int)), .int .i64 (1 + (j : Int)), .int .i64 (lf + 1)], .int .i64 0]) (by simp [results, Try.results7, go_sem]) rfl ⟨_, _, _, rfl, hdate.out.1, by rw [hdate.out.2, HN.out], ?_⟩
      exact (Below.refl _ _).alloc (Nat.le_refl _) _
theorem cat_no (t : Int) (w : World) (_env : Env w) (h : t < 0 ∨ 253402300799 < t) : Calls Try.prog 7 #[.int .i64 t] w fun e w' => e = .returned (.tuple #[.agg #[.int .i64 0, .int .i64 0, .int .i64 0], .int .i64 8]) ∧ Below w.heap.size w w' := by
  have MR := Var3.fresh w (.int .i64 0) (.int .i64 0) (.int .i64 0) 24 _ rfl
  have DD : Below w.heap.size w (w.alloc (.cells #[.int .i64 0, .int .i64 0, .int .i64 0] 24)) := (Below.refl _ _).alloc (Nat.le_refl _) _
  obtain ⟨r0, r1, r2, p0, p1, p2, s0⟩ := MR
  by_cases h0 : t < 0
  · clear h
    go_enter Try.func7, Try.ntmps7
    go_wp2
    refine bodyPost_ret (v := .tuple #[.agg #[.int .i64 0, .int .i64 0, .int .i64 0], .int .i64 8]) (by simp [results, Try.results7, go_sem, r0, r1, r2]) rfl ⟨rfl, ?_⟩
    first | exact DD | exact ((DD.setCell (Nat.le_refl _) _).setCell (Nat.le_refl _) _).setCell (Nat.le_refl _) _
  · have h1 : 253402300799 < t := by omega
    clear h
    go_enter Try.func7, Try.ntmps7
    go_wp2
    refine bodyPost_ret (v := .tuple #[.agg #[.int .i64 0, .int .i64 0, .int .i64 0], .int .i64 8]) (by simp [results, Try.results7, go_sem, r0, r1, r2]) rfl ⟨rfl, ?_⟩
    first | exact DD | exact ((DD.setCell (Nat.le_refl _) _).setCell (Nat.le_refl _) _).setCell (Nat.le_refl _) _

theorem end_bd (y : Int) (y0 : 1970 ≤ y) (y1 : y ≤ 9999) {k : Nat} (hk : k ≤ 12) : 0 ≤ endI y k ∧ endI y k ≤ 253402300800 := by
  have h1 := end_all y y0 y1 hk
  have h2 := end_mono y (Nat.zero_le k)
  have h3 : 0 ≤ endI y 0 := by
    unfold endI
    have e1 : dbm y 0 = 0 := rfl
    have := (dby_bd (y - 1970).toNat).1
    omega
  omega
theorem end_sum (y : Int) (k s : Nat) : endI y k + 86400 * dsum y (1 + (k : Int)) s = endI y (k + s) := by
  induction s with
  | zero => simp [dsum]
  | succ s ih =>
    rw [dsum, Int.mul_add, ← Int.add_assoc, ih, ← Nat.add_assoc]
    unfold endI
    rw [dbm, show 1 + ((k + s : Nat) : Int) = 1 + (k : Int) + (s : Int) by omega]
    omega
set_option maxRecDepth 100000 in
theorem cmtick_any (y m : Int) (J : Nat) (w : World) (y0 : 1970 ≤ y) (y1 : y ≤ 9999) (hm : m = 1 + (J : Int)) (hJ : J ≤ 12) :
    Calls Try.prog 22 #[.int .i64 y, .int .i64 m] w fun e w' => e = .returned (.int .i64 (endI y J)) ∧ w = w' := by
  have hb := end_bd y y0 y1 hJ
  have CA := Lib.hid (fun w => cahead_any y m (y - 1970).toNat J w (by omega) (by omega) hm hJ)
  obtain ⟨x, hx⟩ : ∃ x, dby (y - 1970).toNat + dbm y J = x := ⟨_, rfl⟩
  have he : endI y J = x * 86400 := by unfold endI; rw [hx]; omega
  rw [he] at hb ⊢
  rw [hx] at CA
  have x0 : 0 ≤ x := by omega
  have x1 : x ≤ 2932897 := by omega
  clear hb he hx hm hJ
  go_enter Try.func22, Try.ntmps22
  go_wp2_with (go_at_call 21; (with_reducible refine (CA.out _).mono ?_); rintro e w1 ⟨rfl, rfl⟩)
  go_ret
  exact ⟨rfl, rfl⟩

theorem cmtick_below {y m x : Int} (h : ∀ w : World, Calls Try.prog 22 #[.int .i64 y, .int .i64 m] w fun e w' => e = .returned (.int .i64 x) ∧ w = w') (w : World) :
    Calls Try.prog 22 #[.int .i64 y, .int .i64 m] w fun e w' => e = .returned (.int .i64 x) ∧ Below w.heap.size w w' :=
  (h w).mono fun _ _ ⟨h, g⟩ => ⟨h, g ▸ Below.refl _ _⟩

set_option maxRecDepth 100000 in
set_option maxHeartbeats 2000000 in
theorem ctick_yes (y m d : Int) (w : World) (_env : Env w) (h : RightD y m d) : Calls Try.prog 8 #[.agg #[.int .i64 y, .int .i64 m, .int .i64 d]] w fun e w' => e = .returned (.tuple #[.int .i64 (tickI y m d), .int .i64 0]) ∧ Below w.heap.size w w' := by
  have DD : Below w.heap.size w (w.alloc (.cells #[.int .i64 y, .int .i64 m, .int .i64 d] 24)) := (Below.refl _ _).alloc (Nat.le_refl _) _
  have M := Var3.fresh w (.int .i64 y) (.int .i64 m) (.int .i64 d) 24 _ rfl
  have KM := Lib.hid M
  have tb := h.tick_bd
  have te := tick_in y m d
  rw [tick_first] at te
  have CM := Lib.hid (fun w => cmtick_any y m (m - 1).toNat w h.y0 h.y1 (by have := h.m0; omega) (by have := h.m1; omega))
  have eb := end_bd y h.y0 h.y1 (k := (m - 1).toNat) (by have := h.m1; omega)
  obtain ⟨x, hx⟩ : ∃ x, endI y (m - 1).toNat = x := ⟨_, rfl⟩
  rw [hx] at te eb CM
  rw [te] at tb ⊢
  have d0 := h.d0
  have d1 : d ≤ 31 := by have := h.d1; have := daysI_bd y m; omega
  obtain ⟨eb0, eb1⟩ := eb
  have hfin : Hid (x + 86400 * (d - 1) = x + (d - 1) * 86400) := by unfold Hid; omega
  have w1 : IntKind.i64.wrap (d - 1) = d - 1 := by rw [IntKind.wrap_i64]; omega
  have w2 : IntKind.i64.wrap ((d - 1) * 86400) = (d - 1) * 86400 := by rw [IntKind.wrap_i64]; omega
  have w3 : IntKind.i64.wrap (x + (d - 1) * 86400) = x + (d - 1) * 86400 := by rw [IntKind.wrap_i64]; omega
  have CR := Lib.hid (fun w => cright_yes y m d w)
  clear te hx tb
  replace h := Lib.hid h
  go_enter Try.func8, Try.ntmps8
  obtain ⟨c0, c1, c2, _, _, _, _⟩ := M
  go_wp2_with (go_at_call 10; (with_reducible refine (CR.out _ (_env.step DD) h.out).mono ?_); rintro e w1 ⟨rfl, g⟩; have KM := Lib.hid (KM.out.after g); obtain ⟨c0, c1, c2, _, _, _, _⟩ := KM.out; have DD := below_step DD g; clear g)
  have CB := Lib.hid (fun w => (cmtick_below CM.out w))
  have f0 := cell_regrown c0
  have f1 := cell_regrown c1
  have f2 := cell_regrown c2
  refine wp_region_quiet_below (by kernel_rfl) (by kernel_rfl) ?_
  repeat (quiet_step (first | (go_at_call 22; exact Calls.regrown_of (CB.out _))))
  refine wpQuiet_nil ?_
  intro _ hw'
  obtain ⟨⟨dq, osq⟩, hw''⟩ := hw'
  subst hw''
  go_wp2
  go_ret2
  exact ⟨by rw [hfin.out]; rfl, below_step DD (below_regrown _ dq osq)⟩
theorem ctick_no (y m d : Int) (w : World) (_env : Env w) (_bd : DateBd y m d) (h : ¬ RightD y m d) : Calls Try.prog 8 #[.agg #[.int .i64 y, .int .i64 m, .int .i64 d]] w fun e w' => e = .returned (.tuple #[.int .i64 0, .int .i64 8]) ∧ Below w.heap.size w w' := by
  replace h := Lib.hid h
  have DD : Below w.heap.size w (w.alloc (.cells #[.int .i64 y, .int .i64 m, .int .i64 d] 24)) := (Below.refl _ _).alloc (Nat.le_refl _) _
  go_enter Try.func8, Try.ntmps8
  go_wp2_with (go_at_call 10; (with_reducible refine (cright_no y m d _ (_env.step DD) _bd h.out).mono ?_); rintro e w1 ⟨rfl, g⟩; have DD := below_step DD g; clear g)
  go_ret2
  exact ⟨rfl, DD⟩

/-- What Month and Quarter hand back. -/
def GivesPer (t : Int) (size : Nat) (w : World) (e : Ending) (w' : World) : Prop := ∃ y m d : Int, RightD y m d ∧ tickI y m d = t / 86400 * 86400 ∧
  e = .returned (.tuple #[.int .i64 (tickI y (qmI size m) 1), .int .i64 (tickI y (qmI size m) 1 + 86400 * dsum y (qmI size m) size), .int .i64 0]) ∧ Below w.heap.size w w'
/-- What a period's ends are, by the year's months. -/
structure PerAt (y m : Int) (size : Nat) (q A B : Int) : Prop where
  q0 : 1 ≤ q
  q1 : q + (size : Int) ≤ 13
  CA : ∀ w : World, Calls Try.prog 22 #[.int .i64 y, .int .i64 q] w fun e w' => e = .returned (.int .i64 A) ∧ Below w.heap.size w w'
  CB : ∀ w : World, Calls Try.prog 22 #[.int .i64 y, .int .i64 (q + (size : Int))] w fun e w' => e = .returned (.int .i64 B) ∧ Below w.heap.size w w'
  ea : tickI y (qmI size m) 1 = A
  eb : tickI y (qmI size m) 1 + 86400 * dsum y (qmI size m) size = B
theorem per_at {y m d r : Int} {size : Nat} (h : RightD y m d) (hs : size = 1 ∨ size = 3) (hr : (m - 1) % (size : Int) = r) : ∃ A B, PerAt y m size (m - r) A B := by
  obtain ⟨y0, y1, m0, m1, d0, d1⟩ := h
  have e : qmI size m = m - r := by
    unfold qmI
    rcases hs with rfl | rfl
    · omega
    · omega
  have q0 : 1 ≤ m - r := by rcases hs with rfl | rfl <;> omega
  have q1 : m - r + (size : Int) ≤ 13 := by rcases hs with rfl | rfl <;> omega
  have ea : tickI y (qmI size m) 1 = endI y (m - r - 1).toNat := by rw [e, tick_first]
  refine ⟨endI y (m - r - 1).toNat, endI y ((m - r - 1).toNat + size), q0, q1, fun w => cmtick_below (fun w => cmtick_any y _ _ w y0 y1 (by omega) (by omega)) w, fun w => cmtick_below (fun w => cmtick_any y _ _ w y0 y1 (by omega) (by omega)) w, ea, ?_⟩
  rw [ea, e]
  have := end_sum y (m - r - 1).toNat size
  rw [show 1 + (((m - r - 1).toNat : Nat) : Int) = m - r by omega] at this
  exact this

set_option maxRecDepth 100000 in
set_option maxHeartbeats 4000000 in
theorem cperiod_one (t : Int) (w : World) (env : Env w) (t0 : 0 ≤ t) (t1 : t ≤ 253402300799) : Calls Try.prog 24 #[.int .i64 t, .int .i64 1] w (GivesPer t 1 w) := by
  go_enter Try.func24, Try.ntmps24
  go_wp2_with (go_at_call 7; (with_reducible refine (cat_yes t _ env t0 t1).mono ?_); rintro e w1 ⟨y, m, d, rfl, hD, ht, g⟩; have HD := Lib.hid hD; have HT := Lib.hid ht; have KM := Lib.hid (Var3.fresh w1 (.int .i64 y) (.int .i64 m) (.int .i64 d) 24 _ rfl); have DD := below_more g (.cells #[.int .i64 y, .int .i64 m, .int .i64 d] 24); have m0 := hD.m0; have m1 := hD.m1; clear hD ht g)
  obtain ⟨r, hr⟩ : ∃ r, (m - 1) % 1 = r := ⟨_, rfl⟩
  obtain ⟨A, B, hP⟩ := per_at (size := 1) HD.out (by decide) hr
  have HP := Lib.hid hP
  have CA := Lib.hid hP.CA
  have CB : Hid (∀ w : World, Calls Try.prog 22 #[.int .i64 y, .int .i64 (m - r + 1)] w fun e w' => e = .returned (.int .i64 B) ∧ Below w.heap.size w w') := Lib.hid hP.CB
  have q0 := hP.q0
  clear hP
  have hr2 : (m - 1).tmod 1 = r := by rw [Int.tmod_eq_emod_of_nonneg (by omega)]; exact hr
  have r0 : 0 ≤ r := by omega
  have r1 : r ≤ 12 := by omega
  clear hr
  have w1a : IntKind.i64.wrap (m - 1) = m - 1 := by rw [IntKind.wrap_i64]; omega
  have w1b : IntKind.i64.wrap r = r := by rw [IntKind.wrap_i64]; omega
  have w1c : IntKind.i64.wrap (m - r) = m - r := by rw [IntKind.wrap_i64]; omega
  have w1d : IntKind.i64.wrap (m - r + 1) = m - r + 1 := by rw [IntKind.wrap_i64]; omega
  generalize w1.alloc (.cells #[.int .i64 y, .int .i64 m, .int .i64 d] 24) = W0 at KM DD ⊢
  have f0 := cell_regrown KM.out.c0
  have f1 := cell_regrown KM.out.c1
  refine wp_region_quiet_below (by kernel_rfl) (by kernel_rfl) ?_
  repeat (quiet_step (fail))
  refine wpQuiet_nil ?_
  intro _ hw'
  obtain ⟨⟨dq, osq⟩, hw''⟩ := hw'
  subst hw''
  have K2 := Lib.hid (KM.out.after (below_regrown W0 dq osq))
  have D2 := below_step DD (below_regrown W0 dq osq)
  generalize Go.Sort.grow (redrawn W0 dq) osq = W1 at K2 D2 ⊢
  clear f0 f1
  have f0 := cell_regrown K2.out.c0
  have f1 := cell_regrown K2.out.c1
  go_wp2
  refine wp_region_quiet_below (by kernel_rfl) (by kernel_rfl) ?_
  repeat (quiet_step (first
    | (go_at_call 22; exact Calls.regrown_of (CA.out _))
    | (go_at_call 22; exact Calls.regrown_of (CB.out _))))
  refine wpQuiet_nil ?_
  intro _ hw'
  obtain ⟨⟨dq2, osq2⟩, hw''⟩ := hw'
  subst hw''
  go_wp2
  go_ret3
  exact ⟨y, m, d, HD.out, HT.out, by rw [HP.out.eb, HP.out.ea]; rfl, below_step D2 (below_regrown W1 dq2 osq2)⟩
set_option maxRecDepth 100000 in
set_option maxHeartbeats 4000000 in
theorem cperiod_three (t : Int) (w : World) (env : Env w) (t0 : 0 ≤ t) (t1 : t ≤ 253402300799) : Calls Try.prog 24 #[.int .i64 t, .int .i64 3] w (GivesPer t 3 w) := by
  go_enter Try.func24, Try.ntmps24
  go_wp2_with (go_at_call 7; (with_reducible refine (cat_yes t _ env t0 t1).mono ?_); rintro e w1 ⟨y, m, d, rfl, hD, ht, g⟩; have HD := Lib.hid hD; have HT := Lib.hid ht; have KM := Lib.hid (Var3.fresh w1 (.int .i64 y) (.int .i64 m) (.int .i64 d) 24 _ rfl); have DD := below_more g (.cells #[.int .i64 y, .int .i64 m, .int .i64 d] 24); have m0 := hD.m0; have m1 := hD.m1; clear hD ht g)
  obtain ⟨r, hr⟩ : ∃ r, (m - 1) % 3 = r := ⟨_, rfl⟩
  obtain ⟨A, B, hP⟩ := per_at (size := 3) HD.out (by decide) hr
  have HP := Lib.hid hP
  have CA := Lib.hid hP.CA
  have CB : Hid (∀ w : World, Calls Try.prog 22 #[.int .i64 y, .int .i64 (m - r + 3)] w fun e w' => e = .returned (.int .i64 B) ∧ Below w.heap.size w w') := Lib.hid hP.CB
  have q0 := hP.q0
  clear hP
  have hr2 : (m - 1).tmod 3 = r := by rw [Int.tmod_eq_emod_of_nonneg (by omega)]; exact hr
  have r0 : 0 ≤ r := by omega
  have r1 : r ≤ 12 := by omega
  clear hr
  have w1a : IntKind.i64.wrap (m - 1) = m - 1 := by rw [IntKind.wrap_i64]; omega
  have w1b : IntKind.i64.wrap r = r := by rw [IntKind.wrap_i64]; omega
  have w1c : IntKind.i64.wrap (m - r) = m - r := by rw [IntKind.wrap_i64]; omega
  have w1d : IntKind.i64.wrap (m - r + 3) = m - r + 3 := by rw [IntKind.wrap_i64]; omega
  generalize w1.alloc (.cells #[.int .i64 y, .int .i64 m, .int .i64 d] 24) = W0 at KM DD ⊢
  have f0 := cell_regrown KM.out.c0
  have f1 := cell_regrown KM.out.c1
  refine wp_region_quiet_below (by kernel_rfl) (by kernel_rfl) ?_
  repeat (quiet_step (fail))
  refine wpQuiet_nil ?_
  intro _ hw'
  obtain ⟨⟨dq, osq⟩, hw''⟩ := hw'
  subst hw''
  have K2 := Lib.hid (KM.out.after (below_regrown W0 dq osq))
  have D2 := below_step DD (below_regrown W0 dq osq)
  generalize Go.Sort.grow (redrawn W0 dq) osq = W1 at K2 D2 ⊢
  clear f0 f1
  have f0 := cell_regrown K2.out.c0
  have f1 := cell_regrown K2.out.c1
  go_wp2
  refine wp_region_quiet_below (by kernel_rfl) (by kernel_rfl) ?_
  repeat (quiet_step (first
    | (go_at_call 22; exact Calls.regrown_of (CA.out _))
    | (go_at_call 22; exact Calls.regrown_of (CB.out _))))
  refine wpQuiet_nil ?_
  intro _ hw'
  obtain ⟨⟨dq2, osq2⟩, hw''⟩ := hw'
  subst hw''
  go_wp2
  go_ret3
  exact ⟨y, m, d, HD.out, HT.out, by rw [HP.out.eb, HP.out.ea]; rfl, below_step D2 (below_regrown W1 dq2 osq2)⟩
theorem cperiod_no (t s : Int) (w : World) (env : Env w) (h : t < 0 ∨ 253402300799 < t) : Calls Try.prog 24 #[.int .i64 t, .int .i64 s] w fun e w' => e = .returned (.tuple #[.int .i64 0, .int .i64 0, .int .i64 8]) ∧ Below w.heap.size w w' := by
  replace h := Lib.hid h
  go_enter Try.func24, Try.ntmps24
  go_wp2_with (go_at_call 7; (with_reducible refine (cat_no t _ env h.out).mono ?_); rintro e w1 ⟨rfl, g⟩; have DD := below_more g (.cells #[.int .i64 0, .int .i64 0, .int .i64 0] 24); clear g)
  go_ret3
  exact ⟨rfl, DD⟩
theorem cmonth_yes (t : Int) (w : World) (_env : Env w) (t0 : 0 ≤ t) (t1 : t ≤ 253402300799) : Calls Try.prog 17 #[.int .i64 t] w (GivesPer t 1 w) := by
  go_enter Try.func17, Try.ntmps17
  go_wp2_with (go_at_call 24; (with_reducible refine (cperiod_one t _ _env t0 t1).mono ?_); rintro e w1 ⟨y, m, d, hD, ht, rfl, g⟩; replace hD := Lib.hid hD; replace ht := Lib.hid ht)
  go_ret3
  exact ⟨y, m, d, hD.out, ht.out, rfl, g⟩
theorem cmonth_no (t : Int) (w : World) (_env : Env w) (h : t < 0 ∨ 253402300799 < t) : Calls Try.prog 17 #[.int .i64 t] w fun e w' => e = .returned (.tuple #[.int .i64 0, .int .i64 0, .int .i64 8]) ∧ Below w.heap.size w w' := by
  replace h := Lib.hid h
  go_enter Try.func17, Try.ntmps17
  go_wp2_with (go_at_call 24; (with_reducible refine (cperiod_no t 1 _ _env h.out).mono ?_); rintro e w1 ⟨rfl, g⟩)
  go_ret3
  exact ⟨rfl, g⟩
theorem cquarter_yes (t : Int) (w : World) (_env : Env w) (t0 : 0 ≤ t) (t1 : t ≤ 253402300799) : Calls Try.prog 18 #[.int .i64 t] w (GivesPer t 3 w) := by
  go_enter Try.func18, Try.ntmps18
  go_wp2_with (go_at_call 24; (with_reducible refine (cperiod_three t _ _env t0 t1).mono ?_); rintro e w1 ⟨y, m, d, hD, ht, rfl, g⟩; replace hD := Lib.hid hD; replace ht := Lib.hid ht)
  go_ret3
  exact ⟨y, m, d, hD.out, ht.out, rfl, g⟩
theorem cquarter_no (t : Int) (w : World) (_env : Env w) (h : t < 0 ∨ 253402300799 < t) : Calls Try.prog 18 #[.int .i64 t] w fun e w' => e = .returned (.tuple #[.int .i64 0, .int .i64 0, .int .i64 8]) ∧ Below w.heap.size w w' := by
  replace h := Lib.hid h
  go_enter Try.func18, Try.ntmps18
  go_wp2_with (go_at_call 24; (with_reducible refine (cperiod_no t 3 _ _env h.out).mono ?_); rintro e w1 ⟨rfl, g⟩)
  go_ret3
  exact ⟨rfl, g⟩

end Go.Proofs.Ythhaineoflpkkaa
