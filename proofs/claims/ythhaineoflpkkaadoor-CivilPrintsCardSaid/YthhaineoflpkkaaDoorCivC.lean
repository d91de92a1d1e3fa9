/-
  Package civil's calls, walked: Leap, Days, Right, the days ahead of a month, a day's year, At, Tick, periods.
-/
import Derived.Test.YthhaineoflpkkaaDoorCivN
import Derived.Test.YthhaineoflpkkaaDoorCivP
import Derived.Test.YthhaineoflpkkaaDoorEnv
import Derived.Deep.LoopGhost
namespace Go.Proofs.YthhaineoflpkkaaDoor
open Go.RowKit

/-- The numbers of a date are of 64 bits. -/
structure DateBd (y m d : Int) : Prop where
  y0 : -9223372036854775808 ≤ y
  y1 : y ≤ 9223372036854775807
  m0 : -9223372036854775808 ≤ m
  m1 : m ≤ 9223372036854775807
  d0 : -9223372036854775808 ≤ d
  d1 : d ≤ 9223372036854775807
theorem RightD.bd {y m d : Int} (h : RightD y m d) : DateBd y m d := by
  have h1 := daysI_bd y m
  obtain ⟨y0, y1, m0, m1, d0, d1⟩ := h
  exact ⟨by omega, by omega, by omega, by omega, by omega, by omega⟩

theorem leap_four {y : Int} {b400 b4 b100 : Bool} (h400 : decide (y % 400 = 0) = b400) (h4 : decide (y % 4 = 0) = b4) (h100 : decide (y % 100 = 0) = b100) : leapB y = (b4 && (!b100 || b400)) := by
  rw [leap_parts y b400 b4 b100 h400 h4 h100]
  subst h400 h4 h100
  by_cases k : y % 400 = 0
  · rw [decide_eq_true k, decide_eq_true (show y % 4 = 0 by omega), decide_eq_true (show y % 100 = 0 by omega)]; rfl
  · rw [decide_eq_false k]; simp
set_option maxRecDepth 100000 in
theorem cleap_same (y : Int) (w : World) : Calls Tryd.prog 20 #[.int .i64 y] w fun e w' => e = .returned (.bool (leapB y)) ∧ w = w' := by
  obtain ⟨b400, h400⟩ : ∃ b, decide (y % 400 = 0) = b := ⟨_, rfl⟩
  obtain ⟨b4, h4⟩ : ∃ b, decide (y % 4 = 0) = b := ⟨_, rfl⟩
  obtain ⟨b100, h100⟩ : ∃ b, decide (y % 100 = 0) = b := ⟨_, rfl⟩
  have hL := Lib.hid (leap_four h400 h4 h100)
  have t400 : (y.tmod 400 == 0) = b400 := by rw [tmod_zero, h400]
  have t4 : (y.tmod 4 == 0) = b4 := by rw [tmod_zero, h4]
  have t100 : (y.tmod 100 == 0) = b100 := by rw [tmod_zero, h100]
  have u100 : (y.tmod 100 != 0) = !b100 := by rw [bne, t100]
  clear h400 h4 h100
  cases b4 with
  | false =>
    go_enter Tryd.func20, Tryd.ntmps20
    go_wp2
    go_ret
    exact ⟨by rw [hL.out]; rfl, rfl⟩
  | true =>
    cases b100 with
    | false =>
      go_enter Tryd.func20, Tryd.ntmps20
      go_wp2
      go_ret
      exact ⟨by rw [hL.out]; cases b400 <;> rfl, rfl⟩
    | true =>
      go_enter Tryd.func20, Tryd.ntmps20
      go_wp2
      go_ret
      exact ⟨by rw [hL.out]; cases b400 <;> rfl, rfl⟩
theorem cleap_any (y : Int) (w : World) (_env : Env w) (_y0 : -9223372036854775808 ≤ y) (_y1 : y ≤ 9223372036854775807) : Calls Tryd.prog 20 #[.int .i64 y] w fun e w' => e = .returned (.bool (leapB y)) ∧ Below w.heap.size w w' :=
  (cleap_same y w).mono fun _ _ ⟨h, g⟩ => ⟨h, g ▸ Below.refl _ _⟩

set_option maxRecDepth 100000 in
set_option maxHeartbeats 2000000 in
theorem cdays_same (y m : Int) (w : World) : Calls Tryd.prog 11 #[.int .i64 y, .int .i64 m] w fun e w' => e = .returned (.int .i64 (daysI y m)) ∧ w = w' := by
  by_cases hin : 1 ≤ m ∧ m ≤ 12
  · obtain ⟨h0, h1⟩ := hin
    obtain ⟨b, hb⟩ : ∃ b, leapB y = b := ⟨_, rfl⟩
    have hL := Lib.hid (fun w => cleap_same y w)
    rw [hb] at hL
    have hD : Hid (∀ m, daysI y m = if m = 2 ∧ b = true then 29 else monI m) := fun m => by unfold daysI; rw [hb]
    clear hb
    rcases twelve h0 h1 with rfl | rfl | rfl | rfl | rfl | rfl | rfl | rfl | rfl | rfl | rfl | rfl
    case inr.inl =>
      clear h0 h1
      cases b with
      | true =>
        go_enter Tryd.func11, Tryd.ntmps11
        go_wp2_with (go_at_call 20; (with_reducible refine (hL.out _).mono ?_); rintro e w1 ⟨rfl, rfl⟩)
        go_ret
        exact ⟨by rw [hD.out]; rfl, rfl⟩
      | false =>
        go_enter Tryd.func11, Tryd.ntmps11
        go_wp2_with (go_at_call 20; (with_reducible refine (hL.out _).mono ?_); rintro e w1 ⟨rfl, rfl⟩)
        go_ret
        exact ⟨by rw [hD.out]; rfl, rfl⟩
    all_goals
      clear h0 h1
      go_enter Tryd.func11, Tryd.ntmps11
      go_wp2
      go_ret
      exact ⟨by rw [hD.out]; rfl, rfl⟩
  · have hz := Lib.hid (daysI_out y (show m < 1 ∨ 12 < m by omega))
    have e1 : (m == 1) = false := by simp; omega
    have e2 : (m == 2) = false := by simp; omega
    have e3 : (m == 3) = false := by simp; omega
    have e4 : (m == 4) = false := by simp; omega
    have e5 : (m == 5) = false := by simp; omega
    have e6 : (m == 6) = false := by simp; omega
    have e7 : (m == 7) = false := by simp; omega
    have e8 : (m == 8) = false := by simp; omega
    have e9 : (m == 9) = false := by simp; omega
    have e10 : (m == 10) = false := by simp; omega
    have e11 : (m == 11) = false := by simp; omega
    have e12 : (m == 12) = false := by simp; omega
    clear hin
    go_enter Tryd.func11, Tryd.ntmps11
    go_wp2
    go_ret
    exact ⟨by rw [hz.out]; rfl, rfl⟩
theorem cdays_any (y m : Int) (w : World) (_env : Env w) (_y0 : -9223372036854775808 ≤ y) (_y1 : y ≤ 9223372036854775807) (_m0 : -9223372036854775808 ≤ m) (_m1 : m ≤ 9223372036854775807) :
    Calls Tryd.prog 11 #[.int .i64 y, .int .i64 m] w fun e w' => e = .returned (.int .i64 (daysI y m)) ∧ Below w.heap.size w w' :=
  (cdays_same y m w).mono fun _ _ ⟨h, g⟩ => ⟨h, g ▸ Below.refl _ _⟩
theorem cdays_below (y m : Int) (w : World) : Calls Tryd.prog 11 #[.int .i64 y, .int .i64 m] w fun e w' => e = .returned (.int .i64 (daysI y m)) ∧ Below w.heap.size w w' :=
  (cdays_same y m w).mono fun _ _ ⟨h, g⟩ => ⟨h, g ▸ Below.refl _ _⟩

set_option maxRecDepth 100000 in
set_option maxHeartbeats 2000000 in
theorem cright_days (y m d : Int) (b : Bool) (w : World) (y0 : 1970 ≤ y) (y1 : y ≤ 9999) (d0 : 1 ≤ d) (hb : decide (d ≤ daysI y m) = b) :
    Calls Tryd.prog 12 #[.agg #[.int .i64 y, .int .i64 m, .int .i64 d]] w fun e w' => e = .returned (.bool b) ∧ Below w.heap.size w w' := by
  obtain ⟨x, hx⟩ : ∃ x, daysI y m = x := ⟨_, rfl⟩
  have HD := Lib.hid (fun w => cdays_below y m w)
  rw [hx] at HD hb
  clear hx
  have M := Var3.fresh w (.int .i64 y) (.int .i64 m) (.int .i64 d) 23 _ rfl
  have DD : Below w.heap.size w (w.alloc (.cells #[.int .i64 y, .int .i64 m, .int .i64 d] 23)) := (Below.refl _ _).alloc (Nat.le_refl _) _
  go_enter Tryd.func12, Tryd.ntmps12
  go_wp2
  generalize w.alloc (.cells #[.int .i64 y, .int .i64 m, .int .i64 d] 23) = W0 at M DD ⊢
  have f0 := cell_regrown M.c0
  have f1 := cell_regrown M.c1
  have f2 := cell_regrown M.c2
  refine wp_region_quiet_below (by kernel_rfl) (by kernel_rfl) ?_
  repeat (quiet_step (first | (go_at_call 11; exact Calls.regrown_of (HD.out _))))
  refine wpQuiet_nil ?_
  intro _ hw'
  obtain ⟨⟨dq, osq⟩, hw''⟩ := hw'
  subst hw''
  go_wp2
  go_ret
  exact ⟨rfl, below_step DD (below_regrown W0 dq osq)⟩

set_option maxRecDepth 100000 in
set_option maxHeartbeats 2000000 in
theorem cright_a (y m d : Int) (w : World) (h : y < 1970) :
    Calls Tryd.prog 12 #[.agg #[.int .i64 y, .int .i64 m, .int .i64 d]] w fun e w' => e = .returned (.bool false) ∧ Below w.heap.size w w' := by
  have hf : decide (y ≥ 1970) = false := by simpa using h
  have M := Var3.fresh w (.int .i64 y) (.int .i64 m) (.int .i64 d) 23 _ rfl
  have DD : Below w.heap.size w (w.alloc (.cells #[.int .i64 y, .int .i64 m, .int .i64 d] 23)) := (Below.refl _ _).alloc (Nat.le_refl _) _
  clear h
  go_enter Tryd.func12, Tryd.ntmps12
  go_wp2
  generalize w.alloc (.cells #[.int .i64 y, .int .i64 m, .int .i64 d] 23) = W0 at M DD ⊢
  obtain ⟨c0, c1, c2, _, _, _, _⟩ := M
  go_quiet (fail)
  go_wp2
  go_ret
  exact ⟨rfl, below_drewN DD _⟩
set_option maxRecDepth 100000 in
set_option maxHeartbeats 2000000 in
theorem cright_b (y m d : Int) (w : World) (y0 : 1970 ≤ y) (h : 9999 < y) :
    Calls Tryd.prog 12 #[.agg #[.int .i64 y, .int .i64 m, .int .i64 d]] w fun e w' => e = .returned (.bool false) ∧ Below w.heap.size w w' := by
  have hf : decide (y ≤ 9999) = false := by simpa using h
  have M := Var3.fresh w (.int .i64 y) (.int .i64 m) (.int .i64 d) 23 _ rfl
  have DD : Below w.heap.size w (w.alloc (.cells #[.int .i64 y, .int .i64 m, .int .i64 d] 23)) := (Below.refl _ _).alloc (Nat.le_refl _) _
  clear h
  go_enter Tryd.func12, Tryd.ntmps12
  go_wp2
  generalize w.alloc (.cells #[.int .i64 y, .int .i64 m, .int .i64 d] 23) = W0 at M DD ⊢
  obtain ⟨c0, c1, c2, _, _, _, _⟩ := M
  go_quiet (fail)
  go_wp2
  go_ret
  exact ⟨rfl, below_drewN DD _⟩
set_option maxRecDepth 100000 in
set_option maxHeartbeats 2000000 in
theorem cright_e (y m d : Int) (w : World) (y0 : 1970 ≤ y) (y1 : y ≤ 9999) (h : d < 1) :
    Calls Tryd.prog 12 #[.agg #[.int .i64 y, .int .i64 m, .int .i64 d]] w fun e w' => e = .returned (.bool false) ∧ Below w.heap.size w w' := by
  have hf : decide (d ≥ 1) = false := by simpa using h
  have M := Var3.fresh w (.int .i64 y) (.int .i64 m) (.int .i64 d) 23 _ rfl
  have DD : Below w.heap.size w (w.alloc (.cells #[.int .i64 y, .int .i64 m, .int .i64 d] 23)) := (Below.refl _ _).alloc (Nat.le_refl _) _
  clear h
  go_enter Tryd.func12, Tryd.ntmps12
  go_wp2
  generalize w.alloc (.cells #[.int .i64 y, .int .i64 m, .int .i64 d] 23) = W0 at M DD ⊢
  obtain ⟨c0, c1, c2, _, _, _, _⟩ := M
  go_quiet (fail)
  go_wp2
  go_ret
  exact ⟨rfl, below_drewN DD _⟩
theorem cright_yes (y m d : Int) (w : World) (_env : Env w) (h : RightD y m d) : Calls Tryd.prog 12 #[.agg #[.int .i64 y, .int .i64 m, .int .i64 d]] w fun e w' => e = .returned (.bool true) ∧ Below w.heap.size w w' :=
  cright_days y m d true w h.y0 h.y1 h.d0 (by simpa using h.d1)
theorem cright_no (y m d : Int) (w : World) (_env : Env w) (_bd : DateBd y m d) (h : ¬ RightD y m d) : Calls Tryd.prog 12 #[.agg #[.int .i64 y, .int .i64 m, .int .i64 d]] w fun e w' => e = .returned (.bool false) ∧ Below w.heap.size w w' := by
  by_cases h1 : y < 1970
  · exact cright_a y m d w h1
  · by_cases h2 : 9999 < y
    · exact cright_b y m d w (by omega) h2
    · by_cases h5 : d < 1
      · exact cright_e y m d w (by omega) (by omega) h5
      · refine cright_days y m d false w (by omega) (by omega) (by omega) ?_
        by_cases h6 : d ≤ daysI y m
        · have hm : 1 ≤ m ∧ m ≤ 12 := by
            refine Classical.byContradiction fun hc => ?_
            have := daysI_out y (show m < 1 ∨ 12 < m by omega)
            omega
          exact (h ⟨by omega, by omega, hm.1, hm.2, by omega, h6⟩).elim
        · simpa using h6

theorem clps_any (z : Int) (w : World) (z0 : 0 ≤ z) (z1 : z ≤ 100000) : Calls Tryd.prog 29 #[.int .i64 (z + 1)] w fun e w' => e = .returned (.int .i64 (lps z)) ∧ w = w' := by
  obtain ⟨a, ha⟩ : ∃ a, z / 4 = a := ⟨_, rfl⟩
  obtain ⟨b, hb⟩ : ∃ b, z / 100 = b := ⟨_, rfl⟩
  obtain ⟨c, hc⟩ : ∃ c, z / 400 = c := ⟨_, rfl⟩
  have hz : Hid (lps z = a - b + c) := by unfold Hid lps; rw [ha, hb, hc]
  have a0 : 0 ≤ a := by omega
  have a1 : a ≤ 25000 := by omega
  have b0 : 0 ≤ b := by omega
  have b1 : b ≤ 25000 := by omega
  have c0 : 0 ≤ c := by omega
  have c1 : c ≤ 25000 := by omega
  have ta : z.tdiv 4 = a := by rw [Int.tdiv_eq_ediv_of_nonneg z0]; exact ha
  have tb : z.tdiv 100 = b := by rw [Int.tdiv_eq_ediv_of_nonneg z0]; exact hb
  have tc : z.tdiv 400 = c := by rw [Int.tdiv_eq_ediv_of_nonneg z0]; exact hc
  have wa : IntKind.i64.wrap a = a := by rw [IntKind.wrap_i64]; omega
  have wb : IntKind.i64.wrap b = b := by rw [IntKind.wrap_i64]; omega
  have wc : IntKind.i64.wrap c = c := by rw [IntKind.wrap_i64]; omega
  have e1 : z + 1 - 1 = z := by omega
  clear ha hb hc
  go_enter Tryd.func29, Tryd.ntmps29
  go_wp2
  go_ret
  exact ⟨by rw [hz.out]; rfl, rfl⟩

end Go.Proofs.YthhaineoflpkkaaDoor
