/-
  The statements of layer 5, walked: over the contracts of package civil's calls: awake, dates, periods.
-/
import Derived.Test.YthhaineoflpkkaaCivF
import Derived.Test.YthhaineoflpkkaaCivM
import Derived.Deep.QuietTactic
import Derived.BigQuiet
namespace Go.Proofs.Ythhaineoflpkkaa
open Go.RowKit

theorem awake_date {y m d : Int} (h : RightD y m d) (ht : tickI y m d = 86400 / 86400 * 86400) : 1970 = y ∧ 1 = m ∧ 2 = d :=
  tickI_unique ⟨by decide, by decide, by decide, by decide, by decide, by decide⟩ h (by rw [ht]; decide)
theorem days_2000 : daysI 2000 2 = 29 := by decide
theorem days_1900 : daysI 1900 2 = 28 := by decide
theorem cdays_is (y m k : Int) (w : World) (env : Env w) (y0 : 0 ≤ y) (y1 : y ≤ 10000) (m0 : 0 ≤ m) (m1 : m ≤ 13) (h : daysI y m = k) :
    Calls Try.prog 13 #[.int .i64 y, .int .i64 m] w fun e w' => e = .returned (.int .i64 k) ∧ Below w.heap.size w w' := by
  subst h; exact cdays_any y m w env (by omega) (by omega) (by omega) (by omega)

set_option maxRecDepth 100000 in
set_option maxHeartbeats 2000000 in
theorem civ_awake (w : World) (env : Env w) : Calls Try.prog 6 #[] w fun e w' => e = .returned (.bool true) ∧ Below w.heap.size w w' := by
  go_enter Try.func6, Try.ntmps6
  go_wp2_with (first
    | (go_at_call 7; (with_reducible refine (cat_yes 86400 _ env (by decide) (by decide)).mono ?_); rintro e w1 ⟨y, m, d, rfl, hD, ht, g⟩; obtain ⟨rfl, rfl, rfl⟩ := awake_date hD ht; clear hD ht; have DD := below_more g (.cells #[.int .i64 1970, .int .i64 1, .int .i64 2] 24); clear g)
    | (go_at_call 13; (with_reducible refine (cdays_is 2000 2 29 _ (env.step DD) (by decide) (by decide) (by decide) (by decide) days_2000).mono ?_); rintro e w2 ⟨rfl, g⟩; have DD := below_step DD g; clear g)
    | (go_at_call 13; (with_reducible refine (cdays_is 1900 2 28 _ (env.step DD) (by decide) (by decide) (by decide) (by decide) days_1900).mono ?_); rintro e w3 ⟨rfl, g⟩; have DD := below_step DD g; clear g))
  go_ret
  exact ⟨rfl, DD⟩

theorem cat_same {t y m d : Int} (h : RightD y m d) (ht : tickI y m d = t / 86400 * 86400) {y' m' d' : Int} (h' : RightD y' m' d') (ht' : tickI y' m' d' = t / 86400 * 86400) : y = y' ∧ m = m' ∧ d = d' := tickI_unique h h' (by rw [ht, ht'])
theorem rat_is {t y m d : Int} (h : RightD y m d) (ht : tickI y m d = t / 86400 * 86400) (t0 : 0 ≤ t) (t1 : t ≤ 253402300799) (w : World) :
    Calls Try.prog 9 #[.int .i64 t] w fun e w' => e = .returned (.agg #[.int .i64 y, .int .i64 m, .int .i64 d]) ∧ Below w.heap.size w w' := by
  refine (rat_any t w t0 t1).mono ?_
  rintro e w' ⟨y', m', d', rfl, hD', ht', g⟩
  obtain ⟨rfl, rfl, rfl⟩ := cat_same h ht hD' ht'
  exact ⟨rfl, g⟩

set_option maxRecDepth 100000 in
set_option maxHeartbeats 4000000 in
theorem civdates_walk (t : Int) (w : World) (env : Env w) : Calls Try.prog 3 #[.int .i64 t] w fun e w' => e = .returned (.bool true) ∧ Below w.heap.size w w' := by
  by_cases h : t < 0 ∨ 253402300799 < t
  · have H := Lib.hid h
    by_cases h0 : t < 0
    · clear h
      go_enter Try.func3, Try.ntmps3
      go_wp2_with (first
        | (go_at_call 6; (with_reducible refine (civ_awake _ env).mono ?_); rintro e w1 ⟨rfl, g⟩; have DD := g; clear g)
        | (go_at_call 7; (with_reducible refine (cat_no t _ (env.step DD) H.out).mono ?_); rintro e w2 ⟨rfl, g⟩; have DD := below_more (below_step DD g) (.cells #[.int .i64 0, .int .i64 0, .int .i64 0] 24); clear g))
      go_ret
      exact ⟨rfl, DD⟩
    · have h1 : 253402300799 < t := by omega
      clear h
      go_enter Try.func3, Try.ntmps3
      go_wp2_with (first
        | (go_at_call 6; (with_reducible refine (civ_awake _ env).mono ?_); rintro e w1 ⟨rfl, g⟩; have DD := g; clear g)
        | (go_at_call 7; (with_reducible refine (cat_no t _ (env.step DD) H.out).mono ?_); rintro e w2 ⟨rfl, g⟩; have DD := below_more (below_step DD g) (.cells #[.int .i64 0, .int .i64 0, .int .i64 0] 24); clear g))
      go_ret
      exact ⟨rfl, DD⟩
  · have t0 : 0 ≤ t := by omega
    have t1 : t ≤ 253402300799 := by omega
    clear h
    obtain ⟨n, hn⟩ : ∃ n, t / 86400 = n := ⟨_, rfl⟩
    have n0 : 0 ≤ n := by omega
    have n1 : n ≤ 2932896 := by omega
    have HN := Lib.hid hn
    have hqt : t.tdiv 86400 = n := by rw [Int.tdiv_eq_ediv_of_nonneg t0]; exact hn
    have hqw : IntKind.i64.wrap n = n := by rw [IntKind.wrap_i64]; omega
    have hqx : IntKind.i64.wrap (n * 86400) = n * 86400 := by rw [IntKind.wrap_i64]; omega
    clear hn
    go_enter Try.func3, Try.ntmps3
    go_wp2_with (first
      | (go_at_call 6; (with_reducible refine (civ_awake _ env).mono ?_); rintro e w1 ⟨rfl, g⟩; have DD := g; clear g)
      | (go_at_call 7; (with_reducible refine (cat_yes t _ (env.step DD) t0 t1).mono ?_); rintro e w2 ⟨y, m, d, rfl, hD, ht, g⟩; have KM := Lib.hid ((Var3.fresh w2 (.int .i64 y) (.int .i64 m) (.int .i64 d) 24 _ rfl)); have DD := below_more (below_step DD g) (.cells #[.int .i64 y, .int .i64 m, .int .i64 d] 24); clear g; have HD := Lib.hid hD; have HT := Lib.hid ht; have hK := ht; rw [HN.out] at hK; clear hD ht; obtain ⟨K, hKK⟩ : ∃ K, tickI y m d = K := ⟨_, rfl⟩; have HK := Lib.hid hKK; rw [hKK] at hK; subst hK; clear hKK)
      | (go_at_call 8; (with_reducible refine (ctick_yes y m d _ (env.step DD) HD.out).mono ?_); rintro e w3 ⟨rfl, g⟩; rw [HK.out]; have KM := Lib.hid (KM.out.after g); have DD := below_step DD g; clear g))
    have HA := Lib.hid (fun w => rat_is HD.out HT.out t0 t1 w)
    have HR := Lib.hid (fun w' (hb : Below w3.heap.size w3 w') => cright_yes y m d w' (env.step (below_step DD hb)) HD.out)
    obtain ⟨c0, c1, c2, _, _, _, _⟩ := KM.out
    have f0 := cell_regrown c0
    have f1 := cell_regrown c1
    have f2 := cell_regrown c2
    refine wp_region_quiet_below (by kernel_rfl) (by kernel_rfl) ?_
    repeat (quiet_step (first
      | (go_at_call 9; exact Calls.regrown_of (HA.out _))
      | (go_at_call 10; exact Calls.regrown_of (HR.out _ (below_regrown _ _ _)))))
    refine wpQuiet_nil ?_
    intro _ hw'
    obtain ⟨⟨dq, osq⟩, hw''⟩ := hw'
    subst hw''
    go_wp2
    go_ret
    exact ⟨rfl, below_step DD (below_regrown w3 dq osq)⟩

end Go.Proofs.Ythhaineoflpkkaa
