/-
  The statements of layer 5, walked: over the contracts of package civil's calls: awake, dates, periods.
-/
import Derived.Test.YthhaineoflpkkaaDoorCivF
import Derived.Test.YthhaineoflpkkaaDoorCivM
import Derived.Deep.QuietTactic
import Derived.BigQuiet
namespace Go.Proofs.YthhaineoflpkkaaDoor
open Go.RowKit

theorem awake_date {y m d : Int} (h : RightD y m d) (ht : tickI y m d = 86400 / 86400 * 86400) : 1970 = y ∧ 1 = m ∧ 2 = d :=
  tickI_unique ⟨by decide, by decide, by decide, by decide, by decide, by decide⟩ h (by rw [ht]; decide)
theorem days_2000 : daysI 2000 2 = 29 := by decide
theorem days_1900 : daysI 1900 2 = 28 := by decide
theorem cdays_is (y m k : Int) (w : World) (env : Env w) (y0 : 0 ≤ y) (y1 : y ≤ 10000) (m0 : 0 ≤ m) (m1 : m ≤ 13) (h : daysI y m = k) :
    Calls Tryd.prog 11 #[.int .i64 y, .int .i64 m] w fun e w' => e = .returned (.int .i64 k) ∧ Below w.heap.size w w' := by
  subst h; exact cdays_any y m w env (by omega) (by omega) (by omega) (by omega)

set_option maxRecDepth 100000 in
set_option maxHeartbeats 2000000 in
theorem civ_awake (w : World) (env : Env w) : Calls Tryd.prog 4 #[] w fun e w' => e = .returned (.bool true) ∧ Below w.heap.size w w' := by
  go_enter Tryd.func4, Tryd.ntmps4
  go_wp2_with (first
    | (go_at_call 10; (with_reducible refine (cat_yes 86400 _ env (by decide) (by decide)).mono ?_); rintro e w1 ⟨y, m, d, rfl, hD, ht, g⟩; obtain ⟨rfl, rfl, rfl⟩ := awake_date hD ht; clear hD ht; have DD := below_more g (.cells #[.int .i64 1970, .int .i64 1, .int .i64 2] 23); clear g)
    | (go_at_call 11; (with_reducible refine (cdays_is 2000 2 29 _ (env.step DD) (by decide) (by decide) (by decide) (by decide) days_2000).mono ?_); rintro e w2 ⟨rfl, g⟩; have DD := below_step DD g; clear g)
    | (go_at_call 11; (with_reducible refine (cdays_is 1900 2 28 _ (env.step DD) (by decide) (by decide) (by decide) (by decide) days_1900).mono ?_); rintro e w3 ⟨rfl, g⟩; have DD := below_step DD g; clear g))
  go_ret
  exact ⟨rfl, DD⟩

theorem cat_same {t y m d : Int} (h : RightD y m d) (ht : tickI y m d = t / 86400 * 86400) {y' m' d' : Int} (h' : RightD y' m' d') (ht' : tickI y' m' d' = t / 86400 * 86400) : y = y' ∧ m = m' ∧ d = d' := tickI_unique h h' (by rw [ht, ht'])
end Go.Proofs.YthhaineoflpkkaaDoor
