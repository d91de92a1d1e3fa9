/-
  The document's own calendar, walked: Leap, Days, year.
-/
import Derived.Test.YthhaineoflpkkaaDoorCivil
import Derived.Test.YthhaineoflpkkaaDoorBoxes
import Derived.WalkKit
import Derived.WalkSpells
import Derived.WalkLawsBesides
import Derived.WalkSmall
import Derived.Lib.Hide
import Derived.Lib.OthersKept
import Derived.Deep.QuietTactic
import Derived.BigQuiet
namespace Go.Proofs.YthhaineoflpkkaaDoor
open Go.RowKit

theorem leap_parts (y : Int) (b400 b4 b100 : Bool) (h400 : decide (y % 400 = 0) = b400) (h4 : decide (y % 4 = 0) = b4) (h100 : decide (y % 100 = 0) = b100) : leapB y = (b400 || (b4 && !b100)) := by
  unfold leapB; rw [h400, h4, h100]
set_option maxRecDepth 100000 in
theorem rleap_any (y : Int) (w : World) : Calls Tryd.prog 28 #[.int .i64 y] w fun e w' => e = .returned (.bool (leapB y)) ∧ w = w' := by
  obtain ⟨b400, h400⟩ : ∃ b, decide (y % 400 = 0) = b := ⟨_, rfl⟩
  obtain ⟨b4, h4⟩ : ∃ b, decide (y % 4 = 0) = b := ⟨_, rfl⟩
  obtain ⟨b100, h100⟩ : ∃ b, decide (y % 100 = 0) = b := ⟨_, rfl⟩
  have hL := Lib.hid (leap_parts y b400 b4 b100 h400 h4 h100)
  have t400 : (y.tmod 400 == 0) = b400 := by rw [tmod_zero, h400]
  have t4 : (y.tmod 4 == 0) = b4 := by rw [tmod_zero, h4]
  have t100 : (y.tmod 100 == 0) = b100 := by rw [tmod_zero, h100]
  have u100 : (y.tmod 100 != 0) = !b100 := by rw [bne, t100]
  clear h400 h4 h100
  cases b400 with
  | true =>
    go_enter Tryd.func28, Tryd.ntmps28
    go_wp2
    go_ret
    exact ⟨by rw [hL.out]; rfl, rfl⟩
  | false =>
    cases b4 with
    | true =>
      go_enter Tryd.func28, Tryd.ntmps28
      go_wp2
      go_ret
      exact ⟨by rw [hL.out]; cases b100 <;> rfl, rfl⟩
    | false =>
      go_enter Tryd.func28, Tryd.ntmps28
      go_wp2
      go_ret
      exact ⟨by rw [hL.out]; rfl, rfl⟩

set_option maxRecDepth 100000 in
set_option maxHeartbeats 2000000 in
theorem rdays_any (y m : Int) (w : World) : Calls Tryd.prog 17 #[.int .i64 y, .int .i64 m] w fun e w' => e = .returned (.int .i64 (daysI y m)) ∧ Below w.heap.size w w' := by
  have DD : ∀ o, Below w.heap.size w (w.alloc o) := fun o => (Below.refl _ _).alloc (Nat.le_refl _) o
  replace DD := Lib.hid DD
  by_cases h0 : m < 1
  · have hz := Lib.hid (daysI_out y (Or.inl h0))
    go_enter Tryd.func17, Tryd.ntmps17
    go_wp2
    go_ret
    exact ⟨by rw [hz.out]; rfl, Below.refl _ _⟩
  · by_cases h1 : 12 < m
    · have hz := Lib.hid (daysI_out y (Or.inr h1))
      go_enter Tryd.func17, Tryd.ntmps17
      go_wp2
      go_ret
      exact ⟨by rw [hz.out]; rfl, Below.refl _ _⟩
    · obtain ⟨b, hb⟩ : ∃ b, leapB y = b := ⟨_, rfl⟩
      have hL := Lib.hid (fun w => rleap_any y w)
      rw [hb] at hL
      have hD : Hid (∀ m, daysI y m = if m = 2 ∧ b = true then 29 else monI m) := fun m => by unfold daysI; rw [hb]
      clear hb
      rcases twelve (show 1 ≤ m by omega) (show m ≤ 12 by omega) with rfl | rfl | rfl | rfl | rfl | rfl | rfl | rfl | rfl | rfl | rfl | rfl
      case inr.inl =>
        clear h0 h1
        cases b with
        | true =>
          go_enter Tryd.func17, Tryd.ntmps17
          go_wp2_with (go_at_call 28; (with_reducible refine (hL.out _).mono ?_); rintro e w1 ⟨rfl, rfl⟩)
          go_ret
          exact ⟨by rw [hD.out]; rfl, DD.out _⟩
        | false =>
          go_enter Tryd.func17, Tryd.ntmps17
          go_wp2_with (go_at_call 28; (with_reducible refine (hL.out _).mono ?_); rintro e w1 ⟨rfl, rfl⟩)
          go_ret
          exact ⟨by rw [hD.out]; rfl, DD.out _⟩
      all_goals
        clear h0 h1
        go_enter Tryd.func17, Tryd.ntmps17
        go_wp2
        go_ret
        exact ⟨by rw [hD.out]; rfl, DD.out _⟩

end Go.Proofs.YthhaineoflpkkaaDoor
