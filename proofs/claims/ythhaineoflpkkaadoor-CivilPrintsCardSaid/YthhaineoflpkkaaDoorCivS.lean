/-
  The document's own calendar, walked: Right, Tick, At.
-/
import Derived.Test.YthhaineoflpkkaaDoorCivR
import Derived.Test.YthhaineoflpkkaaDoorVars
import Derived.Lib.QuietBelow
namespace Go.Proofs.YthhaineoflpkkaaDoor
open Go.RowKit

set_option maxRecDepth 100000 in
set_option maxHeartbeats 2000000 in
theorem rright_days (y m d : Int) (b : Bool) (w : World) (y0 : 1970 ≤ y) (y1 : y ≤ 9999) (m0 : 1 ≤ m) (m1 : m ≤ 12) (d0 : 1 ≤ d) (hb : decide (d ≤ daysI y m) = b) :
    Calls Tryd.prog 9 #[.agg #[.int .i64 y, .int .i64 m, .int .i64 d]] w fun e w' => e = .returned (.bool b) ∧ Below w.heap.size w w' := by
  obtain ⟨x, hx⟩ : ∃ x, daysI y m = x := ⟨_, rfl⟩
  have HD := Lib.hid (fun w => rdays_any y m w)
  rw [hx] at HD hb
  clear hx
  have M := Var3.fresh w (.int .i64 y) (.int .i64 m) (.int .i64 d) 23 _ rfl
  have DD : Below w.heap.size w (w.alloc (.cells #[.int .i64 y, .int .i64 m, .int .i64 d] 23)) := (Below.refl _ _).alloc (Nat.le_refl _) _
  go_enter Tryd.func9, Tryd.ntmps9
  go_wp2
  generalize w.alloc (.cells #[.int .i64 y, .int .i64 m, .int .i64 d] 23) = W0 at M DD ⊢
  have f0 := cell_regrown M.c0
  have f1 := cell_regrown M.c1
  have f2 := cell_regrown M.c2
  refine wp_region_quiet_below (by kernel_rfl) (by kernel_rfl) ?_
  repeat (quiet_step (first | (go_at_call 17; exact Calls.regrown_of (HD.out _))))
  refine wpQuiet_nil ?_
  intro _ hw'
  obtain ⟨⟨dq, osq⟩, hw''⟩ := hw'
  subst hw''
  go_wp2
  go_ret
  exact ⟨rfl, below_step DD (below_regrown W0 dq osq)⟩

set_option maxRecDepth 100000 in
set_option maxHeartbeats 2000000 in
theorem rright_a (y m d : Int) (w : World) (h : y < 1970) :
    Calls Tryd.prog 9 #[.agg #[.int .i64 y, .int .i64 m, .int .i64 d]] w fun e w' => e = .returned (.bool false) ∧ Below w.heap.size w w' := by
  have hf : decide (y ≥ 1970) = false := by simpa using h
  have M := Var3.fresh w (.int .i64 y) (.int .i64 m) (.int .i64 d) 23 _ rfl
  have DD : Below w.heap.size w (w.alloc (.cells #[.int .i64 y, .int .i64 m, .int .i64 d] 23)) := (Below.refl _ _).alloc (Nat.le_refl _) _
  clear h
  go_enter Tryd.func9, Tryd.ntmps9
  go_wp2
  generalize w.alloc (.cells #[.int .i64 y, .int .i64 m, .int .i64 d] 23) = W0 at M DD ⊢
  obtain ⟨c0, c1, c2, _, _, _, _⟩ := M
  go_quiet (fail)
  go_wp2
  go_ret
  exact ⟨rfl, below_drewN DD _⟩
set_option maxRecDepth 100000 in
set_option maxHeartbeats 2000000 in
theorem rright_b (y m d : Int) (w : World) (y0 : 1970 ≤ y) (h : 9999 < y) :
    Calls Tryd.prog 9 #[.agg #[.int .i64 y, .int .i64 m, .int .i64 d]] w fun e w' => e = .returned (.bool false) ∧ Below w.heap.size w w' := by
  have hf : decide (y ≤ 9999) = false := by simpa using h
  have M := Var3.fresh w (.int .i64 y) (.int .i64 m) (.int .i64 d) 23 _ rfl
  have DD : Below w.heap.size w (w.alloc (.cells #[.int .i64 y, .int .i64 m, .int .i64 d] 23)) := (Below.refl _ _).alloc (Nat.le_refl _) _
  clear h
  go_enter Tryd.func9, Tryd.ntmps9
  go_wp2
  generalize w.alloc (.cells #[.int .i64 y, .int .i64 m, .int .i64 d] 23) = W0 at M DD ⊢
  obtain ⟨c0, c1, c2, _, _, _, _⟩ := M
  go_quiet (fail)
  go_wp2
  go_ret
  exact ⟨rfl, below_drewN DD _⟩
set_option maxRecDepth 100000 in
set_option maxHeartbeats 2000000 in
theorem rright_c (y m d : Int) (w : World) (y0 : 1970 ≤ y) (y1 : y ≤ 9999) (h : m < 1) :
    Calls Tryd.prog 9 #[.agg #[.int .i64 y, .int .i64 m, .int .i64 d]] w fun e w' => e = .returned (.bool false) ∧ Below w.heap.size w w' := by
  have hf : decide (m ≥ 1) = false := by simpa using h
  have M := Var3.fresh w (.int .i64 y) (.int .i64 m) (.int .i64 d) 23 _ rfl
  have DD : Below w.heap.size w (w.alloc (.cells #[.int .i64 y, .int .i64 m, .int .i64 d] 23)) := (Below.refl _ _).alloc (Nat.le_refl _) _
  clear h
  go_enter Tryd.func9, Tryd.ntmps9
  go_wp2
  generalize w.alloc (.cells #[.int .i64 y, .int .i64 m, .int .i64 d] 23) = W0 at M DD ⊢
  obtain ⟨c0, c1, c2, _, _, _, _⟩ := M
  go_quiet (fail)
  go_wp2
  go_ret
  exact ⟨rfl, below_drewN DD _⟩
set_option maxRecDepth 100000 in
set_option maxHeartbeats 2000000 in
theorem rright_d (y m d : Int) (w : World) (y0 : 1970 ≤ y) (y1 : y ≤ 9999) (m0 : 1 ≤ m) (h : 12 < m) :
    Calls Tryd.prog 9 #[.agg #[.int .i64 y, .int .i64 m, .int .i64 d]] w fun e w' => e = .returned (.bool false) ∧ Below w.heap.size w w' := by
  have hf : decide (m ≤ 12) = false := by simpa using h
  have M := Var3.fresh w (.int .i64 y) (.int .i64 m) (.int .i64 d) 23 _ rfl
  have DD : Below w.heap.size w (w.alloc (.cells #[.int .i64 y, .int .i64 m, .int .i64 d] 23)) := (Below.refl _ _).alloc (Nat.le_refl _) _
  clear h
  go_enter Tryd.func9, Tryd.ntmps9
  go_wp2
  generalize w.alloc (.cells #[.int .i64 y, .int .i64 m, .int .i64 d] 23) = W0 at M DD ⊢
  obtain ⟨c0, c1, c2, _, _, _, _⟩ := M
  go_quiet (fail)
  go_wp2
  go_ret
  exact ⟨rfl, below_drewN DD _⟩
set_option maxRecDepth 100000 in
set_option maxHeartbeats 2000000 in
theorem rright_e (y m d : Int) (w : World) (y0 : 1970 ≤ y) (y1 : y ≤ 9999) (m0 : 1 ≤ m) (m1 : m ≤ 12) (h : d < 1) :
    Calls Tryd.prog 9 #[.agg #[.int .i64 y, .int .i64 m, .int .i64 d]] w fun e w' => e = .returned (.bool false) ∧ Below w.heap.size w w' := by
  have hf : decide (d ≥ 1) = false := by simpa using h
  have M := Var3.fresh w (.int .i64 y) (.int .i64 m) (.int .i64 d) 23 _ rfl
  have DD : Below w.heap.size w (w.alloc (.cells #[.int .i64 y, .int .i64 m, .int .i64 d] 23)) := (Below.refl _ _).alloc (Nat.le_refl _) _
  clear h
  go_enter Tryd.func9, Tryd.ntmps9
  go_wp2
  generalize w.alloc (.cells #[.int .i64 y, .int .i64 m, .int .i64 d] 23) = W0 at M DD ⊢
  obtain ⟨c0, c1, c2, _, _, _, _⟩ := M
  go_quiet (fail)
  go_wp2
  go_ret
  exact ⟨rfl, below_drewN DD _⟩
theorem rright_yes (y m d : Int) (w : World) (h : RightD y m d) :
    Calls Tryd.prog 9 #[.agg #[.int .i64 y, .int .i64 m, .int .i64 d]] w fun e w' => e = .returned (.bool true) ∧ Below w.heap.size w w' :=
  rright_days y m d true w h.y0 h.y1 h.m0 h.m1 h.d0 (by simpa using h.d1)
theorem rright_no (y m d : Int) (w : World) (h : ¬ RightD y m d) :
    Calls Tryd.prog 9 #[.agg #[.int .i64 y, .int .i64 m, .int .i64 d]] w fun e w' => e = .returned (.bool false) ∧ Below w.heap.size w w' := by
  by_cases h1 : y < 1970
  · exact rright_a y m d w h1
  · by_cases h2 : 9999 < y
    · exact rright_b y m d w (by omega) h2
    · by_cases h3 : m < 1
      · exact rright_c y m d w (by omega) (by omega) h3
      · by_cases h4 : 12 < m
        · exact rright_d y m d w (by omega) (by omega) (by omega) h4
        · by_cases h5 : d < 1
          · exact rright_e y m d w (by omega) (by omega) (by omega) (by omega) h5
          · refine rright_days y m d false w (by omega) (by omega) (by omega) (by omega) (by omega) ?_
            by_cases h6 : d ≤ daysI y m
            · exact (h ⟨by omega, by omega, by omega, by omega, by omega, h6⟩).elim
            · simpa using h6

end Go.Proofs.YthhaineoflpkkaaDoor
