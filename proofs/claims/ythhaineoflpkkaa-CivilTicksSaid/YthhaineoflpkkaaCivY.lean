/-
  The statement CivilTicks, walked: over the contracts of package civil's calls.
-/
import Derived.Test.YthhaineoflpkkaaCivX
namespace Go.Proofs.Ythhaineoflpkkaa
open Go.RowKit

theorem rleap_below (y : Int) (w : World) : Calls Try.prog 12 #[.int .i64 y] w fun e w' => e = .returned (.bool (leapB y)) ∧ Below w.heap.size w w' := by
  refine (rleap_any y w).mono ?_
  rintro e w' ⟨rfl, rfl⟩
  exact ⟨rfl, Below.refl _ _⟩
theorem cat_is {t y m d : Int} (h : RightD y m d) (ht : tickI y m d = t / 86400 * 86400) (t0 : 0 ≤ t) (t1 : t ≤ 253402300799) (w : World) (env : Env w) :
    Calls Try.prog 7 #[.int .i64 t] w fun e w' => e = .returned (.tuple #[.agg #[.int .i64 y, .int .i64 m, .int .i64 d], .int .i64 0]) ∧ Below w.heap.size w w' := by
  refine (cat_yes t w env t0 t1).mono ?_
  rintro e w' ⟨y', m', d', rfl, hD', ht', g⟩
  obtain ⟨rfl, rfl, rfl⟩ := cat_same h ht hD' ht'
  exact ⟨rfl, g⟩
theorem tick_mul (y m d : Int) : tickI y m d / 86400 * 86400 = tickI y m d := by unfold tickI; omega

set_option maxRecDepth 100000 in
set_option maxHeartbeats 4000000 in
theorem civticks_right (y m d s : Int) (w : World) (env : Env w) (h : RightD y m d) (s0 : 0 ≤ s) (_s1 : s ≤ 4294967295) :
    Calls Try.prog 4 #[.agg #[.int .i64 y, .int .i64 m, .int .i64 d], .int .u32 s] w fun e w' => e = .returned (.bool true) ∧ Below w.heap.size w w' := by
  obtain ⟨y0, y1, m0, m1, d0, d1⟩ := h.bd
  have H := Lib.hid h
  obtain ⟨lb, hlb⟩ : ∃ lb, leapB y = lb := ⟨_, rfl⟩
  obtain ⟨k, hk⟩ : ∃ k, daysI y m = k := ⟨_, rfl⟩
  obtain ⟨T, hT⟩ : ∃ T, tickI y m d = T := ⟨_, rfl⟩
  obtain ⟨r, hr⟩ : ∃ r, s % 86400 = r := ⟨_, rfl⟩
  obtain ⟨T0, T1⟩ := h.tick_bd
  have hm := tick_mul y m d
  rw [hT] at T0 T1 hm
  have r0 : 0 ≤ r := by omega
  have r1 : r ≤ 86399 := by omega
  have rt : s.tmod 86400 = r := by rw [Int.tmod_eq_emod_of_nonneg s0]; exact hr
  have rw1 : IntKind.u32.wrap r = r := by rw [IntKind.wrap_u32]; omega
  have rw2 : IntKind.i64.wrap r = r := by rw [IntKind.wrap_i64]; omega
  have CL := Lib.hid (fun w env => cleap_any y w env y0 y1)
  have RL := Lib.hid (fun w => rleap_below y w)
  have CD := Lib.hid (fun w env => cdays_any y m w env y0 y1 m0 m1)
  have RD := Lib.hid (fun w => rdays_any y m w)
  have CT := Lib.hid (fun w env => ctick_yes y m d w env h)
  have RT := Lib.hid (fun w => rtick_any y m d w h)
  have CA := Lib.hid (fun w env => cat_is h (t := T + r) (by rw [hT]; omega) (by omega) (by omega) w env)
  rw [hlb] at CL RL
  rw [hk] at CD RD
  rw [hT] at CT RT
  clear hlb hk hT h hr hm
  have M := Lib.hid (Var3.fresh w (.int .i64 y) (.int .i64 m) (.int .i64 d) 24 _ rfl)
  have DD : Below w.heap.size w (w.alloc (.cells #[.int .i64 y, .int .i64 m, .int .i64 d] 24)) := (Below.refl _ _).alloc (Nat.le_refl _) _
  go_enter Try.func4, Try.ntmps4
  go_wp2_with (first
    | (go_at_call 6; (with_reducible refine (civ_awake _ (env.step DD)).mono ?_); rintro e w1 ⟨rfl, g⟩; have M := Lib.hid (M.out.after g); obtain ⟨c0, c1, c2, _, _, _, _⟩ := M.out; have DD := below_step DD g; clear g)
    | (go_at_call 8; (with_reducible refine (CT.out _ (env.step DD)).mono ?_); rintro e w2 ⟨rfl, g⟩; have M := Lib.hid (M.out.after g); have DD := below_step DD g; clear g))
  obtain ⟨c0, c1, c2, _, _, _, _⟩ := M.out
  have f0 := cell_regrown c0
  have f1 := cell_regrown c1
  have f2 := cell_regrown c2
  refine wp_region_quiet_below (by kernel_rfl) (by kernel_rfl) ?_
  repeat (quiet_step (first
    | (go_at_call 11; exact Calls.regrown_of (CL.out _ (env.step (below_step DD (below_regrown _ _ _)))))
    | (go_at_call 12; exact Calls.regrown_of (RL.out _))
    | (go_at_call 13; exact Calls.regrown_of (CD.out _ (env.step (below_step DD (below_regrown _ _ _)))))
    | (go_at_call 14; exact Calls.regrown_of (RD.out _))
    | (go_at_call 10; exact Calls.regrown_of (cright_yes y m d _ (env.step (below_step DD (below_regrown _ _ _))) H.out))
    | (go_at_call 15; exact Calls.regrown_of (rright_yes y m d _ H.out))))
  refine wpQuiet_nil ?_
  intro _ hw'
  obtain ⟨⟨dq, osq⟩, hw''⟩ := hw'
  subst hw''
  have M3 := Lib.hid (M.out.after (below_regrown w2 dq osq))
  have D3 := below_step DD (below_regrown w2 dq osq)
  clear c0 c1 c2 f0 f1 f2 DD M
  generalize Go.Sort.grow (redrawn w2 dq) osq = W3 at M3 D3 ⊢
  obtain ⟨c0, c1, c2, _, _, _, _⟩ := M3.out
  go_wp2_with (first
    | (go_at_call 15; (with_reducible refine (rright_yes y m d _ H.out).mono ?_); rintro e w4 ⟨rfl, g⟩; have M3 := Lib.hid (M3.out.after g); have D3 := below_step D3 g; clear g)
    | (go_at_call 7; (with_reducible refine (CA.out _ (env.step D3)).mono ?_); rintro e w5 ⟨rfl, g⟩; have M3 := Lib.hid ((M3.out.after g).alloc (.cells #[.int .i64 y, .int .i64 m, .int .i64 d] 24)); have M5 := Lib.hid (Var3.fresh w5 (.int .i64 y) (.int .i64 m) (.int .i64 d) 24 _ rfl); have D3 := below_more (below_step D3 g) (.cells #[.int .i64 y, .int .i64 m, .int .i64 d] 24); clear g c0 c1 c2; obtain ⟨c0, c1, c2, _, _, _, _⟩ := M3.out; obtain ⟨b0, b1, b2, _, _, _, _⟩ := M5.out)
    | (go_at_call 16; (with_reducible refine (RT.out _).mono ?_); rintro e w6 ⟨rfl, g⟩; have M3 := Lib.hid (M3.out.after g); have M5 := Lib.hid (M5.out.after g); have D3 := below_step D3 g; clear g c0 c1 c2 b0 b1 b2; obtain ⟨c0, c1, c2, _, _, _, _⟩ := M3.out; obtain ⟨b0, b1, b2, _, _, _, _⟩ := M5.out))
  go_ret
  exact ⟨rfl, D3⟩

set_option maxRecDepth 100000 in
set_option maxHeartbeats 4000000 in
theorem civticks_wrong (y m d s : Int) (w : World) (env : Env w) (bd : DateBd y m d) (h : ¬ RightD y m d) (_s0 : 0 ≤ s) (_s1 : s ≤ 4294967295) :
    Calls Try.prog 4 #[.agg #[.int .i64 y, .int .i64 m, .int .i64 d], .int .u32 s] w fun e w' => e = .returned (.bool true) ∧ Below w.heap.size w w' := by
  have H := Lib.hid h
  have BD := Lib.hid bd
  obtain ⟨y0, y1, m0, m1, d0, d1⟩ := bd
  obtain ⟨lb, hlb⟩ : ∃ lb, leapB y = lb := ⟨_, rfl⟩
  obtain ⟨k, hk⟩ : ∃ k, daysI y m = k := ⟨_, rfl⟩
  have CL := Lib.hid (fun w env => cleap_any y w env y0 y1)
  have RL := Lib.hid (fun w => rleap_below y w)
  have CD := Lib.hid (fun w env => cdays_any y m w env y0 y1 m0 m1)
  have RD := Lib.hid (fun w => rdays_any y m w)
  rw [hlb] at CL RL
  rw [hk] at CD RD
  clear hlb hk h
  have M := Lib.hid (Var3.fresh w (.int .i64 y) (.int .i64 m) (.int .i64 d) 24 _ rfl)
  have DD : Below w.heap.size w (w.alloc (.cells #[.int .i64 y, .int .i64 m, .int .i64 d] 24)) := (Below.refl _ _).alloc (Nat.le_refl _) _
  go_enter Try.func4, Try.ntmps4
  go_wp2_with (first
    | (go_at_call 6; (with_reducible refine (civ_awake _ (env.step DD)).mono ?_); rintro e w1 ⟨rfl, g⟩; have M := Lib.hid (M.out.after g); obtain ⟨c0, c1, c2, _, _, _, _⟩ := M.out; have DD := below_step DD g; clear g)
    | (go_at_call 8; (with_reducible refine (ctick_no y m d _ (env.step DD) BD.out H.out).mono ?_); rintro e w2 ⟨rfl, g⟩; have M := Lib.hid (M.out.after g); have DD := below_step DD g; clear g))
  obtain ⟨c0, c1, c2, _, _, _, _⟩ := M.out
  have f0 := cell_regrown c0
  have f1 := cell_regrown c1
  have f2 := cell_regrown c2
  refine wp_region_quiet_below (by kernel_rfl) (by kernel_rfl) ?_
  repeat (quiet_step (first
    | (go_at_call 11; exact Calls.regrown_of (CL.out _ (env.step (below_step DD (below_regrown _ _ _)))))
    | (go_at_call 12; exact Calls.regrown_of (RL.out _))
    | (go_at_call 13; exact Calls.regrown_of (CD.out _ (env.step (below_step DD (below_regrown _ _ _)))))
    | (go_at_call 14; exact Calls.regrown_of (RD.out _))
    | (go_at_call 10; exact Calls.regrown_of (cright_no y m d _ (env.step (below_step DD (below_regrown _ _ _))) BD.out H.out))
    | (go_at_call 15; exact Calls.regrown_of (rright_no y m d _ H.out))))
  refine wpQuiet_nil ?_
  intro _ hw'
  obtain ⟨⟨dq, osq⟩, hw''⟩ := hw'
  subst hw''
  have M3 := Lib.hid (M.out.after (below_regrown w2 dq osq))
  have D3 := below_step DD (below_regrown w2 dq osq)
  clear c0 c1 c2 f0 f1 f2 DD M
  generalize Go.Sort.grow (redrawn w2 dq) osq = W3 at M3 D3 ⊢
  obtain ⟨c0, c1, c2, _, _, _, _⟩ := M3.out
  go_wp2_with (first
    | (go_at_call 15; (with_reducible refine (rright_no y m d _ H.out).mono ?_); rintro e w4 ⟨rfl, g⟩; have D3 := below_step D3 g; clear g))
  go_ret
  exact ⟨rfl, D3⟩
theorem civticks_walk (y m d s : Int) (w : World) (env : Env w) (bd : DateBd y m d) (s0 : 0 ≤ s) (s1 : s ≤ 4294967295) :
    Calls Try.prog 4 #[.agg #[.int .i64 y, .int .i64 m, .int .i64 d], .int .u32 s] w fun e w' => e = .returned (.bool true) ∧ Below w.heap.size w w' := by
  by_cases h : RightD y m d
  · exact civticks_right y m d s w env h s0 s1
  · exact civticks_wrong y m d s w env bd h s0 s1

end Go.Proofs.Ythhaineoflpkkaa
