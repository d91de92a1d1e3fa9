/-
  ExactRatios is proved: of any two ratios of numbers of 64 bits exact.Ratio tells which one is greater as the cross products say, and the same the other way round; a nought below is told; no condition.
-/
import Derived.Test.YtnonecjjlmlbaaaRows
import Derived.WalkKit
import Derived.ProofKit
import Derived.OpenShut
import Derived.Test.YtnonecjjlmlbaaaAwake
import Derived.Test.YtnonecjjlmlbaaaRefD
namespace Go.Proofs.Ytnonecjjlmlbaaa
open Go.ChangeShapes Go.WideShapes Go.ChangeAt Go.RowKit
set_option linter.unusedVariables false      -- a walk need not use every 'w<i>' (that an integer argument fits its kind)

theorem ratios_own : ownKnob Try.prog.godebug = none := by kernel_rfl

theorem ratios_word (x : Int) (h : (Lit.int .u64 x).wf = true) : 0 ≤ x ∧ x ≤ 18446744073709551615 := by
  have := bounds_u64 h; omega

theorem ratios_walk_zero (a b c d : Int) (w : World) (h : b = 0 ∨ d = 0) :
    Calls Try.prog 5 #[.int .u64 a, .int .u64 b, .int .u64 c, .int .u64 d] w fun e w' => e = .returned (.bool true) ∧ Below w.heap.size w w' := by
  have r1 := fun w => ratio_zero a b c d w h
  have r2 := fun w => ratio_zero c d a b w h.symm
  by_cases hb : b = 0
  · subst hb
    clear h
    go_enter Try.func5, Try.ntmps5
    go_wp2_with (first | (go_at_call 8; refine (awake_any _).mono ?_; rintro e w1 ⟨rfl, hb1⟩) | (go_at_call 24; (with_reducible refine (r1 _).mono ?_); rintro e w2 ⟨rfl, rfl⟩) | (go_at_call 24; (with_reducible refine (r2 _).mono ?_); rintro e w2 ⟨rfl, rfl⟩))
    go_ret
    exact ⟨rfl, hb1⟩
  · obtain rfl : d = 0 := by omega
    have hb' : (b == 0) = false := by simpa using hb
    clear h hb
    go_enter Try.func5, Try.ntmps5
    go_wp2_with (first | (go_at_call 8; refine (awake_any _).mono ?_; rintro e w1 ⟨rfl, hb1⟩) | (go_at_call 24; (with_reducible refine (r1 _).mono ?_); rintro e w2 ⟨rfl, rfl⟩) | (go_at_call 24; (with_reducible refine (r2 _).mono ?_); rintro e w2 ⟨rfl, rfl⟩))
    go_ret
    exact ⟨rfl, hb1⟩

theorem ratios_walk_some (a b c d : Int) (w : World) (ha : 0 ≤ a) (ha' : a ≤ 18446744073709551615) (hb : 0 ≤ b) (hb' : b ≤ 18446744073709551615) (hc : 0 ≤ c) (hc' : c ≤ 18446744073709551615) (hd : 0 ≤ d) (hd' : d ≤ 18446744073709551615)
    (z1 : ¬ b = 0) (z2 : ¬ d = 0) :
    Calls Try.prog 5 #[.int .u64 a, .int .u64 b, .int .u64 c, .int .u64 d] w fun e w' => e = .returned (.bool true) ∧ Below w.heap.size w w' := by
  obtain ⟨n, hn⟩ : ∃ n, n = cmpI (a.toNat * d.toNat) (c.toNat * b.toNat) := ⟨_, rfl⟩
  have hn1 : -1 ≤ n ∧ n ≤ 1 := by rw [hn]; unfold cmpI; split <;> (try split) <;> omega
  obtain ⟨hn1, hn2⟩ := hn1
  have r1 : ∀ w, Calls Try.prog 24 #[.int .u64 a, .int .u64 b, .int .u64 c, .int .u64 d] w fun e w' => e = .returned (.tuple #[.int .i64 n, .int .i64 0]) ∧ Below w.heap.size w w' := fun w => by
    rw [hn]; exact ratio_any a b c d w ha ha' hb hb' hc hc' hd hd' z1 z2
  have r2 : ∀ w, Calls Try.prog 24 #[.int .u64 c, .int .u64 d, .int .u64 a, .int .u64 b] w fun e w' => e = .returned (.tuple #[.int .i64 (-n), .int .i64 0]) ∧ Below w.heap.size w w' := fun w => by
    rw [hn, ← cmpI_neg]; exact ratio_any c d a b w hc hc' hd hd' ha ha' hb hb' z2 z1
  have f1 : (b == 0) = false := by simpa using z1
  have f2 : (d == 0) = false := by simpa using z2
  replace hn := Lib.hid hn
  clear z1 z2
  go_enter Try.func5, Try.ntmps5
  go_wp2_with (first | (go_at_call 8; refine (awake_any _).mono ?_; rintro e w1 ⟨rfl, g1⟩) | (go_at_call 24; (with_reducible refine (r1 _).mono ?_); rintro e w2 ⟨rfl, g2⟩) | (go_at_call 24; (with_reducible refine (r2 _).mono ?_); rintro e w3 ⟨rfl, g3⟩) | (go_at_call 9; (with_reducible refine (bits_small a _ ha ha').mono ?_); rintro e w4 ⟨va, la, rfl, ka, ⟨na, ea⟩, ga⟩; replace ea := Lib.hid ea; replace na := Lib.hid na) | (go_at_call 9; (with_reducible refine (bits_small d _ hd hd').mono ?_); rintro e w5 ⟨vd, ld, rfl, kd, ⟨nd, ed⟩, gd⟩; replace ed := Lib.hid ed; replace nd := Lib.hid nd) | (go_at_call 18; (with_reducible refine (times_any va vd la ld _ (ka.below gd) kd (by have := na.out; omega) (by have := nd.out; omega)).mono ?_); rintro e w6 ⟨vx, lx, rfl, kx, ⟨nx, ex⟩, gx⟩; replace ex := Lib.hid ex; replace nx := Lib.hid nx) | (go_at_call 9; (with_reducible refine (bits_small c _ hc hc').mono ?_); rintro e w7 ⟨vc, lc, rfl, kc, ⟨nc, ec⟩, gc⟩; replace ec := Lib.hid ec; replace nc := Lib.hid nc) | (go_at_call 9; (with_reducible refine (bits_small b _ hb hb').mono ?_); rintro e w8 ⟨vb, lb, rfl, kb, ⟨nb, eb⟩, gb⟩; replace eb := Lib.hid eb; replace nb := Lib.hid nb) | (go_at_call 18; (with_reducible refine (times_any vc vb lc lb _ (kc.below gb) kb (by have := nc.out; omega) (by have := nb.out; omega)).mono ?_); rintro e w9 ⟨vy, ly, rfl, ky, ⟨ny, ey⟩, gy⟩; replace ey := Lib.hid ey; replace ny := Lib.hid ny) | (go_at_call 10; (with_reducible refine (compare_is n vx vy lx ly _ (((kx.below gc).below gb).below gy).orNil ky.orNil (by have := nx.out; have := na.out; have := nd.out; omega) (by have := ny.out; have := nc.out; have := nb.out; omega) (by unfold Hid; rw [ex.out, ey.out, ea.out, ed.out, ec.out, eb.out, hn.out])).mono ?_); rintro e w' ⟨rfl, rfl⟩))
  go_ret
  have t1 := g1.size; have t2 := g2.size; have t3 := g3.size; have ta := ga.size; have td := gd.size; have tx := gx.size; have tc := gc.size; have tb := gb.size
  exact ⟨rfl, (((((((g1.trans (g2.mono (by omega))).trans (g3.mono (by omega))).trans (ga.mono (by omega))).trans (gd.mono (by omega))).trans (gx.mono (by omega))).trans (gc.mono (by omega))).trans (gb.mono (by omega))).trans (gy.mono (by omega))⟩

theorem ratios_walk (a0 : Int) (a1 : Int) (a2 : Int) (a3 : Int) (w0 : (Lit.int .u64 a0).wf = true) (w1 : (Lit.int .u64 a1).wf = true) (w2 : (Lit.int .u64 a2).wf = true) (w3 : (Lit.int .u64 a3).wf = true) (w : World) :
    Calls Try.prog 5 #[.int .u64 a0, .int .u64 a1, .int .u64 a2, .int .u64 a3] w fun e w' => e = .returned (.bool true) ∧ Below w.heap.size w w' := by
  by_cases h : a1 = 0 ∨ a3 = 0
  · exact ratios_walk_zero a0 a1 a2 a3 w h
  · have h1 : ¬ a1 = 0 := fun e => h (Or.inl e)
    have h3 : ¬ a3 = 0 := fun e => h (Or.inr e)
    exact ratios_walk_some a0 a1 a2 a3 w (ratios_word a0 w0).1 (ratios_word a0 w0).2 (ratios_word a1 w1).1 (ratios_word a1 w1).2 (ratios_word a2 w2).1 (ratios_word a2 w2).2 (ratios_word a3 w3).1 (ratios_word a3 w3).2 h1 h3

set_option maxRecDepth 100000 in
theorem ratios_lifted (os : Os) (started : os.Started) (H : Type) (enc : TypeId × Value → H) :
    ReturnsInHanded {} Try.checked os 5 .any (Rows.exactRatiosSpec.pre6 enc Try.prog Try.f5 Rows.exactRatiosRow.domain false) (Rows.exactRatiosSpec.post enc Try.prog Try.f5 false true false false) := by
  refine returnsInHanded_of_change (C := Try.checked) ratios_own started (by kernel_rfl) Try.func5
    (ChangeSpec.witness6 (enc := enc) (C := Try.checked) false ⟨#[], #[.int .u64 0, .int .u64 0, .int .u64 0, .int .u64 0], []⟩ 8 (by kernel_rfl) (by kernel_rfl) (by kernel_rfl) (by kernel_rfl)) ?_
  intro W base args ds gs before hval0 hW hcnd _
  have hval : ∀ (j : Nat) t v, Try.f5.params[j]? = some t → args[j]? = some v → Value.okWide Try.prog W .any base t v := hval0
  have hW' := hW
  obtain ⟨p, q, hA0, hV, rfl, hfz, hnd⟩ := hW
  have hA : DataW.TrodAll enc Try.prog W 0 (fun _ => true) true Try.f5.params.toList args.toList ds p := hA0
  rw [Try.params5] at hA hval
  obtain ⟨v0, vs0, d0, ds0, p0, q0, hargs, rfl, rfl, h0, r0⟩ := trodAll_cons hA
  obtain ⟨v1, vs1, d1, ds1, p1, q1, rfl, rfl, rfl, h1, r1⟩ := trodAll_cons r0
  obtain ⟨v2, vs2, d2, ds2, p2, q2, rfl, rfl, rfl, h2, r2⟩ := trodAll_cons r1
  obtain ⟨v3, vs3, d3, ds3, p3, q3, rfl, rfl, rfl, h3, r3⟩ := trodAll_cons r2
  obtain ⟨rfl, rfl, rfl⟩ := trodAll_nil r3
  obtain rfl : args = #[v0, v1, v2, v3] := by cases args; simp_all
  obtain ⟨rfl, rfl⟩ := trodVars_none hV
  obtain ⟨a0, rfl, rfl, rfl, w0⟩ := open_int Try.underlying22 (hval 0 22 v0 rfl rfl) h0
  obtain ⟨a1, rfl, rfl, rfl, w1⟩ := open_int Try.underlying22 (hval 1 22 v1 rfl rfl) h1
  obtain ⟨a2, rfl, rfl, rfl, w2⟩ := open_int Try.underlying22 (hval 2 22 v2 rfl rfl) h2
  obtain ⟨a3, rfl, rfl, rfl, w3⟩ := open_int Try.underlying22 (hval 3 22 v3 rfl rfl) h3
  clear hA0 hval0
  simp only [List.append_nil] at hW'
  refine (ratios_walk a0 a1 a2 a3 w0 w1 w2 w3 W).mono fun e W' ⟨he, hg⟩ => ?_
  subst he
  exact ⟨_, rfl, _, _, _, [], [], [], hW', trodAll_mk1 (shut_bool Try.underlying4 _), (trodAll_cons_mk (shut_int Try.underlying22 w0) (trodAll_cons_mk (shut_int Try.underlying22 w1) (trodAll_cons_mk (shut_int Try.underlying22 w2) (trodAll_cons_mk (shut_int Try.underlying22 w3) trodAll_mk0)))), rfl, hg.frame _, fun h => by cases h⟩

theorem ratios_over : Rows.exactRatiosRow.holds Try.pinned (OpenSpec.ofChange Rows.exactRatiosSpec) :=
  OpenClaim.holds_of_wide 5 Try.f5 rfl rfl rfl rfl rfl rfl rfl ⟨rfl, rfl, rfl, rfl, rfl⟩ rfl rfl rfl rfl rfl (by kernel_rfl) Try.func5 (by kernel_rfl)
    (of_decide_eq_true (by kernel_rfl)) (by unfold Func.isWrapper; first | (rw [if_pos (by decide +kernel)]; kernel_rfl) | (rw [if_neg (by decide +kernel)]; exact ⟨rfl, rfl⟩))
    (fun os started H enc _ => ratios_lifted os started H enc)

/-- The statement. -/
theorem exact_ratios_proved : Rows.ExactRatiosSaid :=
  ratios_over
end Go.Proofs.Ytnonecjjlmlbaaa
