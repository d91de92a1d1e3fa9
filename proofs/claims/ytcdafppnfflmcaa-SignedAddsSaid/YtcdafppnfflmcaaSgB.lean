/-
  Package signed, walked: Add, Compare: each by what its number is.
-/
import Derived.Test.YtcdafppnfflmcaaSgA
import Derived.Deep.RegionWith
import Derived.Deep.Cut
import Derived.Deep.CutRange
import Derived.Deep.DeepCutAuto
namespace Go.Proofs.Ytcdafppnfflmcaa
open Go.RowKit

/-- The number that a sign and a size are. -/
def valZ (b : Bool) (A : Nat) : Int := if b then -(A : Int) else A
theorem valZ_up {b : Bool} {A : Nat} (h : downB b A = false) : valZ b A = A := by
  cases b
  · rfl
  · obtain rfl : A = 0 := by simpa [downB] using h
    rfl
theorem valZ_down {b : Bool} {A : Nat} (h : downB b A = true) : valZ b A = -(A : Int) ∧ 0 < A := by
  cases b
  · simp [downB] at h
  · have : ¬ A = 0 := by simpa [downB] using h
    exact ⟨rfl, by omega⟩
/-- The number, if there is room for it; else none. -/
def capZ (z : Int) : Int := if z.natAbs < 340282366920938463463374607431768211456 then z else 0

/-- The two numbers and the place of the result, in a call's own memory. -/
structure Vars2 (w W : World) (p q : Bool) (ah al bh bl : Int) : Prop where
  a : Var3 W w.heap.size (.bool p) (.int .u64 ah) (.int .u64 al)
  b : Var3 W (w.heap.size + 1) (.bool q) (.int .u64 bh) (.int .u64 bl)
  below : Below w.heap.size w W
theorem Vars2.start (w : World) (p q : Bool) (ah al bh bl : Int) :
    Vars2 w ((w.alloc (.cells #[.bool p, .int .u64 ah, .int .u64 al] 58)).alloc (.cells #[.bool q, .int .u64 bh, .int .u64 bl] 58)) p q ah al bh bl :=
  ⟨(Var3.fresh w _ _ _ 58 _ rfl).alloc _, Var3.fresh (w.alloc _) _ _ _ 58 _ (by simp), below_more (below_more (Below.refl _ _) _) _⟩
theorem Vars2.after {w W W1 : World} {p q : Bool} {ah al bh bl : Int} (h : Vars2 w W p q ah al bh bl) (hb : Below W.heap.size W W1) : Vars2 w W1 p q ah al bh bl :=
  ⟨h.a.after hb, h.b.after hb, below_step h.below hb⟩
theorem Vars2.alloc {w W : World} {p q : Bool} {ah al bh bl : Int} (h : Vars2 w W p q ah al bh bl) (o : Obj) : Vars2 w (W.alloc o) p q ah al bh bl :=
  h.after ((Below.refl _ _).alloc (Nat.le_refl _) o)
theorem Vars2.drew {w W : World} {p q : Bool} {ah al bh bl : Int} (h : Vars2 w W p q ah al bh bl) : Vars2 w W.drew p q ah al bh bl := h.after (Below.refl _ _).drew

theorem Vars2.put {w W : World} {p q : Bool} {ah al bh bl : Int} (h : Vars2 w W p q ah al bh bl) (p' q' : Bool) : Vars2 w ((((((W.setCell ⟨w.heap.size, 0, none⟩ (.bool p')).setCell ⟨w.heap.size, 1, none⟩ (.int .u64 ah)).setCell
    ⟨w.heap.size, 2, none⟩ (.int .u64 al)).setCell ⟨w.heap.size + 1, 0, none⟩ (.bool q')).setCell ⟨w.heap.size + 1, 1, none⟩ (.int .u64 bh)).setCell ⟨w.heap.size + 1, 2, none⟩ (.int .u64 bl)) p' q' ah al bh bl := by
  obtain ⟨⟨a0, a1, a2, f0, f1, f2, s0⟩, ⟨b0, b1, b2, g0, g1, g2, s1⟩, hb⟩ := h
  refine ⟨⟨?_, ?_, ?_, ?_, ?_, ?_, ?_⟩, ⟨?_, ?_, ?_, ?_, ?_, ?_, ?_⟩, ?_⟩
  all_goals first | (simp [go_sem, *]; done) | skip
  exact (((((hb.setCell (by simp) _).setCell (by simp) _).setCell (by simp) _).setCell (by simp) _).setCell (by simp) _).setCell (by simp) _
theorem Vars2.put3 {w W : World} {p q r : Bool} {ah al bh bl rh rl : Int} (h : Vars2 w W p q ah al bh bl) (k : Var3 W (w.heap.size + 2) (.bool r) (.int .u64 rh) (.int .u64 rl)) (p' q' : Bool) : Var3 ((((((W.setCell ⟨w.heap.size, 0, none⟩ (.bool p')).setCell ⟨w.heap.size, 1, none⟩ (.int .u64 ah)).setCell
    ⟨w.heap.size, 2, none⟩ (.int .u64 al)).setCell ⟨w.heap.size + 1, 0, none⟩ (.bool q')).setCell ⟨w.heap.size + 1, 1, none⟩ (.int .u64 bh)).setCell ⟨w.heap.size + 1, 2, none⟩ (.int .u64 bl)) (w.heap.size + 2) (.bool r) (.int .u64 rh) (.int .u64 rl) := by
  obtain ⟨⟨a0, a1, a2, f0, f1, f2, s0⟩, ⟨b0, b1, b2, g0, g1, g2, s1⟩, hb⟩ := h
  obtain ⟨r0, r1, r2, k0, k1, k2, s2⟩ := k
  refine ⟨?_, ?_, ?_, ?_, ?_, ?_, ?_⟩ <;> simp [go_sem, *]

theorem z_un {A B : Nat} (hA : W128 A) (hB : W128 B) : capZ (-(A : Int) + B) = (B : Int) - A ∧ capC (-(A : Int) + B).natAbs = 0 := by
  unfold W128 at *; unfold capZ capC; rw [if_pos (by omega), if_pos (by omega)]; omega
theorem z_nu {A B : Nat} (hA : W128 A) (hB : W128 B) : capZ ((A : Int) + -B) = (A : Int) - B ∧ capC ((A : Int) + -B).natAbs = 0 := by
  unfold W128 at *; unfold capZ capC; rw [if_pos (by omega), if_pos (by omega)]; omega
theorem z_up {A B : Nat} {h l : Int} (hS : W128 (A + B)) (w : IsW h l (capN (A + B))) : IsZ false h l (capZ ((A : Int) + B)) ∧ capC ((A : Int) + B).natAbs = 0 := by
  have e : ((A : Int) + B).natAbs = A + B := by omega
  rw [capN_in hS] at w
  unfold capZ; rw [e, if_pos (show A + B < 340282366920938463463374607431768211456 from hS), capC_in hS]
  exact ⟨⟨by simp; omega, by rw [e]; exact w⟩, rfl⟩
theorem z_down {A B : Nat} {h l : Int} (hS : W128 (A + B)) (hp : 0 < A) (w : IsW h l (capN (A + B))) : IsZ true h l (capZ (-(A : Int) + -B)) ∧ capC (-(A : Int) + -B).natAbs = 0 := by
  have e : (-(A : Int) + -B).natAbs = A + B := by omega
  rw [capN_in hS] at w
  unfold capZ; rw [e, if_pos (show A + B < 340282366920938463463374607431768211456 from hS), capC_in hS]
  exact ⟨⟨by simp; omega, by rw [e]; exact w⟩, rfl⟩
theorem z_out {z : Int} {N : Nat} (e : z.natAbs = N) (hS : ¬ W128 N) : capZ z = 0 ∧ capC z.natAbs = 3 := by
  subst e
  exact ⟨by unfold capZ; rw [if_neg (show ¬ z.natAbs < 340282366920938463463374607431768211456 from hS)], capC_out hS⟩
theorem IsW.of_nat {N : Nat} (hN : W128 N) : IsW ((N / 18446744073709551616 : Nat) : Int) ((N % 18446744073709551616 : Nat) : Int) N := by
  unfold W128 at hN; exact ⟨by omega, by omega, by omega, by omega, by omega⟩
theorem IsZ.zero : IsZ false 0 0 0 := ⟨by simp, IsW.zero⟩

set_option maxRecDepth 100000 in
set_option maxHeartbeats 2000000 in
theorem sadd_any (b c : Bool) (ah al bh bl : Int) (A B : Nat) (w : World) (ha : IsW ah al A) (hb : IsW bh bl B) :
    Calls Try.prog 36 #[.agg #[.bool b, .int .u64 ah, .int .u64 al], .agg #[.bool c, .int .u64 bh, .int .u64 bl]] w (GivesZC (capZ (valZ b A + valZ c B)) (capC (valZ b A + valZ c B).natAbs) w) := by
  have HA := Lib.hid ha
  have HB := Lib.hid hb
  obtain ⟨p, hp⟩ : ∃ p, Hid (downB b A = p) := ⟨_, Lib.hid rfl⟩
  obtain ⟨q, hq⟩ : ∃ q, Hid (downB c B = q) := ⟨_, Lib.hid rfl⟩
  obtain ⟨Z, hZe⟩ : ∃ Z, capZ (valZ b A + valZ c B) = Z := ⟨_, rfl⟩
  obtain ⟨C, hCe⟩ : ∃ C, capC (valZ b A + valZ c B).natAbs = C := ⟨_, rfl⟩
  rw [hZe, hCe]
  replace hZe := Lib.hid hZe
  replace hCe := Lib.hid hCe
  have K0 := Lib.hid ((Vars2.start w b c ah al bh bl).alloc (.cells #[.bool false, .int .u64 0, .int .u64 0] 58)).drew
  have R0 := Lib.hid (Var3.fresh ((w.alloc (.cells #[.bool b, .int .u64 ah, .int .u64 al] 58)).alloc (.cells #[.bool c, .int .u64 bh, .int .u64 bl] 58)) (.bool false) (.int .u64 0) (.int .u64 0) 58 (w.heap.size + 2) (by simp)).drew
  go_enter Try.func36, Try.ntmps36
  go_upto_region 1 with fail
  go_cut [8, 9, 10, 11] from 8 to 11 (fun _ _ _ _ wx => Vars2 w wx p q ah al bh bl ∧ Var3 wx (w.heap.size + 2) (.bool false) (.int .u64 0) (.int .u64 0))
  case first =>
    go_region_with (first
      | (go_at_call 57; (with_reducible refine (mended_any b ah al A _ HA.out).mono ?_); rintro e w1 ⟨rfl, g1⟩; rw [hp.out]; have K1 := Lib.hid (K0.out.after g1); have R1 := Lib.hid (R0.out.after g1); obtain ⟨⟨_, _, _, _, _, _, _⟩, ⟨_, _, _, _, _, _, _⟩, _⟩ := K1.out)
      | (go_at_call 57; (with_reducible refine (mended_any c bh bl B _ HB.out).mono ?_); rintro e w2 ⟨rfl, g2⟩; rw [hq.out]; have K2 := Lib.hid (K1.out.after g2); have R2 := Lib.hid (R1.out.after g2); obtain ⟨⟨_, _, _, _, _, _, _⟩, ⟨_, _, _, _, _, _, _⟩, _⟩ := K2.out; obtain ⟨_, _, _, _, _, _, _⟩ := R2.out))
    all_goals (go_wp2_with fail; go_meet)
    all_goals exact ⟨K2.out.put p q, K2.out.put3 R2.out p q⟩
  case rest =>
    obtain ⟨K3, R3⟩ := hcut
    replace K3 := Lib.hid K3
    replace R3 := Lib.hid R3
    obtain ⟨⟨_, _, _, _, _, _, _⟩, ⟨_, _, _, _, _, _, _⟩, D3⟩ := K3.out
    obtain ⟨_, _, _, _, _, _, _⟩ := R3.out
    clear K0 R0
    cases p <;> cases q
    · by_cases hS : W128 (A + B)
      · have h0 : capC (A + B) = 0 := capC_in hS
        obtain rfl : C = 0 := by rw [← hCe.out, valZ_up hp.out, valZ_up hq.out]; exact (z_up hS (by rw [capN_in hS]; exact IsW.of_nat hS)).2
        obtain rfl : Z = capZ ((A : Int) + B) := by rw [← hZe.out, valZ_up hp.out, valZ_up hq.out]
        replace hS := Lib.hid hS
        clear hZe hCe
        go_wp2_with (go_at_call 15; (with_reducible refine (eadd_any ah al bh bl A B _ HA.out HB.out).mono ?_); rintro e w4 ⟨h, l, rfl, hW, g4⟩; rw [h0]; obtain ⟨⟨_, _, _, _, _, _, _⟩, ⟨_, _, _, _, _, _, _⟩, _⟩ := K3.out.after g4; obtain ⟨_, _, _, _, _, _, _⟩ := R3.out.after g4; have D4 := below_step D3 g4)
        refine bodyPost_ret (v := .tuple #[.agg #[.bool false, .int .u64 h, .int .u64 l], .int .i64 0]) (by simp [results, Try.results36, go_sem, *]) rfl ⟨false, h, l, rfl, (z_up hS.out hW).1, ?_⟩
        exact below_more (((D4.setCell (by simp <;> omega) _).setCell (by simp <;> omega) _).setCell (by simp <;> omega) _) _
      · have h0 : capC (A + B) = 3 := capC_out hS
        have hz : capN (A + B) = 0 := capN_out hS
        have hN : (valZ b A + valZ c B).natAbs = A + B := by rw [valZ_up hp.out, valZ_up hq.out]; omega
        obtain rfl : C = 3 := by rw [← hCe.out]; exact (z_out hN hS).2
        obtain rfl : Z = 0 := by rw [← hZe.out]; exact (z_out hN hS).1
        clear hZe hCe hS hN
        go_wp2_with (go_at_call 15; (with_reducible refine (eadd_any ah al bh bl A B _ HA.out HB.out).mono ?_); rintro e w4 ⟨h, l, rfl, hW, g4⟩; rw [h0]; rw [hz] at hW; obtain ⟨rfl, rfl⟩ := hW.nought; clear hW; obtain ⟨⟨_, _, _, _, _, _, _⟩, ⟨_, _, _, _, _, _, _⟩, _⟩ := K3.out.after g4; obtain ⟨_, _, _, _, _, _, _⟩ := R3.out.after g4; have D4 := below_step D3 g4)
        refine bodyPost_ret (v := .tuple #[.agg #[.bool false, .int .u64 0, .int .u64 0], .int .i64 3]) (by simp [results, Try.results36, go_sem, *]) rfl ⟨false, 0, 0, rfl, IsZ.zero, ?_⟩
        exact below_more (((D4.setCell (by simp <;> omega) _).setCell (by simp <;> omega) _).setCell (by simp <;> omega) _) _
    · obtain rfl : C = 0 := by rw [← hCe.out, valZ_up hp.out, (valZ_down hq.out).1]; exact (z_nu HA.out.lt HB.out.lt).2
      obtain rfl : Z = (A : Int) - B := by rw [← hZe.out, valZ_up hp.out, (valZ_down hq.out).1]; exact (z_nu HA.out.lt HB.out.lt).1
      clear hZe hCe
      go_wp2_with (go_at_call 45; (with_reducible refine (between_any ah al bh bl A B _ HA.out HB.out).mono ?_); rintro e w4 ⟨s, h, l, rfl, hZ, g4⟩; obtain ⟨_, _, _, _, _, _, _⟩ := R3.out.after g4; have D4 := below_step D3 g4)
      refine bodyPost_ret (v := .tuple #[.agg #[.bool s, .int .u64 h, .int .u64 l], .int .i64 0]) (by simp [results, Try.results36, go_sem, *]) rfl ⟨s, h, l, rfl, hZ, ?_⟩
      exact ((D4.setCell (by simp <;> omega) _).setCell (by simp <;> omega) _).setCell (by simp <;> omega) _
    · obtain rfl : C = 0 := by rw [← hCe.out, (valZ_down hp.out).1, valZ_up hq.out]; exact (z_un HA.out.lt HB.out.lt).2
      obtain rfl : Z = (B : Int) - A := by rw [← hZe.out, (valZ_down hp.out).1, valZ_up hq.out]; exact (z_un HA.out.lt HB.out.lt).1
      clear hZe hCe
      go_wp2_with (go_at_call 45; (with_reducible refine (between_any bh bl ah al B A _ HB.out HA.out).mono ?_); rintro e w4 ⟨s, h, l, rfl, hZ, g4⟩; obtain ⟨_, _, _, _, _, _, _⟩ := R3.out.after g4; have D4 := below_step D3 g4)
      refine bodyPost_ret (v := .tuple #[.agg #[.bool s, .int .u64 h, .int .u64 l], .int .i64 0]) (by simp [results, Try.results36, go_sem, *]) rfl ⟨s, h, l, rfl, hZ, ?_⟩
      exact ((D4.setCell (by simp <;> omega) _).setCell (by simp <;> omega) _).setCell (by simp <;> omega) _
    · by_cases hS : W128 (A + B)
      · have h0 : capC (A + B) = 0 := capC_in hS
        have hA0 := (valZ_down hp.out).2
        obtain rfl : C = 0 := by rw [← hCe.out, (valZ_down hp.out).1, (valZ_down hq.out).1]; exact (z_down hS hA0 (by rw [capN_in hS]; exact IsW.of_nat hS)).2
        obtain rfl : Z = capZ (-(A : Int) + -B) := by rw [← hZe.out, (valZ_down hp.out).1, (valZ_down hq.out).1]
        replace hS := Lib.hid hS
        replace hA0 := Lib.hid hA0
        clear hZe hCe
        go_wp2_with (go_at_call 15; (with_reducible refine (eadd_any ah al bh bl A B _ HA.out HB.out).mono ?_); rintro e w4 ⟨h, l, rfl, hW, g4⟩; rw [h0]; obtain ⟨⟨_, _, _, _, _, _, _⟩, ⟨_, _, _, _, _, _, _⟩, _⟩ := K3.out.after g4; obtain ⟨_, _, _, _, _, _, _⟩ := R3.out.after g4; have D4 := below_step D3 g4)
        refine bodyPost_ret (v := .tuple #[.agg #[.bool true, .int .u64 h, .int .u64 l], .int .i64 0]) (by simp [results, Try.results36, go_sem, *]) rfl ⟨true, h, l, rfl, (z_down hS.out hA0.out hW).1, ?_⟩
        exact below_more (((D4.setCell (by simp <;> omega) _).setCell (by simp <;> omega) _).setCell (by simp <;> omega) _) _
      · have h0 : capC (A + B) = 3 := capC_out hS
        have hz : capN (A + B) = 0 := capN_out hS
        have hN : (valZ b A + valZ c B).natAbs = A + B := by rw [(valZ_down hp.out).1, (valZ_down hq.out).1]; omega
        obtain rfl : C = 3 := by rw [← hCe.out]; exact (z_out hN hS).2
        obtain rfl : Z = 0 := by rw [← hZe.out]; exact (z_out hN hS).1
        clear hZe hCe hS hN
        go_wp2_with (go_at_call 15; (with_reducible refine (eadd_any ah al bh bl A B _ HA.out HB.out).mono ?_); rintro e w4 ⟨h, l, rfl, hW, g4⟩; rw [h0]; rw [hz] at hW; obtain ⟨rfl, rfl⟩ := hW.nought; clear hW; obtain ⟨⟨_, _, _, _, _, _, _⟩, ⟨_, _, _, _, _, _, _⟩, _⟩ := K3.out.after g4; obtain ⟨_, _, _, _, _, _, _⟩ := R3.out.after g4; have D4 := below_step D3 g4)
        refine bodyPost_ret (v := .tuple #[.agg #[.bool false, .int .u64 0, .int .u64 0], .int .i64 3]) (by simp [results, Try.results36, go_sem, *]) rfl ⟨false, 0, 0, rfl, IsZ.zero, ?_⟩
        exact below_more (((D4.setCell (by simp <;> omega) _).setCell (by simp <;> omega) _).setCell (by simp <;> omega) _) _

/-- Which number is greater: -1, 0, 1. -/
def cmpZ (x y : Int) : Int := if x < y then -1 else if y < x then 1 else 0
theorem cmpZ_up {A B : Nat} : cmpZ (A : Int) B = cmpI A B := by
  unfold cmpZ cmpI; split <;> split <;> (try split) <;> (try split) <;> omega
theorem cmpZ_down {A B : Nat} : cmpZ (-(A : Int)) (-(B : Int)) = cmpI B A := by
  unfold cmpZ cmpI; split <;> split <;> (try split) <;> (try split) <;> omega
theorem cmpZ_lt {x y : Int} (h : x < y) : cmpZ x y = -1 := by simp [cmpZ, h]
theorem cmpZ_gt {x y : Int} (h : y < x) : cmpZ x y = 1 := by unfold cmpZ; rw [if_neg (by omega), if_pos h]
theorem IsW.other {ah al bh bl : Int} {A B : Nat} (ha : IsW ah al A) (hb : IsW bh bl B) (hn : ¬ A = B) (e : ah = bh) : ¬ al = bl := by
  rintro rfl
  obtain ⟨_, _, _, _, e1⟩ := ha
  obtain ⟨_, _, _, _, e2⟩ := hb
  omega

set_option maxRecDepth 100000 in
set_option maxHeartbeats 2000000 in
theorem scompare_any (b c : Bool) (ah al bh bl : Int) (A B : Nat) (w : World) (ha : IsW ah al A) (hb : IsW bh bl B) :
    Calls Try.prog 40 #[.agg #[.bool b, .int .u64 ah, .int .u64 al], .agg #[.bool c, .int .u64 bh, .int .u64 bl]] w fun e w' => e = .returned (.int .i64 (cmpZ (valZ b A) (valZ c B))) ∧ Below w.heap.size w w' := by
  have HA := Lib.hid ha
  have HB := Lib.hid hb
  obtain ⟨p, hp⟩ : ∃ p, Hid (downB b A = p) := ⟨_, Lib.hid rfl⟩
  obtain ⟨q, hq⟩ : ∃ q, Hid (downB c B = q) := ⟨_, Lib.hid rfl⟩
  obtain ⟨Z, hZe⟩ : ∃ Z, cmpZ (valZ b A) (valZ c B) = Z := ⟨_, rfl⟩
  rw [hZe]
  replace hZe := Lib.hid hZe
  have K0 := Lib.hid (Vars2.start w b c ah al bh bl).drew
  go_enter Try.func40, Try.ntmps40
  go_upto_region 1 with fail
  go_cut [5, 6, 7, 8] from 5 to 8 (fun _ _ _ _ wx => Vars2 w wx p q ah al bh bl)
  case first =>
    go_region_with (first
      | (go_at_call 57; (with_reducible refine (mended_any b ah al A _ HA.out).mono ?_); rintro e w1 ⟨rfl, g1⟩; rw [hp.out]; have K1 := Lib.hid (K0.out.after g1); obtain ⟨⟨_, _, _, _, _, _, _⟩, ⟨_, _, _, _, _, _, _⟩, _⟩ := K1.out)
      | (go_at_call 57; (with_reducible refine (mended_any c bh bl B _ HB.out).mono ?_); rintro e w2 ⟨rfl, g2⟩; rw [hq.out]; have K2 := Lib.hid (K1.out.after g2); obtain ⟨⟨_, _, _, _, _, _, _⟩, ⟨_, _, _, _, _, _, _⟩, _⟩ := K2.out))
    all_goals (go_wp2_with fail; go_meet)
    all_goals exact K2.out.put p q
  case rest =>
    replace hcut := Lib.hid hcut
    obtain ⟨⟨_, _, _, _, _, _, _⟩, ⟨_, _, _, _, _, _, _⟩, D3⟩ := hcut.out
    clear K0
    cases p <;> cases q
    · by_cases hN : A = B
      · obtain rfl := hN
        obtain ⟨rfl, rfl⟩ := HA.out.unique HB.out
        obtain rfl : Z = 0 := by rw [← hZe.out, valZ_up hp.out, valZ_up hq.out, cmpZ_up]; exact cmpI_eq rfl
        clear hZe
        go_wp2
        go_ret
        exact ⟨rfl, D3⟩
      · obtain rfl : Z = cmpI A B := by rw [← hZe.out, valZ_up hp.out, valZ_up hq.out, cmpZ_up]
        clear hZe
        have hx := HA.out.other HB.out hN
        by_cases hh : ah = bh
        · replace hx := hx hh
          subst hh
          clear hN
          go_wp2_with (go_at_call 19; (with_reducible refine (ecompare_any _ _ _ _ A B _ HA.out HB.out).mono ?_); rintro e w4 ⟨rfl, g4⟩; have D4 := below_step D3 g4)
          go_ret
          exact ⟨rfl, D4⟩
        · clear hN hx
          go_wp2_with (go_at_call 19; (with_reducible refine (ecompare_any _ _ _ _ A B _ HA.out HB.out).mono ?_); rintro e w4 ⟨rfl, g4⟩; have D4 := below_step D3 g4)
          go_ret
          exact ⟨rfl, D4⟩
    · obtain rfl : Z = 1 := by rw [← hZe.out, valZ_up hp.out, (valZ_down hq.out).1]; have := (valZ_down hq.out).2; exact cmpZ_gt (by omega)
      clear hZe
      go_wp2
      go_ret
      exact ⟨rfl, D3⟩
    · obtain rfl : Z = -1 := by rw [← hZe.out, valZ_up hq.out, (valZ_down hp.out).1]; have := (valZ_down hp.out).2; exact cmpZ_lt (by omega)
      clear hZe
      go_wp2
      go_ret
      exact ⟨rfl, D3⟩
    · by_cases hN : A = B
      · obtain rfl := hN
        obtain ⟨rfl, rfl⟩ := HA.out.unique HB.out
        obtain rfl : Z = 0 := by rw [← hZe.out, (valZ_down hp.out).1, (valZ_down hq.out).1, cmpZ_down]; exact cmpI_eq rfl
        clear hZe
        go_wp2
        go_ret
        exact ⟨rfl, D3⟩
      · obtain rfl : Z = cmpI B A := by rw [← hZe.out, (valZ_down hp.out).1, (valZ_down hq.out).1, cmpZ_down]
        clear hZe
        have hx := HA.out.other HB.out hN
        by_cases hh : ah = bh
        · replace hx := hx hh
          subst hh
          clear hN
          go_wp2_with (go_at_call 19; (with_reducible refine (ecompare_any _ _ _ _ B A _ HB.out HA.out).mono ?_); rintro e w4 ⟨rfl, g4⟩; have D4 := below_step D3 g4)
          go_ret
          exact ⟨rfl, D4⟩
        · clear hN hx
          go_wp2_with (go_at_call 19; (with_reducible refine (ecompare_any _ _ _ _ B A _ HB.out HA.out).mono ?_); rintro e w4 ⟨rfl, g4⟩; have D4 := below_step D3 g4)
          go_ret
          exact ⟨rfl, D4⟩

end Go.Proofs.Ytcdafppnfflmcaa
