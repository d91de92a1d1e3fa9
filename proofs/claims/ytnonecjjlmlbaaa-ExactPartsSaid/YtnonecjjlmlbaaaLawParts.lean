/-
  ExactParts is proved: of any number of 128 bits and any divisor of 64 bits exact's Floor and Ceil answer what bit by bit they are, and the quotient times the divisor, and what is left, are the number; no condition.
-/
import Derived.Test.YtnonecjjlmlbaaaRows
import Derived.Test.YtnonecjjlmlbaaaBoxes
import Derived.Test.YtnonecjjlmlbaaaAwake
import Derived.Test.YtnonecjjlmlbaaaExactD
import Derived.Test.YtnonecjjlmlbaaaRefF
import Derived.Test.YtnonecjjlmlbaaaOf
import Derived.ProofKit
import Derived.OpenShut
import Derived.Below
import Derived.Lib.SmallJoins
namespace Go.Proofs.Ytnonecjjlmlbaaa
open Go.ChangeShapes Go.WideShapes Go.ChangeAt Go.RowKit Go.Joins

theorem parts_fits {A B : Nat} (hA : W128 A) (h : B ≤ A) : W128 B := Nat.lt_of_le_of_lt h hA

set_option maxRecDepth 100000 in
set_option maxHeartbeats 4000000 in
theorem parts_whole (ah al n : Int) (A : Nat) (w : World) (hA : IsW ah al A) (hn : 1 ≤ n) (hn' : n ≤ 18446744073709551615) (hr : A % n.toNat = 0) :
    Calls Try.prog 4 #[.agg #[.int .u64 ah, .int .u64 al], .int .u64 n] w fun e w' => e = .returned (.bool true) ∧ Below w.heap.size w w' := by
  have HA := Lib.hid hA
  have hN : 0 < n.toNat := by omega
  obtain ⟨y, hy⟩ : ∃ y : Int, y = ((A % n.toNat : Nat) : Int) := ⟨_, rfl⟩
  have hm := Nat.mod_lt A hN
  have y0 : 0 ≤ y := by omega
  have y1 : y < n := by omega
  have hx0y : Hid (y.toNat = A % n.toNat) := by unfold Hid; omega
  have HY : Hid (IsW 0 y (A % n.toNat)) := by have := IsW.small y0 (by omega : y ≤ 18446744073709551615); rw [hx0y.out] at this; exact this
  have HR : Hid (W128 (A % n.toNat)) := parts_fits hA.lt (Nat.mod_le _ _)
  have HQ : Hid (W128 (A / n.toNat)) := parts_fits hA.lt (Nat.div_le_self _ _)
  have HM : Hid (W128 (A / n.toNat * n.toNat)) := parts_fits hA.lt (Nat.div_mul_le_self _ _)
  have HS : Hid (A / n.toNat * n.toNat + A % n.toNat = A) := by have := Nat.mod_add_div A n.toNat; have e := Nat.mul_comm n.toNat (A / n.toNat); unfold Hid; omega
  have HC : Hid (ceilN A n.toNat = A / n.toNat) := by unfold Hid; rw [ceilN, if_neg (by omega), if_pos hr, Nat.add_zero]
  have HF : Hid (W128 (A / n.toNat)) := HQ.out
  have hyz : y = 0 := by omega
  subst hyz
  have hn0 : 0 ≤ n := by omega
  have hne : (n == 0) = false := by simp; omega
  obtain ⟨a0, a1, a2, a3, _⟩ := hA
  have hc1 : capC (A / n.toNat * n.toNat) = 0 := capC_in HM.out
  have hc2 : capC (A / n.toNat * n.toNat + A % n.toNat) = 0 := by rw [HS.out]; exact capC_in HA.out.lt
  clear hy hm hN hr
  go_enter Try.func4, Try.ntmps4
  go_wp2_with (first
    | (go_at_call 8; (with_reducible refine (awake_any _).mono ?_); rintro e w1 ⟨rfl, g1⟩; have Ka1 := Lib.hid ((Box.fresh w ah al _ rfl).after g1); obtain ⟨_, _, _⟩ := Ka1.out; have DD1 := below_step (below_more (Below.refl _ _) _) g1)
    | (go_at_call 20; (with_reducible refine (floor_any ah al n A _ HA.out hn hn').mono ?_); rintro e w2 ⟨qh, ql, x, rfl, hW2, hx0, hx, g2⟩; have Ka2 := Lib.hid (Ka1.out.after g2); obtain ⟨_, _, _⟩ := Ka2.out; have DD2 := below_step DD1 g2; obtain rfl : x = 0 := (by have := hx0y.out; omega); clear hx)
    | (go_at_call 21; (with_reducible refine (ceil_any ah al n A _ HA.out hn hn').mono ?_); rintro e w3 ⟨ch, cl, rfl, hW3, g3⟩; have Ka3 := Lib.hid (((Ka2.out).alloc _).after g3); obtain ⟨_, _, _⟩ := Ka3.out; have Kq3 := Lib.hid ((Box.fresh w2 qh ql _ rfl).after g3); obtain ⟨_, _, _⟩ := Kq3.out; have DD3 := below_step (below_more DD2 _) g3)
    | (go_at_call 9; (with_reducible refine (bits_any ah al _ a0 a1 a2 a3).mono ?_); rintro e w4 ⟨va, la, rfl, ka, ⟨na, ea⟩, g4⟩; have Ka4 := Lib.hid (((Ka3.out).alloc _).after g4); obtain ⟨_, _, _⟩ := Ka4.out; have Kq4 := Lib.hid (((Kq3.out).alloc _).after g4); obtain ⟨_, _, _⟩ := Kq4.out; have Kc4 := Lib.hid ((Box.fresh w3 ch cl _ rfl).after g4); obtain ⟨_, _, _⟩ := Kc4.out; have DD4 := below_step (below_more DD3 _) g4; replace ea := Lib.hid (ea.trans HA.out.num); replace na := Lib.hid na; replace ka := Lib.hid ka)
    | (go_at_call 9; (with_reducible refine (bits_small n _ hn0 hn').mono ?_); rintro e w5 ⟨vn, ln, rfl, kn, ⟨nn, en⟩, g5⟩; have Ka5 := Lib.hid (Ka4.out.after g5); obtain ⟨_, _, _⟩ := Ka5.out; have Kq5 := Lib.hid (Kq4.out.after g5); obtain ⟨_, _, _⟩ := Kq5.out; have Kc5 := Lib.hid (Kc4.out.after g5); obtain ⟨_, _, _⟩ := Kc5.out; have La5 := Lib.hid (ka.out.below g5); have DD5 := below_step DD4 g5; replace en := Lib.hid en; replace nn := Lib.hid nn; replace kn := Lib.hid kn)
    | (go_at_call 22; (with_reducible refine (divide_any va vn la ln _ La5.out kn.out (by have := na.out; omega) (by have := nn.out; omega) (by rw [en.out]; omega)).mono ?_); rintro e w6 ⟨vq, vl, lq, ll, rfl, kq, kl, nq, nl, eq, el, g6⟩; have Ka6 := Lib.hid (Ka5.out.after g6); obtain ⟨_, _, _⟩ := Ka6.out; have Kq6 := Lib.hid (Kq5.out.after g6); obtain ⟨_, _, _⟩ := Kq6.out; have Kc6 := Lib.hid (Kc5.out.after g6); obtain ⟨_, _, _⟩ := Kc6.out; have La6 := Lib.hid (La5.out.below g6); have Ln6 := Lib.hid (kn.out.below g6); have DD6 := below_step DD5 g6; replace eq := Lib.hid (eq.trans (by rw [ea.out, en.out])); replace el := Lib.hid (el.trans (by rw [ea.out, en.out])); replace nq := Lib.hid nq; replace nl := Lib.hid nl; replace kq := Lib.hid kq; replace kl := Lib.hid kl)
    | (go_at_call 23; (with_reducible refine (of_any vl ll _ kl.out (by have := nl.out; have := na.out; omega)).mono ?_); rintro e w7 ⟨p, r, ok, rfl, hW7, hok, g7⟩; have Ka7 := Lib.hid (Ka6.out.after g7); obtain ⟨_, _, _⟩ := Ka7.out; have Kq7 := Lib.hid (Kq6.out.after g7); obtain ⟨_, _, _⟩ := Kq7.out; have Kc7 := Lib.hid (Kc6.out.after g7); obtain ⟨_, _, _⟩ := Kc7.out; have Lq7 := Lib.hid (kq.out.below g7); have Ll7 := Lib.hid (kl.out.below g7); have DD7 := below_step DD6 g7; obtain rfl := hok.mpr (by rw [el.out]; exact HR.out); rw [el.out, capN_in HR.out] at hW7; obtain ⟨rfl, rfl⟩ := hW7.unique HY.out; clear hok hW7)
    | (go_at_call 16; (with_reducible refine (is_true qh ql 0 _ vq lq _ hW2 ((Lq7.out).alloc _) (by have := nq.out; have := na.out; omega) (by rw [eq.out, capN_in HQ.out]) (by rw [eq.out, capC_in HQ.out])).mono ?_); rintro e w8 ⟨rfl, g8⟩; have Ka8 := Lib.hid (((Ka7.out).alloc _).after g8); obtain ⟨_, _, _⟩ := Ka8.out; have Kq8 := Lib.hid (((Kq7.out).alloc _).after g8); obtain ⟨_, _, _⟩ := Kq8.out; have Kc8 := Lib.hid (((Kc7.out).alloc _).after g8); obtain ⟨_, _, _⟩ := Kc8.out; have Kz8 := Lib.hid ((Box.fresh w7 0 0 _ rfl).after g8); obtain ⟨_, _, _⟩ := Kz8.out; have Lq8 := Lib.hid (((Lq7.out).alloc _).below g8); have DD8 := below_step (below_more DD7 _) g8)
    | (go_at_call 13; (with_reducible refine (more_any qh ql n _ _ hW2 hn0 hn').mono ?_); rintro e w10 ⟨mh, ml, rfl, hW10, g10⟩; have Ka9 := Lib.hid (Ka8.out.after g10); obtain ⟨_, _, _⟩ := Ka9.out; have Kq9 := Lib.hid (Kq8.out.after g10); obtain ⟨_, _, _⟩ := Kq9.out; have Kc9 := Lib.hid (Kc8.out.after g10); obtain ⟨_, _, _⟩ := Kc9.out; have Kz9 := Lib.hid (Kz8.out.after g10); obtain ⟨_, _, _⟩ := Kz9.out; have Lq9 := Lib.hid (Lq8.out.below g10); have DD9 := below_step DD8 g10; rw [capN_in HM.out] at hW10)
    | (go_at_call 11; (with_reducible refine (eadd_any mh ml 0 0 _ _ _ hW10 HY.out).mono ?_); rintro e w11 ⟨sh, sl, rfl, hW11, g11⟩; have Ka10 := Lib.hid (((Ka9.out).alloc _).after g11); obtain ⟨_, _, _⟩ := Ka10.out; have Kq10 := Lib.hid (((Kq9.out).alloc _).after g11); obtain ⟨_, _, _⟩ := Kq10.out; have Kc10 := Lib.hid (((Kc9.out).alloc _).after g11); obtain ⟨_, _, _⟩ := Kc10.out; have Kz10 := Lib.hid (((Kz9.out).alloc _).after g11); obtain ⟨_, _, _⟩ := Kz10.out; have Km10 := Lib.hid ((Box.fresh w10 mh ml _ rfl).after g11); obtain ⟨_, _, _⟩ := Km10.out; have Lq10 := Lib.hid (((Lq9.out).alloc _).below g11); have DD10 := below_step (below_more DD9 _) g11; rw [HS.out, capN_in HA.out.lt] at hW11; obtain ⟨rfl, rfl⟩ := hW11.unique HA.out; clear hW11)
    | (go_at_call 16; (with_reducible refine (is_true ch cl 0 _ vq lq _ hW3 ((Lq10.out).alloc _) (by have := nq.out; have := na.out; omega) (by rw [eq.out, HC.out, capN_in HF.out]) (by rw [eq.out, capC_in HF.out])).mono ?_); rintro e w12 ⟨rfl, g12⟩; have Ka11 := Lib.hid (((Ka10.out).alloc _).after g12); obtain ⟨_, _, _⟩ := Ka11.out; have Kq11 := Lib.hid (((Kq10.out).alloc _).after g12); obtain ⟨_, _, _⟩ := Kq11.out; have Kc11 := Lib.hid (((Kc10.out).alloc _).after g12); obtain ⟨_, _, _⟩ := Kc11.out; have Kz11 := Lib.hid (((Kz10.out).alloc _).after g12); obtain ⟨_, _, _⟩ := Kz11.out; have Km11 := Lib.hid (((Km10.out).alloc _).after g12); obtain ⟨_, _, _⟩ := Km11.out; have Ks11 := Lib.hid ((Box.fresh w11 sh sl _ rfl).after g12); obtain ⟨_, _, _⟩ := Ks11.out; have Lq11 := Lib.hid (((Lq10.out).alloc _).below g12); have DD11 := below_step (below_more DD10 _) g12))
  go_ret
  exact ⟨rfl, DD11⟩

set_option maxRecDepth 100000 in
set_option maxHeartbeats 4000000 in
theorem parts_left (ah al n : Int) (A : Nat) (w : World) (hA : IsW ah al A) (hn : 1 ≤ n) (hn' : n ≤ 18446744073709551615) (hr : ¬ A % n.toNat = 0) :
    Calls Try.prog 4 #[.agg #[.int .u64 ah, .int .u64 al], .int .u64 n] w fun e w' => e = .returned (.bool true) ∧ Below w.heap.size w w' := by
  have HA := Lib.hid hA
  have hN : 0 < n.toNat := by omega
  obtain ⟨y, hy⟩ : ∃ y : Int, y = ((A % n.toNat : Nat) : Int) := ⟨_, rfl⟩
  have hm := Nat.mod_lt A hN
  have y0 : 0 ≤ y := by omega
  have y1 : y < n := by omega
  have hx0y : Hid (y.toNat = A % n.toNat) := by unfold Hid; omega
  have HY : Hid (IsW 0 y (A % n.toNat)) := by have := IsW.small y0 (by omega : y ≤ 18446744073709551615); rw [hx0y.out] at this; exact this
  have HR : Hid (W128 (A % n.toNat)) := parts_fits hA.lt (Nat.mod_le _ _)
  have HQ : Hid (W128 (A / n.toNat)) := parts_fits hA.lt (Nat.div_le_self _ _)
  have HM : Hid (W128 (A / n.toNat * n.toNat)) := parts_fits hA.lt (Nat.div_mul_le_self _ _)
  have HS : Hid (A / n.toNat * n.toNat + A % n.toNat = A) := by have := Nat.mod_add_div A n.toNat; have e := Nat.mul_comm n.toNat (A / n.toNat); unfold Hid; omega
  have HC : Hid (ceilN A n.toNat = A / n.toNat + 1) := by unfold Hid; rw [ceilN, if_neg (by omega), if_neg hr]
  have HF : Hid (W128 (A / n.toNat + 1)) := ceil_fits hA.lt hN (by omega)
  have hyz : 0 < y := by omega
  clear hr
  have hn0 : 0 ≤ n := by omega
  have hne : (n == 0) = false := by simp; omega
  obtain ⟨a0, a1, a2, a3, _⟩ := hA
  have hc1 : capC (A / n.toNat * n.toNat) = 0 := capC_in HM.out
  have hc2 : capC (A / n.toNat * n.toNat + A % n.toNat) = 0 := by rw [HS.out]; exact capC_in HA.out.lt
  clear hy hm hN
  go_enter Try.func4, Try.ntmps4
  go_wp2_with (first
    | (go_at_call 8; (with_reducible refine (awake_any _).mono ?_); rintro e w1 ⟨rfl, g1⟩; have Ka1 := Lib.hid ((Box.fresh w ah al _ rfl).after g1); obtain ⟨_, _, _⟩ := Ka1.out; have DD1 := below_step (below_more (Below.refl _ _) _) g1)
    | (go_at_call 20; (with_reducible refine (floor_any ah al n A _ HA.out hn hn').mono ?_); rintro e w2 ⟨qh, ql, x, rfl, hW2, hx0, hx, g2⟩; have Ka2 := Lib.hid (Ka1.out.after g2); obtain ⟨_, _, _⟩ := Ka2.out; have DD2 := below_step DD1 g2; obtain rfl : y = x := (by rw [← hx0y.out] at hx; omega); clear hx)
    | (go_at_call 21; (with_reducible refine (ceil_any ah al n A _ HA.out hn hn').mono ?_); rintro e w3 ⟨ch, cl, rfl, hW3, g3⟩; have Ka3 := Lib.hid (((Ka2.out).alloc _).after g3); obtain ⟨_, _, _⟩ := Ka3.out; have Kq3 := Lib.hid ((Box.fresh w2 qh ql _ rfl).after g3); obtain ⟨_, _, _⟩ := Kq3.out; have DD3 := below_step (below_more DD2 _) g3)
    | (go_at_call 9; (with_reducible refine (bits_any ah al _ a0 a1 a2 a3).mono ?_); rintro e w4 ⟨va, la, rfl, ka, ⟨na, ea⟩, g4⟩; have Ka4 := Lib.hid (((Ka3.out).alloc _).after g4); obtain ⟨_, _, _⟩ := Ka4.out; have Kq4 := Lib.hid (((Kq3.out).alloc _).after g4); obtain ⟨_, _, _⟩ := Kq4.out; have Kc4 := Lib.hid ((Box.fresh w3 ch cl _ rfl).after g4); obtain ⟨_, _, _⟩ := Kc4.out; have DD4 := below_step (below_more DD3 _) g4; replace ea := Lib.hid (ea.trans HA.out.num); replace na := Lib.hid na; replace ka := Lib.hid ka)
    | (go_at_call 9; (with_reducible refine (bits_small n _ hn0 hn').mono ?_); rintro e w5 ⟨vn, ln, rfl, kn, ⟨nn, en⟩, g5⟩; have Ka5 := Lib.hid (Ka4.out.after g5); obtain ⟨_, _, _⟩ := Ka5.out; have Kq5 := Lib.hid (Kq4.out.after g5); obtain ⟨_, _, _⟩ := Kq5.out; have Kc5 := Lib.hid (Kc4.out.after g5); obtain ⟨_, _, _⟩ := Kc5.out; have La5 := Lib.hid (ka.out.below g5); have DD5 := below_step DD4 g5; replace en := Lib.hid en; replace nn := Lib.hid nn; replace kn := Lib.hid kn)
    | (go_at_call 22; (with_reducible refine (divide_any va vn la ln _ La5.out kn.out (by have := na.out; omega) (by have := nn.out; omega) (by rw [en.out]; omega)).mono ?_); rintro e w6 ⟨vq, vl, lq, ll, rfl, kq, kl, nq, nl, eq, el, g6⟩; have Ka6 := Lib.hid (Ka5.out.after g6); obtain ⟨_, _, _⟩ := Ka6.out; have Kq6 := Lib.hid (Kq5.out.after g6); obtain ⟨_, _, _⟩ := Kq6.out; have Kc6 := Lib.hid (Kc5.out.after g6); obtain ⟨_, _, _⟩ := Kc6.out; have La6 := Lib.hid (La5.out.below g6); have Ln6 := Lib.hid (kn.out.below g6); have DD6 := below_step DD5 g6; replace eq := Lib.hid (eq.trans (by rw [ea.out, en.out])); replace el := Lib.hid (el.trans (by rw [ea.out, en.out])); replace nq := Lib.hid nq; replace nl := Lib.hid nl; replace kq := Lib.hid kq; replace kl := Lib.hid kl)
    | (go_at_call 23; (with_reducible refine (of_any vl ll _ kl.out (by have := nl.out; have := na.out; omega)).mono ?_); rintro e w7 ⟨p, r, ok, rfl, hW7, hok, g7⟩; have Ka7 := Lib.hid (Ka6.out.after g7); obtain ⟨_, _, _⟩ := Ka7.out; have Kq7 := Lib.hid (Kq6.out.after g7); obtain ⟨_, _, _⟩ := Kq7.out; have Kc7 := Lib.hid (Kc6.out.after g7); obtain ⟨_, _, _⟩ := Kc7.out; have Lq7 := Lib.hid (kq.out.below g7); have Ll7 := Lib.hid (kl.out.below g7); have DD7 := below_step DD6 g7; obtain rfl := hok.mpr (by rw [el.out]; exact HR.out); rw [el.out, capN_in HR.out] at hW7; obtain ⟨rfl, rfl⟩ := hW7.unique HY.out; clear hok hW7)
    | (go_at_call 16; (with_reducible refine (is_true qh ql 0 _ vq lq _ hW2 ((Lq7.out).alloc _) (by have := nq.out; have := na.out; omega) (by rw [eq.out, capN_in HQ.out]) (by rw [eq.out, capC_in HQ.out])).mono ?_); rintro e w8 ⟨rfl, g8⟩; have Ka8 := Lib.hid (((Ka7.out).alloc _).after g8); obtain ⟨_, _, _⟩ := Ka8.out; have Kq8 := Lib.hid (((Kq7.out).alloc _).after g8); obtain ⟨_, _, _⟩ := Kq8.out; have Kc8 := Lib.hid (((Kc7.out).alloc _).after g8); obtain ⟨_, _, _⟩ := Kc8.out; have Kz8 := Lib.hid ((Box.fresh w7 0 r _ rfl).after g8); obtain ⟨_, _, _⟩ := Kz8.out; have Lq8 := Lib.hid (((Lq7.out).alloc _).below g8); have DD8 := below_step (below_more DD7 _) g8)
    | (go_at_call 17; (refine (plus_any vq _ lq [true] _ ((Lq8.out).alloc _).orNil (OwnBits.one w8 0 _ true rfl (Nat.zero_le _)).bools.orNil (by have := nq.out; have := na.out; omega) (by decide)).mono ?_); rintro e w9 ⟨vu, lu, rfl, ku, ⟨nu, eu⟩, g9⟩; have Ka9 := Lib.hid (((Ka8.out).alloc _).after g9); obtain ⟨_, _, _⟩ := Ka9.out; have Kq9 := Lib.hid (((Kq8.out).alloc _).after g9); obtain ⟨_, _, _⟩ := Kq9.out; have Kc9 := Lib.hid (((Kc8.out).alloc _).after g9); obtain ⟨_, _, _⟩ := Kc9.out; have Kz9 := Lib.hid (((Kz8.out).alloc _).after g9); obtain ⟨_, _, _⟩ := Kz9.out; have Lq9 := Lib.hid (((Lq8.out).alloc _).below g9); have DD9 := below_step (below_more DD8 _) g9; replace eu : Hid (val lu = A / n.toNat + 1) := Lib.hid (eu.trans (by rw [eq.out]; rfl)); replace nu : Hid (lu.length ≤ 1000000) := (by have := nq.out; have := na.out; have e : [true].length = 1 := rfl; rw [e] at nu; unfold Hid; omega); replace ku := Lib.hid ku)
    | (go_at_call 13; (with_reducible refine (more_any qh ql n _ _ hW2 hn0 hn').mono ?_); rintro e w10 ⟨mh, ml, rfl, hW10, g10⟩; have Ka10 := Lib.hid (Ka9.out.after g10); obtain ⟨_, _, _⟩ := Ka10.out; have Kq10 := Lib.hid (Kq9.out.after g10); obtain ⟨_, _, _⟩ := Kq10.out; have Kc10 := Lib.hid (Kc9.out.after g10); obtain ⟨_, _, _⟩ := Kc10.out; have Kz10 := Lib.hid (Kz9.out.after g10); obtain ⟨_, _, _⟩ := Kz10.out; have Lu10 := Lib.hid (ku.out.below g10); have DD10 := below_step DD9 g10; rw [capN_in HM.out] at hW10)
    | (go_at_call 11; (with_reducible refine (eadd_any mh ml 0 r _ _ _ hW10 HY.out).mono ?_); rintro e w11 ⟨sh, sl, rfl, hW11, g11⟩; have Ka11 := Lib.hid (((Ka10.out).alloc _).after g11); obtain ⟨_, _, _⟩ := Ka11.out; have Kq11 := Lib.hid (((Kq10.out).alloc _).after g11); obtain ⟨_, _, _⟩ := Kq11.out; have Kc11 := Lib.hid (((Kc10.out).alloc _).after g11); obtain ⟨_, _, _⟩ := Kc11.out; have Kz11 := Lib.hid (((Kz10.out).alloc _).after g11); obtain ⟨_, _, _⟩ := Kz11.out; have Km11 := Lib.hid ((Box.fresh w10 mh ml _ rfl).after g11); obtain ⟨_, _, _⟩ := Km11.out; have Lu11 := Lib.hid (((Lu10.out).alloc _).below g11); have DD11 := below_step (below_more DD10 _) g11; rw [HS.out, capN_in HA.out.lt] at hW11; obtain ⟨rfl, rfl⟩ := hW11.unique HA.out; clear hW11)
    | (go_at_call 16; (with_reducible refine (is_true ch cl 0 _ vu lu _ hW3 ((Lu11.out).alloc _) (by have := nu.out; have := nq.out; have := na.out; omega) (by rw [eu.out, HC.out, capN_in HF.out]) (by rw [eu.out, capC_in HF.out])).mono ?_); rintro e w12 ⟨rfl, g12⟩; have Ka12 := Lib.hid (((Ka11.out).alloc _).after g12); obtain ⟨_, _, _⟩ := Ka12.out; have Kq12 := Lib.hid (((Kq11.out).alloc _).after g12); obtain ⟨_, _, _⟩ := Kq12.out; have Kc12 := Lib.hid (((Kc11.out).alloc _).after g12); obtain ⟨_, _, _⟩ := Kc12.out; have Kz12 := Lib.hid (((Kz11.out).alloc _).after g12); obtain ⟨_, _, _⟩ := Kz12.out; have Km12 := Lib.hid (((Km11.out).alloc _).after g12); obtain ⟨_, _, _⟩ := Km12.out; have Ks12 := Lib.hid ((Box.fresh w11 sh sl _ rfl).after g12); obtain ⟨_, _, _⟩ := Ks12.out; have Lu12 := Lib.hid (((Lu11.out).alloc _).below g12); have DD12 := below_step (below_more DD11 _) g12))
  go_ret
  exact ⟨rfl, DD12⟩

set_option maxRecDepth 100000 in
set_option maxHeartbeats 2000000 in
theorem parts_none (ah al : Int) (w : World) :
    Calls Try.prog 4 #[.agg #[.int .u64 ah, .int .u64 al], .int .u64 0] w fun e w' => e = .returned (.bool true) ∧ Below w.heap.size w w' := by
  go_enter Try.func4, Try.ntmps4
  go_wp2_with (first
    | (go_at_call 8; (with_reducible refine (awake_any _).mono ?_); rintro e w1 ⟨rfl, g1⟩; have K1 := Lib.hid ((Box.fresh w ah al _ rfl).after g1); obtain ⟨_, _, _⟩ := K1.out; have D1 := below_step (below_more (Below.refl _ _) _) g1)
    | (go_at_call 20; (with_reducible refine (floor_zero ah al _).mono ?_); rintro e w2 ⟨qh, ql, x, rfl, hW2, hx0, hx, g2⟩; obtain ⟨rfl, rfl⟩ := hW2.unique IsW.zero; obtain rfl : x = 0 := (by omega); clear hx hW2; have K2 := Lib.hid (K1.out.after g2); obtain ⟨_, _, _⟩ := K2.out; have D2 := below_step D1 g2)
    | (go_at_call 21; (with_reducible refine (ceil_zero ah al _).mono ?_); rintro e w3 ⟨ch, cl, rfl, hW3, g3⟩; obtain ⟨rfl, rfl⟩ := hW3.unique IsW.zero; clear hW3; have K3 := Lib.hid ((K2.out.alloc _).after g3); obtain ⟨_, _, _⟩ := K3.out; have J3 := Lib.hid ((Box.fresh w2 0 0 _ rfl).after g3); obtain ⟨_, _, _⟩ := J3.out; have D3 := below_step (below_more D2 _) g3))
  go_ret
  exact ⟨rfl, below_more D3 _⟩

theorem parts_own : ownKnob Try.prog.godebug = none := by kernel_rfl
theorem parts_cells : Try.prog.cellsOf 24 = 2 := by kernel_rfl
theorem parts_word (x : Int) (h : (Lit.int .u64 x).wf = true) : 0 ≤ x ∧ x ≤ 18446744073709551615 := by
  have := bounds_u64 h; omega
theorem parts_walk (ah al n : Int) (A : Nat) (w : World) (hA : IsW ah al A) (hn : 0 ≤ n) (hn' : n ≤ 18446744073709551615) :
    Calls Try.prog 4 #[.agg #[.int .u64 ah, .int .u64 al], .int .u64 n] w fun e w' => e = .returned (.bool true) ∧ Below w.heap.size w w' := by
  by_cases h : n = 0
  · subst h; exact parts_none ah al w
  · by_cases hr : A % n.toNat = 0
    · exact parts_whole ah al n A w hA (by omega) hn' hr
    · exact parts_left ah al n A w hA (by omega) hn' hr

set_option maxRecDepth 100000 in
theorem parts_lifted (os : Os) (started : os.Started) (H : Type) (enc : TypeId × Value → H) :
    ReturnsInHanded {} Try.checked os 4 .any (Rows.exactPartsSpec.pre6 enc Try.prog Try.f4 Rows.exactPartsRow.domain false) (Rows.exactPartsSpec.post enc Try.prog Try.f4 false true false false) := by
  refine returnsInHanded_of_change (C := Try.checked) parts_own started (by kernel_rfl) Try.func4
    (ChangeSpec.witness6 (enc := enc) (C := Try.checked) false ⟨#[], #[.agg #[.int .u64 0, .int .u64 0], .int .u64 0], []⟩ 8 (by kernel_rfl) (by kernel_rfl) (by kernel_rfl) (by kernel_rfl)) ?_
  intro W base args ds gs before hval0 hW hcnd _
  have hval : ∀ (j : Nat) t v, Try.f4.params[j]? = some t → args[j]? = some v → Value.okWide Try.prog W .any base t v := hval0
  have hW' := hW
  obtain ⟨p, q, hA0, hV, rfl, hfz, hnd⟩ := hW
  have hA : DataW.TrodAll enc Try.prog W 0 (fun _ => true) true Try.f4.params.toList args.toList ds p := hA0
  rw [Try.params4] at hA hval
  obtain ⟨v0, v1, d0, d1, p0, p1, rfl, rfl, rfl, h0, h1⟩ := trodAll_two hA
  obtain ⟨rfl, rfl⟩ := trodVars_none hV
  obtain ⟨c0, c1, y0, y1, m0, rfl, rfl, rfl, hy0, hy1⟩ := open_agg2 Try.underlying24 (by kernel_rfl) parts_cells (hval 0 24 v0 rfl rfl) h0
  obtain ⟨ah, e0, rfl, wah⟩ := DataW.trod_int Try.underlying22 hy0
  obtain ⟨al, e1, rfl, wal⟩ := DataW.trod_int Try.underlying22 hy1
  obtain ⟨n, rfl, rfl, rfl, wn⟩ := open_int Try.underlying22 (hval 1 22 v1 rfl rfl) h1
  simp at e0 e1
  subst e0 e1
  clear hA0 hval0
  simp only [List.append_nil] at hW'
  have structReads : ∀ (W' : World) (sp : Nat → Bool) (x y : Int), (Lit.int .u64 x).wf = true → (Lit.int .u64 y).wf = true → DataW.Trod enc Try.prog W' 0 sp true 24 (.agg #[.int .u64 x, .int .u64 y]) (.agg [.lit (.int .u64 x), .lit (.int .u64 y)]) [] := fun W' sp x y wx wy =>
    shut_agg2 (y0 := (.lit (.int .u64 x), [])) (y1 := (.lit (.int .u64 y), [])) Try.underlying24 (by kernel_rfl) parts_cells ⟨1, by simp [DataW.trod, Try.underlying22, wx]⟩ ⟨1, by simp [DataW.trod, Try.underlying22, wy]⟩
  refine (parts_walk ah al n _ W (IsW.of (parts_word ah wah).1 (parts_word ah wah).2 (parts_word al wal).1 (parts_word al wal).2) (parts_word n wn).1 (parts_word n wn).2).mono fun e W' ⟨he, bel⟩ => ?_
  subst he
  exact ⟨_, rfl, _, _, _, [], [], [], hW', trodAll_mk1 (shut_bool Try.underlying4 _), trodAll_mk2 (structReads _ _ ah al wah wal) (shut_int Try.underlying22 wn), rfl, bel.frame _, fun h => by cases h⟩

theorem parts_over : Rows.exactPartsRow.holds Try.pinned (OpenSpec.ofChange Rows.exactPartsSpec) :=
  OpenClaim.holds_of_wide 4 Try.f4 rfl rfl rfl rfl rfl rfl rfl ⟨rfl, rfl, rfl, rfl, rfl⟩ rfl rfl rfl rfl rfl (by kernel_rfl) Try.func4 (by kernel_rfl)
    (of_decide_eq_true (by kernel_rfl)) (by unfold Func.isWrapper; first | (rw [if_pos (by decide +kernel)]; kernel_rfl) | (rw [if_neg (by decide +kernel)]; exact ⟨rfl, rfl⟩))
    (fun os started H enc _ => parts_lifted os started H enc)

/-- The statement. -/
theorem exact_parts_proved : Rows.ExactPartsSaid := parts_over

end Go.Proofs.Ytnonecjjlmlbaaa
