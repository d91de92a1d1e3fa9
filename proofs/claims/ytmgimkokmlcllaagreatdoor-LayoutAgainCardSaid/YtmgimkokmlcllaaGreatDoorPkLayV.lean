/-
  LayoutAgain, walked.
-/
import Derived.Test.YtmgimkokmlcllaaGreatDoorPkLayt
import Derived.Test.YtmgimkokmlcllaaGreatDoorPkLayn
import Derived.Test.YtmgimkokmlcllaaGreatDoorPkTrev
namespace Go.Proofs.YtmgimkokmlcllaaGreatDoor
open Go.RowKit Go.Shelf

set_option maxRecDepth 100000 in
set_option maxHeartbeats 8000000 in
theorem layagain_long (s : ByteArray) (w : World) (env : EnvQ w) (hm : 5000 < s.size) : Calls Tryz.prog 4 #[.string s] w fun e w' => e = .returned (.bool true) ∧ Below w.heap.size w w' := by
  have HA := Lib.hid (lay_awake w env)
  have k1 : (5000 : Int) < (s.size : Int) := by omega
  clear hm env
  go_enter Tryz.func4, Tryz.ntmps4
  go_wp2_with (go_at_call 6; (with_reducible refine (HA.out).mono ?_); rintro e w1 ⟨rfl, g1⟩; have G1 := Lib.hid g1; clear g1)
  go_ret
  exact ⟨rfl, G1.out⟩
set_option maxRecDepth 100000 in
set_option maxHeartbeats 8000000 in
theorem layagain_bad (s : ByteArray) (w : World) (env : EnvQ w) (hm : s.size ≤ 5000) (c a b : Int) (hr : treR s = .error (c, a, b)) : Calls Tryz.prog 4 #[.string s] w fun e w' => e = .returned (.bool true) ∧ Below w.heap.size w w' := by
  have HA := Lib.hid (lay_awake w env)
  have k1 : ¬ (5000 : Int) < (s.size : Int) := by omega
  have hc : (c != 0) = true := by simpa using treR_err hr
  have HP : Hid (∀ W, Below w.heap.size w W → Calls Tryz.prog 12 #[.string s] W fun e w' => e = .returned (.tuple #[.slice none 0 0, .agg #[.int .i64 c, .int .i64 a, .int .i64 b]]) ∧ Below W.heap.size W w') := Lib.hid (fun W hW => (parse_any s W (env.lo.step hW)).mono (by
    rintro e w' ⟨hb, h | h⟩
    · obtain ⟨c2, a2, b2, h2, rfl⟩ := h
      rw [hr] at h2
      injection h2 with h2
      injection h2 with h3 h4
      injection h4 with h4 h5
      subst h3 h4 h5
      exact ⟨rfl, hb⟩
    · obtain ⟨L, v, h2, _⟩ := h
      rw [hr] at h2; cases h2))
  clear hm env hr
  go_enter Tryz.func4, Tryz.ntmps4
  go_wp2_with (first
    | (go_at_call 6; (with_reducible refine (HA.out).mono ?_); rintro e w1 ⟨rfl, g1⟩; have G1 := Lib.hid g1; clear g1)
    | (go_at_call 12; (with_reducible refine (HP.out _ G1.out).mono ?_); rintro e w2 ⟨rfl, g2⟩; have G2 := Lib.hid (below_step G1.out g2); obtain ⟨f2, U2, U3, fm2⟩ := fault_var w2 c a b; have hf2 := fm2.g0; have ha2 := fm2.a2; have hs2 := fm2.s3; have c0 := fm2.v2.c0; have c1 := fm2.v2.c1; have c2 := fm2.v2.c2; have q0 := fm2.v2.q0; have q1 := fm2.v2.q1; have q2 := fm2.v2.q2; have d0 := fm2.v3.c0; have d1 := fm2.v3.c1; have d2 := fm2.v3.c2; have G3 := Lib.hid (below_step G2.out fm2.bel); clear g2 fm2))
  go_ret
  exact ⟨rfl, G3.out⟩

set_option maxRecDepth 100000 in
set_option maxHeartbeats 16000000 in
theorem layagain_fine (s : ByteArray) (w : World) (env : EnvQ w) (hm : s.size ≤ 5000) (I : List It) (hr : treR s = .ok I) : Calls Tryz.prog 4 #[.string s] w fun e w' => e = .returned (.bool true) ∧ Below w.heap.size w w' := by
  have HA := Lib.hid (lay_awake w env)
  have k1 : ¬ (5000 : Int) < (s.size : Int) := by omega
  have htf : treF (runesOf (nums s)) = .ok I := by
    have e : treR s = treF (runesOf (nums s)) := if_pos (by omega)
    rw [← e]; exact hr
  obtain ⟨hR, hN⟩ := tre_right (runes_ok (nums_byte s)) htf
  have hlt := hR.each.light hN
  have hpar : ∀ (s : ByteArray) (I : List It), treR s = .ok I → ∀ W, Below w.heap.size w W → Calls Tryz.prog 12 #[.string s] W fun e w' => ∃ v, e = .returned (.tuple #[v, .agg #[.int .i64 0, .int .i64 0, .int .i64 0]]) ∧ ItemsIs 5 w' (fun b => W.heap.size ≤ b ∧ b < w'.heap.size) v I ∧ Below W.heap.size W w' := fun s I hr W hW => (parse_any s W (env.lo.step hW)).mono (by
    rintro e w' ⟨hb, h | h⟩
    · obtain ⟨c2, a2, b2, h2, _⟩ := h
      rw [hr] at h2; cases h2
    · obtain ⟨L2, v, h2, rfl, hi⟩ := h
      rw [hr] at h2
      injection h2 with h2
      subst h2
      exact ⟨v, rfl, hi, hb⟩)
  have HP := Lib.hid (hpar s I hr)
  obtain ⟨t, ht⟩ : ∃ t, strOfNums (prtL 1 I) = t := ⟨_, rfl⟩
  have hnt : nums t = prtL 1 I := by rw [← ht]; exact nums_strOfNums _ (prtL_bytes I 1 hR.each hN)
  have HPR : Hid (∀ W S v, Below w.heap.size w W → ItemsIs 5 W S v I → (∀ b, S b → b < W.heap.size) → Calls Tryz.prog 8 #[v] W fun e w' => e = .returned (.tuple #[.string t, .int .i64 0]) ∧ Below W.heap.size W w') := Lib.hid (fun W S v hb hi hS => by
    rw [← ht]
    exact lprint_yes 5 S v I W (env.step hb) hi hS (by have := hR.many; omega) (by have := hR.deep; omega) hlt hN hR)
  have HRT : Hid (∀ W S v, Below w.heap.size w W → ItemsIs 5 W S v I → (∀ b, S b → b < W.heap.size) → Calls Tryz.prog 9 #[v] W fun e w' => e = .returned (.bool true) ∧ Below W.heap.size W w') := Lib.hid (fun W S v hb hi hS =>
    (lright_any 5 S v I W (env.step hb).lo hi hS (by have := hR.many; omega) (by have := hR.deep; omega) hlt).mono (by
      rintro e w' ⟨q, rfl, hq, hb⟩
      obtain rfl : q = true := hq.mpr hR
      exact ⟨rfl, hb⟩))
  by_cases hsz : t.size ≤ 40000
  · have k2 : ¬ (40000 : Int) < (t.size : Int) := by omega
    obtain ⟨M, hM, hMI⟩ := prt_treT hR hN hnt
    have hRM : RightL M := right_alike hMI hR
    have hNM : NumsR M := nums_alike hMI hN
    have hltM := hRM.each.light hNM
    have htM : strOfNums (prtL 1 M) = t := by rw [prt_alike hMI]; exact ht
    have hrM : treR t = .ok M := by
      have e : treR t = treF (runesOf (nums t)) := if_pos hsz
      rw [e]; exact hM
    have HP2 := Lib.hid (hpar t M hrM)
    have HPR2 : Hid (∀ W S v, Below w.heap.size w W → ItemsIs 5 W S v M → (∀ b, S b → b < W.heap.size) → Calls Tryz.prog 8 #[v] W fun e w' => e = .returned (.tuple #[.string t, .int .i64 0]) ∧ Below W.heap.size W w') := Lib.hid (fun W S v hb hi hS => by
      rw [← htM]
      exact lprint_yes 5 S v M W (env.step hb) hi hS (by have := hRM.many; omega) (by have := hRM.deep; omega) hltM hNM hRM)
    have HSM : Hid (∀ W S T v1 v2, ItemsIs 5 W S v1 I → ItemsIs 5 W T v2 M → (∀ b, S b → b < W.heap.size) → (∀ b, T b → b < W.heap.size) → Calls Tryz.prog 13 #[v1, v2] W fun e w' => e = .returned (.bool true) ∧ Below W.heap.size W w') := Lib.hid (fun W S T v1 v2 h1 h2 hS hT =>
      (lsame_any 5 S T 5 v1 v2 I M W h1 h2 hS hT (by have := hR.many; omega) (by have := hRM.many; omega) (treF_fewW htf).all (treF_fewW hM).all).mono (by
        rintro e w' ⟨q, rfl, hq, hb⟩
        obtain rfl : q = true := hq.mpr hMI.symm
        exact ⟨rfl, hb⟩))
    clear hm env hr htf hR hN hlt hpar ht hnt hM hMI hRM hNM hltM htM hrM hsz
    go_enter Tryz.func4, Tryz.ntmps4
    go_wp2_with (first
      | (go_at_call 6; (with_reducible refine (HA.out).mono ?_); rintro e w1 ⟨rfl, g1⟩; have G1 := Lib.hid g1; clear g1)
      | (go_at_call 12; (with_reducible refine (HP.out _ G1.out).mono ?_); rintro e w2 ⟨v2, rfl, hi2, g2⟩; obtain ⟨a2, n2, rfl⟩ := hi2.size; have G2 := Lib.hid (below_step G1.out g2); obtain ⟨f2, U2, U3, fm2⟩ := fault_var w2 0 0 0; have hf2 := fm2.g0; have ha2 := fm2.a2; have hs2 := fm2.s3; have c0 := fm2.v2.c0; have c1 := fm2.v2.c1; have c2 := fm2.v2.c2; have q0 := fm2.v2.q0; have q1 := fm2.v2.q1; have q2 := fm2.v2.q2; have d0 := fm2.v3.c0; have d1 := fm2.v3.c1; have d2 := fm2.v3.c2; have G3 := Lib.hid (below_step G2.out fm2.bel); have HI3 := Lib.hid (ItemsIs.keep (w' := U3) hi2 (fun _ h => h) (fun b hb => fm2.bel.block b hb.2)); have HI3S : Hid (∀ b, (w1.heap.size ≤ b ∧ b < w2.heap.size) → b < U3.heap.size) := Lib.hid (fun b hb => Nat.lt_of_lt_of_le hb.2 fm2.bel.size); clear g2 fm2 hi2)
      | (go_at_call 8; (with_reducible refine (HPR.out _ _ _ G3.out HI3.out HI3S.out).mono ?_); rintro e w4 ⟨rfl, g4⟩; have G4 := Lib.hid (below_step G3.out g4); have HI4 := Lib.hid (HI3.out.belowS HI3S.out g4); have HI4S : Hid (∀ b, (w1.heap.size ≤ b ∧ b < w2.heap.size) → b < w4.heap.size) := Lib.hid (fun b hb => Nat.lt_of_lt_of_le (HI3S.out b hb) g4.size); clear g4 hf2 ha2 hs2 c0 c1 c2 q0 q1 q2 d0 d1 d2)
      | (go_at_call 9; (with_reducible refine (HRT.out _ _ _ G4.out HI4.out HI4S.out).mono ?_); rintro e w5 ⟨rfl, g5⟩; have G5 := Lib.hid (below_step G4.out g5); have HI5 := Lib.hid (HI4.out.belowS HI4S.out g5); have HI5S : Hid (∀ b, (w1.heap.size ≤ b ∧ b < w2.heap.size) → b < w5.heap.size) := Lib.hid (fun b hb => Nat.lt_of_lt_of_le (HI4S.out b hb) g5.size); clear g5))
    go_at_call 12
    (with_reducible refine (HP2.out _ G5.out).mono ?_)
    rintro e w6 ⟨v6, rfl, hi6, g6⟩
    obtain ⟨a6, n6, rfl⟩ := hi6.size
    have G6 := Lib.hid (below_step G5.out g6)
    have HI6 := Lib.hid (HI5.out.belowS HI5S.out g6)
    have HI6S : Hid (∀ b, (w1.heap.size ≤ b ∧ b < w2.heap.size) → b < w6.heap.size) := Lib.hid (fun b hb => Nat.lt_of_lt_of_le (HI5S.out b hb) g6.size)
    obtain ⟨f6, U6, U7, fm6⟩ := fault_var w6 0 0 0
    have hf2 := fm6.g0; have ha2 := fm6.a2; have hs2 := fm6.s3; have c0 := fm6.v2.c0; have c1 := fm6.v2.c1; have c2 := fm6.v2.c2; have q0 := fm6.v2.q0; have q1 := fm6.v2.q1; have q2 := fm6.v2.q2
    have V7 := Lib.hid fm6.v3
    have G7 := Lib.hid (below_step G6.out fm6.bel)
    have HI7 := Lib.hid (HI6.out.belowS HI6S.out fm6.bel)
    have HI7S : Hid (∀ b, (w1.heap.size ≤ b ∧ b < w2.heap.size) → b < U7.heap.size) := Lib.hid (fun b hb => Nat.lt_of_lt_of_le (HI6S.out b hb) fm6.bel.size)
    have HM7 := Lib.hid (ItemsIs.keep (w' := U7) hi6 (fun _ h => h) (fun b hb => fm6.bel.block b hb.2))
    have HM7S : Hid (∀ b, (w5.heap.size ≤ b ∧ b < w6.heap.size) → b < U7.heap.size) := Lib.hid (fun b hb => Nat.lt_of_lt_of_le hb.2 fm6.bel.size)
    clear g6 fm6 hi6
    go_wp2_with (first
      | (go_at_call 8; (with_reducible refine (HPR2.out _ _ _ G7.out HM7.out HM7S.out).mono ?_); rintro e w8 ⟨rfl, g8⟩; have G8 := Lib.hid (below_step G7.out g8); have HI8 := Lib.hid (HI7.out.belowS HI7S.out g8); have HI8S : Hid (∀ b, (w1.heap.size ≤ b ∧ b < w2.heap.size) → b < w8.heap.size) := Lib.hid (fun b hb => Nat.lt_of_lt_of_le (HI7S.out b hb) g8.size); have HM8 := Lib.hid (HM7.out.belowS HM7S.out g8); have HM8S : Hid (∀ b, (w5.heap.size ≤ b ∧ b < w6.heap.size) → b < w8.heap.size) := Lib.hid (fun b hb => Nat.lt_of_lt_of_le (HM7S.out b hb) g8.size); have V8 := V7.out.after g8; obtain ⟨e0, e1, e2, _, _, _, _⟩ := V8; clear g8 hf2 ha2 hs2 c0 c1 c2 q0 q1 q2)
      | (go_at_call 13; (with_reducible refine (HSM.out _ _ _ _ _ HI8.out HM8.out HI8S.out HM8S.out).mono ?_); rintro e w9 ⟨rfl, g9⟩; have G9 := Lib.hid (below_step G8.out g9); clear g9))
    go_ret
    exact ⟨rfl, G9.out⟩
  · have k2 : (40000 : Int) < (t.size : Int) := by omega
    clear hm env hr htf hR hN hlt hpar ht hnt hsz
    go_enter Tryz.func4, Tryz.ntmps4
    go_wp2_with (first
      | (go_at_call 6; (with_reducible refine (HA.out).mono ?_); rintro e w1 ⟨rfl, g1⟩; have G1 := Lib.hid g1; clear g1)
      | (go_at_call 12; (with_reducible refine (HP.out _ G1.out).mono ?_); rintro e w2 ⟨v2, rfl, hi2, g2⟩; obtain ⟨a2, n2, rfl⟩ := hi2.size; have G2 := Lib.hid (below_step G1.out g2); obtain ⟨f2, U2, U3, fm2⟩ := fault_var w2 0 0 0; have hf2 := fm2.g0; have ha2 := fm2.a2; have hs2 := fm2.s3; have c0 := fm2.v2.c0; have c1 := fm2.v2.c1; have c2 := fm2.v2.c2; have q0 := fm2.v2.q0; have q1 := fm2.v2.q1; have q2 := fm2.v2.q2; have d0 := fm2.v3.c0; have d1 := fm2.v3.c1; have d2 := fm2.v3.c2; have G3 := Lib.hid (below_step G2.out fm2.bel); have HI3 := Lib.hid (ItemsIs.keep (w' := U3) hi2 (fun _ h => h) (fun b hb => fm2.bel.block b hb.2)); have HI3S : Hid (∀ b, (w1.heap.size ≤ b ∧ b < w2.heap.size) → b < U3.heap.size) := Lib.hid (fun b hb => Nat.lt_of_lt_of_le hb.2 fm2.bel.size); clear g2 fm2 hi2)
      | (go_at_call 8; (with_reducible refine (HPR.out _ _ _ G3.out HI3.out HI3S.out).mono ?_); rintro e w4 ⟨rfl, g4⟩; have G4 := Lib.hid (below_step G3.out g4); have HI4 := Lib.hid (HI3.out.belowS HI3S.out g4); have HI4S : Hid (∀ b, (w1.heap.size ≤ b ∧ b < w2.heap.size) → b < w4.heap.size) := Lib.hid (fun b hb => Nat.lt_of_lt_of_le (HI3S.out b hb) g4.size); clear g4 hf2 ha2 hs2 c0 c1 c2 q0 q1 q2 d0 d1 d2)
      | (go_at_call 9; (with_reducible refine (HRT.out _ _ _ G4.out HI4.out HI4S.out).mono ?_); rintro e w5 ⟨rfl, g5⟩; have G5 := Lib.hid (below_step G4.out g5); clear g5))
    go_ret
    exact ⟨rfl, G5.out⟩
theorem layagain_walk (s : ByteArray) (w : World) (env : EnvQ w) (_hm : s.size ≤ 9223372036854775807) : Calls Tryz.prog 4 #[.string s] w fun e w' => e = .returned (.bool true) ∧ Below w.heap.size w w' := by
  by_cases h : s.size ≤ 5000
  · cases hr : treR s with
    | error x => obtain ⟨c, a, b⟩ := x; exact layagain_bad s w env h c a b hr
    | ok I => exact layagain_fine s w env h I hr
  · exact layagain_long s w env (by omega)

end Go.Proofs.YtmgimkokmlcllaaGreatDoor
