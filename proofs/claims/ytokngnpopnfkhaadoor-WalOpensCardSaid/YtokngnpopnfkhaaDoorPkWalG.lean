/-
  WalOpens, walked over the contracts of package wal's calls.
-/
import Derived.Test.YtokngnpopnfkhaaDoorPkWalF
namespace Go.Proofs.YtokngnpopnfkhaaDoor
open Go.RowKit

set_option maxRecDepth 100000 in
set_option maxHeartbeats 8000000 in
theorem walopens_main (size : Nat) (v : Value) (bb : List Int) (fuse keep torn : Int) (w : World) (env : Env w) (hv : ArgB w v bb) (hb : ∀ z ∈ bb, 0 ≤ z ∧ z ≤ 255) (s0 : 32 ≤ size) (s1 : size ≤ 512) (hl : bb.length ≤ 3000)
    (f0 : -9223372036854775808 ≤ fuse) (f1 : fuse ≤ 9223372036854775807) (k0 : -9223372036854775808 ≤ keep) (k1 : keep ≤ 9223372036854775807) (t0 : -9223372036854775808 ≤ torn) (t1 : torn ≤ 9223372036854775807) :
    Calls Tryd.prog 5 #[.int .i64 (size : Int), v, .int .i64 fuse, .int .i64 keep, .int .i64 torn] w fun e w' => e = .returned (.bool true) ∧ Below w.heap.size w w' := by
  have HENV := Lib.hid env
  have HV := Lib.hid hv
  have HB := Lib.hid hb
  have HFU := Lib.hid (And.intro f0 f1)
  have HKT := Lib.hid (And.intro (And.intro k0 k1) (And.intro t0 t1))
  have HMK : Hid (∀ w, Calls Tryd.prog 8 #[.int .i64 9, .int .i64 (size : Int)] w fun e w' => ∃ r O D, e = .returned (.pointer (some ⟨r, 0, none⟩)) ∧ DskIs w' w.heap.size O r D ∧ NFd 9 size D ∧ D.waits = [] ∧ D.deeds ≤ 1000 ∧ Below w.heap.size w w') := fun w => marked_any 9 size w (by decide) (by decide) s0 s1
  obtain ⟨va, vcap, rfl⟩ := hv.size
  obtain ⟨BL, hBL⟩ : ∃ x, bb.length = x := ⟨_, rfl⟩
  have HBL := Lib.hid hBL
  rw [hBL] at hl ⊢
  have g1 : ¬ (size : Int) < 32 := by omega
  have g2 : ¬ (512 : Int) < (size : Int) := by omega
  have g3 : ¬ (3000 : Int) < (BL : Int) := by omega
  clear env hv hb f0 f1 k0 k1 t0 t1 hBL
  go_enter Tryd.func5, Tryd.ntmps5
  go_wp2_with (first
    | (go_at_call 6; (with_reducible refine (wal_awake _ HENV.out).mono ?_); rintro e wa ⟨rfl, ga⟩; have GA := Lib.hid ga; clear ga)
    | (go_at_call 8; (with_reducible refine (HMK.out _).mono ?_); rintro e wd ⟨r, O1, D1, rfl, d1, n1, ws1, de1, gd⟩; have HD1 := Lib.hid (d1.base GA.out.size); have HN1 := Lib.hid n1; have HE1 := Lib.hid de1; have GD := Lib.hid (below_step GA.out gd); clear d1 n1 ws1 de1 gd))
  clear g1 g2 g3
  go_loopw [12] (fun v12 wr => ∃ (i : Nat) (O : Foot) (D : Dsk), v12 = .int .i64 (i : Int) ∧ i ≤ 7 ∧ DskIs wr w.heap.size O r D ∧ NFd 9 size D ∧ D.deeds ≤ 1000 + i ∧ Below w.heap.size w wr) (fun v12 _ => 7 - (intOf v12).toNat)
  case atStart => exact ⟨0, O1, D1, rfl, by decide, HD1.out, HN1.out, HE1.out, GD.out⟩
  case round =>
    obtain ⟨i, O, D, rfl, hi, hD, hnf, hde, hB⟩ := hrel
    have HD := Lib.hid hD
    have HNF := Lib.hid hnf
    have HDE := Lib.hid hde
    have HBe := Lib.hid hB
    by_cases hlt : i < 7
    case pos =>
      have hin : (i : Int) < 7 := by omega
      have hi1 : IntKind.i64.wrap ((i : Int) + 1) = (i : Int) + 1 := by rw [IntKind.wrap_i64]; omega
      obtain ⟨A, hA⟩ : ∃ A, i * size = A := ⟨_, rfl⟩
      have hAl : A ≤ 3584 := by rw [← hA]; exact Nat.mul_le_mul (show i ≤ 7 by omega) s1
      have hmul : IntKind.i64.wrap ((i : Int) * (size : Int)) = (A : Int) := by
        have e : (i : Int) * (size : Int) = (A : Int) := by rw [← hA]; simp
        rw [e, IntKind.wrap_i64]; omega
      obtain ⟨wn, hwn⟩ : ∃ x, wr.heap.size = x := ⟨_, rfl⟩
      obtain ⟨wA, hwA⟩ : ∃ y, wr.alloc (.cells #[] 5) = y := ⟨_, rfl⟩
      have hbA : Below wr.heap.size wr wA := by rw [← hwA]; exact (Below.refl _ _).alloc (Nat.le_refl _) _
      have HA0 : Hid (ArgB wA (.slice (some ⟨wn, 0, none⟩) 0 0) []) := Or.inr ⟨⟨wn, 0, none⟩, 0, rfl, Nat.le_refl _, fun i hi => by cases hi⟩
      have HDA := Lib.hid (hD.after hbA)
      have HBA := Lib.hid (below_step hB hbA)
      have HVA := Lib.hid (HV.out.below HBA.out)
      have HW : Hid (∀ (xv : Value) (X : List Int), ArgB wA xv X → (∀ z ∈ X, 0 ≤ z ∧ z ≤ 255) → X.length ≤ size → Calls Tryd.prog 25 #[.pointer (some ⟨r, 0, none⟩), .int .i64 ((i : Int) + 1), xv] wA fun e w' => ∃ D' O', e = .returned (.int .i64 0) ∧ NFd 9 size D' ∧ D'.deeds = D.deeds + 1 ∧ DskIs w' w.heap.size O' r D' ∧ OnlyO w.heap.size O wA w') := fun xv X h1 h2 h3 =>
        bwrite_nf w.heap.size O r 9 size D (i + 1) xv X wA HDA.out HNF.out (by have := HDE.out; omega) (by omega) h1 h2 h3
      have HREL : Hid (∀ D' O' w', NFd 9 size D' → D'.deeds = D.deeds + 1 → DskIs w' w.heap.size O' r D' → OnlyO w.heap.size O wA w' → ∃ (i' : Nat) (O : Foot) (D : Dsk), Value.int .i64 ((i : Int) + 1) = .int .i64 (i' : Int) ∧ i' ≤ 7 ∧ DskIs w' w.heap.size O r D ∧ NFd 9 size D ∧ D.deeds ≤ 1000 + i' ∧ Below w.heap.size w w') := fun D' O' w' q1 q2 q3 q4 =>
        ⟨i + 1, O', D', by go_num, hlt, q3, q1, by have := HDE.out; omega, HBA.out.trans q4.bel⟩
      clear hD hnf hde hB hbA hA
      by_cases hc1 : A < BL
      case neg =>
        have hc1i : ¬ (A : Int) < (BL : Int) := by omega
        have hc2i : ¬ (size : Int) < 0 := by omega
        have HWa := Lib.hid (HW.out _ _ HA0.out (fun z hz => by cases hz) (Nat.zero_le _))
        go_wp2_with (go_at_call 25; (with_reducible refine (HWa.out).mono ?_); rintro e w2 ⟨D2, O2, rfl, n2, e2, d2, o2⟩; have HR2 := Lib.hid (HREL.out D2 O2 w2 n2 e2 d2 o2); clear n2 e2 d2 o2)
        go_roundw
        case rel => exact HR2.out
        case measure => simp [intOf]; omega
      case pos =>
        have hc1i : (A : Int) < (BL : Int) := by omega
        obtain ⟨sv, hsv, hsa⟩ := slice_from HVA.out A (by rw [HBL.out]; omega)
        rw [HBL.out] at hsv
        have hsl : (bb.drop A).length = BL - A := by rw [List.length_drop, HBL.out]
        obtain ⟨X, hX⟩ : ∃ X, bb.drop A = X := ⟨_, rfl⟩
        rw [hX] at hsa hsl
        have hXb : ∀ z ∈ X, 0 ≤ z ∧ z ≤ 255 := fun z hz => HB.out z (List.mem_of_mem_drop (by rw [hX]; exact hz))
        obtain ⟨sa, sc, rfl⟩ := hsa.size
        obtain ⟨XL, hXL⟩ : ∃ x, X.length = x := ⟨_, rfl⟩
        by_cases hc2 : size < XL
        case neg =>
          have hc2i : ¬ (size : Int) < (XL : Int) := by omega
          have HWa := Lib.hid (HW.out _ _ hsa hXb (by omega))
          rw [hXL] at HWa hsv
          clear hsa hXb hX hsl hXL
          go_wp2_with (go_at_call 25; (with_reducible refine (HWa.out).mono ?_); rintro e w2 ⟨D2, O2, rfl, n2, e2, d2, o2⟩; have HR2 := Lib.hid (HREL.out D2 O2 w2 n2 e2 d2 o2); clear n2 e2 d2 o2)
          go_roundw
          case rel => exact HR2.out
          case measure => simp [intOf]; omega
        case pos =>
          have hc2i : (size : Int) < (XL : Int) := by omega
          obtain ⟨tv, htv, hta⟩ := slice_upto hsa size (by omega)
          have HWa := Lib.hid (HW.out _ _ hta (fun z hz => hXb z (List.mem_of_mem_take hz)) (by rw [List.length_take]; omega))
          rw [hXL] at hsv htv
          clear hsa hXb hX hsl hXL hta
          go_wp2_with (go_at_call 25; (with_reducible refine (HWa.out).mono ?_); rintro e w2 ⟨D2, O2, rfl, n2, e2, d2, o2⟩; have HR2 := Lib.hid (HREL.out D2 O2 w2 n2 e2 d2 o2); clear n2 e2 d2 o2)
          go_roundw
          case rel => exact HR2.out
          case measure => simp [intOf]; omega
    case neg =>
      obtain rfl : i = 7 := by omega
      have HSY := Lib.hid (bsync_nf w.heap.size O r 9 size D wr HD.out HNF.out (by have := HDE.out; omega))
      obtain ⟨E8, hE8⟩ : ∃ x : Nat, 8 * size = x := ⟨_, rfl⟩
      have hm8 : IntKind.i64.wrap (8 * (size : Int)) = (E8 : Int) := by rw [IntKind.wrap_i64]; omega
      have HE8 := Lib.hid hE8
      clear hD hnf hde hB hE8
      go_wp2_with (first
        | (go_at_call 26; (with_reducible refine (HSY.out).mono ?_); rintro e w3 ⟨D3, O3, rfl, n3, ws3, e3, d3, o3⟩; have H3 := Lib.hid d3; have N3 := Lib.hid n3; have W3 := Lib.hid ws3; have E3 : Hid (D3.deeds ≤ 1008) := (by have := HDE.out; unfold Hid; omega); have G3 := Lib.hid (HBe.out.trans o3.bel); obtain ⟨Z, hZ⟩ : ∃ Z, D3.last = Z := ⟨_, rfl⟩; have HZ := Lib.hid hZ; have hZb := d3.ok.lb; have hFit := reg_fit d3.ok n3 (f := 1) (k := 7) (by decide); have hMost := reg_most d3.ok n3 (f := 1) (k := 7) (by decide); have hRec := rec_reg d3.ok (lo := size) (M := 7 * size) (by omega); have HALL3 := Lib.hid (fun W (hW : Below w3.heap.size w3 W) => all_nf w.heap.size O3 r D3 W (d3.after hW) n3.dark ws3 (by have := E3.out; omega)); rw [hZ] at hZb hFit hRec HALL3; have hsl := fun W => slice_text Z hZb size (7 * size) (size : Int) (E8 : Int) rfl (by have := HE8.out; omega) (by omega) W; have HZB := Lib.hid hZb; have HFIT := Lib.hid hFit; have HMOST := Lib.hid hMost; have HREC := Lib.hid hRec; clear hZ d3 n3 ws3 e3 o3 hZb hFit hMost hRec)
        | (go_at_call 9; (with_reducible refine (HALL3.out _ (Below.refl _ _)).mono ?_); rintro e w4 ⟨rfl, g4⟩; have H4 := Lib.hid (H3.out.after g4); have G4 := Lib.hid (below_step G3.out g4); have hrl : (regnL size (7 * size) Z).length = 7 * size := regn_len (by have q1 := HFIT.out; omega); have HRD := Lib.hid (rread_any w.heap.size (regnL size (7 * size) Z) w4 (fun z hz => HZB.out z (List.mem_of_mem_drop (List.mem_of_mem_take hz))) (by have q2 := HMOST.out; omega) G4.out.size); rw [hrl] at HRD; obtain ⟨rs, hrs⟩ : ∃ rs, (allL (regnL size (7 * size) Z)).1 = rs := ⟨_, rfl⟩; have HRS := Lib.hid hrs; rw [hrs] at HRD HREC; have HM4 := Lib.hid (And.intro H3.out.own g4.size); clear g4 hrl hrs)
        | (go_at_call 27; (with_reducible refine (HRD.out).mono ?_); rintro e w5 ⟨mb, rfl, hmb, rl5, g5⟩; obtain ⟨F, hF⟩ : ∃ F : Foot, (fun i => w4.heap.size ≤ i ∧ i < mb) = F := ⟨_, rfl⟩; have H5 := Lib.hid (H4.out.after g5); have G5 := Lib.hid (below_step G4.out g5); have AS5 : Hid (Aside F mb O3) := (by subst hF; exact ⟨fun i hi ho => by have q1 := (HM4.out.1 i ho).2; have q2 := HM4.out.2; omega, fun ho => by have q1 := (HM4.out.1 mb ho).2; have q2 := HM4.out.2; omega⟩); rw [hF] at rl5; have RL5 := Lib.hid rl5; have HFU5 := Lib.hid (bfuse_any w.heap.size O3 r D3 fuse w5 H5.out HFU.out.1 HFU.out.2); clear g5 rl5 hF HRD hmb)
        | (go_at_call 22; (with_reducible refine (HFU5.out).mono ?_); rintro e w6 ⟨rfl, O6, d6, o6, gr6⟩; have G6 := Lib.hid (G5.out.trans o6.bel); obtain ⟨rl6, as6⟩ := aside_step RL5.out AS5.out (fun i hi => (H5.out.own i hi).1) o6 gr6; have RL6 := Lib.hid rl6; have AS6 := Lib.hid as6; have H6 := Lib.hid d6; have HL6 : Hid ((D3.light fuse).last = Z) := HZ.out; have HOP6 := Lib.hid (wopen_gen w.heap.size O6 r 9 size (D3.light fuse) 1 7 1 7 rfl rfl rs w6 (HENV.out.step G6.out) d6 N3.out.n N3.out.size (by decide) (by decide) N3.out.dark W3.out (by show D3.deeds ≤ _; have := E3.out; omega) G6.out.size (by rw [HL6.out, Nat.one_mul]; exact HRS.out)); clear rl6 as6 d6 o6 gr6 HFU5)
        | (go_at_call 12; (with_reducible refine (HOP6.out).mono ?_); rintro e w7 ⟨c7, D7, O7, out7, d7, o7, gr7, ⟨rfl, a7, n7, rfl⟩ | ⟨rfl, gb7, OG7, OR7, a7, n7, rfl, lg7, ll7, ds7, dd7⟩⟩ <;> (have G7 := Lib.hid (G6.out.trans o7.bel); obtain ⟨rl7, as7⟩ := aside_step RL6.out AS6.out (fun i hi => (H6.out.own i hi).1) o7 gr7; have RL7 := Lib.hid rl7; have AS7 := Lib.hid as7; have H7 := Lib.hid d7; have HCR := Lib.hid (opens_crash (D := D3.light fuse) (n := 9) (size := size) N3.out.n N3.out.size out7 (by rw [HL6.out]; have := HFIT.out; omega) HREC.out (by have := HMOST.out; omega) keep torn); rw [HL6.out] at HCR; have HDE7 : Hid (D7.deeds ≤ 3000) := (by have q1 := out7.1.hi; have q2 := E3.out; have q3 : (D3.light fuse).deeds = D3.deeds := rfl; unfold Hid; omega); obtain ⟨⟨mv, mc0, mll⟩, _⟩ := rl7; obtain ⟨ma, mcap, rfl⟩ := mll.size; have MA7 := Lib.hid mll.argLL; clear HOP6 as7 d7 o7 gr7 out7 mll)))
      · have HRL : Hid (rs.length ≤ 100000000) := by have q1 := used_many rs; have q2 := HREC.out.used; have q3 := HMOST.out; unfold Hid; omega
        have H8 := H7
        have RL8 := RL7
        have G8 := G7
        go_wp2_with (first
          | (go_at_call 24; (with_reducible refine (bcrash_any w.heap.size O7 r D7 keep torn _ H8.out (by have := HDE7.out; omega) HKT.out.1.1 HKT.out.1.2 HKT.out.2.1 HKT.out.2.2).mono ?_); rintro e w9 ⟨rfl, O9, d9, o9, gr9⟩; have G9 := Lib.hid (G8.out.trans o9.bel); obtain ⟨rl9, as9⟩ := aside_step RL8.out AS7.out (fun i hi => (H8.out.own i hi).1) o9 gr9; have RL9 := Lib.hid rl9; have AS9 := Lib.hid as9; obtain ⟨D9, hD9⟩ : ∃ x, D7.crash keep torn = x := ⟨_, rfl⟩; rw [hD9] at d9 HCR; have H9 := Lib.hid d9; have HOP9 := Lib.hid (wopen_nfd w.heap.size O9 r 9 size D9 1 7 1 7 rfl rfl rs w9 (HENV.out.step G9.out) d9 HCR.out.1 (by decide) (by decide) HCR.out.2.1 (by have q1 := HCR.out.2.2.1; have q2 := E3.out; have q3 : (D3.light fuse).deeds = D3.deeds := rfl; omega) HCR.out.2.2.2.2); have HE9 : Hid (D9.deeds ≤ 3000) := (by have q1 := HCR.out.2.2.1; have q2 := E3.out; have q3 : (D3.light fuse).deeds = D3.deeds := rfl; unfold Hid; omega); clear d9 o9 gr9 rl9 as9 hD9)
          | (go_at_call 12; (with_reducible refine (HOP9.out).mono ?_); rintro e w10 ⟨D10, O10, gb, OG, OR, rv10, rfl, n10, ws10, e10, la10, d10, o10, gr10, lg10, ll10, ds10, dd10⟩; have G10 := Lib.hid (G9.out.trans o10.bel); obtain ⟨rl10, as10⟩ := aside_step RL9.out AS9.out (fun i hi => (H9.out.own i hi).1) o10 gr10; have RL10 := Lib.hid rl10; have AS10 := Lib.hid as10; have H10 := Lib.hid d10; have N10 := Lib.hid n10; have WS10 := Lib.hid ws10; have LA10 := Lib.hid la10; have HE10 : Hid (D10.deeds ≤ 4000) := (by have q1 := HE9.out; unfold Hid; omega); have L10 := Lib.hid (lg10.base G9.out.size); obtain ⟨ra, rc, rfl⟩ := ll10.size; have LL10 := Lib.hid ll10.argLL; obtain ⟨⟨mv, mc0, mll⟩, _⟩ := rl10; obtain ⟨ma, mcap, rfl⟩ := mll.size; have MA10 := Lib.hid mll.argLL; clear HOP9 as10 d10 o10 gr10 lg10 ll10 ds10 dd10 n10 ws10 e10 la10 mll)
          | (go_at_call 16; (with_reducible refine (same_yes _ _ rs _ LL10.out MA10.out HREC.out.byte HRL.out).mono ?_); rintro e w11 ⟨rfl, g11⟩; have G11 := Lib.hid (below_step G10.out g11); have RL11 := Lib.hid (RL10.out.after g11); have H11 := Lib.hid (H10.out.after g11); have L11 := Lib.hid (L10.out.after g11); clear mc0 g11 MA10)
          | (go_at_call 17; (with_reducible refine (wused_any _ _ _ r _ _ L11.out).mono ?_); rintro e w12 ⟨rfl, g12⟩; have G12 := Lib.hid (below_step G11.out g12); have RL12 := Lib.hid (RL11.out.after g12); have H12 := Lib.hid (H11.out.after g12); clear g12)
          | (go_at_call 18; (with_reducible refine (rused_any w.heap.size F mb rs (7 * size) _ RL12.out (by have q1 := HREC.out.used; have q2 := HMOST.out; omega)).mono ?_); rintro e w13 ⟨rfl, rfl⟩)
          | (go_at_call 15; (with_reducible refine (bdeeds_any _ _ _ _ _ H12.out (by have := HE10.out; omega)).mono ?_); rintro e w14 ⟨rfl, g14⟩; have G14 := Lib.hid (below_step G12.out g14); have RL14 := Lib.hid (RL12.out.after g14); have H14 := Lib.hid (H12.out.after g14); have HRG := Lib.hid (laid_reg (text_len HREC.out.used) (by have q1 := HCR.out.2.2.2.1.len; have q2 := HFIT.out; omega) LA10.out); have HOP14 := Lib.hid (wopen_nf w.heap.size O10 r 9 size D10 1 7 1 7 rfl rfl rs _ (HENV.out.step G14.out) H14.out N10.out (by decide) (by decide) WS10.out (by have := HE10.out; omega) HREC.out HRG.out.1); clear g14)
          | (go_at_call 12; (with_reducible refine (HOP14.out).mono ?_); rintro e w15 ⟨O15, gb15, OG15, OR15, rv15, rfl, d15, o15, gr15, lg15, ll15, ds15, dd15⟩; have G15 := Lib.hid (G14.out.trans o15.bel); obtain ⟨rl15, as15⟩ := aside_step RL14.out AS10.out (fun i hi => (H14.out.own i hi).1) o15 gr15; have RL15 := Lib.hid rl15; have H15 := Lib.hid d15; obtain ⟨ra15, rc15, rfl⟩ := ll15.size; have LL15 := Lib.hid ll15.argLL; obtain ⟨⟨mv15, mc15, mll⟩, _⟩ := rl15; obtain ⟨ma15, mcap15, rfl⟩ := mll.size; have MA15 := Lib.hid mll.argLL; clear HOP14 as15 d15 o15 gr15 lg15 ll15 ds15 dd15 mll))
        have SM := Lib.hid (fun W (hW : Below w15.heap.size w15 W) => same_yes _ _ rs W (LL15.out.below hW) (MA15.out.below hW) HREC.out.byte HRL.out)
        have DE := Lib.hid (fun W (hW : Below w15.heap.size w15 W) => bdeeds_any _ _ _ _ W (H15.out.after hW) (by have := HE10.out; omega))
        have AL := Lib.hid (fun W (hW : Below w15.heap.size w15 W) => all_nf w.heap.size O15 r D10 W (H15.out.after hW) N10.out.dark WS10.out (by have := HE10.out; omega))
        have TX := Lib.hid (fun W (hW : Below w15.heap.size w15 W) => rtext_any w.heap.size F mb rs (7 * size) W (RL15.out.after hW) HREC.out.used (by have := HMOST.out; omega) HREC.out.byte)
        have hz1 := fun W => slice_text_to Z HZB.out size (size : Int) rfl (by have := HFIT.out; omega) W
        have hz2 := fun W => slice_text_from Z HZB.out E8 (E8 : Int) rfl (by have q1 := HFIT.out; have q2 := HE8.out; omega) W
        have hEQ : D10.last = Z.take size ++ textL rs (7 * size) ++ Z.drop E8 := by
          have q := beside_is (HCR.out.2.2.2.1.trans HRG.out.2) _ HRG.out.1
          rw [Nat.one_mul, show size + 7 * size = E8 by have := HE8.out; omega] at q
          exact q
        have hl1 : (strOfNums (Z.take size)).size + (strOfNums (textL rs (7 * size))).size + (strOfNums (Z.drop E8)).size ≤ 1000000 := by
          have q2 := congrArg List.length hEQ
          rw [List.length_append, List.length_append] at q2
          have q3 := H15.out.ok.ll
          have q4 := H15.out.ok.most
          rw [rw_str_len, rw_str_len, rw_str_len]
          omega
        rw [hEQ] at AL
        rw [← strOfNums_append, ← strOfNums_append] at AL
        obtain ⟨XA, hXA⟩ : ∃ x, strOfNums (Z.take size) = x := ⟨_, rfl⟩
        obtain ⟨XB, hXB⟩ : ∃ x, strOfNums (textL rs (7 * size)) = x := ⟨_, rfl⟩
        obtain ⟨XC, hXC⟩ : ∃ x, strOfNums (Z.drop E8) = x := ⟨_, rfl⟩
        rw [hXA] at hz1 AL hl1
        rw [hXB] at TX AL hl1
        rw [hXC] at hz2 AL hl1
        have hj1 : ¬ (9223372036854775807 < XA.size + XB.size) := by omega
        have hj2 : ¬ (9223372036854775807 < XA.size + XB.size + XC.size) := by omega
        have f1 := cell_regrown mc15
        clear hXA hXB hXC hEQ hl1 mc15 hsl
        go_wp2
        refine wp_region_quiet_below (by kernel_rfl) (by kernel_rfl) ?_
        repeat (quiet_step (first
          | (go_at_call 16; exact Calls.regrown_of (SM.out _ (below_regrown _ _ _)))
          | (go_at_call 15; exact Calls.regrown_of (DE.out _ (below_regrown _ _ _)))
          | (go_at_call 9; exact Calls.regrown_of (AL.out _ (below_regrown _ _ _)))
          | (go_at_call 21; exact Calls.regrown_of (TX.out _ (below_regrown _ _ _)))))
        refine wpQuiet_nil ?_
        intro _ hw'
        obtain ⟨⟨dq, osq⟩, hw''⟩ := hw'
        subst hw''
        have hfin := Lib.hid (below_step G15.out (below_regrown w15 dq osq))
        clear f1
        generalize Go.Sort.grow (redrawn w15 dq) osq = W3 at hfin ⊢
        go_wp2
        go_ret
        exact ⟨rfl, hfin.out⟩
      · have HRL : Hid (rs.length ≤ 100000000) := by have q1 := used_many rs; have q2 := HREC.out.used; have q3 := HMOST.out; unfold Hid; omega
        go_wp2_with (go_at_call 16; (with_reducible refine (same_yes _ _ rs _ ll7.argLL MA7.out HREC.out.byte HRL.out).mono ?_); rintro e w8 ⟨rfl, g8⟩; have H8 := Lib.hid (H7.out.after g8); have RL8 := Lib.hid (RL7.out.after g8); have G8 := Lib.hid (below_step G7.out g8); clear g8 mc0)
        go_wp2_with (first
          | (go_at_call 24; (with_reducible refine (bcrash_any w.heap.size O7 r D7 keep torn _ H8.out (by have := HDE7.out; omega) HKT.out.1.1 HKT.out.1.2 HKT.out.2.1 HKT.out.2.2).mono ?_); rintro e w9 ⟨rfl, O9, d9, o9, gr9⟩; have G9 := Lib.hid (G8.out.trans o9.bel); obtain ⟨rl9, as9⟩ := aside_step RL8.out AS7.out (fun i hi => (H8.out.own i hi).1) o9 gr9; have RL9 := Lib.hid rl9; have AS9 := Lib.hid as9; obtain ⟨D9, hD9⟩ : ∃ x, D7.crash keep torn = x := ⟨_, rfl⟩; rw [hD9] at d9 HCR; have H9 := Lib.hid d9; have HOP9 := Lib.hid (wopen_nfd w.heap.size O9 r 9 size D9 1 7 1 7 rfl rfl rs w9 (HENV.out.step G9.out) d9 HCR.out.1 (by decide) (by decide) HCR.out.2.1 (by have q1 := HCR.out.2.2.1; have q2 := E3.out; have q3 : (D3.light fuse).deeds = D3.deeds := rfl; omega) HCR.out.2.2.2.2); have HE9 : Hid (D9.deeds ≤ 3000) := (by have q1 := HCR.out.2.2.1; have q2 := E3.out; have q3 : (D3.light fuse).deeds = D3.deeds := rfl; unfold Hid; omega); clear d9 o9 gr9 rl9 as9 hD9)
          | (go_at_call 12; (with_reducible refine (HOP9.out).mono ?_); rintro e w10 ⟨D10, O10, gb, OG, OR, rv10, rfl, n10, ws10, e10, la10, d10, o10, gr10, lg10, ll10, ds10, dd10⟩; have G10 := Lib.hid (G9.out.trans o10.bel); obtain ⟨rl10, as10⟩ := aside_step RL9.out AS9.out (fun i hi => (H9.out.own i hi).1) o10 gr10; have RL10 := Lib.hid rl10; have AS10 := Lib.hid as10; have H10 := Lib.hid d10; have N10 := Lib.hid n10; have WS10 := Lib.hid ws10; have LA10 := Lib.hid la10; have HE10 : Hid (D10.deeds ≤ 4000) := (by have q1 := HE9.out; unfold Hid; omega); have L10 := Lib.hid (lg10.base G9.out.size); obtain ⟨ra, rc, rfl⟩ := ll10.size; have LL10 := Lib.hid ll10.argLL; obtain ⟨⟨mv, mc0, mll⟩, _⟩ := rl10; obtain ⟨ma, mcap, rfl⟩ := mll.size; have MA10 := Lib.hid mll.argLL; clear HOP9 as10 d10 o10 gr10 lg10 ll10 ds10 dd10 n10 ws10 e10 la10 mll)
          | (go_at_call 16; (with_reducible refine (same_yes _ _ rs _ LL10.out MA10.out HREC.out.byte HRL.out).mono ?_); rintro e w11 ⟨rfl, g11⟩; have G11 := Lib.hid (below_step G10.out g11); have RL11 := Lib.hid (RL10.out.after g11); have H11 := Lib.hid (H10.out.after g11); have L11 := Lib.hid (L10.out.after g11); clear mc0 g11 MA10)
          | (go_at_call 17; (with_reducible refine (wused_any _ _ _ r _ _ L11.out).mono ?_); rintro e w12 ⟨rfl, g12⟩; have G12 := Lib.hid (below_step G11.out g12); have RL12 := Lib.hid (RL11.out.after g12); have H12 := Lib.hid (H11.out.after g12); clear g12)
          | (go_at_call 18; (with_reducible refine (rused_any w.heap.size F mb rs (7 * size) _ RL12.out (by have q1 := HREC.out.used; have q2 := HMOST.out; omega)).mono ?_); rintro e w13 ⟨rfl, rfl⟩)
          | (go_at_call 15; (with_reducible refine (bdeeds_any _ _ _ _ _ H12.out (by have := HE10.out; omega)).mono ?_); rintro e w14 ⟨rfl, g14⟩; have G14 := Lib.hid (below_step G12.out g14); have RL14 := Lib.hid (RL12.out.after g14); have H14 := Lib.hid (H12.out.after g14); have HRG := Lib.hid (laid_reg (text_len HREC.out.used) (by have q1 := HCR.out.2.2.2.1.len; have q2 := HFIT.out; omega) LA10.out); have HOP14 := Lib.hid (wopen_nf w.heap.size O10 r 9 size D10 1 7 1 7 rfl rfl rs _ (HENV.out.step G14.out) H14.out N10.out (by decide) (by decide) WS10.out (by have := HE10.out; omega) HREC.out HRG.out.1); clear g14)
          | (go_at_call 12; (with_reducible refine (HOP14.out).mono ?_); rintro e w15 ⟨O15, gb15, OG15, OR15, rv15, rfl, d15, o15, gr15, lg15, ll15, ds15, dd15⟩; have G15 := Lib.hid (G14.out.trans o15.bel); obtain ⟨rl15, as15⟩ := aside_step RL14.out AS10.out (fun i hi => (H14.out.own i hi).1) o15 gr15; have RL15 := Lib.hid rl15; have H15 := Lib.hid d15; obtain ⟨ra15, rc15, rfl⟩ := ll15.size; have LL15 := Lib.hid ll15.argLL; obtain ⟨⟨mv15, mc15, mll⟩, _⟩ := rl15; obtain ⟨ma15, mcap15, rfl⟩ := mll.size; have MA15 := Lib.hid mll.argLL; clear HOP14 as15 d15 o15 gr15 lg15 ll15 ds15 dd15 mll))
        have SM := Lib.hid (fun W (hW : Below w15.heap.size w15 W) => same_yes _ _ rs W (LL15.out.below hW) (MA15.out.below hW) HREC.out.byte HRL.out)
        have DE := Lib.hid (fun W (hW : Below w15.heap.size w15 W) => bdeeds_any _ _ _ _ W (H15.out.after hW) (by have := HE10.out; omega))
        have AL := Lib.hid (fun W (hW : Below w15.heap.size w15 W) => all_nf w.heap.size O15 r D10 W (H15.out.after hW) N10.out.dark WS10.out (by have := HE10.out; omega))
        have TX := Lib.hid (fun W (hW : Below w15.heap.size w15 W) => rtext_any w.heap.size F mb rs (7 * size) W (RL15.out.after hW) HREC.out.used (by have := HMOST.out; omega) HREC.out.byte)
        have hz1 := fun W => slice_text_to Z HZB.out size (size : Int) rfl (by have := HFIT.out; omega) W
        have hz2 := fun W => slice_text_from Z HZB.out E8 (E8 : Int) rfl (by have q1 := HFIT.out; have q2 := HE8.out; omega) W
        have hEQ : D10.last = Z.take size ++ textL rs (7 * size) ++ Z.drop E8 := by
          have q := beside_is (HCR.out.2.2.2.1.trans HRG.out.2) _ HRG.out.1
          rw [Nat.one_mul, show size + 7 * size = E8 by have := HE8.out; omega] at q
          exact q
        have hl1 : (strOfNums (Z.take size)).size + (strOfNums (textL rs (7 * size))).size + (strOfNums (Z.drop E8)).size ≤ 1000000 := by
          have q2 := congrArg List.length hEQ
          rw [List.length_append, List.length_append] at q2
          have q3 := H15.out.ok.ll
          have q4 := H15.out.ok.most
          rw [rw_str_len, rw_str_len, rw_str_len]
          omega
        rw [hEQ] at AL
        rw [← strOfNums_append, ← strOfNums_append] at AL
        obtain ⟨XA, hXA⟩ : ∃ x, strOfNums (Z.take size) = x := ⟨_, rfl⟩
        obtain ⟨XB, hXB⟩ : ∃ x, strOfNums (textL rs (7 * size)) = x := ⟨_, rfl⟩
        obtain ⟨XC, hXC⟩ : ∃ x, strOfNums (Z.drop E8) = x := ⟨_, rfl⟩
        rw [hXA] at hz1 AL hl1
        rw [hXB] at TX AL hl1
        rw [hXC] at hz2 AL hl1
        have hj1 : ¬ (9223372036854775807 < XA.size + XB.size) := by omega
        have hj2 : ¬ (9223372036854775807 < XA.size + XB.size + XC.size) := by omega
        have f1 := cell_regrown mc15
        clear hXA hXB hXC hEQ hl1 mc15 hsl
        go_wp2
        refine wp_region_quiet_below (by kernel_rfl) (by kernel_rfl) ?_
        repeat (quiet_step (first
          | (go_at_call 16; exact Calls.regrown_of (SM.out _ (below_regrown _ _ _)))
          | (go_at_call 15; exact Calls.regrown_of (DE.out _ (below_regrown _ _ _)))
          | (go_at_call 9; exact Calls.regrown_of (AL.out _ (below_regrown _ _ _)))
          | (go_at_call 21; exact Calls.regrown_of (TX.out _ (below_regrown _ _ _)))))
        refine wpQuiet_nil ?_
        intro _ hw'
        obtain ⟨⟨dq, osq⟩, hw''⟩ := hw'
        subst hw''
        have hfin := Lib.hid (below_step G15.out (below_regrown w15 dq osq))
        clear f1
        generalize Go.Sort.grow (redrawn w15 dq) osq = W3 at hfin ⊢
        go_wp2
        go_ret
        exact ⟨rfl, hfin.out⟩

set_option maxRecDepth 100000 in
set_option maxHeartbeats 4000000 in
theorem walopens_short (zs : Int) (v : Value) (bb : List Int) (fuse keep torn : Int) (w : World) (env : Env w) (hv : ArgB w v bb) (h : zs < 32 ∨ 512 < zs ∨ 3000 < bb.length) :
    Calls Tryd.prog 5 #[.int .i64 zs, v, .int .i64 fuse, .int .i64 keep, .int .i64 torn] w fun e w' => e = .returned (.bool true) ∧ Below w.heap.size w w' := by
  have HENV := Lib.hid env
  obtain ⟨va, vcap, rfl⟩ := hv.size
  obtain ⟨BL, hBL⟩ : ∃ x, bb.length = x := ⟨_, rfl⟩
  rw [hBL] at h ⊢
  have hc : zs < 32 ∨ (¬ zs < 32 ∧ 512 < zs) ∨ (¬ zs < 32 ∧ ¬ 512 < zs ∧ (3000 : Int) < (BL : Int)) := by omega
  clear env hv hBL h
  rcases hc with g1 | ⟨g1, g2⟩ | ⟨g1, g2, g3⟩
  all_goals
    go_enter Tryd.func5, Tryd.ntmps5
    go_wp2_with (go_at_call 6; (with_reducible refine (wal_awake _ HENV.out).mono ?_); rintro e wa ⟨rfl, ga⟩; have GA := Lib.hid ga; clear ga)
    go_ret
    exact ⟨rfl, GA.out⟩
theorem walopens_walk (zs : Int) (v : Value) (bb : List Int) (fuse keep torn : Int) (w : World) (env : Env w) (hv : ArgB w v bb) (hb : ∀ z ∈ bb, 0 ≤ z ∧ z ≤ 255) (hf : -9223372036854775808 ≤ fuse ∧ fuse ≤ 9223372036854775807) (hk : -9223372036854775808 ≤ keep ∧ keep ≤ 9223372036854775807) (ht : -9223372036854775808 ≤ torn ∧ torn ≤ 9223372036854775807) :
    Calls Tryd.prog 5 #[.int .i64 zs, v, .int .i64 fuse, .int .i64 keep, .int .i64 torn] w fun e w' => e = .returned (.bool true) ∧ Below w.heap.size w w' := by
  by_cases h : zs < 32 ∨ 512 < zs ∨ 3000 < bb.length
  · exact walopens_short zs v bb fuse keep torn w env hv h
  · obtain ⟨size, rfl⟩ : ∃ size : Nat, zs = (size : Int) := ⟨zs.toNat, by omega⟩
    exact walopens_main size v bb fuse keep torn w env hv hb (by omega) (by omega) (by omega) hf.1 hf.2 hk.1 hk.2 ht.1 ht.2

end Go.Proofs.YtokngnpopnfkhaaDoor
