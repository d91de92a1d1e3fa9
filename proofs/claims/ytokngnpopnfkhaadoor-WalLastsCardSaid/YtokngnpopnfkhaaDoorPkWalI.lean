/-
  WalLasts, walked over the contracts of package wal's calls.
-/
import Derived.Test.YtokngnpopnfkhaaDoorPkWalH
namespace Go.Proofs.YtokngnpopnfkhaaDoor
open Go.RowKit

set_option maxRecDepth 100000 in
set_option maxHeartbeats 8000000 in
theorem wallasts_main (size : Nat) (lv mv : Value) (l : List ActW) (more : List Int) (fuse keep torn again keep2 torn2 : Int) (w : World) (env : Env w) (hlv : ActsW w lv l) (hl : ∀ x ∈ l, x.Ok) (hmv : ArgB w mv more) (hmb : ∀ z ∈ more, 0 ≤ z ∧ z ≤ 255) (s0 : 32 ≤ size) (s1 : size ≤ 512) (hlong : ¬ longL l) (hml : more.length ≤ 2000)
    (f0 : -9223372036854775808 ≤ fuse ∧ fuse ≤ 9223372036854775807) (k0 : -9223372036854775808 ≤ keep ∧ keep ≤ 9223372036854775807) (t0 : -9223372036854775808 ≤ torn ∧ torn ≤ 9223372036854775807) (a0 : -9223372036854775808 ≤ again ∧ again ≤ 9223372036854775807) (k2 : -9223372036854775808 ≤ keep2 ∧ keep2 ≤ 9223372036854775807) (t2 : -9223372036854775808 ≤ torn2 ∧ torn2 ≤ 9223372036854775807) :
    Calls Tryd.prog 4 #[.int .i64 (size : Int), lv, .agg #[.int .i64 fuse, .int .i64 keep, .int .i64 torn, .int .i64 again, .int .i64 keep2, .int .i64 torn2], mv] w fun e w' => e = .returned (.bool true) ∧ Below w.heap.size w w' := by
  have HENV := Lib.hid env
  have HLV := Lib.hid hlv
  have HL := Lib.hid hl
  have HM := Lib.hid hmv
  have HMB := Lib.hid hmb
  have HF := Lib.hid f0
  have HKT := Lib.hid (And.intro k0 t0)
  have HA := Lib.hid a0
  have HKT2 := Lib.hid (And.intro k2 t2)
  have HS := Lib.hid (And.intro s0 s1)
  have HLG := Lib.hid hlong
  have HLONG := Lib.hid (fun W (hW : Below w.heap.size w W) (lv' : Value) (h : ActsW W lv' l) => long_any lv' l W h)
  have HMK : Hid (∀ w, Calls Tryd.prog 8 #[.int .i64 9, .int .i64 (size : Int)] w fun e w' => ∃ r O D, e = .returned (.pointer (some ⟨r, 0, none⟩)) ∧ DskIs w' w.heap.size O r D ∧ NFd 9 size D ∧ D.waits = [] ∧ D.deeds ≤ 1000 ∧ Below w.heap.size w w') := fun w => marked_any 9 size w (by decide) (by decide) s0 s1
  obtain ⟨la, lcap, rfl⟩ := hlv.size
  obtain ⟨ma, mcap, rfl⟩ := hmv.size
  obtain ⟨N, hN⟩ : ∃ x, l.length = x := ⟨_, rfl⟩
  have HN := Lib.hid hN
  obtain ⟨ML, hML⟩ : ∃ x, more.length = x := ⟨_, rfl⟩
  have HML := Lib.hid hML
  rw [hML] at hml ⊢
  rw [hN] at HLV ⊢
  have hN60 : N ≤ 60 := by have q := hlong; unfold longL at q; omega
  have g1 : ¬ (size : Int) < 32 := by omega
  have g2 : ¬ (512 : Int) < (size : Int) := by omega
  have g3 : ¬ (2000 : Int) < (ML : Int) := by omega
  obtain ⟨xb, hxb⟩ : ∃ x, w.heap.size = x := ⟨_, rfl⟩
  obtain ⟨wx, hwx⟩ : ∃ y, w.alloc (.cells #[.int .i64 fuse, .int .i64 keep, .int .i64 torn, .int .i64 again, .int .i64 keep2, .int .i64 torn2] 47) = y := ⟨_, rfl⟩
  have HXC : Hid (∀ W, Below wx.heap.size wx W → W.cell? ⟨xb, 0, none⟩ = some (.int .i64 fuse) ∧ W.cell? ⟨xb, 1, none⟩ = some (.int .i64 keep) ∧ W.cell? ⟨xb, 2, none⟩ = some (.int .i64 torn) ∧ W.cell? ⟨xb, 3, none⟩ = some (.int .i64 again) ∧ W.cell? ⟨xb, 4, none⟩ = some (.int .i64 keep2) ∧ W.cell? ⟨xb, 5, none⟩ = some (.int .i64 torn2)) := fun W hW => by
    have hs : xb < wx.heap.size := by rw [← hwx, ← hxb]; simp
    have k := hW.block xb hs
    refine ⟨?_, ?_, ?_, ?_, ?_, ?_⟩
    all_goals (rw [World.cell?_of_block k, ← hwx, ← hxb, World.cell?_alloc_new]; rfl)
  have HBX : Hid (Below w.heap.size w wx) := by rw [← hwx]; exact (Below.refl _ _).alloc (Nat.le_refl _) _
  clear env hlv hl hmv hmb f0 k0 t0 a0 k2 t2 s0 s1 hlong hN hML
  go_enter Tryd.func4, Tryd.ntmps4
  go_upto_block 0 with (first
    | (go_at_call 6; (with_reducible refine (wal_awake _ (HENV.out.step HBX.out)).mono ?_); rintro e wa ⟨rfl, ga⟩; have GA := Lib.hid ga; have HLVA := Lib.hid ((HLV.out.below HBX.out).below ga); clear ga)
    | (go_at_call 7; (with_reducible refine (long_any _ l _ HLVA.out).mono ?_); rintro e wl ⟨b, rfl, hb, rfl⟩; obtain rfl : b = false := (by cases b; rfl; exact (HLG.out (hb.mp rfl)).elim); clear hb)
    | (go_at_call 8; (with_reducible refine (HMK.out _).mono ?_); rintro e wd ⟨r, O1, D1, rfl, d1, n1, ws1, de1, gd⟩; have GD := Lib.hid (below_step GA.out gd); have HF1 := Lib.hid (wformat_nf wx.heap.size O1 r 9 size D1 1 7 1 7 rfl rfl wd ((HENV.out.step HBX.out).step GD.out) (d1.base GA.out.size) n1 (by decide) (by decide) ws1 (by omega)); have HOK1 := Lib.hid (And.intro d1.ok (And.intro n1 de1)); clear d1 n1 ws1 de1 gd)
    | (go_at_call 10; (with_reducible refine (HF1.out).mono ?_); rintro e w2 ⟨D2, rfl, n2, ws2, de2, la2, O2, d2, o2, gr2⟩; have G2 := Lib.hid (GD.out.trans o2.bel); have HRG := Lib.hid (laid_reg (M := 7 * size) (by simp) (reg_fit HOK1.out.1 HOK1.out.2.1 (f := 1) (k := 7) (by decide)) la2); have HO2 := Lib.hid (wopen_nf wx.heap.size O2 r 9 size D2 1 7 1 7 rfl rfl [] w2 ((HENV.out.step HBX.out).step G2.out) d2 n2 (by decide) (by decide) ws2 (by have := HOK1.out.2.2; omega) (RecOk.nil _) (by rw [text_nil]; exact HRG.out.1)); have H2 := Lib.hid (And.intro n2 (And.intro ws2 (by have := HOK1.out.2.2; omega : D2.deeds ≤ 3000))); clear d2 o2 gr2 n2 ws2 de2 la2 HF1)
    | (go_at_call 12; (with_reducible refine (HO2.out).mono ?_); rintro e w3 ⟨O3, gb, OG, OR, rv, rfl, d3, o3, gr3, lg3, ll3, ds3, dd3⟩; have G3 := Lib.hid (G2.out.trans o3.bel); have L3 := Lib.hid (lg3.base G2.out.size); have D3 := Lib.hid d3; have DD := Lib.hid dd3; have HFU := Lib.hid (bfuse_any wx.heap.size O3 r D2 fuse w3 d3 HF.out.1 HF.out.2); obtain ⟨ra, rc, rfl⟩ := ll3.size; have xk0 := (HXC.out w3 G3.out).1; clear d3 o3 gr3 lg3 ll3 ds3 dd3 HO2)
    | (go_at_call 22; (with_reducible refine (HFU.out).mono ?_); rintro e w4 ⟨rfl, O4, d4, o4, gr4⟩; have G4 := Lib.hid (G3.out.trans o4.bel); have D4 := Lib.hid d4; have L4 := Lib.hid (L3.out.kept (fun i hi => o4.keep i (L3.out.own i hi).2 (DD.out i hi)) o4.size); have DD4 : Hid (∀ i, O4 i → ¬ OG i) := (fun i hi hg => by rcases gr4 i hi with hx | hx; exact DD.out i hg hx; have := (L3.out.own i hg).2; omega); clear d4 o4 gr4 HFU))
  have HRUN0 : Hid (Run wx ((w4.alloc (.cells #[] 38)).alloc (.cells #[] 38)) wx.heap.size r gb size (.slice (some ⟨w4.heap.size, 0, none⟩) 0 0) (.slice (some ⟨w4.heap.size + 1, 0, none⟩) 0 0) 5000) := by
    have hon : LogOn (D2.light fuse) ⟨1, 7, size, usedL [], false⟩ [] := by
      refine ⟨by show 1 ≤ 7; decide, by show 1 + 7 ≤ D2.n; rw [H2.out.1.n]; decide, by show size = D2.size; rw [H2.out.1.size], rfl, rfl, RecOk.nil _, ?_, H2.out.1.dark, H2.out.2.1⟩
      show regnL (1 * size) (7 * size) D2.last = textL [] (7 * size)
      rw [text_nil]; exact HRG.out.1
    have q := Run.start (w0 := wx) D4.out L4.out DD4.out hon H2.out.1.n H2.out.1.size (by show D2.deeds ≤ 5000; have := H2.out.2.2; omega) G4.out G4.out.size rfl rfl
    have e : (w4.alloc (.cells #[] 38)).heap.size = w4.heap.size + 1 := by simp
    rw [e] at q
    exact q
  clear g1 g2 g3
  go_cut [13, 14, 15, 16] from 55 to 80 (fun v13 v14 _ _ wr => Past wx wr wx.heap.size r size v13 v14)
  case first =>
    go_wp2_with fail
    go_loopw [13, 14, 15, 16] (fun v13 v14 v15 _ wr => ∃ i : Nat, v15 = .int .i64 (i : Int) ∧ i ≤ N ∧ Run wx wr wx.heap.size r gb size v13 v14 (5000 + i * 1000)) (fun _ _ v15 _ _ => N - (intOf v15).toNat)
    case atStart => exact ⟨0, rfl, Nat.zero_le _, HRUN0.out⟩
    case round =>
      obtain ⟨i, rfl, hi, hrun⟩ := hrel
      have HRUN := Lib.hid hrun
      by_cases hlt : i < N
      case neg =>
        obtain rfl : i = N := by omega
        have hli : ¬ (i : Int) < (i : Int) := by omega
        clear hrun
        go_wp2
        go_meet
        exact HRUN.out.past (by omega)
      case pos =>
      have hli : (i : Int) < (N : Int) := by omega
      obtain ⟨O, OG, FH, D, G, rs, h1, h2, h3, h4, h5, h6, h7, h8, h9, h10, _, h11, h12⟩ := hrun
      obtain ⟨hb0, hoff, bv, ela, hblt, hcells, hbvlt⟩ := (HLV.out.below HBX.out).one (i := i) (by rw [HN.out]; exact hlt)
      subst ela
      obtain ⟨b, hbb⟩ : ∃ b, (l.getD i {}).b = b := ⟨_, rfl⟩
      have hok := HL.out (l.getD i {}) (by rw [List.getD_eq_getElem?_getD, List.getElem?_eq_getElem (by rw [HN.out]; exact hlt)]; exact List.getElem_mem _)
      have hbl : b.length ≤ 2000 := by
        have q := HLG.out
        unfold longL at q
        rw [← hbb]
        exact Nat.le_of_not_lt (fun hx => q (Or.inr ⟨i, by rw [HN.out]; exact hlt, hx⟩))
      obtain ⟨kc0, kc1, kab⟩ := hcells wr _ rfl h12
      have hbyte := hok.b0
      rw [hbb] at kab hbyte hbvlt
      have HARG := Lib.hid (fun W (hW : Below wx.heap.size wx W) => (hcells W _ rfl hW).2.2)
      rw [hbb] at HARG
      obtain ⟨ba, bc, rfl⟩ := kab.size
      obtain ⟨BL, hBL⟩ : ∃ x, b.length = x := ⟨_, rfl⟩
      have HBL := Lib.hid hBL
      have HKAB := Lib.hid kab
      have HBY := Lib.hid hbyte
      have HBV := Lib.hid hbvlt
      have HBASE := Lib.hid h12.size
      have HENVR := Lib.hid ((HENV.out.step HBX.out).step h12)
      have HOB : Hid (∀ i, O i → wx.heap.size ≤ i ∧ i < wr.heap.size) := h1.own
      have HGB : Hid (∀ i, OG i → wx.heap.size ≤ i ∧ i < wr.heap.size) := h2.own
      have HOL : Hid (rs.length ≤ 1000000) := by
        have q1 := used_many rs
        have q2 := h4.ok.used
        have q3 : G.size = size := h4.sz.trans h6
        rw [h8, q3] at q2
        have q4 := HS.out.2
        unfold Hid; omega
      obtain ⟨a13, c13, rfl⟩ := h10.size
      have H1 := Lib.hid h1
      have H2R := Lib.hid h2
      have H3 := Lib.hid h3
      have H4 := Lib.hid h4
      have H56 := Lib.hid (And.intro h5 (And.intro h6 (And.intro h7 (And.intro h8 h9))))
      have H10 := Lib.hid h10
      have H11 := Lib.hid h11
      have H12 := Lib.hid h12
      have hiN := HN.out
      have hdd : D.deeds ≤ 900000 := by omega
      have HDD := Lib.hid hdd
      rw [hBL] at kc1
      clear hcells hok hbb h1 h2 h3 h4 h5 h6 h7 h8 h9 h10 h11 h12 hbyte hbvlt kab kc0 hiN hdd
      by_cases hfit : G.used + b.length + 10 ≤ G.n * G.size
      case neg =>
        have HAPP := Lib.hid (wappend_full wx.heap.size O OG r gb D G rs (.slice ba b.length bc) b wr HENVR.out H1.out H2R.out H4.out HKAB.out (by omega) (by omega))
        rw [hBL] at HAPP
        clear hfit hBL hbl
        go_wp2_with (first
          | (go_at_call 13; (with_reducible refine (HAPP.out).mono ?_); rintro e wa ⟨rfl, ga⟩; have GW := Lib.hid ga; have kc2 := (ga.cell (World.block_lt_of_cell? _ _ kc1)).trans kc1; have HWI := Lib.hid (rwith_any wx.heap.size FH (.slice a13 rs.length c13) (.slice ba b.length bc) rs b wa (H10.out.after ga) (HKAB.out.below ga) (fun hn k hk => Or.inr (HBV.out hn k hk)) (fun i hi => ⟨(H11.out i hi).1, Nat.lt_of_lt_of_le (H11.out i hi).2.1 ga.size⟩) (Nat.le_trans HBASE.out ga.size) HOL.out); rw [HBL.out] at HWI; clear ga)
          | (go_at_call 23; (with_reducible refine (HWI.out).mono ?_); rintro e w2 ⟨v2, rfl, _, g2⟩; have GW2 := Lib.hid (GW.out.trans (g2.mono GW.out.size)); clear g2))
        go_roundw
        case rel => exact ⟨i + 1, by go_num, hlt, by rw [show 5000 + (i + 1) * 1000 = 5000 + i * 1000 + 1000 by omega]; exact HRUN.out.full GW2.out HBASE.out⟩
        case measure => simp [intOf]; omega
      case pos =>
        have HFITT := Lib.hid hfit
        have HAPP := Lib.hid (wappend_any wx.heap.size O OG r gb D G rs (.slice ba b.length bc) b wr HENVR.out H1.out H2R.out H3.out H4.out HDD.out HKAB.out HBY.out (fun hn k hk => ⟨fun ho => by have q1 := (HOB.out k ho).1; have q2 := HBV.out hn k hk; omega, fun ho => by have q1 := (HGB.out k ho).1; have q2 := HBV.out hn k hk; omega⟩) hfit)
        rw [hBL] at HAPP
        clear hfit hBL hbl
        go_wp2_with (first
          | (go_at_call 13; (with_reducible refine (HAPP.out).mono ?_); rintro e wa ⟨c, D', O', OG', rfl, ⟨hst, ⟨rfl, hdn⟩ | ⟨rfl, hdn⟩⟩, hd', hg', hdis, ho, hgr⟩ <;> (have HST := Lib.hid hst; have HDN := Lib.hid hdn; have HO := Lib.hid ho; have GWA := Lib.hid (H12.out.trans ho.bel); have HLA : Hid (LLF wa wx.heap.size FH (.slice a13 rs.length c13) rs) := (H10.out.only ho (fun i hi hx => by rcases hx with hx | hx; exact (H11.out i hi).2.2.1 hx; exact (H11.out i hi).2.2.2 hx) (fun i hx => by rcases hx with hx | hx; exact (HOB.out i hx).1; exact (HGB.out i hx).1)); have hab := HARG.out wa GWA.out; have kc2 := (GWA.out.cell (p := ⟨hb0, hoff + i * 2 + 1, none⟩) hblt).trans ((H12.out.cell (p := ⟨hb0, hoff + i * 2 + 1, none⟩) hblt).symm.trans kc1); have HWI := Lib.hid (rwith_any wx.heap.size FH (.slice a13 rs.length c13) (.slice ba b.length bc) rs b wa HLA.out hab (fun hn k hk => Or.inr (HBV.out hn k hk)) (fun i hi => ⟨(H11.out i hi).1, Nat.lt_of_lt_of_le (H11.out i hi).2.1 ho.size⟩) (Nat.le_trans HBASE.out ho.size) HOL.out); rw [HBL.out] at HWI; have HPUT := Lib.hid (fun wb v14 (h14 : LLF wb wx.heap.size (fun i => FH i ∨ (wa.heap.size ≤ i ∧ i < wb.heap.size)) v14 (rs ++ [b])) (hbb : Below wa.heap.size wa wb) => put_mk (w0 := wx) (size := size) (D := D) HOB.out HGB.out H10.out H11.out H12.out hd' hg' hdis ho hgr h14 hbb HBASE.out); clear hst hdn ho hgr hd' hg' hdis hab))
          | (go_at_call 23; (with_reducible refine (HWI.out).mono ?_); rintro e w2 ⟨v2, rfl, l2, g2⟩; have HP := Lib.hid (HPUT.out w2 v2 l2 g2); clear l2 g2))
        · go_roundw
          case rel => exact ⟨i + 1, by go_num, hlt, by rw [show 5000 + (i + 1) * 1000 = 5000 + i * 1000 + 1000 by omega]; exact HP.out.run H4.out H1.out.ok ⟨HST.out, HDN.out⟩ HBY.out HFITT.out H56.out.1 H56.out.2.1 H56.out.2.2.1 H56.out.2.2.2.1 H56.out.2.2.2.2⟩
          case measure => simp [intOf]; omega
        · go_meet
          exact HP.out.past H4.out HST.out HDN.out HBY.out HFITT.out H56.out.1 H56.out.2.1 H56.out.2.2.1 H56.out.2.2.2.1 (by have := H56.out.2.2.2.2; omega)
  case rest =>
    obtain ⟨O, FH, D, rs, nx, h1, h2, h3, h4, h5, h6, h7, h8, h9, h10, h11⟩ := hcut
    obtain ⟨a13, c13, rfl⟩ := h5.size
    obtain ⟨a14, c14, rfl⟩ := h6.size
    have H1 := Lib.hid h1
    have HNS := Lib.hid (And.intro h2 (And.intro h3 h4))
    have L13 := Lib.hid h5
    have L14 := Lib.hid h6
    have H7 := Lib.hid h7
    have R13 := Lib.hid h8
    have R14 := Lib.hid h9
    have G0 := Lib.hid h11
    have HMOST := Lib.hid (seven_most HS.out.2)
    have HOO : Hid (∀ i, O i → wx.heap.size ≤ i) := fun i hi => (h1.own i hi).1
    obtain ⟨rs1, hrs1⟩ : ∃ x, (allL (regnL (1 * size) (7 * size) (D.left keep torn))).1 = x := ⟨_, rfl⟩
    have HOR : Hid (rs1 = rs ∨ rs1 = nx) := by rw [← hrs1]; exact h10 keep torn
    have HRS1 := Lib.hid hrs1
    have HREC : Hid (RecOk rs1 (7 * size)) := by
      rcases HOR.out with e | e
      · rw [e]; exact h8
      · rw [e]; exact h9
    have HRL : Hid (rs1.length ≤ 1000000) := by have q1 := used_many rs1; have q2 := HREC.out.used; have q3 := HMOST.out; unfold Hid; omega
    have HDD : Hid (D.deeds ≤ 1000000) := by unfold Hid; omega
    have HEN := Lib.hid (fun W (hW : Below wx.heap.size wx W) => (HENV.out.step HBX.out).step hW)
    have HMO := Lib.hid (fun W (hW : Below wx.heap.size wx W) => (HM.out.below HBX.out).below hW)
    have HMK : Hid (more ≠ [] → ∀ k, (Value.slice ma more.length mcap).ownBlock = some k → k < wx.heap.size) := fun hn k hk => Nat.lt_of_lt_of_le (HM.out.lt hn hk) HBX.out.size
    have xk1 := (HXC.out wc h11).2.1
    have xk2 := (HXC.out wc h11).2.2.1
    have HCR1 := Lib.hid (bcrash_any wx.heap.size O r D keep torn wc h1 HDD.out HKT.out.1.1 HKT.out.1.2 HKT.out.2.1 HKT.out.2.2)
    clear h1 h2 h3 h4 h5 h6 h7 h8 h9 h10 h11 hrs1
    go_upto_region 26 with (first
      | (go_at_call 24; (with_reducible refine (HCR1.out).mono ?_); rintro e w1 ⟨rfl, O1, d1, o1, gr1⟩; have G1 := Lib.hid (G0.out.trans o1.bel); have K13 := Lib.hid (L13.out.only o1 (fun i hi => (H7.out i hi).2.2) HOO.out); have K14 := Lib.hid (L14.out.only o1 (fun i hi => (H7.out i hi).2.2) HOO.out); have HF1 : Hid (∀ i, FH i → wx.heap.size ≤ i ∧ i < w1.heap.size ∧ ¬ O1 i) := (fun i hi => ⟨(H7.out i hi).1, Nat.lt_of_lt_of_le (H7.out i hi).2.1 o1.size, fun hx => by rcases gr1 i hx with hx | hx; exact (H7.out i hi).2.2 hx; have := (H7.out i hi).2.1; omega⟩); have HFU1 := Lib.hid (bfuse_any wx.heap.size O1 r (D.crash keep torn) again w1 d1 HA.out.1 HA.out.2); have D1own : Hid (∀ i, O1 i → wx.heap.size ≤ i) := (fun i hi => (d1.own i hi).1); have xk3 := (HXC.out w1 G1.out).2.2.2.1; clear d1 o1 gr1 HCR1 xk1 xk2)
      | (go_at_call 22; (with_reducible refine (HFU1.out).mono ?_); rintro e w2 ⟨rfl, O2, d2, o2, gr2⟩; have G2 := Lib.hid (G1.out.trans o2.bel); have K13b := Lib.hid (K13.out.only o2 (fun i hi => (HF1.out i hi).2.2) D1own.out); have K14b := Lib.hid (K14.out.only o2 (fun i hi => (HF1.out i hi).2.2) D1own.out); have HF2 : Hid (∀ i, FH i → wx.heap.size ≤ i ∧ i < w2.heap.size ∧ ¬ O2 i) := (fun i hi => ⟨(HF1.out i hi).1, Nat.lt_of_lt_of_le (HF1.out i hi).2.1 o2.size, fun hx => by rcases gr2 i hx with hx | hx; exact (HF1.out i hi).2.2 hx; have := (HF1.out i hi).2.1; omega⟩); have HFIT2 : Hid (1 * size + 7 * size ≤ ((D.crash keep torn).light again).last.length) := (by have q := d2.ok.ll; rw [show ((D.crash keep torn).light again).n = D.n from rfl, show ((D.crash keep torn).light again).size = D.size from rfl, HNS.out.1, HNS.out.2.1] at q; unfold Hid; omega); have HOP2 := Lib.hid (wopen_gen wx.heap.size O2 r 9 size ((D.crash keep torn).light again) 1 7 1 7 rfl rfl rs1 w2 (HEN.out w2 G2.out) d2 HNS.out.1 HNS.out.2.1 (by decide) (by decide) rfl rfl (by show D.deeds ≤ _; have := HNS.out.2.2; omega) G2.out.size HRS1.out); have D2own : Hid (∀ i, O2 i → wx.heap.size ≤ i) := (fun i hi => (d2.own i hi).1); clear d2 o2 gr2 HFU1 xk3)
      | (go_at_call 12; (with_reducible refine (HOP2.out).mono ?_); rintro e w3 ⟨c3, D3, O3, hout3, d3, o3, gr3, hcase⟩; obtain ⟨tv, rfl⟩ : ∃ tv, e = .returned tv := (by rcases hcase with ⟨_, _, _, q⟩ | ⟨_, _, _, _, _, _, q, _⟩; exact ⟨_, q⟩; exact ⟨_, q⟩); have G3 := Lib.hid (G2.out.trans o3.bel); have K13c := Lib.hid (K13b.out.only o3 (fun i hi => (HF2.out i hi).2.2) D2own.out); have K14c := Lib.hid (K14b.out.only o3 (fun i hi => (HF2.out i hi).2.2) D2own.out); have HF3 : Hid (∀ i, FH i → wx.heap.size ≤ i ∧ i < w3.heap.size ∧ ¬ O3 i) := (fun i hi => ⟨(HF2.out i hi).1, Nat.lt_of_lt_of_le (HF2.out i hi).2.1 o3.size, fun hx => by rcases gr3 i hx with hx | hx; exact (HF2.out i hi).2.2 hx; have := (HF2.out i hi).2.1; omega⟩); have HCR := Lib.hid (opens_crash (D := (D.crash keep torn).light again) (n := 9) (size := size) HNS.out.1 HNS.out.2.1 hout3 HFIT2.out HREC.out (by have := HMOST.out; omega) keep2 torn2); have HE3 : Hid (D3.deeds ≤ 200000) := (by have q1 := hout3.1.hi; have q2 := HNS.out.2.2; have q3 : ((D.crash keep torn).light again).deeds = D.deeds := rfl; unfold Hid; omega); have HCR3 := Lib.hid (bcrash_any wx.heap.size O3 r D3 keep2 torn2 w3 d3 (by have := HE3.out; omega) HKT2.out.1.1 HKT2.out.1.2 HKT2.out.2.1 HKT2.out.2.2); have D3own : Hid (∀ i, O3 i → wx.heap.size ≤ i) := (fun i hi => (d3.own i hi).1); have xk4 := (HXC.out w3 G3.out).2.2.2.2.1; have xk5 := (HXC.out w3 G3.out).2.2.2.2.2; clear d3 o3 gr3 hout3 hcase HOP2)
      | (go_at_call 24; (with_reducible refine (HCR3.out).mono ?_); rintro e w4 ⟨rfl, O4, d4, o4, gr4⟩; have G4 := Lib.hid (G3.out.trans o4.bel); have K13d := Lib.hid (K13c.out.only o4 (fun i hi => (HF3.out i hi).2.2) D3own.out); have K14d := Lib.hid (K14c.out.only o4 (fun i hi => (HF3.out i hi).2.2) D3own.out); have HF4 : Hid (∀ i, FH i → wx.heap.size ≤ i ∧ i < w4.heap.size ∧ ¬ O4 i) := (fun i hi => ⟨(HF3.out i hi).1, Nat.lt_of_lt_of_le (HF3.out i hi).2.1 o4.size, fun hx => by rcases gr4 i hx with hx | hx; exact (HF3.out i hi).2.2 hx; have := (HF3.out i hi).2.1; omega⟩); have HE4 : Hid ((D3.crash keep2 torn2).deeds ≤ 200000) := HE3.out; have HOP4 := Lib.hid (wopen_nfd wx.heap.size O4 r 9 size (D3.crash keep2 torn2) 1 7 1 7 rfl rfl rs1 w4 (HEN.out w4 G4.out) d4 HCR.out.1 (by decide) (by decide) HCR.out.2.1 (by have := HE4.out; omega) HCR.out.2.2.2.2); have D4own : Hid (∀ i, O4 i → wx.heap.size ≤ i) := (fun i hi => (d4.own i hi).1); have HFIT4 : Hid (1 * size + 7 * size ≤ (D3.crash keep2 torn2).last.length) := reg_fit d4.ok HCR.out.1 (f := 1) (k := 7) (by decide); clear d4 o4 gr4 HCR3 xk4 xk5)
      | (go_at_call 12; (with_reducible refine (HOP4.out).mono ?_); rintro e w5 ⟨D5, O5, gb5, OG5, OR5, rv5, rfl, n5, ws5, e5, la5, d5, o5, gr5, lg5, ll5, ds5, dd5⟩; have G5 := Lib.hid (G4.out.trans o5.bel); have HK13 := Lib.hid (K13d.out.only o5 (fun i hi => (HF4.out i hi).2.2) D4own.out).argLL; have HK14 := Lib.hid (K14d.out.only o5 (fun i hi => (HF4.out i hi).2.2) D4own.out).argLL; have HRG5 := Lib.hid (laid_reg (text_len HREC.out.used) HFIT4.out la5); have N5 := Lib.hid n5; have WS5 := Lib.hid ws5; have E5 : Hid (D5.deeds ≤ 300000) := (by have := HE4.out; unfold Hid; omega); have H5 := Lib.hid d5; have L5 := Lib.hid (lg5.base G4.out.size); have ON5 : Hid (LogOn D5 ⟨1, 7, size, usedL rs1, false⟩ rs1) := ⟨by show 1 ≤ 7; decide, by show 1 + 7 ≤ D5.n; rw [n5.n]; decide, n5.size.symm, rfl, rfl, HREC.out, HRG5.out.1, n5.dark, ws5⟩; obtain ⟨a5, c5, rfl⟩ := ll5.size; have LL5 := Lib.hid ll5; have DS5 := Lib.hid ds5; have DD5 := Lib.hid dd5; have W45 := Lib.hid G4.out.size; clear n5 ws5 e5 la5 d5 o5 gr5 lg5 ll5 ds5 dd5 HOP4))
    have HMO2 : Hid (∀ W, Below wx.heap.size wx W → ArgB W (.slice ma ML mcap) more) := fun W hW => by have q := HMO.out W hW; rw [HML.out] at q; exact q
    have HMK2 : Hid (more ≠ [] → ∀ k, (Value.slice ma ML mcap).ownBlock = some k → k < wx.heap.size) := by have q := HMK.out; rw [HML.out] at q; exact q
    have HRL8 : Hid (rs1.length ≤ 100000000) := by have := HRL.out; unfold Hid; omega
    have hml2 : more.length ≤ 2000 := by rw [HML.out]; exact hml
    have HML2 := Lib.hid hml2
    obtain ⟨E7, hE7⟩ : ∃ x : Nat, 7 * size = x := ⟨_, rfl⟩
    obtain ⟨E8, hE8⟩ : ∃ x : Nat, 8 * size = x := ⟨_, rfl⟩
    have hm7 : IntKind.i64.wrap (7 * (size : Int)) = (E7 : Int) := by have := HS.out.2; rw [IntKind.wrap_i64]; omega
    have hm8 : IntKind.i64.wrap (8 * (size : Int)) = (E8 : Int) := by have := HS.out.2; rw [IntKind.wrap_i64]; omega
    have HE7 := Lib.hid hE7
    have HE8 := Lib.hid hE8
    have HORK := HOR
    clear hE7 hE8 hml2 hml HMO HMK HOR K13 K14 K13b K14b K13c K14c K13d K14d L13 L14
    by_cases he : rs1 = rs
    case pos =>
      have hy : ArgLL w5 (.slice a13 rs.length c13) rs1 := by rw [he]; exact HK13.out
      have HS1 := Lib.hid (same_yes (.slice a5 rs1.length c5) (.slice a13 rs.length c13) rs1 w5 LL5.out.argLL hy HREC.out.byte HRL8.out)
      clear he hy
      go_upto_region 28 with (go_at_call 16; (with_reducible refine (HS1.out).mono ?_); rintro e w6 ⟨rfl, g6⟩; have G6 := Lib.hid (below_step G5.out g6); have H6 := Lib.hid (H5.out.after g6); have L6 := Lib.hid (L5.out.after g6); have LL6 := Lib.hid (LL5.out.after g6); have S56 := Lib.hid g6.size; clear g6)
      by_cases hfit : usedL rs1 + more.length + 10 ≤ 7 * size
      case neg =>
        have HAP := Lib.hid (wappend_full wx.heap.size O5 OG5 r gb5 D5 ⟨1, 7, size, usedL rs1, false⟩ rs1 (.slice ma ML mcap) more w6 (HEN.out w6 G6.out) H6.out L6.out ON5.out (HMO2.out w6 G6.out) (by have := HML2.out; omega) (by show 7 * size < usedL rs1 + more.length + 10; omega))
        have HNF := Lib.hid hfit
        clear hfit
        go_upto_region 32 with (first
          | (go_at_call 13; (with_reducible refine (HAP.out).mono ?_); rintro e w7 ⟨rfl, g7⟩; have G7 := Lib.hid (below_step G6.out g7); have H7d := Lib.hid (H6.out.after g7); have LL7 := Lib.hid (LL6.out.after g7); have hbx : Below w7.heap.size w7 (w7.alloc (.cells #[.slice a5 rs1.length c5, .int .i64 (E7 : Int)] 37)) := (Below.refl _ _).alloc (Nat.le_refl _) _; have HBX7 := Lib.hid hbx; have S67 := Lib.hid g7.size; have q57 : ∀ i, OR5 i → wx.heap.size ≤ i ∧ i < w7.heap.size := (fun i hi => by have q1 := DS5.out i hi; have q2 := S56.out; have q3 := g7.size; have q4 := W45.out; exact ⟨by omega, by omega⟩); have RL8 := Lib.hid (rlog_new (all := 7 * size) (za := (E7 : Int)) (by rw [HE7.out]) LL7.out q57 G7.out.size); have HRA := Lib.hid (rapp_full wx.heap.size OR5 w7.heap.size rs1 (7 * size) (.slice ma ML mcap) more _ RL8.out (HMO2.out _ (below_step G7.out hbx)) (by have := HNF.out; omega) HREC.out.used (by have := HMOST.out; omega) (by have := HML2.out; omega)); clear g7 hbx q57 HAP)
          | (go_at_call 14; (with_reducible refine (HRA.out).mono ?_); rintro e w9 ⟨rfl, g9⟩; have hfin : Fin wx w9 wx.heap.size r size w7.heap.size := (fin_full (H7d.out.after HBX7.out) N5.out WS5.out E5.out HREC.out HRG5.out.1 RL8.out (fun i hi => (DS5.out i hi).2.2.1) (fun hx => by have := (H7d.out.own _ hx).2; omega) (below_step G7.out HBX7.out) (Nat.le_trans G7.out.size HBX7.out.size) g9); have HFIN := Lib.hid hfin; clear hfin g9 HRA))
        obtain ⟨OF, FF, DF, LF, f1, f2, f3, f4, f5, f6, f7, f8, f9⟩ := HFIN.out
        obtain ⟨mm, hmm⟩ : ∃ x, w7.heap.size = x := ⟨_, rfl⟩
        rw [hmm] at f7 f8
        simp only [hmm]
        clear hmm
        have HD9 := Lib.hid f1
        have HN9 := Lib.hid (And.intro f2 (And.intro f3 f4))
        have HK9 := Lib.hid (And.intro f5 f6)
        have HR9 := Lib.hid f7
        have HA9 := Lib.hid f8
        have G9 := Lib.hid f9
        have HOP := Lib.hid (wopen_nf wx.heap.size OF r 9 size DF 1 7 1 7 rfl rfl LF w9 (HEN.out w9 f9) f1 f2 (by decide) (by decide) f3 (by omega) f5 f6)
        clear f1 f2 f3 f4 f5 f6 f7 f8 f9 HFIN
        go_upto_region 33 with (go_at_call 12; (with_reducible refine (HOP.out).mono ?_); rintro e w15 ⟨O15, gb15, OG15, OR15, rv15, rfl, d15, o15, gr15, lg15, ll15, ds15, dd15⟩; have G15 := Lib.hid (G9.out.trans o15.bel); obtain ⟨rl15, as15⟩ := aside_step HR9.out HA9.out (fun i hi => (HD9.out.own i hi).1) o15 gr15; have RL15 := Lib.hid rl15; have H15 := Lib.hid d15; obtain ⟨ra15, rc15, rfl⟩ := ll15.size; have LL15 := Lib.hid ll15.argLL; obtain ⟨⟨mv15, mc15, mll⟩, _⟩ := rl15; obtain ⟨ma15, mcap15, rfl⟩ := mll.size; have MA15 := Lib.hid mll.argLL; clear HOP as15 d15 o15 gr15 lg15 ll15 ds15 dd15 mll)
        have HLF : Hid (LF.length ≤ 100000000) := by have q1 := used_many LF; have q2 := HK9.out.1.used; have q3 := HMOST.out; unfold Hid; omega
        have SM := Lib.hid (fun W (hW : Below w15.heap.size w15 W) => same_yes _ _ LF W (LL15.out.below hW) (MA15.out.below hW) HK9.out.1.byte HLF.out)
        have AL := Lib.hid (fun W (hW : Below w15.heap.size w15 W) => all_nf wx.heap.size O15 r DF W (H15.out.after hW) HN9.out.1.dark HN9.out.2.1 (by have := HN9.out.2.2; omega))
        have TX := Lib.hid (fun W (hW : Below w15.heap.size w15 W) => rtext_any wx.heap.size FF mm LF (7 * size) W (RL15.out.after hW) HK9.out.1.used (by have := HMOST.out; omega) HK9.out.1.byte)
        have hZb := H15.out.ok.lb
        have hFit := reg_fit H15.out.ok HN9.out.1 (f := 1) (k := 7) (by decide)
        have hRg := HK9.out.2
        obtain ⟨Z, hZ⟩ : ∃ Z, DF.last = Z := ⟨_, rfl⟩
        rw [hZ] at hZb hFit hRg AL
        have hsl := fun W => slice_text Z hZb size (7 * size) (size : Int) (E8 : Int) rfl (by have := HE8.out; omega) (by omega) W
        rw [Nat.one_mul] at hRg
        rw [hRg] at hsl
        obtain ⟨XA, hXA⟩ : ∃ x, strOfNums Z = x := ⟨_, rfl⟩
        obtain ⟨XB, hXB⟩ : ∃ x, strOfNums (textL LF (7 * size)) = x := ⟨_, rfl⟩
        rw [hXA] at hsl AL
        rw [hXB] at hsl TX
        have f1 := cell_regrown mc15
        clear hXA hXB hZ hZb hFit hRg mc15
        go_wp2
        refine wp_region_quiet_below (by kernel_rfl) (by kernel_rfl) ?_
        repeat (quiet_step (first
          | (go_at_call 16; exact Calls.regrown_of (SM.out _ (below_regrown _ _ _)))
          | (go_at_call 9; exact Calls.regrown_of (AL.out _ (below_regrown _ _ _)))
          | (go_at_call 21; exact Calls.regrown_of (TX.out _ (below_regrown _ _ _)))))
        refine wpQuiet_nil ?_
        intro _ hw'
        obtain ⟨⟨dq, osq⟩, hw''⟩ := hw'
        subst hw''
        have hfin := Lib.hid (HBX.out.trans ((below_step G15.out (below_regrown w15 dq osq)).mono HBX.out.size))
        clear f1
        generalize Go.Sort.grow (redrawn w15 dq) osq = W3 at hfin ⊢
        go_wp2
        go_ret
        exact ⟨rfl, hfin.out⟩
      case pos =>
        have HAP := Lib.hid (wappend_nf wx.heap.size O5 OG5 r gb5 9 size D5 ⟨1, 7, size, usedL rs1, false⟩ rs1 (.slice ma ML mcap) more w6 (HEN.out w6 G6.out) H6.out L6.out (fun i hi hg => DD5.out i hg hi) ON5.out (by have := E5.out; omega) N5.out (HMO2.out w6 G6.out) HMB.out (fun hn k hk => ⟨fun ho => by have q1 := (H5.out.own k ho).1; have q2 := HMK2.out hn k hk; omega, fun ho => by have q1 := (L5.out.own k ho).1; have q2 := HMK2.out hn k hk; omega⟩) hfit)
        have HFT := Lib.hid hfit
        clear hfit
        go_upto_region 32 with (first
          | (go_at_call 13; (with_reducible refine (HAP.out).mono ?_); rintro e w7 ⟨D7, O7, OG7, rfl, n7, de7, d7, lg7, on7, bs7, dis7, o7, gr7⟩; have G7 := Lib.hid (G6.out.trans o7.bel); have H7d := Lib.hid d7; have hor : ∀ i, OR5 i → i < w6.heap.size ∧ ¬ O5 i ∧ ¬ OG5 i := (fun i hi => ⟨Nat.lt_of_lt_of_le (DS5.out i hi).2.1 S56.out, (DS5.out i hi).2.2⟩); have HOR7 := Lib.hid hor; have LL7 := Lib.hid (LL6.out.only o7 (fun i hi hx => by rcases hx with hx | hx; exact (hor i hi).2.1 hx; exact (hor i hi).2.2 hx) (fun i hx => by rcases hx with hx | hx; exact (H5.out.own i hx).1; exact (L5.out.own i hx).1)); have hbx : Below w7.heap.size w7 (w7.alloc (.cells #[.slice a5 rs1.length c5, .int .i64 (E7 : Int)] 37)) := (Below.refl _ _).alloc (Nat.le_refl _) _; have HBX7 := Lib.hid hbx; have q57 : ∀ i, OR5 i → wx.heap.size ≤ i ∧ i < w7.heap.size := (fun i hi => by have q1 := DS5.out i hi; have q2 := (hor i hi).1; have q3 := o7.size; have q4 := W45.out; exact ⟨by omega, by omega⟩); have RL8 := Lib.hid (rlog_new (all := 7 * size) (za := (E7 : Int)) (by rw [HE7.out]) LL7.out q57 G7.out.size); have HRA := Lib.hid (rapp_done wx.heap.size OR5 w7.heap.size rs1 (7 * size) (.slice ma ML mcap) more _ RL8.out (HMO2.out _ (below_step G7.out hbx)) (fun hn k hk hx => by have q1 := HMK2.out hn k hk; have q2 := (q57 k hx).1; omega) (Nat.le_trans G7.out.size hbx.size) HFT.out (by have := HMOST.out; omega)); have HN7 := Lib.hid (And.intro n7 (And.intro (by have := E5.out; omega : D7.deeds ≤ 400000) (And.intro on7 (And.intro o7 gr7)))); clear hbx q57 hor HAP n7 de7 d7 lg7 on7 bs7 dis7 o7 gr7)
          | (go_at_call 14; (with_reducible refine (HRA.out).mono ?_); rintro e w9 ⟨rfl, rl9, o9⟩; have hfin : Fin wx w9 wx.heap.size r size w7.heap.size := (fin_done (w := w6) (G := ⟨1, 7, size, usedL rs1, false⟩) HOR7.out HN7.out.1 HN7.out.2.1 H7d.out HN7.out.2.2.1 rfl rfl rfl HN7.out.2.2.2.1 HN7.out.2.2.2.2 rfl HBX7.out (by simp) rl9 o9 G6.out G6.out.size); have HFIN := Lib.hid hfin; clear hfin rl9 o9 HRA))
        obtain ⟨OF, FF, DF, LF, f1, f2, f3, f4, f5, f6, f7, f8, f9⟩ := HFIN.out
        obtain ⟨mm, hmm⟩ : ∃ x, w7.heap.size = x := ⟨_, rfl⟩
        rw [hmm] at f7 f8
        simp only [hmm]
        clear hmm
        have HD9 := Lib.hid f1
        have HN9 := Lib.hid (And.intro f2 (And.intro f3 f4))
        have HK9 := Lib.hid (And.intro f5 f6)
        have HR9 := Lib.hid f7
        have HA9 := Lib.hid f8
        have G9 := Lib.hid f9
        have HOP := Lib.hid (wopen_nf wx.heap.size OF r 9 size DF 1 7 1 7 rfl rfl LF w9 (HEN.out w9 f9) f1 f2 (by decide) (by decide) f3 (by omega) f5 f6)
        clear f1 f2 f3 f4 f5 f6 f7 f8 f9 HFIN
        go_upto_region 33 with (go_at_call 12; (with_reducible refine (HOP.out).mono ?_); rintro e w15 ⟨O15, gb15, OG15, OR15, rv15, rfl, d15, o15, gr15, lg15, ll15, ds15, dd15⟩; have G15 := Lib.hid (G9.out.trans o15.bel); obtain ⟨rl15, as15⟩ := aside_step HR9.out HA9.out (fun i hi => (HD9.out.own i hi).1) o15 gr15; have RL15 := Lib.hid rl15; have H15 := Lib.hid d15; obtain ⟨ra15, rc15, rfl⟩ := ll15.size; have LL15 := Lib.hid ll15.argLL; obtain ⟨⟨mv15, mc15, mll⟩, _⟩ := rl15; obtain ⟨ma15, mcap15, rfl⟩ := mll.size; have MA15 := Lib.hid mll.argLL; clear HOP as15 d15 o15 gr15 lg15 ll15 ds15 dd15 mll)
        have HLF : Hid (LF.length ≤ 100000000) := by have q1 := used_many LF; have q2 := HK9.out.1.used; have q3 := HMOST.out; unfold Hid; omega
        have SM := Lib.hid (fun W (hW : Below w15.heap.size w15 W) => same_yes _ _ LF W (LL15.out.below hW) (MA15.out.below hW) HK9.out.1.byte HLF.out)
        have AL := Lib.hid (fun W (hW : Below w15.heap.size w15 W) => all_nf wx.heap.size O15 r DF W (H15.out.after hW) HN9.out.1.dark HN9.out.2.1 (by have := HN9.out.2.2; omega))
        have TX := Lib.hid (fun W (hW : Below w15.heap.size w15 W) => rtext_any wx.heap.size FF mm LF (7 * size) W (RL15.out.after hW) HK9.out.1.used (by have := HMOST.out; omega) HK9.out.1.byte)
        have hZb := H15.out.ok.lb
        have hFit := reg_fit H15.out.ok HN9.out.1 (f := 1) (k := 7) (by decide)
        have hRg := HK9.out.2
        obtain ⟨Z, hZ⟩ : ∃ Z, DF.last = Z := ⟨_, rfl⟩
        rw [hZ] at hZb hFit hRg AL
        have hsl := fun W => slice_text Z hZb size (7 * size) (size : Int) (E8 : Int) rfl (by have := HE8.out; omega) (by omega) W
        rw [Nat.one_mul] at hRg
        rw [hRg] at hsl
        obtain ⟨XA, hXA⟩ : ∃ x, strOfNums Z = x := ⟨_, rfl⟩
        obtain ⟨XB, hXB⟩ : ∃ x, strOfNums (textL LF (7 * size)) = x := ⟨_, rfl⟩
        rw [hXA] at hsl AL
        rw [hXB] at hsl TX
        have f1 := cell_regrown mc15
        clear hXA hXB hZ hZb hFit hRg mc15
        go_wp2
        refine wp_region_quiet_below (by kernel_rfl) (by kernel_rfl) ?_
        repeat (quiet_step (first
          | (go_at_call 16; exact Calls.regrown_of (SM.out _ (below_regrown _ _ _)))
          | (go_at_call 9; exact Calls.regrown_of (AL.out _ (below_regrown _ _ _)))
          | (go_at_call 21; exact Calls.regrown_of (TX.out _ (below_regrown _ _ _)))))
        refine wpQuiet_nil ?_
        intro _ hw'
        obtain ⟨⟨dq, osq⟩, hw''⟩ := hw'
        subst hw''
        have hfin := Lib.hid (HBX.out.trans ((below_step G15.out (below_regrown w15 dq osq)).mono HBX.out.size))
        clear f1
        generalize Go.Sort.grow (redrawn w15 dq) osq = W3 at hfin ⊢
        go_wp2
        go_ret
        exact ⟨rfl, hfin.out⟩
    case neg =>
      obtain rfl : rs1 = nx := by rcases HORK.out with e | e; exact (he e).elim; exact e
      have HS1 := Lib.hid ((rcsame_any (.slice a5 rs1.length c5) (.slice a13 rs.length c13) rs1 rs w5 LL5.out.argLL HK13.out HREC.out.byte R13.out.byte HRL8.out).mono (fun e w' ⟨h, g⟩ => (And.intro (by rw [h, decide_eq_false he]) g : e = Ending.returned (Value.bool false) ∧ Below w5.heap.size w5 w')))
      clear he
      go_upto_region 28 with (first
        | (go_at_call 16; (with_reducible refine (HS1.out).mono ?_); rintro e wa ⟨rfl, ga⟩; have HS2 := Lib.hid (same_yes (.slice a5 rs1.length c5) (.slice a14 rs1.length c14) rs1 wa (LL5.out.after ga).argLL (HK14.out.below ga) HREC.out.byte HRL8.out); have GA5 := Lib.hid ga; clear HS1 ga)
        | (go_at_call 16; (with_reducible refine (HS2.out).mono ?_); rintro e w6 ⟨rfl, gb6⟩; have g6 := below_step GA5.out gb6; have G6 := Lib.hid (below_step G5.out g6); have H6 := Lib.hid (H5.out.after g6); have L6 := Lib.hid (L5.out.after g6); have LL6 := Lib.hid (LL5.out.after g6); have S56 := Lib.hid g6.size; clear g6 gb6))
      by_cases hfit : usedL rs1 + more.length + 10 ≤ 7 * size
      case neg =>
        have HAP := Lib.hid (wappend_full wx.heap.size O5 OG5 r gb5 D5 ⟨1, 7, size, usedL rs1, false⟩ rs1 (.slice ma ML mcap) more w6 (HEN.out w6 G6.out) H6.out L6.out ON5.out (HMO2.out w6 G6.out) (by have := HML2.out; omega) (by show 7 * size < usedL rs1 + more.length + 10; omega))
        have HNF := Lib.hid hfit
        clear hfit
        go_upto_region 32 with (first
          | (go_at_call 13; (with_reducible refine (HAP.out).mono ?_); rintro e w7 ⟨rfl, g7⟩; have G7 := Lib.hid (below_step G6.out g7); have H7d := Lib.hid (H6.out.after g7); have LL7 := Lib.hid (LL6.out.after g7); have hbx : Below w7.heap.size w7 (w7.alloc (.cells #[.slice a5 rs1.length c5, .int .i64 (E7 : Int)] 37)) := (Below.refl _ _).alloc (Nat.le_refl _) _; have HBX7 := Lib.hid hbx; have S67 := Lib.hid g7.size; have q57 : ∀ i, OR5 i → wx.heap.size ≤ i ∧ i < w7.heap.size := (fun i hi => by have q1 := DS5.out i hi; have q2 := S56.out; have q3 := g7.size; have q4 := W45.out; exact ⟨by omega, by omega⟩); have RL8 := Lib.hid (rlog_new (all := 7 * size) (za := (E7 : Int)) (by rw [HE7.out]) LL7.out q57 G7.out.size); have HRA := Lib.hid (rapp_full wx.heap.size OR5 w7.heap.size rs1 (7 * size) (.slice ma ML mcap) more _ RL8.out (HMO2.out _ (below_step G7.out hbx)) (by have := HNF.out; omega) HREC.out.used (by have := HMOST.out; omega) (by have := HML2.out; omega)); clear g7 hbx q57 HAP)
          | (go_at_call 14; (with_reducible refine (HRA.out).mono ?_); rintro e w9 ⟨rfl, g9⟩; have hfin : Fin wx w9 wx.heap.size r size w7.heap.size := (fin_full (H7d.out.after HBX7.out) N5.out WS5.out E5.out HREC.out HRG5.out.1 RL8.out (fun i hi => (DS5.out i hi).2.2.1) (fun hx => by have := (H7d.out.own _ hx).2; omega) (below_step G7.out HBX7.out) (Nat.le_trans G7.out.size HBX7.out.size) g9); have HFIN := Lib.hid hfin; clear hfin g9 HRA))
        obtain ⟨OF, FF, DF, LF, f1, f2, f3, f4, f5, f6, f7, f8, f9⟩ := HFIN.out
        obtain ⟨mm, hmm⟩ : ∃ x, w7.heap.size = x := ⟨_, rfl⟩
        rw [hmm] at f7 f8
        simp only [hmm]
        clear hmm
        have HD9 := Lib.hid f1
        have HN9 := Lib.hid (And.intro f2 (And.intro f3 f4))
        have HK9 := Lib.hid (And.intro f5 f6)
        have HR9 := Lib.hid f7
        have HA9 := Lib.hid f8
        have G9 := Lib.hid f9
        have HOP := Lib.hid (wopen_nf wx.heap.size OF r 9 size DF 1 7 1 7 rfl rfl LF w9 (HEN.out w9 f9) f1 f2 (by decide) (by decide) f3 (by omega) f5 f6)
        clear f1 f2 f3 f4 f5 f6 f7 f8 f9 HFIN
        go_upto_region 33 with (go_at_call 12; (with_reducible refine (HOP.out).mono ?_); rintro e w15 ⟨O15, gb15, OG15, OR15, rv15, rfl, d15, o15, gr15, lg15, ll15, ds15, dd15⟩; have G15 := Lib.hid (G9.out.trans o15.bel); obtain ⟨rl15, as15⟩ := aside_step HR9.out HA9.out (fun i hi => (HD9.out.own i hi).1) o15 gr15; have RL15 := Lib.hid rl15; have H15 := Lib.hid d15; obtain ⟨ra15, rc15, rfl⟩ := ll15.size; have LL15 := Lib.hid ll15.argLL; obtain ⟨⟨mv15, mc15, mll⟩, _⟩ := rl15; obtain ⟨ma15, mcap15, rfl⟩ := mll.size; have MA15 := Lib.hid mll.argLL; clear HOP as15 d15 o15 gr15 lg15 ll15 ds15 dd15 mll)
        have HLF : Hid (LF.length ≤ 100000000) := by have q1 := used_many LF; have q2 := HK9.out.1.used; have q3 := HMOST.out; unfold Hid; omega
        have SM := Lib.hid (fun W (hW : Below w15.heap.size w15 W) => same_yes _ _ LF W (LL15.out.below hW) (MA15.out.below hW) HK9.out.1.byte HLF.out)
        have AL := Lib.hid (fun W (hW : Below w15.heap.size w15 W) => all_nf wx.heap.size O15 r DF W (H15.out.after hW) HN9.out.1.dark HN9.out.2.1 (by have := HN9.out.2.2; omega))
        have TX := Lib.hid (fun W (hW : Below w15.heap.size w15 W) => rtext_any wx.heap.size FF mm LF (7 * size) W (RL15.out.after hW) HK9.out.1.used (by have := HMOST.out; omega) HK9.out.1.byte)
        have hZb := H15.out.ok.lb
        have hFit := reg_fit H15.out.ok HN9.out.1 (f := 1) (k := 7) (by decide)
        have hRg := HK9.out.2
        obtain ⟨Z, hZ⟩ : ∃ Z, DF.last = Z := ⟨_, rfl⟩
        rw [hZ] at hZb hFit hRg AL
        have hsl := fun W => slice_text Z hZb size (7 * size) (size : Int) (E8 : Int) rfl (by have := HE8.out; omega) (by omega) W
        rw [Nat.one_mul] at hRg
        rw [hRg] at hsl
        obtain ⟨XA, hXA⟩ : ∃ x, strOfNums Z = x := ⟨_, rfl⟩
        obtain ⟨XB, hXB⟩ : ∃ x, strOfNums (textL LF (7 * size)) = x := ⟨_, rfl⟩
        rw [hXA] at hsl AL
        rw [hXB] at hsl TX
        have f1 := cell_regrown mc15
        clear hXA hXB hZ hZb hFit hRg mc15
        go_wp2
        refine wp_region_quiet_below (by kernel_rfl) (by kernel_rfl) ?_
        repeat (quiet_step (first
          | (go_at_call 16; exact Calls.regrown_of (SM.out _ (below_regrown _ _ _)))
          | (go_at_call 9; exact Calls.regrown_of (AL.out _ (below_regrown _ _ _)))
          | (go_at_call 21; exact Calls.regrown_of (TX.out _ (below_regrown _ _ _)))))
        refine wpQuiet_nil ?_
        intro _ hw'
        obtain ⟨⟨dq, osq⟩, hw''⟩ := hw'
        subst hw''
        have hfin := Lib.hid (HBX.out.trans ((below_step G15.out (below_regrown w15 dq osq)).mono HBX.out.size))
        clear f1
        generalize Go.Sort.grow (redrawn w15 dq) osq = W3 at hfin ⊢
        go_wp2
        go_ret
        exact ⟨rfl, hfin.out⟩
      case pos =>
        have HAP := Lib.hid (wappend_nf wx.heap.size O5 OG5 r gb5 9 size D5 ⟨1, 7, size, usedL rs1, false⟩ rs1 (.slice ma ML mcap) more w6 (HEN.out w6 G6.out) H6.out L6.out (fun i hi hg => DD5.out i hg hi) ON5.out (by have := E5.out; omega) N5.out (HMO2.out w6 G6.out) HMB.out (fun hn k hk => ⟨fun ho => by have q1 := (H5.out.own k ho).1; have q2 := HMK2.out hn k hk; omega, fun ho => by have q1 := (L5.out.own k ho).1; have q2 := HMK2.out hn k hk; omega⟩) hfit)
        have HFT := Lib.hid hfit
        clear hfit
        go_upto_region 32 with (first
          | (go_at_call 13; (with_reducible refine (HAP.out).mono ?_); rintro e w7 ⟨D7, O7, OG7, rfl, n7, de7, d7, lg7, on7, bs7, dis7, o7, gr7⟩; have G7 := Lib.hid (G6.out.trans o7.bel); have H7d := Lib.hid d7; have hor : ∀ i, OR5 i → i < w6.heap.size ∧ ¬ O5 i ∧ ¬ OG5 i := (fun i hi => ⟨Nat.lt_of_lt_of_le (DS5.out i hi).2.1 S56.out, (DS5.out i hi).2.2⟩); have HOR7 := Lib.hid hor; have LL7 := Lib.hid (LL6.out.only o7 (fun i hi hx => by rcases hx with hx | hx; exact (hor i hi).2.1 hx; exact (hor i hi).2.2 hx) (fun i hx => by rcases hx with hx | hx; exact (H5.out.own i hx).1; exact (L5.out.own i hx).1)); have hbx : Below w7.heap.size w7 (w7.alloc (.cells #[.slice a5 rs1.length c5, .int .i64 (E7 : Int)] 37)) := (Below.refl _ _).alloc (Nat.le_refl _) _; have HBX7 := Lib.hid hbx; have q57 : ∀ i, OR5 i → wx.heap.size ≤ i ∧ i < w7.heap.size := (fun i hi => by have q1 := DS5.out i hi; have q2 := (hor i hi).1; have q3 := o7.size; have q4 := W45.out; exact ⟨by omega, by omega⟩); have RL8 := Lib.hid (rlog_new (all := 7 * size) (za := (E7 : Int)) (by rw [HE7.out]) LL7.out q57 G7.out.size); have HRA := Lib.hid (rapp_done wx.heap.size OR5 w7.heap.size rs1 (7 * size) (.slice ma ML mcap) more _ RL8.out (HMO2.out _ (below_step G7.out hbx)) (fun hn k hk hx => by have q1 := HMK2.out hn k hk; have q2 := (q57 k hx).1; omega) (Nat.le_trans G7.out.size hbx.size) HFT.out (by have := HMOST.out; omega)); have HN7 := Lib.hid (And.intro n7 (And.intro (by have := E5.out; omega : D7.deeds ≤ 400000) (And.intro on7 (And.intro o7 gr7)))); clear hbx q57 hor HAP n7 de7 d7 lg7 on7 bs7 dis7 o7 gr7)
          | (go_at_call 14; (with_reducible refine (HRA.out).mono ?_); rintro e w9 ⟨rfl, rl9, o9⟩; have hfin : Fin wx w9 wx.heap.size r size w7.heap.size := (fin_done (w := w6) (G := ⟨1, 7, size, usedL rs1, false⟩) HOR7.out HN7.out.1 HN7.out.2.1 H7d.out HN7.out.2.2.1 rfl rfl rfl HN7.out.2.2.2.1 HN7.out.2.2.2.2 rfl HBX7.out (by simp) rl9 o9 G6.out G6.out.size); have HFIN := Lib.hid hfin; clear hfin rl9 o9 HRA))
        obtain ⟨OF, FF, DF, LF, f1, f2, f3, f4, f5, f6, f7, f8, f9⟩ := HFIN.out
        obtain ⟨mm, hmm⟩ : ∃ x, w7.heap.size = x := ⟨_, rfl⟩
        rw [hmm] at f7 f8
        simp only [hmm]
        clear hmm
        have HD9 := Lib.hid f1
        have HN9 := Lib.hid (And.intro f2 (And.intro f3 f4))
        have HK9 := Lib.hid (And.intro f5 f6)
        have HR9 := Lib.hid f7
        have HA9 := Lib.hid f8
        have G9 := Lib.hid f9
        have HOP := Lib.hid (wopen_nf wx.heap.size OF r 9 size DF 1 7 1 7 rfl rfl LF w9 (HEN.out w9 f9) f1 f2 (by decide) (by decide) f3 (by omega) f5 f6)
        clear f1 f2 f3 f4 f5 f6 f7 f8 f9 HFIN
        go_upto_region 33 with (go_at_call 12; (with_reducible refine (HOP.out).mono ?_); rintro e w15 ⟨O15, gb15, OG15, OR15, rv15, rfl, d15, o15, gr15, lg15, ll15, ds15, dd15⟩; have G15 := Lib.hid (G9.out.trans o15.bel); obtain ⟨rl15, as15⟩ := aside_step HR9.out HA9.out (fun i hi => (HD9.out.own i hi).1) o15 gr15; have RL15 := Lib.hid rl15; have H15 := Lib.hid d15; obtain ⟨ra15, rc15, rfl⟩ := ll15.size; have LL15 := Lib.hid ll15.argLL; obtain ⟨⟨mv15, mc15, mll⟩, _⟩ := rl15; obtain ⟨ma15, mcap15, rfl⟩ := mll.size; have MA15 := Lib.hid mll.argLL; clear HOP as15 d15 o15 gr15 lg15 ll15 ds15 dd15 mll)
        have HLF : Hid (LF.length ≤ 100000000) := by have q1 := used_many LF; have q2 := HK9.out.1.used; have q3 := HMOST.out; unfold Hid; omega
        have SM := Lib.hid (fun W (hW : Below w15.heap.size w15 W) => same_yes _ _ LF W (LL15.out.below hW) (MA15.out.below hW) HK9.out.1.byte HLF.out)
        have AL := Lib.hid (fun W (hW : Below w15.heap.size w15 W) => all_nf wx.heap.size O15 r DF W (H15.out.after hW) HN9.out.1.dark HN9.out.2.1 (by have := HN9.out.2.2; omega))
        have TX := Lib.hid (fun W (hW : Below w15.heap.size w15 W) => rtext_any wx.heap.size FF mm LF (7 * size) W (RL15.out.after hW) HK9.out.1.used (by have := HMOST.out; omega) HK9.out.1.byte)
        have hZb := H15.out.ok.lb
        have hFit := reg_fit H15.out.ok HN9.out.1 (f := 1) (k := 7) (by decide)
        have hRg := HK9.out.2
        obtain ⟨Z, hZ⟩ : ∃ Z, DF.last = Z := ⟨_, rfl⟩
        rw [hZ] at hZb hFit hRg AL
        have hsl := fun W => slice_text Z hZb size (7 * size) (size : Int) (E8 : Int) rfl (by have := HE8.out; omega) (by omega) W
        rw [Nat.one_mul] at hRg
        rw [hRg] at hsl
        obtain ⟨XA, hXA⟩ : ∃ x, strOfNums Z = x := ⟨_, rfl⟩
        obtain ⟨XB, hXB⟩ : ∃ x, strOfNums (textL LF (7 * size)) = x := ⟨_, rfl⟩
        rw [hXA] at hsl AL
        rw [hXB] at hsl TX
        have f1 := cell_regrown mc15
        clear hXA hXB hZ hZb hFit hRg mc15
        go_wp2
        refine wp_region_quiet_below (by kernel_rfl) (by kernel_rfl) ?_
        repeat (quiet_step (first
          | (go_at_call 16; exact Calls.regrown_of (SM.out _ (below_regrown _ _ _)))
          | (go_at_call 9; exact Calls.regrown_of (AL.out _ (below_regrown _ _ _)))
          | (go_at_call 21; exact Calls.regrown_of (TX.out _ (below_regrown _ _ _)))))
        refine wpQuiet_nil ?_
        intro _ hw'
        obtain ⟨⟨dq, osq⟩, hw''⟩ := hw'
        subst hw''
        have hfin := Lib.hid (HBX.out.trans ((below_step G15.out (below_regrown w15 dq osq)).mono HBX.out.size))
        clear f1
        generalize Go.Sort.grow (redrawn w15 dq) osq = W3 at hfin ⊢
        go_wp2
        go_ret
        exact ⟨rfl, hfin.out⟩

set_option maxRecDepth 100000 in
set_option maxHeartbeats 8000000 in
theorem wallasts_short (zs : Int) (lv mv : Value) (l : List ActW) (more : List Int) (fuse keep torn again keep2 torn2 : Int) (w : World) (env : Env w) (hlv : ActsW w lv l) (hmv : ArgB w mv more) (h : zs < 32 ∨ 512 < zs ∨ longL l ∨ 2000 < more.length) :
    Calls Tryd.prog 4 #[.int .i64 zs, lv, .agg #[.int .i64 fuse, .int .i64 keep, .int .i64 torn, .int .i64 again, .int .i64 keep2, .int .i64 torn2], mv] w fun e w' => e = .returned (.bool true) ∧ Below w.heap.size w w' := by
  have HENV := Lib.hid env
  have HLV := Lib.hid hlv
  obtain ⟨la, lcap, rfl⟩ := hlv.size
  obtain ⟨ma, mcap, rfl⟩ := hmv.size
  obtain ⟨N, hN⟩ : ∃ x, l.length = x := ⟨_, rfl⟩
  obtain ⟨ML, hML⟩ : ∃ x, more.length = x := ⟨_, rfl⟩
  rw [hML] at h ⊢
  rw [hN] at HLV ⊢
  obtain ⟨wx, hwx⟩ : ∃ y, w.alloc (.cells #[.int .i64 fuse, .int .i64 keep, .int .i64 torn, .int .i64 again, .int .i64 keep2, .int .i64 torn2] 47) = y := ⟨_, rfl⟩
  have HBX : Hid (Below w.heap.size w wx) := by rw [← hwx]; exact (Below.refl _ _).alloc (Nat.le_refl _) _
  have hc : zs < 32 ∨ (¬ zs < 32 ∧ 512 < zs) ∨ (¬ zs < 32 ∧ ¬ 512 < zs ∧ longL l) ∨ (¬ zs < 32 ∧ ¬ 512 < zs ∧ ¬ longL l ∧ (2000 : Int) < (ML : Int)) := by
    by_cases q1 : zs < 32
    · exact Or.inl q1
    · by_cases q2 : 512 < zs
      · exact Or.inr (Or.inl ⟨q1, q2⟩)
      · by_cases q3 : longL l
        · exact Or.inr (Or.inr (Or.inl ⟨q1, q2, q3⟩))
        · exact Or.inr (Or.inr (Or.inr ⟨q1, q2, q3, by rcases h with h | h | h | h; exact (q1 h).elim; exact (q2 h).elim; exact (q3 h).elim; omega⟩))
  clear env hlv hmv h hN hML
  rcases hc with g1 | ⟨g1, g2⟩ | ⟨g1, g2, g3⟩ | ⟨g1, g2, g3, g4⟩
  · go_enter Tryd.func4, Tryd.ntmps4
    go_wp2_with (go_at_call 6; (with_reducible refine (wal_awake _ (HENV.out.step HBX.out)).mono ?_); rintro e wa ⟨rfl, ga⟩; have GA := Lib.hid ga; clear ga)
    go_ret
    exact ⟨rfl, HBX.out.trans (GA.out.mono HBX.out.size)⟩
  · go_enter Tryd.func4, Tryd.ntmps4
    go_wp2_with (go_at_call 6; (with_reducible refine (wal_awake _ (HENV.out.step HBX.out)).mono ?_); rintro e wa ⟨rfl, ga⟩; have GA := Lib.hid ga; clear ga)
    go_ret
    exact ⟨rfl, HBX.out.trans (GA.out.mono HBX.out.size)⟩
  · have HLG := Lib.hid g3
    clear g3
    go_enter Tryd.func4, Tryd.ntmps4
    go_wp2_with (first
      | (go_at_call 6; (with_reducible refine (wal_awake _ (HENV.out.step HBX.out)).mono ?_); rintro e wa ⟨rfl, ga⟩; have GA := Lib.hid ga; have HLVA := Lib.hid ((HLV.out.below HBX.out).below ga); clear ga)
      | (go_at_call 7; (with_reducible refine (long_any _ l _ HLVA.out).mono ?_); rintro e wl ⟨b, rfl, hb, rfl⟩; obtain rfl : b = true := hb.mpr HLG.out; clear hb))
    go_ret
    exact ⟨rfl, HBX.out.trans (GA.out.mono HBX.out.size)⟩
  · have HLG := Lib.hid g3
    clear g3
    go_enter Tryd.func4, Tryd.ntmps4
    go_wp2_with (first
      | (go_at_call 6; (with_reducible refine (wal_awake _ (HENV.out.step HBX.out)).mono ?_); rintro e wa ⟨rfl, ga⟩; have GA := Lib.hid ga; have HLVA := Lib.hid ((HLV.out.below HBX.out).below ga); clear ga)
      | (go_at_call 7; (with_reducible refine (long_any _ l _ HLVA.out).mono ?_); rintro e wl ⟨b, rfl, hb, rfl⟩; obtain rfl : b = false := (by cases b; rfl; exact (HLG.out (hb.mp rfl)).elim); clear hb))
    go_ret
    exact ⟨rfl, HBX.out.trans (GA.out.mono HBX.out.size)⟩
theorem wallasts_walk (zs : Int) (lv mv : Value) (l : List ActW) (more : List Int) (fuse keep torn again keep2 torn2 : Int) (w : World) (env : Env w) (hlv : ActsW w lv l) (hl : ∀ x ∈ l, x.Ok) (hmv : ArgB w mv more) (hmb : ∀ z ∈ more, 0 ≤ z ∧ z ≤ 255)
    (f0 : -9223372036854775808 ≤ fuse ∧ fuse ≤ 9223372036854775807) (k0 : -9223372036854775808 ≤ keep ∧ keep ≤ 9223372036854775807) (t0 : -9223372036854775808 ≤ torn ∧ torn ≤ 9223372036854775807) (a0 : -9223372036854775808 ≤ again ∧ again ≤ 9223372036854775807) (k2 : -9223372036854775808 ≤ keep2 ∧ keep2 ≤ 9223372036854775807) (t2 : -9223372036854775808 ≤ torn2 ∧ torn2 ≤ 9223372036854775807) :
    Calls Tryd.prog 4 #[.int .i64 zs, lv, .agg #[.int .i64 fuse, .int .i64 keep, .int .i64 torn, .int .i64 again, .int .i64 keep2, .int .i64 torn2], mv] w fun e w' => e = .returned (.bool true) ∧ Below w.heap.size w w' := by
  by_cases h : zs < 32 ∨ 512 < zs ∨ longL l ∨ 2000 < more.length
  · exact wallasts_short zs lv mv l more fuse keep torn again keep2 torn2 w env hlv hmv h
  · obtain ⟨size, rfl⟩ : ∃ size : Nat, zs = (size : Int) := ⟨zs.toNat, by omega⟩
    exact wallasts_main size lv mv l more fuse keep torn again keep2 torn2 w env hlv hl hmv hmb (by omega) (by omega) (fun q => h (Or.inr (Or.inr (Or.inl q)))) (by omega) f0 k0 t0 a0 k2 t2

end Go.Proofs.YtokngnpopnfkhaaDoor
