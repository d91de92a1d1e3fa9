/-
  SlotsLasts, walked over the contracts of package slots' calls.
-/
import Derived.Test.YtbhmkmfjbafdcaaDoorPkSltH
import Derived.Lib.QuietBelow
import Derived.Deep.CutBlock
import Derived.Deep.DeepCutAuto
import Derived.Deep.CutRange
namespace Go.Proofs.YtbhmkmfjbafdcaaDoor
open Go.RowKit

/-- What each operation of the two looks has made. -/
def TLa (l : List Value) (P : Nat × List Int) : Nat → Value → World → Prop
  | 4, v, w => SnapV w v P
  | 9, _, _ => True
  | 10, _, _ => True
  | 11, _, _ => True
  | 12, _, _ => True
  | 13, _, _ => True
  | k, v, _ => v = l.getD k undef
theorem TLa.keep {l : List Value} {P : Nat × List Int} (i : Nat) (v : Value) (w w' : World) (h : TLa l P i v w) (hb : Below w.heap.size w w') : TLa l P i v w' := by
  unfold TLa at h ⊢
  split at h
  · exact h.below hb
  · exact trivial
  · exact trivial
  · exact trivial
  · exact trivial
  · exact trivial
  · exact h
def TLb (l : List Value) (P : Nat × List Int) : Nat → Value → World → Prop
  | 4, v, w => SnapV w v P
  | 10, v, w => SnapV w v P
  | k, v, _ => v = l.getD k undef
theorem TLb.keep {l : List Value} {P : Nat × List Int} (i : Nat) (v : Value) (w w' : World) (h : TLb l P i v w) (hb : Below w.heap.size w w') : TLb l P i v w' := by
  unfold TLb at h ⊢
  split at h
  · exact h.below hb
  · exact h.below hb
  · exact h
def TLc (l : List Value) (P : Nat × List Int) : Nat → Value → World → Prop
  | 9, v, w => SnapV w v P
  | 15, v, w => SnapV w v P
  | k, v, _ => v = l.getD k undef
theorem TLc.keep {l : List Value} {P : Nat × List Int} (i : Nat) (v : Value) (w w' : World) (h : TLc l P i v w) (hb : Below w.heap.size w w') : TLc l P i v w' := by
  unfold TLc at h ⊢
  split at h
  · exact h.below hb
  · exact h.below hb
  · exact h
/-- At first. -/
theorem rs_start {w0 w : World} {base r gs size : Nat} {D : Dsk} {O OS : Foot} (d : DskIs w base O r D) (n : D.n = 9) (sz : D.size = size) (g : SlIs w base OS gs r ⟨1, 3, size, 0, [], false⟩) (on : SlotsOn D ⟨1, 3, size, 0, [], false⟩) (dis : ∀ i, O i → ¬ OS i) (bel : Below base w0 w) :
    RS w0 ((w.alloc (.cells #[.int .u64 0, .slice none 0 0] 38)).alloc (.cells #[.int .u64 0, .slice none 0 0] 38)) base r w.heap.size (w.heap.size + 1) size (0, []) D gs (.int .u64 0) (.slice none 0 0) (.int .u64 0) (.slice none 0 0) := by
  have hlo : base ≤ w.heap.size := by have := d.own r d.mem; omega
  obtain ⟨w1, hw1⟩ : ∃ x, w.alloc (.cells #[.int .u64 0, .slice none 0 0] 38) = x := ⟨_, rfl⟩
  have b1 : Below w.heap.size w w1 := by rw [← hw1]; exact (Below.refl _ _).alloc (Nat.le_refl _) _
  have s1 : w1.heap.size = w.heap.size + 1 := by rw [← hw1]; simp
  have b2 : Below w1.heap.size w1 (w1.alloc (.cells #[.int .u64 0, .slice none 0 0] 38)) := (Below.refl _ _).alloc (Nat.le_refl _) _
  have v1 : Var2 w1 w.heap.size (.int .u64 0) (.slice none 0 0) := by rw [← hw1]; exact Var2.fresh w _ _ _ _ rfl
  have b3 := below_step b1 b2
  rw [hw1]
  exact ⟨O, OS, d.after b3, n, sz, g.after b3, on, dis, v1.after b2, Var2.fresh w1 _ _ _ _ s1.symm, hlo, by omega, fun q => by rcases q with q | q; exact absurd (d.own _ q).2 (by omega); exact absurd (g.own _ q).2 (by omega), fun q => by rcases q with q | q; exact absurd (d.own _ q).2 (by omega); exact absurd (g.own _ q).2 (by omega), by omega, bel.trans (b3.mono hlo)⟩
/-- Behind the loop: the last one that was told so, and the one that was being put. -/
def PastS (w0 w : World) (base r hv nv size : Nat) : Prop :=
  ∃ (D : Dsk) (H X : Nat × List Int) (ha xa : Option Addr) (hc xc : Nat), PS w0 w base r hv nv size D (.int .u64 (H.1 : Int)) (.slice ha H.2.length hc) (.int .u64 (X.1 : Int)) (.slice xa X.2.length xc) ∧ D.deeds ≤ 100000 ∧ (∀ W, Below base w0 W → ArgB W (.slice ha H.2.length hc) H.2) ∧ (∀ W, Below base w0 W → ArgB W (.slice xa X.2.length xc) X.2) ∧
    H.1 ≤ 18446744073709551615 ∧ X.1 ≤ 18446744073709551615 ∧ (∀ z ∈ H.2, 0 ≤ z ∧ z ≤ 255) ∧ (∀ z ∈ X.2, 0 ≤ z ∧ z ≤ 255) ∧ ∀ k t, slotsL (1 * size) (3 * size) (D.left k t) = H ∨ slotsL (1 * size) (3 * size) (D.left k t) = X
theorem same_hold {w1 : World} {xv : Value} {T H : Nat × List Int} {h1 : Int} {y : Value} (hx : SnapV w1 xv T) (hh : SnapV w1 (.agg #[.int .u64 h1, y]) H) (tb : ∀ z ∈ T.2, 0 ≤ z ∧ z ≤ 255) (hb : ∀ z ∈ H.2, 0 ≤ z ∧ z ≤ 255) (b : Bool) (e : decide (T = H) = b) :
    Calls Tryd.prog 17 #[xv, .agg #[.int .u64 h1, y]] w1 fun e w' => e = .returned (.bool b) ∧ Below w1.heap.size w1 w' := by
  subst e
  exact rssame_any xv _ T H w1 hx hh tb hb

set_option maxRecDepth 100000 in
set_option maxHeartbeats 8000000 in
theorem sltlasts_main (size : Nat) (lv mv : Value) (l : List ActW) (more : List Int) (fuse keep torn again keep2 torn2 : Int) (w : World) (env : Env w) (hlv : ActsW w lv l) (hl : ∀ x ∈ l, x.Ok) (hmv : ArgB w mv more) (hmb : ∀ z ∈ more, 0 ≤ z ∧ z ≤ 255) (s0 : 32 ≤ size) (s1 : size ≤ 512) (hlong : ¬ longL l) (hml : more.length ≤ 2000)
    (f0 : -9223372036854775808 ≤ fuse ∧ fuse ≤ 9223372036854775807) (k0 : -9223372036854775808 ≤ keep ∧ keep ≤ 9223372036854775807) (t0 : -9223372036854775808 ≤ torn ∧ torn ≤ 9223372036854775807) :
    Calls Tryd.prog 4 #[.int .i64 (size : Int), lv, .agg #[.int .i64 fuse, .int .i64 keep, .int .i64 torn, .int .i64 again, .int .i64 keep2, .int .i64 torn2], mv] w fun e w' => e = .returned (.bool true) ∧ Below w.heap.size w w' := by
  have HENV := Lib.hid env
  have HLV := Lib.hid hlv
  have HL := Lib.hid hl
  have HM := Lib.hid hmv
  have HMB := Lib.hid hmb
  have HF := Lib.hid f0
  have HKT := Lib.hid (And.intro k0 t0)
  have HS := Lib.hid (And.intro s0 s1)
  have HLG := Lib.hid hlong
  have HMK : Hid (∀ w, Calls Tryd.prog 8 #[.int .i64 9, .int .i64 (size : Int)] w fun e w' => ∃ r O D, e = .returned (.pointer (some ⟨r, 0, none⟩)) ∧ DskIs w' w.heap.size O r D ∧ NFd 9 size D ∧ D.waits = [] ∧ D.deeds ≤ 1000 ∧ Below w.heap.size w w') := fun w => marked_any 9 size w (by decide) (by decide) s0 s1
  obtain ⟨la, lcap, rfl⟩ := hlv.size
  obtain ⟨qa, qcap, rfl⟩ := hmv.size
  obtain ⟨NL, hN⟩ : ∃ x, l.length = x := ⟨_, rfl⟩
  have HN := Lib.hid hN
  obtain ⟨ML, hML⟩ : ∃ x, more.length = x := ⟨_, rfl⟩
  have HML := Lib.hid hML
  have HMLE := Lib.hid hml
  rw [hML] at hml ⊢
  rw [hN] at HLV ⊢
  have hN60 : NL ≤ 60 := by have q := hlong; unfold longL at q; omega
  have g1 : ¬ (size : Int) < 32 := by omega
  have g2 : ¬ (512 : Int) < (size : Int) := by omega
  have g3 : ¬ (2000 : Int) < (ML : Int) := by omega
  obtain ⟨E, hE⟩ : ∃ x, 3 * size = x := ⟨_, rfl⟩
  have HE := Lib.hid hE
  have m1 : IntKind.i64.wrap (3 * (size : Int)) = (E : Int) := by rw [IntKind.wrap_i64]; omega
  obtain ⟨xb, hxb⟩ : ∃ x, w.heap.size = x := ⟨_, rfl⟩
  obtain ⟨wx, hwx⟩ : ∃ y, w.alloc (.cells #[.int .i64 fuse, .int .i64 keep, .int .i64 torn, .int .i64 again, .int .i64 keep2, .int .i64 torn2] 48) = y := ⟨_, rfl⟩
  have HXC : Hid (∀ W, Below wx.heap.size wx W → W.cell? ⟨xb, 0, none⟩ = some (.int .i64 fuse) ∧ W.cell? ⟨xb, 1, none⟩ = some (.int .i64 keep) ∧ W.cell? ⟨xb, 2, none⟩ = some (.int .i64 torn)) := fun W hW => by
    have hs : xb < wx.heap.size := by rw [← hwx, ← hxb]; simp
    have k := hW.block xb hs
    refine ⟨?_, ?_, ?_⟩
    all_goals (rw [World.cell?_of_block k, ← hwx, ← hxb, World.cell?_alloc_new]; rfl)
  have HBX : Hid (Below w.heap.size w wx) := by rw [← hwx]; exact (Below.refl _ _).alloc (Nat.le_refl _) _
  have HEN := Lib.hid (fun W (hW : Below wx.heap.size wx W) => (HENV.out.step HBX.out).step hW)
  have HMO : Hid (∀ W, Below wx.heap.size wx W → ArgB W (.slice qa ML qcap) more) := fun W hW => by have q := (HM.out.below HBX.out).below hW; rw [HML.out] at q; exact q
  have HMK2 : Hid (more ≠ [] → ∀ k, (Value.slice qa ML qcap).ownBlock = some k → k < wx.heap.size) := fun hn k hk => Nat.lt_of_lt_of_le (HM.out.lt hn (by rw [HML.out]; exact hk)) HBX.out.size
  clear env hlv hl hmv hmb f0 k0 t0 s0 s1 hlong hN hML hE
  go_enter Tryd.func4, Tryd.ntmps4
  go_upto_block 0 with (first
    | (go_at_call 6; (with_reducible refine (slt_awake _ (HENV.out.step HBX.out)).mono ?_); rintro e wa ⟨rfl, ga⟩; have GA := Lib.hid ga; have HLVA := Lib.hid ((HLV.out.below HBX.out).below ga); clear ga)
    | (go_at_call 7; (with_reducible refine (long_any _ l _ HLVA.out).mono ?_); rintro e wl ⟨b, rfl, hb, rfl⟩; obtain rfl : b = false := (by cases b; rfl; exact (HLG.out (hb.mp rfl)).elim); clear hb)
    | (go_at_call 8; (with_reducible refine (HMK.out _).mono ?_); rintro e wd ⟨r, O1, D1, rfl, d1, n1, ws1, de1, gd⟩; have GD := Lib.hid (below_step GA.out gd); have HDE1 := Lib.hid de1; have HF1 := Lib.hid (sformat_nf wx.heap.size O1 r 9 size D1 1 3 1 3 rfl rfl wd (HEN.out wd GD.out) (d1.base GA.out.size) n1 (by decide) (by decide) ws1 (by omega)); clear d1 n1 ws1 de1 gd)
    | (go_at_call 10; (with_reducible refine (HF1.out).mono ?_); rintro e w2 ⟨D2, rfl, n2, ws2, de2, sn2, bs2, O2, d2, o2, gr2⟩; have G2 := Lib.hid (GD.out.trans o2.bel); have HDE2 : Hid (D2.deeds ≤ 3000) := (by have := HDE1.out; unfold Hid; omega); have HO2 := Lib.hid (sopen_nf wx.heap.size O2 r 9 size D2 1 3 1 3 rfl rfl 0 [] w2 (HEN.out w2 G2.out) d2 n2 (by decide) (by decide) ws2 (by have := HDE2.out; omega) sn2); have N2 := Lib.hid (And.intro n2 (And.intro ws2 sn2)); have H2d := Lib.hid d2; clear d2 o2 gr2 n2 ws2 de2 sn2 bs2 HF1)
    | (go_at_call 11; (with_reducible refine (HO2.out).mono ?_); rintro e w3 ⟨gs, OS, rfl, g3', sl3⟩; have G3 := Lib.hid (below_step G2.out g3'); have L3 := Lib.hid (sl3.base G2.out.size); have D3 := Lib.hid (H2d.out.after g3'); have DD3 : Hid (∀ i, O2 i → ¬ OS i) := (fun i hi hx => by have q1 := (H2d.out.own i hi).2; have q2 := (sl3.own i hx).1; omega); have HFU := Lib.hid (bfuse_any wx.heap.size O2 r D2 fuse w3 D3.out HF.out.1 HF.out.2); have xk0 := (HXC.out w3 G3.out).1; clear g3' sl3 HO2)
    | (go_at_call 20; (with_reducible refine (HFU.out).mono ?_); rintro e w4 ⟨rfl, O4, d4, o4, gr4⟩; have G4 := Lib.hid (G3.out.trans o4.bel); have L4 := Lib.hid (L3.out.kept (fun i hi => o4.keep i (L3.out.own i hi).2 (fun q => DD3.out i q hi)) o4.size); have DD4 : Hid (∀ i, O4 i → ¬ OS i) := (fun i hi hg => by rcases gr4 i hi with hx | hx; exact DD3.out i hx hg; have := (L3.out.own i hg).2; omega); have HRS0 := Lib.hid (rs_start (w0 := wx) (size := size) d4 N2.out.1.n N2.out.1.size L4.out (show SlotsOn (D2.light fuse) ⟨1, 3, size, 0, [], false⟩ from ⟨by show 1 ≤ 3; decide, by show 1 + 2 * 3 ≤ D2.n; rw [N2.out.1.n]; decide, N2.out.1.size.symm, rfl, N2.out.2.2, by show 0 ≤ _; decide, N2.out.1.dark, N2.out.2.1⟩) DD4.out G4.out); clear d4 o4 gr4 HFU xk0))
  obtain ⟨hv, hhv⟩ : ∃ x, w4.heap.size = x := ⟨_, rfl⟩
  obtain ⟨nv, hnv⟩ : ∃ x, hv + 1 = x := ⟨_, rfl⟩
  rw [hhv, hnv] at HRS0
  simp only [hhv, hnv]
  clear hhv hnv g1 g2 g3
  go_cut [14, 15, 16, 17] from 57 to 88 (fun _ _ _ _ wr => PastS wx wr wx.heap.size r hv nv size)
  case first =>
    go_wp2_with fail
    go_loopw [14, 15, 16, 17] (fun v14 _ _ _ wr => ∃ (i : Nat) (P : Nat × List Int) (D : Dsk) (ma : Option Addr) (mc : Nat), v14 = .int .i64 (i : Int) ∧ i ≤ NL ∧ RS wx wr wx.heap.size r hv nv size P D gs (.int .u64 (P.1 : Int)) (.slice ma P.2.length mc) (.int .u64 (P.1 : Int)) (.slice ma P.2.length mc) ∧ D.deeds ≤ 5000 + i * 1000 ∧ (∀ z ∈ P.2, 0 ≤ z ∧ z ≤ 255) ∧ ∀ W, Below wx.heap.size wx W → ArgB W (.slice ma P.2.length mc) P.2) (fun v14 _ _ _ _ => NL - (intOf v14).toNat)
    case atStart => exact ⟨0, (0, []), D2.light fuse, none, 0, rfl, Nat.zero_le _, HRS0.out, by show D2.deeds ≤ _; have := HDE2.out; omega, (fun z hz => by cases hz), fun W _ => ArgB.nil W⟩
    case round =>
      obtain ⟨i, P, D, ma, mc, rfl, hi, hrs, hde, hpb, hma⟩ := hrel
      have HRS := Lib.hid hrs
      by_cases hlt : i < NL
      case neg =>
        obtain rfl : i = NL := by omega
        have hli : ¬ (i : Int) < (i : Int) := by omega
        have hf : PastS wx wr wx.heap.size r hv nv size := ⟨D, P, P, ma, ma, mc, mc, hrs.past, by omega, hma, hma, hrs.p1, hrs.p1, hpb, hpb, fun k t => Or.inl (hrs.left k t)⟩
        have HFF := Lib.hid hf
        clear hrs hma hpb hf
        go_wp2
        go_meet
        exact HFF.out
      case pos =>
      have hli : (i : Int) < (NL : Int) := by omega
      obtain ⟨bb, bo, bv, ela, hblt, hcells, hbvlt⟩ := (HLV.out.below HBX.out).one (i := i) (by rw [HN.out]; exact hlt)
      subst ela
      obtain ⟨b, hbb⟩ : ∃ b, (l.getD i {}).b = b := ⟨_, rfl⟩
      have hok := HL.out (l.getD i {}) (by rw [List.getD_eq_getElem?_getD, List.getElem?_eq_getElem (by rw [HN.out]; exact hlt)]; exact List.getElem_mem _)
      have hbl : b.length ≤ 2000 := by
        have q := HLG.out
        unfold longL at q
        rw [← hbb]
        exact Nat.le_of_not_lt (fun hx => q (Or.inr ⟨i, by rw [HN.out]; exact hlt, hx⟩))
      have hbyte := hok.b0
      have HCELL := Lib.hid (fun W (hW : Below wx.heap.size wx W) => hcells W _ rfl hW)
      rw [hbb] at HCELL hbyte hbvlt
      obtain ⟨ba, bc, hbve⟩ := (HCELL.out wr hrs.bel).2.2.size
      obtain ⟨BL, hBL⟩ : ∃ x, b.length = x := ⟨_, rfl⟩
      rw [hBL] at hbve
      subst hbve
      have vm := hrs.var.1
      have hd0 : D.deeds ≤ 900000 := by omega
      obtain ⟨M, xa, xc, cc, hcc, hrp, hxa, hm1, hmb, hpp⟩ := both_rs hrs HEN.out (.slice ba BL bc) b (fun W hW => (HCELL.out W hW).2.2) hbyte hpb hbvlt hbl hd0 (by have := HS.out.2; omega) ma mc hma
      have HDE : Hid (D.deeds ≤ 5000 + i * 1000 ∧ i ≤ 60) := ⟨hde, by omega⟩
      have HP1 := Lib.hid hrs.p1
      have HPB := Lib.hid (And.intro hpb hma)
      obtain ⟨pe, hpe⟩ : ∃ x, P.1 = x := ⟨_, rfl⟩
      obtain ⟨pn, hpn⟩ : ∃ x, P.2.length = x := ⟨_, rfl⟩
      obtain ⟨xe, hxe⟩ : ∃ x, M.1 = x := ⟨_, rfl⟩
      obtain ⟨xn, hxn⟩ : ∃ x, M.2.length = x := ⟨_, rfl⟩
      have HPEN := Lib.hid (And.intro hpe (And.intro hpn (And.intro hxe hxn)))
      have HMV := Lib.hid (And.intro hxa (And.intro hm1 hmb))
      rw [hpe, hpn, HE.out, hxe, hxn] at hrp
      rw [hpe, hpn] at vm HRS
      have HRP := Lib.hid hrp
      have HMC := Lib.hid (fun W (hW : Below wr.heap.size wr W) => vm.after hW)
      have HPP := Lib.hid hpp
      have HBW := Lib.hid (fun W (hW : Below wr.heap.size wr W) => (HRS.out.after hW).bel)
      clear hpe hpn hxe hxn hrp vm hxa hma hm1 hpp hmb hcells hok hbb hrs hde hbyte hbvlt hBL hbl hpb hd0
      go_wp2
      refine wp_region_mixu 14 (TSl [.agg #[.int .u64 (pe : Int), .slice ma pn mc], .int .i64 (size : Int), .int .i64 (E : Int), .slice (some ⟨bb, bo, none⟩) NL lcap, .int .i64 (i : Int), .pointer (some ⟨bb, bo + i * 2, none⟩), .pointer (some ⟨bb, bo + i * 2 + 1, none⟩), .slice ba BL bc, .tuple #[.agg #[.int .u64 (xe : Int), .slice xa xn xc], .int .i64 cc], .tuple #[.agg #[.int .u64 (xe : Int), .slice xa xn xc], .int .i64 cc], .agg #[.int .u64 (xe : Int), .slice xa xn xc], .int .i64 cc]) (JSl wr (.int .u64 (xe : Int)) (.slice xa xn xc)) (by kernel_rfl) (by kernel_rfl) (fun u => JSl.start u) ?_ ?_
      · simp only [List.take_succ_cons, List.take_zero]
        refine (StepsU.cons ?_ (StepsU.cons ?_ (StepsU.cons ?_ (StepsU.cons ?_ (StepsU.cons ?_ (StepsU.cons ?_ (StepsU.cons ?_ (StepsU.cons ?_ (StepsU.cons ?_ (StepsU.cons ?_ (StepsU.cons ?_ (StepsU.cons ?_ (StepsU.cons ?_ (StepsU.cons ?_ StepsU.nil))))))))))))))
        · intro u W J hL hJ hd
          have q0 := (HMC.out W hJ.bel).c0
          have q1 := (HMC.out W hJ.bel).c1
          simp only [putAll, Act.put, List.setIfInBounds_toArray, List.set_cons_succ, List.set_cons_zero, Nat.zero_add, Nat.reduceAdd]
          have hj1 := hJ.light (k := 0) (by decide) (by decide)
          go_wp2
          first | exact ⟨rfl, hj1 _, fun j v' _ _ h => h⟩ | exact ⟨_, rfl, rfl, hj1 _, fun j v' _ _ h => h⟩ | exact ⟨rfl, hj1 _⟩ | exact rfl | exact hj1 _
        · intro u W J hL hJ hd
          simp only [putAll, Act.put, List.setIfInBounds_toArray, List.set_cons_succ, List.set_cons_zero, Nat.zero_add, Nat.reduceAdd]
          have hj1 := hJ.light (k := 1) (by decide) (by decide)
          go_wp2
          first | exact ⟨rfl, hj1 _, fun j v' _ _ h => h⟩ | exact ⟨_, rfl, rfl, hj1 _, fun j v' _ _ h => h⟩ | exact ⟨rfl, hj1 _⟩ | exact rfl | exact hj1 _
        · intro u W J hL hJ hd
          have e0 : u 1 = .int .i64 (size : Int) := (hd.1 rfl (by decide)).2
          simp only [putAll, Act.put, List.setIfInBounds_toArray, List.set_cons_succ, List.set_cons_zero, Nat.zero_add, Nat.reduceAdd]
          rw [e0]
          have hj1 := hJ.light (k := 2) (by decide) (by decide)
          go_wp2
          first | exact ⟨rfl, hj1 _, fun j v' _ _ h => h⟩ | exact ⟨_, rfl, rfl, hj1 _, fun j v' _ _ h => h⟩ | exact ⟨rfl, hj1 _⟩ | exact rfl | exact hj1 _
        · intro u W J hL hJ hd
          simp only [putAll, Act.put, List.setIfInBounds_toArray, List.set_cons_succ, List.set_cons_zero, Nat.zero_add, Nat.reduceAdd]
          have hj1 := hJ.light (k := 3) (by decide) (by decide)
          go_wp2
          first | exact ⟨rfl, hj1 _, fun j v' _ _ h => h⟩ | exact ⟨_, rfl, rfl, hj1 _, fun j v' _ _ h => h⟩ | exact ⟨rfl, hj1 _⟩ | exact rfl | exact hj1 _
        · intro u W J hL hJ hd
          simp only [putAll, Act.put, List.setIfInBounds_toArray, List.set_cons_succ, List.set_cons_zero, Nat.zero_add, Nat.reduceAdd]
          have hj1 := hJ.light (k := 4) (by decide) (by decide)
          go_wp2
          first | exact ⟨rfl, hj1 _, fun j v' _ _ h => h⟩ | exact ⟨_, rfl, rfl, hj1 _, fun j v' _ _ h => h⟩ | exact ⟨rfl, hj1 _⟩ | exact rfl | exact hj1 _
        · intro u W J hL hJ hd
          have e0 : u 3 = .slice (some ⟨bb, bo, none⟩) NL lcap := (hd.1 rfl (by decide)).2
          have e1 : u 4 = .int .i64 (i : Int) := (hd.2.1 rfl (by decide)).2
          simp only [putAll, Act.put, List.setIfInBounds_toArray, List.set_cons_succ, List.set_cons_zero, Nat.zero_add, Nat.reduceAdd]
          rw [e0, e1]
          have hj1 := hJ.light (k := 5) (by decide) (by decide)
          go_wp2
          first | exact ⟨rfl, hj1 _, fun j v' _ _ h => h⟩ | exact ⟨_, rfl, rfl, hj1 _, fun j v' _ _ h => h⟩ | exact ⟨rfl, hj1 _⟩ | exact rfl | exact hj1 _
        · intro u W J hL hJ hd
          have e0 : u 5 = .pointer (some ⟨bb, bo + i * 2, none⟩) := (hd.1 rfl (by decide)).2
          simp only [putAll, Act.put, List.setIfInBounds_toArray, List.set_cons_succ, List.set_cons_zero, Nat.zero_add, Nat.reduceAdd]
          rw [e0]
          have hj1 := hJ.light (k := 6) (by decide) (by decide)
          go_wp2
          first | exact ⟨rfl, hj1 _, fun j v' _ _ h => h⟩ | exact ⟨_, rfl, rfl, hj1 _, fun j v' _ _ h => h⟩ | exact ⟨rfl, hj1 _⟩ | exact rfl | exact hj1 _
        · intro u W J hL hJ hd
          have e0 : u 6 = .pointer (some ⟨bb, bo + i * 2 + 1, none⟩) := (hd.1 rfl (by decide)).2
          have q1 := (HCELL.out W (HBW.out W hJ.bel)).2.1
          simp only [putAll, Act.put, List.setIfInBounds_toArray, List.set_cons_succ, List.set_cons_zero, Nat.zero_add, Nat.reduceAdd]
          rw [e0]
          have hj1 := hJ.light (k := 7) (by decide) (by decide)
          go_wp2
          first | exact ⟨rfl, hj1 _, fun j v' _ _ h => h⟩ | exact ⟨_, rfl, rfl, hj1 _, fun j v' _ _ h => h⟩ | exact ⟨rfl, hj1 _⟩ | exact rfl | exact hj1 _
        · intro u W J hL hJ hd
          have e0 : u 0 = .agg #[.int .u64 (pe : Int), .slice ma pn mc] := (hd.1 rfl (by decide)).2
          have e1 : u 2 = .int .i64 (E : Int) := (hd.2.1 rfl (by decide)).2
          have e2 : u 7 = .slice ba BL bc := (hd.2.2.1 rfl (by decide)).2
          simp only [putAll, Act.put, List.setIfInBounds_toArray, List.set_cons_succ, List.set_cons_zero, Nat.zero_add, Nat.reduceAdd]
          rw [e0, e1, e2]
          go_wp2_with (go_at_call 14; (with_reducible refine (HRP.out W hJ.bel).mono ?_); rintro e W1 ⟨rfl, g1⟩; have hj1 := (hJ.after g1).light (k := 8) (by decide) (by decide))
          first | exact ⟨_, rfl, rfl, hj1 _, fun j v' _ _ h => TSl.any j v' _ _ h⟩ | exact ⟨rfl, hj1 _, fun j v' _ _ h => TSl.any j v' _ _ h⟩
        · intro u W J hL hJ hd
          have e0 : u 8 = .tuple #[.agg #[.int .u64 (xe : Int), .slice xa xn xc], .int .i64 cc] := (hd.1 rfl (by decide)).2
          simp only [putAll, Act.put, List.setIfInBounds_toArray, List.set_cons_succ, List.set_cons_zero, Nat.zero_add, Nat.reduceAdd]
          rw [e0]
          have hj1 := hJ.light (k := 9) (by decide) (by decide)
          go_wp2
          first | exact ⟨rfl, hj1 _, fun j v' _ _ h => h⟩ | exact ⟨_, rfl, rfl, hj1 _, fun j v' _ _ h => h⟩ | exact ⟨rfl, hj1 _⟩ | exact rfl | exact hj1 _
        · intro u W J hL hJ hd
          have e0 : u 9 = .tuple #[.agg #[.int .u64 (xe : Int), .slice xa xn xc], .int .i64 cc] := (hd.1 rfl (by decide)).2
          simp only [putAll, Act.put, List.setIfInBounds_toArray, List.set_cons_succ, List.set_cons_zero, Nat.zero_add, Nat.reduceAdd]
          rw [e0]
          have hj1 := hJ.light (k := 10) (by decide) (by decide)
          go_wp2
          first | exact ⟨rfl, hj1 _, fun j v' _ _ h => h⟩ | exact ⟨_, rfl, rfl, hj1 _, fun j v' _ _ h => h⟩ | exact ⟨rfl, hj1 _⟩ | exact rfl | exact hj1 _
        · intro u W J hL hJ hd
          have e0 : u 9 = .tuple #[.agg #[.int .u64 (xe : Int), .slice xa xn xc], .int .i64 cc] := (hd.1 rfl (by decide)).2
          simp only [putAll, Act.put, List.setIfInBounds_toArray, List.set_cons_succ, List.set_cons_zero, Nat.zero_add, Nat.reduceAdd]
          rw [e0]
          have hj1 := hJ.light (k := 11) (by decide) (by decide)
          go_wp2
          first | exact ⟨rfl, hj1 _, fun j v' _ _ h => h⟩ | exact ⟨_, rfl, rfl, hj1 _, fun j v' _ _ h => h⟩ | exact ⟨rfl, hj1 _⟩ | exact rfl | exact hj1 _
        · intro u W J hL hJ hd
          simp only [putAll, Act.put, List.setIfInBounds_toArray, List.set_cons_succ, List.set_cons_zero, Nat.zero_add, Nat.reduceAdd]
          have hj1 := hJ.made hL 38
          go_wp2
          first | exact ⟨_, rfl, ⟨_, rfl⟩, hj1, fun j v' _ _ h => TSl.any j v' _ _ h⟩ | exact ⟨⟨_, rfl⟩, hj1, fun j v' _ _ h => TSl.any j v' _ _ h⟩ | exact ⟨⟨_, rfl⟩, fun j v' _ _ h => TSl.any j v' _ _ h⟩
        · intro u W J hL hJ hd
          obtain ⟨pv, e0⟩ := (hd.1 rfl (by decide)).2
          have h13 : J 12 = true := (hd.1 rfl (by decide)).1
          have e1 : u 10 = .agg #[.int .u64 (xe : Int), .slice xa xn xc] := (hd.2.1 rfl (by decide)).2
          have vv := hJ.cells h13 hL e0
          have q0 := vv.c0
          have q1 := vv.c1
          have q2 := vv.q0
          have q3 := vv.q1
          simp only [putAll, Act.put, List.setIfInBounds_toArray, List.set_cons_succ, List.set_cons_zero, Nat.zero_add, Nat.reduceAdd]
          rw [e0, e1]
          have hj1 := fun v => hJ.put h13 e0 v
          go_wp2
          first | exact ⟨undef, rfl, trivial, hj1 _, fun j v' _ _ h => TSl.any j v' _ _ h⟩ | exact ⟨undef, trivial, hj1 _, fun j v' _ _ h => TSl.any j v' _ _ h⟩
      · intro u W J hall hJ hT
        have e0 : u 0 = .agg #[.int .u64 (pe : Int), .slice ma pn mc] := hT 0 (by decide)
        have e1 : u 1 = .int .i64 (size : Int) := hT 1 (by decide)
        have e2 : u 2 = .int .i64 (E : Int) := hT 2 (by decide)
        have e3 : u 3 = .slice (some ⟨bb, bo, none⟩) NL lcap := hT 3 (by decide)
        have e4 : u 4 = .int .i64 (i : Int) := hT 4 (by decide)
        have e5 : u 5 = .pointer (some ⟨bb, bo + i * 2, none⟩) := hT 5 (by decide)
        have e6 : u 6 = .pointer (some ⟨bb, bo + i * 2 + 1, none⟩) := hT 6 (by decide)
        have e7 : u 7 = .slice ba BL bc := hT 7 (by decide)
        have e8 : u 8 = .tuple #[.agg #[.int .u64 (xe : Int), .slice xa xn xc], .int .i64 cc] := hT 8 (by decide)
        have e9 : u 9 = .tuple #[.agg #[.int .u64 (xe : Int), .slice xa xn xc], .int .i64 cc] := hT 9 (by decide)
        have e10 : u 10 = .agg #[.int .u64 (xe : Int), .slice xa xn xc] := hT 10 (by decide)
        have e11 : u 11 = .int .i64 cc := hT 11 (by decide)
        obtain ⟨pv, e12, hpv, vv⟩ := hJ.vr (hall 12 (by decide))
        rw [if_pos (hall 13 (by decide)), if_pos (hall 13 (by decide))] at vv
        have HRW := Lib.hid (HRS.out.after hJ.bel)
        have q0 := vv.c0
        have q1 := vv.c1
        have VM := HRW.out.var.2
        have m0 := VM.c0
        have m1 := VM.c1
        have m2 := VM.q0
        have m3 := VM.q1
        have HSET : Hid (RS wx ((W.setCell ⟨nv, 0, none⟩ (.int .u64 (xe : Int))).setCell ⟨nv, 1, none⟩ (.slice xa xn xc)) wx.heap.size r hv nv size P D gs (.int .u64 (pe : Int)) (.slice ma pn mc) (.int .u64 (xe : Int)) (.slice xa xn xc)) := HRW.out.set2 (.int .u64 (xe : Int)) (.slice xa xn xc)
        have kc1 := (HCELL.out _ HSET.out.bel).2.1
        clear hJ hT hall vv VM
        simp only [List.take_succ_cons, List.take_zero, List.drop_succ_cons, List.drop_zero, putAll, Act.put, List.setIfInBounds_toArray, List.set_cons_succ, List.set_cons_zero, Nat.zero_add, Nat.reduceAdd]
        rw [e0, e1, e2, e3, e4, e5, e6, e7, e8, e9, e10, e11, e12]
        clear e0 e1 e2 e3 e4 e5 e6 e7 e8 e9 e10 e11 e12
        go_wp2_with (go_at_call 15; (with_reducible refine (HPP.out _ _ _ _ _ HSET.out).mono ?_); rintro e W2 ⟨D4, hd4, ⟨rfl, h4⟩ | ⟨rfl, h4, hl4⟩⟩ <;> (have H4 := Lib.hid h4; have HD4 := Lib.hid hd4; (try have HL4 := Lib.hid hl4); (try (obtain ⟨vq1, vq2⟩ := h4.var; have n0 := vq2.c0; have n1 := vq2.c1; have n2 := vq1.c0; have n3 := vq1.c1; have n4 := vq1.q0; have n5 := vq1.q1; clear vq1 vq2)); clear h4 hd4; (try clear hl4)))
        · go_roundw
          case rel => exact ⟨i + 1, M, D4, xa, xc, by go_num, hlt, by rw [HPEN.out.2.2.1, HPEN.out.2.2.2]; exact H4.out.set1 _ _, by have := HDE.out.1; have := HD4.out; omega, HMV.out.2.2, HMV.out.1⟩
          case measure => simp [intOf]; omega
        · go_meet
          exact ⟨D4, P, M, ma, xa, mc, xc, by rw [HPEN.out.1, HPEN.out.2.1, HPEN.out.2.2.1, HPEN.out.2.2.2]; exact H4.out, by have := HDE.out; have := HD4.out; omega, HPB.out.2, HMV.out.1, HP1.out, HMV.out.2.1, HPB.out.1, HMV.out.2.2, HL4.out⟩
  case rest =>
    obtain ⟨D, H, X, ha, xa, hc, xc, h1, h2, h3, h4, h5, h6, h7, h8, h9⟩ := hcut
    obtain ⟨T, hT⟩ : ∃ x, slotsL (1 * size) (3 * size) (D.left keep torn) = x := ⟨_, rfl⟩
    have hTC : T = H ∨ T = X := by rw [← hT]; exact h9 keep torn
    have hTB : ∀ z ∈ T.2, 0 ≤ z ∧ z ≤ 255 := by rcases hTC with q | q; rw [q]; exact h7; rw [q]; exact h8
    have hT1 : T.1 ≤ 18446744073709551615 := by rcases hTC with q | q; rw [q]; exact h5; rw [q]; exact h6
    have HT := Lib.hid hT
    have HTC := Lib.hid hTC
    have HTB := Lib.hid (And.intro hT1 hTB)
    have HH := Lib.hid (And.intro h3 (And.intro h5 h7))
    have HX := Lib.hid (And.intro h4 (And.intro h6 h8))
    have HDE := Lib.hid h2
    obtain ⟨pe, hpe⟩ : ∃ x, H.1 = x := ⟨_, rfl⟩
    obtain ⟨pn, hpn⟩ : ∃ x, H.2.length = x := ⟨_, rfl⟩
    obtain ⟨xe, hxe⟩ : ∃ x, X.1 = x := ⟨_, rfl⟩
    obtain ⟨xn, hxn⟩ : ∃ x, X.2.length = x := ⟨_, rfl⟩
    have HSH : Hid (∀ W, Below wx.heap.size wx W → SnapV W (.agg #[.int .u64 (pe : Int), .slice ha pn hc]) H) := fun W hW => ⟨HH.out.2.1, ha, hc, by rw [← hpe, ← hpn], HH.out.1 W hW⟩
    have HSX : Hid (∀ W, Below wx.heap.size wx W → SnapV W (.agg #[.int .u64 (xe : Int), .slice xa xn xc]) X) := fun W hW => ⟨HX.out.2.1, xa, xc, by rw [← hxe, ← hxn], HX.out.1 W hW⟩
    rw [hpe, hpn, hxe, hxn] at h1
    have HP1 := Lib.hid h1
    have HBC := Lib.hid (show Below wx.heap.size wx wc by obtain ⟨O, h⟩ := h1; exact h.bel)
    have HCR := Lib.hid (ps_crash h1 (by omega) keep torn HKT.out.1.1 HKT.out.1.2 HKT.out.2.1 HKT.out.2.2)
    have xk1 := (HXC.out wc HBC.out).2.1
    have xk2 := (HXC.out wc HBC.out).2.2
    clear h1 h2 h3 h4 h5 h6 h7 h8 h9 hT hTC hTB hT1 hpe hpn hxe hxn
    go_upto_region 23 with (first
      | (go_at_call 21; (with_reducible refine (HCR.out).mono ?_); rintro e w1 ⟨rfl, p1⟩; have P1 := Lib.hid p1; have G1 := Lib.hid (show Below wx.heap.size wx w1 by obtain ⟨O, h⟩ := p1; exact h.bel); have HOP := Lib.hid (ps_open (T := T) p1 (HEN.out w1 G1.out) rfl rfl rfl (by show D.deeds ≤ _; have := HDE.out; omega) HT.out HTB.out.1); clear p1 HCR xk1 xk2)
      | (go_at_call 11; (with_reducible refine (HOP.out).mono ?_); rintro e w3 ⟨gs2, rfl, rs3, g3⟩; have RS3 := Lib.hid rs3; clear rs3 g3 HOP))
    have DW := Lib.hid (RS3.out.bel)
    go_cut [115] from 100 to 114 (fun v115 wr => v115 = .bool false ∧ RS wx wr wx.heap.size r hv nv size T (D.crash keep torn) gs2 (.int .u64 (pe : Int)) (.slice ha pn hc) (.int .u64 (xe : Int)) (.slice xa xn xc))
    case first =>
      by_cases q : T = H
      case pos =>
        have HSM := Lib.hid (fun W xv (hW : Below w3.heap.size w3 W) (hs : SnapV W xv T) => same_hold hs (HSH.out W (RS3.out.after hW).bel) HTB.out.2 HH.out.2.2 true (decide_eq_true q))
        clear q
        refine wp_region_mix 16 (TLa [.int .i64 0, .bool false, .bool false, .pointer (some ⟨gs2, 0, none⟩), undef, .agg #[.int .u64 (pe : Int), .slice ha pn hc], .bool true, .bool false, .bool false, undef, undef, undef, undef, undef, .bool false, .bool false] T) (fun _ => false) (by kernel_rfl) (by kernel_rfl) TLa.keep (fun _ _ _ h => by cases h) ?_ ?_
        · simp only [List.take_succ_cons, List.take_zero]
          refine (StepsAll.cons ?_ (StepsAll.cons ?_ (StepsAll.cons ?_ (StepsAll.cons ?_ (StepsAll.cons ?_ (StepsAll.cons ?_ (StepsAll.cons ?_ (StepsAll.cons ?_ (StepsAll.cons ?_ (StepsAll.cons ?_ (StepsAll.cons ?_ (StepsAll.cons ?_ (StepsAll.cons ?_ (StepsAll.cons ?_ (StepsAll.cons ?_ (StepsAll.cons ?_ StepsAll.nil))))))))))))))))
          · intro u W hb hd
            simp only [putAll, Act.put, List.setIfInBounds_toArray, List.set_cons_succ, List.set_cons_zero, Nat.zero_add, Nat.reduceAdd]
            go_wp2
            first | exact ⟨rfl, Below.refl _ _⟩ | exact ⟨_, rfl, rfl, Below.refl _ _, fun h => by simp at h⟩ | exact ⟨_, rfl, rfl, Below.refl _ _⟩ | exact ⟨rfl, Below.refl _ _, fun h => by simp at h⟩
          · intro u W hb hd
            have e0 : u 0 = .int .i64 0 := hd.1 rfl (by decide)
            simp only [putAll, Act.put, List.setIfInBounds_toArray, List.set_cons_succ, List.set_cons_zero, Nat.zero_add, Nat.reduceAdd]
            rw [e0]
            go_wp2
            first | exact ⟨rfl, Below.refl _ _⟩ | exact ⟨_, rfl, rfl, Below.refl _ _, fun h => by simp at h⟩ | exact ⟨_, rfl, rfl, Below.refl _ _⟩ | exact ⟨rfl, Below.refl _ _, fun h => by simp at h⟩
          · intro u W hb hd
            have e0 : u 1 = .bool false := hd.1 rfl (by decide)
            simp only [putAll, Act.put, List.setIfInBounds_toArray, List.set_cons_succ, List.set_cons_zero, Nat.zero_add, Nat.reduceAdd]
            rw [e0]
            go_wp2
            first | exact ⟨rfl, Below.refl _ _⟩ | exact ⟨_, rfl, rfl, Below.refl _ _, fun h => by simp at h⟩ | exact ⟨_, rfl, rfl, Below.refl _ _⟩ | exact ⟨rfl, Below.refl _ _, fun h => by simp at h⟩
          · intro u W hb hd
            have e0 : u 2 = .bool false := hd.1 rfl (by decide)
            simp only [putAll, Act.put, List.setIfInBounds_toArray, List.set_cons_succ, List.set_cons_zero, Nat.zero_add, Nat.reduceAdd]
            rw [e0]
            go_wp2
            first | exact ⟨rfl, Below.refl _ _⟩ | exact ⟨_, rfl, rfl, Below.refl _ _, fun h => by simp at h⟩ | exact ⟨_, rfl, rfl, Below.refl _ _⟩ | exact ⟨rfl, Below.refl _ _, fun h => by simp at h⟩
          · intro u W hb hd
            have e0 : u 3 = .pointer (some ⟨gs2, 0, none⟩) := hd.1 rfl (by decide)
            have e2 : u 2 = .bool false := hd.2.2.1 rfl (by decide)
            simp only [putAll, Act.put, List.setIfInBounds_toArray, List.set_cons_succ, List.set_cons_zero, Nat.zero_add, Nat.reduceAdd]
            rw [e0, e2]
            go_wp2_with (go_at_call 18; (with_reducible refine (rs_snap (RS3.out.after hb)).mono ?_); rintro e W1 ⟨xv, rfl, hs, g1⟩)
            first | exact ⟨_, rfl, hs, g1, fun h => by simp at h⟩ | exact ⟨hs, g1, fun h => by simp at h⟩ | exact ⟨_, rfl, hs, g1⟩ | exact ⟨hs, g1⟩
          · intro u W hb hd
            have e0 : u 2 = .bool false := hd.1 rfl (by decide)
            have vq := (RS3.out.after hb).var.1
            have n0 := vq.c0
            have n1 := vq.c1
            clear vq
            simp only [putAll, Act.put, List.setIfInBounds_toArray, List.set_cons_succ, List.set_cons_zero, Nat.zero_add, Nat.reduceAdd]
            rw [e0]
            go_wp2
            first | exact ⟨rfl, Below.refl _ _⟩ | exact ⟨_, rfl, rfl, Below.refl _ _, fun h => by simp at h⟩ | exact ⟨_, rfl, rfl, Below.refl _ _⟩ | exact ⟨rfl, Below.refl _ _, fun h => by simp at h⟩
          · intro u W hb hd
            have hs0 : SnapV W (u 4) T := hd.1 rfl (by decide)
            have e1 : u 5 = .agg #[.int .u64 (pe : Int), .slice ha pn hc] := hd.2.1 rfl (by decide)
            have e3 : u 2 = .bool false := hd.2.2.2.1 rfl (by decide)
            simp only [putAll, Act.put, List.setIfInBounds_toArray, List.set_cons_succ, List.set_cons_zero, Nat.zero_add, Nat.reduceAdd]
            rw [e1, e3]
            generalize u 4 = x0 at hs0 ⊢
            go_wp2_with (go_at_call 17; (with_reducible refine (HSM.out W x0 hb hs0).mono ?_); rintro e W1 ⟨rfl, g1⟩)
            first | exact ⟨_, rfl, rfl, g1, fun h => by simp at h⟩ | exact ⟨rfl, g1⟩ | exact ⟨_, rfl, rfl, g1⟩
          · intro u W hb hd
            have e0 : u 6 = .bool true := hd.1 rfl (by decide)
            have e1 : u 2 = .bool false := hd.2.1 rfl (by decide)
            simp only [putAll, Act.put, List.setIfInBounds_toArray, List.set_cons_succ, List.set_cons_zero, Nat.zero_add, Nat.reduceAdd]
            rw [e0, e1]
            go_wp2
            first | exact ⟨rfl, Below.refl _ _⟩ | exact ⟨_, rfl, rfl, Below.refl _ _, fun h => by simp at h⟩ | exact ⟨_, rfl, rfl, Below.refl _ _⟩ | exact ⟨rfl, Below.refl _ _, fun h => by simp at h⟩
          · intro u W hb hd
            have e0 : u 7 = .bool false := hd.1 rfl (by decide)
            have e2 : u 2 = .bool false := hd.2.2.1 rfl (by decide)
            simp only [putAll, Act.put, List.setIfInBounds_toArray, List.set_cons_succ, List.set_cons_zero, Nat.zero_add, Nat.reduceAdd]
            rw [e0, e2]
            go_wp2
            first | exact ⟨rfl, Below.refl _ _⟩ | exact ⟨_, rfl, rfl, Below.refl _ _, fun h => by simp at h⟩ | exact ⟨_, rfl, rfl, Below.refl _ _⟩ | exact ⟨rfl, Below.refl _ _, fun h => by simp at h⟩
          · intro u W hb hd
            have e0 : u 8 = .bool false := hd.1 rfl (by decide)
            simp only [putAll, Act.put, List.setIfInBounds_toArray, List.set_cons_succ, List.set_cons_zero, Nat.zero_add, Nat.reduceAdd]
            rw [e0]
            go_wp2
            first | exact ⟨_, rfl, trivial, Below.refl _ _, fun h => by simp at h⟩ | exact ⟨_, rfl, trivial, Below.refl _ _⟩ | exact ⟨undef, trivial, Below.refl _ _⟩ | exact ⟨trivial, Below.refl _ _⟩ | exact Below.refl _ _
          · intro u W hb hd
            have e2 : u 8 = .bool false := hd.2.2.1 rfl (by decide)
            simp only [putAll, Act.put, List.setIfInBounds_toArray, List.set_cons_succ, List.set_cons_zero, Nat.zero_add, Nat.reduceAdd]
            rw [e2]
            go_wp2
            first | exact ⟨_, rfl, trivial, Below.refl _ _, fun h => by simp at h⟩ | exact ⟨_, rfl, trivial, Below.refl _ _⟩ | exact ⟨undef, trivial, Below.refl _ _⟩ | exact ⟨trivial, Below.refl _ _⟩ | exact Below.refl _ _
          · intro u W hb hd
            have e0 : u 8 = .bool false := hd.1 rfl (by decide)
            simp only [putAll, Act.put, List.setIfInBounds_toArray, List.set_cons_succ, List.set_cons_zero, Nat.zero_add, Nat.reduceAdd]
            rw [e0]
            go_wp2
            first | exact ⟨_, rfl, trivial, Below.refl _ _, fun h => by simp at h⟩ | exact ⟨_, rfl, trivial, Below.refl _ _⟩ | exact ⟨undef, trivial, Below.refl _ _⟩ | exact ⟨trivial, Below.refl _ _⟩ | exact Below.refl _ _
          · intro u W hb hd
            have e3 : u 8 = .bool false := hd.2.2.2.1 rfl (by decide)
            simp only [putAll, Act.put, List.setIfInBounds_toArray, List.set_cons_succ, List.set_cons_zero, Nat.zero_add, Nat.reduceAdd]
            rw [e3]
            go_wp2
            first | exact ⟨_, rfl, trivial, Below.refl _ _, fun h => by simp at h⟩ | exact ⟨_, rfl, trivial, Below.refl _ _⟩ | exact ⟨undef, trivial, Below.refl _ _⟩ | exact ⟨trivial, Below.refl _ _⟩ | exact Below.refl _ _
          · intro u W hb hd
            have e1 : u 8 = .bool false := hd.2.1 rfl (by decide)
            simp only [putAll, Act.put, List.setIfInBounds_toArray, List.set_cons_succ, List.set_cons_zero, Nat.zero_add, Nat.reduceAdd]
            rw [e1]
            go_wp2
            first | exact ⟨_, rfl, trivial, Below.refl _ _, fun h => by simp at h⟩ | exact ⟨_, rfl, trivial, Below.refl _ _⟩ | exact ⟨undef, trivial, Below.refl _ _⟩ | exact ⟨trivial, Below.refl _ _⟩ | exact Below.refl _ _
          · intro u W hb hd
            have e0 : u 8 = .bool false := hd.1 rfl (by decide)
            have e2 : u 2 = .bool false := hd.2.2.1 rfl (by decide)
            simp only [putAll, Act.put, List.setIfInBounds_toArray, List.set_cons_succ, List.set_cons_zero, Nat.zero_add, Nat.reduceAdd]
            rw [e0, e2]
            go_wp2
            first | exact ⟨rfl, Below.refl _ _⟩ | exact ⟨_, rfl, rfl, Below.refl _ _, fun h => by simp at h⟩ | exact ⟨_, rfl, rfl, Below.refl _ _⟩ | exact ⟨rfl, Below.refl _ _, fun h => by simp at h⟩
          · intro u W hb hd
            have e0 : u 2 = .bool false := hd.1 rfl (by decide)
            have e1 : u 14 = .bool false := hd.2.1 rfl (by decide)
            simp only [putAll, Act.put, List.setIfInBounds_toArray, List.set_cons_succ, List.set_cons_zero, Nat.zero_add, Nat.reduceAdd]
            rw [e0, e1]
            go_wp2
            first | exact ⟨rfl, Below.refl _ _⟩ | exact ⟨_, rfl, rfl, Below.refl _ _, fun h => by simp at h⟩ | exact ⟨_, rfl, rfl, Below.refl _ _⟩ | exact ⟨rfl, Below.refl _ _, fun h => by simp at h⟩
        · intro u W hb hT _
          have e0 : u 0 = .int .i64 0 := hT 0 (by decide)
          have e1 : u 1 = .bool false := hT 1 (by decide)
          have e2 : u 2 = .bool false := hT 2 (by decide)
          have e3 : u 3 = .pointer (some ⟨gs2, 0, none⟩) := hT 3 (by decide)
          have e5 : u 5 = .agg #[.int .u64 (pe : Int), .slice ha pn hc] := hT 5 (by decide)
          have e6 : u 6 = .bool true := hT 6 (by decide)
          have e7 : u 7 = .bool false := hT 7 (by decide)
          have e8 : u 8 = .bool false := hT 8 (by decide)
          have e14 : u 14 = .bool false := hT 14 (by decide)
          have e15 : u 15 = .bool false := hT 15 (by decide)
          have HW3 := Lib.hid (RS3.out.after hb)
          clear hb hT
          simp only [List.take_succ_cons, List.take_zero, List.drop_succ_cons, List.drop_nil, putAll, Act.put, List.setIfInBounds_toArray, List.set_cons_succ, List.set_cons_zero, Nat.zero_add, Nat.reduceAdd]
          rw [e0, e1, e2, e3, e5, e6, e7, e8, e14, e15]
          clear e0 e1 e2 e3 e5 e6 e7 e8 e14 e15
          go_wp2
          go_meet
          exact ⟨rfl, HW3.out⟩
      case neg =>
        have q2 : T = X := by rcases HTC.out with e | e; exact (q e).elim; exact e
        have HSM := Lib.hid (fun W xv (hW : Below w3.heap.size w3 W) (hs : SnapV W xv T) => same_hold hs (HSH.out W (RS3.out.after hW).bel) HTB.out.2 HH.out.2.2 false (decide_eq_false q))
        have HSM2 := Lib.hid (fun W xv (hW : Below w3.heap.size w3 W) (hs : SnapV W xv T) => same_hold hs (HSX.out W (RS3.out.after hW).bel) HTB.out.2 HX.out.2.2 true (decide_eq_true q2))
        clear q q2
        refine wp_region_mix 16 (TLb [.int .i64 0, .bool false, .bool false, .pointer (some ⟨gs2, 0, none⟩), undef, .agg #[.int .u64 (pe : Int), .slice ha pn hc], .bool false, .bool true, .bool true, .pointer (some ⟨gs2, 0, none⟩), undef, .agg #[.int .u64 (xe : Int), .slice xa xn xc], .bool true, .bool false, .bool false, .bool false] T) (fun _ => false) (by kernel_rfl) (by kernel_rfl) TLb.keep (fun _ _ _ h => by cases h) ?_ ?_
        · simp only [List.take_succ_cons, List.take_zero]
          refine (StepsAll.cons ?_ (StepsAll.cons ?_ (StepsAll.cons ?_ (StepsAll.cons ?_ (StepsAll.cons ?_ (StepsAll.cons ?_ (StepsAll.cons ?_ (StepsAll.cons ?_ (StepsAll.cons ?_ (StepsAll.cons ?_ (StepsAll.cons ?_ (StepsAll.cons ?_ (StepsAll.cons ?_ (StepsAll.cons ?_ (StepsAll.cons ?_ (StepsAll.cons ?_ StepsAll.nil))))))))))))))))
          · intro u W hb hd
            simp only [putAll, Act.put, List.setIfInBounds_toArray, List.set_cons_succ, List.set_cons_zero, Nat.zero_add, Nat.reduceAdd]
            go_wp2
            first | exact ⟨rfl, Below.refl _ _⟩ | exact ⟨_, rfl, rfl, Below.refl _ _, fun h => by simp at h⟩ | exact ⟨_, rfl, rfl, Below.refl _ _⟩ | exact ⟨rfl, Below.refl _ _, fun h => by simp at h⟩
          · intro u W hb hd
            have e0 : u 0 = .int .i64 0 := hd.1 rfl (by decide)
            simp only [putAll, Act.put, List.setIfInBounds_toArray, List.set_cons_succ, List.set_cons_zero, Nat.zero_add, Nat.reduceAdd]
            rw [e0]
            go_wp2
            first | exact ⟨rfl, Below.refl _ _⟩ | exact ⟨_, rfl, rfl, Below.refl _ _, fun h => by simp at h⟩ | exact ⟨_, rfl, rfl, Below.refl _ _⟩ | exact ⟨rfl, Below.refl _ _, fun h => by simp at h⟩
          · intro u W hb hd
            have e0 : u 1 = .bool false := hd.1 rfl (by decide)
            simp only [putAll, Act.put, List.setIfInBounds_toArray, List.set_cons_succ, List.set_cons_zero, Nat.zero_add, Nat.reduceAdd]
            rw [e0]
            go_wp2
            first | exact ⟨rfl, Below.refl _ _⟩ | exact ⟨_, rfl, rfl, Below.refl _ _, fun h => by simp at h⟩ | exact ⟨_, rfl, rfl, Below.refl _ _⟩ | exact ⟨rfl, Below.refl _ _, fun h => by simp at h⟩
          · intro u W hb hd
            have e0 : u 2 = .bool false := hd.1 rfl (by decide)
            simp only [putAll, Act.put, List.setIfInBounds_toArray, List.set_cons_succ, List.set_cons_zero, Nat.zero_add, Nat.reduceAdd]
            rw [e0]
            go_wp2
            first | exact ⟨rfl, Below.refl _ _⟩ | exact ⟨_, rfl, rfl, Below.refl _ _, fun h => by simp at h⟩ | exact ⟨_, rfl, rfl, Below.refl _ _⟩ | exact ⟨rfl, Below.refl _ _, fun h => by simp at h⟩
          · intro u W hb hd
            have e0 : u 3 = .pointer (some ⟨gs2, 0, none⟩) := hd.1 rfl (by decide)
            have e2 : u 2 = .bool false := hd.2.2.1 rfl (by decide)
            simp only [putAll, Act.put, List.setIfInBounds_toArray, List.set_cons_succ, List.set_cons_zero, Nat.zero_add, Nat.reduceAdd]
            rw [e0, e2]
            go_wp2_with (go_at_call 18; (with_reducible refine (rs_snap (RS3.out.after hb)).mono ?_); rintro e W1 ⟨xv, rfl, hs, g1⟩)
            first | exact ⟨_, rfl, hs, g1, fun h => by simp at h⟩ | exact ⟨hs, g1, fun h => by simp at h⟩ | exact ⟨_, rfl, hs, g1⟩ | exact ⟨hs, g1⟩
          · intro u W hb hd
            have e0 : u 2 = .bool false := hd.1 rfl (by decide)
            have vq := (RS3.out.after hb).var.1
            have n0 := vq.c0
            have n1 := vq.c1
            clear vq
            simp only [putAll, Act.put, List.setIfInBounds_toArray, List.set_cons_succ, List.set_cons_zero, Nat.zero_add, Nat.reduceAdd]
            rw [e0]
            go_wp2
            first | exact ⟨rfl, Below.refl _ _⟩ | exact ⟨_, rfl, rfl, Below.refl _ _, fun h => by simp at h⟩ | exact ⟨_, rfl, rfl, Below.refl _ _⟩ | exact ⟨rfl, Below.refl _ _, fun h => by simp at h⟩
          · intro u W hb hd
            have hs0 : SnapV W (u 4) T := hd.1 rfl (by decide)
            have e1 : u 5 = .agg #[.int .u64 (pe : Int), .slice ha pn hc] := hd.2.1 rfl (by decide)
            have e3 : u 2 = .bool false := hd.2.2.2.1 rfl (by decide)
            simp only [putAll, Act.put, List.setIfInBounds_toArray, List.set_cons_succ, List.set_cons_zero, Nat.zero_add, Nat.reduceAdd]
            rw [e1, e3]
            generalize u 4 = x0 at hs0 ⊢
            go_wp2_with (go_at_call 17; (with_reducible refine (HSM.out W x0 hb hs0).mono ?_); rintro e W1 ⟨rfl, g1⟩)
            first | exact ⟨_, rfl, rfl, g1, fun h => by simp at h⟩ | exact ⟨rfl, g1⟩ | exact ⟨_, rfl, rfl, g1⟩
          · intro u W hb hd
            have e0 : u 6 = .bool false := hd.1 rfl (by decide)
            have e1 : u 2 = .bool false := hd.2.1 rfl (by decide)
            simp only [putAll, Act.put, List.setIfInBounds_toArray, List.set_cons_succ, List.set_cons_zero, Nat.zero_add, Nat.reduceAdd]
            rw [e0, e1]
            go_wp2
            first | exact ⟨rfl, Below.refl _ _⟩ | exact ⟨_, rfl, rfl, Below.refl _ _, fun h => by simp at h⟩ | exact ⟨_, rfl, rfl, Below.refl _ _⟩ | exact ⟨rfl, Below.refl _ _, fun h => by simp at h⟩
          · intro u W hb hd
            have e0 : u 7 = .bool true := hd.1 rfl (by decide)
            have e2 : u 2 = .bool false := hd.2.2.1 rfl (by decide)
            simp only [putAll, Act.put, List.setIfInBounds_toArray, List.set_cons_succ, List.set_cons_zero, Nat.zero_add, Nat.reduceAdd]
            rw [e0, e2]
            go_wp2
            first | exact ⟨rfl, Below.refl _ _⟩ | exact ⟨_, rfl, rfl, Below.refl _ _, fun h => by simp at h⟩ | exact ⟨_, rfl, rfl, Below.refl _ _⟩ | exact ⟨rfl, Below.refl _ _, fun h => by simp at h⟩
          · intro u W hb hd
            have e0 : u 8 = .bool true := hd.1 rfl (by decide)
            simp only [putAll, Act.put, List.setIfInBounds_toArray, List.set_cons_succ, List.set_cons_zero, Nat.zero_add, Nat.reduceAdd]
            rw [e0]
            go_wp2
            first | exact ⟨rfl, Below.refl _ _⟩ | exact ⟨_, rfl, rfl, Below.refl _ _, fun h => by simp at h⟩ | exact ⟨_, rfl, rfl, Below.refl _ _⟩ | exact ⟨rfl, Below.refl _ _, fun h => by simp at h⟩
          · intro u W hb hd
            have e0 : u 9 = .pointer (some ⟨gs2, 0, none⟩) := hd.1 rfl (by decide)
            have e2 : u 8 = .bool true := hd.2.2.1 rfl (by decide)
            simp only [putAll, Act.put, List.setIfInBounds_toArray, List.set_cons_succ, List.set_cons_zero, Nat.zero_add, Nat.reduceAdd]
            rw [e0, e2]
            go_wp2_with (go_at_call 18; (with_reducible refine (rs_snap (RS3.out.after hb)).mono ?_); rintro e W1 ⟨xv, rfl, hs, g1⟩)
            first | exact ⟨_, rfl, hs, g1, fun h => by simp at h⟩ | exact ⟨hs, g1, fun h => by simp at h⟩ | exact ⟨_, rfl, hs, g1⟩ | exact ⟨hs, g1⟩
          · intro u W hb hd
            have e0 : u 8 = .bool true := hd.1 rfl (by decide)
            have vq := (RS3.out.after hb).var.2
            have n0 := vq.c0
            have n1 := vq.c1
            clear vq
            simp only [putAll, Act.put, List.setIfInBounds_toArray, List.set_cons_succ, List.set_cons_zero, Nat.zero_add, Nat.reduceAdd]
            rw [e0]
            go_wp2
            first | exact ⟨rfl, Below.refl _ _⟩ | exact ⟨_, rfl, rfl, Below.refl _ _, fun h => by simp at h⟩ | exact ⟨_, rfl, rfl, Below.refl _ _⟩ | exact ⟨rfl, Below.refl _ _, fun h => by simp at h⟩
          · intro u W hb hd
            have hs0 : SnapV W (u 10) T := hd.1 rfl (by decide)
            have e1 : u 11 = .agg #[.int .u64 (xe : Int), .slice xa xn xc] := hd.2.1 rfl (by decide)
            have e3 : u 8 = .bool true := hd.2.2.2.1 rfl (by decide)
            simp only [putAll, Act.put, List.setIfInBounds_toArray, List.set_cons_succ, List.set_cons_zero, Nat.zero_add, Nat.reduceAdd]
            rw [e1, e3]
            generalize u 10 = x0 at hs0 ⊢
            go_wp2_with (go_at_call 17; (with_reducible refine (HSM2.out W x0 hb hs0).mono ?_); rintro e W1 ⟨rfl, g1⟩)
            first | exact ⟨_, rfl, rfl, g1, fun h => by simp at h⟩ | exact ⟨rfl, g1⟩ | exact ⟨_, rfl, rfl, g1⟩
          · intro u W hb hd
            have e0 : u 12 = .bool true := hd.1 rfl (by decide)
            have e1 : u 8 = .bool true := hd.2.1 rfl (by decide)
            simp only [putAll, Act.put, List.setIfInBounds_toArray, List.set_cons_succ, List.set_cons_zero, Nat.zero_add, Nat.reduceAdd]
            rw [e0, e1]
            go_wp2
            first | exact ⟨rfl, Below.refl _ _⟩ | exact ⟨_, rfl, rfl, Below.refl _ _, fun h => by simp at h⟩ | exact ⟨_, rfl, rfl, Below.refl _ _⟩ | exact ⟨rfl, Below.refl _ _, fun h => by simp at h⟩
          · intro u W hb hd
            have e0 : u 8 = .bool true := hd.1 rfl (by decide)
            have e1 : u 13 = .bool false := hd.2.1 rfl (by decide)
            have e2 : u 2 = .bool false := hd.2.2.1 rfl (by decide)
            simp only [putAll, Act.put, List.setIfInBounds_toArray, List.set_cons_succ, List.set_cons_zero, Nat.zero_add, Nat.reduceAdd]
            rw [e0, e1, e2]
            go_wp2
            first | exact ⟨rfl, Below.refl _ _⟩ | exact ⟨_, rfl, rfl, Below.refl _ _, fun h => by simp at h⟩ | exact ⟨_, rfl, rfl, Below.refl _ _⟩ | exact ⟨rfl, Below.refl _ _, fun h => by simp at h⟩
          · intro u W hb hd
            have e0 : u 2 = .bool false := hd.1 rfl (by decide)
            have e1 : u 14 = .bool false := hd.2.1 rfl (by decide)
            simp only [putAll, Act.put, List.setIfInBounds_toArray, List.set_cons_succ, List.set_cons_zero, Nat.zero_add, Nat.reduceAdd]
            rw [e0, e1]
            go_wp2
            first | exact ⟨rfl, Below.refl _ _⟩ | exact ⟨_, rfl, rfl, Below.refl _ _, fun h => by simp at h⟩ | exact ⟨_, rfl, rfl, Below.refl _ _⟩ | exact ⟨rfl, Below.refl _ _, fun h => by simp at h⟩
        · intro u W hb hT _
          have e0 : u 0 = .int .i64 0 := hT 0 (by decide)
          have e1 : u 1 = .bool false := hT 1 (by decide)
          have e2 : u 2 = .bool false := hT 2 (by decide)
          have e3 : u 3 = .pointer (some ⟨gs2, 0, none⟩) := hT 3 (by decide)
          have e5 : u 5 = .agg #[.int .u64 (pe : Int), .slice ha pn hc] := hT 5 (by decide)
          have e6 : u 6 = .bool false := hT 6 (by decide)
          have e7 : u 7 = .bool true := hT 7 (by decide)
          have e8 : u 8 = .bool true := hT 8 (by decide)
          have e9 : u 9 = .pointer (some ⟨gs2, 0, none⟩) := hT 9 (by decide)
          have e11 : u 11 = .agg #[.int .u64 (xe : Int), .slice xa xn xc] := hT 11 (by decide)
          have e12 : u 12 = .bool true := hT 12 (by decide)
          have e13 : u 13 = .bool false := hT 13 (by decide)
          have e14 : u 14 = .bool false := hT 14 (by decide)
          have e15 : u 15 = .bool false := hT 15 (by decide)
          have HW3 := Lib.hid (RS3.out.after hb)
          clear hb hT
          simp only [List.take_succ_cons, List.take_zero, List.drop_succ_cons, List.drop_nil, putAll, Act.put, List.setIfInBounds_toArray, List.set_cons_succ, List.set_cons_zero, Nat.zero_add, Nat.reduceAdd]
          rw [e0, e1, e2, e3, e5, e6, e7, e8, e9, e11, e12, e13, e14, e15]
          clear e0 e1 e2 e3 e5 e6 e7 e8 e9 e11 e12 e13 e14 e15
          go_wp2
          go_meet
          exact ⟨rfl, HW3.out⟩
    case rest =>
      obtain ⟨rfl, hrs⟩ := hcut
      have RC := Lib.hid hrs
      obtain ⟨M, cc, hrp, hm1, hmb, hpp⟩ := both_fin hrs rfl HEN.out (.slice qa ML qcap) more HMO.out HMB.out HTB.out.2 HMK2.out HMLE.out (by show D.deeds ≤ _; have := HDE.out; omega) (by have := HS.out.2; omega)
      obtain ⟨me, hme⟩ : ∃ x, M.1 = x := ⟨_, rfl⟩
      obtain ⟨mn, hmn⟩ : ∃ x, M.2.length = x := ⟨_, rfl⟩
      rw [hme, hmn] at hpp
      rw [hme, hmn, HE.out] at hrp
      have HRP := Lib.hid hrp
      have HPP := Lib.hid hpp
      have HMBB := Lib.hid hmb
      clear hrs hrp hpp hmb hm1 hme hmn
      go_upto_region 28 with (first
        | (go_at_call 18; (with_reducible refine (rs_snap RC.out).mono ?_); rintro e W1 ⟨xv, rfl, hs, g1⟩; have R1 := Lib.hid (RC.out.after g1); have HP1' := Lib.hid (HRP.out W1 xv g1 hs); clear hs g1)
        | (go_at_call 14; (with_reducible refine (HP1'.out).mono ?_); rintro e W2 ⟨za, zc, rfl, hs2, hq2, g2⟩; have hbx : Below W2.heap.size W2 (W2.alloc (.cells #[.int .u64 (me : Int), .slice za mn zc] 38)) := (Below.refl _ _).alloc (Nat.le_refl _) _; have R3 := Lib.hid ((R1.out.after g2).new1 hbx (Nat.le_refl _) (Var2.fresh W2 (.int .u64 (me : Int)) (.slice za mn zc) 38 _ rfl)); have HP3 := Lib.hid (HPP.out _ _ _ _ _ _ _ _ _ R3.out (hs2.below hbx) hq2); clear hs2 hq2 g2 hbx HP1')
        | (go_at_call 15; (with_reducible refine (HP3.out).mono ?_); rintro e W4 ⟨rfl, D4, hd4, hf4, rs4, hs4⟩; have R4 := Lib.hid rs4; have HOP := Lib.hid (rs_open rs4 (HEN.out W4 rs4.bel) hf4 (by have q1 := HDE.out; have q2 : (D.crash keep torn).deeds = D.deeds := rfl; omega)); have HS4 := Lib.hid hs4; clear hs4 rs4 hd4 hf4 HP3)
        | (go_at_call 11; (with_reducible refine (HOP.out).mono ?_); rintro e W5 ⟨gs3, rfl, rs5, g5⟩; have R5 := Lib.hid rs5; have R4b := Lib.hid (R4.out.after g5); have HS5 := Lib.hid (HS4.out.below g5); clear rs5 g5 HOP))
      obtain ⟨pw, hpw⟩ : ∃ x, W2.heap.size = x := ⟨_, rfl⟩
      rw [hpw] at R5 R4b
      simp only [hpw]
      clear hpw R3 R4
      have HSM := Lib.hid (fun W xv (hW : Below W5.heap.size W5 W) (hs : SnapV W xv M) => same_hold hs (HS5.out.below hW) HMBB.out HMBB.out true (decide_eq_true rfl))
      refine wp_region_mix 19 (TLc [.int .i64 cc, .int .i64 cc, .bool true, .bool true, .int .i64 0, .bool true, .bool true, .bool true, .pointer (some ⟨gs2, 0, none⟩), undef, .agg #[.int .u64 (me : Int), .slice za mn zc], .bool true, .bool true, .bool true, .pointer (some ⟨gs3, 0, none⟩), undef, .agg #[.int .u64 (me : Int), .slice za mn zc], .bool true, .bool true] M) (fun _ => false) (by kernel_rfl) (by kernel_rfl) TLc.keep (fun _ _ _ h => by cases h) ?_ ?_
      · simp only [List.take_succ_cons, List.take_zero]
        refine (StepsAll.cons ?_ (StepsAll.cons ?_ (StepsAll.cons ?_ (StepsAll.cons ?_ (StepsAll.cons ?_ (StepsAll.cons ?_ (StepsAll.cons ?_ (StepsAll.cons ?_ (StepsAll.cons ?_ (StepsAll.cons ?_ (StepsAll.cons ?_ (StepsAll.cons ?_ (StepsAll.cons ?_ (StepsAll.cons ?_ (StepsAll.cons ?_ (StepsAll.cons ?_ (StepsAll.cons ?_ (StepsAll.cons ?_ (StepsAll.cons ?_ StepsAll.nil)))))))))))))))))))
        · intro u W hb hd
          simp only [putAll, Act.put, List.setIfInBounds_toArray, List.set_cons_succ, List.set_cons_zero, Nat.zero_add, Nat.reduceAdd]
          go_wp2
          first | exact ⟨rfl, Below.refl _ _⟩ | exact ⟨_, rfl, rfl, Below.refl _ _, fun h => by simp at h⟩ | exact ⟨_, rfl, rfl, Below.refl _ _⟩ | exact ⟨rfl, Below.refl _ _, fun h => by simp at h⟩
        · intro u W hb hd
          simp only [putAll, Act.put, List.setIfInBounds_toArray, List.set_cons_succ, List.set_cons_zero, Nat.zero_add, Nat.reduceAdd]
          go_wp2
          first | exact ⟨rfl, Below.refl _ _⟩ | exact ⟨_, rfl, rfl, Below.refl _ _, fun h => by simp at h⟩ | exact ⟨_, rfl, rfl, Below.refl _ _⟩ | exact ⟨rfl, Below.refl _ _, fun h => by simp at h⟩
        · intro u W hb hd
          have e0 : u 0 = .int .i64 cc := hd.1 rfl (by decide)
          have e1 : u 1 = .int .i64 cc := hd.2.1 rfl (by decide)
          simp only [putAll, Act.put, List.setIfInBounds_toArray, List.set_cons_succ, List.set_cons_zero, Nat.zero_add, Nat.reduceAdd]
          rw [e0, e1]
          go_wp2
          first | exact ⟨rfl, Below.refl _ _⟩ | exact ⟨_, rfl, rfl, Below.refl _ _, fun h => by simp at h⟩ | exact ⟨_, rfl, rfl, Below.refl _ _⟩ | exact ⟨rfl, Below.refl _ _, fun h => by simp at h⟩
        · intro u W hb hd
          have e0 : u 2 = .bool true := hd.1 rfl (by decide)
          simp only [putAll, Act.put, List.setIfInBounds_toArray, List.set_cons_succ, List.set_cons_zero, Nat.zero_add, Nat.reduceAdd]
          rw [e0]
          go_wp2
          first | exact ⟨rfl, Below.refl _ _⟩ | exact ⟨_, rfl, rfl, Below.refl _ _, fun h => by simp at h⟩ | exact ⟨_, rfl, rfl, Below.refl _ _⟩ | exact ⟨rfl, Below.refl _ _, fun h => by simp at h⟩
        · intro u W hb hd
          have e0 : u 3 = .bool true := hd.1 rfl (by decide)
          simp only [putAll, Act.put, List.setIfInBounds_toArray, List.set_cons_succ, List.set_cons_zero, Nat.zero_add, Nat.reduceAdd]
          rw [e0]
          go_wp2
          first | exact ⟨rfl, Below.refl _ _⟩ | exact ⟨_, rfl, rfl, Below.refl _ _, fun h => by simp at h⟩ | exact ⟨_, rfl, rfl, Below.refl _ _⟩ | exact ⟨rfl, Below.refl _ _, fun h => by simp at h⟩
        · intro u W hb hd
          have e0 : u 4 = .int .i64 0 := hd.1 rfl (by decide)
          have e1 : u 3 = .bool true := hd.2.1 rfl (by decide)
          simp only [putAll, Act.put, List.setIfInBounds_toArray, List.set_cons_succ, List.set_cons_zero, Nat.zero_add, Nat.reduceAdd]
          rw [e0, e1]
          go_wp2
          first | exact ⟨rfl, Below.refl _ _⟩ | exact ⟨_, rfl, rfl, Below.refl _ _, fun h => by simp at h⟩ | exact ⟨_, rfl, rfl, Below.refl _ _⟩ | exact ⟨rfl, Below.refl _ _, fun h => by simp at h⟩
        · intro u W hb hd
          have e0 : u 3 = .bool true := hd.1 rfl (by decide)
          have e1 : u 5 = .bool true := hd.2.1 rfl (by decide)
          simp only [putAll, Act.put, List.setIfInBounds_toArray, List.set_cons_succ, List.set_cons_zero, Nat.zero_add, Nat.reduceAdd]
          rw [e0, e1]
          go_wp2
          first | exact ⟨rfl, Below.refl _ _⟩ | exact ⟨_, rfl, rfl, Below.refl _ _, fun h => by simp at h⟩ | exact ⟨_, rfl, rfl, Below.refl _ _⟩ | exact ⟨rfl, Below.refl _ _, fun h => by simp at h⟩
        · intro u W hb hd
          have e0 : u 6 = .bool true := hd.1 rfl (by decide)
          simp only [putAll, Act.put, List.setIfInBounds_toArray, List.set_cons_succ, List.set_cons_zero, Nat.zero_add, Nat.reduceAdd]
          rw [e0]
          go_wp2
          first | exact ⟨rfl, Below.refl _ _⟩ | exact ⟨_, rfl, rfl, Below.refl _ _, fun h => by simp at h⟩ | exact ⟨_, rfl, rfl, Below.refl _ _⟩ | exact ⟨rfl, Below.refl _ _, fun h => by simp at h⟩
        · intro u W hb hd
          have e0 : u 7 = .bool true := hd.1 rfl (by decide)
          simp only [putAll, Act.put, List.setIfInBounds_toArray, List.set_cons_succ, List.set_cons_zero, Nat.zero_add, Nat.reduceAdd]
          rw [e0]
          go_wp2
          first | exact ⟨rfl, Below.refl _ _⟩ | exact ⟨_, rfl, rfl, Below.refl _ _, fun h => by simp at h⟩ | exact ⟨_, rfl, rfl, Below.refl _ _⟩ | exact ⟨rfl, Below.refl _ _, fun h => by simp at h⟩
        · intro u W hb hd
          have e0 : u 8 = .pointer (some ⟨gs2, 0, none⟩) := hd.1 rfl (by decide)
          have e2 : u 7 = .bool true := hd.2.2.1 rfl (by decide)
          simp only [putAll, Act.put, List.setIfInBounds_toArray, List.set_cons_succ, List.set_cons_zero, Nat.zero_add, Nat.reduceAdd]
          rw [e0, e2]
          go_wp2_with (go_at_call 18; (with_reducible refine (rs_snap (R4b.out.after hb)).mono ?_); rintro e W1 ⟨xv, rfl, hs, g1⟩)
          first | exact ⟨_, rfl, hs, g1, fun h => by simp at h⟩ | exact ⟨hs, g1, fun h => by simp at h⟩ | exact ⟨_, rfl, hs, g1⟩ | exact ⟨hs, g1⟩
        · intro u W hb hd
          have e0 : u 7 = .bool true := hd.1 rfl (by decide)
          have vq := (R5.out.after hb).var.1
          have n0 := vq.c0
          have n1 := vq.c1
          clear vq
          simp only [putAll, Act.put, List.setIfInBounds_toArray, List.set_cons_succ, List.set_cons_zero, Nat.zero_add, Nat.reduceAdd]
          rw [e0]
          go_wp2
          first | exact ⟨rfl, Below.refl _ _⟩ | exact ⟨_, rfl, rfl, Below.refl _ _, fun h => by simp at h⟩ | exact ⟨_, rfl, rfl, Below.refl _ _⟩ | exact ⟨rfl, Below.refl _ _, fun h => by simp at h⟩
        · intro u W hb hd
          have hs0 : SnapV W (u 9) M := hd.1 rfl (by decide)
          have e1 : u 10 = .agg #[.int .u64 (me : Int), .slice za mn zc] := hd.2.1 rfl (by decide)
          have e3 : u 7 = .bool true := hd.2.2.2.1 rfl (by decide)
          simp only [putAll, Act.put, List.setIfInBounds_toArray, List.set_cons_succ, List.set_cons_zero, Nat.zero_add, Nat.reduceAdd]
          rw [e1, e3]
          generalize u 9 = x0 at hs0 ⊢
          go_wp2_with (go_at_call 17; (with_reducible refine (HSM.out W x0 hb hs0).mono ?_); rintro e W1 ⟨rfl, g1⟩)
          first | exact ⟨_, rfl, rfl, g1, fun h => by simp at h⟩ | exact ⟨rfl, g1⟩ | exact ⟨_, rfl, rfl, g1⟩
        · intro u W hb hd
          have e0 : u 7 = .bool true := hd.1 rfl (by decide)
          have e1 : u 11 = .bool true := hd.2.1 rfl (by decide)
          simp only [putAll, Act.put, List.setIfInBounds_toArray, List.set_cons_succ, List.set_cons_zero, Nat.zero_add, Nat.reduceAdd]
          rw [e0, e1]
          go_wp2
          first | exact ⟨rfl, Below.refl _ _⟩ | exact ⟨_, rfl, rfl, Below.refl _ _, fun h => by simp at h⟩ | exact ⟨_, rfl, rfl, Below.refl _ _⟩ | exact ⟨rfl, Below.refl _ _, fun h => by simp at h⟩
        · intro u W hb hd
          have e0 : u 12 = .bool true := hd.1 rfl (by decide)
          simp only [putAll, Act.put, List.setIfInBounds_toArray, List.set_cons_succ, List.set_cons_zero, Nat.zero_add, Nat.reduceAdd]
          rw [e0]
          go_wp2
          first | exact ⟨rfl, Below.refl _ _⟩ | exact ⟨_, rfl, rfl, Below.refl _ _, fun h => by simp at h⟩ | exact ⟨_, rfl, rfl, Below.refl _ _⟩ | exact ⟨rfl, Below.refl _ _, fun h => by simp at h⟩
        · intro u W hb hd
          have e0 : u 13 = .bool true := hd.1 rfl (by decide)
          simp only [putAll, Act.put, List.setIfInBounds_toArray, List.set_cons_succ, List.set_cons_zero, Nat.zero_add, Nat.reduceAdd]
          rw [e0]
          go_wp2
          first | exact ⟨rfl, Below.refl _ _⟩ | exact ⟨_, rfl, rfl, Below.refl _ _, fun h => by simp at h⟩ | exact ⟨_, rfl, rfl, Below.refl _ _⟩ | exact ⟨rfl, Below.refl _ _, fun h => by simp at h⟩
        · intro u W hb hd
          have e0 : u 14 = .pointer (some ⟨gs3, 0, none⟩) := hd.1 rfl (by decide)
          have e2 : u 13 = .bool true := hd.2.2.1 rfl (by decide)
          simp only [putAll, Act.put, List.setIfInBounds_toArray, List.set_cons_succ, List.set_cons_zero, Nat.zero_add, Nat.reduceAdd]
          rw [e0, e2]
          go_wp2_with (go_at_call 18; (with_reducible refine (rs_snap (R5.out.after hb)).mono ?_); rintro e W1 ⟨xv, rfl, hs, g1⟩)
          first | exact ⟨_, rfl, hs, g1, fun h => by simp at h⟩ | exact ⟨hs, g1, fun h => by simp at h⟩ | exact ⟨_, rfl, hs, g1⟩ | exact ⟨hs, g1⟩
        · intro u W hb hd
          have e0 : u 13 = .bool true := hd.1 rfl (by decide)
          have vq := (R5.out.after hb).var.1
          have n0 := vq.c0
          have n1 := vq.c1
          clear vq
          simp only [putAll, Act.put, List.setIfInBounds_toArray, List.set_cons_succ, List.set_cons_zero, Nat.zero_add, Nat.reduceAdd]
          rw [e0]
          go_wp2
          first | exact ⟨rfl, Below.refl _ _⟩ | exact ⟨_, rfl, rfl, Below.refl _ _, fun h => by simp at h⟩ | exact ⟨_, rfl, rfl, Below.refl _ _⟩ | exact ⟨rfl, Below.refl _ _, fun h => by simp at h⟩
        · intro u W hb hd
          have hs0 : SnapV W (u 15) M := hd.1 rfl (by decide)
          have e1 : u 16 = .agg #[.int .u64 (me : Int), .slice za mn zc] := hd.2.1 rfl (by decide)
          have e3 : u 13 = .bool true := hd.2.2.2.1 rfl (by decide)
          simp only [putAll, Act.put, List.setIfInBounds_toArray, List.set_cons_succ, List.set_cons_zero, Nat.zero_add, Nat.reduceAdd]
          rw [e1, e3]
          generalize u 15 = x0 at hs0 ⊢
          go_wp2_with (go_at_call 17; (with_reducible refine (HSM.out W x0 hb hs0).mono ?_); rintro e W1 ⟨rfl, g1⟩)
          first | exact ⟨_, rfl, rfl, g1, fun h => by simp at h⟩ | exact ⟨rfl, g1⟩ | exact ⟨_, rfl, rfl, g1⟩
        · intro u W hb hd
          have e0 : u 13 = .bool true := hd.1 rfl (by decide)
          have e1 : u 17 = .bool true := hd.2.1 rfl (by decide)
          simp only [putAll, Act.put, List.setIfInBounds_toArray, List.set_cons_succ, List.set_cons_zero, Nat.zero_add, Nat.reduceAdd]
          rw [e0, e1]
          go_wp2
          first | exact ⟨rfl, Below.refl _ _⟩ | exact ⟨_, rfl, rfl, Below.refl _ _, fun h => by simp at h⟩ | exact ⟨_, rfl, rfl, Below.refl _ _⟩ | exact ⟨rfl, Below.refl _ _, fun h => by simp at h⟩
      · intro u W hb hT _
        have e0 : u 0 = .int .i64 cc := hT 0 (by decide)
        have e1 : u 1 = .int .i64 cc := hT 1 (by decide)
        have e2 : u 2 = .bool true := hT 2 (by decide)
        have e3 : u 3 = .bool true := hT 3 (by decide)
        have e4 : u 4 = .int .i64 0 := hT 4 (by decide)
        have e5 : u 5 = .bool true := hT 5 (by decide)
        have e6 : u 6 = .bool true := hT 6 (by decide)
        have e7 : u 7 = .bool true := hT 7 (by decide)
        have e8 : u 8 = .pointer (some ⟨gs2, 0, none⟩) := hT 8 (by decide)
        have e10 : u 10 = .agg #[.int .u64 (me : Int), .slice za mn zc] := hT 10 (by decide)
        have e11 : u 11 = .bool true := hT 11 (by decide)
        have e12 : u 12 = .bool true := hT 12 (by decide)
        have e13 : u 13 = .bool true := hT 13 (by decide)
        have e14 : u 14 = .pointer (some ⟨gs3, 0, none⟩) := hT 14 (by decide)
        have e16 : u 16 = .agg #[.int .u64 (me : Int), .slice za mn zc] := hT 16 (by decide)
        have e17 : u 17 = .bool true := hT 17 (by decide)
        have e18 : u 18 = .bool true := hT 18 (by decide)
        have HFIN := Lib.hid (HBX.out.trans ((R5.out.after hb).bel.mono HBX.out.size))
        clear hb hT
        simp only [List.take_succ_cons, List.take_zero, List.drop_succ_cons, List.drop_zero, putAll, Act.put, List.setIfInBounds_toArray, List.set_cons_succ, List.set_cons_zero, Nat.zero_add, Nat.reduceAdd]
        rw [e0, e1, e2, e3, e4, e5, e6, e7, e8, e10, e11, e12, e13, e14, e16, e17, e18]
        clear e0 e1 e2 e3 e4 e5 e6 e7 e8 e10 e11 e12 e13 e14 e16 e17 e18
        go_wp2
        go_ret
        exact ⟨rfl, HFIN.out⟩


set_option maxRecDepth 100000 in
set_option maxHeartbeats 8000000 in
theorem sltlasts_short (zs : Int) (lv mv : Value) (l : List ActW) (more : List Int) (fuse keep torn again keep2 torn2 : Int) (w : World) (env : Env w) (hlv : ActsW w lv l) (hmv : ArgB w mv more) (h : zs < 32 ∨ 512 < zs ∨ longL l ∨ 2000 < more.length) :
    Calls Tryd.prog 4 #[.int .i64 zs, lv, .agg #[.int .i64 fuse, .int .i64 keep, .int .i64 torn, .int .i64 again, .int .i64 keep2, .int .i64 torn2], mv] w fun e w' => e = .returned (.bool true) ∧ Below w.heap.size w w' := by
  have HENV := Lib.hid env
  have HLV := Lib.hid hlv
  obtain ⟨la, lcap, rfl⟩ := hlv.size
  obtain ⟨qa, qcap, rfl⟩ := hmv.size
  obtain ⟨N, hN⟩ : ∃ x, l.length = x := ⟨_, rfl⟩
  obtain ⟨ML, hML⟩ : ∃ x, more.length = x := ⟨_, rfl⟩
  rw [hML] at h ⊢
  rw [hN] at HLV ⊢
  obtain ⟨wx, hwx⟩ : ∃ y, w.alloc (.cells #[.int .i64 fuse, .int .i64 keep, .int .i64 torn, .int .i64 again, .int .i64 keep2, .int .i64 torn2] 48) = y := ⟨_, rfl⟩
  have HBX : Hid (Below w.heap.size w wx) := by rw [← hwx]; exact (Below.refl _ _).alloc (Nat.le_refl _) _
  have hc : zs < 32 ∨ (¬ zs < 32 ∧ 512 < zs) ∨ (¬ zs < 32 ∧ ¬ 512 < zs ∧ longL l) ∨ (¬ zs < 32 ∧ ¬ 512 < zs ∧ ¬ longL l ∧ (2000 : Int) < (ML : Int)) := by
    by_cases q1 : zs < 32
    · exact Or.inl q1
    · by_cases q2 : 512 < zs
      · exact Or.inr (Or.inl ⟨q1, q2⟩)
      · by_cases q3 : longL l
        · exact Or.inr (Or.inr (Or.inl ⟨q1, q2, q3⟩))
        · exact Or.inr (Or.inr (Or.inr ⟨q1, q2, q3, by rcases h with h | h | h | h; exact (q1 h).elim; exact (q2 h).elim; exact (q3 h).elim; omega⟩))
  clear env hlv hmv h hN hML
  rcases hc with g1 | ⟨g1, g2⟩ | ⟨g1, g2, g3⟩ | ⟨g1, g2, g3, g4⟩
  case inr.inr.inl =>
    have HLG := Lib.hid g3
    clear g3
    go_enter Tryd.func4, Tryd.ntmps4
    go_wp2_with (first
      | (go_at_call 6; (with_reducible refine (slt_awake _ (HENV.out.step HBX.out)).mono ?_); rintro e wa ⟨rfl, ga⟩; have GA := Lib.hid ga; have HLVA := Lib.hid ((HLV.out.below HBX.out).below ga); clear ga)
      | (go_at_call 7; (with_reducible refine (long_any _ l _ HLVA.out).mono ?_); rintro e wl ⟨b, rfl, hb, rfl⟩; obtain rfl : b = true := hb.mpr HLG.out; clear hb))
    go_ret
    exact ⟨rfl, HBX.out.trans (GA.out.mono HBX.out.size)⟩
  case inr.inr.inr =>
    have HLG := Lib.hid g3
    clear g3
    go_enter Tryd.func4, Tryd.ntmps4
    go_wp2_with (first
      | (go_at_call 6; (with_reducible refine (slt_awake _ (HENV.out.step HBX.out)).mono ?_); rintro e wa ⟨rfl, ga⟩; have GA := Lib.hid ga; have HLVA := Lib.hid ((HLV.out.below HBX.out).below ga); clear ga)
      | (go_at_call 7; (with_reducible refine (long_any _ l _ HLVA.out).mono ?_); rintro e wl ⟨b, rfl, hb, rfl⟩; obtain rfl : b = false := (by cases b; rfl; exact (HLG.out (hb.mp rfl)).elim); clear hb))
    go_ret
    exact ⟨rfl, HBX.out.trans (GA.out.mono HBX.out.size)⟩
  all_goals
    go_enter Tryd.func4, Tryd.ntmps4
    go_wp2_with (first
      | (go_at_call 6; (with_reducible refine (slt_awake _ (HENV.out.step HBX.out)).mono ?_); rintro e wa ⟨rfl, ga⟩; have GA := Lib.hid ga; have HLVA := Lib.hid ((HLV.out.below HBX.out).below ga); clear ga))
    go_ret
    exact ⟨rfl, HBX.out.trans (GA.out.mono HBX.out.size)⟩
theorem sltlasts_walk (zs : Int) (lv mv : Value) (l : List ActW) (more : List Int) (fuse keep torn again keep2 torn2 : Int) (w : World) (env : Env w) (hlv : ActsW w lv l) (hl : ∀ x ∈ l, x.Ok) (hmv : ArgB w mv more) (hmb : ∀ z ∈ more, 0 ≤ z ∧ z ≤ 255)
    (f0 : -9223372036854775808 ≤ fuse ∧ fuse ≤ 9223372036854775807) (k0 : -9223372036854775808 ≤ keep ∧ keep ≤ 9223372036854775807) (t0 : -9223372036854775808 ≤ torn ∧ torn ≤ 9223372036854775807) (_a0 : -9223372036854775808 ≤ again ∧ again ≤ 9223372036854775807) (_k2 : -9223372036854775808 ≤ keep2 ∧ keep2 ≤ 9223372036854775807) (_t2 : -9223372036854775808 ≤ torn2 ∧ torn2 ≤ 9223372036854775807) :
    Calls Tryd.prog 4 #[.int .i64 zs, lv, .agg #[.int .i64 fuse, .int .i64 keep, .int .i64 torn, .int .i64 again, .int .i64 keep2, .int .i64 torn2], mv] w fun e w' => e = .returned (.bool true) ∧ Below w.heap.size w w' := by
  by_cases h : zs < 32 ∨ 512 < zs ∨ longL l ∨ 2000 < more.length
  · exact sltlasts_short zs lv mv l more fuse keep torn again keep2 torn2 w env hlv hmv h
  · obtain ⟨size, rfl⟩ : ∃ size : Nat, zs = (size : Int) := ⟨zs.toNat, by omega⟩
    exact sltlasts_main size lv mv l more fuse keep torn again keep2 torn2 w env hlv hl hmv hmb (by omega) (by omega) (fun q => h (Or.inr (Or.inr (Or.inl q)))) (by omega) f0 k0 t0

end Go.Proofs.YtbhmkmfjbafdcaaDoor
