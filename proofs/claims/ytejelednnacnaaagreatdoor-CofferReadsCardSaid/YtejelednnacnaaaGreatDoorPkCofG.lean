/-
  CofferReads, walked over the contracts of package coffer's calls.
-/
import Derived.Test.YtejelednnacnaaaGreatDoorPkCofF
import Derived.Test.YtejelednnacnaaaGreatDoorPkMixes
import Derived.Lib.QuietBelow
import Derived.Deep.CutBlock
import Derived.Deep.DeepCutAuto
import Derived.Deep.CutRange
namespace Go.Proofs.YtejelednnacnaaaGreatDoor
open Go.RowKit

/-- What each operation of 's := State{X: Newer(Slot(..), Slot(..))}' has made. -/
def TNs (l : List Value) (B : Nat) (m0 m1 : Nat × List Int) : Nat → Value → World → Prop
  | 4, v, w => SnapF w v m0 (fun b => B ≤ b)
  | 11, v, w => SnapF w v m1 (fun b => B ≤ b)
  | 12, v, w => SnapF w v (newerL m0 m1) (fun b => B ≤ b)
  | 13, v, w => ∃ x y, v = .agg #[x, y, .slice none 0 0] ∧ SnapF w (.agg #[x, y]) (newerL m0 m1) (fun b => B ≤ b)
  | 14, v, w => ∃ p, v = .pointer (some ⟨p, 0, none⟩) ∧ B ≤ p ∧ Var3 w p (.int .u64 0) (.slice none 0 0) (.slice none 0 0) ∧ ∀ i, 3 ≤ i → w.cell? ⟨p, i, none⟩ = none
  | k, v, _ => v = l.getD k undef
theorem TNs.keep {l : List Value} {B : Nat} {m0 m1 : Nat × List Int} (i : Nat) (v : Value) (w w' : World) (h : TNs l B m0 m1 i v w) (hb : Below w.heap.size w w') : TNs l B m0 m1 i v w' := by
  unfold TNs at h ⊢
  split at h
  · exact h.below hb
  · exact h.below hb
  · exact h.below hb
  · obtain ⟨x, y, e, q⟩ := h
    exact ⟨x, y, e, q.below hb⟩
  · obtain ⟨p, e, q, k, z⟩ := h
    exact ⟨p, e, q, k.after hb, fun i hi => (World.cell?_of_block (hb.block p k.s)).trans (z i hi)⟩
  · exact h
theorem cof_newer {w : World} {xv x0 x1 : Value} {m0 m1 : Nat × List Int} {F : Foot} (h : (xv = x0 ∧ newerL m0 m1 = m0) ∨ (xv = x1 ∧ newerL m0 m1 = m1)) (h0 : SnapF w x0 m0 F) (h1 : SnapF w x1 m1 F) : SnapF w xv (newerL m0 m1) F := by
  rcases h with ⟨rfl, e⟩ | ⟨rfl, e⟩
  · rw [e]; exact h0
  · rw [e]; exact h1

/-- What each operation of the looks has made. -/
def TCa (l : List Value) (P : Nat × List Int) (Q : List (List Int)) : Nat → Value → World → Prop
  | 3, _, _ => True
  | 4, _, _ => True
  | 12, v, w => StV w v P Q
  | 22, _, _ => True
  | 23, _, _ => True
  | k, v, _ => v = l.getD k undef
theorem TCa.keep {l : List Value} {P : Nat × List Int} {Q : List (List Int)} (i : Nat) (v : Value) (w w' : World) (h : TCa l P Q i v w) (hb : Below w.heap.size w w') : TCa l P Q i v w' := by
  unfold TCa at h ⊢
  split at h
  · exact trivial
  · exact trivial
  · exact h.below hb
  · exact trivial
  · exact trivial
  · exact h
def TCb (l : List Value) (_P : Nat × List Int) (_Q : List (List Int)) : Nat → Value → World → Prop
  | 10, _, _ => True
  | 11, _, _ => True
  | 12, _, _ => True
  | 13, _, _ => True
  | 14, _, _ => True
  | 15, _, _ => True
  | k, v, _ => v = l.getD k undef
theorem TCb.keep {l : List Value} {P : Nat × List Int} {Q : List (List Int)} (i : Nat) (v : Value) (w w' : World) (h : TCb l P Q i v w) (_hb : Below w.heap.size w w') : TCb l P Q i v w' := by
  unfold TCb at h ⊢
  split at h
  · exact trivial
  · exact trivial
  · exact trivial
  · exact trivial
  · exact trivial
  · exact trivial
  · exact h
def TCc (l : List Value) (P : Nat × List Int) (Q : List (List Int)) : Nat → Value → World → Prop
  | 5, v, w => StV w v P Q
  | k, v, _ => v = l.getD k undef
theorem TCc.keep {l : List Value} {P : Nat × List Int} {Q : List (List Int)} (i : Nat) (v : Value) (w w' : World) (h : TCc l P Q i v w) (hb : Below w.heap.size w w') : TCc l P Q i v w' := by
  unfold TCc at h ⊢
  split at h
  · exact h.below hb
  · exact h
set_option maxRecDepth 100000 in
set_option maxHeartbeats 8000000 in
theorem cofreads_main (size : Nat) (av bv cv dv : Value) (a b c d : List Int) (fuse keep torn again keep2 torn2 : Int) (w : World) (env : Env w) (hav : ArgB w av a) (hab : ∀ z ∈ a, 0 ≤ z ∧ z ≤ 255) (hbv : ArgB w bv b) (hbb : ∀ z ∈ b, 0 ≤ z ∧ z ≤ 255) (hcv : ArgB w cv c) (hcb : ∀ z ∈ c, 0 ≤ z ∧ z ≤ 255) (hdv : ArgB w dv d) (hdb : ∀ z ∈ d, 0 ≤ z ∧ z ≤ 255) (s0 : 32 ≤ size) (s1 : size ≤ 512) (hla : a.length ≤ 2000) (hlb : b.length ≤ 2000) (hlc : c.length ≤ 2000) (hld : d.length ≤ 2000)
    (f0 : -9223372036854775808 ≤ fuse ∧ fuse ≤ 9223372036854775807) (k0 : -9223372036854775808 ≤ keep ∧ keep ≤ 9223372036854775807) (t0 : -9223372036854775808 ≤ torn ∧ torn ≤ 9223372036854775807) :
    Calls Tryz.prog 3 #[.int .i64 (size : Int), av, bv, cv, dv, .agg #[.int .i64 fuse, .int .i64 keep, .int .i64 torn, .int .i64 again, .int .i64 keep2, .int .i64 torn2]] w fun e w' => e = .returned (.bool true) ∧ Below w.heap.size w w' := by
  have HENV := Lib.hid env
  have HF := Lib.hid f0
  have HKT := Lib.hid (And.intro k0 t0)
  have HS := Lib.hid (And.intro s0 s1)
  have HMK : Hid (∀ w, Calls Tryz.prog 5 #[.int .i64 10, .int .i64 (size : Int)] w fun e w' => ∃ r O D, e = .returned (.pointer (some ⟨r, 0, none⟩)) ∧ DskIs w' w.heap.size O r D ∧ NFd 10 size D ∧ D.waits = [] ∧ D.deeds ≤ 1000 ∧ Below w.heap.size w w') := fun w => marked_any 10 size w (by decide) (by decide) s0 s1
  have g1 : ¬ (size : Int) < 32 := by omega
  have g2 : ¬ (512 : Int) < (size : Int) := by omega
  obtain ⟨E2, hE2⟩ : ∃ x, 2 * size = x := ⟨_, rfl⟩
  obtain ⟨E4, hE4⟩ : ∃ x, 4 * size = x := ⟨_, rfl⟩
  obtain ⟨E7, hE7⟩ : ∃ x, 7 * size = x := ⟨_, rfl⟩
  have HE := Lib.hid (And.intro hE2 (And.intro hE4 hE7))
  have m2 : IntKind.i64.wrap (2 * (size : Int)) = (E2 : Int) := by rw [IntKind.wrap_i64]; omega
  have m4 : IntKind.i64.wrap (4 * (size : Int)) = (E4 : Int) := by rw [IntKind.wrap_i64]; omega
  have m7 : IntKind.i64.wrap (7 * (size : Int)) = (E7 : Int) := by rw [IntKind.wrap_i64]; omega
  obtain ⟨xb, hxb⟩ : ∃ x, w.heap.size = x := ⟨_, rfl⟩
  obtain ⟨wx, hwx⟩ : ∃ y, w.alloc (.cells #[.int .i64 fuse, .int .i64 keep, .int .i64 torn, .int .i64 again, .int .i64 keep2, .int .i64 torn2] 24) = y := ⟨_, rfl⟩
  have HXC : Hid (∀ W, Below wx.heap.size wx W → W.cell? ⟨xb, 0, none⟩ = some (.int .i64 fuse) ∧ W.cell? ⟨xb, 1, none⟩ = some (.int .i64 keep) ∧ W.cell? ⟨xb, 2, none⟩ = some (.int .i64 torn)) := fun W hW => by
    have hs : xb < wx.heap.size := by rw [← hwx, ← hxb]; simp
    have k := hW.block xb hs
    refine ⟨?_, ?_, ?_⟩
    all_goals (rw [World.cell?_of_block k, ← hwx, ← hxb, World.cell?_alloc_new]; rfl)
  have HBX : Hid (Below w.heap.size w wx) := by rw [← hwx]; exact (Below.refl _ _).alloc (Nat.le_refl _) _
  have HEN := Lib.hid (fun W (hW : Below wx.heap.size wx W) => (HENV.out.step HBX.out).step hW)
  obtain ⟨aa, ca, rfl⟩ := hav.size
  obtain ⟨Na, hNa⟩ : ∃ x, a.length = x := ⟨_, rfl⟩
  have HBa := Lib.hid hab
  have HVa := Lib.hid hav
  have HAa : Hid (∀ W, Below wx.heap.size wx W → ArgB W (.slice aa Na ca) a) := fun W hW => by have q := (HVa.out.below HBX.out).below hW; rw [hNa] at q; exact q
  have HOa : Hid (a ≠ [] → ∀ k, (Value.slice aa Na ca).ownBlock = some k → k < wx.heap.size) := fun hn k hk => Nat.lt_of_lt_of_le (HVa.out.lt hn (by rw [hNa]; exact hk)) HBX.out.size
  have ga : ¬ (2000 : Int) < (Na : Int) := by omega
  rw [hNa]
  clear hNa hav hab hla
  obtain ⟨ab, cb, rfl⟩ := hbv.size
  obtain ⟨Nb, hNb⟩ : ∃ x, b.length = x := ⟨_, rfl⟩
  have HBb := Lib.hid hbb
  have HVb := Lib.hid hbv
  have HAb : Hid (∀ W, Below wx.heap.size wx W → ArgB W (.slice ab Nb cb) b) := fun W hW => by have q := (HVb.out.below HBX.out).below hW; rw [hNb] at q; exact q
  have HOb : Hid (b ≠ [] → ∀ k, (Value.slice ab Nb cb).ownBlock = some k → k < wx.heap.size) := fun hn k hk => Nat.lt_of_lt_of_le (HVb.out.lt hn (by rw [hNb]; exact hk)) HBX.out.size
  have gb : ¬ (2000 : Int) < (Nb : Int) := by omega
  rw [hNb]
  clear hNb hbv hbb hlb
  obtain ⟨ac, cc, rfl⟩ := hcv.size
  obtain ⟨Nc, hNc⟩ : ∃ x, c.length = x := ⟨_, rfl⟩
  have HBc := Lib.hid hcb
  have HVc := Lib.hid hcv
  have HAc : Hid (∀ W, Below wx.heap.size wx W → ArgB W (.slice ac Nc cc) c) := fun W hW => by have q := (HVc.out.below HBX.out).below hW; rw [hNc] at q; exact q
  have HOc : Hid (c ≠ [] → ∀ k, (Value.slice ac Nc cc).ownBlock = some k → k < wx.heap.size) := fun hn k hk => Nat.lt_of_lt_of_le (HVc.out.lt hn (by rw [hNc]; exact hk)) HBX.out.size
  have gc : ¬ (2000 : Int) < (Nc : Int) := by omega
  rw [hNc]
  clear hNc hcv hcb hlc
  obtain ⟨ad, cd, rfl⟩ := hdv.size
  obtain ⟨Nd, hNd⟩ : ∃ x, d.length = x := ⟨_, rfl⟩
  have HBd := Lib.hid hdb
  have HVd := Lib.hid hdv
  have HAd : Hid (∀ W, Below wx.heap.size wx W → ArgB W (.slice ad Nd cd) d) := fun W hW => by have q := (HVd.out.below HBX.out).below hW; rw [hNd] at q; exact q
  have HOd : Hid (d ≠ [] → ∀ k, (Value.slice ad Nd cd).ownBlock = some k → k < wx.heap.size) := fun hn k hk => Nat.lt_of_lt_of_le (HVd.out.lt hn (by rw [hNd]; exact hk)) HBX.out.size
  have gd : ¬ (2000 : Int) < (Nd : Int) := by omega
  rw [hNd]
  clear hNd hdv hdb hld
  clear env f0 k0 t0 s0 s1 hE2 hE4 hE7
  go_enter Tryz.func3, Tryz.ntmps3
  go_upto_region 12 with (first
    | (go_at_call 4; (with_reducible refine (cof_awake _ (HENV.out.step HBX.out)).mono ?_); rintro e wa ⟨rfl, ga⟩; have GA := Lib.hid ga; clear ga)
    | (go_at_call 5; (with_reducible refine (HMK.out _).mono ?_); rintro e wl1 ⟨r, O1, D1, rfl, d1, n1, ws1, de1, gd⟩; have GL1 := Lib.hid (below_step GA.out gd); have HDE1 : Hid (D1.deeds ≤ 1000) := de1; have d1 := d1.base GA.out.size; have HL1 := Lib.hid (show Calls Tryz.prog 6 #[.pointer (some ⟨r, 0, none⟩), .int .i64 0, .int .i64 2, .slice aa Na ca] wl1 _ from lslay_any wx.heap.size O1 r 10 size D1 0 2 (.slice aa Na ca) a wl1 d1 n1 (by have := HDE1.out; omega) (by decide) (HAa.out wl1 GL1.out) HBa.out HOa.out); clear d1 n1 ws1 de1 gd)
    | (go_at_call 6; (with_reducible refine (HL1.out).mono ?_); rintro e wl2 ⟨D2, O2, rfl, n2, _, de2, d2, o2, gr2⟩; have GL2 := Lib.hid (GL1.out.trans o2.bel); have HDE2 : Hid (D2.deeds ≤ 2000) := (by have := HDE1.out; unfold Hid; omega); have HL2 := Lib.hid (show Calls Tryz.prog 6 #[.pointer (some ⟨r, 0, none⟩), .int .i64 2, .int .i64 2, .slice ab Nb cb] wl2 _ from lslay_any wx.heap.size O2 r 10 size D2 2 2 (.slice ab Nb cb) b wl2 d2 n2 (by have := HDE2.out; omega) (by decide) (HAb.out wl2 GL2.out) HBb.out HOb.out); clear d2 n2 de2 o2 gr2 HL1)
    | (go_at_call 6; (with_reducible refine (HL2.out).mono ?_); rintro e wl3 ⟨D3, O3, rfl, n3, _, de3, d3, o3, gr3⟩; have GL3 := Lib.hid (GL2.out.trans o3.bel); have HDE3 : Hid (D3.deeds ≤ 3000) := (by have := HDE2.out; unfold Hid; omega); have HL3 := Lib.hid (show Calls Tryz.prog 6 #[.pointer (some ⟨r, 0, none⟩), .int .i64 4, .int .i64 3, .slice ac Nc cc] wl3 _ from lslay_any wx.heap.size O3 r 10 size D3 4 3 (.slice ac Nc cc) c wl3 d3 n3 (by have := HDE3.out; omega) (by decide) (HAc.out wl3 GL3.out) HBc.out HOc.out); clear d3 n3 de3 o3 gr3 HL2)
    | (go_at_call 6; (with_reducible refine (HL3.out).mono ?_); rintro e wl4 ⟨D4, O4, rfl, n4, _, de4, d4, o4, gr4⟩; have GL4 := Lib.hid (GL3.out.trans o4.bel); have HDE4 : Hid (D4.deeds ≤ 4000) := (by have := HDE3.out; unfold Hid; omega); have HL4 := Lib.hid (show Calls Tryz.prog 6 #[.pointer (some ⟨r, 0, none⟩), .int .i64 7, .int .i64 3, .slice ad Nd cd] wl4 _ from lslay_any wx.heap.size O4 r 10 size D4 7 3 (.slice ad Nd cd) d wl4 d4 n4 (by have := HDE4.out; omega) (by decide) (HAd.out wl4 GL4.out) HBd.out HOd.out); clear d4 n4 de4 o4 gr4 HL3)
    | (go_at_call 6; (with_reducible refine (HL4.out).mono ?_); rintro e wl5 ⟨D5, O5, rfl, n5, _, de5, d5, o5, gr5⟩; have GL5 := Lib.hid (GL4.out.trans o5.bel); have HDE5 : Hid (D5.deeds ≤ 5000) := (by have := HDE4.out; unfold Hid; omega); have HSY := Lib.hid (bsync_nf wx.heap.size O5 r 10 size D5 wl5 d5 n5 (by have := HDE5.out; omega)); clear d5 n5 de5 o5 gr5 HL4)
    | (go_at_call 7; (with_reducible refine (HSY.out).mono ?_); rintro e w4 ⟨DZ, OZ, rfl, nz, wsz, dez, dz, oz⟩; have G4 := Lib.hid (GL5.out.trans oz.bel); have HDEZ : Hid (DZ.deeds ≤ 6000) := (by have := HDE5.out; unfold Hid; omega); have NZ := Lib.hid (And.intro nz wsz); have H4 := Lib.hid dz; have HAL := Lib.hid (fun W (hW : DskIs W wx.heap.size OZ r DZ) => all_nf wx.heap.size OZ r DZ W hW nz.dark wsz (by have := HDEZ.out; omega)); clear dz oz nz wsz dez HSY)
    | (go_at_call 8; (with_reducible refine (HAL.out _ H4.out).mono ?_); rintro e w5 ⟨rfl, g5⟩; have G5 := Lib.hid (below_step G4.out g5); have H5 := Lib.hid (H4.out.after g5); clear g5))
  have hll := H5.out.ok.ll
  rw [NZ.out.1.n, NZ.out.1.size] at hll
  obtain ⟨Z, hZ⟩ : ∃ x, DZ.last = x := ⟨_, rfl⟩
  have hZb : ∀ z ∈ Z, 0 ≤ z ∧ z ≤ 255 := hZ ▸ H5.out.ok.lb
  rw [hZ] at hll
  obtain ⟨S0, hS0⟩ : ∃ x, Z.take (2 * size) = x := ⟨_, rfl⟩
  obtain ⟨S1, hS1⟩ : ∃ x, regnL (2 * size) (2 * size) Z = x := ⟨_, rfl⟩
  have hsl0 := fun W => slice_text_to Z hZb (2 * size) (E2 : Int) (by have := HE.out.1; omega) (by omega) W
  have hsl1 := fun W => slice_text Z hZb (2 * size) (2 * size) (E2 : Int) (E4 : Int) (by have := HE.out.1; omega) (by have := HE.out.2.1; omega) (by omega) W
  rw [hS0] at hsl0
  rw [hS1] at hsl1
  have hb0 : ∀ z ∈ S0, 0 ≤ z ∧ z ≤ 255 := fun z hz => hZb z (by rw [← hS0] at hz; exact List.mem_of_mem_take hz)
  have hb1 : ∀ z ∈ S1, 0 ≤ z ∧ z ≤ 255 := fun z hz => hZb z (by rw [← hS1] at hz; exact List.mem_of_mem_drop (List.mem_of_mem_take hz))
  have hl0 : S0.length ≤ 1000000 := by rw [← hS0, List.length_take]; have := HS.out.2; omega
  have hl1 : S1.length ≤ 1000000 := by rw [← hS1]; unfold regnL; rw [List.length_take, List.length_drop, hll]; have := HS.out.2; omega
  have HR0 : Hid (∀ W, Calls Tryz.prog 10 #[.string (strOfNums S0), .int .u64 0] W (GivesRs (snapL S0 0) W)) := fun W => rsslot_any S0 0 W hb0 hl0 (by decide)
  have HR1 : Hid (∀ W, Calls Tryz.prog 10 #[.string (strOfNums S1), .int .u64 1] W (GivesRs (snapL S1 1) W)) := fun W => rsslot_any S1 1 W hb1 hl1 (by decide)
  obtain ⟨m0, hm0⟩ : ∃ x, snapL S0 0 = x := ⟨_, rfl⟩
  obtain ⟨m1, hm1⟩ : ∃ x, snapL S1 1 = x := ⟨_, rfl⟩
  have HSN : Hid (slotsL 0 (2 * size) Z = newerL m0 m1) := by
    unfold Hid slotsL
    rw [Nat.zero_add, hS1, hm1]
    show newerL (snapL (Z.take (2 * size)) 0) m1 = _
    rw [hS0, hm0]
  have HNB : Hid (∀ z ∈ (newerL m0 m1).2, 0 ≤ z ∧ z ≤ 255) := fun z hz => by
    rcases newer_cases m0 m1 with e | e
    · rw [e, ← hm0] at hz; exact hb0 z (snap_part S0 0 z hz)
    · rw [e, ← hm1] at hz; exact hb1 z (snap_part S1 1 z hz)
  rw [hm0] at HR0
  rw [hm1] at HR1
  obtain ⟨XA, hXA⟩ : ∃ x, strOfNums Z = x := ⟨_, rfl⟩
  obtain ⟨XB, hXB⟩ : ∃ x, strOfNums S0 = x := ⟨_, rfl⟩
  obtain ⟨XC, hXC⟩ : ∃ x, strOfNums S1 = x := ⟨_, rfl⟩
  rw [hZ, hXA] at HAL
  rw [hXA, hXB] at hsl0
  rw [hXA, hXC] at hsl1
  rw [hXB] at HR0
  rw [hXC] at HR1
  have HZ := Lib.hid hZ
  have HZB := Lib.hid (And.intro hZb hll)
  have HXZ : Hid (strOfNums Z = XA) := hXA
  simp only [hZ, hXA]
  clear hXA hXB hXC hZ hZb hS0 hS1 hb0 hb1 hl0 hl1 hm0 hm1 hll
  refine wp_region_mix 15 (TNs [.string XA, .int .i64 (size : Int), .int .i64 (E2 : Int), .string XB, undef, .string XA, .int .i64 (size : Int), .int .i64 (E2 : Int), .int .i64 (size : Int), .int .i64 (E4 : Int), .string XC, undef, undef, undef, undef] w5.heap.size m0 m1) (fun _ => false) (by kernel_rfl) (by kernel_rfl) TNs.keep (fun _ _ _ h => by cases h) ?_ ?_
  · simp only [List.take_succ_cons, List.take_zero]
    refine (StepsAll.cons ?_ (StepsAll.cons ?_ (StepsAll.cons ?_ (StepsAll.cons ?_ (StepsAll.cons ?_ (StepsAll.cons ?_ (StepsAll.cons ?_ (StepsAll.cons ?_ (StepsAll.cons ?_ (StepsAll.cons ?_ (StepsAll.cons ?_ (StepsAll.cons ?_ (StepsAll.cons ?_ (StepsAll.cons ?_ (StepsAll.cons ?_ StepsAll.nil)))))))))))))))
    · intro u W hb hd
      simp only [putAll, Act.put, List.setIfInBounds_toArray, List.set_cons_succ, List.set_cons_zero, Nat.zero_add, Nat.reduceAdd]
      go_wp2
      first | exact ⟨rfl, Below.refl _ _⟩ | exact ⟨_, rfl, rfl, Below.refl _ _, fun h => by simp at h⟩ | exact ⟨_, rfl, rfl, Below.refl _ _⟩ | exact ⟨rfl, Below.refl _ _, fun h => by simp at h⟩
    · intro u W hb hd
      simp only [putAll, Act.put, List.setIfInBounds_toArray, List.set_cons_succ, List.set_cons_zero, Nat.zero_add, Nat.reduceAdd]
      go_wp2
      first | exact ⟨rfl, Below.refl _ _⟩ | exact ⟨_, rfl, rfl, Below.refl _ _, fun h => by simp at h⟩ | exact ⟨_, rfl, rfl, Below.refl _ _⟩ | exact ⟨rfl, Below.refl _ _, fun h => by simp at h⟩
    · intro u W hb hd
      have e0 : u 1 = .int .i64 (size : Int) := hd.1 rfl (by decide)
      simp only [putAll, Act.put, List.setIfInBounds_toArray, List.set_cons_succ, List.set_cons_zero, Nat.zero_add, Nat.reduceAdd]
      rw [e0]
      go_wp2
      first | exact ⟨rfl, Below.refl _ _⟩ | exact ⟨_, rfl, rfl, Below.refl _ _, fun h => by simp at h⟩ | exact ⟨_, rfl, rfl, Below.refl _ _⟩ | exact ⟨rfl, Below.refl _ _, fun h => by simp at h⟩
    · intro u W hb hd
      have e0 : u 0 = .string XA := hd.1 rfl (by decide)
      have e1 : u 2 = .int .i64 (E2 : Int) := hd.2.1 rfl (by decide)
      simp only [putAll, Act.put, List.setIfInBounds_toArray, List.set_cons_succ, List.set_cons_zero, Nat.zero_add, Nat.reduceAdd]
      rw [e0, e1]
      go_wp2
      first | exact ⟨rfl, Below.refl _ _⟩ | exact ⟨_, rfl, rfl, Below.refl _ _, fun h => by simp at h⟩ | exact ⟨_, rfl, rfl, Below.refl _ _⟩ | exact ⟨rfl, Below.refl _ _, fun h => by simp at h⟩
    · intro u W hb hd
      have e0 : u 3 = .string XB := hd.1 rfl (by decide)
      simp only [putAll, Act.put, List.setIfInBounds_toArray, List.set_cons_succ, List.set_cons_zero, Nat.zero_add, Nat.reduceAdd]
      rw [e0]
      go_wp2_with (go_at_call 10; (with_reducible refine (HR0.out W).mono ?_); rintro e W1 ⟨xv, rfl, hs, g1⟩; have hs9 := hs.weak (F' := fun b => w5.heap.size ≤ b) (fun i _ hi => Nat.le_trans hb.size hi))
      first | exact ⟨_, rfl, hs9, g1, fun h => by simp at h⟩ | exact ⟨hs9, g1, fun h => by simp at h⟩ | exact ⟨_, rfl, hs9, g1⟩ | exact ⟨hs9, g1⟩
    · intro u W hb hd
      simp only [putAll, Act.put, List.setIfInBounds_toArray, List.set_cons_succ, List.set_cons_zero, Nat.zero_add, Nat.reduceAdd]
      go_wp2
      first | exact ⟨rfl, Below.refl _ _⟩ | exact ⟨_, rfl, rfl, Below.refl _ _, fun h => by simp at h⟩ | exact ⟨_, rfl, rfl, Below.refl _ _⟩ | exact ⟨rfl, Below.refl _ _, fun h => by simp at h⟩
    · intro u W hb hd
      simp only [putAll, Act.put, List.setIfInBounds_toArray, List.set_cons_succ, List.set_cons_zero, Nat.zero_add, Nat.reduceAdd]
      go_wp2
      first | exact ⟨rfl, Below.refl _ _⟩ | exact ⟨_, rfl, rfl, Below.refl _ _, fun h => by simp at h⟩ | exact ⟨_, rfl, rfl, Below.refl _ _⟩ | exact ⟨rfl, Below.refl _ _, fun h => by simp at h⟩
    · intro u W hb hd
      have e0 : u 6 = .int .i64 (size : Int) := hd.1 rfl (by decide)
      simp only [putAll, Act.put, List.setIfInBounds_toArray, List.set_cons_succ, List.set_cons_zero, Nat.zero_add, Nat.reduceAdd]
      rw [e0]
      go_wp2
      first | exact ⟨rfl, Below.refl _ _⟩ | exact ⟨_, rfl, rfl, Below.refl _ _, fun h => by simp at h⟩ | exact ⟨_, rfl, rfl, Below.refl _ _⟩ | exact ⟨rfl, Below.refl _ _, fun h => by simp at h⟩
    · intro u W hb hd
      simp only [putAll, Act.put, List.setIfInBounds_toArray, List.set_cons_succ, List.set_cons_zero, Nat.zero_add, Nat.reduceAdd]
      go_wp2
      first | exact ⟨rfl, Below.refl _ _⟩ | exact ⟨_, rfl, rfl, Below.refl _ _, fun h => by simp at h⟩ | exact ⟨_, rfl, rfl, Below.refl _ _⟩ | exact ⟨rfl, Below.refl _ _, fun h => by simp at h⟩
    · intro u W hb hd
      have e0 : u 8 = .int .i64 (size : Int) := hd.1 rfl (by decide)
      simp only [putAll, Act.put, List.setIfInBounds_toArray, List.set_cons_succ, List.set_cons_zero, Nat.zero_add, Nat.reduceAdd]
      rw [e0]
      go_wp2
      first | exact ⟨rfl, Below.refl _ _⟩ | exact ⟨_, rfl, rfl, Below.refl _ _, fun h => by simp at h⟩ | exact ⟨_, rfl, rfl, Below.refl _ _⟩ | exact ⟨rfl, Below.refl _ _, fun h => by simp at h⟩
    · intro u W hb hd
      have e0 : u 5 = .string XA := hd.1 rfl (by decide)
      have e1 : u 7 = .int .i64 (E2 : Int) := hd.2.1 rfl (by decide)
      have e2 : u 9 = .int .i64 (E4 : Int) := hd.2.2.1 rfl (by decide)
      simp only [putAll, Act.put, List.setIfInBounds_toArray, List.set_cons_succ, List.set_cons_zero, Nat.zero_add, Nat.reduceAdd]
      rw [e0, e1, e2]
      go_wp2
      first | exact ⟨rfl, Below.refl _ _⟩ | exact ⟨_, rfl, rfl, Below.refl _ _, fun h => by simp at h⟩ | exact ⟨_, rfl, rfl, Below.refl _ _⟩ | exact ⟨rfl, Below.refl _ _, fun h => by simp at h⟩
    · intro u W hb hd
      have e0 : u 10 = .string XC := hd.1 rfl (by decide)
      simp only [putAll, Act.put, List.setIfInBounds_toArray, List.set_cons_succ, List.set_cons_zero, Nat.zero_add, Nat.reduceAdd]
      rw [e0]
      go_wp2_with (go_at_call 10; (with_reducible refine (HR1.out W).mono ?_); rintro e W1 ⟨xv, rfl, hs, g1⟩; have hs9 := hs.weak (F' := fun b => w5.heap.size ≤ b) (fun i _ hi => Nat.le_trans hb.size hi))
      first | exact ⟨_, rfl, hs9, g1, fun h => by simp at h⟩ | exact ⟨hs9, g1, fun h => by simp at h⟩ | exact ⟨_, rfl, hs9, g1⟩ | exact ⟨hs9, g1⟩
    · intro u W hb hd
      have hs0 : SnapF W (u 4) m0 (fun b => w5.heap.size ≤ b) := hd.1 rfl (by decide)
      have hs1 : SnapF W (u 11) m1 (fun b => w5.heap.size ≤ b) := hd.2.1 rfl (by decide)
      simp only [putAll, Act.put, List.setIfInBounds_toArray, List.set_cons_succ, List.set_cons_zero, Nat.zero_add, Nat.reduceAdd]
      generalize u 4 = x0 at hs0 ⊢
      generalize u 11 = x1 at hs1 ⊢
      go_wp2_with (go_at_call 9; (with_reducible refine (rsnewer_any x0 x1 m0 m1 W hs0.snapV hs1.snapV).mono ?_); rintro e W1 ⟨xv, rfl, hx, g1⟩; have hs9 := cof_newer hx (hs0.below g1) (hs1.below g1))
      first | exact ⟨_, rfl, hs9, g1, fun h => by simp at h⟩ | exact ⟨hs9, g1, fun h => by simp at h⟩ | exact ⟨_, rfl, hs9, g1⟩ | exact ⟨hs9, g1⟩
    · intro u W hb hd
      have hs0 : SnapF W (u 12) (newerL m0 m1) (fun b => w5.heap.size ≤ b) := hd.1 rfl (by decide)
      obtain ⟨hm9, a9, c9, ex9, hA9, hO9⟩ := hs0
      simp only [putAll, Act.put, List.setIfInBounds_toArray, List.set_cons_succ, List.set_cons_zero, Nat.zero_add, Nat.reduceAdd]
      rw [ex9]
      have hs9 : SnapF W (.agg #[.int .u64 ((newerL m0 m1).1 : Int), .slice a9 (newerL m0 m1).2.length c9]) (newerL m0 m1) (fun b => w5.heap.size ≤ b) := ⟨hm9, a9, c9, rfl, hA9, hO9⟩
      have g1 := Below.refl W.heap.size W
      go_wp2
      first | exact ⟨_, _, rfl, hs9⟩ | exact ⟨_, rfl, ⟨_, _, rfl, hs9⟩, g1, fun h => by simp at h⟩ | exact ⟨⟨_, _, rfl, hs9⟩, g1, fun h => by simp at h⟩ | exact ⟨_, rfl, ⟨_, _, rfl, hs9⟩, g1⟩ | exact ⟨⟨_, _, rfl, hs9⟩, g1⟩
    · intro u W hb hd
      simp only [putAll, Act.put, List.setIfInBounds_toArray, List.set_cons_succ, List.set_cons_zero, Nat.zero_add, Nat.reduceAdd]
      have hs9 := Var3.fresh W (.int .u64 0) (.slice none 0 0) (.slice none 0 0) 39 _ rfl
      have hz9 := cells_end3 W (.int .u64 0) (.slice none 0 0) (.slice none 0 0) 39
      have g1 : Below W.heap.size W (W.alloc (.cells #[.int .u64 0, .slice none 0 0, .slice none 0 0] 39)) := (Below.refl _ _).alloc (Nat.le_refl _) _
      go_wp2
      first | exact ⟨_, rfl, hb.size, hs9, hz9⟩ | exact ⟨_, rfl, ⟨_, rfl, hb.size, hs9, hz9⟩, g1, fun h => by simp at h⟩ | exact ⟨⟨_, rfl, hb.size, hs9, hz9⟩, g1, fun h => by simp at h⟩ | exact ⟨_, rfl, ⟨_, rfl, hb.size, hs9, hz9⟩, g1⟩ | exact ⟨⟨_, rfl, hb.size, hs9, hz9⟩, g1⟩
  · intro u W hb hT _
    have e0 : u 0 = .string XA := hT 0 (by decide)
    have e1 : u 1 = .int .i64 (size : Int) := hT 1 (by decide)
    have e2 : u 2 = .int .i64 (E2 : Int) := hT 2 (by decide)
    have e3 : u 3 = .string XB := hT 3 (by decide)
    have e5 : u 5 = .string XA := hT 5 (by decide)
    have e6 : u 6 = .int .i64 (size : Int) := hT 6 (by decide)
    have e7 : u 7 = .int .i64 (E2 : Int) := hT 7 (by decide)
    have e8 : u 8 = .int .i64 (size : Int) := hT 8 (by decide)
    have e9 : u 9 = .int .i64 (E4 : Int) := hT 9 (by decide)
    have e10 : u 10 = .string XC := hT 10 (by decide)
    obtain ⟨xs, ys, e13, hss⟩ : ∃ x y, u 13 = .agg #[x, y, .slice none 0 0] ∧ SnapF W (.agg #[x, y]) (newerL m0 m1) (fun b => w5.heap.size ≤ b) := hT 13 (by decide)
    obtain ⟨hm1, ma, mc, exy, hma, hmo⟩ := hss
    simp only [Value.agg.injEq, Array.mk.injEq, List.cons.injEq, and_true] at exy
    obtain ⟨rfl, rfl⟩ := exy
    obtain ⟨mv, e14, hmv, vv, hz⟩ : ∃ p, u 14 = .pointer (some ⟨p, 0, none⟩) ∧ w5.heap.size ≤ p ∧ Var3 W p (.int .u64 0) (.slice none 0 0) (.slice none 0 0) ∧ ∀ i, 3 ≤ i → W.cell? ⟨p, i, none⟩ = none := hT 14 (by decide)
    obtain ⟨M, hM⟩ : ∃ x, newerL m0 m1 = x := ⟨_, rfl⟩
    rw [hM] at hm1 e13 hma hmo HSN HNB
    clear hM
    obtain ⟨me, hme⟩ : ∃ x, M.1 = x := ⟨_, rfl⟩
    obtain ⟨mn, hmn⟩ : ∃ x, M.2.length = x := ⟨_, rfl⟩
    rw [hme, hmn] at e13
    rw [hmn] at hma hmo
    have q0 := vv.c0
    have q1 := vv.c1
    have q2 := vv.c2
    have q3 := vv.q0
    have q4 := vv.q1
    have q5 := vv.q2
    obtain ⟨WA, hWA⟩ : ∃ x, ((W.setCell ⟨mv, 0, none⟩ (.int .u64 (me : Int))).setCell ⟨mv, 1, none⟩ (.slice ma mn mc)).setCell ⟨mv, 2, none⟩ (.slice none 0 0) = x := ⟨_, rfl⟩
    have hk1 : ∀ j, j ≠ mv → WA.heap[j]? = W.heap[j]? := fun j hj => by rw [← hWA]; exact ((set_else _ _ _ _ j hj).trans (set_else _ _ _ _ j hj)).trans (set_else _ _ _ _ j hj)
    have hs1 : WA.heap.size = W.heap.size := by rw [← hWA]; simp
    have g1w : Below w5.heap.size w5 WA := by rw [← hWA]; exact below_put3 hb hmv _ _ _
    have V1 := Lib.hid (show Var3 WA mv (.int .u64 (me : Int)) (.slice ma mn mc) (.slice none 0 0) from by rw [← hWA]; exact vv.put _ _ _)
    have HMM := Lib.hid (show mv < WA.heap.size ∧ w5.heap.size ≤ mv from ⟨V1.out.s, hmv⟩)
    have HMA : Hid (ArgB WA (.slice ma mn mc) M.2 ∧ (M.2 ≠ [] → ∀ j, (Value.slice ma mn mc).ownBlock = some j → j ≠ mv ∧ w5.heap.size ≤ j ∧ j < WA.heap.size)) := by
      have hne := fun hn j hj => bytes_else3 (v := .slice ma mn mc) (b := M.2) hma hn (j := j) hj vv hz
      exact ⟨hma.stay (fun hn j hj => hk1 j (hne hn j hj)), fun hn j hj => ⟨hne hn j hj, hmo hn j hj, by rw [hs1]; exact hma.lt hn hj⟩⟩
    have GA5 := Lib.hid g1w
    have HM1 := Lib.hid hm1
    have HMN := Lib.hid (And.intro hme hmn)
    clear hb hT vv hm1 hma hmo hz hmv hk1 hs1 g1w hmn
    simp only [List.take_succ_cons, List.take_zero, List.drop_succ_cons, List.drop_zero, putAll, Act.put, List.setIfInBounds_toArray, List.set_cons_succ, List.set_cons_zero, Nat.zero_add, Nat.reduceAdd]
    rw [e0, e1, e2, e3, e5, e6, e7, e8, e9, e10, e13, e14]
    clear e0 e1 e2 e3 e5 e6 e7 e8 e9 e10 e13 e14
    go_upto_region 13 with fail
    clear hWA q0 q1 q2 q3 q4 q5
    obtain ⟨LG, hLG⟩ : ∃ x, regnL (logOf 2 3 me * size) (3 * size) Z = x := ⟨_, rfl⟩
    obtain ⟨XL, hXL⟩ : ∃ x, strOfNums LG = x := ⟨_, rfl⟩
    obtain ⟨pq, hpq⟩ : ∃ x, me % 2 = x := ⟨_, rfl⟩
    have hll := HZB.out.2
    have hlh := log_hi me size
    have hLb : ∀ z ∈ LG, 0 ≤ z ∧ z ≤ 255 := fun z hz => HZB.out.1 z (by rw [← hLG] at hz; exact List.mem_of_mem_drop (List.mem_of_mem_take hz))
    have hLl : LG.length = 3 * size := by rw [← hLG]; exact regn_len (by omega)
    obtain ⟨XD, hXD⟩ : ∃ x, strOfNums (regnL (4 * size) (3 * size) Z) = x := ⟨_, rfl⟩
    obtain ⟨XE, hXE⟩ : ∃ x, strOfNums (Z.drop (7 * size)) = x := ⟨_, rfl⟩
    have hsl3 := fun W => slice_text Z HZB.out.1 (4 * size) (3 * size) (E4 : Int) (E7 : Int) (by have := HE.out.2.1; omega) (by have := HE.out.2.2; omega) (by omega) W
    have hsl4 := fun W => slice_text_from Z HZB.out.1 (7 * size) (E7 : Int) (by have := HE.out.2.2; omega) (by omega) W
    rw [HXZ.out, hXD] at hsl3
    rw [HXZ.out, hXE] at hsl4
    have HXD : Hid (¬ pq = 1 → XD = XL) := fun hn => by
      have e : logOf 2 3 me = 4 := by unfold logOf; rw [hpq, show pq = 0 by omega]
      rw [← hXD, ← hXL, ← hLG, e]
    have HXE : Hid (pq = 1 → XE = XL) := fun hn => by
      have e : logOf 2 3 me = 7 := by unfold logOf; rw [hpq, hn]
      rw [← hXE, ← hXL, ← hLG, e]
      unfold regnL
      rw [List.take_of_length_le (by rw [List.length_drop]; omega)]
    have i1 : (me : Int).tmod 2 = (pq : Int) := by rw [Int.tmod_eq_emod_of_nonneg (by omega)]; omega
    have i2 : (me : Int) % 2 = (pq : Int) := by omega
    have HRD := Lib.hid (rread_any wx.heap.size LG WA hLb (by have := HS.out.2; omega) (Nat.le_trans G5.out.size GA5.out.size))
    rw [hXL] at HRD
    obtain ⟨L, hL⟩ : ∃ x, (allL LG).1 = x := ⟨_, rfl⟩
    rw [hL] at HRD
    have HLL : Hid ((∀ l ∈ L, ∀ z ∈ l, 0 ≤ z ∧ z ≤ 255) ∧ L.length ≤ 100000000) := by
      refine ⟨by rw [← hL]; exact all_byte hLb, ?_⟩
      have q1 := used_many L
      have q2 := all_parts LG
      have q3 : usedL L ≤ LG.length := by rw [← hL, q2.2.1]; exact q2.2.2.2.1
      have q4 := HS.out.2
      omega
    have HLR : Hid ((allL (regnL (logOf 2 3 M.1 * size) (3 * size) Z)).1 = L) := by unfold Hid; rw [HMN.out.1, hLG, hL]
    obtain ⟨LN, hLN⟩ : ∃ x, L.length = x := ⟨_, rfl⟩
    rw [hLN] at HLL
    have HLN := Lib.hid hLN
    have n0 := V1.out.c0
    clear hLG hXL hpq hll hlh hLb hLl hXD hXE hL hLN
    go_upto_if 90 with fail
    go_cut [16] from 90 to 94 (fun v16 wr => v16 = .string XL ∧ wr = WA)
    case first =>
      by_cases hq : pq = 1
      · subst hq
        have hx := HXE.out rfl
        subst hx
        go_wp2
        go_meet
        exact ⟨rfl, rfl⟩
      · have hx := HXD.out hq
        subst hx
        have hqf : ((pq : Int) == 1) = false := by simp; omega
        go_wp2
        go_meet
        exact ⟨rfl, rfl⟩
    case rest =>
      obtain ⟨rfl, hwr⟩ := hcut
      subst hwr
      clear n0 hsl3 hsl4 hsl0 hsl1 i1 i2 HXD HXE HR0 HR1
      go_upto_region 17 with (go_at_call 11; (with_reducible refine (HRD.out).mono ?_); rintro e w7 ⟨lm, rfl, hlm, rlog, g7⟩; obtain ⟨⟨zv, zc0, zll⟩, _, zq, zs, _, zown⟩ := rlog; obtain ⟨za, zc, rfl⟩ := zll.size; rw [HLN.out] at zc0 zll; have vq := V1.out.after g7; have n0 := vq.c0; have n1 := vq.c1; have n2 := vq.c2; have y2 := vq.q2; obtain ⟨W8, hW8⟩ : ∃ x, w7.setCell ⟨mv, 2, none⟩ (.slice za LN zc) = x := ⟨_, rfl⟩; have HST := Lib.hid (stk_start (LN := LN) (mn := mn) (me := me) H5.out NZ.out.1.n NZ.out.1.size G5.out GA5.out g7 HMM.out hW8 V1.out HMA.out HM1.out HMN.out.1 HMN.out.2 zll (fun i hi => ⟨hi.1, Nat.lt_of_lt_of_le hi.2 (Nat.le_of_lt zs)⟩)); have f0 := zq 0; clear g7 zll zq zs zown vq HRD hlm)
      obtain ⟨K, hK⟩ : ∃ K : Foot, K = fun i => i < W8.heap.size ∧ ¬ OZ i := ⟨_, rfl⟩
      have HST2 := Lib.hid (show KD wx W8 wx.heap.size r 10 size DZ K ∧ StK W8 wx.heap.size mv M L (.int .u64 (me : Int)) (.slice ma mn mc) (.slice za LN zc) K from by rw [hK]; exact HST.out)
      clear hK HST hW8 zc0 n0 n1 n2 y2 f0 V1 HAL
      have T8 := Lib.hid HST2.out.2
      have HFU := Lib.hid (kc_fuse HST2.out.1 fuse HF.out.1 HF.out.2)
      have xk0 := (HXC.out _ HST2.out.1.bel).1
      have HSZ : Hid (slotsL 0 (2 * size) (DZ.light fuse).last = M) := by show slotsL 0 (2 * size) DZ.last = M; rw [HZ.out]; exact HSN.out
      have HLZ : Hid ((allL (regnL (logOf 2 3 M.1 * size) (3 * size) (DZ.light fuse).last)).1 = L) := by show (allL (regnL (logOf 2 3 M.1 * size) (3 * size) DZ.last)).1 = L; rw [HZ.out]; exact HLR.out
      go_upto_region 19 with (first
        | (go_at_call 12; (with_reducible refine (HFU.out).mono ?_); rintro e w9 ⟨rfl, kd9, kk9⟩; have T9 := Lib.hid (T8.out.keep kk9); have HOP := Lib.hid (kd_copen kd9 (HEN.out w9 kd9.bel) NZ.out.1.dark NZ.out.2 (by show DZ.deeds ≤ _; have := HDEZ.out; omega) HSZ.out HLZ.out); have HOK : Hid ((DZ.light fuse).Ok ∧ (DZ.light fuse).n = 10 ∧ (DZ.light fuse).size = size) := (by obtain ⟨O9, h9⟩ := kd9; exact ⟨h9.d.ok, h9.n, h9.sz⟩); clear kd9 kk9 HFU xk0)
        | (go_at_call 13; (with_reducible refine (HOP.out).mono ?_); rintro e wo ⟨gc, DO, pv, rv, rfl, hout, kko, kdo, hx⟩; have TO := Lib.hid (T9.out.keep kko); have KDO := Lib.hid kdo; simp only [HLN.out] at hx; have HX := Lib.hid hx; have HOUT := Lib.hid hout; clear hout kko kdo hx HOP))
      clear T8 HST2
      go_cut [136] from 111 to 135 (fun v136 wr => v136 = .bool false ∧ KD wx wr wx.heap.size r 10 size DO K ∧ StK wr wx.heap.size mv M L (.int .u64 (me : Int)) (.slice ma mn mc) (.slice za LN zc) K)
      case first =>
        have HX2 := HX.out
        clear HX
        rcases HX2 with ⟨rfl, rfl⟩ | ⟨rfl, kb, va, vn, rfl, rfl, kc, hal⟩
        · skip
          refine wp_region_mix 26 (TCb [.int .i64 12, .bool true, .bool true, .int .i64 12, .bool false, .bool false, .bool false, .int .i64 12, .bool false, .bool false, undef, undef, undef, undef, undef, undef, .bool false, .bool false, .bool false, .int .i64 12, .bool true, .bool true, .pointer none, .bool false, .bool false, .bool false] M L) (fun _ => false) (by kernel_rfl) (by kernel_rfl) TCb.keep (fun _ _ _ h => by cases h) ?_ ?_
          · simp only [List.take_succ_cons, List.take_zero]
            refine (StepsAll.cons ?_ (StepsAll.cons ?_ (StepsAll.cons ?_ (StepsAll.cons ?_ (StepsAll.cons ?_ (StepsAll.cons ?_ (StepsAll.cons ?_ (StepsAll.cons ?_ (StepsAll.cons ?_ (StepsAll.cons ?_ (StepsAll.cons ?_ (StepsAll.cons ?_ (StepsAll.cons ?_ (StepsAll.cons ?_ (StepsAll.cons ?_ (StepsAll.cons ?_ (StepsAll.cons ?_ (StepsAll.cons ?_ (StepsAll.cons ?_ (StepsAll.cons ?_ (StepsAll.cons ?_ (StepsAll.cons ?_ (StepsAll.cons ?_ (StepsAll.cons ?_ (StepsAll.cons ?_ (StepsAll.cons ?_ StepsAll.nil))))))))))))))))))))))))))
            · intro u W hb hd
              simp only [putAll, Act.put, List.setIfInBounds_toArray, List.set_cons_succ, List.set_cons_zero, Nat.zero_add, Nat.reduceAdd]
              go_wp2
              first | exact ⟨rfl, Below.refl _ _⟩ | exact ⟨_, rfl, rfl, Below.refl _ _, fun h => by simp at h⟩ | exact ⟨_, rfl, rfl, Below.refl _ _⟩ | exact ⟨rfl, Below.refl _ _, fun h => by simp at h⟩
            · intro u W hb hd
              have e0 : u 0 = .int .i64 12 := hd.1 rfl (by decide)
              simp only [putAll, Act.put, List.setIfInBounds_toArray, List.set_cons_succ, List.set_cons_zero, Nat.zero_add, Nat.reduceAdd]
              rw [e0]
              go_wp2
              first | exact ⟨rfl, Below.refl _ _⟩ | exact ⟨_, rfl, rfl, Below.refl _ _, fun h => by simp at h⟩ | exact ⟨_, rfl, rfl, Below.refl _ _⟩ | exact ⟨rfl, Below.refl _ _, fun h => by simp at h⟩
            · intro u W hb hd
              have e0 : u 1 = .bool true := hd.1 rfl (by decide)
              simp only [putAll, Act.put, List.setIfInBounds_toArray, List.set_cons_succ, List.set_cons_zero, Nat.zero_add, Nat.reduceAdd]
              rw [e0]
              go_wp2
              first | exact ⟨rfl, Below.refl _ _⟩ | exact ⟨_, rfl, rfl, Below.refl _ _, fun h => by simp at h⟩ | exact ⟨_, rfl, rfl, Below.refl _ _⟩ | exact ⟨rfl, Below.refl _ _, fun h => by simp at h⟩
            · intro u W hb hd
              have e0 : u 2 = .bool true := hd.1 rfl (by decide)
              simp only [putAll, Act.put, List.setIfInBounds_toArray, List.set_cons_succ, List.set_cons_zero, Nat.zero_add, Nat.reduceAdd]
              rw [e0]
              go_wp2
              first | exact ⟨rfl, Below.refl _ _⟩ | exact ⟨_, rfl, rfl, Below.refl _ _, fun h => by simp at h⟩ | exact ⟨_, rfl, rfl, Below.refl _ _⟩ | exact ⟨rfl, Below.refl _ _, fun h => by simp at h⟩
            · intro u W hb hd
              have e0 : u 3 = .int .i64 12 := hd.1 rfl (by decide)
              have e1 : u 2 = .bool true := hd.2.1 rfl (by decide)
              simp only [putAll, Act.put, List.setIfInBounds_toArray, List.set_cons_succ, List.set_cons_zero, Nat.zero_add, Nat.reduceAdd]
              rw [e0, e1]
              go_wp2
              first | exact ⟨rfl, Below.refl _ _⟩ | exact ⟨_, rfl, rfl, Below.refl _ _, fun h => by simp at h⟩ | exact ⟨_, rfl, rfl, Below.refl _ _⟩ | exact ⟨rfl, Below.refl _ _, fun h => by simp at h⟩
            · intro u W hb hd
              have e0 : u 2 = .bool true := hd.1 rfl (by decide)
              have e1 : u 4 = .bool false := hd.2.1 rfl (by decide)
              simp only [putAll, Act.put, List.setIfInBounds_toArray, List.set_cons_succ, List.set_cons_zero, Nat.zero_add, Nat.reduceAdd]
              rw [e0, e1]
              go_wp2
              first | exact ⟨rfl, Below.refl _ _⟩ | exact ⟨_, rfl, rfl, Below.refl _ _, fun h => by simp at h⟩ | exact ⟨_, rfl, rfl, Below.refl _ _⟩ | exact ⟨rfl, Below.refl _ _, fun h => by simp at h⟩
            · intro u W hb hd
              have e0 : u 5 = .bool false := hd.1 rfl (by decide)
              simp only [putAll, Act.put, List.setIfInBounds_toArray, List.set_cons_succ, List.set_cons_zero, Nat.zero_add, Nat.reduceAdd]
              rw [e0]
              go_wp2
              first | exact ⟨rfl, Below.refl _ _⟩ | exact ⟨_, rfl, rfl, Below.refl _ _, fun h => by simp at h⟩ | exact ⟨_, rfl, rfl, Below.refl _ _⟩ | exact ⟨rfl, Below.refl _ _, fun h => by simp at h⟩
            · intro u W hb hd
              have e0 : u 6 = .bool false := hd.1 rfl (by decide)
              simp only [putAll, Act.put, List.setIfInBounds_toArray, List.set_cons_succ, List.set_cons_zero, Nat.zero_add, Nat.reduceAdd]
              rw [e0]
              go_wp2
              first | exact ⟨rfl, Below.refl _ _⟩ | exact ⟨_, rfl, rfl, Below.refl _ _, fun h => by simp at h⟩ | exact ⟨_, rfl, rfl, Below.refl _ _⟩ | exact ⟨rfl, Below.refl _ _, fun h => by simp at h⟩
            · intro u W hb hd
              have e0 : u 7 = .int .i64 12 := hd.1 rfl (by decide)
              have e1 : u 6 = .bool false := hd.2.1 rfl (by decide)
              simp only [putAll, Act.put, List.setIfInBounds_toArray, List.set_cons_succ, List.set_cons_zero, Nat.zero_add, Nat.reduceAdd]
              rw [e0, e1]
              go_wp2
              first | exact ⟨rfl, Below.refl _ _⟩ | exact ⟨_, rfl, rfl, Below.refl _ _, fun h => by simp at h⟩ | exact ⟨_, rfl, rfl, Below.refl _ _⟩ | exact ⟨rfl, Below.refl _ _, fun h => by simp at h⟩
            · intro u W hb hd
              have e0 : u 8 = .bool false := hd.1 rfl (by decide)
              have e2 : u 6 = .bool false := hd.2.2.1 rfl (by decide)
              simp only [putAll, Act.put, List.setIfInBounds_toArray, List.set_cons_succ, List.set_cons_zero, Nat.zero_add, Nat.reduceAdd]
              rw [e0, e2]
              go_wp2
              first | exact ⟨rfl, Below.refl _ _⟩ | exact ⟨_, rfl, rfl, Below.refl _ _, fun h => by simp at h⟩ | exact ⟨_, rfl, rfl, Below.refl _ _⟩ | exact ⟨rfl, Below.refl _ _, fun h => by simp at h⟩
            · intro u W hb hd
              have e0 : u 9 = .bool false := hd.1 rfl (by decide)
              simp only [putAll, Act.put, List.setIfInBounds_toArray, List.set_cons_succ, List.set_cons_zero, Nat.zero_add, Nat.reduceAdd]
              rw [e0]
              go_wp2
              first | exact ⟨_, rfl, trivial, Below.refl _ _, fun h => by simp at h⟩ | exact ⟨_, rfl, trivial, Below.refl _ _⟩ | exact ⟨undef, trivial, Below.refl _ _⟩ | exact ⟨trivial, Below.refl _ _⟩ | exact Below.refl _ _
            · intro u W hb hd
              have e0 : u 9 = .bool false := hd.1 rfl (by decide)
              simp only [putAll, Act.put, List.setIfInBounds_toArray, List.set_cons_succ, List.set_cons_zero, Nat.zero_add, Nat.reduceAdd]
              rw [e0]
              go_wp2
              first | exact ⟨_, rfl, trivial, Below.refl _ _, fun h => by simp at h⟩ | exact ⟨_, rfl, trivial, Below.refl _ _⟩ | exact ⟨undef, trivial, Below.refl _ _⟩ | exact ⟨trivial, Below.refl _ _⟩ | exact Below.refl _ _
            · intro u W hb hd
              have e3 : u 9 = .bool false := hd.2.2.2.1 rfl (by decide)
              simp only [putAll, Act.put, List.setIfInBounds_toArray, List.set_cons_succ, List.set_cons_zero, Nat.zero_add, Nat.reduceAdd]
              rw [e3]
              go_wp2
              first | exact ⟨_, rfl, trivial, Below.refl _ _, fun h => by simp at h⟩ | exact ⟨_, rfl, trivial, Below.refl _ _⟩ | exact ⟨undef, trivial, Below.refl _ _⟩ | exact ⟨trivial, Below.refl _ _⟩ | exact Below.refl _ _
            · intro u W hb hd
              have e0 : u 9 = .bool false := hd.1 rfl (by decide)
              simp only [putAll, Act.put, List.setIfInBounds_toArray, List.set_cons_succ, List.set_cons_zero, Nat.zero_add, Nat.reduceAdd]
              rw [e0]
              go_wp2
              first | exact ⟨_, rfl, trivial, Below.refl _ _, fun h => by simp at h⟩ | exact ⟨_, rfl, trivial, Below.refl _ _⟩ | exact ⟨undef, trivial, Below.refl _ _⟩ | exact ⟨trivial, Below.refl _ _⟩ | exact Below.refl _ _
            · intro u W hb hd
              have e3 : u 9 = .bool false := hd.2.2.2.1 rfl (by decide)
              simp only [putAll, Act.put, List.setIfInBounds_toArray, List.set_cons_succ, List.set_cons_zero, Nat.zero_add, Nat.reduceAdd]
              rw [e3]
              go_wp2
              first | exact ⟨_, rfl, trivial, Below.refl _ _, fun h => by simp at h⟩ | exact ⟨_, rfl, trivial, Below.refl _ _⟩ | exact ⟨undef, trivial, Below.refl _ _⟩ | exact ⟨trivial, Below.refl _ _⟩ | exact Below.refl _ _
            · intro u W hb hd
              have e1 : u 9 = .bool false := hd.2.1 rfl (by decide)
              simp only [putAll, Act.put, List.setIfInBounds_toArray, List.set_cons_succ, List.set_cons_zero, Nat.zero_add, Nat.reduceAdd]
              rw [e1]
              go_wp2
              first | exact ⟨_, rfl, trivial, Below.refl _ _, fun h => by simp at h⟩ | exact ⟨_, rfl, trivial, Below.refl _ _⟩ | exact ⟨undef, trivial, Below.refl _ _⟩ | exact ⟨trivial, Below.refl _ _⟩ | exact Below.refl _ _
            · intro u W hb hd
              have e0 : u 9 = .bool false := hd.1 rfl (by decide)
              have e2 : u 6 = .bool false := hd.2.2.1 rfl (by decide)
              simp only [putAll, Act.put, List.setIfInBounds_toArray, List.set_cons_succ, List.set_cons_zero, Nat.zero_add, Nat.reduceAdd]
              rw [e0, e2]
              go_wp2
              first | exact ⟨rfl, Below.refl _ _⟩ | exact ⟨_, rfl, rfl, Below.refl _ _, fun h => by simp at h⟩ | exact ⟨_, rfl, rfl, Below.refl _ _⟩ | exact ⟨rfl, Below.refl _ _, fun h => by simp at h⟩
            · intro u W hb hd
              have e0 : u 6 = .bool false := hd.1 rfl (by decide)
              have e1 : u 16 = .bool false := hd.2.1 rfl (by decide)
              simp only [putAll, Act.put, List.setIfInBounds_toArray, List.set_cons_succ, List.set_cons_zero, Nat.zero_add, Nat.reduceAdd]
              rw [e0, e1]
              go_wp2
              first | exact ⟨rfl, Below.refl _ _⟩ | exact ⟨_, rfl, rfl, Below.refl _ _, fun h => by simp at h⟩ | exact ⟨_, rfl, rfl, Below.refl _ _⟩ | exact ⟨rfl, Below.refl _ _, fun h => by simp at h⟩
            · intro u W hb hd
              have e0 : u 17 = .bool false := hd.1 rfl (by decide)
              simp only [putAll, Act.put, List.setIfInBounds_toArray, List.set_cons_succ, List.set_cons_zero, Nat.zero_add, Nat.reduceAdd]
              rw [e0]
              go_wp2
              first | exact ⟨rfl, Below.refl _ _⟩ | exact ⟨_, rfl, rfl, Below.refl _ _, fun h => by simp at h⟩ | exact ⟨_, rfl, rfl, Below.refl _ _⟩ | exact ⟨rfl, Below.refl _ _, fun h => by simp at h⟩
            · intro u W hb hd
              have e0 : u 18 = .bool false := hd.1 rfl (by decide)
              simp only [putAll, Act.put, List.setIfInBounds_toArray, List.set_cons_succ, List.set_cons_zero, Nat.zero_add, Nat.reduceAdd]
              rw [e0]
              go_wp2
              first | exact ⟨rfl, Below.refl _ _⟩ | exact ⟨_, rfl, rfl, Below.refl _ _, fun h => by simp at h⟩ | exact ⟨_, rfl, rfl, Below.refl _ _⟩ | exact ⟨rfl, Below.refl _ _, fun h => by simp at h⟩
            · intro u W hb hd
              have e0 : u 19 = .int .i64 12 := hd.1 rfl (by decide)
              have e1 : u 18 = .bool false := hd.2.1 rfl (by decide)
              simp only [putAll, Act.put, List.setIfInBounds_toArray, List.set_cons_succ, List.set_cons_zero, Nat.zero_add, Nat.reduceAdd]
              rw [e0, e1]
              go_wp2
              first | exact ⟨rfl, Below.refl _ _⟩ | exact ⟨_, rfl, rfl, Below.refl _ _, fun h => by simp at h⟩ | exact ⟨_, rfl, rfl, Below.refl _ _⟩ | exact ⟨rfl, Below.refl _ _, fun h => by simp at h⟩
            · intro u W hb hd
              have e0 : u 20 = .bool true := hd.1 rfl (by decide)
              have e2 : u 18 = .bool false := hd.2.2.1 rfl (by decide)
              simp only [putAll, Act.put, List.setIfInBounds_toArray, List.set_cons_succ, List.set_cons_zero, Nat.zero_add, Nat.reduceAdd]
              rw [e0, e2]
              go_wp2
              first | exact ⟨rfl, Below.refl _ _⟩ | exact ⟨_, rfl, rfl, Below.refl _ _, fun h => by simp at h⟩ | exact ⟨_, rfl, rfl, Below.refl _ _⟩ | exact ⟨rfl, Below.refl _ _, fun h => by simp at h⟩
            · intro u W hb hd
              have e0 : u 21 = .bool true := hd.1 rfl (by decide)
              simp only [putAll, Act.put, List.setIfInBounds_toArray, List.set_cons_succ, List.set_cons_zero, Nat.zero_add, Nat.reduceAdd]
              rw [e0]
              go_wp2
              first | exact ⟨rfl, Below.refl _ _⟩ | exact ⟨_, rfl, rfl, Below.refl _ _, fun h => by simp at h⟩ | exact ⟨_, rfl, rfl, Below.refl _ _⟩ | exact ⟨rfl, Below.refl _ _, fun h => by simp at h⟩
            · intro u W hb hd
              have e0 : u 22 = .pointer none := hd.1 rfl (by decide)
              have e1 : u 21 = .bool true := hd.2.1 rfl (by decide)
              simp only [putAll, Act.put, List.setIfInBounds_toArray, List.set_cons_succ, List.set_cons_zero, Nat.zero_add, Nat.reduceAdd]
              rw [e0, e1]
              go_wp2
              first | exact ⟨rfl, Below.refl _ _⟩ | exact ⟨_, rfl, rfl, Below.refl _ _, fun h => by simp at h⟩ | exact ⟨_, rfl, rfl, Below.refl _ _⟩ | exact ⟨rfl, Below.refl _ _, fun h => by simp at h⟩
            · intro u W hb hd
              have e0 : u 21 = .bool true := hd.1 rfl (by decide)
              have e1 : u 23 = .bool false := hd.2.1 rfl (by decide)
              have e2 : u 18 = .bool false := hd.2.2.1 rfl (by decide)
              simp only [putAll, Act.put, List.setIfInBounds_toArray, List.set_cons_succ, List.set_cons_zero, Nat.zero_add, Nat.reduceAdd]
              rw [e0, e1, e2]
              go_wp2
              first | exact ⟨rfl, Below.refl _ _⟩ | exact ⟨_, rfl, rfl, Below.refl _ _, fun h => by simp at h⟩ | exact ⟨_, rfl, rfl, Below.refl _ _⟩ | exact ⟨rfl, Below.refl _ _, fun h => by simp at h⟩
            · intro u W hb hd
              have e0 : u 18 = .bool false := hd.1 rfl (by decide)
              have e1 : u 24 = .bool false := hd.2.1 rfl (by decide)
              simp only [putAll, Act.put, List.setIfInBounds_toArray, List.set_cons_succ, List.set_cons_zero, Nat.zero_add, Nat.reduceAdd]
              rw [e0, e1]
              go_wp2
              first | exact ⟨rfl, Below.refl _ _⟩ | exact ⟨_, rfl, rfl, Below.refl _ _, fun h => by simp at h⟩ | exact ⟨_, rfl, rfl, Below.refl _ _⟩ | exact ⟨rfl, Below.refl _ _, fun h => by simp at h⟩
          · intro u W hb hT _
            have e0 : u 0 = .int .i64 12 := hT 0 (by decide)
            have e1 : u 1 = .bool true := hT 1 (by decide)
            have e2 : u 2 = .bool true := hT 2 (by decide)
            have e3 : u 3 = .int .i64 12 := hT 3 (by decide)
            have e4 : u 4 = .bool false := hT 4 (by decide)
            have e5 : u 5 = .bool false := hT 5 (by decide)
            have e6 : u 6 = .bool false := hT 6 (by decide)
            have e7 : u 7 = .int .i64 12 := hT 7 (by decide)
            have e8 : u 8 = .bool false := hT 8 (by decide)
            have e9 : u 9 = .bool false := hT 9 (by decide)
            have e16 : u 16 = .bool false := hT 16 (by decide)
            have e17 : u 17 = .bool false := hT 17 (by decide)
            have e18 : u 18 = .bool false := hT 18 (by decide)
            have e19 : u 19 = .int .i64 12 := hT 19 (by decide)
            have e20 : u 20 = .bool true := hT 20 (by decide)
            have e21 : u 21 = .bool true := hT 21 (by decide)
            have e22 : u 22 = .pointer none := hT 22 (by decide)
            have e23 : u 23 = .bool false := hT 23 (by decide)
            have e24 : u 24 = .bool false := hT 24 (by decide)
            have e25 : u 25 = .bool false := hT 25 (by decide)
            have HW3 := Lib.hid (KDO.out.after hb)
            have HT3 := Lib.hid (TO.out.after hb)
            clear hb hT
            simp only [List.take_succ_cons, List.take_zero, List.drop_succ_cons, List.drop_nil, putAll, Act.put, List.setIfInBounds_toArray, List.set_cons_succ, List.set_cons_zero, Nat.zero_add, Nat.reduceAdd]
            rw [e0, e1, e2, e3, e4, e5, e6, e7, e8, e9, e16, e17, e18, e19, e20, e21, e22, e23, e24, e25]
            clear e0 e1 e2 e3 e4 e5 e6 e7 e8 e9 e16 e17 e18 e19 e20 e21 e22 e23 e24 e25
            go_wp2
            go_meet
            exact ⟨rfl, HW3.out, HT3.out⟩
        · have KCO := Lib.hid kc
          have HAL := Lib.hid hal
          have HSTA := Lib.hid (fun W (hW : Below wo.heap.size wo W) => (show Calls Tryz.prog 15 #[.pointer (some ⟨kb, 0, none⟩), .slice va LN vn] W fun e w' => ∃ x, e = .returned x ∧ StV w' x M L ∧ Below W.heap.size W w' from kc_state (KCO.out.after hW) (HAL.out.below hW) HM1.out))
          have HSA := Lib.hid (fun W xv (hW : Below wo.heap.size wo W) (hs : StV W xv M L) => rcfsame_yes xv (.agg #[.int .u64 (me : Int), .slice ma mn mc, .slice za LN zc]) M L W hs (TO.out.after hW).stV HNB.out HLL.out.1 (by rw [HLN.out]; exact HLL.out.2))
          clear kc hal
          refine wp_region_mix 26 (TCa [.int .i64 0, .bool false, .bool false, undef, undef, .bool false, .bool false, .int .i64 0, .bool true, .bool true, .pointer (some ⟨kb, 0, none⟩), .slice va LN vn, undef, .agg #[.int .u64 (me : Int), .slice ma mn mc, .slice za LN zc], .bool true, .bool false, .bool false, .bool false, .bool false, .int .i64 0, .bool false, .bool false, undef, undef, .bool false, .bool false] M L) (fun _ => false) (by kernel_rfl) (by kernel_rfl) TCa.keep (fun _ _ _ h => by cases h) ?_ ?_
          · simp only [List.take_succ_cons, List.take_zero]
            refine (StepsAll.cons ?_ (StepsAll.cons ?_ (StepsAll.cons ?_ (StepsAll.cons ?_ (StepsAll.cons ?_ (StepsAll.cons ?_ (StepsAll.cons ?_ (StepsAll.cons ?_ (StepsAll.cons ?_ (StepsAll.cons ?_ (StepsAll.cons ?_ (StepsAll.cons ?_ (StepsAll.cons ?_ (StepsAll.cons ?_ (StepsAll.cons ?_ (StepsAll.cons ?_ (StepsAll.cons ?_ (StepsAll.cons ?_ (StepsAll.cons ?_ (StepsAll.cons ?_ (StepsAll.cons ?_ (StepsAll.cons ?_ (StepsAll.cons ?_ (StepsAll.cons ?_ (StepsAll.cons ?_ (StepsAll.cons ?_ StepsAll.nil))))))))))))))))))))))))))
            · intro u W hb hd
              simp only [putAll, Act.put, List.setIfInBounds_toArray, List.set_cons_succ, List.set_cons_zero, Nat.zero_add, Nat.reduceAdd]
              go_wp2
              first | exact ⟨rfl, Below.refl _ _⟩ | exact ⟨_, rfl, rfl, Below.refl _ _, fun h => by simp at h⟩ | exact ⟨_, rfl, rfl, Below.refl _ _⟩ | exact ⟨rfl, Below.refl _ _, fun h => by simp at h⟩
            · intro u W hb hd
              have e0 : u 0 = .int .i64 0 := hd.1 rfl (by decide)
              simp only [putAll, Act.put, List.setIfInBounds_toArray, List.set_cons_succ, List.set_cons_zero, Nat.zero_add, Nat.reduceAdd]
              rw [e0]
              go_wp2
              first | exact ⟨rfl, Below.refl _ _⟩ | exact ⟨_, rfl, rfl, Below.refl _ _, fun h => by simp at h⟩ | exact ⟨_, rfl, rfl, Below.refl _ _⟩ | exact ⟨rfl, Below.refl _ _, fun h => by simp at h⟩
            · intro u W hb hd
              have e0 : u 1 = .bool false := hd.1 rfl (by decide)
              simp only [putAll, Act.put, List.setIfInBounds_toArray, List.set_cons_succ, List.set_cons_zero, Nat.zero_add, Nat.reduceAdd]
              rw [e0]
              go_wp2
              first | exact ⟨rfl, Below.refl _ _⟩ | exact ⟨_, rfl, rfl, Below.refl _ _, fun h => by simp at h⟩ | exact ⟨_, rfl, rfl, Below.refl _ _⟩ | exact ⟨rfl, Below.refl _ _, fun h => by simp at h⟩
            · intro u W hb hd
              have e0 : u 2 = .bool false := hd.1 rfl (by decide)
              simp only [putAll, Act.put, List.setIfInBounds_toArray, List.set_cons_succ, List.set_cons_zero, Nat.zero_add, Nat.reduceAdd]
              rw [e0]
              go_wp2
              first | exact ⟨_, rfl, trivial, Below.refl _ _, fun h => by simp at h⟩ | exact ⟨_, rfl, trivial, Below.refl _ _⟩ | exact ⟨undef, trivial, Below.refl _ _⟩ | exact ⟨trivial, Below.refl _ _⟩ | exact Below.refl _ _
            · intro u W hb hd
              have e1 : u 2 = .bool false := hd.2.1 rfl (by decide)
              simp only [putAll, Act.put, List.setIfInBounds_toArray, List.set_cons_succ, List.set_cons_zero, Nat.zero_add, Nat.reduceAdd]
              rw [e1]
              go_wp2
              first | exact ⟨_, rfl, trivial, Below.refl _ _, fun h => by simp at h⟩ | exact ⟨_, rfl, trivial, Below.refl _ _⟩ | exact ⟨undef, trivial, Below.refl _ _⟩ | exact ⟨trivial, Below.refl _ _⟩ | exact Below.refl _ _
            · intro u W hb hd
              have e0 : u 2 = .bool false := hd.1 rfl (by decide)
              simp only [putAll, Act.put, List.setIfInBounds_toArray, List.set_cons_succ, List.set_cons_zero, Nat.zero_add, Nat.reduceAdd]
              rw [e0]
              go_wp2
              first | exact ⟨rfl, Below.refl _ _⟩ | exact ⟨_, rfl, rfl, Below.refl _ _, fun h => by simp at h⟩ | exact ⟨_, rfl, rfl, Below.refl _ _⟩ | exact ⟨rfl, Below.refl _ _, fun h => by simp at h⟩
            · intro u W hb hd
              have e0 : u 5 = .bool false := hd.1 rfl (by decide)
              simp only [putAll, Act.put, List.setIfInBounds_toArray, List.set_cons_succ, List.set_cons_zero, Nat.zero_add, Nat.reduceAdd]
              rw [e0]
              go_wp2
              first | exact ⟨rfl, Below.refl _ _⟩ | exact ⟨_, rfl, rfl, Below.refl _ _, fun h => by simp at h⟩ | exact ⟨_, rfl, rfl, Below.refl _ _⟩ | exact ⟨rfl, Below.refl _ _, fun h => by simp at h⟩
            · intro u W hb hd
              have e0 : u 6 = .bool false := hd.1 rfl (by decide)
              simp only [putAll, Act.put, List.setIfInBounds_toArray, List.set_cons_succ, List.set_cons_zero, Nat.zero_add, Nat.reduceAdd]
              rw [e0]
              go_wp2
              first | exact ⟨rfl, Below.refl _ _⟩ | exact ⟨_, rfl, rfl, Below.refl _ _, fun h => by simp at h⟩ | exact ⟨_, rfl, rfl, Below.refl _ _⟩ | exact ⟨rfl, Below.refl _ _, fun h => by simp at h⟩
            · intro u W hb hd
              have e0 : u 7 = .int .i64 0 := hd.1 rfl (by decide)
              have e1 : u 6 = .bool false := hd.2.1 rfl (by decide)
              simp only [putAll, Act.put, List.setIfInBounds_toArray, List.set_cons_succ, List.set_cons_zero, Nat.zero_add, Nat.reduceAdd]
              rw [e0, e1]
              go_wp2
              first | exact ⟨rfl, Below.refl _ _⟩ | exact ⟨_, rfl, rfl, Below.refl _ _, fun h => by simp at h⟩ | exact ⟨_, rfl, rfl, Below.refl _ _⟩ | exact ⟨rfl, Below.refl _ _, fun h => by simp at h⟩
            · intro u W hb hd
              have e0 : u 8 = .bool true := hd.1 rfl (by decide)
              have e2 : u 6 = .bool false := hd.2.2.1 rfl (by decide)
              simp only [putAll, Act.put, List.setIfInBounds_toArray, List.set_cons_succ, List.set_cons_zero, Nat.zero_add, Nat.reduceAdd]
              rw [e0, e2]
              go_wp2
              first | exact ⟨rfl, Below.refl _ _⟩ | exact ⟨_, rfl, rfl, Below.refl _ _, fun h => by simp at h⟩ | exact ⟨_, rfl, rfl, Below.refl _ _⟩ | exact ⟨rfl, Below.refl _ _, fun h => by simp at h⟩
            · intro u W hb hd
              have e0 : u 9 = .bool true := hd.1 rfl (by decide)
              simp only [putAll, Act.put, List.setIfInBounds_toArray, List.set_cons_succ, List.set_cons_zero, Nat.zero_add, Nat.reduceAdd]
              rw [e0]
              go_wp2
              first | exact ⟨rfl, Below.refl _ _⟩ | exact ⟨_, rfl, rfl, Below.refl _ _, fun h => by simp at h⟩ | exact ⟨_, rfl, rfl, Below.refl _ _⟩ | exact ⟨rfl, Below.refl _ _, fun h => by simp at h⟩
            · intro u W hb hd
              have e0 : u 9 = .bool true := hd.1 rfl (by decide)
              simp only [putAll, Act.put, List.setIfInBounds_toArray, List.set_cons_succ, List.set_cons_zero, Nat.zero_add, Nat.reduceAdd]
              rw [e0]
              go_wp2
              first | exact ⟨rfl, Below.refl _ _⟩ | exact ⟨_, rfl, rfl, Below.refl _ _, fun h => by simp at h⟩ | exact ⟨_, rfl, rfl, Below.refl _ _⟩ | exact ⟨rfl, Below.refl _ _, fun h => by simp at h⟩
            · intro u W hb hd
              have e0 : u 10 = .pointer (some ⟨kb, 0, none⟩) := hd.1 rfl (by decide)
              have e1 : u 11 = .slice va LN vn := hd.2.1 rfl (by decide)
              have e3 : u 9 = .bool true := hd.2.2.2.1 rfl (by decide)
              simp only [putAll, Act.put, List.setIfInBounds_toArray, List.set_cons_succ, List.set_cons_zero, Nat.zero_add, Nat.reduceAdd]
              rw [e0, e1, e3]
              go_wp2_with (go_at_call 15; (with_reducible refine (HSTA.out W hb).mono ?_); rintro e W1 ⟨xv, rfl, hs, g1⟩)
              first | exact ⟨_, rfl, hs, g1, fun h => by simp at h⟩ | exact ⟨hs, g1, fun h => by simp at h⟩ | exact ⟨_, rfl, hs, g1⟩ | exact ⟨hs, g1⟩
            · intro u W hb hd
              have e0 : u 9 = .bool true := hd.1 rfl (by decide)
              have vq := TO.out.after hb
              have n0 := vq.v.c0
              have n1 := vq.v.c1
              have n2 := vq.v.c2
              clear vq
              simp only [putAll, Act.put, List.setIfInBounds_toArray, List.set_cons_succ, List.set_cons_zero, Nat.zero_add, Nat.reduceAdd]
              rw [e0]
              go_wp2
              first | exact ⟨rfl, Below.refl _ _⟩ | exact ⟨_, rfl, rfl, Below.refl _ _, fun h => by simp at h⟩ | exact ⟨_, rfl, rfl, Below.refl _ _⟩ | exact ⟨rfl, Below.refl _ _, fun h => by simp at h⟩
            · intro u W hb hd
              have hs0 : StV W (u 12) M L := hd.1 rfl (by decide)
              have e1 : u 13 = .agg #[.int .u64 (me : Int), .slice ma mn mc, .slice za LN zc] := hd.2.1 rfl (by decide)
              have e3 : u 9 = .bool true := hd.2.2.2.1 rfl (by decide)
              simp only [putAll, Act.put, List.setIfInBounds_toArray, List.set_cons_succ, List.set_cons_zero, Nat.zero_add, Nat.reduceAdd]
              rw [e1, e3]
              generalize u 12 = x0 at hs0 ⊢
              go_wp2_with (go_at_call 14; (with_reducible refine (HSA.out W x0 hb hs0).mono ?_); rintro e W1 ⟨rfl, g1⟩)
              first | exact ⟨_, rfl, rfl, g1, fun h => by simp at h⟩ | exact ⟨rfl, g1⟩ | exact ⟨_, rfl, rfl, g1⟩
            · intro u W hb hd
              have e0 : u 14 = .bool true := hd.1 rfl (by decide)
              have e1 : u 9 = .bool true := hd.2.1 rfl (by decide)
              simp only [putAll, Act.put, List.setIfInBounds_toArray, List.set_cons_succ, List.set_cons_zero, Nat.zero_add, Nat.reduceAdd]
              rw [e0, e1]
              go_wp2
              first | exact ⟨rfl, Below.refl _ _⟩ | exact ⟨_, rfl, rfl, Below.refl _ _, fun h => by simp at h⟩ | exact ⟨_, rfl, rfl, Below.refl _ _⟩ | exact ⟨rfl, Below.refl _ _, fun h => by simp at h⟩
            · intro u W hb hd
              have e0 : u 9 = .bool true := hd.1 rfl (by decide)
              have e1 : u 15 = .bool false := hd.2.1 rfl (by decide)
              have e2 : u 6 = .bool false := hd.2.2.1 rfl (by decide)
              simp only [putAll, Act.put, List.setIfInBounds_toArray, List.set_cons_succ, List.set_cons_zero, Nat.zero_add, Nat.reduceAdd]
              rw [e0, e1, e2]
              go_wp2
              first | exact ⟨rfl, Below.refl _ _⟩ | exact ⟨_, rfl, rfl, Below.refl _ _, fun h => by simp at h⟩ | exact ⟨_, rfl, rfl, Below.refl _ _⟩ | exact ⟨rfl, Below.refl _ _, fun h => by simp at h⟩
            · intro u W hb hd
              have e0 : u 6 = .bool false := hd.1 rfl (by decide)
              have e1 : u 16 = .bool false := hd.2.1 rfl (by decide)
              simp only [putAll, Act.put, List.setIfInBounds_toArray, List.set_cons_succ, List.set_cons_zero, Nat.zero_add, Nat.reduceAdd]
              rw [e0, e1]
              go_wp2
              first | exact ⟨rfl, Below.refl _ _⟩ | exact ⟨_, rfl, rfl, Below.refl _ _, fun h => by simp at h⟩ | exact ⟨_, rfl, rfl, Below.refl _ _⟩ | exact ⟨rfl, Below.refl _ _, fun h => by simp at h⟩
            · intro u W hb hd
              have e0 : u 17 = .bool false := hd.1 rfl (by decide)
              simp only [putAll, Act.put, List.setIfInBounds_toArray, List.set_cons_succ, List.set_cons_zero, Nat.zero_add, Nat.reduceAdd]
              rw [e0]
              go_wp2
              first | exact ⟨rfl, Below.refl _ _⟩ | exact ⟨_, rfl, rfl, Below.refl _ _, fun h => by simp at h⟩ | exact ⟨_, rfl, rfl, Below.refl _ _⟩ | exact ⟨rfl, Below.refl _ _, fun h => by simp at h⟩
            · intro u W hb hd
              have e0 : u 18 = .bool false := hd.1 rfl (by decide)
              simp only [putAll, Act.put, List.setIfInBounds_toArray, List.set_cons_succ, List.set_cons_zero, Nat.zero_add, Nat.reduceAdd]
              rw [e0]
              go_wp2
              first | exact ⟨rfl, Below.refl _ _⟩ | exact ⟨_, rfl, rfl, Below.refl _ _, fun h => by simp at h⟩ | exact ⟨_, rfl, rfl, Below.refl _ _⟩ | exact ⟨rfl, Below.refl _ _, fun h => by simp at h⟩
            · intro u W hb hd
              have e0 : u 19 = .int .i64 0 := hd.1 rfl (by decide)
              have e1 : u 18 = .bool false := hd.2.1 rfl (by decide)
              simp only [putAll, Act.put, List.setIfInBounds_toArray, List.set_cons_succ, List.set_cons_zero, Nat.zero_add, Nat.reduceAdd]
              rw [e0, e1]
              go_wp2
              first | exact ⟨rfl, Below.refl _ _⟩ | exact ⟨_, rfl, rfl, Below.refl _ _, fun h => by simp at h⟩ | exact ⟨_, rfl, rfl, Below.refl _ _⟩ | exact ⟨rfl, Below.refl _ _, fun h => by simp at h⟩
            · intro u W hb hd
              have e0 : u 20 = .bool false := hd.1 rfl (by decide)
              have e2 : u 18 = .bool false := hd.2.2.1 rfl (by decide)
              simp only [putAll, Act.put, List.setIfInBounds_toArray, List.set_cons_succ, List.set_cons_zero, Nat.zero_add, Nat.reduceAdd]
              rw [e0, e2]
              go_wp2
              first | exact ⟨rfl, Below.refl _ _⟩ | exact ⟨_, rfl, rfl, Below.refl _ _, fun h => by simp at h⟩ | exact ⟨_, rfl, rfl, Below.refl _ _⟩ | exact ⟨rfl, Below.refl _ _, fun h => by simp at h⟩
            · intro u W hb hd
              have e0 : u 21 = .bool false := hd.1 rfl (by decide)
              simp only [putAll, Act.put, List.setIfInBounds_toArray, List.set_cons_succ, List.set_cons_zero, Nat.zero_add, Nat.reduceAdd]
              rw [e0]
              go_wp2
              first | exact ⟨_, rfl, trivial, Below.refl _ _, fun h => by simp at h⟩ | exact ⟨_, rfl, trivial, Below.refl _ _⟩ | exact ⟨undef, trivial, Below.refl _ _⟩ | exact ⟨trivial, Below.refl _ _⟩ | exact Below.refl _ _
            · intro u W hb hd
              have e1 : u 21 = .bool false := hd.2.1 rfl (by decide)
              simp only [putAll, Act.put, List.setIfInBounds_toArray, List.set_cons_succ, List.set_cons_zero, Nat.zero_add, Nat.reduceAdd]
              rw [e1]
              go_wp2
              first | exact ⟨_, rfl, trivial, Below.refl _ _, fun h => by simp at h⟩ | exact ⟨_, rfl, trivial, Below.refl _ _⟩ | exact ⟨undef, trivial, Below.refl _ _⟩ | exact ⟨trivial, Below.refl _ _⟩ | exact Below.refl _ _
            · intro u W hb hd
              have e0 : u 21 = .bool false := hd.1 rfl (by decide)
              have e2 : u 18 = .bool false := hd.2.2.1 rfl (by decide)
              simp only [putAll, Act.put, List.setIfInBounds_toArray, List.set_cons_succ, List.set_cons_zero, Nat.zero_add, Nat.reduceAdd]
              rw [e0, e2]
              go_wp2
              first | exact ⟨rfl, Below.refl _ _⟩ | exact ⟨_, rfl, rfl, Below.refl _ _, fun h => by simp at h⟩ | exact ⟨_, rfl, rfl, Below.refl _ _⟩ | exact ⟨rfl, Below.refl _ _, fun h => by simp at h⟩
            · intro u W hb hd
              have e0 : u 18 = .bool false := hd.1 rfl (by decide)
              have e1 : u 24 = .bool false := hd.2.1 rfl (by decide)
              simp only [putAll, Act.put, List.setIfInBounds_toArray, List.set_cons_succ, List.set_cons_zero, Nat.zero_add, Nat.reduceAdd]
              rw [e0, e1]
              go_wp2
              first | exact ⟨rfl, Below.refl _ _⟩ | exact ⟨_, rfl, rfl, Below.refl _ _, fun h => by simp at h⟩ | exact ⟨_, rfl, rfl, Below.refl _ _⟩ | exact ⟨rfl, Below.refl _ _, fun h => by simp at h⟩
          · intro u W hb hT _
            have e0 : u 0 = .int .i64 0 := hT 0 (by decide)
            have e1 : u 1 = .bool false := hT 1 (by decide)
            have e2 : u 2 = .bool false := hT 2 (by decide)
            have e5 : u 5 = .bool false := hT 5 (by decide)
            have e6 : u 6 = .bool false := hT 6 (by decide)
            have e7 : u 7 = .int .i64 0 := hT 7 (by decide)
            have e8 : u 8 = .bool true := hT 8 (by decide)
            have e9 : u 9 = .bool true := hT 9 (by decide)
            have e10 : u 10 = .pointer (some ⟨kb, 0, none⟩) := hT 10 (by decide)
            have e11 : u 11 = .slice va LN vn := hT 11 (by decide)
            have e13 : u 13 = .agg #[.int .u64 (me : Int), .slice ma mn mc, .slice za LN zc] := hT 13 (by decide)
            have e14 : u 14 = .bool true := hT 14 (by decide)
            have e15 : u 15 = .bool false := hT 15 (by decide)
            have e16 : u 16 = .bool false := hT 16 (by decide)
            have e17 : u 17 = .bool false := hT 17 (by decide)
            have e18 : u 18 = .bool false := hT 18 (by decide)
            have e19 : u 19 = .int .i64 0 := hT 19 (by decide)
            have e20 : u 20 = .bool false := hT 20 (by decide)
            have e21 : u 21 = .bool false := hT 21 (by decide)
            have e24 : u 24 = .bool false := hT 24 (by decide)
            have e25 : u 25 = .bool false := hT 25 (by decide)
            have HW3 := Lib.hid (KDO.out.after hb)
            have HT3 := Lib.hid (TO.out.after hb)
            clear hb hT
            simp only [List.take_succ_cons, List.take_zero, List.drop_succ_cons, List.drop_nil, putAll, Act.put, List.setIfInBounds_toArray, List.set_cons_succ, List.set_cons_zero, Nat.zero_add, Nat.reduceAdd]
            rw [e0, e1, e2, e5, e6, e7, e8, e9, e10, e11, e13, e14, e15, e16, e17, e18, e19, e20, e21, e24, e25]
            clear e0 e1 e2 e5 e6 e7 e8 e9 e10 e11 e13 e14 e15 e16 e17 e18 e19 e20 e21 e24 e25
            go_wp2
            go_meet
            exact ⟨rfl, HW3.out, HT3.out⟩
      case rest =>
        obtain ⟨rfl, hkd, htw⟩ := hcut
        have TW := Lib.hid htw
        have HCD := Lib.hid (copens_crash HOK.out.1 HOK.out.2.1 HOK.out.2.2 HOUT.out HLZ.out HSZ.out keep torn)
        have HDEO : Hid (DO.deeds ≤ 7000) := by
          have q1 := HOUT.out.1.hi
          have q2 := HDEZ.out
          have q3 : (DZ.light fuse).deeds = DZ.deeds := rfl
          unfold Hid
          omega
        have HCR := Lib.hid (kc_crash hkd (by have := HDEO.out; omega) keep torn HKT.out.1.1 HKT.out.1.2 HKT.out.2.1 HKT.out.2.2)
        have xk1 := (HXC.out wc (by obtain ⟨O9, h9⟩ := hkd; exact h9.bel)).2.1
        have xk2 := (HXC.out wc (by obtain ⟨O9, h9⟩ := hkd; exact h9.bel)).2.2
        clear hkd htw HX KDO TO T9
        go_upto_region 23 with (first
          | (go_at_call 16; (with_reducible refine (HCR.out).mono ?_); rintro e wp ⟨rfl, kdp, kkp⟩; have TP := Lib.hid (TW.out.keep kkp); obtain ⟨DP, hDP⟩ : ∃ x, DO.crash keep torn = x := ⟨_, rfl⟩; rw [hDP] at kdp HCD; have HOP := Lib.hid (kd_reopen kdp (HEN.out wp kdp.bel) HCD.out.1 HCD.out.2.1 (by have q1 := HCD.out.2.2.1; have q2 := HDEZ.out; have q3 : (DZ.light fuse).deeds = DZ.deeds := rfl; omega) HCD.out.2.2.2.1 HCD.out.2.2.2.2.1); clear kdp kkp HCR xk1 xk2 hDP)
          | (go_at_call 13; (with_reducible refine (HOP.out).mono ?_); rintro e wq ⟨DQ, kt, ta, tn, rfl, kc, hal, kkq, nq, wsq, deq, lq⟩; have TQ := Lib.hid (TP.out.keep kkq); simp only [HLN.out] at kc hal ⊢; have KCQ := Lib.hid kc; have HAL := Lib.hid hal; have NQ := Lib.hid (And.intro nq (And.intro wsq (And.intro deq lq))); clear kc hal kkq nq wsq deq lq HOP))
        have HSTA := Lib.hid (fun W (hW : Below wq.heap.size wq W) => (show Calls Tryz.prog 15 #[.pointer (some ⟨kt, 0, none⟩), .slice ta LN tn] W fun e w' => ∃ x, e = .returned x ∧ StV w' x M L ∧ Below W.heap.size W w' from kc_state (KCQ.out.after hW) (HAL.out.below hW) HM1.out))
        have HSA := Lib.hid (fun W xv (hW : Below wq.heap.size wq W) (hs : StV W xv M L) => rcfsame_yes xv (.agg #[.int .u64 (me : Int), .slice ma mn mc, .slice za LN zc]) M L W hs (TQ.out.after hW).stV HNB.out HLL.out.1 (by rw [HLN.out]; exact HLL.out.2))
        have HRC := Lib.hid (fun W (hW : Below wq.heap.size wq W) => (show Calls Tryz.prog 17 #[.pointer (some ⟨kt, 0, none⟩)] W fun e w' => e = .returned (.int .i64 (LN : Int)) ∧ w' = W from kc_recs (KCQ.out.after hW)))
        obtain ⟨XG, hXG⟩ : ∃ x, strOfNums DQ.last = x := ⟨_, rfl⟩
        obtain ⟨XF, hXF⟩ : ∃ x, strOfNums (Z.take (4 * size)) = x := ⟨_, rfl⟩
        have HQA := Lib.hid (fun W (hW : Below wq.heap.size wq W) => kc_all (KCQ.out.after hW) NQ.out.1.dark NQ.out.2.1 (by have q1 := NQ.out.2.2.1; have q2 := HCD.out.2.2.1; have q3 := HDEZ.out; have q4 : (DZ.light fuse).deeds = DZ.deeds := rfl; omega) hXG)
        have hdq : DQ.Ok := by obtain ⟨O9, OC9, h9⟩ := KCQ.out; exact h9.d.ok
        have hlq := hdq.ll
        rw [NQ.out.1.n, NQ.out.1.size] at hlq
        have hlz := HZB.out.2
        have hsl5 := fun W => slice_text_to DQ.last hdq.lb (4 * size) (E4 : Int) (by have := HE.out.2.1; omega) (by omega) W
        have hsl6 := fun W => slice_text_to Z HZB.out.1 (4 * size) (E4 : Int) (by have := HE.out.2.1; omega) (by omega) W
        have hlt : DQ.last.take (4 * size) = Z.take (4 * size) := by
          refine NQ.out.2.2.2.trans (HCD.out.2.2.2.2.2.trans ?_)
          show DZ.last.take (4 * size) = _
          rw [HZ.out]
        rw [hlt, hXG, hXF] at hsl5
        rw [HXZ.out, hXF] at hsl6
        have HFIN0 := Lib.hid (fun W (hW : Below wq.heap.size wq W) => HBX.out.trans ((KCQ.out.after hW).bel.mono HBX.out.size))
        clear hXG hXF hdq hlq hlz hlt
        refine wp_region_mix 28 (TCc [.int .i64 0, .bool true, .bool true, .pointer (some ⟨kt, 0, none⟩), .slice ta LN tn, undef, .agg #[.int .u64 (me : Int), .slice ma mn mc, .slice za LN zc], .bool true, .bool true, .bool true, .pointer (some ⟨kt, 0, none⟩), .int .i64 (LN : Int), .slice ta LN tn, .int .i64 (LN : Int), .bool true, .bool true, .bool true, .pointer (some ⟨r, 0, none⟩), .string XG, .int .i64 (size : Int), .int .i64 (E4 : Int), .string XF, .string XA, .int .i64 (size : Int), .int .i64 (E4 : Int), .string XF, .bool true, .bool true] M L) (fun _ => false) (by kernel_rfl) (by kernel_rfl) TCc.keep (fun _ _ _ h => by cases h) ?_ ?_
        · simp only [List.take_succ_cons, List.take_zero]
          refine (StepsAll.cons ?_ (StepsAll.cons ?_ (StepsAll.cons ?_ (StepsAll.cons ?_ (StepsAll.cons ?_ (StepsAll.cons ?_ (StepsAll.cons ?_ (StepsAll.cons ?_ (StepsAll.cons ?_ (StepsAll.cons ?_ (StepsAll.cons ?_ (StepsAll.cons ?_ (StepsAll.cons ?_ (StepsAll.cons ?_ (StepsAll.cons ?_ (StepsAll.cons ?_ (StepsAll.cons ?_ (StepsAll.cons ?_ (StepsAll.cons ?_ (StepsAll.cons ?_ (StepsAll.cons ?_ (StepsAll.cons ?_ (StepsAll.cons ?_ (StepsAll.cons ?_ (StepsAll.cons ?_ (StepsAll.cons ?_ (StepsAll.cons ?_ (StepsAll.cons ?_ StepsAll.nil))))))))))))))))))))))))))))
          · intro u W hb hd
            simp only [putAll, Act.put, List.setIfInBounds_toArray, List.set_cons_succ, List.set_cons_zero, Nat.zero_add, Nat.reduceAdd]
            go_wp2
            first | exact ⟨rfl, Below.refl _ _⟩ | exact ⟨_, rfl, rfl, Below.refl _ _, fun h => by simp at h⟩ | exact ⟨_, rfl, rfl, Below.refl _ _⟩ | exact ⟨rfl, Below.refl _ _, fun h => by simp at h⟩
          · intro u W hb hd
            have e0 : u 0 = .int .i64 0 := hd.1 rfl (by decide)
            simp only [putAll, Act.put, List.setIfInBounds_toArray, List.set_cons_succ, List.set_cons_zero, Nat.zero_add, Nat.reduceAdd]
            rw [e0]
            go_wp2
            first | exact ⟨rfl, Below.refl _ _⟩ | exact ⟨_, rfl, rfl, Below.refl _ _, fun h => by simp at h⟩ | exact ⟨_, rfl, rfl, Below.refl _ _⟩ | exact ⟨rfl, Below.refl _ _, fun h => by simp at h⟩
          · intro u W hb hd
            have e0 : u 1 = .bool true := hd.1 rfl (by decide)
            simp only [putAll, Act.put, List.setIfInBounds_toArray, List.set_cons_succ, List.set_cons_zero, Nat.zero_add, Nat.reduceAdd]
            rw [e0]
            go_wp2
            first | exact ⟨rfl, Below.refl _ _⟩ | exact ⟨_, rfl, rfl, Below.refl _ _, fun h => by simp at h⟩ | exact ⟨_, rfl, rfl, Below.refl _ _⟩ | exact ⟨rfl, Below.refl _ _, fun h => by simp at h⟩
          · intro u W hb hd
            have e0 : u 2 = .bool true := hd.1 rfl (by decide)
            simp only [putAll, Act.put, List.setIfInBounds_toArray, List.set_cons_succ, List.set_cons_zero, Nat.zero_add, Nat.reduceAdd]
            rw [e0]
            go_wp2
            first | exact ⟨rfl, Below.refl _ _⟩ | exact ⟨_, rfl, rfl, Below.refl _ _, fun h => by simp at h⟩ | exact ⟨_, rfl, rfl, Below.refl _ _⟩ | exact ⟨rfl, Below.refl _ _, fun h => by simp at h⟩
          · intro u W hb hd
            have e0 : u 2 = .bool true := hd.1 rfl (by decide)
            simp only [putAll, Act.put, List.setIfInBounds_toArray, List.set_cons_succ, List.set_cons_zero, Nat.zero_add, Nat.reduceAdd]
            rw [e0]
            go_wp2
            first | exact ⟨rfl, Below.refl _ _⟩ | exact ⟨_, rfl, rfl, Below.refl _ _, fun h => by simp at h⟩ | exact ⟨_, rfl, rfl, Below.refl _ _⟩ | exact ⟨rfl, Below.refl _ _, fun h => by simp at h⟩
          · intro u W hb hd
            have e0 : u 3 = .pointer (some ⟨kt, 0, none⟩) := hd.1 rfl (by decide)
            have e1 : u 4 = .slice ta LN tn := hd.2.1 rfl (by decide)
            have e3 : u 2 = .bool true := hd.2.2.2.1 rfl (by decide)
            simp only [putAll, Act.put, List.setIfInBounds_toArray, List.set_cons_succ, List.set_cons_zero, Nat.zero_add, Nat.reduceAdd]
            rw [e0, e1, e3]
            go_wp2_with (go_at_call 15; (with_reducible refine (HSTA.out W hb).mono ?_); rintro e W1 ⟨xv, rfl, hs, g1⟩)
            first | exact ⟨_, rfl, hs, g1, fun h => by simp at h⟩ | exact ⟨hs, g1, fun h => by simp at h⟩ | exact ⟨_, rfl, hs, g1⟩ | exact ⟨hs, g1⟩
          · intro u W hb hd
            have e0 : u 2 = .bool true := hd.1 rfl (by decide)
            have vq := TQ.out.after hb
            have n0 := vq.v.c0
            have n1 := vq.v.c1
            have n2 := vq.v.c2
            clear vq
            simp only [putAll, Act.put, List.setIfInBounds_toArray, List.set_cons_succ, List.set_cons_zero, Nat.zero_add, Nat.reduceAdd]
            rw [e0]
            go_wp2
            first | exact ⟨rfl, Below.refl _ _⟩ | exact ⟨_, rfl, rfl, Below.refl _ _, fun h => by simp at h⟩ | exact ⟨_, rfl, rfl, Below.refl _ _⟩ | exact ⟨rfl, Below.refl _ _, fun h => by simp at h⟩
          · intro u W hb hd
            have hs0 : StV W (u 5) M L := hd.1 rfl (by decide)
            have e1 : u 6 = .agg #[.int .u64 (me : Int), .slice ma mn mc, .slice za LN zc] := hd.2.1 rfl (by decide)
            have e3 : u 2 = .bool true := hd.2.2.2.1 rfl (by decide)
            simp only [putAll, Act.put, List.setIfInBounds_toArray, List.set_cons_succ, List.set_cons_zero, Nat.zero_add, Nat.reduceAdd]
            rw [e1, e3]
            generalize u 5 = x0 at hs0 ⊢
            go_wp2_with (go_at_call 14; (with_reducible refine (HSA.out W x0 hb hs0).mono ?_); rintro e W1 ⟨rfl, g1⟩)
            first | exact ⟨_, rfl, rfl, g1, fun h => by simp at h⟩ | exact ⟨rfl, g1⟩ | exact ⟨_, rfl, rfl, g1⟩
          · intro u W hb hd
            have e0 : u 2 = .bool true := hd.1 rfl (by decide)
            have e1 : u 7 = .bool true := hd.2.1 rfl (by decide)
            simp only [putAll, Act.put, List.setIfInBounds_toArray, List.set_cons_succ, List.set_cons_zero, Nat.zero_add, Nat.reduceAdd]
            rw [e0, e1]
            go_wp2
            first | exact ⟨rfl, Below.refl _ _⟩ | exact ⟨_, rfl, rfl, Below.refl _ _, fun h => by simp at h⟩ | exact ⟨_, rfl, rfl, Below.refl _ _⟩ | exact ⟨rfl, Below.refl _ _, fun h => by simp at h⟩
          · intro u W hb hd
            have e0 : u 8 = .bool true := hd.1 rfl (by decide)
            simp only [putAll, Act.put, List.setIfInBounds_toArray, List.set_cons_succ, List.set_cons_zero, Nat.zero_add, Nat.reduceAdd]
            rw [e0]
            go_wp2
            first | exact ⟨rfl, Below.refl _ _⟩ | exact ⟨_, rfl, rfl, Below.refl _ _, fun h => by simp at h⟩ | exact ⟨_, rfl, rfl, Below.refl _ _⟩ | exact ⟨rfl, Below.refl _ _, fun h => by simp at h⟩
          · intro u W hb hd
            have e0 : u 9 = .bool true := hd.1 rfl (by decide)
            simp only [putAll, Act.put, List.setIfInBounds_toArray, List.set_cons_succ, List.set_cons_zero, Nat.zero_add, Nat.reduceAdd]
            rw [e0]
            go_wp2
            first | exact ⟨rfl, Below.refl _ _⟩ | exact ⟨_, rfl, rfl, Below.refl _ _, fun h => by simp at h⟩ | exact ⟨_, rfl, rfl, Below.refl _ _⟩ | exact ⟨rfl, Below.refl _ _, fun h => by simp at h⟩
          · intro u W hb hd
            have e0 : u 10 = .pointer (some ⟨kt, 0, none⟩) := hd.1 rfl (by decide)
            have e2 : u 9 = .bool true := hd.2.2.1 rfl (by decide)
            simp only [putAll, Act.put, List.setIfInBounds_toArray, List.set_cons_succ, List.set_cons_zero, Nat.zero_add, Nat.reduceAdd]
            rw [e0, e2]
            go_wp2_with (go_at_call 17; (with_reducible refine (HRC.out W hb).mono ?_); rintro e W1 ⟨rfl, rfl⟩; have g1 := Below.refl W1.heap.size W1)
            first | exact ⟨_, rfl, rfl, g1, fun h => by simp at h⟩ | exact ⟨rfl, g1⟩ | exact ⟨_, rfl, rfl, g1⟩
          · intro u W hb hd
            have e0 : u 9 = .bool true := hd.1 rfl (by decide)
            simp only [putAll, Act.put, List.setIfInBounds_toArray, List.set_cons_succ, List.set_cons_zero, Nat.zero_add, Nat.reduceAdd]
            rw [e0]
            go_wp2
            first | exact ⟨rfl, Below.refl _ _⟩ | exact ⟨_, rfl, rfl, Below.refl _ _, fun h => by simp at h⟩ | exact ⟨_, rfl, rfl, Below.refl _ _⟩ | exact ⟨rfl, Below.refl _ _, fun h => by simp at h⟩
          · intro u W hb hd
            have e0 : u 12 = .slice ta LN tn := hd.1 rfl (by decide)
            have e1 : u 9 = .bool true := hd.2.1 rfl (by decide)
            simp only [putAll, Act.put, List.setIfInBounds_toArray, List.set_cons_succ, List.set_cons_zero, Nat.zero_add, Nat.reduceAdd]
            rw [e0, e1]
            go_wp2
            first | exact ⟨rfl, Below.refl _ _⟩ | exact ⟨_, rfl, rfl, Below.refl _ _, fun h => by simp at h⟩ | exact ⟨_, rfl, rfl, Below.refl _ _⟩ | exact ⟨rfl, Below.refl _ _, fun h => by simp at h⟩
          · intro u W hb hd
            have e0 : u 11 = .int .i64 (LN : Int) := hd.1 rfl (by decide)
            have e1 : u 13 = .int .i64 (LN : Int) := hd.2.1 rfl (by decide)
            have e2 : u 9 = .bool true := hd.2.2.1 rfl (by decide)
            simp only [putAll, Act.put, List.setIfInBounds_toArray, List.set_cons_succ, List.set_cons_zero, Nat.zero_add, Nat.reduceAdd]
            rw [e0, e1, e2]
            go_wp2
            first | exact ⟨rfl, Below.refl _ _⟩ | exact ⟨_, rfl, rfl, Below.refl _ _, fun h => by simp at h⟩ | exact ⟨_, rfl, rfl, Below.refl _ _⟩ | exact ⟨rfl, Below.refl _ _, fun h => by simp at h⟩
          · intro u W hb hd
            have e0 : u 9 = .bool true := hd.1 rfl (by decide)
            have e1 : u 14 = .bool true := hd.2.1 rfl (by decide)
            simp only [putAll, Act.put, List.setIfInBounds_toArray, List.set_cons_succ, List.set_cons_zero, Nat.zero_add, Nat.reduceAdd]
            rw [e0, e1]
            go_wp2
            first | exact ⟨rfl, Below.refl _ _⟩ | exact ⟨_, rfl, rfl, Below.refl _ _, fun h => by simp at h⟩ | exact ⟨_, rfl, rfl, Below.refl _ _⟩ | exact ⟨rfl, Below.refl _ _, fun h => by simp at h⟩
          · intro u W hb hd
            have e0 : u 15 = .bool true := hd.1 rfl (by decide)
            simp only [putAll, Act.put, List.setIfInBounds_toArray, List.set_cons_succ, List.set_cons_zero, Nat.zero_add, Nat.reduceAdd]
            rw [e0]
            go_wp2
            first | exact ⟨rfl, Below.refl _ _⟩ | exact ⟨_, rfl, rfl, Below.refl _ _, fun h => by simp at h⟩ | exact ⟨_, rfl, rfl, Below.refl _ _⟩ | exact ⟨rfl, Below.refl _ _, fun h => by simp at h⟩
          · intro u W hb hd
            have e0 : u 16 = .bool true := hd.1 rfl (by decide)
            simp only [putAll, Act.put, List.setIfInBounds_toArray, List.set_cons_succ, List.set_cons_zero, Nat.zero_add, Nat.reduceAdd]
            rw [e0]
            go_wp2
            first | exact ⟨rfl, Below.refl _ _⟩ | exact ⟨_, rfl, rfl, Below.refl _ _, fun h => by simp at h⟩ | exact ⟨_, rfl, rfl, Below.refl _ _⟩ | exact ⟨rfl, Below.refl _ _, fun h => by simp at h⟩
          · intro u W hb hd
            have e0 : u 17 = .pointer (some ⟨r, 0, none⟩) := hd.1 rfl (by decide)
            have e2 : u 16 = .bool true := hd.2.2.1 rfl (by decide)
            simp only [putAll, Act.put, List.setIfInBounds_toArray, List.set_cons_succ, List.set_cons_zero, Nat.zero_add, Nat.reduceAdd]
            rw [e0, e2]
            go_wp2_with (go_at_call 8; (with_reducible refine (HQA.out W hb).mono ?_); rintro e W1 ⟨rfl, g1⟩)
            first | exact ⟨_, rfl, rfl, g1, fun h => by simp at h⟩ | exact ⟨rfl, g1⟩ | exact ⟨_, rfl, rfl, g1⟩
          · intro u W hb hd
            have e0 : u 16 = .bool true := hd.1 rfl (by decide)
            simp only [putAll, Act.put, List.setIfInBounds_toArray, List.set_cons_succ, List.set_cons_zero, Nat.zero_add, Nat.reduceAdd]
            rw [e0]
            go_wp2
            first | exact ⟨rfl, Below.refl _ _⟩ | exact ⟨_, rfl, rfl, Below.refl _ _, fun h => by simp at h⟩ | exact ⟨_, rfl, rfl, Below.refl _ _⟩ | exact ⟨rfl, Below.refl _ _, fun h => by simp at h⟩
          · intro u W hb hd
            have e0 : u 19 = .int .i64 (size : Int) := hd.1 rfl (by decide)
            have e1 : u 16 = .bool true := hd.2.1 rfl (by decide)
            simp only [putAll, Act.put, List.setIfInBounds_toArray, List.set_cons_succ, List.set_cons_zero, Nat.zero_add, Nat.reduceAdd]
            rw [e0, e1]
            go_wp2
            first | exact ⟨rfl, Below.refl _ _⟩ | exact ⟨_, rfl, rfl, Below.refl _ _, fun h => by simp at h⟩ | exact ⟨_, rfl, rfl, Below.refl _ _⟩ | exact ⟨rfl, Below.refl _ _, fun h => by simp at h⟩
          · intro u W hb hd
            have e0 : u 18 = .string XG := hd.1 rfl (by decide)
            have e1 : u 20 = .int .i64 (E4 : Int) := hd.2.1 rfl (by decide)
            have e2 : u 16 = .bool true := hd.2.2.1 rfl (by decide)
            simp only [putAll, Act.put, List.setIfInBounds_toArray, List.set_cons_succ, List.set_cons_zero, Nat.zero_add, Nat.reduceAdd]
            rw [e0, e1, e2]
            go_wp2
            first | exact ⟨rfl, Below.refl _ _⟩ | exact ⟨_, rfl, rfl, Below.refl _ _, fun h => by simp at h⟩ | exact ⟨_, rfl, rfl, Below.refl _ _⟩ | exact ⟨rfl, Below.refl _ _, fun h => by simp at h⟩
          · intro u W hb hd
            have e0 : u 16 = .bool true := hd.1 rfl (by decide)
            simp only [putAll, Act.put, List.setIfInBounds_toArray, List.set_cons_succ, List.set_cons_zero, Nat.zero_add, Nat.reduceAdd]
            rw [e0]
            go_wp2
            first | exact ⟨rfl, Below.refl _ _⟩ | exact ⟨_, rfl, rfl, Below.refl _ _, fun h => by simp at h⟩ | exact ⟨_, rfl, rfl, Below.refl _ _⟩ | exact ⟨rfl, Below.refl _ _, fun h => by simp at h⟩
          · intro u W hb hd
            have e0 : u 16 = .bool true := hd.1 rfl (by decide)
            simp only [putAll, Act.put, List.setIfInBounds_toArray, List.set_cons_succ, List.set_cons_zero, Nat.zero_add, Nat.reduceAdd]
            rw [e0]
            go_wp2
            first | exact ⟨rfl, Below.refl _ _⟩ | exact ⟨_, rfl, rfl, Below.refl _ _, fun h => by simp at h⟩ | exact ⟨_, rfl, rfl, Below.refl _ _⟩ | exact ⟨rfl, Below.refl _ _, fun h => by simp at h⟩
          · intro u W hb hd
            have e0 : u 23 = .int .i64 (size : Int) := hd.1 rfl (by decide)
            have e1 : u 16 = .bool true := hd.2.1 rfl (by decide)
            simp only [putAll, Act.put, List.setIfInBounds_toArray, List.set_cons_succ, List.set_cons_zero, Nat.zero_add, Nat.reduceAdd]
            rw [e0, e1]
            go_wp2
            first | exact ⟨rfl, Below.refl _ _⟩ | exact ⟨_, rfl, rfl, Below.refl _ _, fun h => by simp at h⟩ | exact ⟨_, rfl, rfl, Below.refl _ _⟩ | exact ⟨rfl, Below.refl _ _, fun h => by simp at h⟩
          · intro u W hb hd
            have e0 : u 22 = .string XA := hd.1 rfl (by decide)
            have e1 : u 24 = .int .i64 (E4 : Int) := hd.2.1 rfl (by decide)
            have e2 : u 16 = .bool true := hd.2.2.1 rfl (by decide)
            simp only [putAll, Act.put, List.setIfInBounds_toArray, List.set_cons_succ, List.set_cons_zero, Nat.zero_add, Nat.reduceAdd]
            rw [e0, e1, e2]
            go_wp2
            first | exact ⟨rfl, Below.refl _ _⟩ | exact ⟨_, rfl, rfl, Below.refl _ _, fun h => by simp at h⟩ | exact ⟨_, rfl, rfl, Below.refl _ _⟩ | exact ⟨rfl, Below.refl _ _, fun h => by simp at h⟩
          · intro u W hb hd
            have e0 : u 21 = .string XF := hd.1 rfl (by decide)
            have e1 : u 25 = .string XF := hd.2.1 rfl (by decide)
            have e2 : u 16 = .bool true := hd.2.2.1 rfl (by decide)
            simp only [putAll, Act.put, List.setIfInBounds_toArray, List.set_cons_succ, List.set_cons_zero, Nat.zero_add, Nat.reduceAdd]
            rw [e0, e1, e2]
            go_wp2
            first | exact ⟨rfl, Below.refl _ _⟩ | exact ⟨_, rfl, rfl, Below.refl _ _, fun h => by simp at h⟩ | exact ⟨_, rfl, rfl, Below.refl _ _⟩ | exact ⟨rfl, Below.refl _ _, fun h => by simp at h⟩
          · intro u W hb hd
            have e0 : u 16 = .bool true := hd.1 rfl (by decide)
            have e1 : u 26 = .bool true := hd.2.1 rfl (by decide)
            simp only [putAll, Act.put, List.setIfInBounds_toArray, List.set_cons_succ, List.set_cons_zero, Nat.zero_add, Nat.reduceAdd]
            rw [e0, e1]
            go_wp2
            first | exact ⟨rfl, Below.refl _ _⟩ | exact ⟨_, rfl, rfl, Below.refl _ _, fun h => by simp at h⟩ | exact ⟨_, rfl, rfl, Below.refl _ _⟩ | exact ⟨rfl, Below.refl _ _, fun h => by simp at h⟩
        · intro u W hb hT _
          have e0 : u 0 = .int .i64 0 := hT 0 (by decide)
          have e1 : u 1 = .bool true := hT 1 (by decide)
          have e2 : u 2 = .bool true := hT 2 (by decide)
          have e3 : u 3 = .pointer (some ⟨kt, 0, none⟩) := hT 3 (by decide)
          have e4 : u 4 = .slice ta LN tn := hT 4 (by decide)
          have e6 : u 6 = .agg #[.int .u64 (me : Int), .slice ma mn mc, .slice za LN zc] := hT 6 (by decide)
          have e7 : u 7 = .bool true := hT 7 (by decide)
          have e8 : u 8 = .bool true := hT 8 (by decide)
          have e9 : u 9 = .bool true := hT 9 (by decide)
          have e10 : u 10 = .pointer (some ⟨kt, 0, none⟩) := hT 10 (by decide)
          have e11 : u 11 = .int .i64 (LN : Int) := hT 11 (by decide)
          have e12 : u 12 = .slice ta LN tn := hT 12 (by decide)
          have e13 : u 13 = .int .i64 (LN : Int) := hT 13 (by decide)
          have e14 : u 14 = .bool true := hT 14 (by decide)
          have e15 : u 15 = .bool true := hT 15 (by decide)
          have e16 : u 16 = .bool true := hT 16 (by decide)
          have e17 : u 17 = .pointer (some ⟨r, 0, none⟩) := hT 17 (by decide)
          have e18 : u 18 = .string XG := hT 18 (by decide)
          have e19 : u 19 = .int .i64 (size : Int) := hT 19 (by decide)
          have e20 : u 20 = .int .i64 (E4 : Int) := hT 20 (by decide)
          have e21 : u 21 = .string XF := hT 21 (by decide)
          have e22 : u 22 = .string XA := hT 22 (by decide)
          have e23 : u 23 = .int .i64 (size : Int) := hT 23 (by decide)
          have e24 : u 24 = .int .i64 (E4 : Int) := hT 24 (by decide)
          have e25 : u 25 = .string XF := hT 25 (by decide)
          have e26 : u 26 = .bool true := hT 26 (by decide)
          have e27 : u 27 = .bool true := hT 27 (by decide)
          have HFIN := Lib.hid (HFIN0.out _ hb)
          clear hb hT
          simp only [List.take_succ_cons, List.take_zero, List.drop_succ_cons, List.drop_zero, putAll, Act.put, List.setIfInBounds_toArray, List.set_cons_succ, List.set_cons_zero, Nat.zero_add, Nat.reduceAdd]
          rw [e0, e1, e2, e3, e4, e6, e7, e8, e9, e10, e11, e12, e13, e14, e15, e16, e17, e18, e19, e20, e21, e22, e23, e24, e25, e26, e27]
          clear e0 e1 e2 e3 e4 e6 e7 e8 e9 e10 e11 e12 e13 e14 e15 e16 e17 e18 e19 e20 e21 e22 e23 e24 e25 e26 e27
          go_wp2
          go_ret
          exact ⟨rfl, HFIN.out⟩

set_option maxRecDepth 100000 in
set_option maxHeartbeats 8000000 in
theorem cofreads_short (zs : Int) (av bv cv dv : Value) (a b c d : List Int) (fuse keep torn again keep2 torn2 : Int) (w : World) (env : Env w) (hav : ArgB w av a) (hbv : ArgB w bv b) (hcv : ArgB w cv c) (hdv : ArgB w dv d) (h : zs < 32 ∨ 512 < zs ∨ 2000 < a.length ∨ 2000 < b.length ∨ 2000 < c.length ∨ 2000 < d.length) :
    Calls Tryz.prog 3 #[.int .i64 zs, av, bv, cv, dv, .agg #[.int .i64 fuse, .int .i64 keep, .int .i64 torn, .int .i64 again, .int .i64 keep2, .int .i64 torn2]] w fun e w' => e = .returned (.bool true) ∧ Below w.heap.size w w' := by
  have HENV := Lib.hid env
  obtain ⟨aa, ca, rfl⟩ := hav.size
  obtain ⟨ab, cb, rfl⟩ := hbv.size
  obtain ⟨ac, cc, rfl⟩ := hcv.size
  obtain ⟨ad, cd, rfl⟩ := hdv.size
  obtain ⟨Na, hNa⟩ : ∃ x, a.length = x := ⟨_, rfl⟩
  obtain ⟨Nb, hNb⟩ : ∃ x, b.length = x := ⟨_, rfl⟩
  obtain ⟨Nc, hNc⟩ : ∃ x, c.length = x := ⟨_, rfl⟩
  obtain ⟨Nd, hNd⟩ : ∃ x, d.length = x := ⟨_, rfl⟩
  rw [hNa, hNb, hNc, hNd] at h ⊢
  obtain ⟨wx, hwx⟩ : ∃ y, w.alloc (.cells #[.int .i64 fuse, .int .i64 keep, .int .i64 torn, .int .i64 again, .int .i64 keep2, .int .i64 torn2] 24) = y := ⟨_, rfl⟩
  have HBX : Hid (Below w.heap.size w wx) := by rw [← hwx]; exact (Below.refl _ _).alloc (Nat.le_refl _) _
  have hc : zs < 32 ∨ (¬ zs < 32 ∧ 512 < zs) ∨ (¬ zs < 32 ∧ ¬ 512 < zs ∧ (2000 : Int) < (Na : Int)) ∨ (¬ zs < 32 ∧ ¬ 512 < zs ∧ ¬ (2000 : Int) < (Na : Int) ∧ (2000 : Int) < (Nb : Int)) ∨ (¬ zs < 32 ∧ ¬ 512 < zs ∧ ¬ (2000 : Int) < (Na : Int) ∧ ¬ (2000 : Int) < (Nb : Int) ∧ (2000 : Int) < (Nc : Int)) ∨ (¬ zs < 32 ∧ ¬ 512 < zs ∧ ¬ (2000 : Int) < (Na : Int) ∧ ¬ (2000 : Int) < (Nb : Int) ∧ ¬ (2000 : Int) < (Nc : Int) ∧ (2000 : Int) < (Nd : Int)) := by omega
  clear env hav hbv hcv hdv h hNa hNb hNc hNd
  rcases hc with g1 | ⟨g1, g2⟩ | ⟨g1, g2, g3⟩ | ⟨g1, g2, g3, g4⟩ | ⟨g1, g2, g3, g4, g5⟩ | ⟨g1, g2, g3, g4, g5, g6⟩
  all_goals
    go_enter Tryz.func3, Tryz.ntmps3
    go_wp2_with (first
      | (go_at_call 4; (with_reducible refine (cof_awake _ (HENV.out.step HBX.out)).mono ?_); rintro e wa ⟨rfl, ga⟩; have GA := Lib.hid ga; clear ga))
    go_ret
    exact ⟨rfl, HBX.out.trans (GA.out.mono HBX.out.size)⟩
theorem cofreads_walk (zs : Int) (av bv cv dv : Value) (a b c d : List Int) (fuse keep torn again keep2 torn2 : Int) (w : World) (env : Env w) (hav : ArgB w av a) (hab : ∀ z ∈ a, 0 ≤ z ∧ z ≤ 255) (hbv : ArgB w bv b) (hbb : ∀ z ∈ b, 0 ≤ z ∧ z ≤ 255) (hcv : ArgB w cv c) (hcb : ∀ z ∈ c, 0 ≤ z ∧ z ≤ 255) (hdv : ArgB w dv d) (hdb : ∀ z ∈ d, 0 ≤ z ∧ z ≤ 255)
    (f0 : -9223372036854775808 ≤ fuse ∧ fuse ≤ 9223372036854775807) (k0 : -9223372036854775808 ≤ keep ∧ keep ≤ 9223372036854775807) (t0 : -9223372036854775808 ≤ torn ∧ torn ≤ 9223372036854775807) (_a0 : -9223372036854775808 ≤ again ∧ again ≤ 9223372036854775807) (_k2 : -9223372036854775808 ≤ keep2 ∧ keep2 ≤ 9223372036854775807) (_t2 : -9223372036854775808 ≤ torn2 ∧ torn2 ≤ 9223372036854775807) :
    Calls Tryz.prog 3 #[.int .i64 zs, av, bv, cv, dv, .agg #[.int .i64 fuse, .int .i64 keep, .int .i64 torn, .int .i64 again, .int .i64 keep2, .int .i64 torn2]] w fun e w' => e = .returned (.bool true) ∧ Below w.heap.size w w' := by
  by_cases h : zs < 32 ∨ 512 < zs ∨ 2000 < a.length ∨ 2000 < b.length ∨ 2000 < c.length ∨ 2000 < d.length
  · exact cofreads_short zs av bv cv dv a b c d fuse keep torn again keep2 torn2 w env hav hbv hcv hdv h
  · obtain ⟨size, rfl⟩ : ∃ size : Nat, zs = (size : Int) := ⟨zs.toNat, by omega⟩
    exact cofreads_main size av bv cv dv a b c d fuse keep torn again keep2 torn2 w env hav hab hbv hbb hcv hcb hdv hdb (by omega) (by omega) (by omega) (by omega) (by omega) (by omega) f0 k0 t0

end Go.Proofs.YtejelednnacnaaaGreatDoor
