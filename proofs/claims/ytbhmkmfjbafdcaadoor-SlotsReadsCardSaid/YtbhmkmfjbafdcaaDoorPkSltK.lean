/-
  SlotsReads, walked over the contracts of package slots' calls (under way).
-/
import Derived.Test.YtbhmkmfjbafdcaaDoorPkSltS
import Derived.Test.YtbhmkmfjbafdcaaDoorPkMixes
import Derived.Lib.QuietBelow
import Derived.Deep.CutBlock
import Derived.Deep.DeepCutAuto
import Derived.Deep.CutRange
namespace Go.Proofs.YtbhmkmfjbafdcaaDoor
open Go.RowKit

/-- What each operation of 'm := Newer(Slot(..), Slot(..))' has made. -/
def TNw (l : List Value) (B : Nat) (m0 m1 : Nat × List Int) : Nat → Value → World → Prop
  | 5, v, w => SnapF w v m0 (fun b => B ≤ b)
  | 12, v, w => SnapF w v m1 (fun b => B ≤ b)
  | 13, v, w => SnapF w v (newerL m0 m1) (fun b => B ≤ b)
  | 14, v, w => ∃ p, v = .pointer (some ⟨p, 0, none⟩) ∧ B ≤ p ∧ Var2 w p (.int .u64 0) (.slice none 0 0) ∧ ∀ i, 2 ≤ i → w.cell? ⟨p, i, none⟩ = none
  | k, v, _ => v = l.getD k undef
theorem TNw.keep {l : List Value} {B : Nat} {m0 m1 : Nat × List Int} (i : Nat) (v : Value) (w w' : World) (h : TNw l B m0 m1 i v w) (hb : Below w.heap.size w w') : TNw l B m0 m1 i v w' := by
  unfold TNw at h ⊢
  split at h
  · exact h.below hb
  · exact h.below hb
  · exact h.below hb
  · obtain ⟨p, e, q, k, z⟩ := h
    exact ⟨p, e, q, k.after hb, fun i hi => (World.cell?_of_block (hb.block p k.s)).trans (z i hi)⟩
  · exact h
theorem newer_snapF {w : World} {xv x0 x1 : Value} {m0 m1 : Nat × List Int} {F : Foot} (h : (xv = x0 ∧ newerL m0 m1 = m0) ∨ (xv = x1 ∧ newerL m0 m1 = m1)) (h0 : SnapF w x0 m0 F) (h1 : SnapF w x1 m1 F) : SnapF w xv (newerL m0 m1) F := by
  rcases h with ⟨rfl, e⟩ | ⟨rfl, e⟩
  · rw [e]; exact h0
  · rw [e]; exact h1

/-- What each operation of the looks has made. -/
def TLd (l : List Value) (P : Nat × List Int) : Nat → Value → World → Prop
  | 4, v, w => SnapV w v P
  | k, v, _ => v = l.getD k undef
theorem TLd.keep {l : List Value} {P : Nat × List Int} (i : Nat) (v : Value) (w w' : World) (h : TLd l P i v w) (hb : Below w.heap.size w w') : TLd l P i v w' := by
  unfold TLd at h ⊢
  split at h
  · exact h.below hb
  · exact h
def TLe (l : List Value) (P : Nat × List Int) : Nat → Value → World → Prop
  | 4, _, _ => True
  | 5, _, _ => True
  | 11, _, _ => True
  | 12, _, _ => True
  | 13, _, _ => True
  | 14, _, _ => True
  | 15, _, _ => True
  | 23, v, w => SnapV w v P
  | k, v, _ => v = l.getD k undef
theorem TLe.keep {l : List Value} {P : Nat × List Int} (i : Nat) (v : Value) (w w' : World) (h : TLe l P i v w) (hb : Below w.heap.size w w') : TLe l P i v w' := by
  unfold TLe at h ⊢
  split at h
  · exact trivial
  · exact trivial
  · exact trivial
  · exact trivial
  · exact trivial
  · exact trivial
  · exact trivial
  · exact h.below hb
  · exact h
def TLf (l : List Value) (P : Nat × List Int) : Nat → Value → World → Prop
  | 4, _, _ => True
  | 5, _, _ => True
  | 12, v, w => SnapV w v P
  | 22, _, _ => True
  | 23, _, _ => True
  | 24, _, _ => True
  | 25, _, _ => True
  | 26, _, _ => True
  | k, v, _ => v = l.getD k undef
theorem TLf.keep {l : List Value} {P : Nat × List Int} (i : Nat) (v : Value) (w w' : World) (h : TLf l P i v w) (hb : Below w.heap.size w w') : TLf l P i v w' := by
  unfold TLf at h ⊢
  split at h
  · exact trivial
  · exact trivial
  · exact h.below hb
  · exact trivial
  · exact trivial
  · exact trivial
  · exact trivial
  · exact trivial
  · exact h
def TLg (l : List Value) (P : Nat × List Int) : Nat → Value → World → Prop
  | 12, v, w => SnapV w v P
  | 22, _, _ => True
  | 23, _, _ => True
  | 24, _, _ => True
  | 25, _, _ => True
  | 26, _, _ => True
  | k, v, _ => v = l.getD k undef
theorem TLg.keep {l : List Value} {P : Nat × List Int} (i : Nat) (v : Value) (w w' : World) (h : TLg l P i v w) (hb : Below w.heap.size w w') : TLg l P i v w' := by
  unfold TLg at h ⊢
  split at h
  · exact h.below hb
  · exact trivial
  · exact trivial
  · exact trivial
  · exact trivial
  · exact trivial
  · exact h
def TLh (l : List Value) (P : Nat × List Int) : Nat → Value → World → Prop
  | 7, v, w => SnapV w v P
  | k, v, _ => v = l.getD k undef
theorem TLh.keep {l : List Value} {P : Nat × List Int} (i : Nat) (v : Value) (w w' : World) (h : TLh l P i v w) (hb : Below w.heap.size w w') : TLh l P i v w' := by
  unfold TLh at h ⊢
  split at h
  · exact h.below hb
  · exact h
def TLi (l : List Value) (_P : Nat × List Int) : Nat → Value → World → Prop
  | 6, _, _ => True
  | 7, _, _ => True
  | 8, _, _ => True
  | 9, _, _ => True
  | 10, _, _ => True
  | k, v, _ => v = l.getD k undef
theorem TLi.keep {l : List Value} {P : Nat × List Int} (i : Nat) (v : Value) (w w' : World) (h : TLi l P i v w) (_hb : Below w.heap.size w w') : TLi l P i v w' := by
  unfold TLi at h ⊢
  split at h
  · exact trivial
  · exact trivial
  · exact trivial
  · exact trivial
  · exact trivial
  · exact h
def TLj (l : List Value) (P : Nat × List Int) : Nat → Value → World → Prop
  | 1, v, w => SnapV w v P
  | 5, _, _ => True
  | 6, _, _ => True
  | 7, _, _ => True
  | 8, _, _ => True
  | k, v, _ => v = l.getD k undef
theorem TLj.keep {l : List Value} {P : Nat × List Int} (i : Nat) (v : Value) (w w' : World) (h : TLj l P i v w) (hb : Below w.heap.size w w') : TLj l P i v w' := by
  unfold TLj at h ⊢
  split at h
  · exact h.below hb
  · exact trivial
  · exact trivial
  · exact trivial
  · exact trivial
  · exact h
def TLk (l : List Value) (P : Nat × List Int) : Nat → Value → World → Prop
  | 1, v, w => SnapV w v P
  | 6, v, w => SnapV w v P
  | k, v, _ => v = l.getD k undef
theorem TLk.keep {l : List Value} {P : Nat × List Int} (i : Nat) (v : Value) (w w' : World) (h : TLk l P i v w) (hb : Below w.heap.size w w') : TLk l P i v w' := by
  unfold TLk at h ⊢
  split at h
  · exact h.below hb
  · exact h.below hb
  · exact h
set_option maxRecDepth 100000 in
set_option maxHeartbeats 8000000 in
theorem sltreads_main (size : Nat) (av bv cv : Value) (a b c : List Int) (fuse keep torn again keep2 torn2 : Int) (w : World) (env : Env w) (hav : ArgB w av a) (hab : ∀ z ∈ a, 0 ≤ z ∧ z ≤ 255) (hbv : ArgB w bv b) (hbb : ∀ z ∈ b, 0 ≤ z ∧ z ≤ 255) (hcv : ArgB w cv c) (hcb : ∀ z ∈ c, 0 ≤ z ∧ z ≤ 255) (s0 : 32 ≤ size) (s1 : size ≤ 512) (hla : a.length ≤ 2000) (hlb : b.length ≤ 2000) (hlc : c.length ≤ 2000)
    (f0 : -9223372036854775808 ≤ fuse ∧ fuse ≤ 9223372036854775807) (k0 : -9223372036854775808 ≤ keep ∧ keep ≤ 9223372036854775807) (t0 : -9223372036854775808 ≤ torn ∧ torn ≤ 9223372036854775807) :
    Calls Tryd.prog 5 #[.int .i64 (size : Int), av, bv, cv, .agg #[.int .i64 fuse, .int .i64 keep, .int .i64 torn, .int .i64 again, .int .i64 keep2, .int .i64 torn2]] w fun e w' => e = .returned (.bool true) ∧ Below w.heap.size w w' := by
  have HENV := Lib.hid env
  have HF := Lib.hid f0
  have HKT := Lib.hid (And.intro k0 t0)
  have HS := Lib.hid (And.intro s0 s1)
  have HMK : Hid (∀ w, Calls Tryd.prog 8 #[.int .i64 8, .int .i64 (size : Int)] w fun e w' => ∃ r O D, e = .returned (.pointer (some ⟨r, 0, none⟩)) ∧ DskIs w' w.heap.size O r D ∧ NFd 8 size D ∧ D.waits = [] ∧ D.deeds ≤ 1000 ∧ Below w.heap.size w w') := fun w => marked_any 8 size w (by decide) (by decide) s0 s1
  have g1 : ¬ (size : Int) < 32 := by omega
  have g2 : ¬ (512 : Int) < (size : Int) := by omega
  obtain ⟨E4, hE4⟩ : ∃ x, 4 * size = x := ⟨_, rfl⟩
  obtain ⟨E7, hE7⟩ : ∃ x, 7 * size = x := ⟨_, rfl⟩
  have HE := Lib.hid (And.intro hE4 hE7)
  have m4 : IntKind.i64.wrap (4 * (size : Int)) = (E4 : Int) := by rw [IntKind.wrap_i64]; omega
  have m7 : IntKind.i64.wrap (7 * (size : Int)) = (E7 : Int) := by rw [IntKind.wrap_i64]; omega
  obtain ⟨xb, hxb⟩ : ∃ x, w.heap.size = x := ⟨_, rfl⟩
  obtain ⟨wx, hwx⟩ : ∃ y, w.alloc (.cells #[.int .i64 fuse, .int .i64 keep, .int .i64 torn, .int .i64 again, .int .i64 keep2, .int .i64 torn2] 48) = y := ⟨_, rfl⟩
  have HXC : Hid (∀ W, Below wx.heap.size wx W → W.cell? ⟨xb, 0, none⟩ = some (.int .i64 fuse) ∧ W.cell? ⟨xb, 1, none⟩ = some (.int .i64 keep) ∧ W.cell? ⟨xb, 2, none⟩ = some (.int .i64 torn)) := fun W hW => by
    have hs : xb < wx.heap.size := by rw [← hwx, ← hxb]; simp
    have k := hW.block xb hs
    refine ⟨?_, ?_, ?_⟩
    all_goals (rw [World.cell?_of_block k, ← hwx, ← hxb, World.cell?_alloc_new]; rfl)
  have HBX : Hid (Below w.heap.size w wx) := by rw [← hwx]; exact (Below.refl _ _).alloc (Nat.le_refl _) _
  have HEN := Lib.hid (fun W (hW : Below wx.heap.size wx W) => (HENV.out.step HBX.out).step hW)
  obtain ⟨aa, ca, rfl⟩ := hav.size
  obtain ⟨Na, hNa⟩ : ∃ x, a.length = x := ⟨_, rfl⟩
  have HLa := Lib.hid hla
  have HBa := Lib.hid hab
  have HVa := Lib.hid hav
  have HAa : Hid (∀ W, Below wx.heap.size wx W → ArgB W (.slice aa Na ca) a) := fun W hW => by have q := (HVa.out.below HBX.out).below hW; rw [hNa] at q; exact q
  have HOa : Hid (a ≠ [] → ∀ k, (Value.slice aa Na ca).ownBlock = some k → k < wx.heap.size) := fun hn k hk => Nat.lt_of_lt_of_le (HVa.out.lt hn (by rw [hNa]; exact hk)) HBX.out.size
  have ga : ¬ (2000 : Int) < (Na : Int) := by omega
  rw [hNa]
  clear hNa hav hab hla
  obtain ⟨ab, cb, rfl⟩ := hbv.size
  obtain ⟨Nb, hNb⟩ : ∃ x, b.length = x := ⟨_, rfl⟩
  have HLb := Lib.hid hlb
  have HBb := Lib.hid hbb
  have HVb := Lib.hid hbv
  have HAb : Hid (∀ W, Below wx.heap.size wx W → ArgB W (.slice ab Nb cb) b) := fun W hW => by have q := (HVb.out.below HBX.out).below hW; rw [hNb] at q; exact q
  have HOb : Hid (b ≠ [] → ∀ k, (Value.slice ab Nb cb).ownBlock = some k → k < wx.heap.size) := fun hn k hk => Nat.lt_of_lt_of_le (HVb.out.lt hn (by rw [hNb]; exact hk)) HBX.out.size
  have gb : ¬ (2000 : Int) < (Nb : Int) := by omega
  rw [hNb]
  clear hNb hbv hbb hlb
  obtain ⟨ac, cc, rfl⟩ := hcv.size
  obtain ⟨Nc, hNc⟩ : ∃ x, c.length = x := ⟨_, rfl⟩
  have HLc := Lib.hid hlc
  have HBc := Lib.hid hcb
  have HVc := Lib.hid hcv
  have HAc : Hid (∀ W, Below wx.heap.size wx W → ArgB W (.slice ac Nc cc) c) := fun W hW => by have q := (HVc.out.below HBX.out).below hW; rw [hNc] at q; exact q
  have HOc : Hid (c ≠ [] → ∀ k, (Value.slice ac Nc cc).ownBlock = some k → k < wx.heap.size) := fun hn k hk => Nat.lt_of_lt_of_le (HVc.out.lt hn (by rw [hNc]; exact hk)) HBX.out.size
  have gc : ¬ (2000 : Int) < (Nc : Int) := by omega
  rw [hNc]
  clear hNc hcv hcb hlc
  clear env f0 k0 t0 s0 s1 hE4 hE7
  go_enter Tryd.func5, Tryd.ntmps5
  go_upto_region 10 with (first
    | (go_at_call 6; (with_reducible refine (slt_awake _ (HENV.out.step HBX.out)).mono ?_); rintro e wa ⟨rfl, ga⟩; have GA := Lib.hid ga; clear ga)
    | (go_at_call 8; (with_reducible refine (HMK.out _).mono ?_); rintro e wd ⟨r, O1, D1, rfl, d1, n1, ws1, de1, gd⟩; have GD := Lib.hid (below_step GA.out gd); have HDE1 := Lib.hid de1; have HL1 := Lib.hid (show Calls Tryd.prog 22 #[.pointer (some ⟨r, 0, none⟩), .int .i64 1, .int .i64 3, .slice aa Na ca] wd _ from lslay_any wx.heap.size O1 r 8 size D1 1 3 (.slice aa Na ca) a wd (d1.base GA.out.size) n1 (by omega) (by decide) (HAa.out wd GD.out) HBa.out HOa.out); clear d1 n1 ws1 de1 gd)
    | (go_at_call 22; (with_reducible refine (HL1.out).mono ?_); rintro e w2 ⟨D2, O2, rfl, n2, _, de2, d2, o2, gr2⟩; have G2 := Lib.hid (GD.out.trans o2.bel); have HDE2 : Hid (D2.deeds ≤ 2000) := (by have := HDE1.out; unfold Hid; omega); have HL2 := Lib.hid (show Calls Tryd.prog 22 #[.pointer (some ⟨r, 0, none⟩), .int .i64 4, .int .i64 3, .slice ab Nb cb] w2 _ from lslay_any wx.heap.size O2 r 8 size D2 4 3 (.slice ab Nb cb) b w2 d2 n2 (by have := HDE2.out; omega) (by decide) (HAb.out w2 G2.out) HBb.out HOb.out); clear d2 n2 de2 o2 gr2 HL1)
    | (go_at_call 22; (with_reducible refine (HL2.out).mono ?_); rintro e w3 ⟨D3, O3, rfl, n3, _, de3, d3, o3, gr3⟩; have G3 := Lib.hid (G2.out.trans o3.bel); have HDE3 : Hid (D3.deeds ≤ 3000) := (by have := HDE2.out; unfold Hid; omega); have HSY := Lib.hid (bsync_nf wx.heap.size O3 r 8 size D3 w3 d3 n3 (by have := HDE3.out; omega)); clear d3 n3 de3 o3 gr3 HL2)
    | (go_at_call 23; (with_reducible refine (HSY.out).mono ?_); rintro e w4 ⟨D4, O4, rfl, n4, ws4, de4, d4, o4⟩; have G4 := Lib.hid (G3.out.trans o4.bel); have HDE4 : Hid (D4.deeds ≤ 4000) := (by have := HDE3.out; unfold Hid; omega); have N4 := Lib.hid (And.intro n4 ws4); have H4 := Lib.hid d4; have HAL := Lib.hid (fun W (hW : DskIs W wx.heap.size O4 r D4) => all_nf wx.heap.size O4 r D4 W hW n4.dark ws4 (by have := HDE4.out; omega)); clear d4 o4 n4 ws4 de4 HSY)
    | (go_at_call 9; (with_reducible refine (HAL.out _ H4.out).mono ?_); rintro e w5 ⟨rfl, g5⟩; have G5 := Lib.hid (below_step G4.out g5); have H5 := Lib.hid (H4.out.after g5); clear g5))
  have hll := H5.out.ok.ll
  rw [N4.out.1.n, N4.out.1.size] at hll
  obtain ⟨Z, hZ⟩ : ∃ x, D4.last = x := ⟨_, rfl⟩
  have hZb : ∀ z ∈ Z, 0 ≤ z ∧ z ≤ 255 := hZ ▸ H5.out.ok.lb
  rw [hZ] at hll
  obtain ⟨S0, hS0⟩ : ∃ x, regnL size (3 * size) Z = x := ⟨_, rfl⟩
  obtain ⟨S1, hS1⟩ : ∃ x, regnL (4 * size) (3 * size) Z = x := ⟨_, rfl⟩
  have hsl0 := fun W => slice_text Z hZb size (3 * size) (size : Int) (E4 : Int) rfl (by have := HE.out.1; omega) (by omega) W
  have hsl1 := fun W => slice_text Z hZb (4 * size) (3 * size) (E4 : Int) (E7 : Int) (by have := HE.out.1; omega) (by have := HE.out.2; omega) (by omega) W
  rw [hS0] at hsl0
  rw [hS1] at hsl1
  have hb0 : ∀ z ∈ S0, 0 ≤ z ∧ z ≤ 255 := fun z hz => hZb z (by rw [← hS0] at hz; exact List.mem_of_mem_drop (List.mem_of_mem_take hz))
  have hb1 : ∀ z ∈ S1, 0 ≤ z ∧ z ≤ 255 := fun z hz => hZb z (by rw [← hS1] at hz; exact List.mem_of_mem_drop (List.mem_of_mem_take hz))
  have hl0 : S0.length ≤ 1000000 := by rw [← hS0]; unfold regnL; rw [List.length_take, List.length_drop, hll]; have := HS.out.2; omega
  have hl1 : S1.length ≤ 1000000 := by rw [← hS1]; unfold regnL; rw [List.length_take, List.length_drop, hll]; have := HS.out.2; omega
  have HR0 : Hid (∀ W, Calls Tryd.prog 25 #[.string (strOfNums S0), .int .u64 0] W (GivesRs (snapL S0 0) W)) := fun W => rsslot_any S0 0 W hb0 hl0 (by decide)
  have HR1 : Hid (∀ W, Calls Tryd.prog 25 #[.string (strOfNums S1), .int .u64 1] W (GivesRs (snapL S1 1) W)) := fun W => rsslot_any S1 1 W hb1 hl1 (by decide)
  obtain ⟨m0, hm0⟩ : ∃ x, snapL S0 0 = x := ⟨_, rfl⟩
  obtain ⟨m1, hm1⟩ : ∃ x, snapL S1 1 = x := ⟨_, rfl⟩
  have HSN : Hid (slotsL (1 * size) (3 * size) Z = newerL m0 m1) := by
    unfold Hid slotsL
    rw [Nat.one_mul, show size + 3 * size = 4 * size by omega, hS0, hS1, hm0, hm1]
  have HNB : Hid (∀ z ∈ (newerL m0 m1).2, 0 ≤ z ∧ z ≤ 255) := fun z hz => by
    rcases newer_cases m0 m1 with e | e
    · rw [e, ← hm0] at hz; exact hb0 z (snap_part S0 0 z hz)
    · rw [e, ← hm1] at hz; exact hb1 z (snap_part S1 1 z hz)
  rw [hm0] at HR0
  rw [hm1] at HR1
  obtain ⟨XA, hXA⟩ : ∃ x, strOfNums Z = x := ⟨_, rfl⟩
  obtain ⟨XB, hXB⟩ : ∃ x, strOfNums S0 = x := ⟨_, rfl⟩
  obtain ⟨XC, hXC⟩ : ∃ x, strOfNums S1 = x := ⟨_, rfl⟩
  rw [hZ, hXA] at HAL
  rw [hXA, hXB] at hsl0
  rw [hXA, hXC] at hsl1
  rw [hXB] at HR0
  rw [hXC] at HR1
  have HZ := Lib.hid hZ
  have HXZ : Hid (strOfNums D4.last = XA) := by unfold Hid; rw [hZ]; exact hXA
  simp only [hZ, hXA]
  clear hXA hXB hXC hZ hZb hS0 hS1 hb0 hb1 hl0 hl1 hm0 hm1 hll
  refine wp_region_mix 15 (TNw [.string XA, .int .i64 (size : Int), .int .i64 (size : Int), .int .i64 (E4 : Int), .string XB, undef, .string XA, .int .i64 (size : Int), .int .i64 (E4 : Int), .int .i64 (size : Int), .int .i64 (E7 : Int), .string XC, undef, undef, undef] w5.heap.size m0 m1) (fun _ => false) (by kernel_rfl) (by kernel_rfl) TNw.keep (fun _ _ _ h => by cases h) ?_ ?_
  · simp only [List.take_succ_cons, List.take_zero]
    refine (StepsAll.cons ?_ (StepsAll.cons ?_ (StepsAll.cons ?_ (StepsAll.cons ?_ (StepsAll.cons ?_ (StepsAll.cons ?_ (StepsAll.cons ?_ (StepsAll.cons ?_ (StepsAll.cons ?_ (StepsAll.cons ?_ (StepsAll.cons ?_ (StepsAll.cons ?_ (StepsAll.cons ?_ (StepsAll.cons ?_ (StepsAll.cons ?_ StepsAll.nil)))))))))))))))
    · intro u W hb hd
      simp only [putAll, Act.put, List.setIfInBounds_toArray, List.set_cons_succ, List.set_cons_zero, Nat.zero_add, Nat.reduceAdd]
      go_wp2
      first | exact ⟨rfl, Below.refl _ _⟩ | exact ⟨_, rfl, rfl, Below.refl _ _, fun h => by simp at h⟩ | exact ⟨_, rfl, rfl, Below.refl _ _⟩ | exact ⟨rfl, Below.refl _ _, fun h => by simp at h⟩
    · intro u W hb hd
      simp only [putAll, Act.put, List.setIfInBounds_toArray, List.set_cons_succ, List.set_cons_zero, Nat.zero_add, Nat.reduceAdd]
      go_wp2
      first | exact ⟨rfl, Below.refl _ _⟩ | exact ⟨_, rfl, rfl, Below.refl _ _, fun h => by simp at h⟩ | exact ⟨_, rfl, rfl, Below.refl _ _⟩ | exact ⟨rfl, Below.refl _ _, fun h => by simp at h⟩
    · intro u W hb hd
      simp only [putAll, Act.put, List.setIfInBounds_toArray, List.set_cons_succ, List.set_cons_zero, Nat.zero_add, Nat.reduceAdd]
      go_wp2
      first | exact ⟨rfl, Below.refl _ _⟩ | exact ⟨_, rfl, rfl, Below.refl _ _, fun h => by simp at h⟩ | exact ⟨_, rfl, rfl, Below.refl _ _⟩ | exact ⟨rfl, Below.refl _ _, fun h => by simp at h⟩
    · intro u W hb hd
      have e0 : u 2 = .int .i64 (size : Int) := hd.1 rfl (by decide)
      simp only [putAll, Act.put, List.setIfInBounds_toArray, List.set_cons_succ, List.set_cons_zero, Nat.zero_add, Nat.reduceAdd]
      rw [e0]
      go_wp2
      first | exact ⟨rfl, Below.refl _ _⟩ | exact ⟨_, rfl, rfl, Below.refl _ _, fun h => by simp at h⟩ | exact ⟨_, rfl, rfl, Below.refl _ _⟩ | exact ⟨rfl, Below.refl _ _, fun h => by simp at h⟩
    · intro u W hb hd
      have e0 : u 0 = .string XA := hd.1 rfl (by decide)
      have e1 : u 1 = .int .i64 (size : Int) := hd.2.1 rfl (by decide)
      have e2 : u 3 = .int .i64 (E4 : Int) := hd.2.2.1 rfl (by decide)
      simp only [putAll, Act.put, List.setIfInBounds_toArray, List.set_cons_succ, List.set_cons_zero, Nat.zero_add, Nat.reduceAdd]
      rw [e0, e1, e2]
      go_wp2
      first | exact ⟨rfl, Below.refl _ _⟩ | exact ⟨_, rfl, rfl, Below.refl _ _, fun h => by simp at h⟩ | exact ⟨_, rfl, rfl, Below.refl _ _⟩ | exact ⟨rfl, Below.refl _ _, fun h => by simp at h⟩
    · intro u W hb hd
      have e0 : u 4 = .string XB := hd.1 rfl (by decide)
      simp only [putAll, Act.put, List.setIfInBounds_toArray, List.set_cons_succ, List.set_cons_zero, Nat.zero_add, Nat.reduceAdd]
      rw [e0]
      go_wp2_with (go_at_call 25; (with_reducible refine (HR0.out W).mono ?_); rintro e W1 ⟨xv, rfl, hs, g1⟩; have hs9 := hs.weak (F' := fun b => w5.heap.size ≤ b) (fun i _ hi => Nat.le_trans hb.size hi))
      first | exact ⟨_, rfl, hs9, g1, fun h => by simp at h⟩ | exact ⟨hs9, g1, fun h => by simp at h⟩ | exact ⟨_, rfl, hs9, g1⟩ | exact ⟨hs9, g1⟩
    · intro u W hb hd
      simp only [putAll, Act.put, List.setIfInBounds_toArray, List.set_cons_succ, List.set_cons_zero, Nat.zero_add, Nat.reduceAdd]
      go_wp2
      first | exact ⟨rfl, Below.refl _ _⟩ | exact ⟨_, rfl, rfl, Below.refl _ _, fun h => by simp at h⟩ | exact ⟨_, rfl, rfl, Below.refl _ _⟩ | exact ⟨rfl, Below.refl _ _, fun h => by simp at h⟩
    · intro u W hb hd
      simp only [putAll, Act.put, List.setIfInBounds_toArray, List.set_cons_succ, List.set_cons_zero, Nat.zero_add, Nat.reduceAdd]
      go_wp2
      first | exact ⟨rfl, Below.refl _ _⟩ | exact ⟨_, rfl, rfl, Below.refl _ _, fun h => by simp at h⟩ | exact ⟨_, rfl, rfl, Below.refl _ _⟩ | exact ⟨rfl, Below.refl _ _, fun h => by simp at h⟩
    · intro u W hb hd
      have e0 : u 7 = .int .i64 (size : Int) := hd.1 rfl (by decide)
      simp only [putAll, Act.put, List.setIfInBounds_toArray, List.set_cons_succ, List.set_cons_zero, Nat.zero_add, Nat.reduceAdd]
      rw [e0]
      go_wp2
      first | exact ⟨rfl, Below.refl _ _⟩ | exact ⟨_, rfl, rfl, Below.refl _ _, fun h => by simp at h⟩ | exact ⟨_, rfl, rfl, Below.refl _ _⟩ | exact ⟨rfl, Below.refl _ _, fun h => by simp at h⟩
    · intro u W hb hd
      simp only [putAll, Act.put, List.setIfInBounds_toArray, List.set_cons_succ, List.set_cons_zero, Nat.zero_add, Nat.reduceAdd]
      go_wp2
      first | exact ⟨rfl, Below.refl _ _⟩ | exact ⟨_, rfl, rfl, Below.refl _ _, fun h => by simp at h⟩ | exact ⟨_, rfl, rfl, Below.refl _ _⟩ | exact ⟨rfl, Below.refl _ _, fun h => by simp at h⟩
    · intro u W hb hd
      have e0 : u 9 = .int .i64 (size : Int) := hd.1 rfl (by decide)
      simp only [putAll, Act.put, List.setIfInBounds_toArray, List.set_cons_succ, List.set_cons_zero, Nat.zero_add, Nat.reduceAdd]
      rw [e0]
      go_wp2
      first | exact ⟨rfl, Below.refl _ _⟩ | exact ⟨_, rfl, rfl, Below.refl _ _, fun h => by simp at h⟩ | exact ⟨_, rfl, rfl, Below.refl _ _⟩ | exact ⟨rfl, Below.refl _ _, fun h => by simp at h⟩
    · intro u W hb hd
      have e0 : u 6 = .string XA := hd.1 rfl (by decide)
      have e1 : u 8 = .int .i64 (E4 : Int) := hd.2.1 rfl (by decide)
      have e2 : u 10 = .int .i64 (E7 : Int) := hd.2.2.1 rfl (by decide)
      simp only [putAll, Act.put, List.setIfInBounds_toArray, List.set_cons_succ, List.set_cons_zero, Nat.zero_add, Nat.reduceAdd]
      rw [e0, e1, e2]
      go_wp2
      first | exact ⟨rfl, Below.refl _ _⟩ | exact ⟨_, rfl, rfl, Below.refl _ _, fun h => by simp at h⟩ | exact ⟨_, rfl, rfl, Below.refl _ _⟩ | exact ⟨rfl, Below.refl _ _, fun h => by simp at h⟩
    · intro u W hb hd
      have e0 : u 11 = .string XC := hd.1 rfl (by decide)
      simp only [putAll, Act.put, List.setIfInBounds_toArray, List.set_cons_succ, List.set_cons_zero, Nat.zero_add, Nat.reduceAdd]
      rw [e0]
      go_wp2_with (go_at_call 25; (with_reducible refine (HR1.out W).mono ?_); rintro e W1 ⟨xv, rfl, hs, g1⟩; have hs9 := hs.weak (F' := fun b => w5.heap.size ≤ b) (fun i _ hi => Nat.le_trans hb.size hi))
      first | exact ⟨_, rfl, hs9, g1, fun h => by simp at h⟩ | exact ⟨hs9, g1, fun h => by simp at h⟩ | exact ⟨_, rfl, hs9, g1⟩ | exact ⟨hs9, g1⟩
    · intro u W hb hd
      have hs0 : SnapF W (u 5) m0 (fun b => w5.heap.size ≤ b) := hd.1 rfl (by decide)
      have hs1 : SnapF W (u 12) m1 (fun b => w5.heap.size ≤ b) := hd.2.1 rfl (by decide)
      simp only [putAll, Act.put, List.setIfInBounds_toArray, List.set_cons_succ, List.set_cons_zero, Nat.zero_add, Nat.reduceAdd]
      generalize u 5 = x0 at hs0 ⊢
      generalize u 12 = x1 at hs1 ⊢
      go_wp2_with (go_at_call 24; (with_reducible refine (rsnewer_any x0 x1 m0 m1 W hs0.snapV hs1.snapV).mono ?_); rintro e W1 ⟨xv, rfl, hx, g1⟩; have hs9 := newer_snapF hx (hs0.below g1) (hs1.below g1))
      first | exact ⟨_, rfl, hs9, g1, fun h => by simp at h⟩ | exact ⟨hs9, g1, fun h => by simp at h⟩ | exact ⟨_, rfl, hs9, g1⟩ | exact ⟨hs9, g1⟩
    · intro u W hb hd
      simp only [putAll, Act.put, List.setIfInBounds_toArray, List.set_cons_succ, List.set_cons_zero, Nat.zero_add, Nat.reduceAdd]
      have hs9 := Var2.fresh W (.int .u64 0) (.slice none 0 0) 38 _ rfl
      have hz9 := cells_end W (.int .u64 0) (.slice none 0 0) 38
      have g1 : Below W.heap.size W (W.alloc (.cells #[.int .u64 0, .slice none 0 0] 38)) := (Below.refl _ _).alloc (Nat.le_refl _) _
      go_wp2
      first | exact ⟨_, rfl, hb.size, hs9, hz9⟩ | exact ⟨_, rfl, ⟨_, rfl, hb.size, hs9, hz9⟩, g1, fun h => by simp at h⟩ | exact ⟨⟨_, rfl, hb.size, hs9, hz9⟩, g1, fun h => by simp at h⟩ | exact ⟨_, rfl, ⟨_, rfl, hb.size, hs9, hz9⟩, g1⟩ | exact ⟨⟨_, rfl, hb.size, hs9, hz9⟩, g1⟩
  · intro u W hb hT _
    have e0 : u 0 = .string XA := hT 0 (by decide)
    have e1 : u 1 = .int .i64 (size : Int) := hT 1 (by decide)
    have e2 : u 2 = .int .i64 (size : Int) := hT 2 (by decide)
    have e3 : u 3 = .int .i64 (E4 : Int) := hT 3 (by decide)
    have e4 : u 4 = .string XB := hT 4 (by decide)
    have e6 : u 6 = .string XA := hT 6 (by decide)
    have e7 : u 7 = .int .i64 (size : Int) := hT 7 (by decide)
    have e8 : u 8 = .int .i64 (E4 : Int) := hT 8 (by decide)
    have e9 : u 9 = .int .i64 (size : Int) := hT 9 (by decide)
    have e10 : u 10 = .int .i64 (E7 : Int) := hT 10 (by decide)
    have e11 : u 11 = .string XC := hT 11 (by decide)
    obtain ⟨hm1, ma, mc, e13, hma, hmo⟩ : SnapF W (u 13) (newerL m0 m1) (fun b => w5.heap.size ≤ b) := hT 13 (by decide)
    obtain ⟨mv, e14, hmv, vv, hz⟩ : ∃ p, u 14 = .pointer (some ⟨p, 0, none⟩) ∧ w5.heap.size ≤ p ∧ Var2 W p (.int .u64 0) (.slice none 0 0) ∧ ∀ i, 2 ≤ i → W.cell? ⟨p, i, none⟩ = none := hT 14 (by decide)
    obtain ⟨M, hM⟩ : ∃ x, newerL m0 m1 = x := ⟨_, rfl⟩
    rw [hM] at hm1 e13 hma hmo HSN HNB
    clear hM
    obtain ⟨me, hme⟩ : ∃ x, M.1 = x := ⟨_, rfl⟩
    obtain ⟨mn, hmn⟩ : ∃ x, M.2.length = x := ⟨_, rfl⟩
    rw [hme, hmn] at e13
    rw [hmn] at hma hmo
    have q0 := vv.c0
    have q1 := vv.c1
    have q2 := vv.q0
    have q3 := vv.q1
    obtain ⟨WA, hWA⟩ : ∃ x, (W.setCell ⟨mv, 0, none⟩ (.int .u64 (me : Int))).setCell ⟨mv, 1, none⟩ (.slice ma mn mc) = x := ⟨_, rfl⟩
    have hk1 : ∀ j, j ≠ mv → WA.heap[j]? = W.heap[j]? := fun j hj => by rw [← hWA]; exact (set_else _ _ _ _ j hj).trans (set_else _ _ _ _ j hj)
    have hs1 : WA.heap.size = W.heap.size := by rw [← hWA]; simp
    have g1w : Below w5.heap.size w5 WA := by rw [← hWA]; exact below_put2 hb hmv _ _
    have V1 := Lib.hid (show Var2 WA mv (.int .u64 (me : Int)) (.slice ma mn mc) from by rw [← hWA]; exact vv.put _ _)
    have hOw := fun i hi => (H5.out.own i hi)
    have hlo : wx.heap.size ≤ WA.heap.size := Nat.le_trans G5.out.size g1w.size
    obtain ⟨K1, hK1⟩ : ∃ K : Foot, K = fun i => i < WA.heap.size ∧ ¬ O4 i := ⟨_, rfl⟩
    have HKD1 : Hid (KD wx WA wx.heap.size r 8 size D4 K1) := by rw [hK1]; exact kd_start (H5.out.after g1w) N4.out.1.n N4.out.1.size (G5.out.trans (g1w.mono G5.out.size))
    have HKM : Hid (K1 mv) := by rw [hK1]; exact ⟨V1.out.s, fun ho => by have := (hOw mv ho).2; omega⟩
    have HKB : Hid (∀ i, i < wx.heap.size → K1 i) := fun i hi => by rw [hK1]; exact ⟨Nat.lt_of_lt_of_le hi hlo, fun ho => by have := (hOw i ho).1; omega⟩
    have S1 : Hid (SnapF WA (.agg #[.int .u64 (me : Int), .slice ma mn mc]) M K1) := by
      refine ⟨hm1, ma, mc, by rw [hme, hmn], ?_, ?_⟩
      · rw [hmn]
        exact hma.stay (fun hne j hj => hk1 j (bytes_else hma hne hj vv hz))
      · rw [hmn]
        intro hne j hj
        rw [hK1]
        have q5 := hmo hne j hj
        exact ⟨by rw [hs1]; exact hma.lt hne hj, fun ho => by have := (hOw j ho).2; omega⟩
    have HON := Lib.hid (slots_on (f := 1) (k := 3) N4.out.1 N4.out.2 (by rw [HZ.out]; exact HSN.out : slotsL (1 * size) (3 * size) D4.last = (M.1, M.2)) (by decide) (by decide) hm1)
    have HM1 := Lib.hid hm1
    have HMN := Lib.hid (And.intro hme hmn)
    have HOP := Lib.hid (kd_open (T := M) HKD1.out (HEN.out WA HKD1.out.bel) (by decide) N4.out.1.fuse N4.out.1.dark N4.out.2 (by have := HDE4.out; omega) (by rw [HZ.out]; exact HSN.out) hm1)
    clear hb hT vv hm1 hma hmo hz hmv hk1 hs1 g1w hOw hlo hK1 hme hmn
    simp only [List.take_succ_cons, List.take_zero, List.drop_succ_cons, List.drop_zero, putAll, Act.put, List.setIfInBounds_toArray, List.set_cons_succ, List.set_cons_zero, Nat.zero_add, Nat.reduceAdd]
    rw [e0, e1, e2, e3, e4, e6, e7, e8, e9, e10, e11, e13, e14]
    clear e0 e1 e2 e3 e4 e6 e7 e8 e9 e10 e11 e13 e14
    go_upto_region 11 with fail
    clear hWA q0 q1 q2 q3
    go_upto_region 12 with (go_at_call 11; (with_reducible refine (HOP.out).mono ?_); rintro e w6 ⟨gs, rfl, ks6, g6⟩; have K6 := Lib.hid ks6; have V6 := Lib.hid (V1.out.after g6); have S6 := Lib.hid (S1.out.below g6); clear ks6 g6 HOP)
    have HSM := Lib.hid (fun W xv (hW : Below w6.heap.size w6 W) (hs : SnapV W xv M) => same_two hs (S6.out.below hW).snapV HNB.out HNB.out true (decide_eq_true rfl))
    refine wp_region_mix 15 (TLd [.int .i64 0, .bool false, .bool false, .pointer (some ⟨gs, 0, none⟩), undef, .agg #[.int .u64 (me : Int), .slice ma mn mc], .bool true, .bool false, .bool false, .bool false, .pointer (some ⟨r, 0, none⟩), .string XA, .string XA, .bool false, .bool false] M) (fun _ => false) (by kernel_rfl) (by kernel_rfl) TLd.keep (fun _ _ _ h => by cases h) ?_ ?_
    · simp only [List.take_succ_cons, List.take_zero]
      refine (StepsAll.cons ?_ (StepsAll.cons ?_ (StepsAll.cons ?_ (StepsAll.cons ?_ (StepsAll.cons ?_ (StepsAll.cons ?_ (StepsAll.cons ?_ (StepsAll.cons ?_ (StepsAll.cons ?_ (StepsAll.cons ?_ (StepsAll.cons ?_ (StepsAll.cons ?_ (StepsAll.cons ?_ (StepsAll.cons ?_ (StepsAll.cons ?_ StepsAll.nil)))))))))))))))
      · intro u W hb hd
        simp only [putAll, Act.put, List.setIfInBounds_toArray, List.set_cons_succ, List.set_cons_zero, Nat.zero_add, Nat.reduceAdd]
        go_wp2
        first | exact ⟨rfl, Below.refl _ _⟩ | exact ⟨_, rfl, rfl, Below.refl _ _, fun h => by simp at h⟩ | exact ⟨_, rfl, rfl, Below.refl _ _⟩ | exact ⟨rfl, Below.refl _ _, fun h => by simp at h⟩
      · intro u W hb hd
        have e0 : u 0 = .int .i64 0 := hd.1 rfl (by decide)
        simp only [putAll, Act.put, List.setIfInBounds_toArray, List.set_cons_succ, List.set_cons_zero, Nat.zero_add, Nat.reduceAdd]
        rw [e0]
        go_wp2
        first | exact ⟨rfl, Below.refl _ _⟩ | exact ⟨_, rfl, rfl, Below.refl _ _, fun h => by simp at h⟩ | exact ⟨_, rfl, rfl, Below.refl _ _⟩ | exact ⟨rfl, Below.refl _ _, fun h => by simp at h⟩
      · intro u W hb hd
        have e0 : u 1 = .bool false := hd.1 rfl (by decide)
        simp only [putAll, Act.put, List.setIfInBounds_toArray, List.set_cons_succ, List.set_cons_zero, Nat.zero_add, Nat.reduceAdd]
        rw [e0]
        go_wp2
        first | exact ⟨rfl, Below.refl _ _⟩ | exact ⟨_, rfl, rfl, Below.refl _ _, fun h => by simp at h⟩ | exact ⟨_, rfl, rfl, Below.refl _ _⟩ | exact ⟨rfl, Below.refl _ _, fun h => by simp at h⟩
      · intro u W hb hd
        have e0 : u 2 = .bool false := hd.1 rfl (by decide)
        simp only [putAll, Act.put, List.setIfInBounds_toArray, List.set_cons_succ, List.set_cons_zero, Nat.zero_add, Nat.reduceAdd]
        rw [e0]
        go_wp2
        first | exact ⟨rfl, Below.refl _ _⟩ | exact ⟨_, rfl, rfl, Below.refl _ _, fun h => by simp at h⟩ | exact ⟨_, rfl, rfl, Below.refl _ _⟩ | exact ⟨rfl, Below.refl _ _, fun h => by simp at h⟩
      · intro u W hb hd
        have e0 : u 3 = .pointer (some ⟨gs, 0, none⟩) := hd.1 rfl (by decide)
        have e2 : u 2 = .bool false := hd.2.2.1 rfl (by decide)
        simp only [putAll, Act.put, List.setIfInBounds_toArray, List.set_cons_succ, List.set_cons_zero, Nat.zero_add, Nat.reduceAdd]
        rw [e0, e2]
        go_wp2_with (go_at_call 18; (with_reducible refine (ks_snap (K6.out.after hb)).mono ?_); rintro e W1 ⟨xv, rfl, hs, g1⟩)
        first | exact ⟨_, rfl, hs, g1, fun h => by simp at h⟩ | exact ⟨hs, g1, fun h => by simp at h⟩ | exact ⟨_, rfl, hs, g1⟩ | exact ⟨hs, g1⟩
      · intro u W hb hd
        have e0 : u 2 = .bool false := hd.1 rfl (by decide)
        have vq := V6.out.after hb
        have n0 := vq.c0
        have n1 := vq.c1
        clear vq
        simp only [putAll, Act.put, List.setIfInBounds_toArray, List.set_cons_succ, List.set_cons_zero, Nat.zero_add, Nat.reduceAdd]
        rw [e0]
        go_wp2
        first | exact ⟨rfl, Below.refl _ _⟩ | exact ⟨_, rfl, rfl, Below.refl _ _, fun h => by simp at h⟩ | exact ⟨_, rfl, rfl, Below.refl _ _⟩ | exact ⟨rfl, Below.refl _ _, fun h => by simp at h⟩
      · intro u W hb hd
        have hs0 : SnapV W (u 4) M := hd.1 rfl (by decide)
        have e1 : u 5 = .agg #[.int .u64 (me : Int), .slice ma mn mc] := hd.2.1 rfl (by decide)
        have e3 : u 2 = .bool false := hd.2.2.2.1 rfl (by decide)
        simp only [putAll, Act.put, List.setIfInBounds_toArray, List.set_cons_succ, List.set_cons_zero, Nat.zero_add, Nat.reduceAdd]
        rw [e1, e3]
        generalize u 4 = x0 at hs0 ⊢
        go_wp2_with (go_at_call 17; (with_reducible refine (HSM.out W x0 hb hs0).mono ?_); rintro e W1 ⟨rfl, g1⟩)
        first | exact ⟨_, rfl, rfl, g1, fun h => by simp at h⟩ | exact ⟨rfl, g1⟩ | exact ⟨_, rfl, rfl, g1⟩
      · intro u W hb hd
        have e0 : u 6 = .bool true := hd.1 rfl (by decide)
        have e1 : u 2 = .bool false := hd.2.1 rfl (by decide)
        simp only [putAll, Act.put, List.setIfInBounds_toArray, List.set_cons_succ, List.set_cons_zero, Nat.zero_add, Nat.reduceAdd]
        rw [e0, e1]
        go_wp2
        first | exact ⟨rfl, Below.refl _ _⟩ | exact ⟨_, rfl, rfl, Below.refl _ _, fun h => by simp at h⟩ | exact ⟨_, rfl, rfl, Below.refl _ _⟩ | exact ⟨rfl, Below.refl _ _, fun h => by simp at h⟩
      · intro u W hb hd
        have e0 : u 2 = .bool false := hd.1 rfl (by decide)
        have e1 : u 7 = .bool false := hd.2.1 rfl (by decide)
        simp only [putAll, Act.put, List.setIfInBounds_toArray, List.set_cons_succ, List.set_cons_zero, Nat.zero_add, Nat.reduceAdd]
        rw [e0, e1]
        go_wp2
        first | exact ⟨rfl, Below.refl _ _⟩ | exact ⟨_, rfl, rfl, Below.refl _ _, fun h => by simp at h⟩ | exact ⟨_, rfl, rfl, Below.refl _ _⟩ | exact ⟨rfl, Below.refl _ _, fun h => by simp at h⟩
      · intro u W hb hd
        have e0 : u 8 = .bool false := hd.1 rfl (by decide)
        simp only [putAll, Act.put, List.setIfInBounds_toArray, List.set_cons_succ, List.set_cons_zero, Nat.zero_add, Nat.reduceAdd]
        rw [e0]
        go_wp2
        first | exact ⟨rfl, Below.refl _ _⟩ | exact ⟨_, rfl, rfl, Below.refl _ _, fun h => by simp at h⟩ | exact ⟨_, rfl, rfl, Below.refl _ _⟩ | exact ⟨rfl, Below.refl _ _, fun h => by simp at h⟩
      · intro u W hb hd
        have e0 : u 9 = .bool false := hd.1 rfl (by decide)
        simp only [putAll, Act.put, List.setIfInBounds_toArray, List.set_cons_succ, List.set_cons_zero, Nat.zero_add, Nat.reduceAdd]
        rw [e0]
        go_wp2
        first | exact ⟨rfl, Below.refl _ _⟩ | exact ⟨_, rfl, rfl, Below.refl _ _, fun h => by simp at h⟩ | exact ⟨_, rfl, rfl, Below.refl _ _⟩ | exact ⟨rfl, Below.refl _ _, fun h => by simp at h⟩
      · intro u W hb hd
        have e0 : u 10 = .pointer (some ⟨r, 0, none⟩) := hd.1 rfl (by decide)
        have e2 : u 9 = .bool false := hd.2.2.1 rfl (by decide)
        simp only [putAll, Act.put, List.setIfInBounds_toArray, List.set_cons_succ, List.set_cons_zero, Nat.zero_add, Nat.reduceAdd]
        rw [e0, e2]
        go_wp2_with (go_at_call 9; (with_reducible refine (ks_all (K6.out.after hb) N4.out.1.dark N4.out.2 (by have := HDE4.out; omega) HXZ.out).mono ?_); rintro e W1 ⟨rfl, g1⟩)
        first | exact ⟨_, rfl, rfl, g1, fun h => by simp at h⟩ | exact ⟨rfl, g1⟩ | exact ⟨_, rfl, rfl, g1⟩
      · intro u W hb hd
        have e0 : u 9 = .bool false := hd.1 rfl (by decide)
        simp only [putAll, Act.put, List.setIfInBounds_toArray, List.set_cons_succ, List.set_cons_zero, Nat.zero_add, Nat.reduceAdd]
        rw [e0]
        go_wp2
        first | exact ⟨rfl, Below.refl _ _⟩ | exact ⟨_, rfl, rfl, Below.refl _ _, fun h => by simp at h⟩ | exact ⟨_, rfl, rfl, Below.refl _ _⟩ | exact ⟨rfl, Below.refl _ _, fun h => by simp at h⟩
      · intro u W hb hd
        have e0 : u 11 = .string XA := hd.1 rfl (by decide)
        have e1 : u 12 = .string XA := hd.2.1 rfl (by decide)
        have e2 : u 9 = .bool false := hd.2.2.1 rfl (by decide)
        simp only [putAll, Act.put, List.setIfInBounds_toArray, List.set_cons_succ, List.set_cons_zero, Nat.zero_add, Nat.reduceAdd]
        rw [e0, e1, e2]
        go_wp2
        first | exact ⟨rfl, Below.refl _ _⟩ | exact ⟨_, rfl, rfl, Below.refl _ _, fun h => by simp at h⟩ | exact ⟨_, rfl, rfl, Below.refl _ _⟩ | exact ⟨rfl, Below.refl _ _, fun h => by simp at h⟩
      · intro u W hb hd
        have e0 : u 9 = .bool false := hd.1 rfl (by decide)
        have e1 : u 13 = .bool false := hd.2.1 rfl (by decide)
        simp only [putAll, Act.put, List.setIfInBounds_toArray, List.set_cons_succ, List.set_cons_zero, Nat.zero_add, Nat.reduceAdd]
        rw [e0, e1]
        go_wp2
        first | exact ⟨rfl, Below.refl _ _⟩ | exact ⟨_, rfl, rfl, Below.refl _ _, fun h => by simp at h⟩ | exact ⟨_, rfl, rfl, Below.refl _ _⟩ | exact ⟨rfl, Below.refl _ _, fun h => by simp at h⟩
    · intro u W hb hT _
      have e0 : u 0 = .int .i64 0 := hT 0 (by decide)
      have e1 : u 1 = .bool false := hT 1 (by decide)
      have e2 : u 2 = .bool false := hT 2 (by decide)
      have e3 : u 3 = .pointer (some ⟨gs, 0, none⟩) := hT 3 (by decide)
      have e5 : u 5 = .agg #[.int .u64 (me : Int), .slice ma mn mc] := hT 5 (by decide)
      have e6 : u 6 = .bool true := hT 6 (by decide)
      have e7 : u 7 = .bool false := hT 7 (by decide)
      have e8 : u 8 = .bool false := hT 8 (by decide)
      have e9 : u 9 = .bool false := hT 9 (by decide)
      have e10 : u 10 = .pointer (some ⟨r, 0, none⟩) := hT 10 (by decide)
      have e11 : u 11 = .string XA := hT 11 (by decide)
      have e12 : u 12 = .string XA := hT 12 (by decide)
      have e13 : u 13 = .bool false := hT 13 (by decide)
      have e14 : u 14 = .bool false := hT 14 (by decide)
      have K7 := Lib.hid (K6.out.after hb)
      have V7 := Lib.hid (V6.out.after hb)
      have S7 := Lib.hid (S6.out.below hb)
      have n0 := V7.out.c0
      have n1 := V7.out.c1
      clear hb hT
      simp only [List.take_succ_cons, List.take_zero, List.drop_succ_cons, List.drop_nil, putAll, Act.put, List.setIfInBounds_toArray, List.set_cons_succ, List.set_cons_zero, Nat.zero_add, Nat.reduceAdd]
      rw [e0, e1, e2, e3, e5, e6, e7, e8, e9, e10, e11, e12, e13, e14]
      clear e0 e1 e2 e3 e5 e6 e7 e8 e9 e10 e11 e12 e13 e14
      obtain ⟨X, kc, hkc, x1, xb, hrp, hpp⟩ := both_ks (w0 := wx) (base := wx.heap.size) (r := r) (N := 8) (size := size) (M := M) HM1.out HNB.out HEN.out (.slice ac Nc cc) c HAc.out HBc.out HOc.out HLc.out (by have := HS.out.2; omega)
      obtain ⟨xe, hxe⟩ : ∃ x, X.1 = x := ⟨_, rfl⟩
      obtain ⟨xn, hxn⟩ : ∃ x, X.2.length = x := ⟨_, rfl⟩
      obtain ⟨E3, hE3⟩ : ∃ x, 3 * size = x := ⟨_, rfl⟩
      have m3 : IntKind.i64.wrap (3 * (size : Int)) = (E3 : Int) := by rw [IntKind.wrap_i64]; have := HS.out.2; omega
      have HP7 := Lib.hid (hrp _ _ K1 K7.out.bel HKB.out S7.out)
      rw [hxe, hxn, hE3] at HP7
      have HPP := Lib.hid hpp
      have HX1 := Lib.hid (And.intro x1 xb)
      clear hrp hpp x1 xb hxe hxn hE3
      go_upto_region 17 with (first
        | (go_at_call 14; (with_reducible refine (HP7.out).mono ?_); rintro e W2 ⟨xa, xc, rfl, hs2, g2⟩; have hbx : Below W2.heap.size W2 (W2.alloc (.cells #[.int .u64 (xe : Int), .slice xa xn xc] 38)) := (Below.refl _ _).alloc (Nat.le_refl _) _; obtain ⟨K2, ks2, hk2, hn2⟩ := (K7.out.after g2).more hbx; have VN := Var2.fresh W2 (.int .u64 (xe : Int)) (.slice xa xn xc) 38 _ rfl; have TW := Lib.hid (Two.mk ((V7.out.after g2).after hbx) VN (((S7.out.below g2).below hbx).weak (fun i _ hi => hk2 i hi)) ((hs2.below hbx).weak (fun i _ hi => hk2 i hi)) (hk2 mv HKM.out) (hn2 _ (Nat.le_refl _) VN.s)); have HFU := Lib.hid (ks_fuse ks2 fuse HF.out.1 HF.out.2); have xk0 := (HXC.out _ ks2.bel).1; clear hs2 g2 hbx ks2 hk2 hn2 VN HP7)
        | (go_at_call 20; (with_reducible refine (HFU.out).mono ?_); rintro e W3 ⟨rfl, ks3, kk3⟩; have T3 := Lib.hid (TW.out.keep kk3); have HPU := Lib.hid (HPP.out W3 K2 (D4.light fuse) gs ks3 (on_light HON.out fuse) (by show D4.deeds ≤ _; have := HDE4.out; omega)); clear ks3 kk3 HFU xk0)
        | (go_at_call 15; (with_reducible refine (HPU.out).mono ?_); rintro e W4 ⟨gc, D5, P5, dn, rfl, hd5, ho5, ks5, kk5⟩; have K4 := Lib.hid ks5; have T4 := Lib.hid (T3.out.keep kk5); have HO5 := Lib.hid ho5; have HDE5 : Hid (D5.deeds ≤ 10000) := (by have q1 := HDE4.out; have q2 : (D4.light fuse).deeds = D4.deeds := rfl; unfold Hid; omega); clear hd5 ho5 ks5 kk5 HPU))
      obtain ⟨nv, hnv⟩ : ∃ x, W2.heap.size = x := ⟨_, rfl⟩
      rw [hnv] at T4
      simp only [hnv]
      clear hnv TW T3 V6 S6 K6 V7 S7 n0 n1 HSM HR0 HR1 hsl0 hsl1 V1 S1 HKD1 HAL
      go_cut [133] from 105 to 132 (fun v133 wr => v133 = .bool false ∧ KS wx wr wx.heap.size r 8 size D5 gs P5 dn K2 ∧ Two wr mv nv M X (.int .u64 (me : Int)) (.slice ma mn mc) (.int .u64 (xe : Int)) (.slice xa xn xc) K2)
      case first =>
        have HO6 := HO5.out
        rcases HO6 with ⟨a1, a2, a3, _⟩ | ⟨a1, a2, a3, _⟩ | ⟨a1, a2, a3, _⟩
        · have HSNP := Lib.hid (fun W (hW : Below W4.heap.size W4 W) => (show Calls Tryd.prog 18 #[.pointer (some ⟨gs, 0, none⟩)] W fun e w' => ∃ xv, e = .returned xv ∧ SnapV w' xv X ∧ Below W.heap.size W w' from by rw [← a3]; exact ks_snap (K4.out.after hW)))
          have HSM := Lib.hid (fun W xv (hW : Below W4.heap.size W4 W) (hs : SnapV W xv X) => same_two hs (T4.out.after hW).s2.snapV HX1.out.2 HX1.out.2 true (decide_eq_true rfl))
          clear a3
          subst a1 a2
          refine wp_region_mix 29 (TLe [.int .i64 0, .int .i64 0, .bool false, .bool false, undef, undef, .bool false, .bool false, .int .i64 0, .bool false, .bool false, undef, undef, undef, undef, undef, .bool false, .bool false, .bool false, .int .i64 0, .bool true, .bool true, .pointer (some ⟨gs, 0, none⟩), undef, .agg #[.int .u64 (xe : Int), .slice xa xn xc], .bool true, .bool false, .bool false, .bool false] X) (fun _ => false) (by kernel_rfl) (by kernel_rfl) TLe.keep (fun _ _ _ h => by cases h) ?_ ?_
          · simp only [List.take_succ_cons, List.take_zero]
            refine (StepsAll.cons ?_ (StepsAll.cons ?_ (StepsAll.cons ?_ (StepsAll.cons ?_ (StepsAll.cons ?_ (StepsAll.cons ?_ (StepsAll.cons ?_ (StepsAll.cons ?_ (StepsAll.cons ?_ (StepsAll.cons ?_ (StepsAll.cons ?_ (StepsAll.cons ?_ (StepsAll.cons ?_ (StepsAll.cons ?_ (StepsAll.cons ?_ (StepsAll.cons ?_ (StepsAll.cons ?_ (StepsAll.cons ?_ (StepsAll.cons ?_ (StepsAll.cons ?_ (StepsAll.cons ?_ (StepsAll.cons ?_ (StepsAll.cons ?_ (StepsAll.cons ?_ (StepsAll.cons ?_ (StepsAll.cons ?_ (StepsAll.cons ?_ (StepsAll.cons ?_ (StepsAll.cons ?_ StepsAll.nil)))))))))))))))))))))))))))))
            · intro u W hb hd
              simp only [putAll, Act.put, List.setIfInBounds_toArray, List.set_cons_succ, List.set_cons_zero, Nat.zero_add, Nat.reduceAdd]
              go_wp2
              first | exact ⟨rfl, Below.refl _ _⟩ | exact ⟨_, rfl, rfl, Below.refl _ _, fun h => by simp at h⟩ | exact ⟨_, rfl, rfl, Below.refl _ _⟩ | exact ⟨rfl, Below.refl _ _, fun h => by simp at h⟩
            · intro u W hb hd
              simp only [putAll, Act.put, List.setIfInBounds_toArray, List.set_cons_succ, List.set_cons_zero, Nat.zero_add, Nat.reduceAdd]
              go_wp2
              first | exact ⟨rfl, Below.refl _ _⟩ | exact ⟨_, rfl, rfl, Below.refl _ _, fun h => by simp at h⟩ | exact ⟨_, rfl, rfl, Below.refl _ _⟩ | exact ⟨rfl, Below.refl _ _, fun h => by simp at h⟩
            · intro u W hb hd
              have e0 : u 0 = .int .i64 0 := hd.1 rfl (by decide)
              have e1 : u 1 = .int .i64 0 := hd.2.1 rfl (by decide)
              simp only [putAll, Act.put, List.setIfInBounds_toArray, List.set_cons_succ, List.set_cons_zero, Nat.zero_add, Nat.reduceAdd]
              rw [e0, e1]
              go_wp2
              first | exact ⟨rfl, Below.refl _ _⟩ | exact ⟨_, rfl, rfl, Below.refl _ _, fun h => by simp at h⟩ | exact ⟨_, rfl, rfl, Below.refl _ _⟩ | exact ⟨rfl, Below.refl _ _, fun h => by simp at h⟩
            · intro u W hb hd
              have e0 : u 2 = .bool false := hd.1 rfl (by decide)
              simp only [putAll, Act.put, List.setIfInBounds_toArray, List.set_cons_succ, List.set_cons_zero, Nat.zero_add, Nat.reduceAdd]
              rw [e0]
              go_wp2
              first | exact ⟨rfl, Below.refl _ _⟩ | exact ⟨_, rfl, rfl, Below.refl _ _, fun h => by simp at h⟩ | exact ⟨_, rfl, rfl, Below.refl _ _⟩ | exact ⟨rfl, Below.refl _ _, fun h => by simp at h⟩
            · intro u W hb hd
              have e0 : u 3 = .bool false := hd.1 rfl (by decide)
              simp only [putAll, Act.put, List.setIfInBounds_toArray, List.set_cons_succ, List.set_cons_zero, Nat.zero_add, Nat.reduceAdd]
              rw [e0]
              go_wp2
              first | exact ⟨_, rfl, trivial, Below.refl _ _, fun h => by simp at h⟩ | exact ⟨_, rfl, trivial, Below.refl _ _⟩ | exact ⟨undef, trivial, Below.refl _ _⟩ | exact ⟨trivial, Below.refl _ _⟩ | exact Below.refl _ _
            · intro u W hb hd
              have e1 : u 3 = .bool false := hd.2.1 rfl (by decide)
              simp only [putAll, Act.put, List.setIfInBounds_toArray, List.set_cons_succ, List.set_cons_zero, Nat.zero_add, Nat.reduceAdd]
              rw [e1]
              go_wp2
              first | exact ⟨_, rfl, trivial, Below.refl _ _, fun h => by simp at h⟩ | exact ⟨_, rfl, trivial, Below.refl _ _⟩ | exact ⟨undef, trivial, Below.refl _ _⟩ | exact ⟨trivial, Below.refl _ _⟩ | exact Below.refl _ _
            · intro u W hb hd
              have e0 : u 3 = .bool false := hd.1 rfl (by decide)
              simp only [putAll, Act.put, List.setIfInBounds_toArray, List.set_cons_succ, List.set_cons_zero, Nat.zero_add, Nat.reduceAdd]
              rw [e0]
              go_wp2
              first | exact ⟨rfl, Below.refl _ _⟩ | exact ⟨_, rfl, rfl, Below.refl _ _, fun h => by simp at h⟩ | exact ⟨_, rfl, rfl, Below.refl _ _⟩ | exact ⟨rfl, Below.refl _ _, fun h => by simp at h⟩
            · intro u W hb hd
              have e0 : u 6 = .bool false := hd.1 rfl (by decide)
              simp only [putAll, Act.put, List.setIfInBounds_toArray, List.set_cons_succ, List.set_cons_zero, Nat.zero_add, Nat.reduceAdd]
              rw [e0]
              go_wp2
              first | exact ⟨rfl, Below.refl _ _⟩ | exact ⟨_, rfl, rfl, Below.refl _ _, fun h => by simp at h⟩ | exact ⟨_, rfl, rfl, Below.refl _ _⟩ | exact ⟨rfl, Below.refl _ _, fun h => by simp at h⟩
            · intro u W hb hd
              have e0 : u 7 = .bool false := hd.1 rfl (by decide)
              simp only [putAll, Act.put, List.setIfInBounds_toArray, List.set_cons_succ, List.set_cons_zero, Nat.zero_add, Nat.reduceAdd]
              rw [e0]
              go_wp2
              first | exact ⟨rfl, Below.refl _ _⟩ | exact ⟨_, rfl, rfl, Below.refl _ _, fun h => by simp at h⟩ | exact ⟨_, rfl, rfl, Below.refl _ _⟩ | exact ⟨rfl, Below.refl _ _, fun h => by simp at h⟩
            · intro u W hb hd
              have e0 : u 8 = .int .i64 0 := hd.1 rfl (by decide)
              have e1 : u 7 = .bool false := hd.2.1 rfl (by decide)
              simp only [putAll, Act.put, List.setIfInBounds_toArray, List.set_cons_succ, List.set_cons_zero, Nat.zero_add, Nat.reduceAdd]
              rw [e0, e1]
              go_wp2
              first | exact ⟨rfl, Below.refl _ _⟩ | exact ⟨_, rfl, rfl, Below.refl _ _, fun h => by simp at h⟩ | exact ⟨_, rfl, rfl, Below.refl _ _⟩ | exact ⟨rfl, Below.refl _ _, fun h => by simp at h⟩
            · intro u W hb hd
              have e0 : u 9 = .bool false := hd.1 rfl (by decide)
              have e2 : u 7 = .bool false := hd.2.2.1 rfl (by decide)
              simp only [putAll, Act.put, List.setIfInBounds_toArray, List.set_cons_succ, List.set_cons_zero, Nat.zero_add, Nat.reduceAdd]
              rw [e0, e2]
              go_wp2
              first | exact ⟨rfl, Below.refl _ _⟩ | exact ⟨_, rfl, rfl, Below.refl _ _, fun h => by simp at h⟩ | exact ⟨_, rfl, rfl, Below.refl _ _⟩ | exact ⟨rfl, Below.refl _ _, fun h => by simp at h⟩
            · intro u W hb hd
              have e0 : u 10 = .bool false := hd.1 rfl (by decide)
              simp only [putAll, Act.put, List.setIfInBounds_toArray, List.set_cons_succ, List.set_cons_zero, Nat.zero_add, Nat.reduceAdd]
              rw [e0]
              go_wp2
              first | exact ⟨_, rfl, trivial, Below.refl _ _, fun h => by simp at h⟩ | exact ⟨_, rfl, trivial, Below.refl _ _⟩ | exact ⟨undef, trivial, Below.refl _ _⟩ | exact ⟨trivial, Below.refl _ _⟩ | exact Below.refl _ _
            · intro u W hb hd
              have e2 : u 10 = .bool false := hd.2.2.1 rfl (by decide)
              simp only [putAll, Act.put, List.setIfInBounds_toArray, List.set_cons_succ, List.set_cons_zero, Nat.zero_add, Nat.reduceAdd]
              rw [e2]
              go_wp2
              first | exact ⟨_, rfl, trivial, Below.refl _ _, fun h => by simp at h⟩ | exact ⟨_, rfl, trivial, Below.refl _ _⟩ | exact ⟨undef, trivial, Below.refl _ _⟩ | exact ⟨trivial, Below.refl _ _⟩ | exact Below.refl _ _
            · intro u W hb hd
              have e0 : u 10 = .bool false := hd.1 rfl (by decide)
              simp only [putAll, Act.put, List.setIfInBounds_toArray, List.set_cons_succ, List.set_cons_zero, Nat.zero_add, Nat.reduceAdd]
              rw [e0]
              go_wp2
              first | exact ⟨_, rfl, trivial, Below.refl _ _, fun h => by simp at h⟩ | exact ⟨_, rfl, trivial, Below.refl _ _⟩ | exact ⟨undef, trivial, Below.refl _ _⟩ | exact ⟨trivial, Below.refl _ _⟩ | exact Below.refl _ _
            · intro u W hb hd
              have e3 : u 10 = .bool false := hd.2.2.2.1 rfl (by decide)
              simp only [putAll, Act.put, List.setIfInBounds_toArray, List.set_cons_succ, List.set_cons_zero, Nat.zero_add, Nat.reduceAdd]
              rw [e3]
              go_wp2
              first | exact ⟨_, rfl, trivial, Below.refl _ _, fun h => by simp at h⟩ | exact ⟨_, rfl, trivial, Below.refl _ _⟩ | exact ⟨undef, trivial, Below.refl _ _⟩ | exact ⟨trivial, Below.refl _ _⟩ | exact Below.refl _ _
            · intro u W hb hd
              have e1 : u 10 = .bool false := hd.2.1 rfl (by decide)
              simp only [putAll, Act.put, List.setIfInBounds_toArray, List.set_cons_succ, List.set_cons_zero, Nat.zero_add, Nat.reduceAdd]
              rw [e1]
              go_wp2
              first | exact ⟨_, rfl, trivial, Below.refl _ _, fun h => by simp at h⟩ | exact ⟨_, rfl, trivial, Below.refl _ _⟩ | exact ⟨undef, trivial, Below.refl _ _⟩ | exact ⟨trivial, Below.refl _ _⟩ | exact Below.refl _ _
            · intro u W hb hd
              have e0 : u 10 = .bool false := hd.1 rfl (by decide)
              have e2 : u 7 = .bool false := hd.2.2.1 rfl (by decide)
              simp only [putAll, Act.put, List.setIfInBounds_toArray, List.set_cons_succ, List.set_cons_zero, Nat.zero_add, Nat.reduceAdd]
              rw [e0, e2]
              go_wp2
              first | exact ⟨rfl, Below.refl _ _⟩ | exact ⟨_, rfl, rfl, Below.refl _ _, fun h => by simp at h⟩ | exact ⟨_, rfl, rfl, Below.refl _ _⟩ | exact ⟨rfl, Below.refl _ _, fun h => by simp at h⟩
            · intro u W hb hd
              have e0 : u 7 = .bool false := hd.1 rfl (by decide)
              have e1 : u 16 = .bool false := hd.2.1 rfl (by decide)
              simp only [putAll, Act.put, List.setIfInBounds_toArray, List.set_cons_succ, List.set_cons_zero, Nat.zero_add, Nat.reduceAdd]
              rw [e0, e1]
              go_wp2
              first | exact ⟨rfl, Below.refl _ _⟩ | exact ⟨_, rfl, rfl, Below.refl _ _, fun h => by simp at h⟩ | exact ⟨_, rfl, rfl, Below.refl _ _⟩ | exact ⟨rfl, Below.refl _ _, fun h => by simp at h⟩
            · intro u W hb hd
              have e0 : u 17 = .bool false := hd.1 rfl (by decide)
              simp only [putAll, Act.put, List.setIfInBounds_toArray, List.set_cons_succ, List.set_cons_zero, Nat.zero_add, Nat.reduceAdd]
              rw [e0]
              go_wp2
              first | exact ⟨rfl, Below.refl _ _⟩ | exact ⟨_, rfl, rfl, Below.refl _ _, fun h => by simp at h⟩ | exact ⟨_, rfl, rfl, Below.refl _ _⟩ | exact ⟨rfl, Below.refl _ _, fun h => by simp at h⟩
            · intro u W hb hd
              have e0 : u 18 = .bool false := hd.1 rfl (by decide)
              simp only [putAll, Act.put, List.setIfInBounds_toArray, List.set_cons_succ, List.set_cons_zero, Nat.zero_add, Nat.reduceAdd]
              rw [e0]
              go_wp2
              first | exact ⟨rfl, Below.refl _ _⟩ | exact ⟨_, rfl, rfl, Below.refl _ _, fun h => by simp at h⟩ | exact ⟨_, rfl, rfl, Below.refl _ _⟩ | exact ⟨rfl, Below.refl _ _, fun h => by simp at h⟩
            · intro u W hb hd
              have e0 : u 19 = .int .i64 0 := hd.1 rfl (by decide)
              have e1 : u 18 = .bool false := hd.2.1 rfl (by decide)
              simp only [putAll, Act.put, List.setIfInBounds_toArray, List.set_cons_succ, List.set_cons_zero, Nat.zero_add, Nat.reduceAdd]
              rw [e0, e1]
              go_wp2
              first | exact ⟨rfl, Below.refl _ _⟩ | exact ⟨_, rfl, rfl, Below.refl _ _, fun h => by simp at h⟩ | exact ⟨_, rfl, rfl, Below.refl _ _⟩ | exact ⟨rfl, Below.refl _ _, fun h => by simp at h⟩
            · intro u W hb hd
              have e0 : u 20 = .bool true := hd.1 rfl (by decide)
              have e2 : u 18 = .bool false := hd.2.2.1 rfl (by decide)
              simp only [putAll, Act.put, List.setIfInBounds_toArray, List.set_cons_succ, List.set_cons_zero, Nat.zero_add, Nat.reduceAdd]
              rw [e0, e2]
              go_wp2
              first | exact ⟨rfl, Below.refl _ _⟩ | exact ⟨_, rfl, rfl, Below.refl _ _, fun h => by simp at h⟩ | exact ⟨_, rfl, rfl, Below.refl _ _⟩ | exact ⟨rfl, Below.refl _ _, fun h => by simp at h⟩
            · intro u W hb hd
              have e0 : u 21 = .bool true := hd.1 rfl (by decide)
              simp only [putAll, Act.put, List.setIfInBounds_toArray, List.set_cons_succ, List.set_cons_zero, Nat.zero_add, Nat.reduceAdd]
              rw [e0]
              go_wp2
              first | exact ⟨rfl, Below.refl _ _⟩ | exact ⟨_, rfl, rfl, Below.refl _ _, fun h => by simp at h⟩ | exact ⟨_, rfl, rfl, Below.refl _ _⟩ | exact ⟨rfl, Below.refl _ _, fun h => by simp at h⟩
            · intro u W hb hd
              have e0 : u 22 = .pointer (some ⟨gs, 0, none⟩) := hd.1 rfl (by decide)
              have e2 : u 21 = .bool true := hd.2.2.1 rfl (by decide)
              simp only [putAll, Act.put, List.setIfInBounds_toArray, List.set_cons_succ, List.set_cons_zero, Nat.zero_add, Nat.reduceAdd]
              rw [e0, e2]
              go_wp2_with (go_at_call 18; (with_reducible refine (HSNP.out W hb).mono ?_); rintro e W1 ⟨xv, rfl, hs, g1⟩)
              first | exact ⟨_, rfl, hs, g1, fun h => by simp at h⟩ | exact ⟨hs, g1, fun h => by simp at h⟩ | exact ⟨_, rfl, hs, g1⟩ | exact ⟨hs, g1⟩
            · intro u W hb hd
              have e0 : u 21 = .bool true := hd.1 rfl (by decide)
              have vq := (T4.out.after hb).v2
              have n0 := vq.c0
              have n1 := vq.c1
              clear vq
              simp only [putAll, Act.put, List.setIfInBounds_toArray, List.set_cons_succ, List.set_cons_zero, Nat.zero_add, Nat.reduceAdd]
              rw [e0]
              go_wp2
              first | exact ⟨rfl, Below.refl _ _⟩ | exact ⟨_, rfl, rfl, Below.refl _ _, fun h => by simp at h⟩ | exact ⟨_, rfl, rfl, Below.refl _ _⟩ | exact ⟨rfl, Below.refl _ _, fun h => by simp at h⟩
            · intro u W hb hd
              have hs0 : SnapV W (u 23) X := hd.1 rfl (by decide)
              have e1 : u 24 = .agg #[.int .u64 (xe : Int), .slice xa xn xc] := hd.2.1 rfl (by decide)
              have e3 : u 21 = .bool true := hd.2.2.2.1 rfl (by decide)
              simp only [putAll, Act.put, List.setIfInBounds_toArray, List.set_cons_succ, List.set_cons_zero, Nat.zero_add, Nat.reduceAdd]
              rw [e1, e3]
              generalize u 23 = x0 at hs0 ⊢
              go_wp2_with (go_at_call 17; (with_reducible refine (HSM.out W x0 hb hs0).mono ?_); rintro e W1 ⟨rfl, g1⟩)
              first | exact ⟨_, rfl, rfl, g1, fun h => by simp at h⟩ | exact ⟨rfl, g1⟩ | exact ⟨_, rfl, rfl, g1⟩
            · intro u W hb hd
              have e0 : u 25 = .bool true := hd.1 rfl (by decide)
              have e1 : u 21 = .bool true := hd.2.1 rfl (by decide)
              simp only [putAll, Act.put, List.setIfInBounds_toArray, List.set_cons_succ, List.set_cons_zero, Nat.zero_add, Nat.reduceAdd]
              rw [e0, e1]
              go_wp2
              first | exact ⟨rfl, Below.refl _ _⟩ | exact ⟨_, rfl, rfl, Below.refl _ _, fun h => by simp at h⟩ | exact ⟨_, rfl, rfl, Below.refl _ _⟩ | exact ⟨rfl, Below.refl _ _, fun h => by simp at h⟩
            · intro u W hb hd
              have e0 : u 21 = .bool true := hd.1 rfl (by decide)
              have e1 : u 26 = .bool false := hd.2.1 rfl (by decide)
              have e2 : u 18 = .bool false := hd.2.2.1 rfl (by decide)
              simp only [putAll, Act.put, List.setIfInBounds_toArray, List.set_cons_succ, List.set_cons_zero, Nat.zero_add, Nat.reduceAdd]
              rw [e0, e1, e2]
              go_wp2
              first | exact ⟨rfl, Below.refl _ _⟩ | exact ⟨_, rfl, rfl, Below.refl _ _, fun h => by simp at h⟩ | exact ⟨_, rfl, rfl, Below.refl _ _⟩ | exact ⟨rfl, Below.refl _ _, fun h => by simp at h⟩
            · intro u W hb hd
              have e0 : u 18 = .bool false := hd.1 rfl (by decide)
              have e1 : u 27 = .bool false := hd.2.1 rfl (by decide)
              simp only [putAll, Act.put, List.setIfInBounds_toArray, List.set_cons_succ, List.set_cons_zero, Nat.zero_add, Nat.reduceAdd]
              rw [e0, e1]
              go_wp2
              first | exact ⟨rfl, Below.refl _ _⟩ | exact ⟨_, rfl, rfl, Below.refl _ _, fun h => by simp at h⟩ | exact ⟨_, rfl, rfl, Below.refl _ _⟩ | exact ⟨rfl, Below.refl _ _, fun h => by simp at h⟩
          · intro u W hb hT _
            have e0 : u 0 = .int .i64 0 := hT 0 (by decide)
            have e1 : u 1 = .int .i64 0 := hT 1 (by decide)
            have e2 : u 2 = .bool false := hT 2 (by decide)
            have e3 : u 3 = .bool false := hT 3 (by decide)
            have e6 : u 6 = .bool false := hT 6 (by decide)
            have e7 : u 7 = .bool false := hT 7 (by decide)
            have e8 : u 8 = .int .i64 0 := hT 8 (by decide)
            have e9 : u 9 = .bool false := hT 9 (by decide)
            have e10 : u 10 = .bool false := hT 10 (by decide)
            have e16 : u 16 = .bool false := hT 16 (by decide)
            have e17 : u 17 = .bool false := hT 17 (by decide)
            have e18 : u 18 = .bool false := hT 18 (by decide)
            have e19 : u 19 = .int .i64 0 := hT 19 (by decide)
            have e20 : u 20 = .bool true := hT 20 (by decide)
            have e21 : u 21 = .bool true := hT 21 (by decide)
            have e22 : u 22 = .pointer (some ⟨gs, 0, none⟩) := hT 22 (by decide)
            have e24 : u 24 = .agg #[.int .u64 (xe : Int), .slice xa xn xc] := hT 24 (by decide)
            have e25 : u 25 = .bool true := hT 25 (by decide)
            have e26 : u 26 = .bool false := hT 26 (by decide)
            have e27 : u 27 = .bool false := hT 27 (by decide)
            have e28 : u 28 = .bool false := hT 28 (by decide)
            have HW3 := Lib.hid (K4.out.after hb)
            have HT3 := Lib.hid (T4.out.after hb)
            clear hb hT
            simp only [List.take_succ_cons, List.take_zero, List.drop_succ_cons, List.drop_nil, putAll, Act.put, List.setIfInBounds_toArray, List.set_cons_succ, List.set_cons_zero, Nat.zero_add, Nat.reduceAdd]
            rw [e0, e1, e2, e3, e6, e7, e8, e9, e10, e16, e17, e18, e19, e20, e21, e22, e24, e25, e26, e27, e28]
            clear e0 e1 e2 e3 e6 e7 e8 e9 e10 e16 e17 e18 e19 e20 e21 e22 e24 e25 e26 e27 e28
            go_wp2
            go_meet
            exact ⟨rfl, HW3.out, HT3.out⟩
        · have HSNP := Lib.hid (fun W (hW : Below W4.heap.size W4 W) => (show Calls Tryd.prog 18 #[.pointer (some ⟨gs, 0, none⟩)] W fun e w' => ∃ xv, e = .returned xv ∧ SnapV w' xv M ∧ Below W.heap.size W w' from by rw [← a3]; exact ks_snap (K4.out.after hW)))
          have HSM := Lib.hid (fun W xv (hW : Below W4.heap.size W4 W) (hs : SnapV W xv M) => same_two hs (T4.out.after hW).s1.snapV HNB.out HNB.out true (decide_eq_true rfl))
          clear a3
          subst a2
          refine wp_region_mix 29 (TLf [.int .i64 gc, .int .i64 gc, .bool false, .bool false, undef, undef, .bool false, .bool false, .int .i64 gc, .bool true, .bool true, .pointer (some ⟨gs, 0, none⟩), undef, .agg #[.int .u64 (me : Int), .slice ma mn mc], .bool true, .bool false, .bool false, .bool false, .bool false, .int .i64 gc, .bool false, .bool false, undef, undef, undef, undef, undef, .bool false, .bool false] M) (fun _ => false) (by kernel_rfl) (by kernel_rfl) TLf.keep (fun _ _ _ h => by cases h) ?_ ?_
          · simp only [List.take_succ_cons, List.take_zero]
            refine (StepsAll.cons ?_ (StepsAll.cons ?_ (StepsAll.cons ?_ (StepsAll.cons ?_ (StepsAll.cons ?_ (StepsAll.cons ?_ (StepsAll.cons ?_ (StepsAll.cons ?_ (StepsAll.cons ?_ (StepsAll.cons ?_ (StepsAll.cons ?_ (StepsAll.cons ?_ (StepsAll.cons ?_ (StepsAll.cons ?_ (StepsAll.cons ?_ (StepsAll.cons ?_ (StepsAll.cons ?_ (StepsAll.cons ?_ (StepsAll.cons ?_ (StepsAll.cons ?_ (StepsAll.cons ?_ (StepsAll.cons ?_ (StepsAll.cons ?_ (StepsAll.cons ?_ (StepsAll.cons ?_ (StepsAll.cons ?_ (StepsAll.cons ?_ (StepsAll.cons ?_ (StepsAll.cons ?_ StepsAll.nil)))))))))))))))))))))))))))))
            · intro u W hb hd
              simp only [putAll, Act.put, List.setIfInBounds_toArray, List.set_cons_succ, List.set_cons_zero, Nat.zero_add, Nat.reduceAdd]
              go_wp2
              first | exact ⟨rfl, Below.refl _ _⟩ | exact ⟨_, rfl, rfl, Below.refl _ _, fun h => by simp at h⟩ | exact ⟨_, rfl, rfl, Below.refl _ _⟩ | exact ⟨rfl, Below.refl _ _, fun h => by simp at h⟩
            · intro u W hb hd
              simp only [putAll, Act.put, List.setIfInBounds_toArray, List.set_cons_succ, List.set_cons_zero, Nat.zero_add, Nat.reduceAdd]
              go_wp2
              first | exact ⟨rfl, Below.refl _ _⟩ | exact ⟨_, rfl, rfl, Below.refl _ _, fun h => by simp at h⟩ | exact ⟨_, rfl, rfl, Below.refl _ _⟩ | exact ⟨rfl, Below.refl _ _, fun h => by simp at h⟩
            · intro u W hb hd
              have e0 : u 0 = .int .i64 gc := hd.1 rfl (by decide)
              have e1 : u 1 = .int .i64 gc := hd.2.1 rfl (by decide)
              simp only [putAll, Act.put, List.setIfInBounds_toArray, List.set_cons_succ, List.set_cons_zero, Nat.zero_add, Nat.reduceAdd]
              rw [e0, e1]
              go_wp2
              first | exact ⟨rfl, Below.refl _ _⟩ | exact ⟨_, rfl, rfl, Below.refl _ _, fun h => by simp at h⟩ | exact ⟨_, rfl, rfl, Below.refl _ _⟩ | exact ⟨rfl, Below.refl _ _, fun h => by simp at h⟩
            · intro u W hb hd
              have e0 : u 2 = .bool false := hd.1 rfl (by decide)
              simp only [putAll, Act.put, List.setIfInBounds_toArray, List.set_cons_succ, List.set_cons_zero, Nat.zero_add, Nat.reduceAdd]
              rw [e0]
              go_wp2
              first | exact ⟨rfl, Below.refl _ _⟩ | exact ⟨_, rfl, rfl, Below.refl _ _, fun h => by simp at h⟩ | exact ⟨_, rfl, rfl, Below.refl _ _⟩ | exact ⟨rfl, Below.refl _ _, fun h => by simp at h⟩
            · intro u W hb hd
              have e0 : u 3 = .bool false := hd.1 rfl (by decide)
              simp only [putAll, Act.put, List.setIfInBounds_toArray, List.set_cons_succ, List.set_cons_zero, Nat.zero_add, Nat.reduceAdd]
              rw [e0]
              go_wp2
              first | exact ⟨_, rfl, trivial, Below.refl _ _, fun h => by simp at h⟩ | exact ⟨_, rfl, trivial, Below.refl _ _⟩ | exact ⟨undef, trivial, Below.refl _ _⟩ | exact ⟨trivial, Below.refl _ _⟩ | exact Below.refl _ _
            · intro u W hb hd
              have e1 : u 3 = .bool false := hd.2.1 rfl (by decide)
              simp only [putAll, Act.put, List.setIfInBounds_toArray, List.set_cons_succ, List.set_cons_zero, Nat.zero_add, Nat.reduceAdd]
              rw [e1]
              go_wp2
              first | exact ⟨_, rfl, trivial, Below.refl _ _, fun h => by simp at h⟩ | exact ⟨_, rfl, trivial, Below.refl _ _⟩ | exact ⟨undef, trivial, Below.refl _ _⟩ | exact ⟨trivial, Below.refl _ _⟩ | exact Below.refl _ _
            · intro u W hb hd
              have e0 : u 3 = .bool false := hd.1 rfl (by decide)
              simp only [putAll, Act.put, List.setIfInBounds_toArray, List.set_cons_succ, List.set_cons_zero, Nat.zero_add, Nat.reduceAdd]
              rw [e0]
              go_wp2
              first | exact ⟨rfl, Below.refl _ _⟩ | exact ⟨_, rfl, rfl, Below.refl _ _, fun h => by simp at h⟩ | exact ⟨_, rfl, rfl, Below.refl _ _⟩ | exact ⟨rfl, Below.refl _ _, fun h => by simp at h⟩
            · intro u W hb hd
              have e0 : u 6 = .bool false := hd.1 rfl (by decide)
              simp only [putAll, Act.put, List.setIfInBounds_toArray, List.set_cons_succ, List.set_cons_zero, Nat.zero_add, Nat.reduceAdd]
              rw [e0]
              go_wp2
              first | exact ⟨rfl, Below.refl _ _⟩ | exact ⟨_, rfl, rfl, Below.refl _ _, fun h => by simp at h⟩ | exact ⟨_, rfl, rfl, Below.refl _ _⟩ | exact ⟨rfl, Below.refl _ _, fun h => by simp at h⟩
            · intro u W hb hd
              have e0 : u 7 = .bool false := hd.1 rfl (by decide)
              simp only [putAll, Act.put, List.setIfInBounds_toArray, List.set_cons_succ, List.set_cons_zero, Nat.zero_add, Nat.reduceAdd]
              rw [e0]
              go_wp2
              first | exact ⟨rfl, Below.refl _ _⟩ | exact ⟨_, rfl, rfl, Below.refl _ _, fun h => by simp at h⟩ | exact ⟨_, rfl, rfl, Below.refl _ _⟩ | exact ⟨rfl, Below.refl _ _, fun h => by simp at h⟩
            · intro u W hb hd
              have e0 : u 8 = .int .i64 gc := hd.1 rfl (by decide)
              have e1 : u 7 = .bool false := hd.2.1 rfl (by decide)
              have b1 : (gc != 0) = true := by simp [a1]
              simp only [putAll, Act.put, List.setIfInBounds_toArray, List.set_cons_succ, List.set_cons_zero, Nat.zero_add, Nat.reduceAdd]
              rw [e0, e1]
              go_wp2
              first | exact ⟨rfl, Below.refl _ _⟩ | exact ⟨_, rfl, rfl, Below.refl _ _, fun h => by simp at h⟩ | exact ⟨_, rfl, rfl, Below.refl _ _⟩ | exact ⟨rfl, Below.refl _ _, fun h => by simp at h⟩
            · intro u W hb hd
              have e0 : u 9 = .bool true := hd.1 rfl (by decide)
              have e2 : u 7 = .bool false := hd.2.2.1 rfl (by decide)
              simp only [putAll, Act.put, List.setIfInBounds_toArray, List.set_cons_succ, List.set_cons_zero, Nat.zero_add, Nat.reduceAdd]
              rw [e0, e2]
              go_wp2
              first | exact ⟨rfl, Below.refl _ _⟩ | exact ⟨_, rfl, rfl, Below.refl _ _, fun h => by simp at h⟩ | exact ⟨_, rfl, rfl, Below.refl _ _⟩ | exact ⟨rfl, Below.refl _ _, fun h => by simp at h⟩
            · intro u W hb hd
              have e0 : u 10 = .bool true := hd.1 rfl (by decide)
              simp only [putAll, Act.put, List.setIfInBounds_toArray, List.set_cons_succ, List.set_cons_zero, Nat.zero_add, Nat.reduceAdd]
              rw [e0]
              go_wp2
              first | exact ⟨rfl, Below.refl _ _⟩ | exact ⟨_, rfl, rfl, Below.refl _ _, fun h => by simp at h⟩ | exact ⟨_, rfl, rfl, Below.refl _ _⟩ | exact ⟨rfl, Below.refl _ _, fun h => by simp at h⟩
            · intro u W hb hd
              have e0 : u 11 = .pointer (some ⟨gs, 0, none⟩) := hd.1 rfl (by decide)
              have e2 : u 10 = .bool true := hd.2.2.1 rfl (by decide)
              simp only [putAll, Act.put, List.setIfInBounds_toArray, List.set_cons_succ, List.set_cons_zero, Nat.zero_add, Nat.reduceAdd]
              rw [e0, e2]
              go_wp2_with (go_at_call 18; (with_reducible refine (HSNP.out W hb).mono ?_); rintro e W1 ⟨xv, rfl, hs, g1⟩)
              first | exact ⟨_, rfl, hs, g1, fun h => by simp at h⟩ | exact ⟨hs, g1, fun h => by simp at h⟩ | exact ⟨_, rfl, hs, g1⟩ | exact ⟨hs, g1⟩
            · intro u W hb hd
              have e0 : u 10 = .bool true := hd.1 rfl (by decide)
              have vq := (T4.out.after hb).v1
              have n0 := vq.c0
              have n1 := vq.c1
              clear vq
              simp only [putAll, Act.put, List.setIfInBounds_toArray, List.set_cons_succ, List.set_cons_zero, Nat.zero_add, Nat.reduceAdd]
              rw [e0]
              go_wp2
              first | exact ⟨rfl, Below.refl _ _⟩ | exact ⟨_, rfl, rfl, Below.refl _ _, fun h => by simp at h⟩ | exact ⟨_, rfl, rfl, Below.refl _ _⟩ | exact ⟨rfl, Below.refl _ _, fun h => by simp at h⟩
            · intro u W hb hd
              have hs0 : SnapV W (u 12) M := hd.1 rfl (by decide)
              have e1 : u 13 = .agg #[.int .u64 (me : Int), .slice ma mn mc] := hd.2.1 rfl (by decide)
              have e3 : u 10 = .bool true := hd.2.2.2.1 rfl (by decide)
              simp only [putAll, Act.put, List.setIfInBounds_toArray, List.set_cons_succ, List.set_cons_zero, Nat.zero_add, Nat.reduceAdd]
              rw [e1, e3]
              generalize u 12 = x0 at hs0 ⊢
              go_wp2_with (go_at_call 17; (with_reducible refine (HSM.out W x0 hb hs0).mono ?_); rintro e W1 ⟨rfl, g1⟩)
              first | exact ⟨_, rfl, rfl, g1, fun h => by simp at h⟩ | exact ⟨rfl, g1⟩ | exact ⟨_, rfl, rfl, g1⟩
            · intro u W hb hd
              have e0 : u 14 = .bool true := hd.1 rfl (by decide)
              have e1 : u 10 = .bool true := hd.2.1 rfl (by decide)
              simp only [putAll, Act.put, List.setIfInBounds_toArray, List.set_cons_succ, List.set_cons_zero, Nat.zero_add, Nat.reduceAdd]
              rw [e0, e1]
              go_wp2
              first | exact ⟨rfl, Below.refl _ _⟩ | exact ⟨_, rfl, rfl, Below.refl _ _, fun h => by simp at h⟩ | exact ⟨_, rfl, rfl, Below.refl _ _⟩ | exact ⟨rfl, Below.refl _ _, fun h => by simp at h⟩
            · intro u W hb hd
              have e0 : u 10 = .bool true := hd.1 rfl (by decide)
              have e1 : u 15 = .bool false := hd.2.1 rfl (by decide)
              have e2 : u 7 = .bool false := hd.2.2.1 rfl (by decide)
              simp only [putAll, Act.put, List.setIfInBounds_toArray, List.set_cons_succ, List.set_cons_zero, Nat.zero_add, Nat.reduceAdd]
              rw [e0, e1, e2]
              go_wp2
              first | exact ⟨rfl, Below.refl _ _⟩ | exact ⟨_, rfl, rfl, Below.refl _ _, fun h => by simp at h⟩ | exact ⟨_, rfl, rfl, Below.refl _ _⟩ | exact ⟨rfl, Below.refl _ _, fun h => by simp at h⟩
            · intro u W hb hd
              have e0 : u 7 = .bool false := hd.1 rfl (by decide)
              have e1 : u 16 = .bool false := hd.2.1 rfl (by decide)
              simp only [putAll, Act.put, List.setIfInBounds_toArray, List.set_cons_succ, List.set_cons_zero, Nat.zero_add, Nat.reduceAdd]
              rw [e0, e1]
              go_wp2
              first | exact ⟨rfl, Below.refl _ _⟩ | exact ⟨_, rfl, rfl, Below.refl _ _, fun h => by simp at h⟩ | exact ⟨_, rfl, rfl, Below.refl _ _⟩ | exact ⟨rfl, Below.refl _ _, fun h => by simp at h⟩
            · intro u W hb hd
              have e0 : u 17 = .bool false := hd.1 rfl (by decide)
              simp only [putAll, Act.put, List.setIfInBounds_toArray, List.set_cons_succ, List.set_cons_zero, Nat.zero_add, Nat.reduceAdd]
              rw [e0]
              go_wp2
              first | exact ⟨rfl, Below.refl _ _⟩ | exact ⟨_, rfl, rfl, Below.refl _ _, fun h => by simp at h⟩ | exact ⟨_, rfl, rfl, Below.refl _ _⟩ | exact ⟨rfl, Below.refl _ _, fun h => by simp at h⟩
            · intro u W hb hd
              have e0 : u 18 = .bool false := hd.1 rfl (by decide)
              simp only [putAll, Act.put, List.setIfInBounds_toArray, List.set_cons_succ, List.set_cons_zero, Nat.zero_add, Nat.reduceAdd]
              rw [e0]
              go_wp2
              first | exact ⟨rfl, Below.refl _ _⟩ | exact ⟨_, rfl, rfl, Below.refl _ _, fun h => by simp at h⟩ | exact ⟨_, rfl, rfl, Below.refl _ _⟩ | exact ⟨rfl, Below.refl _ _, fun h => by simp at h⟩
            · intro u W hb hd
              have e0 : u 19 = .int .i64 gc := hd.1 rfl (by decide)
              have e1 : u 18 = .bool false := hd.2.1 rfl (by decide)
              have b1 : (gc == 0) = false := by simp [a1]
              simp only [putAll, Act.put, List.setIfInBounds_toArray, List.set_cons_succ, List.set_cons_zero, Nat.zero_add, Nat.reduceAdd]
              rw [e0, e1]
              go_wp2
              first | exact ⟨rfl, Below.refl _ _⟩ | exact ⟨_, rfl, rfl, Below.refl _ _, fun h => by simp at h⟩ | exact ⟨_, rfl, rfl, Below.refl _ _⟩ | exact ⟨rfl, Below.refl _ _, fun h => by simp at h⟩
            · intro u W hb hd
              have e0 : u 20 = .bool false := hd.1 rfl (by decide)
              have e2 : u 18 = .bool false := hd.2.2.1 rfl (by decide)
              simp only [putAll, Act.put, List.setIfInBounds_toArray, List.set_cons_succ, List.set_cons_zero, Nat.zero_add, Nat.reduceAdd]
              rw [e0, e2]
              go_wp2
              first | exact ⟨rfl, Below.refl _ _⟩ | exact ⟨_, rfl, rfl, Below.refl _ _, fun h => by simp at h⟩ | exact ⟨_, rfl, rfl, Below.refl _ _⟩ | exact ⟨rfl, Below.refl _ _, fun h => by simp at h⟩
            · intro u W hb hd
              have e0 : u 21 = .bool false := hd.1 rfl (by decide)
              simp only [putAll, Act.put, List.setIfInBounds_toArray, List.set_cons_succ, List.set_cons_zero, Nat.zero_add, Nat.reduceAdd]
              rw [e0]
              go_wp2
              first | exact ⟨_, rfl, trivial, Below.refl _ _, fun h => by simp at h⟩ | exact ⟨_, rfl, trivial, Below.refl _ _⟩ | exact ⟨undef, trivial, Below.refl _ _⟩ | exact ⟨trivial, Below.refl _ _⟩ | exact Below.refl _ _
            · intro u W hb hd
              have e2 : u 21 = .bool false := hd.2.2.1 rfl (by decide)
              simp only [putAll, Act.put, List.setIfInBounds_toArray, List.set_cons_succ, List.set_cons_zero, Nat.zero_add, Nat.reduceAdd]
              rw [e2]
              go_wp2
              first | exact ⟨_, rfl, trivial, Below.refl _ _, fun h => by simp at h⟩ | exact ⟨_, rfl, trivial, Below.refl _ _⟩ | exact ⟨undef, trivial, Below.refl _ _⟩ | exact ⟨trivial, Below.refl _ _⟩ | exact Below.refl _ _
            · intro u W hb hd
              have e0 : u 21 = .bool false := hd.1 rfl (by decide)
              simp only [putAll, Act.put, List.setIfInBounds_toArray, List.set_cons_succ, List.set_cons_zero, Nat.zero_add, Nat.reduceAdd]
              rw [e0]
              go_wp2
              first | exact ⟨_, rfl, trivial, Below.refl _ _, fun h => by simp at h⟩ | exact ⟨_, rfl, trivial, Below.refl _ _⟩ | exact ⟨undef, trivial, Below.refl _ _⟩ | exact ⟨trivial, Below.refl _ _⟩ | exact Below.refl _ _
            · intro u W hb hd
              have e3 : u 21 = .bool false := hd.2.2.2.1 rfl (by decide)
              simp only [putAll, Act.put, List.setIfInBounds_toArray, List.set_cons_succ, List.set_cons_zero, Nat.zero_add, Nat.reduceAdd]
              rw [e3]
              go_wp2
              first | exact ⟨_, rfl, trivial, Below.refl _ _, fun h => by simp at h⟩ | exact ⟨_, rfl, trivial, Below.refl _ _⟩ | exact ⟨undef, trivial, Below.refl _ _⟩ | exact ⟨trivial, Below.refl _ _⟩ | exact Below.refl _ _
            · intro u W hb hd
              have e1 : u 21 = .bool false := hd.2.1 rfl (by decide)
              simp only [putAll, Act.put, List.setIfInBounds_toArray, List.set_cons_succ, List.set_cons_zero, Nat.zero_add, Nat.reduceAdd]
              rw [e1]
              go_wp2
              first | exact ⟨_, rfl, trivial, Below.refl _ _, fun h => by simp at h⟩ | exact ⟨_, rfl, trivial, Below.refl _ _⟩ | exact ⟨undef, trivial, Below.refl _ _⟩ | exact ⟨trivial, Below.refl _ _⟩ | exact Below.refl _ _
            · intro u W hb hd
              have e0 : u 21 = .bool false := hd.1 rfl (by decide)
              have e2 : u 18 = .bool false := hd.2.2.1 rfl (by decide)
              simp only [putAll, Act.put, List.setIfInBounds_toArray, List.set_cons_succ, List.set_cons_zero, Nat.zero_add, Nat.reduceAdd]
              rw [e0, e2]
              go_wp2
              first | exact ⟨rfl, Below.refl _ _⟩ | exact ⟨_, rfl, rfl, Below.refl _ _, fun h => by simp at h⟩ | exact ⟨_, rfl, rfl, Below.refl _ _⟩ | exact ⟨rfl, Below.refl _ _, fun h => by simp at h⟩
            · intro u W hb hd
              have e0 : u 18 = .bool false := hd.1 rfl (by decide)
              have e1 : u 27 = .bool false := hd.2.1 rfl (by decide)
              simp only [putAll, Act.put, List.setIfInBounds_toArray, List.set_cons_succ, List.set_cons_zero, Nat.zero_add, Nat.reduceAdd]
              rw [e0, e1]
              go_wp2
              first | exact ⟨rfl, Below.refl _ _⟩ | exact ⟨_, rfl, rfl, Below.refl _ _, fun h => by simp at h⟩ | exact ⟨_, rfl, rfl, Below.refl _ _⟩ | exact ⟨rfl, Below.refl _ _, fun h => by simp at h⟩
          · intro u W hb hT _
            have e0 : u 0 = .int .i64 gc := hT 0 (by decide)
            have e1 : u 1 = .int .i64 gc := hT 1 (by decide)
            have e2 : u 2 = .bool false := hT 2 (by decide)
            have e3 : u 3 = .bool false := hT 3 (by decide)
            have e6 : u 6 = .bool false := hT 6 (by decide)
            have e7 : u 7 = .bool false := hT 7 (by decide)
            have e8 : u 8 = .int .i64 gc := hT 8 (by decide)
            have e9 : u 9 = .bool true := hT 9 (by decide)
            have e10 : u 10 = .bool true := hT 10 (by decide)
            have e11 : u 11 = .pointer (some ⟨gs, 0, none⟩) := hT 11 (by decide)
            have e13 : u 13 = .agg #[.int .u64 (me : Int), .slice ma mn mc] := hT 13 (by decide)
            have e14 : u 14 = .bool true := hT 14 (by decide)
            have e15 : u 15 = .bool false := hT 15 (by decide)
            have e16 : u 16 = .bool false := hT 16 (by decide)
            have e17 : u 17 = .bool false := hT 17 (by decide)
            have e18 : u 18 = .bool false := hT 18 (by decide)
            have e19 : u 19 = .int .i64 gc := hT 19 (by decide)
            have e20 : u 20 = .bool false := hT 20 (by decide)
            have e21 : u 21 = .bool false := hT 21 (by decide)
            have e27 : u 27 = .bool false := hT 27 (by decide)
            have e28 : u 28 = .bool false := hT 28 (by decide)
            have HW3 := Lib.hid (K4.out.after hb)
            have HT3 := Lib.hid (T4.out.after hb)
            clear hb hT
            simp only [List.take_succ_cons, List.take_zero, List.drop_succ_cons, List.drop_nil, putAll, Act.put, List.setIfInBounds_toArray, List.set_cons_succ, List.set_cons_zero, Nat.zero_add, Nat.reduceAdd]
            rw [e0, e1, e2, e3, e6, e7, e8, e9, e10, e11, e13, e14, e15, e16, e17, e18, e19, e20, e21, e27, e28]
            clear e0 e1 e2 e3 e6 e7 e8 e9 e10 e11 e13 e14 e15 e16 e17 e18 e19 e20 e21 e27 e28
            go_wp2
            go_meet
            exact ⟨rfl, HW3.out, HT3.out⟩
        · have HSNP := Lib.hid (fun W (hW : Below W4.heap.size W4 W) => (show Calls Tryd.prog 18 #[.pointer (some ⟨gs, 0, none⟩)] W fun e w' => ∃ xv, e = .returned xv ∧ SnapV w' xv M ∧ Below W.heap.size W w' from by rw [← a3]; exact ks_snap (K4.out.after hW)))
          have HSM := Lib.hid (fun W xv (hW : Below W4.heap.size W4 W) (hs : SnapV W xv M) => same_two hs (T4.out.after hW).s1.snapV HNB.out HNB.out true (decide_eq_true rfl))
          clear a3
          subst a1 a2
          refine wp_region_mix 29 (TLg [.int .i64 12, .int .i64 0, .bool true, .bool true, .int .i64 12, .bool false, .bool false, .bool false, .int .i64 12, .bool true, .bool true, .pointer (some ⟨gs, 0, none⟩), undef, .agg #[.int .u64 (me : Int), .slice ma mn mc], .bool true, .bool false, .bool false, .bool false, .bool false, .int .i64 12, .bool false, .bool false, undef, undef, undef, undef, undef, .bool false, .bool false] M) (fun _ => false) (by kernel_rfl) (by kernel_rfl) TLg.keep (fun _ _ _ h => by cases h) ?_ ?_
          · simp only [List.take_succ_cons, List.take_zero]
            refine (StepsAll.cons ?_ (StepsAll.cons ?_ (StepsAll.cons ?_ (StepsAll.cons ?_ (StepsAll.cons ?_ (StepsAll.cons ?_ (StepsAll.cons ?_ (StepsAll.cons ?_ (StepsAll.cons ?_ (StepsAll.cons ?_ (StepsAll.cons ?_ (StepsAll.cons ?_ (StepsAll.cons ?_ (StepsAll.cons ?_ (StepsAll.cons ?_ (StepsAll.cons ?_ (StepsAll.cons ?_ (StepsAll.cons ?_ (StepsAll.cons ?_ (StepsAll.cons ?_ (StepsAll.cons ?_ (StepsAll.cons ?_ (StepsAll.cons ?_ (StepsAll.cons ?_ (StepsAll.cons ?_ (StepsAll.cons ?_ (StepsAll.cons ?_ (StepsAll.cons ?_ (StepsAll.cons ?_ StepsAll.nil)))))))))))))))))))))))))))))
            · intro u W hb hd
              simp only [putAll, Act.put, List.setIfInBounds_toArray, List.set_cons_succ, List.set_cons_zero, Nat.zero_add, Nat.reduceAdd]
              go_wp2
              first | exact ⟨rfl, Below.refl _ _⟩ | exact ⟨_, rfl, rfl, Below.refl _ _, fun h => by simp at h⟩ | exact ⟨_, rfl, rfl, Below.refl _ _⟩ | exact ⟨rfl, Below.refl _ _, fun h => by simp at h⟩
            · intro u W hb hd
              simp only [putAll, Act.put, List.setIfInBounds_toArray, List.set_cons_succ, List.set_cons_zero, Nat.zero_add, Nat.reduceAdd]
              go_wp2
              first | exact ⟨rfl, Below.refl _ _⟩ | exact ⟨_, rfl, rfl, Below.refl _ _, fun h => by simp at h⟩ | exact ⟨_, rfl, rfl, Below.refl _ _⟩ | exact ⟨rfl, Below.refl _ _, fun h => by simp at h⟩
            · intro u W hb hd
              have e0 : u 0 = .int .i64 12 := hd.1 rfl (by decide)
              have e1 : u 1 = .int .i64 0 := hd.2.1 rfl (by decide)
              simp only [putAll, Act.put, List.setIfInBounds_toArray, List.set_cons_succ, List.set_cons_zero, Nat.zero_add, Nat.reduceAdd]
              rw [e0, e1]
              go_wp2
              first | exact ⟨rfl, Below.refl _ _⟩ | exact ⟨_, rfl, rfl, Below.refl _ _, fun h => by simp at h⟩ | exact ⟨_, rfl, rfl, Below.refl _ _⟩ | exact ⟨rfl, Below.refl _ _, fun h => by simp at h⟩
            · intro u W hb hd
              have e0 : u 2 = .bool true := hd.1 rfl (by decide)
              simp only [putAll, Act.put, List.setIfInBounds_toArray, List.set_cons_succ, List.set_cons_zero, Nat.zero_add, Nat.reduceAdd]
              rw [e0]
              go_wp2
              first | exact ⟨rfl, Below.refl _ _⟩ | exact ⟨_, rfl, rfl, Below.refl _ _, fun h => by simp at h⟩ | exact ⟨_, rfl, rfl, Below.refl _ _⟩ | exact ⟨rfl, Below.refl _ _, fun h => by simp at h⟩
            · intro u W hb hd
              have e0 : u 3 = .bool true := hd.1 rfl (by decide)
              simp only [putAll, Act.put, List.setIfInBounds_toArray, List.set_cons_succ, List.set_cons_zero, Nat.zero_add, Nat.reduceAdd]
              rw [e0]
              go_wp2
              first | exact ⟨rfl, Below.refl _ _⟩ | exact ⟨_, rfl, rfl, Below.refl _ _, fun h => by simp at h⟩ | exact ⟨_, rfl, rfl, Below.refl _ _⟩ | exact ⟨rfl, Below.refl _ _, fun h => by simp at h⟩
            · intro u W hb hd
              have e0 : u 4 = .int .i64 12 := hd.1 rfl (by decide)
              have e1 : u 3 = .bool true := hd.2.1 rfl (by decide)
              simp only [putAll, Act.put, List.setIfInBounds_toArray, List.set_cons_succ, List.set_cons_zero, Nat.zero_add, Nat.reduceAdd]
              rw [e0, e1]
              go_wp2
              first | exact ⟨rfl, Below.refl _ _⟩ | exact ⟨_, rfl, rfl, Below.refl _ _, fun h => by simp at h⟩ | exact ⟨_, rfl, rfl, Below.refl _ _⟩ | exact ⟨rfl, Below.refl _ _, fun h => by simp at h⟩
            · intro u W hb hd
              have e0 : u 3 = .bool true := hd.1 rfl (by decide)
              have e1 : u 5 = .bool false := hd.2.1 rfl (by decide)
              simp only [putAll, Act.put, List.setIfInBounds_toArray, List.set_cons_succ, List.set_cons_zero, Nat.zero_add, Nat.reduceAdd]
              rw [e0, e1]
              go_wp2
              first | exact ⟨rfl, Below.refl _ _⟩ | exact ⟨_, rfl, rfl, Below.refl _ _, fun h => by simp at h⟩ | exact ⟨_, rfl, rfl, Below.refl _ _⟩ | exact ⟨rfl, Below.refl _ _, fun h => by simp at h⟩
            · intro u W hb hd
              have e0 : u 6 = .bool false := hd.1 rfl (by decide)
              simp only [putAll, Act.put, List.setIfInBounds_toArray, List.set_cons_succ, List.set_cons_zero, Nat.zero_add, Nat.reduceAdd]
              rw [e0]
              go_wp2
              first | exact ⟨rfl, Below.refl _ _⟩ | exact ⟨_, rfl, rfl, Below.refl _ _, fun h => by simp at h⟩ | exact ⟨_, rfl, rfl, Below.refl _ _⟩ | exact ⟨rfl, Below.refl _ _, fun h => by simp at h⟩
            · intro u W hb hd
              have e0 : u 7 = .bool false := hd.1 rfl (by decide)
              simp only [putAll, Act.put, List.setIfInBounds_toArray, List.set_cons_succ, List.set_cons_zero, Nat.zero_add, Nat.reduceAdd]
              rw [e0]
              go_wp2
              first | exact ⟨rfl, Below.refl _ _⟩ | exact ⟨_, rfl, rfl, Below.refl _ _, fun h => by simp at h⟩ | exact ⟨_, rfl, rfl, Below.refl _ _⟩ | exact ⟨rfl, Below.refl _ _, fun h => by simp at h⟩
            · intro u W hb hd
              have e0 : u 8 = .int .i64 12 := hd.1 rfl (by decide)
              have e1 : u 7 = .bool false := hd.2.1 rfl (by decide)
              simp only [putAll, Act.put, List.setIfInBounds_toArray, List.set_cons_succ, List.set_cons_zero, Nat.zero_add, Nat.reduceAdd]
              rw [e0, e1]
              go_wp2
              first | exact ⟨rfl, Below.refl _ _⟩ | exact ⟨_, rfl, rfl, Below.refl _ _, fun h => by simp at h⟩ | exact ⟨_, rfl, rfl, Below.refl _ _⟩ | exact ⟨rfl, Below.refl _ _, fun h => by simp at h⟩
            · intro u W hb hd
              have e0 : u 9 = .bool true := hd.1 rfl (by decide)
              have e2 : u 7 = .bool false := hd.2.2.1 rfl (by decide)
              simp only [putAll, Act.put, List.setIfInBounds_toArray, List.set_cons_succ, List.set_cons_zero, Nat.zero_add, Nat.reduceAdd]
              rw [e0, e2]
              go_wp2
              first | exact ⟨rfl, Below.refl _ _⟩ | exact ⟨_, rfl, rfl, Below.refl _ _, fun h => by simp at h⟩ | exact ⟨_, rfl, rfl, Below.refl _ _⟩ | exact ⟨rfl, Below.refl _ _, fun h => by simp at h⟩
            · intro u W hb hd
              have e0 : u 10 = .bool true := hd.1 rfl (by decide)
              simp only [putAll, Act.put, List.setIfInBounds_toArray, List.set_cons_succ, List.set_cons_zero, Nat.zero_add, Nat.reduceAdd]
              rw [e0]
              go_wp2
              first | exact ⟨rfl, Below.refl _ _⟩ | exact ⟨_, rfl, rfl, Below.refl _ _, fun h => by simp at h⟩ | exact ⟨_, rfl, rfl, Below.refl _ _⟩ | exact ⟨rfl, Below.refl _ _, fun h => by simp at h⟩
            · intro u W hb hd
              have e0 : u 11 = .pointer (some ⟨gs, 0, none⟩) := hd.1 rfl (by decide)
              have e2 : u 10 = .bool true := hd.2.2.1 rfl (by decide)
              simp only [putAll, Act.put, List.setIfInBounds_toArray, List.set_cons_succ, List.set_cons_zero, Nat.zero_add, Nat.reduceAdd]
              rw [e0, e2]
              go_wp2_with (go_at_call 18; (with_reducible refine (HSNP.out W hb).mono ?_); rintro e W1 ⟨xv, rfl, hs, g1⟩)
              first | exact ⟨_, rfl, hs, g1, fun h => by simp at h⟩ | exact ⟨hs, g1, fun h => by simp at h⟩ | exact ⟨_, rfl, hs, g1⟩ | exact ⟨hs, g1⟩
            · intro u W hb hd
              have e0 : u 10 = .bool true := hd.1 rfl (by decide)
              have vq := (T4.out.after hb).v1
              have n0 := vq.c0
              have n1 := vq.c1
              clear vq
              simp only [putAll, Act.put, List.setIfInBounds_toArray, List.set_cons_succ, List.set_cons_zero, Nat.zero_add, Nat.reduceAdd]
              rw [e0]
              go_wp2
              first | exact ⟨rfl, Below.refl _ _⟩ | exact ⟨_, rfl, rfl, Below.refl _ _, fun h => by simp at h⟩ | exact ⟨_, rfl, rfl, Below.refl _ _⟩ | exact ⟨rfl, Below.refl _ _, fun h => by simp at h⟩
            · intro u W hb hd
              have hs0 : SnapV W (u 12) M := hd.1 rfl (by decide)
              have e1 : u 13 = .agg #[.int .u64 (me : Int), .slice ma mn mc] := hd.2.1 rfl (by decide)
              have e3 : u 10 = .bool true := hd.2.2.2.1 rfl (by decide)
              simp only [putAll, Act.put, List.setIfInBounds_toArray, List.set_cons_succ, List.set_cons_zero, Nat.zero_add, Nat.reduceAdd]
              rw [e1, e3]
              generalize u 12 = x0 at hs0 ⊢
              go_wp2_with (go_at_call 17; (with_reducible refine (HSM.out W x0 hb hs0).mono ?_); rintro e W1 ⟨rfl, g1⟩)
              first | exact ⟨_, rfl, rfl, g1, fun h => by simp at h⟩ | exact ⟨rfl, g1⟩ | exact ⟨_, rfl, rfl, g1⟩
            · intro u W hb hd
              have e0 : u 14 = .bool true := hd.1 rfl (by decide)
              have e1 : u 10 = .bool true := hd.2.1 rfl (by decide)
              simp only [putAll, Act.put, List.setIfInBounds_toArray, List.set_cons_succ, List.set_cons_zero, Nat.zero_add, Nat.reduceAdd]
              rw [e0, e1]
              go_wp2
              first | exact ⟨rfl, Below.refl _ _⟩ | exact ⟨_, rfl, rfl, Below.refl _ _, fun h => by simp at h⟩ | exact ⟨_, rfl, rfl, Below.refl _ _⟩ | exact ⟨rfl, Below.refl _ _, fun h => by simp at h⟩
            · intro u W hb hd
              have e0 : u 10 = .bool true := hd.1 rfl (by decide)
              have e1 : u 15 = .bool false := hd.2.1 rfl (by decide)
              have e2 : u 7 = .bool false := hd.2.2.1 rfl (by decide)
              simp only [putAll, Act.put, List.setIfInBounds_toArray, List.set_cons_succ, List.set_cons_zero, Nat.zero_add, Nat.reduceAdd]
              rw [e0, e1, e2]
              go_wp2
              first | exact ⟨rfl, Below.refl _ _⟩ | exact ⟨_, rfl, rfl, Below.refl _ _, fun h => by simp at h⟩ | exact ⟨_, rfl, rfl, Below.refl _ _⟩ | exact ⟨rfl, Below.refl _ _, fun h => by simp at h⟩
            · intro u W hb hd
              have e0 : u 7 = .bool false := hd.1 rfl (by decide)
              have e1 : u 16 = .bool false := hd.2.1 rfl (by decide)
              simp only [putAll, Act.put, List.setIfInBounds_toArray, List.set_cons_succ, List.set_cons_zero, Nat.zero_add, Nat.reduceAdd]
              rw [e0, e1]
              go_wp2
              first | exact ⟨rfl, Below.refl _ _⟩ | exact ⟨_, rfl, rfl, Below.refl _ _, fun h => by simp at h⟩ | exact ⟨_, rfl, rfl, Below.refl _ _⟩ | exact ⟨rfl, Below.refl _ _, fun h => by simp at h⟩
            · intro u W hb hd
              have e0 : u 17 = .bool false := hd.1 rfl (by decide)
              simp only [putAll, Act.put, List.setIfInBounds_toArray, List.set_cons_succ, List.set_cons_zero, Nat.zero_add, Nat.reduceAdd]
              rw [e0]
              go_wp2
              first | exact ⟨rfl, Below.refl _ _⟩ | exact ⟨_, rfl, rfl, Below.refl _ _, fun h => by simp at h⟩ | exact ⟨_, rfl, rfl, Below.refl _ _⟩ | exact ⟨rfl, Below.refl _ _, fun h => by simp at h⟩
            · intro u W hb hd
              have e0 : u 18 = .bool false := hd.1 rfl (by decide)
              simp only [putAll, Act.put, List.setIfInBounds_toArray, List.set_cons_succ, List.set_cons_zero, Nat.zero_add, Nat.reduceAdd]
              rw [e0]
              go_wp2
              first | exact ⟨rfl, Below.refl _ _⟩ | exact ⟨_, rfl, rfl, Below.refl _ _, fun h => by simp at h⟩ | exact ⟨_, rfl, rfl, Below.refl _ _⟩ | exact ⟨rfl, Below.refl _ _, fun h => by simp at h⟩
            · intro u W hb hd
              have e0 : u 19 = .int .i64 12 := hd.1 rfl (by decide)
              have e1 : u 18 = .bool false := hd.2.1 rfl (by decide)
              simp only [putAll, Act.put, List.setIfInBounds_toArray, List.set_cons_succ, List.set_cons_zero, Nat.zero_add, Nat.reduceAdd]
              rw [e0, e1]
              go_wp2
              first | exact ⟨rfl, Below.refl _ _⟩ | exact ⟨_, rfl, rfl, Below.refl _ _, fun h => by simp at h⟩ | exact ⟨_, rfl, rfl, Below.refl _ _⟩ | exact ⟨rfl, Below.refl _ _, fun h => by simp at h⟩
            · intro u W hb hd
              have e0 : u 20 = .bool false := hd.1 rfl (by decide)
              have e2 : u 18 = .bool false := hd.2.2.1 rfl (by decide)
              simp only [putAll, Act.put, List.setIfInBounds_toArray, List.set_cons_succ, List.set_cons_zero, Nat.zero_add, Nat.reduceAdd]
              rw [e0, e2]
              go_wp2
              first | exact ⟨rfl, Below.refl _ _⟩ | exact ⟨_, rfl, rfl, Below.refl _ _, fun h => by simp at h⟩ | exact ⟨_, rfl, rfl, Below.refl _ _⟩ | exact ⟨rfl, Below.refl _ _, fun h => by simp at h⟩
            · intro u W hb hd
              have e0 : u 21 = .bool false := hd.1 rfl (by decide)
              simp only [putAll, Act.put, List.setIfInBounds_toArray, List.set_cons_succ, List.set_cons_zero, Nat.zero_add, Nat.reduceAdd]
              rw [e0]
              go_wp2
              first | exact ⟨_, rfl, trivial, Below.refl _ _, fun h => by simp at h⟩ | exact ⟨_, rfl, trivial, Below.refl _ _⟩ | exact ⟨undef, trivial, Below.refl _ _⟩ | exact ⟨trivial, Below.refl _ _⟩ | exact Below.refl _ _
            · intro u W hb hd
              have e2 : u 21 = .bool false := hd.2.2.1 rfl (by decide)
              simp only [putAll, Act.put, List.setIfInBounds_toArray, List.set_cons_succ, List.set_cons_zero, Nat.zero_add, Nat.reduceAdd]
              rw [e2]
              go_wp2
              first | exact ⟨_, rfl, trivial, Below.refl _ _, fun h => by simp at h⟩ | exact ⟨_, rfl, trivial, Below.refl _ _⟩ | exact ⟨undef, trivial, Below.refl _ _⟩ | exact ⟨trivial, Below.refl _ _⟩ | exact Below.refl _ _
            · intro u W hb hd
              have e0 : u 21 = .bool false := hd.1 rfl (by decide)
              simp only [putAll, Act.put, List.setIfInBounds_toArray, List.set_cons_succ, List.set_cons_zero, Nat.zero_add, Nat.reduceAdd]
              rw [e0]
              go_wp2
              first | exact ⟨_, rfl, trivial, Below.refl _ _, fun h => by simp at h⟩ | exact ⟨_, rfl, trivial, Below.refl _ _⟩ | exact ⟨undef, trivial, Below.refl _ _⟩ | exact ⟨trivial, Below.refl _ _⟩ | exact Below.refl _ _
            · intro u W hb hd
              have e3 : u 21 = .bool false := hd.2.2.2.1 rfl (by decide)
              simp only [putAll, Act.put, List.setIfInBounds_toArray, List.set_cons_succ, List.set_cons_zero, Nat.zero_add, Nat.reduceAdd]
              rw [e3]
              go_wp2
              first | exact ⟨_, rfl, trivial, Below.refl _ _, fun h => by simp at h⟩ | exact ⟨_, rfl, trivial, Below.refl _ _⟩ | exact ⟨undef, trivial, Below.refl _ _⟩ | exact ⟨trivial, Below.refl _ _⟩ | exact Below.refl _ _
            · intro u W hb hd
              have e1 : u 21 = .bool false := hd.2.1 rfl (by decide)
              simp only [putAll, Act.put, List.setIfInBounds_toArray, List.set_cons_succ, List.set_cons_zero, Nat.zero_add, Nat.reduceAdd]
              rw [e1]
              go_wp2
              first | exact ⟨_, rfl, trivial, Below.refl _ _, fun h => by simp at h⟩ | exact ⟨_, rfl, trivial, Below.refl _ _⟩ | exact ⟨undef, trivial, Below.refl _ _⟩ | exact ⟨trivial, Below.refl _ _⟩ | exact Below.refl _ _
            · intro u W hb hd
              have e0 : u 21 = .bool false := hd.1 rfl (by decide)
              have e2 : u 18 = .bool false := hd.2.2.1 rfl (by decide)
              simp only [putAll, Act.put, List.setIfInBounds_toArray, List.set_cons_succ, List.set_cons_zero, Nat.zero_add, Nat.reduceAdd]
              rw [e0, e2]
              go_wp2
              first | exact ⟨rfl, Below.refl _ _⟩ | exact ⟨_, rfl, rfl, Below.refl _ _, fun h => by simp at h⟩ | exact ⟨_, rfl, rfl, Below.refl _ _⟩ | exact ⟨rfl, Below.refl _ _, fun h => by simp at h⟩
            · intro u W hb hd
              have e0 : u 18 = .bool false := hd.1 rfl (by decide)
              have e1 : u 27 = .bool false := hd.2.1 rfl (by decide)
              simp only [putAll, Act.put, List.setIfInBounds_toArray, List.set_cons_succ, List.set_cons_zero, Nat.zero_add, Nat.reduceAdd]
              rw [e0, e1]
              go_wp2
              first | exact ⟨rfl, Below.refl _ _⟩ | exact ⟨_, rfl, rfl, Below.refl _ _, fun h => by simp at h⟩ | exact ⟨_, rfl, rfl, Below.refl _ _⟩ | exact ⟨rfl, Below.refl _ _, fun h => by simp at h⟩
          · intro u W hb hT _
            have e0 : u 0 = .int .i64 12 := hT 0 (by decide)
            have e1 : u 1 = .int .i64 0 := hT 1 (by decide)
            have e2 : u 2 = .bool true := hT 2 (by decide)
            have e3 : u 3 = .bool true := hT 3 (by decide)
            have e4 : u 4 = .int .i64 12 := hT 4 (by decide)
            have e5 : u 5 = .bool false := hT 5 (by decide)
            have e6 : u 6 = .bool false := hT 6 (by decide)
            have e7 : u 7 = .bool false := hT 7 (by decide)
            have e8 : u 8 = .int .i64 12 := hT 8 (by decide)
            have e9 : u 9 = .bool true := hT 9 (by decide)
            have e10 : u 10 = .bool true := hT 10 (by decide)
            have e11 : u 11 = .pointer (some ⟨gs, 0, none⟩) := hT 11 (by decide)
            have e13 : u 13 = .agg #[.int .u64 (me : Int), .slice ma mn mc] := hT 13 (by decide)
            have e14 : u 14 = .bool true := hT 14 (by decide)
            have e15 : u 15 = .bool false := hT 15 (by decide)
            have e16 : u 16 = .bool false := hT 16 (by decide)
            have e17 : u 17 = .bool false := hT 17 (by decide)
            have e18 : u 18 = .bool false := hT 18 (by decide)
            have e19 : u 19 = .int .i64 12 := hT 19 (by decide)
            have e20 : u 20 = .bool false := hT 20 (by decide)
            have e21 : u 21 = .bool false := hT 21 (by decide)
            have e27 : u 27 = .bool false := hT 27 (by decide)
            have e28 : u 28 = .bool false := hT 28 (by decide)
            have HW3 := Lib.hid (K4.out.after hb)
            have HT3 := Lib.hid (T4.out.after hb)
            clear hb hT
            simp only [List.take_succ_cons, List.take_zero, List.drop_succ_cons, List.drop_nil, putAll, Act.put, List.setIfInBounds_toArray, List.set_cons_succ, List.set_cons_zero, Nat.zero_add, Nat.reduceAdd]
            rw [e0, e1, e2, e3, e4, e5, e6, e7, e8, e9, e10, e11, e13, e14, e15, e16, e17, e18, e19, e20, e21, e27, e28]
            clear e0 e1 e2 e3 e4 e5 e6 e7 e8 e9 e10 e11 e13 e14 e15 e16 e17 e18 e19 e20 e21 e27 e28
            go_wp2
            go_meet
            exact ⟨rfl, HW3.out, HT3.out⟩
      case rest =>
        obtain ⟨rfl, hks, htw⟩ := hcut
        obtain ⟨T, hT⟩ : ∃ x, slotsL (1 * size) (3 * size) (D5.left keep torn) = x := ⟨_, rfl⟩
        have hTC : (gc = 0 ∧ T = X) ∨ (¬ gc = 0 ∧ (T = M ∨ T = X)) := by
          rcases HO5.out with ⟨a1, _, _, q⟩ | ⟨a1, _, _, q⟩ | ⟨a1, _, _, q⟩
          · exact Or.inl ⟨a1, hT.symm.trans (q keep torn)⟩
          · exact Or.inr ⟨a1, Or.inl (hT.symm.trans (q keep torn))⟩
          · exact Or.inr ⟨by omega, by rw [← hT]; exact q keep torn⟩
        have hTD : T = M ∨ T = X := by
          rcases hTC with ⟨_, q⟩ | ⟨_, q⟩
          · exact Or.inr q
          · exact q
        have HTB : Hid (T.1 ≤ 18446744073709551615 ∧ ∀ z ∈ T.2, 0 ≤ z ∧ z ≤ 255) := by
          rcases hTD with q | q
          · rw [q]; exact ⟨HM1.out, HNB.out⟩
          · rw [q]; exact ⟨HX1.out.1, HX1.out.2⟩
        have HT := Lib.hid hT
        have HTC := Lib.hid hTC
        have HTD := Lib.hid hTD
        have T5 := Lib.hid htw
        have HCR := Lib.hid (kd_crash hks.past (by have := HDE5.out; omega) keep torn HKT.out.1.1 HKT.out.1.2 HKT.out.2.1 HKT.out.2.2)
        have xk1 := (HXC.out wc hks.bel).2.1
        have xk2 := (HXC.out wc hks.bel).2.2
        clear hks htw hT hTC hTD K4 T4
        go_upto_region 21 with (first
          | (go_at_call 21; (with_reducible refine (HCR.out).mono ?_); rintro e w7 ⟨rfl, kd7, kk7⟩; have T7 := Lib.hid (T5.out.keep kk7); have HOP := Lib.hid (kd_open (T := T) kd7 (HEN.out w7 kd7.bel) (by decide) rfl rfl rfl (by show D5.deeds ≤ _; have := HDE5.out; omega) HT.out HTB.out.1); clear kd7 kk7 HCR xk1 xk2)
          | (go_at_call 11; (with_reducible refine (HOP.out).mono ?_); rintro e w8 ⟨gt, rfl, ks8, g8⟩; have K8 := Lib.hid ks8; have T8 := Lib.hid (T7.out.after g8); clear ks8 g8 HOP))
        go_cut [157] from 145 to 156 (fun v157 wr => v157 = .bool false ∧ KS wx wr wx.heap.size r 8 size (D5.crash keep torn) gt T false K2 ∧ Two wr mv nv M X (.int .u64 (me : Int)) (.slice ma mn mc) (.int .u64 (xe : Int)) (.slice xa xn xc) K2)
        case first =>
          by_cases hg : gc = 0
          case pos =>
            have hTX : T = X := by
              rcases HTC.out with ⟨_, q⟩ | ⟨q, _⟩
              · exact q
              · exact (q hg).elim
            have HSM := Lib.hid (fun W xv (hW : Below w8.heap.size w8 W) (hs : SnapV W xv T) => same_two hs (T8.out.after hW).s2.snapV HTB.out.2 HX1.out.2 true (decide_eq_true hTX))
            clear hTX
            subst hg
            refine wp_region_mix 13 (TLh [.int .i64 0, .bool false, .bool false, .int .i64 0, .bool true, .bool true, .pointer (some ⟨gt, 0, none⟩), undef, .agg #[.int .u64 (xe : Int), .slice xa xn xc], .bool true, .bool false, .bool false, .bool false] T) (fun _ => false) (by kernel_rfl) (by kernel_rfl) TLh.keep (fun _ _ _ h => by cases h) ?_ ?_
            · simp only [List.take_succ_cons, List.take_zero]
              refine (StepsAll.cons ?_ (StepsAll.cons ?_ (StepsAll.cons ?_ (StepsAll.cons ?_ (StepsAll.cons ?_ (StepsAll.cons ?_ (StepsAll.cons ?_ (StepsAll.cons ?_ (StepsAll.cons ?_ (StepsAll.cons ?_ (StepsAll.cons ?_ (StepsAll.cons ?_ (StepsAll.cons ?_ StepsAll.nil)))))))))))))
              · intro u W hb hd
                simp only [putAll, Act.put, List.setIfInBounds_toArray, List.set_cons_succ, List.set_cons_zero, Nat.zero_add, Nat.reduceAdd]
                go_wp2
                first | exact ⟨rfl, Below.refl _ _⟩ | exact ⟨_, rfl, rfl, Below.refl _ _, fun h => by simp at h⟩ | exact ⟨_, rfl, rfl, Below.refl _ _⟩ | exact ⟨rfl, Below.refl _ _, fun h => by simp at h⟩
              · intro u W hb hd
                have e0 : u 0 = .int .i64 0 := hd.1 rfl (by decide)
                simp only [putAll, Act.put, List.setIfInBounds_toArray, List.set_cons_succ, List.set_cons_zero, Nat.zero_add, Nat.reduceAdd]
                rw [e0]
                go_wp2
                first | exact ⟨rfl, Below.refl _ _⟩ | exact ⟨_, rfl, rfl, Below.refl _ _, fun h => by simp at h⟩ | exact ⟨_, rfl, rfl, Below.refl _ _⟩ | exact ⟨rfl, Below.refl _ _, fun h => by simp at h⟩
              · intro u W hb hd
                have e0 : u 1 = .bool false := hd.1 rfl (by decide)
                simp only [putAll, Act.put, List.setIfInBounds_toArray, List.set_cons_succ, List.set_cons_zero, Nat.zero_add, Nat.reduceAdd]
                rw [e0]
                go_wp2
                first | exact ⟨rfl, Below.refl _ _⟩ | exact ⟨_, rfl, rfl, Below.refl _ _, fun h => by simp at h⟩ | exact ⟨_, rfl, rfl, Below.refl _ _⟩ | exact ⟨rfl, Below.refl _ _, fun h => by simp at h⟩
              · intro u W hb hd
                have e0 : u 2 = .bool false := hd.1 rfl (by decide)
                simp only [putAll, Act.put, List.setIfInBounds_toArray, List.set_cons_succ, List.set_cons_zero, Nat.zero_add, Nat.reduceAdd]
                rw [e0]
                go_wp2
                first | exact ⟨rfl, Below.refl _ _⟩ | exact ⟨_, rfl, rfl, Below.refl _ _, fun h => by simp at h⟩ | exact ⟨_, rfl, rfl, Below.refl _ _⟩ | exact ⟨rfl, Below.refl _ _, fun h => by simp at h⟩
              · intro u W hb hd
                have e0 : u 3 = .int .i64 0 := hd.1 rfl (by decide)
                have e1 : u 2 = .bool false := hd.2.1 rfl (by decide)
                simp only [putAll, Act.put, List.setIfInBounds_toArray, List.set_cons_succ, List.set_cons_zero, Nat.zero_add, Nat.reduceAdd]
                rw [e0, e1]
                go_wp2
                first | exact ⟨rfl, Below.refl _ _⟩ | exact ⟨_, rfl, rfl, Below.refl _ _, fun h => by simp at h⟩ | exact ⟨_, rfl, rfl, Below.refl _ _⟩ | exact ⟨rfl, Below.refl _ _, fun h => by simp at h⟩
              · intro u W hb hd
                have e0 : u 4 = .bool true := hd.1 rfl (by decide)
                have e2 : u 2 = .bool false := hd.2.2.1 rfl (by decide)
                simp only [putAll, Act.put, List.setIfInBounds_toArray, List.set_cons_succ, List.set_cons_zero, Nat.zero_add, Nat.reduceAdd]
                rw [e0, e2]
                go_wp2
                first | exact ⟨rfl, Below.refl _ _⟩ | exact ⟨_, rfl, rfl, Below.refl _ _, fun h => by simp at h⟩ | exact ⟨_, rfl, rfl, Below.refl _ _⟩ | exact ⟨rfl, Below.refl _ _, fun h => by simp at h⟩
              · intro u W hb hd
                have e0 : u 5 = .bool true := hd.1 rfl (by decide)
                simp only [putAll, Act.put, List.setIfInBounds_toArray, List.set_cons_succ, List.set_cons_zero, Nat.zero_add, Nat.reduceAdd]
                rw [e0]
                go_wp2
                first | exact ⟨rfl, Below.refl _ _⟩ | exact ⟨_, rfl, rfl, Below.refl _ _, fun h => by simp at h⟩ | exact ⟨_, rfl, rfl, Below.refl _ _⟩ | exact ⟨rfl, Below.refl _ _, fun h => by simp at h⟩
              · intro u W hb hd
                have e0 : u 6 = .pointer (some ⟨gt, 0, none⟩) := hd.1 rfl (by decide)
                have e2 : u 5 = .bool true := hd.2.2.1 rfl (by decide)
                simp only [putAll, Act.put, List.setIfInBounds_toArray, List.set_cons_succ, List.set_cons_zero, Nat.zero_add, Nat.reduceAdd]
                rw [e0, e2]
                go_wp2_with (go_at_call 18; (with_reducible refine (ks_snap (K8.out.after hb)).mono ?_); rintro e W1 ⟨xv, rfl, hs, g1⟩)
                first | exact ⟨_, rfl, hs, g1, fun h => by simp at h⟩ | exact ⟨hs, g1, fun h => by simp at h⟩ | exact ⟨_, rfl, hs, g1⟩ | exact ⟨hs, g1⟩
              · intro u W hb hd
                have e0 : u 5 = .bool true := hd.1 rfl (by decide)
                have vq := (T8.out.after hb).v2
                have n0 := vq.c0
                have n1 := vq.c1
                clear vq
                simp only [putAll, Act.put, List.setIfInBounds_toArray, List.set_cons_succ, List.set_cons_zero, Nat.zero_add, Nat.reduceAdd]
                rw [e0]
                go_wp2
                first | exact ⟨rfl, Below.refl _ _⟩ | exact ⟨_, rfl, rfl, Below.refl _ _, fun h => by simp at h⟩ | exact ⟨_, rfl, rfl, Below.refl _ _⟩ | exact ⟨rfl, Below.refl _ _, fun h => by simp at h⟩
              · intro u W hb hd
                have hs0 : SnapV W (u 7) T := hd.1 rfl (by decide)
                have e1 : u 8 = .agg #[.int .u64 (xe : Int), .slice xa xn xc] := hd.2.1 rfl (by decide)
                have e3 : u 5 = .bool true := hd.2.2.2.1 rfl (by decide)
                simp only [putAll, Act.put, List.setIfInBounds_toArray, List.set_cons_succ, List.set_cons_zero, Nat.zero_add, Nat.reduceAdd]
                rw [e1, e3]
                generalize u 7 = x0 at hs0 ⊢
                go_wp2_with (go_at_call 17; (with_reducible refine (HSM.out W x0 hb hs0).mono ?_); rintro e W1 ⟨rfl, g1⟩)
                first | exact ⟨_, rfl, rfl, g1, fun h => by simp at h⟩ | exact ⟨rfl, g1⟩ | exact ⟨_, rfl, rfl, g1⟩
              · intro u W hb hd
                have e0 : u 9 = .bool true := hd.1 rfl (by decide)
                have e1 : u 5 = .bool true := hd.2.1 rfl (by decide)
                simp only [putAll, Act.put, List.setIfInBounds_toArray, List.set_cons_succ, List.set_cons_zero, Nat.zero_add, Nat.reduceAdd]
                rw [e0, e1]
                go_wp2
                first | exact ⟨rfl, Below.refl _ _⟩ | exact ⟨_, rfl, rfl, Below.refl _ _, fun h => by simp at h⟩ | exact ⟨_, rfl, rfl, Below.refl _ _⟩ | exact ⟨rfl, Below.refl _ _, fun h => by simp at h⟩
              · intro u W hb hd
                have e0 : u 5 = .bool true := hd.1 rfl (by decide)
                have e1 : u 10 = .bool false := hd.2.1 rfl (by decide)
                have e2 : u 2 = .bool false := hd.2.2.1 rfl (by decide)
                simp only [putAll, Act.put, List.setIfInBounds_toArray, List.set_cons_succ, List.set_cons_zero, Nat.zero_add, Nat.reduceAdd]
                rw [e0, e1, e2]
                go_wp2
                first | exact ⟨rfl, Below.refl _ _⟩ | exact ⟨_, rfl, rfl, Below.refl _ _, fun h => by simp at h⟩ | exact ⟨_, rfl, rfl, Below.refl _ _⟩ | exact ⟨rfl, Below.refl _ _, fun h => by simp at h⟩
              · intro u W hb hd
                have e0 : u 2 = .bool false := hd.1 rfl (by decide)
                have e1 : u 11 = .bool false := hd.2.1 rfl (by decide)
                simp only [putAll, Act.put, List.setIfInBounds_toArray, List.set_cons_succ, List.set_cons_zero, Nat.zero_add, Nat.reduceAdd]
                rw [e0, e1]
                go_wp2
                first | exact ⟨rfl, Below.refl _ _⟩ | exact ⟨_, rfl, rfl, Below.refl _ _, fun h => by simp at h⟩ | exact ⟨_, rfl, rfl, Below.refl _ _⟩ | exact ⟨rfl, Below.refl _ _, fun h => by simp at h⟩
            · intro u W hb hT _
              have e0 : u 0 = .int .i64 0 := hT 0 (by decide)
              have e1 : u 1 = .bool false := hT 1 (by decide)
              have e2 : u 2 = .bool false := hT 2 (by decide)
              have e3 : u 3 = .int .i64 0 := hT 3 (by decide)
              have e4 : u 4 = .bool true := hT 4 (by decide)
              have e5 : u 5 = .bool true := hT 5 (by decide)
              have e6 : u 6 = .pointer (some ⟨gt, 0, none⟩) := hT 6 (by decide)
              have e8 : u 8 = .agg #[.int .u64 (xe : Int), .slice xa xn xc] := hT 8 (by decide)
              have e9 : u 9 = .bool true := hT 9 (by decide)
              have e10 : u 10 = .bool false := hT 10 (by decide)
              have e11 : u 11 = .bool false := hT 11 (by decide)
              have e12 : u 12 = .bool false := hT 12 (by decide)
              have HW3 := Lib.hid (K8.out.after hb)
              have HT3 := Lib.hid (T8.out.after hb)
              clear hb hT
              simp only [List.take_succ_cons, List.take_zero, List.drop_succ_cons, List.drop_nil, putAll, Act.put, List.setIfInBounds_toArray, List.set_cons_succ, List.set_cons_zero, Nat.zero_add, Nat.reduceAdd]
              rw [e0, e1, e2, e3, e4, e5, e6, e8, e9, e10, e11, e12]
              clear e0 e1 e2 e3 e4 e5 e6 e8 e9 e10 e11 e12
              go_wp2
              go_meet
              exact ⟨rfl, HW3.out, HT3.out⟩
          case neg =>
            refine wp_region_mix 13 (TLi [.int .i64 0, .bool false, .bool false, .int .i64 gc, .bool false, .bool false, undef, undef, undef, undef, undef, .bool false, .bool false] T) (fun _ => false) (by kernel_rfl) (by kernel_rfl) TLi.keep (fun _ _ _ h => by cases h) ?_ ?_
            · simp only [List.take_succ_cons, List.take_zero]
              refine (StepsAll.cons ?_ (StepsAll.cons ?_ (StepsAll.cons ?_ (StepsAll.cons ?_ (StepsAll.cons ?_ (StepsAll.cons ?_ (StepsAll.cons ?_ (StepsAll.cons ?_ (StepsAll.cons ?_ (StepsAll.cons ?_ (StepsAll.cons ?_ (StepsAll.cons ?_ (StepsAll.cons ?_ StepsAll.nil)))))))))))))
              · intro u W hb hd
                simp only [putAll, Act.put, List.setIfInBounds_toArray, List.set_cons_succ, List.set_cons_zero, Nat.zero_add, Nat.reduceAdd]
                go_wp2
                first | exact ⟨rfl, Below.refl _ _⟩ | exact ⟨_, rfl, rfl, Below.refl _ _, fun h => by simp at h⟩ | exact ⟨_, rfl, rfl, Below.refl _ _⟩ | exact ⟨rfl, Below.refl _ _, fun h => by simp at h⟩
              · intro u W hb hd
                have e0 : u 0 = .int .i64 0 := hd.1 rfl (by decide)
                simp only [putAll, Act.put, List.setIfInBounds_toArray, List.set_cons_succ, List.set_cons_zero, Nat.zero_add, Nat.reduceAdd]
                rw [e0]
                go_wp2
                first | exact ⟨rfl, Below.refl _ _⟩ | exact ⟨_, rfl, rfl, Below.refl _ _, fun h => by simp at h⟩ | exact ⟨_, rfl, rfl, Below.refl _ _⟩ | exact ⟨rfl, Below.refl _ _, fun h => by simp at h⟩
              · intro u W hb hd
                have e0 : u 1 = .bool false := hd.1 rfl (by decide)
                simp only [putAll, Act.put, List.setIfInBounds_toArray, List.set_cons_succ, List.set_cons_zero, Nat.zero_add, Nat.reduceAdd]
                rw [e0]
                go_wp2
                first | exact ⟨rfl, Below.refl _ _⟩ | exact ⟨_, rfl, rfl, Below.refl _ _, fun h => by simp at h⟩ | exact ⟨_, rfl, rfl, Below.refl _ _⟩ | exact ⟨rfl, Below.refl _ _, fun h => by simp at h⟩
              · intro u W hb hd
                have e0 : u 2 = .bool false := hd.1 rfl (by decide)
                simp only [putAll, Act.put, List.setIfInBounds_toArray, List.set_cons_succ, List.set_cons_zero, Nat.zero_add, Nat.reduceAdd]
                rw [e0]
                go_wp2
                first | exact ⟨rfl, Below.refl _ _⟩ | exact ⟨_, rfl, rfl, Below.refl _ _, fun h => by simp at h⟩ | exact ⟨_, rfl, rfl, Below.refl _ _⟩ | exact ⟨rfl, Below.refl _ _, fun h => by simp at h⟩
              · intro u W hb hd
                have e0 : u 3 = .int .i64 gc := hd.1 rfl (by decide)
                have e1 : u 2 = .bool false := hd.2.1 rfl (by decide)
                have b1 : (gc == 0) = false := by simp [hg]
                simp only [putAll, Act.put, List.setIfInBounds_toArray, List.set_cons_succ, List.set_cons_zero, Nat.zero_add, Nat.reduceAdd]
                rw [e0, e1]
                go_wp2
                first | exact ⟨rfl, Below.refl _ _⟩ | exact ⟨_, rfl, rfl, Below.refl _ _, fun h => by simp at h⟩ | exact ⟨_, rfl, rfl, Below.refl _ _⟩ | exact ⟨rfl, Below.refl _ _, fun h => by simp at h⟩
              · intro u W hb hd
                have e0 : u 4 = .bool false := hd.1 rfl (by decide)
                have e2 : u 2 = .bool false := hd.2.2.1 rfl (by decide)
                simp only [putAll, Act.put, List.setIfInBounds_toArray, List.set_cons_succ, List.set_cons_zero, Nat.zero_add, Nat.reduceAdd]
                rw [e0, e2]
                go_wp2
                first | exact ⟨rfl, Below.refl _ _⟩ | exact ⟨_, rfl, rfl, Below.refl _ _, fun h => by simp at h⟩ | exact ⟨_, rfl, rfl, Below.refl _ _⟩ | exact ⟨rfl, Below.refl _ _, fun h => by simp at h⟩
              · intro u W hb hd
                have e0 : u 5 = .bool false := hd.1 rfl (by decide)
                simp only [putAll, Act.put, List.setIfInBounds_toArray, List.set_cons_succ, List.set_cons_zero, Nat.zero_add, Nat.reduceAdd]
                rw [e0]
                go_wp2
                first | exact ⟨_, rfl, trivial, Below.refl _ _, fun h => by simp at h⟩ | exact ⟨_, rfl, trivial, Below.refl _ _⟩ | exact ⟨undef, trivial, Below.refl _ _⟩ | exact ⟨trivial, Below.refl _ _⟩ | exact Below.refl _ _
              · intro u W hb hd
                have e2 : u 5 = .bool false := hd.2.2.1 rfl (by decide)
                simp only [putAll, Act.put, List.setIfInBounds_toArray, List.set_cons_succ, List.set_cons_zero, Nat.zero_add, Nat.reduceAdd]
                rw [e2]
                go_wp2
                first | exact ⟨_, rfl, trivial, Below.refl _ _, fun h => by simp at h⟩ | exact ⟨_, rfl, trivial, Below.refl _ _⟩ | exact ⟨undef, trivial, Below.refl _ _⟩ | exact ⟨trivial, Below.refl _ _⟩ | exact Below.refl _ _
              · intro u W hb hd
                have e0 : u 5 = .bool false := hd.1 rfl (by decide)
                simp only [putAll, Act.put, List.setIfInBounds_toArray, List.set_cons_succ, List.set_cons_zero, Nat.zero_add, Nat.reduceAdd]
                rw [e0]
                go_wp2
                first | exact ⟨_, rfl, trivial, Below.refl _ _, fun h => by simp at h⟩ | exact ⟨_, rfl, trivial, Below.refl _ _⟩ | exact ⟨undef, trivial, Below.refl _ _⟩ | exact ⟨trivial, Below.refl _ _⟩ | exact Below.refl _ _
              · intro u W hb hd
                have e3 : u 5 = .bool false := hd.2.2.2.1 rfl (by decide)
                simp only [putAll, Act.put, List.setIfInBounds_toArray, List.set_cons_succ, List.set_cons_zero, Nat.zero_add, Nat.reduceAdd]
                rw [e3]
                go_wp2
                first | exact ⟨_, rfl, trivial, Below.refl _ _, fun h => by simp at h⟩ | exact ⟨_, rfl, trivial, Below.refl _ _⟩ | exact ⟨undef, trivial, Below.refl _ _⟩ | exact ⟨trivial, Below.refl _ _⟩ | exact Below.refl _ _
              · intro u W hb hd
                have e1 : u 5 = .bool false := hd.2.1 rfl (by decide)
                simp only [putAll, Act.put, List.setIfInBounds_toArray, List.set_cons_succ, List.set_cons_zero, Nat.zero_add, Nat.reduceAdd]
                rw [e1]
                go_wp2
                first | exact ⟨_, rfl, trivial, Below.refl _ _, fun h => by simp at h⟩ | exact ⟨_, rfl, trivial, Below.refl _ _⟩ | exact ⟨undef, trivial, Below.refl _ _⟩ | exact ⟨trivial, Below.refl _ _⟩ | exact Below.refl _ _
              · intro u W hb hd
                have e0 : u 5 = .bool false := hd.1 rfl (by decide)
                have e2 : u 2 = .bool false := hd.2.2.1 rfl (by decide)
                simp only [putAll, Act.put, List.setIfInBounds_toArray, List.set_cons_succ, List.set_cons_zero, Nat.zero_add, Nat.reduceAdd]
                rw [e0, e2]
                go_wp2
                first | exact ⟨rfl, Below.refl _ _⟩ | exact ⟨_, rfl, rfl, Below.refl _ _, fun h => by simp at h⟩ | exact ⟨_, rfl, rfl, Below.refl _ _⟩ | exact ⟨rfl, Below.refl _ _, fun h => by simp at h⟩
              · intro u W hb hd
                have e0 : u 2 = .bool false := hd.1 rfl (by decide)
                have e1 : u 11 = .bool false := hd.2.1 rfl (by decide)
                simp only [putAll, Act.put, List.setIfInBounds_toArray, List.set_cons_succ, List.set_cons_zero, Nat.zero_add, Nat.reduceAdd]
                rw [e0, e1]
                go_wp2
                first | exact ⟨rfl, Below.refl _ _⟩ | exact ⟨_, rfl, rfl, Below.refl _ _, fun h => by simp at h⟩ | exact ⟨_, rfl, rfl, Below.refl _ _⟩ | exact ⟨rfl, Below.refl _ _, fun h => by simp at h⟩
            · intro u W hb hT _
              have e0 : u 0 = .int .i64 0 := hT 0 (by decide)
              have e1 : u 1 = .bool false := hT 1 (by decide)
              have e2 : u 2 = .bool false := hT 2 (by decide)
              have e3 : u 3 = .int .i64 gc := hT 3 (by decide)
              have e4 : u 4 = .bool false := hT 4 (by decide)
              have e5 : u 5 = .bool false := hT 5 (by decide)
              have e11 : u 11 = .bool false := hT 11 (by decide)
              have e12 : u 12 = .bool false := hT 12 (by decide)
              have HW3 := Lib.hid (K8.out.after hb)
              have HT3 := Lib.hid (T8.out.after hb)
              clear hb hT
              simp only [List.take_succ_cons, List.take_zero, List.drop_succ_cons, List.drop_nil, putAll, Act.put, List.setIfInBounds_toArray, List.set_cons_succ, List.set_cons_zero, Nat.zero_add, Nat.reduceAdd]
              rw [e0, e1, e2, e3, e4, e5, e11, e12]
              clear e0 e1 e2 e3 e4 e5 e11 e12
              go_wp2
              go_meet
              exact ⟨rfl, HW3.out, HT3.out⟩
        case rest =>
          obtain ⟨rfl, hks, htw⟩ := hcut
          have K9 := Lib.hid hks
          have T9 := Lib.hid htw
          have HFIN0 := Lib.hid (fun W (hW : Below wc.heap.size wc W) => HBX.out.trans ((hks.after hW).bel.mono HBX.out.size))
          clear hks htw K8 T8
          go_upto_region 23 with fail
          by_cases q : T = M
          case pos =>
            have HSM := Lib.hid (fun W xv (hW : Below wc.heap.size wc W) (hs : SnapV W xv T) => same_two hs (T9.out.after hW).s1.snapV HTB.out.2 HNB.out true (decide_eq_true q))
            clear q
            refine wp_region_mix 11 (TLj [.pointer (some ⟨gt, 0, none⟩), undef, .agg #[.int .u64 (me : Int), .slice ma mn mc], .bool true, .bool true, undef, undef, undef, undef, .bool true, .bool true] T) (fun _ => false) (by kernel_rfl) (by kernel_rfl) TLj.keep (fun _ _ _ h => by cases h) ?_ ?_
            · simp only [List.take_succ_cons, List.take_zero]
              refine (StepsAll.cons ?_ (StepsAll.cons ?_ (StepsAll.cons ?_ (StepsAll.cons ?_ (StepsAll.cons ?_ (StepsAll.cons ?_ (StepsAll.cons ?_ (StepsAll.cons ?_ (StepsAll.cons ?_ (StepsAll.cons ?_ (StepsAll.cons ?_ StepsAll.nil)))))))))))
              · intro u W hb hd
                simp only [putAll, Act.put, List.setIfInBounds_toArray, List.set_cons_succ, List.set_cons_zero, Nat.zero_add, Nat.reduceAdd]
                go_wp2
                first | exact ⟨rfl, Below.refl _ _⟩ | exact ⟨_, rfl, rfl, Below.refl _ _, fun h => by simp at h⟩ | exact ⟨_, rfl, rfl, Below.refl _ _⟩ | exact ⟨rfl, Below.refl _ _, fun h => by simp at h⟩
              · intro u W hb hd
                have e0 : u 0 = .pointer (some ⟨gt, 0, none⟩) := hd.1 rfl (by decide)
                simp only [putAll, Act.put, List.setIfInBounds_toArray, List.set_cons_succ, List.set_cons_zero, Nat.zero_add, Nat.reduceAdd]
                rw [e0]
                go_wp2_with (go_at_call 18; (with_reducible refine (ks_snap (K9.out.after hb)).mono ?_); rintro e W1 ⟨xv, rfl, hs, g1⟩)
                first | exact ⟨_, rfl, hs, g1, fun h => by simp at h⟩ | exact ⟨hs, g1, fun h => by simp at h⟩ | exact ⟨_, rfl, hs, g1⟩ | exact ⟨hs, g1⟩
              · intro u W hb hd
                have vq := (T9.out.after hb).v1
                have n0 := vq.c0
                have n1 := vq.c1
                clear vq
                simp only [putAll, Act.put, List.setIfInBounds_toArray, List.set_cons_succ, List.set_cons_zero, Nat.zero_add, Nat.reduceAdd]
                go_wp2
                first | exact ⟨rfl, Below.refl _ _⟩ | exact ⟨_, rfl, rfl, Below.refl _ _, fun h => by simp at h⟩ | exact ⟨_, rfl, rfl, Below.refl _ _⟩ | exact ⟨rfl, Below.refl _ _, fun h => by simp at h⟩
              · intro u W hb hd
                have hs0 : SnapV W (u 1) T := hd.1 rfl (by decide)
                have e1 : u 2 = .agg #[.int .u64 (me : Int), .slice ma mn mc] := hd.2.1 rfl (by decide)
                simp only [putAll, Act.put, List.setIfInBounds_toArray, List.set_cons_succ, List.set_cons_zero, Nat.zero_add, Nat.reduceAdd]
                rw [e1]
                generalize u 1 = x0 at hs0 ⊢
                go_wp2_with (go_at_call 17; (with_reducible refine (HSM.out W x0 hb hs0).mono ?_); rintro e W1 ⟨rfl, g1⟩)
                first | exact ⟨_, rfl, rfl, g1, fun h => by simp at h⟩ | exact ⟨rfl, g1⟩ | exact ⟨_, rfl, rfl, g1⟩
              · intro u W hb hd
                have e0 : u 3 = .bool true := hd.1 rfl (by decide)
                simp only [putAll, Act.put, List.setIfInBounds_toArray, List.set_cons_succ, List.set_cons_zero, Nat.zero_add, Nat.reduceAdd]
                rw [e0]
                go_wp2
                first | exact ⟨rfl, Below.refl _ _⟩ | exact ⟨_, rfl, rfl, Below.refl _ _, fun h => by simp at h⟩ | exact ⟨_, rfl, rfl, Below.refl _ _⟩ | exact ⟨rfl, Below.refl _ _, fun h => by simp at h⟩
              · intro u W hb hd
                have e0 : u 4 = .bool true := hd.1 rfl (by decide)
                simp only [putAll, Act.put, List.setIfInBounds_toArray, List.set_cons_succ, List.set_cons_zero, Nat.zero_add, Nat.reduceAdd]
                rw [e0]
                go_wp2
                first | exact ⟨_, rfl, trivial, Below.refl _ _, fun h => by simp at h⟩ | exact ⟨_, rfl, trivial, Below.refl _ _⟩ | exact ⟨undef, trivial, Below.refl _ _⟩ | exact ⟨trivial, Below.refl _ _⟩ | exact Below.refl _ _
              · intro u W hb hd
                have e2 : u 4 = .bool true := hd.2.2.1 rfl (by decide)
                simp only [putAll, Act.put, List.setIfInBounds_toArray, List.set_cons_succ, List.set_cons_zero, Nat.zero_add, Nat.reduceAdd]
                rw [e2]
                go_wp2
                first | exact ⟨_, rfl, trivial, Below.refl _ _, fun h => by simp at h⟩ | exact ⟨_, rfl, trivial, Below.refl _ _⟩ | exact ⟨undef, trivial, Below.refl _ _⟩ | exact ⟨trivial, Below.refl _ _⟩ | exact Below.refl _ _
              · intro u W hb hd
                have e0 : u 4 = .bool true := hd.1 rfl (by decide)
                simp only [putAll, Act.put, List.setIfInBounds_toArray, List.set_cons_succ, List.set_cons_zero, Nat.zero_add, Nat.reduceAdd]
                rw [e0]
                go_wp2
                first | exact ⟨_, rfl, trivial, Below.refl _ _, fun h => by simp at h⟩ | exact ⟨_, rfl, trivial, Below.refl _ _⟩ | exact ⟨undef, trivial, Below.refl _ _⟩ | exact ⟨trivial, Below.refl _ _⟩ | exact Below.refl _ _
              · intro u W hb hd
                have e3 : u 4 = .bool true := hd.2.2.2.1 rfl (by decide)
                simp only [putAll, Act.put, List.setIfInBounds_toArray, List.set_cons_succ, List.set_cons_zero, Nat.zero_add, Nat.reduceAdd]
                rw [e3]
                go_wp2
                first | exact ⟨_, rfl, trivial, Below.refl _ _, fun h => by simp at h⟩ | exact ⟨_, rfl, trivial, Below.refl _ _⟩ | exact ⟨undef, trivial, Below.refl _ _⟩ | exact ⟨trivial, Below.refl _ _⟩ | exact Below.refl _ _
              · intro u W hb hd
                have e0 : u 4 = .bool true := hd.1 rfl (by decide)
                simp only [putAll, Act.put, List.setIfInBounds_toArray, List.set_cons_succ, List.set_cons_zero, Nat.zero_add, Nat.reduceAdd]
                rw [e0]
                go_wp2
                first | exact ⟨rfl, Below.refl _ _⟩ | exact ⟨_, rfl, rfl, Below.refl _ _, fun h => by simp at h⟩ | exact ⟨_, rfl, rfl, Below.refl _ _⟩ | exact ⟨rfl, Below.refl _ _, fun h => by simp at h⟩
              · intro u W hb hd
                have e0 : u 9 = .bool true := hd.1 rfl (by decide)
                simp only [putAll, Act.put, List.setIfInBounds_toArray, List.set_cons_succ, List.set_cons_zero, Nat.zero_add, Nat.reduceAdd]
                rw [e0]
                go_wp2
                first | exact ⟨rfl, Below.refl _ _⟩ | exact ⟨_, rfl, rfl, Below.refl _ _, fun h => by simp at h⟩ | exact ⟨_, rfl, rfl, Below.refl _ _⟩ | exact ⟨rfl, Below.refl _ _, fun h => by simp at h⟩
            · intro u W hb hT _
              have e0 : u 0 = .pointer (some ⟨gt, 0, none⟩) := hT 0 (by decide)
              have e2 : u 2 = .agg #[.int .u64 (me : Int), .slice ma mn mc] := hT 2 (by decide)
              have e3 : u 3 = .bool true := hT 3 (by decide)
              have e4 : u 4 = .bool true := hT 4 (by decide)
              have e9 : u 9 = .bool true := hT 9 (by decide)
              have e10 : u 10 = .bool true := hT 10 (by decide)
              have HFIN := Lib.hid (HFIN0.out _ hb)
              clear hb hT
              simp only [List.take_succ_cons, List.take_zero, List.drop_succ_cons, List.drop_nil, putAll, Act.put, List.setIfInBounds_toArray, List.set_cons_succ, List.set_cons_zero, Nat.zero_add, Nat.reduceAdd]
              rw [e0, e2, e3, e4, e9, e10]
              clear e0 e2 e3 e4 e9 e10
              go_wp2
              go_ret
              exact ⟨rfl, HFIN.out⟩
          case neg =>
            have q2 : T = X := by rcases HTD.out with e | e; exact (q e).elim; exact e
            have HSM := Lib.hid (fun W xv (hW : Below wc.heap.size wc W) (hs : SnapV W xv T) => same_two hs (T9.out.after hW).s1.snapV HTB.out.2 HNB.out false (decide_eq_false q))
            have HSM2 := Lib.hid (fun W xv (hW : Below wc.heap.size wc W) (hs : SnapV W xv T) => same_two hs (T9.out.after hW).s2.snapV HTB.out.2 HX1.out.2 true (decide_eq_true q2))
            clear q q2
            refine wp_region_mix 11 (TLk [.pointer (some ⟨gt, 0, none⟩), undef, .agg #[.int .u64 (me : Int), .slice ma mn mc], .bool false, .bool false, .pointer (some ⟨gt, 0, none⟩), undef, .agg #[.int .u64 (xe : Int), .slice xa xn xc], .bool true, .bool true, .bool true] T) (fun _ => false) (by kernel_rfl) (by kernel_rfl) TLk.keep (fun _ _ _ h => by cases h) ?_ ?_
            · simp only [List.take_succ_cons, List.take_zero]
              refine (StepsAll.cons ?_ (StepsAll.cons ?_ (StepsAll.cons ?_ (StepsAll.cons ?_ (StepsAll.cons ?_ (StepsAll.cons ?_ (StepsAll.cons ?_ (StepsAll.cons ?_ (StepsAll.cons ?_ (StepsAll.cons ?_ (StepsAll.cons ?_ StepsAll.nil)))))))))))
              · intro u W hb hd
                simp only [putAll, Act.put, List.setIfInBounds_toArray, List.set_cons_succ, List.set_cons_zero, Nat.zero_add, Nat.reduceAdd]
                go_wp2
                first | exact ⟨rfl, Below.refl _ _⟩ | exact ⟨_, rfl, rfl, Below.refl _ _, fun h => by simp at h⟩ | exact ⟨_, rfl, rfl, Below.refl _ _⟩ | exact ⟨rfl, Below.refl _ _, fun h => by simp at h⟩
              · intro u W hb hd
                have e0 : u 0 = .pointer (some ⟨gt, 0, none⟩) := hd.1 rfl (by decide)
                simp only [putAll, Act.put, List.setIfInBounds_toArray, List.set_cons_succ, List.set_cons_zero, Nat.zero_add, Nat.reduceAdd]
                rw [e0]
                go_wp2_with (go_at_call 18; (with_reducible refine (ks_snap (K9.out.after hb)).mono ?_); rintro e W1 ⟨xv, rfl, hs, g1⟩)
                first | exact ⟨_, rfl, hs, g1, fun h => by simp at h⟩ | exact ⟨hs, g1, fun h => by simp at h⟩ | exact ⟨_, rfl, hs, g1⟩ | exact ⟨hs, g1⟩
              · intro u W hb hd
                have vq := (T9.out.after hb).v1
                have n0 := vq.c0
                have n1 := vq.c1
                clear vq
                simp only [putAll, Act.put, List.setIfInBounds_toArray, List.set_cons_succ, List.set_cons_zero, Nat.zero_add, Nat.reduceAdd]
                go_wp2
                first | exact ⟨rfl, Below.refl _ _⟩ | exact ⟨_, rfl, rfl, Below.refl _ _, fun h => by simp at h⟩ | exact ⟨_, rfl, rfl, Below.refl _ _⟩ | exact ⟨rfl, Below.refl _ _, fun h => by simp at h⟩
              · intro u W hb hd
                have hs0 : SnapV W (u 1) T := hd.1 rfl (by decide)
                have e1 : u 2 = .agg #[.int .u64 (me : Int), .slice ma mn mc] := hd.2.1 rfl (by decide)
                simp only [putAll, Act.put, List.setIfInBounds_toArray, List.set_cons_succ, List.set_cons_zero, Nat.zero_add, Nat.reduceAdd]
                rw [e1]
                generalize u 1 = x0 at hs0 ⊢
                go_wp2_with (go_at_call 17; (with_reducible refine (HSM.out W x0 hb hs0).mono ?_); rintro e W1 ⟨rfl, g1⟩)
                first | exact ⟨_, rfl, rfl, g1, fun h => by simp at h⟩ | exact ⟨rfl, g1⟩ | exact ⟨_, rfl, rfl, g1⟩
              · intro u W hb hd
                have e0 : u 3 = .bool false := hd.1 rfl (by decide)
                simp only [putAll, Act.put, List.setIfInBounds_toArray, List.set_cons_succ, List.set_cons_zero, Nat.zero_add, Nat.reduceAdd]
                rw [e0]
                go_wp2
                first | exact ⟨rfl, Below.refl _ _⟩ | exact ⟨_, rfl, rfl, Below.refl _ _, fun h => by simp at h⟩ | exact ⟨_, rfl, rfl, Below.refl _ _⟩ | exact ⟨rfl, Below.refl _ _, fun h => by simp at h⟩
              · intro u W hb hd
                have e0 : u 4 = .bool false := hd.1 rfl (by decide)
                simp only [putAll, Act.put, List.setIfInBounds_toArray, List.set_cons_succ, List.set_cons_zero, Nat.zero_add, Nat.reduceAdd]
                rw [e0]
                go_wp2
                first | exact ⟨rfl, Below.refl _ _⟩ | exact ⟨_, rfl, rfl, Below.refl _ _, fun h => by simp at h⟩ | exact ⟨_, rfl, rfl, Below.refl _ _⟩ | exact ⟨rfl, Below.refl _ _, fun h => by simp at h⟩
              · intro u W hb hd
                have e0 : u 5 = .pointer (some ⟨gt, 0, none⟩) := hd.1 rfl (by decide)
                have e2 : u 4 = .bool false := hd.2.2.1 rfl (by decide)
                simp only [putAll, Act.put, List.setIfInBounds_toArray, List.set_cons_succ, List.set_cons_zero, Nat.zero_add, Nat.reduceAdd]
                rw [e0, e2]
                go_wp2_with (go_at_call 18; (with_reducible refine (ks_snap (K9.out.after hb)).mono ?_); rintro e W1 ⟨xv, rfl, hs, g1⟩)
                first | exact ⟨_, rfl, hs, g1, fun h => by simp at h⟩ | exact ⟨hs, g1, fun h => by simp at h⟩ | exact ⟨_, rfl, hs, g1⟩ | exact ⟨hs, g1⟩
              · intro u W hb hd
                have e0 : u 4 = .bool false := hd.1 rfl (by decide)
                have vq := (T9.out.after hb).v2
                have n0 := vq.c0
                have n1 := vq.c1
                clear vq
                simp only [putAll, Act.put, List.setIfInBounds_toArray, List.set_cons_succ, List.set_cons_zero, Nat.zero_add, Nat.reduceAdd]
                rw [e0]
                go_wp2
                first | exact ⟨rfl, Below.refl _ _⟩ | exact ⟨_, rfl, rfl, Below.refl _ _, fun h => by simp at h⟩ | exact ⟨_, rfl, rfl, Below.refl _ _⟩ | exact ⟨rfl, Below.refl _ _, fun h => by simp at h⟩
              · intro u W hb hd
                have hs0 : SnapV W (u 6) T := hd.1 rfl (by decide)
                have e1 : u 7 = .agg #[.int .u64 (xe : Int), .slice xa xn xc] := hd.2.1 rfl (by decide)
                have e3 : u 4 = .bool false := hd.2.2.2.1 rfl (by decide)
                simp only [putAll, Act.put, List.setIfInBounds_toArray, List.set_cons_succ, List.set_cons_zero, Nat.zero_add, Nat.reduceAdd]
                rw [e1, e3]
                generalize u 6 = x0 at hs0 ⊢
                go_wp2_with (go_at_call 17; (with_reducible refine (HSM2.out W x0 hb hs0).mono ?_); rintro e W1 ⟨rfl, g1⟩)
                first | exact ⟨_, rfl, rfl, g1, fun h => by simp at h⟩ | exact ⟨rfl, g1⟩ | exact ⟨_, rfl, rfl, g1⟩
              · intro u W hb hd
                have e0 : u 4 = .bool false := hd.1 rfl (by decide)
                have e1 : u 8 = .bool true := hd.2.1 rfl (by decide)
                simp only [putAll, Act.put, List.setIfInBounds_toArray, List.set_cons_succ, List.set_cons_zero, Nat.zero_add, Nat.reduceAdd]
                rw [e0, e1]
                go_wp2
                first | exact ⟨rfl, Below.refl _ _⟩ | exact ⟨_, rfl, rfl, Below.refl _ _, fun h => by simp at h⟩ | exact ⟨_, rfl, rfl, Below.refl _ _⟩ | exact ⟨rfl, Below.refl _ _, fun h => by simp at h⟩
              · intro u W hb hd
                have e0 : u 9 = .bool true := hd.1 rfl (by decide)
                simp only [putAll, Act.put, List.setIfInBounds_toArray, List.set_cons_succ, List.set_cons_zero, Nat.zero_add, Nat.reduceAdd]
                rw [e0]
                go_wp2
                first | exact ⟨rfl, Below.refl _ _⟩ | exact ⟨_, rfl, rfl, Below.refl _ _, fun h => by simp at h⟩ | exact ⟨_, rfl, rfl, Below.refl _ _⟩ | exact ⟨rfl, Below.refl _ _, fun h => by simp at h⟩
            · intro u W hb hT _
              have e0 : u 0 = .pointer (some ⟨gt, 0, none⟩) := hT 0 (by decide)
              have e2 : u 2 = .agg #[.int .u64 (me : Int), .slice ma mn mc] := hT 2 (by decide)
              have e3 : u 3 = .bool false := hT 3 (by decide)
              have e4 : u 4 = .bool false := hT 4 (by decide)
              have e5 : u 5 = .pointer (some ⟨gt, 0, none⟩) := hT 5 (by decide)
              have e7 : u 7 = .agg #[.int .u64 (xe : Int), .slice xa xn xc] := hT 7 (by decide)
              have e8 : u 8 = .bool true := hT 8 (by decide)
              have e9 : u 9 = .bool true := hT 9 (by decide)
              have e10 : u 10 = .bool true := hT 10 (by decide)
              have HFIN := Lib.hid (HFIN0.out _ hb)
              clear hb hT
              simp only [List.take_succ_cons, List.take_zero, List.drop_succ_cons, List.drop_nil, putAll, Act.put, List.setIfInBounds_toArray, List.set_cons_succ, List.set_cons_zero, Nat.zero_add, Nat.reduceAdd]
              rw [e0, e2, e3, e4, e5, e7, e8, e9, e10]
              clear e0 e2 e3 e4 e5 e7 e8 e9 e10
              go_wp2
              go_ret
              exact ⟨rfl, HFIN.out⟩

set_option maxRecDepth 100000 in
set_option maxHeartbeats 8000000 in
theorem sltreads_short (zs : Int) (av bv cv : Value) (a b c : List Int) (fuse keep torn again keep2 torn2 : Int) (w : World) (env : Env w) (hav : ArgB w av a) (hbv : ArgB w bv b) (hcv : ArgB w cv c) (h : zs < 32 ∨ 512 < zs ∨ 2000 < a.length ∨ 2000 < b.length ∨ 2000 < c.length) :
    Calls Tryd.prog 5 #[.int .i64 zs, av, bv, cv, .agg #[.int .i64 fuse, .int .i64 keep, .int .i64 torn, .int .i64 again, .int .i64 keep2, .int .i64 torn2]] w fun e w' => e = .returned (.bool true) ∧ Below w.heap.size w w' := by
  have HENV := Lib.hid env
  obtain ⟨aa, ca, rfl⟩ := hav.size
  obtain ⟨ab, cb, rfl⟩ := hbv.size
  obtain ⟨ac, cc, rfl⟩ := hcv.size
  obtain ⟨Na, hNa⟩ : ∃ x, a.length = x := ⟨_, rfl⟩
  obtain ⟨Nb, hNb⟩ : ∃ x, b.length = x := ⟨_, rfl⟩
  obtain ⟨Nc, hNc⟩ : ∃ x, c.length = x := ⟨_, rfl⟩
  rw [hNa, hNb, hNc] at h ⊢
  obtain ⟨wx, hwx⟩ : ∃ y, w.alloc (.cells #[.int .i64 fuse, .int .i64 keep, .int .i64 torn, .int .i64 again, .int .i64 keep2, .int .i64 torn2] 48) = y := ⟨_, rfl⟩
  have HBX : Hid (Below w.heap.size w wx) := by rw [← hwx]; exact (Below.refl _ _).alloc (Nat.le_refl _) _
  have hc : zs < 32 ∨ (¬ zs < 32 ∧ 512 < zs) ∨ (¬ zs < 32 ∧ ¬ 512 < zs ∧ (2000 : Int) < (Na : Int)) ∨ (¬ zs < 32 ∧ ¬ 512 < zs ∧ ¬ (2000 : Int) < (Na : Int) ∧ (2000 : Int) < (Nb : Int)) ∨ (¬ zs < 32 ∧ ¬ 512 < zs ∧ ¬ (2000 : Int) < (Na : Int) ∧ ¬ (2000 : Int) < (Nb : Int) ∧ (2000 : Int) < (Nc : Int)) := by omega
  clear env hav hbv hcv h hNa hNb hNc
  rcases hc with g1 | ⟨g1, g2⟩ | ⟨g1, g2, g3⟩ | ⟨g1, g2, g3, g4⟩ | ⟨g1, g2, g3, g4, g5⟩
  all_goals
    go_enter Tryd.func5, Tryd.ntmps5
    go_wp2_with (first
      | (go_at_call 6; (with_reducible refine (slt_awake _ (HENV.out.step HBX.out)).mono ?_); rintro e wa ⟨rfl, ga⟩; have GA := Lib.hid ga; clear ga))
    go_ret
    exact ⟨rfl, HBX.out.trans (GA.out.mono HBX.out.size)⟩
theorem sltreads_walk (zs : Int) (av bv cv : Value) (a b c : List Int) (fuse keep torn again keep2 torn2 : Int) (w : World) (env : Env w) (hav : ArgB w av a) (hab : ∀ z ∈ a, 0 ≤ z ∧ z ≤ 255) (hbv : ArgB w bv b) (hbb : ∀ z ∈ b, 0 ≤ z ∧ z ≤ 255) (hcv : ArgB w cv c) (hcb : ∀ z ∈ c, 0 ≤ z ∧ z ≤ 255)
    (f0 : -9223372036854775808 ≤ fuse ∧ fuse ≤ 9223372036854775807) (k0 : -9223372036854775808 ≤ keep ∧ keep ≤ 9223372036854775807) (t0 : -9223372036854775808 ≤ torn ∧ torn ≤ 9223372036854775807) (_a0 : -9223372036854775808 ≤ again ∧ again ≤ 9223372036854775807) (_k2 : -9223372036854775808 ≤ keep2 ∧ keep2 ≤ 9223372036854775807) (_t2 : -9223372036854775808 ≤ torn2 ∧ torn2 ≤ 9223372036854775807) :
    Calls Tryd.prog 5 #[.int .i64 zs, av, bv, cv, .agg #[.int .i64 fuse, .int .i64 keep, .int .i64 torn, .int .i64 again, .int .i64 keep2, .int .i64 torn2]] w fun e w' => e = .returned (.bool true) ∧ Below w.heap.size w w' := by
  by_cases h : zs < 32 ∨ 512 < zs ∨ 2000 < a.length ∨ 2000 < b.length ∨ 2000 < c.length
  · exact sltreads_short zs av bv cv a b c fuse keep torn again keep2 torn2 w env hav hbv hcv h
  · obtain ⟨size, rfl⟩ : ∃ size : Nat, zs = (size : Int) := ⟨zs.toNat, by omega⟩
    exact sltreads_main size av bv cv a b c fuse keep torn again keep2 torn2 w env hav hab hbv hbb hcv hcb (by omega) (by omega) (by omega) (by omega) (by omega) f0 k0 t0

end Go.Proofs.YtbhmkmfjbafdcaaDoor
