/-
  WalPlays, walked over the contracts of package wal's calls: a disk, a log, and the document's log side by side.
-/
import Derived.Test.YtokngnpopnfkhaaDoorPkWalP
import Derived.Test.YtokngnpopnfkhaaDoorPkWalH
import Derived.Test.YtokngnpopnfkhaaDoorPkMixes
namespace Go.Proofs.YtokngnpopnfkhaaDoor
open Go.RowKit

/-- At first. -/
theorem tr_start {w0 w : World} {base r N size f k gb : Nat} {Z : List Int} {D : Dsk} {O OG : Foot} {za : Int} (ez : za = ((k * size : Nat) : Int)) (hd : DskIs w base O r D) (n : NFd N size D) (ws : D.waits = []) (rg : regnL (f * size) (k * size) D.last = textL [] (k * size)) (bs : Beside (f * size) (k * size) Z D.last) (g : LogIs w base OG gb r ⟨f, k, size, usedL [], false⟩) (dis : ∀ i, O i → ¬ OG i) (bel : Below base w0 w) (k1 : 1 ≤ k) (on : f + k ≤ N) :
    TR w0 (w.alloc (.cells #[.slice none 0 0, .int .i64 za] 37)) base r w.heap.size N size f k Z [] [] D gb := by
  have hlo : base ≤ w.heap.size := by have := hd.own r hd.mem; omega
  have hbx : Below w.heap.size w (w.alloc (.cells #[.slice none 0 0, .int .i64 za] 37)) := (Below.refl _ _).alloc (Nat.le_refl _) _
  have rl := rlog_new (F := fun _ => False) ez (LLF.nil w base _) (fun i hi => hi.elim) hlo
  exact ⟨O, _, OG, ⟨hd.after hbx, rl, ⟨fun i hi => hi.elim, fun hx => by have := (hd.own _ hx).2; omega⟩, n, ws, RecOk.nil _, rg, bs, bel.trans (hbx.mono hlo), k1, on⟩, g.after hbx, dis, ⟨fun i hi => hi.elim, fun hx => by have := (g.own _ hx).2; omega⟩⟩
theorem TR.rec {w0 w : World} {base r m N size f k : Nat} {Z : List Int} {Lp Lr : List (List Int)} {D : Dsk} {gb : Nat} (h : TR w0 w base r m N size f k Z Lp Lr D gb) : RecOk Lp (k * size) ∧ Lp.length ≤ 100000000 ∧ usedL Lp ≤ k * size ∧ k * size ≤ 204800 := by
  obtain ⟨O, F, OG, h⟩ := h
  have q1 := h.dr.ok.used
  have q2 := h.dr.most
  have q3 := used_many Lp
  exact ⟨h.dr.ok, by omega, q1, q2⟩
/-- What each operation of the drawn Append has made. -/
def TW (vl vi bv : Value) (bb oo gb m : Nat) : Nat → Value → World → Prop
  | 0, v, _ => v = vl
  | 1, v, _ => v = vi
  | 2, v, _ => v = .pointer (some ⟨bb, oo, none⟩)
  | 3, v, _ => v = .pointer (some ⟨bb, oo, none⟩)
  | 4, v, _ => v = .int .i64 1
  | 5, v, _ => v = .bool true
  | 6, v, _ => v = .bool true
  | 7, v, _ => v = .pointer (some ⟨gb, 0, none⟩)
  | 8, v, _ => v = vl
  | 9, v, _ => v = vi
  | 10, v, _ => v = .pointer (some ⟨bb, oo, none⟩)
  | 11, v, _ => v = .pointer (some ⟨bb, oo + 1, none⟩)
  | 12, v, _ => v = bv
  | 13, v, _ => v = .int .i64 0
  | 14, v, _ => v = .pointer (some ⟨m, 0, none⟩)
  | 15, v, _ => v = vl
  | 16, v, _ => v = vi
  | 17, v, _ => v = .pointer (some ⟨bb, oo, none⟩)
  | 18, v, _ => v = .pointer (some ⟨bb, oo + 1, none⟩)
  | 19, v, _ => v = bv
  | 20, v, _ => v = .int .i64 0
  | 21, v, _ => v = .bool false
  | 22, v, _ => v = .bool false
  | _, _, _ => True
theorem TW.any {vl vi bv : Value} {bb oo gb m : Nat} (i : Nat) (v : Value) (w w' : World) (h : TW vl vi bv bb oo gb m i v w) : TW vl vi bv bb oo gb m i v w' := by
  match i, h with
  | 0, h => exact h
  | 1, h => exact h
  | 2, h => exact h
  | 3, h => exact h
  | 4, h => exact h
  | 5, h => exact h
  | 6, h => exact h
  | 7, h => exact h
  | 8, h => exact h
  | 9, h => exact h
  | 10, h => exact h
  | 11, h => exact h
  | 12, h => exact h
  | 13, h => exact h
  | 14, h => exact h
  | 15, h => exact h
  | 16, h => exact h
  | 17, h => exact h
  | 18, h => exact h
  | 19, h => exact h
  | 20, h => exact h
  | 21, h => exact h
  | 22, h => exact h
  | n + 23, _ => exact trivial
/-- Where it stands. -/
def JW (w0 : World) (base r m N size f k : Nat) (Z : List Int) (L : List (List Int)) (b : List Int) (gb dd : Nat) (J : Nat → Bool) (w : World) : Prop := (J 20 = true → J 13 = true) ∧ ∃ D, TR w0 w base r m N size f k Z (if J 13 then L ++ [b] else L) (if J 20 then L ++ [b] else L) D gb ∧ D.deeds ≤ dd + (if J 13 then 1000 else 0)
theorem JW.light {w0 w : World} {base r m N size f k : Nat} {Z : List Int} {L : List (List Int)} {b : List Int} {gb dd : Nat} {J : Nat → Bool} (h : JW w0 base r m N size f k Z L b gb dd J w) {i : Nat} (h5 : 13 ≠ i) (h11 : 20 ≠ i) : JW w0 base r m N size f k Z L b gb dd (setL J i) w := by
  unfold JW
  rw [setL_ne J h5, setL_ne J h11]
  exact h
theorem JW.bel {w0 w : World} {base r m N size f k : Nat} {Z : List Int} {L : List (List Int)} {b : List Int} {gb dd : Nat} {J : Nat → Bool} (h : JW w0 base r m N size f k Z L b gb dd J w) : Below base w0 w := by
  obtain ⟨_, D, h, _⟩ := h
  exact h.dr.bel
/-- The first call comes up. -/
theorem JW.call1 {w0 w : World} {base r m N size f k : Nat} {Z : List Int} {L : List (List Int)} {b : List Int} {gb dd : Nat} {J : Nat → Bool} (h : JW w0 base r m N size f k Z L b gb dd J w) (h13 : J 13 = false) (env : Env w) (v : Value) (hv : ArgB w v b) (hb : ∀ z ∈ b, 0 ≤ z ∧ z ≤ 255) (hy : b ≠ [] → ∀ i, v.ownBlock = some i → i < base) (hd : dd ≤ 900000) (hf : usedL L + b.length + 10 ≤ k * size) :
    Calls Tryd.prog 13 #[.pointer (some ⟨gb, 0, none⟩), v] w fun e w' => e = .returned (.int .i64 0) ∧ JW w0 base r m N size f k Z L b gb dd (setL J 13) w' := by
  obtain ⟨h1, D, ht, hde⟩ := h
  have h20 : J 20 = false := by
    cases hj : J 20 with
    | false => rfl
    | true => have := h1 hj; rw [h13] at this; cases this
  rw [h13, h20] at ht
  rw [h13] at hde
  refine (tr_append ht env v b hv hb hy (by simp at hde; omega) hf).mono ?_
  rintro e w' ⟨rfl, D', ht', hd'⟩
  refine ⟨rfl, fun _ => setL_self J 13, D', ?_, ?_⟩
  · rw [setL_self, setL_ne J (by decide), h20]
    exact ht'
  · rw [setL_self]
    simp at hde ⊢
    omega
/-- The second. -/
theorem JW.call2 {w0 w : World} {base r m N size f k : Nat} {Z : List Int} {L : List (List Int)} {b : List Int} {gb dd : Nat} {J : Nat → Bool} (h : JW w0 base r m N size f k Z L b gb dd J w) (h20 : J 20 = false) (h13 : J 13 = true) (v : Value) (hv : ArgB w v b) (hy : b ≠ [] → ∀ i, v.ownBlock = some i → i < base) (hf : usedL L + b.length + 10 ≤ k * size) :
    Calls Tryd.prog 14 #[.pointer (some ⟨m, 0, none⟩), v] w fun e w' => e = .returned (.int .i64 0) ∧ JW w0 base r m N size f k Z L b gb dd (setL J 20) w' := by
  obtain ⟨h1, D, ht, hde⟩ := h
  rw [h13, h20] at ht
  refine (tr_rapp ht v b hv hy hf).mono ?_
  rintro e w' ⟨rfl, ht'⟩
  refine ⟨rfl, fun _ => by rw [setL_ne J (by decide)]; exact h13, D, ?_, ?_⟩
  · rw [setL_self, setL_ne J (by decide), h13]
    exact ht'
  · rw [setL_ne J (by decide)]
    exact hde
theorem JW.done {w0 w : World} {base r m N size f k : Nat} {Z : List Int} {L : List (List Int)} {b : List Int} {gb dd : Nat} {J : Nat → Bool} (h : JW w0 base r m N size f k Z L b gb dd J w) (h13 : J 13 = true) (h20 : J 20 = true) : ∃ D, TR w0 w base r m N size f k Z (L ++ [b]) (L ++ [b]) D gb ∧ D.deeds ≤ dd + 1000 := by
  obtain ⟨_, D, ht, hde⟩ := h
  rw [h13, h20] at ht
  rw [h13] at hde
  exact ⟨D, ht, hde⟩

set_option maxRecDepth 100000 in
set_option maxHeartbeats 8000000 in
theorem walplays_bad (N size : Nat) (zf zk : Int) (lv : Value) (l : List ActW) (w : World) (env : Env w) (hlv : ActsW w lv l) (n0 : 1 ≤ N) (n1 : N ≤ 12) (s0 : 32 ≤ size) (s1 : size ≤ 512) (hlong : ¬ longL l) (f0 : -9223372036854775808 ≤ zf ∧ zf ≤ 9223372036854775807) (k0 : -9223372036854775808 ≤ zk ∧ zk ≤ 9223372036854775807) (hreg : ¬ OnReg N zf zk) :
    Calls Tryd.prog 3 #[.int .i64 (N : Int), .int .i64 (size : Int), .int .i64 zf, .int .i64 zk, lv] w fun e w' => e = .returned (.bool true) ∧ Below w.heap.size w w' := by
  have HENV := Lib.hid env
  have HLV := Lib.hid hlv
  have HLG := Lib.hid hlong
  have HMK : Hid (∀ w, Calls Tryd.prog 8 #[.int .i64 (N : Int), .int .i64 (size : Int)] w fun e w' => ∃ r O D, e = .returned (.pointer (some ⟨r, 0, none⟩)) ∧ DskIs w' w.heap.size O r D ∧ NFd N size D ∧ D.waits = [] ∧ D.deeds ≤ 1000 ∧ Below w.heap.size w w') := fun w => marked_any N size w n0 (by omega) s0 s1
  obtain ⟨la, lcap, rfl⟩ := hlv.size
  obtain ⟨NL, hNL⟩ : ∃ x, l.length = x := ⟨_, rfl⟩
  have HN := Lib.hid hNL
  have hN60 : l.length ≤ 60 := by have q := hlong; unfold longL at q; omega
  rw [hNL] at HLV hN60 ⊢
  have g1 : ¬ (N : Int) < 1 := by omega
  have g2 : ¬ (12 : Int) < (N : Int) := by omega
  have g3 : ¬ (size : Int) < 32 := by omega
  have g4 : ¬ (512 : Int) < (size : Int) := by omega
  have HON : Hid (∀ w, Calls Tryd.prog 11 #[.int .i64 (N : Int), .int .i64 zf, .int .i64 zk] w fun e w' => e = .returned (.bool false) ∧ w' = w) := fun w => (ron_any N zf zk w (by omega) f0.1 f0.2 k0.1 k0.2).mono fun e w' ⟨h, h2⟩ => ⟨by rw [h, decide_eq_false (show ¬ (0 ≤ zf ∧ 1 ≤ zk ∧ zf < (N : Int) ∧ zk ≤ (N : Int) - zf) from hreg)], h2⟩
  have HFK := Lib.hid (And.intro f0 k0)
  have HREG := Lib.hid hreg
  clear env hlv hlong n0 n1 s0 s1 f0 k0 hreg hNL
  go_enter Tryd.func3, Tryd.ntmps3
  go_wp2_with (first
    | (go_at_call 6; (with_reducible refine (wal_awake _ HENV.out).mono ?_); rintro e wa ⟨rfl, ga⟩; have GA := Lib.hid ga; have HLVA := Lib.hid (HLV.out.below ga); clear ga)
    | (go_at_call 7; (with_reducible refine (long_any _ l _ HLVA.out).mono ?_); rintro e wl ⟨b, rfl, hb, rfl⟩; obtain rfl : b = false := (by cases b; rfl; exact (HLG.out (hb.mp rfl)).elim); clear hb)
    | (go_at_call 8; (with_reducible refine (HMK.out _).mono ?_); rintro e wd ⟨r, O1, D1, rfl, d1, n1, ws1, de1, gd⟩; have GD := Lib.hid (below_step GA.out gd); have H1 := Lib.hid d1; have HNF := Lib.hid (And.intro n1 (And.intro ws1 de1)); have HALL := Lib.hid (fun W (hW : DskIs W wl.heap.size O1 r D1) => all_nf wl.heap.size O1 r D1 W hW n1.dark ws1 (by omega)); obtain ⟨XZ, hXZ⟩ : ∃ x, strOfNums D1.last = x := ⟨_, rfl⟩; rw [hXZ] at HALL; clear d1 n1 ws1 de1 gd hXZ)
    | (go_at_call 9; (with_reducible refine (HALL.out _ H1.out).mono ?_); rintro e w2 ⟨rfl, g2⟩; have G2 := Lib.hid (below_step GD.out g2); have H2 := Lib.hid (H1.out.after g2); have HNR := Lib.hid (HNF.out.1.n ▸ HREG.out : ¬ OnReg D1.n zf zk); clear g2)
    | (go_at_call 10; (with_reducible refine (wformat_not _ O1 r D1 zf zk _ H2.out HNR.out HFK.out.1.1 HFK.out.1.2 HFK.out.2.1 HFK.out.2.2).mono ?_); rintro e w3 ⟨rfl, g3⟩; have G3 := Lib.hid (below_step G2.out g3); have H3 := Lib.hid (H2.out.after g3); clear g3)
    | (go_at_call 11; (with_reducible refine (HON.out _).mono ?_); rintro e w4 ⟨rfl, rfl⟩)
    | (go_at_call 12; (with_reducible refine (wopen_not _ O1 r D1 zf zk _ H3.out HNR.out HFK.out.1.1 HFK.out.1.2 HFK.out.2.1 HFK.out.2.2).mono ?_); rintro e w5 ⟨ra, rc, rfl, g5⟩; have G5 := Lib.hid (below_step G3.out g5); have H5 := Lib.hid (H3.out.after g5); clear g5)
    | (go_at_call 9; (with_reducible refine (HALL.out _ H5.out).mono ?_); rintro e w6 ⟨rfl, g6⟩; have G6 := Lib.hid (below_step G5.out g6); clear g6))
  go_ret
  exact ⟨rfl, G6.out⟩

set_option maxRecDepth 100000 in
set_option maxHeartbeats 8000000 in
theorem walplays_good (N size : Nat) (f k : Nat) (lv : Value) (l : List ActW) (w : World) (env : Env w) (hlv : ActsW w lv l) (n0 : 1 ≤ N) (n1 : N ≤ 12) (s0 : 32 ≤ size) (s1 : size ≤ 512) (hl : ∀ x ∈ l, x.Ok) (hlong : ¬ longL l)  (k1 : 1 ≤ k) (on : f + k ≤ N) :
    Calls Tryd.prog 3 #[.int .i64 (N : Int), .int .i64 (size : Int), .int .i64 (f : Int), .int .i64 (k : Int), lv] w fun e w' => e = .returned (.bool true) ∧ Below w.heap.size w w' := by
  have HL := Lib.hid hl
  have HENV := Lib.hid env
  have HLV := Lib.hid hlv
  have HLG := Lib.hid hlong
  have HMK : Hid (∀ w, Calls Tryd.prog 8 #[.int .i64 (N : Int), .int .i64 (size : Int)] w fun e w' => ∃ r O D, e = .returned (.pointer (some ⟨r, 0, none⟩)) ∧ DskIs w' w.heap.size O r D ∧ NFd N size D ∧ D.waits = [] ∧ D.deeds ≤ 1000 ∧ Below w.heap.size w w') := fun w => marked_any N size w n0 (by omega) s0 s1
  obtain ⟨la, lcap, rfl⟩ := hlv.size
  obtain ⟨NL, hNL⟩ : ∃ x, l.length = x := ⟨_, rfl⟩
  have HN := Lib.hid hNL
  have hN60 : l.length ≤ 60 := by have q := hlong; unfold longL at q; omega
  rw [hNL] at HLV hN60 ⊢
  have g1 : ¬ (N : Int) < 1 := by omega
  have g2 : ¬ (12 : Int) < (N : Int) := by omega
  have g3 : ¬ (size : Int) < 32 := by omega
  have g4 : ¬ (512 : Int) < (size : Int) := by omega
  have HON : Hid (∀ w, Calls Tryd.prog 11 #[.int .i64 (N : Int), .int .i64 (f : Int), .int .i64 (k : Int)] w fun e w' => e = .returned (.bool true) ∧ w' = w) := fun w => (ron_any N f k w (by omega) (by omega) (by omega) (by omega) (by omega)).mono fun e w' ⟨h, h2⟩ => ⟨by rw [h, decide_eq_true ⟨by omega, by omega, by omega, by omega⟩], h2⟩
  have HKN := Lib.hid (And.intro k1 on)
  obtain ⟨E, hE⟩ : ∃ x, k * size = x := ⟨_, rfl⟩
  obtain ⟨E1, hE1⟩ : ∃ x, f * size = x := ⟨_, rfl⟩
  obtain ⟨FK, hFK⟩ : ∃ x, f + k = x := ⟨_, rfl⟩
  obtain ⟨E2, hE2⟩ : ∃ x, FK * size = x := ⟨_, rfl⟩
  have HE := Lib.hid hE
  have HE1 := Lib.hid hE1
  have HE2 : Hid (f * size + k * size = E2) := by unfold Hid; rw [← Nat.add_mul, hFK]; exact hE2
  have b1 : k * size ≤ 12 * 512 := Nat.mul_le_mul (by omega) s1
  have b2 : f * size ≤ 12 * 512 := Nat.mul_le_mul (by omega) s1
  have b3 : FK * size ≤ 12 * 512 := Nat.mul_le_mul (by omega) s1
  have HBND := Lib.hid (And.intro b1 (And.intro b2 b3))
  have m1 : IntKind.i64.wrap ((k : Int) * (size : Int)) = (E : Int) := by rw [← Int.natCast_mul, hE, IntKind.wrap_i64]; omega
  have m2 : IntKind.i64.wrap ((f : Int) * (size : Int)) = (E1 : Int) := by rw [← Int.natCast_mul, hE1, IntKind.wrap_i64]; omega
  have m3 : IntKind.i64.wrap ((f : Int) + (k : Int)) = (FK : Int) := by rw [IntKind.wrap_i64]; omega
  have m4 : IntKind.i64.wrap ((FK : Int) * (size : Int)) = (E2 : Int) := by rw [← Int.natCast_mul, hE2, IntKind.wrap_i64]; omega
  clear env hlv hl hlong n0 n1 s0 s1 k1 on hNL hE hE1 hE2 hFK b1 b2 b3
  go_enter Tryd.func3, Tryd.ntmps3
  go_upto_block 0 with (first
    | (go_at_call 6; (with_reducible refine (wal_awake _ HENV.out).mono ?_); rintro e wa ⟨rfl, ga⟩; have GA := Lib.hid ga; have HLVA := Lib.hid (HLV.out.below ga); clear ga)
    | (go_at_call 7; (with_reducible refine (long_any _ l _ HLVA.out).mono ?_); rintro e wl ⟨b, rfl, hb, rfl⟩; obtain rfl : b = false := (by cases b; rfl; exact (HLG.out (hb.mp rfl)).elim); clear hb)
    | (go_at_call 8; (with_reducible refine (HMK.out _).mono ?_); rintro e wd ⟨r, O1, D1, rfl, d1, n1, ws1, de1, gd⟩; have GD := Lib.hid (below_step GA.out gd); have H1 := Lib.hid (d1.base GA.out.size); have HNF := Lib.hid (And.intro n1 (And.intro ws1 de1)); obtain ⟨Z, hZ⟩ : ∃ x, D1.last = x := ⟨_, rfl⟩; have HALL := Lib.hid (fun W (hW : DskIs W w.heap.size O1 r D1) => all_nf w.heap.size O1 r D1 W hW n1.dark ws1 (by omega)); rw [hZ] at HALL; have HZ := Lib.hid hZ; have HZB : Hid (∀ z ∈ Z, 0 ≤ z ∧ z ≤ 255) := (hZ ▸ d1.ok.lb); have HFIT0 : Hid (f * size + k * size ≤ Z.length) := (hZ ▸ reg_fit d1.ok n1 HKN.out.2); clear d1 n1 ws1 de1 gd hZ)
    | (go_at_call 9; (with_reducible refine (HALL.out _ H1.out).mono ?_); rintro e w2 ⟨rfl, g2⟩; have G2 := Lib.hid (below_step GD.out g2); have H2 := Lib.hid (H1.out.after g2); have HF2 := Lib.hid (wformat_nf w.heap.size O1 r N size D1 f k (f : Int) (k : Int) rfl rfl w2 (HENV.out.step G2.out) H2.out HNF.out.1 HKN.out.1 HKN.out.2 HNF.out.2.1 (by have := HNF.out.2.2; omega)); clear g2)
    | (go_at_call 10; (with_reducible refine (HF2.out).mono ?_); rintro e w3 ⟨D2, rfl, n3, ws3, de3, la3, O3, d3, o3, gr3⟩; have G3 := Lib.hid (G2.out.trans o3.bel); have HRG := Lib.hid (laid_reg (M := k * size) (by simp) (by rw [HZ.out]; exact HFIT0.out) la3); have N3 := Lib.hid (And.intro n3 (And.intro ws3 (by have := HNF.out.2.2; omega : D2.deeds ≤ 2000))); have HO3 := Lib.hid (wopen_nf w.heap.size O3 r N size D2 f k (f : Int) (k : Int) rfl rfl [] w3 (HENV.out.step G3.out) d3 n3 HKN.out.1 HKN.out.2 ws3 (by have := HNF.out.2.2; omega) (RecOk.nil _) (by rw [text_nil]; exact HRG.out.1)); clear d3 o3 gr3 n3 ws3 de3 la3 HF2)
    | (go_at_call 11; (with_reducible refine (HON.out _).mono ?_); rintro e w4 ⟨rfl, rfl⟩)
    | (go_at_call 12; (with_reducible refine (HO3.out).mono ?_); rintro e w5 ⟨O5, gb, OG, OR, rv, rfl, d5, o5, gr5, lg5, ll5, ds5, dd5⟩; have G5 := Lib.hid (G3.out.trans o5.bel); obtain ⟨ra, rc, rfl⟩ := ll5.size; have HTR0 := Lib.hid (tr_start (za := (E : Int)) (Z := Z) (by rw [HE.out]) d5 N3.out.1 N3.out.2.1 (by rw [text_nil]; exact HRG.out.1) (by have q := HRG.out.2; rw [HZ.out] at q; exact q) (lg5.base G3.out.size) (fun i hi hg => dd5 i hg hi) G5.out HKN.out.1 HKN.out.2); clear d5 o5 gr5 lg5 ll5 ds5 dd5 HO3))
  obtain ⟨m, hm⟩ : ∃ x, w5.heap.size = x := ⟨_, rfl⟩
  rw [hm] at HTR0
  simp only [hm]
  clear hm g1 g2 g3 g4
  go_wp2_with fail
  go_loopw [17, 18, 19, 21, 22] (fun v17 _ _ v21 _ wr => ∃ (i gb : Nat) (L : List (List Int)) (D : Dsk), v17 = .pointer (some ⟨gb, 0, none⟩) ∧ v21 = .int .i64 (i : Int) ∧ i ≤ NL ∧ TR w wr w.heap.size r m N size f k Z L L D gb ∧ D.deeds ≤ 2000 + i * 2000) (fun _ _ _ v21 _ _ => NL - (intOf v21).toNat)
  case atStart => exact ⟨0, gb, [], D2, rfl, rfl, Nat.zero_le _, HTR0.out, N3.out.2.2⟩
  case round =>
    obtain ⟨i, gb, L, D, rfl, rfl, hi, htr, hde⟩ := hrel
    have HTR := Lib.hid htr
    have HDE : Hid (D.deeds ≤ 2000 + i * 2000 ∧ i ≤ 60) := ⟨hde, by omega⟩
    have HEN := Lib.hid (fun W (hW : Below w.heap.size w W) => HENV.out.step hW)
    by_cases hlt : i < NL
    case neg =>
      have hli : ¬ (i : Int) < (NL : Int) := by omega
      have AL := Lib.hid (fun W (hW : Below wr.heap.size wr W) => (dr_all (HTR.out.dr.after hW) (by have := HDE.out; omega)).1)
      have TX := Lib.hid (fun W (hW : Below wr.heap.size wr W) => (dr_all (HTR.out.dr.after hW) (by have := HDE.out; omega)).2.1)
      have hl1 := (dr_all HTR.out.dr (by have := HDE.out; omega)).2.2
      have hz1 := fun W => slice_text_to Z HZB.out E1 (E1 : Int) rfl (by have q1 := HFIT0.out; have q2 := HE1.out; omega) W
      have hz2 := fun W => slice_text_from Z HZB.out E2 (E2 : Int) rfl (by have q1 := HFIT0.out; have q2 := HE2.out; omega) W
      rw [HE2.out, HE1.out] at AL hl1
      obtain ⟨XA, hXA⟩ : ∃ x, strOfNums (Z.take E1) = x := ⟨_, rfl⟩
      obtain ⟨XB, hXB⟩ : ∃ x, strOfNums (textL L (k * size)) = x := ⟨_, rfl⟩
      obtain ⟨XC, hXC⟩ : ∃ x, strOfNums (Z.drop E2) = x := ⟨_, rfl⟩
      rw [hXA] at hz1 AL hl1
      rw [hXB] at TX AL hl1
      rw [hXC] at hz2 AL hl1
      have hj1 : ¬ (9223372036854775807 < XA.size + XB.size) := by omega
      have hj2 : ¬ (9223372036854775807 < XA.size + XB.size + XC.size) := by omega
      clear hXA hXB hXC hl1 htr hde
      go_wp2
      refine wp_region_quiet_below (by kernel_rfl) (by kernel_rfl) ?_
      repeat (quiet_step (first
        | (go_at_call 9; exact Calls.regrown_of (AL.out _ (below_regrown _ _ _)))
        | (go_at_call 21; exact Calls.regrown_of (TX.out _ (below_regrown _ _ _)))))
      refine wpQuiet_nil ?_
      intro _ hw'
      obtain ⟨⟨dq, osq⟩, hw''⟩ := hw'
      subst hw''
      have hfin := Lib.hid ((HTR.out.after (below_regrown wr dq osq)).dr.bel)
      generalize Go.Sort.grow (redrawn wr dq) osq = W3 at hfin ⊢
      go_wp2
      go_ret
      exact ⟨rfl, hfin.out⟩
    case pos =>
    have hli : (i : Int) < (NL : Int) := by omega
    obtain ⟨bb, bo, bv, ela, hblt, hcells, hbvlt⟩ := HLV.out.one (i := i) (by rw [HN.out]; exact hlt)
    subst ela
    obtain ⟨b, hbb⟩ : ∃ b, (l.getD i {}).b = b := ⟨_, rfl⟩
    obtain ⟨kind, hkd⟩ : ∃ b, (l.getD i {}).kind = b := ⟨_, rfl⟩
    have hok := HL.out (l.getD i {}) (by rw [List.getD_eq_getElem?_getD, List.getElem?_eq_getElem (by rw [HN.out]; exact hlt)]; exact List.getElem_mem _)
    have hbl : b.length ≤ 2000 := by
      have q := HLG.out
      unfold longL at q
      rw [← hbb]
      exact Nat.le_of_not_lt (fun hx => q (Or.inr ⟨i, by rw [HN.out]; exact hlt, hx⟩))
    have hbyte := hok.b0
    have HCELL := Lib.hid (fun W (hW : Below w.heap.size w W) => hcells W _ rfl hW)
    rw [hbb] at HCELL hbyte hbvlt
    rw [hkd] at HCELL
    obtain ⟨ba, bc, rfl⟩ := (HCELL.out wr htr.dr.bel).2.2.size
    obtain ⟨BL, hBL⟩ : ∃ x, b.length = x := ⟨_, rfl⟩
    rw [hBL] at HCELL hbvlt
    have HBL2 : Hid (b.length ≤ 2000) := hbl
    have HBY := Lib.hid hbyte
    have HBV := Lib.hid hbvlt
    have hw0 : IntKind.i64.wrap ((E : Int) - (usedL L : Int)) = (E : Int) - (usedL L : Int) := by have q := htr.rec; have q2 := HE.out; rw [IntKind.wrap_i64]; omega
    clear hcells hok hbb hkd htr hde hbyte hbvlt hBL hbl
    by_cases q1 : kind = 1
    case pos =>
      subst q1
      by_cases hfit : usedL L + b.length + 10 ≤ k * size
      case pos =>
        have HFIT := Lib.hid hfit
        have HDD : Hid (D.deeds ≤ 900000) := by have := HDE.out; unfold Hid; omega
        clear hfit hw0
        go_wp2
        refine wp_region_mixj 23 (TW (.slice (some ⟨bb, bo, none⟩) NL lcap) (.int .i64 (i : Int)) (.slice ba BL bc) bb (bo + i * 2) gb m) (JW w w.heap.size r m N size f k Z L b gb D.deeds) (by kernel_rfl) (by kernel_rfl) ⟨fun h => h, D, HTR.out.after (Below.refl _ _).drew, Nat.le_refl _⟩ ?_ ?_
        · simp only [List.take_succ_cons, List.take_zero]
          refine (StepsJ.cons ?_ (StepsJ.cons ?_ (StepsJ.cons ?_ (StepsJ.cons ?_ (StepsJ.cons ?_ (StepsJ.cons ?_ (StepsJ.cons ?_ (StepsJ.cons ?_ (StepsJ.cons ?_ (StepsJ.cons ?_ (StepsJ.cons ?_ (StepsJ.cons ?_ (StepsJ.cons ?_ (StepsJ.cons ?_ (StepsJ.cons ?_ (StepsJ.cons ?_ (StepsJ.cons ?_ (StepsJ.cons ?_ (StepsJ.cons ?_ (StepsJ.cons ?_ (StepsJ.cons ?_ (StepsJ.cons ?_ (StepsJ.cons ?_ StepsJ.nil)))))))))))))))))))))))
          · intro u W J hL hJ hd
            simp only [putAll, Act.put, List.setIfInBounds_toArray, List.set_cons_succ, List.set_cons_zero, Nat.zero_add, Nat.reduceAdd]
            have hj1 := hJ.light (i := 0) (by decide) (by decide)
            go_wp2
            first | exact ⟨rfl, hj1⟩ | exact ⟨_, rfl, rfl, hj1, fun j v' _ _ h => h⟩ | exact ⟨rfl, hj1, fun j v' _ _ h => h⟩ | exact rfl
          · intro u W J hL hJ hd
            simp only [putAll, Act.put, List.setIfInBounds_toArray, List.set_cons_succ, List.set_cons_zero, Nat.zero_add, Nat.reduceAdd]
            have hj1 := hJ.light (i := 1) (by decide) (by decide)
            go_wp2
            first | exact ⟨rfl, hj1⟩ | exact ⟨_, rfl, rfl, hj1, fun j v' _ _ h => h⟩ | exact ⟨rfl, hj1, fun j v' _ _ h => h⟩ | exact rfl
          · intro u W J hL hJ hd
            have e0 : u 0 = .slice (some ⟨bb, bo, none⟩) NL lcap := (hd.1 rfl (by decide)).2
            have e1 : u 1 = .int .i64 (i : Int) := (hd.2.1 rfl (by decide)).2
            simp only [putAll, Act.put, List.setIfInBounds_toArray, List.set_cons_succ, List.set_cons_zero, Nat.zero_add, Nat.reduceAdd]
            rw [e0, e1]
            have hj1 := hJ.light (i := 2) (by decide) (by decide)
            go_wp2
            first | exact ⟨rfl, hj1⟩ | exact ⟨_, rfl, rfl, hj1, fun j v' _ _ h => h⟩ | exact ⟨rfl, hj1, fun j v' _ _ h => h⟩ | exact rfl
          · intro u W J hL hJ hd
            have e0 : u 2 = .pointer (some ⟨bb, bo + i * 2, none⟩) := (hd.1 rfl (by decide)).2
            simp only [putAll, Act.put, List.setIfInBounds_toArray, List.set_cons_succ, List.set_cons_zero, Nat.zero_add, Nat.reduceAdd]
            rw [e0]
            have hj1 := hJ.light (i := 3) (by decide) (by decide)
            go_wp2
            first | exact ⟨rfl, hj1⟩ | exact ⟨_, rfl, rfl, hj1, fun j v' _ _ h => h⟩ | exact ⟨rfl, hj1, fun j v' _ _ h => h⟩ | exact rfl
          · intro u W J hL hJ hd
            have e0 : u 3 = .pointer (some ⟨bb, bo + i * 2, none⟩) := (hd.1 rfl (by decide)).2
            have q1 := (HCELL.out W hJ.bel).1
            simp only [putAll, Act.put, List.setIfInBounds_toArray, List.set_cons_succ, List.set_cons_zero, Nat.zero_add, Nat.reduceAdd]
            rw [e0]
            have hj1 := hJ.light (i := 4) (by decide) (by decide)
            go_wp2
            first | exact ⟨rfl, hj1⟩ | exact ⟨_, rfl, rfl, hj1, fun j v' _ _ h => h⟩ | exact ⟨rfl, hj1, fun j v' _ _ h => h⟩ | exact rfl
          · intro u W J hL hJ hd
            have e0 : u 4 = .int .i64 1 := (hd.1 rfl (by decide)).2
            simp only [putAll, Act.put, List.setIfInBounds_toArray, List.set_cons_succ, List.set_cons_zero, Nat.zero_add, Nat.reduceAdd]
            rw [e0]
            have hj1 := hJ.light (i := 5) (by decide) (by decide)
            go_wp2
            first | exact ⟨rfl, hj1⟩ | exact ⟨_, rfl, rfl, hj1, fun j v' _ _ h => h⟩ | exact ⟨rfl, hj1, fun j v' _ _ h => h⟩ | exact rfl
          · intro u W J hL hJ hd
            have e0 : u 5 = .bool true := (hd.1 rfl (by decide)).2
            simp only [putAll, Act.put, List.setIfInBounds_toArray, List.set_cons_succ, List.set_cons_zero, Nat.zero_add, Nat.reduceAdd]
            rw [e0]
            have hj1 := hJ.light (i := 6) (by decide) (by decide)
            go_wp2
            first | exact ⟨rfl, hj1⟩ | exact ⟨_, rfl, rfl, hj1, fun j v' _ _ h => h⟩ | exact ⟨rfl, hj1, fun j v' _ _ h => h⟩ | exact rfl
          · intro u W J hL hJ hd
            have e0 : u 6 = .bool true := (hd.1 rfl (by decide)).2
            simp only [putAll, Act.put, List.setIfInBounds_toArray, List.set_cons_succ, List.set_cons_zero, Nat.zero_add, Nat.reduceAdd]
            rw [e0]
            have hj1 := hJ.light (i := 7) (by decide) (by decide)
            go_wp2
            first | exact ⟨rfl, hj1⟩ | exact ⟨_, rfl, rfl, hj1, fun j v' _ _ h => h⟩ | exact ⟨rfl, hj1, fun j v' _ _ h => h⟩ | exact rfl
          · intro u W J hL hJ hd
            have e0 : u 6 = .bool true := (hd.1 rfl (by decide)).2
            simp only [putAll, Act.put, List.setIfInBounds_toArray, List.set_cons_succ, List.set_cons_zero, Nat.zero_add, Nat.reduceAdd]
            rw [e0]
            have hj1 := hJ.light (i := 8) (by decide) (by decide)
            go_wp2
            first | exact ⟨rfl, hj1⟩ | exact ⟨_, rfl, rfl, hj1, fun j v' _ _ h => h⟩ | exact ⟨rfl, hj1, fun j v' _ _ h => h⟩ | exact rfl
          · intro u W J hL hJ hd
            have e0 : u 6 = .bool true := (hd.1 rfl (by decide)).2
            simp only [putAll, Act.put, List.setIfInBounds_toArray, List.set_cons_succ, List.set_cons_zero, Nat.zero_add, Nat.reduceAdd]
            rw [e0]
            have hj1 := hJ.light (i := 9) (by decide) (by decide)
            go_wp2
            first | exact ⟨rfl, hj1⟩ | exact ⟨_, rfl, rfl, hj1, fun j v' _ _ h => h⟩ | exact ⟨rfl, hj1, fun j v' _ _ h => h⟩ | exact rfl
          · intro u W J hL hJ hd
            have e0 : u 8 = .slice (some ⟨bb, bo, none⟩) NL lcap := (hd.1 rfl (by decide)).2
            have e1 : u 9 = .int .i64 (i : Int) := (hd.2.1 rfl (by decide)).2
            have e2 : u 6 = .bool true := (hd.2.2.1 rfl (by decide)).2
            simp only [putAll, Act.put, List.setIfInBounds_toArray, List.set_cons_succ, List.set_cons_zero, Nat.zero_add, Nat.reduceAdd]
            rw [e0, e1, e2]
            have hj1 := hJ.light (i := 10) (by decide) (by decide)
            go_wp2
            first | exact ⟨rfl, hj1⟩ | exact ⟨_, rfl, rfl, hj1, fun j v' _ _ h => h⟩ | exact ⟨rfl, hj1, fun j v' _ _ h => h⟩ | exact rfl
          · intro u W J hL hJ hd
            have e0 : u 10 = .pointer (some ⟨bb, bo + i * 2, none⟩) := (hd.1 rfl (by decide)).2
            have e1 : u 6 = .bool true := (hd.2.1 rfl (by decide)).2
            simp only [putAll, Act.put, List.setIfInBounds_toArray, List.set_cons_succ, List.set_cons_zero, Nat.zero_add, Nat.reduceAdd]
            rw [e0, e1]
            have hj1 := hJ.light (i := 11) (by decide) (by decide)
            go_wp2
            first | exact ⟨rfl, hj1⟩ | exact ⟨_, rfl, rfl, hj1, fun j v' _ _ h => h⟩ | exact ⟨rfl, hj1, fun j v' _ _ h => h⟩ | exact rfl
          · intro u W J hL hJ hd
            have e0 : u 11 = .pointer (some ⟨bb, bo + i * 2 + 1, none⟩) := (hd.1 rfl (by decide)).2
            have e1 : u 6 = .bool true := (hd.2.1 rfl (by decide)).2
            have q1 := (HCELL.out W hJ.bel).2.1
            simp only [putAll, Act.put, List.setIfInBounds_toArray, List.set_cons_succ, List.set_cons_zero, Nat.zero_add, Nat.reduceAdd]
            rw [e0, e1]
            have hj1 := hJ.light (i := 12) (by decide) (by decide)
            go_wp2
            first | exact ⟨rfl, hj1⟩ | exact ⟨_, rfl, rfl, hj1, fun j v' _ _ h => h⟩ | exact ⟨rfl, hj1, fun j v' _ _ h => h⟩ | exact rfl
          · intro u W J hL hJ hd
            have e0 : u 7 = .pointer (some ⟨gb, 0, none⟩) := (hd.1 rfl (by decide)).2
            have e1 : u 12 = .slice ba BL bc := (hd.2.1 rfl (by decide)).2
            have e3 : u 6 = .bool true := (hd.2.2.2.1 rfl (by decide)).2
            simp only [putAll, Act.put, List.setIfInBounds_toArray, List.set_cons_succ, List.set_cons_zero, Nat.zero_add, Nat.reduceAdd]
            rw [e0, e1, e3]
            have hc := hJ.call1 hL (HEN.out W hJ.bel) (.slice ba BL bc) (HCELL.out W hJ.bel).2.2 HBY.out HBV.out HDD.out HFIT.out
            go_wp2_with (go_at_call 13; (with_reducible refine (hc).mono ?_); rintro e W1 ⟨rfl, hj1⟩)
            first | exact ⟨_, rfl, rfl, hj1, fun j v' _ _ h => TW.any j v' _ _ h⟩ | exact ⟨rfl, hj1, fun j v' _ _ h => TW.any j v' _ _ h⟩
          · intro u W J hL hJ hd
            have e0 : u 6 = .bool true := (hd.1 rfl (by decide)).2
            simp only [putAll, Act.put, List.setIfInBounds_toArray, List.set_cons_succ, List.set_cons_zero, Nat.zero_add, Nat.reduceAdd]
            rw [e0]
            have hj1 := hJ.light (i := 14) (by decide) (by decide)
            go_wp2
            first | exact ⟨rfl, hj1⟩ | exact ⟨_, rfl, rfl, hj1, fun j v' _ _ h => h⟩ | exact ⟨rfl, hj1, fun j v' _ _ h => h⟩ | exact rfl
          · intro u W J hL hJ hd
            have e0 : u 6 = .bool true := (hd.1 rfl (by decide)).2
            simp only [putAll, Act.put, List.setIfInBounds_toArray, List.set_cons_succ, List.set_cons_zero, Nat.zero_add, Nat.reduceAdd]
            rw [e0]
            have hj1 := hJ.light (i := 15) (by decide) (by decide)
            go_wp2
            first | exact ⟨rfl, hj1⟩ | exact ⟨_, rfl, rfl, hj1, fun j v' _ _ h => h⟩ | exact ⟨rfl, hj1, fun j v' _ _ h => h⟩ | exact rfl
          · intro u W J hL hJ hd
            have e0 : u 6 = .bool true := (hd.1 rfl (by decide)).2
            simp only [putAll, Act.put, List.setIfInBounds_toArray, List.set_cons_succ, List.set_cons_zero, Nat.zero_add, Nat.reduceAdd]
            rw [e0]
            have hj1 := hJ.light (i := 16) (by decide) (by decide)
            go_wp2
            first | exact ⟨rfl, hj1⟩ | exact ⟨_, rfl, rfl, hj1, fun j v' _ _ h => h⟩ | exact ⟨rfl, hj1, fun j v' _ _ h => h⟩ | exact rfl
          · intro u W J hL hJ hd
            have e0 : u 15 = .slice (some ⟨bb, bo, none⟩) NL lcap := (hd.1 rfl (by decide)).2
            have e1 : u 16 = .int .i64 (i : Int) := (hd.2.1 rfl (by decide)).2
            have e2 : u 6 = .bool true := (hd.2.2.1 rfl (by decide)).2
            simp only [putAll, Act.put, List.setIfInBounds_toArray, List.set_cons_succ, List.set_cons_zero, Nat.zero_add, Nat.reduceAdd]
            rw [e0, e1, e2]
            have hj1 := hJ.light (i := 17) (by decide) (by decide)
            go_wp2
            first | exact ⟨rfl, hj1⟩ | exact ⟨_, rfl, rfl, hj1, fun j v' _ _ h => h⟩ | exact ⟨rfl, hj1, fun j v' _ _ h => h⟩ | exact rfl
          · intro u W J hL hJ hd
            have e0 : u 17 = .pointer (some ⟨bb, bo + i * 2, none⟩) := (hd.1 rfl (by decide)).2
            have e1 : u 6 = .bool true := (hd.2.1 rfl (by decide)).2
            simp only [putAll, Act.put, List.setIfInBounds_toArray, List.set_cons_succ, List.set_cons_zero, Nat.zero_add, Nat.reduceAdd]
            rw [e0, e1]
            have hj1 := hJ.light (i := 18) (by decide) (by decide)
            go_wp2
            first | exact ⟨rfl, hj1⟩ | exact ⟨_, rfl, rfl, hj1, fun j v' _ _ h => h⟩ | exact ⟨rfl, hj1, fun j v' _ _ h => h⟩ | exact rfl
          · intro u W J hL hJ hd
            have e0 : u 18 = .pointer (some ⟨bb, bo + i * 2 + 1, none⟩) := (hd.1 rfl (by decide)).2
            have e1 : u 6 = .bool true := (hd.2.1 rfl (by decide)).2
            have q1 := (HCELL.out W hJ.bel).2.1
            simp only [putAll, Act.put, List.setIfInBounds_toArray, List.set_cons_succ, List.set_cons_zero, Nat.zero_add, Nat.reduceAdd]
            rw [e0, e1]
            have hj1 := hJ.light (i := 19) (by decide) (by decide)
            go_wp2
            first | exact ⟨rfl, hj1⟩ | exact ⟨_, rfl, rfl, hj1, fun j v' _ _ h => h⟩ | exact ⟨rfl, hj1, fun j v' _ _ h => h⟩ | exact rfl
          · intro u W J hL hJ hd
            have e0 : u 14 = .pointer (some ⟨m, 0, none⟩) := (hd.1 rfl (by decide)).2
            have e1 : u 19 = .slice ba BL bc := (hd.2.1 rfl (by decide)).2
            have e3 : u 6 = .bool true := (hd.2.2.2.1 rfl (by decide)).2
            have h13 : J 13 = true := (hd.2.2.1 rfl (by decide)).1
            simp only [putAll, Act.put, List.setIfInBounds_toArray, List.set_cons_succ, List.set_cons_zero, Nat.zero_add, Nat.reduceAdd]
            rw [e0, e1, e3]
            have hc := hJ.call2 hL h13 (.slice ba BL bc) (HCELL.out W hJ.bel).2.2 HBV.out HFIT.out
            go_wp2_with (go_at_call 14; (with_reducible refine (hc).mono ?_); rintro e W1 ⟨rfl, hj1⟩)
            first | exact ⟨_, rfl, rfl, hj1, fun j v' _ _ h => TW.any j v' _ _ h⟩ | exact ⟨rfl, hj1, fun j v' _ _ h => TW.any j v' _ _ h⟩
          · intro u W J hL hJ hd
            have e0 : u 13 = .int .i64 0 := (hd.1 rfl (by decide)).2
            have e1 : u 20 = .int .i64 0 := (hd.2.1 rfl (by decide)).2
            have e2 : u 6 = .bool true := (hd.2.2.1 rfl (by decide)).2
            simp only [putAll, Act.put, List.setIfInBounds_toArray, List.set_cons_succ, List.set_cons_zero, Nat.zero_add, Nat.reduceAdd]
            rw [e0, e1, e2]
            have hj1 := hJ.light (i := 21) (by decide) (by decide)
            go_wp2
            first | exact ⟨rfl, hj1⟩ | exact ⟨_, rfl, rfl, hj1, fun j v' _ _ h => h⟩ | exact ⟨rfl, hj1, fun j v' _ _ h => h⟩ | exact rfl
          · intro u W J hL hJ hd
            have e0 : u 6 = .bool true := (hd.1 rfl (by decide)).2
            have e1 : u 21 = .bool false := (hd.2.1 rfl (by decide)).2
            simp only [putAll, Act.put, List.setIfInBounds_toArray, List.set_cons_succ, List.set_cons_zero, Nat.zero_add, Nat.reduceAdd]
            rw [e0, e1]
            have hj1 := hJ.light (i := 22) (by decide) (by decide)
            go_wp2
            first | exact ⟨rfl, hj1⟩ | exact ⟨_, rfl, rfl, hj1, fun j v' _ _ h => h⟩ | exact ⟨rfl, hj1, fun j v' _ _ h => h⟩ | exact rfl
        · intro u W J hall hJ hT
          have hdn := hJ.done (hall 13 (by decide)) (hall 20 (by decide))
          have e0 : u 0 = .slice (some ⟨bb, bo, none⟩) NL lcap := hT 0 (by decide)
          have e1 : u 1 = .int .i64 (i : Int) := hT 1 (by decide)
          have e2 : u 2 = .pointer (some ⟨bb, bo + i * 2, none⟩) := hT 2 (by decide)
          have e3 : u 3 = .pointer (some ⟨bb, bo + i * 2, none⟩) := hT 3 (by decide)
          have e4 : u 4 = .int .i64 1 := hT 4 (by decide)
          have e5 : u 5 = .bool true := hT 5 (by decide)
          have e6 : u 6 = .bool true := hT 6 (by decide)
          have e7 : u 7 = .pointer (some ⟨gb, 0, none⟩) := hT 7 (by decide)
          have e8 : u 8 = .slice (some ⟨bb, bo, none⟩) NL lcap := hT 8 (by decide)
          have e9 : u 9 = .int .i64 (i : Int) := hT 9 (by decide)
          have e10 : u 10 = .pointer (some ⟨bb, bo + i * 2, none⟩) := hT 10 (by decide)
          have e11 : u 11 = .pointer (some ⟨bb, bo + i * 2 + 1, none⟩) := hT 11 (by decide)
          have e12 : u 12 = .slice ba BL bc := hT 12 (by decide)
          have e13 : u 13 = .int .i64 0 := hT 13 (by decide)
          have e14 : u 14 = .pointer (some ⟨m, 0, none⟩) := hT 14 (by decide)
          have e15 : u 15 = .slice (some ⟨bb, bo, none⟩) NL lcap := hT 15 (by decide)
          have e16 : u 16 = .int .i64 (i : Int) := hT 16 (by decide)
          have e17 : u 17 = .pointer (some ⟨bb, bo + i * 2, none⟩) := hT 17 (by decide)
          have e18 : u 18 = .pointer (some ⟨bb, bo + i * 2 + 1, none⟩) := hT 18 (by decide)
          have e19 : u 19 = .slice ba BL bc := hT 19 (by decide)
          have e20 : u 20 = .int .i64 0 := hT 20 (by decide)
          have e21 : u 21 = .bool false := hT 21 (by decide)
          have e22 : u 22 = .bool false := hT 22 (by decide)
          clear hJ hT hall
          simp only [List.take_succ_cons, List.take_zero, List.drop_succ_cons, List.drop_nil, putAll, Act.put, List.setIfInBounds_toArray, List.set_cons_succ, List.set_cons_zero, Nat.zero_add, Nat.reduceAdd]
          rw [e0, e1, e2, e3, e4, e5, e6, e7, e8, e9, e10, e11, e12, e13, e14, e15, e16, e17, e18, e19, e20, e21, e22]
          clear e0 e1 e2 e3 e4 e5 e6 e7 e8 e9 e10 e11 e12 e13 e14 e15 e16 e17 e18 e19 e20 e21 e22
          obtain ⟨D4, ht4, hd4⟩ := hdn
          have HT := Lib.hid ht4
          have HDE4 : Hid (D4.deeds ≤ 2000 + (i + 1) * 2000 ∧ i ≤ 60) := by have := HDE.out; exact ⟨by omega, this.2⟩
          have hw4 : IntKind.i64.wrap ((E : Int) - (usedL (L ++ [b]) : Int)) = (E : Int) - (usedL (L ++ [b]) : Int) := by have q := ht4.rec; have q2 := HE.out; rw [IntKind.wrap_i64]; omega
          have kc0 := (HCELL.out W ht4.dr.bel).1
          clear ht4 hd4
          go_wp2_with (first
            | (go_at_call 17; (with_reducible refine (tr_used HT.out).mono ?_); rintro e wu ⟨rfl, gu⟩; have HT2 := Lib.hid (HT.out.after gu); clear gu)
            | (go_at_call 18; (with_reducible refine (tr_rused HT2.out).mono ?_); rintro e wv ⟨rfl, rfl⟩)
            | (go_at_call 19; have hrm := tr_room HT2.out; rw [HE.out] at hrm; (with_reducible refine (hrm).mono ?_); rintro e wq ⟨rfl, gq⟩; have HT3 := Lib.hid (HT2.out.after gq); clear gq)
            | (go_at_call 18; (with_reducible refine (tr_rused HT3.out).mono ?_); rintro e wv ⟨rfl, rfl⟩)
            | (go_at_call 20; (with_reducible refine (dr_waits HT3.out.dr (by have := HDE4.out; omega)).mono ?_); rintro e wy ⟨rfl, gy⟩; have HT4 := Lib.hid (HT3.out.after gy); clear gy))
          go_roundw
          case rel => exact ⟨i + 1, gb, L ++ [b], D4, rfl, by go_num, hlt, HT4.out, by have := HDE4.out; omega⟩
          case measure => simp [intOf]; omega
      case neg =>
        have HNF4 := Lib.hid hfit
        have A1 := Lib.hid (fun W (hW : Below wr.heap.size wr W) => tr_append_full (HTR.out.after hW) (HEN.out W (HTR.out.after hW).dr.bel) (.slice ba BL bc) b (HCELL.out W (HTR.out.after hW).dr.bel).2.2 HBL2.out HNF4.out)
        have A2 := Lib.hid (fun W (hW : Below wr.heap.size wr W) => tr_rapp_full (HTR.out.after hW) (.slice ba BL bc) b (HCELL.out W (HTR.out.after hW).dr.bel).2.2 HBL2.out HNF4.out)
        have f1 := And.intro (cell_regrown (HCELL.out wr HTR.out.dr.bel).1) (cell_regrown (HCELL.out wr HTR.out.dr.bel).2.1)
        have f2 := f1.1
        have f3 := f1.2
        clear hfit
        go_wp2
        refine wp_region_quiet_below (by kernel_rfl) (by kernel_rfl) ?_
        repeat (quiet_step (first
          | (go_at_call 13; exact Calls.regrown_of (A1.out _ (below_regrown _ _ _)))
          | (go_at_call 14; exact Calls.regrown_of (A2.out _ (below_regrown _ _ _)))))
        clear f2 f3
        refine wpQuiet_nil ?_
        intro _ hw'
        obtain ⟨⟨dq, osq⟩, hw''⟩ := hw'
        subst hw''
        have HT := Lib.hid (HTR.out.after (below_regrown wr dq osq))
        clear f1
        generalize Go.Sort.grow (redrawn wr dq) osq = W3 at HT ⊢
        have kc0 := (HCELL.out W3 HT.out.dr.bel).1
        go_wp2_with (first
          | (go_at_call 17; (with_reducible refine (tr_used HT.out).mono ?_); rintro e wu ⟨rfl, gu⟩; have HT2 := Lib.hid (HT.out.after gu); clear gu)
          | (go_at_call 18; (with_reducible refine (tr_rused HT2.out).mono ?_); rintro e wv ⟨rfl, rfl⟩)
          | (go_at_call 19; have hrm := tr_room HT2.out; rw [HE.out] at hrm; (with_reducible refine (hrm).mono ?_); rintro e wq ⟨rfl, gq⟩; have HT3 := Lib.hid (HT2.out.after gq); clear gq)
          | (go_at_call 18; (with_reducible refine (tr_rused HT3.out).mono ?_); rintro e wv ⟨rfl, rfl⟩)
          | (go_at_call 20; (with_reducible refine (dr_waits HT3.out.dr (by have := HDE.out; omega)).mono ?_); rintro e wy ⟨rfl, gy⟩; have HT4 := Lib.hid (HT3.out.after gy); clear gy))
        go_roundw
        case rel => exact ⟨i + 1, gb, L, D, rfl, by go_num, hlt, HT4.out, by have := HDE.out; omega⟩
        case measure => simp [intOf]; omega
    case neg =>
    have f1 := cell_regrown (HCELL.out wr HTR.out.dr.bel).1
    go_wp2
    refine wp_region_quiet_below (by kernel_rfl) (by kernel_rfl) ?_
    repeat (quiet_step (first | (go_at_call 13; exact HTR)))
    refine wpQuiet_nil ?_
    intro _ hw'
    obtain ⟨⟨dq, osq⟩, hw''⟩ := hw'
    subst hw''
    have HT := Lib.hid (HTR.out.after (below_regrown wr dq osq))
    clear f1
    generalize Go.Sort.grow (redrawn wr dq) osq = W3 at HT ⊢
    have kc0 := (HCELL.out W3 HT.out.dr.bel).1
    by_cases q3 : kind = 3
    · subst q3
      clear q1
      obtain ⟨na, nc, nc0, nq0, _⟩ := HT.out.dr.cell
      have HNL := Lib.hid (dr_nil HT.out.dr)
      have kc1 := (HCELL.out _ HNL.out.bel).1
      go_wp2_with (first
        | (go_at_call 10; (with_reducible refine (dr_format HNL.out (HEN.out _ HNL.out.bel) (by have := HDE.out; omega)).mono ?_); rintro e wf ⟨rfl, DF, hdf, hdd⟩; have HF := Lib.hid hdf; have HDF : Hid (DF.deeds ≤ 2000 + (i + 1) * 2000 ∧ i ≤ 60) := (by have := HDE.out; exact ⟨by omega, this.2⟩); have kc2 := (HCELL.out _ hdf.bel).1; clear hdf hdd nc0 nq0 kc0 kc1)
        | (go_at_call 15; (with_reducible refine (dr_deeds HF.out (by have := HDF.out; omega)).mono ?_); rintro e wd ⟨rfl, gd⟩; have HD1 := Lib.hid (HF.out.after gd); clear gd)
        | (go_at_call 12; (with_reducible refine (dr_open HD1.out (HEN.out _ HD1.out.bel) (by have := HDF.out; omega)).mono ?_); rintro e wo ⟨gb2, ra, rc, rfl, tr2, al2⟩; have HO2 := Lib.hid tr2; have AL2 : Hid (ArgLL wo (.slice ra 0 rc) ([] : List (List Int))) := al2; obtain ⟨ma, mc, mc0, _, mal⟩ := tr2.dr.cell; have ML2 : Hid (ArgLL wo (.slice ma 0 mc) ([] : List (List Int))) := mal; have HW2 : Hid (IntKind.i64.wrap ((E : Int) - (usedL ([] : List (List Int)) : Int)) = (E : Int) - (usedL ([] : List (List Int)) : Int)) := (by have q := tr2.rec; have q2 := HE.out; unfold Hid; rw [IntKind.wrap_i64]; omega); have hw2 := HW2.out; clear tr2 al2 mal)
        | (go_at_call 16; (with_reducible refine (same_yes (.slice ra 0 rc) (.slice ma 0 mc) ([] : List (List Int)) _ AL2.out ML2.out HO2.out.rec.1.byte HO2.out.rec.2.1).mono ?_); rintro e ws ⟨rfl, gs⟩; have HO3 := Lib.hid (HO2.out.after gs); clear gs mc0)
        | (go_at_call 15; (with_reducible refine (dr_deeds HO3.out.dr (by have := HDF.out; omega)).mono ?_); rintro e wd2 ⟨rfl, gd2⟩; have HO4 := Lib.hid (HO3.out.after gd2); clear gd2)
        | (go_at_call 17; (with_reducible refine (tr_used HO4.out).mono ?_); rintro e wu ⟨rfl, gu⟩; have HT2 := Lib.hid (HO4.out.after gu); clear gu)
        | (go_at_call 18; (with_reducible refine (tr_rused HT2.out).mono ?_); rintro e wv ⟨rfl, rfl⟩)
        | (go_at_call 19; have hrm := tr_room HT2.out; rw [HE.out] at hrm; (with_reducible refine (hrm).mono ?_); rintro e wq ⟨rfl, gq⟩; have HT3 := Lib.hid (HT2.out.after gq); clear gq)
        | (go_at_call 18; (with_reducible refine (tr_rused HT3.out).mono ?_); rintro e wv ⟨rfl, rfl⟩)
        | (go_at_call 20; (with_reducible refine (dr_waits HT3.out.dr (by have := HDF.out; omega)).mono ?_); rintro e wy ⟨rfl, gy⟩; have HT4 := Lib.hid (HT3.out.after gy); clear gy))
      go_roundw
      case rel => exact ⟨i + 1, gb2, [], DF, rfl, by go_num, hlt, HT4.out, by have := HDF.out; omega⟩
      case measure => simp [intOf]; omega
    · by_cases q2 : kind = 2
      · subst q2
        clear q1 q3
        have HD0 := Lib.hid HT.out.dr
        go_wp2_with (first
          | (go_at_call 15; (with_reducible refine (dr_deeds HD0.out (by have := HDE.out; omega)).mono ?_); rintro e wd ⟨rfl, gd⟩; have HD1 := Lib.hid (HD0.out.after gd); clear gd)
          | (go_at_call 12; (with_reducible refine (dr_open HD1.out (HEN.out _ HD1.out.bel) (by have := HDE.out; omega)).mono ?_); rintro e wo ⟨gb2, ra, rc, rfl, tr2, al2⟩; have HO2 := Lib.hid tr2; have AL2 : Hid (ArgLL wo (.slice ra L.length rc) L) := al2; obtain ⟨ma, mc, mc0, _, mal⟩ := tr2.dr.cell; have ML2 : Hid (ArgLL wo (.slice ma L.length mc) L) := mal; have HW2 : Hid (IntKind.i64.wrap ((E : Int) - (usedL L : Int)) = (E : Int) - (usedL L : Int)) := (by have q := tr2.rec; have q2 := HE.out; unfold Hid; rw [IntKind.wrap_i64]; omega); have hw2 := HW2.out; clear tr2 al2 mal)
          | (go_at_call 16; (with_reducible refine (same_yes (.slice ra L.length rc) (.slice ma L.length mc) L _ AL2.out ML2.out HO2.out.rec.1.byte HO2.out.rec.2.1).mono ?_); rintro e ws ⟨rfl, gs⟩; have HO3 := Lib.hid (HO2.out.after gs); clear gs mc0)
          | (go_at_call 15; (with_reducible refine (dr_deeds HO3.out.dr (by have := HDE.out; omega)).mono ?_); rintro e wd2 ⟨rfl, gd2⟩; have HO4 := Lib.hid (HO3.out.after gd2); clear gd2)
          | (go_at_call 17; (with_reducible refine (tr_used HO4.out).mono ?_); rintro e wu ⟨rfl, gu⟩; have HT2 := Lib.hid (HO4.out.after gu); clear gu)
          | (go_at_call 18; (with_reducible refine (tr_rused HT2.out).mono ?_); rintro e wv ⟨rfl, rfl⟩)
          | (go_at_call 19; have hrm := tr_room HT2.out; rw [HE.out] at hrm; (with_reducible refine (hrm).mono ?_); rintro e wq ⟨rfl, gq⟩; have HT3 := Lib.hid (HT2.out.after gq); clear gq)
          | (go_at_call 18; (with_reducible refine (tr_rused HT3.out).mono ?_); rintro e wv ⟨rfl, rfl⟩)
          | (go_at_call 20; (with_reducible refine (dr_waits HT3.out.dr (by have := HDE.out; omega)).mono ?_); rintro e wy ⟨rfl, gy⟩; have HT4 := Lib.hid (HT3.out.after gy); clear gy))
        go_roundw
        case rel => exact ⟨i + 1, gb2, L, D, rfl, by go_num, hlt, HT4.out, by have := HDE.out; omega⟩
        case measure => simp [intOf]; omega
      · have p2 : (kind == 2) = false := by simpa using q2
        have p3 : (kind == 3) = false := by simpa using q3
        clear q1 q2 q3
        go_wp2_with (first
          | (go_at_call 17; (with_reducible refine (tr_used HT.out).mono ?_); rintro e wu ⟨rfl, gu⟩; have HT2 := Lib.hid (HT.out.after gu); clear gu)
          | (go_at_call 18; (with_reducible refine (tr_rused HT2.out).mono ?_); rintro e wv ⟨rfl, rfl⟩)
          | (go_at_call 19; have hrm := tr_room HT2.out; rw [HE.out] at hrm; (with_reducible refine (hrm).mono ?_); rintro e wq ⟨rfl, gq⟩; have HT3 := Lib.hid (HT2.out.after gq); clear gq)
          | (go_at_call 18; (with_reducible refine (tr_rused HT3.out).mono ?_); rintro e wv ⟨rfl, rfl⟩)
          | (go_at_call 20; (with_reducible refine (dr_waits HT3.out.dr (by have := HDE.out; omega)).mono ?_); rintro e wy ⟨rfl, gy⟩; have HT4 := Lib.hid (HT3.out.after gy); clear gy))
        go_roundw
        case rel => exact ⟨i + 1, gb, L, D, rfl, by go_num, hlt, HT4.out, by have := HDE.out; omega⟩
        case measure => simp [intOf]; omega

set_option maxRecDepth 100000 in
set_option maxHeartbeats 8000000 in
theorem walplays_short (nb sz zf zk : Int) (lv : Value) (l : List ActW) (w : World) (env : Env w) (hlv : ActsW w lv l) (h : nb < 1 ∨ 12 < nb ∨ sz < 32 ∨ 512 < sz ∨ longL l) :
    Calls Tryd.prog 3 #[.int .i64 nb, .int .i64 sz, .int .i64 zf, .int .i64 zk, lv] w fun e w' => e = .returned (.bool true) ∧ Below w.heap.size w w' := by
  have HENV := Lib.hid env
  have HLV := Lib.hid hlv
  obtain ⟨la, lcap, rfl⟩ := hlv.size
  obtain ⟨NL, hNL⟩ : ∃ x, l.length = x := ⟨_, rfl⟩
  rw [hNL] at HLV ⊢
  have hc : nb < 1 ∨ (¬ nb < 1 ∧ 12 < nb) ∨ (¬ nb < 1 ∧ ¬ 12 < nb ∧ sz < 32) ∨ (¬ nb < 1 ∧ ¬ 12 < nb ∧ ¬ sz < 32 ∧ 512 < sz) ∨ (¬ nb < 1 ∧ ¬ 12 < nb ∧ ¬ sz < 32 ∧ ¬ 512 < sz ∧ longL l) := by
    by_cases q5 : longL l
    · simp only [q5, and_true]
      omega
    · simp only [q5, or_false, and_false] at h ⊢
      omega
  clear env hlv h hNL
  rcases hc with g1 | ⟨g1, g2⟩ | ⟨g1, g2, g3⟩ | ⟨g1, g2, g3, g4⟩ | ⟨g1, g2, g3, g4, g5⟩
  case inr.inr.inr.inr =>
    have HLG := Lib.hid g5
    clear g5
    go_enter Tryd.func3, Tryd.ntmps3
    go_wp2_with (first
      | (go_at_call 6; (with_reducible refine (wal_awake _ HENV.out).mono ?_); rintro e wa ⟨rfl, ga⟩; have GA := Lib.hid ga; have HLVA := Lib.hid (HLV.out.below ga); clear ga)
      | (go_at_call 7; (with_reducible refine (long_any _ l _ HLVA.out).mono ?_); rintro e wl ⟨b, rfl, hb, rfl⟩; obtain rfl : b = true := hb.mpr HLG.out; clear hb))
    go_ret
    exact ⟨rfl, GA.out⟩
  all_goals
    go_enter Tryd.func3, Tryd.ntmps3
    go_wp2_with (first
      | (go_at_call 6; (with_reducible refine (wal_awake _ HENV.out).mono ?_); rintro e wa ⟨rfl, ga⟩; have GA := Lib.hid ga; have HLVA := Lib.hid (HLV.out.below ga); clear ga))
    go_ret
    exact ⟨rfl, GA.out⟩
theorem walplays_walk (nb sz zf zk : Int) (lv : Value) (l : List ActW) (w : World) (env : Env w) (hlv : ActsW w lv l) (hl : ∀ x ∈ l, x.Ok) (f0 : -9223372036854775808 ≤ zf ∧ zf ≤ 9223372036854775807) (k0 : -9223372036854775808 ≤ zk ∧ zk ≤ 9223372036854775807) :
    Calls Tryd.prog 3 #[.int .i64 nb, .int .i64 sz, .int .i64 zf, .int .i64 zk, lv] w fun e w' => e = .returned (.bool true) ∧ Below w.heap.size w w' := by
  by_cases h : nb < 1 ∨ 12 < nb ∨ sz < 32 ∨ 512 < sz ∨ longL l
  · exact walplays_short nb sz zf zk lv l w env hlv h
  · have hl2 : ¬ longL l := fun q => h (Or.inr (Or.inr (Or.inr (Or.inr q))))
    simp only [hl2, or_false] at h
    obtain ⟨N, rfl⟩ : ∃ N : Nat, nb = (N : Int) := ⟨nb.toNat, by omega⟩
    obtain ⟨size, rfl⟩ : ∃ size : Nat, sz = (size : Int) := ⟨sz.toNat, by omega⟩
    by_cases hreg : OnReg N zf zk
    · obtain ⟨q1, q2, q3, q4⟩ := hreg
      obtain ⟨f, rfl⟩ : ∃ f : Nat, zf = (f : Int) := ⟨zf.toNat, by omega⟩
      obtain ⟨k, rfl⟩ : ∃ k : Nat, zk = (k : Int) := ⟨zk.toNat, by omega⟩
      exact walplays_good N size f k lv l w env hlv (by omega) (by omega) (by omega) (by omega) hl hl2 (by omega) (by omega)
    · exact walplays_bad N size zf zk lv l w env hlv (by omega) (by omega) (by omega) (by omega) hl2 f0 k0 hreg

end Go.Proofs.YtokngnpopnfkhaaDoor
