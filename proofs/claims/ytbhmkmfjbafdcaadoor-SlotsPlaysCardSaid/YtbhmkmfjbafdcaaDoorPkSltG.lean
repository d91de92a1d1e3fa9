/-
  SlotsPlays, walked over the contracts of package slots' calls: a disk, slots, and the document's snapshot side by side.
-/
import Derived.Test.YtbhmkmfjbafdcaaDoorPkSltF
import Derived.Test.YtbhmkmfjbafdcaaDoorPkMixU
import Derived.Lib.QuietBelow
import Derived.Deep.CutBlock
import Derived.Deep.DeepCutAuto
import Derived.Deep.CutRange
namespace Go.Proofs.YtbhmkmfjbafdcaaDoor
open Go.RowKit

/-- What each operation of 'x, c := Put(..)' has made. -/
def TSp (l : List Value) : Nat → Value → World → Prop
  | 13, v, _ => ∃ p, v = .pointer (some ⟨p, 0, none⟩)
  | 14, _, _ => True
  | k, v, _ => v = l.getD k undef
theorem TSp.any {l : List Value} (i : Nat) (v : Value) (w w' : World) (h : TSp l i v w) : TSp l i v w' := by
  unfold TSp at h ⊢
  split at h <;> exact h
/-- How the new variable stands by what has come up. -/
structure JSp (wr : World) (x y : Value) (u : Nat → Value) (L : Nat → Bool) (w : World) : Prop where
  bel : Below wr.heap.size wr w
  im : L 14 = true → L 13 = true
  vr : L 13 = true → ∃ p, u 13 = .pointer (some ⟨p, 0, none⟩) ∧ wr.heap.size ≤ p ∧ Var2 w p (if L 14 = true then x else .int .u64 0) (if L 14 = true then y else .slice none 0 0)
theorem JSp.start {wr : World} {x y : Value} (u : Nat → Value) : JSp wr x y u (fun _ => false) wr.drew := ⟨(Below.refl _ _).drew, fun h => (by cases h), fun h => (by cases h)⟩
theorem JSp.light {wr : World} {x y : Value} {u : Nat → Value} {L : Nat → Bool} {w : World} (h : JSp wr x y u L w) {k : Nat} (h13 : 13 ≠ k) (h14 : 14 ≠ k) (v : Value) : JSp wr x y (upd u k v) (setL L k) w := by
  obtain ⟨a, b, c⟩ := h
  refine ⟨a, by rw [setL_ne L h13, setL_ne L h14]; exact b, ?_⟩
  rw [setL_ne L h13, setL_ne L h14]
  unfold upd
  rw [if_neg h13]
  exact c
theorem JSp.after {wr : World} {x y : Value} {u : Nat → Value} {L : Nat → Bool} {w w' : World} (h : JSp wr x y u L w) (hb : Below w.heap.size w w') : JSp wr x y u L w' := by
  obtain ⟨a, b, c⟩ := h
  refine ⟨below_step a hb, b, fun h => ?_⟩
  obtain ⟨p, e, hp, v⟩ := c h
  exact ⟨p, e, hp, v.after hb⟩
theorem JSp.made {wr : World} {x y : Value} {u : Nat → Value} {L : Nat → Bool} {w : World} (h : JSp wr x y u L w) (h13 : L 13 = false) (t : TypeId) : JSp wr x y (upd u 13 (.pointer (some ⟨w.heap.size, 0, none⟩))) (setL L 13) (w.alloc (.cells #[.int .u64 0, .slice none 0 0] t)) := by
  obtain ⟨a, b, c⟩ := h
  have h14 : ¬ L 14 = true := fun e => by have := b e; rw [h13] at this; cases this
  refine ⟨a.alloc a.size _, fun _ => setL_self L 13, fun _ => ⟨w.heap.size, by unfold upd; rw [if_pos rfl], a.size, ?_⟩⟩
  rw [setL_ne L (by decide), if_neg h14, if_neg h14]
  exact Var2.fresh w _ _ t _ rfl
theorem JSp.put {wr : World} {x y : Value} {u : Nat → Value} {L : Nat → Bool} {w : World} (h : JSp wr x y u L w) (h13 : L 13 = true) {p : Nat} (hp : u 13 = .pointer (some ⟨p, 0, none⟩)) (v : Value) : JSp wr x y (upd u 14 v) (setL L 14) (put2 w p x y) := by
  obtain ⟨a, b, c⟩ := h
  obtain ⟨q, e, hq, vr⟩ := c h13
  rw [hp] at e
  simp only [Value.pointer.injEq, Option.some.injEq, Addr.mk.injEq, and_true] at e
  subst e
  refine ⟨below_put2 a hq _ _, fun _ => by rw [setL_ne L (by decide)]; exact h13, fun _ => ⟨p, by unfold upd; rw [if_neg (by decide)]; exact hp, hq, ?_⟩⟩
  rw [setL_self, if_pos rfl, if_pos rfl]
  exact vr.put _ _
theorem JSp.cells {wr : World} {x y : Value} {u : Nat → Value} {L : Nat → Bool} {w : World} (h : JSp wr x y u L w) (h13 : L 13 = true) (h14 : L 14 = false) {p : Nat} (hp : u 13 = .pointer (some ⟨p, 0, none⟩)) : Var2 w p (.int .u64 0) (.slice none 0 0) := by
  obtain ⟨q, e, hq, vr⟩ := h.vr h13
  rw [hp] at e
  simp only [Value.pointer.injEq, Option.some.injEq, Addr.mk.injEq, and_true] at e
  subst e
  have h14' : ¬ L 14 = true := by rw [h14]; simp
  rw [if_neg h14', if_neg h14'] at vr
  exact vr
/-- What each operation of the last look has made. -/
def TLk (l : List Value) (P : Nat × List Int) : Nat → Value → World → Prop
  | 1, v, w => SnapV w v P
  | k, v, _ => v = l.getD k undef
theorem TLk.keep {l : List Value} {P : Nat × List Int} (i : Nat) (v : Value) (w w' : World) (h : TLk l P i v w) (hb : Below w.heap.size w w') : TLk l P i v w' := by
  unfold TLk at h ⊢
  split at h
  · exact h.below hb
  · exact h
/-- At first. -/
theorem tp_start {w0 w : World} {base r N size f k gs : Nat} {Z : List Int} {D : Dsk} {O OS : Foot} (hd : DskIs w base O r D) (n : NFd N size D) (ws : D.waits = []) (sn : slotsL (f * size) (k * size) D.last = (0, [])) (bs : Beside (f * size) (k * size + k * size) Z D.last) (g : SlIs w base OS gs r ⟨f, k, size, 0, [], false⟩) (dis : ∀ i, O i → ¬ OS i) (bel : Below base w0 w) (k1 : 1 ≤ k) (on : f + 2 * k ≤ N) :
    TP w0 (w.alloc (.cells #[.int .u64 0, .slice none 0 0] 38)) base r w.heap.size N size f k Z (0, []) (0, []) D gs := by
  have hlo : base ≤ w.heap.size := by have := hd.own r hd.mem; omega
  have hbx : Below w.heap.size w (w.alloc (.cells #[.int .u64 0, .slice none 0 0] 38)) := (Below.refl _ _).alloc (Nat.le_refl _) _
  exact ⟨O, OS, ⟨hd.after hbx, n, ws, sn, by decide, bs, ⟨⟨none, 0, Var2.fresh w _ _ _ _ rfl, fun W _ => ArgB.nil W⟩, hlo, by decide⟩, fun hx => by have := (hd.own _ hx).2; omega, bel.trans (hbx.mono hlo), k1, on⟩, g.after hbx, dis, fun hx => by have := (g.own _ hx).2; omega⟩
/-- What Put of both comes to, in one. -/
theorem both_put {w0 wr : World} {base r mv N size f k : Nat} {Z : List Int} {P : Nat × List Int} {D : Dsk} {gs : Nat} (h : TP w0 wr base r mv N size f k Z P P D gs) (henv : ∀ W, Below base w0 W → Env W) (bv : Value) (b : List Int) (hbv : ∀ W, Below base w0 W → ArgB W bv b) (hb : ∀ z ∈ b, 0 ≤ z ∧ z ≤ 255) (hpb : ∀ z ∈ P.2, 0 ≤ z ∧ z ≤ 255) (hy : b ≠ [] → ∀ i, bv.ownBlock = some i → i < base) (hl : b.length ≤ 2000) (hd : D.deeds ≤ 900000) (hks : k * size ≤ 1000000) (ma : Option Addr) (mc : Nat) (hma : ∀ W, Below base w0 W → ArgB W (.slice ma P.2.length mc) P.2) :
    ∃ (M : Nat × List Int) (xa : Option Addr) (xc : Nat) (cc : Int), (∀ W, Below wr.heap.size wr W → Calls Tryd.prog 14 #[.agg #[.int .u64 (P.1 : Int), .slice ma P.2.length mc], .int .i64 ((k * size : Nat) : Int), bv] W fun e w' => e = .returned (.tuple #[.agg #[.int .u64 (M.1 : Int), .slice xa M.2.length xc], .int .i64 cc]) ∧ Below W.heap.size W w') ∧
      (∀ W, Below base w0 W → ArgB W (.slice xa M.2.length xc) M.2) ∧ M.1 ≤ 18446744073709551615 ∧ (∀ z ∈ M.2, 0 ≤ z ∧ z ≤ 255) ∧
      (∀ W, TP w0 W base r mv N size f k Z P M D gs → Calls Tryd.prog 15 #[.pointer (some ⟨gs, 0, none⟩), bv] W fun e w' => e = .returned (.int .i64 cc) ∧ ∃ D', TP w0 w' base r mv N size f k Z M M D' gs ∧ D'.deeds ≤ D.deeds + 1000) := by
  have hp1 : P.1 ≤ 18446744073709551615 := by obtain ⟨O, OS, h⟩ := h; exact h.dr.p1
  have hbel := h.dp.bel
  have hlo : base ≤ wr.heap.size := by obtain ⟨O, OS, h⟩ := h; exact h.dr.lo
  have bW : ∀ W, Below wr.heap.size wr W → Below base w0 W := fun W hW => hbel.trans (hW.mono hlo)
  have sv : ∀ W, Below wr.heap.size wr W → SnapV W (.agg #[.int .u64 (P.1 : Int), .slice ma P.2.length mc]) P := fun W hW => ⟨hp1, ma, mc, rfl, hma W (bW W hW)⟩
  obtain ⟨ba, bc, hbe⟩ := (hbv wr hbel).size
  by_cases c1 : k * size < b.length + 19
  · exact ⟨P, ma, mc, 11, fun W hW => rsput_full _ bv P (k * size) b W (sv W hW) (hbv W (bW W hW)) hks (by omega) c1, hma, hp1, hpb, fun W hT => (tp_full hT (henv W hT.dp.bel) bv b (hbv W hT.dp.bel) hl c1).mono fun e w' ⟨he, g⟩ => ⟨he, D, hT.after g, by omega⟩⟩
  · by_cases c2 : P.1 = 18446744073709551615
    · exact ⟨P, ma, mc, 3, fun W hW => rsput_over _ bv P (k * size) b W (sv W hW) (hbv W (bW W hW)) hks (by omega) c1 c2, hma, hp1, hpb, fun W hT => (tp_over hT (henv W hT.dp.bel) bv b (hbv W hT.dp.bel) c1 c2).mono fun e w' ⟨he, g⟩ => ⟨he, D, hT.after g, by omega⟩⟩
    · refine ⟨(P.1 + 1, b), ba, bc, 0, fun W hW => ?_, fun W hW => by rw [← hbe]; exact hbv W hW, by show P.1 + 1 ≤ _; omega, hb, fun W hT => tp_put hT (fun _ g => henv _ (hT.dp.bel.trans g)) bv b (hbv W hT.dp.bel) hb hy hd c1 c2⟩
      have q := rsput_done _ bv P (k * size) b W (sv W hW) (hbv W (bW W hW)) hks (by omega) c1 c2
      refine q.mono fun e w' ⟨he, g⟩ => ⟨by rw [he, hbe], g⟩

set_option maxRecDepth 100000 in
set_option maxHeartbeats 8000000 in
theorem sltplays_bad (N size : Nat) (zf zk : Int) (lv : Value) (l : List ActW) (w : World) (env : Env w) (hlv : ActsW w lv l) (n0 : 1 ≤ N) (n1 : N ≤ 12) (s0 : 32 ≤ size) (s1 : size ≤ 512) (hlong : ¬ longL l) (f0 : -9223372036854775808 ≤ zf ∧ zf ≤ 9223372036854775807) (k0 : -9223372036854775808 ≤ zk ∧ zk ≤ 9223372036854775807) (hreg : ¬ OnSl N zf zk) :
    Calls Tryd.prog 3 #[.int .i64 (N : Int), .int .i64 (size : Int), .int .i64 zf, .int .i64 zk, lv] w fun e w' => e = .returned (.bool true) ∧ Below w.heap.size w w' := by
  have HENV := Lib.hid env
  have HLV := Lib.hid hlv
  have HLG := Lib.hid hlong
  have HMK : Hid (∀ w, Calls Tryd.prog 8 #[.int .i64 (N : Int), .int .i64 (size : Int)] w fun e w' => ∃ r O D, e = .returned (.pointer (some ⟨r, 0, none⟩)) ∧ DskIs w' w.heap.size O r D ∧ NFd N size D ∧ D.waits = [] ∧ D.deeds ≤ 1000 ∧ Below w.heap.size w w') := fun w => marked_any N size w n0 (by omega) s0 s1
  obtain ⟨la, lcap, rfl⟩ := hlv.size
  obtain ⟨NL, hNL⟩ : ∃ x, l.length = x := ⟨_, rfl⟩
  have HN := Lib.hid hNL
  have hN60 : l.length ≤ 60 := by have q := hlong; unfold longL at q; omega
  rw [hNL] at HLV hN60 ⊢
  have g1 : ¬ (N : Int) < 1 := by omega
  have g2 : ¬ (12 : Int) < (N : Int) := by omega
  have g3 : ¬ (size : Int) < 32 := by omega
  have g4 : ¬ (512 : Int) < (size : Int) := by omega
  have HON : Hid (∀ w, Calls Tryd.prog 12 #[.int .i64 (N : Int), .int .i64 zf, .int .i64 zk] w fun e w' => e = .returned (.bool false) ∧ w' = w) := fun w => (lson_any N zf zk w (by omega) f0.2).mono fun e w' ⟨h, h2⟩ => ⟨by rw [h, decide_eq_false (show ¬ (0 ≤ zf ∧ 1 ≤ zk ∧ zf + 2 * zk ≤ (N : Int)) from hreg)], h2⟩
  have HFK := Lib.hid (And.intro f0 k0)
  have HREG := Lib.hid hreg
  clear env hlv hlong n0 n1 s0 s1 f0 k0 hreg hNL
  go_enter Tryd.func3, Tryd.ntmps3
  go_wp2_with (first
    | (go_at_call 6; (with_reducible refine (slt_awake _ HENV.out).mono ?_); rintro e wa ⟨rfl, ga⟩; have GA := Lib.hid ga; have HLVA := Lib.hid (HLV.out.below ga); clear ga)
    | (go_at_call 7; (with_reducible refine (long_any _ l _ HLVA.out).mono ?_); rintro e wl ⟨b, rfl, hb, rfl⟩; obtain rfl : b = false := (by cases b; rfl; exact (HLG.out (hb.mp rfl)).elim); clear hb)
    | (go_at_call 8; (with_reducible refine (HMK.out _).mono ?_); rintro e wd ⟨r, O1, D1, rfl, d1, n1, ws1, de1, gd⟩; have GD := Lib.hid (below_step GA.out gd); have H1 := Lib.hid d1; have HNF := Lib.hid (And.intro n1 (And.intro ws1 de1)); have HALL := Lib.hid (fun W (hW : DskIs W wl.heap.size O1 r D1) => all_nf wl.heap.size O1 r D1 W hW n1.dark ws1 (by omega)); obtain ⟨XZ, hXZ⟩ : ∃ x, strOfNums D1.last = x := ⟨_, rfl⟩; rw [hXZ] at HALL; clear d1 n1 ws1 de1 gd hXZ)
    | (go_at_call 9; (with_reducible refine (HALL.out _ H1.out).mono ?_); rintro e w2 ⟨rfl, g2⟩; have G2 := Lib.hid (below_step GD.out g2); have H2 := Lib.hid (H1.out.after g2); have HNR := Lib.hid (HNF.out.1.n ▸ HREG.out : ¬ OnSl D1.n zf zk); clear g2)
    | (go_at_call 10; (with_reducible refine (sformat_not _ O1 r D1 zf zk _ H2.out HNR.out HFK.out.1.1 HFK.out.1.2 HFK.out.2.1 HFK.out.2.2).mono ?_); rintro e w3 ⟨rfl, g3⟩; have G3 := Lib.hid (below_step G2.out g3); have H3 := Lib.hid (H2.out.after g3); clear g3)
    | (go_at_call 11; (with_reducible refine (sopen_not _ O1 r D1 zf zk _ H3.out HNR.out HFK.out.1.1 HFK.out.1.2 HFK.out.2.1 HFK.out.2.2).mono ?_); rintro e w5 ⟨rfl, g5⟩; have G5 := Lib.hid (below_step G3.out g5); have H5 := Lib.hid (H3.out.after g5); clear g5)
    | (go_at_call 12; (with_reducible refine (HON.out _).mono ?_); rintro e w4 ⟨rfl, rfl⟩)
    | (go_at_call 9; (with_reducible refine (HALL.out _ H5.out).mono ?_); rintro e w6 ⟨rfl, g6⟩; have G6 := Lib.hid (below_step G5.out g6); clear g6))
  go_ret
  exact ⟨rfl, G6.out⟩

set_option maxRecDepth 100000 in
set_option maxHeartbeats 8000000 in
theorem sltplays_good (N size f k : Nat) (lv : Value) (l : List ActW) (w : World) (env : Env w) (hlv : ActsW w lv l) (n0 : 1 ≤ N) (n1 : N ≤ 12) (s0 : 32 ≤ size) (s1 : size ≤ 512) (hl : ∀ x ∈ l, x.Ok) (hlong : ¬ longL l) (k1 : 1 ≤ k) (on : f + 2 * k ≤ N) :
    Calls Tryd.prog 3 #[.int .i64 (N : Int), .int .i64 (size : Int), .int .i64 (f : Int), .int .i64 (k : Int), lv] w fun e w' => e = .returned (.bool true) ∧ Below w.heap.size w w' := by
  have HENV := Lib.hid env
  have HLV := Lib.hid hlv
  have HLG := Lib.hid hlong
  have HMK : Hid (∀ w, Calls Tryd.prog 8 #[.int .i64 (N : Int), .int .i64 (size : Int)] w fun e w' => ∃ r O D, e = .returned (.pointer (some ⟨r, 0, none⟩)) ∧ DskIs w' w.heap.size O r D ∧ NFd N size D ∧ D.waits = [] ∧ D.deeds ≤ 1000 ∧ Below w.heap.size w w') := fun w => marked_any N size w n0 (by omega) s0 s1
  obtain ⟨la, lcap, rfl⟩ := hlv.size
  obtain ⟨NL, hNL⟩ : ∃ x, l.length = x := ⟨_, rfl⟩
  have HN := Lib.hid hNL
  have hN60 : l.length ≤ 60 := by have q := hlong; unfold longL at q; omega
  rw [hNL] at HLV hN60 ⊢
  have g1 : ¬ (N : Int) < 1 := by omega
  have g2 : ¬ (12 : Int) < (N : Int) := by omega
  have g3 : ¬ (size : Int) < 32 := by omega
  have g4 : ¬ (512 : Int) < (size : Int) := by omega
  have HL := Lib.hid hl
  have HON : Hid (∀ w, Calls Tryd.prog 12 #[.int .i64 (N : Int), .int .i64 (f : Int), .int .i64 (k : Int)] w fun e w' => e = .returned (.bool true) ∧ w' = w) := fun w => (lson_any N f k w (by omega) (by omega)).mono fun e w' ⟨h, h2⟩ => ⟨by rw [h, decide_eq_true (show (0 ≤ (f : Int) ∧ 1 ≤ (k : Int) ∧ (f : Int) + 2 * (k : Int) ≤ (N : Int)) by omega)], h2⟩
  have HKN := Lib.hid (And.intro k1 on)
  obtain ⟨E, hE⟩ : ∃ x, k * size = x := ⟨_, rfl⟩
  obtain ⟨E1, hE1⟩ : ∃ x, f * size = x := ⟨_, rfl⟩
  obtain ⟨k2, hk2⟩ : ∃ x, 2 * k = x := ⟨_, rfl⟩
  obtain ⟨FK, hFK⟩ : ∃ x, f + k2 = x := ⟨_, rfl⟩
  obtain ⟨E2, hE2⟩ : ∃ x, FK * size = x := ⟨_, rfl⟩
  have HE := Lib.hid hE
  have HE1 := Lib.hid hE1
  have HE2 : Hid ((f + 2 * k) * size = E2) := by unfold Hid; rw [hk2, hFK]; exact hE2
  have b1 : k * size ≤ 12 * 512 := Nat.mul_le_mul (by omega) s1
  have b2 : f * size ≤ 12 * 512 := Nat.mul_le_mul (by omega) s1
  have b3 : FK * size ≤ 12 * 512 := Nat.mul_le_mul (by omega) s1
  have b4 : k * 32 ≤ k * size := Nat.mul_le_mul_left _ s0
  have HBND := Lib.hid (And.intro b1 (And.intro b2 b3))
  have m1 : IntKind.i64.wrap ((k : Int) * (size : Int)) = (E : Int) := by rw [← Int.natCast_mul, hE, IntKind.wrap_i64]; omega
  have m2 : IntKind.i64.wrap ((f : Int) * (size : Int)) = (E1 : Int) := by rw [← Int.natCast_mul, hE1, IntKind.wrap_i64]; omega
  have m5 : IntKind.i64.wrap (2 * (k : Int)) = (k2 : Int) := by rw [IntKind.wrap_i64]; omega
  have m3 : IntKind.i64.wrap ((f : Int) + (k2 : Int)) = (FK : Int) := by rw [IntKind.wrap_i64]; omega
  have m4 : IntKind.i64.wrap ((FK : Int) * (size : Int)) = (E2 : Int) := by rw [← Int.natCast_mul, hE2, IntKind.wrap_i64]; omega
  have m6 : IntKind.i64.wrap ((E : Int) - 19) = (E : Int) - 19 := by rw [IntKind.wrap_i64]; omega
  clear env hlv hl hlong n0 n1 s0 s1 k1 on hNL hE hE1 hE2 hFK hk2 b1 b2 b3 b4
  go_enter Tryd.func3, Tryd.ntmps3
  go_upto_block 0 with (first
    | (go_at_call 6; (with_reducible refine (slt_awake _ HENV.out).mono ?_); rintro e wa ⟨rfl, ga⟩; have GA := Lib.hid ga; have HLVA := Lib.hid (HLV.out.below ga); clear ga)
    | (go_at_call 7; (with_reducible refine (long_any _ l _ HLVA.out).mono ?_); rintro e wl ⟨b, rfl, hb, rfl⟩; obtain rfl : b = false := (by cases b; rfl; exact (HLG.out (hb.mp rfl)).elim); clear hb)
    | (go_at_call 8; (with_reducible refine (HMK.out _).mono ?_); rintro e wd ⟨r, O1, D1, rfl, d1, n1, ws1, de1, gd⟩; have GD := Lib.hid (below_step GA.out gd); have H1 := Lib.hid (d1.base GA.out.size); have HNF := Lib.hid (And.intro n1 (And.intro ws1 de1)); obtain ⟨Z, hZ⟩ : ∃ x, D1.last = x := ⟨_, rfl⟩; have HALL := Lib.hid (fun W (hW : DskIs W w.heap.size O1 r D1) => all_nf w.heap.size O1 r D1 W hW n1.dark ws1 (by omega)); rw [hZ] at HALL; have HZ := Lib.hid hZ; have HZB : Hid (∀ z ∈ Z, 0 ≤ z ∧ z ≤ 255) := (hZ ▸ d1.ok.lb); clear d1 n1 ws1 de1 gd hZ)
    | (go_at_call 9; (with_reducible refine (HALL.out _ H1.out).mono ?_); rintro e w2 ⟨rfl, g2⟩; have G2 := Lib.hid (below_step GD.out g2); have H2 := Lib.hid (H1.out.after g2); have HF2 := Lib.hid (sformat_nf w.heap.size O1 r N size D1 f k (f : Int) (k : Int) rfl rfl w2 (HENV.out.step G2.out) H2.out HNF.out.1 HKN.out.1 HKN.out.2 HNF.out.2.1 (by have := HNF.out.2.2; omega)); clear g2)
    | (go_at_call 10; (with_reducible refine (HF2.out).mono ?_); rintro e w3 ⟨D2, rfl, n3, ws3, de3, sn3, bs3, O3, d3, o3, gr3⟩; have G3 := Lib.hid (G2.out.trans o3.bel); have D3 := Lib.hid d3; have BS3 : Hid (Beside (f * size) (k * size + k * size) Z D2.last) := (HZ.out ▸ bs3); have SN3 := Lib.hid sn3; have N3 := Lib.hid (And.intro n3 (And.intro ws3 (by have := HNF.out.2.2; omega : D2.deeds ≤ 2000))); have HO3 := Lib.hid (sopen_nf w.heap.size O3 r N size D2 f k (f : Int) (k : Int) rfl rfl 0 [] w3 (HENV.out.step G3.out) d3 n3 HKN.out.1 HKN.out.2 ws3 (by have := HNF.out.2.2; omega) sn3); clear d3 o3 gr3 n3 ws3 de3 sn3 bs3 HF2)
    | (go_at_call 11; (with_reducible refine (HO3.out).mono ?_); rintro e w5 ⟨gs, OS, rfl, g5, sl5⟩; have G5 := Lib.hid (below_step G3.out g5); have D5 := Lib.hid (D3.out.after g5); have SL5 := Lib.hid (sl5.base G3.out.size); have DS5 : Hid (∀ i, O3 i → ¬ OS i) := (fun i hi hx => by have q1 := (D3.out.own i hi).2; have q2 := (sl5.own i hx).1; omega); have HMO := Lib.hid (smost_any w.heap.size O3 OS gs r D2 ⟨f, k, size, 0, [], false⟩ w5 D5.out SL5.out N3.out.1.size.symm HKN.out.1 (by show f + 2 * k ≤ D2.n; rw [N3.out.1.n]; exact HKN.out.2)); rw [HE.out] at HMO; clear g5 sl5 HO3)
    | (go_at_call 12; (with_reducible refine (HON.out _).mono ?_); rintro e w4 ⟨rfl, rfl⟩)
    | (go_at_call 13; (with_reducible refine (HMO.out).mono ?_); rintro e w6 ⟨rfl, g6⟩; have HTR0 := Lib.hid (tp_start (Z := Z) (D5.out.after g6) N3.out.1 N3.out.2.1 SN3.out BS3.out (SL5.out.after g6) DS5.out (below_step G5.out g6) HKN.out.1 HKN.out.2); clear g6 HMO))
  obtain ⟨mv, hmv⟩ : ∃ x, w6.heap.size = x := ⟨_, rfl⟩
  rw [hmv] at HTR0
  simp only [hmv]
  clear hmv g1 g2 g3 g4
  go_wp2_with fail
  go_loopw [14, 17] (fun v14 v17 wr => ∃ (i gs : Nat) (P : Nat × List Int) (D : Dsk), v14 = .pointer (some ⟨gs, 0, none⟩) ∧ v17 = .int .i64 (i : Int) ∧ i ≤ NL ∧ TP w wr w.heap.size r mv N size f k Z P P D gs ∧ D.deeds ≤ 2000 + i * 2000 ∧ ∀ z ∈ P.2, 0 ≤ z ∧ z ≤ 255) (fun _ v17 _ => NL - (intOf v17).toNat)
  case atStart => exact ⟨0, gs, (0, []), D2, rfl, rfl, Nat.zero_le _, HTR0.out, N3.out.2.2, fun z hz => by cases hz⟩
  case round =>
    obtain ⟨i, gs, P, D, rfl, rfl, hi, htr, hde, hpb⟩ := hrel
    have HTR := Lib.hid htr
    have HPB := Lib.hid hpb
    have HDE : Hid (D.deeds ≤ 2000 + i * 2000 ∧ i ≤ 60) := ⟨hde, by omega⟩
    have HEN := Lib.hid (fun W (hW : Below w.heap.size w W) => HENV.out.step hW)
    by_cases hlt : i < NL
    case neg =>
      have hni : ¬ (i : Int) < (NL : Int) := by omega
      obtain ⟨al, t1, t2, t3, t4, t5⟩ := dp_all HTR.out.dp (by have := HDE.out; omega)
      have hbE1 : E1 ≤ D.last.length := by have q1 := HE1.out; have q2 : f * size ≤ (f + 2 * k) * size := Nat.mul_le_mul_right _ (by omega); omega
      rw [HE1.out] at t1
      rw [HE2.out] at t2 t4
      have hz1 := fun W => slice_text_to Z HZB.out E1 (E1 : Int) rfl (by omega) W
      have hz2 := fun W => slice_text_from Z HZB.out E2 (E2 : Int) rfl (by omega) W
      have hy1 := fun W => slice_text_to D.last t5 E1 (E1 : Int) rfl (by omega) W
      have hy2 := fun W => slice_text_from D.last t5 E2 (E2 : Int) rfl (by omega) W
      rw [t1] at hy1
      rw [t2] at hy2
      obtain ⟨XA, hXA⟩ : ∃ x, strOfNums (Z.take E1) = x := ⟨_, rfl⟩
      obtain ⟨XC, hXC⟩ : ∃ x, strOfNums (Z.drop E2) = x := ⟨_, rfl⟩
      obtain ⟨XD, hXD⟩ : ∃ x, strOfNums D.last = x := ⟨_, rfl⟩
      obtain ⟨XZ, hXZ⟩ : ∃ x, strOfNums Z = x := ⟨_, rfl⟩
      rw [hXA, hXZ] at hz1
      rw [hXC, hXZ] at hz2
      rw [hXA, hXD] at hy1
      rw [hXC, hXD] at hy2
      rw [hXD] at al
      have AL := Lib.hid al
      have HBE := Lib.hid HTR.out.dp.bel
      have HLO : Hid (w.heap.size ≤ wr.heap.size) := HBE.out.size
      clear hXA hXC hXD t1 t2 t3 t4 t5 hbE1 al htr hde hpb
      rw [hXZ]
      clear hXZ
      go_wp2_with (go_at_call 9; (with_reducible refine (AL.out).mono ?_); rintro e wz ⟨rfl, gz⟩; have GZ := Lib.hid (HBE.out.trans (gz.mono HLO.out)); clear gz)
      go_quiet (fail)
      have hfin := Lib.hid (GZ.out.trans ((below_drewN (Below.refl wz.heap.size wz) nq).mono GZ.out.size))
      generalize wz.drewN nq = W3 at hfin ⊢
      go_wp2
      go_ret
      exact ⟨rfl, hfin.out⟩
    case pos =>
    have hli : (i : Int) < (NL : Int) := by omega
    obtain ⟨bb, bo, bv, ela, hblt, hcells, hbvlt⟩ := HLV.out.one (i := i) (by rw [HN.out]; exact hlt)
    subst ela
    obtain ⟨b, hbb⟩ : ∃ b, (l.getD i {}).b = b := ⟨_, rfl⟩
    obtain ⟨kind, hkd⟩ : ∃ b, (l.getD i {}).kind = b := ⟨_, rfl⟩
    have hok := HL.out (l.getD i {}) (by rw [List.getD_eq_getElem?_getD, List.getElem?_eq_getElem (by rw [HN.out]; exact hlt)]; exact List.getElem_mem _)
    have hbl : b.length ≤ 2000 := by
      have q := HLG.out
      unfold longL at q
      rw [← hbb]
      exact Nat.le_of_not_lt (fun hx => q (Or.inr ⟨i, by rw [HN.out]; exact hlt, hx⟩))
    have hbyte := hok.b0
    have HCELL := Lib.hid (fun W (hW : Below w.heap.size w W) => hcells W _ rfl hW)
    rw [hbb] at HCELL hbyte hbvlt
    rw [hkd] at HCELL
    obtain ⟨ba, bc, hbve⟩ := (HCELL.out wr htr.dp.bel).2.2.size
    obtain ⟨BL, hBL⟩ : ∃ x, b.length = x := ⟨_, rfl⟩
    rw [hBL] at hbve
    subst hbve
    have HBL2 : Hid (b.length ≤ 2000) := hbl
    have HBY := Lib.hid hbyte
    have HBV := Lib.hid hbvlt
    have HBLl := Lib.hid hBL
    have kc0 := (HCELL.out wr htr.dp.bel).1
    clear hcells hok hbb hkd htr hde hbyte hbvlt hBL hbl hpb
    go_upto_block 2 with (fail)
    go_cut [13, 14, 15, 18, 19, 20] from 106 to 169 (fun _ v14 _ _ _ _ wx => ∃ (gs2 : Nat) (P2 : Nat × List Int) (D2 : Dsk), v14 = .pointer (some ⟨gs2, 0, none⟩) ∧ TP w wx w.heap.size r mv N size f k Z P2 P2 D2 gs2 ∧ D2.deeds ≤ 2000 + (i + 1) * 2000 ∧ ∀ z ∈ P2.2, 0 ≤ z ∧ z ≤ 255)
    case first =>
      by_cases q1 : kind = 1
      case pos =>
        subst q1
        obtain ⟨ma, mc, vm, hma, hp1⟩ := HTR.out.dp.var
        obtain ⟨M, xa, xc, cc, hrp, hxa, hm1, hmb, hpp⟩ := both_put HTR.out HEN.out (.slice ba BL bc) b (fun W hW => (HCELL.out W hW).2.2) HBY.out HPB.out HBV.out HBL2.out (by have := HDE.out; omega) (by have := HBND.out.1; omega) ma mc hma
        obtain ⟨pe, hpe⟩ : ∃ x, P.1 = x := ⟨_, rfl⟩
        obtain ⟨pn, hpn⟩ : ∃ x, P.2.length = x := ⟨_, rfl⟩
        obtain ⟨xe, hxe⟩ : ∃ x, M.1 = x := ⟨_, rfl⟩
        obtain ⟨xn, hxn⟩ : ∃ x, M.2.length = x := ⟨_, rfl⟩
        have HSETF : Hid (∀ W, TP w W w.heap.size r mv N size f k Z P P D gs → TP w (put2 W mv (.int .u64 (xe : Int)) (.slice xa xn xc)) w.heap.size r mv N size f k Z P M D gs) := fun W hW => by rw [← hxe, ← hxn]; exact tp_set hW hxa hm1
        have HMB := Lib.hid hmb
        rw [hpe, hpn, HE.out, hxe, hxn] at hrp
        rw [hpe, hpn] at vm
        have HRP := Lib.hid hrp
        have HMC := Lib.hid (fun W (hW : Below wr.heap.size wr W) => vm.after hW)
        have HPP := Lib.hid hpp
        have HBW := Lib.hid (fun W (hW : Below wr.heap.size wr W) => (HTR.out.after hW).dp.bel)
        clear hpe hpn hxe hxn hrp vm hxa hma hm1 hp1 hpp hmb
        go_wp2
        refine wp_region_mixu 15 (TSp [.agg #[.int .u64 (pe : Int), .slice ma pn mc], .int .i64 (k : Int), .int .i64 (size : Int), .int .i64 (E : Int), .slice (some ⟨bb, bo, none⟩) NL lcap, .int .i64 (i : Int), .pointer (some ⟨bb, bo + i * 2, none⟩), .pointer (some ⟨bb, bo + i * 2 + 1, none⟩), .slice ba BL bc, .tuple #[.agg #[.int .u64 (xe : Int), .slice xa xn xc], .int .i64 cc], .tuple #[.agg #[.int .u64 (xe : Int), .slice xa xn xc], .int .i64 cc], .agg #[.int .u64 (xe : Int), .slice xa xn xc], .int .i64 cc]) (JSp wr (.int .u64 (xe : Int)) (.slice xa xn xc)) (by kernel_rfl) (by kernel_rfl) (fun u => JSp.start u) ?_ ?_
        · simp only [List.take_succ_cons, List.take_zero]
          refine (StepsU.cons ?_ (StepsU.cons ?_ (StepsU.cons ?_ (StepsU.cons ?_ (StepsU.cons ?_ (StepsU.cons ?_ (StepsU.cons ?_ (StepsU.cons ?_ (StepsU.cons ?_ (StepsU.cons ?_ (StepsU.cons ?_ (StepsU.cons ?_ (StepsU.cons ?_ (StepsU.cons ?_ (StepsU.cons ?_ StepsU.nil)))))))))))))))
          · intro u W J hL hJ hd
            have q0 := (HMC.out W hJ.bel).c0
            have q1 := (HMC.out W hJ.bel).c1
            simp only [putAll, Act.put, List.setIfInBounds_toArray, List.set_cons_succ, List.set_cons_zero, Nat.zero_add, Nat.reduceAdd]
            have hj1 := hJ.light (k := 0) (by decide) (by decide)
            go_wp2
            first | exact ⟨rfl, hj1 _, fun j v' _ _ h => h⟩ | exact ⟨_, rfl, rfl, hj1 _, fun j v' _ _ h => h⟩ | exact ⟨rfl, hj1 _⟩ | exact rfl | exact hj1 _
          · intro u W J hL hJ hd
            simp only [putAll, Act.put, List.setIfInBounds_toArray, List.set_cons_succ, List.set_cons_zero, Nat.zero_add, Nat.reduceAdd]
            have hj1 := hJ.light (k := 1) (by decide) (by decide)
            go_wp2
            first | exact ⟨rfl, hj1 _, fun j v' _ _ h => h⟩ | exact ⟨_, rfl, rfl, hj1 _, fun j v' _ _ h => h⟩ | exact ⟨rfl, hj1 _⟩ | exact rfl | exact hj1 _
          · intro u W J hL hJ hd
            simp only [putAll, Act.put, List.setIfInBounds_toArray, List.set_cons_succ, List.set_cons_zero, Nat.zero_add, Nat.reduceAdd]
            have hj1 := hJ.light (k := 2) (by decide) (by decide)
            go_wp2
            first | exact ⟨rfl, hj1 _, fun j v' _ _ h => h⟩ | exact ⟨_, rfl, rfl, hj1 _, fun j v' _ _ h => h⟩ | exact ⟨rfl, hj1 _⟩ | exact rfl | exact hj1 _
          · intro u W J hL hJ hd
            have e0 : u 1 = .int .i64 (k : Int) := (hd.1 rfl (by decide)).2
            have e1 : u 2 = .int .i64 (size : Int) := (hd.2.1 rfl (by decide)).2
            simp only [putAll, Act.put, List.setIfInBounds_toArray, List.set_cons_succ, List.set_cons_zero, Nat.zero_add, Nat.reduceAdd]
            rw [e0, e1]
            have hj1 := hJ.light (k := 3) (by decide) (by decide)
            go_wp2
            first | exact ⟨rfl, hj1 _, fun j v' _ _ h => h⟩ | exact ⟨_, rfl, rfl, hj1 _, fun j v' _ _ h => h⟩ | exact ⟨rfl, hj1 _⟩ | exact rfl | exact hj1 _
          · intro u W J hL hJ hd
            simp only [putAll, Act.put, List.setIfInBounds_toArray, List.set_cons_succ, List.set_cons_zero, Nat.zero_add, Nat.reduceAdd]
            have hj1 := hJ.light (k := 4) (by decide) (by decide)
            go_wp2
            first | exact ⟨rfl, hj1 _, fun j v' _ _ h => h⟩ | exact ⟨_, rfl, rfl, hj1 _, fun j v' _ _ h => h⟩ | exact ⟨rfl, hj1 _⟩ | exact rfl | exact hj1 _
          · intro u W J hL hJ hd
            simp only [putAll, Act.put, List.setIfInBounds_toArray, List.set_cons_succ, List.set_cons_zero, Nat.zero_add, Nat.reduceAdd]
            have hj1 := hJ.light (k := 5) (by decide) (by decide)
            go_wp2
            first | exact ⟨rfl, hj1 _, fun j v' _ _ h => h⟩ | exact ⟨_, rfl, rfl, hj1 _, fun j v' _ _ h => h⟩ | exact ⟨rfl, hj1 _⟩ | exact rfl | exact hj1 _
          · intro u W J hL hJ hd
            have e0 : u 4 = .slice (some ⟨bb, bo, none⟩) NL lcap := (hd.1 rfl (by decide)).2
            have e1 : u 5 = .int .i64 (i : Int) := (hd.2.1 rfl (by decide)).2
            simp only [putAll, Act.put, List.setIfInBounds_toArray, List.set_cons_succ, List.set_cons_zero, Nat.zero_add, Nat.reduceAdd]
            rw [e0, e1]
            have hj1 := hJ.light (k := 6) (by decide) (by decide)
            go_wp2
            first | exact ⟨rfl, hj1 _, fun j v' _ _ h => h⟩ | exact ⟨_, rfl, rfl, hj1 _, fun j v' _ _ h => h⟩ | exact ⟨rfl, hj1 _⟩ | exact rfl | exact hj1 _
          · intro u W J hL hJ hd
            have e0 : u 6 = .pointer (some ⟨bb, bo + i * 2, none⟩) := (hd.1 rfl (by decide)).2
            simp only [putAll, Act.put, List.setIfInBounds_toArray, List.set_cons_succ, List.set_cons_zero, Nat.zero_add, Nat.reduceAdd]
            rw [e0]
            have hj1 := hJ.light (k := 7) (by decide) (by decide)
            go_wp2
            first | exact ⟨rfl, hj1 _, fun j v' _ _ h => h⟩ | exact ⟨_, rfl, rfl, hj1 _, fun j v' _ _ h => h⟩ | exact ⟨rfl, hj1 _⟩ | exact rfl | exact hj1 _
          · intro u W J hL hJ hd
            have e0 : u 7 = .pointer (some ⟨bb, bo + i * 2 + 1, none⟩) := (hd.1 rfl (by decide)).2
            have q1 := (HCELL.out W (HBW.out W hJ.bel)).2.1
            simp only [putAll, Act.put, List.setIfInBounds_toArray, List.set_cons_succ, List.set_cons_zero, Nat.zero_add, Nat.reduceAdd]
            rw [e0]
            have hj1 := hJ.light (k := 8) (by decide) (by decide)
            go_wp2
            first | exact ⟨rfl, hj1 _, fun j v' _ _ h => h⟩ | exact ⟨_, rfl, rfl, hj1 _, fun j v' _ _ h => h⟩ | exact ⟨rfl, hj1 _⟩ | exact rfl | exact hj1 _
          · intro u W J hL hJ hd
            have e0 : u 0 = .agg #[.int .u64 (pe : Int), .slice ma pn mc] := (hd.1 rfl (by decide)).2
            have e1 : u 3 = .int .i64 (E : Int) := (hd.2.1 rfl (by decide)).2
            have e2 : u 8 = .slice ba BL bc := (hd.2.2.1 rfl (by decide)).2
            simp only [putAll, Act.put, List.setIfInBounds_toArray, List.set_cons_succ, List.set_cons_zero, Nat.zero_add, Nat.reduceAdd]
            rw [e0, e1, e2]
            go_wp2_with (go_at_call 14; (with_reducible refine (HRP.out W hJ.bel).mono ?_); rintro e W1 ⟨rfl, g1⟩; have hj1 := (hJ.after g1).light (k := 9) (by decide) (by decide))
            first | exact ⟨_, rfl, rfl, hj1 _, fun j v' _ _ h => TSp.any j v' _ _ h⟩ | exact ⟨rfl, hj1 _, fun j v' _ _ h => TSp.any j v' _ _ h⟩
          · intro u W J hL hJ hd
            have e0 : u 9 = .tuple #[.agg #[.int .u64 (xe : Int), .slice xa xn xc], .int .i64 cc] := (hd.1 rfl (by decide)).2
            simp only [putAll, Act.put, List.setIfInBounds_toArray, List.set_cons_succ, List.set_cons_zero, Nat.zero_add, Nat.reduceAdd]
            rw [e0]
            have hj1 := hJ.light (k := 10) (by decide) (by decide)
            go_wp2
            first | exact ⟨rfl, hj1 _, fun j v' _ _ h => h⟩ | exact ⟨_, rfl, rfl, hj1 _, fun j v' _ _ h => h⟩ | exact ⟨rfl, hj1 _⟩ | exact rfl | exact hj1 _
          · intro u W J hL hJ hd
            have e0 : u 10 = .tuple #[.agg #[.int .u64 (xe : Int), .slice xa xn xc], .int .i64 cc] := (hd.1 rfl (by decide)).2
            simp only [putAll, Act.put, List.setIfInBounds_toArray, List.set_cons_succ, List.set_cons_zero, Nat.zero_add, Nat.reduceAdd]
            rw [e0]
            have hj1 := hJ.light (k := 11) (by decide) (by decide)
            go_wp2
            first | exact ⟨rfl, hj1 _, fun j v' _ _ h => h⟩ | exact ⟨_, rfl, rfl, hj1 _, fun j v' _ _ h => h⟩ | exact ⟨rfl, hj1 _⟩ | exact rfl | exact hj1 _
          · intro u W J hL hJ hd
            have e0 : u 10 = .tuple #[.agg #[.int .u64 (xe : Int), .slice xa xn xc], .int .i64 cc] := (hd.1 rfl (by decide)).2
            simp only [putAll, Act.put, List.setIfInBounds_toArray, List.set_cons_succ, List.set_cons_zero, Nat.zero_add, Nat.reduceAdd]
            rw [e0]
            have hj1 := hJ.light (k := 12) (by decide) (by decide)
            go_wp2
            first | exact ⟨rfl, hj1 _, fun j v' _ _ h => h⟩ | exact ⟨_, rfl, rfl, hj1 _, fun j v' _ _ h => h⟩ | exact ⟨rfl, hj1 _⟩ | exact rfl | exact hj1 _
          · intro u W J hL hJ hd
            simp only [putAll, Act.put, List.setIfInBounds_toArray, List.set_cons_succ, List.set_cons_zero, Nat.zero_add, Nat.reduceAdd]
            have hj1 := hJ.made hL 38
            go_wp2
            first | exact ⟨_, rfl, ⟨_, rfl⟩, hj1, fun j v' _ _ h => TSp.any j v' _ _ h⟩ | exact ⟨⟨_, rfl⟩, hj1, fun j v' _ _ h => TSp.any j v' _ _ h⟩ | exact ⟨⟨_, rfl⟩, fun j v' _ _ h => TSp.any j v' _ _ h⟩
          · intro u W J hL hJ hd
            obtain ⟨pv, e0⟩ := (hd.1 rfl (by decide)).2
            have h13 : J 13 = true := (hd.1 rfl (by decide)).1
            have e1 : u 11 = .agg #[.int .u64 (xe : Int), .slice xa xn xc] := (hd.2.1 rfl (by decide)).2
            have vv := hJ.cells h13 hL e0
            have q0 := vv.c0
            have q1 := vv.c1
            have q2 := vv.q0
            have q3 := vv.q1
            simp only [putAll, Act.put, List.setIfInBounds_toArray, List.set_cons_succ, List.set_cons_zero, Nat.zero_add, Nat.reduceAdd]
            rw [e0, e1]
            have hj1 := fun v => hJ.put h13 e0 v
            go_wp2
            first | exact ⟨undef, rfl, trivial, hj1 _, fun j v' _ _ h => TSp.any j v' _ _ h⟩ | exact ⟨undef, trivial, hj1 _, fun j v' _ _ h => TSp.any j v' _ _ h⟩
        · intro u W J hall hJ hT
          have e0 : u 0 = .agg #[.int .u64 (pe : Int), .slice ma pn mc] := hT 0 (by decide)
          have e1 : u 1 = .int .i64 (k : Int) := hT 1 (by decide)
          have e2 : u 2 = .int .i64 (size : Int) := hT 2 (by decide)
          have e3 : u 3 = .int .i64 (E : Int) := hT 3 (by decide)
          have e4 : u 4 = .slice (some ⟨bb, bo, none⟩) NL lcap := hT 4 (by decide)
          have e5 : u 5 = .int .i64 (i : Int) := hT 5 (by decide)
          have e6 : u 6 = .pointer (some ⟨bb, bo + i * 2, none⟩) := hT 6 (by decide)
          have e7 : u 7 = .pointer (some ⟨bb, bo + i * 2 + 1, none⟩) := hT 7 (by decide)
          have e8 : u 8 = .slice ba BL bc := hT 8 (by decide)
          have e9 : u 9 = .tuple #[.agg #[.int .u64 (xe : Int), .slice xa xn xc], .int .i64 cc] := hT 9 (by decide)
          have e10 : u 10 = .tuple #[.agg #[.int .u64 (xe : Int), .slice xa xn xc], .int .i64 cc] := hT 10 (by decide)
          have e11 : u 11 = .agg #[.int .u64 (xe : Int), .slice xa xn xc] := hT 11 (by decide)
          have e12 : u 12 = .int .i64 cc := hT 12 (by decide)
          obtain ⟨pv, e13, hpv, vv⟩ := hJ.vr (hall 13 (by decide))
          rw [if_pos (hall 14 (by decide)), if_pos (hall 14 (by decide))] at vv
          have HTW := Lib.hid (HTR.out.after hJ.bel)
          have q0 := vv.c0
          have q1 := vv.c1
          have VM := HMC.out W hJ.bel
          have m0 := VM.c0
          have m1 := VM.c1
          have m2 := VM.q0
          have m3 := VM.q1
          have HSET : Hid (TP w ((W.setCell ⟨mv, 0, none⟩ (.int .u64 (xe : Int))).setCell ⟨mv, 1, none⟩ (.slice xa xn xc)) w.heap.size r mv N size f k Z P M D gs) := HSETF.out W HTW.out
          have kc1 := (HCELL.out _ HSET.out.dp.bel).2.1
          clear hJ hT hall vv VM
          simp only [List.take_succ_cons, List.take_zero, List.drop_succ_cons, List.drop_zero, putAll, Act.put, List.setIfInBounds_toArray, List.set_cons_succ, List.set_cons_zero, Nat.zero_add, Nat.reduceAdd]
          rw [e0, e1, e2, e3, e4, e5, e6, e7, e8, e9, e10, e11, e12, e13]
          clear e0 e1 e2 e3 e4 e5 e6 e7 e8 e9 e10 e11 e12 e13
          go_wp2_with (go_at_call 15; (with_reducible refine (HPP.out _ HSET.out).mono ?_); rintro e W2 ⟨rfl, D4, ht4, hd4⟩; have HT4 := Lib.hid ht4; have HD4 := Lib.hid hd4; clear ht4 hd4)
          go_meet
          exact ⟨gs, M, D4, rfl, HT4.out, by have q1 := HDE.out.1; have q2 := HD4.out; omega, HMB.out⟩
      case neg =>
      by_cases q2 : kind = 2
      case pos =>
        subst q2
        have HD0 := Lib.hid HTR.out.dp
        clear q1
        go_wp2_with (first
          | (go_at_call 16; (with_reducible refine (dp_deeds HD0.out (by have := HDE.out; omega)).mono ?_); rintro e wd ⟨rfl, gd⟩; have HD1 := Lib.hid (HD0.out.after gd); clear gd)
          | (go_at_call 11; (with_reducible refine (dp_open HD1.out (HEN.out _ HD1.out.bel) (by have := HDE.out; omega)).mono ?_); rintro e wo ⟨gs2, rfl, tr2⟩; have HO2 := Lib.hid tr2; clear tr2)
          | (go_at_call 16; (with_reducible refine (dp_deeds HO2.out.dp (by have := HDE.out; omega)).mono ?_); rintro e wd2 ⟨rfl, gd2⟩; have HO4 := Lib.hid (HO2.out.after gd2); clear gd2))
        go_meet
        exact ⟨gs2, P, D, rfl, HO4.out, by have := HDE.out.1; omega, HPB.out⟩
      case neg =>
      by_cases q3 : kind = 3
      case pos =>
        subst q3
        clear q1 q2
        obtain ⟨ma, mc, vm, _, _⟩ := HTR.out.dp.var
        have n0 := vm.c0
        have n1 := vm.c1
        have n2 := vm.q0
        have n3 := vm.q1
        have HNL : Hid (DP w ((wr.setCell ⟨mv, 0, none⟩ (.int .u64 0)).setCell ⟨mv, 1, none⟩ (.slice none 0 0)) w.heap.size r mv N size f k Z P (0, []) D) := dp_set (M' := (0, [])) HTR.out.dp (a := none) (c := 0) (fun W _ => ArgB.nil W) (by decide)
        clear vm
        go_wp2_with (first
          | (go_at_call 10; (with_reducible refine (dp_format HNL.out (HEN.out _ HNL.out.bel) (by have := HDE.out; omega)).mono ?_); rintro e wf ⟨rfl, DF, hdf, hdd⟩; have HF := Lib.hid hdf; have HDF : Hid (DF.deeds ≤ 2000 + (i + 1) * 2000 ∧ i ≤ 60) := (by have := HDE.out; exact ⟨by omega, this.2⟩); clear hdf hdd)
          | (go_at_call 11; (with_reducible refine (dp_open HF.out (HEN.out _ HF.out.bel) (by have := HDF.out; omega)).mono ?_); rintro e wo ⟨gs2, rfl, tr2⟩; have HO2 := Lib.hid tr2; clear tr2))
        go_meet
        exact ⟨gs2, (0, []), DF, rfl, HO2.out, HDF.out.1, fun z hz => by cases hz⟩
      case neg =>
        have p1 : (kind == 1) = false := by simpa using q1
        have p2 : (kind == 2) = false := by simpa using q2
        have p3 : (kind == 3) = false := by simpa using q3
        clear p1 p2 p3
        go_wp2
        go_meet
        exact ⟨gs, P, D, rfl, HTR.out, by have := HDE.out.1; omega, HPB.out⟩
    case rest =>
      obtain ⟨gs2, P2, D2, rfl, ht2, hd2, hpb2⟩ := hcut
      obtain ⟨ma, mc, vm, hma, hp1⟩ := ht2.dp.var
      have HT := Lib.hid ht2
      have HDE2 := Lib.hid hd2
      have HPB2 := Lib.hid hpb2
      have HDD : Hid (D2.deeds ≤ 1000000) := by have := HDE.out.2; unfold Hid; omega
      have HSAME := Lib.hid (fun W x (hW : Below wc.heap.size wc W) (hs : SnapV W x P2) => (rssame_any x (.agg #[.int .u64 (P2.1 : Int), .slice ma P2.2.length mc]) P2 P2 W hs ⟨hp1, ma, mc, rfl, hma W (ht2.dp.after hW).bel⟩ hpb2 hpb2).mono (fun e w' ⟨h, g⟩ => (And.intro (by rw [h, decide_eq_true rfl]) g : e = Ending.returned (Value.bool true) ∧ Below W.heap.size W w')))
      obtain ⟨pe, hpe⟩ : ∃ x, P2.1 = x := ⟨_, rfl⟩
      obtain ⟨pn, hpn⟩ : ∃ x, P2.2.length = x := ⟨_, rfl⟩
      rw [hpe, hpn] at HSAME vm
      have HMC := Lib.hid (fun W (hW : Below wc.heap.size wc W) => vm.after hW)
      clear hpe hpn vm hma hp1 ht2 hd2 hpb2 kc0
      go_wp2
      refine wp_region_mix 10 (TLk [.pointer (some ⟨gs2, 0, none⟩), undef, .agg #[.int .u64 (pe : Int), .slice ma pn mc], .bool true, .bool false, .bool false, .pointer (some ⟨r, 0, none⟩), .int .i64 0, .bool false, .bool false] P2) (fun _ => false) (by kernel_rfl) (by kernel_rfl) TLk.keep (fun _ _ _ h => by cases h) ?_ ?_
      · simp only [List.take_succ_cons, List.take_zero]
        refine (StepsAll.cons ?_ (StepsAll.cons ?_ (StepsAll.cons ?_ (StepsAll.cons ?_ (StepsAll.cons ?_ (StepsAll.cons ?_ (StepsAll.cons ?_ (StepsAll.cons ?_ (StepsAll.cons ?_ (StepsAll.cons ?_ StepsAll.nil))))))))))
        · intro u W hb hd
          simp only [putAll, Act.put, List.setIfInBounds_toArray, List.set_cons_succ, List.set_cons_zero, Nat.zero_add, Nat.reduceAdd]
          go_wp2
          first | exact ⟨rfl, Below.refl _ _⟩ | exact ⟨_, rfl, rfl, Below.refl _ _, fun h => by simp at h⟩ | exact ⟨_, rfl, rfl, Below.refl _ _⟩ | exact ⟨rfl, Below.refl _ _, fun h => by simp at h⟩
        · intro u W hb hd
          have e0 : u 0 = .pointer (some ⟨gs2, 0, none⟩) := hd.1 rfl (by decide)
          simp only [putAll, Act.put, List.setIfInBounds_toArray, List.set_cons_succ, List.set_cons_zero, Nat.zero_add, Nat.reduceAdd]
          rw [e0]
          go_wp2_with (go_at_call 18; (with_reducible refine (tp_snap (HT.out.after hb)).mono ?_); rintro e W1 ⟨xv, rfl, hs, g1⟩)
          first | exact ⟨_, rfl, hs, g1, fun h => by simp at h⟩ | exact ⟨hs, g1, fun h => by simp at h⟩ | exact ⟨_, rfl, hs, g1⟩ | exact ⟨hs, g1⟩
        · intro u W hb hd
          have q0 := (HMC.out W hb).c0
          have q1 := (HMC.out W hb).c1
          simp only [putAll, Act.put, List.setIfInBounds_toArray, List.set_cons_succ, List.set_cons_zero, Nat.zero_add, Nat.reduceAdd]
          go_wp2
          first | exact ⟨rfl, Below.refl _ _⟩ | exact ⟨_, rfl, rfl, Below.refl _ _, fun h => by simp at h⟩ | exact ⟨_, rfl, rfl, Below.refl _ _⟩ | exact ⟨rfl, Below.refl _ _, fun h => by simp at h⟩
        · intro u W hb hd
          have hs0 : SnapV W (u 1) P2 := hd.1 rfl (by decide)
          obtain ⟨x0, hx0⟩ : ∃ x, u 1 = x := ⟨_, rfl⟩
          rw [hx0] at hs0
          have e1 : u 2 = .agg #[.int .u64 (pe : Int), .slice ma pn mc] := hd.2.1 rfl (by decide)
          simp only [putAll, Act.put, List.setIfInBounds_toArray, List.set_cons_succ, List.set_cons_zero, Nat.zero_add, Nat.reduceAdd]
          rw [hx0, e1]
          go_wp2_with (go_at_call 17; (with_reducible refine (HSAME.out W x0 hb hs0).mono ?_); rintro e W1 ⟨rfl, g1⟩)
          first | exact ⟨_, rfl, rfl, g1, fun h => by simp at h⟩ | exact ⟨rfl, g1⟩ | exact ⟨_, rfl, rfl, g1⟩
        · intro u W hb hd
          have e0 : u 3 = .bool true := hd.1 rfl (by decide)
          simp only [putAll, Act.put, List.setIfInBounds_toArray, List.set_cons_succ, List.set_cons_zero, Nat.zero_add, Nat.reduceAdd]
          rw [e0]
          go_wp2
          first | exact ⟨rfl, Below.refl _ _⟩ | exact ⟨_, rfl, rfl, Below.refl _ _, fun h => by simp at h⟩ | exact ⟨_, rfl, rfl, Below.refl _ _⟩ | exact ⟨rfl, Below.refl _ _, fun h => by simp at h⟩
        · intro u W hb hd
          have e0 : u 4 = .bool false := hd.1 rfl (by decide)
          simp only [putAll, Act.put, List.setIfInBounds_toArray, List.set_cons_succ, List.set_cons_zero, Nat.zero_add, Nat.reduceAdd]
          rw [e0]
          go_wp2
          first | exact ⟨rfl, Below.refl _ _⟩ | exact ⟨_, rfl, rfl, Below.refl _ _, fun h => by simp at h⟩ | exact ⟨_, rfl, rfl, Below.refl _ _⟩ | exact ⟨rfl, Below.refl _ _, fun h => by simp at h⟩
        · intro u W hb hd
          have e0 : u 5 = .bool false := hd.1 rfl (by decide)
          simp only [putAll, Act.put, List.setIfInBounds_toArray, List.set_cons_succ, List.set_cons_zero, Nat.zero_add, Nat.reduceAdd]
          rw [e0]
          go_wp2
          first | exact ⟨rfl, Below.refl _ _⟩ | exact ⟨_, rfl, rfl, Below.refl _ _, fun h => by simp at h⟩ | exact ⟨_, rfl, rfl, Below.refl _ _⟩ | exact ⟨rfl, Below.refl _ _, fun h => by simp at h⟩
        · intro u W hb hd
          have e0 : u 6 = .pointer (some ⟨r, 0, none⟩) := hd.1 rfl (by decide)
          have e2 : u 5 = .bool false := hd.2.2.1 rfl (by decide)
          simp only [putAll, Act.put, List.setIfInBounds_toArray, List.set_cons_succ, List.set_cons_zero, Nat.zero_add, Nat.reduceAdd]
          rw [e0, e2]
          go_wp2_with (go_at_call 19; (with_reducible refine (dp_waits (HT.out.dp.after hb) HDD.out).mono ?_); rintro e W1 ⟨rfl, g1⟩)
          first | exact ⟨_, rfl, rfl, g1, fun h => by simp at h⟩ | exact ⟨rfl, g1⟩ | exact ⟨_, rfl, rfl, g1⟩
        · intro u W hb hd
          have e0 : u 7 = .int .i64 0 := hd.1 rfl (by decide)
          have e1 : u 5 = .bool false := hd.2.1 rfl (by decide)
          simp only [putAll, Act.put, List.setIfInBounds_toArray, List.set_cons_succ, List.set_cons_zero, Nat.zero_add, Nat.reduceAdd]
          rw [e0, e1]
          go_wp2
          first | exact ⟨rfl, Below.refl _ _⟩ | exact ⟨_, rfl, rfl, Below.refl _ _, fun h => by simp at h⟩ | exact ⟨_, rfl, rfl, Below.refl _ _⟩ | exact ⟨rfl, Below.refl _ _, fun h => by simp at h⟩
        · intro u W hb hd
          have e0 : u 5 = .bool false := hd.1 rfl (by decide)
          have e1 : u 8 = .bool false := hd.2.1 rfl (by decide)
          simp only [putAll, Act.put, List.setIfInBounds_toArray, List.set_cons_succ, List.set_cons_zero, Nat.zero_add, Nat.reduceAdd]
          rw [e0, e1]
          go_wp2
          first | exact ⟨rfl, Below.refl _ _⟩ | exact ⟨_, rfl, rfl, Below.refl _ _, fun h => by simp at h⟩ | exact ⟨_, rfl, rfl, Below.refl _ _⟩ | exact ⟨rfl, Below.refl _ _, fun h => by simp at h⟩
      · intro u W hb hT _
        have e0 : u 0 = .pointer (some ⟨gs2, 0, none⟩) := hT 0 (by decide)
        have e2 : u 2 = .agg #[.int .u64 (pe : Int), .slice ma pn mc] := hT 2 (by decide)
        have e3 : u 3 = .bool true := hT 3 (by decide)
        have e4 : u 4 = .bool false := hT 4 (by decide)
        have e5 : u 5 = .bool false := hT 5 (by decide)
        have e6 : u 6 = .pointer (some ⟨r, 0, none⟩) := hT 6 (by decide)
        have e7 : u 7 = .int .i64 0 := hT 7 (by decide)
        have e8 : u 8 = .bool false := hT 8 (by decide)
        have e9 : u 9 = .bool false := hT 9 (by decide)
        have HTW := Lib.hid (HT.out.after hb)
        clear hb hT
        simp only [List.take_succ_cons, List.take_zero, List.drop_succ_cons, List.drop_nil, putAll, Act.put, List.setIfInBounds_toArray, List.set_cons_succ, List.set_cons_zero, Nat.zero_add, Nat.reduceAdd]
        rw [e0, e2, e3, e4, e5, e6, e7, e8, e9]
        clear e0 e2 e3 e4 e5 e6 e7 e8 e9
        go_wp2
        go_roundw
        case rel => exact ⟨i + 1, gs2, P2, D2, rfl, by go_num, hlt, HTW.out, HDE2.out, HPB2.out⟩
        case measure => simp [intOf]; omega

set_option maxRecDepth 100000 in
set_option maxHeartbeats 8000000 in
theorem sltplays_short (nb sz zf zk : Int) (lv : Value) (l : List ActW) (w : World) (env : Env w) (hlv : ActsW w lv l) (h : nb < 1 ∨ 12 < nb ∨ sz < 32 ∨ 512 < sz ∨ longL l) :
    Calls Tryd.prog 3 #[.int .i64 nb, .int .i64 sz, .int .i64 zf, .int .i64 zk, lv] w fun e w' => e = .returned (.bool true) ∧ Below w.heap.size w w' := by
  have HENV := Lib.hid env
  have HLV := Lib.hid hlv
  obtain ⟨la, lcap, rfl⟩ := hlv.size
  obtain ⟨NL, hNL⟩ : ∃ x, l.length = x := ⟨_, rfl⟩
  rw [hNL] at HLV ⊢
  have hc : nb < 1 ∨ (¬ nb < 1 ∧ 12 < nb) ∨ (¬ nb < 1 ∧ ¬ 12 < nb ∧ sz < 32) ∨ (¬ nb < 1 ∧ ¬ 12 < nb ∧ ¬ sz < 32 ∧ 512 < sz) ∨ (¬ nb < 1 ∧ ¬ 12 < nb ∧ ¬ sz < 32 ∧ ¬ 512 < sz ∧ longL l) := by
    by_cases q5 : longL l
    · simp only [q5, and_true]
      omega
    · simp only [q5, or_false, and_false] at h ⊢
      omega
  clear env hlv h hNL
  rcases hc with g1 | ⟨g1, g2⟩ | ⟨g1, g2, g3⟩ | ⟨g1, g2, g3, g4⟩ | ⟨g1, g2, g3, g4, g5⟩
  case inr.inr.inr.inr =>
    have HLG := Lib.hid g5
    clear g5
    go_enter Tryd.func3, Tryd.ntmps3
    go_wp2_with (first
      | (go_at_call 6; (with_reducible refine (slt_awake _ HENV.out).mono ?_); rintro e wa ⟨rfl, ga⟩; have GA := Lib.hid ga; have HLVA := Lib.hid (HLV.out.below ga); clear ga)
      | (go_at_call 7; (with_reducible refine (long_any _ l _ HLVA.out).mono ?_); rintro e wl ⟨b, rfl, hb, rfl⟩; obtain rfl : b = true := hb.mpr HLG.out; clear hb))
    go_ret
    exact ⟨rfl, GA.out⟩
  all_goals
    go_enter Tryd.func3, Tryd.ntmps3
    go_wp2_with (first
      | (go_at_call 6; (with_reducible refine (slt_awake _ HENV.out).mono ?_); rintro e wa ⟨rfl, ga⟩; have GA := Lib.hid ga; have HLVA := Lib.hid (HLV.out.below ga); clear ga))
    go_ret
    exact ⟨rfl, GA.out⟩
theorem sltplays_walk (nb sz zf zk : Int) (lv : Value) (l : List ActW) (w : World) (env : Env w) (hlv : ActsW w lv l) (hl : ∀ x ∈ l, x.Ok) (f0 : -9223372036854775808 ≤ zf ∧ zf ≤ 9223372036854775807) (k0 : -9223372036854775808 ≤ zk ∧ zk ≤ 9223372036854775807) :
    Calls Tryd.prog 3 #[.int .i64 nb, .int .i64 sz, .int .i64 zf, .int .i64 zk, lv] w fun e w' => e = .returned (.bool true) ∧ Below w.heap.size w w' := by
  by_cases h : nb < 1 ∨ 12 < nb ∨ sz < 32 ∨ 512 < sz ∨ longL l
  · exact sltplays_short nb sz zf zk lv l w env hlv h
  · have hl2 : ¬ longL l := fun q => h (Or.inr (Or.inr (Or.inr (Or.inr q))))
    simp only [hl2, or_false] at h
    obtain ⟨N, rfl⟩ : ∃ N : Nat, nb = (N : Int) := ⟨nb.toNat, by omega⟩
    obtain ⟨size, rfl⟩ : ∃ size : Nat, sz = (size : Int) := ⟨sz.toNat, by omega⟩
    by_cases hreg : OnSl N zf zk
    · obtain ⟨q1, q2, q3⟩ := hreg
      obtain ⟨f, rfl⟩ : ∃ f : Nat, zf = (f : Int) := ⟨zf.toNat, by omega⟩
      obtain ⟨k, rfl⟩ : ∃ k : Nat, zk = (k : Int) := ⟨zk.toNat, by omega⟩
      exact sltplays_good N size f k lv l w env hlv (by omega) (by omega) (by omega) (by omega) hl hl2 (by omega) (by omega)
    · exact sltplays_bad N size zf zk lv l w env hlv (by omega) (by omega) (by omega) (by omega) hl2 f0 k0 hreg

end Go.Proofs.YtbhmkmfjbafdcaaDoor
