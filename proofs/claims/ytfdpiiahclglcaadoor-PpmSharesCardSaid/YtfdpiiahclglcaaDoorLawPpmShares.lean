/-
  PpmShares is proved: of any part of any number ppm.Share tells the greatest share that isn't above it, and of a cut it isn't above the share; no condition but that the listed tables of package unicode/utf8 read as their text lays them (the card ties that).
-/
import Derived.Test.YtfdpiiahclglcaaDoorRows
import Derived.Test.YtfdpiiahclglcaaDoorCards
import Derived.Test.YtfdpiiahclglcaaDoorTie
import Derived.Test.YtfdpiiahclglcaaDoorPpmU
import Derived.Test.YtfdpiiahclglcaaDoorRefD
import Derived.ProofKit
import Derived.OpenShut
import Derived.Below
import Derived.Lib.SmallJoins
import Derived.LaidMore
import Derived.Lay
import Derived.SevenTiedAt
import Derived.Stop.Joined
namespace Go.Proofs.YtfdpiiahclglcaaDoor
open Go.ChangeShapes Go.WideShapes Go.ChangeAt Go.RowKit Go.Joins

set_option maxRecDepth 100000 in
theorem pshares_zero (a p : Int) (w : World) :
    Calls Tryd.prog 5 #[.int .u64 a, .int .u64 0, .int .u32 p] w fun e w' => e = .returned (.bool true) ∧ Below w.heap.size w w' := by
  go_enter Tryd.func5, Tryd.ntmps5
  go_wp2_with (first
    | (go_at_call 6; (with_reducible refine (ppm_awake _).mono ?_); rintro e w1 ⟨rfl, g1⟩)
    | (go_at_call 21; (with_reducible refine (share_zero a _).mono ?_); rintro e w2 ⟨x, rfl, x0, x1, x2, g2⟩; obtain rfl : x = 0 := (by omega); clear x2))
  go_ret
  exact ⟨rfl, below_step g1 g2⟩
set_option maxRecDepth 100000 in
theorem pshares_more (a b p : Int) (w : World) (hb : 1 ≤ b) (h : b < a) :
    Calls Tryd.prog 5 #[.int .u64 a, .int .u64 b, .int .u32 p] w fun e w' => e = .returned (.bool true) ∧ Below w.heap.size w w' := by
  have hne : (b == 0) = false := by simp; omega
  go_enter Tryd.func5, Tryd.ntmps5
  go_wp2_with (first
    | (go_at_call 6; (with_reducible refine (ppm_awake _).mono ?_); rintro e w1 ⟨rfl, g1⟩)
    | (go_at_call 21; (with_reducible refine (share_more a b _ hb h).mono ?_); rintro e w2 ⟨x, rfl, x0, x1, x2, g2⟩; obtain rfl : x = 0 := (by omega); clear x2))
  go_ret
  exact ⟨rfl, below_step g1 g2⟩

/-- The share is the greatest that isn't above the part. -/
theorem share_fits {a b : Nat} (_hb : 1 ≤ b) : b * (a * 1000000 / b) ≤ a * 1000000 := Nat.mul_div_le _ _
theorem share_next {a b : Nat} (hb : 1 ≤ b) : a * 1000000 < b * (a * 1000000 / b + 1) := by
  have h1 := Nat.div_add_mod (a * 1000000) b
  have h2 := Nat.mod_lt (a * 1000000) (show 0 < b by omega)
  rw [Nat.mul_add]; omega
theorem share_le {a b : Nat} (h : a ≤ b) : a * 1000000 / b ≤ 1000000 := by
  apply Nat.div_le_of_le_mul
  have := Nat.mul_le_mul_right 1000000 h
  omega
/-- Of a cut the share isn't above the share. -/
theorem share_cut {b p : Nat} (hb : 1 ≤ b) : b * p / 1000000 * 1000000 / b ≤ p := by
  have h1 : b * p / 1000000 * 1000000 ≤ b * p := Nat.div_mul_le_self _ _
  calc b * p / 1000000 * 1000000 / b ≤ b * p / b := Nat.div_le_div_right h1
    _ = p := Nat.mul_div_cancel_left p (by omega)
theorem cut_part {b p : Nat} (hp : p ≤ 1000000) : b * p / 1000000 ≤ b := by
  have h1 : b * p ≤ b * 1000000 := Nat.mul_le_mul_left _ hp
  omega

theorem comp_le (va vb : Value) (la lb : List Bool) (k : Int) (w : World) (ha : BoolsN w va la) (hb : BoolsN w vb lb) (hma : la.length ≤ 9223372036854775807) (hmb : lb.length ≤ 9223372036854775807) (hk : cmpI (val la) (val lb) = k) :
    Calls Tryd.prog 19 #[va, vb] w fun e w' => e = .returned (.int .i64 k) ∧ w = w' := compare_is k va vb la lb w ha hb hma hmb hk
theorem cmp_not_gt {x y : Nat} (h : x ≤ y) : ∃ k : Int, cmpI x y = k ∧ decide (k > 0) = false := by
  refine ⟨_, rfl, ?_⟩
  rcases Nat.lt_or_ge x y with h1 | h1
  · rw [cmpI_lt h1]; rfl
  · rw [cmpI_eq (by omega)]; rfl

theorem million_nat : Int.toNat 1000000 = 1000000 := rfl
theorem succ_nat {s : Int} (h : 0 ≤ s) : (s + 1).toNat = s.toNat + 1 := by omega
set_option maxRecDepth 100000 in
set_option maxHeartbeats 4000000 in
theorem pshares_right (a b p : Int) (w : World) (a0 : 0 ≤ a) (hb : 1 ≤ b) (b1 : b ≤ 18446744073709551615) (hab : ¬ b < a) (p0 : 0 ≤ p) (hp : p ≤ 1000000) :
    Calls Tryd.prog 5 #[.int .u64 a, .int .u64 b, .int .u32 p] w fun e w' => e = .returned (.bool true) ∧ Below w.heap.size w w' := by
  have b0 : 0 ≤ b := by omega
  have a1 : a ≤ 18446744073709551615 := by omega
  have hne : (b == 0) = false := by simp; omega
  have HS : Hid (a.toNat * 1000000 / b.toNat ≤ 1000000) := share_le (by omega)
  have HN : Hid (a.toNat * 1000000 < b.toNat * (a.toNat * 1000000 / b.toNat + 1)) := share_next (by omega)
  obtain ⟨k, hk, hkb⟩ := cmp_not_gt (share_fits (a := a.toNat) (show 1 ≤ b.toNat by omega))
  replace hk := Lib.hid hk
  have HQ : Hid (b.toNat * p.toNat / 1000000 ≤ b.toNat) := cut_part (by omega)
  have HU : Hid (b.toNat * p.toNat / 1000000 * 1000000 / b.toNat ≤ p.toNat) := share_cut (by omega)
  go_enter Tryd.func5, Tryd.ntmps5
  go_wp2_with (first
    | (go_at_call 6; (with_reducible refine (ppm_awake _).mono ?_); rintro e w' ⟨rfl, g⟩; have DD := g; clear g)
    | (go_at_call 21; (with_reducible refine (share_any a b _ a0 hb b1 (by omega)).mono ?_); rintro e w' ⟨s, rfl, s0, s1, s2, g⟩; have DD := below_step DD g; clear g; replace s2 := Lib.hid s2; have s3 : s ≤ 1000000 := (by have h1 := s2.out; have h2 := HS.out; omega))
    | (go_at_call 15; (with_reducible refine (bits_small (1000000) _ (by decide) (by decide)).mono ?_); rintro e w' ⟨vm, lm, rfl, Km, ⟨nm, em⟩, g⟩; replace Km := Lib.hid Km; replace nm := Lib.hid nm; replace em := Lib.hid em; have DD := below_step DD g; clear g)
    | (go_at_call 15; (with_reducible refine (bits_small (a) _ a0 a1).mono ?_); rintro e w' ⟨va, la, rfl, Ka, ⟨na, ea⟩, g⟩; replace Ka := Lib.hid Ka; replace na := Lib.hid na; replace ea := Lib.hid ea; have Km := Lib.hid (Km.out.below g); have DD := below_step DD g; clear g)
    | (go_at_call 17; (with_reducible refine (times_any va vm la lm _ Ka.out Km.out (by have := na.out; omega) (by have := nm.out; omega)).mono ?_); rintro e w' ⟨vx, lx, rfl, Kx, ⟨nx, ex⟩, g⟩; replace nx : Hid (lx.length ≤ 256) := (by have h1 := na.out; have h2 := nm.out; unfold Hid; omega); replace ex := Lib.hid (show val lx = val la * val lm from ex); replace Kx := Lib.hid Kx; have DD := below_step DD g; clear g)
    | (go_at_call 15; (with_reducible refine (bits_small (s) _ s0 (by omega)).mono ?_); rintro e w' ⟨vs, ls, rfl, Ks, ⟨ns, es⟩, g⟩; replace Ks := Lib.hid Ks; replace ns := Lib.hid ns; replace es := Lib.hid es; have Kx := Lib.hid (Kx.out.below g); have Kb := Lib.hid (Kb.out.below g); have DD := below_step DD g; clear g)
    | (go_at_call 17; (with_reducible refine (times_any vb vs lb ls _ Kb.out Ks.out (by have := nb.out; omega) (by have := ns.out; omega)).mono ?_); rintro e w' ⟨vy, ly, rfl, Ky, ⟨ny, ey⟩, g⟩; replace ny : Hid (ly.length ≤ 256) := (by have h1 := nb.out; have h2 := ns.out; unfold Hid; omega); replace ey := Lib.hid (show val ly = val lb * val ls from ey); replace Ky := Lib.hid Ky; have Kx := Lib.hid (Kx.out.below g); have DD := below_step DD g; clear g)
    | (go_at_call 15; (with_reducible refine (bits_small (b) _ b0 b1).mono ?_); rintro e w' ⟨vc, lc, rfl, Kc, ⟨nc, ec⟩, g⟩; replace Kc := Lib.hid Kc; replace nc := Lib.hid nc; replace ec := Lib.hid ec; have Kx := Lib.hid (Kx.out.below g); have Ky := Lib.hid (Ky.out.below g); have DD := below_step DD g; clear g)
    | (go_at_call 15; (with_reducible refine (bits_small (b) _ b0 b1).mono ?_); rintro e w' ⟨vb, lb, rfl, Kb, ⟨nb, eb⟩, g⟩; replace Kb := Lib.hid Kb; replace nb := Lib.hid nb; replace eb := Lib.hid eb; have Kx := Lib.hid (Kx.out.below g); have DD := below_step DD g; clear g)
    | (go_at_call 15; (with_reducible refine (bits_small (s + 1) _ (by omega) (by omega)).mono ?_); rintro e w' ⟨vt, lt, rfl, Kt, ⟨nt, et⟩, g⟩; replace Kt := Lib.hid Kt; replace nt := Lib.hid nt; replace et := Lib.hid et; have Kx := Lib.hid (Kx.out.below g); have Ky := Lib.hid (Ky.out.below g); have Kc := Lib.hid (Kc.out.below g); have DD := below_step DD g; clear g)
    | (go_at_call 17; (with_reducible refine (times_any vc vt lc lt _ Kc.out Kt.out (by have := nc.out; omega) (by have := nt.out; omega)).mono ?_); rintro e w' ⟨vz, lz, rfl, Kz, ⟨nz, ez⟩, g⟩; replace nz : Hid (lz.length ≤ 256) := (by have h1 := nc.out; have h2 := nt.out; unfold Hid; omega); replace ez := Lib.hid (show val lz = val lc * val lt from ez); replace Kz := Lib.hid Kz; have Kx := Lib.hid (Kx.out.below g); have Ky := Lib.hid (Ky.out.below g); have DD := below_step DD g; clear g)
    | (go_at_call 11; (with_reducible refine (right_yes s _ s3).mono ?_); rintro e w' ⟨rfl, rfl⟩; skip)
    | (go_at_call 19; (with_reducible refine (comp_le vy vx ly lx k _ Ky.out.orNil Kx.out.orNil (by have := ny.out; omega) (by have := nx.out; omega) (by rw [ey.out, ex.out, eb.out, es.out, ea.out, em.out, s2.out, million_nat]; exact hk.out)).mono ?_); rintro e w' ⟨rfl, rfl⟩; skip)
    | (go_at_call 19; (with_reducible refine (comp_le vz vx lz lx 1 _ Kz.out.orNil Kx.out.orNil (by have := nz.out; omega) (by have := nx.out; omega) (by rw [ez.out, ex.out, ec.out, et.out, ea.out, em.out, million_nat]; exact cmpI_gt (by have h1 := HN.out; have h2 := s2.out; rw [succ_nat s0, h2]; exact h1))).mono ?_); rintro e w' ⟨rfl, rfl⟩; skip)
    | (go_at_call 14; (with_reducible refine (cut_yes b p _ b0 b1 p0 hp).mono ?_); rintro e w' ⟨q, r, rfl, q0, q1, q2, r0, r1, r2, g⟩; have DD := below_step DD g; clear g r2; replace q2 := Lib.hid q2; have q3 : q ≤ b := (by have h1 := q2.out; have h2 := HQ.out; omega))
    | (go_at_call 21; (with_reducible refine (share_any q b _ q0 hb b1 (by omega)).mono ?_); rintro e w' ⟨u, rfl, u0, u1, u2, g⟩; have DD := below_step DD g; clear g; have u3 : u ≤ p := (by have h1 := q2.out; have h2 := HU.out; rw [h1] at u2; omega); clear u2))
  go_ret
  exact ⟨rfl, DD⟩
set_option maxRecDepth 100000 in
set_option maxHeartbeats 4000000 in
theorem pshares_wrong (a b p : Int) (w : World) (a0 : 0 ≤ a) (hb : 1 ≤ b) (b1 : b ≤ 18446744073709551615) (hab : ¬ b < a) (_p0 : 0 ≤ p) (hp : 1000000 < p) :
    Calls Tryd.prog 5 #[.int .u64 a, .int .u64 b, .int .u32 p] w fun e w' => e = .returned (.bool true) ∧ Below w.heap.size w w' := by
  have b0 : 0 ≤ b := by omega
  have a1 : a ≤ 18446744073709551615 := by omega
  have hne : (b == 0) = false := by simp; omega
  have HS : Hid (a.toNat * 1000000 / b.toNat ≤ 1000000) := share_le (by omega)
  have HN : Hid (a.toNat * 1000000 < b.toNat * (a.toNat * 1000000 / b.toNat + 1)) := share_next (by omega)
  obtain ⟨k, hk, hkb⟩ := cmp_not_gt (share_fits (a := a.toNat) (show 1 ≤ b.toNat by omega))
  replace hk := Lib.hid hk
  go_enter Tryd.func5, Tryd.ntmps5
  go_wp2_with (first
    | (go_at_call 6; (with_reducible refine (ppm_awake _).mono ?_); rintro e w' ⟨rfl, g⟩; have DD := g; clear g)
    | (go_at_call 21; (with_reducible refine (share_any a b _ a0 hb b1 (by omega)).mono ?_); rintro e w' ⟨s, rfl, s0, s1, s2, g⟩; have DD := below_step DD g; clear g; replace s2 := Lib.hid s2; have s3 : s ≤ 1000000 := (by have h1 := s2.out; have h2 := HS.out; omega))
    | (go_at_call 15; (with_reducible refine (bits_small (1000000) _ (by decide) (by decide)).mono ?_); rintro e w' ⟨vm, lm, rfl, Km, ⟨nm, em⟩, g⟩; replace Km := Lib.hid Km; replace nm := Lib.hid nm; replace em := Lib.hid em; have DD := below_step DD g; clear g)
    | (go_at_call 15; (with_reducible refine (bits_small (a) _ a0 a1).mono ?_); rintro e w' ⟨va, la, rfl, Ka, ⟨na, ea⟩, g⟩; replace Ka := Lib.hid Ka; replace na := Lib.hid na; replace ea := Lib.hid ea; have Km := Lib.hid (Km.out.below g); have DD := below_step DD g; clear g)
    | (go_at_call 17; (with_reducible refine (times_any va vm la lm _ Ka.out Km.out (by have := na.out; omega) (by have := nm.out; omega)).mono ?_); rintro e w' ⟨vx, lx, rfl, Kx, ⟨nx, ex⟩, g⟩; replace nx : Hid (lx.length ≤ 256) := (by have h1 := na.out; have h2 := nm.out; unfold Hid; omega); replace ex := Lib.hid (show val lx = val la * val lm from ex); replace Kx := Lib.hid Kx; have DD := below_step DD g; clear g)
    | (go_at_call 15; (with_reducible refine (bits_small (s) _ s0 (by omega)).mono ?_); rintro e w' ⟨vs, ls, rfl, Ks, ⟨ns, es⟩, g⟩; replace Ks := Lib.hid Ks; replace ns := Lib.hid ns; replace es := Lib.hid es; have Kx := Lib.hid (Kx.out.below g); have Kb := Lib.hid (Kb.out.below g); have DD := below_step DD g; clear g)
    | (go_at_call 17; (with_reducible refine (times_any vb vs lb ls _ Kb.out Ks.out (by have := nb.out; omega) (by have := ns.out; omega)).mono ?_); rintro e w' ⟨vy, ly, rfl, Ky, ⟨ny, ey⟩, g⟩; replace ny : Hid (ly.length ≤ 256) := (by have h1 := nb.out; have h2 := ns.out; unfold Hid; omega); replace ey := Lib.hid (show val ly = val lb * val ls from ey); replace Ky := Lib.hid Ky; have Kx := Lib.hid (Kx.out.below g); have DD := below_step DD g; clear g)
    | (go_at_call 15; (with_reducible refine (bits_small (b) _ b0 b1).mono ?_); rintro e w' ⟨vc, lc, rfl, Kc, ⟨nc, ec⟩, g⟩; replace Kc := Lib.hid Kc; replace nc := Lib.hid nc; replace ec := Lib.hid ec; have Kx := Lib.hid (Kx.out.below g); have Ky := Lib.hid (Ky.out.below g); have DD := below_step DD g; clear g)
    | (go_at_call 15; (with_reducible refine (bits_small (b) _ b0 b1).mono ?_); rintro e w' ⟨vb, lb, rfl, Kb, ⟨nb, eb⟩, g⟩; replace Kb := Lib.hid Kb; replace nb := Lib.hid nb; replace eb := Lib.hid eb; have Kx := Lib.hid (Kx.out.below g); have DD := below_step DD g; clear g)
    | (go_at_call 15; (with_reducible refine (bits_small (s + 1) _ (by omega) (by omega)).mono ?_); rintro e w' ⟨vt, lt, rfl, Kt, ⟨nt, et⟩, g⟩; replace Kt := Lib.hid Kt; replace nt := Lib.hid nt; replace et := Lib.hid et; have Kx := Lib.hid (Kx.out.below g); have Ky := Lib.hid (Ky.out.below g); have Kc := Lib.hid (Kc.out.below g); have DD := below_step DD g; clear g)
    | (go_at_call 17; (with_reducible refine (times_any vc vt lc lt _ Kc.out Kt.out (by have := nc.out; omega) (by have := nt.out; omega)).mono ?_); rintro e w' ⟨vz, lz, rfl, Kz, ⟨nz, ez⟩, g⟩; replace nz : Hid (lz.length ≤ 256) := (by have h1 := nc.out; have h2 := nt.out; unfold Hid; omega); replace ez := Lib.hid (show val lz = val lc * val lt from ez); replace Kz := Lib.hid Kz; have Kx := Lib.hid (Kx.out.below g); have Ky := Lib.hid (Ky.out.below g); have DD := below_step DD g; clear g)
    | (go_at_call 11; (with_reducible refine (right_yes s _ s3).mono ?_); rintro e w' ⟨rfl, rfl⟩; skip)
    | (go_at_call 19; (with_reducible refine (comp_le vy vx ly lx k _ Ky.out.orNil Kx.out.orNil (by have := ny.out; omega) (by have := nx.out; omega) (by rw [ey.out, ex.out, eb.out, es.out, ea.out, em.out, s2.out, million_nat]; exact hk.out)).mono ?_); rintro e w' ⟨rfl, rfl⟩; skip)
    | (go_at_call 19; (with_reducible refine (comp_le vz vx lz lx 1 _ Kz.out.orNil Kx.out.orNil (by have := nz.out; omega) (by have := nx.out; omega) (by rw [ez.out, ex.out, ec.out, et.out, ea.out, em.out, million_nat]; exact cmpI_gt (by have h1 := HN.out; have h2 := s2.out; rw [succ_nat s0, h2]; exact h1))).mono ?_); rintro e w' ⟨rfl, rfl⟩; skip)
    | (go_at_call 14; (with_reducible refine (cut_no b p _ (by omega)).mono ?_); rintro e w' ⟨q, r, rfl, q0, q1, q2, r0, r1, r2, g⟩; have DD := below_step DD g; clear g q2 r2))
  go_ret
  exact ⟨rfl, DD⟩

theorem pshares_walk (a b p : Int) (w : World) (a0 : 0 ≤ a) (b0 : 0 ≤ b) (b1 : b ≤ 18446744073709551615) (p0 : 0 ≤ p) :
    Calls Tryd.prog 5 #[.int .u64 a, .int .u64 b, .int .u32 p] w fun e w' => e = .returned (.bool true) ∧ Below w.heap.size w w' := by
  by_cases hb : b = 0
  · subst hb; exact pshares_zero a p w
  · by_cases h : b < a
    · exact pshares_more a b p w (by omega) h
    · by_cases hp : p ≤ 1000000
      · exact pshares_right a b p w a0 (by omega) b1 h p0 hp
      · exact pshares_wrong a b p w a0 (by omega) b1 h p0 (by omega)

theorem pshares_own : ownKnob Tryd.prog.godebug = none := by kernel_rfl
theorem pshares_word (x : Int) (h : (Lit.int .u64 x).wf = true) : 0 ≤ x ∧ x ≤ 18446744073709551615 := by
  have := bounds_u64 h; omega
theorem pshares_word2 (x : Int) (h : (Lit.int .u32 x).wf = true) : 0 ≤ x ∧ x ≤ 4294967295 := by
  simpa [Lit.wf, IntKind.min, IntKind.max, IntKind.signed, IntKind.bits] using h

set_option maxRecDepth 100000 in
theorem pshares_lifted (os : Os) (started : os.Started) (H : Type) (enc : TypeId × Value → H) :
    ReturnsInHanded {} Tryd.checked os 5 .any (fun w args => (Rows.ppmSharesSpec.pre enc Tryd.prog Tryd.f5 Rows.ppmSharesRow.domain false w args ∧ laidMetH Tryd.prog Rows.ppmSharesRow.laid w) ∧ sizedMet enc Tryd.prog Tryd.f5 (OpenSpec.ofChange Rows.ppmSharesSpec) false w args)
      (Rows.ppmSharesSpec.post enc Tryd.prog Tryd.f5 false true false false) := by
  refine returnsInHanded_of_change_and (C := Tryd.checked) (X := fun w _ => laidMetH Tryd.prog Rows.ppmSharesRow.laid w) (fun _ _ _ hh h => h.of_heap hh) pshares_own started (by kernel_rfl) Tryd.func5
    (ChangeSpec.witness_shaped (enc := enc) (C := Tryd.checked) (os := os) (X := fun w _ => laidMetH Tryd.prog Rows.ppmSharesRow.laid w) false (World.laidAll Tryd.prog os Rows.ppmSharesRow.laid) #[.int .u64 0, .int .u64 0, .int .u32 0] 8 (World.laidAll_os _ _ _)
      (World.shaped_of_ZipB (by kernel_rfl) (by kernel_rfl)) (by kernel_rfl) (by kernel_rfl) (by kernel_rfl)
      (by rw [MakeChecks.laidMetH_plain _ _ _ (by kernel_rfl)]; exact laidMet_laidAll _ (by kernel_rfl) (by kernel_rfl))) ?_
  intro W base args ds gs before hval0 hW _ _ _ _
  have hval : ∀ (j : Nat) t v, Tryd.f5.params[j]? = some t → args[j]? = some v → Value.okWide Tryd.prog W .any base t v := hval0
  have hW' := hW
  obtain ⟨p, q, hA0, hV, rfl, hfz, hnd⟩ := hW
  have hA : DataW.TrodAll enc Tryd.prog W 0 (fun _ => true) true Tryd.f5.params.toList args.toList ds p := hA0
  rw [Tryd.params5] at hA hval
  obtain ⟨v0, vs0, d0, ds0, p0, q0, hargs, rfl, rfl, h0, r0⟩ := trodAll_cons hA
  obtain ⟨v1, vs1, d1, ds1, p1, q1, rfl, rfl, rfl, h1, r1⟩ := trodAll_cons r0
  obtain ⟨v2, vs2, d2, ds2, p2, q2, rfl, rfl, rfl, h2, r2⟩ := trodAll_cons r1
  obtain ⟨rfl, rfl, rfl⟩ := trodAll_nil r2
  obtain rfl : args = #[v0, v1, v2] := by cases args; simp_all
  obtain ⟨rfl, rfl⟩ := trodVars_none hV
  obtain ⟨a0, rfl, rfl, rfl, w0⟩ := open_int Tryd.underlying31 (hval 0 31 v0 rfl rfl) h0
  obtain ⟨a1, rfl, rfl, rfl, w1⟩ := open_int Tryd.underlying31 (hval 1 31 v1 rfl rfl) h1
  obtain ⟨a2, rfl, rfl, rfl, w2⟩ := open_int Tryd.underlying22 (hval 2 22 v2 rfl rfl) h2
  clear hA0 hval0
  simp only [List.append_nil] at hW'
  refine (pshares_walk a0 a1 a2 W (pshares_word a0 w0).1 (pshares_word a1 w1).1 (pshares_word a1 w1).2 (pshares_word2 a2 w2).1).mono fun e W' ⟨he, bel⟩ => ?_
  subst he
  exact ⟨_, rfl, _, _, _, [], [], [], hW', trodAll_mk1 (shut_bool Tryd.underlying4 _), (trodAll_cons_mk (shut_int Tryd.underlying31 w0) (trodAll_cons_mk (shut_int Tryd.underlying31 w1) (trodAll_cons_mk (shut_int Tryd.underlying22 w2) trodAll_mk0))), rfl, bel.frame _, fun h => by cases h⟩

theorem pshares_over : Rows.ppmSharesRow.holds Tryd.pinned (OpenSpec.ofChange Rows.ppmSharesSpec) :=
  OpenClaim.holds_of_wide 5 Tryd.f5 rfl rfl rfl rfl rfl rfl rfl ⟨rfl, rfl, rfl, rfl, rfl⟩ rfl rfl rfl rfl rfl (by kernel_rfl) Tryd.func5 (by kernel_rfl)
    (of_decide_eq_true (by kernel_rfl)) (by unfold Func.isWrapper; first | (rw [if_pos (by decide +kernel)]; kernel_rfl) | (rw [if_neg (by decide +kernel)]; exact ⟨rfl, rfl⟩))
    (fun os started H enc _ => pshares_lifted os started H enc)

set_option maxRecDepth 100000 in
/-- The statement. -/
theorem ppm_shares_proved : Rows.PpmSharesCardSaid :=
  Claim7.holds_tied_plain_at .later [] [.data, .pinned] true Rows.ppmSharesCard.stood.harness false pshares_over (fun _ h => by cases h) (by kernel_rfl) (fun _ h => by cases h) ppmShares_row_tie rfl ⟨rfl, rfl⟩ (by kernel_rfl) rfl
    (fun f fn hf hfn => by
      obtain rfl : f = 5 := Option.some.inj ((show Tryd.prog.funcNamed "firebell/firebelllaw03.PpmShares" = some 5 by kernel_rfl).symm.trans hf) |>.symm
      obtain rfl : fn = Tryd.f5 := (Option.some.inj (Tryd.func5.symm.trans hfn)).symm
      exact ⟨by kernel_rfl, fun j t ht => by
        rw [Tryd.params5] at ht
        have hm : t ∈ [31, 22] := by simpa using Array.mem_of_getElem? ht
        have hall : ([31, 22].all fun u => !Tryd.prog.wantsStandIn u) = true := by kernel_rfl
        exact (show Tryd.prog.wantsStandIn t = false by simpa using List.all_eq_true.1 hall t hm)⟩)
    (by kernel_rfl)

end Go.Proofs.YtfdpiiahclglcaaDoor
