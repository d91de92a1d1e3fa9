/-
  PpmParts is proved: of any number and any share ppm.Part tells what bit by bit the part is, with the part of the rest it is all, and ppm.Cut cuts it into whole ones and what is left; no condition but that the listed tables of package unicode/utf8 read as their text lays them (the card ties that).
-/
import Derived.Test.YtfdpiiahclglcaaDoorRows
import Derived.Test.YtfdpiiahclglcaaDoorCards
import Derived.Test.YtfdpiiahclglcaaDoorTie
import Derived.Test.YtfdpiiahclglcaaDoorPpmU
import Derived.Test.YtfdpiiahclglcaaDoorRefF
import Derived.Test.YtfdpiiahclglcaaDoorOf
import Derived.Deep.RegionHeld3
import Derived.ProofKit
import Derived.OpenShut
import Derived.Below
import Derived.Lib.SmallJoins
import Derived.LaidMore
import Derived.Lay
import Derived.SevenTiedAt
import Derived.Stop.Joined
namespace Go.Proofs.YtfdpiiahclglcaaDoor
open Go.ChangeShapes Go.WideShapes Go.ChangeAt Go.RowKit Go.Joins

theorem comp_is (va vb : Value) (la lb : List Bool) (k : Int) (w : World) (ha : BoolsN w va la) (hb : BoolsN w vb lb) (hma : la.length ≤ 9223372036854775807) (hmb : lb.length ≤ 9223372036854775807) (hk : cmpI (val la) (val lb) = k) :
    Calls Tryd.prog 19 #[va, vb] w fun e w' => e = .returned (.int .i64 k) ∧ w = w' := compare_is k va vb la lb w ha hb hma hmb hk
theorem part_fits {n p : Nat} (hn : n ≤ 18446744073709551615) (hp : p ≤ 1000000) : W128 (n * p) := by
  have h1 : n * p ≤ 18446744073709551615 * 1000000 := Nat.mul_le_mul hn hp
  unfold W128; omega
theorem part_sum {n p : Nat} (hp : p ≤ 1000000) : n * p + n * (1000000 - p) = n * 1000000 := by
  rw [← Nat.mul_add, show p + (1000000 - p) = 1000000 by omega]
theorem part_le {n p : Nat} (hp : p ≤ 1000000) : n * p / 1000000 ≤ n := by
  have h1 : n * p ≤ n * 1000000 := Nat.mul_le_mul_left _ hp
  omega
theorem wide_is {h l q : Int} {N : Nat} (k : IsW h l (capN N)) (q0 : 0 ≤ q) (q1 : q ≤ 18446744073709551615) (hq : q.toNat = N) : 0 = h ∧ q = l := by
  have hw : W128 N := by unfold W128; omega
  rw [capN_in hw] at k
  have h2 := IsW.small q0 q1
  rw [hq] at h2
  exact h2.unique k
theorem million_num : Int.toNat 1000000 = 1000000 := rfl

set_option maxRecDepth 100000 in
theorem pparts_wrong (n p : Int) (w : World) (hp : 1000000 < p) :
    Calls Tryd.prog 4 #[.int .u64 n, .int .u32 p] w fun e w' => e = .returned (.bool true) ∧ Below w.heap.size w w' := by
  go_enter Tryd.func4, Tryd.ntmps4
  go_wp2_with (first
    | (go_at_call 6; (with_reducible refine (ppm_awake _).mono ?_); rintro e w1 ⟨rfl, g⟩; have DD := g; clear g)
    | (go_at_call 13; (with_reducible refine (part_no n p _ (by omega)).mono ?_); rintro e w2 ⟨h, l, rfl, hW, g⟩; obtain ⟨rfl, rfl⟩ := hW.unique IsW.zero; clear hW; have DD := below_step DD g; clear g)
    | (go_at_call 14; (with_reducible refine (cut_no n p _ (by omega)).mono ?_); rintro e w3 ⟨q, r, rfl, q0, q1, q2, r0, r1, r2, g⟩; obtain rfl : q = 0 := (by omega); obtain rfl : r = 0 := (by omega); have Kw := Lib.hid ((Box.fresh w2 0 0 _ rfl).after g); obtain ⟨_, _, _⟩ := Kw.out; have DD := below_step (below_more DD _) g; clear g q2 r2))
  go_ret
  exact ⟨rfl, DD⟩

set_option maxRecDepth 100000 in
set_option maxHeartbeats 4000000 in
theorem pparts_right (n p : Int) (w : World) (n0 : 0 ≤ n) (n1 : n ≤ 18446744073709551615) (p0 : 0 ≤ p) (hp : p ≤ 1000000) :
    Calls Tryd.prog 4 #[.int .u64 n, .int .u32 p] w fun e w' => e = .returned (.bool true) ∧ Below w.heap.size w w' := by
  obtain ⟨M, hM⟩ : ∃ M, n.toNat * p.toNat = M := ⟨_, rfl⟩
  obtain ⟨O, hO⟩ : ∃ O, n.toNat * (1000000 - p).toNat = O := ⟨_, rfl⟩
  have HM : Hid (n.toNat * p.toNat = M) := hM
  have HM1 : Hid (W128 M) := by unfold Hid; rw [← hM]; exact part_fits (by omega) (by omega)
  have HO1 : Hid (W128 O) := by unfold Hid; rw [← hO]; exact part_fits (by omega) (by omega)
  have HS : Hid (M + O = n.toNat * 1000000) := by unfold Hid; rw [← hM, ← hO, show (1000000 - p).toNat = 1000000 - p.toNat by omega]; exact part_sum (by omega)
  have HQ : Hid (M / 1000000 ≤ n.toNat) := by unfold Hid; rw [← hM]; exact part_le (by omega)
  have P1 : Hid (∀ w, Calls Tryd.prog 13 #[.int .u64 n, .int .u32 p] w (GivesWC M 0 w)) := by unfold Hid; rw [← hM]; exact fun w => part_yes n p w n0 n1 p0 hp
  have P2 : Hid (∀ w, Calls Tryd.prog 14 #[.int .u64 n, .int .u32 p] w (GivesCut (M / 1000000) (M % 1000000) 0 w)) := by unfold Hid; rw [← hM]; exact fun w => cut_yes n p w n0 n1 p0 hp
  have P3 : Hid (∀ w, Calls Tryd.prog 13 #[.int .u64 n, .int .u32 (1000000 - p)] w (GivesWC O 0 w)) := by unfold Hid; rw [← hO]; exact fun w => part_yes n (1000000 - p) w n0 n1 (by omega) (by omega)
  clear hM hO
  go_enter Tryd.func4, Tryd.ntmps4
  go_wp2_with (first
    | (go_at_call 6; (with_reducible refine (ppm_awake _).mono ?_); rintro e w' ⟨rfl, g⟩; have DD := g; clear g)
    | (go_at_call 13; (with_reducible refine (P1.out _).mono ?_); rintro e w2 ⟨wh, wl, rfl, HW, g⟩; replace HW := Lib.hid HW; have DD := below_step DD g; clear g)
    | (go_at_call 14; (with_reducible refine (P2.out _).mono ?_); rintro e w' ⟨q, r, rfl, q0, q1, q2, r0, r1, r2, g⟩; replace q2 := Lib.hid q2; replace r2 := Lib.hid r2; have q3 : q ≤ n := (by have h1 := q2.out; have h2 := HQ.out; omega); have Kw := Lib.hid ((Box.fresh w2 wh wl _ rfl).after g); obtain ⟨_, _, _⟩ := Kw.out; have DD := below_step (below_more DD _) g; clear g)
    | (go_at_call 15; (with_reducible refine (bits_small (n) _ n0 n1).mono ?_); rintro e w' ⟨vb, lb, rfl, Kb, ⟨nb, eb⟩, g⟩; replace Kb := Lib.hid Kb; replace nb := Lib.hid nb; replace eb := Lib.hid eb; have Kw := Lib.hid (Kw.out.after g); obtain ⟨_, _, _⟩ := Kw.out; have DD := below_step DD g; clear g)
    | (go_at_call 15; (with_reducible refine (bits_small (p) _ p0 (by omega)).mono ?_); rintro e w' ⟨vp, lp, rfl, Kp, ⟨np, ep⟩, g⟩; replace Kp := Lib.hid Kp; replace np := Lib.hid np; replace ep := Lib.hid ep; have Kb := Lib.hid (Kb.out.below g); have Kw := Lib.hid (Kw.out.after g); obtain ⟨_, _, _⟩ := Kw.out; have DD := below_step DD g; clear g)
    | (go_at_call 17; (with_reducible refine (times_any vb vp lb lp _ Kb.out Kp.out (by have := nb.out; omega) (by have := np.out; omega)).mono ?_); rintro e w' ⟨vx, lx, rfl, Kx, ⟨nx, ex⟩, g⟩; replace nx : Hid (lx.length ≤ 256) := (by have h1 := nb.out; have h2 := np.out; unfold Hid; omega); replace ex := Lib.hid (show val lx = val lb * val lp from ex); replace Kx := Lib.hid Kx; have Kb := Lib.hid (Kb.out.below g); have Kw := Lib.hid (Kw.out.after g); obtain ⟨_, _, _⟩ := Kw.out; have DD := below_step DD g; clear g)
    | (go_at_call 16; (with_reducible refine (of_any vx lx _ Kx.out (by have := nx.out; omega)).mono ?_); rintro e w7 ⟨xh, xl, ok, rfl, hX, hok, g⟩; rw [ex.out, eb.out, ep.out, HM.out] at hX hok; rw [capN_in HM1.out] at hX; obtain rfl := hok.mpr HM1.out; obtain ⟨rfl, rfl⟩ := HW.out.unique hX; clear hok hX Kx; have Kb := Lib.hid (Kb.out.below g); have Kw := Lib.hid (Kw.out.after g); obtain ⟨_, _, _⟩ := Kw.out; have DD := below_step DD g; clear g)
    | (go_at_call 12; (with_reducible refine (rest_yes p _ p0 hp).mono ?_); rintro e w' ⟨rfl, rfl⟩)
    | (go_at_call 13; (with_reducible refine (P3.out _).mono ?_); rintro e w8 ⟨oh, ol, rfl, HO, g⟩; replace HO := Lib.hid HO; have Kv := Lib.hid ((Box.fresh w7 wh wl _ rfl).after g); have Kb := Lib.hid ((Kb.out.alloc _).below g); have Kw := Lib.hid ((Kw.out.alloc _).after g); obtain ⟨_, _, _⟩ := Kw.out; obtain ⟨_, _, _⟩ := Kv.out; have DD := below_step (below_more DD _) g; clear g))
  have DD0 := (below_more DD (.cells #[.int .u64 oh, .int .u64 ol] 33)).drew
  have Kw0 := Lib.hid (Kw.out.alloc (.cells #[.int .u64 oh, .int .u64 ol] 33)).drew
  have Kv0 := Lib.hid (Kv.out.alloc (.cells #[.int .u64 oh, .int .u64 ol] 33)).drew
  have Ko0 := Lib.hid (Box.fresh w8 oh ol _ rfl).drew
  have Kb0 := Lib.hid (Kb.out.alloc (.cells #[.int .u64 oh, .int .u64 ol] 33)).drew
  go_region_held3 (fun W => W.cell? ⟨w2.heap.size, 0, none⟩ = some (.int .u64 wh) ∧ W.cell? ⟨w2.heap.size, 1, none⟩ = some (.int .u64 wl) ∧ W.cell? ⟨w8.heap.size, 0, none⟩ = some (.int .u64 oh) ∧ W.cell? ⟨w8.heap.size, 1, none⟩ = some (.int .u64 ol)) (first | (exact ⟨Kw3.out.1, Kw3.out.2.1, Ko3.out.1, Ko3.out.2.1⟩) | (exact ⟨Kw2.out.1, Kw2.out.2.1, Ko2.out.1, Ko2.out.2.1⟩) | (exact ⟨Kw1.out.1, Kw1.out.2.1, Ko1.out.1, Ko1.out.2.1⟩) | (exact ⟨Kw0.out.1, Kw0.out.2.1, Ko0.out.1, Ko0.out.2.1⟩) | go_keep)
    (first
      | (go_at_call 15; (with_reducible refine (bits_any wh wl _ HW.out.h0 HW.out.h1 HW.out.l0 HW.out.l1).mono ?_); rintro e w9 ⟨va, la, rfl, Ka, ⟨na, ea⟩, g⟩; replace ea := Lib.hid (ea.trans HW.out.num); replace na := Lib.hid na; replace Ka := Lib.hid Ka; have Kb1 := Lib.hid (Kb0.out.below g); have Kw1 := Lib.hid (Kw0.out.after g); have Kv1 := Lib.hid (Kv0.out.after g); have Ko1 := Lib.hid (Ko0.out.after g); have DD1 := below_step DD0 g; clear g)
      | (go_at_call 15; (with_reducible refine (bits_any oh ol _ HO.out.h0 HO.out.h1 HO.out.l0 HO.out.l1).mono ?_); rintro e w10 ⟨vo, lo2, rfl, Kc, ⟨nc, ec⟩, g⟩; replace ec := Lib.hid (ec.trans HO.out.num); replace nc := Lib.hid nc; replace Kc := Lib.hid Kc; have Ka2 := Lib.hid (Ka.out.below g); have Kb2 := Lib.hid (Kb1.out.below g); have Kw2 := Lib.hid (Kw1.out.after g); have Kv2 := Lib.hid (Kv1.out.after g); have Ko2 := Lib.hid (Ko1.out.after g); have DD2 := below_step DD1 g; clear g)
      | (go_at_call 18; (with_reducible refine (plus_any va vo la lo2 _ Ka2.out.orNil Kc.out.orNil (by have := na.out; omega) (by have := nc.out; omega)).mono ?_); rintro e w11 ⟨vt, lt, rfl, Kt, ⟨nt, et⟩, g⟩; replace nt : Hid (lt.length ≤ 200) := (by have h1 := na.out; have h2 := nc.out; unfold Hid; omega); replace et := Lib.hid (show val lt = M + O by rw [et, ea.out, ec.out]); replace Kt := Lib.hid Kt; have Kb3 := Lib.hid (Kb2.out.below g); have Kw3 := Lib.hid (Kw2.out.after g); have Kv3 := Lib.hid (Kv2.out.after g); have Ko3 := Lib.hid (Ko2.out.after g); have DD3 := below_step DD2 g; clear g))
  all_goals
    obtain ⟨_, _, _⟩ := Kw3.out
    obtain ⟨_, _, _⟩ := Kv3.out
    go_wp2_with (first
      | (go_at_call 15; (with_reducible refine (bits_small (1000000) _ (by decide) (by decide)).mono ?_); rintro e w' ⟨vm, lm, rfl, Km, ⟨nm, em⟩, g⟩; replace Km := Lib.hid Km; replace nm := Lib.hid nm; replace em := Lib.hid em; have Kt := Lib.hid (Kt.out.below g); have Kb3 := Lib.hid (Kb3.out.below g); have Kw3 := Lib.hid (Kw3.out.after g); obtain ⟨_, _, _⟩ := Kw3.out; have DD3 := below_step DD3 g; clear g)
      | (go_at_call 17; (with_reducible refine (times_any vb vm lb lm _ Kb3.out Km.out (by have := nb.out; omega) (by have := nm.out; omega)).mono ?_); rintro e w' ⟨vz, lz, rfl, Kz, ⟨nz, ez⟩, g⟩; replace nz : Hid (lz.length ≤ 256) := (by have h1 := nb.out; have h2 := nm.out; unfold Hid; omega); replace ez := Lib.hid (show val lz = val lb * val lm from ez); replace Kz := Lib.hid Kz; have Kt := Lib.hid (Kt.out.below g); have Kw3 := Lib.hid (Kw3.out.after g); obtain ⟨_, _, _⟩ := Kw3.out; have DD3 := below_step DD3 g; clear g)
      | (go_at_call 19; (with_reducible refine (comp_is vt vz lt lz 0 _ Kt.out.orNil Kz.out.orNil (by have := nt.out; omega) (by have := nz.out; omega) (by rw [et.out, ez.out, eb.out, em.out, million_num, HS.out]; exact cmpI_eq (Eq.refl _))).mono ?_); rintro e w' ⟨rfl, rfl⟩; skip)
      | (go_at_call 15; (with_reducible refine (bits_any wh wl _ HW.out.h0 HW.out.h1 HW.out.l0 HW.out.l1).mono ?_); rintro e w14 ⟨vs, ls, rfl, Ks, ⟨ns, es⟩, g⟩; replace es := Lib.hid (es.trans HW.out.num); replace ns := Lib.hid ns; replace Ks := Lib.hid Ks; have DD3 := below_step DD3 g; clear g)
      | (go_at_call 15; (with_reducible refine (bits_small 1000000 _ (by decide) (by decide)).mono ?_); rintro e w15 ⟨vk, lk, rfl, Kk, ⟨nk, ek⟩, g⟩; replace ek := Lib.hid ek; replace nk := Lib.hid nk; replace Kk := Lib.hid Kk; have Ks := Lib.hid (Ks.out.below g); have DD3 := below_step DD3 g; clear g)
      | (go_at_call 20; (with_reducible refine (divide_any vs vk ls lk _ Ks.out Kk.out (by have := ns.out; omega) (by have := nk.out; omega) (by rw [ek.out, million_num]; decide)).mono ?_); rintro e w16 ⟨vq, vl, lq, ll, rfl, kq, kl, nq, nl, eq, el, g⟩; replace eq := Lib.hid (show val lq = M / 1000000 by rw [eq, es.out, ek.out, million_num]); replace el := Lib.hid (show val ll = M % 1000000 by rw [el, es.out, ek.out, million_num]); replace nq : Hid (lq.length ≤ 200) := (by have h1 := ns.out; unfold Hid; omega); replace nl : Hid (ll.length ≤ 200) := (by have h1 := ns.out; unfold Hid; omega); replace kq := Lib.hid kq; replace kl := Lib.hid kl; have DD3 := below_step DD3 g; clear g)
      | (go_at_call 16; (with_reducible refine (of_any vq lq _ kq.out (by have := nq.out; omega)).mono ?_); rintro e w17 ⟨yh, yl, ok, rfl, hY, hok, g⟩; rw [eq.out] at hY hok; obtain ⟨rfl, rfl⟩ := wide_is hY q0 q1 q2.out; obtain rfl := hok.mpr (by have h1 := q2.out; unfold W128; omega); clear hok hY; have kl := Lib.hid (kl.out.below g); have DD3 := below_step DD3 g; clear g)
      | (go_at_call 16; (with_reducible refine (of_any vl ll _ ((kl.out).alloc _) (by have := nl.out; omega)).mono ?_); rintro e w18 ⟨zh, zl, ok, rfl, hZ, hok, g⟩; rw [el.out] at hZ; clear hok; obtain ⟨rfl, rfl⟩ := wide_is hZ r0 r1 r2.out; clear hZ; have Ky := Lib.hid ((Box.fresh w17 0 q _ rfl).after g); obtain ⟨_, _, _⟩ := Ky.out; have DD3 := below_step (below_more DD3 _) g; clear g))
    go_ret
    exact ⟨rfl, below_more DD3 _⟩

theorem pparts_walk (n p : Int) (w : World) (n0 : 0 ≤ n) (n1 : n ≤ 18446744073709551615) (p0 : 0 ≤ p) :
    Calls Tryd.prog 4 #[.int .u64 n, .int .u32 p] w fun e w' => e = .returned (.bool true) ∧ Below w.heap.size w w' := by
  by_cases hp : p ≤ 1000000
  · exact pparts_right n p w n0 n1 p0 hp
  · exact pparts_wrong n p w (by omega)

theorem pparts_own : ownKnob Tryd.prog.godebug = none := by kernel_rfl
theorem pparts_word (x : Int) (h : (Lit.int .u64 x).wf = true) : 0 ≤ x ∧ x ≤ 18446744073709551615 := by
  have := bounds_u64 h; omega
theorem pparts_word2 (x : Int) (h : (Lit.int .u32 x).wf = true) : 0 ≤ x ∧ x ≤ 4294967295 := by
  simpa [Lit.wf, IntKind.min, IntKind.max, IntKind.signed, IntKind.bits] using h

set_option maxRecDepth 100000 in
theorem pparts_lifted (os : Os) (started : os.Started) (H : Type) (enc : TypeId × Value → H) :
    ReturnsInHanded {} Tryd.checked os 4 .any (fun w args => (Rows.ppmPartsSpec.pre enc Tryd.prog Tryd.f4 Rows.ppmPartsRow.domain false w args ∧ laidMetH Tryd.prog Rows.ppmPartsRow.laid w) ∧ sizedMet enc Tryd.prog Tryd.f4 (OpenSpec.ofChange Rows.ppmPartsSpec) false w args)
      (Rows.ppmPartsSpec.post enc Tryd.prog Tryd.f4 false true false false) := by
  refine returnsInHanded_of_change_and (C := Tryd.checked) (X := fun w _ => laidMetH Tryd.prog Rows.ppmPartsRow.laid w) (fun _ _ _ hh h => h.of_heap hh) pparts_own started (by kernel_rfl) Tryd.func4
    (ChangeSpec.witness_shaped (enc := enc) (C := Tryd.checked) (os := os) (X := fun w _ => laidMetH Tryd.prog Rows.ppmPartsRow.laid w) false (World.laidAll Tryd.prog os Rows.ppmPartsRow.laid) #[.int .u64 0, .int .u32 0] 8 (World.laidAll_os _ _ _)
      (World.shaped_of_ZipB (by kernel_rfl) (by kernel_rfl)) (by kernel_rfl) (by kernel_rfl) (by kernel_rfl)
      (by rw [MakeChecks.laidMetH_plain _ _ _ (by kernel_rfl)]; exact laidMet_laidAll _ (by kernel_rfl) (by kernel_rfl))) ?_
  intro W base args ds gs before hval0 hW _ _ _ _
  have hval : ∀ (j : Nat) t v, Tryd.f4.params[j]? = some t → args[j]? = some v → Value.okWide Tryd.prog W .any base t v := hval0
  have hW' := hW
  obtain ⟨p, q, hA0, hV, rfl, hfz, hnd⟩ := hW
  have hA : DataW.TrodAll enc Tryd.prog W 0 (fun _ => true) true Tryd.f4.params.toList args.toList ds p := hA0
  rw [Tryd.params4] at hA hval
  obtain ⟨v0, v1, d0, d1, p0, p1, rfl, rfl, rfl, h0, h1⟩ := trodAll_two hA
  obtain ⟨rfl, rfl⟩ := trodVars_none hV
  obtain ⟨a0, rfl, rfl, rfl, w0⟩ := open_int Tryd.underlying31 (hval 0 31 v0 rfl rfl) h0
  obtain ⟨a1, rfl, rfl, rfl, w1⟩ := open_int Tryd.underlying22 (hval 1 22 v1 rfl rfl) h1
  clear hA0 hval0
  simp only [List.append_nil] at hW'
  refine (pparts_walk a0 a1 W (pparts_word a0 w0).1 (pparts_word a0 w0).2 (pparts_word2 a1 w1).1).mono fun e W' ⟨he, bel⟩ => ?_
  subst he
  exact ⟨_, rfl, _, _, _, [], [], [], hW', trodAll_mk1 (shut_bool Tryd.underlying4 _), trodAll_mk2 (shut_int Tryd.underlying31 w0) (shut_int Tryd.underlying22 w1), rfl, bel.frame _, fun h => by cases h⟩

theorem pparts_over : Rows.ppmPartsRow.holds Tryd.pinned (OpenSpec.ofChange Rows.ppmPartsSpec) :=
  OpenClaim.holds_of_wide 4 Tryd.f4 rfl rfl rfl rfl rfl rfl rfl ⟨rfl, rfl, rfl, rfl, rfl⟩ rfl rfl rfl rfl rfl (by kernel_rfl) Tryd.func4 (by kernel_rfl)
    (of_decide_eq_true (by kernel_rfl)) (by unfold Func.isWrapper; first | (rw [if_pos (by decide +kernel)]; kernel_rfl) | (rw [if_neg (by decide +kernel)]; exact ⟨rfl, rfl⟩))
    (fun os started H enc _ => pparts_lifted os started H enc)

set_option maxRecDepth 100000 in
/-- The statement. -/
theorem ppm_parts_proved : Rows.PpmPartsCardSaid :=
  Claim7.holds_tied_plain_at .later [] [.data, .pinned] true Rows.ppmPartsCard.stood.harness false pparts_over (fun _ h => by cases h) (by kernel_rfl) (fun _ h => by cases h) ppmParts_row_tie rfl ⟨rfl, rfl⟩ (by kernel_rfl) rfl
    (fun f fn hf hfn => by
      obtain rfl : f = 4 := Option.some.inj ((show Tryd.prog.funcNamed "firebell/firebelllaw03.PpmParts" = some 4 by kernel_rfl).symm.trans hf) |>.symm
      obtain rfl : fn = Tryd.f4 := (Option.some.inj (Tryd.func4.symm.trans hfn)).symm
      exact ⟨by kernel_rfl, fun j t ht => by
        rw [Tryd.params4] at ht
        have hm : t ∈ [31, 22] := by simpa using Array.mem_of_getElem? ht
        have hall : ([31, 22].all fun u => !Tryd.prog.wantsStandIn u) = true := by kernel_rfl
        exact (show Tryd.prog.wantsStandIn t = false by simpa using List.all_eq_true.1 hall t hm)⟩)
    (by kernel_rfl)

end Go.Proofs.YtfdpiiahclglcaaDoor
