/-
  SlotsLasts: the walk, lifted to the statement.
-/
import Derived.Test.YtbhmkmfjbafdcaaDoorRows
import Derived.Test.YtbhmkmfjbafdcaaDoorCards
import Derived.Test.YtbhmkmfjbafdcaaDoorTie
import Derived.Test.YtbhmkmfjbafdcaaDoorPkWalO
import Derived.Test.YtbhmkmfjbafdcaaDoorPkSltI
import Derived.ProofKit
import Derived.ChangeOld
import Derived.OpenShut
import Derived.Below
import Derived.Lib.SmallJoins
import Derived.LaidMore
import Derived.Lay
import Derived.SevenTiedAt
import Derived.Stop.Joined
namespace Go.Proofs.YtbhmkmfjbafdcaaDoor
open Go.ChangeShapes Go.WideShapes Go.ChangeAt Go.RowKit Go.Joins

theorem sltlasts_own : ownKnob Tryd.prog.godebug = none := by kernel_rfl
theorem sltlasts_laidOut : laidOutB Tryd.prog = true := by kernel_rfl
theorem sltlasts_int (x : Int) (h : (Lit.int .i64 x).wf = true) : -9223372036854775808 ≤ x ∧ x ≤ 9223372036854775807 := by
  simpa [Lit.wf, IntKind.min, IntKind.max, IntKind.signed, IntKind.bits] using h

set_option maxRecDepth 100000 in
theorem sltlasts_lifted (os : Os) (started : os.Started) (H : Type) (enc : TypeId × Value → H) :
    ReturnsInHanded {} Tryd.checked os 4 .any (fun w args => (Rows.slotsLastsSpec.pre enc Tryd.prog Tryd.f4 Rows.slotsLastsRow.domain false w args ∧ laidMetH Tryd.prog Rows.slotsLastsRow.laid w) ∧ sizedMet enc Tryd.prog Tryd.f4 (OpenSpec.ofChange Rows.slotsLastsSpec) false w args) (Rows.slotsLastsSpec.post enc Tryd.prog Tryd.f4 false true false false) := by
  refine returnsInHanded_of_change_and (C := Tryd.checked) (X := fun w _ => laidMetH Tryd.prog Rows.slotsLastsRow.laid w) (fun _ _ _ hh h => h.of_heap hh) sltlasts_own started (by kernel_rfl) Tryd.func4
    (ChangeSpec.witness_shaped (enc := enc) (C := Tryd.checked) (os := os) (X := fun w _ => laidMetH Tryd.prog Rows.slotsLastsRow.laid w) false (World.laidAll Tryd.prog os Rows.slotsLastsRow.laid) #[.int .i64 0, .slice none 0 0, .agg #[.int .i64 0, .int .i64 0, .int .i64 0, .int .i64 0, .int .i64 0, .int .i64 0], .slice none 0 0] 8 (World.laidAll_os _ _ _)
      (World.shaped_of_ZipB (by kernel_rfl) (by kernel_rfl)) (by kernel_rfl) (by kernel_rfl) (by kernel_rfl)
      (by rw [MakeChecks.laidMetH_plain _ _ _ (by kernel_rfl)]; exact laidMet_laidAll _ (by kernel_rfl) (by kernel_rfl))) ?_
  intro W base args ds gs before hval0 hW _ _ hlaid _
  have hlaid2 : laidMetH Tryd.prog Rows.slotsLastsRow.laid W := hlaid
  rw [MakeChecks.laidMetH_plain _ _ _ (by kernel_rfl)] at hlaid2
  have htab : Env W := turns_of_laid hlaid2 (by first | exact List.mem_of_getElem? (i := 0) (by kernel_rfl) | exact List.mem_of_getElem? (i := 1) (by kernel_rfl) | exact List.mem_of_getElem? (i := 2) (by kernel_rfl) | exact List.mem_of_getElem? (i := 3) (by kernel_rfl) | exact List.mem_of_getElem? (i := 4) (by kernel_rfl))
  clear hlaid hlaid2
  have hval : ∀ (j : Nat) t v, Tryd.f4.params[j]? = some t → args[j]? = some v → Value.okWide Tryd.prog W .any base t v := hval0
  have hW' := hW
  obtain ⟨p, q, hA0, hV, rfl, hfz, hnd⟩ := hW
  have hA : DataW.TrodAll enc Tryd.prog W 0 (fun _ => true) true Tryd.f4.params.toList args.toList ds p := hA0
  rw [Tryd.params4] at hA hval
  obtain ⟨v0, vs0, d0, ds0, p0, q0, hargs, rfl, rfl, h0, r0⟩ := trodAll_cons hA
  obtain ⟨v1, vs1, d1, ds1, p1, q1, rfl, rfl, rfl, h1, r1⟩ := trodAll_cons r0
  obtain ⟨v2, vs2, d2, ds2, p2, q2, rfl, rfl, rfl, h2, r2⟩ := trodAll_cons r1
  obtain ⟨v3, vs3, d3, ds3, p3, q3, rfl, rfl, rfl, h3, r3⟩ := trodAll_cons r2
  obtain ⟨rfl, rfl, rfl⟩ := trodAll_nil r3
  obtain rfl : args = #[v0, v1, v2, v3] := by cases args; simp_all
  obtain ⟨rfl, rfl⟩ := trodVars_none hV
  obtain ⟨x0, rfl, rfl, rfl, w0⟩ := open_int Tryd.underlying3 (hval 0 3 v0 rfl rfl) h0
  have k1 := h1
  have lt1 : ∀ x ∈ p1, x.block < W.heap.size := by obtain ⟨m, hm⟩ := k1; exact DataW.trod_lt m _ _ _ hm
  obtain ⟨l1, a1, b1⟩ := open_actw (hval 1 22 v1 rfl rfl) h1
  obtain ⟨x2a, x2b, x2c, x2d, x2e, x2f, rfl, rfl, rfl, w2a, w2b, w2c, w2d, w2e, w2f⟩ := open_crash (hval 2 48 v2 rfl rfl) h2
  have k3 := h3
  have lt3 : ∀ x ∈ p3, x.block < W.heap.size := by obtain ⟨m, hm⟩ := k3; exact DataW.trod_lt m _ _ _ hm
  obtain ⟨l3, a3, b3⟩ := open_bytes (hval 3 36 v3 rfl rfl) h3
  clear hA0 hval0
  refine (sltlasts_walk x0 v1 v3 l1 l3 x2a x2b x2c x2d x2e x2f W htab a1 b1 a3 b3 (sltlasts_int x2a w2a) (sltlasts_int x2b w2b) (sltlasts_int x2c w2c) (sltlasts_int x2d w2d) (sltlasts_int x2e w2e) (sltlasts_int x2f w2f)).mono fun e W' ⟨he, bel⟩ => ?_
  subst he
  exact ⟨_, rfl, _, _, _, [], _, [], hW', trodAll_mk1 (shut_bool Tryd.underlying4 _), (trodAll_cons_mk (shut_int Tryd.underlying3 w0) (trodAll_cons_mk (Below.trod sltlasts_laidOut (by kernel_rfl) (of_decide_eq_true (by kernel_rfl)) k1 bel lt1) (trodAll_cons_mk (shut_crash _ _ _ _ _ _ _ _ w2a w2b w2c w2d w2e w2f) (trodAll_cons_mk (Below.trod sltlasts_laidOut (by kernel_rfl) (of_decide_eq_true (by kernel_rfl)) k3 bel lt3) trodAll_mk0)))), rfl, bel.frame _, fun h => by cases h⟩

theorem sltlasts_over : Rows.slotsLastsRow.holds Tryd.pinned (OpenSpec.ofChange Rows.slotsLastsSpec) :=
  OpenClaim.holds_of_wide 4 Tryd.f4 rfl rfl rfl rfl rfl rfl rfl ⟨rfl, rfl, rfl, rfl, rfl⟩ rfl rfl rfl rfl rfl (by kernel_rfl) Tryd.func4 (by kernel_rfl)
    (of_decide_eq_true (by kernel_rfl)) (by unfold Func.isWrapper; first | (rw [if_pos (by decide +kernel)]; kernel_rfl) | (rw [if_neg (by decide +kernel)]; exact ⟨rfl, rfl⟩))
    (fun os started H enc _ => sltlasts_lifted os started H enc)

set_option maxRecDepth 100000 in
/-- The statement. -/
theorem slots_lasts_proved : Rows.SlotsLastsCardSaid :=
  Claim7.holds_tied_plain_at .later [] Rows.slotsLastsCard.laidKinds true Rows.slotsLastsCard.stood.harness false sltlasts_over (fun _ h => by cases h) (by kernel_rfl) (fun _ h => by cases h) slotsLasts_row_tie rfl ⟨rfl, rfl⟩ (by kernel_rfl) rfl
    (fun f fn hf hfn => by
      obtain rfl : f = 4 := Option.some.inj ((show Tryd.prog.funcNamed "firebell/firebelllaw11.SlotsLasts" = some 4 by kernel_rfl).symm.trans hf) |>.symm
      obtain rfl : fn = Tryd.f4 := (Option.some.inj (Tryd.func4.symm.trans hfn)).symm
      exact ⟨by kernel_rfl, fun j t ht => by
        rw [Tryd.params4] at ht
        have hm : t ∈ [3, 22, 48, 36] := by first | simpa using Array.mem_of_getElem? ht | (have h := Array.mem_of_getElem? ht; simp at h ⊢; omega) | (have h := Array.mem_of_getElem? ht; simp at h ⊢; rcases h with h | h | h <;> simp [h])
        have hall : ([3, 22, 48, 36].all fun u => !Tryd.prog.wantsStandIn u) = true := by kernel_rfl
        exact (show Tryd.prog.wantsStandIn t = false by simpa using List.all_eq_true.1 hall t hm)⟩)
    (by kernel_rfl)

end Go.Proofs.YtbhmkmfjbafdcaaDoor
