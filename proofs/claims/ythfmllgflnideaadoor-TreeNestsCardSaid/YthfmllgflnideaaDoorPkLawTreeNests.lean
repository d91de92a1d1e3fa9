/-
  Any source that is right, put in a block, is that block's kids; too deep it is told so, and too many it is told so: whatever text is handed in (nothing is asked of it).
-/
import Derived.Test.YthfmllgflnideaaDoorRows
import Derived.Test.YthfmllgflnideaaDoorCards
import Derived.Test.YthfmllgflnideaaDoorTie
import Derived.Test.YthfmllgflnideaaDoorPkTreO
import Derived.ProofKit
import Derived.OpenShut
import Derived.Below
import Derived.Lib.SmallJoins
import Derived.LaidMore
import Derived.Lay
import Derived.SevenTiedAt
import Derived.Stop.Joined
namespace Go.Proofs.YthfmllgflnideaaDoor
open Go.ChangeShapes Go.WideShapes Go.ChangeAt Go.RowKit Go.Joins
open Go.ChangeMaps (open_string shut_string)

theorem trenests_own : ownKnob Tryd.prog.godebug = none := by kernel_rfl

set_option maxRecDepth 100000 in
theorem trenests_lifted (os : Os) (started : os.Started) (H : Type) (enc : TypeId × Value → H) :
    ReturnsInHanded {} Tryd.checked os 4 .any (fun w args => (Rows.treeNestsSpec.pre enc Tryd.prog Tryd.f4 Rows.treeNestsRow.domain false w args ∧ laidMetH Tryd.prog Rows.treeNestsRow.laid w) ∧ sizedMet enc Tryd.prog Tryd.f4 (OpenSpec.ofChange Rows.treeNestsSpec) false w args) (Rows.treeNestsSpec.post enc Tryd.prog Tryd.f4 false true false false) := by
  refine returnsInHanded_of_change_and (C := Tryd.checked) (X := fun w _ => laidMetH Tryd.prog Rows.treeNestsRow.laid w) (fun _ _ _ hh h => h.of_heap hh) trenests_own started (by kernel_rfl) Tryd.func4
    (ChangeSpec.witness_shaped (enc := enc) (C := Tryd.checked) (os := os) (X := fun w _ => laidMetH Tryd.prog Rows.treeNestsRow.laid w) false (World.laidAll Tryd.prog os Rows.treeNestsRow.laid) #[.string ⟨#[]⟩] 8 (World.laidAll_os _ _ _)
      (World.shaped_of_ZipB (by kernel_rfl) (by kernel_rfl)) (by kernel_rfl) (by kernel_rfl) (by kernel_rfl)
      (by rw [MakeChecks.laidMetH_plain _ _ _ (by kernel_rfl)]; exact laidMet_laidAll _ (by kernel_rfl) (by kernel_rfl))) ?_
  intro W base args ds gs before hval0 hW _ _ hlaid _
  have hlaid2 : laidMetH Tryd.prog Rows.treeNestsRow.laid W := hlaid
  rw [MakeChecks.laidMetH_plain _ _ _ (by kernel_rfl)] at hlaid2
  have htab : Env W := utf_of_laid hlaid2 (by first | exact List.mem_of_getElem? (i := 1) (by kernel_rfl) | exact List.mem_of_getElem? (i := 0) (by kernel_rfl) | exact List.mem_of_getElem? (i := 2) (by kernel_rfl) | exact List.mem_of_getElem? (i := 3) (by kernel_rfl) | exact List.mem_of_getElem? (i := 4) (by kernel_rfl)) (by first | exact List.mem_of_getElem? (i := 0) (by kernel_rfl) | exact List.mem_of_getElem? (i := 1) (by kernel_rfl) | exact List.mem_of_getElem? (i := 2) (by kernel_rfl) | exact List.mem_of_getElem? (i := 3) (by kernel_rfl) | exact List.mem_of_getElem? (i := 4) (by kernel_rfl))
  clear hlaid hlaid2
  have hval : ∀ (j : Nat) t v, Tryd.f4.params[j]? = some t → args[j]? = some v → Value.okWide Tryd.prog W .any base t v := hval0
  have hW' := hW
  obtain ⟨p, q, hA0, hV, rfl, hfz, hnd⟩ := hW
  have hA : DataW.TrodAll enc Tryd.prog W 0 (fun _ => true) true Tryd.f4.params.toList args.toList ds p := hA0
  rw [Tryd.params4] at hA hval
  obtain ⟨v0, vs0, d0, ds0, p0, q0, hargs, rfl, rfl, h0, r0⟩ := trodAll_cons hA
  obtain ⟨rfl, rfl, rfl⟩ := trodAll_nil r0
  obtain rfl : args = #[v0] := by cases args; simp_all
  obtain ⟨rfl, rfl⟩ := trodVars_none hV
  obtain ⟨x0, rfl, rfl, rfl, w0⟩ := open_string Tryd.underlying9 (hval 0 9 v0 rfl rfl) h0
  clear hA0 hval0
  simp only [List.append_nil] at hW'
  refine (trenests_walk x0 W htab (by have := w0; unfold maxLen at this; omega)).mono fun e W' ⟨he, bel⟩ => ?_
  subst he
  exact ⟨_, rfl, _, _, _, [], [], [], hW', trodAll_mk1 (shut_bool Tryd.underlying4 _), (trodAll_cons_mk (shut_string Tryd.underlying9 w0) trodAll_mk0), rfl, bel.frame _, fun h => by cases h⟩

theorem trenests_over : Rows.treeNestsRow.holds Tryd.pinned (OpenSpec.ofChange Rows.treeNestsSpec) :=
  OpenClaim.holds_of_wide 4 Tryd.f4 rfl rfl rfl rfl rfl rfl rfl ⟨rfl, rfl, rfl, rfl, rfl⟩ rfl rfl rfl rfl rfl (by kernel_rfl) Tryd.func4 (by kernel_rfl)
    (of_decide_eq_true (by kernel_rfl)) (by unfold Func.isWrapper; first | (rw [if_pos (by decide +kernel)]; kernel_rfl) | (rw [if_neg (by decide +kernel)]; exact ⟨rfl, rfl⟩))
    (fun os started H enc _ => trenests_lifted os started H enc)

set_option maxRecDepth 100000 in
/-- The statement. -/
theorem tree_nests_proved : Rows.TreeNestsCardSaid :=
  Claim7.holds_tied_plain_at .later [] Rows.treeNestsCard.laidKinds true Rows.treeNestsCard.stood.harness Rows.treeNestsCard.stood.looks trenests_over (fun _ h => by cases h) (by kernel_rfl) (fun _ h => by cases h) treeNests_row_tie rfl ⟨rfl, rfl⟩ (by kernel_rfl) rfl
    (fun f fn hf hfn => by
      obtain rfl : f = 4 := Option.some.inj ((show Tryd.prog.funcNamed "firebell/firebelllaw14.TreeNests" = some 4 by kernel_rfl).symm.trans hf) |>.symm
      obtain rfl : fn = Tryd.f4 := (Option.some.inj (Tryd.func4.symm.trans hfn)).symm
      exact ⟨by kernel_rfl, fun j t ht => by
        rw [Tryd.params4] at ht
        have hm : t ∈ [9] := by first | simpa using Array.mem_of_getElem? ht | (have h := Array.mem_of_getElem? ht; simp at h ⊢; omega) | (have h := Array.mem_of_getElem? ht; simp at h ⊢; rcases h with h | h | h <;> simp [h])
        have hall : ([9].all fun u => !Tryd.prog.wantsStandIn u) = true := by kernel_rfl
        exact (show Tryd.prog.wantsStandIn t = false by simpa using List.all_eq_true.1 hall t hm)⟩)
    (by kernel_rfl)

end Go.Proofs.YthfmllgflnideaaDoor
