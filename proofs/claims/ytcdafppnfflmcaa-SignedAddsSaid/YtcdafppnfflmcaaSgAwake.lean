/-
  The chapter's example, walked: it comes out as the chapter says.
-/
import Derived.Test.YtcdafppnfflmcaaSgD
namespace Go.Proofs.Ytcdafppnfflmcaa
open Go.RowKit

theorem sg_three : IsW 0 3 3 := ⟨by decide, by decide, by decide, by decide, rfl⟩
theorem sg_five : IsW 0 5 5 := ⟨by decide, by decide, by decide, by decide, rfl⟩
theorem sg_two : IsW 0 2 2 := ⟨by decide, by decide, by decide, by decide, rfl⟩
theorem sg_gap (w : World) : Calls Try.prog 45 #[.agg #[.int .u64 0, .int .u64 3], .agg #[.int .u64 0, .int .u64 5]] w fun e w' => e = .returned (.agg #[.bool true, .int .u64 0, .int .u64 2]) ∧ Below w.heap.size w w' := by
  refine (between_any 0 3 0 5 3 5 w sg_three sg_five).mono ?_
  rintro e w' ⟨b, h, l, rfl, hZ, g⟩
  obtain ⟨rfl, rfl, rfl⟩ := hZ.unique (show IsZ true 0 2 (((3 : Nat) : Int) - (5 : Nat)) from ⟨by simp, sg_two⟩)
  exact ⟨rfl, g⟩
theorem sg_print (w : World) : Calls Try.prog 46 #[.agg #[.bool true, .int .u64 0, .int .u64 2]] w fun e w' => e = .returned (.string ⟨#[45, 50]⟩) ∧ Below w.heap.size w w' := by
  refine (sprint_any true 0 2 2 w sg_two).mono ?_
  rintro e w' ⟨rfl, g⟩
  have : strOfNums (decS true 2) = ⟨#[45, 50]⟩ := by simp [decS, downB, dec, strOfNums]
  exact ⟨by rw [this], g⟩
theorem sg_awake (w : World) : Calls Try.prog 34 #[] w fun e w' => e = .returned (.bool true) ∧ Below w.heap.size w w' := by
  go_enter Try.func34, Try.ntmps34
  go_wp2_with (first
    | (go_at_call 45; (with_reducible refine (sg_gap _).mono ?_); rintro e w1 ⟨rfl, g1⟩)
    | (go_at_call 46; (with_reducible refine (sg_print _).mono ?_); rintro e w2 ⟨rfl, g2⟩))
  go_ret
  exact ⟨rfl, below_step g1 g2⟩

end Go.Proofs.Ytcdafppnfflmcaa
