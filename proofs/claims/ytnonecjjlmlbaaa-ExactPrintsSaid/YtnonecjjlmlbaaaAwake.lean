/-
  The chapter's examples, walked: they come out as the chapter says.
-/
import Derived.Test.YtnonecjjlmlbaaaPrint
namespace Go.Proofs.Ytnonecjjlmlbaaa
open Go.RowKit

theorem awake_digits : strOfNums (dec 18446744073709551616) = ⟨#[49, 56, 52, 52, 54, 55, 52, 52, 48, 55, 51, 55, 48, 57, 53, 53, 49, 54, 49, 54]⟩ := by
  simp [dec, strOfNums]
theorem awake_ratio (w : World) : Calls Try.prog 24 #[.int .u64 1, .int .u64 3, .int .u64 334, .int .u64 1000] w fun e w' => e = .returned (.tuple #[.int .i64 (-1), .int .i64 0]) ∧ Below w.heap.size w w' := by
  refine (ratio_any 1 3 334 1000 w (by decide) (by decide) (by decide) (by decide) (by decide) (by decide) (by decide) (by decide) (by decide) (by decide)).mono ?_
  rintro e w' ⟨rfl, hb⟩
  exact ⟨by rw [cmpI_lt (by decide)], hb⟩
theorem awake_print (w : World) : Calls Try.prog 26 #[.agg #[.int .u64 1, .int .u64 0]] w fun e w' => e = .returned (.string ⟨#[49, 56, 52, 52, 54, 55, 52, 52, 48, 55, 51, 55, 48, 57, 53, 53, 49, 54, 49, 54]⟩) ∧ Below w.heap.size w w' := by
  refine (print_any 1 0 18446744073709551616 w ⟨by decide, by decide, by decide, by decide, by decide⟩).mono ?_
  rintro e w' ⟨rfl, hb⟩
  exact ⟨by rw [awake_digits], hb⟩
theorem awake_any (w : World) : Calls Try.prog 8 #[] w fun e w' => e = .returned (.bool true) ∧ Below w.heap.size w w' := by
  go_enter Try.func8, Try.ntmps8
  go_wp2_with (first | (go_at_call 24; refine (awake_ratio _).mono ?_; rintro e w1 ⟨rfl, hb1⟩) | (go_at_call 26; refine (awake_print _).mono ?_; rintro e w2 ⟨rfl, hb2⟩))
  go_ret
  exact ⟨rfl, hb1.trans (hb2.mono hb1.size)⟩

end Go.Proofs.Ytnonecjjlmlbaaa
