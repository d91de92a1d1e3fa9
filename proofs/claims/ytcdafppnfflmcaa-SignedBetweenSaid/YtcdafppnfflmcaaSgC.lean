/-
  Package signed, walked: Small, Print: each by what its number is.
-/
import Derived.Test.YtcdafppnfflmcaaSgB
import Derived.Test.YtcdafppnfflmcaaPrint
import Derived.Test.YtcdafppnfflmcaaRead
import Derived.Deep.RegionHeld3
namespace Go.Proofs.Ytcdafppnfflmcaa
open Go.RowKit

/-- The number, if it is of 64 bits; its code. -/
def smallN (z : Int) : Int := if -9223372036854775808 ≤ z ∧ z ≤ 9223372036854775807 then z else 0
def smallC (z : Int) : Int := if -9223372036854775808 ≤ z ∧ z ≤ 9223372036854775807 then 0 else 3
theorem small_in {z : Int} (h : -9223372036854775808 ≤ z) (h' : z ≤ 9223372036854775807) : smallN z = z ∧ smallC z = 0 := by
  unfold smallN smallC; rw [if_pos ⟨h, h'⟩, if_pos ⟨h, h'⟩]; exact ⟨rfl, rfl⟩
theorem small_out {z : Int} (h : z < -9223372036854775808 ∨ 9223372036854775807 < z) : smallN z = 0 ∧ smallC z = 3 := by
  unfold smallN smallC; rw [if_neg (by omega), if_neg (by omega)]; exact ⟨rfl, rfl⟩
theorem sof_min (w : World) : Calls Try.prog 43 #[.int .i64 (-9223372036854775808)] w fun e w' => e = .returned (.agg #[.bool true, .int .u64 0, .int .u64 9223372036854775808]) ∧ Below w.heap.size w w' := by
  refine (sof_any (-9223372036854775808) w (by decide) (by decide)).mono ?_
  rintro e w' ⟨b, h, l, rfl, hZ, g⟩
  obtain ⟨rfl, rfl, rfl⟩ := hZ.unique (of_neg (n := -9223372036854775808) (by decide) (by decide))
  exact ⟨rfl, g⟩
theorem maxW : IsW 0 9223372036854775807 9223372036854775807 := ⟨by decide, by decide, by decide, by decide, rfl⟩

set_option maxRecDepth 100000 in
set_option maxHeartbeats 2000000 in
theorem small_any (b : Bool) (h l : Int) (N : Nat) (w : World) (hW : IsW h l N) :
    Calls Try.prog 44 #[.agg #[.bool b, .int .u64 h, .int .u64 l]] w fun e w' => e = .returned (.tuple #[.int .i64 (smallN (valZ b N)), .int .i64 (smallC (valZ b N))]) ∧ Below w.heap.size w w' := by
  have HW := Lib.hid hW
  obtain ⟨Z, hZe⟩ : ∃ Z, smallN (valZ b N) = Z := ⟨_, rfl⟩
  obtain ⟨C, hCe⟩ : ∃ C, smallC (valZ b N) = C := ⟨_, rfl⟩
  rw [hZe, hCe]
  have K0 := Lib.hid (Var3.fresh w (.bool b) (.int .u64 h) (.int .u64 l) 58 w.heap.size rfl).drew
  obtain ⟨h0, h1, l0, l1, hn⟩ := hW
  by_cases hbig : 9223372036854775807 < N
  · by_cases hm : b = true ∧ N = 9223372036854775808
    · obtain ⟨rfl, rfl⟩ := hm
      obtain rfl : h = 0 := by omega
      obtain rfl : l = 9223372036854775808 := by omega
      obtain rfl : Z = -9223372036854775808 := by rw [← hZe]; exact (small_in (by decide) (by decide)).1
      obtain rfl : C = 0 := by rw [← hCe]; exact (small_in (by decide) (by decide)).2
      clear hZe hCe
      go_enter Try.func44, Try.ntmps44
      go_upto_region 1 with fail
      obtain ⟨_, _, _, _, _, _, _⟩ := K0.out
      go_region_held3 (fun W => W.cell? ⟨w.heap.size, 0, none⟩ = some (.bool true) ∧ W.cell? ⟨w.heap.size, 1, none⟩ = some (.int .u64 0) ∧ W.cell? ⟨w.heap.size, 2, none⟩ = some (.int .u64 9223372036854775808)) (first | (refine ⟨?_, ?_, ?_⟩ <;> assumption) | go_keep)
        (first | (go_at_call 43; (with_reducible refine (sof_min _).mono ?_); rintro e w1 ⟨rfl, g1⟩; obtain ⟨_, _, _, _, _, _, _⟩ := K0.out.after g1; have D1 := below_step (below_more (Below.refl w.heap.size w) (.cells #[.bool true, .int .u64 0, .int .u64 9223372036854775808] 58)).drew g1))
      go_wp2
      go_ret2
      exact ⟨rfl, D1⟩
    · have hz := small_out (z := valZ b N) (by cases b <;> simp [valZ] at hm ⊢ <;> omega)
      obtain rfl : Z = 0 := by rw [← hZe]; exact hz.1
      obtain rfl : C = 3 := by rw [← hCe]; exact hz.2
      have hk : b = false ∨ (b = true ∧ ¬ h = 0) ∨ (b = true ∧ h = 0 ∧ ¬ l = 9223372036854775808) := by cases b <;> simp at hm ⊢; omega
      have hcmp : cmpI N 9223372036854775807 = 1 := cmpI_gt hbig
      clear hZe hCe hz hm hn hbig
      rcases hk with rfl | ⟨rfl, hh⟩ | ⟨rfl, rfl, hl⟩
      · go_enter Try.func44, Try.ntmps44
        go_upto_region 1 with fail
        obtain ⟨_, _, _, _, _, _, _⟩ := K0.out
        go_region_held3 (fun W => W.cell? ⟨w.heap.size, 0, none⟩ = some (.bool false) ∧ W.cell? ⟨w.heap.size, 1, none⟩ = some (.int .u64 h) ∧ W.cell? ⟨w.heap.size, 2, none⟩ = some (.int .u64 l)) (first | (refine ⟨?_, ?_, ?_⟩ <;> assumption) | go_keep)
          (first | (go_at_call 43; (with_reducible refine (sof_min _).mono ?_); rintro e w1 ⟨rfl, g1⟩; have K1 := Lib.hid (K0.out.after g1); obtain ⟨_, _, _, _, _, _, _⟩ := K1.out; have D1 := below_step (below_more (Below.refl w.heap.size w) (.cells #[.bool false, .int .u64 h, .int .u64 l] 58)).drew g1))
        go_wp2_with (go_at_call 19; (with_reducible refine (ecompare_any _ _ 0 9223372036854775807 _ _ _ HW.out maxW).mono ?_); rintro e w2 ⟨rfl, g2⟩; rw [hcmp]; obtain ⟨_, _, _, _, _, _, _⟩ := K1.out.after g2; have D2 := below_step D1 g2)
        go_ret2
        exact ⟨rfl, D2⟩
      · go_enter Try.func44, Try.ntmps44
        go_upto_region 1 with fail
        obtain ⟨_, _, _, _, _, _, _⟩ := K0.out
        go_region_held3 (fun W => W.cell? ⟨w.heap.size, 0, none⟩ = some (.bool true) ∧ W.cell? ⟨w.heap.size, 1, none⟩ = some (.int .u64 h) ∧ W.cell? ⟨w.heap.size, 2, none⟩ = some (.int .u64 l)) (first | (refine ⟨?_, ?_, ?_⟩ <;> assumption) | go_keep)
          (first | (go_at_call 43; (with_reducible refine (sof_min _).mono ?_); rintro e w1 ⟨rfl, g1⟩; have K1 := Lib.hid (K0.out.after g1); obtain ⟨_, _, _, _, _, _, _⟩ := K1.out; have D1 := below_step (below_more (Below.refl w.heap.size w) (.cells #[.bool true, .int .u64 h, .int .u64 l] 58)).drew g1))
        go_wp2_with (go_at_call 19; (with_reducible refine (ecompare_any _ _ 0 9223372036854775807 _ _ _ HW.out maxW).mono ?_); rintro e w2 ⟨rfl, g2⟩; rw [hcmp]; obtain ⟨_, _, _, _, _, _, _⟩ := K1.out.after g2; have D2 := below_step D1 g2)
        go_ret2
        exact ⟨rfl, D2⟩
      · go_enter Try.func44, Try.ntmps44
        go_upto_region 1 with fail
        obtain ⟨_, _, _, _, _, _, _⟩ := K0.out
        go_region_held3 (fun W => W.cell? ⟨w.heap.size, 0, none⟩ = some (.bool true) ∧ W.cell? ⟨w.heap.size, 1, none⟩ = some (.int .u64 0) ∧ W.cell? ⟨w.heap.size, 2, none⟩ = some (.int .u64 l)) (first | (refine ⟨?_, ?_, ?_⟩ <;> assumption) | go_keep)
          (first | (go_at_call 43; (with_reducible refine (sof_min _).mono ?_); rintro e w1 ⟨rfl, g1⟩; have K1 := Lib.hid (K0.out.after g1); obtain ⟨_, _, _, _, _, _, _⟩ := K1.out; have D1 := below_step (below_more (Below.refl w.heap.size w) (.cells #[.bool true, .int .u64 0, .int .u64 l] 58)).drew g1))
        go_wp2_with (go_at_call 19; (with_reducible refine (ecompare_any _ _ 0 9223372036854775807 _ _ _ HW.out maxW).mono ?_); rintro e w2 ⟨rfl, g2⟩; rw [hcmp]; obtain ⟨_, _, _, _, _, _, _⟩ := K1.out.after g2; have D2 := below_step D1 g2)
        go_ret2
        exact ⟨rfl, D2⟩
  · obtain rfl : h = 0 := by omega
    obtain rfl : N = l.toNat := by omega
    have hl : ¬ l = 9223372036854775808 := by omega
    have hlm : l ≤ 9223372036854775807 := by omega
    have hcmp : ¬ 0 < cmpI l.toNat 9223372036854775807 := by unfold cmpI; split <;> (try split) <;> omega
    cases b
    · have hz := small_in (z := valZ false l.toNat) (by simp only [valZ]; simp; omega) (by simp only [valZ]; simp; omega)
      have hv : valZ false l.toNat = l := by simp only [valZ]; simp; omega
      obtain rfl : Z = l := by rw [← hZe, ← hv]; exact hz.1
      obtain rfl : C = 0 := by rw [← hCe]; exact hz.2
      generalize hcc : cmpI Z.toNat 9223372036854775807 = cc at hcmp
      clear hZe hCe hz hv hn hbig
      go_enter Try.func44, Try.ntmps44
      go_upto_region 1 with fail
      obtain ⟨_, _, _, _, _, _, _⟩ := K0.out
      go_region_held3 (fun W => W.cell? ⟨w.heap.size, 0, none⟩ = some (.bool false) ∧ W.cell? ⟨w.heap.size, 1, none⟩ = some (.int .u64 0) ∧ W.cell? ⟨w.heap.size, 2, none⟩ = some (.int .u64 Z)) (first | (refine ⟨?_, ?_, ?_⟩ <;> assumption) | go_keep)
        (first | (go_at_call 43; (with_reducible refine (sof_min _).mono ?_); rintro e w1 ⟨rfl, g1⟩; have K1 := Lib.hid (K0.out.after g1); obtain ⟨_, _, _, _, _, _, _⟩ := K1.out; have D1 := below_step (below_more (Below.refl w.heap.size w) (.cells #[.bool false, .int .u64 0, .int .u64 Z] 58)).drew g1))
      go_wp2_with (go_at_call 19; (with_reducible refine (ecompare_any _ _ 0 9223372036854775807 _ _ _ HW.out maxW).mono ?_); rintro e w2 ⟨rfl, g2⟩; rw [hcc]; obtain ⟨_, _, _, _, _, _, _⟩ := K1.out.after g2; have D2 := below_step D1 g2)
      go_ret2
      exact ⟨rfl, D2⟩
    · have hz := small_in (z := valZ true l.toNat) (by simp only [valZ]; simp; omega) (by simp only [valZ]; simp; omega)
      have hv : valZ true l.toNat = -l := by simp only [valZ]; simp; omega
      obtain rfl : Z = -l := by rw [← hZe, ← hv]; exact hz.1
      obtain rfl : C = 0 := by rw [← hCe]; exact hz.2
      generalize hcc : cmpI l.toNat 9223372036854775807 = cc at hcmp
      clear hZe hCe hz hv hn hbig
      go_enter Try.func44, Try.ntmps44
      go_upto_region 1 with fail
      obtain ⟨_, _, _, _, _, _, _⟩ := K0.out
      go_region_held3 (fun W => W.cell? ⟨w.heap.size, 0, none⟩ = some (.bool true) ∧ W.cell? ⟨w.heap.size, 1, none⟩ = some (.int .u64 0) ∧ W.cell? ⟨w.heap.size, 2, none⟩ = some (.int .u64 l)) (first | (refine ⟨?_, ?_, ?_⟩ <;> assumption) | go_keep)
        (first | (go_at_call 43; (with_reducible refine (sof_min _).mono ?_); rintro e w1 ⟨rfl, g1⟩; have K1 := Lib.hid (K0.out.after g1); obtain ⟨_, _, _, _, _, _, _⟩ := K1.out; have D1 := below_step (below_more (Below.refl w.heap.size w) (.cells #[.bool true, .int .u64 0, .int .u64 l] 58)).drew g1))
      go_wp2_with (go_at_call 19; (with_reducible refine (ecompare_any _ _ 0 9223372036854775807 _ _ _ HW.out maxW).mono ?_); rintro e w2 ⟨rfl, g2⟩; rw [hcc]; obtain ⟨_, _, _, _, _, _, _⟩ := K1.out.after g2; have D2 := below_step D1 g2)
      go_ret2
      exact ⟨rfl, D2⟩

end Go.Proofs.Ytcdafppnfflmcaa
