/-
  Package exact, walked: Floor, Ceil, More: each by what its numbers are.
-/
import Derived.Test.YtfdpiiahclglcaaDoorExactB
import Derived.Test.YtfdpiiahclglcaaDoorDiv
namespace Go.Proofs.YtfdpiiahclglcaaDoor
open Go.RowKit

/-- What Floor hands back. -/
def GivesF (q r : Nat) (c : Int) (w : World) (e : Ending) (w' : World) : Prop := ∃ h l x : Int, e = .returned (.tuple #[.agg #[.int .u64 h, .int .u64 l], .int .u64 x, .int .i64 c]) ∧ IsW h l q ∧ 0 ≤ x ∧ x.toNat = r ∧ Below w.heap.size w w'

theorem floor_zero (h l : Int) (w : World) :
    Calls Tryd.prog 31 #[.agg #[.int .u64 h, .int .u64 l], .int .u64 0] w (GivesF 0 0 4 w) := by
  go_enter Tryd.func31, Tryd.ntmps31
  go_wp2
  refine bodyPost_ret (v := .tuple #[.agg #[.int .u64 0, .int .u64 0], .int .u64 0, .int .i64 4]) (by simp [results, Tryd.results31, go_sem]) rfl ⟨0, 0, 0, rfl, IsW.zero, by omega, rfl, ?_⟩
  exact ((Below.refl _ _).alloc (Nat.le_refl _) _).alloc (by simp) _

theorem floor_num {h l n : Int} {A : Nat} (hA : IsW h l A) (hn : 1 ≤ n) (hn' : n ≤ 18446744073709551615) :
    IsW (h / n) ((h % n * 18446744073709551616 + l) / n) (A / n.toNat) ∧ 0 ≤ (h % n * 18446744073709551616 + l) % n ∧ ((h % n * 18446744073709551616 + l) % n).toNat = A % n.toNat := by
  obtain ⟨a, b, c, d, e⟩ := hA
  have m1 := Int.emod_add_mul_ediv h n
  have m2 := Int.emod_nonneg h (by omega : n ≠ 0)
  have m3 := Int.emod_lt_of_pos h (by omega : 0 < n)
  have q0 : 0 ≤ h / n := Int.ediv_nonneg a (by omega)
  have q1 : h / n ≤ h := Int.ediv_le_self _ a
  have r0 : 0 ≤ (h % n * 18446744073709551616 + l) / n := Int.ediv_nonneg (by omega) (by omega)
  have r1 : (h % n * 18446744073709551616 + l) / n < 18446744073709551616 := (Int.ediv_lt_iff_lt_mul (by omega)).mpr (by omega)
  have hAe : (A : Int) = (h % n * 18446744073709551616 + l) + (h / n * 18446744073709551616) * n := by grind
  have e1 : (A : Int) / n = (h % n * 18446744073709551616 + l) / n + h / n * 18446744073709551616 := by
    rw [hAe, Int.add_mul_ediv_right _ _ (by omega)]
  have e2 : (A : Int) % n = (h % n * 18446744073709551616 + l) % n := by
    rw [hAe, Int.add_mul_emod_self_right]
  have en : (n.toNat : Int) = n := by omega
  have e3 : ((A / n.toNat : Nat) : Int) = (A : Int) / n := by rw [Int.natCast_ediv, en]
  have e4 : ((A % n.toNat : Nat) : Int) = (A : Int) % n := by rw [Int.natCast_emod, en]
  have f0 := Int.emod_nonneg (h % n * 18446744073709551616 + l) (by omega : n ≠ 0)
  refine ⟨⟨q0, by omega, r0, by omega, by rw [e3, e1]; omega⟩, f0, ?_⟩
  have : ((A % n.toNat : Nat) : Int) = (h % n * 18446744073709551616 + l) % n := by rw [e4, e2]
  omega

theorem floor_any (h l n : Int) (A : Nat) (w : World) (hA : IsW h l A) (hn : 1 ≤ n) (hn' : n ≤ 18446744073709551615) :
    Calls Tryd.prog 31 #[.agg #[.int .u64 h, .int .u64 l], .int .u64 n] w (GivesF (A / n.toNat) (A % n.toNat) 0 w) := by
  obtain ⟨n1, n2, n3⟩ := floor_num hA hn hn'
  replace n1 := Lib.hid n1
  replace n3 := Lib.hid n3
  have n2 := Lib.hid n2
  obtain ⟨a0, a4, a1, a2, _⟩ := hA
  have hne : (n == 0) = false := by simp; omega
  have m2 := Int.emod_nonneg h (by omega : n ≠ 0)
  have m3 := Int.emod_lt_of_pos h (by omega : 0 < n)
  have q0 : 0 ≤ h / n := Int.ediv_nonneg a0 (by omega)
  have q1 : h / n ≤ h := Int.ediv_le_self _ a0
  go_enter Tryd.func31, Tryd.ntmps31
  go_wp2
  go_quiet ((go_at_call 46; refine Calls.quiet_of (n := _) (div_any (h % n) l n m2 m3 a1 a2 hn' _)))
  go_wp2
  refine bodyPost_ret (v := .tuple #[.agg #[.int .u64 (h / n), .int .u64 ((h % n * 18446744073709551616 + l) / n)], .int .u64 ((h % n * 18446744073709551616 + l) % n), .int .i64 0]) (by simp [results, Tryd.results31, go_sem]) rfl ⟨_, _, _, rfl, n1.out, n2.out, n3.out, ?_⟩
  exact ((below_drewN (((Below.refl _ _).alloc (Nat.le_refl _) _).alloc (by simp) _) _).setCell (by simp) _).setCell (by simp) _
end Go.Proofs.YtfdpiiahclglcaaDoor
