/-
  Package exact, walked: Ratio, Add, Less: each by what its numbers are.
-/
import Derived.Test.YtfdpiiahclglcaaDoorExactA
namespace Go.Proofs.YtfdpiiahclglcaaDoor
open Go.RowKit

theorem add64 (x y c : Int) (hx : 0 ≤ x) (hy : 0 ≤ y) (hc0 : 0 ≤ c) (hc : c ≤ 1) (w : World) : (callFunc 52 #[.int .u64 x, .int .u64 y, .int .u64 c]).run Tryd.prog w =
    .ok (.value (.tuple #[.int .u64 ((x + y + c) % 18446744073709551616), .int .u64 ((x + y + c) / 18446744073709551616)])) w := by
  rw [run_callFunc_extern Tryd.func52 (by kernel_rfl) (by kernel_rfl) (by kernel_rfl) (e := add64Entry) (by kernel_rfl), run_add64 x y c hx hy hc0 hc]
  rfl
theorem add64_0 (x y : Int) (hx : 0 ≤ x) (hy : 0 ≤ y) (w : World) : (callFunc 52 #[.int .u64 x, .int .u64 y, .int .u64 0]).run Tryd.prog w =
    .ok (.value (.tuple #[.int .u64 ((x + y) % 18446744073709551616), .int .u64 ((x + y) / 18446744073709551616)])) w := by
  simpa using add64 x y 0 hx hy (Int.le_refl 0) (by decide) w
theorem eadd_any (ah al bh bl : Int) (A B : Nat) (w : World) (ha : IsW ah al A) (hb : IsW bh bl B) :
    Calls Tryd.prog 43 #[.agg #[.int .u64 ah, .int .u64 al], .agg #[.int .u64 bh, .int .u64 bl]] w (GivesWC (capN (A + B)) (capC (A + B)) w) := by
  have HA := Lib.hid ha
  have HB := Lib.hid hb
  obtain ⟨a0, _, a1, a2, _⟩ := ha
  obtain ⟨b0, _, b1, b2, _⟩ := hb
  have k0 : 0 ≤ (al + bl) / 18446744073709551616 := by omega
  have k1 : (al + bl) / 18446744073709551616 ≤ 1 := by omega
  by_cases h : (ah + bh + (al + bl) / 18446744073709551616) / 18446744073709551616 = 0
  · obtain ⟨hs, hW⟩ := add_in HA.out HB.out h
    rw [capN_in hs, capC_in hs]
    clear hs
    go_enter Tryd.func43, Tryd.ntmps43
    go_wp2_with (first | simp only [add64_0 al bl a1 b1] | simp only [add64 ah bh _ a0 b0 k0 k1])
    refine bodyPost_ret (v := .tuple #[.agg #[.int .u64 ((ah + bh + (al + bl) / 18446744073709551616) % 18446744073709551616), .int .u64 ((al + bl) % 18446744073709551616)], .int .i64 0]) (by simp [results, Tryd.results43, go_sem]) rfl ⟨_, _, rfl, hW, ?_⟩
    exact (((Below.refl _ _).alloc (Nat.le_refl _) _).alloc (by simp) _).alloc (by simp; omega) _
  · have hs := add_out HA.out HB.out h
    rw [capN_out hs, capC_out hs]
    clear hs
    have h' : ((ah + bh + (al + bl) / 18446744073709551616) / 18446744073709551616 == 0) = false := by simpa using h
    go_enter Tryd.func43, Tryd.ntmps43
    go_wp2_with (first | simp only [add64_0 al bl a1 b1] | simp only [add64 ah bh _ a0 b0 k0 k1])
    refine bodyPost_ret (v := .tuple #[.agg #[.int .u64 0, .int .u64 0], .int .i64 3]) (by simp [results, Tryd.results43, go_sem]) rfl ⟨_, _, rfl, IsW.zero, ?_⟩
    exact (((Below.refl _ _).alloc (Nat.le_refl _) _).alloc (by simp) _).alloc (by simp; omega) _

/-- A borrow, under a name. -/
def bor (x y : Int) : Int := if x < y then 1 else 0
/-- What the difference is, and its code: beyond, if the other one is greater. -/
def lessN (a b : Nat) : Nat := if b ≤ a then a - b else 0
def lessC (a b : Nat) : Int := if b ≤ a then 0 else 3
theorem bor_cases (x y : Int) : (bor x y = 1 ∧ x < y) ∨ (bor x y = 0 ∧ y ≤ x) := by
  unfold bor; split
  · exact Or.inl ⟨rfl, by assumption⟩
  · exact Or.inr ⟨rfl, by omega⟩
theorem less_in {ah al bh bl : Int} {A B : Nat} (ha : IsW ah al A) (hb : IsW bh bl B) (h : bor ah (bh + bor al bl) = 0) :
    B ≤ A ∧ IsW ((ah - bh - bor al bl) % 18446744073709551616) ((al - bl) % 18446744073709551616) (A - B) := by
  obtain ⟨a, b, c, d, e⟩ := ha; obtain ⟨a', b', c', d', e'⟩ := hb
  rcases bor_cases ah (bh + bor al bl) with ⟨h1, h2⟩ | ⟨h1, h2⟩
  · omega
  · rcases bor_cases al bl with ⟨h3, h4⟩ | ⟨h3, h4⟩
    · rw [h3] at h2 ⊢
      exact ⟨by omega, ⟨by omega, by omega, by omega, by omega, by omega⟩⟩
    · rw [h3] at h2 ⊢
      exact ⟨by omega, ⟨by omega, by omega, by omega, by omega, by omega⟩⟩
theorem less_out {ah al bh bl : Int} {A B : Nat} (ha : IsW ah al A) (hb : IsW bh bl B) (h : ¬ bor ah (bh + bor al bl) = 0) : ¬ B ≤ A := by
  obtain ⟨a, b, c, d, e⟩ := ha; obtain ⟨a', b', c', d', e'⟩ := hb
  rcases bor_cases ah (bh + bor al bl) with ⟨h1, h2⟩ | ⟨h1, h2⟩
  · rcases bor_cases al bl with ⟨h3, h4⟩ | ⟨h3, h4⟩
    · omega
    · omega
  · omega
end Go.Proofs.YtfdpiiahclglcaaDoor
