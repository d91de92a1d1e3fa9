/-
  Package exact, walked: Ratio, Add, Less: each by what its numbers are.
-/
import Derived.Test.YtcdafppnfflmcaaExactA
namespace Go.Proofs.Ytcdafppnfflmcaa
open Go.RowKit

theorem ratio_zero (a b c d : Int) (w : World) (h : b = 0 ∨ d = 0) :
    Calls Try.prog 28 #[.int .u64 a, .int .u64 b, .int .u64 c, .int .u64 d] w fun e w' => e = .returned (.tuple #[.int .i64 0, .int .i64 4]) ∧ w = w' := by
  by_cases h1 : b = 0
  · subst h1
    go_enter Try.func28, Try.ntmps28
    go_wp2
    go_ret2
    exact ⟨rfl, rfl⟩
  · obtain rfl : d = 0 := by omega
    have hb : (b == 0) = false := by simpa using h1
    go_enter Try.func28, Try.ntmps28
    go_wp2
    go_ret2
    exact ⟨rfl, rfl⟩

theorem ratio_any (a b c d : Int) (w : World) (ha : 0 ≤ a) (ha' : a ≤ 18446744073709551615) (hb : 0 ≤ b) (hb' : b ≤ 18446744073709551615) (hc : 0 ≤ c) (hc' : c ≤ 18446744073709551615) (hd : 0 ≤ d) (hd' : d ≤ 18446744073709551615)
    (h1 : ¬ b = 0) (h2 : ¬ d = 0) :
    Calls Try.prog 28 #[.int .u64 a, .int .u64 b, .int .u64 c, .int .u64 d] w fun e w' => e = .returned (.tuple #[.int .i64 (cmpI (a.toNat * d.toNat) (c.toNat * b.toNat)), .int .i64 0]) ∧ Below w.heap.size w w' := by
  have e1 : (b == 0) = false := by simpa using h1
  have e2 : (d == 0) = false := by simpa using h2
  clear h1 h2
  go_enter Try.func28, Try.ntmps28
  go_wp2_with (go_at_call 18; (with_reducible refine (etimes_any a d _ ha ha' hd hd').mono ?_); rintro e w1 ⟨m, n, rfl, hW1, hbel1⟩)
  go_wp2_with (go_at_call 18; (with_reducible refine (etimes_any c b _ hc hc' hb hb').mono ?_); rintro e w2 ⟨p, q, rfl, hW2, hbel2⟩)
  go_wp2_with (go_at_call 19; (with_reducible refine (ecompare_any _ _ _ _ _ _ _ hW1 hW2).mono ?_); rintro e w3 ⟨rfl, hbel3⟩)
  go_ret2
  exact ⟨rfl, (hbel1.trans (hbel2.mono hbel1.size)).trans (hbel3.mono (Nat.le_trans hbel1.size hbel2.size))⟩

/-! Sums with a carry, differences with a borrow, as the model has them. -/
theorem add64 (x y c : Int) (hx : 0 ≤ x) (hy : 0 ≤ y) (hc0 : 0 ≤ c) (hc : c ≤ 1) (w : World) : (callFunc 51 #[.int .u64 x, .int .u64 y, .int .u64 c]).run Try.prog w =
    .ok (.value (.tuple #[.int .u64 ((x + y + c) % 18446744073709551616), .int .u64 ((x + y + c) / 18446744073709551616)])) w := by
  rw [run_callFunc_extern Try.func51 (by kernel_rfl) (by kernel_rfl) (by kernel_rfl) (e := add64Entry) (by kernel_rfl), run_add64 x y c hx hy hc0 hc]
  rfl
theorem sub64 (x y b : Int) (hx : 0 ≤ x) (hy : 0 ≤ y) (hy' : y < 18446744073709551616) (hb0 : 0 ≤ b) (hb : b ≤ 1) (w : World) : (callFunc 52 #[.int .u64 x, .int .u64 y, .int .u64 b]).run Try.prog w =
    .ok (.value (.tuple #[.int .u64 ((x - y - b) % 18446744073709551616), .int .u64 (if x < y + b then 1 else 0)])) w := by
  obtain ⟨x, rfl⟩ := Int.eq_ofNat_of_zero_le hx
  obtain ⟨y, rfl⟩ := Int.eq_ofNat_of_zero_le hy
  obtain ⟨b, rfl⟩ := Int.eq_ofNat_of_zero_le hb0
  have e1 : (((x + 18446744073709551616 - y - b) % 18446744073709551616 : Nat) : Int) = ((x : Int) - y - b) % 18446744073709551616 := by omega
  have e2 : ((if x < y + b then 1 else 0 : Nat) : Int) = if (x : Int) < y + b then 1 else 0 := by split <;> split <;> omega
  rw [run_callFunc_extern Try.func52 (by kernel_rfl) (by kernel_rfl) (by kernel_rfl) (e := sub64Entry) (by kernel_rfl), run_sub64 x y b (by omega), ← e1, ← e2]
  rfl
theorem add64_0 (x y : Int) (hx : 0 ≤ x) (hy : 0 ≤ y) (w : World) : (callFunc 51 #[.int .u64 x, .int .u64 y, .int .u64 0]).run Try.prog w =
    .ok (.value (.tuple #[.int .u64 ((x + y) % 18446744073709551616), .int .u64 ((x + y) / 18446744073709551616)])) w := by
  simpa using add64 x y 0 hx hy (Int.le_refl 0) (by decide) w
theorem sub64_0 (x y : Int) (hx : 0 ≤ x) (hy : 0 ≤ y) (hy' : y < 18446744073709551616) (w : World) : (callFunc 52 #[.int .u64 x, .int .u64 y, .int .u64 0]).run Try.prog w =
    .ok (.value (.tuple #[.int .u64 ((x - y) % 18446744073709551616), .int .u64 (if x < y then 1 else 0)])) w := by
  simpa using sub64 x y 0 hx hy hy' (Int.le_refl 0) (by decide) w

theorem eadd_any (ah al bh bl : Int) (A B : Nat) (w : World) (ha : IsW ah al A) (hb : IsW bh bl B) :
    Calls Try.prog 15 #[.agg #[.int .u64 ah, .int .u64 al], .agg #[.int .u64 bh, .int .u64 bl]] w (GivesWC (capN (A + B)) (capC (A + B)) w) := by
  have HA := Lib.hid ha
  have HB := Lib.hid hb
  obtain ⟨a0, _, a1, a2, _⟩ := ha
  obtain ⟨b0, _, b1, b2, _⟩ := hb
  have k0 : 0 ≤ (al + bl) / 18446744073709551616 := by omega
  have k1 : (al + bl) / 18446744073709551616 ≤ 1 := by omega
  by_cases h : (ah + bh + (al + bl) / 18446744073709551616) / 18446744073709551616 = 0
  · obtain ⟨hs, hW⟩ := add_in HA.out HB.out h
    rw [capN_in hs, capC_in hs]
    clear hs
    go_enter Try.func15, Try.ntmps15
    go_wp2_with (first | simp only [add64_0 al bl a1 b1] | simp only [add64 ah bh _ a0 b0 k0 k1])
    refine bodyPost_ret (v := .tuple #[.agg #[.int .u64 ((ah + bh + (al + bl) / 18446744073709551616) % 18446744073709551616), .int .u64 ((al + bl) % 18446744073709551616)], .int .i64 0]) (by simp [results, Try.results15, go_sem]) rfl ⟨_, _, rfl, hW, ?_⟩
    exact (((Below.refl _ _).alloc (Nat.le_refl _) _).alloc (by simp) _).alloc (by simp; omega) _
  · have hs := add_out HA.out HB.out h
    rw [capN_out hs, capC_out hs]
    clear hs
    have h' : ((ah + bh + (al + bl) / 18446744073709551616) / 18446744073709551616 == 0) = false := by simpa using h
    go_enter Try.func15, Try.ntmps15
    go_wp2_with (first | simp only [add64_0 al bl a1 b1] | simp only [add64 ah bh _ a0 b0 k0 k1])
    refine bodyPost_ret (v := .tuple #[.agg #[.int .u64 0, .int .u64 0], .int .i64 3]) (by simp [results, Try.results15, go_sem]) rfl ⟨_, _, rfl, IsW.zero, ?_⟩
    exact (((Below.refl _ _).alloc (Nat.le_refl _) _).alloc (by simp) _).alloc (by simp; omega) _

/-- A borrow, under a name. -/
def bor (x y : Int) : Int := if x < y then 1 else 0
theorem sub64_b (x y : Int) (hx : 0 ≤ x) (hy : 0 ≤ y) (hy' : y < 18446744073709551616) (w : World) : (callFunc 52 #[.int .u64 x, .int .u64 y, .int .u64 0]).run Try.prog w =
    .ok (.value (.tuple #[.int .u64 ((x - y) % 18446744073709551616), .int .u64 (bor x y)])) w := sub64_0 x y hx hy hy' w
theorem sub64_c (x y b : Int) (hx : 0 ≤ x) (hy : 0 ≤ y) (hy' : y < 18446744073709551616) (hb0 : 0 ≤ b) (hb : b ≤ 1) (w : World) : (callFunc 52 #[.int .u64 x, .int .u64 y, .int .u64 b]).run Try.prog w =
    .ok (.value (.tuple #[.int .u64 ((x - y - b) % 18446744073709551616), .int .u64 (bor x (y + b))])) w := sub64 x y b hx hy hy' hb0 hb w
/-- What the difference is, and its code: beyond, if the other one is greater. -/
def lessN (a b : Nat) : Nat := if b ≤ a then a - b else 0
def lessC (a b : Nat) : Int := if b ≤ a then 0 else 3
theorem bor_cases (x y : Int) : (bor x y = 1 ∧ x < y) ∨ (bor x y = 0 ∧ y ≤ x) := by
  unfold bor; split
  · exact Or.inl ⟨rfl, by assumption⟩
  · exact Or.inr ⟨rfl, by omega⟩
theorem less_in {ah al bh bl : Int} {A B : Nat} (ha : IsW ah al A) (hb : IsW bh bl B) (h : bor ah (bh + bor al bl) = 0) :
    B ≤ A ∧ IsW ((ah - bh - bor al bl) % 18446744073709551616) ((al - bl) % 18446744073709551616) (A - B) := by
  obtain ⟨a, b, c, d, e⟩ := ha; obtain ⟨a', b', c', d', e'⟩ := hb
  rcases bor_cases ah (bh + bor al bl) with ⟨h1, h2⟩ | ⟨h1, h2⟩
  · omega
  · rcases bor_cases al bl with ⟨h3, h4⟩ | ⟨h3, h4⟩
    · rw [h3] at h2 ⊢
      exact ⟨by omega, ⟨by omega, by omega, by omega, by omega, by omega⟩⟩
    · rw [h3] at h2 ⊢
      exact ⟨by omega, ⟨by omega, by omega, by omega, by omega, by omega⟩⟩
theorem less_out {ah al bh bl : Int} {A B : Nat} (ha : IsW ah al A) (hb : IsW bh bl B) (h : ¬ bor ah (bh + bor al bl) = 0) : ¬ B ≤ A := by
  obtain ⟨a, b, c, d, e⟩ := ha; obtain ⟨a', b', c', d', e'⟩ := hb
  rcases bor_cases ah (bh + bor al bl) with ⟨h1, h2⟩ | ⟨h1, h2⟩
  · rcases bor_cases al bl with ⟨h3, h4⟩ | ⟨h3, h4⟩
    · omega
    · omega
  · omega
theorem eless_any (ah al bh bl : Int) (A B : Nat) (w : World) (ha : IsW ah al A) (hb : IsW bh bl B) :
    Calls Try.prog 16 #[.agg #[.int .u64 ah, .int .u64 al], .agg #[.int .u64 bh, .int .u64 bl]] w (GivesWC (lessN A B) (lessC A B) w) := by
  have HA := Lib.hid ha
  have HB := Lib.hid hb
  obtain ⟨a0, _, a1, a2, _⟩ := ha
  obtain ⟨b0, b4, b1, b2, _⟩ := hb
  have k0 : 0 ≤ bor al bl := by unfold bor; split <;> decide
  have k1 : bor al bl ≤ 1 := by unfold bor; split <;> decide
  by_cases h : bor ah (bh + bor al bl) = 0
  · obtain ⟨hs, hW⟩ := less_in HA.out HB.out h
    rw [lessN, lessC, if_pos hs, if_pos hs]
    clear hs
    go_enter Try.func16, Try.ntmps16
    go_wp2_with (first | simp only [sub64_b al bl a1 b1 (by omega : bl < 18446744073709551616)] | simp only [sub64_c ah bh _ a0 b0 (by omega : bh < 18446744073709551616) k0 k1])
    refine bodyPost_ret (v := .tuple #[.agg #[.int .u64 ((ah - bh - bor al bl) % 18446744073709551616), .int .u64 ((al - bl) % 18446744073709551616)], .int .i64 0]) (by simp [results, Try.results16, go_sem]) rfl ⟨_, _, rfl, hW, ?_⟩
    exact (((Below.refl _ _).alloc (Nat.le_refl _) _).alloc (by simp) _).alloc (by simp; omega) _
  · have hs := less_out HA.out HB.out h
    rw [lessN, lessC, if_neg hs, if_neg hs]
    clear hs
    have h' : (bor ah (bh + bor al bl) == 0) = false := by simpa using h
    go_enter Try.func16, Try.ntmps16
    go_wp2_with (first | simp only [sub64_b al bl a1 b1 (by omega : bl < 18446744073709551616)] | simp only [sub64_c ah bh _ a0 b0 (by omega : bh < 18446744073709551616) k0 k1])
    refine bodyPost_ret (v := .tuple #[.agg #[.int .u64 0, .int .u64 0], .int .i64 3]) (by simp [results, Try.results16, go_sem]) rfl ⟨_, _, rfl, IsW.zero, ?_⟩
    exact (((Below.refl _ _).alloc (Nat.le_refl _) _).alloc (by simp) _).alloc (by simp; omega) _
end Go.Proofs.Ytcdafppnfflmcaa
