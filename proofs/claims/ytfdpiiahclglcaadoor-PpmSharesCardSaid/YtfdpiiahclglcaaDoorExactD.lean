/-
  Package exact, walked: More and Ceil: each by what its numbers are.
-/
import Derived.Test.YtfdpiiahclglcaaDoorExactC
import Derived.Deep.RegionHeld3
import Derived.StillTactics
import Derived.Laws.Pointers
namespace Go.Proofs.YtfdpiiahclglcaaDoor
open Go.RowKit

theorem more_in {ah al hh hl n : Int} {A : Nat} (hA : IsW ah al A) (hn : 0 ≤ n) (h : IsW hh hl (ah.toNat * n.toNat)) (hz : hh = 0) :
    IsW hl 0 (hl.toNat * 18446744073709551616) ∧ hl.toNat * 18446744073709551616 + al.toNat * n.toNat = A * n.toNat := by
  obtain ⟨a, b, c, d, e⟩ := hA; obtain ⟨a', b', c', d', e'⟩ := h
  obtain ⟨x, rfl⟩ := Int.eq_ofNat_of_zero_le a
  obtain ⟨y, rfl⟩ := Int.eq_ofNat_of_zero_le c
  obtain ⟨m, rfl⟩ := Int.eq_ofNat_of_zero_le hn
  simp only [Int.toNat_natCast] at *
  have hAe : A = x * 18446744073709551616 + y := by omega
  have he : hl.toNat = x * m := by omega
  refine ⟨⟨c', d', by decide, by decide, by omega⟩, ?_⟩
  rw [he, hAe]; grind
theorem more_out {ah al hh hl n : Int} {A : Nat} (hA : IsW ah al A) (hn : 0 ≤ n) (h : IsW hh hl (ah.toNat * n.toNat)) (hz : ¬ hh = 0) : ¬ W128 (A * n.toNat) := by
  obtain ⟨a, b, c, d, e⟩ := hA; obtain ⟨a', b', c', d', e'⟩ := h
  obtain ⟨x, rfl⟩ := Int.eq_ofNat_of_zero_le a
  obtain ⟨y, rfl⟩ := Int.eq_ofNat_of_zero_le c
  obtain ⟨m, rfl⟩ := Int.eq_ofNat_of_zero_le hn
  simp only [Int.toNat_natCast] at *
  have hAe : A = x * 18446744073709551616 + y := by omega
  have h1 : A * m = x * m * 18446744073709551616 + y * m := by rw [hAe]; grind
  unfold W128
  have : 0 ≤ y * m := Nat.zero_le _
  omega

theorem low_of {hh hl : Int} {N : Nat} (h : IsW hh hl N) (hN : N < 18446744073709551616) : hh = 0 := by
  obtain ⟨_, _, _, _, e⟩ := h; omega
theorem high_of {hh hl : Int} {N : Nat} (h : IsW hh hl N) (hN : ¬ N < 18446744073709551616) : ¬ hh = 0 := by
  obtain ⟨_, _, _, _, e⟩ := h; omega
/-- What stands in the call's own memory: the number, and the place of the result. -/
structure BoxRes (w W : World) (ah al : Int) : Prop where
  c0 : W.cell? ⟨w.heap.size, 0, none⟩ = some (.int .u64 ah)
  c1 : W.cell? ⟨w.heap.size, 1, none⟩ = some (.int .u64 al)
  r0 : W.cell? ⟨w.heap.size + 1, 0, none⟩ = some (.int .u64 0)
  r1 : W.cell? ⟨w.heap.size + 1, 1, none⟩ = some (.int .u64 0)
  q0 : W.frozen? ⟨w.heap.size + 1, 0, none⟩ = false
  q1 : W.frozen? ⟨w.heap.size + 1, 1, none⟩ = false
  size : w.heap.size + 1 < W.heap.size
  size0 : w.heap.size < W.heap.size
  bel : Below w.heap.size w W
theorem BoxRes.start (w : World) (ah al : Int) : BoxRes w ((w.alloc (.cells #[.int .u64 ah, .int .u64 al] 33)).alloc (.cells #[.int .u64 0, .int .u64 0] 33)) ah al :=
  ⟨by simp [go_sem], by simp [go_sem], by simp [go_sem], by simp [go_sem], by simp [go_sem], by simp [go_sem], by simp, by simp; omega, ((Below.refl _ _).alloc (Nat.le_refl _) _).alloc (by simp) _⟩
theorem BoxRes.after {w W W1 : World} {ah al : Int} (h : BoxRes w W ah al) (hb : Below W.heap.size W W1) : BoxRes w W1 ah al := by
  obtain ⟨c0, c1, r0, r1, q0, q1, s1, s0, bel⟩ := h
  have hc : ∀ b o, b < W.heap.size → W1.cell? ⟨b, o, none⟩ = W.cell? ⟨b, o, none⟩ := fun b o h => hb.cell (p := ⟨b, o, none⟩) h
  have hf : ∀ b o, b < W.heap.size → W1.frozen? ⟨b, o, none⟩ = W.frozen? ⟨b, o, none⟩ := fun b o h => hb.frozen (p := ⟨b, o, none⟩) h
  have := hb.size
  exact ⟨by rw [hc _ _ s0, c0], by rw [hc _ _ s0, c1], by rw [hc _ _ s1, r0], by rw [hc _ _ s1, r1], by rw [hf _ _ s1, q0], by rw [hf _ _ s1, q1], by omega, by omega, bel.trans (hb.mono bel.size)⟩

set_option maxRecDepth 100000 in
set_option maxHeartbeats 1000000 in
theorem more_any (ah al n : Int) (A : Nat) (w : World) (hA : IsW ah al A) (hn : 0 ≤ n) (hn' : n ≤ 18446744073709551615) :
    Calls Tryd.prog 42 #[.agg #[.int .u64 ah, .int .u64 al], .int .u64 n] w (GivesWC (capN (A * n.toNat)) (capC (A * n.toNat)) w) := by
  have HA := Lib.hid hA
  obtain ⟨a0, a4, a1, a2, _⟩ := hA
  by_cases hp : ah.toNat * n.toNat < 18446744073709551616
  · have hp := Lib.hid hp
    go_enter Tryd.func42, Tryd.ntmps42
    go_wp2_with (go_at_call 30; (with_reducible refine (etimes_any ah n _ a0 a4 hn hn').mono ?_); rintro e w1 ⟨hh, hl, rfl, hW1, g1⟩; obtain rfl := low_of hW1 hp.out; obtain ⟨hI, hS⟩ := more_in HA.out hn hW1 rfl; replace hS := Lib.hid hS; replace hW1 := Lib.hid hW1; have B1 := (BoxRes.start w ah al).after g1; obtain ⟨c0, c1, r0, r1, q0, q1, s1, s0, bel⟩ := B1)
    have hm1 : (w1.alloc (.cells #[.int .u64 0, .int .u64 hl] 33)).drew.cell? ⟨w1.heap.size, 1, none⟩ = some (.int .u64 hl) := by simp [go_sem]
    have hne : ¬ w.heap.size + 1 = w1.heap.size := by omega
    have B2 := Lib.hid (((BoxRes.start w ah al).after g1).after ((Below.refl _ _).alloc (Nat.le_refl _) (.cells #[.int .u64 0, .int .u64 hl] 33)).drew)
    go_region_held3 (fun W => W.cell? ⟨w1.heap.size, 1, none⟩ = some (.int .u64 hl) ∧ W.cell? ⟨w.heap.size, 1, none⟩ = some (.int .u64 al)) (first | (exact ⟨hm1, (B2.out).c1⟩) | (refine ⟨?_, ?_⟩ <;> assumption) | go_keep)
      (first
        | (go_at_call 30; refine (etimes_any al n _ a1 a2 hn hn').mono ?_; rintro e w2 ⟨th, tl, rfl, hW2, g2⟩; have B3 := Lib.hid (B2.out.after g2); have k1 := (g2.cell (p := ⟨w1.heap.size, 1, none⟩) (by simp [go_sem])).trans hm1; have k2 := B3.out.c1; have z2 : w1.heap.size < w2.heap.size := (by have := g2.size; simp [go_sem] at this; omega))
        | (go_at_call 43; refine (eadd_any hl 0 th tl _ _ _ hI hW2).mono ?_; rintro e w3 ⟨sh, sl, rfl, hW3, g3⟩; have B4 := B3.out.after g3; obtain ⟨d0, d1, e0, e1, x0, x1, t1, t0, bel4⟩ := B4; have k1 := d1; have k3 := (g3.cell (p := ⟨w1.heap.size, 1, none⟩) z2).trans ((g2.cell (p := ⟨w1.heap.size, 1, none⟩) (by simp [go_sem])).trans hm1)))
    go_wp2
    have hW4 := hW3
    rw [hS.out] at hW4
    refine bodyPost_ret (v := .tuple #[.agg #[.int .u64 sh, .int .u64 sl], .int .i64 (capC (hl.toNat * 18446744073709551616 + al.toNat * n.toNat))]) (by simp [results, Tryd.results42, go_sem, e0, e1]) rfl ⟨sh, sl, by rw [hS.out], hW4, ?_⟩
    exact (bel4.setCell (by simp) _).setCell (by simp) _
  · have hp := Lib.hid hp
    go_enter Tryd.func42, Tryd.ntmps42
    go_wp2_with (go_at_call 30; (with_reducible refine (etimes_any ah n _ a0 a4 hn hn').mono ?_); rintro e w1 ⟨hh, hl, rfl, hW1, g1⟩; have hz := high_of hW1 hp.out; have hov := Lib.hid (more_out HA.out hn hW1 hz); replace hz : (hh == 0) = false := (by simpa using hz); replace hW1 := Lib.hid hW1; have B1 := (BoxRes.start w ah al).after g1; obtain ⟨c0, c1, r0, r1, q0, q1, s1, s0, bel⟩ := B1)
    refine bodyPost_ret (v := .tuple #[.agg #[.int .u64 0, .int .u64 0], .int .i64 3]) (by simp [results, Tryd.results42, go_sem, r0, r1, s1]) rfl ⟨0, 0, by rw [capC_out hov.out], by rw [capN_out hov.out]; exact IsW.zero, ?_⟩
    exact ((bel.setCell (by simp) _).setCell (by simp) _).alloc (by simp; omega) _

/-- How often till it is reached. -/
def ceilN (A n : Nat) : Nat := if n = 0 then 0 else A / n + if A % n = 0 then 0 else 1
def ceilC (n : Nat) : Int := if n = 0 then 4 else 0
theorem ceil_fits {A n : Nat} (hA : W128 A) (hn : 0 < n) (hr : 0 < A % n) : W128 (A / n + 1) := by
  have h1 : A % n < n := Nat.mod_lt _ hn
  have h2 : A / n * 2 ≤ A / n * n := Nat.mul_le_mul_left _ (by omega)
  have h3 : A / n * n ≤ A := Nat.div_mul_le_self A n
  have h4 : A % n + n * (A / n) = A := Nat.mod_add_div A n
  have h5 : n * (A / n) = A / n * n := Nat.mul_comm _ _
  unfold W128 at *; omega

end Go.Proofs.YtfdpiiahclglcaaDoor
