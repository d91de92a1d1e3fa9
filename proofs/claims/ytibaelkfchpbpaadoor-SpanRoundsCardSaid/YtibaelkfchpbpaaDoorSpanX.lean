/-
  The statement SpanRounds, walked: over the contracts of package span's calls.
-/
import Derived.Test.YtibaelkfchpbpaaDoorSpanW
namespace Go.Proofs.YtibaelkfchpbpaaDoor
open Go.RowKit

set_option maxRecDepth 100000 in
set_option maxHeartbeats 4000000 in
theorem srounds_walk (n u r : Int) (w : World) (tab : Tab w) (_r0 : -2147483648 ≤ r) (_r1 : r ≤ 2147483647) (hround : ∀ w, Calls Tryd.prog 14 #[.int .i64 n, .int .i64 u] w fun e w' => e = .returned (.int .i64 (roundI n u)) ∧ Below w.heap.size w w') :
    Calls Tryd.prog 6 #[.int .i64 n, .int .i64 u, .int .i32 r] w fun e w' => e = .returned (.bool true) ∧ Below w.heap.size w w' := by
  obtain ⟨K, hk⟩ : ∃ K, roundI n u = K := ⟨_, rfl⟩
  have HR := Lib.hid hround
  rw [hk] at HR
  clear hround
  obtain ⟨v, hv0⟩ : ∃ v, unitOf r = v := ⟨_, rfl⟩
  have hv := Lib.hid hv0
  by_cases hr0 : 0 < r
  · by_cases hr1 : r < 128
    · clear hv0
      by_cases n0 : n < 0
      · have hK : K = 0 := by rw [← hk]; unfold roundI; rw [if_pos (Or.inl n0)]
        subst hK
        clear hk
        go_enter Tryd.func6, Tryd.ntmps6
        go_wp2_with (first | (go_at_call 7; (with_reducible refine (span_awake _ tab).mono ?_); rintro e w1 ⟨rfl, g⟩; have DD := g; clear g) | (go_at_call 14; (with_reducible refine (HR.out _).mono ?_); rintro e w2 ⟨rfl, g⟩; have DD := below_step DD g; clear g) | (go_at_call 13; (with_reducible refine (runit_any r _ (by omega) (by omega)).mono ?_); rintro e w3 ⟨rfl, g⟩; rw [hv.out]; have DD := below_step DD g; clear g) | (go_at_call 15; (with_reducible refine (spunit_any r _).mono ?_); rintro e w4 ⟨rfl, g⟩; rw [hv.out]; have DD := below_step DD g; clear g))
        go_ret
        exact ⟨rfl, DD⟩
      · by_cases n1 : 253402300799 < n
        · have hK : K = 0 := by rw [← hk]; unfold roundI; rw [if_pos (Or.inr (Or.inl n1))]
          subst hK
          clear hk
          go_enter Tryd.func6, Tryd.ntmps6
          go_wp2_with (first | (go_at_call 7; (with_reducible refine (span_awake _ tab).mono ?_); rintro e w1 ⟨rfl, g⟩; have DD := g; clear g) | (go_at_call 14; (with_reducible refine (HR.out _).mono ?_); rintro e w2 ⟨rfl, g⟩; have DD := below_step DD g; clear g) | (go_at_call 13; (with_reducible refine (runit_any r _ (by omega) (by omega)).mono ?_); rintro e w3 ⟨rfl, g⟩; rw [hv.out]; have DD := below_step DD g; clear g) | (go_at_call 15; (with_reducible refine (spunit_any r _).mono ?_); rintro e w4 ⟨rfl, g⟩; rw [hv.out]; have DD := below_step DD g; clear g))
          go_ret
          exact ⟨rfl, DD⟩
        · by_cases u1 : u < 1
          · have hK : K = 0 := by rw [← hk]; unfold roundI; rw [if_pos (Or.inr (Or.inr u1))]
            subst hK
            clear hk
            go_enter Tryd.func6, Tryd.ntmps6
            go_wp2_with (first | (go_at_call 7; (with_reducible refine (span_awake _ tab).mono ?_); rintro e w1 ⟨rfl, g⟩; have DD := g; clear g) | (go_at_call 14; (with_reducible refine (HR.out _).mono ?_); rintro e w2 ⟨rfl, g⟩; have DD := below_step DD g; clear g) | (go_at_call 13; (with_reducible refine (runit_any r _ (by omega) (by omega)).mono ?_); rintro e w3 ⟨rfl, g⟩; rw [hv.out]; have DD := below_step DD g; clear g) | (go_at_call 15; (with_reducible refine (spunit_any r _).mono ?_); rintro e w4 ⟨rfl, g⟩; rw [hv.out]; have DD := below_step DD g; clear g))
            go_ret
            exact ⟨rfl, DD⟩
          · have hno : ¬ (n < 0 ∨ 253402300799 < n ∨ u < 1) := by omega
            have hk2 : K = if n % u = 0 ∨ 253402300799 < u ∨ 253402300799 / u ≤ n / u then n else (n / u + 1) * u := by rw [← hk]; unfold roundI; rw [if_neg hno]
            have hune : (u == 0) = false := by simp; omega
            have hune2 : ¬ u = 0 := by omega
            have n2 : 0 ≤ n := by omega
            have n3 : n ≤ 253402300799 := by omega
            have u2 : 1 ≤ u := by omega
            have u3 : 0 ≤ u := by omega
            obtain ⟨ρ, hr⟩ : ∃ ρ, n % u = ρ := ⟨_, rfl⟩
            obtain ⟨q, hq⟩ : ∃ q, n / u = q := ⟨_, rfl⟩
            obtain ⟨m, hmx⟩ : ∃ m, (253402300799 : Int) / u = m := ⟨_, rfl⟩
            have q0 : 0 ≤ q := by rw [← hq]; exact Int.ediv_nonneg n2 u3
            have q1 : q ≤ 253402300799 := by rw [← hq]; exact Int.le_trans (Int.ediv_le_self _ n2) n3
            have m0 : 0 ≤ m := by rw [← hmx]; exact Int.ediv_nonneg (by decide) u3
            have m1 : m ≤ 253402300799 := by rw [← hmx]; exact Int.ediv_le_self _ (by decide)
            have rt : n.tmod u = ρ := by rw [Int.tmod_eq_emod_of_nonneg n2]; exact hr
            have qt : n.tdiv u = q := by rw [Int.tdiv_eq_ediv_of_nonneg n2]; exact hq
            have mt : (253402300799 : Int).tdiv u = m := by rw [Int.tdiv_eq_ediv_of_nonneg (by decide)]; exact hmx
            have qw : IntKind.i64.wrap q = q := by rw [IntKind.wrap_i64]; omega
            have mw : IntKind.i64.wrap m = m := by rw [IntKind.wrap_i64]; omega
            rw [hr, hq, hmx] at hk2
            clear hk hno n0 n1 u1
            by_cases hz : ρ = 0
            · have hK : n = K := by rw [hk2, if_pos (Or.inl hz)]
              subst hK
              have hzb : (ρ == 0) = true := by simpa using hz
              clear hk2 hz
              go_enter Tryd.func6, Tryd.ntmps6
              go_wp2_with (first | (go_at_call 7; (with_reducible refine (span_awake _ tab).mono ?_); rintro e w1 ⟨rfl, g⟩; have DD := g; clear g) | (go_at_call 14; (with_reducible refine (HR.out _).mono ?_); rintro e w2 ⟨rfl, g⟩; have DD := below_step DD g; clear g) | (go_at_call 13; (with_reducible refine (runit_any r _ (by omega) (by omega)).mono ?_); rintro e w3 ⟨rfl, g⟩; rw [hv.out]; have DD := below_step DD g; clear g) | (go_at_call 15; (with_reducible refine (spunit_any r _).mono ?_); rintro e w4 ⟨rfl, g⟩; rw [hv.out]; have DD := below_step DD g; clear g))
              go_quiet (fail)
              clear qw qt mw mt rt
              go_wp2
              go_ret
              exact ⟨rfl, below_drewN DD _⟩
            · have hzb : (ρ == 0) = false := by simpa using hz
              by_cases hu : 253402300799 < u
              · have hK : n = K := by rw [hk2, if_pos (Or.inr (Or.inl hu))]
                subst hK
                have hub : decide (u > 253402300799) = true := by simpa using hu
                clear hk2 hz
                go_enter Tryd.func6, Tryd.ntmps6
                go_wp2_with (first | (go_at_call 7; (with_reducible refine (span_awake _ tab).mono ?_); rintro e w1 ⟨rfl, g⟩; have DD := g; clear g) | (go_at_call 14; (with_reducible refine (HR.out _).mono ?_); rintro e w2 ⟨rfl, g⟩; have DD := below_step DD g; clear g) | (go_at_call 13; (with_reducible refine (runit_any r _ (by omega) (by omega)).mono ?_); rintro e w3 ⟨rfl, g⟩; rw [hv.out]; have DD := below_step DD g; clear g) | (go_at_call 15; (with_reducible refine (spunit_any r _).mono ?_); rintro e w4 ⟨rfl, g⟩; rw [hv.out]; have DD := below_step DD g; clear g))
                go_quiet (fail)
                clear qw qt mw mt rt
                go_wp2
                go_ret
                exact ⟨rfl, below_drewN DD _⟩
              · have hub : decide (u > 253402300799) = false := by simp; omega
                by_cases hd : m ≤ q
                · have hK : n = K := by rw [hk2, if_pos (Or.inr (Or.inr hd))]
                  subst hK
                  have hdb : decide (q ≥ m) = true := by simpa using hd
                  clear hk2 hz hu
                  go_enter Tryd.func6, Tryd.ntmps6
                  go_wp2_with (first | (go_at_call 7; (with_reducible refine (span_awake _ tab).mono ?_); rintro e w1 ⟨rfl, g⟩; have DD := g; clear g) | (go_at_call 14; (with_reducible refine (HR.out _).mono ?_); rintro e w2 ⟨rfl, g⟩; have DD := below_step DD g; clear g) | (go_at_call 13; (with_reducible refine (runit_any r _ (by omega) (by omega)).mono ?_); rintro e w3 ⟨rfl, g⟩; rw [hv.out]; have DD := below_step DD g; clear g) | (go_at_call 15; (with_reducible refine (spunit_any r _).mono ?_); rintro e w4 ⟨rfl, g⟩; rw [hv.out]; have DD := below_step DD g; clear g))
                  go_quiet (fail)
                  clear qw qt mw mt rt
                  go_wp2
                  go_ret
                  exact ⟨rfl, below_drewN DD _⟩
                · have hdb : decide (q ≥ m) = false := by simp; omega
                  have hK : (q + 1) * u = K := by rw [hk2, if_neg (by omega)]
                  have k0 : 0 ≤ K := by rw [← hK]; exact Int.mul_nonneg (by omega) u3
                  have k1 : K ≤ 253402300799 := by
                    have h5 : (q + 1) * u ≤ m * u := Int.mul_le_mul_of_nonneg_right (by omega) u3
                    have h6 : m * u ≤ 253402300799 := by rw [← hmx]; exact Int.ediv_mul_le _ hune2
                    omega
                  clear hk2 hz hu hd
                  go_enter Tryd.func6, Tryd.ntmps6
                  go_wp2_with (first | (go_at_call 7; (with_reducible refine (span_awake _ tab).mono ?_); rintro e w1 ⟨rfl, g⟩; have DD := g; clear g) | (go_at_call 14; (with_reducible refine (HR.out _).mono ?_); rintro e w2 ⟨rfl, g⟩; have DD := below_step DD g; clear g) | (go_at_call 13; (with_reducible refine (runit_any r _ (by omega) (by omega)).mono ?_); rintro e w3 ⟨rfl, g⟩; rw [hv.out]; have DD := below_step DD g; clear g) | (go_at_call 15; (with_reducible refine (spunit_any r _).mono ?_); rintro e w4 ⟨rfl, g⟩; rw [hv.out]; have DD := below_step DD g; clear g))
                  go_quiet (fail)
                  clear qw qt mw mt rt
                  go_wp2
                  go_ret
                  exact ⟨rfl, below_drewN DD _⟩
    · have hv2 : v = 0 := by
        rw [← hv0]; unfold unitOf
        rw [if_neg (by omega), if_neg (by omega), if_neg (by omega), if_neg (by omega), if_neg (by omega)]
      subst hv2
      clear hv0
      have ev : ((0 : Nat) : Int) = 0 := rfl
      by_cases n0 : n < 0
      · have hK : K = 0 := by rw [← hk]; unfold roundI; rw [if_pos (Or.inl n0)]
        subst hK
        clear hk
        go_enter Tryd.func6, Tryd.ntmps6
        go_wp2_with (first | (go_at_call 7; (with_reducible refine (span_awake _ tab).mono ?_); rintro e w1 ⟨rfl, g⟩; have DD := g; clear g) | (go_at_call 14; (with_reducible refine (HR.out _).mono ?_); rintro e w2 ⟨rfl, g⟩; have DD := below_step DD g; clear g) | (go_at_call 13; (with_reducible refine (runit_any r _ (by omega) (by omega)).mono ?_); rintro e w3 ⟨rfl, g⟩; rw [hv.out]; have DD := below_step DD g; clear g) | (go_at_call 15; (with_reducible refine (spunit_any r _).mono ?_); rintro e w4 ⟨rfl, g⟩; rw [hv.out]; have DD := below_step DD g; clear g))
        go_ret
        exact ⟨rfl, DD⟩
      · by_cases n1 : 253402300799 < n
        · have hK : K = 0 := by rw [← hk]; unfold roundI; rw [if_pos (Or.inr (Or.inl n1))]
          subst hK
          clear hk
          go_enter Tryd.func6, Tryd.ntmps6
          go_wp2_with (first | (go_at_call 7; (with_reducible refine (span_awake _ tab).mono ?_); rintro e w1 ⟨rfl, g⟩; have DD := g; clear g) | (go_at_call 14; (with_reducible refine (HR.out _).mono ?_); rintro e w2 ⟨rfl, g⟩; have DD := below_step DD g; clear g) | (go_at_call 13; (with_reducible refine (runit_any r _ (by omega) (by omega)).mono ?_); rintro e w3 ⟨rfl, g⟩; rw [hv.out]; have DD := below_step DD g; clear g) | (go_at_call 15; (with_reducible refine (spunit_any r _).mono ?_); rintro e w4 ⟨rfl, g⟩; rw [hv.out]; have DD := below_step DD g; clear g))
          go_ret
          exact ⟨rfl, DD⟩
        · by_cases u1 : u < 1
          · have hK : K = 0 := by rw [← hk]; unfold roundI; rw [if_pos (Or.inr (Or.inr u1))]
            subst hK
            clear hk
            go_enter Tryd.func6, Tryd.ntmps6
            go_wp2_with (first | (go_at_call 7; (with_reducible refine (span_awake _ tab).mono ?_); rintro e w1 ⟨rfl, g⟩; have DD := g; clear g) | (go_at_call 14; (with_reducible refine (HR.out _).mono ?_); rintro e w2 ⟨rfl, g⟩; have DD := below_step DD g; clear g) | (go_at_call 13; (with_reducible refine (runit_any r _ (by omega) (by omega)).mono ?_); rintro e w3 ⟨rfl, g⟩; rw [hv.out]; have DD := below_step DD g; clear g) | (go_at_call 15; (with_reducible refine (spunit_any r _).mono ?_); rintro e w4 ⟨rfl, g⟩; rw [hv.out]; have DD := below_step DD g; clear g))
            go_ret
            exact ⟨rfl, DD⟩
          · have hno : ¬ (n < 0 ∨ 253402300799 < n ∨ u < 1) := by omega
            have hk2 : K = if n % u = 0 ∨ 253402300799 < u ∨ 253402300799 / u ≤ n / u then n else (n / u + 1) * u := by rw [← hk]; unfold roundI; rw [if_neg hno]
            have hune : (u == 0) = false := by simp; omega
            have hune2 : ¬ u = 0 := by omega
            have n2 : 0 ≤ n := by omega
            have n3 : n ≤ 253402300799 := by omega
            have u2 : 1 ≤ u := by omega
            have u3 : 0 ≤ u := by omega
            obtain ⟨ρ, hr⟩ : ∃ ρ, n % u = ρ := ⟨_, rfl⟩
            obtain ⟨q, hq⟩ : ∃ q, n / u = q := ⟨_, rfl⟩
            obtain ⟨m, hmx⟩ : ∃ m, (253402300799 : Int) / u = m := ⟨_, rfl⟩
            have q0 : 0 ≤ q := by rw [← hq]; exact Int.ediv_nonneg n2 u3
            have q1 : q ≤ 253402300799 := by rw [← hq]; exact Int.le_trans (Int.ediv_le_self _ n2) n3
            have m0 : 0 ≤ m := by rw [← hmx]; exact Int.ediv_nonneg (by decide) u3
            have m1 : m ≤ 253402300799 := by rw [← hmx]; exact Int.ediv_le_self _ (by decide)
            have rt : n.tmod u = ρ := by rw [Int.tmod_eq_emod_of_nonneg n2]; exact hr
            have qt : n.tdiv u = q := by rw [Int.tdiv_eq_ediv_of_nonneg n2]; exact hq
            have mt : (253402300799 : Int).tdiv u = m := by rw [Int.tdiv_eq_ediv_of_nonneg (by decide)]; exact hmx
            have qw : IntKind.i64.wrap q = q := by rw [IntKind.wrap_i64]; omega
            have mw : IntKind.i64.wrap m = m := by rw [IntKind.wrap_i64]; omega
            rw [hr, hq, hmx] at hk2
            clear hk hno n0 n1 u1
            by_cases hz : ρ = 0
            · have hK : n = K := by rw [hk2, if_pos (Or.inl hz)]
              subst hK
              have hzb : (ρ == 0) = true := by simpa using hz
              clear hk2 hz
              go_enter Tryd.func6, Tryd.ntmps6
              go_wp2_with (first | (go_at_call 7; (with_reducible refine (span_awake _ tab).mono ?_); rintro e w1 ⟨rfl, g⟩; have DD := g; clear g) | (go_at_call 14; (with_reducible refine (HR.out _).mono ?_); rintro e w2 ⟨rfl, g⟩; have DD := below_step DD g; clear g) | (go_at_call 13; (with_reducible refine (runit_any r _ (by omega) (by omega)).mono ?_); rintro e w3 ⟨rfl, g⟩; rw [hv.out]; have DD := below_step DD g; clear g) | (go_at_call 15; (with_reducible refine (spunit_any r _).mono ?_); rintro e w4 ⟨rfl, g⟩; rw [hv.out]; have DD := below_step DD g; clear g))
              go_quiet (fail)
              clear qw qt mw mt rt
              go_wp2
              go_ret
              exact ⟨rfl, below_drewN DD _⟩
            · have hzb : (ρ == 0) = false := by simpa using hz
              by_cases hu : 253402300799 < u
              · have hK : n = K := by rw [hk2, if_pos (Or.inr (Or.inl hu))]
                subst hK
                have hub : decide (u > 253402300799) = true := by simpa using hu
                clear hk2 hz
                go_enter Tryd.func6, Tryd.ntmps6
                go_wp2_with (first | (go_at_call 7; (with_reducible refine (span_awake _ tab).mono ?_); rintro e w1 ⟨rfl, g⟩; have DD := g; clear g) | (go_at_call 14; (with_reducible refine (HR.out _).mono ?_); rintro e w2 ⟨rfl, g⟩; have DD := below_step DD g; clear g) | (go_at_call 13; (with_reducible refine (runit_any r _ (by omega) (by omega)).mono ?_); rintro e w3 ⟨rfl, g⟩; rw [hv.out]; have DD := below_step DD g; clear g) | (go_at_call 15; (with_reducible refine (spunit_any r _).mono ?_); rintro e w4 ⟨rfl, g⟩; rw [hv.out]; have DD := below_step DD g; clear g))
                go_quiet (fail)
                clear qw qt mw mt rt
                go_wp2
                go_ret
                exact ⟨rfl, below_drewN DD _⟩
              · have hub : decide (u > 253402300799) = false := by simp; omega
                by_cases hd : m ≤ q
                · have hK : n = K := by rw [hk2, if_pos (Or.inr (Or.inr hd))]
                  subst hK
                  have hdb : decide (q ≥ m) = true := by simpa using hd
                  clear hk2 hz hu
                  go_enter Tryd.func6, Tryd.ntmps6
                  go_wp2_with (first | (go_at_call 7; (with_reducible refine (span_awake _ tab).mono ?_); rintro e w1 ⟨rfl, g⟩; have DD := g; clear g) | (go_at_call 14; (with_reducible refine (HR.out _).mono ?_); rintro e w2 ⟨rfl, g⟩; have DD := below_step DD g; clear g) | (go_at_call 13; (with_reducible refine (runit_any r _ (by omega) (by omega)).mono ?_); rintro e w3 ⟨rfl, g⟩; rw [hv.out]; have DD := below_step DD g; clear g) | (go_at_call 15; (with_reducible refine (spunit_any r _).mono ?_); rintro e w4 ⟨rfl, g⟩; rw [hv.out]; have DD := below_step DD g; clear g))
                  go_quiet (fail)
                  clear qw qt mw mt rt
                  go_wp2
                  go_ret
                  exact ⟨rfl, below_drewN DD _⟩
                · have hdb : decide (q ≥ m) = false := by simp; omega
                  have hK : (q + 1) * u = K := by rw [hk2, if_neg (by omega)]
                  have k0 : 0 ≤ K := by rw [← hK]; exact Int.mul_nonneg (by omega) u3
                  have k1 : K ≤ 253402300799 := by
                    have h5 : (q + 1) * u ≤ m * u := Int.mul_le_mul_of_nonneg_right (by omega) u3
                    have h6 : m * u ≤ 253402300799 := by rw [← hmx]; exact Int.ediv_mul_le _ hune2
                    omega
                  clear hk2 hz hu hd
                  go_enter Tryd.func6, Tryd.ntmps6
                  go_wp2_with (first | (go_at_call 7; (with_reducible refine (span_awake _ tab).mono ?_); rintro e w1 ⟨rfl, g⟩; have DD := g; clear g) | (go_at_call 14; (with_reducible refine (HR.out _).mono ?_); rintro e w2 ⟨rfl, g⟩; have DD := below_step DD g; clear g) | (go_at_call 13; (with_reducible refine (runit_any r _ (by omega) (by omega)).mono ?_); rintro e w3 ⟨rfl, g⟩; rw [hv.out]; have DD := below_step DD g; clear g) | (go_at_call 15; (with_reducible refine (spunit_any r _).mono ?_); rintro e w4 ⟨rfl, g⟩; rw [hv.out]; have DD := below_step DD g; clear g))
                  go_quiet (fail)
                  clear qw qt mw mt rt
                  go_wp2
                  go_ret
                  exact ⟨rfl, below_drewN DD _⟩
  · have hv2 : v = 0 := by
      rw [← hv0]; unfold unitOf
      rw [if_neg (by omega), if_neg (by omega), if_neg (by omega), if_neg (by omega), if_neg (by omega)]
    subst hv2
    clear hv0
    have ev : ((0 : Nat) : Int) = 0 := rfl
    by_cases n0 : n < 0
    · have hK : K = 0 := by rw [← hk]; unfold roundI; rw [if_pos (Or.inl n0)]
      subst hK
      clear hk
      go_enter Tryd.func6, Tryd.ntmps6
      go_wp2_with (first | (go_at_call 7; (with_reducible refine (span_awake _ tab).mono ?_); rintro e w1 ⟨rfl, g⟩; have DD := g; clear g) | (go_at_call 14; (with_reducible refine (HR.out _).mono ?_); rintro e w2 ⟨rfl, g⟩; have DD := below_step DD g; clear g) | (go_at_call 13; (with_reducible refine (runit_any r _ (by omega) (by omega)).mono ?_); rintro e w3 ⟨rfl, g⟩; rw [hv.out]; have DD := below_step DD g; clear g) | (go_at_call 15; (with_reducible refine (spunit_any r _).mono ?_); rintro e w4 ⟨rfl, g⟩; rw [hv.out]; have DD := below_step DD g; clear g))
      go_ret
      exact ⟨rfl, DD⟩
    · by_cases n1 : 253402300799 < n
      · have hK : K = 0 := by rw [← hk]; unfold roundI; rw [if_pos (Or.inr (Or.inl n1))]
        subst hK
        clear hk
        go_enter Tryd.func6, Tryd.ntmps6
        go_wp2_with (first | (go_at_call 7; (with_reducible refine (span_awake _ tab).mono ?_); rintro e w1 ⟨rfl, g⟩; have DD := g; clear g) | (go_at_call 14; (with_reducible refine (HR.out _).mono ?_); rintro e w2 ⟨rfl, g⟩; have DD := below_step DD g; clear g) | (go_at_call 13; (with_reducible refine (runit_any r _ (by omega) (by omega)).mono ?_); rintro e w3 ⟨rfl, g⟩; rw [hv.out]; have DD := below_step DD g; clear g) | (go_at_call 15; (with_reducible refine (spunit_any r _).mono ?_); rintro e w4 ⟨rfl, g⟩; rw [hv.out]; have DD := below_step DD g; clear g))
        go_ret
        exact ⟨rfl, DD⟩
      · by_cases u1 : u < 1
        · have hK : K = 0 := by rw [← hk]; unfold roundI; rw [if_pos (Or.inr (Or.inr u1))]
          subst hK
          clear hk
          go_enter Tryd.func6, Tryd.ntmps6
          go_wp2_with (first | (go_at_call 7; (with_reducible refine (span_awake _ tab).mono ?_); rintro e w1 ⟨rfl, g⟩; have DD := g; clear g) | (go_at_call 14; (with_reducible refine (HR.out _).mono ?_); rintro e w2 ⟨rfl, g⟩; have DD := below_step DD g; clear g) | (go_at_call 13; (with_reducible refine (runit_any r _ (by omega) (by omega)).mono ?_); rintro e w3 ⟨rfl, g⟩; rw [hv.out]; have DD := below_step DD g; clear g) | (go_at_call 15; (with_reducible refine (spunit_any r _).mono ?_); rintro e w4 ⟨rfl, g⟩; rw [hv.out]; have DD := below_step DD g; clear g))
          go_ret
          exact ⟨rfl, DD⟩
        · have hno : ¬ (n < 0 ∨ 253402300799 < n ∨ u < 1) := by omega
          have hk2 : K = if n % u = 0 ∨ 253402300799 < u ∨ 253402300799 / u ≤ n / u then n else (n / u + 1) * u := by rw [← hk]; unfold roundI; rw [if_neg hno]
          have hune : (u == 0) = false := by simp; omega
          have hune2 : ¬ u = 0 := by omega
          have n2 : 0 ≤ n := by omega
          have n3 : n ≤ 253402300799 := by omega
          have u2 : 1 ≤ u := by omega
          have u3 : 0 ≤ u := by omega
          obtain ⟨ρ, hr⟩ : ∃ ρ, n % u = ρ := ⟨_, rfl⟩
          obtain ⟨q, hq⟩ : ∃ q, n / u = q := ⟨_, rfl⟩
          obtain ⟨m, hmx⟩ : ∃ m, (253402300799 : Int) / u = m := ⟨_, rfl⟩
          have q0 : 0 ≤ q := by rw [← hq]; exact Int.ediv_nonneg n2 u3
          have q1 : q ≤ 253402300799 := by rw [← hq]; exact Int.le_trans (Int.ediv_le_self _ n2) n3
          have m0 : 0 ≤ m := by rw [← hmx]; exact Int.ediv_nonneg (by decide) u3
          have m1 : m ≤ 253402300799 := by rw [← hmx]; exact Int.ediv_le_self _ (by decide)
          have rt : n.tmod u = ρ := by rw [Int.tmod_eq_emod_of_nonneg n2]; exact hr
          have qt : n.tdiv u = q := by rw [Int.tdiv_eq_ediv_of_nonneg n2]; exact hq
          have mt : (253402300799 : Int).tdiv u = m := by rw [Int.tdiv_eq_ediv_of_nonneg (by decide)]; exact hmx
          have qw : IntKind.i64.wrap q = q := by rw [IntKind.wrap_i64]; omega
          have mw : IntKind.i64.wrap m = m := by rw [IntKind.wrap_i64]; omega
          rw [hr, hq, hmx] at hk2
          clear hk hno n0 n1 u1
          by_cases hz : ρ = 0
          · have hK : n = K := by rw [hk2, if_pos (Or.inl hz)]
            subst hK
            have hzb : (ρ == 0) = true := by simpa using hz
            clear hk2 hz
            go_enter Tryd.func6, Tryd.ntmps6
            go_wp2_with (first | (go_at_call 7; (with_reducible refine (span_awake _ tab).mono ?_); rintro e w1 ⟨rfl, g⟩; have DD := g; clear g) | (go_at_call 14; (with_reducible refine (HR.out _).mono ?_); rintro e w2 ⟨rfl, g⟩; have DD := below_step DD g; clear g) | (go_at_call 13; (with_reducible refine (runit_any r _ (by omega) (by omega)).mono ?_); rintro e w3 ⟨rfl, g⟩; rw [hv.out]; have DD := below_step DD g; clear g) | (go_at_call 15; (with_reducible refine (spunit_any r _).mono ?_); rintro e w4 ⟨rfl, g⟩; rw [hv.out]; have DD := below_step DD g; clear g))
            go_quiet (fail)
            clear qw qt mw mt rt
            go_wp2
            go_ret
            exact ⟨rfl, below_drewN DD _⟩
          · have hzb : (ρ == 0) = false := by simpa using hz
            by_cases hu : 253402300799 < u
            · have hK : n = K := by rw [hk2, if_pos (Or.inr (Or.inl hu))]
              subst hK
              have hub : decide (u > 253402300799) = true := by simpa using hu
              clear hk2 hz
              go_enter Tryd.func6, Tryd.ntmps6
              go_wp2_with (first | (go_at_call 7; (with_reducible refine (span_awake _ tab).mono ?_); rintro e w1 ⟨rfl, g⟩; have DD := g; clear g) | (go_at_call 14; (with_reducible refine (HR.out _).mono ?_); rintro e w2 ⟨rfl, g⟩; have DD := below_step DD g; clear g) | (go_at_call 13; (with_reducible refine (runit_any r _ (by omega) (by omega)).mono ?_); rintro e w3 ⟨rfl, g⟩; rw [hv.out]; have DD := below_step DD g; clear g) | (go_at_call 15; (with_reducible refine (spunit_any r _).mono ?_); rintro e w4 ⟨rfl, g⟩; rw [hv.out]; have DD := below_step DD g; clear g))
              go_quiet (fail)
              clear qw qt mw mt rt
              go_wp2
              go_ret
              exact ⟨rfl, below_drewN DD _⟩
            · have hub : decide (u > 253402300799) = false := by simp; omega
              by_cases hd : m ≤ q
              · have hK : n = K := by rw [hk2, if_pos (Or.inr (Or.inr hd))]
                subst hK
                have hdb : decide (q ≥ m) = true := by simpa using hd
                clear hk2 hz hu
                go_enter Tryd.func6, Tryd.ntmps6
                go_wp2_with (first | (go_at_call 7; (with_reducible refine (span_awake _ tab).mono ?_); rintro e w1 ⟨rfl, g⟩; have DD := g; clear g) | (go_at_call 14; (with_reducible refine (HR.out _).mono ?_); rintro e w2 ⟨rfl, g⟩; have DD := below_step DD g; clear g) | (go_at_call 13; (with_reducible refine (runit_any r _ (by omega) (by omega)).mono ?_); rintro e w3 ⟨rfl, g⟩; rw [hv.out]; have DD := below_step DD g; clear g) | (go_at_call 15; (with_reducible refine (spunit_any r _).mono ?_); rintro e w4 ⟨rfl, g⟩; rw [hv.out]; have DD := below_step DD g; clear g))
                go_quiet (fail)
                clear qw qt mw mt rt
                go_wp2
                go_ret
                exact ⟨rfl, below_drewN DD _⟩
              · have hdb : decide (q ≥ m) = false := by simp; omega
                have hK : (q + 1) * u = K := by rw [hk2, if_neg (by omega)]
                have k0 : 0 ≤ K := by rw [← hK]; exact Int.mul_nonneg (by omega) u3
                have k1 : K ≤ 253402300799 := by
                  have h5 : (q + 1) * u ≤ m * u := Int.mul_le_mul_of_nonneg_right (by omega) u3
                  have h6 : m * u ≤ 253402300799 := by rw [← hmx]; exact Int.ediv_mul_le _ hune2
                  omega
                clear hk2 hz hu hd
                go_enter Tryd.func6, Tryd.ntmps6
                go_wp2_with (first | (go_at_call 7; (with_reducible refine (span_awake _ tab).mono ?_); rintro e w1 ⟨rfl, g⟩; have DD := g; clear g) | (go_at_call 14; (with_reducible refine (HR.out _).mono ?_); rintro e w2 ⟨rfl, g⟩; have DD := below_step DD g; clear g) | (go_at_call 13; (with_reducible refine (runit_any r _ (by omega) (by omega)).mono ?_); rintro e w3 ⟨rfl, g⟩; rw [hv.out]; have DD := below_step DD g; clear g) | (go_at_call 15; (with_reducible refine (spunit_any r _).mono ?_); rintro e w4 ⟨rfl, g⟩; rw [hv.out]; have DD := below_step DD g; clear g))
                go_quiet (fail)
                clear qw qt mw mt rt
                go_wp2
                go_ret
                exact ⟨rfl, below_drewN DD _⟩

end Go.Proofs.YtibaelkfchpbpaaDoor
