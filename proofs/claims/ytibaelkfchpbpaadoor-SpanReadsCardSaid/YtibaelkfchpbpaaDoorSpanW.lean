/-
  The statements of layer 4, walked: over the contracts of package span's calls.
-/
import Derived.Test.YtibaelkfchpbpaaDoorSpanC
import Derived.Deep.QuietTactic
import Derived.BigQuiet
namespace Go.Proofs.YtibaelkfchpbpaaDoor
open Go.RowKit

theorem ninety_out {x c : Int} (h : SpanOut (nums ⟨#[57, 48, 109]⟩) x c) : 5400 = x ∧ 0 = c := by
  have hT : Tells (nums ⟨#[57, 48, 109]⟩) 5400 := ⟨by simp [nums], 60, by rfl⟩
  have h0 : SpanOut (nums ⟨#[57, 48, 109]⟩) 5400 0 := Or.inr ⟨5400, hT, Or.inr ⟨by decide, rfl, rfl⟩⟩
  exact h0.unique h
theorem ninety_print : spn 5400 = [49, 104, 51, 48, 109] := by
  simp [spn, units, sp, unitOf, dec]
theorem ninety_exact {x c : Int} (h : ExactOut ⟨#[57, 48, 109]⟩ x c) : 0 = x ∧ 5 = c := by
  obtain ⟨y, d, h1, h2⟩ := h
  obtain ⟨rfl, rfl⟩ := ninety_out h1
  rcases h2 with ⟨_, h2, _⟩ | ⟨_, _, rfl, rfl⟩ | ⟨h2, _⟩
  · rw [show (5400 : Int).toNat = 5400 from rfl, ninety_print] at h2
    have := congrArg ByteArray.size h2
    simp [strOfNums] at this
    exact absurd this (by decide)
  · exact ⟨rfl, rfl⟩
  · exact (h2 rfl).elim
theorem awake_span : strOfNums (spn 90061) = ⟨#[49, 100, 49, 104, 49, 109, 49, 115]⟩ := by
  simp [spn, units, sp, unitOf, dec, strOfNums]
theorem span_print_one (w : World) (tab : Tab w) : Calls Tryd.prog 8 #[.int .i64 90061] w fun e w' => e = .returned (.string ⟨#[49, 100, 49, 104, 49, 109, 49, 115]⟩) ∧ Below w.heap.size w w' := by
  have h := spprint_any 90061 w (by decide) (by decide) tab
  rw [show (90061 : Int).toNat = 90061 from rfl, awake_span] at h
  exact h
set_option maxRecDepth 100000 in
theorem span_awake (w : World) (tab : Tab w) : Calls Tryd.prog 7 #[] w fun e w' => e = .returned (.bool true) ∧ Below w.heap.size w w' := by
  go_enter Tryd.func7, Tryd.ntmps7
  go_wp2_with (first
    | (go_at_call 9; (with_reducible refine (spread_any ⟨#[57, 48, 109]⟩ _ (by decide)).mono ?_); rintro e w1 ⟨x, c, rfl, h, g⟩; obtain ⟨rfl, rfl⟩ := ninety_out h; clear h; have DD := g; clear g)
    | (go_at_call 10; (with_reducible refine (spexact_any ⟨#[57, 48, 109]⟩ _ (by decide) (tab.step DD)).mono ?_); rintro e w2 ⟨x, c, rfl, h, g⟩; obtain ⟨rfl, rfl⟩ := ninety_exact h; clear h; have DD := below_step DD g; clear g)
    | (go_at_call 8; (with_reducible refine (span_print_one _ (tab.step DD)).mono ?_); rintro e w3 ⟨rfl, g⟩; have DD := below_step DD g; clear g))
  go_ret
  exact ⟨rfl, DD⟩

theorem spn_len {n : Nat} (h : n ≤ 253402300799) : (strOfNums (spn n)).size ≤ 9223372036854775807 := by
  have hs : ∀ U m, m ≤ 253402300799 → (sp U m).length ≤ 40 * U.length := by
    intro U
    induction U with
    | nil => intro m _; simp [sp]
    | cons c r ih =>
      intro m hm
      simp only [sp]
      split
      · have h1 : (dec (m / unitOf c)).length ≤ 39 := dec_len (by have := Nat.div_le_self m (unitOf c); unfold W128; omega)
        have h2 := ih (m % unitOf c) (by have := Nat.mod_le m (unitOf c); omega)
        simp only [List.length_append, List.length_cons, List.length_nil]; omega
      · have h2 := ih m hm
        simp only [List.length_cons]; omega
  rw [strOfNums_size]
  unfold spn
  split
  · simp
  · have := hs units n h
    have e : units.length = 5 := rfl
    omega

set_option maxRecDepth 100000 in
set_option maxHeartbeats 1000000 in
theorem sprints_walk (n : Int) (w : World) (tab : Tab w) : Calls Tryd.prog 3 #[.int .i64 n] w fun e w' => e = .returned (.bool true) ∧ Below w.heap.size w w' := by
  by_cases h : n < 0 ∨ 253402300799 < n
  · have H := Lib.hid h
    by_cases h0 : n < 0
    · clear h
      go_enter Tryd.func3, Tryd.ntmps3
      go_wp2_with (first
        | (go_at_call 7; (with_reducible refine (span_awake _ tab).mono ?_); rintro e w1 ⟨rfl, g⟩; have DD := g; clear g)
        | (go_at_call 8; (with_reducible refine (spprint_none n _ H.out).mono ?_); rintro e w2 ⟨rfl, g⟩; have DD := below_step DD g; clear g)
        | (go_at_call 9; (with_reducible refine (spread_any ⟨#[63]⟩ _ (by decide)).mono ?_); rintro e w3 ⟨x, c, rfl, h, g⟩; obtain ⟨rfl, rfl⟩ := mark_out.unique h; clear h; have DD := below_step DD g; clear g)
        | (go_at_call 10; (with_reducible refine (spexact_any ⟨#[63]⟩ _ (by decide) (tab.step DD)).mono ?_); rintro e w4 ⟨x, c, rfl, h, g⟩; obtain ⟨rfl, rfl⟩ := mark_exact h; clear h; have DD := below_step DD g; clear g)
        | (go_at_call 11; (with_reducible refine (rsprint_none n _ H.out).mono ?_); rintro e w5 ⟨rfl, g⟩; have DD := below_step DD g; clear g))
      go_ret
      exact ⟨rfl, DD⟩
    · have h1 : 253402300799 < n := by omega
      clear h
      go_enter Tryd.func3, Tryd.ntmps3
      go_wp2_with (first
        | (go_at_call 7; (with_reducible refine (span_awake _ tab).mono ?_); rintro e w1 ⟨rfl, g⟩; have DD := g; clear g)
        | (go_at_call 8; (with_reducible refine (spprint_none n _ (by omega)).mono ?_); rintro e w2 ⟨rfl, g⟩; have DD := below_step DD g; clear g)
        | (go_at_call 9; (with_reducible refine (spread_any ⟨#[63]⟩ _ (by decide)).mono ?_); rintro e w3 ⟨x, c, rfl, h, g⟩; obtain ⟨rfl, rfl⟩ := mark_out.unique h; clear h; have DD := below_step DD g; clear g)
        | (go_at_call 10; (with_reducible refine (spexact_any ⟨#[63]⟩ _ (by decide) (tab.step DD)).mono ?_); rintro e w4 ⟨x, c, rfl, h, g⟩; obtain ⟨rfl, rfl⟩ := mark_exact h; clear h; have DD := below_step DD g; clear g)
        | (go_at_call 11; (with_reducible refine (rsprint_none n _ (by omega)).mono ?_); rintro e w5 ⟨rfl, g⟩; have DD := below_step DD g; clear g))
      go_ret
      exact ⟨rfl, DD⟩
  · have h0 : 0 ≤ n := by omega
    have h1 : n ≤ 253402300799 := by omega
    clear h
    obtain ⟨N, rfl⟩ : ∃ N : Nat, n = N := ⟨n.toNat, by omega⟩
    have hN : N ≤ 253402300799 := by omega
    have Q1 := Lib.hid (fun x c (h : SpanOut (nums (strOfNums (spn N))) x c) => (spn_out hN).unique h)
    have Q2 := Lib.hid (fun x c (h : ExactOut (strOfNums (spn N)) x c) => spn_exact hN h)
    have P1 := Lib.hid (fun w tab => spprint_any N w h0 h1 tab)
    have P2 := Lib.hid (fun w => rsprint_any N w h0 h1)
    have hl := spn_len hN
    obtain ⟨T, hT⟩ : ∃ T, strOfNums (spn N) = T := ⟨_, rfl⟩
    simp only [Int.toNat_natCast, hT] at P1 P2
    rw [hT] at Q1 Q2 hl
    replace hl := Lib.hid hl
    clear hT hN
    go_enter Tryd.func3, Tryd.ntmps3
    go_wp2_with (first
      | (go_at_call 7; (with_reducible refine (span_awake _ tab).mono ?_); rintro e w1 ⟨rfl, g⟩; have DD := g; clear g)
      | (go_at_call 8; (with_reducible refine (P1.out _ (tab.step DD)).mono ?_); rintro e w2 ⟨rfl, g⟩; have DD := below_step DD g; clear g)
      | (go_at_call 9; (with_reducible refine (spread_any T _ hl.out).mono ?_); rintro e w3 ⟨x, c, rfl, h, g⟩; obtain ⟨rfl, rfl⟩ := Q1.out _ _ h; clear h; have DD := below_step DD g; clear g)
      | (go_at_call 10; (with_reducible refine (spexact_any T _ hl.out (tab.step DD)).mono ?_); rintro e w4 ⟨x, c, rfl, h, g⟩; obtain ⟨rfl, rfl⟩ := Q2.out _ _ h; clear h; have DD := below_step DD g; clear g)
      | (go_at_call 11; (with_reducible refine (P2.out _).mono ?_); rintro e w5 ⟨rfl, g⟩; have DD := below_step DD g; clear g))
    go_ret
    exact ⟨rfl, DD⟩

set_option maxRecDepth 100000 in
set_option maxHeartbeats 2000000 in
theorem sreads_walk (s : ByteArray) (w : World) (tab : Tab w) (hm : s.size ≤ 9223372036854775807) : Calls Tryd.prog 4 #[.string s] w fun e w' => e = .returned (.bool true) ∧ Below w.heap.size w w' := by
  by_cases hl : 500 < s.size
  · go_enter Tryd.func4, Tryd.ntmps4
    go_wp2_with (go_at_call 7; (with_reducible refine (span_awake _ tab).mono ?_); rintro e w1 ⟨rfl, g⟩; have DD := g; clear g)
    go_ret
    exact ⟨rfl, DD⟩
  · have hl2 : s.size ≤ 500 := by omega
    clear hl
    obtain ⟨y, d, h0⟩ := spanOut_ex (nums s)
    have hu := Lib.hid (fun x c (h : SpanOut (nums s) x c) => h0.unique h)
    have hx := Lib.hid (fun x c (h : ExactOut s x c) => exact_of h0 h)
    rcases h0 with ⟨_, rfl, rfl⟩ | ⟨N, _, ⟨_, rfl, rfl⟩ | ⟨hN, rfl, rfl⟩⟩
    · have he : Hid (∀ x c, ExactOut s x c → 0 = x ∧ 5 = c) := fun x c h => by rcases hx.out x c h with ⟨h, _⟩ | ⟨h, _⟩ | ⟨_, rfl, rfl⟩ <;> first | exact ⟨rfl, rfl⟩ | omega
      clear hx
      go_enter Tryd.func4, Tryd.ntmps4
      go_wp2_with (first
        | (go_at_call 7; (with_reducible refine (span_awake _ tab).mono ?_); rintro e w1 ⟨rfl, g⟩; have DD := g; clear g)
        | (go_at_call 9; (with_reducible refine (spread_any s _ hm).mono ?_); rintro e w2 ⟨x, c, rfl, h, g⟩; obtain ⟨rfl, rfl⟩ := hu.out _ _ h; clear h; have DD := below_step DD g; clear g)
        | (go_at_call 12; (with_reducible refine (rsread_all s _ hm).mono ?_); rintro e w3 ⟨x, c, rfl, h, g⟩; obtain ⟨rfl, rfl⟩ := hu.out _ _ h; clear h; have DD := below_step DD g; clear g)
        | (go_at_call 10; (with_reducible refine (spexact_any s _ hm (tab.step DD)).mono ?_); rintro e w4 ⟨x, c, rfl, h, g⟩; obtain ⟨rfl, rfl⟩ := he.out _ _ h; clear h; have DD := below_step DD g; clear g))
      go_ret
      exact ⟨rfl, DD⟩
    · have he : Hid (∀ x c, ExactOut s x c → 0 = x ∧ 8 = c) := fun x c h => by rcases hx.out x c h with ⟨h, _⟩ | ⟨h, _⟩ | ⟨_, rfl, rfl⟩ <;> first | exact ⟨rfl, rfl⟩ | omega
      clear hx
      go_enter Tryd.func4, Tryd.ntmps4
      go_wp2_with (first
        | (go_at_call 7; (with_reducible refine (span_awake _ tab).mono ?_); rintro e w1 ⟨rfl, g⟩; have DD := g; clear g)
        | (go_at_call 9; (with_reducible refine (spread_any s _ hm).mono ?_); rintro e w2 ⟨x, c, rfl, h, g⟩; obtain ⟨rfl, rfl⟩ := hu.out _ _ h; clear h; have DD := below_step DD g; clear g)
        | (go_at_call 12; (with_reducible refine (rsread_all s _ hm).mono ?_); rintro e w3 ⟨x, c, rfl, h, g⟩; obtain ⟨rfl, rfl⟩ := hu.out _ _ h; clear h; have DD := below_step DD g; clear g)
        | (go_at_call 10; (with_reducible refine (spexact_any s _ hm (tab.step DD)).mono ?_); rintro e w4 ⟨x, c, rfl, h, g⟩; obtain ⟨rfl, rfl⟩ := he.out _ _ h; clear h; have DD := below_step DD g; clear g))
      go_ret
      exact ⟨rfl, DD⟩
    · have hNi : (N : Int) ≤ 253402300799 := by omega
      obtain ⟨T, hT⟩ : ∃ T, strOfNums (spn N) = T := ⟨_, rfl⟩
      have P1 := Lib.hid (fun w => rsprint_any N w (by omega) hNi)
      simp only [Int.toNat_natCast, hT] at P1
      by_cases hTs : T = s
      · have he : Hid (∀ x c, ExactOut s x c → (N : Int) = x ∧ 0 = c) := fun x c h => by
          rcases hx.out x c h with ⟨_, _, rfl, rfl⟩ | ⟨_, h, _⟩ | ⟨h, _⟩
          · exact ⟨rfl, rfl⟩
          · exact (h (by rw [Int.toNat_natCast, hT, hTs])).elim
          · exact (h rfl).elim
        subst hTs
        clear hx hT hN
        go_enter Tryd.func4, Tryd.ntmps4
        go_wp2_with (first
          | (go_at_call 7; (with_reducible refine (span_awake _ tab).mono ?_); rintro e w1 ⟨rfl, g⟩; have DD := g; clear g)
          | (go_at_call 9; (with_reducible refine (spread_any T _ hm).mono ?_); rintro e w2 ⟨x, c, rfl, h, g⟩; obtain ⟨rfl, rfl⟩ := hu.out _ _ h; clear h; have DD := below_step DD g; clear g)
          | (go_at_call 12; (with_reducible refine (rsread_all T _ hm).mono ?_); rintro e w3 ⟨x, c, rfl, h, g⟩; obtain ⟨rfl, rfl⟩ := hu.out _ _ h; clear h; have DD := below_step DD g; clear g)
          | (go_at_call 10; (with_reducible refine (spexact_any T _ hm (tab.step DD)).mono ?_); rintro e w4 ⟨x, c, rfl, h, g⟩; obtain ⟨rfl, rfl⟩ := he.out _ _ h; clear h; have DD := below_step DD g; clear g)
          | (go_at_call 11; (with_reducible refine (P1.out _).mono ?_); rintro e w5 ⟨rfl, g⟩; have DD := below_step DD g; clear g))
        go_ret
        exact ⟨rfl, DD⟩
      · have he : Hid (∀ x c, ExactOut s x c → 0 = x ∧ 5 = c) := fun x c h => by
          rcases hx.out x c h with ⟨_, h, _⟩ | ⟨_, _, rfl, rfl⟩ | ⟨h, _⟩
          · exact (hTs (by rw [← hT, ← Int.toNat_natCast N]; exact h)).elim
          · exact ⟨rfl, rfl⟩
          · exact (h rfl).elim
        obtain ⟨e1, e2⟩ := str_list hTs
        clear hx hT hN hTs
        go_enter Tryd.func4, Tryd.ntmps4
        go_wp2_with (first
          | (go_at_call 7; (with_reducible refine (span_awake _ tab).mono ?_); rintro e w1 ⟨rfl, g⟩; have DD := g; clear g)
          | (go_at_call 9; (with_reducible refine (spread_any s _ hm).mono ?_); rintro e w2 ⟨x, c, rfl, h, g⟩; obtain ⟨rfl, rfl⟩ := hu.out _ _ h; clear h; have DD := below_step DD g; clear g)
          | (go_at_call 12; (with_reducible refine (rsread_all s _ hm).mono ?_); rintro e w3 ⟨x, c, rfl, h, g⟩; obtain ⟨rfl, rfl⟩ := hu.out _ _ h; clear h; have DD := below_step DD g; clear g)
          | (go_at_call 10; (with_reducible refine (spexact_any s _ hm (tab.step DD)).mono ?_); rintro e w4 ⟨x, c, rfl, h, g⟩; obtain ⟨rfl, rfl⟩ := he.out _ _ h; clear h; have DD := below_step DD g; clear g)
          | (go_at_call 11; (with_reducible refine (P1.out _).mono ?_); rintro e w5 ⟨rfl, g⟩; have DD := below_step DD g; clear g))
        go_ret
        exact ⟨rfl, DD⟩

end Go.Proofs.YtibaelkfchpbpaaDoor
