/-
  The document's own Read of shares, in its outcomes; and the chapter's examples.
-/
import Derived.Test.YtfdpiiahclglcaaDoorPpmT
import Derived.Test.YtfdpiiahclglcaaDoorPpmR
namespace Go.Proofs.YtfdpiiahclglcaaDoor
open Go.RowKit

theorem halves_ex (ys : List Int) : ∃ A B d, Halves ys A B d := by
  induction ys with
  | nil => exact ⟨[], [], false, ⟨rfl, by simp, fun _ => rfl⟩⟩
  | cons x l ih =>
    by_cases h : x = 46
    · subst h
      exact ⟨[], l, true, ⟨rfl, by simp, fun e => by cases e⟩⟩
    · obtain ⟨A, B, d, h1, h2, h3⟩ := ih
      refine ⟨x :: A, B, d, ⟨by rw [h1]; rfl, fun hc => ?_, h3⟩⟩
      rcases List.mem_cons.mp hc with e | e
      · exact h e.symm
      · exact h2 e
theorem rread_cases (s : ByteArray) (hm : s.size ≤ 9223372036854775807) : Outcome (fun N c => ∀ w, Calls Tryd.prog 9 #[.string s] w (GivesPC N c w)) s := by
  by_cases he : ∃ ys, nums s = ys ++ [37]
  · obtain ⟨ys, hy⟩ := he
    obtain ⟨A, B, d, hH⟩ := halves_ex ys
    have hE : Ends s ys A B d := ⟨hy, hH⟩
    refine Or.inr ⟨ys, A, B, d, hE, ?_⟩
    have hr := fun w => rread_all s A B d w hm hE.lets
    by_cases hW : Written A B d
    · refine Or.inr ?_
      by_cases hp : 1000000 < parts A B
      · refine Or.inl ⟨hW, hp, fun w => (hr w).mono ?_⟩
        rintro e w' ⟨N, c, x, rfl, rfl, h, rfl⟩
        rcases h with ⟨h, _⟩ | ⟨_, _, rfl, rfl⟩ | ⟨_, h, _⟩
        · exact (h hW).elim
        · exact ⟨0, rfl, by decide, by decide, rfl, Below.refl _ _⟩
        · omega
      · refine Or.inr ⟨hW, by omega, fun w => (hr w).mono ?_⟩
        rintro e w' ⟨N, c, x, rfl, rfl, h, rfl⟩
        rcases h with ⟨h, _⟩ | ⟨_, h, _⟩ | ⟨_, h, rfl, rfl⟩
        · exact (h hW).elim
        · omega
        · exact ⟨_, rfl, by omega, by omega, by omega, Below.refl _ _⟩
    · refine Or.inl ⟨hW, fun w => (hr w).mono ?_⟩
      rintro e w' ⟨N, c, x, rfl, rfl, h, rfl⟩
      rcases h with ⟨_, rfl, rfl⟩ | ⟨h, _⟩ | ⟨h, _⟩
      · exact ⟨0, rfl, by decide, by decide, rfl, Below.refl _ _⟩
      · exact (hW h).elim
      · exact (hW h).elim
  · exact Or.inl ⟨he, fun w => rread_noend s w hm he⟩

theorem pct_len (p : Nat) (h : p ≤ 1000000) : (pct p).length ≤ 60 := by
  rw [pct_pre]
  have h1 := preOf_len p h
  have h2 := fr_len 4 (p % 10000)
  simp only [List.length_append, List.length_singleton]; omega
theorem awake_one : strOfNums (pct 999000) = ⟨#[57, 57, 46, 57, 37]⟩ := by
  simp [pct, dec, tailOf, fr, strOfNums]
theorem awake_two : strOfNums (pct 12345) = ⟨#[49, 46, 50, 51, 52, 53, 37]⟩ := by
  simp [pct, dec, tailOf, fr, strOfNums]
theorem ppm_print_one (w : World) : Calls Tryd.prog 7 #[.int .u32 999000] w fun e w' => e = .returned (.string ⟨#[57, 57, 46, 57, 37]⟩) ∧ Below w.heap.size w w' := by
  have h := pprint_any 999000 w (by decide) (by decide)
  rw [show (999000 : Int).toNat = 999000 from rfl, awake_one] at h
  exact h
theorem ppm_print_two (w : World) : Calls Tryd.prog 7 #[.int .u32 12345] w fun e w' => e = .returned (.string ⟨#[49, 46, 50, 51, 52, 53, 37]⟩) ∧ Below w.heap.size w w' := by
  have h := pprint_any 12345 w (by decide) (by decide)
  rw [show (12345 : Int).toNat = 12345 from rfl, awake_two] at h
  exact h
theorem ppm_awake (w : World) : Calls Tryd.prog 6 #[] w fun e w' => e = .returned (.bool true) ∧ Below w.heap.size w w' := by
  go_enter Tryd.func6, Tryd.ntmps6
  go_wp2_with (first | (go_at_call 7; (with_reducible refine (ppm_print_one _).mono ?_); rintro e w1 ⟨rfl, g1⟩) | (go_at_call 7; (with_reducible refine (ppm_print_two _).mono ?_); rintro e w2 ⟨rfl, g2⟩))
  go_ret
  exact ⟨rfl, below_step g1 g2⟩

end Go.Proofs.YtfdpiiahclglcaaDoor
