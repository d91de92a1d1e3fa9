/-
  Package ppm, walked: Read, in its three outcomes; and that a print is read.
-/
import Derived.Test.YtfdpiiahclglcaaDoorPpmC
namespace Go.Proofs.YtfdpiiahclglcaaDoor
open Go.RowKit

/-- A text that ends with %, in its halves. -/
structure Ends (s : ByteArray) (ys A B : List Int) (d : Bool) : Prop where
  all : nums s = ys ++ [37]
  halves : Halves ys A B d
theorem Ends.unique {s : ByteArray} {ys A B ys' A' B' : List Int} {d d' : Bool} (h : Ends s ys A B d) (h' : Ends s ys' A' B' d') : ys = ys' ∧ A = A' ∧ B = B' ∧ d = d' := by
  have e : ys = ys' := List.append_cancel_right (h.all.symm.trans h'.all)
  subst e
  exact ⟨rfl, h.halves.unique h'.halves⟩
theorem Ends.of_pct (p : Nat) : ∃ ys A B d, Ends (strOfNums (pct p)) ys A B d ∧ Written A B d ∧ parts A B = p := by
  obtain ⟨ys, A, B, d, h1, h2, h3, h4⟩ := pct_halves p
  exact ⟨ys, A, B, d, ⟨by rw [nums_strOfNums _ (pct_byte p), h1], h2⟩, h3, h4⟩
theorem Ends.back {s : ByteArray} {ys A B : List Int} {d : Bool} (h : Ends s ys A B d) (g : Written A B d) : strOfNums (pct (parts A B)) = s := by
  rw [g.back h.halves, ← h.all, strOfNums_nums]

/-- What exact.Read tells of a text. -/
theorem eread_some (a : ByteArray) (hm : a.size ≤ 9223372036854775807) : ∃ (N : Nat) (c : Int), ∀ w, Calls Tryd.prog 26 #[.string a] w (GivesWC N c w) := by
  by_cases h : Dg (nums a)
  · exact ⟨_, _, fun w => eread_yes a w hm h⟩
  · exact ⟨_, _, fun w => eread_no a w hm h⟩
/-- The outcome of reading a text: what is told, for each kind of text. -/
def Outcome (R : Nat → Int → Prop) (s : ByteArray) : Prop :=
  ((¬ ∃ ys, nums s = ys ++ [37]) ∧ R 0 5) ∨ ∃ ys A B d, Ends s ys A B d ∧ ((¬ Written A B d ∧ R 0 5) ∨ (Written A B d ∧ 1000000 < parts A B ∧ R 0 8) ∨ (Written A B d ∧ parts A B ≤ 1000000 ∧ R (parts A B) 0))

theorem pread_cases (s : ByteArray) (hm : s.size ≤ 9223372036854775807) : Outcome (fun N c => ∀ w, Calls Tryd.prog 8 #[.string s] w (GivesPC N c w)) s := by
  obtain ⟨t, en, h1, h2, h3, hsuf⟩ := csuf_any s hm
  obtain ⟨a, b, d, hH, ha, hb, hcut⟩ := cut_any t (by omega)
  obtain ⟨N, c, hread⟩ := eread_some a (by omega)
  have hbs : b.size ≤ 9223372036854775807 := by omega
  cases en with
  | false => exact Or.inl ⟨h2 rfl, fun w => pread_noend s t a b d w hbs hsuf hcut N c hread⟩
  | true =>
    refine Or.inr ⟨nums t, nums a, nums b, d, ⟨h1 rfl, hH⟩, ?_⟩
    by_cases hf : WhenFr d (nums b)
    · by_cases hd : Dg (nums a)
      · have hW : Written (nums a) (nums b) d := ⟨hd, hf⟩
        refine Or.inr ?_
        have hr := fun w => eread_yes a w (by omega) hd
        have hpv : pv (nums b) 4 ≤ 9999 := by
          cases d with
          | false => rw [hH.nil rfl, pv_nil]; omega
          | true => exact pv_lt (hf rfl).all
        have hp : parts (nums a) (nums b) = numOf (nums a) * 10000 + pv (nums b) 4 := rfl
        by_cases h128 : W128 (numOf (nums a))
        · rw [capN_in h128, capC_in h128] at hr
          by_cases h100 : 100 < numOf (nums a)
          · exact Or.inl ⟨hW, by omega, fun w => pread_hundred s t a b d w hbs hsuf hcut _ hr hf h100⟩
          · by_cases hbig : 1000000 < numOf (nums a) * 10000 + pv (nums b) 4
            · exact Or.inl ⟨hW, by omega, fun w => pread_above s t a b d w hbs hsuf hcut _ hr hf hH.nil (by omega) hbig⟩
            · exact Or.inr ⟨hW, by omega, fun w => pread_fine s t a b d w hbs hsuf hcut _ hr hf hH.nil (by omega) (by omega)⟩
        · rw [capN_out h128, capC_out h128] at hr
          unfold W128 at h128
          exact Or.inl ⟨hW, by omega, fun w => pread_over s t a b d w hbs hsuf hcut _ hr hf⟩
      · exact Or.inl ⟨fun hW => hd hW.dg, fun w => pread_ahead s t a b d w hbs hsuf hcut _ (fun w => eread_no a w (by omega) hd) hf⟩
    · have hdt : d = true := by
        cases d with
        | false => exact (hf (fun e => by cases e)).elim
        | true => rfl
      exact Or.inl ⟨fun hW => hf hW.fr, fun w => pread_unwritten s t a b d w hbs hsuf hcut N c hread hdt (fun f => hf (fun _ => f))⟩

/-- What is printed is read. -/
theorem Outcome.of_pct {R : Nat → Int → Prop} {p : Nat} (h : Outcome R (strOfNums (pct p))) (hp : p ≤ 1000000) : R p 0 := by
  obtain ⟨ys, A, B, d, h1, h2, h3⟩ := Ends.of_pct p
  rcases h with ⟨h, _⟩ | ⟨ys', A', B', d', h1', h⟩
  · exact (h ⟨ys, h1.all⟩).elim
  · obtain ⟨rfl, rfl, rfl, rfl⟩ := h1.unique h1'
    rcases h with ⟨h, _⟩ | ⟨_, h, _⟩ | ⟨_, _, h⟩
    · exact (h h2).elim
    · omega
    · rw [h3] at h; exact h
theorem Outcome.mark {R : Nat → Int → Prop} (h : Outcome R ⟨#[63]⟩) : R 0 5 := by
  have hn : nums ⟨#[63]⟩ = [63] := rfl
  rcases h with ⟨_, h⟩ | ⟨ys, A, B, d, h1, _⟩
  · exact h
  · have := h1.all
    rw [hn] at this
    have e := congrArg List.getLast? this
    simp at e
/-- Two readers of a text tell the same, and a share that is read is printed again. -/
theorem Outcome.same {R Q : Nat → Int → Prop} {s : ByteArray} (h : Outcome R s) (g : Outcome Q s) : ∃ N c, R N c ∧ Q N c ∧ ((c = 0 ∧ strOfNums (pct N) = s ∧ N ≤ 1000000) ∨ (N = 0 ∧ (c == 0) = false)) := by
  rcases h with ⟨h, hr⟩ | ⟨ys, A, B, d, hE, h⟩ <;> rcases g with ⟨g, gr⟩ | ⟨ys', A', B', d', gE, g⟩
  · exact ⟨0, 5, hr, gr, Or.inr ⟨rfl, rfl⟩⟩
  · exact (h ⟨ys', gE.all⟩).elim
  · exact (g ⟨ys, hE.all⟩).elim
  · obtain ⟨rfl, rfl, rfl, rfl⟩ := hE.unique gE
    rcases h with ⟨h, hr⟩ | ⟨h, h2, hr⟩ | ⟨h, h2, hr⟩ <;> rcases g with ⟨g, gr⟩ | ⟨g, g2, gr⟩ | ⟨g, g2, gr⟩
    · exact ⟨0, 5, hr, gr, Or.inr ⟨rfl, rfl⟩⟩
    · exact (h g).elim
    · exact (h g).elim
    · exact (g h).elim
    · exact ⟨0, 8, hr, gr, Or.inr ⟨rfl, rfl⟩⟩
    · omega
    · exact (g h).elim
    · omega
    · exact ⟨_, 0, hr, gr, Or.inl ⟨rfl, hE.back h, h2⟩⟩

end Go.Proofs.YtfdpiiahclglcaaDoor
