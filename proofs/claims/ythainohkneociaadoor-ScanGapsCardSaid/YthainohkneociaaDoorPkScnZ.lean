/-
  Tokens that are printed, with gaps between: plain; what Tokens gives in one word; the law's own examples, walked.
-/
import Derived.Test.YthainohkneociaaDoorPkScnY
import Derived.Test.YthainohkneociaaDoorPkScnR
namespace Go.Proofs.YthainohkneociaaDoor
open Go.RowKit

theorem drop_len {l : List Int} {i : Nat} {a R : List Int} (h : l.drop i = a ++ R) (ha : 0 < a.length) : i < l.length ∧ l.getD i 0 = a.getD 0 0 ∧ l.drop (i + a.length) = R := by
  have hl := congrArg List.length h
  rw [List.length_drop, List.length_append] at hl
  refine ⟨by omega, ?_, ?_⟩
  · have : l.getD i 0 = (l.drop i).getD 0 0 := by rw [List.getD_eq_getElem?_getD, List.getD_eq_getElem?_getD, List.getElem?_drop]; rfl
    rw [this, h, getD_app R ha]
  · have : l.drop (i + a.length) = (l.drop i).drop a.length := by rw [List.drop_drop]
    rw [this, h]; simp
/-- A printed token, at a place. -/
theorem tokF_reads {l : List Int} {i : Nat} {pr R : List Int} {t : TkV} (h : l.drop i = pr ++ R) (hr : ReadsAs pr t) (hR : EndG R) : tokF l i = (tokF l (i + pr.length)).map (fun L => (t, i) :: L) := by
  obtain ⟨h1, h2, _⟩ := drop_len h hr.some
  have hp : pieceN (l.drop i) = pr.length := by rw [h]; exact hr.piece R hR
  rw [tokF_piece h1 (by rw [h2]; exact hr.gap) (by rw [h2]; exact hr.note), hp, h, List.take_left, hr.tok, if_pos rfl]
theorem tokF_blank {l : List Int} {i : Nat} {z : Int} {R : List Int} (h : l.drop i = z :: R) (hz : gapB z = true) : tokF l i = tokF l (i + 1) := by
  obtain ⟨h1, h2, _⟩ := drop_len (a := [z]) (R := R) h (by simp)
  exact tokF_gap h1 (by rw [h2]; exact hz)
theorem tokF_remark {l : List Int} {i : Nat} {a R : List Int} (h : l.drop i = 35 :: (a ++ 10 :: R)) (ha : ∀ z ∈ a, z ≠ 10) : tokF l i = tokF l (i + (1 + a.length)) := by
  obtain ⟨h1, h2, _⟩ := drop_len (a := [35]) (R := a ++ 10 :: R) h (by decide)
  rw [tokF_note h1 (by rw [h2]; rfl)]
  have : lineEnd l i = i + (1 + a.length) := by
    unfold lineEnd
    have e : (35 :: (a ++ 10 :: R) : List Int) = (35 :: a) ++ 10 :: R := rfl
    rw [h, e, takeWhile_whole (35 :: a) (10 :: R) (fun z hz => by
      rcases List.mem_cons.mp hz with rfl | hz
      · decide
      · simpa using ha z hz) (fun r t e => by injection e with e1 _; subst e1; rfl)]
    simp only [List.length_cons]; omega
  rw [this]
theorem tokF_none {l : List Int} {i : Nat} (h : l.drop i = []) : tokF l i = .ok [] := tokF_end (by
  have := congrArg List.length h
  rw [List.length_drop] at this
  simp at this; omega)
theorem endG_gap {z : Int} {R : List Int} (h : withinB z = false) : EndG (z :: R) := fun r t e => by injection e with e1 _; rw [← e1]; exact h
theorem endG_nil : EndG [] := fun r t e => by cases e
/-- As many tokens as runes at most. -/
theorem tokF_few {l : List Int} : ∀ (n i : Nat) (L : List (TkV × Nat)), l.length - i ≤ n → tokF l i = .ok L → L.length ≤ l.length - i
  | n, i, L, hn, h => by
    by_cases hi : i < l.length
    · match n, hn with
      | 0, hn => omega
      | n + 1, hn =>
        cases hg : gapB (l.getD i 0) with
        | true =>
          rw [tokF_gap hi hg] at h
          have := tokF_few n (i + 1) L (by omega) h
          omega
        | false =>
          by_cases h35 : l.getD i 0 = 35
          · have h1 := lineEnd_one hi (by omega)
            rw [tokF_note hi h35] at h
            have := tokF_few n (lineEnd l i) L (by omega) h
            omega
          · by_cases hc : (oneF l i).2.2 = 0
            · have hnx := oneF_next hi hc
              rw [tokF_one hi hg h35 hc hnx.1] at h
              cases hr : tokF l (oneF l i).2.1 with
              | error x => rw [hr] at h; cases h
              | ok L2 =>
                rw [hr] at h
                have e : L = ((oneF l i).1, i) :: L2 := by injection h with h; exact h.symm
                have := tokF_few n (oneF l i).2.1 L2 (by omega) hr
                rw [e, List.length_cons]
                omega
            · rw [tokF_bad hi hg h35 hc] at h; cases h
    · rw [tokF_end (by omega)] at h
      injection h with h
      rw [← h]; exact Nat.zero_le _

/-- What Tokens gives, in one word: a row, and a fault. -/
noncomputable def outF (l : List Int) : List (TkV × Nat) × Int × Int × Int := match tokF l 0 with
  | .error (k, c) => ([], c, (spotAt l k).1, (spotAt l k).2)
  | .ok L => (L ++ [(tk0, l.length)], 0, 0, 0)
theorem outF_bad {l : List Int} {k : Nat} {c : Int} (h : tokF l 0 = .error (k, c)) : outF l = ([], c, (spotAt l k).1, (spotAt l k).2) := by unfold outF; rw [h]
theorem outF_fine {l : List Int} {L : List (TkV × Nat)} (h : tokF l 0 = .ok L) : outF l = (L ++ [(tk0, l.length)], 0, 0, 0) := by unfold outF; rw [h]
theorem outF_few (l : List Int) : (outF l).1.length ≤ l.length + 1 := by
  cases h : tokF l 0 with
  | error x => obtain ⟨k, c⟩ := x; rw [outF_bad h]; exact Nat.zero_le _
  | ok L =>
    rw [outF_fine h]
    have := tokF_few l.length 0 L (by omega) h
    rw [List.length_append, List.length_singleton]; omega
/-- A row and a fault. -/
def GivesRF (l : List Int) (p : List (TkV × Nat) × Int × Int × Int) (w : World) (e : Ending) (w' : World) : Prop :=
  ∃ v, e = .returned (.tuple #[v, .agg #[.int .i64 p.2.1, .int .i64 p.2.2.1, .int .i64 p.2.2.2]]) ∧ RowK 27 5 w' w.heap.size v (toksV l p.1) ∧ Below w.heap.size w w'
theorem GivesToks.out {l : List Int} {w : World} {e : Ending} {w' : World} (h : GivesToks l w e w') : GivesRF l (outF l) w e w' := by
  obtain ⟨hb, h⟩ := h
  rcases h with ⟨k, c, h, rfl⟩ | ⟨L, v, h, rfl, hr⟩
  · rw [outF_bad h]
    exact ⟨.slice none 0 0, rfl, RowK.nil _ _ _ _, hb⟩
  · rw [outF_fine h]
    exact ⟨v, rfl, hr, hb⟩
/-- Both, of any source of at most 5000 bytes, or of more than there may be. -/
theorem both_toks (s : ByteArray) (hm : s.size ≤ 40000 ∨ 40000 < s.size) : ∃ p : List (TkV × Nat) × Int × Int × Int, p.1.length ≤ 1000000 ∧ (∀ w, Env w → Calls Tryd.prog 10 #[.string s] w (GivesRF (runesOf (nums s)) p w)) ∧ (s.size ≤ 40000 → p = outF (runesOf (nums s))) ∧ (40000 < s.size → p = ([], 9, 1, 1)) := by
  rcases hm with hm | hm
  · refine ⟨outF (runesOf (nums s)), ?_, fun w env => (ptoks_any s w env hm).mono (fun e w' h => h.out), fun _ => rfl, fun h => by omega⟩
    have h1 := outF_few (runesOf (nums s))
    have h2 := runes_le (nums s)
    rw [nums_length] at h2
    omega
  · refine ⟨([], 9, 1, 1), Nat.zero_le _, fun w _ => (ptoks_long s w hm).mono ?_, fun h => by omega, fun _ => rfl⟩
    rintro e w' ⟨rfl, hb⟩
    exact ⟨.slice none 0 0, rfl, RowK.nil _ _ _ _, hb⟩

/-- The chapter's example. -/
def exS : ByteArray := ⟨#[49, 52, 46, 52, 32, 49, 104, 51, 48, 109, 32, 57, 57, 46, 57, 37]⟩
theorem exS_nums : nums exS = [49, 52, 46, 52, 32, 49, 104, 51, 48, 109, 32, 57, 57, 46, 57, 37] := rfl
theorem ex_factor : facP 14400 = [49, 52, 46, 52] := by
  unfold facP
  have e : dec (14400 / 1000) = [49, 52] := by rw [dec_big (by decide), dec_small (by decide)]; rfl
  rw [e]; rfl
theorem ex_span : spn 5400 = [49, 104, 51, 48, 109] := by
  have e1 : dec 1 = [49] := by rw [dec_small (by decide)]; rfl
  have e30 : dec 30 = [51, 48] := by rw [dec_big (by decide), dec_small (by decide)]; rfl
  unfold spn
  rw [if_neg (by decide)]
  simp [units, sp, unitOf, e1, e30]
theorem ex_share : pct 999000 = [57, 57, 46, 57, 37] := by
  have e : dec (999000 / 10000) = [57, 57] := by rw [dec_big (by decide), dec_small (by decide)]; rfl
  unfold pct tailOf
  rw [e, if_neg (by decide)]
  simp [fr]
theorem ex_toks : outF (runesOf (nums exS)) = ([(⟨4, [], 14400⟩, 0), (⟨6, [], 5400⟩, 5), (⟨5, [], 999000⟩, 11), (tk0, 16)], 0, 0, 0) := by
  have hl : runesOf (nums exS) = [49, 52, 46, 52, 32, 49, 104, 51, 48, 109, 32, 57, 57, 46, 57, 37] := by
    rw [exS_nums]
    exact runes_of_ascii (by decide)
  obtain ⟨l, hll⟩ : ∃ l, runesOf (nums exS) = l := ⟨_, rfl⟩
  rw [hll] at hl ⊢
  have r1 := reads_factor (n := 14400) (by decide)
  have r2 := reads_span (n := 5400) (by decide)
  have r3 := reads_share (n := 999000) (by decide)
  rw [ex_factor] at r1
  rw [ex_span] at r2
  rw [ex_share] at r3
  have a1 := tokF_reads (l := l) (i := 0) (R := [32, 49, 104, 51, 48, 109, 32, 57, 57, 46, 57, 37]) (by rw [hl]; rfl) r1 (endG_gap (by decide))
  have a2 := tokF_blank (l := l) (i := 4) (z := 32) (R := [49, 104, 51, 48, 109, 32, 57, 57, 46, 57, 37]) (by rw [hl]; rfl) (by decide)
  have a3 := tokF_reads (l := l) (i := 5) (R := [32, 57, 57, 46, 57, 37]) (by rw [hl]; rfl) r2 (endG_gap (by decide))
  have a4 := tokF_blank (l := l) (i := 10) (z := 32) (R := [57, 57, 46, 57, 37]) (by rw [hl]; rfl) (by decide)
  have a5 := tokF_reads (l := l) (i := 11) (R := []) (by rw [hl]; rfl) r3 endG_nil
  have a6 := tokF_none (l := l) (i := 16) (by rw [hl]; rfl)
  have e1 : tokF l 11 = .ok [(⟨5, [], 999000⟩, 11)] := by rw [a5]; show Except.map _ (tokF l 16) = _; rw [a6]; rfl
  have e2 : tokF l 5 = .ok [(⟨6, [], 5400⟩, 5), (⟨5, [], 999000⟩, 11)] := by rw [a3]; show Except.map _ (tokF l 10) = _; rw [a4, e1]; rfl
  have e3 : tokF l 0 = .ok [(⟨4, [], 14400⟩, 0), (⟨6, [], 5400⟩, 5), (⟨5, [], 999000⟩, 11)] := by rw [a1]; show Except.map _ (tokF l 4) = _; rw [a2, e2]; rfl
  rw [outF_fine e3, hl]; rfl

set_option maxRecDepth 100000 in
set_option maxHeartbeats 8000000 in
theorem scn_awake (w : World) (env : Env w) : Calls Tryd.prog 5 #[] w fun e w' => e = .returned (.bool true) ∧ Below w.heap.size w w' := by
  have HT : Hid (Calls Tryd.prog 10 #[.string ⟨#[49, 52, 46, 52, 32, 49, 104, 51, 48, 109, 32, 57, 57, 46, 57, 37]⟩] w (GivesRF (runesOf (nums exS)) ([(⟨4, [], 14400⟩, 0), (⟨6, [], 5400⟩, 5), (⟨5, [], 999000⟩, 11), (tk0, 16)], 0, 0, 0) w)) := Lib.hid (by
    rw [← ex_toks]
    exact (ptoks_any exS w env (by decide)).mono (fun e w' h => h.out))
  clear env
  go_enter Tryd.func5, Tryd.ntmps5
  go_wp2_with (go_at_call 10; (with_reducible refine (HT.out).mono ?_); rintro e w1 ⟨v, rfl, hr, h1⟩; obtain ⟨g, cap, rfl, hg0, hg1, hgc⟩ := hr.form (by decide); have t0 := hr.at 0 2 (by decide) (by decide); have t1 := hr.at 1 2 (by decide) (by decide); have t2 := hr.at 2 2 (by decide) (by decide); have x0 : w1.cell? ⟨g, 2, none⟩ = some (.int .u64 14400) := t0; have x1 : w1.cell? ⟨g, 7, none⟩ = some (.int .u64 5400) := t1; have x2 : w1.cell? ⟨g, 12, none⟩ = some (.int .u64 999000) := t2; have G1 := Lib.hid h1; clear hr t0 t1 t2 h1 hg0 hgc; obtain ⟨W2, hW2⟩ : ∃ W, w1.alloc (.cells #[.int .i64 0, .int .i64 0, .int .i64 0] 37) = W := ⟨_, rfl⟩; have b2 : Below w1.heap.size w1 W2 := (by rw [← hW2]; exact (Below.refl _ _).alloc (Nat.le_refl _) _); have V2 : Var3 W2 w1.heap.size (.int .i64 0) (.int .i64 0) (.int .i64 0) := (by rw [← hW2]; exact Var3.fresh _ _ _ _ _ _ rfl); obtain ⟨W3, hW3⟩ : ∃ W, put3 W2 w1.heap.size (.int .i64 0) (.int .i64 0) (.int .i64 0) = W := ⟨_, rfl⟩; have hW3' : ((W2.setCell ⟨w1.heap.size, 0, none⟩ (.int .i64 0)).setCell ⟨w1.heap.size, 1, none⟩ (.int .i64 0)).setCell ⟨w1.heap.size, 2, none⟩ (.int .i64 0) = W3 := hW3; have V3 : Var3 W3 w1.heap.size (.int .i64 0) (.int .i64 0) (.int .i64 0) := (by rw [← hW3]; exact V2.put _ _ _); have b3 : Below w1.heap.size w1 W3 := (by rw [← hW3]; exact below_put3 b2 (Nat.le_refl _) _ _ _); have y0 := (b3.cell (p := ⟨g, 2, none⟩) hg1).trans x0; have y1 := (b3.cell (p := ⟨g, 7, none⟩) hg1).trans x1; have y2 := (b3.cell (p := ⟨g, 12, none⟩) hg1).trans x2; have G3 := Lib.hid (below_step G1.out b3); obtain ⟨c0, c1, c2, q0, q1, q2, _⟩ := V2; obtain ⟨d0, d1, d2, r0, r1, r2, _⟩ := V3; clear b2 b3 hW3)
  go_ret
  exact ⟨rfl, G3.out⟩

end Go.Proofs.YthainohkneociaaDoor
