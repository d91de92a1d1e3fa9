/-
  The statements of layer 7, walked: over the contracts of package wire's calls: awake, WireNil.
-/
import Derived.Test.YteekpmpfgjpodaaWirC
namespace Go.Proofs.Yteekpmpfgjpodaa
open Go.RowKit

theorem numB_300 : numB 300 = [2, 1, 44] := by
  have h1 : digs 1 = [1] := by rw [digs_pos (by decide), show 1 / 256 = 0 from rfl, digs_zero]; rfl
  have h : digs 300 = [1, 44] := by rw [digs_pos (by decide), show 300 / 256 = 1 from rfl, h1]; rfl
  unfold numB
  rw [h]; rfl
theorem intB_neg1 : intB (-1) = [17, 1] := by
  have h1 : digs 1 = [1] := by rw [digs_pos (by decide), show 1 / 256 = 0 from rfl, digs_zero]; rfl
  unfold intB
  rw [if_neg (by decide), show (- (-1 : Int)).toNat = 1 from rfl, h1]; rfl
/-- A slice of one's own, of so many bytes: what can be read of it. -/
structure Own3 (W : World) (g cap : Nat) (l : List Int) : Prop where
  lt : g < W.heap.size
  at_ : ∀ i, i < l.length → W.cell? ⟨g, i, none⟩ = some (.int .u8 (l.getD i 0))
theorem Own3.of {W : World} {base g cap : Nat} {l : List Int} (h : OwnInts 5 .u8 W base (.slice (some ⟨g, 0, none⟩) l.length cap) l) : Own3 W g cap l :=
  ⟨h.base_le.2, fun i hi => by have := h.ints.at hi; rwa [Nat.zero_add] at this⟩
theorem Own3.below {W W' : World} {g cap : Nat} {l : List Int} (h : Own3 W g cap l) (hb : Below W.heap.size W W') : Own3 W' g cap l :=
  ⟨Nat.lt_of_lt_of_le h.lt hb.size, fun i hi => (hb.cell (p := ⟨g, i, none⟩) h.lt).trans (h.at_ i hi)⟩
theorem wnum_300 (w : World) : Calls Try.prog 10 #[.slice none 0 0, .int .u64 300] w fun e w' => ∃ g cap, e = .returned (.slice (some ⟨g, 0, none⟩) 3 cap) ∧ Own3 w' g cap [2, 1, 44] ∧ Below w.heap.size w w' := by
  refine (wnum_any w.heap.size (.slice none 0 0) [] 300 w (OwnN.nil _ _) (Nat.le_refl _) (by decide) (by decide)).mono ?_
  rintro e w' ⟨v, rfl, hO, g, _⟩
  rw [List.nil_append, numB_300] at hO
  obtain ⟨b, cap, rfl⟩ := hO.form
  exact ⟨b, cap, rfl, Own3.of hO, g⟩
theorem wint_neg1 (w : World) : Calls Try.prog 9 #[.slice none 0 0, .int .i64 (-1)] w fun e w' => ∃ g cap, e = .returned (.slice (some ⟨g, 0, none⟩) 2 cap) ∧ Own3 w' g cap [17, 1] ∧ Below w.heap.size w w' := by
  refine (wint_any w.heap.size (.slice none 0 0) [] (-1) w (OwnN.nil _ _) (Nat.le_refl _) (by decide) (by decide) (by decide)).mono ?_
  rintro e w' ⟨v, rfl, hO, g, _⟩
  rw [List.nil_append, intB_neg1] at hO
  obtain ⟨b, cap, rfl⟩ := hO.form
  exact ⟨b, cap, rfl, Own3.of hO, g⟩

set_option maxRecDepth 100000 in
set_option maxHeartbeats 2000000 in
theorem wir_awake (w : World) : Calls Try.prog 6 #[] w fun e w' => e = .returned (.bool true) ∧ Below w.heap.size w w' := by
  go_enter Try.func6, Try.ntmps6
  go_wp2_with (first
    | (go_at_call 10; (with_reducible refine (wnum_300 _).mono ?_); rintro e w1 ⟨g1, cap1, rfl, hO, g⟩; have KO := Lib.hid hO; have DD := g; clear hO g)
    | (go_at_call 9; (with_reducible refine (wint_neg1 _).mono ?_); rintro e w2 ⟨g2, cap2, rfl, hP, g⟩; have KO := Lib.hid (KO.out.below g); have KP := Lib.hid hP; have DD := below_step DD g; clear hP g; have a0 : w2.cell? ⟨g1, 0, none⟩ = some (.int .u8 2) := KO.out.at_ 0 (by decide); have a1 : w2.cell? ⟨g1, 1, none⟩ = some (.int .u8 1) := KO.out.at_ 1 (by decide); have a2 : w2.cell? ⟨g1, 2, none⟩ = some (.int .u8 44) := KO.out.at_ 2 (by decide); have b0 : w2.cell? ⟨g2, 0, none⟩ = some (.int .u8 17) := KP.out.at_ 0 (by decide); have b1 : w2.cell? ⟨g2, 1, none⟩ = some (.int .u8 1) := KP.out.at_ 1 (by decide)))
  go_ret
  exact ⟨rfl, DD⟩

theorem takeT_nil (kind most : Int) : takeT kind most [] = none := rfl
set_option maxRecDepth 100000 in
set_option maxHeartbeats 4000000 in
theorem wirnil_walk (most : Int) (w : World) (hm : -9223372036854775808 ≤ most ∧ most ≤ 9223372036854775807) : Calls Try.prog 5 #[.int .i64 most] w fun e w' => e = .returned (.bool true) ∧ Below w.heap.size w w' := by
  obtain ⟨m0, m1⟩ := hm
  go_enter Try.func5, Try.ntmps5
  go_wp2_with (first
    | (go_at_call 6; (with_reducible refine (wir_awake _).mono ?_); rintro e w1 ⟨rfl, g⟩; have DD := g; clear g)
    | (go_at_call 21; (with_reducible refine (rdbad_nil _).mono ?_); rintro e w1 ⟨rfl, g⟩; have DD := below_step DD g; clear g)
    | (go_at_call 16; (with_reducible refine (rdnum_nil _).mono ?_); rintro e w1 ⟨rfl, g⟩; have DD := below_step DD g; clear g)
    | (go_at_call 17; (with_reducible refine (rdint_nil _).mono ?_); rintro e w1 ⟨rfl, g⟩; have DD := below_step DD g; clear g)
    | (go_at_call 18; (with_reducible refine (rdtext_nil most _ m0 m1).mono ?_); rintro e w1 ⟨rfl, g⟩; have DD := below_step DD g; clear g)
    | (go_at_call 20; (with_reducible refine (rdflag_nil _).mono ?_); rintro e w1 ⟨rfl, g⟩; have DD := below_step DD g; clear g)
    | (go_at_call 24; (with_reducible refine (rdcount_nil most _ m0 m1).mono ?_); rintro e w1 ⟨rfl, g⟩; have DD := below_step DD g; clear g)
    | (go_at_call 19; (with_reducible refine (rdleft_nil _).mono ?_); rintro e w1 ⟨rfl, g⟩; have DD := below_step DD g; clear g)
    | (go_at_call 22; (with_reducible refine (rdend_nil _).mono ?_); rintro e w1 ⟨rfl, g⟩; have DD := below_step DD g; clear g)
    | (go_at_call 15; (with_reducible refine (wnew_nil _).mono ?_); rintro e w2 ⟨r, hi, rfl, hr, hR, g⟩; have HR := Lib.hid hR; have DE := below_step DD g; have hle := Nat.le_trans DD.size hr; have D0 := DE; clear hR g hr)
    | (go_at_call 21; (with_reducible refine (rdbad_any hi r _ _ HR.out).mono ?_); rintro e w3 ⟨rfl, hR, g⟩; have HR := Lib.hid hR; have DE := DE.trans (g.below hle); clear hR g)
    | (go_at_call 19; (with_reducible refine (rdleft_any hi r _ _ HR.out).mono ?_); rintro e w3 ⟨rfl, hR, g⟩; have HR := Lib.hid hR; have DE := DE.trans (g.below hle); clear hR g)
    | (go_at_call 22; (with_reducible refine (rdend_any hi r _ _ HR.out).mono ?_); rintro e w3 ⟨rfl, hR, g⟩; have HR := Lib.hid hR; have DE := DE.trans (g.below hle); clear hR g)
    | (go_at_call 24; (with_reducible refine (rdcount_any hi r _ most _ HR.out m0 m1).mono ?_); rintro e w3 ⟨rfl, hR, g⟩; have HR := Lib.hid hR; have DE := DE.trans (g.below hle); clear hR g))
  go_ret
  exact ⟨rfl, DE⟩

end Go.Proofs.Yteekpmpfgjpodaa
