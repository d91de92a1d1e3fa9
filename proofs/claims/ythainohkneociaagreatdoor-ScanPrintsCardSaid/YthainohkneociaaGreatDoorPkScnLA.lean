/-
  ScanTells, walked.
-/
import Derived.Test.YthainohkneociaaGreatDoorPkScnZ
import Derived.Test.YthainohkneociaaGreatDoorPkScnL
namespace Go.Proofs.YthainohkneociaaGreatDoor
open Go.RowKit

/-- A fault in a variable of its own. -/
structure FaultMade (w : World) (g : Nat) (c x y : Int) (W2 W3 : World) : Prop where
  g0 : w.heap.size = g
  a2 : w.alloc (.cells #[.int .i64 0, .int .i64 0, .int .i64 0] 28) = W2
  s3 : ((W2.setCell ⟨g, 0, none⟩ (.int .i64 c)).setCell ⟨g, 1, none⟩ (.int .i64 x)).setCell ⟨g, 2, none⟩ (.int .i64 y) = W3
  v2 : Var3 W2 g (.int .i64 0) (.int .i64 0) (.int .i64 0)
  v3 : Var3 W3 g (.int .i64 c) (.int .i64 x) (.int .i64 y)
  bel : Below w.heap.size w W3
theorem fault_made (w : World) (c x y : Int) : ∃ g W2 W3, FaultMade w g c x y W2 W3 := by
  obtain ⟨g, hg⟩ : ∃ g, w.heap.size = g := ⟨_, rfl⟩
  obtain ⟨W2, hW2⟩ : ∃ W, w.alloc (.cells #[.int .i64 0, .int .i64 0, .int .i64 0] 28) = W := ⟨_, rfl⟩
  have b2 : Below w.heap.size w W2 := by rw [← hW2]; exact (Below.refl _ _).alloc (Nat.le_refl _) _
  have V2 : Var3 W2 g (.int .i64 0) (.int .i64 0) (.int .i64 0) := by rw [← hW2]; exact Var3.fresh _ _ _ _ _ _ hg.symm
  exact ⟨g, W2, _, hg, hW2, rfl, V2, V2.put _ _ _, below_put3 b2 (by omega) _ _ _⟩

set_option maxRecDepth 100000 in
set_option maxHeartbeats 8000000 in
theorem scntells_walk (s : ByteArray) (w : World) (env : Env w) (_hm : s.size ≤ 9223372036854775807) : Calls Tryz.prog 3 #[.string s] w fun e w' => e = .returned (.bool true) ∧ Below w.heap.size w w' := by
  have HA := Lib.hid (scn_awake w env)
  have HENV := Lib.hid env
  by_cases h1 : 5000 < s.size ∧ s.size ≤ 40000
  · have k1 : (5000 : Int) < (s.size : Int) := by omega
    have k2 : (s.size : Int) ≤ 40000 := by omega
    clear h1 env
    go_enter Tryz.func3, Tryz.ntmps3
    go_wp2_with (go_at_call 5; (with_reducible refine (HA.out).mono ?_); rintro e w1 ⟨rfl, g1⟩; have G1 := Lib.hid g1; clear g1)
    go_ret
    exact ⟨rfl, G1.out⟩
  · obtain ⟨p, hpl, hP, hp1, hp2⟩ := both_toks s (by omega)
    have hR : ∀ W, Calls Tryz.prog 7 #[.string s] W (GivesRF (runesOf (nums s)) p W) := fun W => by
      by_cases h2 : s.size ≤ 40000
      · rw [hp1 h2]
        exact (stokens_any s W h2).mono (fun e w' h => h.out)
      · rw [hp2 (by omega)]
        refine (stokens_long s W (by omega)).mono ?_
        rintro e w' ⟨rfl, hb⟩
        exact ⟨.slice none 0 0, rfl, RowK.nil _ _ _ _, hb⟩
    obtain ⟨L, c, x, y⟩ := p
    obtain ⟨l, hl⟩ : ∃ l, runesOf (nums s) = l := ⟨_, rfl⟩
    rw [hl] at hP hR
    have HP : Hid (∀ W, Env W → Calls Tryz.prog 6 #[.string s] W (fun e w' => ∃ v, e = .returned (.tuple #[v, .agg #[.int .i64 c, .int .i64 x, .int .i64 y]]) ∧ RowK 35 5 w' W.heap.size v (toksV l L) ∧ Below W.heap.size W w')) := Lib.hid hP
    have HR : Hid (∀ W, Calls Tryz.prog 7 #[.string s] W (fun e w' => ∃ v, e = .returned (.tuple #[v, .agg #[.int .i64 c, .int .i64 x, .int .i64 y]]) ∧ RowK 35 5 w' W.heap.size v (toksV l L) ∧ Below W.heap.size W w')) := Lib.hid hR
    have HL : Hid (L.length ≤ 1000000) := Lib.hid hpl
    have hk : (¬ (5000 : Int) < (s.size : Int)) ∨ ((5000 : Int) < (s.size : Int) ∧ ¬ (s.size : Int) ≤ 40000) := by omega
    clear h1 hP hR hp1 hp2 hpl env hl
    rcases hk with hk | ⟨hk, hk2⟩
    · go_enter Tryz.func3, Tryz.ntmps3
      go_wp2_with (first
        | (go_at_call 5; (with_reducible refine (HA.out).mono ?_); rintro e w1 ⟨rfl, g1⟩; have G1 := Lib.hid g1; clear g1)
        | (go_at_call 6; (with_reducible refine (HP.out _ (HENV.out.step G1.out)).mono ?_); rintro e w2 ⟨v2, rfl, r2, g2⟩; have G2 := Lib.hid (below_step G1.out g2); obtain ⟨f2, U2, U3, fm2⟩ := fault_made w2 c x y; have hf2 := fm2.g0; have ha2 := fm2.a2; have hs2 := fm2.s3; have c0 := fm2.v2.c0; have c1 := fm2.v2.c1; have c2 := fm2.v2.c2; have q0 := fm2.v2.q0; have q1 := fm2.v2.q1; have q2 := fm2.v2.q2; have V3 := Lib.hid fm2.v3; have G3 := Lib.hid (below_step G2.out fm2.bel); have R3 := Lib.hid (r2.below fm2.bel); clear r2 g2 fm2)
        | (go_at_call 7; (with_reducible refine (HR.out _).mono ?_); rintro e w4 ⟨v4, rfl, r4, g4⟩; have G4 := Lib.hid (below_step G3.out g4); clear hf2 ha2 hs2 c0 c1 c2 q0 q1 q2; obtain ⟨f4, U5, U6, fm4⟩ := fault_made w4 c x y; have hf4 := fm4.g0; have ha4 := fm4.a2; have hs4 := fm4.s3; have d0 := fm4.v2.c0; have d1 := fm4.v2.c1; have d2 := fm4.v2.c2; have p0 := fm4.v2.q0; have p1 := fm4.v2.q1; have p2 := fm4.v2.q2; have V4 := Lib.hid (V3.out.after (below_step g4 fm4.bel)); have V5 := Lib.hid fm4.v3; have G6 := Lib.hid (below_step G4.out fm4.bel); have R5 := Lib.hid (R3.out.below (below_step g4 fm4.bel)); have R6 := Lib.hid (r4.below fm4.bel); clear r4 g4 fm4)
        | (go_at_call 8; (with_reducible refine (ssame_yes _ _ l L _ _ _ R5.out R6.out HL.out).mono ?_); rintro e w7 ⟨rfl, g7⟩; have G7 := Lib.hid (below_step G6.out g7); have V7 := V4.out.after g7; have V8 := V5.out.after g7; obtain ⟨k0, k1, k2, _, _, _, _⟩ := V7; obtain ⟨m0, m1, m2, _, _, _, _⟩ := V8; clear hf4 ha4 hs4 d0 d1 d2 p0 p1 p2 g7))
      go_ret
      exact ⟨rfl, G7.out⟩
    · go_enter Tryz.func3, Tryz.ntmps3
      go_wp2_with (first
        | (go_at_call 5; (with_reducible refine (HA.out).mono ?_); rintro e w1 ⟨rfl, g1⟩; have G1 := Lib.hid g1; clear g1)
        | (go_at_call 6; (with_reducible refine (HP.out _ (HENV.out.step G1.out)).mono ?_); rintro e w2 ⟨v2, rfl, r2, g2⟩; have G2 := Lib.hid (below_step G1.out g2); obtain ⟨f2, U2, U3, fm2⟩ := fault_made w2 c x y; have hf2 := fm2.g0; have ha2 := fm2.a2; have hs2 := fm2.s3; have c0 := fm2.v2.c0; have c1 := fm2.v2.c1; have c2 := fm2.v2.c2; have q0 := fm2.v2.q0; have q1 := fm2.v2.q1; have q2 := fm2.v2.q2; have V3 := Lib.hid fm2.v3; have G3 := Lib.hid (below_step G2.out fm2.bel); have R3 := Lib.hid (r2.below fm2.bel); clear r2 g2 fm2)
        | (go_at_call 7; (with_reducible refine (HR.out _).mono ?_); rintro e w4 ⟨v4, rfl, r4, g4⟩; have G4 := Lib.hid (below_step G3.out g4); clear hf2 ha2 hs2 c0 c1 c2 q0 q1 q2; obtain ⟨f4, U5, U6, fm4⟩ := fault_made w4 c x y; have hf4 := fm4.g0; have ha4 := fm4.a2; have hs4 := fm4.s3; have d0 := fm4.v2.c0; have d1 := fm4.v2.c1; have d2 := fm4.v2.c2; have p0 := fm4.v2.q0; have p1 := fm4.v2.q1; have p2 := fm4.v2.q2; have V4 := Lib.hid (V3.out.after (below_step g4 fm4.bel)); have V5 := Lib.hid fm4.v3; have G6 := Lib.hid (below_step G4.out fm4.bel); have R5 := Lib.hid (R3.out.below (below_step g4 fm4.bel)); have R6 := Lib.hid (r4.below fm4.bel); clear r4 g4 fm4)
        | (go_at_call 8; (with_reducible refine (ssame_yes _ _ l L _ _ _ R5.out R6.out HL.out).mono ?_); rintro e w7 ⟨rfl, g7⟩; have G7 := Lib.hid (below_step G6.out g7); have V7 := V4.out.after g7; have V8 := V5.out.after g7; obtain ⟨k0, k1, k2, _, _, _, _⟩ := V7; obtain ⟨m0, m1, m2, _, _, _, _⟩ := V8; clear hf4 ha4 hs4 d0 d1 d2 p0 p1 p2 g7))
      go_ret
      exact ⟨rfl, G7.out⟩

end Go.Proofs.YthainohkneociaaGreatDoor
