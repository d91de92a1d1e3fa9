/-
  The document's Parse, of any source; TreeParses, walked.
-/
import Derived.Test.YthfmllgflnideaaGreatDoorPkTreZB
import Derived.Test.YthfmllgflnideaaGreatDoorPkTrev
import Derived.Test.YthfmllgflnideaaGreatDoorPkTrej
import Derived.Test.YthfmllgflnideaaGreatDoorPkTrel
import Derived.Test.YthfmllgflnideaaGreatDoorPkScnJ
namespace Go.Proofs.YthfmllgflnideaaGreatDoor
open Go.RowKit

/-- THE DOCUMENT'S PARSE, of any source. -/
theorem sparse_any (s : ByteArray) (w : World) : Calls Tryz.prog 7 #[.string s] w (GivesTre (treR s) w) := by
  by_cases h : s.size ≤ 40000
  · have e : treR s = treF (runesOf (nums s)) := if_pos h
    have hr : (runesOf (nums s)).length ≤ s.size := by have := runes_le (nums s); rw [nums_length] at this; exact this
    rw [e]
    obtain ⟨l, hl⟩ : ∃ l, runesOf (nums s) = l := ⟨_, rfl⟩
    have hp : ∀ W, Calls Tryz.prog 9 #[.string s] W (GivesToks l W) := fun W => by rw [← hl]; exact stokens_any s W h
    rw [hl] at hr ⊢
    cases ht : tokF l 0 with
    | error x =>
      obtain ⟨k, c⟩ := x
      rw [treF_bad ht]
      refine (sparse_bad s w c (spotAt l k).1 (spotAt l k).2 (tokF_err l.length 0 k c (by omega) ht) (fun W => (hp W).mono ?_)).mono ?_
      · rintro e w' ⟨hb, h | h⟩
        · obtain ⟨k2, c2, h2, rfl⟩ := h
          rw [ht] at h2
          injection h2 with h2
          injection h2 with h3 h4
          subst h3 h4
          exact ⟨rfl, hb⟩
        · obtain ⟨L, v, h2, _⟩ := h
          rw [ht] at h2; cases h2
      · rintro e w' ⟨rfl, hb⟩
        exact ⟨hb, Or.inl ⟨_, _, _, rfl, rfl⟩⟩
    | ok L =>
      rw [treF_fine ht]
      have hf := tokF_few l.length 0 L (by omega) ht
      refine sparse_toks s w _ (by rw [List.length_append, List.length_map, List.length_singleton]; omega) (fun W => (hp W).mono ?_)
      rintro e w' ⟨hb, h | h⟩
      · obtain ⟨k2, c2, h2, _⟩ := h
        rw [ht] at h2; cases h2
      · obtain ⟨L2, v, h2, rfl, hr⟩ := h
        rw [ht] at h2
        injection h2 with h2
        subst h2
        rw [toksV_end] at hr
        exact ⟨v, rfl, hr, hb⟩
  · have e : treR s = .error (9, 1, 1) := if_neg h
    rw [e]
    refine (sparse_bad s w 9 1 1 (by decide) (fun W => (stokens_long s W (by omega)))).mono ?_
    rintro e w' ⟨rfl, hb⟩
    exact ⟨hb, Or.inl ⟨_, _, _, rfl, rfl⟩⟩

/-- What a Parse gives, in one word. -/
def GivesPar (L : List It) (c x y : Int) (W : World) (e : Ending) (w' : World) : Prop :=
  ∃ a k, e = .returned (.tuple #[.slice a L.length k, .agg #[.int .i64 c, .int .i64 x, .int .i64 y]]) ∧ ItemsIs 5 w' (fun b => W.heap.size ≤ b ∧ b < w'.heap.size) (.slice a L.length k) L ∧ Below W.heap.size W w'
theorem gives_par {s : ByteArray} {W w' : World} {e : Ending} {L : List It} {c x y : Int} (hr : (treR s = .error (c, x, y) ∧ L = []) ∨ (treR s = .ok L ∧ c = 0 ∧ x = 0 ∧ y = 0)) (h : GivesTre (treR s) W e w') : GivesPar L c x y W e w' := by
  obtain ⟨hb, h | h⟩ := h
  · obtain ⟨c2, a, b, h, rfl⟩ := h
    rcases hr with ⟨e1, rfl⟩ | ⟨e1, _⟩
    · rw [e1] at h
      injection h with h
      injection h with h1 h2
      injection h2 with h2 h3
      subst h1 h2 h3
      exact ⟨none, 0, rfl, ItemsIs.none' _ _ _ _ _, hb⟩
    · rw [e1] at h; cases h
  · obtain ⟨L2, v, h, rfl, hi⟩ := h
    rcases hr with ⟨e1, _⟩ | ⟨e1, rfl, rfl, rfl⟩
    · rw [e1] at h; cases h
    · rw [e1] at h
      injection h with h
      subst h
      obtain ⟨a, k, rfl⟩ := hi.size
      exact ⟨a, k, rfl, hi, hb⟩

set_option maxRecDepth 100000 in
set_option maxHeartbeats 8000000 in
theorem treparses_mid (s : ByteArray) (w : World) (env : Env w) (h1 : 5000 < s.size) (h2 : s.size ≤ 40000) : Calls Tryz.prog 3 #[.string s] w fun e w' => e = .returned (.bool true) ∧ Below w.heap.size w w' := by
  have HA := Lib.hid (tre_awake w env)
  have k1 : (5000 : Int) < (s.size : Int) := by omega
  have k2 : (s.size : Int) ≤ 40000 := by omega
  clear h1 h2 env
  go_enter Tryz.func3, Tryz.ntmps3
  go_wp2_with (go_at_call 5; (with_reducible refine (HA.out).mono ?_); rintro e w1 ⟨rfl, g1⟩; have G1 := Lib.hid g1; clear g1)
  go_ret
  exact ⟨rfl, G1.out⟩

set_option maxRecDepth 100000 in
set_option maxHeartbeats 16000000 in
theorem treparses_short (s : ByteArray) (w : World) (env : Env w) (hz : s.size ≤ 5000) (L : List It) (c x y : Int) (hr : (treR s = .error (c, x, y) ∧ L = []) ∨ (treR s = .ok L ∧ c = 0 ∧ x = 0 ∧ y = 0)) (hc : cntL L ≤ 1000000000) (hw : FewW L) : Calls Tryz.prog 3 #[.string s] w fun e w' => e = .returned (.bool true) ∧ Below w.heap.size w w' := by
  have HA := Lib.hid (tre_awake w env)
  have k1 : ¬ (5000 : Int) < (s.size : Int) := by omega
  have HP1 : Hid (∀ W, Below w.heap.size w W → Calls Tryz.prog 6 #[.string s] W (GivesPar L c x y W)) := Lib.hid (fun W hW => (parse_any s W (env.step hW)).mono (fun e w' h => gives_par hr h))
  have HP2 : Hid (∀ W, Calls Tryz.prog 7 #[.string s] W (GivesPar L c x y W)) := Lib.hid (fun W => (sparse_any s W).mono (fun e w' h => gives_par hr h))
  have HSM : Hid (∀ (S T : Nat → Prop) (v1 v2 : Value) (W : World), ItemsIs 5 W S v1 L → ItemsIs 5 W T v2 L → Calls Tryz.prog 8 #[v1, v2] W fun e w' => e = .returned (.bool true) ∧ ∃ m, w' = W.drewN m) := Lib.hid (fun S T v1 v2 W h1 h2 => stree_same 5 S T v1 v2 L W h1 h2 hc hw.all)
  obtain ⟨N, hN⟩ : ∃ N, L.length = N := ⟨_, rfl⟩
  have HN := Lib.hid hN
  clear hz env hr hc hw hN
  go_enter Tryz.func3, Tryz.ntmps3
  go_wp2_with (first
    | (go_at_call 5; (with_reducible refine (HA.out).mono ?_); rintro e w1 ⟨rfl, g1⟩; have G1 := Lib.hid g1; clear g1)
    | (go_at_call 6; (with_reducible refine (HP1.out _ G1.out).mono ?_); rintro e w2 ⟨a2, c2', rfl, i2, g2⟩; have G2 := Lib.hid (below_step G1.out g2); obtain ⟨f3, U3, Y3, fm3⟩ := fault_var w2 c x y; have hf3 := fm3.g0; have ha3 := fm3.a2; have hs3 := fm3.s3; have k30 := fm3.v2.c0; have q30 := fm3.v2.q0; have d30 := fm3.v3.c0; have k31 := fm3.v2.c1; have q31 := fm3.v2.q1; have d31 := fm3.v3.c1; have k32 := fm3.v2.c2; have q32 := fm3.v2.q2; have d32 := fm3.v3.c2; have G3 := Lib.hid (below_step G2.out fm3.bel); have HV3 := Lib.hid fm3.v3; have HI3 := Lib.hid (ItemsIs.keep (w' := Y3) i2 (fun _ h => h) (fun b hb => fm3.bel.block b hb.2)); have HI3S : Hid (∀ b, (w1.heap.size ≤ b ∧ b < w2.heap.size) → b < Y3.heap.size) := Lib.hid (fun b hb => Nat.lt_of_lt_of_le hb.2 fm3.bel.size); clear i2 g2 fm3)
    | (go_at_call 7; (with_reducible refine (HP2.out _).mono ?_); rintro e w4 ⟨a4, c4', rfl, i4, g4⟩; have G4 := Lib.hid (below_step G3.out g4); clear hf3 ha3 hs3 k30 q30 d30 k31 q31 d31 k32 q32 d32; obtain ⟨f5, U5, Y5, fm5⟩ := fault_var w4 c x y; have hf5 := fm5.g0; have ha5 := fm5.a2; have hs5 := fm5.s3; have k50 := fm5.v2.c0; have q50 := fm5.v2.q0; have d50 := fm5.v3.c0; have k51 := fm5.v2.c1; have q51 := fm5.v2.q1; have d51 := fm5.v3.c1; have k52 := fm5.v2.c2; have q52 := fm5.v2.q2; have d52 := fm5.v3.c2; have G5 := Lib.hid (below_step G4.out fm5.bel); have HV5 := Lib.hid fm5.v3; have HV35 := Lib.hid ((HV3.out.after g4).after fm5.bel); have HI35 := Lib.hid (ItemsIs.keep (w' := Y5) HI3.out (fun _ h => h) (fun b hb => (fm5.bel.block b (Nat.lt_of_lt_of_le (HI3S.out b hb) g4.size)).trans (g4.block b (HI3S.out b hb)))); have HI5 := Lib.hid (ItemsIs.keep (w' := Y5) i4 (fun _ h => h) (fun b hb => fm5.bel.block b hb.2)); clear i4 g4 fm5)
    | (go_at_call 8; (with_reducible refine (HSM.out _ _ _ _ _ HI35.out HI5.out).mono ?_); rintro e w6 ⟨rfl, q, rfl⟩; have b6 := Go.below_drewN (Below.refl Y5.heap.size Y5) q; have v36 := HV35.out.after b6; have v56 := HV5.out.after b6; have n0 := v36.c0; have n1 := v36.c1; have n2 := v36.c2; have m0 := v56.c0; have m1 := v56.c1; have m2 := v56.c2; have G6 := Lib.hid (below_step G5.out b6); clear hf5 ha5 hs5 k50 q50 d50 k51 q51 d51 k52 q52 d52 b6 v36 v56))
  go_ret
  exact ⟨rfl, G6.out⟩

set_option maxRecDepth 100000 in
set_option maxHeartbeats 16000000 in
theorem treparses_huge (s : ByteArray) (w : World) (env : Env w) (hz : 40000 < s.size) (L : List It) (c x y : Int) (hr : (treR s = .error (c, x, y) ∧ L = []) ∨ (treR s = .ok L ∧ c = 0 ∧ x = 0 ∧ y = 0)) (hc : cntL L ≤ 1000000000) (hw : FewW L) : Calls Tryz.prog 3 #[.string s] w fun e w' => e = .returned (.bool true) ∧ Below w.heap.size w w' := by
  have HA := Lib.hid (tre_awake w env)
  have k1 : (5000 : Int) < (s.size : Int) := by omega
  have k2 : ¬ (s.size : Int) ≤ 40000 := by omega
  have HP1 : Hid (∀ W, Below w.heap.size w W → Calls Tryz.prog 6 #[.string s] W (GivesPar L c x y W)) := Lib.hid (fun W hW => (parse_any s W (env.step hW)).mono (fun e w' h => gives_par hr h))
  have HP2 : Hid (∀ W, Calls Tryz.prog 7 #[.string s] W (GivesPar L c x y W)) := Lib.hid (fun W => (sparse_any s W).mono (fun e w' h => gives_par hr h))
  have HSM : Hid (∀ (S T : Nat → Prop) (v1 v2 : Value) (W : World), ItemsIs 5 W S v1 L → ItemsIs 5 W T v2 L → Calls Tryz.prog 8 #[v1, v2] W fun e w' => e = .returned (.bool true) ∧ ∃ m, w' = W.drewN m) := Lib.hid (fun S T v1 v2 W h1 h2 => stree_same 5 S T v1 v2 L W h1 h2 hc hw.all)
  obtain ⟨N, hN⟩ : ∃ N, L.length = N := ⟨_, rfl⟩
  have HN := Lib.hid hN
  clear hz env hr hc hw hN
  go_enter Tryz.func3, Tryz.ntmps3
  go_wp2_with (first
    | (go_at_call 5; (with_reducible refine (HA.out).mono ?_); rintro e w1 ⟨rfl, g1⟩; have G1 := Lib.hid g1; clear g1)
    | (go_at_call 6; (with_reducible refine (HP1.out _ G1.out).mono ?_); rintro e w2 ⟨a2, c2', rfl, i2, g2⟩; have G2 := Lib.hid (below_step G1.out g2); obtain ⟨f3, U3, Y3, fm3⟩ := fault_var w2 c x y; have hf3 := fm3.g0; have ha3 := fm3.a2; have hs3 := fm3.s3; have k30 := fm3.v2.c0; have q30 := fm3.v2.q0; have d30 := fm3.v3.c0; have k31 := fm3.v2.c1; have q31 := fm3.v2.q1; have d31 := fm3.v3.c1; have k32 := fm3.v2.c2; have q32 := fm3.v2.q2; have d32 := fm3.v3.c2; have G3 := Lib.hid (below_step G2.out fm3.bel); have HV3 := Lib.hid fm3.v3; have HI3 := Lib.hid (ItemsIs.keep (w' := Y3) i2 (fun _ h => h) (fun b hb => fm3.bel.block b hb.2)); have HI3S : Hid (∀ b, (w1.heap.size ≤ b ∧ b < w2.heap.size) → b < Y3.heap.size) := Lib.hid (fun b hb => Nat.lt_of_lt_of_le hb.2 fm3.bel.size); clear i2 g2 fm3)
    | (go_at_call 7; (with_reducible refine (HP2.out _).mono ?_); rintro e w4 ⟨a4, c4', rfl, i4, g4⟩; have G4 := Lib.hid (below_step G3.out g4); clear hf3 ha3 hs3 k30 q30 d30 k31 q31 d31 k32 q32 d32; obtain ⟨f5, U5, Y5, fm5⟩ := fault_var w4 c x y; have hf5 := fm5.g0; have ha5 := fm5.a2; have hs5 := fm5.s3; have k50 := fm5.v2.c0; have q50 := fm5.v2.q0; have d50 := fm5.v3.c0; have k51 := fm5.v2.c1; have q51 := fm5.v2.q1; have d51 := fm5.v3.c1; have k52 := fm5.v2.c2; have q52 := fm5.v2.q2; have d52 := fm5.v3.c2; have G5 := Lib.hid (below_step G4.out fm5.bel); have HV5 := Lib.hid fm5.v3; have HV35 := Lib.hid ((HV3.out.after g4).after fm5.bel); have HI35 := Lib.hid (ItemsIs.keep (w' := Y5) HI3.out (fun _ h => h) (fun b hb => (fm5.bel.block b (Nat.lt_of_lt_of_le (HI3S.out b hb) g4.size)).trans (g4.block b (HI3S.out b hb)))); have HI5 := Lib.hid (ItemsIs.keep (w' := Y5) i4 (fun _ h => h) (fun b hb => fm5.bel.block b hb.2)); clear i4 g4 fm5)
    | (go_at_call 8; (with_reducible refine (HSM.out _ _ _ _ _ HI35.out HI5.out).mono ?_); rintro e w6 ⟨rfl, q, rfl⟩; have b6 := Go.below_drewN (Below.refl Y5.heap.size Y5) q; have v36 := HV35.out.after b6; have v56 := HV5.out.after b6; have n0 := v36.c0; have n1 := v36.c1; have n2 := v36.c2; have m0 := v56.c0; have m1 := v56.c1; have m2 := v56.c2; have G6 := Lib.hid (below_step G5.out b6); clear hf5 ha5 hs5 k50 q50 d50 k51 q51 d51 k52 q52 d52 b6 v36 v56))
  go_ret
  exact ⟨rfl, G6.out⟩

theorem treparses_walk (s : ByteArray) (w : World) (env : Env w) (_hm : s.size ≤ 9223372036854775807) : Calls Tryz.prog 3 #[.string s] w fun e w' => e = .returned (.bool true) ∧ Below w.heap.size w w' := by
  by_cases h5 : s.size ≤ 5000
  · have e1 : treR s = treT s := if_pos (by omega)
    cases hr : treR s with
    | error x =>
      obtain ⟨c, a, b⟩ := x
      exact treparses_short s w env h5 [] c a b (Or.inl ⟨hr, rfl⟩) (by simp [cntL]) (by simp [FewW])
    | ok I =>
      have ht : treT s = .ok I := by rw [← e1]; exact hr
      have hf := tre_few ht
      exact treparses_short s w env h5 I 0 0 0 (Or.inr ⟨hr, rfl, rfl, rfl⟩) (by omega) (treF_fewW ht)
  · by_cases h4 : s.size ≤ 40000
    · exact treparses_mid s w env (by omega) h4
    · exact treparses_huge s w env (by omega) [] 9 1 1 (Or.inl ⟨if_neg h4, rfl⟩) (by simp [cntL]) (by simp [FewW])

end Go.Proofs.YthfmllgflnideaaGreatDoor
