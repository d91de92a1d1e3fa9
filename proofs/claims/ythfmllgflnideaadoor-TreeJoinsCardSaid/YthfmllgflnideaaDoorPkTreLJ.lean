/-
  TreeJoins, walked.
-/
import Derived.Test.YthfmllgflnideaaDoorPkTreO
namespace Go.Proofs.YthfmllgflnideaaDoor
open Go.RowKit

/-- A row's elements. -/
theorem RowK.cellsAt {t : TypeId} {sz : Nat} {w : World} {base n cap : Nat} {a : Option Addr} {vs : List (List Value)} (h : RowK t sz w base (.slice a n cap) vs) : n = vs.length ∧ CellsAt sz w a vs := by
  by_cases h0 : vs.length = 0
  · obtain rfl : vs = [] := List.eq_nil_of_length_eq_zero h0
    obtain ⟨a', c', e⟩ := h.size
    simp only [Value.slice.injEq] at e
    exact ⟨e.2.1, h.wid, fun i hi => by cases hi⟩
  · obtain ⟨g, c', e, _⟩ := h.form (by omega)
    simp only [Value.slice.injEq] at e
    obtain ⟨rfl, rfl, rfl⟩ := e
    refine ⟨rfl, h.wid, fun i hi => ⟨g, 0, rfl, fun j hj => ?_⟩⟩
    have := h.at i j hi hj
    rw [Nat.zero_add]
    exact this
/-- Both lists, appended. -/
theorem join_lists {d B : Nat} {w10 w11 w12 : World} {Sx Sy : Nat → Prop} {v v2 v12 : Value} {ps qs : List ItV} (h1 : ListIs d w10 Sx B v ps) (h2 : ListIs d w11 Sy w10.heap.size v2 qs) (s1 : ∀ b, Sx b → B ≤ b ∧ b < w10.heap.size) (s2 : ∀ b, Sy b → w10.heap.size ≤ b ∧ b < w11.heap.size) (hb : Below w10.heap.size w10 w11)
    (hr : RowK 37 6 w12 B v12 (ps.map ItV.cells ++ qs.map ItV.cells)) (ho : OnlyO B (fun i => some i = v.ownBlock) w11 w12) (hv : v12.ownBlock = v.ownBlock ∨ v12.ownBlock = some w11.heap.size) (hB : B ≤ w10.heap.size) : ItemsIs (d + 1) w12 (fun b => B ≤ b ∧ b < w12.heap.size) v12 (ps.map ItV.x ++ qs.map ItV.x) := by
  have z1 := hb.size
  have z2 := ho.size
  have k1 : ∀ b, Sx b → w12.heap[b]? = w10.heap[b]? := fun b h => (ho.keep b (by have := s1 b h; omega) (fun e => h1.out b e.symm h)).trans (hb.block b (s1 b h).2)
  have k2 : ∀ b, Sy b → w12.heap[b]? = w11.heap[b]? := fun b h => ho.keep b (s2 b h).2 (fun e => by have := (h1.row.lt e.symm).2; have := (s2 b h).1; omega)
  have hl : ListIs d w12 (fun b => Sx b ∨ Sy b) B v12 (ps ++ qs) := by
    refine ⟨by rw [List.map_append]; exact hr, fun p hp => ?_, fun p hp => ?_, fun b hb2 => ?_⟩
    · rcases List.mem_append.mp hp with hp | hp
      · exact (h1.ws p hp).keep (fun b h => Or.inl h) k1
      · exact (h2.ws p hp).keep (fun b h => Or.inr h) k2
    · rcases List.mem_append.mp hp with hp | hp
      · exact ItemsIs.keep (h1.ks p hp) (fun b h => Or.inl h) k1
      · exact ItemsIs.keep (h2.ks p hp) (fun b h => Or.inr h) k2
    · rcases hv with e | e
      · rw [e] at hb2
        rintro (h | h)
        · exact h1.out b hb2 h
        · have := (h1.row.lt hb2).2; have := (s2 b h).1; omega
      · rw [e] at hb2
        injection hb2 with hb2
        rintro (h | h)
        · have := (s1 b h).2; omega
        · have := (s2 b h).2; omega
  have := hl.items (S' := fun b => B ≤ b ∧ b < w12.heap.size) (fun b h => by
    rcases h with h | h
    · have := s1 b h; exact ⟨this.1, by omega⟩
    · have := s2 b h; exact ⟨by omega, by omega⟩) (fun b h => hl.row.lt h)
  rw [List.map_append] at this
  exact this
/-- Bare's result, as a list that may grow. -/
theorem bare_list {d : Nat} {L : List It} {w w' : World} {e : Ending} (h : GivesBare (d + 1) L w e w') : ∃ a k ps Sx, e = .returned (.slice a L.length k) ∧ ListIs d w' Sx w.heap.size (.slice a L.length k) ps ∧ ps.map ItV.x = bareL L ∧ ps.length = L.length ∧ (∀ b, Sx b → w.heap.size ≤ b ∧ b < w'.heap.size) ∧ Below w.heap.size w w' := by
  obtain ⟨v, ps, Sx, rfl, hl, hp, hs, hb⟩ := h
  obtain ⟨a, k, hv⟩ := hl.row.size
  have e1 : ps.length = L.length := by rw [← List.length_map (f := ItV.x), hp, bareL_len]
  rw [List.length_map, e1] at hv
  subst hv
  exact ⟨a, k, ps, Sx, rfl, hl, hp, e1, hs, hb⟩
theorem itvs_one {d : Nat} {w : World} {S : Nat → Prop} {base : Nat} {v : Value} {ps : List ItV} (h : ListIs d w S base v ps) : ∀ u ∈ ps.map ItV.cells, ∀ x ∈ u, x.oneCell' = true := fun u hu => by
  obtain ⟨p, hp, rfl⟩ := List.mem_map.mp hu
  exact itv_one (h.ws p hp).one (h.ks p hp).one

set_option maxRecDepth 100000 in
set_option maxHeartbeats 16000000 in
theorem trejoins_longa (a b : ByteArray) (w : World) (env : Env w) (hm : 5000 < a.size) : Calls Tryd.prog 3 #[.string a, .string b] w fun e w' => e = .returned (.bool true) ∧ Below w.heap.size w w' := by
  have HA := Lib.hid (tre_awake w env)
  have k1 : (5000 : Int) < (a.size : Int) := by omega
  clear hm env
  go_enter Tryd.func3, Tryd.ntmps3
  go_wp2_with (go_at_call 5; (with_reducible refine (HA.out).mono ?_); rintro e w1 ⟨rfl, g1⟩; have G1 := Lib.hid g1; clear g1)
  go_ret
  exact ⟨rfl, G1.out⟩

set_option maxRecDepth 100000 in
set_option maxHeartbeats 16000000 in
theorem trejoins_longb (a b : ByteArray) (w : World) (env : Env w) (hm : a.size ≤ 5000) (hm2 : 5000 < b.size) : Calls Tryd.prog 3 #[.string a, .string b] w fun e w' => e = .returned (.bool true) ∧ Below w.heap.size w w' := by
  have HA := Lib.hid (tre_awake w env)
  have k1 : ¬ (5000 : Int) < (a.size : Int) := by omega
  have k2 : (5000 : Int) < (b.size : Int) := by omega
  clear hm hm2 env
  go_enter Tryd.func3, Tryd.ntmps3
  go_wp2_with (go_at_call 5; (with_reducible refine (HA.out).mono ?_); rintro e w1 ⟨rfl, g1⟩; have G1 := Lib.hid g1; clear g1)
  go_ret
  exact ⟨rfl, G1.out⟩

set_option maxRecDepth 100000 in
set_option maxHeartbeats 16000000 in
theorem trejoins_bada (a b : ByteArray) (w : World) (env : Env w) (hm : a.size ≤ 5000) (hm2 : b.size ≤ 5000) (c1 x1 y1 c2' x2 y2 : Int) (J : List It) (hr : treR a = .error (c1, x1, y1)) (hJ : resL (treR b) = J) (hC : resC (treR b) = (c2', x2, y2)) : Calls Tryd.prog 3 #[.string a, .string b] w fun e w' => e = .returned (.bool true) ∧ Below w.heap.size w w' := by
  have HA := Lib.hid (tre_awake w env)
  have k1 : ¬ (5000 : Int) < (a.size : Int) := by omega
  have k2 : ¬ (5000 : Int) < (b.size : Int) := by omega
  have hcb : (c1 != 0) = true := by simpa using treR_err hr
  have HP1 : Hid (∀ W, Below w.heap.size w W → Calls Tryd.prog 6 #[.string a] W (GivesOut [] c1 x1 y1 W)) := Lib.hid (fun W hW => by have := parse_out a W (env.step hW); rw [hr] at this; exact this)
  have HP2 : Hid (∀ W, Below w.heap.size w W → Calls Tryd.prog 6 #[.string b] W (GivesOut J c2' x2 y2 W)) := Lib.hid (fun W hW => by have := parse_out b W (env.step hW); rw [hJ, hC] at this; exact this)
  clear hm hm2 env hr hJ hC
  go_enter Tryd.func3, Tryd.ntmps3
  go_wp2_with (first
    | (go_at_call 5; (with_reducible refine (HA.out).mono ?_); rintro e w1 ⟨rfl, g1⟩; have G1 := Lib.hid g1; clear g1)
    | (go_at_call 6; (with_reducible refine (HP1.out _ G1.out).mono ?_); rintro e w2 ⟨a2, c2, rfl, i2, g2⟩; have G2 := Lib.hid (below_step G1.out g2); obtain ⟨f3, U3, Y3, fm3⟩ := fault_var w2 c1 x1 y1; have hf3 := fm3.g0; have ha3 := fm3.a2; have hs3 := fm3.s3; have k30 := fm3.v2.c0; have q30 := fm3.v2.q0; have k31 := fm3.v2.c1; have q31 := fm3.v2.q1; have k32 := fm3.v2.c2; have q32 := fm3.v2.q2; have d30 := fm3.v3.c0; have d31 := fm3.v3.c1; have d32 := fm3.v3.c2; have G3 := Lib.hid (below_step G2.out fm3.bel); have HV3 := Lib.hid fm3.v3; have HA3 := Lib.hid (ItemsIs.keep (w' := Y3) i2 (fun _ h => h) (fun b hb => fm3.bel.block b hb.2)); have HA3S : Hid (∀ b, (w1.heap.size ≤ b ∧ b < w2.heap.size) → b < Y3.heap.size) := Lib.hid (fun b hb => Nat.lt_of_lt_of_le hb.2 fm3.bel.size); clear i2 g2 fm3)
    | (go_at_call 6; (with_reducible refine (HP2.out _ G3.out).mono ?_); rintro e w4 ⟨a4, c4, rfl, i4, g4⟩; have G4 := Lib.hid (below_step G3.out g4); clear hf3 ha3 hs3 k30 q30 d30 k31 q31 d31 k32 q32 d32; obtain ⟨f5, U5, Y5, fm5⟩ := fault_var w4 c2' x2 y2; have hf5 := fm5.g0; have ha5 := fm5.a2; have hs5 := fm5.s3; have k50 := fm5.v2.c0; have q50 := fm5.v2.q0; have k51 := fm5.v2.c1; have q51 := fm5.v2.q1; have k52 := fm5.v2.c2; have q52 := fm5.v2.q2; have d50 := fm5.v3.c0; have d51 := fm5.v3.c1; have d52 := fm5.v3.c2; have G5 := Lib.hid (below_step G4.out fm5.bel); have HV5 := Lib.hid fm5.v3; have hv5 := HV3.out.after (below_step g4 fm5.bel); have HW5 := Lib.hid hv5; have m0 := hv5.c0; have m1 := hv5.c1; have m2 := hv5.c2; have HA5 := Lib.hid (ItemsIs.keep (w' := Y5) HA3.out (fun _ h => h) (fun b hb => (below_step g4 fm5.bel).block b (HA3S.out b hb))); have HA5S : Hid (∀ b, (w1.heap.size ≤ b ∧ b < w2.heap.size) → b < Y5.heap.size) := Lib.hid (fun b hb => Nat.lt_of_lt_of_le (HA3S.out b hb) (below_step g4 fm5.bel).size); have HB5 := Lib.hid (ItemsIs.keep (w' := Y5) i4 (fun _ h => h) (fun b hb => fm5.bel.block b hb.2)); have HB5S : Hid (∀ b, (Y3.heap.size ≤ b ∧ b < w4.heap.size) → b < Y5.heap.size) := Lib.hid (fun b hb => Nat.lt_of_lt_of_le hb.2 fm5.bel.size); clear i4 g4 fm5 hv5))
  go_ret
  exact ⟨rfl, G5.out⟩

set_option maxRecDepth 100000 in
set_option maxHeartbeats 16000000 in
theorem trejoins_badb0 (a b : ByteArray) (w : World) (env : Env w) (hm : a.size ≤ 5000) (hm2 : b.size ≤ 5000) (c2' x2 y2 : Int) (I : List It) (hr : treR a = .ok I) (hr2 : treR b = .error (c2', x2, y2)) (h0 : I = []) : Calls Tryd.prog 3 #[.string a, .string b] w fun e w' => e = .returned (.bool true) ∧ Below w.heap.size w w' := by
  have HA := Lib.hid (tre_awake w env)
  have k1 : ¬ (5000 : Int) < (a.size : Int) := by omega
  have k2 : ¬ (5000 : Int) < (b.size : Int) := by omega
  have hcb : (c2' != 0) = true := by simpa using treR_err hr2
  obtain ⟨x1, hx1⟩ : ∃ x : Int, x = 0 := ⟨0, rfl⟩
  obtain ⟨y1, hy1⟩ : ∃ x : Int, x = 0 := ⟨0, rfl⟩
  have HP1 : Hid (∀ W, Below w.heap.size w W → Calls Tryd.prog 6 #[.string a] W (GivesOut I 0 x1 y1 W)) := Lib.hid (fun W hW => by have := parse_out a W (env.step hW); rw [hr] at this; rw [hx1, hy1]; exact this)
  have HP2 : Hid (∀ W, Below w.heap.size w W → Calls Tryd.prog 6 #[.string b] W (GivesOut [] c2' x2 y2 W)) := Lib.hid (fun W hW => by have := parse_out b W (env.step hW); rw [hr2] at this; exact this)
  subst h0
  clear hm hm2 env hr hr2 hx1 hy1
  go_enter Tryd.func3, Tryd.ntmps3
  go_wp2_with (first
    | (go_at_call 5; (with_reducible refine (HA.out).mono ?_); rintro e w1 ⟨rfl, g1⟩; have G1 := Lib.hid g1; clear g1)
    | (go_at_call 6; (with_reducible refine (HP1.out _ G1.out).mono ?_); rintro e w2 ⟨a2, c2, rfl, i2, g2⟩; have G2 := Lib.hid (below_step G1.out g2); obtain ⟨f3, U3, Y3, fm3⟩ := fault_var w2 0 x1 y1; have hf3 := fm3.g0; have ha3 := fm3.a2; have hs3 := fm3.s3; have k30 := fm3.v2.c0; have q30 := fm3.v2.q0; have k31 := fm3.v2.c1; have q31 := fm3.v2.q1; have k32 := fm3.v2.c2; have q32 := fm3.v2.q2; have d30 := fm3.v3.c0; have d31 := fm3.v3.c1; have d32 := fm3.v3.c2; have G3 := Lib.hid (below_step G2.out fm3.bel); have HV3 := Lib.hid fm3.v3; have HA3 := Lib.hid (ItemsIs.keep (w' := Y3) i2 (fun _ h => h) (fun b hb => fm3.bel.block b hb.2)); have HA3S : Hid (∀ b, (w1.heap.size ≤ b ∧ b < w2.heap.size) → b < Y3.heap.size) := Lib.hid (fun b hb => Nat.lt_of_lt_of_le hb.2 fm3.bel.size); clear i2 g2 fm3)
    | (go_at_call 6; (with_reducible refine (HP2.out _ G3.out).mono ?_); rintro e w4 ⟨a4, c4, rfl, i4, g4⟩; have G4 := Lib.hid (below_step G3.out g4); clear hf3 ha3 hs3 k30 q30 d30 k31 q31 d31 k32 q32 d32; obtain ⟨f5, U5, Y5, fm5⟩ := fault_var w4 c2' x2 y2; have hf5 := fm5.g0; have ha5 := fm5.a2; have hs5 := fm5.s3; have k50 := fm5.v2.c0; have q50 := fm5.v2.q0; have k51 := fm5.v2.c1; have q51 := fm5.v2.q1; have k52 := fm5.v2.c2; have q52 := fm5.v2.q2; have d50 := fm5.v3.c0; have d51 := fm5.v3.c1; have d52 := fm5.v3.c2; have G5 := Lib.hid (below_step G4.out fm5.bel); have HV5 := Lib.hid fm5.v3; have hv5 := HV3.out.after (below_step g4 fm5.bel); have HW5 := Lib.hid hv5; have m0 := hv5.c0; have m1 := hv5.c1; have m2 := hv5.c2; have HA5 := Lib.hid (ItemsIs.keep (w' := Y5) HA3.out (fun _ h => h) (fun b hb => (below_step g4 fm5.bel).block b (HA3S.out b hb))); have HA5S : Hid (∀ b, (w1.heap.size ≤ b ∧ b < w2.heap.size) → b < Y5.heap.size) := Lib.hid (fun b hb => Nat.lt_of_lt_of_le (HA3S.out b hb) (below_step g4 fm5.bel).size); have HB5 := Lib.hid (ItemsIs.keep (w' := Y5) i4 (fun _ h => h) (fun b hb => fm5.bel.block b hb.2)); have HB5S : Hid (∀ b, (Y3.heap.size ≤ b ∧ b < w4.heap.size) → b < Y5.heap.size) := Lib.hid (fun b hb => Nat.lt_of_lt_of_le hb.2 fm5.bel.size); clear i4 g4 fm5 hv5))
  go_ret
  exact ⟨rfl, G5.out⟩

set_option maxRecDepth 100000 in
set_option maxHeartbeats 16000000 in
theorem trejoins_badb1 (a b : ByteArray) (w : World) (env : Env w) (hm : a.size ≤ 5000) (hm2 : b.size ≤ 5000) (c2' x2 y2 : Int) (I : List It) (hr : treR a = .ok I) (hr2 : treR b = .error (c2', x2, y2)) (h0 : I.length ≠ 0) : Calls Tryd.prog 3 #[.string a, .string b] w fun e w' => e = .returned (.bool true) ∧ Below w.heap.size w w' := by
  have HA := Lib.hid (tre_awake w env)
  have k1 : ¬ (5000 : Int) < (a.size : Int) := by omega
  have k2 : ¬ (5000 : Int) < (b.size : Int) := by omega
  have hcb : (c2' != 0) = true := by simpa using treR_err hr2
  obtain ⟨x1, hx1⟩ : ∃ x : Int, x = 0 := ⟨0, rfl⟩
  obtain ⟨y1, hy1⟩ : ∃ x : Int, x = 0 := ⟨0, rfl⟩
  have HP1 : Hid (∀ W, Below w.heap.size w W → Calls Tryd.prog 6 #[.string a] W (GivesOut I 0 x1 y1 W)) := Lib.hid (fun W hW => by have := parse_out a W (env.step hW); rw [hr] at this; rw [hx1, hy1]; exact this)
  have HP2 : Hid (∀ W, Below w.heap.size w W → Calls Tryd.prog 6 #[.string b] W (GivesOut [] c2' x2 y2 W)) := Lib.hid (fun W hW => by have := parse_out b W (env.step hW); rw [hr2] at this; exact this)
  have hl0 : ((I.length : Int) == 0) = false := by simp; simpa using h0
  clear hm hm2 env hr hr2 hx1 hy1 h0
  go_enter Tryd.func3, Tryd.ntmps3
  go_wp2_with (first
    | (go_at_call 5; (with_reducible refine (HA.out).mono ?_); rintro e w1 ⟨rfl, g1⟩; have G1 := Lib.hid g1; clear g1)
    | (go_at_call 6; (with_reducible refine (HP1.out _ G1.out).mono ?_); rintro e w2 ⟨a2, c2, rfl, i2, g2⟩; have G2 := Lib.hid (below_step G1.out g2); obtain ⟨f3, U3, Y3, fm3⟩ := fault_var w2 0 x1 y1; have hf3 := fm3.g0; have ha3 := fm3.a2; have hs3 := fm3.s3; have k30 := fm3.v2.c0; have q30 := fm3.v2.q0; have k31 := fm3.v2.c1; have q31 := fm3.v2.q1; have k32 := fm3.v2.c2; have q32 := fm3.v2.q2; have d30 := fm3.v3.c0; have d31 := fm3.v3.c1; have d32 := fm3.v3.c2; have G3 := Lib.hid (below_step G2.out fm3.bel); have HV3 := Lib.hid fm3.v3; have HA3 := Lib.hid (ItemsIs.keep (w' := Y3) i2 (fun _ h => h) (fun b hb => fm3.bel.block b hb.2)); have HA3S : Hid (∀ b, (w1.heap.size ≤ b ∧ b < w2.heap.size) → b < Y3.heap.size) := Lib.hid (fun b hb => Nat.lt_of_lt_of_le hb.2 fm3.bel.size); clear i2 g2 fm3)
    | (go_at_call 6; (with_reducible refine (HP2.out _ G3.out).mono ?_); rintro e w4 ⟨a4, c4, rfl, i4, g4⟩; have G4 := Lib.hid (below_step G3.out g4); clear hf3 ha3 hs3 k30 q30 d30 k31 q31 d31 k32 q32 d32; obtain ⟨f5, U5, Y5, fm5⟩ := fault_var w4 c2' x2 y2; have hf5 := fm5.g0; have ha5 := fm5.a2; have hs5 := fm5.s3; have k50 := fm5.v2.c0; have q50 := fm5.v2.q0; have k51 := fm5.v2.c1; have q51 := fm5.v2.q1; have k52 := fm5.v2.c2; have q52 := fm5.v2.q2; have d50 := fm5.v3.c0; have d51 := fm5.v3.c1; have d52 := fm5.v3.c2; have G5 := Lib.hid (below_step G4.out fm5.bel); have HV5 := Lib.hid fm5.v3; have hv5 := HV3.out.after (below_step g4 fm5.bel); have HW5 := Lib.hid hv5; have m0 := hv5.c0; have m1 := hv5.c1; have m2 := hv5.c2; have HA5 := Lib.hid (ItemsIs.keep (w' := Y5) HA3.out (fun _ h => h) (fun b hb => (below_step g4 fm5.bel).block b (HA3S.out b hb))); have HA5S : Hid (∀ b, (w1.heap.size ≤ b ∧ b < w2.heap.size) → b < Y5.heap.size) := Lib.hid (fun b hb => Nat.lt_of_lt_of_le (HA3S.out b hb) (below_step g4 fm5.bel).size); have HB5 := Lib.hid (ItemsIs.keep (w' := Y5) i4 (fun _ h => h) (fun b hb => fm5.bel.block b hb.2)); have HB5S : Hid (∀ b, (Y3.heap.size ≤ b ∧ b < w4.heap.size) → b < Y5.heap.size) := Lib.hid (fun b hb => Nat.lt_of_lt_of_le hb.2 fm5.bel.size); clear i4 g4 fm5 hv5))
  go_ret
  exact ⟨rfl, G5.out⟩

set_option maxRecDepth 100000 in
set_option maxHeartbeats 16000000 in
theorem trejoins_much (a b : ByteArray) (w : World) (env : Env w) (hm : a.size ≤ 5000) (hm2 : b.size ≤ 5000) (I J K : List It) (c3 x3 y3 : Int) (hr : treR a = .ok I) (hr2 : treR b = .ok J) (hK : resL (treR (a ++ (⟨#[10]⟩ : ByteArray) ++ b)) = K) (hC : resC (treR (a ++ (⟨#[10]⟩ : ByteArray) ++ b)) = (c3, x3, y3)) (hI : cntL I ≤ 300) (hJ : cntL J ≤ 300) (hsum : 300 < cntL I + cntL J) (hc3 : c3 = 9) (hk : K = []) : Calls Tryd.prog 3 #[.string a, .string b] w fun e w' => e = .returned (.bool true) ∧ Below w.heap.size w w' := by
  have HA := Lib.hid (tre_awake w env)
  have k1 : ¬ (5000 : Int) < (a.size : Int) := by omega
  have k2 : ¬ (5000 : Int) < (b.size : Int) := by omega
  obtain ⟨s2, hs2⟩ : ∃ x, a ++ (⟨#[10]⟩ : ByteArray) ++ b = x := ⟨_, rfl⟩
  have hz1 : a.size + 1 ≤ 9223372036854775807 := by omega
  have hz2 : a.size + 1 + b.size ≤ 9223372036854775807 := by omega
  obtain ⟨x1, hx1⟩ : ∃ x : Int, x = 0 := ⟨0, rfl⟩
  obtain ⟨y1, hy1⟩ : ∃ x : Int, x = 0 := ⟨0, rfl⟩
  obtain ⟨x2, hx2⟩ : ∃ x : Int, x = 0 := ⟨0, rfl⟩
  obtain ⟨y2, hy2⟩ : ∃ x : Int, x = 0 := ⟨0, rfl⟩
  have HP1 : Hid (∀ W, Below w.heap.size w W → Calls Tryd.prog 6 #[.string a] W (GivesOut I 0 x1 y1 W)) := Lib.hid (fun W hW => by have := parse_out a W (env.step hW); rw [hr] at this; rw [hx1, hy1]; exact this)
  have HP2 : Hid (∀ W, Below w.heap.size w W → Calls Tryd.prog 6 #[.string b] W (GivesOut J 0 x2 y2 W)) := Lib.hid (fun W hW => by have := parse_out b W (env.step hW); rw [hr2] at this; rw [hx2, hy2]; exact this)
  have HP3 : Hid (∀ W, Below w.heap.size w W → Calls Tryd.prog 6 #[.string s2] W (GivesOut K c3 x3 y3 W)) := Lib.hid (fun W hW => by have := parse_out s2 W (env.step hW); rw [← hs2, hK, hC] at this; rw [← hs2]; exact this)
  obtain ⟨N, hN⟩ : ∃ N, cntL I = N := ⟨_, rfl⟩
  obtain ⟨M, hM⟩ : ∃ M, cntL J = M := ⟨_, rfl⟩
  rw [hN] at hI
  rw [hM] at hJ
  rw [hN, hM] at hsum
  have HCA : Hid (∀ (S : Nat → Prop) (v : Value) (W : World), ItemsIs 5 W S v I → (∀ b, S b → b < W.heap.size) → Calls Tryd.prog 7 #[v] W fun e w' => e = .returned (.int .i64 (N : Int)) ∧ Below W.heap.size W w') := Lib.hid (fun S v W h1 h2 => by rw [← hN]; exact scount_any 5 S v I W h1 h2 (by omega))
  have HCB : Hid (∀ (S : Nat → Prop) (v : Value) (W : World), ItemsIs 5 W S v J → (∀ b, S b → b < W.heap.size) → Calls Tryd.prog 7 #[v] W fun e w' => e = .returned (.int .i64 (M : Int)) ∧ Below W.heap.size W w') := Lib.hid (fun S v W h1 h2 => by rw [← hM]; exact scount_any 5 S v J W h1 h2 (by omega))
  have hadd : IntKind.i64.wrap ((N : Int) + (M : Int)) = (N : Int) + (M : Int) := by rw [IntKind.wrap_i64]; omega
  subst hc3 hk
  have hgt : (300 : Int) < (N : Int) + (M : Int) := by omega
  clear hm hm2 env hr hr2 hx1 hy1 hx2 hy2 hK hC hI hJ hN hM hsum
  go_enter Tryd.func3, Tryd.ntmps3
  go_wp2_with (first
    | (go_at_call 5; (with_reducible refine (HA.out).mono ?_); rintro e w1 ⟨rfl, g1⟩; have G1 := Lib.hid g1; clear g1)
    | (go_at_call 6; (with_reducible refine (HP1.out _ G1.out).mono ?_); rintro e w2 ⟨a2, c2, rfl, i2, g2⟩; have G2 := Lib.hid (below_step G1.out g2); obtain ⟨f3, U3, Y3, fm3⟩ := fault_var w2 0 x1 y1; have hf3 := fm3.g0; have ha3 := fm3.a2; have hs3 := fm3.s3; have k30 := fm3.v2.c0; have q30 := fm3.v2.q0; have k31 := fm3.v2.c1; have q31 := fm3.v2.q1; have k32 := fm3.v2.c2; have q32 := fm3.v2.q2; have d30 := fm3.v3.c0; have d31 := fm3.v3.c1; have d32 := fm3.v3.c2; have G3 := Lib.hid (below_step G2.out fm3.bel); have HV3 := Lib.hid fm3.v3; have HA3 := Lib.hid (ItemsIs.keep (w' := Y3) i2 (fun _ h => h) (fun b hb => fm3.bel.block b hb.2)); have HA3S : Hid (∀ b, (w1.heap.size ≤ b ∧ b < w2.heap.size) → b < Y3.heap.size) := Lib.hid (fun b hb => Nat.lt_of_lt_of_le hb.2 fm3.bel.size); clear i2 g2 fm3)
    | (go_at_call 6; (with_reducible refine (HP2.out _ G3.out).mono ?_); rintro e w4 ⟨a4, c4, rfl, i4, g4⟩; have G4 := Lib.hid (below_step G3.out g4); clear hf3 ha3 hs3 k30 q30 d30 k31 q31 d31 k32 q32 d32; obtain ⟨f5, U5, Y5, fm5⟩ := fault_var w4 0 x2 y2; have hf5 := fm5.g0; have ha5 := fm5.a2; have hs5 := fm5.s3; have k50 := fm5.v2.c0; have q50 := fm5.v2.q0; have k51 := fm5.v2.c1; have q51 := fm5.v2.q1; have k52 := fm5.v2.c2; have q52 := fm5.v2.q2; have d50 := fm5.v3.c0; have d51 := fm5.v3.c1; have d52 := fm5.v3.c2; have G5 := Lib.hid (below_step G4.out fm5.bel); have HV5 := Lib.hid fm5.v3; have hv5 := HV3.out.after (below_step g4 fm5.bel); have HW5 := Lib.hid hv5; have m0 := hv5.c0; have m1 := hv5.c1; have m2 := hv5.c2; have HA5 := Lib.hid (ItemsIs.keep (w' := Y5) HA3.out (fun _ h => h) (fun b hb => (below_step g4 fm5.bel).block b (HA3S.out b hb))); have HA5S : Hid (∀ b, (w1.heap.size ≤ b ∧ b < w2.heap.size) → b < Y5.heap.size) := Lib.hid (fun b hb => Nat.lt_of_lt_of_le (HA3S.out b hb) (below_step g4 fm5.bel).size); have HB5 := Lib.hid (ItemsIs.keep (w' := Y5) i4 (fun _ h => h) (fun b hb => fm5.bel.block b hb.2)); have HB5S : Hid (∀ b, (Y3.heap.size ≤ b ∧ b < w4.heap.size) → b < Y5.heap.size) := Lib.hid (fun b hb => Nat.lt_of_lt_of_le hb.2 fm5.bel.size); clear i4 g4 fm5 hv5)
    | (go_at_call 6; (with_reducible refine (HP3.out _ G5.out).mono ?_); rintro e w6 ⟨a6, c6, rfl, i6, g6⟩; have G6 := Lib.hid (below_step G5.out g6); clear hf5 ha5 hs5 m0 m1 m2 k50 q50 d50 k51 q51 d51 k52 q52 d52; obtain ⟨f7, U7, Y7, fm7⟩ := fault_var w6 9 x3 y3; have hf7 := fm7.g0; have ha7 := fm7.a2; have hs7 := fm7.s3; have k70 := fm7.v2.c0; have q70 := fm7.v2.q0; have k71 := fm7.v2.c1; have q71 := fm7.v2.q1; have k72 := fm7.v2.c2; have q72 := fm7.v2.q2; have d70 := fm7.v3.c0; have d71 := fm7.v3.c1; have d72 := fm7.v3.c2; have G7 := Lib.hid (below_step G6.out fm7.bel); have HV7 := Lib.hid fm7.v3; have HA7 := Lib.hid (ItemsIs.keep (w' := Y7) HA5.out (fun _ h => h) (fun b hb => (below_step g6 fm7.bel).block b (HA5S.out b hb))); have HA7S : Hid (∀ b, (w1.heap.size ≤ b ∧ b < w2.heap.size) → b < Y7.heap.size) := Lib.hid (fun b hb => Nat.lt_of_lt_of_le (HA5S.out b hb) (below_step g6 fm7.bel).size); have HB7 := Lib.hid (ItemsIs.keep (w' := Y7) HB5.out (fun _ h => h) (fun b hb => (below_step g6 fm7.bel).block b (HB5S.out b hb))); have HB7S : Hid (∀ b, (Y3.heap.size ≤ b ∧ b < w4.heap.size) → b < Y7.heap.size) := Lib.hid (fun b hb => Nat.lt_of_lt_of_le (HB5S.out b hb) (below_step g6 fm7.bel).size); have HC7 := Lib.hid (ItemsIs.keep (w' := Y7) i6 (fun _ h => h) (fun b hb => fm7.bel.block b hb.2)); have HC7S : Hid (∀ b, (Y5.heap.size ≤ b ∧ b < w6.heap.size) → b < Y7.heap.size) := Lib.hid (fun b hb => Nat.lt_of_lt_of_le hb.2 fm7.bel.size); clear i6 g6 fm7)
    | (go_at_call 7; (with_reducible refine (HCA.out _ _ _ HA7.out HA7S.out).mono ?_); rintro e w8 ⟨rfl, g8⟩; have G8 := Lib.hid (below_step G7.out g8); have hv8 := HV7.out.after g8; have HV8 := Lib.hid hv8; have HA8 := Lib.hid (ItemsIs.keep (w' := w8) HA7.out (fun _ h => h) (fun b hb => (g8).block b (HA7S.out b hb))); have HA8S : Hid (∀ b, (w1.heap.size ≤ b ∧ b < w2.heap.size) → b < w8.heap.size) := Lib.hid (fun b hb => Nat.lt_of_lt_of_le (HA7S.out b hb) (g8).size); have HB8 := Lib.hid (ItemsIs.keep (w' := w8) HB7.out (fun _ h => h) (fun b hb => (g8).block b (HB7S.out b hb))); have HB8S : Hid (∀ b, (Y3.heap.size ≤ b ∧ b < w4.heap.size) → b < w8.heap.size) := Lib.hid (fun b hb => Nat.lt_of_lt_of_le (HB7S.out b hb) (g8).size); have HC8 := Lib.hid (ItemsIs.keep (w' := w8) HC7.out (fun _ h => h) (fun b hb => (g8).block b (HC7S.out b hb))); have HC8S : Hid (∀ b, (Y5.heap.size ≤ b ∧ b < w6.heap.size) → b < w8.heap.size) := Lib.hid (fun b hb => Nat.lt_of_lt_of_le (HC7S.out b hb) (g8).size); clear g8 hv8 hf7 ha7 hs7 k70 q70 d70 k71 q71 d71 k72 q72 d72)
    | (go_at_call 7; (with_reducible refine (HCB.out _ _ _ HB8.out HB8S.out).mono ?_); rintro e w9 ⟨rfl, g9⟩; have G9 := Lib.hid (below_step G8.out g9); have hv9 := HV8.out.after g9; have HV9 := Lib.hid hv9; have n0 := hv9.c0; have n1 := hv9.c1; have n2 := hv9.c2; have HA9 := Lib.hid (ItemsIs.keep (w' := w9) HA8.out (fun _ h => h) (fun b hb => (g9).block b (HA8S.out b hb))); have HA9S : Hid (∀ b, (w1.heap.size ≤ b ∧ b < w2.heap.size) → b < w9.heap.size) := Lib.hid (fun b hb => Nat.lt_of_lt_of_le (HA8S.out b hb) (g9).size); have HB9 := Lib.hid (ItemsIs.keep (w' := w9) HB8.out (fun _ h => h) (fun b hb => (g9).block b (HB8S.out b hb))); have HB9S : Hid (∀ b, (Y3.heap.size ≤ b ∧ b < w4.heap.size) → b < w9.heap.size) := Lib.hid (fun b hb => Nat.lt_of_lt_of_le (HB8S.out b hb) (g9).size); have HC9 := Lib.hid (ItemsIs.keep (w' := w9) HC8.out (fun _ h => h) (fun b hb => (g9).block b (HC8S.out b hb))); have HC9S : Hid (∀ b, (Y5.heap.size ≤ b ∧ b < w6.heap.size) → b < w9.heap.size) := Lib.hid (fun b hb => Nat.lt_of_lt_of_le (HC8S.out b hb) (g9).size); clear g9 hv9))
  go_ret
  exact ⟨rfl, G9.out⟩

set_option maxRecDepth 100000 in
set_option maxHeartbeats 16000000 in
theorem trejoins_one (a b : ByteArray) (w : World) (env : Env w) (hm : a.size ≤ 5000) (hm2 : b.size ≤ 5000) (I J K : List It) (c3 x3 y3 : Int) (hr : treR a = .ok I) (hr2 : treR b = .ok J) (hK : resL (treR (a ++ (⟨#[10]⟩ : ByteArray) ++ b)) = K) (hC : resC (treR (a ++ (⟨#[10]⟩ : ByteArray) ++ b)) = (c3, x3, y3)) (hI : cntL I ≤ 300) (hJ : cntL J ≤ 300) (hsum : cntL I + cntL J ≤ 300) (hc3 : c3 = 0 ∧ x3 = 0 ∧ y3 = 0) (hKb : bareL K = bareL I ++ bareL J) (hKc : cntL K ≤ 300) (hIw : FewW I) (hJw : FewW J) (hKw : FewW K) : Calls Tryd.prog 3 #[.string a, .string b] w fun e w' => e = .returned (.bool true) ∧ Below w.heap.size w w' := by
  have HA := Lib.hid (tre_awake w env)
  have k1 : ¬ (5000 : Int) < (a.size : Int) := by omega
  have k2 : ¬ (5000 : Int) < (b.size : Int) := by omega
  obtain ⟨s2, hs2⟩ : ∃ x, a ++ (⟨#[10]⟩ : ByteArray) ++ b = x := ⟨_, rfl⟩
  have hz1 : a.size + 1 ≤ 9223372036854775807 := by omega
  have hz2 : a.size + 1 + b.size ≤ 9223372036854775807 := by omega
  obtain ⟨x1, hx1⟩ : ∃ x : Int, x = 0 := ⟨0, rfl⟩
  obtain ⟨y1, hy1⟩ : ∃ x : Int, x = 0 := ⟨0, rfl⟩
  obtain ⟨x2, hx2⟩ : ∃ x : Int, x = 0 := ⟨0, rfl⟩
  obtain ⟨y2, hy2⟩ : ∃ x : Int, x = 0 := ⟨0, rfl⟩
  have HP1 : Hid (∀ W, Below w.heap.size w W → Calls Tryd.prog 6 #[.string a] W (GivesOut I 0 x1 y1 W)) := Lib.hid (fun W hW => by have := parse_out a W (env.step hW); rw [hr] at this; rw [hx1, hy1]; exact this)
  have HP2 : Hid (∀ W, Below w.heap.size w W → Calls Tryd.prog 6 #[.string b] W (GivesOut J 0 x2 y2 W)) := Lib.hid (fun W hW => by have := parse_out b W (env.step hW); rw [hr2] at this; rw [hx2, hy2]; exact this)
  have HP3 : Hid (∀ W, Below w.heap.size w W → Calls Tryd.prog 6 #[.string s2] W (GivesOut K c3 x3 y3 W)) := Lib.hid (fun W hW => by have := parse_out s2 W (env.step hW); rw [← hs2, hK, hC] at this; rw [← hs2]; exact this)
  obtain ⟨N, hN⟩ : ∃ N, cntL I = N := ⟨_, rfl⟩
  obtain ⟨M, hM⟩ : ∃ M, cntL J = M := ⟨_, rfl⟩
  rw [hN] at hI
  rw [hM] at hJ
  rw [hN, hM] at hsum
  have HCA : Hid (∀ (S : Nat → Prop) (v : Value) (W : World), ItemsIs 5 W S v I → (∀ b, S b → b < W.heap.size) → Calls Tryd.prog 7 #[v] W fun e w' => e = .returned (.int .i64 (N : Int)) ∧ Below W.heap.size W w') := Lib.hid (fun S v W h1 h2 => by rw [← hN]; exact scount_any 5 S v I W h1 h2 (by omega))
  have HCB : Hid (∀ (S : Nat → Prop) (v : Value) (W : World), ItemsIs 5 W S v J → (∀ b, S b → b < W.heap.size) → Calls Tryd.prog 7 #[v] W fun e w' => e = .returned (.int .i64 (M : Int)) ∧ Below W.heap.size W w') := Lib.hid (fun S v W h1 h2 => by rw [← hM]; exact scount_any 5 S v J W h1 h2 (by omega))
  have hadd : IntKind.i64.wrap ((N : Int) + (M : Int)) = (N : Int) + (M : Int) := by rw [IntKind.wrap_i64]; omega
  have HBA : Hid (∀ (S : Nat → Prop) (v : Value) (W : World), ItemsIs 5 W S v I → (∀ b, S b → b < W.heap.size) → Calls Tryd.prog 8 #[v] W (GivesBare 5 I W)) := Lib.hid (fun S v W h1 h2 => bare_any 5 S v I W h1 h2 (by omega) hIw)
  have HBB : Hid (∀ (S : Nat → Prop) (v : Value) (W : World), ItemsIs 5 W S v J → (∀ b, S b → b < W.heap.size) → Calls Tryd.prog 8 #[v] W (GivesBare 5 J W)) := Lib.hid (fun S v W h1 h2 => bare_any 5 S v J W h1 h2 (by omega) hJw)
  have HBC : Hid (∀ (S : Nat → Prop) (v : Value) (W : World), ItemsIs 5 W S v K → (∀ b, S b → b < W.heap.size) → Calls Tryd.prog 8 #[v] W fun e w' => ∃ a k, e = .returned (.slice a K.length k) ∧ ItemsIs 5 w' (fun b => W.heap.size ≤ b ∧ b < w'.heap.size) (.slice a K.length k) (bareL K) ∧ Below W.heap.size W w') := Lib.hid (fun S v W h1 h2 => (bare_any 5 S v K W h1 h2 (by omega) hKw).mono (fun e w' h => bare_items (d := 4) h))
  have HSM : Hid (∀ (S T : Nat → Prop) (v1 v2 : Value) (W : World), ItemsIs 5 W S v1 (bareL K) → ItemsIs 5 W T v2 (bareL K) → Calls Tryd.prog 9 #[v1, v2] W fun e w' => e = .returned (.bool true) ∧ ∃ m, w' = W.drewN m) := Lib.hid (fun S T v1 v2 W h1 h2 => stree_same 5 S T v1 v2 (bareL K) W h1 h2 (by rw [cntL_bare]; omega) (fewW_bare hKw).all)
  have HKB : Hid (bareL K = bareL I ++ bareL J) := Lib.hid hKb
  have HSUM : Hid (I.length + J.length ≤ 1000000) := Lib.hid (by have := len_cnt I; have := len_cnt J; omega)
  obtain ⟨rfl, rfl, rfl⟩ := hc3
  have hgt : ¬ (300 : Int) < (N : Int) + (M : Int) := by omega
  clear hm hm2 env hr hr2 hx1 hy1 hx2 hy2 hK hC hI hJ hN hM hsum hKb hKc hIw hJw hKw
  go_enter Tryd.func3, Tryd.ntmps3
  go_wp2_with (first
    | (go_at_call 5; (with_reducible refine (HA.out).mono ?_); rintro e w1 ⟨rfl, g1⟩; have G1 := Lib.hid g1; clear g1)
    | (go_at_call 6; (with_reducible refine (HP1.out _ G1.out).mono ?_); rintro e w2 ⟨a2, c2, rfl, i2, g2⟩; have G2 := Lib.hid (below_step G1.out g2); obtain ⟨f3, U3, Y3, fm3⟩ := fault_var w2 0 x1 y1; have hf3 := fm3.g0; have ha3 := fm3.a2; have hs3 := fm3.s3; have k30 := fm3.v2.c0; have q30 := fm3.v2.q0; have k31 := fm3.v2.c1; have q31 := fm3.v2.q1; have k32 := fm3.v2.c2; have q32 := fm3.v2.q2; have d30 := fm3.v3.c0; have d31 := fm3.v3.c1; have d32 := fm3.v3.c2; have G3 := Lib.hid (below_step G2.out fm3.bel); have HV3 := Lib.hid fm3.v3; have HA3 := Lib.hid (ItemsIs.keep (w' := Y3) i2 (fun _ h => h) (fun b hb => fm3.bel.block b hb.2)); have HA3S : Hid (∀ b, (w1.heap.size ≤ b ∧ b < w2.heap.size) → b < Y3.heap.size) := Lib.hid (fun b hb => Nat.lt_of_lt_of_le hb.2 fm3.bel.size); clear i2 g2 fm3)
    | (go_at_call 6; (with_reducible refine (HP2.out _ G3.out).mono ?_); rintro e w4 ⟨a4, c4, rfl, i4, g4⟩; have G4 := Lib.hid (below_step G3.out g4); clear hf3 ha3 hs3 k30 q30 d30 k31 q31 d31 k32 q32 d32; obtain ⟨f5, U5, Y5, fm5⟩ := fault_var w4 0 x2 y2; have hf5 := fm5.g0; have ha5 := fm5.a2; have hs5 := fm5.s3; have k50 := fm5.v2.c0; have q50 := fm5.v2.q0; have k51 := fm5.v2.c1; have q51 := fm5.v2.q1; have k52 := fm5.v2.c2; have q52 := fm5.v2.q2; have d50 := fm5.v3.c0; have d51 := fm5.v3.c1; have d52 := fm5.v3.c2; have G5 := Lib.hid (below_step G4.out fm5.bel); have HV5 := Lib.hid fm5.v3; have hv5 := HV3.out.after (below_step g4 fm5.bel); have HW5 := Lib.hid hv5; have m0 := hv5.c0; have m1 := hv5.c1; have m2 := hv5.c2; have HA5 := Lib.hid (ItemsIs.keep (w' := Y5) HA3.out (fun _ h => h) (fun b hb => (below_step g4 fm5.bel).block b (HA3S.out b hb))); have HA5S : Hid (∀ b, (w1.heap.size ≤ b ∧ b < w2.heap.size) → b < Y5.heap.size) := Lib.hid (fun b hb => Nat.lt_of_lt_of_le (HA3S.out b hb) (below_step g4 fm5.bel).size); have HB5 := Lib.hid (ItemsIs.keep (w' := Y5) i4 (fun _ h => h) (fun b hb => fm5.bel.block b hb.2)); have HB5S : Hid (∀ b, (Y3.heap.size ≤ b ∧ b < w4.heap.size) → b < Y5.heap.size) := Lib.hid (fun b hb => Nat.lt_of_lt_of_le hb.2 fm5.bel.size); clear i4 g4 fm5 hv5)
    | (go_at_call 6; (with_reducible refine (HP3.out _ G5.out).mono ?_); rintro e w6 ⟨a6, c6, rfl, i6, g6⟩; have G6 := Lib.hid (below_step G5.out g6); clear hf5 ha5 hs5 m0 m1 m2 k50 q50 d50 k51 q51 d51 k52 q52 d52; obtain ⟨f7, U7, Y7, fm7⟩ := fault_var w6 0 0 0; have hf7 := fm7.g0; have ha7 := fm7.a2; have hs7 := fm7.s3; have k70 := fm7.v2.c0; have q70 := fm7.v2.q0; have k71 := fm7.v2.c1; have q71 := fm7.v2.q1; have k72 := fm7.v2.c2; have q72 := fm7.v2.q2; have d70 := fm7.v3.c0; have d71 := fm7.v3.c1; have d72 := fm7.v3.c2; have G7 := Lib.hid (below_step G6.out fm7.bel); have HV7 := Lib.hid fm7.v3; have HA7 := Lib.hid (ItemsIs.keep (w' := Y7) HA5.out (fun _ h => h) (fun b hb => (below_step g6 fm7.bel).block b (HA5S.out b hb))); have HA7S : Hid (∀ b, (w1.heap.size ≤ b ∧ b < w2.heap.size) → b < Y7.heap.size) := Lib.hid (fun b hb => Nat.lt_of_lt_of_le (HA5S.out b hb) (below_step g6 fm7.bel).size); have HB7 := Lib.hid (ItemsIs.keep (w' := Y7) HB5.out (fun _ h => h) (fun b hb => (below_step g6 fm7.bel).block b (HB5S.out b hb))); have HB7S : Hid (∀ b, (Y3.heap.size ≤ b ∧ b < w4.heap.size) → b < Y7.heap.size) := Lib.hid (fun b hb => Nat.lt_of_lt_of_le (HB5S.out b hb) (below_step g6 fm7.bel).size); have HC7 := Lib.hid (ItemsIs.keep (w' := Y7) i6 (fun _ h => h) (fun b hb => fm7.bel.block b hb.2)); have HC7S : Hid (∀ b, (Y5.heap.size ≤ b ∧ b < w6.heap.size) → b < Y7.heap.size) := Lib.hid (fun b hb => Nat.lt_of_lt_of_le hb.2 fm7.bel.size); clear i6 g6 fm7)
    | (go_at_call 7; (with_reducible refine (HCA.out _ _ _ HA7.out HA7S.out).mono ?_); rintro e w8 ⟨rfl, g8⟩; have G8 := Lib.hid (below_step G7.out g8); have hv8 := HV7.out.after g8; have HV8 := Lib.hid hv8; have HA8 := Lib.hid (ItemsIs.keep (w' := w8) HA7.out (fun _ h => h) (fun b hb => (g8).block b (HA7S.out b hb))); have HA8S : Hid (∀ b, (w1.heap.size ≤ b ∧ b < w2.heap.size) → b < w8.heap.size) := Lib.hid (fun b hb => Nat.lt_of_lt_of_le (HA7S.out b hb) (g8).size); have HB8 := Lib.hid (ItemsIs.keep (w' := w8) HB7.out (fun _ h => h) (fun b hb => (g8).block b (HB7S.out b hb))); have HB8S : Hid (∀ b, (Y3.heap.size ≤ b ∧ b < w4.heap.size) → b < w8.heap.size) := Lib.hid (fun b hb => Nat.lt_of_lt_of_le (HB7S.out b hb) (g8).size); have HC8 := Lib.hid (ItemsIs.keep (w' := w8) HC7.out (fun _ h => h) (fun b hb => (g8).block b (HC7S.out b hb))); have HC8S : Hid (∀ b, (Y5.heap.size ≤ b ∧ b < w6.heap.size) → b < w8.heap.size) := Lib.hid (fun b hb => Nat.lt_of_lt_of_le (HC7S.out b hb) (g8).size); clear g8 hv8 hf7 ha7 hs7 k70 q70 d70 k71 q71 d71 k72 q72 d72)
    | (go_at_call 7; (with_reducible refine (HCB.out _ _ _ HB8.out HB8S.out).mono ?_); rintro e w9 ⟨rfl, g9⟩; have G9 := Lib.hid (below_step G8.out g9); have hv9 := HV8.out.after g9; have HV9 := Lib.hid hv9; have n0 := hv9.c0; have n1 := hv9.c1; have n2 := hv9.c2; have HA9 := Lib.hid (ItemsIs.keep (w' := w9) HA8.out (fun _ h => h) (fun b hb => (g9).block b (HA8S.out b hb))); have HA9S : Hid (∀ b, (w1.heap.size ≤ b ∧ b < w2.heap.size) → b < w9.heap.size) := Lib.hid (fun b hb => Nat.lt_of_lt_of_le (HA8S.out b hb) (g9).size); have HB9 := Lib.hid (ItemsIs.keep (w' := w9) HB8.out (fun _ h => h) (fun b hb => (g9).block b (HB8S.out b hb))); have HB9S : Hid (∀ b, (Y3.heap.size ≤ b ∧ b < w4.heap.size) → b < w9.heap.size) := Lib.hid (fun b hb => Nat.lt_of_lt_of_le (HB8S.out b hb) (g9).size); have HC9 := Lib.hid (ItemsIs.keep (w' := w9) HC8.out (fun _ h => h) (fun b hb => (g9).block b (HC8S.out b hb))); have HC9S : Hid (∀ b, (Y5.heap.size ≤ b ∧ b < w6.heap.size) → b < w9.heap.size) := Lib.hid (fun b hb => Nat.lt_of_lt_of_le (HC8S.out b hb) (g9).size); clear g9 hv9)
    | (go_at_call 8; (with_reducible refine (HBA.out _ _ _ HA9.out HA9S.out).mono ?_); rintro e w10 hbare10; obtain ⟨a10, k10, ps, Sx, rfl, hl10, hp10, hn10, hs10, g10⟩ := bare_list (d := 4) hbare10; have HL10 := Lib.hid hl10; have HP10 := Lib.hid hp10; have HN10 := Lib.hid hn10; have HS10 := Lib.hid hs10; have HG10 := Lib.hid g10; have G10 := Lib.hid (below_step G9.out g10); have hv10 := HV9.out.after g10; have HV10 := Lib.hid hv10; have HB10 := Lib.hid (ItemsIs.keep (w' := w10) HB9.out (fun _ h => h) (fun b hb => (g10).block b (HB9S.out b hb))); have HB10S : Hid (∀ b, (Y3.heap.size ≤ b ∧ b < w4.heap.size) → b < w10.heap.size) := Lib.hid (fun b hb => Nat.lt_of_lt_of_le (HB9S.out b hb) (g10).size); have HC10 := Lib.hid (ItemsIs.keep (w' := w10) HC9.out (fun _ h => h) (fun b hb => (g10).block b (HC9S.out b hb))); have HC10S : Hid (∀ b, (Y5.heap.size ≤ b ∧ b < w6.heap.size) → b < w10.heap.size) := Lib.hid (fun b hb => Nat.lt_of_lt_of_le (HC9S.out b hb) (g10).size); clear g10 hv10 hl10 hp10 hn10 hs10 hbare10 n0 n1 n2)
    | (go_at_call 8; (with_reducible refine (HBB.out _ _ _ HB10.out HB10S.out).mono ?_); rintro e w11 hbare11; obtain ⟨a11, k11, qs, Sy, rfl, hl11, hp11, hn11, hs11, g11⟩ := bare_list (d := 4) hbare11; have HL11 := Lib.hid hl11; have HP11 := Lib.hid hp11; have HN11 := Lib.hid hn11; have HS11 := Lib.hid hs11; have HG11 := Lib.hid g11; have G11 := Lib.hid (below_step G10.out g11); have hv11 := HV10.out.after g11; have HV11 := Lib.hid hv11; have HR11 := Lib.hid (HL10.out.row.below g11); have HCE := Lib.hid hl11.row.cellsAt.2; have HO11 := Lib.hid (itvs_one hl11); have HLN : Hid ((ps.map ItV.cells).length + (qs.map ItV.cells).length ≤ 1000000) := Lib.hid (by rw [List.length_map, List.length_map, HN10.out, hn11]; exact HSUM.out); have HSZ : Hid (w9.heap.size ≤ w11.heap.size) := Lib.hid (Nat.le_trans HG10.out.size g11.size); have HNQ : Hid (J.length = (qs.map ItV.cells).length) := Lib.hid (by rw [List.length_map]; exact hn11.symm); have HC11 := Lib.hid (ItemsIs.keep (w' := w11) HC10.out (fun _ h => h) (fun b hb => (g11).block b (HC10S.out b hb))); have HC11S : Hid (∀ b, (Y5.heap.size ≤ b ∧ b < w6.heap.size) → b < w11.heap.size) := Lib.hid (fun b hb => Nat.lt_of_lt_of_le (HC10S.out b hb) (g11).size); clear g11 hv11 hl11 hp11 hn11 hs11 hbare11)
    | (at_builtin; (refine wp_rowKs (T := 23) (t := 37) (sz := 6) rfl _ _ rfl Tryd.underlying23 info_item rfl (by decide) (by decide) w9.heap.size _ _ rfl HR11.out a11 J.length k11 (qs.map ItV.cells) rfl HNQ.out HCE.out HO11.out HLN.out HSZ.out ?_)))
  intro v12 w12 hr12 ho12 hob12
  have HI12 : Hid (ItemsIs 5 w12 (fun b => w9.heap.size ≤ b ∧ b < w12.heap.size) v12 (bareL K)) := Lib.hid (by
    have := join_lists HL10.out HL11.out HS10.out HS11.out HG11.out hr12 ho12 hob12 HG10.out.size
    rw [HP10.out, HP11.out, ← HKB.out] at this
    exact this)
  obtain ⟨a12, k12, rfl⟩ := HI12.out.size
  have G12 := Lib.hid (G11.out.trans (ho12.bel.mono G9.out.size))
  have hv12 := HV11.out.hold (ho12.bel.block f7 HV9.out.s) ho12.size
  have n0 := hv12.c0; have n1 := hv12.c1; have n2 := hv12.c2
  have hcl : ∀ b, (Y5.heap.size ≤ b ∧ b < w6.heap.size) → b < w9.heap.size := HC9S.out
  have HC12 := Lib.hid (ItemsIs.keep (w' := w12) HC11.out (fun _ h => h) (fun b hb => ho12.bel.block b (hcl b hb)))
  have HC12S : Hid (∀ b, (Y5.heap.size ≤ b ∧ b < w6.heap.size) → b < w12.heap.size) := Lib.hid (fun b hb => Nat.lt_of_lt_of_le (HC11S.out b hb) ho12.size)
  clear hr12 ho12 hob12 hv12 hcl
  go_wp2_with (first
    | (go_at_call 8; (with_reducible refine (HBC.out _ _ _ HC12.out HC12S.out).mono ?_); rintro e w13 ⟨a13, k13, rfl, i13, g13⟩; have G13 := Lib.hid (below_step G12.out g13); have HI13 := Lib.hid (ItemsIs.keep (w' := w13) HI12.out (fun _ h => h) (fun b hb => g13.block b hb.2)); have HJ13 := Lib.hid i13; clear i13 g13)
    | (go_at_call 9; (with_reducible refine (HSM.out _ _ _ _ _ HJ13.out HI13.out).mono ?_); rintro e w14 ⟨rfl, q, rfl⟩))
  go_ret
  exact ⟨rfl, G13.out.trans ((Go.below_drewN (Below.refl w13.heap.size w13) q).mono G13.out.size)⟩

theorem trejoins_walk (a b : ByteArray) (w : World) (env : Env w) : Calls Tryd.prog 3 #[.string a, .string b] w fun e w' => e = .returned (.bool true) ∧ Below w.heap.size w w' := by
  by_cases h5 : a.size ≤ 5000
  · by_cases h6 : b.size ≤ 5000
    · obtain ⟨s2, hs2⟩ : ∃ x, a ++ (⟨#[10]⟩ : ByteArray) ++ b = x := ⟨_, rfl⟩
      have hsz2 : s2.size ≤ 40000 := by rw [← hs2, ByteArray.size_append, ByteArray.size_append]; show a.size + 1 + b.size ≤ 40000; omega
      have e1 := treR_of (s := a) (by omega)
      have e2 := treR_of (s := b) (by omega)
      have e3 := treR_of hsz2
      have hn2 : nums s2 = nums a ++ 10 :: nums b := by rw [← hs2, nums_cat, nums_cat, List.append_assoc]; rfl
      cases hr : treR a with
      | error x =>
        obtain ⟨c, p, q⟩ := x
        exact trejoins_bada a b w env h5 h6 c p q _ _ _ _ hr rfl rfl
      | ok I =>
        cases hr2 : treR b with
        | error x =>
          obtain ⟨c, p, q⟩ := x
          by_cases h0 : I.length = 0
          · exact trejoins_badb0 a b w env h5 h6 c p q I hr hr2 (List.eq_nil_of_length_eq_zero h0)
          · exact trejoins_badb1 a b w env h5 h6 c p q I hr hr2 h0
        | ok J =>
          have ha : treT a = .ok I := by rw [← e1]; exact hr
          have hb : treT b = .ok J := by rw [← e2]; exact hr2
          have fa := tre_few ha
          have fb := tre_few hb
          rcases treT_join hn2 ha hb with ⟨h1, K, hK, hKb⟩ | ⟨h1, p, q, hK⟩
          · have hr3 : treR s2 = .ok K := by rw [e3]; exact hK
            exact trejoins_one a b w env h5 h6 I J K 0 0 0 hr hr2 (by rw [hs2, hr3]; rfl) (by rw [hs2, hr3]; rfl) fa.1 fb.1 h1 ⟨rfl, rfl, rfl⟩ hKb (tre_few hK).1 (treF_fewW ha) (treF_fewW hb) (treF_fewW hK)
          · have hr3 : treR s2 = .error (9, p, q) := by rw [e3]; exact hK
            exact trejoins_much a b w env h5 h6 I J [] 9 p q hr hr2 (by rw [hs2, hr3]; rfl) (by rw [hs2, hr3]; rfl) fa.1 fb.1 h1 rfl rfl
    · exact trejoins_longb a b w env h5 (by omega)
  · exact trejoins_longa a b w env (by omega)

end Go.Proofs.YthfmllgflnideaaDoor
