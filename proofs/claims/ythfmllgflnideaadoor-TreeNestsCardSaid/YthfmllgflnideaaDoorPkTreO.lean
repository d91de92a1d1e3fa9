/-
  What Parse gives in one word; TreeNests, walked.
-/
import Derived.Test.YthfmllgflnideaaDoorPkTrev
import Derived.Test.YthfmllgflnideaaDoorPkTrej
namespace Go.Proofs.YthfmllgflnideaaDoor
open Go.RowKit

theorem nums_cat (a b : ByteArray) : nums (a ++ b) = nums a ++ nums b := by
  unfold nums
  rw [← List.map_append]
  congr 1
theorem ItemsIs.up {d : Nat} {w : World} {S : Nat → Prop} {v : Value} {L : List It} (h : ItemsIs d w S v L) : ItemsIs (d + 1) w S v L := by
  rcases h.deeper with h | ⟨rfl, a, c, rfl⟩
  · exact h
  · exact ItemsIs.none' _ _ _ _ _
/-- A fault's code and place; none. -/
def resC (r : Except (Int × Int × Int) (List It)) : Int × Int × Int := match r with
  | .error x => x
  | .ok _ => (0, 0, 0)
def resL (r : Except (Int × Int × Int) (List It)) : List It := match r with
  | .error _ => []
  | .ok L => L
/-- What Parse gives, in one word. -/
def GivesOut (L : List It) (c x y : Int) (W : World) (e : Ending) (w' : World) : Prop :=
  ∃ a k, e = .returned (.tuple #[.slice a L.length k, .agg #[.int .i64 c, .int .i64 x, .int .i64 y]]) ∧ ItemsIs 5 w' (fun b => W.heap.size ≤ b ∧ b < w'.heap.size) (.slice a L.length k) L ∧ Below W.heap.size W w'
theorem parse_out (s : ByteArray) (W : World) (env : Env W) : Calls Tryd.prog 6 #[.string s] W (GivesOut (resL (treR s)) (resC (treR s)).1 (resC (treR s)).2.1 (resC (treR s)).2.2 W) := (parse_any s W env).mono (by
  rintro e w' ⟨hb, h | h⟩
  · obtain ⟨c, a, b, h, rfl⟩ := h
    rw [h]
    exact ⟨none, 0, rfl, ItemsIs.none' _ _ _ _ _, hb⟩
  · obtain ⟨L, v, h, rfl, hi⟩ := h
    rw [h]
    obtain ⟨a, k, rfl⟩ := hi.size
    exact ⟨a, k, rfl, hi, hb⟩)
theorem treR_of {s : ByteArray} (h : s.size ≤ 40000) : treR s = treT s := if_pos h
theorem bare_items {d : Nat} {L : List It} {w w' : World} {e : Ending} (h : GivesBare (d + 1) L w e w') : ∃ a k, e = .returned (.slice a L.length k) ∧ ItemsIs (d + 1) w' (fun b => w.heap.size ≤ b ∧ b < w'.heap.size) (.slice a L.length k) (bareL L) ∧ Below w.heap.size w w' := by
  obtain ⟨v, ps, Sx, rfl, hl, hp, hs, hb⟩ := h
  obtain ⟨a, k, hv⟩ := hl.row.size
  have e : (ps.map ItV.cells).length = L.length := by rw [List.length_map, ← List.length_map (f := ItV.x), hp, bareL_len]
  rw [e] at hv
  subst hv
  refine ⟨a, k, rfl, ?_, hb⟩
  have := hl.items (S' := fun b => w.heap.size ≤ b ∧ b < w'.heap.size) hs (fun b hb => hl.row.lt hb)
  rw [hp] at this
  exact this

set_option maxRecDepth 100000 in
set_option maxHeartbeats 8000000 in
theorem trenests_long (s : ByteArray) (w : World) (env : Env w) (hm : 5000 < s.size) : Calls Tryd.prog 4 #[.string s] w fun e w' => e = .returned (.bool true) ∧ Below w.heap.size w w' := by
  have HA := Lib.hid (tre_awake w env)
  have k1 : (5000 : Int) < (s.size : Int) := by omega
  clear hm env
  go_enter Tryd.func4, Tryd.ntmps4
  go_wp2_with (go_at_call 5; (with_reducible refine (HA.out).mono ?_); rintro e w1 ⟨rfl, g1⟩; have G1 := Lib.hid g1; clear g1)
  go_ret
  exact ⟨rfl, G1.out⟩

set_option maxRecDepth 100000 in
set_option maxHeartbeats 16000000 in
theorem trenests_bad (s : ByteArray) (w : World) (env : Env w) (hm : s.size ≤ 5000) (I X : List It) (c1 x1 y1 c2 x2 y2 : Int) (hr : (resL (treR s), resC (treR s)) = (I, c1, x1, y1)) (hr2 : (resL (treR ((⟨#[97, 32, 123]⟩ : ByteArray) ++ s ++ ⟨#[10, 125]⟩)), resC (treR ((⟨#[97, 32, 123]⟩ : ByteArray) ++ s ++ ⟨#[10, 125]⟩))) = (X, c2, x2, y2)) (hc : c1 ≠ 0) (hI : I = []) : Calls Tryd.prog 4 #[.string s] w fun e w' => e = .returned (.bool true) ∧ Below w.heap.size w w' := by
  have HA := Lib.hid (tre_awake w env)
  have k1 : ¬ (5000 : Int) < (s.size : Int) := by omega
  obtain ⟨s2, hs2⟩ : ∃ x, (⟨#[97, 32, 123]⟩ : ByteArray) ++ s ++ ⟨#[10, 125]⟩ = x := ⟨_, rfl⟩
  have HP1 : Hid (∀ W, Below w.heap.size w W → Calls Tryd.prog 6 #[.string s] W (GivesOut I c1 x1 y1 W)) := Lib.hid (fun W hW => by have := parse_out s W (env.step hW); have e1 := congrArg Prod.fst hr; have e2 := congrArg Prod.snd hr; simp only at e1 e2; rw [e1, e2] at this; exact this)
  have HP2 : Hid (∀ W, Below w.heap.size w W → Calls Tryd.prog 6 #[.string s2] W (GivesOut X c2 x2 y2 W)) := Lib.hid (fun W hW => by have := parse_out s2 W (env.step hW); have e1 := congrArg Prod.fst hr2; have e2 := congrArg Prod.snd hr2; simp only at e1 e2; rw [← hs2, e1, e2] at this; rw [← hs2]; exact this)
  have hz1 : 3 + s.size ≤ 9223372036854775807 := by omega
  have hz2 : 3 + s.size + 2 ≤ 9223372036854775807 := by omega
  have hcb : (c1 != 0) = true := by simpa using hc
  subst hI
  clear hm env hr hr2 hc
  go_enter Tryd.func4, Tryd.ntmps4
  go_wp2_with (first
    | (go_at_call 5; (with_reducible refine (HA.out).mono ?_); rintro e w1 ⟨rfl, g1⟩; have G1 := Lib.hid g1; clear g1)
    | (go_at_call 6; (with_reducible refine (HP1.out _ G1.out).mono ?_); rintro e w2 ⟨a2, c2', rfl, i2, g2⟩; have G2 := Lib.hid (below_step G1.out g2); obtain ⟨f3, U3, Y3, fm3⟩ := fault_var w2 c1 x1 y1; have hf3 := fm3.g0; have ha3 := fm3.a2; have hs3 := fm3.s3; have k30 := fm3.v2.c0; have q30 := fm3.v2.q0; have k31 := fm3.v2.c1; have q31 := fm3.v2.q1; have k32 := fm3.v2.c2; have q32 := fm3.v2.q2; have d30 := fm3.v3.c0; have d31 := fm3.v3.c1; have d32 := fm3.v3.c2; have G3 := Lib.hid (below_step G2.out fm3.bel); have HV3 := Lib.hid fm3.v3; have HF3 := Lib.hid fm3.bel; have HI3 := Lib.hid (ItemsIs.keep (w' := Y3) i2 (fun _ h => h) (fun b hb => fm3.bel.block b hb.2)); have HI3S : Hid (∀ b, (w1.heap.size ≤ b ∧ b < w2.heap.size) → b < Y3.heap.size) := Lib.hid (fun b hb => Nat.lt_of_lt_of_le hb.2 fm3.bel.size); clear i2 g2 fm3)
    | (go_at_call 6; (with_reducible refine (HP2.out _ G3.out).mono ?_); rintro e w4 ⟨a4, c4', rfl, i4, g4⟩; have G4 := Lib.hid (below_step G3.out g4); clear hf3 ha3 hs3 k30 q30 d30 k31 q31 d31 k32 q32 d32; obtain ⟨f5, U5, Y5, fm5⟩ := fault_var w4 c2 x2 y2; have hf5 := fm5.g0; have ha5 := fm5.a2; have hs5 := fm5.s3; have k50 := fm5.v2.c0; have q50 := fm5.v2.q0; have k51 := fm5.v2.c1; have q51 := fm5.v2.q1; have k52 := fm5.v2.c2; have q52 := fm5.v2.q2; have d50 := fm5.v3.c0; have d51 := fm5.v3.c1; have d52 := fm5.v3.c2; have G5 := Lib.hid (below_step G4.out fm5.bel); have HV5 := Lib.hid fm5.v3; have HF5 := Lib.hid fm5.bel; have hv5 := HV3.out.after (below_step g4 fm5.bel); have HVF := Lib.hid hv5; have m0 := hv5.c0; have m1 := hv5.c1; have m2 := hv5.c2; have HI5 := Lib.hid (ItemsIs.keep (w' := Y5) HI3.out (fun _ h => h) (fun b hb => (below_step g4 fm5.bel).block b (HI3S.out b hb))); have HI5S : Hid (∀ b, (w1.heap.size ≤ b ∧ b < w2.heap.size) → b < Y5.heap.size) := Lib.hid (fun b hb => Nat.lt_of_lt_of_le (HI3S.out b hb) (below_step g4 fm5.bel).size); have HX5 := Lib.hid (ItemsIs.keep (w' := Y5) i4 (fun _ h => h) (fun b hb => fm5.bel.block b hb.2)); have HX5S : Hid (∀ b, (Y3.heap.size ≤ b ∧ b < w4.heap.size) → b < Y5.heap.size) := Lib.hid (fun b hb => Nat.lt_of_lt_of_le hb.2 fm5.bel.size); clear i4 g4 fm5 hv5))
  go_ret
  exact ⟨rfl, G5.out⟩

set_option maxRecDepth 100000 in
set_option maxHeartbeats 16000000 in
theorem trenests_deep19 (s : ByteArray) (w : World) (env : Env w) (hm : s.size ≤ 5000) (I X : List It) (c1 x1 y1 c2 x2 y2 : Int) (hr : (resL (treR s), resC (treR s)) = (I, c1, x1, y1)) (hr2 : (resL (treR ((⟨#[97, 32, 123]⟩ : ByteArray) ++ s ++ ⟨#[10, 125]⟩)), resC (treR ((⟨#[97, 32, 123]⟩ : ByteArray) ++ s ++ ⟨#[10, 125]⟩))) = (X, c2, x2, y2)) (D N : Nat) (hD : depL I = D) (hN : cntL I = N) (HFEW : N ≤ 300 ∧ D ≤ 4) (hc1 : c1 = 0) (h3 : 3 < D) (hX : X = []) (hc2 : c2 = 19) : Calls Tryd.prog 4 #[.string s] w fun e w' => e = .returned (.bool true) ∧ Below w.heap.size w w' := by
  have HA := Lib.hid (tre_awake w env)
  have k1 : ¬ (5000 : Int) < (s.size : Int) := by omega
  obtain ⟨s2, hs2⟩ : ∃ x, (⟨#[97, 32, 123]⟩ : ByteArray) ++ s ++ ⟨#[10, 125]⟩ = x := ⟨_, rfl⟩
  have HP1 : Hid (∀ W, Below w.heap.size w W → Calls Tryd.prog 6 #[.string s] W (GivesOut I c1 x1 y1 W)) := Lib.hid (fun W hW => by have := parse_out s W (env.step hW); have e1 := congrArg Prod.fst hr; have e2 := congrArg Prod.snd hr; simp only at e1 e2; rw [e1, e2] at this; exact this)
  have HP2 : Hid (∀ W, Below w.heap.size w W → Calls Tryd.prog 6 #[.string s2] W (GivesOut X c2 x2 y2 W)) := Lib.hid (fun W hW => by have := parse_out s2 W (env.step hW); have e1 := congrArg Prod.fst hr2; have e2 := congrArg Prod.snd hr2; simp only at e1 e2; rw [← hs2, e1, e2] at this; rw [← hs2]; exact this)
  have hz1 : 3 + s.size ≤ 9223372036854775807 := by omega
  have hz2 : 3 + s.size + 2 ≤ 9223372036854775807 := by omega
  have hfew := HFEW
  have HDEP : Hid (∀ (S : Nat → Prop) (v : Value) (W : World), ItemsIs 5 W S v I → (∀ b, S b → b < W.heap.size) → Calls Tryd.prog 10 #[v] W fun e w' => e = .returned (.int .i64 (D : Int)) ∧ Below W.heap.size W w') := Lib.hid (fun S v W h1 h2 => by rw [← hD]; exact sdepth_any 5 S v I W h1 h2 (by have := len_cnt I; omega) (by omega) (by omega))
  have HCNT : Hid (∀ (S : Nat → Prop) (v : Value) (W : World), ItemsIs 5 W S v I → (∀ b, S b → b < W.heap.size) → Calls Tryd.prog 7 #[v] W fun e w' => e = .returned (.int .i64 (N : Int)) ∧ Below W.heap.size W w') := Lib.hid (fun S v W h1 h2 => by rw [← hN]; exact scount_any 5 S v I W h1 h2 (by omega))
  subst hc1
  subst hX hc2
  have hd3 : (3 : Int) < (D : Int) := by omega
  clear HFEW hfew hD hN
  clear h3
  clear hm env hr hr2
  go_enter Tryd.func4, Tryd.ntmps4
  go_wp2_with (first
    | (go_at_call 5; (with_reducible refine (HA.out).mono ?_); rintro e w1 ⟨rfl, g1⟩; have G1 := Lib.hid g1; clear g1)
    | (go_at_call 6; (with_reducible refine (HP1.out _ G1.out).mono ?_); rintro e w2 ⟨a2, c2', rfl, i2, g2⟩; have G2 := Lib.hid (below_step G1.out g2); obtain ⟨f3, U3, Y3, fm3⟩ := fault_var w2 0 x1 y1; have hf3 := fm3.g0; have ha3 := fm3.a2; have hs3 := fm3.s3; have k30 := fm3.v2.c0; have q30 := fm3.v2.q0; have k31 := fm3.v2.c1; have q31 := fm3.v2.q1; have k32 := fm3.v2.c2; have q32 := fm3.v2.q2; have d30 := fm3.v3.c0; have d31 := fm3.v3.c1; have d32 := fm3.v3.c2; have G3 := Lib.hid (below_step G2.out fm3.bel); have HV3 := Lib.hid fm3.v3; have HF3 := Lib.hid fm3.bel; have HI3 := Lib.hid (ItemsIs.keep (w' := Y3) i2 (fun _ h => h) (fun b hb => fm3.bel.block b hb.2)); have HI3S : Hid (∀ b, (w1.heap.size ≤ b ∧ b < w2.heap.size) → b < Y3.heap.size) := Lib.hid (fun b hb => Nat.lt_of_lt_of_le hb.2 fm3.bel.size); clear i2 g2 fm3)
    | (go_at_call 6; (with_reducible refine (HP2.out _ G3.out).mono ?_); rintro e w4 ⟨a4, c4', rfl, i4, g4⟩; have G4 := Lib.hid (below_step G3.out g4); clear hf3 ha3 hs3 k30 q30 d30 k31 q31 d31 k32 q32 d32; obtain ⟨f5, U5, Y5, fm5⟩ := fault_var w4 19 x2 y2; have hf5 := fm5.g0; have ha5 := fm5.a2; have hs5 := fm5.s3; have k50 := fm5.v2.c0; have q50 := fm5.v2.q0; have k51 := fm5.v2.c1; have q51 := fm5.v2.q1; have k52 := fm5.v2.c2; have q52 := fm5.v2.q2; have d50 := fm5.v3.c0; have d51 := fm5.v3.c1; have d52 := fm5.v3.c2; have G5 := Lib.hid (below_step G4.out fm5.bel); have HV5 := Lib.hid fm5.v3; have HF5 := Lib.hid fm5.bel; have hv5 := HV3.out.after (below_step g4 fm5.bel); have HVF := Lib.hid hv5; have m0 := hv5.c0; have m1 := hv5.c1; have m2 := hv5.c2; have HI5 := Lib.hid (ItemsIs.keep (w' := Y5) HI3.out (fun _ h => h) (fun b hb => (below_step g4 fm5.bel).block b (HI3S.out b hb))); have HI5S : Hid (∀ b, (w1.heap.size ≤ b ∧ b < w2.heap.size) → b < Y5.heap.size) := Lib.hid (fun b hb => Nat.lt_of_lt_of_le (HI3S.out b hb) (below_step g4 fm5.bel).size); have HX5 := Lib.hid (ItemsIs.keep (w' := Y5) i4 (fun _ h => h) (fun b hb => fm5.bel.block b hb.2)); have HX5S : Hid (∀ b, (Y3.heap.size ≤ b ∧ b < w4.heap.size) → b < Y5.heap.size) := Lib.hid (fun b hb => Nat.lt_of_lt_of_le hb.2 fm5.bel.size); clear i4 g4 fm5 hv5)
    | (go_at_call 10; (with_reducible refine (HDEP.out _ _ _ HI5.out HI5S.out).mono ?_); rintro e w6 ⟨rfl, g6⟩; have G6 := Lib.hid (below_step G5.out g6); have hv6 := HV5.out.after g6; have n0 := hv6.c0; have n1 := hv6.c1; have n2 := hv6.c2; have HV6 := Lib.hid hv6; have HI6 := Lib.hid (ItemsIs.keep (w' := w6) HI5.out (fun _ h => h) (fun b hb => g6.block b (HI5S.out b hb))); have HI6S : Hid (∀ b, (w1.heap.size ≤ b ∧ b < w2.heap.size) → b < w6.heap.size) := Lib.hid (fun b hb => Nat.lt_of_lt_of_le (HI5S.out b hb) g6.size); have HX6 := Lib.hid (ItemsIs.keep (w' := w6) HX5.out (fun _ h => h) (fun b hb => g6.block b (HX5S.out b hb))); have HX6S : Hid (∀ b, (Y3.heap.size ≤ b ∧ b < w4.heap.size) → b < w6.heap.size) := Lib.hid (fun b hb => Nat.lt_of_lt_of_le (HX5S.out b hb) g6.size); clear g6 hv6))
  go_ret
  exact ⟨rfl, G6.out⟩

set_option maxRecDepth 100000 in
set_option maxHeartbeats 16000000 in
theorem trenests_deep9 (s : ByteArray) (w : World) (env : Env w) (hm : s.size ≤ 5000) (I X : List It) (c1 x1 y1 c2 x2 y2 : Int) (hr : (resL (treR s), resC (treR s)) = (I, c1, x1, y1)) (hr2 : (resL (treR ((⟨#[97, 32, 123]⟩ : ByteArray) ++ s ++ ⟨#[10, 125]⟩)), resC (treR ((⟨#[97, 32, 123]⟩ : ByteArray) ++ s ++ ⟨#[10, 125]⟩))) = (X, c2, x2, y2)) (D N : Nat) (hD : depL I = D) (hN : cntL I = N) (HFEW : N ≤ 300 ∧ D ≤ 4) (hc1 : c1 = 0) (h3 : 3 < D) (h4 : 300 ≤ N) (hc2 : c2 = 9) : Calls Tryd.prog 4 #[.string s] w fun e w' => e = .returned (.bool true) ∧ Below w.heap.size w w' := by
  have HA := Lib.hid (tre_awake w env)
  have k1 : ¬ (5000 : Int) < (s.size : Int) := by omega
  obtain ⟨s2, hs2⟩ : ∃ x, (⟨#[97, 32, 123]⟩ : ByteArray) ++ s ++ ⟨#[10, 125]⟩ = x := ⟨_, rfl⟩
  have HP1 : Hid (∀ W, Below w.heap.size w W → Calls Tryd.prog 6 #[.string s] W (GivesOut I c1 x1 y1 W)) := Lib.hid (fun W hW => by have := parse_out s W (env.step hW); have e1 := congrArg Prod.fst hr; have e2 := congrArg Prod.snd hr; simp only at e1 e2; rw [e1, e2] at this; exact this)
  have HP2 : Hid (∀ W, Below w.heap.size w W → Calls Tryd.prog 6 #[.string s2] W (GivesOut X c2 x2 y2 W)) := Lib.hid (fun W hW => by have := parse_out s2 W (env.step hW); have e1 := congrArg Prod.fst hr2; have e2 := congrArg Prod.snd hr2; simp only at e1 e2; rw [← hs2, e1, e2] at this; rw [← hs2]; exact this)
  have hz1 : 3 + s.size ≤ 9223372036854775807 := by omega
  have hz2 : 3 + s.size + 2 ≤ 9223372036854775807 := by omega
  have hfew := HFEW
  have HDEP : Hid (∀ (S : Nat → Prop) (v : Value) (W : World), ItemsIs 5 W S v I → (∀ b, S b → b < W.heap.size) → Calls Tryd.prog 10 #[v] W fun e w' => e = .returned (.int .i64 (D : Int)) ∧ Below W.heap.size W w') := Lib.hid (fun S v W h1 h2 => by rw [← hD]; exact sdepth_any 5 S v I W h1 h2 (by have := len_cnt I; omega) (by omega) (by omega))
  have HCNT : Hid (∀ (S : Nat → Prop) (v : Value) (W : World), ItemsIs 5 W S v I → (∀ b, S b → b < W.heap.size) → Calls Tryd.prog 7 #[v] W fun e w' => e = .returned (.int .i64 (N : Int)) ∧ Below W.heap.size W w') := Lib.hid (fun S v W h1 h2 => by rw [← hN]; exact scount_any 5 S v I W h1 h2 (by omega))
  subst hc1
  subst hc2
  have hd3 : (3 : Int) < (D : Int) := by omega
  have hn3 : (300 : Int) ≤ (N : Int) := by omega
  clear HFEW hfew hD hN
  clear h3 h4
  clear hm env hr hr2
  go_enter Tryd.func4, Tryd.ntmps4
  go_wp2_with (first
    | (go_at_call 5; (with_reducible refine (HA.out).mono ?_); rintro e w1 ⟨rfl, g1⟩; have G1 := Lib.hid g1; clear g1)
    | (go_at_call 6; (with_reducible refine (HP1.out _ G1.out).mono ?_); rintro e w2 ⟨a2, c2', rfl, i2, g2⟩; have G2 := Lib.hid (below_step G1.out g2); obtain ⟨f3, U3, Y3, fm3⟩ := fault_var w2 0 x1 y1; have hf3 := fm3.g0; have ha3 := fm3.a2; have hs3 := fm3.s3; have k30 := fm3.v2.c0; have q30 := fm3.v2.q0; have k31 := fm3.v2.c1; have q31 := fm3.v2.q1; have k32 := fm3.v2.c2; have q32 := fm3.v2.q2; have d30 := fm3.v3.c0; have d31 := fm3.v3.c1; have d32 := fm3.v3.c2; have G3 := Lib.hid (below_step G2.out fm3.bel); have HV3 := Lib.hid fm3.v3; have HF3 := Lib.hid fm3.bel; have HI3 := Lib.hid (ItemsIs.keep (w' := Y3) i2 (fun _ h => h) (fun b hb => fm3.bel.block b hb.2)); have HI3S : Hid (∀ b, (w1.heap.size ≤ b ∧ b < w2.heap.size) → b < Y3.heap.size) := Lib.hid (fun b hb => Nat.lt_of_lt_of_le hb.2 fm3.bel.size); clear i2 g2 fm3)
    | (go_at_call 6; (with_reducible refine (HP2.out _ G3.out).mono ?_); rintro e w4 ⟨a4, c4', rfl, i4, g4⟩; have G4 := Lib.hid (below_step G3.out g4); clear hf3 ha3 hs3 k30 q30 d30 k31 q31 d31 k32 q32 d32; obtain ⟨f5, U5, Y5, fm5⟩ := fault_var w4 9 x2 y2; have hf5 := fm5.g0; have ha5 := fm5.a2; have hs5 := fm5.s3; have k50 := fm5.v2.c0; have q50 := fm5.v2.q0; have k51 := fm5.v2.c1; have q51 := fm5.v2.q1; have k52 := fm5.v2.c2; have q52 := fm5.v2.q2; have d50 := fm5.v3.c0; have d51 := fm5.v3.c1; have d52 := fm5.v3.c2; have G5 := Lib.hid (below_step G4.out fm5.bel); have HV5 := Lib.hid fm5.v3; have HF5 := Lib.hid fm5.bel; have hv5 := HV3.out.after (below_step g4 fm5.bel); have HVF := Lib.hid hv5; have m0 := hv5.c0; have m1 := hv5.c1; have m2 := hv5.c2; have HI5 := Lib.hid (ItemsIs.keep (w' := Y5) HI3.out (fun _ h => h) (fun b hb => (below_step g4 fm5.bel).block b (HI3S.out b hb))); have HI5S : Hid (∀ b, (w1.heap.size ≤ b ∧ b < w2.heap.size) → b < Y5.heap.size) := Lib.hid (fun b hb => Nat.lt_of_lt_of_le (HI3S.out b hb) (below_step g4 fm5.bel).size); have HX5 := Lib.hid (ItemsIs.keep (w' := Y5) i4 (fun _ h => h) (fun b hb => fm5.bel.block b hb.2)); have HX5S : Hid (∀ b, (Y3.heap.size ≤ b ∧ b < w4.heap.size) → b < Y5.heap.size) := Lib.hid (fun b hb => Nat.lt_of_lt_of_le hb.2 fm5.bel.size); clear i4 g4 fm5 hv5)
    | (go_at_call 10; (with_reducible refine (HDEP.out _ _ _ HI5.out HI5S.out).mono ?_); rintro e w6 ⟨rfl, g6⟩; have G6 := Lib.hid (below_step G5.out g6); have hv6 := HV5.out.after g6; have n0 := hv6.c0; have n1 := hv6.c1; have n2 := hv6.c2; have HV6 := Lib.hid hv6; have HI6 := Lib.hid (ItemsIs.keep (w' := w6) HI5.out (fun _ h => h) (fun b hb => g6.block b (HI5S.out b hb))); have HI6S : Hid (∀ b, (w1.heap.size ≤ b ∧ b < w2.heap.size) → b < w6.heap.size) := Lib.hid (fun b hb => Nat.lt_of_lt_of_le (HI5S.out b hb) g6.size); have HX6 := Lib.hid (ItemsIs.keep (w' := w6) HX5.out (fun _ h => h) (fun b hb => g6.block b (HX5S.out b hb))); have HX6S : Hid (∀ b, (Y3.heap.size ≤ b ∧ b < w4.heap.size) → b < w6.heap.size) := Lib.hid (fun b hb => Nat.lt_of_lt_of_le (HX5S.out b hb) g6.size); clear g6 hv6)
    | (go_at_call 7; (with_reducible refine (HCNT.out _ _ _ HI6.out HI6S.out).mono ?_); rintro e w7 ⟨rfl, g7⟩; have G7 := Lib.hid (below_step G6.out g7); have hv7 := HV6.out.after g7; have p0 := hv7.c0; have p1 := hv7.c1; have p2 := hv7.c2; have HV7 := Lib.hid hv7; have HI7 := Lib.hid (ItemsIs.keep (w' := w7) HI6.out (fun _ h => h) (fun b hb => g7.block b (HI6S.out b hb))); have HI7S : Hid (∀ b, (w1.heap.size ≤ b ∧ b < w2.heap.size) → b < w7.heap.size) := Lib.hid (fun b hb => Nat.lt_of_lt_of_le (HI6S.out b hb) g7.size); have HX7 := Lib.hid (ItemsIs.keep (w' := w7) HX6.out (fun _ h => h) (fun b hb => g7.block b (HX6S.out b hb))); have HX7S : Hid (∀ b, (Y3.heap.size ≤ b ∧ b < w4.heap.size) → b < w7.heap.size) := Lib.hid (fun b hb => Nat.lt_of_lt_of_le (HX6S.out b hb) g7.size); clear g7 hv7))
  go_ret
  exact ⟨rfl, G7.out⟩

set_option maxRecDepth 100000 in
set_option maxHeartbeats 16000000 in
theorem trenests_much (s : ByteArray) (w : World) (env : Env w) (hm : s.size ≤ 5000) (I X : List It) (c1 x1 y1 c2 x2 y2 : Int) (hr : (resL (treR s), resC (treR s)) = (I, c1, x1, y1)) (hr2 : (resL (treR ((⟨#[97, 32, 123]⟩ : ByteArray) ++ s ++ ⟨#[10, 125]⟩)), resC (treR ((⟨#[97, 32, 123]⟩ : ByteArray) ++ s ++ ⟨#[10, 125]⟩))) = (X, c2, x2, y2)) (D N : Nat) (hD : depL I = D) (hN : cntL I = N) (HFEW : N ≤ 300 ∧ D ≤ 4) (hc1 : c1 = 0) (h3 : D ≤ 3) (h4 : 300 ≤ N) (hX : X = []) (hc2 : c2 = 9) : Calls Tryd.prog 4 #[.string s] w fun e w' => e = .returned (.bool true) ∧ Below w.heap.size w w' := by
  have HA := Lib.hid (tre_awake w env)
  have k1 : ¬ (5000 : Int) < (s.size : Int) := by omega
  obtain ⟨s2, hs2⟩ : ∃ x, (⟨#[97, 32, 123]⟩ : ByteArray) ++ s ++ ⟨#[10, 125]⟩ = x := ⟨_, rfl⟩
  have HP1 : Hid (∀ W, Below w.heap.size w W → Calls Tryd.prog 6 #[.string s] W (GivesOut I c1 x1 y1 W)) := Lib.hid (fun W hW => by have := parse_out s W (env.step hW); have e1 := congrArg Prod.fst hr; have e2 := congrArg Prod.snd hr; simp only at e1 e2; rw [e1, e2] at this; exact this)
  have HP2 : Hid (∀ W, Below w.heap.size w W → Calls Tryd.prog 6 #[.string s2] W (GivesOut X c2 x2 y2 W)) := Lib.hid (fun W hW => by have := parse_out s2 W (env.step hW); have e1 := congrArg Prod.fst hr2; have e2 := congrArg Prod.snd hr2; simp only at e1 e2; rw [← hs2, e1, e2] at this; rw [← hs2]; exact this)
  have hz1 : 3 + s.size ≤ 9223372036854775807 := by omega
  have hz2 : 3 + s.size + 2 ≤ 9223372036854775807 := by omega
  have hfew := HFEW
  have HDEP : Hid (∀ (S : Nat → Prop) (v : Value) (W : World), ItemsIs 5 W S v I → (∀ b, S b → b < W.heap.size) → Calls Tryd.prog 10 #[v] W fun e w' => e = .returned (.int .i64 (D : Int)) ∧ Below W.heap.size W w') := Lib.hid (fun S v W h1 h2 => by rw [← hD]; exact sdepth_any 5 S v I W h1 h2 (by have := len_cnt I; omega) (by omega) (by omega))
  have HCNT : Hid (∀ (S : Nat → Prop) (v : Value) (W : World), ItemsIs 5 W S v I → (∀ b, S b → b < W.heap.size) → Calls Tryd.prog 7 #[v] W fun e w' => e = .returned (.int .i64 (N : Int)) ∧ Below W.heap.size W w') := Lib.hid (fun S v W h1 h2 => by rw [← hN]; exact scount_any 5 S v I W h1 h2 (by omega))
  subst hc1
  subst hX hc2
  have hd3 : ¬ (3 : Int) < (D : Int) := by omega
  have hn3 : (300 : Int) ≤ (N : Int) := by omega
  clear HFEW hfew hD hN
  clear h3 h4
  clear hm env hr hr2
  go_enter Tryd.func4, Tryd.ntmps4
  go_wp2_with (first
    | (go_at_call 5; (with_reducible refine (HA.out).mono ?_); rintro e w1 ⟨rfl, g1⟩; have G1 := Lib.hid g1; clear g1)
    | (go_at_call 6; (with_reducible refine (HP1.out _ G1.out).mono ?_); rintro e w2 ⟨a2, c2', rfl, i2, g2⟩; have G2 := Lib.hid (below_step G1.out g2); obtain ⟨f3, U3, Y3, fm3⟩ := fault_var w2 0 x1 y1; have hf3 := fm3.g0; have ha3 := fm3.a2; have hs3 := fm3.s3; have k30 := fm3.v2.c0; have q30 := fm3.v2.q0; have k31 := fm3.v2.c1; have q31 := fm3.v2.q1; have k32 := fm3.v2.c2; have q32 := fm3.v2.q2; have d30 := fm3.v3.c0; have d31 := fm3.v3.c1; have d32 := fm3.v3.c2; have G3 := Lib.hid (below_step G2.out fm3.bel); have HV3 := Lib.hid fm3.v3; have HF3 := Lib.hid fm3.bel; have HI3 := Lib.hid (ItemsIs.keep (w' := Y3) i2 (fun _ h => h) (fun b hb => fm3.bel.block b hb.2)); have HI3S : Hid (∀ b, (w1.heap.size ≤ b ∧ b < w2.heap.size) → b < Y3.heap.size) := Lib.hid (fun b hb => Nat.lt_of_lt_of_le hb.2 fm3.bel.size); clear i2 g2 fm3)
    | (go_at_call 6; (with_reducible refine (HP2.out _ G3.out).mono ?_); rintro e w4 ⟨a4, c4', rfl, i4, g4⟩; have G4 := Lib.hid (below_step G3.out g4); clear hf3 ha3 hs3 k30 q30 d30 k31 q31 d31 k32 q32 d32; obtain ⟨f5, U5, Y5, fm5⟩ := fault_var w4 9 x2 y2; have hf5 := fm5.g0; have ha5 := fm5.a2; have hs5 := fm5.s3; have k50 := fm5.v2.c0; have q50 := fm5.v2.q0; have k51 := fm5.v2.c1; have q51 := fm5.v2.q1; have k52 := fm5.v2.c2; have q52 := fm5.v2.q2; have d50 := fm5.v3.c0; have d51 := fm5.v3.c1; have d52 := fm5.v3.c2; have G5 := Lib.hid (below_step G4.out fm5.bel); have HV5 := Lib.hid fm5.v3; have HF5 := Lib.hid fm5.bel; have hv5 := HV3.out.after (below_step g4 fm5.bel); have HVF := Lib.hid hv5; have m0 := hv5.c0; have m1 := hv5.c1; have m2 := hv5.c2; have HI5 := Lib.hid (ItemsIs.keep (w' := Y5) HI3.out (fun _ h => h) (fun b hb => (below_step g4 fm5.bel).block b (HI3S.out b hb))); have HI5S : Hid (∀ b, (w1.heap.size ≤ b ∧ b < w2.heap.size) → b < Y5.heap.size) := Lib.hid (fun b hb => Nat.lt_of_lt_of_le (HI3S.out b hb) (below_step g4 fm5.bel).size); have HX5 := Lib.hid (ItemsIs.keep (w' := Y5) i4 (fun _ h => h) (fun b hb => fm5.bel.block b hb.2)); have HX5S : Hid (∀ b, (Y3.heap.size ≤ b ∧ b < w4.heap.size) → b < Y5.heap.size) := Lib.hid (fun b hb => Nat.lt_of_lt_of_le hb.2 fm5.bel.size); clear i4 g4 fm5 hv5)
    | (go_at_call 10; (with_reducible refine (HDEP.out _ _ _ HI5.out HI5S.out).mono ?_); rintro e w6 ⟨rfl, g6⟩; have G6 := Lib.hid (below_step G5.out g6); have hv6 := HV5.out.after g6; have n0 := hv6.c0; have n1 := hv6.c1; have n2 := hv6.c2; have HV6 := Lib.hid hv6; have HI6 := Lib.hid (ItemsIs.keep (w' := w6) HI5.out (fun _ h => h) (fun b hb => g6.block b (HI5S.out b hb))); have HI6S : Hid (∀ b, (w1.heap.size ≤ b ∧ b < w2.heap.size) → b < w6.heap.size) := Lib.hid (fun b hb => Nat.lt_of_lt_of_le (HI5S.out b hb) g6.size); have HX6 := Lib.hid (ItemsIs.keep (w' := w6) HX5.out (fun _ h => h) (fun b hb => g6.block b (HX5S.out b hb))); have HX6S : Hid (∀ b, (Y3.heap.size ≤ b ∧ b < w4.heap.size) → b < w6.heap.size) := Lib.hid (fun b hb => Nat.lt_of_lt_of_le (HX5S.out b hb) g6.size); clear g6 hv6)
    | (go_at_call 7; (with_reducible refine (HCNT.out _ _ _ HI6.out HI6S.out).mono ?_); rintro e w7 ⟨rfl, g7⟩; have G7 := Lib.hid (below_step G6.out g7); have hv7 := HV6.out.after g7; have p0 := hv7.c0; have p1 := hv7.c1; have p2 := hv7.c2; have HV7 := Lib.hid hv7; have HI7 := Lib.hid (ItemsIs.keep (w' := w7) HI6.out (fun _ h => h) (fun b hb => g7.block b (HI6S.out b hb))); have HI7S : Hid (∀ b, (w1.heap.size ≤ b ∧ b < w2.heap.size) → b < w7.heap.size) := Lib.hid (fun b hb => Nat.lt_of_lt_of_le (HI6S.out b hb) g7.size); have HX7 := Lib.hid (ItemsIs.keep (w' := w7) HX6.out (fun _ h => h) (fun b hb => g7.block b (HX6S.out b hb))); have HX7S : Hid (∀ b, (Y3.heap.size ≤ b ∧ b < w4.heap.size) → b < w7.heap.size) := Lib.hid (fun b hb => Nat.lt_of_lt_of_le (HX6S.out b hb) g7.size); clear g7 hv7))
  go_ret
  exact ⟨rfl, G7.out⟩

set_option maxRecDepth 100000 in
set_option maxHeartbeats 16000000 in
theorem trenests_one (s : ByteArray) (w : World) (env : Env w) (hm : s.size ≤ 5000) (I X : List It) (c1 x1 y1 c2 x2 y2 : Int) (hr : (resL (treR s), resC (treR s)) = (I, c1, x1, y1)) (hr2 : (resL (treR ((⟨#[97, 32, 123]⟩ : ByteArray) ++ s ++ ⟨#[10, 125]⟩)), resC (treR ((⟨#[97, 32, 123]⟩ : ByteArray) ++ s ++ ⟨#[10, 125]⟩))) = (X, c2, x2, y2)) (D N : Nat) (hD : depL I = D) (hN : cntL I = N) (HFEW : N ≤ 300 ∧ D ≤ 4) (hc1 : c1 = 0) (h3 : D ≤ 3) (h4 : N < 300) (x : It) (hX : X = [x]) (hc2 : c2 = 0 ∧ x2 = 0 ∧ y2 = 0) (hxn : x.name = ⟨#[97]⟩) (hxk : x.block = true) (hxo : x.words = []) (hxb : bareL x.kids = bareL I) (hxc : cntL x.kids ≤ 1000000) (hxw : FewW x.kids) (hIw : FewW I) : Calls Tryd.prog 4 #[.string s] w fun e w' => e = .returned (.bool true) ∧ Below w.heap.size w w' := by
  have HA := Lib.hid (tre_awake w env)
  have k1 : ¬ (5000 : Int) < (s.size : Int) := by omega
  obtain ⟨s2, hs2⟩ : ∃ x, (⟨#[97, 32, 123]⟩ : ByteArray) ++ s ++ ⟨#[10, 125]⟩ = x := ⟨_, rfl⟩
  have HP1 : Hid (∀ W, Below w.heap.size w W → Calls Tryd.prog 6 #[.string s] W (GivesOut I c1 x1 y1 W)) := Lib.hid (fun W hW => by have := parse_out s W (env.step hW); have e1 := congrArg Prod.fst hr; have e2 := congrArg Prod.snd hr; simp only at e1 e2; rw [e1, e2] at this; exact this)
  have HP2 : Hid (∀ W, Below w.heap.size w W → Calls Tryd.prog 6 #[.string s2] W (GivesOut X c2 x2 y2 W)) := Lib.hid (fun W hW => by have := parse_out s2 W (env.step hW); have e1 := congrArg Prod.fst hr2; have e2 := congrArg Prod.snd hr2; simp only at e1 e2; rw [← hs2, e1, e2] at this; rw [← hs2]; exact this)
  have hz1 : 3 + s.size ≤ 9223372036854775807 := by omega
  have hz2 : 3 + s.size + 2 ≤ 9223372036854775807 := by omega
  have hfew := HFEW
  have HDEP : Hid (∀ (S : Nat → Prop) (v : Value) (W : World), ItemsIs 5 W S v I → (∀ b, S b → b < W.heap.size) → Calls Tryd.prog 10 #[v] W fun e w' => e = .returned (.int .i64 (D : Int)) ∧ Below W.heap.size W w') := Lib.hid (fun S v W h1 h2 => by rw [← hD]; exact sdepth_any 5 S v I W h1 h2 (by have := len_cnt I; omega) (by omega) (by omega))
  have HCNT : Hid (∀ (S : Nat → Prop) (v : Value) (W : World), ItemsIs 5 W S v I → (∀ b, S b → b < W.heap.size) → Calls Tryd.prog 7 #[v] W fun e w' => e = .returned (.int .i64 (N : Int)) ∧ Below W.heap.size W w') := Lib.hid (fun S v W h1 h2 => by rw [← hN]; exact scount_any 5 S v I W h1 h2 (by omega))
  have HBK : Hid (∀ (S : Nat → Prop) (v : Value) (W : World), ItemsIs 4 W S v x.kids → (∀ b, S b → b < W.heap.size) → Calls Tryd.prog 8 #[v] W fun e w' => ∃ a k, e = .returned (.slice a x.kids.length k) ∧ ItemsIs 4 w' (fun b => W.heap.size ≤ b ∧ b < w'.heap.size) (.slice a x.kids.length k) (bareL I) ∧ Below W.heap.size W w') := Lib.hid (fun S v W h1 h2 => (bare_any 4 S v x.kids W h1 h2 hxc hxw).mono (fun e w' h => by
    have := bare_items (d := 3) h
    rw [hxb] at this
    exact this))
  have HBI : Hid (∀ (S : Nat → Prop) (v : Value) (W : World), ItemsIs 5 W S v I → (∀ b, S b → b < W.heap.size) → Calls Tryd.prog 8 #[v] W fun e w' => ∃ a k, e = .returned (.slice a I.length k) ∧ ItemsIs 5 w' (fun b => W.heap.size ≤ b ∧ b < w'.heap.size) (.slice a I.length k) (bareL I) ∧ Below W.heap.size W w') := Lib.hid (fun S v W h1 h2 => (bare_any 5 S v I W h1 h2 (by omega) hIw).mono (fun e w' h => bare_items (d := 4) h))
  have HSM : Hid (∀ (S T : Nat → Prop) (v1 v2 : Value) (W : World), ItemsIs 5 W S v1 (bareL I) → ItemsIs 5 W T v2 (bareL I) → Calls Tryd.prog 9 #[v1, v2] W fun e w' => e = .returned (.bool true) ∧ ∃ m, w' = W.drewN m) := Lib.hid (fun S T v1 v2 W h1 h2 => stree_same 5 S T v1 v2 (bareL I) W h1 h2 (by rw [cntL_bare]; omega) (fewW_bare hIw).all)
  have HXN : Hid (x.name = ⟨#[97]⟩) := Lib.hid hxn
  have HXK : Hid (x.block = true) := Lib.hid hxk
  have HXO : Hid (x.words = []) := Lib.hid hxo
  subst hc1
  obtain ⟨rfl, rfl, rfl⟩ := hc2
  subst hX
  have hd3 : ¬ (3 : Int) < (D : Int) := by omega
  have hn3 : ¬ (300 : Int) ≤ (N : Int) := by omega
  clear HFEW hfew hD hN
  clear h3 h4 hxn hxk hxo hxb hxc hxw hIw
  clear hm env hr hr2
  go_enter Tryd.func4, Tryd.ntmps4
  go_wp2_with (first
    | (go_at_call 5; (with_reducible refine (HA.out).mono ?_); rintro e w1 ⟨rfl, g1⟩; have G1 := Lib.hid g1; clear g1)
    | (go_at_call 6; (with_reducible refine (HP1.out _ G1.out).mono ?_); rintro e w2 ⟨a2, c2', rfl, i2, g2⟩; have G2 := Lib.hid (below_step G1.out g2); obtain ⟨f3, U3, Y3, fm3⟩ := fault_var w2 0 x1 y1; have hf3 := fm3.g0; have ha3 := fm3.a2; have hs3 := fm3.s3; have k30 := fm3.v2.c0; have q30 := fm3.v2.q0; have k31 := fm3.v2.c1; have q31 := fm3.v2.q1; have k32 := fm3.v2.c2; have q32 := fm3.v2.q2; have d30 := fm3.v3.c0; have d31 := fm3.v3.c1; have d32 := fm3.v3.c2; have G3 := Lib.hid (below_step G2.out fm3.bel); have HV3 := Lib.hid fm3.v3; have HF3 := Lib.hid fm3.bel; have HI3 := Lib.hid (ItemsIs.keep (w' := Y3) i2 (fun _ h => h) (fun b hb => fm3.bel.block b hb.2)); have HI3S : Hid (∀ b, (w1.heap.size ≤ b ∧ b < w2.heap.size) → b < Y3.heap.size) := Lib.hid (fun b hb => Nat.lt_of_lt_of_le hb.2 fm3.bel.size); clear i2 g2 fm3)
    | (go_at_call 6; (with_reducible refine (HP2.out _ G3.out).mono ?_); rintro e w4 ⟨a4, c4', rfl, i4, g4⟩; have G4 := Lib.hid (below_step G3.out g4); clear hf3 ha3 hs3 k30 q30 d30 k31 q31 d31 k32 q32 d32; obtain ⟨f5, U5, Y5, fm5⟩ := fault_var w4 0 0 0; have hf5 := fm5.g0; have ha5 := fm5.a2; have hs5 := fm5.s3; have k50 := fm5.v2.c0; have q50 := fm5.v2.q0; have k51 := fm5.v2.c1; have q51 := fm5.v2.q1; have k52 := fm5.v2.c2; have q52 := fm5.v2.q2; have d50 := fm5.v3.c0; have d51 := fm5.v3.c1; have d52 := fm5.v3.c2; have G5 := Lib.hid (below_step G4.out fm5.bel); have HV5 := Lib.hid fm5.v3; have HF5 := Lib.hid fm5.bel; have hv5 := HV3.out.after (below_step g4 fm5.bel); have HVF := Lib.hid hv5; have m0 := hv5.c0; have m1 := hv5.c1; have m2 := hv5.c2; have HI5 := Lib.hid (ItemsIs.keep (w' := Y5) HI3.out (fun _ h => h) (fun b hb => (below_step g4 fm5.bel).block b (HI3S.out b hb))); have HI5S : Hid (∀ b, (w1.heap.size ≤ b ∧ b < w2.heap.size) → b < Y5.heap.size) := Lib.hid (fun b hb => Nat.lt_of_lt_of_le (HI3S.out b hb) (below_step g4 fm5.bel).size); have HX5 := Lib.hid (ItemsIs.keep (w' := Y5) i4 (fun _ h => h) (fun b hb => fm5.bel.block b hb.2)); have HX5S : Hid (∀ b, (Y3.heap.size ≤ b ∧ b < w4.heap.size) → b < Y5.heap.size) := Lib.hid (fun b hb => Nat.lt_of_lt_of_le hb.2 fm5.bel.size); clear i4 g4 fm5 hv5)
    | (go_at_call 10; (with_reducible refine (HDEP.out _ _ _ HI5.out HI5S.out).mono ?_); rintro e w6 ⟨rfl, g6⟩; have G6 := Lib.hid (below_step G5.out g6); have hv6 := HV5.out.after g6; have n0 := hv6.c0; have n1 := hv6.c1; have n2 := hv6.c2; have HV6 := Lib.hid hv6; have HI6 := Lib.hid (ItemsIs.keep (w' := w6) HI5.out (fun _ h => h) (fun b hb => g6.block b (HI5S.out b hb))); have HI6S : Hid (∀ b, (w1.heap.size ≤ b ∧ b < w2.heap.size) → b < w6.heap.size) := Lib.hid (fun b hb => Nat.lt_of_lt_of_le (HI5S.out b hb) g6.size); have HX6 := Lib.hid (ItemsIs.keep (w' := w6) HX5.out (fun _ h => h) (fun b hb => g6.block b (HX5S.out b hb))); have HX6S : Hid (∀ b, (Y3.heap.size ≤ b ∧ b < w4.heap.size) → b < w6.heap.size) := Lib.hid (fun b hb => Nat.lt_of_lt_of_le (HX5S.out b hb) g6.size); clear g6 hv6)
    | (go_at_call 7; (with_reducible refine (HCNT.out _ _ _ HI6.out HI6S.out).mono ?_); rintro e w7 ⟨rfl, g7⟩; have G7 := Lib.hid (below_step G6.out g7); have hv7 := HV6.out.after g7; have p0 := hv7.c0; have p1 := hv7.c1; have p2 := hv7.c2; have HV7 := Lib.hid hv7; have HI7 := Lib.hid (ItemsIs.keep (w' := w7) HI6.out (fun _ h => h) (fun b hb => g7.block b (HI6S.out b hb))); have HI7S : Hid (∀ b, (w1.heap.size ≤ b ∧ b < w2.heap.size) → b < w7.heap.size) := Lib.hid (fun b hb => Nat.lt_of_lt_of_le (HI6S.out b hb) g7.size); have HX7 := Lib.hid (ItemsIs.keep (w' := w7) HX6.out (fun _ h => h) (fun b hb => g7.block b (HX6S.out b hb))); have HX7S : Hid (∀ b, (Y3.heap.size ≤ b ∧ b < w4.heap.size) → b < w7.heap.size) := Lib.hid (fun b hb => Nat.lt_of_lt_of_le (HX6S.out b hb) g7.size); clear g7 hv7; obtain ⟨b1, o1, cc, wv, kv, he, hsb, z0, z1, z2, z3, z4, z5, zw, zk⟩ := ItemsIs.first HX7.out; simp only [List.length_nil, List.length_cons, Nat.zero_add, Value.slice.injEq] at he; obtain ⟨rfl, _, rfl⟩ := he; rw [HXN.out] at z0; rw [HXK.out] at z2; rw [HXO.out] at zw; obtain ⟨aw, cw, rfl⟩ := zw.size; have HZK := Lib.hid zk; clear zw zk z4 z5)
    | (go_at_call 8; (with_reducible refine (HBK.out _ _ _ HZK.out HX7S.out).mono ?_); rintro e w8 ⟨a8, k8, rfl, i8, g8⟩; have G8 := Lib.hid (below_step G7.out g8); have HI8 := Lib.hid (ItemsIs.keep (w' := w8) HI7.out (fun _ h => h) (fun b hb => g8.block b (HI7S.out b hb))); have HI8S : Hid (∀ b, (w1.heap.size ≤ b ∧ b < w2.heap.size) → b < w8.heap.size) := Lib.hid (fun b hb => Nat.lt_of_lt_of_le (HI7S.out b hb) g8.size); have HK8 := Lib.hid i8; clear i8 g8 z0 z1 z2 z3)
    | (go_at_call 8; (with_reducible refine (HBI.out _ _ _ HI8.out HI8S.out).mono ?_); rintro e w9 ⟨a9, k9, rfl, i9, g9⟩; have G9 := Lib.hid (below_step G8.out g9); have HK9 := Lib.hid (ItemsIs.keep (w' := w9) HK8.out (fun _ h => h) (fun b hb => g9.block b hb.2)); have HI9 := Lib.hid i9; clear i9 g9)
    | (go_at_call 9; (with_reducible refine (HSM.out _ _ _ _ _ (ItemsIs.up HK9.out) HI9.out).mono ?_); rintro e w10 ⟨rfl, q, rfl⟩))
  go_ret
  exact ⟨rfl, G9.out.trans ((Go.below_drewN (Below.refl w9.heap.size w9) q).mono G9.out.size)⟩

theorem trenests_walk (s : ByteArray) (w : World) (env : Env w) (_hm : s.size ≤ 9223372036854775807) : Calls Tryd.prog 4 #[.string s] w fun e w' => e = .returned (.bool true) ∧ Below w.heap.size w w' := by
  by_cases h5 : s.size ≤ 5000
  · obtain ⟨s2, hs2⟩ : ∃ x, (⟨#[97, 32, 123]⟩ : ByteArray) ++ s ++ ⟨#[10, 125]⟩ = x := ⟨_, rfl⟩
    have hsz2 : s2.size ≤ 40000 := by rw [← hs2, ByteArray.size_append, ByteArray.size_append]; show 3 + s.size + 2 ≤ 40000; omega
    have e1 := treR_of (s := s) (by omega)
    have e2 := treR_of hsz2
    have hn2 : nums s2 = [97, 32, 123] ++ (nums s ++ [10, 125]) := by rw [← hs2, nums_cat, nums_cat, List.append_assoc]; rfl
    cases hr : treR s with
    | error x =>
      obtain ⟨c, a, b⟩ := x
      exact trenests_bad s w env h5 [] _ c a b _ _ _ (by rw [hr]; rfl) rfl (treR_err hr) rfl
    | ok I =>
      have ht : treT s = .ok I := by rw [← e1]; exact hr
      have hf := tre_few ht
      have hIw := treF_fewW ht
      rcases treT_nest hn2 ht with ⟨h1, h2, x, hx, hxn, hxk, hxo, hxb⟩ | ⟨h1, a, b, hx⟩ | ⟨h1, a, b, hx⟩
      · have hr2 : treR s2 = .ok [x] := by rw [e2]; exact hx
        have hf2 := tre_few hx
        have hw2 := treF_fewW hx
        obtain ⟨nm, ws, bk, kd, pa, pb⟩ := x
        rw [FewW] at hw2
        simp only [cntL] at hf2
        have hk2 : cntL kd ≤ 1000000 := by omega
        exact trenests_one s w env h5 I [.mk nm ws bk kd pa pb] 0 0 0 0 0 0 (by rw [hr]; rfl) (by rw [hs2, hr2]; rfl) (depL I) (cntL I) rfl rfl hf rfl h2 h1 _ rfl ⟨rfl, rfl, rfl⟩ hxn hxk hxo hxb hk2 hw2.2.1 hIw
      · have hr2 : treR s2 = .error (9, a, b) := by rw [e2]; exact hx
        by_cases h3 : 3 < depL I
        · exact trenests_deep9 s w env h5 I [] 0 0 0 9 a b (by rw [hr]; rfl) (by rw [hs2, hr2]; rfl) (depL I) (cntL I) rfl rfl hf rfl h3 h1 rfl
        · exact trenests_much s w env h5 I [] 0 0 0 9 a b (by rw [hr]; rfl) (by rw [hs2, hr2]; rfl) (depL I) (cntL I) rfl rfl hf rfl (by omega) h1 rfl rfl
      · have hr2 : treR s2 = .error (19, a, b) := by rw [e2]; exact hx
        exact trenests_deep19 s w env h5 I [] 0 0 0 19 a b (by rw [hr]; rfl) (by rw [hs2, hr2]; rfl) (depL I) (cntL I) rfl rfl hf rfl h1 rfl rfl
  · exact trenests_long s w env (by omega)

end Go.Proofs.YthfmllgflnideaaDoor
