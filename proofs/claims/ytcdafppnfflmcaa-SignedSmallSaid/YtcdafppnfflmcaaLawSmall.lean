/-
  SignedSmall is proved: any number of 64 bits comes back from Of and Small; any number with a sign is of 64 bits and comes back, or it is beyond; no condition.
-/
import Derived.Test.YtcdafppnfflmcaaRows
import Derived.Test.YtcdafppnfflmcaaSgC
import Derived.Test.YtcdafppnfflmcaaSgAwake
import Derived.Test.YtcdafppnfflmcaaSgOpen
import Derived.Deep.RegionHeld3
import Derived.Below
namespace Go.Proofs.Ytcdafppnfflmcaa
open Go.ChangeShapes Go.WideShapes Go.ChangeAt Go.RowKit Go.Joins

theorem valZ_of {b : Bool} {h l z : Int} (hZ : IsZ b h l z) : valZ b z.natAbs = z := by
  rw [hZ.b]
  by_cases h0 : z < 0
  · simp only [h0, decide_true, valZ, if_true]; omega
  · simp only [h0, decide_false, valZ]; simp; omega
/-- A number of 64 bits, made. -/
theorem sof_parts (n : Int) (w : World) (hn : -9223372036854775808 ≤ n) (hn' : n ≤ 9223372036854775807) :
    Calls Try.prog 43 #[.int .i64 n] w fun e w' => ∃ l, e = .returned (.agg #[.bool (decide (n < 0)), .int .u64 0, .int .u64 l]) ∧ IsZ (decide (n < 0)) 0 l n ∧ Below w.heap.size w w' := by
  refine (sof_any n w hn hn').mono ?_
  rintro e w' ⟨b, h, l, rfl, hZ, g⟩
  have hh : h = 0 := by
    obtain ⟨_, _, _, _, e⟩ := hZ.w; omega
  subst hh
  have hb := hZ.b
  subst hb
  exact ⟨l, rfl, hZ, g⟩
/-- What was made comes back. -/
theorem small_back (n : Int) (b : Bool) (h l : Int) (w : World) (hZ : IsZ b h l n) (hn : -9223372036854775808 ≤ n) (hn' : n ≤ 9223372036854775807) :
    Calls Try.prog 44 #[.agg #[.bool b, .int .u64 h, .int .u64 l]] w fun e w' => e = .returned (.tuple #[.int .i64 n, .int .i64 0]) ∧ Below w.heap.size w w' := by
  have := small_any b h l n.natAbs w hZ.w
  rw [valZ_of hZ, (small_in hn hn').1, (small_in hn hn').2] at this
  exact this
theorem right_of (n : Int) (b : Bool) (h l : Int) (w : World) (hZ : IsZ b h l n) :
    Calls Try.prog 42 #[.agg #[.bool b, .int .u64 h, .int .u64 l]] w fun e w' => e = .returned (.bool true) ∧ Below w.heap.size w w' := by
  have := right_any b h l n.natAbs w hZ.w
  have hr : rightB b n.natAbs = true := by
    rw [hZ.b]; unfold rightB
    by_cases h0 : n < 0
    · have : ¬ n.natAbs = 0 := by omega
      simp [h0, this]
    · simp [h0]
  rw [hr] at this; exact this
theorem small_is (b : Bool) (h l : Int) (N : Nat) (k f : Int) (w : World) (hW : IsW h l N) (hk : smallN (valZ b N) = k) (hf : smallC (valZ b N) = f) :
    Calls Try.prog 44 #[.agg #[.bool b, .int .u64 h, .int .u64 l]] w fun e w' => e = .returned (.tuple #[.int .i64 k, .int .i64 f]) ∧ Below w.heap.size w w' := by
  rw [← hk, ← hf]; exact small_any b h l N w hW

/-- Of a number of 64 bits that is one: just it. -/
theorem sof_exact (k : Int) (b : Bool) (h l : Int) (w : World) (hk : -9223372036854775808 ≤ k) (hk' : k ≤ 9223372036854775807) (hZ : IsZ b h l k) :
    Calls Try.prog 43 #[.int .i64 k] w fun e w' => e = .returned (.agg #[.bool b, .int .u64 h, .int .u64 l]) ∧ Below w.heap.size w w' := by
  refine (sof_any k w hk hk').mono ?_
  rintro e w' ⟨b', h', l', rfl, hZ', g⟩
  obtain ⟨rfl, rfl, rfl⟩ := hZ'.unique hZ
  exact ⟨rfl, g⟩

set_option maxRecDepth 100000 in
set_option maxHeartbeats 4000000 in
theorem small_none (n : Int) (w : World) (hn : -9223372036854775808 ≤ n) (hn' : n ≤ 9223372036854775807) :
    Calls Try.prog 9 #[.int .i64 n, .agg #[.bool true, .int .u64 0, .int .u64 0]] w fun e w' => e = .returned (.bool true) ∧ Below w.heap.size w w' := by
  have K0 := Lib.hid (Var3.fresh w (.bool true) (.int .u64 0) (.int .u64 0) 58 w.heap.size rfl)
  go_enter Try.func9, Try.ntmps9
  go_wp2_with (first
    | (go_at_call 34; (with_reducible refine (sg_awake _).mono ?_); rintro e w1 ⟨rfl, g1⟩; have K1 := Lib.hid (K0.out.after g1); have D1 := below_step (below_more (Below.refl w.heap.size w) _) g1)
    | (go_at_call 43; (with_reducible refine (sof_parts n _ hn hn').mono ?_); rintro e w2 ⟨xl, rfl, hX, g2⟩; have K2 := Lib.hid (K1.out.after g2); have D2 := below_step D1 g2; replace hX := Lib.hid hX)
    | (go_at_call 44; (with_reducible refine (small_back n (decide (n < 0)) 0 xl _ hX.out hn hn').mono ?_); rintro e w3 ⟨rfl, g3⟩; have K3 := Lib.hid ((K2.out.alloc _).after g3); have X3 := Lib.hid ((Var3.fresh w2 (.bool (decide (n < 0))) (.int .u64 0) (.int .u64 xl) 58 w2.heap.size rfl).after g3); obtain ⟨_, _, _, _, _, _, _⟩ := X3.out; have D3 := below_step (below_more D2 _) g3)
    | (go_at_call 42; (with_reducible refine (right_of n (decide (n < 0)) 0 xl _ hX.out).mono ?_); rintro e w4 ⟨rfl, g4⟩; have K4 := Lib.hid (K3.out.after g4); obtain ⟨_, _, _, _, _, _, _⟩ := K4.out; obtain ⟨_, _, _, _, _, _, _⟩ := X3.out.after g4; have D4 := below_step D3 g4)
    | (go_at_call 44; (with_reducible refine (small_is true 0 0 0 0 0 _ IsW.zero rfl rfl).mono ?_); rintro e w5 ⟨rfl, g5⟩; have K5 := Lib.hid (K4.out.after g5); obtain ⟨_, _, _, _, _, _, _⟩ := K5.out; have D5 := below_step D4 g5))
  go_ret
  exact ⟨rfl, D5⟩

set_option maxRecDepth 100000 in
set_option maxHeartbeats 4000000 in
theorem small_b1 (n h l : Int) (w : World) (hn : -9223372036854775808 ≤ n) (hn' : n ≤ 9223372036854775807) (N : Nat) (hW : IsW h l N) (h0 : 0 < h) :
    Calls Try.prog 9 #[.int .i64 n, .agg #[.bool false, .int .u64 h, .int .u64 l]] w fun e w' => e = .returned (.bool true) ∧ Below w.heap.size w w' := by
  have HW := Lib.hid hW
  have hz : smallN (valZ false N) = 0 ∧ smallC (valZ false N) = 3 := small_out (by obtain ⟨_, _, _, _, e⟩ := hW; simp [valZ]; omega)
  obtain ⟨hz1, hz2⟩ := hz
  replace hz1 := Lib.hid hz1
  replace hz2 := Lib.hid hz2
  clear hW
  have K0 := Lib.hid (Var3.fresh w (.bool false) (.int .u64 h) (.int .u64 l) 58 w.heap.size rfl)
  go_enter Try.func9, Try.ntmps9
  go_wp2_with (first
    | (go_at_call 34; (with_reducible refine (sg_awake _).mono ?_); rintro e w1 ⟨rfl, g1⟩; have K1 := Lib.hid (K0.out.after g1); have D1 := below_step (below_more (Below.refl w.heap.size w) _) g1)
    | (go_at_call 43; (with_reducible refine (sof_parts n _ hn hn').mono ?_); rintro e w2 ⟨xl, rfl, hX, g2⟩; have K2 := Lib.hid (K1.out.after g2); have D2 := below_step D1 g2; replace hX := Lib.hid hX)
    | (go_at_call 44; (with_reducible refine (small_back n (decide (n < 0)) 0 xl _ hX.out hn hn').mono ?_); rintro e w3 ⟨rfl, g3⟩; have K3 := Lib.hid ((K2.out.alloc _).after g3); have X3 := Lib.hid ((Var3.fresh w2 (.bool (decide (n < 0))) (.int .u64 0) (.int .u64 xl) 58 w2.heap.size rfl).after g3); obtain ⟨_, _, _, _, _, _, _⟩ := X3.out; have D3 := below_step (below_more D2 _) g3)
    | (go_at_call 42; (with_reducible refine (right_of n (decide (n < 0)) 0 xl _ hX.out).mono ?_); rintro e w4 ⟨rfl, g4⟩; have K4 := Lib.hid (K3.out.after g4); obtain ⟨_, _, _, _, _, _, _⟩ := K4.out; obtain ⟨_, _, _, _, _, _, _⟩ := X3.out.after g4; have D4 := below_step D3 g4)
    | (go_at_call 44; (with_reducible refine (small_is false h l N 0 3 _ HW.out hz1.out hz2.out).mono ?_); rintro e w5 ⟨rfl, g5⟩; have K5 := Lib.hid (K4.out.after g5); obtain ⟨_, _, _, _, _, _, _⟩ := K5.out; have D5 := below_step D4 g5))
  go_ret
  exact ⟨rfl, D5⟩

set_option maxRecDepth 100000 in
set_option maxHeartbeats 4000000 in
theorem small_b2 (n l : Int) (w : World) (hn : -9223372036854775808 ≤ n) (hn' : n ≤ 9223372036854775807) (N : Nat) (hW : IsW 0 l N) (h0 : 9223372036854775808 < l) :
    Calls Try.prog 9 #[.int .i64 n, .agg #[.bool false, .int .u64 0, .int .u64 l]] w fun e w' => e = .returned (.bool true) ∧ Below w.heap.size w w' := by
  have HW := Lib.hid hW
  have hz : smallN (valZ false N) = 0 ∧ smallC (valZ false N) = 3 := small_out (by obtain ⟨_, _, _, _, e⟩ := hW; simp [valZ]; omega)
  obtain ⟨hz1, hz2⟩ := hz
  replace hz1 := Lib.hid hz1
  replace hz2 := Lib.hid hz2
  clear hW
  have K0 := Lib.hid (Var3.fresh w (.bool false) (.int .u64 0) (.int .u64 l) 58 w.heap.size rfl)
  go_enter Try.func9, Try.ntmps9
  go_wp2_with (first
    | (go_at_call 34; (with_reducible refine (sg_awake _).mono ?_); rintro e w1 ⟨rfl, g1⟩; have K1 := Lib.hid (K0.out.after g1); have D1 := below_step (below_more (Below.refl w.heap.size w) _) g1)
    | (go_at_call 43; (with_reducible refine (sof_parts n _ hn hn').mono ?_); rintro e w2 ⟨xl, rfl, hX, g2⟩; have K2 := Lib.hid (K1.out.after g2); have D2 := below_step D1 g2; replace hX := Lib.hid hX)
    | (go_at_call 44; (with_reducible refine (small_back n (decide (n < 0)) 0 xl _ hX.out hn hn').mono ?_); rintro e w3 ⟨rfl, g3⟩; have K3 := Lib.hid ((K2.out.alloc _).after g3); have X3 := Lib.hid ((Var3.fresh w2 (.bool (decide (n < 0))) (.int .u64 0) (.int .u64 xl) 58 w2.heap.size rfl).after g3); obtain ⟨_, _, _, _, _, _, _⟩ := X3.out; have D3 := below_step (below_more D2 _) g3)
    | (go_at_call 42; (with_reducible refine (right_of n (decide (n < 0)) 0 xl _ hX.out).mono ?_); rintro e w4 ⟨rfl, g4⟩; have K4 := Lib.hid (K3.out.after g4); obtain ⟨_, _, _, _, _, _, _⟩ := K4.out; obtain ⟨_, _, _, _, _, _, _⟩ := X3.out.after g4; have D4 := below_step D3 g4)
    | (go_at_call 44; (with_reducible refine (small_is false 0 l N 0 3 _ HW.out hz1.out hz2.out).mono ?_); rintro e w5 ⟨rfl, g5⟩; have K5 := Lib.hid (K4.out.after g5); obtain ⟨_, _, _, _, _, _, _⟩ := K5.out; have D5 := below_step D4 g5))
  go_ret
  exact ⟨rfl, D5⟩

set_option maxRecDepth 100000 in
set_option maxHeartbeats 4000000 in
theorem small_b3 (n : Int) (w : World) (hn : -9223372036854775808 ≤ n) (hn' : n ≤ 9223372036854775807) (N : Nat) (hW : IsW 0 9223372036854775808 N) :
    Calls Try.prog 9 #[.int .i64 n, .agg #[.bool false, .int .u64 0, .int .u64 9223372036854775808]] w fun e w' => e = .returned (.bool true) ∧ Below w.heap.size w w' := by
  have HW := Lib.hid hW
  have hz : smallN (valZ false N) = 0 ∧ smallC (valZ false N) = 3 := small_out (by obtain ⟨_, _, _, _, e⟩ := hW; simp [valZ]; omega)
  obtain ⟨hz1, hz2⟩ := hz
  replace hz1 := Lib.hid hz1
  replace hz2 := Lib.hid hz2
  clear hW
  have K0 := Lib.hid (Var3.fresh w (.bool false) (.int .u64 0) (.int .u64 9223372036854775808) 58 w.heap.size rfl)
  go_enter Try.func9, Try.ntmps9
  go_wp2_with (first
    | (go_at_call 34; (with_reducible refine (sg_awake _).mono ?_); rintro e w1 ⟨rfl, g1⟩; have K1 := Lib.hid (K0.out.after g1); have D1 := below_step (below_more (Below.refl w.heap.size w) _) g1)
    | (go_at_call 43; (with_reducible refine (sof_parts n _ hn hn').mono ?_); rintro e w2 ⟨xl, rfl, hX, g2⟩; have K2 := Lib.hid (K1.out.after g2); have D2 := below_step D1 g2; replace hX := Lib.hid hX)
    | (go_at_call 44; (with_reducible refine (small_back n (decide (n < 0)) 0 xl _ hX.out hn hn').mono ?_); rintro e w3 ⟨rfl, g3⟩; have K3 := Lib.hid ((K2.out.alloc _).after g3); have X3 := Lib.hid ((Var3.fresh w2 (.bool (decide (n < 0))) (.int .u64 0) (.int .u64 xl) 58 w2.heap.size rfl).after g3); obtain ⟨_, _, _, _, _, _, _⟩ := X3.out; have D3 := below_step (below_more D2 _) g3)
    | (go_at_call 42; (with_reducible refine (right_of n (decide (n < 0)) 0 xl _ hX.out).mono ?_); rintro e w4 ⟨rfl, g4⟩; have K4 := Lib.hid (K3.out.after g4); obtain ⟨_, _, _, _, _, _, _⟩ := K4.out; obtain ⟨_, _, _, _, _, _, _⟩ := X3.out.after g4; have D4 := below_step D3 g4)
    | (go_at_call 44; (with_reducible refine (small_is false 0 9223372036854775808 N 0 3 _ HW.out hz1.out hz2.out).mono ?_); rintro e w5 ⟨rfl, g5⟩; have K5 := Lib.hid (K4.out.after g5); obtain ⟨_, _, _, _, _, _, _⟩ := K5.out; have D5 := below_step D4 g5))
  go_ret
  exact ⟨rfl, D5⟩

set_option maxRecDepth 100000 in
set_option maxHeartbeats 4000000 in
theorem small_b4 (n h l : Int) (w : World) (hn : -9223372036854775808 ≤ n) (hn' : n ≤ 9223372036854775807) (N : Nat) (hW : IsW h l N) (h0 : 0 < h) (h1 : ¬ h = 0) :
    Calls Try.prog 9 #[.int .i64 n, .agg #[.bool true, .int .u64 h, .int .u64 l]] w fun e w' => e = .returned (.bool true) ∧ Below w.heap.size w w' := by
  have HW := Lib.hid hW
  have hz : smallN (valZ true N) = 0 ∧ smallC (valZ true N) = 3 := small_out (by obtain ⟨_, _, _, _, e⟩ := hW; simp [valZ]; omega)
  obtain ⟨hz1, hz2⟩ := hz
  replace hz1 := Lib.hid hz1
  replace hz2 := Lib.hid hz2
  clear hW
  have K0 := Lib.hid (Var3.fresh w (.bool true) (.int .u64 h) (.int .u64 l) 58 w.heap.size rfl)
  go_enter Try.func9, Try.ntmps9
  go_wp2_with (first
    | (go_at_call 34; (with_reducible refine (sg_awake _).mono ?_); rintro e w1 ⟨rfl, g1⟩; have K1 := Lib.hid (K0.out.after g1); have D1 := below_step (below_more (Below.refl w.heap.size w) _) g1)
    | (go_at_call 43; (with_reducible refine (sof_parts n _ hn hn').mono ?_); rintro e w2 ⟨xl, rfl, hX, g2⟩; have K2 := Lib.hid (K1.out.after g2); have D2 := below_step D1 g2; replace hX := Lib.hid hX)
    | (go_at_call 44; (with_reducible refine (small_back n (decide (n < 0)) 0 xl _ hX.out hn hn').mono ?_); rintro e w3 ⟨rfl, g3⟩; have K3 := Lib.hid ((K2.out.alloc _).after g3); have X3 := Lib.hid ((Var3.fresh w2 (.bool (decide (n < 0))) (.int .u64 0) (.int .u64 xl) 58 w2.heap.size rfl).after g3); obtain ⟨_, _, _, _, _, _, _⟩ := X3.out; have D3 := below_step (below_more D2 _) g3)
    | (go_at_call 42; (with_reducible refine (right_of n (decide (n < 0)) 0 xl _ hX.out).mono ?_); rintro e w4 ⟨rfl, g4⟩; have K4 := Lib.hid (K3.out.after g4); obtain ⟨_, _, _, _, _, _, _⟩ := K4.out; obtain ⟨_, _, _, _, _, _, _⟩ := X3.out.after g4; have D4 := below_step D3 g4)
    | (go_at_call 44; (with_reducible refine (small_is true h l N 0 3 _ HW.out hz1.out hz2.out).mono ?_); rintro e w5 ⟨rfl, g5⟩; have K5 := Lib.hid (K4.out.after g5); obtain ⟨_, _, _, _, _, _, _⟩ := K5.out; have D5 := below_step D4 g5))
  go_ret
  exact ⟨rfl, D5⟩

set_option maxRecDepth 100000 in
set_option maxHeartbeats 4000000 in
theorem small_b5 (n l : Int) (w : World) (hn : -9223372036854775808 ≤ n) (hn' : n ≤ 9223372036854775807) (N : Nat) (hW : IsW 0 l N) (h0 : 9223372036854775808 < l) (h1 : ¬ l = 0) :
    Calls Try.prog 9 #[.int .i64 n, .agg #[.bool true, .int .u64 0, .int .u64 l]] w fun e w' => e = .returned (.bool true) ∧ Below w.heap.size w w' := by
  have HW := Lib.hid hW
  have hz : smallN (valZ true N) = 0 ∧ smallC (valZ true N) = 3 := small_out (by obtain ⟨_, _, _, _, e⟩ := hW; simp [valZ]; omega)
  obtain ⟨hz1, hz2⟩ := hz
  replace hz1 := Lib.hid hz1
  replace hz2 := Lib.hid hz2
  clear hW
  have K0 := Lib.hid (Var3.fresh w (.bool true) (.int .u64 0) (.int .u64 l) 58 w.heap.size rfl)
  go_enter Try.func9, Try.ntmps9
  go_wp2_with (first
    | (go_at_call 34; (with_reducible refine (sg_awake _).mono ?_); rintro e w1 ⟨rfl, g1⟩; have K1 := Lib.hid (K0.out.after g1); have D1 := below_step (below_more (Below.refl w.heap.size w) _) g1)
    | (go_at_call 43; (with_reducible refine (sof_parts n _ hn hn').mono ?_); rintro e w2 ⟨xl, rfl, hX, g2⟩; have K2 := Lib.hid (K1.out.after g2); have D2 := below_step D1 g2; replace hX := Lib.hid hX)
    | (go_at_call 44; (with_reducible refine (small_back n (decide (n < 0)) 0 xl _ hX.out hn hn').mono ?_); rintro e w3 ⟨rfl, g3⟩; have K3 := Lib.hid ((K2.out.alloc _).after g3); have X3 := Lib.hid ((Var3.fresh w2 (.bool (decide (n < 0))) (.int .u64 0) (.int .u64 xl) 58 w2.heap.size rfl).after g3); obtain ⟨_, _, _, _, _, _, _⟩ := X3.out; have D3 := below_step (below_more D2 _) g3)
    | (go_at_call 42; (with_reducible refine (right_of n (decide (n < 0)) 0 xl _ hX.out).mono ?_); rintro e w4 ⟨rfl, g4⟩; have K4 := Lib.hid (K3.out.after g4); obtain ⟨_, _, _, _, _, _, _⟩ := K4.out; obtain ⟨_, _, _, _, _, _, _⟩ := X3.out.after g4; have D4 := below_step D3 g4)
    | (go_at_call 44; (with_reducible refine (small_is true 0 l N 0 3 _ HW.out hz1.out hz2.out).mono ?_); rintro e w5 ⟨rfl, g5⟩; have K5 := Lib.hid (K4.out.after g5); obtain ⟨_, _, _, _, _, _, _⟩ := K5.out; have D5 := below_step D4 g5))
  go_ret
  exact ⟨rfl, D5⟩

set_option maxRecDepth 100000 in
set_option maxHeartbeats 4000000 in
theorem small_c1 (n l : Int) (w : World) (hn : -9223372036854775808 ≤ n) (hn' : n ≤ 9223372036854775807) (N : Nat) (hW : IsW 0 l N) (h0 : 0 ≤ l) (h1 : l ≤ 9223372036854775807) (h2 : ¬ l = 9223372036854775808) :
    Calls Try.prog 9 #[.int .i64 n, .agg #[.bool false, .int .u64 0, .int .u64 l]] w fun e w' => e = .returned (.bool true) ∧ Below w.heap.size w w' := by
  have HW := Lib.hid hW
  have hv : valZ false N = l := by obtain ⟨_, _, _, _, e⟩ := hW; simp [valZ]; omega
  have hk1 : -9223372036854775808 ≤ l := by omega
  have hk2 : l ≤ 9223372036854775807 := by omega
  have hz1 := Lib.hid (show smallN (valZ false N) = l by rw [hv]; exact (small_in hk1 hk2).1)
  have hz2 := Lib.hid (show smallC (valZ false N) = 0 by rw [hv]; exact (small_in hk1 hk2).2)
  have HZ : Hid (IsZ false 0 l (l)) := ⟨by simp <;> omega, by have e : Int.natAbs (l) = N := (by obtain ⟨_, _, _, _, e⟩ := hW; omega); rw [e]; exact hW⟩
  clear hW hv
  have K0 := Lib.hid (Var3.fresh w (.bool false) (.int .u64 0) (.int .u64 l) 58 w.heap.size rfl)
  go_enter Try.func9, Try.ntmps9
  go_wp2_with (first
    | (go_at_call 34; (with_reducible refine (sg_awake _).mono ?_); rintro e w1 ⟨rfl, g1⟩; have K1 := Lib.hid (K0.out.after g1); have D1 := below_step (below_more (Below.refl w.heap.size w) _) g1)
    | (go_at_call 43; (with_reducible refine (sof_parts n _ hn hn').mono ?_); rintro e w2 ⟨xl, rfl, hX, g2⟩; have K2 := Lib.hid (K1.out.after g2); have D2 := below_step D1 g2; replace hX := Lib.hid hX)
    | (go_at_call 44; (with_reducible refine (small_back n (decide (n < 0)) 0 xl _ hX.out hn hn').mono ?_); rintro e w3 ⟨rfl, g3⟩; have K3 := Lib.hid ((K2.out.alloc _).after g3); have X3 := Lib.hid ((Var3.fresh w2 (.bool (decide (n < 0))) (.int .u64 0) (.int .u64 xl) 58 w2.heap.size rfl).after g3); obtain ⟨_, _, _, _, _, _, _⟩ := X3.out; have D3 := below_step (below_more D2 _) g3)
    | (go_at_call 42; (with_reducible refine (right_of n (decide (n < 0)) 0 xl _ hX.out).mono ?_); rintro e w4 ⟨rfl, g4⟩; have K4 := Lib.hid (K3.out.after g4); obtain ⟨_, _, _, _, _, _, _⟩ := K4.out; obtain ⟨_, _, _, _, _, _, _⟩ := X3.out.after g4; have D4 := below_step D3 g4)
    | (go_at_call 44; (with_reducible refine (small_is false 0 l N (l) 0 _ HW.out hz1.out hz2.out).mono ?_); rintro e w5 ⟨rfl, g5⟩; have K5 := Lib.hid (K4.out.after g5); obtain ⟨_, _, _, _, _, _, _⟩ := K5.out; have D5 := below_step D4 g5))
  obtain ⟨_, _, _, _, _, _, _⟩ := K5.out.drew
  go_region_held3 (fun W => W.cell? ⟨w.heap.size, 0, none⟩ = some (.bool false) ∧ W.cell? ⟨w.heap.size, 1, none⟩ = some (.int .u64 0) ∧ W.cell? ⟨w.heap.size, 2, none⟩ = some (.int .u64 l)) (first | (refine ⟨?_, ?_, ?_⟩ <;> assumption) | go_keep)
    (first | (go_at_call 43; (with_reducible refine (sof_exact (l) false 0 l _ hk1 hk2 HZ.out).mono ?_); rintro e w6 ⟨rfl, g6⟩; obtain ⟨_, _, _, _, _, _, _⟩ := K5.out.drew.after g6; have D6 := below_step D5.drew g6))
  go_wp2
  go_ret
  exact ⟨rfl, D6⟩

set_option maxRecDepth 100000 in
set_option maxHeartbeats 4000000 in
theorem small_c2 (n l : Int) (w : World) (hn : -9223372036854775808 ≤ n) (hn' : n ≤ 9223372036854775807) (N : Nat) (hW : IsW 0 l N) (h0 : 0 < l) (h1 : l ≤ 9223372036854775807) (h2 : ¬ l = 9223372036854775808) (h3 : ¬ l = 0) :
    Calls Try.prog 9 #[.int .i64 n, .agg #[.bool true, .int .u64 0, .int .u64 l]] w fun e w' => e = .returned (.bool true) ∧ Below w.heap.size w w' := by
  have HW := Lib.hid hW
  have hv : valZ true N = -l := by obtain ⟨_, _, _, _, e⟩ := hW; simp [valZ]; omega
  have hk1 : -9223372036854775808 ≤ -l := by omega
  have hk2 : -l ≤ 9223372036854775807 := by omega
  have hz1 := Lib.hid (show smallN (valZ true N) = -l by rw [hv]; exact (small_in hk1 hk2).1)
  have hz2 := Lib.hid (show smallC (valZ true N) = 0 by rw [hv]; exact (small_in hk1 hk2).2)
  have HZ : Hid (IsZ true 0 l (-l)) := ⟨by simp <;> omega, by have e : Int.natAbs (-l) = N := (by obtain ⟨_, _, _, _, e⟩ := hW; omega); rw [e]; exact hW⟩
  clear hW hv
  have K0 := Lib.hid (Var3.fresh w (.bool true) (.int .u64 0) (.int .u64 l) 58 w.heap.size rfl)
  go_enter Try.func9, Try.ntmps9
  go_wp2_with (first
    | (go_at_call 34; (with_reducible refine (sg_awake _).mono ?_); rintro e w1 ⟨rfl, g1⟩; have K1 := Lib.hid (K0.out.after g1); have D1 := below_step (below_more (Below.refl w.heap.size w) _) g1)
    | (go_at_call 43; (with_reducible refine (sof_parts n _ hn hn').mono ?_); rintro e w2 ⟨xl, rfl, hX, g2⟩; have K2 := Lib.hid (K1.out.after g2); have D2 := below_step D1 g2; replace hX := Lib.hid hX)
    | (go_at_call 44; (with_reducible refine (small_back n (decide (n < 0)) 0 xl _ hX.out hn hn').mono ?_); rintro e w3 ⟨rfl, g3⟩; have K3 := Lib.hid ((K2.out.alloc _).after g3); have X3 := Lib.hid ((Var3.fresh w2 (.bool (decide (n < 0))) (.int .u64 0) (.int .u64 xl) 58 w2.heap.size rfl).after g3); obtain ⟨_, _, _, _, _, _, _⟩ := X3.out; have D3 := below_step (below_more D2 _) g3)
    | (go_at_call 42; (with_reducible refine (right_of n (decide (n < 0)) 0 xl _ hX.out).mono ?_); rintro e w4 ⟨rfl, g4⟩; have K4 := Lib.hid (K3.out.after g4); obtain ⟨_, _, _, _, _, _, _⟩ := K4.out; obtain ⟨_, _, _, _, _, _, _⟩ := X3.out.after g4; have D4 := below_step D3 g4)
    | (go_at_call 44; (with_reducible refine (small_is true 0 l N (-l) 0 _ HW.out hz1.out hz2.out).mono ?_); rintro e w5 ⟨rfl, g5⟩; have K5 := Lib.hid (K4.out.after g5); obtain ⟨_, _, _, _, _, _, _⟩ := K5.out; have D5 := below_step D4 g5))
  obtain ⟨_, _, _, _, _, _, _⟩ := K5.out.drew
  go_region_held3 (fun W => W.cell? ⟨w.heap.size, 0, none⟩ = some (.bool true) ∧ W.cell? ⟨w.heap.size, 1, none⟩ = some (.int .u64 0) ∧ W.cell? ⟨w.heap.size, 2, none⟩ = some (.int .u64 l)) (first | (refine ⟨?_, ?_, ?_⟩ <;> assumption) | go_keep)
    (first | (go_at_call 43; (with_reducible refine (sof_exact (-l) true 0 l _ hk1 hk2 HZ.out).mono ?_); rintro e w6 ⟨rfl, g6⟩; obtain ⟨_, _, _, _, _, _, _⟩ := K5.out.drew.after g6; have D6 := below_step D5.drew g6))
  go_wp2
  go_ret
  exact ⟨rfl, D6⟩

set_option maxRecDepth 100000 in
set_option maxHeartbeats 4000000 in
theorem small_c3 (n : Int) (w : World) (hn : -9223372036854775808 ≤ n) (hn' : n ≤ 9223372036854775807) (N : Nat) (hW : IsW 0 9223372036854775808 N) :
    Calls Try.prog 9 #[.int .i64 n, .agg #[.bool true, .int .u64 0, .int .u64 9223372036854775808]] w fun e w' => e = .returned (.bool true) ∧ Below w.heap.size w w' := by
  have HW := Lib.hid hW
  have hv : valZ true N = -9223372036854775808 := by obtain ⟨_, _, _, _, e⟩ := hW; simp [valZ]; omega
  have hk1 : -9223372036854775808 ≤ -9223372036854775808 := by omega
  have hk2 : -9223372036854775808 ≤ 9223372036854775807 := by omega
  have hz1 := Lib.hid (show smallN (valZ true N) = -9223372036854775808 by rw [hv]; exact (small_in hk1 hk2).1)
  have hz2 := Lib.hid (show smallC (valZ true N) = 0 by rw [hv]; exact (small_in hk1 hk2).2)
  have HZ : Hid (IsZ true 0 9223372036854775808 (-9223372036854775808)) := ⟨by simp <;> omega, by have e : Int.natAbs (-9223372036854775808) = N := (by obtain ⟨_, _, _, _, e⟩ := hW; omega); rw [e]; exact hW⟩
  clear hW hv
  have K0 := Lib.hid (Var3.fresh w (.bool true) (.int .u64 0) (.int .u64 9223372036854775808) 58 w.heap.size rfl)
  go_enter Try.func9, Try.ntmps9
  go_wp2_with (first
    | (go_at_call 34; (with_reducible refine (sg_awake _).mono ?_); rintro e w1 ⟨rfl, g1⟩; have K1 := Lib.hid (K0.out.after g1); have D1 := below_step (below_more (Below.refl w.heap.size w) _) g1)
    | (go_at_call 43; (with_reducible refine (sof_parts n _ hn hn').mono ?_); rintro e w2 ⟨xl, rfl, hX, g2⟩; have K2 := Lib.hid (K1.out.after g2); have D2 := below_step D1 g2; replace hX := Lib.hid hX)
    | (go_at_call 44; (with_reducible refine (small_back n (decide (n < 0)) 0 xl _ hX.out hn hn').mono ?_); rintro e w3 ⟨rfl, g3⟩; have K3 := Lib.hid ((K2.out.alloc _).after g3); have X3 := Lib.hid ((Var3.fresh w2 (.bool (decide (n < 0))) (.int .u64 0) (.int .u64 xl) 58 w2.heap.size rfl).after g3); obtain ⟨_, _, _, _, _, _, _⟩ := X3.out; have D3 := below_step (below_more D2 _) g3)
    | (go_at_call 42; (with_reducible refine (right_of n (decide (n < 0)) 0 xl _ hX.out).mono ?_); rintro e w4 ⟨rfl, g4⟩; have K4 := Lib.hid (K3.out.after g4); obtain ⟨_, _, _, _, _, _, _⟩ := K4.out; obtain ⟨_, _, _, _, _, _, _⟩ := X3.out.after g4; have D4 := below_step D3 g4)
    | (go_at_call 44; (with_reducible refine (small_is true 0 9223372036854775808 N (-9223372036854775808) 0 _ HW.out hz1.out hz2.out).mono ?_); rintro e w5 ⟨rfl, g5⟩; have K5 := Lib.hid (K4.out.after g5); obtain ⟨_, _, _, _, _, _, _⟩ := K5.out; have D5 := below_step D4 g5))
  obtain ⟨_, _, _, _, _, _, _⟩ := K5.out.drew
  go_region_held3 (fun W => W.cell? ⟨w.heap.size, 0, none⟩ = some (.bool true) ∧ W.cell? ⟨w.heap.size, 1, none⟩ = some (.int .u64 0) ∧ W.cell? ⟨w.heap.size, 2, none⟩ = some (.int .u64 9223372036854775808)) (first | (refine ⟨?_, ?_, ?_⟩ <;> assumption) | go_keep)
    (first | (go_at_call 43; (with_reducible refine (sof_exact (-9223372036854775808) true 0 9223372036854775808 _ hk1 hk2 HZ.out).mono ?_); rintro e w6 ⟨rfl, g6⟩; obtain ⟨_, _, _, _, _, _, _⟩ := K5.out.drew.after g6; have D6 := below_step D5.drew g6))
  go_wp2
  go_ret
  exact ⟨rfl, D6⟩

theorem small_walk (n : Int) (b : Bool) (h l : Int) (N : Nat) (w : World) (hn : -9223372036854775808 ≤ n) (hn' : n ≤ 9223372036854775807) (hW : IsW h l N) :
    Calls Try.prog 9 #[.int .i64 n, .agg #[.bool b, .int .u64 h, .int .u64 l]] w fun e w' => e = .returned (.bool true) ∧ Below w.heap.size w w' := by
  have h0 := hW.h0
  have l0 := hW.l0
  by_cases hh : h = 0
  · subst hh
    cases b
    · by_cases c1 : l ≤ 9223372036854775807
      · exact small_c1 n l w hn hn' N hW l0 c1 (by omega)
      · by_cases c2 : l = 9223372036854775808
        · subst c2; exact small_b3 n w hn hn' N hW
        · exact small_b2 n l w hn hn' N hW (by omega)
    · by_cases c0 : l = 0
      · subst c0; exact small_none n w hn hn'
      · by_cases c1 : l ≤ 9223372036854775807
        · exact small_c2 n l w hn hn' N hW (by omega) c1 (by omega) c0
        · by_cases c2 : l = 9223372036854775808
          · subst c2; exact small_c3 n w hn hn' N hW
          · exact small_b5 n l w hn hn' N hW (by omega) c0
  · cases b
    · exact small_b1 n h l w hn hn' N hW (by omega)
    · exact small_b4 n h l w hn hn' N hW (by omega) hh

theorem small_own : ownKnob Try.prog.godebug = none := by kernel_rfl

set_option maxRecDepth 100000 in
theorem small_lifted (os : Os) (started : os.Started) (H : Type) (enc : TypeId × Value → H) :
    ReturnsInHanded {} Try.checked os 9 .any (Rows.signedSmallSpec.pre6 enc Try.prog Try.f9 Rows.signedSmallRow.domain false) (Rows.signedSmallSpec.post enc Try.prog Try.f9 false true false false) := by
  refine returnsInHanded_of_change (C := Try.checked) small_own started (by kernel_rfl) Try.func9
    (ChangeSpec.witness6 (enc := enc) (C := Try.checked) false ⟨#[], #[.int .i64 0, .agg #[.bool false, .int .u64 0, .int .u64 0]], []⟩ 8 (by kernel_rfl) (by kernel_rfl) (by kernel_rfl) (by kernel_rfl)) ?_
  intro W base args ds gs before hval0 hW hcnd _
  have hval : ∀ (j : Nat) t v, Try.f9.params[j]? = some t → args[j]? = some v → Value.okWide Try.prog W .any base t v := hval0
  have hW' := hW
  obtain ⟨p, q, hA0, hV, rfl, hfz, hnd⟩ := hW
  have hA : DataW.TrodAll enc Try.prog W 0 (fun _ => true) true Try.f9.params.toList args.toList ds p := hA0
  rw [Try.params9] at hA hval
  obtain ⟨v0, v1, d0, d1, p0, p1, rfl, rfl, rfl, h0, h1⟩ := trodAll_two hA
  obtain ⟨rfl, rfl⟩ := trodVars_none hV
  obtain ⟨n, rfl, rfl, rfl, wn⟩ := open_int Try.underlying2 (hval 0 2 v0 rfl rfl) h0
  obtain ⟨b, h, l, rfl, rfl, rfl, wh, wl⟩ := open_signed (hval 1 58 v1 rfl rfl) h1
  clear hA0 hval0
  simp only [List.append_nil] at hW'
  refine (small_walk n b h l _ W (bounds_i64 wn).1 (bounds_i64 wn).2 (IsW.of (word_wf h wh).1 (word_wf h wh).2 (word_wf l wl).1 (word_wf l wl).2)).mono fun e W' ⟨he, bel⟩ => ?_
  subst he
  exact ⟨_, rfl, _, _, _, [], [], [], hW', trodAll_mk1 (shut_bool Try.underlying4 _), trodAll_mk2 (shut_int Try.underlying2 wn) (shut_signed _ _ b h l wh wl), rfl, bel.frame _, fun h => by cases h⟩

theorem small_over : Rows.signedSmallRow.holds Try.pinned (OpenSpec.ofChange Rows.signedSmallSpec) :=
  OpenClaim.holds_of_wide 9 Try.f9 rfl rfl rfl rfl rfl rfl rfl ⟨rfl, rfl, rfl, rfl, rfl⟩ rfl rfl rfl rfl rfl (by kernel_rfl) Try.func9 (by kernel_rfl)
    (of_decide_eq_true (by kernel_rfl)) (by unfold Func.isWrapper; first | (rw [if_pos (by decide +kernel)]; kernel_rfl) | (rw [if_neg (by decide +kernel)]; exact ⟨rfl, rfl⟩))
    (fun os started H enc _ => small_lifted os started H enc)

/-- The statement. -/
theorem signed_small_proved : Rows.SignedSmallSaid := small_over

end Go.Proofs.Ytcdafppnfflmcaa
