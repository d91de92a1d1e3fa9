/-
  Package tree's reader: next, word, fail, begin, walked.
-/
import Derived.Test.YtmgimkokmlcllaaGreatDoorPkTrem
import Derived.Test.YtmgimkokmlcllaaGreatDoorPkTrea
import Derived.WalkLawsBesides
namespace Go.Proofs.YtmgimkokmlcllaaGreatDoor
open Go.RowKit

theorem OnlyO.past {base : Nat} {O : Foot} {w W W' : World} (h : OnlyO base O w W) (hb : Below w.heap.size W W') (hB : base ≤ w.heap.size) : OnlyO base O w W' :=
  ⟨h.bel.trans (hb.mono hB), fun i hi hne => (hb.block i hi).trans (h.keep i hi hne)⟩
theorem OnlyO.step {base : Nat} {O : Foot} {w W W' : World} (h : OnlyO base O w W) (g : OnlyO base O W W') : OnlyO base O w W' := h.trans g (Grown.refl _ _)
def tkA (t : Tk3) : Value := .agg #[.int .i64 t.k, .string t.s, .int .u64 t.n, .int .i64 t.a, .int .i64 t.b]
def RdM (w : World) (rb : Nat) (T : List Tk3) (n : Nat) : Prop := ∃ v, Var2 w rb v (.int .i64 (n : Int)) ∧ WordsIs w (fun b => b < rb) v T
theorem Var2.hold {W W' : World} {p : Nat} {x y : Value} (h : Var2 W p x y) (e : W'.heap[p]? = W.heap[p]?) (hs : W.heap.size ≤ W'.heap.size) : Var2 W' p x y :=
  ⟨(World.cell?_of_block e).trans h.c0, (World.cell?_of_block e).trans h.c1, (World.frozen?_of_block e).trans h.q0, (World.frozen?_of_block e).trans h.q1, Nat.lt_of_lt_of_le h.s hs⟩
theorem Var2.set0 {W : World} {p : Nat} {x y : Value} (h : Var2 W p x y) (z : Value) : Var2 (W.setCell ⟨p, 0, none⟩ z) p z y := by
  obtain ⟨q0, q1, p0, p1, s⟩ := h
  refine ⟨?_, ?_, ?_, ?_, ?_⟩ <;> simp [go_sem, *]
theorem Var2.set1 {W : World} {p : Nat} {x y : Value} (h : Var2 W p x y) (z : Value) : Var2 (W.setCell ⟨p, 1, none⟩ z) p x z := by
  obtain ⟨q0, q1, p0, p1, s⟩ := h
  refine ⟨?_, ?_, ?_, ?_, ?_⟩ <;> simp [go_sem, *]
theorem RdM.lt {w : World} {rb : Nat} {T : List Tk3} {n : Nat} (h : RdM w rb T n) : rb < w.heap.size := by obtain ⟨v, h, _⟩ := h; exact h.s
theorem RdM.keep {w w' : World} {rb : Nat} {T : List Tk3} {n : Nat} (h : RdM w rb T n) (hb : ∀ i, i ≤ rb → w'.heap[i]? = w.heap[i]?) (hs : w.heap.size ≤ w'.heap.size) : RdM w' rb T n := by
  obtain ⟨v, h1, h2⟩ := h
  exact ⟨v, h1.hold (hb rb (Nat.le_refl _)) hs, h2.keep (fun _ h => h) (fun b hb2 => hb b (Nat.le_of_lt hb2))⟩
theorem RdM.after {w w' : World} {rb : Nat} {T : List Tk3} {n : Nat} (h : RdM w rb T n) (hb : Below w.heap.size w w') : RdM w' rb T n :=
  h.keep (fun i hi => hb.block i (Nat.lt_of_le_of_lt hi h.lt)) hb.size
theorem Var5.besides {W : World} {p r : Nat} {x0 x1 x2 x3 x4 : Value} (k : Var5 W p x0 x1 x2 x3 x4) (h : p ≠ r) (y0 y1 y2 y3 y4 : Value) : Var5 (put5 W r y0 y1 y2 y3 y4) p x0 x1 x2 x3 x4 :=
  k.stay (by unfold put5; rw [sset_else _ _ _ _ _ h, sset_else _ _ _ _ _ h, sset_else _ _ _ _ _ h, sset_else _ _ _ _ _ h, sset_else _ _ _ _ _ h]) (by rw [put5_size]; exact Nat.le_refl _)
theorem under_toks : Tryz.prog.underlying 49 = some (.slice 59) := by kernel_rfl
theorem elem_toks (W : World) : (sizeOf (Tryz.prog.elem 49)).run Tryz.prog W = .ok 5 W := by kernel_rfl
set_option maxRecDepth 100000 in
/-- All behind the first token. -/
theorem toks_rest (b off n cap : Nat) (W : World) (hc : n + 1 ≤ cap) : ∃ a c, (Instr.slice 49 (.slice (some ⟨b, off, none⟩) (n + 1) cap) (some (.int .i64 1)) none none).run Tryz.prog W = .ok (.slice a n c) W ∧ (n = 0 ∨ a = some ⟨b, off + 5, none⟩) ∧ n ≤ c := by
  refine ⟨if cap = 1 then some ⟨b, off, none⟩ else some ⟨b, off + 5, none⟩, cap - 1, ?_, ?_, by omega⟩
  · have := run_slice_l W 49 (some ⟨b, off, none⟩) (n + 1) cap under_toks .i64 1 (by omega) (by omega)
    rw [this, elem_toks]
    simp only [Result.andThen, sliced]
    by_cases h1 : cap = 1
    · simp [h1]
    · simp [h1, Addr.add]
  · by_cases h1 : cap = 1
    · exact Or.inl (by omega)
    · exact Or.inr (if_neg h1)
set_option maxRecDepth 100000 in
theorem next_results {W : World} {g : Nat} {x0 x1 x2 x3 x4 : Value} {tmps : Array Value} (h : Var5 W g x0 x1 x2 x3 x4) (h2 : tmps.getD 2 undef = .pointer (some ⟨g, 0, none⟩)) : (results Tryz.f53 tmps).run Tryz.prog W = .ok (.agg #[x0, x1, x2, x3, x4]) W := by
  have e : (asAddr (Value.pointer (some ⟨g, 0, none⟩))).run Tryz.prog W = .ok ⟨g, 0, none⟩ W := rfl
  have hr : Tryz.f53.results = #[.cell 2 59] := rfl
  have q2 : tmps[2]?.getD undef = .pointer (some ⟨g, 0, none⟩) := by simpa using h2
  simp only [results, hr]
  simp [Sem.run_bind, Result.andThen, q2, e, load_tok h]

set_option maxRecDepth 100000 in
set_option maxHeartbeats 8000000 in
theorem next_any (w : World) (rb n : Nat) (t : Tk3) (T : List Tk3) (h : RdM w rb (t :: T) n) : Calls Tryz.prog 53 #[.pointer (some ⟨rb, 0, none⟩)] w fun e w' => e = .returned (tkA t) ∧ RdM w' rb T n ∧ OnlyO rb (fun i => i = rb) w w' := by
  obtain ⟨v, hv, hw⟩ := h
  obtain ⟨b, off, cap, rfl, hc, hb, t0, t1, t2, t3, t4, hrest⟩ := hw.first
  obtain ⟨B, hB⟩ : ∃ B, w.heap.size = B := ⟨_, rfl⟩
  have hrB : rb < B := hB ▸ hv.s
  have hb : b < rb := hb
  obtain ⟨W0, hW0⟩ : ∃ W, w.alloc (.cells #[.int .i64 0, .string ⟨#[]⟩, .int .u64 0, .int .i64 0, .int .i64 0] 59) = W := ⟨_, rfl⟩
  have V0 : Var5 W0 B (.int .i64 0) (.string ⟨#[]⟩) (.int .u64 0) (.int .i64 0) (.int .i64 0) := by rw [← hW0]; exact Var5.fresh _ _ _ _ _ _ _ _ hB.symm
  have g0 : Below B w W0 := by rw [← hW0, ← hB]; exact (Below.refl _ _).alloc (Nat.le_refl _) _
  have hs0 : W0.heap.size = B + 1 := by rw [← hW0]; simp [hB]
  obtain ⟨W1, hW1⟩ : ∃ W, W0.alloc (.cells #[.int .i64 0, .string ⟨#[]⟩, .int .u64 0, .int .i64 0, .int .i64 0] 59) = W := ⟨_, rfl⟩
  have U1 : Var5 W1 (B + 1) (.int .i64 0) (.string ⟨#[]⟩) (.int .u64 0) (.int .i64 0) (.int .i64 0) := by rw [← hW1]; exact Var5.fresh _ _ _ _ _ _ _ _ hs0.symm
  have g1 : Below B w W1 := by rw [← hW1]; exact g0.alloc (by omega) _
  have b1 : Below W0.heap.size W0 W1 := by rw [← hW1]; exact (Below.refl _ _).alloc (Nat.le_refl _) _
  obtain ⟨k, s, m, x, y⟩ := t
  simp only at t0 t1 t2 t3 t4
  obtain ⟨W2, hW2⟩ : ∃ W, put5 W1 (B + 1) (.int .i64 k) (.string s) (.int .u64 m) (.int .i64 x) (.int .i64 y) = W := ⟨_, rfl⟩
  have U2 : Var5 W2 (B + 1) (.int .i64 k) (.string s) (.int .u64 m) (.int .i64 x) (.int .i64 y) := by rw [← hW2]; exact U1.put _ _ _ _ _
  have g2 : Below B w W2 := by rw [← hW2]; exact below_put5 g1 (by omega) _ _ _ _ _
  have V2 : Var5 W2 B (.int .i64 0) (.string ⟨#[]⟩) (.int .u64 0) (.int .i64 0) (.int .i64 0) := by rw [← hW2]; exact (V0.after b1).besides (by omega) _ _ _ _ _
  have hW2' : (((((W1.setCell ⟨B + 1, 0, none⟩ (.int .i64 k)).setCell ⟨B + 1, 1, none⟩ (.string s)).setCell ⟨B + 1, 2, none⟩ (.int .u64 m)).setCell ⟨B + 1, 3, none⟩ (.int .i64 x)).setCell ⟨B + 1, 4, none⟩ (.int .i64 y)) = W2 := hW2
  have hz2 : W2.heap.size = B + 2 := by rw [← hW2, put5_size, ← hW1]; simp [hs0]
  obtain ⟨a', c, hsl, hv', hc'⟩ := toks_rest b off T.length cap W2 hc
  obtain ⟨W3, hW3⟩ : ∃ W, W2.setCell ⟨rb, 0, none⟩ (.slice a' T.length c) = W := ⟨_, rfl⟩
  have U3 : Var5 W3 (B + 1) (.int .i64 k) (.string s) (.int .u64 m) (.int .i64 x) (.int .i64 y) := by rw [← hW3]; exact U2.stay (sset_else _ _ _ _ _ (by omega)) (by simp)
  have V3 : Var5 W3 B (.int .i64 0) (.string ⟨#[]⟩) (.int .u64 0) (.int .i64 0) (.int .i64 0) := by rw [← hW3]; exact V2.stay (sset_else _ _ _ _ _ (by omega)) (by simp)
  have R2 := hv.after (hB ▸ g2)
  have R3 : Var2 W3 rb (.slice a' T.length c) (.int .i64 (n : Int)) := by
    rw [← hW3]
    exact R2.set0 _
  have O3 : OnlyO rb (fun i => i = rb) w W3 := by rw [← hW3]; exact (OnlyO.of (base := rb) (O := fun i => i = rb) (by rw [hB]; exact g2) (by omega)).set rfl (Nat.le_refl _) _ _
  have HFIN : Hid (RdM (put5 W3 B (.int .i64 k) (.string s) (.int .u64 m) (.int .i64 x) (.int .i64 y)) rb T n ∧ OnlyO rb (fun i => i = rb) w (put5 W3 B (.int .i64 k) (.string s) (.int .u64 m) (.int .i64 x) (.int .i64 y))) := by
    have hbp : Below B W3 (put5 W3 B (.int .i64 k) (.string s) (.int .u64 m) (.int .i64 x) (.int .i64 y)) := below_put5 (Below.refl _ _) (Nat.le_refl _) _ _ _ _ _
    have O4 : OnlyO rb (fun i => i = rb) w (put5 W3 B (.int .i64 k) (.string s) (.int .u64 m) (.int .i64 x) (.int .i64 y)) := O3.past (hB ▸ hbp) (by omega)
    refine Lib.hid ⟨⟨_, R3.hold (hbp.block rb hrB) hbp.size, ?_⟩, O4⟩
    have hk : ∀ i, i < rb → (put5 W3 B (.int .i64 k) (.string s) (.int .u64 m) (.int .i64 x) (.int .i64 y)).heap[i]? = w.heap[i]? := fun i hi => O4.keep i (by omega) (by omega)
    rcases hv' with h1 | rfl
    · obtain rfl : T = [] := List.eq_nil_of_length_eq_zero h1
      exact WordsIs.none' _ _ _ _
    · exact (hrest c hc').keep (fun _ h => h) hk
  have hb : b < rb := hb
  have e0 := (g0.cell (p := ⟨b, off, none⟩) (by show b < B; omega)).trans t0
  have e1 := (g0.cell (p := ⟨b, off + 1, none⟩) (by show b < B; omega)).trans t1
  have e2 := (g0.cell (p := ⟨b, off + 2, none⟩) (by show b < B; omega)).trans t2
  have e3 := (g0.cell (p := ⟨b, off + 3, none⟩) (by show b < B; omega)).trans t3
  have e4 := (g0.cell (p := ⟨b, off + 4, none⟩) (by show b < B; omega)).trans t4
  have r0 := (g0.cell (p := ⟨rb, 0, none⟩) hrB).trans hv.c0
  have r2 := R2.c0
  have f2 := R2.q0
  have hn1 : ¬ rb = B := by omega
  have hn2 : ¬ rb = B + 1 := by omega
  have c10 := U1.c0; have c11 := U1.c1; have c12 := U1.c2; have c13 := U1.c3; have c14 := U1.c4; have c1q := U1.q
  have c30 := U3.c0; have c31 := U3.c1; have c32 := U3.c2; have c33 := U3.c3; have c34 := U3.c4
  have d0 := V3.c0; have d1 := V3.c1; have d2 := V3.c2; have d3 := V3.c3; have d4 := V3.c4; have dq := V3.q
  have HV := Lib.hid V3
  have hl1 : (0 : Int) < (T.length : Int) + 1 := by omega
  have hb : b < rb := hb
  clear V0 g0 U1 g1 b1 U2 g2 V2 hz2 U3 V3 R2 R3 O3 hv hw hrest t0 t1 t2 t3 t4 hc hc' hb hv' hW2
  go_enter Tryz.func53, Tryz.ntmps53
  go_wp2
  refine bodyPost_ret (next_results (HV.out.put (.int .i64 k) (.string s) (.int .u64 m) (.int .i64 x) (.int .i64 y)) rfl) rfl ?_
  exact ⟨rfl, HFIN.out⟩

def flies (c a b : Int) : Ending := .panicked [{ v := .iface 32 (.agg #[.int .i64 c, .int .i64 a, .int .i64 b]), recovered := false }]
theorem tok_box (w : World) (t : Tk3) : ∃ B W, w.heap.size = B ∧ w.alloc (.cells #[.int .i64 t.k, .string t.s, .int .u64 t.n, .int .i64 t.a, .int .i64 t.b] 59) = W ∧ Var5 W B (.int .i64 t.k) (.string t.s) (.int .u64 t.n) (.int .i64 t.a) (.int .i64 t.b) ∧ Below w.heap.size w W ∧ W.heap.size = B + 1 :=
  ⟨_, _, rfl, rfl, Var5.fresh _ _ _ _ _ _ _ _ rfl, (Below.refl _ _).alloc (Nat.le_refl _) _, by simp⟩

set_option maxRecDepth 100000 in
set_option maxHeartbeats 4000000 in
theorem fail_any (c : Int) (t : Tk3) (w : World) : Calls Tryz.prog 88 #[.int .i64 c, tkA t] w fun e w' => e = flies c t.a t.b ∧ Below w.heap.size w w' := by
  obtain ⟨B, W, hB, hW, V, hb, _⟩ := tok_box w t
  have HB := Lib.hid hb
  have HB2 : Hid (Below B w W) := Lib.hid (hB ▸ hb)
  obtain ⟨c0, c1, c2, c3, c4, _, _⟩ := V
  unfold tkA
  clear hb
  go_enter Tryz.func88, Tryz.ntmps88
  go_wp2
  first | exact ⟨rfl, rfl, HB.out⟩ | exact ⟨rfl, rfl, HB2.out⟩
set_option maxRecDepth 100000 in
set_option maxHeartbeats 4000000 in
theorem word_yes (t : Tk3) (w : World) (h1 : 1 ≤ t.k) (h2 : t.k ≤ 6) : Calls Tryz.prog 89 #[tkA t] w fun e w' => e = .returned (.bool true) ∧ Below w.heap.size w w' := by
  obtain ⟨B, W, hB, hW, V, hb, _⟩ := tok_box w t
  have HB := Lib.hid hb
  have HB2 : Hid (Below B w W) := Lib.hid (hB ▸ hb)
  obtain ⟨c0, c1, c2, c3, c4, _, _⟩ := V
  unfold tkA
  clear hb
  go_enter Tryz.func89, Tryz.ntmps89
  go_wp2
  go_ret
  first | exact ⟨rfl, HB.out⟩ | exact ⟨rfl, HB2.out⟩
set_option maxRecDepth 100000 in
set_option maxHeartbeats 4000000 in
theorem word_no (t : Tk3) (w : World) (h : t.k < 1 ∨ 6 < t.k) : Calls Tryz.prog 89 #[tkA t] w fun e w' => e = .returned (.bool false) ∧ Below w.heap.size w w' := by
  obtain ⟨B, W, hB, hW, V, hb, _⟩ := tok_box w t
  have HB := Lib.hid hb
  have HB2 : Hid (Below B w W) := Lib.hid (hB ▸ hb)
  obtain ⟨c0, c1, c2, c3, c4, _, _⟩ := V
  unfold tkA
  clear hb
  by_cases h1 : t.k < 1
  · have h2 : ¬ 1 ≤ t.k := by omega
    go_enter Tryz.func89, Tryz.ntmps89
    go_wp2
    go_ret
    first | exact ⟨rfl, HB.out⟩ | exact ⟨rfl, HB2.out⟩
  · have h2 : 1 ≤ t.k := by omega
    have h3 : ¬ t.k ≤ 6 := by omega
    go_enter Tryz.func89, Tryz.ntmps89
    go_wp2
    go_ret
    first | exact ⟨rfl, HB.out⟩ | exact ⟨rfl, HB2.out⟩
set_option maxRecDepth 100000 in
set_option maxHeartbeats 4000000 in
theorem begin_fine (d : Nat) (t : Tk3) (w : World) (rb n : Nat) (T : List Tk3) (h : RdM w rb T n) (hk : t.k = 1) (hd : d ≤ 4) (hn : n < 300) : Calls Tryz.prog 54 #[.pointer (some ⟨rb, 0, none⟩), tkA t, .int .i64 (d : Int)] w fun e w' => e = .returned (.tuple #[]) ∧ RdM w' rb T (n + 1) ∧ OnlyO rb (fun i => i = rb) w w' := by
  obtain ⟨v, hv, hw⟩ := h
  obtain ⟨B, W, hB, hW, V, hb, _⟩ := tok_box w t
  have hr : rb < B := hB ▸ hv.s
  have R := hv.after hb
  have HFIN : Hid (RdM (W.setCell ⟨rb, 1, none⟩ (.int .i64 ((n + 1 : Nat) : Int))) rb T (n + 1) ∧ OnlyO rb (fun i => i = rb) w (W.setCell ⟨rb, 1, none⟩ (.int .i64 ((n + 1 : Nat) : Int)))) := by
    have O : OnlyO rb (fun i => i = rb) w (W.setCell ⟨rb, 1, none⟩ (.int .i64 ((n + 1 : Nat) : Int))) := (OnlyO.of (base := rb) (O := fun i => i = rb) hb (by omega)).set rfl (Nat.le_refl _) _ _
    refine Lib.hid ⟨⟨v, R.set1 _, hw.keep (fun _ h => h) (fun b (hb2 : b < rb) => O.keep b (by omega) (by omega))⟩, O⟩
  have r1 := R.c1
  have f1 := R.q1
  have hne : ¬ rb = B := by omega
  obtain ⟨c0, c1, c2, c3, c4, _, _⟩ := V
  obtain ⟨k, s, m, x, y⟩ := t
  simp only at hk
  subst hk
  have hd' : ¬ (4 : Int) < (d : Int) := by omega
  have hn' : ((n : Int) == 300) = false := by simp; omega
  have hi1 : IntKind.i64.wrap ((n : Int) + 1) = ((n + 1 : Nat) : Int) := by rw [IntKind.wrap_i64]; omega
  unfold tkA
  clear hb R hv hw hn hd hr
  go_enter Tryz.func54, Tryz.ntmps54
  go_wp2
  first | go_end0 | refine bodyPost_ret (results_none rfl _ _ _) rfl ?_
  exact ⟨rfl, HFIN.out⟩
set_option maxRecDepth 100000 in
set_option maxHeartbeats 4000000 in
theorem begin_form (d : Nat) (t : Tk3) (w : World) (rb : Nat) (hk : t.k ≠ 1) : Calls Tryz.prog 54 #[.pointer (some ⟨rb, 0, none⟩), tkA t, .int .i64 (d : Int)] w fun e w' => e = flies 6 t.a t.b ∧ Below w.heap.size w w' := by
  obtain ⟨B, W, hB, hW, V, hb, _⟩ := tok_box w t
  have HB := Lib.hid hb
  have HF := Lib.hid (fail_any 6 t W)
  obtain ⟨c0, c1, c2, c3, c4, _, _⟩ := V
  unfold tkA flies at HF
  unfold tkA
  have hkb : (t.k != 1) = true := by simpa using hk
  clear hb hk
  go_enter Tryz.func54, Tryz.ntmps54
  go_wp2_with (go_at_call 88; (with_reducible refine (HF.out).mono ?_); rintro e w1 ⟨rfl, g1⟩; have G1 := Lib.hid (below_step HB.out g1); clear g1)
  exact ⟨rfl, rfl, G1.out⟩
set_option maxRecDepth 100000 in
set_option maxHeartbeats 4000000 in
theorem begin_deep (d : Nat) (t : Tk3) (w : World) (rb : Nat) (hk : t.k = 1) (hd : 4 < d) : Calls Tryz.prog 54 #[.pointer (some ⟨rb, 0, none⟩), tkA t, .int .i64 (d : Int)] w fun e w' => e = flies 19 t.a t.b ∧ Below w.heap.size w w' := by
  obtain ⟨B, W, hB, hW, V, hb, _⟩ := tok_box w t
  have HB := Lib.hid hb
  have HF := Lib.hid (fail_any 19 t W)
  obtain ⟨c0, c1, c2, c3, c4, _, _⟩ := V
  unfold tkA flies at HF
  unfold tkA
  have hkb : (t.k != 1) = false := by simpa using hk
  have hd' : (4 : Int) < (d : Int) := by omega
  clear hb hk hd
  go_enter Tryz.func54, Tryz.ntmps54
  go_wp2_with (go_at_call 88; (with_reducible refine (HF.out).mono ?_); rintro e w1 ⟨rfl, g1⟩; have G1 := Lib.hid (below_step HB.out g1); clear g1)
  exact ⟨rfl, rfl, G1.out⟩
set_option maxRecDepth 100000 in
set_option maxHeartbeats 4000000 in
theorem begin_long (d : Nat) (t : Tk3) (w : World) (rb : Nat) (T : List Tk3) (h : RdM w rb T 300) (hk : t.k = 1) (hd : d ≤ 4) : Calls Tryz.prog 54 #[.pointer (some ⟨rb, 0, none⟩), tkA t, .int .i64 (d : Int)] w fun e w' => e = flies 9 t.a t.b ∧ Below w.heap.size w w' := by
  obtain ⟨v, hv, _⟩ := h
  obtain ⟨B, W, hB, hW, V, hb, _⟩ := tok_box w t
  have HB := Lib.hid hb
  have HF := Lib.hid (fail_any 9 t W)
  have r1 := (hv.after hb).c1
  have r1' : W.cell? ⟨rb, 1, none⟩ = some (.int .i64 300) := r1
  obtain ⟨c0, c1, c2, c3, c4, _, _⟩ := V
  unfold tkA flies at HF
  unfold tkA
  have hkb : (t.k != 1) = false := by simpa using hk
  have hd' : ¬ (4 : Int) < (d : Int) := by omega
  clear hb hk hd hv r1
  go_enter Tryz.func54, Tryz.ntmps54
  go_wp2_with (go_at_call 88; (with_reducible refine (HF.out).mono ?_); rintro e w1 ⟨rfl, g1⟩; have G1 := Lib.hid (below_step HB.out g1); clear g1)
  exact ⟨rfl, rfl, G1.out⟩

end Go.Proofs.YtmgimkokmlcllaaGreatDoor

/-
  Package tree's reader: what a list and an item give; the state of a list's loop.
-/
namespace Go.Proofs.YtmgimkokmlcllaaGreatDoor
open Go.RowKit

def GivesL (d : Nat) (w : World) (rb : Nat) (T : List Tk3) (n : Nat) (e : Ending) (w' : World) : Prop :=
  OnlyO rb (fun i => i = rb) w w' ∧ ((∃ c a b, LBad d T n c a b ∧ e = flies c a b) ∨
    ∃ L v T' n', e = .returned v ∧ LDone d T n L T' n' ∧ ItemsIs (6 - d) w' (fun b => w.heap.size ≤ b ∧ b < w'.heap.size) v L ∧ RdM w' rb T' n' ∧ n ≤ n' ∧ n' ≤ 300 ∧ (2 ≤ d → TEnd T') ∧ T'.length ≤ T.length)
def ListOK (d : Nat) : Prop := ∀ (w : World) (rb : Nat) (T : List Tk3) (n : Nat), RdM w rb T n → TEnd T → n ≤ 300 → Calls Tryz.prog 31 #[.pointer (some ⟨rb, 0, none⟩), .int .i64 (d : Int)] w (GivesL d w rb T n)
def GivesI (d : Nat) (w : World) (rb : Nat) (hd : Hd) (T : List Tk3) (n : Nat) (e : Ending) (w' : World) : Prop :=
  OnlyO rb (fun i => i = rb) w w' ∧ ((∃ c a b, IBad d hd T n c a b ∧ e = flies c a b) ∨
    ∃ x wv kv T' n', e = .returned (.agg #[.string x.name, wv, .bool x.block, kv, .int .i64 x.a, .int .i64 x.b]) ∧ IRun d hd T n x T' n' ∧ WordsIs w' (fun b => w.heap.size ≤ b ∧ b < w'.heap.size) wv x.words ∧ ItemsIs (5 - d) w' (fun b => w.heap.size ≤ b ∧ b < w'.heap.size) kv x.kids ∧ RdM w' rb T' n' ∧ n ≤ n' ∧ n' ≤ 300 ∧ TEnd T' ∧ T'.length ≤ T.length)
def ItemOK (d : Nat) : Prop := ∀ (w : World) (rb : Nat) (t : Tk3) (T : List Tk3) (n : Nat), RdM w rb T n → TEnd T → n ≤ 300 → Calls Tryz.prog 55 #[.pointer (some ⟨rb, 0, none⟩), tkA t, .int .i64 (d : Int)] w (GivesI d w rb { name := t.s, a := t.a, b := t.b } T n)

theorem OnlyO.trans2 {rb : Nat} {O : Foot} {w w3 w4 : World} {K : Foot} (h : OnlyO rb O w w3) (g : OnlyO w.heap.size K w3 w4) (hr : rb < w.heap.size) : OnlyO rb O w w4 :=
  h.past g.bel (Nat.le_of_lt hr)
structure TokVar (w : World) (g : Nat) (t : Tk3) (W5 W6 : World) : Prop where
  g0 : w.heap.size = g
  a5 : w.alloc (.cells #[.int .i64 0, .string ⟨#[]⟩, .int .u64 0, .int .i64 0, .int .i64 0] 59) = W5
  s6 : (((((W5.setCell ⟨g, 0, none⟩ (.int .i64 t.k)).setCell ⟨g, 1, none⟩ (.string t.s)).setCell ⟨g, 2, none⟩ (.int .u64 t.n)).setCell ⟨g, 3, none⟩ (.int .i64 t.a)).setCell ⟨g, 4, none⟩ (.int .i64 t.b)) = W6
  f5 : Var5 W5 g (.int .i64 0) (.string ⟨#[]⟩) (.int .u64 0) (.int .i64 0) (.int .i64 0)
  f6 : Var5 W6 g (.int .i64 t.k) (.string t.s) (.int .u64 t.n) (.int .i64 t.a) (.int .i64 t.b)
  b6 : Below w.heap.size w W6
  z6 : W6.heap.size = g + 1
theorem tok_var (w : World) (t : Tk3) : ∃ g W5 W6, TokVar w g t W5 W6 := by
  obtain ⟨g, hg⟩ : ∃ g, w.heap.size = g := ⟨_, rfl⟩
  obtain ⟨W5, hW5⟩ : ∃ W, w.alloc (.cells #[.int .i64 0, .string ⟨#[]⟩, .int .u64 0, .int .i64 0, .int .i64 0] 59) = W := ⟨_, rfl⟩
  have h5 : Below w.heap.size w W5 := by rw [← hW5]; exact (Below.refl _ _).alloc (Nat.le_refl _) _
  have F5 : Var5 W5 g (.int .i64 0) (.string ⟨#[]⟩) (.int .u64 0) (.int .i64 0) (.int .i64 0) := by rw [← hW5]; exact Var5.fresh _ _ _ _ _ _ _ _ hg.symm
  exact ⟨g, W5, _, hg, hW5, rfl, F5, F5.put _ _ _ _ _, below_put5 h5 (by omega) _ _ _ _ _, by
    have := put5_size W5 g (.int .i64 t.k) (.string t.s) (.int .u64 t.n) (.int .i64 t.a) (.int .i64 t.b)
    have e : W5.heap.size = g + 1 := by rw [← hW5]; simp [hg]
    rw [← e]; exact this⟩

structure LK (d : Nat) (B : Nat) (t : Tk3) (tb : Nat) (v : Value) (ps : List ItV) (wr : World) : Prop where
  tok : Var5 wr tb (.int .i64 t.k) (.string t.s) (.int .u64 t.n) (.int .i64 t.a) (.int .i64 t.b)
  tlo : B ≤ tb
  lst : ∃ S : Nat → Prop, (∀ b, S b → B ≤ b ∧ b < wr.heap.size ∧ b ≠ tb) ∧ ListIs (5 - d) wr S B v ps
  nv : v.ownBlock ≠ some tb
theorem LK.only {d B : Nat} {t : Tk3} {tb rb : Nat} {v : Value} {ps : List ItV} {wr w' : World} (h : LK d B t tb v ps wr) (ho : OnlyO rb (fun i => i = rb) wr w') (hr : rb < B) : LK d B t tb v ps w' := by
  obtain ⟨S, hS, hl⟩ := h.lst
  have hlt := h.tlo
  refine ⟨h.tok.stay (ho.keep tb h.tok.s (fun e => by omega)) ho.size, h.tlo, ⟨S, fun b hb => ?_, ?_⟩, h.nv⟩
  · have := hS b hb
    exact ⟨this.1, Nat.lt_of_lt_of_le this.2.1 ho.size, this.2.2⟩
  · refine hl.keep (fun _ h => h) (fun b hb => ho.keep b (hS b hb).2.1 (fun e => ?_)) (fun b hb => ho.keep b (hl.row.lt hb).2 (fun e => ?_)) hl.out
    · have := (hS b hb).1; omega
    · have := (hl.row.lt hb).1; omega
theorem LK.first {d rb g : Nat} {t : Tk3} {w w1 W5 W6 : World} (h : TokVar w1 g t W5 W6) (ho : OnlyO rb (fun i => i = rb) w w1) : LK d w.heap.size t g (.slice none 0 0) [] W6 :=
  ⟨h.f6, by have := h.g0; have := ho.size; omega, ⟨fun _ => False, fun b hb => hb.elim, ListIs.nil _ _ _ _⟩, fun e => by cases e⟩
def lenR (w : World) (rb : Nat) : Nat := match w.cell? ⟨rb, 0, none⟩ with
  | some (.slice _ n _) => n
  | _ => 0
theorem RdM.len {w : World} {rb n : Nat} {T : List Tk3} (h : RdM w rb T n) : lenR w rb = T.length := by
  obtain ⟨v, h1, h2⟩ := h
  obtain ⟨a, cap, rfl⟩ := h2.size
  unfold lenR
  rw [h1.c0]
theorem item_cells {w : World} {p : ItV} : ∀ j, j < 6 → (w.alloc (.cells #[.string p.x.name, p.wv, .bool p.x.block, p.kv, .int .i64 p.x.a, .int .i64 p.x.b] 51)).cell? ⟨w.heap.size, j, none⟩ = some (p.cells.getD j undef) := fun j hj => by
  have : j = 0 ∨ j = 1 ∨ j = 2 ∨ j = 3 ∨ j = 4 ∨ j = 5 := by omega
  rcases this with rfl | rfl | rfl | rfl | rfl | rfl <;> simp [ItV.cells]
theorem LK.push {d B lo : Nat} {t : Tk3} {tb : Nat} {v v' : Value} {ps : List ItV} {p : ItV} {w2 w3 w4 : World} (h : LK d B t tb v ps w2) (h3 : Below w2.heap.size w2 w3) (hlo : B ≤ lo) (hlt : tb < lo) (hvo : ∀ b, v.ownBlock = some b → b < lo)
    (hw : WordsIs w2 (fun b => lo ≤ b ∧ b < w2.heap.size) p.wv p.x.words) (hk : ItemsIs (5 - d) w2 (fun b => lo ≤ b ∧ b < w2.heap.size) p.kv p.x.kids)
    (hr : RowK 51 6 w4 B v' (ps.map ItV.cells ++ [p.cells])) (ho : OnlyO B (fun i => some i = v.ownBlock) w3 w4) (hv : v'.ownBlock = v.ownBlock ∨ v'.ownBlock = some w3.heap.size) : LK d B t tb v' (ps ++ [p]) w4 := by
  obtain ⟨S, hS, hl⟩ := h.lst
  have hs3 := h3.size
  have hs4 := ho.size
  have kept : ∀ b, b < w2.heap.size → v.ownBlock ≠ some b → w4.heap[b]? = w2.heap[b]? := fun b hb hne => (ho.keep b (by omega) (fun e => hne e.symm)).trans (h3.block b hb)
  have hne2 : ∀ b, lo ≤ b → v.ownBlock ≠ some b := fun b hb e => by have := hvo b e; omega
  refine ⟨h.tok.stay (kept tb h.tok.s h.nv) (by omega), h.tlo, ⟨fun b => S b ∨ (lo ≤ b ∧ b < w2.heap.size), fun b hb => ?_, ?_⟩, ?_⟩
  · rcases hb with hb | hb
    · have := hS b hb
      exact ⟨this.1, by omega, this.2.2⟩
    · exact ⟨by omega, by omega, by omega⟩
  · refine hl.push (S' := fun b => S b ∨ (lo ≤ b ∧ b < w2.heap.size)) hr (fun b hb => Or.inl hb) (fun b hb => kept b (hS b hb).2.1 (fun e => hl.out b e hb)) (hw.keep (fun b hb => Or.inr hb) (fun b hb => kept b hb.2 (hne2 b hb.1))) (ItemsIs.keep hk (fun b hb => Or.inr hb) (fun b hb => kept b hb.2 (hne2 b hb.1))) (fun b hb => ?_)
    rcases hv with hv | hv
    · rintro (hx | hx)
      · exact hl.out b (hv ▸ hb) hx
      · exact hne2 b hx.1 (hv ▸ hb)
    · rw [hv] at hb
      injection hb with hb
      subst hb
      rintro (hx | hx)
      · have := (hS _ hx).2.1; omega
      · omega
  · rcases hv with hv | hv
    · rw [hv]; exact h.nv
    · rw [hv]
      intro e
      injection e with e
      have := h.tok.s
      omega
theorem LK.next {d B : Nat} {t t' : Tk3} {tb g : Nat} {v : Value} {ps : List ItV} {wr w' : World} (h : LK d B t tb v ps wr) (hg : wr.heap.size ≤ g) (hk : ∀ i, B ≤ i → i < wr.heap.size → w'.heap[i]? = wr.heap[i]?) (hs : wr.heap.size ≤ w'.heap.size) (hB : B ≤ wr.heap.size) (hv : Var5 w' g (.int .i64 t'.k) (.string t'.s) (.int .u64 t'.n) (.int .i64 t'.a) (.int .i64 t'.b)) : LK d B t' g v ps w' := by
  obtain ⟨S, hS, hl⟩ := h.lst
  refine ⟨hv, by omega, ⟨S, fun b hb => ?_, ?_⟩, fun e => ?_⟩
  · have := hS b hb
    exact ⟨this.1, by omega, by omega⟩
  · exact hl.keep (fun _ h => h) (fun b hb => hk b (hS b hb).1 (hS b hb).2.1) (fun b hb => hk b (hl.row.lt hb).1 (hl.row.lt hb).2) hl.out
  · have := (hl.row.lt e).2; omega
theorem LK.items {d B : Nat} {t : Tk3} {tb : Nat} {v : Value} {ps : List ItV} {wr : World} (h : LK d B t tb v ps wr) (hd : d ≤ 5) : ItemsIs (6 - d) wr (fun b => B ≤ b ∧ b < wr.heap.size) v (ps.map ItV.x) := by
  obtain ⟨S, hS, hl⟩ := h.lst
  have e : 6 - d = 5 - d + 1 := by omega
  rw [e]
  exact hl.items (fun b hb => ⟨(hS b hb).1, (hS b hb).2.1⟩) (fun b hb => hl.row.lt hb)
theorem LK.blk {d B : Nat} {t : Tk3} {tb : Nat} {v : Value} {ps : List ItV} {wr : World} (h : LK d B t tb v ps wr) : ∀ b, v.ownBlock = some b → b < wr.heap.size := fun b hb => by
  obtain ⟨S, _, hl⟩ := h.lst
  exact (hl.row.lt hb).2
theorem LK.row {d B : Nat} {t : Tk3} {tb : Nat} {v : Value} {ps : List ItV} {wr : World} (h : LK d B t tb v ps wr) : RowK 51 6 wr B v (ps.map ItV.cells) := by
  obtain ⟨S, _, hl⟩ := h.lst
  exact hl.row

end Go.Proofs.YtmgimkokmlcllaaGreatDoor

/-
  Package tree's item: its variables.
-/
namespace Go.Proofs.YtmgimkokmlcllaaGreatDoor
open Go.RowKit

structure Var6 (W : World) (p : Nat) (x0 x1 x2 x3 x4 x5 : Value) : Prop where
  c0 : W.cell? ⟨p, 0, none⟩ = some x0
  c1 : W.cell? ⟨p, 1, none⟩ = some x1
  c2 : W.cell? ⟨p, 2, none⟩ = some x2
  c3 : W.cell? ⟨p, 3, none⟩ = some x3
  c4 : W.cell? ⟨p, 4, none⟩ = some x4
  c5 : W.cell? ⟨p, 5, none⟩ = some x5
  q : ∀ i, W.frozen? ⟨p, i, none⟩ = false
  s : p < W.heap.size
theorem Var6.fresh (W : World) (x0 x1 x2 x3 x4 x5 : Value) (t : TypeId) (p : Nat) (hp : p = W.heap.size) : Var6 (W.alloc (.cells #[x0, x1, x2, x3, x4, x5] t)) p x0 x1 x2 x3 x4 x5 := by
  subst hp
  exact ⟨by simp, by simp, by simp, by simp, by simp, by simp, fun i => by simp [go_sem], by simp⟩
theorem Var6.stay {W W' : World} {p : Nat} {x0 x1 x2 x3 x4 x5 : Value} (h : Var6 W p x0 x1 x2 x3 x4 x5) (e : W'.heap[p]? = W.heap[p]?) (hs : W.heap.size ≤ W'.heap.size) : Var6 W' p x0 x1 x2 x3 x4 x5 :=
  ⟨(World.cell?_of_block e).trans h.c0, (World.cell?_of_block e).trans h.c1, (World.cell?_of_block e).trans h.c2, (World.cell?_of_block e).trans h.c3, (World.cell?_of_block e).trans h.c4, (World.cell?_of_block e).trans h.c5, fun i => (World.frozen?_of_block e).trans (h.q i), Nat.lt_of_lt_of_le h.s hs⟩
theorem Var6.after {W W' : World} {p : Nat} {x0 x1 x2 x3 x4 x5 : Value} (h : Var6 W p x0 x1 x2 x3 x4 x5) (hb : Below W.heap.size W W') : Var6 W' p x0 x1 x2 x3 x4 x5 := h.stay (hb.block p h.s) hb.size
def put6 (W : World) (p : Nat) (y0 y1 y2 y3 y4 y5 : Value) : World := (((((W.setCell ⟨p, 0, none⟩ y0).setCell ⟨p, 1, none⟩ y1).setCell ⟨p, 2, none⟩ y2).setCell ⟨p, 3, none⟩ y3).setCell ⟨p, 4, none⟩ y4).setCell ⟨p, 5, none⟩ y5
theorem Var6.put {W : World} {p : Nat} {x0 x1 x2 x3 x4 x5 : Value} (h : Var6 W p x0 x1 x2 x3 x4 x5) (y0 y1 y2 y3 y4 y5 : Value) : Var6 (put6 W p y0 y1 y2 y3 y4 y5) p y0 y1 y2 y3 y4 y5 := by
  obtain ⟨c0, c1, c2, c3, c4, c5, q, s⟩ := h
  unfold put6
  refine ⟨?_, ?_, ?_, ?_, ?_, ?_, fun i => ?_, ?_⟩ <;> simp [go_sem, *]
theorem Var6.set1 {W : World} {p : Nat} {x0 x1 x2 x3 x4 x5 : Value} (h : Var6 W p x0 x1 x2 x3 x4 x5) (y : Value) : Var6 (W.setCell ⟨p, 1, none⟩ y) p x0 y x2 x3 x4 x5 := by
  obtain ⟨c0, c1, c2, c3, c4, c5, q, s⟩ := h
  refine ⟨?_, ?_, ?_, ?_, ?_, ?_, fun i => ?_, ?_⟩ <;> simp [go_sem, *]
theorem Var6.set2 {W : World} {p : Nat} {x0 x1 x2 x3 x4 x5 : Value} (h : Var6 W p x0 x1 x2 x3 x4 x5) (y : Value) : Var6 (W.setCell ⟨p, 2, none⟩ y) p x0 x1 y x3 x4 x5 := by
  obtain ⟨c0, c1, c2, c3, c4, c5, q, s⟩ := h
  refine ⟨?_, ?_, ?_, ?_, ?_, ?_, fun i => ?_, ?_⟩ <;> simp [go_sem, *]
theorem Var6.set3 {W : World} {p : Nat} {x0 x1 x2 x3 x4 x5 : Value} (h : Var6 W p x0 x1 x2 x3 x4 x5) (y : Value) : Var6 (W.setCell ⟨p, 3, none⟩ y) p x0 x1 x2 y x4 x5 := by
  obtain ⟨c0, c1, c2, c3, c4, c5, q, s⟩ := h
  refine ⟨?_, ?_, ?_, ?_, ?_, ?_, fun i => ?_, ?_⟩ <;> simp [go_sem, *]
theorem put6_size (W : World) (p : Nat) (y0 y1 y2 y3 y4 y5 : Value) : (put6 W p y0 y1 y2 y3 y4 y5).heap.size = W.heap.size := by
  unfold put6
  simp
theorem put6_else (W : World) (p : Nat) (y0 y1 y2 y3 y4 y5 : Value) (j : Nat) (h : j ≠ p) : (put6 W p y0 y1 y2 y3 y4 y5).heap[j]? = W.heap[j]? := by
  unfold put6
  rw [sset_else _ _ _ _ _ h, sset_else _ _ _ _ _ h, sset_else _ _ _ _ _ h, sset_else _ _ _ _ _ h, sset_else _ _ _ _ _ h, sset_else _ _ _ _ _ h]
theorem below_put6 {B : Nat} {w W : World} (h : Below B w W) {p : Nat} (hp : B ≤ p) (y0 y1 y2 y3 y4 y5 : Value) : Below B w (put6 W p y0 y1 y2 y3 y4 y5) := (((((h.setCell hp _).setCell hp _).setCell hp _).setCell hp _).setCell hp _).setCell hp _
theorem load_item {W : World} {g : Nat} {x0 x1 x2 x3 x4 x5 : Value} (h : Var6 W g x0 x1 x2 x3 x4 x5) : (loadVar 51 ⟨g, 0, none⟩).run Tryz.prog W = .ok (.agg #[x0, x1, x2, x3, x4, x5]) W := by
  obtain ⟨c0, c1, c2, c3, c4, c5, _, _⟩ := h
  go_simp
theorem item_results {W : World} {g : Nat} {x0 x1 x2 x3 x4 x5 : Value} {tmps : Array Value} (h : Var6 W g x0 x1 x2 x3 x4 x5) (h2 : tmps.getD 6 undef = .pointer (some ⟨g, 0, none⟩)) : (results Tryz.f55 tmps).run Tryz.prog W = .ok (.agg #[x0, x1, x2, x3, x4, x5]) W := by
  have e : (asAddr (Value.pointer (some ⟨g, 0, none⟩))).run Tryz.prog W = .ok ⟨g, 0, none⟩ W := rfl
  have hr : Tryz.f55.results = #[.cell 6 51] := rfl
  have q2 : tmps[6]?.getD undef = .pointer (some ⟨g, 0, none⟩) := by simpa using h2
  simp only [results, hr]
  simp [Sem.run_bind, Result.andThen, q2, e, load_item h]

structure IK (B : Nat) (hd : Hd) (t : Tk3) (g : Nat) (v : Value) (ts : List Tk3) (wr : World) : Prop where
  tok : Var5 wr g (.int .i64 t.k) (.string t.s) (.int .u64 t.n) (.int .i64 t.a) (.int .i64 t.b)
  res : Var6 wr (B + 1) (.string ⟨#[]⟩) (.slice none 0 0) (.bool false) (.slice none 0 0) (.int .i64 0) (.int .i64 0)
  itm : Var6 wr (B + 2) (.string hd.name) v (.bool false) (.slice none 0 0) (.int .i64 hd.a) (.int .i64 hd.b)
  row : RowK 59 5 wr (g + 1) v (ts.map tkV)
  glo : B + 3 ≤ g
theorem IK.only {B rb g : Nat} {hd : Hd} {t : Tk3} {v : Value} {ts : List Tk3} {wr w' : World} (h : IK B hd t g v ts wr) (ho : OnlyO rb (fun i => i = rb) wr w') (hr : rb < B) : IK B hd t g v ts w' := by
  have hg := h.glo
  exact ⟨h.tok.stay (ho.keep g h.tok.s (fun e => by omega)) ho.size, h.res.stay (ho.keep (B + 1) h.res.s (fun e => by omega)) ho.size, h.itm.stay (ho.keep (B + 2) h.itm.s (fun e => by omega)) ho.size, h.row.kept (fun b hb => ho.keep b (h.row.lt hb).2 (fun e => by have := (h.row.lt hb).1; omega)), hg⟩
theorem IK.after {B g : Nat} {hd : Hd} {t : Tk3} {v : Value} {ts : List Tk3} {wr w' : World} (h : IK B hd t g v ts wr) (hb : Below wr.heap.size wr w') : IK B hd t g v ts w' :=
  ⟨h.tok.after hb, h.res.after hb, h.itm.after hb, h.row.below hb, h.glo⟩
theorem IK.word {B g : Nat} {hd : Hd} {t : Tk3} {v v' : Value} {ts : List Tk3} {w2 w3 : World} (h : IK B hd t g v ts w2) (hr : RowK 59 5 w3 (g + 1) v' (ts.map tkV ++ [tkV t])) (ho : OnlyO (g + 1) (fun i => some i = v.ownBlock) w2 w3) : IK B hd t g v' (ts ++ [t]) (w3.setCell ⟨B + 2, 1, none⟩ v') := by
  have hg := h.glo
  have kept : ∀ i, i ≤ g → i < w2.heap.size → w3.heap[i]? = w2.heap[i]? := fun i hi hs => ho.bel.block i (by omega)
  have hs := ho.size
  refine ⟨(h.tok.stay (kept g (Nat.le_refl _) h.tok.s) hs).stay (sset_else _ _ _ _ _ (by omega)) (by simp), (h.res.stay (kept _ (by omega) h.res.s) hs).stay (sset_else _ _ _ _ _ (by omega)) (by simp), (h.itm.stay (kept _ (by omega) h.itm.s) hs).set1 v', ?_, hg⟩
  rw [List.map_append]
  exact hr.kept (fun b hb => sset_else _ _ _ _ _ (by have := (hr.lt hb).1; omega))
theorem IK.next {B g : Nat} {hd : Hd} {t t' : Tk3} {v : Value} {ts : List Tk3} {wr : World} (h : IK B hd t g v ts wr) : IK B hd t' g v ts (put5 wr g (.int .i64 t'.k) (.string t'.s) (.int .u64 t'.n) (.int .i64 t'.a) (.int .i64 t'.b)) := by
  have hg := h.glo
  have hs := Nat.le_of_eq (put5_size wr g (.int .i64 t'.k) (.string t'.s) (.int .u64 t'.n) (.int .i64 t'.a) (.int .i64 t'.b)).symm
  exact ⟨h.tok.put _ _ _ _ _, h.res.stay (put5_else _ _ _ _ _ _ _ _ (by omega)) hs, h.itm.stay (put5_else _ _ _ _ _ _ _ _ (by omega)) hs, h.row.kept (fun b hb => put5_else _ _ _ _ _ _ _ _ (by have := (h.row.lt hb).1; omega)), hg⟩

theorem IK.words {B g : Nat} {hd : Hd} {t : Tk3} {v : Value} {ts : List Tk3} {wr F : World} (h : IK B hd t g v ts wr) (hk : ∀ i, g + 1 ≤ i → i < wr.heap.size → F.heap[i]? = wr.heap[i]?) (hs : wr.heap.size ≤ F.heap.size) : WordsIs F (fun b => B ≤ b ∧ b < F.heap.size) v ts := by
  have hg := h.glo
  refine RowK.words (h.row.kept fun b hb => hk b (h.row.lt hb).1 (h.row.lt hb).2) (fun b hb => ?_)
  have := h.row.lt hb
  exact ⟨by omega, by omega⟩
theorem OnlyO.put6 {base : Nat} {O : Foot} {w W : World} {p : Nat} (h : OnlyO base O w W) (hp : w.heap.size ≤ p) (hB : base ≤ w.heap.size) (y0 y1 y2 y3 y4 y5 : Value) : OnlyO base O w (Go.Proofs.YtmgimkokmlcllaaGreatDoor.put6 W p y0 y1 y2 y3 y4 y5) := h.past (below_put6 (Below.refl _ _) hp _ _ _ _ _ _) hB

end Go.Proofs.YtmgimkokmlcllaaGreatDoor
