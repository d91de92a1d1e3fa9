/-
  Package coffer as it landed: place.open, Open: walked.
-/
import Derived.Test.YtejelednnacnaaaGreatDoorPkCofA
import Derived.Test.YtejelednnacnaaaGreatDoorPkSltL
import Derived.Test.YtejelednnacnaaaGreatDoorPkMixU
namespace Go.Proofs.YtejelednnacnaaaGreatDoor
open Go.RowKit

/-- A variable of seven cells. -/
structure Var7 (W : World) (p : Nat) (x0 x1 x2 x3 x4 x5 x6 : Value) : Prop where
  c0 : W.cell? ⟨p, 0, none⟩ = some x0
  c1 : W.cell? ⟨p, 1, none⟩ = some x1
  c2 : W.cell? ⟨p, 2, none⟩ = some x2
  c3 : W.cell? ⟨p, 3, none⟩ = some x3
  c4 : W.cell? ⟨p, 4, none⟩ = some x4
  c5 : W.cell? ⟨p, 5, none⟩ = some x5
  c6 : W.cell? ⟨p, 6, none⟩ = some x6
  q : ∀ i, W.frozen? ⟨p, i, none⟩ = false
  s : p < W.heap.size
theorem Var7.fresh (W : World) (x0 x1 x2 x3 x4 x5 x6 : Value) (t : TypeId) (p : Nat) (hp : p = W.heap.size) : Var7 (W.alloc (.cells #[x0, x1, x2, x3, x4, x5, x6] t)) p x0 x1 x2 x3 x4 x5 x6 := by
  subst hp
  exact ⟨by simp, by simp, by simp, by simp, by simp, by simp, by simp, fun i => by simp [go_sem], by simp⟩
theorem Var7.stay {W W' : World} {p : Nat} {x0 x1 x2 x3 x4 x5 x6 : Value} (h : Var7 W p x0 x1 x2 x3 x4 x5 x6) (e : W'.heap[p]? = W.heap[p]?) (hs : W.heap.size ≤ W'.heap.size) : Var7 W' p x0 x1 x2 x3 x4 x5 x6 :=
  ⟨(World.cell?_of_block e).trans h.c0, (World.cell?_of_block e).trans h.c1, (World.cell?_of_block e).trans h.c2, (World.cell?_of_block e).trans h.c3, (World.cell?_of_block e).trans h.c4, (World.cell?_of_block e).trans h.c5, (World.cell?_of_block e).trans h.c6, fun i => (World.frozen?_of_block e).trans (h.q i), Nat.lt_of_lt_of_le h.s hs⟩
theorem Var7.after {W W' : World} {p : Nat} {x0 x1 x2 x3 x4 x5 x6 : Value} (h : Var7 W p x0 x1 x2 x3 x4 x5 x6) (hb : Below W.heap.size W W') : Var7 W' p x0 x1 x2 x3 x4 x5 x6 := h.stay (hb.block p h.s) hb.size
/-- Seven cells stored. -/
def put7 (W : World) (p : Nat) (y0 y1 y2 y3 y4 y5 y6 : Value) : World := ((((((W.setCell ⟨p, 0, none⟩ y0).setCell ⟨p, 1, none⟩ y1).setCell ⟨p, 2, none⟩ y2).setCell ⟨p, 3, none⟩ y3).setCell ⟨p, 4, none⟩ y4).setCell ⟨p, 5, none⟩ y5).setCell ⟨p, 6, none⟩ y6
theorem Var7.put {W : World} {p : Nat} {x0 x1 x2 x3 x4 x5 x6 : Value} (h : Var7 W p x0 x1 x2 x3 x4 x5 x6) (y0 y1 y2 y3 y4 y5 y6 : Value) : Var7 (put7 W p y0 y1 y2 y3 y4 y5 y6) p y0 y1 y2 y3 y4 y5 y6 := by
  obtain ⟨c0, c1, c2, c3, c4, c5, c6, q, s⟩ := h
  unfold put7
  refine ⟨?_, ?_, ?_, ?_, ?_, ?_, ?_, fun i => ?_, ?_⟩ <;> simp [go_sem, *]
theorem put7_else (W : World) (p : Nat) (y0 y1 y2 y3 y4 y5 y6 : Value) (j : Nat) (h : j ≠ p) : (put7 W p y0 y1 y2 y3 y4 y5 y6).heap[j]? = W.heap[j]? := by
  unfold put7
  rw [set_else _ _ _ _ _ h, set_else _ _ _ _ _ h, set_else _ _ _ _ _ h, set_else _ _ _ _ _ h, set_else _ _ _ _ _ h, set_else _ _ _ _ _ h, set_else _ _ _ _ _ h]
theorem put7_size (W : World) (p : Nat) (y0 y1 y2 y3 y4 y5 y6 : Value) : (put7 W p y0 y1 y2 y3 y4 y5 y6).heap.size = W.heap.size := by
  unfold put7
  simp
theorem below_put7 {B : Nat} {w W : World} (h : Below B w W) {p : Nat} (hp : B ≤ p) (y0 y1 y2 y3 y4 y5 y6 : Value) : Below B w (put7 W p y0 y1 y2 y3 y4 y5 y6) := ((((((h.setCell hp _).setCell hp _).setCell hp _).setCell hp _).setCell hp _).setCell hp _).setCell hp _
theorem load_kept {W : World} {g : Nat} {x0 x1 x2 x3 x4 x5 x6 : Value} (h : Var7 W g x0 x1 x2 x3 x4 x5 x6) : (loadVar 82 ⟨g, 0, none⟩).run Tryz.prog W = .ok (.agg #[x0, x1, x2, x3, x4, x5, x6]) W := by
  obtain ⟨c0, c1, c2, c3, c4, c5, c6, _, _⟩ := h
  go_simp
set_option maxRecDepth 100000 in
/-- What open hands back. -/
theorem cfpo_results {W : World} {g : Nat} {x0 x1 x2 x3 x4 x5 x6 u v : Value} {tmps : Array Value} (h : Var7 W g x0 x1 x2 x3 x4 x5 x6) (h2 : tmps.getD 2 undef = .pointer (some ⟨g, 0, none⟩)) (h3 : tmps.getD 3 undef = u) (h4 : tmps.getD 4 undef = v) : (results Tryz.f34 tmps).run Tryz.prog W = .ok (.tuple #[.agg #[x0, x1, x2, x3, x4, x5, x6], u, v]) W := by
  have e : (asAddr (Value.pointer (some ⟨g, 0, none⟩))).run Tryz.prog W = .ok ⟨g, 0, none⟩ W := rfl
  have hr : Tryz.f34.results = #[.cell 2 82, .tmp 3, .tmp 4] := rfl
  have q2 : tmps[2]?.getD undef = .pointer (some ⟨g, 0, none⟩) := by simpa using h2
  have q3 : tmps[3]?.getD undef = u := by simpa using h3
  have q4 : tmps[4]?.getD undef = v := by simpa using h4
  simp only [results, hr]
  simp [Sem.run_bind, Result.andThen, q2, q3, q4, e, load_kept h]

/-- What wal.Open has come to, as values; it goes on to hold while new memory is made. -/
def ResOp (base : Nat) (O : Foot) (r : Nat) (D : Dsk) (f k : Nat) (rs : List (List Int)) (w : World) (x y z : Value) (w' : World) : Prop :=
  ∃ c D' O', OpnOut D (f * D.size) (k * D.size) rs c D' ∧ DskIs w' base O' r D' ∧ OnlyO base O w w' ∧ Grown O O' w.heap.size ∧
    ((c = 12 ∧ x = .pointer none ∧ z = .int .i64 12) ∨
     (c = 0 ∧ ∃ gb OG OR, x = .pointer (some ⟨gb, 0, none⟩) ∧ z = .int .i64 0 ∧ LogIs w' w.heap.size OG gb r ⟨f, k, D.size, usedL rs, false⟩ ∧ LLF w' base OR y rs ∧ (∀ i, OR i → w.heap.size ≤ i ∧ i < w'.heap.size ∧ ¬ O' i ∧ ¬ OG i) ∧ ∀ i, OG i → ¬ O' i))
theorem ResOp.after {base : Nat} {O : Foot} {r : Nat} {D : Dsk} {f k : Nat} {rs : List (List Int)} {w w' w2 : World} {x y z : Value} (h : ResOp base O r D f k rs w x y z w') (hl : base ≤ w'.heap.size) (hb : Below w'.heap.size w' w2) : ResOp base O r D f k rs w x y z w2 := by
  obtain ⟨c, D', O', h1, h2, h3, h4, h5⟩ := h
  refine ⟨c, D', O', h1, h2.after hb, h3.trans (OnlyO.of hb hl) (Grown.refl _ _ : Grown O O w.heap.size), h4, ?_⟩
  rcases h5 with h5 | ⟨rfl, gb, OG, OR, e1, e2, hl, hr, d1, d2⟩
  · exact Or.inl h5
  · exact Or.inr ⟨rfl, gb, OG, OR, e1, e2, hl.after hb, hr.after hb, fun i hi => ⟨(d1 i hi).1, Nat.lt_of_lt_of_le (d1 i hi).2.1 hb.size, (d1 i hi).2.2⟩, d2⟩
theorem ResOp.dsk {base : Nat} {O : Foot} {r : Nat} {D : Dsk} {f k : Nat} {rs : List (List Int)} {w w' : World} {x y z : Value} (h : ResOp base O r D f k rs w x y z w') : base ≤ w'.heap.size := by
  obtain ⟨c, D', O', _, h2, _⟩ := h
  have := h2.own r h2.mem
  omega
/-- How the world stands by what has come up of 'log, records, e := wal.Open(..)': the slots, the variables; ahead of the call the disk, behind it what it has come to. -/
structure JPo (w2 : World) (base B r pb kb gs : Nat) (O OS : Foot) (D : Dsk) (G : Sl) (f k : Nat) (rs : List (List Int)) (u : Nat → Value) (L : Nat → Bool) (W : World) : Prop where
  size : w2.heap.size ≤ W.heap.size
  bel : Below base w2 W
  kp : W.heap[pb]? = w2.heap[pb]?
  kk : W.heap[kb]? = w2.heap[kb]?
  sl : SlIs W B OS gs r G
  ks : ∀ i, OS i → i < w2.heap.size
  ah : L 8 = false → Below w2.heap.size w2 W
  be : L 8 = true → ∃ w3 x y z, Below w2.heap.size w2 w3 ∧ ResOp base O r D f k rs w3 x y z W ∧ u 8 = .tuple #[x, y, z] ∧ (L 9 = true → u 9 = .tuple #[x, y, z]) ∧ (L 10 = true → u 10 = x) ∧ (L 11 = true → u 11 = y) ∧ (L 12 = true → u 12 = z) ∧ (L 13 = true → u 13 = x) ∧ (L 14 = true → u 14 = y) ∧ (L 15 = true → u 15 = z)
  up : ∀ j, 9 ≤ j → L j = true → L 8 = true
def TPo (l : List Value) : Nat → Value → World → Prop := fun k v _ => k < 8 → v = l.getD k undef
theorem JPo.early {w2 : World} {base B r pb kb gs : Nat} {O OS : Foot} {D : Dsk} {G : Sl} {f k : Nat} {rs : List (List Int)} {u : Nat → Value} {L : Nat → Bool} {W W' : World} (h : JPo w2 base B r pb kb gs O OS D G f k rs u L W) (hpb : pb < w2.heap.size) (hkb : kb < w2.heap.size) (hbl : base ≤ w2.heap.size) (hb : Below W.heap.size W W') {j : Nat} (hj : j < 8) (v : Value) : JPo w2 base B r pb kb gs O OS D G f k rs (upd u j v) (setL L j) W' := by
  obtain ⟨h1, h2, h3, h4, h5, h6, h7, h8, h9⟩ := h
  have e : ∀ i, 8 ≤ i → setL L j i = L i := fun i hi => setL_ne L (by omega)
  have e2 : ∀ i, 8 ≤ i → upd u j v i = u i := fun i hi => by unfold upd; rw [if_neg (by omega)]
  refine ⟨Nat.le_trans h1 hb.size, h2.trans (hb.mono (Nat.le_trans hbl h1)), (hb.block pb (Nat.lt_of_lt_of_le hpb h1)).trans h3, (hb.block kb (Nat.lt_of_lt_of_le hkb h1)).trans h4, h5.after hb, h6, ?_, ?_, fun i hi => ?_⟩
  · rw [e 8 (by omega)]
    exact fun q => below_step (h7 q) hb
  · rw [e 8 (by omega), e 9 (by omega), e 10 (by omega), e 11 (by omega), e 12 (by omega), e 13 (by omega), e 14 (by omega), e 15 (by omega), e2 8 (by omega), e2 9 (by omega), e2 10 (by omega), e2 11 (by omega), e2 12 (by omega), e2 13 (by omega), e2 14 (by omega), e2 15 (by omega)]
    intro q
    obtain ⟨w3, x, y, z, g, hr, rest⟩ := h8 q
    exact ⟨w3, x, y, z, g, hr.after hr.dsk hb, rest⟩
  · rw [e i (by omega), e 8 (by omega)]
    exact h9 i hi
/-- One of those behind the call. -/
theorem JPo.late {w2 : World} {base B r pb kb gs : Nat} {O OS : Foot} {D : Dsk} {G : Sl} {f k : Nat} {rs : List (List Int)} {u : Nat → Value} {L : Nat → Bool} {W : World} (h : JPo w2 base B r pb kb gs O OS D G f k rs u L W) {j : Nat} (hj : 9 ≤ j) (h8 : L 8 = true) (v : Value)
    (hv : ∀ x y z, u 8 = .tuple #[x, y, z] → (L 9 = true → u 9 = .tuple #[x, y, z]) → (L 10 = true → u 10 = x) → (L 11 = true → u 11 = y) → (L 12 = true → u 12 = z) → (j = 9 → v = .tuple #[x, y, z]) ∧ (j = 10 → v = x) ∧ (j = 11 → v = y) ∧ (j = 12 → v = z) ∧ (j = 13 → v = x) ∧ (j = 14 → v = y) ∧ (j = 15 → v = z)) : JPo w2 base B r pb kb gs O OS D G f k rs (upd u j v) (setL L j) W := by
  obtain ⟨h1, h2, h3, h4, h5, h6, h7, h8', h9⟩ := h
  have e8 : setL L j 8 = L 8 := setL_ne L (by omega)
  refine ⟨h1, h2, h3, h4, h5, h6, ?_, ?_, fun i _ _ => by rw [e8]; exact h8⟩
  · rw [e8]; exact h7
  · intro _
    obtain ⟨w3, x, y, z, g, hr, q8, q9, q10, q11, q12, q13, q14, q15⟩ := h8' h8
    obtain ⟨p9, p10, p11, p12, p13, p14, p15⟩ := hv x y z q8 q9 q10 q11 q12
    have key : ∀ (i : Nat) (t : Value), (L i = true → u i = t) → (j = i → v = t) → (setL L j i = true → upd u j v i = t) := fun i t a b c => by
      unfold upd
      by_cases q : i = j
      · rw [if_pos q]; exact b q.symm
      · rw [if_neg q]; rw [setL_ne L q] at c; exact a c
    exact ⟨w3, x, y, z, g, hr, by unfold upd; rw [if_neg (by omega)]; exact q8, key 9 _ q9 p9, key 10 _ q10 p10, key 11 _ q11 p11, key 12 _ q12 p12, key 13 _ q13 p13, key 14 _ q14 p14, key 15 _ q15 p15⟩
/-- What it has, of what has come up. -/
theorem JPo.has {w2 : World} {base B r pb kb gs : Nat} {O OS : Foot} {D : Dsk} {G : Sl} {f k : Nat} {rs : List (List Int)} {u : Nat → Value} {L : Nat → Bool} {W : World} (h : JPo w2 base B r pb kb gs O OS D G f k rs u L W) (h8 : L 8 = true) : ∃ x y z, u 8 = .tuple #[x, y, z] ∧ (L 9 = true → u 9 = .tuple #[x, y, z]) ∧ (L 10 = true → u 10 = x) ∧ (L 11 = true → u 11 = y) ∧ (L 12 = true → u 12 = z) := by
  obtain ⟨w3, x, y, z, g, hr, q8, q9, q10, q11, q12, q13, q14, q15⟩ := h.be h8
  exact ⟨x, y, z, q8, q9, q10, q11, q12⟩
theorem tup3 {x y z x' y' z' : Value} (h : Value.tuple #[x, y, z] = .tuple #[x', y', z']) : x = x' ∧ y = y' ∧ z = z' := by
  simpa using h
/-- The call itself. -/
theorem JPo.call {w2 : World} {base B r pb kb gs : Nat} {O OS : Foot} {D : Dsk} {G : Sl} {f k : Nat} {rs : List (List Int)} {u : Nat → Value} {L : Nat → Bool} {W W' : World} {x y z : Value} (h : JPo w2 base B r pb kb gs O OS D G f k rs u L W) (hL : L 8 = false) (hO : ∀ i, O i → i < w2.heap.size ∧ i ≠ pb ∧ i ≠ kb ∧ ¬ OS i) (hpb : pb < w2.heap.size) (hkb : kb < w2.heap.size) (hr : ResOp base O r D f k rs W x y z W') : JPo w2 base B r pb kb gs O OS D G f k rs (upd u 8 (.tuple #[x, y, z])) (setL L 8) W' := by
  obtain ⟨h1, h2, h3, h4, h5, h6, h7, h8, h9⟩ := h
  have ho := hr.choose_spec.choose_spec.choose_spec.2.2.1
  refine ⟨Nat.le_trans h1 ho.size, h2.trans ho.bel, (ho.keep pb (Nat.lt_of_lt_of_le hpb h1) (fun q => (hO pb q).2.1 rfl)).trans h3, (ho.keep kb (Nat.lt_of_lt_of_le hkb h1) (fun q => (hO kb q).2.2.1 rfl)).trans h4, h5.kept (fun i hi => ho.keep i (h5.own i hi).2 (fun q => (hO i q).2.2.2 hi)) ho.size, h6, ?_, fun _ => ?_, fun i _ _ => setL_self L 8⟩
  · rw [setL_self]
    exact fun q => by cases q
  · have n : ∀ i, 9 ≤ i → setL L 8 i = true → False := fun i hi q => by
      rw [setL_ne L (by omega)] at q
      have := h9 i hi q
      rw [hL] at this
      cases this
    exact ⟨W, x, y, z, h7 hL, hr, by unfold upd; rw [if_pos rfl], fun q => (n 9 (by omega) q).elim, fun q => (n 10 (by omega) q).elim, fun q => (n 11 (by omega) q).elim, fun q => (n 12 (by omega) q).elim, fun q => (n 13 (by omega) q).elim, fun q => (n 14 (by omega) q).elim, fun q => (n 15 (by omega) q).elim⟩

theorem cfpo_move {base : Nat} {O O' : Foot} {r : Nat} {D' : Dsk} {w w3 W : World} {kb : Nat} (hw3 : Below w.heap.size w w3) (hbase : base ≤ w.heap.size) (hk : w.heap.size ≤ kb) (hk3 : kb < w3.heap.size) (hO : ∀ i, O i → i < w.heap.size) (d' : DskIs W base O' r D') (o' : OnlyO base O w3 W) (gr : Grown O O' w3.heap.size) (y0 y1 y2 y3 y4 y5 y6 : Value) :
    DskIs (put7 W kb y0 y1 y2 y3 y4 y5 y6) base O' r D' ∧ OnlyO base O w (put7 W kb y0 y1 y2 y3 y4 y5 y6) ∧ Grown O O' w.heap.size := by
  have o2 : OnlyO base O w W := (OnlyO.of hw3 hbase : OnlyO base O w w3).trans o' (Grown.refl _ _)
  refine ⟨d'.kept (fun i hi => put7_else _ _ _ _ _ _ _ _ _ _ ?_) (by rw [put7_size]; exact Nat.le_refl _), ⟨below_put7 o2.bel (Nat.le_trans hbase hk) _ _ _ _ _ _ _, fun i hi hn => (put7_else _ _ _ _ _ _ _ _ _ _ (by omega)).trans (o2.keep i hi hn)⟩, fun i hi => ?_⟩
  · rintro rfl
    rcases gr _ hi with q | q
    · have := hO _ q; omega
    · omega
  · rcases gr i hi with q | q
    · exact Or.inl q
    · exact Or.inr (Nat.le_trans hw3.size q)
/-- What open comes to: Down, or what is kept and its records. -/
def GivesPo (base : Nat) (O : Foot) (r : Nat) (D : Dsk) (k m : Nat) (w : World) (e : Ending) (w' : World) : Prop :=
  ∃ c D' O' ep b rs, (ep, b) = slotsL 0 (k * D.size) D.last ∧ rs = (allL (regnL (logOf k m ep * D.size) (m * D.size) D.last)).1 ∧ OpnOut D (logOf k m ep * D.size) (m * D.size) rs c D' ∧ DskIs w' base O' r D' ∧ OnlyO base O w w' ∧ Grown O O' w.heap.size ∧
    ((c = 12 ∧ ∃ a n, e = .returned (.tuple #[.agg #[.pointer none, .pointer none, .int .i64 0, .int .i64 0, .pointer none, .int .i64 0, .bool false], .slice a 0 n, .int .i64 12])) ∨
     (c = 0 ∧ ∃ gs gb OS OG OR a n, e = .returned (.tuple #[.agg #[.pointer (some ⟨gs, 0, none⟩), .pointer (some ⟨r, 0, none⟩), .int .i64 (k : Int), .int .i64 (m : Int), .pointer (some ⟨gb, 0, none⟩), .int .i64 ((rs.length : Nat) : Int), .bool false], .slice a rs.length n, .int .i64 0]) ∧
       SlIs w' w.heap.size OS gs r ⟨0, k, D.size, ep, b, false⟩ ∧ LogIs w' w.heap.size OG gb r ⟨logOf k m ep, m, D.size, usedL rs, false⟩ ∧ LLF w' base OR (.slice a rs.length n) rs ∧ (∀ i, OR i → w.heap.size ≤ i ∧ i < w'.heap.size ∧ ¬ O' i ∧ ¬ OG i ∧ ¬ OS i) ∧ (∀ i, OG i → ¬ O' i ∧ ¬ OS i) ∧ ∀ i, OS i → ¬ O' i))
set_option maxRecDepth 100000 in
set_option maxHeartbeats 8000000 in
theorem cfpo_any (base : Nat) (O : Foot) (r : Nat) (D : Dsk) (k m : Nat) (w : World) (env : Env w) (h : DskIs w base O r D) (k1 : 1 ≤ k) (m1 : 1 ≤ m) (on : 2 * k + 2 * m ≤ D.n) (dk : D.dark = false) (hw : D.waits = []) (hd : D.deeds ≤ 900000) :
    Calls Tryz.prog 34 #[.agg #[.pointer (some ⟨r, 0, none⟩), .int .i64 (k : Int), .int .i64 (m : Int)]] w (GivesPo base O r D k m w) := by
  obtain ⟨ep, hep⟩ : ∃ x, (slotsL (0 * D.size) (k * D.size) D.last).1 = x := ⟨_, rfl⟩
  obtain ⟨b, hb⟩ : ∃ x, (slotsL (0 * D.size) (k * D.size) D.last).2 = x := ⟨_, rfl⟩
  obtain ⟨f, hf⟩ : ∃ x, logOf k m ep = x := ⟨_, rfl⟩
  obtain ⟨rs, hrs⟩ : ∃ x, (allL (regnL (f * D.size) (m * D.size) D.last)).1 = x := ⟨_, rfl⟩
  have hfb : f + m ≤ D.n := by
    rw [← hf]; unfold logOf
    have : ep % 2 * m ≤ 1 * m := Nat.mul_le_mul_right _ (by omega)
    omega
  have HID : Hid ((ep, b) = slotsL 0 (k * D.size) D.last ∧ rs = (allL (regnL (logOf k m ep * D.size) (m * D.size) D.last)).1 ∧ logOf k m ep = f) := ⟨by rw [← hep, ← hb, Nat.zero_mul], by rw [hf, hrs], hf⟩
  have n1 := h.ok.n1
  have HSO := Lib.hid (fun W (g : Below w.heap.size w W) => (show Calls Tryz.prog 48 #[.pointer (some ⟨r, 0, none⟩), .int .i64 0, .int .i64 (k : Int)] W fun e w' => ∃ gs OS, e = .returned (.tuple #[.pointer (some ⟨gs, 0, none⟩), .int .i64 0]) ∧ Below W.heap.size W w' ∧ SlIs w' W.heap.size OS gs r ⟨0, k, D.size, ep, b, false⟩ from by
    have q := sopen_any base O r D 0 k W (env.step g) (h.after g) k1 (by omega) dk hw hd
    unfold GivesSo at q
    rw [hep, hb] at q
    exact q))
  have HWO0 := Lib.hid (fun W (g : Below w.heap.size w W) => (show Calls Tryz.prog 49 #[.pointer (some ⟨r, 0, none⟩), .int .i64 (f : Int), .int .i64 (m : Int)] W fun e w' => ∃ x y z, e = .returned (.tuple #[x, y, z]) ∧ ResOp base O r D f m rs W x y z w' from by
    have q := wopen_any base O r D f m W (env.step g) (h.after g) m1 hfb dk hw hd
    rw [hrs] at q
    refine q.mono ?_
    rintro e w' ⟨c, D', O', h1, h2, h3, h4, ⟨rfl, a, n, rfl⟩ | ⟨rfl, gb, OG, OR, rv, rfl, h5, h6, h7, h8⟩⟩
    · exact ⟨_, _, _, rfl, 12, D', O', h1, h2, h3, h4, Or.inl ⟨rfl, rfl, rfl⟩⟩
    · exact ⟨_, _, _, rfl, 0, D', O', h1, h2, h3, h4, Or.inr ⟨rfl, gb, OG, OR, rfl, rfl, h5, h6, h7, h8⟩⟩))
  have HLG : Hid (∀ W, Calls Tryz.prog 50 #[.agg #[.pointer (some ⟨r, 0, none⟩), .int .i64 (k : Int), .int .i64 (m : Int)], .int .u64 (ep : Int)] W fun e w' => e = .returned (.int .i64 (f : Int)) ∧ Below W.heap.size W w') := fun W => by
    have q := cflog_any (.pointer (some ⟨r, 0, none⟩)) k m ep W (by omega) (by omega)
    rw [hf] at q
    exact q
  have hbase : base ≤ w.heap.size := by have := h.own r h.mem; omega
  have HBW := Lib.hid hbase
  have HD := Lib.hid h
  have HOL := Lib.hid h.own
  obtain ⟨pb, hpb⟩ : ∃ x, w.heap.size = x := ⟨_, rfl⟩
  obtain ⟨wA, hwA⟩ : ∃ y, (w.alloc (.cells #[.pointer (some ⟨r, 0, none⟩), .int .i64 (k : Int), .int .i64 (m : Int)] 76)).alloc (.cells #[.pointer none, .pointer none, .int .i64 0, .int .i64 0, .pointer none, .int .i64 0, .bool false] 82) = y := ⟨_, rfl⟩
  have hA : Below w.heap.size w wA := by rw [← hwA]; exact below_more (below_more (Below.refl _ _) _) _
  have hsz : wA.heap.size = w.heap.size + 2 := by rw [← hwA]; simp
  have VP0 : Var3 wA pb (.pointer (some ⟨r, 0, none⟩)) (.int .i64 (k : Int)) (.int .i64 (m : Int)) := by rw [← hwA]; exact (Var3.fresh w _ _ _ _ pb hpb.symm).alloc _
  have VK0 : Var7 wA (pb + 1) (.pointer none) (.pointer none) (.int .i64 0) (.int .i64 0) (.pointer none) (.int .i64 0) (.bool false) := by rw [← hwA]; exact Var7.fresh _ _ _ _ _ _ _ _ _ _ (by rw [← hpb]; simp)
  have HA := Lib.hid hA
  have HSZ := Lib.hid hsz
  have HVA := Lib.hid (And.intro VP0 VK0)
  have HPW := Lib.hid hpb
  have a0 := VP0.c0
  have a1 := VP0.c1
  have HS1 := Lib.hid (HSO.out wA hA)
  clear hep hb hf hrs hfb env h k1 m1 on dk hw hd hbase n1 hA VP0 VK0 HSO
  go_enter Tryz.func34, Tryz.ntmps34
  go_upto_region 4 with (go_at_call 48; (with_reducible refine (HS1.out).mono ?_); rintro e w2 ⟨gs, OS, rfl, g2, sl⟩; have G2 := Lib.hid g2; have SL2 := Lib.hid sl; clear g2 sl a0 a1)
  have hs2 := G2.out.size
  have hszA := HSZ.out
  obtain ⟨B, hB⟩ : ∃ x, wA.heap.size = x := ⟨_, rfl⟩
  obtain ⟨G, hG⟩ : ∃ x : Sl, (⟨0, k, D.size, ep, b, false⟩ : Sl) = x := ⟨_, rfl⟩
  obtain ⟨kb, hkb⟩ : ∃ x, pb + 1 = x := ⟨_, rfl⟩
  have hpw := HPW.out
  have HPB : Hid (pb < w2.heap.size) := by unfold Hid; omega
  have HKB : Hid (kb < w2.heap.size) := by unfold Hid; omega
  have HBL : Hid (base ≤ w2.heap.size) := by have := HBW.out; unfold Hid; omega
  have HOO : Hid (∀ i, O i → i < w2.heap.size ∧ i ≠ pb ∧ i ≠ kb ∧ ¬ OS i) := fun i hi => by
    have q1 := (HOL.out i hi).2
    exact ⟨by omega, by omega, by omega, fun q => by have := (SL2.out.own i q).1; omega⟩
  have HVP := Lib.hid (HVA.out.1.after G2.out)
  have HVK := Lib.hid (HVA.out.2.after G2.out)
  have HWO := Lib.hid (fun W (g : Below w2.heap.size w2 W) => HWO0.out W (below_step (below_step HA.out G2.out) g))
  have HSL : Hid (SlIs w2 B OS gs r G) := by rw [← hB, ← hG]; exact SL2.out
  have HGE := Lib.hid hG
  have HGP : Hid (G.ep = ep) := by rw [← hG]; rfl
  have HBE := Lib.hid hB
  have HKE : Hid (1 + pb = kb) := by unfold Hid; omega
  simp only [hwA, hkb] at *
  refine wp_region_mixu 16 (TPo [.pointer (some ⟨pb, 0, none⟩), .pointer (some ⟨r, 0, none⟩), .agg #[.pointer (some ⟨r, 0, none⟩), .int .i64 (k : Int), .int .i64 (m : Int)], .pointer (some ⟨gs, 0, none⟩), .int .u64 (ep : Int), .int .i64 (f : Int), .pointer (some ⟨pb, 2, none⟩), .int .i64 (m : Int)]) (JPo w2 base B r pb kb gs O OS D G f m rs) (by kernel_rfl) (by kernel_rfl) (fun u => ⟨Nat.le_refl _, (Below.refl _ _).drew, rfl, rfl, HSL.out.after (Below.refl _ _).drew, fun i hi => (HSL.out.own i hi).2, fun _ => (Below.refl _ _).drew, fun q => (by cases q), fun j _ q => (by cases q)⟩) ?_ ?_
  · simp only [List.take_succ_cons, List.take_zero]
    refine (StepsU.cons ?_ (StepsU.cons ?_ (StepsU.cons ?_ (StepsU.cons ?_ (StepsU.cons ?_ (StepsU.cons ?_ (StepsU.cons ?_ (StepsU.cons ?_ (StepsU.cons ?_ (StepsU.cons ?_ (StepsU.cons ?_ (StepsU.cons ?_ (StepsU.cons ?_ (StepsU.cons ?_ (StepsU.cons ?_ (StepsU.cons ?_ StepsU.nil))))))))))))))))
    · intro u W J hL hJ hd
      simp only [putAll, Act.put, List.setIfInBounds_toArray, List.set_cons_succ, List.set_cons_zero, Nat.zero_add, Nat.reduceAdd]
      have hj1 := hJ.early HPB.out HKB.out HBL.out (Below.refl _ _) (j := 0) (by decide)
      go_wp2
      first | exact hj1 _ | exact fun _ => rfl | exact ⟨fun _ => rfl, hj1 _, fun j v' _ _ h => h⟩ | exact ⟨_, rfl, fun _ => rfl, hj1 _, fun j v' _ _ h => h⟩ | exact ⟨fun _ => rfl, hj1 _⟩ | exact ⟨_, rfl, fun _ => rfl, hj1 _⟩
    · intro u W J hL hJ hd
      have e0 : u 0 = .pointer (some ⟨pb, 0, none⟩) := (hd.1 rfl (by decide)).2 (by decide)
      have vp := HVP.out.stay hJ.kp hJ.size
      have q0 := vp.c0
      have q1 := vp.c1
      have q2 := vp.c2
      simp only [putAll, Act.put, List.setIfInBounds_toArray, List.set_cons_succ, List.set_cons_zero, Nat.zero_add, Nat.reduceAdd]
      rw [e0]
      have hj1 := hJ.early HPB.out HKB.out HBL.out (Below.refl _ _) (j := 1) (by decide)
      go_wp2
      first | exact hj1 _ | exact fun _ => rfl | exact ⟨fun _ => rfl, hj1 _, fun j v' _ _ h => h⟩ | exact ⟨_, rfl, fun _ => rfl, hj1 _, fun j v' _ _ h => h⟩ | exact ⟨fun _ => rfl, hj1 _⟩ | exact ⟨_, rfl, fun _ => rfl, hj1 _⟩
    · intro u W J hL hJ hd
      have vp := HVP.out.stay hJ.kp hJ.size
      have q0 := vp.c0
      have q1 := vp.c1
      have q2 := vp.c2
      simp only [putAll, Act.put, List.setIfInBounds_toArray, List.set_cons_succ, List.set_cons_zero, Nat.zero_add, Nat.reduceAdd]
      have hj1 := hJ.early HPB.out HKB.out HBL.out (Below.refl _ _) (j := 2) (by decide)
      go_wp2
      first | exact hj1 _ | exact fun _ => rfl | exact ⟨fun _ => rfl, hj1 _, fun j v' _ _ h => h⟩ | exact ⟨_, rfl, fun _ => rfl, hj1 _, fun j v' _ _ h => h⟩ | exact ⟨fun _ => rfl, hj1 _⟩ | exact ⟨_, rfl, fun _ => rfl, hj1 _⟩
    · intro u W J hL hJ hd
      simp only [putAll, Act.put, List.setIfInBounds_toArray, List.set_cons_succ, List.set_cons_zero, Nat.zero_add, Nat.reduceAdd]
      have hj1 := hJ.early HPB.out HKB.out HBL.out (Below.refl _ _) (j := 3) (by decide)
      go_wp2
      first | exact hj1 _ | exact fun _ => rfl | exact ⟨fun _ => rfl, hj1 _, fun j v' _ _ h => h⟩ | exact ⟨_, rfl, fun _ => rfl, hj1 _, fun j v' _ _ h => h⟩ | exact ⟨fun _ => rfl, hj1 _⟩ | exact ⟨_, rfl, fun _ => rfl, hj1 _⟩
    · intro u W J hL hJ hd
      have e0 : u 3 = .pointer (some ⟨gs, 0, none⟩) := (hd.1 rfl (by decide)).2 (by decide)
      simp only [putAll, Act.put, List.setIfInBounds_toArray, List.set_cons_succ, List.set_cons_zero, Nat.zero_add, Nat.reduceAdd]
      rw [e0]
      have hc := sepoch_any _ OS gs r _ W hJ.sl
      rw [HGP.out] at hc
      go_wp2_with (go_at_call 45; (with_reducible refine (hc).mono ?_); rintro e W1 ⟨rfl, g1⟩; have hj1 := hJ.early HPB.out HKB.out HBL.out g1 (j := 4) (by decide))
      first | exact hj1 _ | exact fun _ => rfl | exact ⟨fun _ => rfl, hj1 _, fun j v' _ _ h => h⟩ | exact ⟨_, rfl, fun _ => rfl, hj1 _, fun j v' _ _ h => h⟩ | exact ⟨fun _ => rfl, hj1 _⟩ | exact ⟨_, rfl, fun _ => rfl, hj1 _⟩
    · intro u W J hL hJ hd
      have e0 : u 2 = .agg #[.pointer (some ⟨r, 0, none⟩), .int .i64 (k : Int), .int .i64 (m : Int)] := (hd.1 rfl (by decide)).2 (by decide)
      have e1 : u 4 = .int .u64 (ep : Int) := (hd.2.1 rfl (by decide)).2 (by decide)
      simp only [putAll, Act.put, List.setIfInBounds_toArray, List.set_cons_succ, List.set_cons_zero, Nat.zero_add, Nat.reduceAdd]
      rw [e0, e1]
      go_wp2_with (go_at_call 50; (with_reducible refine (HLG.out W).mono ?_); rintro e W1 ⟨rfl, g1⟩; have hj1 := hJ.early HPB.out HKB.out HBL.out g1 (j := 5) (by decide))
      first | exact hj1 _ | exact fun _ => rfl | exact ⟨fun _ => rfl, hj1 _, fun j v' _ _ h => h⟩ | exact ⟨_, rfl, fun _ => rfl, hj1 _, fun j v' _ _ h => h⟩ | exact ⟨fun _ => rfl, hj1 _⟩ | exact ⟨_, rfl, fun _ => rfl, hj1 _⟩
    · intro u W J hL hJ hd
      simp only [putAll, Act.put, List.setIfInBounds_toArray, List.set_cons_succ, List.set_cons_zero, Nat.zero_add, Nat.reduceAdd]
      have hj1 := hJ.early HPB.out HKB.out HBL.out (Below.refl _ _) (j := 6) (by decide)
      go_wp2
      first | exact hj1 _ | exact fun _ => rfl | exact ⟨fun _ => rfl, hj1 _, fun j v' _ _ h => h⟩ | exact ⟨_, rfl, fun _ => rfl, hj1 _, fun j v' _ _ h => h⟩ | exact ⟨fun _ => rfl, hj1 _⟩ | exact ⟨_, rfl, fun _ => rfl, hj1 _⟩
    · intro u W J hL hJ hd
      have e0 : u 6 = .pointer (some ⟨pb, 2, none⟩) := (hd.1 rfl (by decide)).2 (by decide)
      have vp := HVP.out.stay hJ.kp hJ.size
      have q0 := vp.c0
      have q1 := vp.c1
      have q2 := vp.c2
      simp only [putAll, Act.put, List.setIfInBounds_toArray, List.set_cons_succ, List.set_cons_zero, Nat.zero_add, Nat.reduceAdd]
      rw [e0]
      have hj1 := hJ.early HPB.out HKB.out HBL.out (Below.refl _ _) (j := 7) (by decide)
      go_wp2
      first | exact hj1 _ | exact fun _ => rfl | exact ⟨fun _ => rfl, hj1 _, fun j v' _ _ h => h⟩ | exact ⟨_, rfl, fun _ => rfl, hj1 _, fun j v' _ _ h => h⟩ | exact ⟨fun _ => rfl, hj1 _⟩ | exact ⟨_, rfl, fun _ => rfl, hj1 _⟩
    · intro u W J hL hJ hd
      have e0 : u 1 = .pointer (some ⟨r, 0, none⟩) := (hd.1 rfl (by decide)).2 (by decide)
      have e1 : u 5 = .int .i64 (f : Int) := (hd.2.1 rfl (by decide)).2 (by decide)
      have e2 : u 7 = .int .i64 (m : Int) := (hd.2.2.1 rfl (by decide)).2 (by decide)
      simp only [putAll, Act.put, List.setIfInBounds_toArray, List.set_cons_succ, List.set_cons_zero, Nat.zero_add, Nat.reduceAdd]
      rw [e0, e1, e2]
      go_wp2_with (go_at_call 49; (with_reducible refine (HWO.out W (hJ.ah hL)).mono ?_); rintro e W1 ⟨x, y, z, rfl, hr⟩; have hj1 := hJ.call hL HOO.out HPB.out HKB.out hr)
      first | exact hj1 | exact fun q => absurd q (by decide) | exact ⟨fun q => absurd q (by decide), hj1⟩ | exact ⟨_, rfl, fun q => absurd q (by decide), hj1⟩ | exact ⟨_, rfl, fun q => absurd q (by decide), hj1, fun j v' _ _ h => h⟩ | exact ⟨fun q => absurd q (by decide), hj1, fun j v' _ _ h => h⟩
    · intro u W J hL hJ hd
      have h0 : J 8 = true := (hd.1 rfl (by decide)).1
      have h8 : J 8 = true := h0
      obtain ⟨x, y, z, p8, p9, p10, p11, p12⟩ := hJ.has h8
      have ee := p8
      have hj1 : JPo w2 base B r pb kb gs O OS D G f m rs (upd u 9 (.tuple #[x, y, z])) (setL J 9) W := hJ.late (by decide) h8 _ (fun x' y' z' q8 q9 q10 q11 q12 => by
        have t := tup3 (p8.symm.trans q8)
        obtain ⟨rfl, rfl, rfl⟩ := t
        refine ⟨fun _ => ?_, fun _ => ?_, fun _ => ?_, fun _ => ?_, fun _ => ?_, fun _ => ?_, fun _ => ?_⟩ <;> first | rfl | omega)
      clear p8 p9 p10 p11 p12
      simp only [putAll, Act.put, List.setIfInBounds_toArray, List.set_cons_succ, List.set_cons_zero, Nat.zero_add, Nat.reduceAdd]
      rw [ee]
      go_wp2
      first | exact hj1 | exact fun q => absurd q (by decide) | exact ⟨fun q => absurd q (by decide), hj1⟩ | exact ⟨_, rfl, fun q => absurd q (by decide), hj1⟩ | exact ⟨fun q => absurd q (by decide), hj1, fun j v' _ _ h => h⟩ | exact ⟨_, rfl, fun q => absurd q (by decide), hj1, fun j v' _ _ h => h⟩
    · intro u W J hL hJ hd
      have h0 : J 9 = true := (hd.1 rfl (by decide)).1
      have h8 : J 8 = true := hJ.up 9 (by decide) h0
      obtain ⟨x, y, z, p8, p9, p10, p11, p12⟩ := hJ.has h8
      have ee := (p9 h0)
      have hj1 : JPo w2 base B r pb kb gs O OS D G f m rs (upd u 10 (x)) (setL J 10) W := hJ.late (by decide) h8 _ (fun x' y' z' q8 q9 q10 q11 q12 => by
        have t := tup3 (p8.symm.trans q8)
        obtain ⟨rfl, rfl, rfl⟩ := t
        refine ⟨fun _ => ?_, fun _ => ?_, fun _ => ?_, fun _ => ?_, fun _ => ?_, fun _ => ?_, fun _ => ?_⟩ <;> first | rfl | omega)
      clear p8 p9 p10 p11 p12
      simp only [putAll, Act.put, List.setIfInBounds_toArray, List.set_cons_succ, List.set_cons_zero, Nat.zero_add, Nat.reduceAdd]
      rw [ee]
      go_wp2
      first | exact hj1 | exact fun q => absurd q (by decide) | exact ⟨fun q => absurd q (by decide), hj1⟩ | exact ⟨_, rfl, fun q => absurd q (by decide), hj1⟩ | exact ⟨fun q => absurd q (by decide), hj1, fun j v' _ _ h => h⟩ | exact ⟨_, rfl, fun q => absurd q (by decide), hj1, fun j v' _ _ h => h⟩
    · intro u W J hL hJ hd
      have h0 : J 9 = true := (hd.1 rfl (by decide)).1
      have h8 : J 8 = true := hJ.up 9 (by decide) h0
      obtain ⟨x, y, z, p8, p9, p10, p11, p12⟩ := hJ.has h8
      have ee := (p9 h0)
      have hj1 : JPo w2 base B r pb kb gs O OS D G f m rs (upd u 11 (y)) (setL J 11) W := hJ.late (by decide) h8 _ (fun x' y' z' q8 q9 q10 q11 q12 => by
        have t := tup3 (p8.symm.trans q8)
        obtain ⟨rfl, rfl, rfl⟩ := t
        refine ⟨fun _ => ?_, fun _ => ?_, fun _ => ?_, fun _ => ?_, fun _ => ?_, fun _ => ?_, fun _ => ?_⟩ <;> first | rfl | omega)
      clear p8 p9 p10 p11 p12
      simp only [putAll, Act.put, List.setIfInBounds_toArray, List.set_cons_succ, List.set_cons_zero, Nat.zero_add, Nat.reduceAdd]
      rw [ee]
      go_wp2
      first | exact hj1 | exact fun q => absurd q (by decide) | exact ⟨fun q => absurd q (by decide), hj1⟩ | exact ⟨_, rfl, fun q => absurd q (by decide), hj1⟩ | exact ⟨fun q => absurd q (by decide), hj1, fun j v' _ _ h => h⟩ | exact ⟨_, rfl, fun q => absurd q (by decide), hj1, fun j v' _ _ h => h⟩
    · intro u W J hL hJ hd
      have h0 : J 9 = true := (hd.1 rfl (by decide)).1
      have h8 : J 8 = true := hJ.up 9 (by decide) h0
      obtain ⟨x, y, z, p8, p9, p10, p11, p12⟩ := hJ.has h8
      have ee := (p9 h0)
      have hj1 : JPo w2 base B r pb kb gs O OS D G f m rs (upd u 12 (z)) (setL J 12) W := hJ.late (by decide) h8 _ (fun x' y' z' q8 q9 q10 q11 q12 => by
        have t := tup3 (p8.symm.trans q8)
        obtain ⟨rfl, rfl, rfl⟩ := t
        refine ⟨fun _ => ?_, fun _ => ?_, fun _ => ?_, fun _ => ?_, fun _ => ?_, fun _ => ?_, fun _ => ?_⟩ <;> first | rfl | omega)
      clear p8 p9 p10 p11 p12
      simp only [putAll, Act.put, List.setIfInBounds_toArray, List.set_cons_succ, List.set_cons_zero, Nat.zero_add, Nat.reduceAdd]
      rw [ee]
      go_wp2
      first | exact hj1 | exact fun q => absurd q (by decide) | exact ⟨fun q => absurd q (by decide), hj1⟩ | exact ⟨_, rfl, fun q => absurd q (by decide), hj1⟩ | exact ⟨fun q => absurd q (by decide), hj1, fun j v' _ _ h => h⟩ | exact ⟨_, rfl, fun q => absurd q (by decide), hj1, fun j v' _ _ h => h⟩
    · intro u W J hL hJ hd
      have h0 : J 10 = true := (hd.1 rfl (by decide)).1
      have h8 : J 8 = true := hJ.up 10 (by decide) h0
      obtain ⟨x, y, z, p8, p9, p10, p11, p12⟩ := hJ.has h8
      have ee := (p10 h0)
      have hj1 : JPo w2 base B r pb kb gs O OS D G f m rs (upd u 13 (x)) (setL J 13) W := hJ.late (by decide) h8 _ (fun x' y' z' q8 q9 q10 q11 q12 => by
        have t := tup3 (p8.symm.trans q8)
        obtain ⟨rfl, rfl, rfl⟩ := t
        refine ⟨fun _ => ?_, fun _ => ?_, fun _ => ?_, fun _ => ?_, fun _ => ?_, fun _ => ?_, fun _ => ?_⟩ <;> first | rfl | omega)
      clear p8 p9 p10 p11 p12
      simp only [putAll, Act.put, List.setIfInBounds_toArray, List.set_cons_succ, List.set_cons_zero, Nat.zero_add, Nat.reduceAdd]
      rw [ee]
      go_wp2
      first | exact hj1 | exact fun q => absurd q (by decide) | exact ⟨fun q => absurd q (by decide), hj1⟩ | exact ⟨_, rfl, fun q => absurd q (by decide), hj1⟩ | exact ⟨fun q => absurd q (by decide), hj1, fun j v' _ _ h => h⟩ | exact ⟨_, rfl, fun q => absurd q (by decide), hj1, fun j v' _ _ h => h⟩
    · intro u W J hL hJ hd
      have h0 : J 11 = true := (hd.1 rfl (by decide)).1
      have h8 : J 8 = true := hJ.up 11 (by decide) h0
      obtain ⟨x, y, z, p8, p9, p10, p11, p12⟩ := hJ.has h8
      have ee := (p11 h0)
      have hj1 : JPo w2 base B r pb kb gs O OS D G f m rs (upd u 14 (y)) (setL J 14) W := hJ.late (by decide) h8 _ (fun x' y' z' q8 q9 q10 q11 q12 => by
        have t := tup3 (p8.symm.trans q8)
        obtain ⟨rfl, rfl, rfl⟩ := t
        refine ⟨fun _ => ?_, fun _ => ?_, fun _ => ?_, fun _ => ?_, fun _ => ?_, fun _ => ?_, fun _ => ?_⟩ <;> first | rfl | omega)
      clear p8 p9 p10 p11 p12
      simp only [putAll, Act.put, List.setIfInBounds_toArray, List.set_cons_succ, List.set_cons_zero, Nat.zero_add, Nat.reduceAdd]
      rw [ee]
      go_wp2
      first | exact hj1 | exact fun q => absurd q (by decide) | exact ⟨fun q => absurd q (by decide), hj1⟩ | exact ⟨_, rfl, fun q => absurd q (by decide), hj1⟩ | exact ⟨fun q => absurd q (by decide), hj1, fun j v' _ _ h => h⟩ | exact ⟨_, rfl, fun q => absurd q (by decide), hj1, fun j v' _ _ h => h⟩
    · intro u W J hL hJ hd
      have h0 : J 12 = true := (hd.1 rfl (by decide)).1
      have h8 : J 8 = true := hJ.up 12 (by decide) h0
      obtain ⟨x, y, z, p8, p9, p10, p11, p12⟩ := hJ.has h8
      have ee := (p12 h0)
      have hj1 : JPo w2 base B r pb kb gs O OS D G f m rs (upd u 15 (z)) (setL J 15) W := hJ.late (by decide) h8 _ (fun x' y' z' q8 q9 q10 q11 q12 => by
        have t := tup3 (p8.symm.trans q8)
        obtain ⟨rfl, rfl, rfl⟩ := t
        refine ⟨fun _ => ?_, fun _ => ?_, fun _ => ?_, fun _ => ?_, fun _ => ?_, fun _ => ?_, fun _ => ?_⟩ <;> first | rfl | omega)
      clear p8 p9 p10 p11 p12
      simp only [putAll, Act.put, List.setIfInBounds_toArray, List.set_cons_succ, List.set_cons_zero, Nat.zero_add, Nat.reduceAdd]
      rw [ee]
      go_wp2
      first | exact hj1 | exact fun q => absurd q (by decide) | exact ⟨fun q => absurd q (by decide), hj1⟩ | exact ⟨_, rfl, fun q => absurd q (by decide), hj1⟩ | exact ⟨fun q => absurd q (by decide), hj1, fun j v' _ _ h => h⟩ | exact ⟨_, rfl, fun q => absurd q (by decide), hj1, fun j v' _ _ h => h⟩
  · intro u W J hall hJ hT
    obtain ⟨w3, x, y, z, g3, hr, p8, p9, p10, p11, p12, p13, p14, p15⟩ := hJ.be (hall 8 (by decide))
    have e9 := p9 (hall 9 (by decide))
    have e10 := p10 (hall 10 (by decide))
    have e11 := p11 (hall 11 (by decide))
    have e12 := p12 (hall 12 (by decide))
    have e13 := p13 (hall 13 (by decide))
    have e14 := p14 (hall 14 (by decide))
    have e15 := p15 (hall 15 (by decide))
    have e0 : u 0 = .pointer (some ⟨pb, 0, none⟩) := hT 0 (by decide) (by decide)
    have e1 : u 1 = .pointer (some ⟨r, 0, none⟩) := hT 1 (by decide) (by decide)
    have e2 : u 2 = .agg #[.pointer (some ⟨r, 0, none⟩), .int .i64 (k : Int), .int .i64 (m : Int)] := hT 2 (by decide) (by decide)
    have e3 : u 3 = .pointer (some ⟨gs, 0, none⟩) := hT 3 (by decide) (by decide)
    have e4 : u 4 = .int .u64 (ep : Int) := hT 4 (by decide) (by decide)
    have e5 : u 5 = .int .i64 (f : Int) := hT 5 (by decide) (by decide)
    have e6 : u 6 = .pointer (some ⟨pb, 2, none⟩) := hT 6 (by decide) (by decide)
    have e7 : u 7 = .int .i64 (m : Int) := hT 7 (by decide) (by decide)
    have VK := HVK.out.stay hJ.kk hJ.size
    have VP := HVP.out.stay hJ.kp hJ.size
    have HSLW := Lib.hid hJ.sl
    have HKS := Lib.hid hJ.ks
    have HVW := Lib.hid VK
    have HG3 := Lib.hid (below_step (below_step HA.out G2.out) g3)
    have HG32 := Lib.hid g3.size
    obtain ⟨v0, v1, v2, _, _, _, _⟩ := VP
    obtain ⟨c0, c1, c2, c3, c4, c5, c6, qq, _⟩ := VK
    have hq0 := qq 0
    have hq1 := qq 1
    have hq2 := qq 2
    have hq3 := qq 3
    have hq4 := qq 4
    have hq5 := qq 5
    have hq6 := qq 6
    clear hJ hT hall p9 p10 p11 p12 p13 p14 p15 g3 qq
    simp only [List.take_succ_cons, List.take_zero, List.drop_succ_cons, List.drop_nil, putAll, Act.put, List.setIfInBounds_toArray, List.set_cons_succ, List.set_cons_zero, Nat.zero_add, Nat.reduceAdd]
    rw [e0, e1, e2, e3, e4, e5, e6, e7, p8, e9, e10, e11, e12, e13, e14, e15]
    clear e0 e1 e2 e3 e4 e5 e6 e7 p8 e9 e10 e11 e12 e13 e14 e15
    obtain ⟨c, D', O', out, d', o', gr', hcase⟩ := hr
    have HOUT := Lib.hid out
    have HDO := Lib.hid (And.intro d' (And.intro o' gr'))
    clear out d' o' gr'
    rcases hcase with ⟨rfl, rfl, rfl⟩ | ⟨rfl, gb, OG, OR, rfl, rfl, lg, ll, d1, d2⟩
    · go_wp2
      (try simp only [Exit.inBlock, Exit.then])
      refine bodyPost_ret (cfpo_results (x0 := .pointer none) (x1 := .pointer none) (x2 := .int .i64 0) (x3 := .int .i64 0) (x4 := .pointer none) (x5 := .int .i64 0) (x6 := .bool false) (u := .slice none 0 0) (v := .int .i64 12) (HVW.out.put _ _ _ _ _ _ _) rfl rfl rfl) rfl ?_
      have q1 := HG32.out
      have q2 := HKE.out
      have q3 := HPW.out
      have q4 := HKB.out
      obtain ⟨mv1, mv2, mv3⟩ := cfpo_move HG3.out HBW.out (kb := kb) (by omega) (by omega) (fun i hi => (HOL.out i hi).2) HDO.out.1 HDO.out.2.1 HDO.out.2.2 (.pointer none) (.pointer none) (.int .i64 0) (.int .i64 0) (.pointer none) (.int .i64 0) (.bool false)
      exact ⟨12, D', O', ep, b, rs, HID.out.1, HID.out.2.1, by rw [HID.out.2.2]; exact HOUT.out, mv1, mv2, mv3, Or.inl ⟨rfl, none, 0, rfl⟩⟩
    · obtain ⟨a, nc, rfl⟩ := ll.size
      have HLG2 := Lib.hid lg
      have HLL := Lib.hid ll
      have HDD := Lib.hid (And.intro d1 d2)
      obtain ⟨RN, hRN⟩ : ∃ x, rs.length = x := ⟨_, rfl⟩
      rw [hRN] at HLL ⊢
      have HRN := Lib.hid hRN
      clear lg ll d1 d2 hRN
      go_wp2
      (try simp only [Exit.inBlock, Exit.then])
      refine bodyPost_ret (cfpo_results (x0 := .pointer (some ⟨gs, 0, none⟩)) (x1 := .pointer (some ⟨r, 0, none⟩)) (x2 := .int .i64 (k : Int)) (x3 := .int .i64 (m : Int)) (x4 := .pointer (some ⟨gb, 0, none⟩)) (x5 := .int .i64 (RN : Int)) (x6 := .bool false) (u := .slice a RN nc) (v := .int .i64 0) (HVW.out.put _ _ _ _ _ _ _) rfl rfl rfl) rfl ?_
      have q1 := HG32.out
      have q2 := HKE.out
      have q3 := HPW.out
      have q4 := HKB.out
      have q5 := HG3.out.size
      have q6 := HBE.out
      have q7 := HSZ.out
      obtain ⟨mv1, mv2, mv3⟩ := cfpo_move HG3.out HBW.out (kb := kb) (by omega) (by omega) (fun i hi => (HOL.out i hi).2) HDO.out.1 HDO.out.2.1 HDO.out.2.2 (.pointer (some ⟨gs, 0, none⟩)) (.pointer (some ⟨r, 0, none⟩)) (.int .i64 (k : Int)) (.int .i64 (m : Int)) (.pointer (some ⟨gb, 0, none⟩)) (.int .i64 (RN : Int)) (.bool false)
      obtain ⟨W', hW'⟩ : ∃ y, put7 W kb (.pointer (some ⟨gs, 0, none⟩)) (.pointer (some ⟨r, 0, none⟩)) (.int .i64 (k : Int)) (.int .i64 (m : Int)) (.pointer (some ⟨gb, 0, none⟩)) (.int .i64 (RN : Int)) (.bool false) = y := ⟨_, rfl⟩
      have hel : ∀ i, i ≠ kb → W'.heap[i]? = W.heap[i]? := fun i hi => by rw [← hW']; exact put7_else _ _ _ _ _ _ _ _ _ _ hi
      have hsz' : W'.heap.size = W.heap.size := by rw [← hW']; exact put7_size _ _ _ _ _ _ _ _ _
      show GivesPo base O r D k m w _ (put7 W kb _ _ _ _ _ _ _)
      rw [hW'] at mv1 mv2 ⊢
      have hkw : OnlyO base (fun i => i = kb) W W' := ⟨by rw [← hW']; exact below_put7 (Below.refl _ _) (by have := HBW.out; omega) _ _ _ _ _ _ _, fun i _ hi => hel i hi⟩
      have hos : ∀ i, OS i → B ≤ i ∧ i < w2.heap.size := fun i hi => ⟨(HSLW.out.own i hi).1, HKS.out i hi⟩
      have hog : ∀ i, OG i → w3.heap.size ≤ i := fun i hi => (HLG2.out.own i hi).1
      refine ⟨0, D', O', ep, b, rs, HID.out.1, HID.out.2.1, by rw [HID.out.2.2]; exact HOUT.out, mv1, mv2, mv3, Or.inr ⟨rfl, gs, gb, OS, OG, OR, a, nc, by rw [HRN.out], ?_, ?_, ?_, ?_, ?_, ?_⟩⟩
      · have q := (HSLW.out.kept (W' := W') (fun i hi => hel i (by have := (hos i hi).1; omega)) (by omega)).base (base' := w.heap.size) (by omega)
        rw [← HGE.out] at q
        exact q
      · rw [HID.out.2.2]
        exact (HLG2.out.kept (W' := W') (fun i hi => hel i (by have := hog i hi; omega)) (by omega)).base (by omega)
      · rw [HRN.out]
        exact HLL.out.only hkw (fun i hi e => by have := (HDD.out.1 i hi).1; omega) (fun i e => by have := HBW.out; omega)
      · intro i hi
        obtain ⟨p1, p2, p3, p4⟩ := HDD.out.1 i hi
        exact ⟨by omega, by omega, p3, p4, fun q => by have := (hos i q).2; omega⟩
      · exact fun i hi => ⟨HDD.out.2 i hi, fun q => by have := (hos i q).2; have := hog i hi; omega⟩
      · intro i hi q
        rcases HDO.out.2.2 i q with q | q
        · have := (HOL.out i q).2; have := (hos i hi).1; omega
        · have := (hos i hi).2; omega

end Go.Proofs.YtejelednnacnaaaGreatDoor
