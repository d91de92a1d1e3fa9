/-
  SlotsLasts: slots on a disk, and two of the document's snapshots in variables, while they are put, and behind it.
-/
import Derived.Test.YtbhmkmfjbafdcaaDoorPkSltF
import Derived.Test.YtbhmkmfjbafdcaaDoorPkMixU
namespace Go.Proofs.YtbhmkmfjbafdcaaDoor
open Go.RowKit

/-- What each operation of 'x, c := Put(..)' has made. -/
def TSl (l : List Value) : Nat → Value → World → Prop
  | 12, v, _ => ∃ p, v = .pointer (some ⟨p, 0, none⟩)
  | 13, _, _ => True
  | k, v, _ => v = l.getD k undef
theorem TSl.any {l : List Value} (i : Nat) (v : Value) (w w' : World) (h : TSl l i v w) : TSl l i v w' := by
  unfold TSl at h ⊢
  split at h <;> exact h
/-- How the new variable stands by what has come up. -/
structure JSl (wr : World) (x y : Value) (u : Nat → Value) (L : Nat → Bool) (w : World) : Prop where
  bel : Below wr.heap.size wr w
  im : L 13 = true → L 12 = true
  vr : L 12 = true → ∃ p, u 12 = .pointer (some ⟨p, 0, none⟩) ∧ wr.heap.size ≤ p ∧ Var2 w p (if L 13 = true then x else .int .u64 0) (if L 13 = true then y else .slice none 0 0)
theorem JSl.start {wr : World} {x y : Value} (u : Nat → Value) : JSl wr x y u (fun _ => false) wr.drew := ⟨(Below.refl _ _).drew, fun h => (by cases h), fun h => (by cases h)⟩
theorem JSl.light {wr : World} {x y : Value} {u : Nat → Value} {L : Nat → Bool} {w : World} (h : JSl wr x y u L w) {k : Nat} (h12 : 12 ≠ k) (h13 : 13 ≠ k) (v : Value) : JSl wr x y (upd u k v) (setL L k) w := by
  obtain ⟨a, b, c⟩ := h
  refine ⟨a, by rw [setL_ne L h12, setL_ne L h13]; exact b, ?_⟩
  rw [setL_ne L h12, setL_ne L h13]
  unfold upd
  rw [if_neg h12]
  exact c
theorem JSl.after {wr : World} {x y : Value} {u : Nat → Value} {L : Nat → Bool} {w w' : World} (h : JSl wr x y u L w) (hb : Below w.heap.size w w') : JSl wr x y u L w' := by
  obtain ⟨a, b, c⟩ := h
  refine ⟨below_step a hb, b, fun h => ?_⟩
  obtain ⟨p, e, hp, v⟩ := c h
  exact ⟨p, e, hp, v.after hb⟩
theorem JSl.made {wr : World} {x y : Value} {u : Nat → Value} {L : Nat → Bool} {w : World} (h : JSl wr x y u L w) (h12 : L 12 = false) (t : TypeId) : JSl wr x y (upd u 12 (.pointer (some ⟨w.heap.size, 0, none⟩))) (setL L 12) (w.alloc (.cells #[.int .u64 0, .slice none 0 0] t)) := by
  obtain ⟨a, b, c⟩ := h
  have h13 : ¬ L 13 = true := fun e => by have := b e; rw [h12] at this; cases this
  refine ⟨a.alloc a.size _, fun _ => setL_self L 12, fun _ => ⟨w.heap.size, by unfold upd; rw [if_pos rfl], a.size, ?_⟩⟩
  rw [setL_ne L (by decide), if_neg h13, if_neg h13]
  exact Var2.fresh w _ _ t _ rfl
theorem JSl.put {wr : World} {x y : Value} {u : Nat → Value} {L : Nat → Bool} {w : World} (h : JSl wr x y u L w) (h12 : L 12 = true) {p : Nat} (hp : u 12 = .pointer (some ⟨p, 0, none⟩)) (v : Value) : JSl wr x y (upd u 13 v) (setL L 13) (put2 w p x y) := by
  obtain ⟨a, b, c⟩ := h
  obtain ⟨q, e, hq, vr⟩ := c h12
  rw [hp] at e
  simp only [Value.pointer.injEq, Option.some.injEq, Addr.mk.injEq, and_true] at e
  subst e
  refine ⟨below_put2 a hq _ _, fun _ => by rw [setL_ne L (by decide)]; exact h12, fun _ => ⟨p, by unfold upd; rw [if_neg (by decide)]; exact hp, hq, ?_⟩⟩
  rw [setL_self, if_pos rfl, if_pos rfl]
  exact vr.put _ _
theorem JSl.cells {wr : World} {x y : Value} {u : Nat → Value} {L : Nat → Bool} {w : World} (h : JSl wr x y u L w) (h12 : L 12 = true) (h13 : L 13 = false) {p : Nat} (hp : u 12 = .pointer (some ⟨p, 0, none⟩)) : Var2 w p (.int .u64 0) (.slice none 0 0) := by
  obtain ⟨q, e, hq, vr⟩ := h.vr h12
  rw [hp] at e
  simp only [Value.pointer.injEq, Option.some.injEq, Addr.mk.injEq, and_true] at e
  subst e
  have h13' : ¬ L 13 = true := by rw [h13]; simp
  rw [if_neg h13', if_neg h13'] at vr
  exact vr
/-- Slots on a disk, and two of the document's snapshots in variables. -/
structure RSO (w0 w : World) (base r hv nv size : Nat) (P : Nat × List Int) (D : Dsk) (gs : Nat) (x1 y1 x2 y2 : Value) (O OS : Foot) : Prop where
  d : DskIs w base O r D
  n : D.n = 9
  sz : D.size = size
  g : SlIs w base OS gs r ⟨1, 3, size, P.1, P.2, false⟩
  on : SlotsOn D ⟨1, 3, size, P.1, P.2, false⟩
  dis : ∀ i, O i → ¬ OS i
  v1 : Var2 w hv x1 y1
  v2 : Var2 w nv x2 y2
  l1 : base ≤ hv
  l2 : base ≤ nv
  m1 : ¬ (O hv ∨ OS hv)
  m2 : ¬ (O nv ∨ OS nv)
  ne : hv ≠ nv
  bel : Below base w0 w
def RS (w0 w : World) (base r hv nv size : Nat) (P : Nat × List Int) (D : Dsk) (gs : Nat) (x1 y1 x2 y2 : Value) : Prop := ∃ O OS, RSO w0 w base r hv nv size P D gs x1 y1 x2 y2 O OS
/-- The disk, and the two variables. -/
structure PSO (w0 w : World) (base r hv nv size : Nat) (D : Dsk) (x1 y1 x2 y2 : Value) (O : Foot) : Prop where
  d : DskIs w base O r D
  n : D.n = 9
  sz : D.size = size
  v1 : Var2 w hv x1 y1
  v2 : Var2 w nv x2 y2
  l1 : base ≤ hv
  l2 : base ≤ nv
  m1 : ¬ O hv
  m2 : ¬ O nv
  ne : hv ≠ nv
  bel : Below base w0 w
def PS (w0 w : World) (base r hv nv size : Nat) (D : Dsk) (x1 y1 x2 y2 : Value) : Prop := ∃ O, PSO w0 w base r hv nv size D x1 y1 x2 y2 O
theorem RSO.lo {w0 w : World} {base r hv nv size : Nat} {P : Nat × List Int} {D : Dsk} {gs : Nat} {x1 y1 x2 y2 : Value} {O OS : Foot} (h : RSO w0 w base r hv nv size P D gs x1 y1 x2 y2 O OS) : base ≤ w.heap.size := by
  have := h.d.own r h.d.mem
  omega
theorem RS.lo {w0 w : World} {base r hv nv size : Nat} {P : Nat × List Int} {D : Dsk} {gs : Nat} {x1 y1 x2 y2 : Value} (h : RS w0 w base r hv nv size P D gs x1 y1 x2 y2) : base ≤ w.heap.size := by
  obtain ⟨O, OS, h⟩ := h
  exact h.lo
theorem RS.bel {w0 w : World} {base r hv nv size : Nat} {P : Nat × List Int} {D : Dsk} {gs : Nat} {x1 y1 x2 y2 : Value} (h : RS w0 w base r hv nv size P D gs x1 y1 x2 y2) : Below base w0 w := by
  obtain ⟨O, OS, h⟩ := h
  exact h.bel
theorem PSO.lo {w0 w : World} {base r hv nv size : Nat} {D : Dsk} {x1 y1 x2 y2 : Value} {O : Foot} (h : PSO w0 w base r hv nv size D x1 y1 x2 y2 O) : base ≤ w.heap.size := by
  have := h.d.own r h.d.mem
  omega
theorem RSO.after {w' : World} {w0 w : World} {base r hv nv size : Nat} {P : Nat × List Int} {D : Dsk} {gs : Nat} {x1 y1 x2 y2 : Value} {O OS : Foot} (h : RSO w0 w base r hv nv size P D gs x1 y1 x2 y2 O OS) (g : Below w.heap.size w w') : RSO w0 w' base r hv nv size P D gs x1 y1 x2 y2 O OS :=
  ⟨h.d.after g, h.n, h.sz, h.g.after g, h.on, h.dis, h.v1.after g, h.v2.after g, h.l1, h.l2, h.m1, h.m2, h.ne, h.bel.trans (g.mono h.lo)⟩
theorem RS.after {w' : World} {w0 w : World} {base r hv nv size : Nat} {P : Nat × List Int} {D : Dsk} {gs : Nat} {x1 y1 x2 y2 : Value} (h : RS w0 w base r hv nv size P D gs x1 y1 x2 y2) (g : Below w.heap.size w w') : RS w0 w' base r hv nv size P D gs x1 y1 x2 y2 := by
  obtain ⟨O, OS, h⟩ := h
  exact ⟨O, OS, h.after g⟩
theorem RS.var {w0 w : World} {base r hv nv size : Nat} {P : Nat × List Int} {D : Dsk} {gs : Nat} {x1 y1 x2 y2 : Value} (h : RS w0 w base r hv nv size P D gs x1 y1 x2 y2) : Var2 w hv x1 y1 ∧ Var2 w nv x2 y2 := by
  obtain ⟨O, OS, h⟩ := h
  exact ⟨h.v1, h.v2⟩
theorem RS.past {w0 w : World} {base r hv nv size : Nat} {P : Nat × List Int} {D : Dsk} {gs : Nat} {x1 y1 x2 y2 : Value} (h : RS w0 w base r hv nv size P D gs x1 y1 x2 y2) : PS w0 w base r hv nv size D x1 y1 x2 y2 := by
  obtain ⟨O, OS, h⟩ := h
  exact ⟨O, h.d, h.n, h.sz, h.v1, h.v2, h.l1, h.l2, fun q => h.m1 (Or.inl q), fun q => h.m2 (Or.inl q), h.ne, h.bel⟩
theorem RS.left {w0 w : World} {base r hv nv size : Nat} {P : Nat × List Int} {D : Dsk} {gs : Nat} {x1 y1 x2 y2 : Value} (h : RS w0 w base r hv nv size P D gs x1 y1 x2 y2) (k t : Int) : slotsL (1 * size) (3 * size) (D.left k t) = P := by
  obtain ⟨O, OS, h⟩ := h
  rw [left_none h.on.ws]
  exact h.on.sn
theorem RS.p1 {w0 w : World} {base r hv nv size : Nat} {P : Nat × List Int} {D : Dsk} {gs : Nat} {x1 y1 x2 y2 : Value} (h : RS w0 w base r hv nv size P D gs x1 y1 x2 y2) : P.1 ≤ 18446744073709551615 := by
  obtain ⟨O, OS, h⟩ := h
  exact h.on.e1
/-- A variable anew. -/
theorem RS.set1 {w0 w : World} {base r hv nv size : Nat} {P : Nat × List Int} {D : Dsk} {gs : Nat} {x1 y1 x2 y2 : Value} (h : RS w0 w base r hv nv size P D gs x1 y1 x2 y2) (x y : Value) : RS w0 (put2 w hv x y) base r hv nv size P D gs x y x2 y2 := by
  obtain ⟨O, OS, h⟩ := h
  have oset : OnlyO base (fun i => i = hv) w (put2 w hv x y) := ((OnlyO.refl base (fun i => i = hv) w).set rfl h.l1 0 _).set rfl h.l1 1 _
  exact ⟨O, OS, h.d.kept (fun i hi => oset.keep i (h.d.own i hi).2 (fun e => h.m1 (Or.inl (e ▸ hi)))) oset.size, h.n, h.sz, h.g.kept (fun i hi => oset.keep i (h.g.own i hi).2 (fun e => h.m1 (Or.inr (e ▸ hi)))) oset.size, h.on, h.dis, h.v1.put _ _, h.v2.only oset (fun e => h.ne e.symm), h.l1, h.l2, h.m1, h.m2, h.ne, h.bel.trans oset.bel⟩
theorem RS.set2 {w0 w : World} {base r hv nv size : Nat} {P : Nat × List Int} {D : Dsk} {gs : Nat} {x1 y1 x2 y2 : Value} (h : RS w0 w base r hv nv size P D gs x1 y1 x2 y2) (x y : Value) : RS w0 (put2 w nv x y) base r hv nv size P D gs x1 y1 x y := by
  obtain ⟨O, OS, h⟩ := h
  have oset : OnlyO base (fun i => i = nv) w (put2 w nv x y) := ((OnlyO.refl base (fun i => i = nv) w).set rfl h.l2 0 _).set rfl h.l2 1 _
  exact ⟨O, OS, h.d.kept (fun i hi => oset.keep i (h.d.own i hi).2 (fun e => h.m2 (Or.inl (e ▸ hi)))) oset.size, h.n, h.sz, h.g.kept (fun i hi => oset.keep i (h.g.own i hi).2 (fun e => h.m2 (Or.inr (e ▸ hi)))) oset.size, h.on, h.dis, h.v1.only oset (fun e => h.ne e), h.v2.put _ _, h.l1, h.l2, h.m1, h.m2, h.ne, h.bel.trans oset.bel⟩
/-- Another variable, a new one, in the first one's place. -/
theorem RS.new1 {w' : World} {w0 w : World} {base r hv nv size : Nat} {P : Nat × List Int} {D : Dsk} {gs : Nat} {x1 y1 x2 y2 : Value} (h : RS w0 w base r hv nv size P D gs x1 y1 x2 y2) (g : Below w.heap.size w w') {p : Nat} {x y : Value} (hp : w.heap.size ≤ p) (v : Var2 w' p x y) : RS w0 w' base r p nv size P D gs x y x2 y2 := by
  obtain ⟨O, OS, h⟩ := h
  have h2 := h.after g
  have hn := h.v2.s
  have hlo := h.lo
  exact ⟨O, OS, h2.d, h2.n, h2.sz, h2.g, h2.on, h2.dis, v, h2.v2, by omega, h2.l2, fun q => by rcases q with q | q; exact absurd (h.d.own p q).2 (by omega); exact absurd (h.g.own p q).2 (by omega), h2.m2, by omega, h2.bel⟩
theorem rs_full {w0 w : World} {base r hv nv size : Nat} {P : Nat × List Int} {D : Dsk} {gs : Nat} {x1 y1 x2 y2 : Value} (h : RS w0 w base r hv nv size P D gs x1 y1 x2 y2) (env : Env w) (v : Value) (b : List Int) (hv' : ArgB w v b) (hl : b.length ≤ 2000) (hf : 3 * size < b.length + 19) :
    Calls Tryd.prog 15 #[.pointer (some ⟨gs, 0, none⟩), v] w fun e w' => e = .returned (.int .i64 11) ∧ Below w.heap.size w w' := by
  obtain ⟨O, OS, h⟩ := h
  exact sput_full base O OS r gs D ⟨1, 3, size, P.1, P.2, false⟩ v b w env h.d h.g h.on hv' (by omega) hf
theorem rs_over {w0 w : World} {base r hv nv size : Nat} {P : Nat × List Int} {D : Dsk} {gs : Nat} {x1 y1 x2 y2 : Value} (h : RS w0 w base r hv nv size P D gs x1 y1 x2 y2) (env : Env w) (v : Value) (b : List Int) (hv' : ArgB w v b) (hf : ¬ 3 * size < b.length + 19) (he : P.1 = 18446744073709551615) :
    Calls Tryd.prog 15 #[.pointer (some ⟨gs, 0, none⟩), v] w fun e w' => e = .returned (.int .i64 3) ∧ Below w.heap.size w w' := by
  obtain ⟨O, OS, h⟩ := h
  exact sput_over base O OS r gs D ⟨1, 3, size, P.1, P.2, false⟩ v b w env h.d h.g h.on hv' (by show b.length + 19 ≤ 3 * size; omega) he
/-- What one Put makes of it: it was done, or the disk went dark. -/
theorem rs_put {w0 w : World} {base r hv nv size : Nat} {P : Nat × List Int} {D : Dsk} {gs : Nat} {x1 y1 x2 y2 : Value} (h : RS w0 w base r hv nv size P D gs x1 y1 x2 y2) (env : ∀ W, Below base w W → Env W) (v : Value) (b : List Int) (hv' : ArgB w v b) (hb : ∀ z ∈ b, 0 ≤ z ∧ z ≤ 255) (hy : b ≠ [] → ∀ i, v.ownBlock = some i → i < base) (hd : D.deeds ≤ 900000) (hf : ¬ 3 * size < b.length + 19) (he : ¬ P.1 = 18446744073709551615) :
    Calls Tryd.prog 15 #[.pointer (some ⟨gs, 0, none⟩), v] w fun e w' => ∃ D', D'.deeds ≤ D.deeds + 1000 ∧ (D.fuse = -1 → D'.fuse = -1) ∧ ((e = .returned (.int .i64 0) ∧ RS w0 w' base r hv nv size (P.1 + 1, b) D' gs x1 y1 x2 y2) ∨
      (e = .returned (.int .i64 12) ∧ D.fuse ≠ -1 ∧ PS w0 w' base r hv nv size D' x1 y1 x2 y2 ∧ ∀ k t, slotsL (1 * size) (3 * size) (D'.left k t) = P ∨ slotsL (1 * size) (3 * size) (D'.left k t) = (P.1 + 1, b))) := by
  obtain ⟨O, OS, h⟩ := h
  have hp1 : P.1 ≤ 18446744073709551615 := h.on.e1
  have hsz := h.sz
  refine (sput_any base O OS r gs D ⟨1, 3, size, P.1, P.2, false⟩ v b w env h.d h.g h.dis h.on hd hv' hb (fun hn i hi => ⟨fun ho => by have := (h.d.own i ho).1; have := hy hn i hi; omega, fun ho => by have := (h.g.own i ho).1; have := hy hn i hi; omega⟩) (by show b.length + 19 ≤ 3 * size; omega) (by show P.1 < _; omega)).mono ?_
  rintro e w' ⟨c, D', O', OS', rfl, ⟨hs, hcase⟩, hd', hl, hdis, ho, hgr⟩
  have n1 : ¬ (O' hv ∨ OS' hv) := fun hx => by rcases hgr hv hx with hx | hx; exact h.m1 hx; exact absurd h.v1.s (by omega)
  have n2 : ¬ (O' nv ∨ OS' nv) := fun hx => by rcases hgr nv hx with hx | hx; exact h.m2 hx; exact absurd h.v2.s (by omega)
  have bl := h.bel.trans ho.bel
  rcases hcase with ⟨rfl, p1, p2, p3, p4⟩ | ⟨rfl, p1, p2, p3⟩
  · have e1 : ({ (⟨1, 3, size, P.1, P.2, false⟩ : Sl) with ep := if (0 : Int) = 0 then P.1 + 1 else P.1, b := if (0 : Int) = 0 then b else P.2, down := decide ((0 : Int) = 12) } : Sl) = ⟨1, 3, size, P.1 + 1, b, false⟩ := by
      rw [if_pos rfl, if_pos rfl, show decide ((0 : Int) = 12) = false from rfl]
    rw [e1] at hl
    refine ⟨D', hs.hi, hs.fuse, Or.inl ⟨rfl, O', OS', hd', hs.n.trans h.n, hs.size.trans hsz, hl, ⟨by show 1 ≤ 3; decide, by show 1 + 2 * 3 ≤ D'.n; rw [hs.n, h.n]; decide, by show size = D'.size; rw [hs.size, hsz], rfl, p4, by show P.1 + 1 ≤ _; omega, p1, p2⟩, hdis, h.v1.only ho h.m1, h.v2.only ho h.m2, h.l1, h.l2, n1, n2, h.ne, bl⟩⟩
  · exact ⟨D', hs.hi, hs.fuse, Or.inr ⟨rfl, p2, ⟨O', hd', hs.n.trans h.n, hs.size.trans hsz, h.v1.only ho h.m1, h.v2.only ho h.m2, h.l1, h.l2, fun q => n1 (Or.inl q), fun q => n2 (Or.inl q), h.ne, bl⟩, fun k t => (p3 k t).2⟩⟩
/-- What Put of both comes to, in one. -/
theorem both_rs {w0 wr : World} {base r hv nv size : Nat} {P : Nat × List Int} {D : Dsk} {gs : Nat} {x1 y1 x2 y2 : Value} (h : RS w0 wr base r hv nv size P D gs x1 y1 x2 y2) (henv : ∀ W, Below base w0 W → Env W) (bv : Value) (b : List Int) (hbv : ∀ W, Below base w0 W → ArgB W bv b) (hb : ∀ z ∈ b, 0 ≤ z ∧ z ≤ 255) (hpb : ∀ z ∈ P.2, 0 ≤ z ∧ z ≤ 255) (hy : b ≠ [] → ∀ i, bv.ownBlock = some i → i < base) (hl : b.length ≤ 2000) (hd : D.deeds ≤ 900000) (hks : 3 * size ≤ 1000000) (ma : Option Addr) (mc : Nat) (hma : ∀ W, Below base w0 W → ArgB W (.slice ma P.2.length mc) P.2) :
    ∃ (M : Nat × List Int) (xa : Option Addr) (xc : Nat) (cc : Int), ¬ cc = 12 ∧ (∀ W, Below wr.heap.size wr W → Calls Tryd.prog 14 #[.agg #[.int .u64 (P.1 : Int), .slice ma P.2.length mc], .int .i64 ((3 * size : Nat) : Int), bv] W fun e w' => e = .returned (.tuple #[.agg #[.int .u64 (M.1 : Int), .slice xa M.2.length xc], .int .i64 cc]) ∧ Below W.heap.size W w') ∧
      (∀ W, Below base w0 W → ArgB W (.slice xa M.2.length xc) M.2) ∧ M.1 ≤ 18446744073709551615 ∧ (∀ z ∈ M.2, 0 ≤ z ∧ z ≤ 255) ∧
      (∀ W x1 y1 x2 y2, RS w0 W base r hv nv size P D gs x1 y1 x2 y2 → Calls Tryd.prog 15 #[.pointer (some ⟨gs, 0, none⟩), bv] W fun e w' => ∃ D', D'.deeds ≤ D.deeds + 1000 ∧ ((e = .returned (.int .i64 cc) ∧ RS w0 w' base r hv nv size M D' gs x1 y1 x2 y2) ∨ (e = .returned (.int .i64 12) ∧ PS w0 w' base r hv nv size D' x1 y1 x2 y2 ∧ ∀ k t, slotsL (1 * size) (3 * size) (D'.left k t) = P ∨ slotsL (1 * size) (3 * size) (D'.left k t) = M))) := by
  have hp1 := h.p1
  have hbel := h.bel
  have hlo := h.lo
  have bW : ∀ W, Below wr.heap.size wr W → Below base w0 W := fun W hW => hbel.trans (hW.mono hlo)
  have sv : ∀ W, Below wr.heap.size wr W → SnapV W (.agg #[.int .u64 (P.1 : Int), .slice ma P.2.length mc]) P := fun W hW => ⟨hp1, ma, mc, rfl, hma W (bW W hW)⟩
  obtain ⟨ba, bc, hbe⟩ := (hbv wr hbel).size
  by_cases c1 : 3 * size < b.length + 19
  · exact ⟨P, ma, mc, 11, by decide, fun W hW => rsput_full _ bv P (3 * size) b W (sv W hW) (hbv W (bW W hW)) hks (by omega) c1, hma, hp1, hpb, fun W _ _ _ _ hT => (rs_full hT (henv W hT.bel) bv b (hbv W hT.bel) hl c1).mono fun e w' ⟨he, g⟩ => ⟨D, by omega, Or.inl ⟨he, hT.after g⟩⟩⟩
  · by_cases c2 : P.1 = 18446744073709551615
    · exact ⟨P, ma, mc, 3, by decide, fun W hW => rsput_over _ bv P (3 * size) b W (sv W hW) (hbv W (bW W hW)) hks (by omega) c1 c2, hma, hp1, hpb, fun W _ _ _ _ hT => (rs_over hT (henv W hT.bel) bv b (hbv W hT.bel) c1 c2).mono fun e w' ⟨he, g⟩ => ⟨D, by omega, Or.inl ⟨he, hT.after g⟩⟩⟩
    · refine ⟨(P.1 + 1, b), ba, bc, 0, by decide, fun W hW => ?_, fun W hW => by rw [← hbe]; exact hbv W hW, by show P.1 + 1 ≤ _; omega, hb, fun W _ _ _ _ hT => (rs_put hT (fun _ g => henv _ (hT.bel.trans g)) bv b (hbv W hT.bel) hb hy hd c1 c2).mono ?_⟩
      · have q := rsput_done _ bv P (3 * size) b W (sv W hW) (hbv W (bW W hW)) hks (by omega) c1 c2
        exact q.mono fun e w' ⟨he, g⟩ => ⟨by rw [he, hbe], g⟩
      · rintro e w' ⟨D', q1, _, q3 | ⟨q4, _, q5, q6⟩⟩
        · exact ⟨D', q1, Or.inl q3⟩
        · exact ⟨D', q1, Or.inr ⟨q4, q5, q6⟩⟩
/-- The same at the end, where no fuse burns, of whatever value the snapshot is. -/
theorem both_fin {w0 wr : World} {base r hv nv size : Nat} {P : Nat × List Int} {D : Dsk} {gs : Nat} {x1 y1 x2 y2 : Value} (h : RS w0 wr base r hv nv size P D gs x1 y1 x2 y2) (hfu : D.fuse = -1) (henv : ∀ W, Below base w0 W → Env W) (bv : Value) (b : List Int) (hbv : ∀ W, Below base w0 W → ArgB W bv b) (hb : ∀ z ∈ b, 0 ≤ z ∧ z ≤ 255) (hpb : ∀ z ∈ P.2, 0 ≤ z ∧ z ≤ 255) (hy : b ≠ [] → ∀ i, bv.ownBlock = some i → i < base) (hl : b.length ≤ 2000) (hd : D.deeds ≤ 900000) (hks : 3 * size ≤ 1000000) :
    ∃ (M : Nat × List Int) (cc : Int), (∀ W xv, Below wr.heap.size wr W → SnapV W xv P → Calls Tryd.prog 14 #[xv, .int .i64 ((3 * size : Nat) : Int), bv] W fun e w' => ∃ xa xc, e = .returned (.tuple #[.agg #[.int .u64 (M.1 : Int), .slice xa M.2.length xc], .int .i64 cc]) ∧ SnapV w' (.agg #[.int .u64 (M.1 : Int), .slice xa M.2.length xc]) M ∧ (cc = 0 → .slice xa M.2.length xc = bv) ∧ Below W.heap.size W w') ∧
      M.1 ≤ 18446744073709551615 ∧ (∀ z ∈ M.2, 0 ≤ z ∧ z ≤ 255) ∧
      (∀ W hv nv x1 y1 x2 y2 xa xc, RS w0 W base r hv nv size P D gs x1 y1 x2 y2 → SnapV W (.agg #[.int .u64 (M.1 : Int), .slice xa M.2.length xc]) M → (cc = 0 → .slice xa M.2.length xc = bv) → Calls Tryd.prog 15 #[.pointer (some ⟨gs, 0, none⟩), bv] W fun e w' => e = .returned (.int .i64 cc) ∧ ∃ D', D'.deeds ≤ D.deeds + 1000 ∧ D'.fuse = -1 ∧ RS w0 w' base r hv nv size M D' gs x1 y1 x2 y2 ∧ SnapV w' (.agg #[.int .u64 (M.1 : Int), .slice xa M.2.length xc]) M) := by
  have hp1 := h.p1
  have hbel := h.bel
  have hlo := h.lo
  have bW : ∀ W, Below wr.heap.size wr W → Below base w0 W := fun W hW => hbel.trans (hW.mono hlo)
  obtain ⟨ba, bc, hbe⟩ := (hbv wr hbel).size
  by_cases c1 : 3 * size < b.length + 19
  · refine ⟨P, 11, fun W xv hW hx => ?_, hp1, hpb, fun W _ _ _ _ _ _ _ _ hT hS _ => (rs_full hT (henv W hT.bel) bv b (hbv W hT.bel) hl c1).mono fun e w' ⟨he, g⟩ => ⟨he, D, by omega, hfu, hT.after g, hS.below g⟩⟩
    obtain ⟨_, a, c, rfl, ha⟩ := id hx
    exact (rsput_full _ bv P (3 * size) b W hx (hbv W (bW W hW)) hks (by omega) c1).mono fun e w' ⟨he, g⟩ => ⟨a, c, he, hx.below g, (fun q => by cases q), g⟩
  · by_cases c2 : P.1 = 18446744073709551615
    · refine ⟨P, 3, fun W xv hW hx => ?_, hp1, hpb, fun W _ _ _ _ _ _ _ _ hT hS _ => (rs_over hT (henv W hT.bel) bv b (hbv W hT.bel) c1 c2).mono fun e w' ⟨he, g⟩ => ⟨he, D, by omega, hfu, hT.after g, hS.below g⟩⟩
      obtain ⟨_, a, c, rfl, ha⟩ := id hx
      exact (rsput_over _ bv P (3 * size) b W hx (hbv W (bW W hW)) hks (by omega) c1 c2).mono fun e w' ⟨he, g⟩ => ⟨a, c, he, hx.below g, (fun q => by cases q), g⟩
    · refine ⟨(P.1 + 1, b), 0, fun W xv hW hx => ?_, by show P.1 + 1 ≤ _; omega, hb, fun W _ _ _ _ _ _ xa xc hT hS hq => (rs_put hT (fun _ g => henv _ (hT.bel.trans g)) bv b (hbv W hT.bel) hb hy hd c1 c2).mono ?_⟩
      · have q := rsput_done _ bv P (3 * size) b W hx (hbv W (bW W hW)) hks (by omega) c1 c2
        exact q.mono fun e w' ⟨he, g⟩ => ⟨ba, bc, by rw [he, hbe], ⟨by show P.1 + 1 ≤ _; omega, ba, bc, rfl, by rw [← hbe]; exact hbv w' (bW w' (below_step hW g))⟩, fun _ => hbe.symm, g⟩
      · rintro e w' ⟨D', q1, q2, ⟨q3, q4⟩ | ⟨_, q5, _⟩⟩
        · exact ⟨q3, D', q1, q2 hfu, q4, by show P.1 + 1 ≤ _; omega, xa, xc, rfl, by rw [hq rfl]; exact hbv w' q4.bel⟩
        · exact (q5 hfu).elim
/-- Crash, and Open behind it. -/
theorem ps_crash {w0 w : World} {base r hv nv size : Nat} {D : Dsk} {x1 y1 x2 y2 : Value} (h : PS w0 w base r hv nv size D x1 y1 x2 y2) (hd : D.deeds ≤ 1000000) (k t : Int) (k0 : -9223372036854775808 ≤ k) (k1 : k ≤ 9223372036854775807) (t0 : -9223372036854775808 ≤ t) (t1 : t ≤ 9223372036854775807) :
    Calls Tryd.prog 21 #[.pointer (some ⟨r, 0, none⟩), .int .i64 k, .int .i64 t] w fun e w' => e = .returned (.tuple #[]) ∧ PS w0 w' base r hv nv size (D.crash k t) x1 y1 x2 y2 := by
  obtain ⟨O, h⟩ := h
  refine (bcrash_any base O r D k t w h.d hd k0 k1 t0 t1).mono ?_
  rintro e w' ⟨rfl, O', d', o', gr'⟩
  exact ⟨rfl, O', d', h.n, h.sz, h.v1.only o' h.m1, h.v2.only o' h.m2, h.l1, h.l2, fun hx => by rcases gr' hv hx with hx | hx; exact h.m1 hx; exact absurd h.v1.s (by omega), fun hx => by rcases gr' nv hx with hx | hx; exact h.m2 hx; exact absurd h.v2.s (by omega), h.ne, h.bel.trans o'.bel⟩
theorem ps_open {w0 w : World} {base r hv nv size : Nat} {D : Dsk} {x1 y1 x2 y2 : Value} {T : Nat × List Int} (h : PS w0 w base r hv nv size D x1 y1 x2 y2) (env : Env w) (hf : D.fuse = -1) (dk : D.dark = false) (ws : D.waits = []) (hd : D.deeds ≤ 900000) (hs : slotsL (1 * size) (3 * size) D.last = T) (t1 : T.1 ≤ 18446744073709551615) :
    Calls Tryd.prog 11 #[.pointer (some ⟨r, 0, none⟩), .int .i64 1, .int .i64 3] w fun e w' => ∃ gs, e = .returned (.tuple #[.pointer (some ⟨gs, 0, none⟩), .int .i64 0]) ∧ RS w0 w' base r hv nv size T D gs x1 y1 x2 y2 ∧ Below w.heap.size w w' := by
  obtain ⟨O, h⟩ := h
  have nf : NFd 9 size D := ⟨h.n, h.sz, hf, dk⟩
  have hlo := h.lo
  refine (sopen_nf base O r 9 size D 1 3 1 3 rfl rfl T.1 T.2 w env h.d nf (by decide) (by decide) ws hd hs).mono ?_
  rintro e w' ⟨gs, OS, rfl, g', l'⟩
  exact ⟨gs, rfl, ⟨O, OS, h.d.after g', h.n, h.sz, l'.base hlo, slots_on nf ws hs (by decide) (by decide) t1, fun i hi hx => by have q1 := (h.d.own i hi).2; have q2 := (l'.own i hx).1; omega, h.v1.after g', h.v2.after g', h.l1, h.l2, fun hx => by rcases hx with hx | hx; exact h.m1 hx; exact absurd h.v1.s (by have := (l'.own hv hx).1; omega), fun hx => by rcases hx with hx | hx; exact h.m2 hx; exact absurd h.v2.s (by have := (l'.own nv hx).1; omega), h.ne, h.bel.trans (g'.mono hlo)⟩, g'⟩
theorem rs_snap {w0 w : World} {base r hv nv size : Nat} {P : Nat × List Int} {D : Dsk} {gs : Nat} {x1 y1 x2 y2 : Value} (h : RS w0 w base r hv nv size P D gs x1 y1 x2 y2) : Calls Tryd.prog 18 #[.pointer (some ⟨gs, 0, none⟩)] w fun e w' => ∃ xv, e = .returned xv ∧ SnapV w' xv P ∧ Below w.heap.size w w' := by
  obtain ⟨O, OS, h⟩ := h
  exact lsnap_any _ _ _ r _ _ h.g h.on.e1
/-- Open again: the new slots beside the old ones. -/
theorem rs_open {w0 w : World} {base r hv nv size : Nat} {P : Nat × List Int} {D : Dsk} {gs : Nat} {x1 y1 x2 y2 : Value} (h : RS w0 w base r hv nv size P D gs x1 y1 x2 y2) (env : Env w) (hf : D.fuse = -1) (hd : D.deeds ≤ 900000) :
    Calls Tryd.prog 11 #[.pointer (some ⟨r, 0, none⟩), .int .i64 1, .int .i64 3] w fun e w' => ∃ gs2, e = .returned (.tuple #[.pointer (some ⟨gs2, 0, none⟩), .int .i64 0]) ∧ RS w0 w' base r hv nv size P D gs2 x1 y1 x2 y2 ∧ Below w.heap.size w w' := by
  have hp := h.past
  have hp1 := h.p1
  obtain ⟨O, OS, h⟩ := h
  exact ps_open hp env hf h.on.dk h.on.ws hd h.on.sn hp1

end Go.Proofs.YtbhmkmfjbafdcaaDoor
