/-
  SlotsReads: slots on a disk, and blocks that are to be kept beside them, while a snapshot is put, and behind it.
-/
import Derived.Test.YtejelednnacnaaaGreatDoorPkSltF
namespace Go.Proofs.YtejelednnacnaaaGreatDoor
open Go.RowKit

/-- Both are the same, or not. -/
theorem same_two {w1 : World} {xv yv : Value} {T H : Nat × List Int} (hx : SnapV w1 xv T) (hh : SnapV w1 yv H) (tb : ∀ z ∈ T.2, 0 ≤ z ∧ z ≤ 255) (hb : ∀ z ∈ H.2, 0 ≤ z ∧ z ≤ 255) (b : Bool) (e : decide (T = H) = b) :
    Calls Tryz.prog 35 #[xv, yv] w1 fun e w' => e = .returned (.bool b) ∧ Below w1.heap.size w1 w' := by
  subst e
  exact rssame_any xv yv T H w1 hx hh tb hb
/-- What a call leaves of the blocks that are kept. -/
def KeepK (base : Nat) (K : Foot) (w w' : World) : Prop := ∃ G : Foot, OnlyO base G w w' ∧ ∀ i, K i → ¬ G i
theorem KeepK.below {base : Nat} {K : Foot} {w w' : World} (hb : Below w.heap.size w w') (hl : base ≤ w.heap.size) : KeepK base K w w' := ⟨fun _ => False, OnlyO.of hb hl, fun _ _ h => h⟩
theorem KeepK.snap {base : Nat} {K : Foot} {w w' : World} (h : KeepK base K w w') {x : Value} {m : Nat × List Int} (hs : SnapF w x m K) : SnapF w' x m K := by
  obtain ⟨G, o, d⟩ := h
  exact hs.only o d
theorem KeepK.var {base : Nat} {K : Foot} {w w' : World} (h : KeepK base K w w') {p : Nat} {x y : Value} (v : Var2 w p x y) (hp : K p) : Var2 w' p x y := by
  obtain ⟨G, o, d⟩ := h
  exact v.only o (d p hp)
/-- Two of the document's snapshots in variables, and the blocks that they lean on. -/
structure Two (w : World) (mv nv : Nat) (M X : Nat × List Int) (xm ym xn yn : Value) (K : Foot) : Prop where
  v1 : Var2 w mv xm ym
  v2 : Var2 w nv xn yn
  s1 : SnapF w (.agg #[xm, ym]) M K
  s2 : SnapF w (.agg #[xn, yn]) X K
  k1 : K mv
  k2 : K nv
theorem Two.keep {w w' : World} {base mv nv : Nat} {M X : Nat × List Int} {xm ym xn yn : Value} {K : Foot} (h : Two w mv nv M X xm ym xn yn K) (k : KeepK base K w w') : Two w' mv nv M X xm ym xn yn K :=
  ⟨k.var h.v1 h.k1, k.var h.v2 h.k2, k.snap h.s1, k.snap h.s2, h.k1, h.k2⟩
theorem Two.after {w w' : World} {mv nv : Nat} {M X : Nat × List Int} {xm ym xn yn : Value} {K : Foot} (h : Two w mv nv M X xm ym xn yn K) (g : Below w.heap.size w w') : Two w' mv nv M X xm ym xn yn K :=
  ⟨h.v1.after g, h.v2.after g, h.s1.below g, h.s2.below g, h.k1, h.k2⟩
/-- The disk, slots on it, and blocks that are kept. -/
structure KSO (w0 w : World) (base r N size : Nat) (D : Dsk) (gs : Nat) (P : Nat × List Int) (dn : Bool) (K O OS : Foot) : Prop where
  d : DskIs w base O r D
  n : D.n = N
  sz : D.size = size
  g : SlIs w base OS gs r ⟨1, 3, size, P.1, P.2, dn⟩
  dis : ∀ i, O i → ¬ OS i
  k : ∀ i, K i → i < w.heap.size ∧ ¬ (O i ∨ OS i)
  p1 : P.1 ≤ 18446744073709551615
  bel : Below base w0 w
def KS (w0 w : World) (base r N size : Nat) (D : Dsk) (gs : Nat) (P : Nat × List Int) (dn : Bool) (K : Foot) : Prop := ∃ O OS, KSO w0 w base r N size D gs P dn K O OS
/-- The disk alone. -/
structure KDO (w0 w : World) (base r N size : Nat) (D : Dsk) (K O : Foot) : Prop where
  d : DskIs w base O r D
  n : D.n = N
  sz : D.size = size
  k : ∀ i, K i → i < w.heap.size ∧ ¬ O i
  bel : Below base w0 w
def KD (w0 w : World) (base r N size : Nat) (D : Dsk) (K : Foot) : Prop := ∃ O, KDO w0 w base r N size D K O
theorem KSO.lo {w0 w : World} {base r N size : Nat} {D : Dsk} {gs : Nat} {P : Nat × List Int} {dn : Bool} {K : Foot} {O OS : Foot} (h : KSO w0 w base r N size D gs P dn K O OS) : base ≤ w.heap.size := by
  have := h.d.own r h.d.mem
  omega
theorem KDO.lo {w0 w : World} {base r N size : Nat} {D : Dsk} {K : Foot} {O : Foot} (h : KDO w0 w base r N size D K O) : base ≤ w.heap.size := by
  have := h.d.own r h.d.mem
  omega
theorem KS.lo {w0 w : World} {base r N size : Nat} {D : Dsk} {gs : Nat} {P : Nat × List Int} {dn : Bool} {K : Foot} (h : KS w0 w base r N size D gs P dn K) : base ≤ w.heap.size := by
  obtain ⟨O, OS, h⟩ := h
  exact h.lo
theorem KS.bel {w0 w : World} {base r N size : Nat} {D : Dsk} {gs : Nat} {P : Nat × List Int} {dn : Bool} {K : Foot} (h : KS w0 w base r N size D gs P dn K) : Below base w0 w := by
  obtain ⟨O, OS, h⟩ := h
  exact h.bel
theorem KD.bel {w0 w : World} {base r N size : Nat} {D : Dsk} {K : Foot} (h : KD w0 w base r N size D K) : Below base w0 w := by
  obtain ⟨O, h⟩ := h
  exact h.bel
theorem KS.p1 {w0 w : World} {base r N size : Nat} {D : Dsk} {gs : Nat} {P : Nat × List Int} {dn : Bool} {K : Foot} (h : KS w0 w base r N size D gs P dn K) : P.1 ≤ 18446744073709551615 := by
  obtain ⟨O, OS, h⟩ := h
  exact h.p1
theorem KS.after {w' : World} {w0 w : World} {base r N size : Nat} {D : Dsk} {gs : Nat} {P : Nat × List Int} {dn : Bool} {K : Foot} (h : KS w0 w base r N size D gs P dn K) (g : Below w.heap.size w w') : KS w0 w' base r N size D gs P dn K := by
  obtain ⟨O, OS, h⟩ := h
  exact ⟨O, OS, h.d.after g, h.n, h.sz, h.g.after g, h.dis, fun i hi => ⟨Nat.lt_of_lt_of_le (h.k i hi).1 g.size, (h.k i hi).2⟩, h.p1, h.bel.trans (g.mono h.lo)⟩
/-- Blocks that are new are kept, too. -/
theorem KS.more {w' : World} {w0 w : World} {base r N size : Nat} {D : Dsk} {gs : Nat} {P : Nat × List Int} {dn : Bool} {K : Foot} (h : KS w0 w base r N size D gs P dn K) (g : Below w.heap.size w w') : ∃ K' : Foot, KS w0 w' base r N size D gs P dn K' ∧ (∀ i, K i → K' i) ∧ (∀ i, w.heap.size ≤ i → i < w'.heap.size → K' i) := by
  obtain ⟨O, OS, h⟩ := h
  refine ⟨fun i => i < w'.heap.size ∧ ¬ (O i ∨ OS i), ⟨O, OS, h.d.after g, h.n, h.sz, h.g.after g, h.dis, fun i hi => hi, h.p1, h.bel.trans (g.mono h.lo)⟩, fun i hi => ⟨Nat.lt_of_lt_of_le (h.k i hi).1 g.size, (h.k i hi).2⟩, fun i h1 h2 => ⟨h2, fun q => ?_⟩⟩
  rcases q with q | q
  · have := (h.d.own i q).2; omega
  · have := (h.g.own i q).2; omega
theorem KS.past {w0 w : World} {base r N size : Nat} {D : Dsk} {gs : Nat} {P : Nat × List Int} {dn : Bool} {K : Foot} (h : KS w0 w base r N size D gs P dn K) : KD w0 w base r N size D K := by
  obtain ⟨O, OS, h⟩ := h
  exact ⟨O, h.d, h.n, h.sz, fun i hi => ⟨(h.k i hi).1, fun q => (h.k i hi).2 (Or.inl q)⟩, h.bel⟩
/-- At first: all that is there, but the disk's own blocks, is kept. -/
theorem kd_start {w0 w : World} {base r N size : Nat} {D : Dsk} {O : Foot} (d : DskIs w base O r D) (n : D.n = N) (sz : D.size = size) (bel : Below base w0 w) : KD w0 w base r N size D (fun i => i < w.heap.size ∧ ¬ O i) := ⟨O, d, n, sz, fun _ hi => hi, bel⟩
theorem ks_all {w0 w : World} {base r N size : Nat} {D : Dsk} {gs : Nat} {P : Nat × List Int} {dn : Bool} {K : Foot} (h : KS w0 w base r N size D gs P dn K) (dk : D.dark = false) (ws : D.waits = []) (hd : D.deeds ≤ 1000000) {XA : _} (hx : strOfNums D.last = XA) :
    Calls Tryz.prog 8 #[.pointer (some ⟨r, 0, none⟩)] w fun e w' => e = .returned (.string XA) ∧ Below w.heap.size w w' := by
  obtain ⟨O, OS, h⟩ := h
  subst hx
  exact all_nf base O r D w h.d dk ws hd
theorem ks_fuse {w0 w : World} {base r N size : Nat} {D : Dsk} {gs : Nat} {P : Nat × List Int} {dn : Bool} {K : Foot} (h : KS w0 w base r N size D gs P dn K) (f : Int) (f0 : -9223372036854775808 ≤ f) (f1 : f ≤ 9223372036854775807) :
    Calls Tryz.prog 12 #[.pointer (some ⟨r, 0, none⟩), .int .i64 f] w fun e w' => e = .returned (.tuple #[]) ∧ KS w0 w' base r N size (D.light f) gs P dn K ∧ KeepK base K w w' := by
  obtain ⟨O, OS, h⟩ := h
  refine (bfuse_any base O r D f w h.d f0 f1).mono ?_
  rintro e w' ⟨rfl, O', d', o', gr'⟩
  refine ⟨rfl, ⟨O', OS, d', h.n, h.sz, h.g.kept (fun i hi => o'.keep i (h.g.own i hi).2 (fun q => h.dis i q hi)) o'.size, fun i hi hg => ?_, fun i hi => ⟨Nat.lt_of_lt_of_le (h.k i hi).1 o'.size, fun q => ?_⟩, h.p1, h.bel.trans o'.bel⟩, ⟨O, o', fun i hi q => (h.k i hi).2 (Or.inl q)⟩⟩
  · rcases gr' i hi with hx | hx
    · exact h.dis i hx hg
    · have := (h.g.own i hg).2; omega
  · rcases q with q | q
    · rcases gr' i q with hx | hx
      · exact (h.k i hi).2 (Or.inl hx)
      · have := (h.k i hi).1; omega
    · exact (h.k i hi).2 (Or.inr q)
theorem kd_crash {w0 w : World} {base r N size : Nat} {D : Dsk} {K : Foot} (h : KD w0 w base r N size D K) (hd : D.deeds ≤ 1000000) (k t : Int) (k0 : -9223372036854775808 ≤ k) (k1 : k ≤ 9223372036854775807) (t0 : -9223372036854775808 ≤ t) (t1 : t ≤ 9223372036854775807) :
    Calls Tryz.prog 16 #[.pointer (some ⟨r, 0, none⟩), .int .i64 k, .int .i64 t] w fun e w' => e = .returned (.tuple #[]) ∧ KD w0 w' base r N size (D.crash k t) K ∧ KeepK base K w w' := by
  obtain ⟨O, h⟩ := h
  refine (bcrash_any base O r D k t w h.d hd k0 k1 t0 t1).mono ?_
  rintro e w' ⟨rfl, O', d', o', gr'⟩
  refine ⟨rfl, ⟨O', d', h.n, h.sz, fun i hi => ⟨Nat.lt_of_lt_of_le (h.k i hi).1 o'.size, fun q => ?_⟩, h.bel.trans o'.bel⟩, ⟨O, o', fun i hi => (h.k i hi).2⟩⟩
  rcases gr' i q with hx | hx
  · exact (h.k i hi).2 hx
  · have := (h.k i hi).1; omega
theorem kd_open {w0 w : World} {base r N size : Nat} {D : Dsk} {K : Foot} {T : Nat × List Int} (h : KD w0 w base r N size D K) (env : Env w) (hN : 7 ≤ N) (hf : D.fuse = -1) (dk : D.dark = false) (ws : D.waits = []) (hd : D.deeds ≤ 900000) (hs : slotsL (1 * size) (3 * size) D.last = T) (t1 : T.1 ≤ 18446744073709551615) :
    Calls Tryz.prog 48 #[.pointer (some ⟨r, 0, none⟩), .int .i64 1, .int .i64 3] w fun e w' => ∃ gs, e = .returned (.tuple #[.pointer (some ⟨gs, 0, none⟩), .int .i64 0]) ∧ KS w0 w' base r N size D gs T false K ∧ Below w.heap.size w w' := by
  obtain ⟨O, h⟩ := h
  have nf : NFd N size D := ⟨h.n, h.sz, hf, dk⟩
  have hlo := h.lo
  refine (sopen_nf base O r N size D 1 3 1 3 rfl rfl T.1 T.2 w env h.d nf (by decide) hN ws hd hs).mono ?_
  rintro e w' ⟨gs, OS, rfl, g', l'⟩
  refine ⟨gs, rfl, ⟨O, OS, h.d.after g', h.n, h.sz, l'.base hlo, fun i hi hx => ?_, fun i hi => ⟨Nat.lt_of_lt_of_le (h.k i hi).1 g'.size, fun q => ?_⟩, t1, h.bel.trans (g'.mono hlo)⟩, g'⟩
  · have q1 := (h.d.own i hi).2
    have q2 := (l'.own i hx).1
    omega
  · rcases q with q | q
    · exact (h.k i hi).2 q
    · have q1 := (h.k i hi).1
      have q2 := (l'.own i q).1
      omega
/-- What slots on a disk are there for. -/
theorem on_light {D : Dsk} {G : Sl} (h : SlotsOn D G) (f : Int) : SlotsOn (D.light f) G := ⟨h.n1, h.on, h.sz, h.up, h.sn, h.e1, h.dk, h.ws⟩
/-- What Put comes to, and what is there behind it, whatever a crash keeps. -/
def OutP (size : Nat) (M X : Nat × List Int) (gc cc : Int) (P' : Nat × List Int) (D' : Dsk) : Prop :=
  (gc = 0 ∧ cc = 0 ∧ P' = X ∧ ∀ k t, slotsL (1 * size) (3 * size) (D'.left k t) = X) ∨
  (¬ gc = 0 ∧ gc = cc ∧ P' = M ∧ ∀ k t, slotsL (1 * size) (3 * size) (D'.left k t) = M) ∨
  (gc = 12 ∧ cc = 0 ∧ P' = M ∧ ∀ k t, slotsL (1 * size) (3 * size) (D'.left k t) = M ∨ slotsL (1 * size) (3 * size) (D'.left k t) = X)
def GivesKp (w0 W : World) (base r N size : Nat) (D : Dsk) (gs : Nat) (M X : Nat × List Int) (cc : Int) (K : Foot) (e : Ending) (w' : World) : Prop :=
  ∃ (gc : Int) (D' : Dsk) (P' : Nat × List Int) (dn : Bool), e = .returned (.int .i64 gc) ∧ D'.deeds ≤ D.deeds + 1000 ∧ OutP size M X gc cc P' D' ∧ KS w0 w' base r N size D' gs P' dn K ∧ KeepK base K W w'
/-- What is refused has changed nothing. -/
theorem ks_same {w0 w : World} {base r N size : Nat} {D : Dsk} {gs : Nat} {P : Nat × List Int} {K : Foot} {w' : World} {cc : Int} (h : KS w0 w base r N size D gs P false K) (on : SlotsOn D ⟨1, 3, size, P.1, P.2, false⟩) (g : Below w.heap.size w w') (hc : ¬ cc = 0) : GivesKp w0 w base r N size D gs P P cc K (.returned (.int .i64 cc)) w' :=
  ⟨cc, D, P, false, rfl, Nat.le_add_right _ _, Or.inr (Or.inl ⟨hc, rfl, rfl, fun k t => by rw [left_none on.ws]; exact on.sn⟩), h.after g, KeepK.below g h.lo⟩
end Go.Proofs.YtejelednnacnaaaGreatDoor
