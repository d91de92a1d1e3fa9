/-
  SlotsPlays: a disk, slots on it, and the document's snapshot in a variable, beside each other; what each call makes of them.
-/
import Derived.Test.YtejelednnacnaaaGreatDoorPkSltE
namespace Go.Proofs.YtejelednnacnaaaGreatDoor
open Go.RowKit

/-- The document's snapshot in a variable; its bytes were handed in. -/
structure Mv (w0 w : World) (base mv : Nat) (M : Nat × List Int) : Prop where
  ex : ∃ a c, Var2 w mv (.int .u64 (M.1 : Int)) (.slice a M.2.length c) ∧ ∀ W, Below base w0 W → ArgB W (.slice a M.2.length c) M.2
  lo : base ≤ mv
  m1 : M.1 ≤ 18446744073709551615
theorem Mv.lt {w0 w : World} {base mv : Nat} {M : Nat × List Int} (h : Mv w0 w base mv M) : mv < w.heap.size := by
  obtain ⟨a, c, v, _⟩ := h.ex
  exact v.s
theorem Mv.after {w0 w w' : World} {base mv : Nat} {M : Nat × List Int} (h : Mv w0 w base mv M) (g : Below w.heap.size w w') : Mv w0 w' base mv M := by
  obtain ⟨⟨a, c, v, ha⟩, lo, m1⟩ := h
  exact ⟨⟨a, c, v.after g, ha⟩, lo, m1⟩
theorem Var2.only {W W' : World} {base : Nat} {O : Foot} {p : Nat} {x y : Value} (k : Var2 W p x y) (ho : OnlyO base O W W') (hn : ¬ O p) : Var2 W' p x y := by
  have hk := ho.keep p k.s hn
  exact ⟨(World.cell?_of_block hk).trans k.c0, (World.cell?_of_block hk).trans k.c1, (World.frozen?_of_block hk).trans k.q0, (World.frozen?_of_block hk).trans k.q1, Nat.lt_of_lt_of_le k.s ho.size⟩
theorem Mv.only {w0 w w' : World} {base mv : Nat} {M : Nat × List Int} {O : Foot} {b : Nat} (h : Mv w0 w base mv M) (ho : OnlyO b O w w') (hn : ¬ O mv) : Mv w0 w' base mv M := by
  obtain ⟨⟨a, c, v, ha⟩, lo, m1⟩ := h
  exact ⟨⟨a, c, v.only ho hn, ha⟩, lo, m1⟩
/-- A disk with slots' bytes, and the document's snapshot: P what counts on the disk, M the document's. -/
structure DPO (w0 w : World) (base r mv N size f k : Nat) (Z : List Int) (P M : Nat × List Int) (D : Dsk) (O : Foot) : Prop where
  d : DskIs w base O r D
  nf : NFd N size D
  ws : D.waits = []
  sn : slotsL (f * size) (k * size) D.last = P
  p1 : P.1 ≤ 18446744073709551615
  bs : Beside (f * size) (k * size + k * size) Z D.last
  vr : Mv w0 w base mv M
  nm : ¬ O mv
  bel : Below base w0 w
  k1 : 1 ≤ k
  on : f + 2 * k ≤ N
theorem DPO.lo {w0 w : World} {base r mv N size f k : Nat} {Z : List Int} {P M : Nat × List Int} {D : Dsk} {O : Foot} (h : DPO w0 w base r mv N size f k Z P M D O) : base ≤ w.heap.size := by
  have := h.d.own r h.d.mem
  omega
theorem DPO.after {w0 w w' : World} {base r mv N size f k : Nat} {Z : List Int} {P M : Nat × List Int} {D : Dsk} {O : Foot} (h : DPO w0 w base r mv N size f k Z P M D O) (g : Below w.heap.size w w') : DPO w0 w' base r mv N size f k Z P M D O :=
  ⟨h.d.after g, h.nf, h.ws, h.sn, h.p1, h.bs, h.vr.after g, h.nm, h.bel.trans (g.mono h.lo), h.k1, h.on⟩
/-- With slots. -/
structure TPO (w0 w : World) (base r mv N size f k : Nat) (Z : List Int) (P M : Nat × List Int) (D : Dsk) (gs : Nat) (O OS : Foot) : Prop where
  dr : DPO w0 w base r mv N size f k Z P M D O
  g : SlIs w base OS gs r ⟨f, k, size, P.1, P.2, false⟩
  dis : ∀ i, O i → ¬ OS i
  ns : ¬ OS mv
theorem TPO.after {w0 w w' : World} {base r mv N size f k : Nat} {Z : List Int} {P M : Nat × List Int} {D : Dsk} {gs : Nat} {O OS : Foot} (h : TPO w0 w base r mv N size f k Z P M D gs O OS) (g : Below w.heap.size w w') : TPO w0 w' base r mv N size f k Z P M D gs O OS :=
  ⟨h.dr.after g, h.g.after g, h.dis, h.ns⟩
theorem TPO.on {w0 w : World} {base r mv N size f k : Nat} {Z : List Int} {P M : Nat × List Int} {D : Dsk} {gs : Nat} {O OS : Foot} (h : TPO w0 w base r mv N size f k Z P M D gs O OS) : SlotsOn D ⟨f, k, size, P.1, P.2, false⟩ :=
  slots_on h.dr.nf h.dr.ws h.dr.sn h.dr.k1 h.dr.on h.dr.p1
def DP (w0 w : World) (base r mv N size f k : Nat) (Z : List Int) (P M : Nat × List Int) (D : Dsk) : Prop := ∃ O, DPO w0 w base r mv N size f k Z P M D O
def TP (w0 w : World) (base r mv N size f k : Nat) (Z : List Int) (P M : Nat × List Int) (D : Dsk) (gs : Nat) : Prop := ∃ O OS, TPO w0 w base r mv N size f k Z P M D gs O OS
theorem TP.dp {w0 w : World} {base r mv N size f k : Nat} {Z : List Int} {P M : Nat × List Int} {D : Dsk} {gs : Nat} (h : TP w0 w base r mv N size f k Z P M D gs) : DP w0 w base r mv N size f k Z P M D := by
  obtain ⟨O, _, h⟩ := h
  exact ⟨O, h.dr⟩
theorem TP.after {w0 w w' : World} {base r mv N size f k : Nat} {Z : List Int} {P M : Nat × List Int} {D : Dsk} {gs : Nat} (h : TP w0 w base r mv N size f k Z P M D gs) (g : Below w.heap.size w w') : TP w0 w' base r mv N size f k Z P M D gs := by
  obtain ⟨O, OS, h⟩ := h
  exact ⟨O, OS, h.after g⟩
theorem DP.after {w0 w w' : World} {base r mv N size f k : Nat} {Z : List Int} {P M : Nat × List Int} {D : Dsk} (h : DP w0 w base r mv N size f k Z P M D) (g : Below w.heap.size w w') : DP w0 w' base r mv N size f k Z P M D := by
  obtain ⟨O, h⟩ := h
  exact ⟨O, h.after g⟩
theorem DP.bel {w0 w : World} {base r mv N size f k : Nat} {Z : List Int} {P M : Nat × List Int} {D : Dsk} (h : DP w0 w base r mv N size f k Z P M D) : Below base w0 w := by
  obtain ⟨O, h⟩ := h
  exact h.bel
/-- The variable. -/
theorem DP.var {w0 w : World} {base r mv N size f k : Nat} {Z : List Int} {P M : Nat × List Int} {D : Dsk} (h : DP w0 w base r mv N size f k Z P M D) : ∃ a c, Var2 w mv (.int .u64 (M.1 : Int)) (.slice a M.2.length c) ∧ (∀ W, Below base w0 W → ArgB W (.slice a M.2.length c) M.2) ∧ M.1 ≤ 18446744073709551615 := by
  obtain ⟨O, h⟩ := h
  obtain ⟨⟨a, c, v, ha⟩, _, m1⟩ := h.vr
  exact ⟨a, c, v, ha, m1⟩
/-- The variable anew. -/
theorem tp_set {w0 w : World} {base r mv N size f k : Nat} {Z : List Int} {P M M' : Nat × List Int} {D : Dsk} {gs : Nat} (h : TP w0 w base r mv N size f k Z P M D gs) {a : Option Addr} {c : Nat} (ha : ∀ W, Below base w0 W → ArgB W (.slice a M'.2.length c) M'.2) (m1 : M'.1 ≤ 18446744073709551615) :
    TP w0 (put2 w mv (.int .u64 (M'.1 : Int)) (.slice a M'.2.length c)) base r mv N size f k Z P M' D gs := by
  obtain ⟨O, OS, h⟩ := h
  obtain ⟨⟨a0, c0, v, _⟩, lo, _⟩ := h.dr.vr
  have oset : OnlyO base (fun i => i = mv) w (put2 w mv (.int .u64 (M'.1 : Int)) (.slice a M'.2.length c)) := ((OnlyO.refl base (fun i => i = mv) w).set rfl lo 0 _).set rfl lo 1 _
  exact ⟨O, OS, ⟨h.dr.d.kept (fun i hi => oset.keep i (h.dr.d.own i hi).2 (fun e => h.dr.nm (e ▸ hi))) oset.size, h.dr.nf, h.dr.ws, h.dr.sn, h.dr.p1, h.dr.bs, ⟨⟨a, c, v.put _ _, ha⟩, lo, m1⟩, h.dr.nm, h.dr.bel.trans oset.bel, h.dr.k1, h.dr.on⟩, h.g.kept (fun i hi => oset.keep i (h.g.own i hi).2 (fun e => h.ns (e ▸ hi))) oset.size, h.dis, h.ns⟩
theorem dp_set {w0 w : World} {base r mv N size f k : Nat} {Z : List Int} {P M M' : Nat × List Int} {D : Dsk} (h : DP w0 w base r mv N size f k Z P M D) {a : Option Addr} {c : Nat} (ha : ∀ W, Below base w0 W → ArgB W (.slice a M'.2.length c) M'.2) (m1 : M'.1 ≤ 18446744073709551615) :
    DP w0 (put2 w mv (.int .u64 (M'.1 : Int)) (.slice a M'.2.length c)) base r mv N size f k Z P M' D := by
  obtain ⟨O, h⟩ := h
  obtain ⟨⟨a0, c0, v, _⟩, lo, _⟩ := h.vr
  have oset : OnlyO base (fun i => i = mv) w (put2 w mv (.int .u64 (M'.1 : Int)) (.slice a M'.2.length c)) := ((OnlyO.refl base (fun i => i = mv) w).set rfl lo 0 _).set rfl lo 1 _
  exact ⟨O, h.d.kept (fun i hi => oset.keep i (h.d.own i hi).2 (fun e => h.nm (e ▸ hi))) oset.size, h.nf, h.ws, h.sn, h.p1, h.bs, ⟨⟨a, c, v.put _ _, ha⟩, lo, m1⟩, h.nm, h.bel.trans oset.bel, h.k1, h.on⟩
/-- Format. -/
theorem dp_format {w0 w : World} {base r mv N size f k : Nat} {Z : List Int} {P M : Nat × List Int} {D : Dsk} (h : DP w0 w base r mv N size f k Z P M D) (env : Env w) (hd : D.deeds ≤ 900000) :
    Calls Tryz.prog 54 #[.pointer (some ⟨r, 0, none⟩), .int .i64 (f : Int), .int .i64 (k : Int)] w fun e w' => e = .returned (.int .i64 0) ∧ ∃ D', DP w0 w' base r mv N size f k Z (0, []) M D' ∧ D'.deeds ≤ D.deeds + 1000 := by
  obtain ⟨O, h⟩ := h
  refine (sformat_nf base O r N size D f k (f : Int) (k : Int) rfl rfl w env h.d h.nf h.k1 h.on h.ws hd).mono ?_
  rintro e w' ⟨D', rfl, n', ws', de', sn', bs', O', d', o', gr'⟩
  have hlt := h.vr.lt
  exact ⟨rfl, D', ⟨O', d', n', ws', sn', by decide, h.bs.trans bs', h.vr.only o' h.nm, fun hx => by rcases gr' mv hx with hx | hx; exact h.nm hx; omega, h.bel.trans o'.bel, h.k1, h.on⟩, de'⟩
/-- Open. -/
theorem dp_open {w0 w : World} {base r mv N size f k : Nat} {Z : List Int} {P M : Nat × List Int} {D : Dsk} (h : DP w0 w base r mv N size f k Z P M D) (env : Env w) (hd : D.deeds ≤ 900000) :
    Calls Tryz.prog 48 #[.pointer (some ⟨r, 0, none⟩), .int .i64 (f : Int), .int .i64 (k : Int)] w fun e w' => ∃ gs, e = .returned (.tuple #[.pointer (some ⟨gs, 0, none⟩), .int .i64 0]) ∧ TP w0 w' base r mv N size f k Z P M D gs := by
  obtain ⟨O, h⟩ := h
  refine (sopen_nf base O r N size D f k (f : Int) (k : Int) rfl rfl P.1 P.2 w env h.d h.nf h.k1 h.on h.ws hd h.sn).mono ?_
  rintro e w' ⟨gs, OS, rfl, g', l'⟩
  have hlt := h.vr.lt
  exact ⟨gs, rfl, O, OS, h.after g', l'.base h.lo, fun i hi hx => by have q1 := (h.d.own i hi).2; have q2 := (l'.own i hx).1; omega, fun hx => by have := (l'.own mv hx).1; omega⟩
theorem tp_most {w0 w : World} {base r mv N size f k : Nat} {Z : List Int} {P M : Nat × List Int} {D : Dsk} {gs : Nat} (h : TP w0 w base r mv N size f k Z P M D gs) : Calls Tryz.prog 44 #[.pointer (some ⟨gs, 0, none⟩)] w fun e w' => e = .returned (.int .i64 ((k * size : Nat) - 19 : Int)) ∧ Below w.heap.size w w' := by
  obtain ⟨O, OS, h⟩ := h
  exact smost_any base O OS gs r D _ _ h.dr.d h.g h.dr.nf.size.symm h.dr.k1 (by show f + 2 * k ≤ D.n; rw [h.dr.nf.n]; exact h.dr.on)
/-- All bytes, in the end: beside the slots they are as they were. -/
theorem dp_all {w0 w : World} {base r mv N size f k : Nat} {Z : List Int} {P M : Nat × List Int} {D : Dsk} (h : DP w0 w base r mv N size f k Z P M D) (hd : D.deeds ≤ 1000000) :
    (Calls Tryz.prog 8 #[.pointer (some ⟨r, 0, none⟩)] w fun e w' => e = .returned (.string (strOfNums D.last)) ∧ Below w.heap.size w w') ∧ D.last.take (f * size) = Z.take (f * size) ∧ D.last.drop ((f + 2 * k) * size) = Z.drop ((f + 2 * k) * size) ∧ D.last.length = Z.length ∧ (f + 2 * k) * size ≤ D.last.length ∧ ∀ z ∈ D.last, 0 ≤ z ∧ z ≤ 255 := by
  obtain ⟨O, h⟩ := h
  have e : f * size + (k * size + k * size) = (f + 2 * k) * size := by rw [Nat.add_mul, Nat.mul_assoc, Nat.two_mul]
  have hb := h.bs.behind
  rw [e] at hb
  refine ⟨all_nf base O r D w h.d h.nf.dark h.ws hd, h.bs.ahead, hb, h.bs.len, ?_, h.d.ok.lb⟩
  rw [h.d.ok.ll, h.nf.n, h.nf.size]
  exact Nat.mul_le_mul_right _ h.on

end Go.Proofs.YtejelednnacnaaaGreatDoor
