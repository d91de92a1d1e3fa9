/-
  CofferReads: a disk, a coffer on it, and blocks that are to be kept beside them, over the contracts of package coffer's calls.
-/
import Derived.Test.YtejelednnacnaaaGreatDoorPkCofE
import Derived.Test.YtejelednnacnaaaGreatDoorPkSltS
import Derived.Test.YtejelednnacnaaaGreatDoorPkWalT
namespace Go.Proofs.YtejelednnacnaaaGreatDoor
open Go.RowKit

/-- What a call leaves of the blocks that are kept. -/
def KeepC (base : Nat) (K : Foot) (w w' : World) : Prop := ∃ G : Foot, OnlyO base G w w' ∧ (∀ i, K i → ¬ G i) ∧ ∀ i, G i → base ≤ i
/-- The document's state in a variable, and the blocks that it leans on. -/
structure StK (w : World) (base mv : Nat) (M : Nat × List Int) (L : List (List Int)) (xm ym zm : Value) (K : Foot) : Prop where
  v : Var3 w mv xm ym zm
  s : SnapF w (.agg #[xm, ym]) M K
  l : LLF w base K zm L
  k : K mv
theorem StK.keep {w w' : World} {base mv : Nat} {M : Nat × List Int} {L : List (List Int)} {xm ym zm : Value} {K : Foot} (h : StK w base mv M L xm ym zm K) (kk : KeepC base K w w') : StK w' base mv M L xm ym zm K := by
  obtain ⟨G, o, d, b⟩ := kk
  exact ⟨h.v.only o (d mv h.k), h.s.only o d, h.l.only o d b, h.k⟩
theorem StK.after {w w' : World} {base mv : Nat} {M : Nat × List Int} {L : List (List Int)} {xm ym zm : Value} {K : Foot} (h : StK w base mv M L xm ym zm K) (g : Below w.heap.size w w') : StK w' base mv M L xm ym zm K := ⟨h.v.after g, h.s.below g, h.l.after g, h.k⟩
theorem StK.stV {w : World} {base mv : Nat} {M : Nat × List Int} {L : List (List Int)} {xm ym zm : Value} {K : Foot} (h : StK w base mv M L xm ym zm K) : StV w (.agg #[xm, ym, zm]) M L := by
  obtain ⟨h1, a, c, e, h2, _⟩ := h.s
  obtain ⟨a2, c2, rfl⟩ := h.l.size
  simp only [Value.agg.injEq, Array.mk.injEq, List.cons.injEq, and_true] at e
  obtain ⟨rfl, rfl⟩ := e
  exact ⟨h1, a, c, a2, c2, rfl, h2, h.l.argLL⟩

/-- The disk, a coffer on it, and blocks that are kept. -/
structure KCO (w0 w : World) (base r N size : Nat) (D : Dsk) (cb : Nat) (C : Cf) (K O OC : Foot) : Prop where
  d : DskIs w base O r D
  n : D.n = N
  sz : D.size = size
  c : CofIs w base OC cb r C
  k : ∀ i, K i → i < w.heap.size ∧ ¬ O i
  bel : Below base w0 w
def KC (w0 w : World) (base r N size : Nat) (D : Dsk) (cb : Nat) (C : Cf) (K : Foot) : Prop := ∃ O OC, KCO w0 w base r N size D cb C K O OC
theorem KC.after {w' w0 w : World} {base r N size : Nat} {D : Dsk} {cb : Nat} {C : Cf} {K : Foot} (h : KC w0 w base r N size D cb C K) (g : Below w.heap.size w w') : KC w0 w' base r N size D cb C K := by
  obtain ⟨O, OC, h⟩ := h
  have hlo : base ≤ w.heap.size := by have := h.d.own r h.d.mem; omega
  exact ⟨O, OC, h.d.after g, h.n, h.sz, h.c.after g, fun i hi => ⟨Nat.lt_of_lt_of_le (h.k i hi).1 g.size, (h.k i hi).2⟩, h.bel.trans (g.mono hlo)⟩
theorem KC.past {w0 w : World} {base r N size : Nat} {D : Dsk} {cb : Nat} {C : Cf} {K : Foot} (h : KC w0 w base r N size D cb C K) : KD w0 w base r N size D K := by
  obtain ⟨O, OC, h⟩ := h
  exact ⟨O, h.d, h.n, h.sz, h.k, h.bel⟩
theorem KC.bel {w0 w : World} {base r N size : Nat} {D : Dsk} {cb : Nat} {C : Cf} {K : Foot} (h : KC w0 w base r N size D cb C K) : Below base w0 w := by
  obtain ⟨O, OC, h⟩ := h
  exact h.bel
theorem KD.after {w' w0 w : World} {base r N size : Nat} {D : Dsk} {K : Foot} (h : KD w0 w base r N size D K) (g : Below w.heap.size w w') : KD w0 w' base r N size D K := by
  obtain ⟨O, h⟩ := h
  exact ⟨O, h.d.after g, h.n, h.sz, fun i hi => ⟨Nat.lt_of_lt_of_le (h.k i hi).1 g.size, (h.k i hi).2⟩, h.bel.trans (g.mono h.lo)⟩
theorem kc_dsk {w0 w w' : World} {base r N size : Nat} {D D' : Dsk} {K O : Foot} (h : KDO w0 w base r N size D K O) (n : D'.n = D.n) (sz : D'.size = D.size) (t : DskTo base O r D' w w') : KD w0 w' base r N size D' K ∧ KeepC base K w w' := by
  obtain ⟨O', d', o', gr'⟩ := t
  refine ⟨⟨O', d', n.trans h.n, sz.trans h.sz, fun i hi => ⟨Nat.lt_of_lt_of_le (h.k i hi).1 o'.size, fun q => ?_⟩, h.bel.trans o'.bel⟩, ⟨O, o', fun i hi => (h.k i hi).2, fun i hi => (h.d.own i hi).1⟩⟩
  rcases gr' i q with hx | hx
  · exact (h.k i hi).2 hx
  · have := (h.k i hi).1; omega
theorem kc_fuse {w0 w : World} {base r N size : Nat} {D : Dsk} {K : Foot} (h : KD w0 w base r N size D K) (f : Int) (f0 : -9223372036854775808 ≤ f) (f1 : f ≤ 9223372036854775807) :
    Calls Tryz.prog 12 #[.pointer (some ⟨r, 0, none⟩), .int .i64 f] w fun e w' => e = .returned (.tuple #[]) ∧ KD w0 w' base r N size (D.light f) K ∧ KeepC base K w w' := by
  obtain ⟨O, h⟩ := h
  refine (bfuse_any base O r D f w h.d f0 f1).mono ?_
  rintro e w' ⟨rfl, t⟩
  exact ⟨rfl, kc_dsk h rfl rfl t⟩
theorem kc_crash {w0 w : World} {base r N size : Nat} {D : Dsk} {K : Foot} (h : KD w0 w base r N size D K) (hd : D.deeds ≤ 1000000) (k t : Int) (k0 : -9223372036854775808 ≤ k) (k1 : k ≤ 9223372036854775807) (t0 : -9223372036854775808 ≤ t) (t1 : t ≤ 9223372036854775807) :
    Calls Tryz.prog 16 #[.pointer (some ⟨r, 0, none⟩), .int .i64 k, .int .i64 t] w fun e w' => e = .returned (.tuple #[]) ∧ KD w0 w' base r N size (D.crash k t) K ∧ KeepC base K w w' := by
  obtain ⟨O, h⟩ := h
  refine (bcrash_any base O r D k t w h.d hd k0 k1 t0 t1).mono ?_
  rintro e w' ⟨rfl, t⟩
  exact ⟨rfl, kc_dsk h rfl rfl t⟩
/-- What opening comes to, with or without a fuse. -/
def GivesKo (w0 : World) (base r size : Nat) (D : Dsk) (M : Nat × List Int) (L : List (List Int)) (K : Foot) (w : World) (e : Ending) (w' : World) : Prop :=
  ∃ (c : Int) (D' : Dsk) (p v : Value), e = .returned (.tuple #[p, v, .int .i64 c]) ∧ OpnOut D (logOf 2 3 M.1 * size) (3 * size) L c D' ∧ KeepC base K w w' ∧ KD w0 w' base r 10 size D' K ∧
    ((c = 12 ∧ p = .pointer none) ∨
     (c = 0 ∧ ∃ cb a n, p = .pointer (some ⟨cb, 0, none⟩) ∧ v = .slice a L.length n ∧ KC w0 w' base r 10 size D' cb ⟨2, 3, size, M.1, M.2, L.length, usedL L, false, false, false⟩ K ∧ ArgLL w' (.slice a L.length n) L))
theorem kd_copen {w0 w : World} {base r size : Nat} {D : Dsk} {K : Foot} {M : Nat × List Int} {L : List (List Int)} (h : KD w0 w base r 10 size D K) (env : Env w) (dk : D.dark = false) (ws : D.waits = []) (hd : D.deeds ≤ 900000) (hs : slotsL 0 (2 * size) D.last = M) (hr : (allL (regnL (logOf 2 3 M.1 * size) (3 * size) D.last)).1 = L) :
    Calls Tryz.prog 13 #[.pointer (some ⟨r, 0, none⟩), .int .i64 2] w (GivesKo w0 base r size D M L K w) := by
  obtain ⟨O, h⟩ := h
  have hlo := h.lo
  have hc : Calls Tryz.prog 13 #[.pointer (some ⟨r, 0, none⟩), .int .i64 2] w (GivesCo base O r D 2 3 w) := cfopen_any base O r D 2 3 w env h.d (by decide) (by decide) (by rw [h.n]) dk ws hd
  refine hc.mono ?_
  rintro e w' ⟨c, D', O', ep, b, rs, h1, h2, hout, hd', ho, hg, hx⟩
  rw [h.sz, hs] at h1
  have e1 : ep = M.1 := congrArg Prod.fst h1
  have e2 : b = M.2 := congrArg Prod.snd h1
  subst e1 e2
  rw [h.sz, hr] at h2
  subst h2
  rw [h.sz] at hout hx
  obtain ⟨kd, kk⟩ := kc_dsk h hout.1.n hout.1.size ⟨O', hd', ho, hg⟩
  rcases hx with ⟨rfl, a, n, rfl⟩ | ⟨rfl, cb, OC, OR, a, n, rfl, hC, hl, _, _⟩
  · exact ⟨12, D', _, _, rfl, hout, kk, kd, Or.inl ⟨rfl, rfl⟩⟩
  · refine ⟨0, D', _, _, rfl, hout, kk, kd, Or.inr ⟨rfl, cb, a, n, rfl, rfl, ⟨O', OC, hd', hout.1.n.trans h.n, hout.1.size.trans h.sz, hC.base hlo, fun i hi => ⟨Nat.lt_of_lt_of_le (h.k i hi).1 ho.size, fun q => ?_⟩, h.bel.trans ho.bel⟩, hl.argLL⟩⟩
    rcases hg i q with hx | hx
    · exact (h.k i hi).2 hx
    · have := (h.k i hi).1; omega
/-- What lies ahead of a region is as it was. -/
theorem slots_beside {size lo N : Nat} {S S' : List Int} (h : Beside lo N S S') (hl : 4 * size ≤ lo) : slotsL 0 (2 * size) S' = slotsL 0 (2 * size) S ∧ S'.take (4 * size) = S.take (4 * size) := by
  refine ⟨?_, ?_⟩
  · unfold slotsL
    rw [beside_ahead (a := 0) (N := 2 * size) h (by omega), beside_ahead (a := 0 + 2 * size) (N := 2 * size) h (by omega)]
  · have e := congrArg (List.take (4 * size)) h.ahead
    rw [List.take_take, List.take_take, Nat.min_eq_left hl] at e
    exact e
theorem log_lo (ep size : Nat) : 4 * size ≤ logOf 2 3 ep * size := Nat.mul_le_mul_right _ (by unfold logOf; omega)
theorem log_hi (ep size : Nat) : logOf 2 3 ep * size + 3 * size ≤ 10 * size := by
  rw [← Nat.add_mul]
  exact Nat.mul_le_mul_right _ (by
    unfold logOf
    have : ep % 2 * 3 ≤ 1 * 3 := Nat.mul_le_mul_right _ (by omega)
    omega)
/-- Behind a crash of what was opened. -/
theorem copens_crash {size : Nat} {D D' : Dsk} {M : Nat × List Int} {L : List (List Int)} {c : Int} (hok : D.Ok) (hn : D.n = 10) (hs : D.size = size) (h : OpnOut D (logOf 2 3 M.1 * size) (3 * size) L c D') (hr : (allL (regnL (logOf 2 3 M.1 * size) (3 * size) D.last)).1 = L) (hsl : slotsL 0 (2 * size) D.last = M) (k t : Int) :
    NFd 10 size (D'.crash k t) ∧ (D'.crash k t).waits = [] ∧ (D'.crash k t).deeds ≤ D.deeds + 1000 ∧ slotsL 0 (2 * size) (D'.crash k t).last = M ∧ (allL (regnL (logOf 2 3 M.1 * size) (3 * size) (D'.crash k t).last)).1 = L ∧ (D'.crash k t).last.take (4 * size) = D.last.take (4 * size) := by
  have hll := hok.ll
  rw [hn, hs] at hll
  have s1 := hok.s1
  have hi := log_hi M.1 size
  have hrec : RecOk L (3 * size) := by rw [← hr]; exact rec_reg hok (by omega)
  obtain ⟨p1, p2, p3, p4, p5⟩ := opens_crash hn hs h (by omega) hrec (by omega) k t
  obtain ⟨q1, q2⟩ := slots_beside p4 (log_lo M.1 size)
  exact ⟨p1, p2, p3, q1.trans hsl, p5, q2⟩
/-- Opened again, where no fuse burns. -/
def GivesKn (w0 : World) (base r size : Nat) (D : Dsk) (M : Nat × List Int) (L : List (List Int)) (K : Foot) (w : World) (e : Ending) (w' : World) : Prop :=
  ∃ D' cb a n, e = .returned (.tuple #[.pointer (some ⟨cb, 0, none⟩), .slice a L.length n, .int .i64 0]) ∧ KC w0 w' base r 10 size D' cb ⟨2, 3, size, M.1, M.2, L.length, usedL L, false, false, false⟩ K ∧ ArgLL w' (.slice a L.length n) L ∧ KeepC base K w w' ∧ NFd 10 size D' ∧ D'.waits = [] ∧ D'.deeds ≤ D.deeds + 1000 ∧ D'.last.take (4 * size) = D.last.take (4 * size)
theorem kd_reopen {w0 w : World} {base r size : Nat} {D : Dsk} {K : Foot} {M : Nat × List Int} {L : List (List Int)} (h : KD w0 w base r 10 size D K) (env : Env w) (hn : NFd 10 size D) (ws : D.waits = []) (hd : D.deeds ≤ 900000) (hs : slotsL 0 (2 * size) D.last = M) (hr : (allL (regnL (logOf 2 3 M.1 * size) (3 * size) D.last)).1 = L) :
    Calls Tryz.prog 13 #[.pointer (some ⟨r, 0, none⟩), .int .i64 2] w (GivesKn w0 base r size D M L K w) := by
  have hok : D.Ok := by obtain ⟨O, h⟩ := h; exact h.d.ok
  have hll := hok.ll
  rw [hn.n, hn.size] at hll
  have hi := log_hi M.1 size
  have hrec : RecOk L (3 * size) := by rw [← hr]; exact rec_reg hok (by omega)
  refine (kd_copen h env hn.dark ws hd hs hr).mono ?_
  rintro e w' ⟨c, D', p, v, rfl, ⟨st, hcase⟩, kk, _, hx⟩
  rcases hcase with ⟨rfl, hdn, _⟩ | ⟨_, hdk⟩
  · rcases hx with ⟨h0, _⟩ | ⟨_, cb, a, n, rfl, rfl, hC, hl⟩
    · cases h0
    · obtain ⟨_, hb⟩ := laid_reg (text_len hrec.used) (by omega) hdn.last
      exact ⟨D', cb, a, n, rfl, hC, hl, kk, hn.step st hdn.dark, hdn.waits, st.hi, (slots_beside hb (log_lo M.1 size)).2⟩
  · exact (hdk.fuse hn.fuse).elim
theorem kc_state {w0 w : World} {base r N size : Nat} {D : Dsk} {cb : Nat} {C : Cf} {K : Foot} {lv : Value} {L : List (List Int)} (h : KC w0 w base r N size D cb C K) (hl : ArgLL w lv L) (he : C.ep ≤ 18446744073709551615) :
    Calls Tryz.prog 15 #[.pointer (some ⟨cb, 0, none⟩), lv] w fun e w' => ∃ x, e = .returned x ∧ StV w' x (C.ep, C.b) L ∧ Below w.heap.size w w' := by
  obtain ⟨O, OC, h⟩ := h
  exact lstate_any base OC cb r C lv L w h.c hl he
theorem kc_recs {w0 w : World} {base r N size : Nat} {D : Dsk} {cb : Nat} {C : Cf} {K : Foot} (h : KC w0 w base r N size D cb C K) :
    Calls Tryz.prog 17 #[.pointer (some ⟨cb, 0, none⟩)] w fun e w' => e = .returned (.int .i64 (C.recs : Int)) ∧ w' = w := by
  obtain ⟨O, OC, h⟩ := h
  exact cfrecs_any base OC cb r C w h.c
theorem kc_all {w0 w : World} {base r N size : Nat} {D : Dsk} {cb : Nat} {C : Cf} {K : Foot} (h : KC w0 w base r N size D cb C K) (dk : D.dark = false) (ws : D.waits = []) (hd : D.deeds ≤ 1000000) {XA : _} (hx : strOfNums D.last = XA) :
    Calls Tryz.prog 8 #[.pointer (some ⟨r, 0, none⟩)] w fun e w' => e = .returned (.string XA) ∧ Below w.heap.size w w' := by
  obtain ⟨O, OC, h⟩ := h
  subst hx
  exact all_nf base O r D w h.d dk ws hd
theorem var3_last {W : World} {p : Nat} {x y z : Value} (k : Var3 W p x y z) (v : Value) : Var3 (W.setCell ⟨p, 2, none⟩ v) p x y v := by
  obtain ⟨c0, c1, c2, q0, q1, q2, s⟩ := k
  refine ⟨?_, ?_, ?_, ?_, ?_, ?_, ?_⟩ <;> simp [go_sem, *]
/-- The records are told, and stand in the variable: what is kept from there on. -/
theorem stk_start {w0 w5 WA w7 W8 : World} {base r size mv me mn LN : Nat} {D : Dsk} {O F : Foot} {M : Nat × List Int} {L : List (List Int)} {ma mc za zc} (d5 : DskIs w5 base O r D) (n : D.n = 10) (sz : D.size = size) (b5 : Below base w0 w5) (gA : Below w5.heap.size w5 WA) (g7 : Below WA.heap.size WA w7) (hmm : mv < WA.heap.size ∧ w5.heap.size ≤ mv) (h8 : w7.setCell ⟨mv, 2, none⟩ (.slice za LN zc) = W8)
    (v1 : Var3 WA mv (.int .u64 (me : Int)) (.slice ma mn mc) (.slice none 0 0)) (ha : ArgB WA (.slice ma mn mc) M.2 ∧ (M.2 ≠ [] → ∀ j, (Value.slice ma mn mc).ownBlock = some j → j ≠ mv ∧ w5.heap.size ≤ j ∧ j < WA.heap.size)) (hm1 : M.1 ≤ 18446744073709551615) (hme : M.1 = me) (hmn : M.2.length = mn) (hl : LLF w7 base F (.slice za LN zc) L) (hF : ∀ i, F i → WA.heap.size ≤ i ∧ i < w7.heap.size) :
    KD w0 W8 base r 10 size D (fun i => i < W8.heap.size ∧ ¬ O i) ∧ StK W8 base mv M L (.int .u64 (me : Int)) (.slice ma mn mc) (.slice za LN zc) (fun i => i < W8.heap.size ∧ ¬ O i) := by
  have hel : ∀ i, i ≠ mv → W8.heap[i]? = w7.heap[i]? := fun i hi => by rw [← h8]; exact set_else _ _ _ _ i hi
  have hsz : W8.heap.size = w7.heap.size := by rw [← h8]; simp
  have s5 := gA.size
  have s7 := g7.size
  have hlo : base ≤ w5.heap.size := by have := d5.own r d5.mem; omega
  have b7 : Below w5.heap.size w5 W8 := by rw [← h8]; exact (below_step gA g7).setCell (p := ⟨mv, 2, none⟩) hmm.2 _
  have hO : ∀ i, O i → i < w5.heap.size := fun i hi => (d5.own i hi).2
  refine ⟨kd_start (d5.after b7) n sz (b5.trans (b7.mono hlo)), ?_, ⟨hm1, ma, mc, by rw [hme, hmn], ?_, ?_⟩, ?_, ⟨by omega, fun q => by have := hO mv q; omega⟩⟩
  · rw [← h8]; exact var3_last (v1.after g7) _
  · rw [hmn]
    exact (ha.1.below g7).stay (fun hn j hj => hel j (ha.2 hn j hj).1)
  · rw [hmn]
    intro hn j hj
    obtain ⟨_, q2, q3⟩ := ha.2 hn j hj
    exact ⟨by omega, fun q => by have := hO j q; omega⟩
  · have hkw : OnlyO base (fun i => i = mv) w7 W8 := ⟨by rw [← h8]; exact (Below.refl base w7).setCell (p := ⟨mv, 2, none⟩) (Nat.le_trans hlo hmm.2) _, fun i _ hi => hel i hi⟩
    exact (hl.only hkw (fun i hi e => by have := (hF i hi).1; omega) (fun i e => by omega)).weak (fun i hi => ⟨by have := (hF i hi).2; omega, fun q => by have := hO i q; have := (hF i hi).1; omega⟩)
/-- A new variable of three cells, of which nothing lies behind them. -/
theorem cells_end3 (W : World) (x y z : Value) (t : TypeId) : ∀ i, 3 ≤ i → (W.alloc (.cells #[x, y, z] t)).cell? ⟨W.heap.size, i, none⟩ = none := fun i hi => by
  obtain ⟨k, rfl⟩ : ∃ k, i = k + 3 := ⟨i - 3, by omega⟩
  simp [go_sem]
theorem bytes_else3 {W : World} {v : Value} {b : List Int} {g : Nat} {x : Int} {a a2 : Option Addr} {n c n2 c2 : Nat} (h : ArgB W v b) (hne : b ≠ []) {j : Nat} (hj : v.ownBlock = some j) (hg : Var3 W g (.int .u64 x) (.slice a n c) (.slice a2 n2 c2)) (hz : ∀ i, 3 ≤ i → W.cell? ⟨g, i, none⟩ = none) : j ≠ g := by
  rintro rfl
  rcases h with ⟨_, h⟩ | ⟨y, cap, rfl, hc, hcell⟩
  · exact hne h
  · have hl : 0 < b.length := List.length_pos_iff.mpr hne
    obtain ⟨bb, off, rfl, h2⟩ := arg_addr hcell hl
    have hbb : bb = j := Option.some.inj hj
    subst hbb
    have q := h2 0 hl
    rw [Nat.add_zero] at q
    have h4 : off = 0 ∨ off = 1 ∨ off = 2 ∨ 3 ≤ off := by omega
    rcases h4 with rfl | rfl | rfl | ho
    · rw [hg.c0] at q; cases q
    · rw [hg.c1] at q; cases q
    · rw [hg.c2] at q; cases q
    · rw [hz off ho] at q; cases q

end Go.Proofs.YtejelednnacnaaaGreatDoor
