/-
  WalLasts: while records are appended, behind it, and what one Append makes.
-/
import Derived.Test.YtokngnpopnfkhaaDoorPkWalF
import Derived.Test.YtokngnpopnfkhaaDoorPkBase
namespace Go.Proofs.YtokngnpopnfkhaaDoor
open Go.RowKit

/-- While records are appended. -/
def Run (w0 wr : World) (base r gb size : Nat) (v u : Value) (m : Nat) : Prop :=
  ∃ (O OG FH : Foot) (D : Dsk) (G : Lg) (rs : List (List Int)), DskIs wr base O r D ∧ LogIs wr base OG gb r G ∧ (∀ i, O i → ¬ OG i) ∧ LogOn D G rs ∧ D.n = 9 ∧ D.size = size ∧ G.from_ = 1 ∧ G.n = 7 ∧ D.deeds ≤ m ∧ LLF wr base FH v rs ∧ LLF wr base FH u rs ∧ (∀ i, FH i → base ≤ i ∧ i < wr.heap.size ∧ ¬ O i ∧ ¬ OG i) ∧ Below base w0 wr
/-- Behind it. -/
def Past (w0 wr : World) (base r size : Nat) (v13 v14 : Value) : Prop :=
  ∃ (O FH : Foot) (D : Dsk) (rs nx : List (List Int)), DskIs wr base O r D ∧ D.n = 9 ∧ D.size = size ∧ D.deeds ≤ 100000 ∧ LLF wr base FH v13 rs ∧ LLF wr base FH v14 nx ∧ (∀ i, FH i → base ≤ i ∧ i < wr.heap.size ∧ ¬ O i) ∧ RecOk rs (7 * size) ∧ RecOk nx (7 * size) ∧
    (∀ k t, (allL (regnL (1 * size) (7 * size) (D.left k t))).1 = rs ∨ (allL (regnL (1 * size) (7 * size) (D.left k t))).1 = nx) ∧ Below base w0 wr
theorem ActsW.below {w w' : World} {v : Value} {l : List ActW} (h : ActsW w v l) (hb : Below w.heap.size w w') : ActsW w' v l := by
  obtain ⟨a, cap, rfl, hc, hcell⟩ := h
  refine ⟨a, cap, rfl, hc, fun i hi => ?_⟩
  obtain ⟨b, off, bv, rfl, h0, h1, h2⟩ := hcell i hi
  have hlt := World.block_lt_of_cell? _ _ h0
  exact ⟨b, off, bv, rfl, (hb.cell (p := ⟨b, off + i * 2, none⟩) hlt).trans h0, (hb.cell (p := ⟨b, off + i * 2 + 1, none⟩) hlt).trans h1, h2.below hb⟩
theorem seven_most {size : Nat} (s1 : size ≤ 512) : 7 * size ≤ 3584 := by omega
/-- Nothing more is appended. -/
theorem Run.past {w0 wr : World} {base r gb size : Nat} {v u : Value} {m : Nat} (h : Run w0 wr base r gb size v u m) (hm : m ≤ 100000) : Past w0 wr base r size v u := by
  obtain ⟨O, OG, FH, D, G, rs, h1, h2, h3, h4, h5, h6, h7, h8, h9, h10, h10u, h11, h12⟩ := h
  have hs : G.size = size := h4.sz.trans h6
  have hok := h4.ok
  have hreg := h4.reg
  rw [h8, hs] at hok
  rw [h7, h8, hs] at hreg
  have q := h1.ok.s1
  refine ⟨O, FH, D, rs, rs, h1, h5, h6, by omega, h10, h10u, fun i hi => ⟨(h11 i hi).1, (h11 i hi).2.1, (h11 i hi).2.2.1⟩, hok, hok, fun k t => Or.inl ?_, h12⟩
  rw [left_none h4.ws, hreg]
  exact hok.all (by omega)
/-- At first. -/
theorem Run.start {w0 wr w1 w2 : World} {base r gb size : Nat} {O OG : Foot} {D : Dsk} (h1 : DskIs wr base O r D) (h2 : LogIs wr base OG gb r ⟨1, 7, size, usedL [], false⟩) (h3 : ∀ i, O i → ¬ OG i) (h4 : LogOn D ⟨1, 7, size, usedL [], false⟩ []) (h5 : D.n = 9) (h6 : D.size = size) (h9 : D.deeds ≤ 5000) (h12 : Below base w0 wr) (hbase : base ≤ wr.heap.size)
    (e1 : wr.alloc (.cells #[] 38) = w1) (e2 : w1.alloc (.cells #[] 38) = w2) : Run w0 w2 base r gb size (.slice (some ⟨wr.heap.size, 0, none⟩) 0 0) (.slice (some ⟨w1.heap.size, 0, none⟩) 0 0) 5000 := by
  have b1 : Below wr.heap.size wr w1 := by rw [← e1]; exact (Below.refl _ _).alloc (Nat.le_refl _) _
  have b2 : Below w1.heap.size w1 w2 := by rw [← e2]; exact (Below.refl _ _).alloc (Nat.le_refl _) _
  have s1 : w1.heap.size = wr.heap.size + 1 := by rw [← e1]; simp
  have s2 : w2.heap.size = wr.heap.size + 2 := by rw [← e2, ← e1]; simp
  have b3 : Below wr.heap.size wr w2 := b1.trans (b2.mono b1.size)
  refine ⟨O, OG, fun i => wr.heap.size ≤ i ∧ i < w2.heap.size, D, _, [], h1.after b3, h2.after b3, h3, h4, h5, h6, rfl, rfl, h9, ?_, ?_, fun i hi => ⟨by omega, hi.2, fun hx => by have := (h1.own i hx).2; omega, fun hx => by have := (h2.own i hx).2; omega⟩, h12.trans (b3.mono hbase)⟩
  · have q : OwnRow 38 w1 base (.slice (some ⟨wr.heap.size, 0, none⟩) 0 0) [] := by rw [← e1]; exact OwnRow.fresh 38 wr base _ rfl hbase
    refine ⟨[], (q.below b2).rowN, rfl, fun b hb => ?_, fun i hi => by cases hi⟩
    cases hb
    exact ⟨Nat.le_refl _, by show wr.heap.size < _; omega⟩
  · have q : OwnRow 38 w2 base (.slice (some ⟨w1.heap.size, 0, none⟩) 0 0) [] := by rw [← e2]; exact OwnRow.fresh 38 w1 base _ rfl (by omega)
    refine ⟨[], q.rowN, rfl, fun b hb => ?_, fun i hi => by cases hi⟩
    cases hb
    exact ⟨by show wr.heap.size ≤ w1.heap.size; omega, by show w1.heap.size < _; omega⟩
/-- One was refused: nothing has changed but for new memory. -/
theorem Run.full {w0 wr w' : World} {base r gb size : Nat} {v u : Value} {m : Nat} (h : Run w0 wr base r gb size v u m) (hb : Below wr.heap.size wr w') (hs : base ≤ wr.heap.size) : Run w0 w' base r gb size v v (m + 1000) := by
  obtain ⟨O, OG, FH, D, G, rs, h1, h2, h3, h4, h5, h6, h7, h8, h9, h10, _, h11, h12⟩ := h
  exact ⟨O, OG, FH, D, G, rs, h1.after hb, h2.after hb, h3, h4, h5, h6, h7, h8, by omega, h10.after hb, h10.after hb, fun i hi => ⟨(h11 i hi).1, Nat.lt_of_lt_of_le (h11 i hi).2.1 hb.size, (h11 i hi).2.2⟩, h12.trans (hb.mono hs)⟩
/-- What Append made, and With behind it. -/
structure Put (w0 wa wb : World) (base r gb size : Nat) (rs : List (List Int)) (b : List Int) (FH : Foot) (v13 : Value) (c : Int) (D D' : Dsk) (O' OG' : Foot) (G : Lg) (v14 : Value) (F2 : Foot) : Prop where
  d : DskIs wb base O' r D'
  g : LogIs wb base OG' gb r { G with used := if c = 0 then G.used + b.length + 10 else G.used, down := decide (c = 12) }
  dis : ∀ i, O' i → ¬ OG' i
  h13 : LLF wb base F2 v13 rs
  h14 : LLF wb base F2 v14 (rs ++ [b])
  f2 : ∀ i, F2 i → base ≤ i ∧ i < wb.heap.size ∧ ¬ O' i ∧ ¬ OG' i
  bel : Below base w0 wb
theorem put_mk {w0 wr wa wb : World} {base r gb size : Nat} {rs : List (List Int)} {b : List Int} {O OG FH : Foot} {v13 : Value} {c : Int} {D D' : Dsk} {O' OG' : Foot} {G : Lg} {v14 : Value} (hO : ∀ i, O i → base ≤ i ∧ i < wr.heap.size) (hOG : ∀ i, OG i → base ≤ i ∧ i < wr.heap.size) (hll : LLF wr base FH v13 rs) (hfh : ∀ i, FH i → base ≤ i ∧ i < wr.heap.size ∧ ¬ O i ∧ ¬ OG i) (hb0 : Below base w0 wr)
    (hd : DskIs wa base O' r D') (hg : LogIs wa base OG' gb r { G with used := if c = 0 then G.used + b.length + 10 else G.used, down := decide (c = 12) }) (hdis : ∀ i, O' i → ¬ OG' i) (ho : OnlyO base (fun i => O i ∨ OG i) wr wa) (hgr : Grown (fun i => O i ∨ OG i) (fun i => O' i ∨ OG' i) wr.heap.size)
    (h14 : LLF wb base (fun i => FH i ∨ (wa.heap.size ≤ i ∧ i < wb.heap.size)) v14 (rs ++ [b])) (hbb : Below wa.heap.size wa wb) (hbase : base ≤ wr.heap.size) : Put w0 wa wb base r gb size rs b FH v13 c D D' O' OG' G v14 (fun i => FH i ∨ (wa.heap.size ≤ i ∧ i < wb.heap.size)) := by
  have s1 := ho.size
  have s2 := hbb.size
  have hll2 : LLF wa base FH v13 rs := hll.only ho (fun i hi hx => by rcases hx with hx | hx; exact (hfh i hi).2.2.1 hx; exact (hfh i hi).2.2.2 hx) (fun i hx => by rcases hx with hx | hx; exact (hO i hx).1; exact (hOG i hx).1)
  have hlt : ∀ i, (O' i ∨ OG' i) → i < wa.heap.size := fun i hi => by
    rcases hi with hi | hi
    · exact (hd.own i hi).2
    · exact (hg.own i hi).2
  have hno : ∀ i, FH i → ¬ (O' i ∨ OG' i) := fun i hi hx => by
    rcases hgr i hx with hx | hx
    · rcases hx with hx | hx
      · exact (hfh i hi).2.2.1 hx
      · exact (hfh i hi).2.2.2 hx
    · have := (hfh i hi).2.1; omega
  refine ⟨hd.after hbb, hg.after hbb, hdis, (hll2.after hbb).weak (fun i hi => Or.inl hi), h14, fun i hi => ?_, (hb0.trans ho.bel).trans (hbb.mono (Nat.le_trans hbase s1))⟩
  rcases hi with hi | hi
  · have := hfh i hi
    exact ⟨this.1, by omega, fun hx => hno i hi (Or.inl hx), fun hx => hno i hi (Or.inr hx)⟩
  · exact ⟨by omega, hi.2, fun hx => by have := hlt i (Or.inl hx); omega, fun hx => by have := hlt i (Or.inr hx); omega⟩
/-- It was done. -/
theorem Put.run {w0 wa wb : World} {base r gb size : Nat} {rs : List (List Int)} {b : List Int} {FH : Foot} {v13 : Value} {D D' : Dsk} {O' OG' : Foot} {G : Lg} {v14 : Value} {F2 : Foot} (h : Put w0 wa wb base r gb size rs b FH v13 0 D D' O' OG' G v14 F2) (on : LogOn D G rs) (ok : D.Ok) (hout : StepD D D' ∧ DoneD D D' (G.from_ * G.size) (textL (rs ++ [b]) (G.n * G.size)))
    (hb : ∀ z ∈ b, 0 ≤ z ∧ z ≤ 255) (hf : G.used + b.length + 10 ≤ G.n * G.size) (h5 : D.n = 9) (h6 : D.size = size) (h7 : G.from_ = 1) (h8 : G.n = 7) {m : Nat} (h9 : D.deeds ≤ m) : Run w0 wb base r gb size v14 v14 (m + 1000) := by
  obtain ⟨k1, k2⟩ := logon_more on ok hout.1 hout.2 hb hf
  have e1 : ({ G with used := if (0 : Int) = 0 then G.used + b.length + 10 else G.used, down := decide ((0 : Int) = 12) } : Lg) = { G with used := G.used + b.length + 10 } := by
    rw [if_pos rfl, show decide ((0 : Int) = 12) = false from rfl, ← on.up]
  have hg := h.g
  rw [e1] at hg
  exact ⟨O', OG', F2, D', _, _, h.d, hg, h.dis, k1, hout.1.n.trans h5, hout.1.size.trans h6, h7, h8, by have := hout.1.hi; omega, h.h14, h.h14, h.f2, h.bel⟩
/-- It went dark. -/
theorem Put.past {w0 wa wb : World} {base r gb size : Nat} {rs : List (List Int)} {b : List Int} {FH : Foot} {v13 : Value} {c : Int} {D D' : Dsk} {O' OG' : Foot} {G : Lg} {v14 : Value} {F2 : Foot} (h : Put w0 wa wb base r gb size rs b FH v13 c D D' O' OG' G v14 F2) (on : LogOn D G rs) (hst : StepD D D') (hout : DarkD D D' (G.from_ * G.size) (G.n * G.size) fun x => (allL x).1 = rs ∨ (allL x).1 = rs ++ [b])
    (hb : ∀ z ∈ b, 0 ≤ z ∧ z ≤ 255) (hf : G.used + b.length + 10 ≤ G.n * G.size) (h5 : D.n = 9) (h6 : D.size = size) (h7 : G.from_ = 1) (h8 : G.n = 7) (h9 : D.deeds ≤ 90000) : Past w0 wb base r size v13 v14 := by
  have hs : G.size = size := on.sz.trans h6
  have hok := on.ok
  have hl := hout.left
  have hus := on.us
  rw [h8, hs] at hok hf
  rw [h7, h8, hs] at hl
  exact ⟨O', F2, D', rs, rs ++ [b], h.d, hst.n.trans h5, hst.size.trans h6, by have := hst.hi; omega, h.h13, h.h14, fun i hi => ⟨(h.f2 i hi).1, (h.f2 i hi).2.1, (h.f2 i hi).2.2.1⟩, hok, hok.more hb (by omega), fun k t => (hl k t).2, h.bel⟩
/-- What stands there in the end. -/
def Fin (w0 w : World) (base r size m : Nat) : Prop :=
  ∃ (O F : Foot) (D : Dsk) (L : List (List Int)), DskIs w base O r D ∧ NFd 9 size D ∧ D.waits = [] ∧ D.deeds ≤ 400000 ∧ RecOk L (7 * size) ∧ regnL (1 * size) (7 * size) D.last = textL L (7 * size) ∧ RLog w base F m L (7 * size) ∧ Aside F m O ∧ Below base w0 w
theorem rlog_new {w : World} {base : Nat} {F : Foot} {v : Value} {L : List (List Int)} {all : Nat} {za : Int} (ea : za = (all : Int)) (h : LLF w base F v L) (hF : ∀ i, F i → base ≤ i ∧ i < w.heap.size) (hb : base ≤ w.heap.size) : RLog (w.alloc (.cells #[v, .int .i64 za] 37)) base F w.heap.size L all := by
  subst ea
  have hbx : Below w.heap.size w (w.alloc (.cells #[v, .int .i64 (all : Int)] 37)) := (Below.refl _ _).alloc (Nat.le_refl _) _
  refine ⟨⟨v, by rw [World.cell?_alloc_new]; rfl, h.after hbx⟩, by rw [World.cell?_alloc_new]; rfl, fun i => by simp [go_sem], by simp, hb, fun i hi => ⟨(hF i hi).1, by have := (hF i hi).2; simp; omega, by have := (hF i hi).2; omega⟩⟩
/-- It was refused. -/
theorem fin_full {w0 w w' : World} {base r size m : Nat} {O F : Foot} {D : Dsk} {L : List (List Int)} (hd : DskIs w base O r D) (n : NFd 9 size D) (ws : D.waits = []) (de : D.deeds ≤ 300000) (ok : RecOk L (7 * size)) (rg : regnL (1 * size) (7 * size) D.last = textL L (7 * size)) (rl : RLog w base F m L (7 * size)) (hF : ∀ i, F i → ¬ O i) (hm : ¬ O m) (hb : Below base w0 w) (hs : base ≤ w.heap.size) (g : Below w.heap.size w w') : Fin w0 w' base r size m :=
  ⟨O, F, D, L, hd.after g, n, ws, by omega, ok, rg, rl.after g, ⟨hF, hm⟩, hb.trans (g.mono hs)⟩
/-- It was done: w ahead, wa behind the log's own, wb with the document's log, wc behind its call. -/
theorem fin_done {w0 w wa wb wc : World} {base r size m : Nat} {O OG OR O' OG' : Foot} {D' : Dsk} {G : Lg} {L : List (List Int)} {b : List Int} (er : ∀ i, OR i → i < w.heap.size ∧ ¬ O i ∧ ¬ OG i)
    (n : NFd 9 size D') (de : D'.deeds ≤ 400000) (hd : DskIs wa base O' r D') (on : LogOn D' { G with used := G.used + b.length + 10 } (L ++ [b])) (h7 : G.from_ = 1) (h8 : G.n = 7) (hs : G.size = size) (ho : OnlyO base (fun i => O i ∨ OG i) w wa) (hgr : Grown (fun i => O i ∨ OG i) (fun i => O' i ∨ OG' i) w.heap.size)
    (em : m = wa.heap.size) (hbx : Below wa.heap.size wa wb) (hsz : wb.heap.size = wa.heap.size + 1) (rl : RLog wc base (fun i => OR i ∨ (wb.heap.size ≤ i ∧ i < wc.heap.size)) m (L ++ [b]) (7 * size)) (ob : OnlyO base (fun i => OR i ∨ i = m) wb wc) (hb : Below base w0 w) (hbase : base ≤ w.heap.size) : Fin w0 wc base r size m := by
  have hok := on.ok
  have hrg := on.reg
  simp only [h7, h8, hs] at hok hrg
  have s1 := ho.size
  have hO' : ∀ i, O' i → i < wa.heap.size := fun i hi => (hd.own i hi).2
  have hno : ∀ i, OR i → ¬ O' i := fun i hi hx => by
    rcases hgr i (Or.inl hx) with hx | hx
    · rcases hx with hx | hx
      · exact (er i hi).2.1 hx
      · exact (er i hi).2.2 hx
    · have := (er i hi).1; omega
  refine ⟨O', _, D', L ++ [b], (hd.after hbx).kept (fun i hi => ob.keep i (by have := hO' i hi; omega) (fun hx => ?_)) ob.size, n, on.ws, de, hok, hrg, rl, ⟨fun i hi hx => ?_, fun hx => by have := hO' m hx; omega⟩, ((hb.trans ho.bel).trans (hbx.mono (Nat.le_trans hbase s1))).trans ob.bel⟩
  · rcases hx with hx | hx
    · exact hno i hx hi
    · have := hO' i hi; omega
  · rcases hi with hi | hi
    · exact hno i hi hx
    · have := hO' i hx; omega

end Go.Proofs.YtokngnpopnfkhaaDoor
