/-
  WalPlays: a disk, a log on it, and the document's log, beside each other; what each call makes of them.
-/
import Derived.Test.YtokngnpopnfkhaaDoorPkWalF
import Derived.Test.YtokngnpopnfkhaaDoorPkWalS
namespace Go.Proofs.YtokngnpopnfkhaaDoor
open Go.RowKit

/-- A disk with a clean region, and the document's log: Lp the program's records, Lr the document's. -/
structure DRO (w0 w : World) (base r m N size f k : Nat) (Z : List Int) (Lp Lr : List (List Int)) (D : Dsk) (O F : Foot) : Prop where
  d : DskIs w base O r D
  l : RLog w base F m Lr (k * size)
  a : Aside F m O
  nf : NFd N size D
  ws : D.waits = []
  ok : RecOk Lp (k * size)
  rg : regnL (f * size) (k * size) D.last = textL Lp (k * size)
  bs : Beside (f * size) (k * size) Z D.last
  bel : Below base w0 w
  k1 : 1 ≤ k
  on : f + k ≤ N
theorem DRO.lo {w0 w : World} {base r m N size f k : Nat} {Z : List Int} {Lp Lr : List (List Int)} {D : Dsk} {O F : Foot} (h : DRO w0 w base r m N size f k Z Lp Lr D O F) : base ≤ w.heap.size := by
  have := h.d.own r h.d.mem
  omega
theorem DRO.most {w0 w : World} {base r m N size f k : Nat} {Z : List Int} {Lp Lr : List (List Int)} {D : Dsk} {O F : Foot} (h : DRO w0 w base r m N size f k Z Lp Lr D O F) : k * size ≤ 204800 := reg_most h.d.ok h.nf h.on
theorem DRO.after {w0 w w' : World} {base r m N size f k : Nat} {Z : List Int} {Lp Lr : List (List Int)} {D : Dsk} {O F : Foot} (h : DRO w0 w base r m N size f k Z Lp Lr D O F) (g : Below w.heap.size w w') : DRO w0 w' base r m N size f k Z Lp Lr D O F :=
  ⟨h.d.after g, h.l.after g, h.a, h.nf, h.ws, h.ok, h.rg, h.bs, h.bel.trans (g.mono h.lo), h.k1, h.on⟩
/-- With a log. -/
structure TRO (w0 w : World) (base r m N size f k : Nat) (Z : List Int) (Lp Lr : List (List Int)) (D : Dsk) (gb : Nat) (O F OG : Foot) : Prop where
  dr : DRO w0 w base r m N size f k Z Lp Lr D O F
  g : LogIs w base OG gb r ⟨f, k, size, usedL Lp, false⟩
  dis : ∀ i, O i → ¬ OG i
  ag : Aside F m OG
theorem TRO.after {w0 w w' : World} {base r m N size f k : Nat} {Z : List Int} {Lp Lr : List (List Int)} {D : Dsk} {gb : Nat} {O F OG : Foot} (h : TRO w0 w base r m N size f k Z Lp Lr D gb O F OG) (g : Below w.heap.size w w') : TRO w0 w' base r m N size f k Z Lp Lr D gb O F OG :=
  ⟨h.dr.after g, h.g.after g, h.dis, h.ag⟩
theorem TRO.lon {w0 w : World} {base r m N size f k : Nat} {Z : List Int} {Lp Lr : List (List Int)} {D : Dsk} {gb : Nat} {O F OG : Foot} (h : TRO w0 w base r m N size f k Z Lp Lr D gb O F OG) : LogOn D ⟨f, k, size, usedL Lp, false⟩ Lp :=
  ⟨h.dr.k1, by show f + k ≤ D.n; rw [h.dr.nf.n]; exact h.dr.on, h.dr.nf.size.symm, rfl, rfl, h.dr.ok, h.dr.rg, h.dr.nf.dark, h.dr.ws⟩
def TR (w0 w : World) (base r m N size f k : Nat) (Z : List Int) (Lp Lr : List (List Int)) (D : Dsk) (gb : Nat) : Prop := ∃ O F OG, TRO w0 w base r m N size f k Z Lp Lr D gb O F OG
def DR (w0 w : World) (base r m N size f k : Nat) (Z : List Int) (Lp Lr : List (List Int)) (D : Dsk) : Prop := ∃ O F, DRO w0 w base r m N size f k Z Lp Lr D O F
theorem TR.dr {w0 w : World} {base r m N size f k : Nat} {Z : List Int} {Lp Lr : List (List Int)} {D : Dsk} {gb : Nat} (h : TR w0 w base r m N size f k Z Lp Lr D gb) : DR w0 w base r m N size f k Z Lp Lr D := by
  obtain ⟨O, F, _, h⟩ := h
  exact ⟨O, F, h.dr⟩
theorem TR.after {w0 w w' : World} {base r m N size f k : Nat} {Z : List Int} {Lp Lr : List (List Int)} {D : Dsk} {gb : Nat} (h : TR w0 w base r m N size f k Z Lp Lr D gb) (g : Below w.heap.size w w') : TR w0 w' base r m N size f k Z Lp Lr D gb := by
  obtain ⟨O, F, OG, h⟩ := h
  exact ⟨O, F, OG, h.after g⟩
theorem DR.after {w0 w w' : World} {base r m N size f k : Nat} {Z : List Int} {Lp Lr : List (List Int)} {D : Dsk} (h : DR w0 w base r m N size f k Z Lp Lr D) (g : Below w.heap.size w w') : DR w0 w' base r m N size f k Z Lp Lr D := by
  obtain ⟨O, F, h⟩ := h
  exact ⟨O, F, h.after g⟩
theorem DR.bel {w0 w : World} {base r m N size f k : Nat} {Z : List Int} {Lp Lr : List (List Int)} {D : Dsk} (h : DR w0 w base r m N size f k Z Lp Lr D) : Below base w0 w := by
  obtain ⟨O, F, h⟩ := h
  exact h.bel
/-- The document's log's cell. -/
theorem DR.cell {w0 w : World} {base r m N size f k : Nat} {Z : List Int} {Lp Lr : List (List Int)} {D : Dsk} (h : DR w0 w base r m N size f k Z Lp Lr D) : ∃ a c, w.cell? ⟨m, 0, none⟩ = some (.slice a Lr.length c) ∧ w.frozen? ⟨m, 0, none⟩ = false ∧ ArgLL w (.slice a Lr.length c) Lr := by
  obtain ⟨O, F, h⟩ := h
  obtain ⟨v, c0, hl⟩ := h.l.ex
  obtain ⟨a, c, rfl⟩ := hl.size
  exact ⟨a, c, c0, h.l.q 0, hl.argLL⟩
/-- One more, in the program's log. -/
theorem tr_append {w0 w : World} {base r m N size f k : Nat} {Z : List Int} {L Lr : List (List Int)} {D : Dsk} {gb : Nat} (h : TR w0 w base r m N size f k Z L Lr D gb) (env : Env w) (v : Value) (b : List Int) (hv : ArgB w v b) (hb : ∀ z ∈ b, 0 ≤ z ∧ z ≤ 255) (hy : b ≠ [] → ∀ i, v.ownBlock = some i → i < base) (hd : D.deeds ≤ 900000) (hf : usedL L + b.length + 10 ≤ k * size) :
    Calls Tryd.prog 13 #[.pointer (some ⟨gb, 0, none⟩), v] w fun e w' => e = .returned (.int .i64 0) ∧ ∃ D', TR w0 w' base r m N size f k Z (L ++ [b]) Lr D' gb ∧ D'.deeds ≤ D.deeds + 1000 := by
  obtain ⟨O, F, OG, h⟩ := h
  refine (wappend_nf base O OG r gb N size D ⟨f, k, size, usedL L, false⟩ L v b w env h.dr.d h.g h.dis h.lon hd h.dr.nf hv hb (fun hn i hi => ⟨fun ho => by have := (h.dr.d.own i ho).1; have := hy hn i hi; omega, fun ho => by have := (h.g.own i ho).1; have := hy hn i hi; omega⟩) hf).mono ?_
  rintro e w' ⟨D', O', OG', rfl, n', de', d', g', on', bs', dis', o', gr'⟩
  have hO : ∀ i, (O i ∨ OG i) → base ≤ i := fun i hi => by
    rcases hi with hi | hi
    · exact (h.dr.d.own i hi).1
    · exact (h.g.own i hi).1
  have ha : Aside F m (fun i => O i ∨ OG i) := ⟨fun i hi hx => by rcases hx with hx | hx; exact h.dr.a.f i hi hx; exact h.ag.f i hi hx, fun hx => by rcases hx with hx | hx; exact h.dr.a.m hx; exact h.ag.m hx⟩
  obtain ⟨l', a'⟩ := aside_step h.dr.l ha hO o' gr'
  have hu : usedL (L ++ [b]) = usedL L + b.length + 10 := used_more L b
  refine ⟨rfl, D', ⟨O', F, OG', ⟨d', l', ⟨fun i hi hx => a'.f i hi (Or.inl hx), fun hx => a'.m (Or.inl hx)⟩, n', on'.ws, on'.ok, on'.reg, h.dr.bs.trans bs', h.dr.bel.trans o'.bel, h.dr.k1, h.dr.on⟩, by rw [hu]; exact g', dis', ⟨fun i hi hx => a'.f i hi (Or.inr hx), fun hx => a'.m (Or.inr hx)⟩⟩, de'⟩
/-- One more, in the document's. -/
theorem tr_rapp {w0 w : World} {base r m N size f k : Nat} {Z : List Int} {Lp L : List (List Int)} {D : Dsk} {gb : Nat} (h : TR w0 w base r m N size f k Z Lp L D gb) (v : Value) (b : List Int) (hv : ArgB w v b) (hy : b ≠ [] → ∀ i, v.ownBlock = some i → i < base) (hf : usedL L + b.length + 10 ≤ k * size) :
    Calls Tryd.prog 14 #[.pointer (some ⟨m, 0, none⟩), v] w fun e w' => e = .returned (.int .i64 0) ∧ TR w0 w' base r m N size f k Z Lp (L ++ [b]) D gb := by
  obtain ⟨O, F, OG, h⟩ := h
  refine (rapp_done base F m L (k * size) v b w h.dr.l hv (fun hn i hi hx => by have := (h.dr.l.own i hx).1; have := hy hn i hi; omega) h.dr.lo hf (by have := h.dr.most; omega)).mono ?_
  rintro e w' ⟨rfl, l', o'⟩
  have hn : ∀ i, O i → ¬ (F i ∨ i = m) := fun i hi hx => by
    rcases hx with hx | rfl
    · exact h.dr.a.f i hx hi
    · exact h.dr.a.m hi
  have hn2 : ∀ i, OG i → ¬ (F i ∨ i = m) := fun i hi hx => by
    rcases hx with hx | rfl
    · exact h.ag.f i hx hi
    · exact h.ag.m hi
  refine ⟨rfl, O, _, OG, ⟨h.dr.d.kept (fun i hi => o'.keep i (h.dr.d.own i hi).2 (hn i hi)) o'.size, l', ⟨fun i hi hx => ?_, h.dr.a.m⟩, h.dr.nf, h.dr.ws, h.dr.ok, h.dr.rg, h.dr.bs, h.dr.bel.trans o'.bel, h.dr.k1, h.dr.on⟩, h.g.kept (fun i hi => o'.keep i (h.g.own i hi).2 (hn2 i hi)) o'.size, h.dis, ⟨fun i hi hx => ?_, h.ag.m⟩⟩
  · rcases hi with hi | hi
    · exact h.dr.a.f i hi hx
    · have := (h.dr.d.own i hx).2; omega
  · rcases hi with hi | hi
    · exact h.ag.f i hi hx
    · have := (h.g.own i hx).2; omega
/-- Refused by both. -/
theorem tr_append_full {w0 w : World} {base r m N size f k : Nat} {Z : List Int} {L Lr : List (List Int)} {D : Dsk} {gb : Nat} (h : TR w0 w base r m N size f k Z L Lr D gb) (env : Env w) (v : Value) (b : List Int) (hv : ArgB w v b) (hl : b.length ≤ 2000) (hf : ¬ usedL L + b.length + 10 ≤ k * size) :
    Calls Tryd.prog 13 #[.pointer (some ⟨gb, 0, none⟩), v] w fun e w' => e = .returned (.int .i64 11) ∧ Below w.heap.size w w' := by
  obtain ⟨O, F, OG, h⟩ := h
  exact wappend_full base O OG r gb D ⟨f, k, size, usedL L, false⟩ L v b w env h.dr.d h.g h.lon hv (by omega) (by show k * size < usedL L + b.length + 10; omega)
theorem tr_rapp_full {w0 w : World} {base r m N size f k : Nat} {Z : List Int} {L : List (List Int)} {D : Dsk} {gb : Nat} (h : TR w0 w base r m N size f k Z L L D gb) (v : Value) (b : List Int) (hv : ArgB w v b) (hl : b.length ≤ 2000) (hf : ¬ usedL L + b.length + 10 ≤ k * size) :
    Calls Tryd.prog 14 #[.pointer (some ⟨m, 0, none⟩), v] w fun e w' => e = .returned (.int .i64 11) ∧ Below w.heap.size w w' := by
  obtain ⟨O, F, OG, h⟩ := h
  exact rapp_full base F m L (k * size) v b w h.dr.l hv (by omega) h.dr.ok.used (by have := h.dr.most; omega) (by omega)
/-- The document's log, emptied. -/
theorem dr_nil {w0 w : World} {base r m N size f k : Nat} {Z : List Int} {Lp Lr : List (List Int)} {D : Dsk} (h : DR w0 w base r m N size f k Z Lp Lr D) : DR w0 (w.setCell ⟨m, 0, none⟩ (.slice none 0 0)) base r m N size f k Z Lp [] D := by
  obtain ⟨O, F, h⟩ := h
  have hbm := h.l.b
  obtain ⟨v, c0, hl⟩ := h.l.ex
  have c1 := h.l.c1
  have oset : OnlyO base (fun i => i = m) w (w.setCell ⟨m, 0, none⟩ (.slice none 0 0)) := (OnlyO.refl base (fun i => i = m) w).set rfl hbm 0 _
  refine ⟨O, F, h.d.kept (fun i hi => oset.keep i (h.d.own i hi).2 (fun e => h.a.m (e ▸ hi))) oset.size, ⟨⟨.slice none 0 0, by simp [go_sem, c0], LLF.nil _ _ _⟩, by simp [go_sem, c1], fun i => by rw [World.frozen?_setCell]; exact h.l.q i, by simpa using h.l.s, hbm, fun i hi => by simpa using h.l.own i hi⟩, h.a, h.nf, h.ws, h.ok, h.rg, h.bs, h.bel.trans oset.bel, h.k1, h.on⟩
/-- Format. -/
theorem dr_format {w0 w : World} {base r m N size f k : Nat} {Z : List Int} {Lp Lr : List (List Int)} {D : Dsk} (h : DR w0 w base r m N size f k Z Lp Lr D) (env : Env w) (hd : D.deeds ≤ 900000) :
    Calls Tryd.prog 10 #[.pointer (some ⟨r, 0, none⟩), .int .i64 (f : Int), .int .i64 (k : Int)] w fun e w' => e = .returned (.int .i64 0) ∧ ∃ D', DR w0 w' base r m N size f k Z [] Lr D' ∧ D'.deeds ≤ D.deeds + 1000 := by
  obtain ⟨O, F, h⟩ := h
  refine (wformat_nf base O r N size D f k (f : Int) (k : Int) rfl rfl w env h.d h.nf h.k1 h.on h.ws hd).mono ?_
  rintro e w' ⟨D', rfl, n', ws', de', la', O', d', o', gr'⟩
  obtain ⟨q1, q2⟩ := laid_reg (M := k * size) (by simp) (reg_fit h.d.ok h.nf h.on) la'
  obtain ⟨l', a'⟩ := aside_step h.l h.a (fun i hi => (h.d.own i hi).1) o' gr'
  exact ⟨rfl, D', ⟨O', F, d', l', a', n', ws', RecOk.nil _, by rw [text_nil]; exact q1, h.bs.trans q2, h.bel.trans o'.bel, h.k1, h.on⟩, de'⟩
/-- Open. -/
theorem dr_open {w0 w : World} {base r m N size f k : Nat} {Z : List Int} {Lp Lr : List (List Int)} {D : Dsk} (h : DR w0 w base r m N size f k Z Lp Lr D) (env : Env w) (hd : D.deeds ≤ 900000) :
    Calls Tryd.prog 12 #[.pointer (some ⟨r, 0, none⟩), .int .i64 (f : Int), .int .i64 (k : Int)] w fun e w' => ∃ gb a c, e = .returned (.tuple #[.pointer (some ⟨gb, 0, none⟩), .slice a Lp.length c, .int .i64 0]) ∧ TR w0 w' base r m N size f k Z Lp Lr D gb ∧ ArgLL w' (.slice a Lp.length c) Lp := by
  obtain ⟨O, F, h⟩ := h
  refine (wopen_nf base O r N size D f k (f : Int) (k : Int) rfl rfl Lp w env h.d h.nf h.k1 h.on h.ws hd h.ok h.rg).mono ?_
  rintro e w' ⟨O', gb, OG, OR, rv, rfl, d', o', gr', lg', ll', ds', dd'⟩
  obtain ⟨l', a'⟩ := aside_step h.l h.a (fun i hi => (h.d.own i hi).1) o' gr'
  obtain ⟨a, c, rfl⟩ := ll'.size
  refine ⟨gb, a, c, rfl, ⟨O', F, OG, ⟨d', l', a', h.nf, h.ws, h.ok, h.rg, h.bs, h.bel.trans o'.bel, h.k1, h.on⟩, lg'.base h.lo, fun i hi hg => dd' i hg hi, ⟨fun i hi hg => ?_, fun hg => ?_⟩⟩, ll'.argLL⟩
  · have q1 := (lg'.own i hg).1; have q2 := (h.l.own i hi).2.1; omega
  · have q1 := (lg'.own m hg).1; have q2 := h.l.s; omega
theorem tr_used {w0 w : World} {base r m N size f k : Nat} {Z : List Int} {Lp Lr : List (List Int)} {D : Dsk} {gb : Nat} (h : TR w0 w base r m N size f k Z Lp Lr D gb) : Calls Tryd.prog 17 #[.pointer (some ⟨gb, 0, none⟩)] w fun e w' => e = .returned (.int .i64 (usedL Lp : Int)) ∧ Below w.heap.size w w' := by
  obtain ⟨O, F, OG, h⟩ := h
  exact wused_any _ _ _ r _ _ h.g
theorem tr_room {w0 w : World} {base r m N size f k : Nat} {Z : List Int} {Lp Lr : List (List Int)} {D : Dsk} {gb : Nat} (h : TR w0 w base r m N size f k Z Lp Lr D gb) : Calls Tryd.prog 19 #[.pointer (some ⟨gb, 0, none⟩)] w fun e w' => e = .returned (.int .i64 ((k * size : Nat) - (usedL Lp : Nat) : Int)) ∧ Below w.heap.size w w' := by
  obtain ⟨O, F, OG, h⟩ := h
  exact wroom_any base O OG gb r D _ _ h.dr.d h.g h.dr.nf.size.symm h.dr.ok.used (by show f + k ≤ D.n; rw [h.dr.nf.n]; exact h.dr.on)
theorem tr_rused {w0 w : World} {base r m N size f k : Nat} {Z : List Int} {L : List (List Int)} {D : Dsk} {gb : Nat} (h : TR w0 w base r m N size f k Z L L D gb) : Calls Tryd.prog 18 #[.pointer (some ⟨m, 0, none⟩)] w fun e w' => e = .returned (.int .i64 (usedL L : Int)) ∧ w' = w := by
  obtain ⟨O, F, OG, h⟩ := h
  exact rused_any base F m L (k * size) w h.dr.l (by have q1 := h.dr.ok.used; have q2 := h.dr.most; omega)
theorem dr_deeds {w0 w : World} {base r m N size f k : Nat} {Z : List Int} {Lp Lr : List (List Int)} {D : Dsk} (h : DR w0 w base r m N size f k Z Lp Lr D) (hd : D.deeds ≤ 1000000) : Calls Tryd.prog 15 #[.pointer (some ⟨r, 0, none⟩)] w fun e w' => e = .returned (.int .i64 (D.deeds : Int)) ∧ Below w.heap.size w w' := by
  obtain ⟨O, F, h⟩ := h
  exact bdeeds_any _ _ _ _ _ h.d hd
theorem dr_waits {w0 w : World} {base r m N size f k : Nat} {Z : List Int} {Lp Lr : List (List Int)} {D : Dsk} (h : DR w0 w base r m N size f k Z Lp Lr D) (hd : D.deeds ≤ 1000000) : Calls Tryd.prog 20 #[.pointer (some ⟨r, 0, none⟩)] w fun e w' => e = .returned (.int .i64 0) ∧ Below w.heap.size w w' := by
  obtain ⟨O, F, h⟩ := h
  have q := bwaits_any _ _ _ _ _ h.d hd
  rw [h.ws] at q
  exact q
/-- All bytes, in the end. -/
theorem dr_all {w0 w : World} {base r m N size f k : Nat} {Z : List Int} {L : List (List Int)} {D : Dsk} (h : DR w0 w base r m N size f k Z L L D) (hd : D.deeds ≤ 1000000) :
    (Calls Tryd.prog 9 #[.pointer (some ⟨r, 0, none⟩)] w fun e w' => e = .returned (.string (strOfNums (Z.take (f * size)) ++ strOfNums (textL L (k * size)) ++ strOfNums (Z.drop (f * size + k * size)))) ∧ Below w.heap.size w w') ∧
    (Calls Tryd.prog 21 #[.pointer (some ⟨m, 0, none⟩)] w fun e w' => e = .returned (.string (strOfNums (textL L (k * size)))) ∧ Below w.heap.size w w') ∧
    (strOfNums (Z.take (f * size))).size + (strOfNums (textL L (k * size))).size + (strOfNums (Z.drop (f * size + k * size))).size ≤ 1000000 := by
  obtain ⟨O, F, h⟩ := h
  have q := beside_is h.bs _ h.rg
  have q1 := all_nf base O r D w h.d h.nf.dark h.ws hd
  refine ⟨?_, rtext_any base F m L (k * size) w h.l h.ok.used (by have := h.most; omega) h.ok.byte, ?_⟩
  · rw [q, ← strOfNums_append, ← strOfNums_append] at q1
    exact q1
  · have q2 := congrArg List.length q
    rw [List.length_append, List.length_append] at q2
    have q3 := h.d.ok.ll
    have q4 := h.d.ok.most
    rw [rw_str_len, rw_str_len, rw_str_len]
    omega

end Go.Proofs.YtokngnpopnfkhaaDoor
