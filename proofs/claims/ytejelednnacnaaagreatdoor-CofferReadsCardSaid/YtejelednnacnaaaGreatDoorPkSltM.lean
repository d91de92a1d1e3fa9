/-
  Package slots as it landed: a snapshot's frame, put into its slot; Put: walked.
-/
import Derived.Test.YtejelednnacnaaaGreatDoorPkSltL
namespace Go.Proofs.YtejelednnacnaaaGreatDoor
open Go.RowKit

theorem concat_pair (v u : Value) (l m : List Int) (w : World) (g : Nat) (t : TypeId) (hg : g = w.heap.size) (hv : ArgB w v l) (hu : ArgB w u m) (h0 : 0 < l.length) (hl : l.length ≤ 1000000) (hm : m.length ≤ 1000000) :
    Calls Tryz.prog 85 #[.slice (some ⟨g, 0, none⟩) 2 2] (w.alloc (.cells #[v, u] t)) fun e w' => ∃ x, e = .returned x ∧ OwnInts 5 .u8 w' w.heap.size x (l ++ m) ∧ Below w.heap.size w w' := by
  have hf : [l, m].flatten = l ++ m := by simp
  refine (concat_any _ [l, m] _ (ArgLL.pair hv hu t g hg) (by rw [hf, List.length_append]; omega) (by rw [hf, List.length_append]; omega) (by simp)).mono ?_
  rintro e w' ⟨x, rfl, hO, hB⟩
  rw [hf] at hO
  exact ⟨x, rfl, hO.older (by simp), below_step ((Below.refl _ _).alloc (Nat.le_refl _) _) hB⟩
/-- Values that come up, and a list of bytes, of number 2. -/
def TB2 (l : List Value) (b : List Int) : Nat → Value → World → Prop
  | 2, v, w => ArgB w v b
  | k, v, _ => v = l.getD k undef
theorem TB2.keep {l : List Value} {b : List Int} (i : Nat) (v : Value) (w w' : World) (h : TB2 l b i v w) (hb : Below w.heap.size w w') : TB2 l b i v w' := by
  unfold TB2 at h ⊢
  split at h
  · exact h.below hb
  · exact h
/-- Values that come up, and a list of bytes in new memory, of number 3. -/
def TF3 (l : List Value) (B : Nat) (b : List Int) : Nat → Value → World → Prop
  | 3, v, w => ArgB w v b ∧ ∀ j, v.ownBlock = some j → B ≤ j
  | k, v, _ => v = l.getD k undef
theorem TF3.keep {l : List Value} {B : Nat} {b : List Int} (i : Nat) (v : Value) (w w' : World) (h : TF3 l B b i v w) (hb : Below w.heap.size w w') : TF3 l B b i v w' := by
  unfold TF3 at h ⊢
  split at h
  · exact ⟨h.1.below hb, h.2⟩
  · exact h
/-- Values that come up, and bytes of 0 in new memory, of number 4. -/
def TZ4 (l : List Value) (B N : Nat) : Nat → Value → World → Prop
  | 4, v, w => ∃ g, v = .slice (some ⟨g, 0, none⟩) N N ∧ RowB w g (List.replicate N 0) ∧ B ≤ g
  | k, v, _ => v = l.getD k undef
theorem TZ4.keep {l : List Value} {B N : Nat} (i : Nat) (v : Value) (w w' : World) (h : TZ4 l B N i v w) (hb : Below w.heap.size w w') : TZ4 l B N i v w' := by
  unfold TZ4 at h ⊢
  split at h
  · obtain ⟨g, h1, h2, h3⟩ := h
    exact ⟨g, h1, h2.kept (hb.block g h2.lt), h3⟩
  · exact h
/-- A snapshot is put: Fine, or the disk went dark. -/
def GivesPp (base : Nat) (O : Foot) (r : Nat) (D : Dsk) (f k : Nat) (m : Nat × List Int) (b : List Int) (w : World) (e : Ending) (w' : World) : Prop :=
  ∃ c D', e = .returned (.int .i64 c) ∧ PutsOut D (f * D.size) (k * D.size) m b c D' ∧ DskTo base O r D' w w'
theorem spp_fin {base r : Nat} {O O1 : Foot} {D2 : Dsk} {w W w6 W7 w8 : World} (hb : base ≤ w.heap.size) (g1 : Below w.heap.size w W) (o6 : OnlyO base O W w6) (gr6 : Grown O O1 W.heap.size) (g7 : Below w6.heap.size w6 W7) (t8 : DskTo base O1 r D2 W7 w8) : DskTo base O r D2 w w8 :=
  way_old hb g1 (way_next (Nat.le_trans hb g1.size) gr6 o6 g7 t8)
/-- What comes up in Put: values; the bytes, cloned; the next snapshot; its variable. -/
def TP9 (l : List Value) (B L e1 : Nat) (b : List Int) : Nat → Value → World → Prop
  | 7, v, w => ArgB w v b ∧ ∀ j, v.ownBlock = some j → B ≤ j
  | 8, v, w => ∃ a c, v = .agg #[.int .u64 (e1 : Int), .slice a L c] ∧ ArgB w (.slice a L c) b ∧ ∀ j, (Value.slice a L c).ownBlock = some j → B ≤ j
  | 9, v, w => ∃ g, v = .pointer (some ⟨g, 0, none⟩) ∧ Var2 w g (.int .u64 0) (.slice none 0 0) ∧ (∀ i, 2 ≤ i → w.cell? ⟨g, i, none⟩ = none) ∧ B ≤ g
  | k, v, _ => v = l.getD k undef
theorem TP9.keep {l : List Value} {B L e1 : Nat} {b : List Int} (i : Nat) (v : Value) (w w' : World) (h : TP9 l B L e1 b i v w) (hb : Below w.heap.size w w') : TP9 l B L e1 b i v w' := by
  unfold TP9 at h ⊢
  split at h
  · exact ⟨h.1.below hb, h.2⟩
  · obtain ⟨a, c, h1, h2, h3⟩ := h
    exact ⟨a, c, h1, h2.below hb, h3⟩
  · obtain ⟨g, h1, h2, h3, h4⟩ := h
    exact ⟨g, h1, h2.after hb, fun i hi => (World.cell?_of_block (hb.block g h2.s)).trans (h3 i hi), h4⟩
  · exact h
/-- Bytes don't lie in a snapshot's variable. -/
theorem bytes_else {W : World} {v : Value} {b : List Int} {g : Nat} {x : Int} {a : Option Addr} {n c : Nat} (h : ArgB W v b) (hne : b ≠ []) {j : Nat} (hj : v.ownBlock = some j) (hg : Var2 W g (.int .u64 x) (.slice a n c)) (hz : ∀ i, 2 ≤ i → W.cell? ⟨g, i, none⟩ = none) : j ≠ g := by
  rintro rfl
  rcases h with ⟨_, h⟩ | ⟨y, cap, rfl, hc, hcell⟩
  · exact hne h
  · have hl : 0 < b.length := List.length_pos_iff.mpr hne
    obtain ⟨bb, off, rfl, h2⟩ := arg_addr hcell hl
    have hbb : bb = j := Option.some.inj hj
    subst hbb
    have q := h2 0 hl
    rw [Nat.add_zero] at q
    rcases Nat.lt_or_ge off 2 with ho | ho
    · rcases Nat.lt_or_ge off 1 with ho1 | ho1
      · obtain rfl : off = 0 := by omega
        rw [hg.c0] at q; cases q
      · obtain rfl : off = 1 := by omega
        rw [hg.c1] at q; cases q
    · rw [hz off ho] at q; cases q
theorem Var2.onlyO {W W1 : World} {base : Nat} {O : Foot} {p : Nat} {x y : Value} (k : Var2 W p x y) (ho : OnlyO base O W W1) (hn : ¬ O p) : Var2 W1 p x y := k.stay (ho.keep p k.s hn) ho.size
theorem cells_end (W : World) (x y : Value) (t : TypeId) : ∀ i, 2 ≤ i → (W.alloc (.cells #[x, y] t)).cell? ⟨W.heap.size, i, none⟩ = none := fun i hi => by
  obtain ⟨k, rfl⟩ : ∃ k, i = k + 2 := ⟨i - 2, by omega⟩
  simp [go_sem]
theorem SlIs.fall {w : World} {base : Nat} {OS : Foot} {gs r : Nat} {G : Sl} (h : SlIs w base OS gs r G) : SlIs (w.setCell ⟨gs, 5, none⟩ (.bool true)) base OS gs r { G with down := true } := by
  obtain ⟨h1, h2, c0, c1, c2, c3, ⟨v, c4, ha, ho⟩, c5, q, hl⟩ := h
  refine ⟨fun i hi => by have := h1 i hi; simpa using this, h2, ?_, ?_, ?_, ?_, ⟨v, ?_, ha.stay (fun hne j hj => set_else _ _ _ _ j (ho hne j hj).2), ho⟩, ?_, fun i => by rw [World.frozen?_setCell]; exact q i, hl⟩ <;> simp [go_sem, *]
/-- What Put comes to. -/
def GivesSp (base : Nat) (O OS : Foot) (r gs : Nat) (D : Dsk) (G : Sl) (b : List Int) (w : World) (e : Ending) (w' : World) : Prop :=
  ∃ c D' O' OS', e = .returned (.int .i64 c) ∧ PutsOut D (G.from_ * G.size) (G.n * G.size) (G.ep, G.b) b c D' ∧ DskIs w' base O' r D' ∧ SlIs w' base OS' gs r { G with ep := if c = 0 then G.ep + 1 else G.ep, b := if c = 0 then b else G.b, down := decide (c = 12) } ∧ (∀ i, O' i → ¬ OS' i) ∧
    OnlyO base (fun i => O i ∨ OS i) w w' ∧ Grown (fun i => O i ∨ OS i) (fun i => O' i ∨ OS' i) w.heap.size
theorem pp_c01 {D D' : Dsk} {lo M : Nat} {m : Nat × List Int} {b : List Int} {c : Int} (h : PutsOut D lo M m b c D') : c = 0 ∨ c = 12 := by
  rcases h.2 with ⟨h, _⟩ | ⟨h, _⟩
  · exact Or.inl h
  · exact Or.inr h
/-- Behind a put: the slots, as they were. -/
theorem sp_behind {base r gs : Nat} {O OS O' : Foot} {D D' : Dsk} {G : Sl} {w W7 w8 : World} (h : DskIs w base O r D) (hg : SlIs w base OS gs r G) (hd : ∀ i, O i → ¬ OS i) (g7 : Below w.heap.size w W7) (_d8 : DskIs w8 base O' r D') (o8 : OnlyO base O W7 w8) (gr8 : Grown O O' W7.heap.size) :
    SlIs w8 base OS gs r G ∧ (∀ i, O' i → ¬ OS i) ∧ OnlyO base (fun i => O i ∨ OS i) w w8 ∧ base ≤ gs ∧ Grown O O' w.heap.size := by
  have hrl := h.own r h.mem
  have hgl := hg.own gs hg.mem
  have hs7 := g7.size
  have hgO : ∀ i, OS i → ¬ O' i := fun i hi ho => by
    rcases gr8 i ho with q | q
    · exact hd i q hi
    · have := (hg.own i hi).2
      omega
  have o1 := (OnlyO.of g7 (by omega) : OnlyO base O w W7).trans o8 (Grown.refl _ _)
  exact ⟨(hg.after g7).kept (fun i hi => o8.keep i (Nat.lt_of_lt_of_le (hg.own i hi).2 hs7) (fun ho => hd i ho hi)) o8.size, fun i hi q => hgO i q hi, ⟨o1.bel, fun i hi hn => o1.keep i hi (fun q => hn (Or.inl q))⟩, hgl.1, fun i hi => (gr8 i hi).imp id (fun q => by omega)⟩
/-- It told Down. -/
theorem sp_fell {base r gs : Nat} {O OS O' : Foot} {D D' : Dsk} {G : Sl} {b : List Int} {w W7 w8 : World} (h : DskIs w base O r D) (hg : SlIs w base OS gs r G) (hd : ∀ i, O i → ¬ OS i) (g7 : Below w.heap.size w W7) (d8 : DskIs w8 base O' r D') (o8 : OnlyO base O W7 w8) (gr8 : Grown O O' W7.heap.size)
    (hp : PutsOut D (G.from_ * G.size) (G.n * G.size) (G.ep, G.b) b 12 D') : GivesSp base O OS r gs D G b w (.returned (.int .i64 12)) (w8.setCell ⟨gs, 5, none⟩ (.bool true)) := by
  obtain ⟨hs, hdj, ho, hb, hgr⟩ := sp_behind h hg hd g7 d8 o8 gr8
  refine ⟨12, D', O', OS, rfl, hp, d8.kept (fun i hi => set_else _ _ _ _ i (fun e => hdj i hi (e ▸ hg.mem))) (by simp), hs.fall, hdj, ho.set (Or.inr hg.mem) hb 5 _, fun i hi => ?_⟩
  rcases hi with hi | hi
  · exact (hgr i hi).imp Or.inl id
  · exact Or.inl (Or.inr hi)
/-- It is put. -/
theorem sp_done {base r gs : Nat} {O OS O' : Foot} {D D' : Dsk} {G : Sl} {b : List Int} {v : Value} {w W7 w8 : World} (h : DskIs w base O r D) (hg : SlIs w base OS gs r G) (hd : ∀ i, O i → ¬ OS i) (hup : G.down = false) (g7 : Below w.heap.size w W7) (d8 : DskIs w8 base O' r D') (o8 : OnlyO base O W7 w8) (gr8 : Grown O O' W7.heap.size)
    (hp : PutsOut D (G.from_ * G.size) (G.n * G.size) (G.ep, G.b) b 0 D') (hv : ArgB W7 v b) (hvn : b ≠ [] → ∀ j, v.ownBlock = some j → w.heap.size ≤ j) (hl : b.length ≤ 1000000) :
    GivesSp base O OS r gs D G b w (.returned (.int .i64 0)) ((w8.setCell ⟨gs, 3, none⟩ (.int .u64 ((G.ep + 1 : Nat) : Int))).setCell ⟨gs, 4, none⟩ v) := by
  obtain ⟨hs, hdj, ho, hb, hgr⟩ := sp_behind h hg hd g7 d8 o8 gr8
  have hset : ∀ i, i ≠ gs → ((w8.setCell ⟨gs, 3, none⟩ (.int .u64 ((G.ep + 1 : Nat) : Int))).setCell ⟨gs, 4, none⟩ v).heap[i]? = w8.heap[i]? := fun i hi => (set_else _ _ _ _ i hi).trans (set_else _ _ _ _ i hi)
  have hbase := (h.own r h.mem)
  have hgl := hg.own gs hg.mem
  have hvb : b ≠ [] → ∀ j, v.ownBlock = some j → w.heap.size ≤ j ∧ j < W7.heap.size := fun hne j hj => ⟨hvn hne j hj, hv.lt hne hj⟩
  have hv8 : ArgB w8 v b := hv.only o8 (fun hne j hj ho => by have := (h.own j ho).2; have := (hvb hne j hj).1; omega)
  have hs8 := o8.size
  have hw := hs.weak (OS' := fun i => OS i ∨ (b ≠ [] ∧ v.ownBlock = some i)) (fun i hi => Or.inl hi) (fun i hi => by
    rcases hi with hi | ⟨hne, hi⟩
    · exact hs.own i hi
    · have := hvb hne i hi
      omega)
  have hlay := hw.lay (G.ep + 1) v b hv8 (fun hne j hj => ⟨Or.inr ⟨hne, hj⟩, by have := (hvb hne j hj).1; omega⟩) hl
  have hO' : ∀ i, O' i → ¬ (OS i ∨ (b ≠ [] ∧ v.ownBlock = some i)) := fun i hi q => by
    rcases q with q | ⟨hne, q⟩
    · exact hdj i hi q
    · have h1 := hvb hne i q
      rcases gr8 i hi with q2 | q2
      · have := (h.own i q2).2; omega
      · omega
  refine ⟨0, D', O', _, rfl, hp, d8.kept (fun i hi => hset i (fun e => hdj i hi (e ▸ hg.mem))) (by simp), ?_, hO', (ho.set (Or.inr hg.mem) hb 3 _).set (Or.inr hg.mem) hb 4 _, fun i hi => ?_⟩
  · rw [if_pos rfl, if_pos rfl, show decide ((0 : Int) = 12) = G.down by rw [hup]; rfl]
    exact hlay
  · rcases hi with hi | hi | ⟨hne, hi⟩
    · exact (hgr i hi).imp Or.inl id
    · exact Or.inl (Or.inr hi)
    · exact Or.inr (hvb hne i hi).1
end Go.Proofs.YtejelednnacnaaaGreatDoor
