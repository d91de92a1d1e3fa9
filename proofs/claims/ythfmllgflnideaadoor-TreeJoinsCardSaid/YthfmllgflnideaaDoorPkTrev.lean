/-
  Trees' tokens, item by item; words as cells.
-/
import Derived.Test.YthfmllgflnideaaDoorPkTrel
import Derived.Test.YthfmllgflnideaaDoorPkTrem
import Derived.Test.YthfmllgflnideaaDoorPkMixs
import Derived.Deep.QuietTactic
import Derived.Test.YthfmllgflnideaaDoorPkTrea
import Derived.Test.YthfmllgflnideaaDoorPkTrep
namespace Go.Proofs.YthfmllgflnideaaDoor
open Go.RowKit

theorem toksL_one (x : It) : toksL [x] = { k := 1, s := x.name, a := x.a, b := x.b } :: (x.words ++ (if x.block then { k := 7 } :: (toksL x.kids ++ [{ k := 8 }]) else [{ k := 9 }])) := by
  obtain ⟨n, w, k, kids, a, b⟩ := x
  cases k <;> simp [toksL, It.name, It.words, It.block, It.kids, It.a, It.b]
theorem tk_take {L : List It} {i : Nat} (h : i < L.length) : L.take (i + 1) = L.take i ++ [L.getD i default] := by
  rw [List.take_add_one, List.getD_eq_getElem?_getD, List.getElem?_eq_getElem h]; rfl
theorem toksL_next {L : List It} {i : Nat} (h : i < L.length) : toksL (L.take (i + 1)) = toksL (L.take i) ++ toksL [L.getD i default] := by
  rw [tk_take h, toksL_app]
theorem toksL_take_le (L : List It) (i : Nat) : (toksL (L.take i)).length ≤ (toksL L).length := by
  have := congrArg (fun l => (toksL l).length) (List.take_append_drop i L)
  simp only [toksL_app, List.length_append] at this
  omega
/-- Words, as cells. -/
theorem WordsIs.cells {w : World} {S : Nat → Prop} {a : Option Addr} {n c : Nat} {l : List Tk3} (h : WordsIs w S (.slice a n c) l) : n = l.length ∧ CellsAt 5 w a (l.map tkV) := by
  obtain ⟨a', cap, e, _, hcell⟩ := h
  simp only [Value.slice.injEq] at e
  obtain ⟨rfl, rfl, rfl⟩ := e
  refine ⟨rfl, fun u hu => ?_, fun i hi => ?_⟩
  · obtain ⟨t, _, rfl⟩ := List.mem_map.mp hu; rfl
  · rw [List.length_map] at hi
    obtain ⟨b, off, rfl, _, h0, h1, h2, h3, h4⟩ := hcell i hi
    have e : (l.map tkV).getD i [] = tkV (l.getD i {}) := by
      rw [List.getD_eq_getElem?_getD, List.getD_eq_getElem?_getD, List.getElem?_map, List.getElem?_eq_getElem hi]; rfl
    rw [e]
    refine ⟨b, off, rfl, fun j hj => ?_⟩
    have : j = 0 ∨ j = 1 ∨ j = 2 ∨ j = 3 ∨ j = 4 := by omega
    rcases this with rfl | rfl | rfl | rfl | rfl
    · exact h0
    · exact h1
    · exact h2
    · exact h3
    · exact h4
theorem rowCells {w : World} {base : Nat} {a : Option Addr} {n c : Nat} {l : List Tk3} (h : RowK 41 5 w base (.slice a n c) (l.map tkV)) : n = l.length ∧ CellsAt 5 w a (l.map tkV) :=
  (RowK.words (S := fun _ => True) h (fun _ _ => trivial)).cells
theorem tkVs_one (l : List Tk3) : ∀ u ∈ l.map tkV, ∀ x ∈ u, x.oneCell' = true := fun u hu => by
  obtain ⟨t, _, rfl⟩ := List.mem_map.mp hu
  exact tkV_one t
theorem tok_box_cells (w : World) (t : Tk3) : ∀ j, j < 5 → (w.alloc (.cells #[.int .i64 t.k, .string t.s, .int .u64 t.n, .int .i64 t.a, .int .i64 t.b] 41)).cell? ⟨w.heap.size, j, none⟩ = some ((tkV t).getD j undef) :=
  tok_cells (by simp) (by simp) (by simp) (by simp) (by simp)

theorem toksL_items : ∀ L : List It, L.length ≤ (toksL L).length
  | [] => by simp
  | .mk n w k kids a b :: L => by
    have := toksL_items L
    simp only [List.length_cons, toksL, List.cons_append, List.length_append]; omega
theorem trF_err : ∀ (T : List Tk3) (st : List (Hd × List It)) (n : Nat) (o : Option Hd) (c a b : Int), trF T st n o = .error (c, a, b) → c ≠ 0
  | [], _, _, _, c, a, b, h => by rw [trF] at h; cases h
  | t :: T, st, n, some hd, c, a, b, h => by
    rw [trF] at h
    split at h
    · exact trF_err T _ _ _ c a b h
    split at h
    · exact trF_err T _ _ _ c a b h
    split at h
    · injection h with h; injection h with h _; omega
    split at h
    · injection h with h; injection h with h _; omega
    · exact trF_err T _ _ _ c a b h
  | t :: T, st, n, none, c, a, b, h => by
    rw [trF] at h
    split at h
    · exact trF_err T _ _ _ c a b h
    split at h
    · cases h
    split at h
    · injection h with h; injection h with h _; omega
    split at h
    · injection h with h; injection h with h _; omega
    split at h
    · injection h with h; injection h with h _; omega
    · exact trF_err T _ _ _ c a b h
theorem treF_err {l : List Int} {c a b : Int} (h : treF l = .error (c, a, b)) : c ≠ 0 := by
  cases ht : tokF l 0 with
  | error x =>
    obtain ⟨k, c2⟩ := x
    rw [treF_bad ht] at h
    injection h with h
    injection h with h _
    rw [← h]
    exact tokF_err l.length 0 k c2 (by omega) ht
  | ok L =>
    rw [treF_fine ht] at h
    exact trF_err _ _ _ _ _ _ _ h
theorem treR_err {s : ByteArray} {c a b : Int} (h : treR s = .error (c, a, b)) : c ≠ 0 := by
  unfold treR at h
  split at h
  · exact treF_err h
  · injection h with h; injection h with h _; omega

end Go.Proofs.YthfmllgflnideaaDoor

/-
  Trees of sources have few words in an item: plain.
-/
namespace Go.Proofs.YthfmllgflnideaaDoor

/-- At most six words in each item. -/
def FewW : List It → Prop
  | [] => True
  | .mk _ w _ kids _ _ :: l => w.length ≤ 6 ∧ FewW kids ∧ FewW l
theorem fewW_app : ∀ {l m : List It}, FewW l → FewW m → FewW (l ++ m)
  | [], _, _, h => h
  | .mk n w k kids a b :: l, m, h1, h2 => by
    rw [List.cons_append, FewW] at *
    exact ⟨h1.1, h1.2.1, fewW_app h1.2.2 h2⟩
theorem FewW.all : ∀ {L : List It}, FewW L → AllW L
  | [], _ => by simp [AllW]
  | .mk n w k kids a b :: L, h => by
    rw [FewW] at h
    rw [AllW]
    exact ⟨by omega, h.2.1.all, h.2.2.all⟩
theorem FewW.at : ∀ {L : List It} (_ : FewW L) (i : Nat), i < L.length → (L.getD i default).words.length ≤ 6 ∧ FewW (L.getD i default).kids
  | [], _, i, hi => by cases hi
  | .mk n w k kids a b :: L, h, i, hi => by
    rw [FewW] at h
    cases i with
    | zero => exact ⟨h.1, h.2.1⟩
    | succ i => exact FewW.at h.2.2 i (by simpa using hi)
theorem fewW_bare : ∀ {L : List It}, FewW L → FewW (bareL L)
  | [], _ => by simp [bareL, FewW]
  | .mk n w k kids a b :: L, h => by
    rw [FewW] at h
    rw [bareL, FewW]
    exact ⟨by rw [List.length_map]; exact h.1, fewW_bare h.2.1, fewW_bare h.2.2⟩
theorem fewW_one {h : Hd} {k : Bool} {l : List It} (hw : h.words.length ≤ 6) (hl : FewW l) : FewW [h.it k l] := by
  rw [Hd.it, FewW]
  exact ⟨hw, hl, by simp [FewW]⟩
theorem fewW_push {x : It} {st : List (Hd × List It)} (hx : FewW [x]) (hs : ∀ y ∈ st, FewW y.2 ∧ y.1.words.length ≤ 6) : ∀ y ∈ pushS x st, FewW y.2 ∧ y.1.words.length ≤ 6 := by
  cases st with
  | nil => intro y hy; cases hy
  | cons z st =>
    obtain ⟨h, l⟩ := z
    intro y hy
    rcases List.mem_cons.mp hy with rfl | hy
    · have := hs (h, l) (List.mem_cons_self ..)
      exact ⟨fewW_app this.1 hx, this.2⟩
    · exact hs y (List.mem_cons_of_mem _ hy)
theorem trF_few : ∀ (T : List Tk3) (st : List (Hd × List It)) (n : Nat) (o : Option Hd) (I : List It), (∀ y ∈ st, FewW y.2 ∧ y.1.words.length ≤ 6) → (∀ h, o = some h → h.words.length ≤ 6) → trF T st n o = .ok I → FewW I
  | [], st, n, o, I, _, _, h => by
    rw [trF] at h
    injection h with h
    rw [← h]; simp [FewW]
  | t :: T, st, n, some hd, I, hs, ho, h => by
    have hw := ho hd rfl
    rw [trF] at h
    split at h
    · exact trF_few T _ _ _ I (fewW_push (fewW_one hw (by simp [FewW])) hs) (fun _ e => by cases e) h
    split at h
    · refine trF_few T _ _ _ I (fun y hy => ?_) (fun _ e => by cases e) h
      rcases List.mem_cons.mp hy with rfl | hy
      · exact ⟨by simp [FewW], hw⟩
      · exact hs y hy
    split at h
    · cases h
    split at h
    · cases h
    · rename_i h6
      refine trF_few T _ _ _ I hs (fun h2 e => ?_) h
      injection e with e
      rw [← e]
      simp only [List.length_append, List.length_cons, List.length_nil]
      omega
  | t :: T, st, n, none, I, hs, ho, h => by
    rw [trF] at h
    split at h
    · refine trF_few T _ _ _ I ?_ (fun _ e => by cases e) h
      cases st with
      | nil => intro y hy; cases hy
      | cons z st =>
        obtain ⟨h2, l⟩ := z
        have := hs (h2, l) (List.mem_cons_self ..)
        exact fewW_push (fewW_one this.2 this.1) (fun y hy => hs y (List.mem_cons_of_mem _ hy))
    split at h
    · injection h with h
      cases st with
      | nil => rw [← h]; simp [FewW]
      | cons z st => rw [← h]; exact (hs z (List.mem_cons_self ..)).1
    split at h
    · cases h
    split at h
    · cases h
    split at h
    · cases h
    · refine trF_few T _ _ _ I hs (fun h2 e => ?_) h
      injection e with e
      rw [← e]; simp
theorem treF_fewW {l : List Int} {I : List It} (h : treF l = .ok I) : FewW I := by
  obtain ⟨L, _, h2⟩ := treF_toks h
  refine trF_few _ _ _ _ I (fun y hy => ?_) (fun _ e => by cases e) h2
  rw [List.mem_singleton.mp hy]
  exact ⟨by simp [FewW], by simp⟩

end Go.Proofs.YthfmllgflnideaaDoor

/-
  The document's Bare, of trees in memory.
-/
namespace Go.Proofs.YthfmllgflnideaaDoor
open Go.RowKit

theorem bareL_one (x : It) : bareL [x] = [.mk x.name (x.words.map Tk3.bare) x.block (bareL x.kids) 0 0] := by
  obtain ⟨n, w, k, kids, a, b⟩ := x
  simp [bareL, It.name, It.words, It.block, It.kids]
theorem bareL_next {L : List It} {i : Nat} (h : i < L.length) : bareL (L.take (i + 1)) = bareL (L.take i) ++ bareL [L.getD i default] := by
  rw [tk_take h, bareL_app]
theorem bareL_len : ∀ L : List It, (bareL L).length = L.length
  | [] => by simp [bareL]
  | .mk n w k kids a b :: L => by rw [bareL, List.length_cons, List.length_cons, bareL_len L]
/-- What Bare gives. -/
def GivesBare (d : Nat) (L : List It) (w : World) (e : Ending) (w' : World) : Prop :=
  ∃ v ps Sx, e = .returned v ∧ ListIs (d - 1) w' Sx w.heap.size v ps ∧ ps.map ItV.x = bareL L ∧ (∀ b, Sx b → w.heap.size ≤ b ∧ b < w'.heap.size) ∧ Below w.heap.size w w'

/-- The cells of the first words, without places. -/
def bareV (ws : List Tk3) (k : Nat) : List (List Value) := ((ws.take k).map Tk3.bare).map tkV
theorem bareV_zero (ws : List Tk3) : bareV ws 0 = [] := by simp [bareV]
theorem bareV_next {ws : List Tk3} {k : Nat} (h : k < ws.length) : bareV ws (k + 1) = bareV ws k ++ [tkV (ws.getD k {}).bare] := by
  unfold bareV
  have e : ws.take (k + 1) = ws.take k ++ [ws.getD k {}] := by
    rw [List.take_add_one, List.getD_eq_getElem?_getD, List.getElem?_eq_getElem h]; rfl
  rw [e, List.map_append, List.map_append]; rfl
theorem bareV_len {ws : List Tk3} {k : Nat} (h : k ≤ ws.length) : (bareV ws k).length = k := by
  unfold bareV
  rw [List.length_map, List.length_map, List.length_take]; omega
theorem bareV_all (ws : List Tk3) : bareV ws ws.length = (ws.map Tk3.bare).map tkV := by
  unfold bareV
  rw [List.take_length]
/-- What Bare gives of kids, as kids. -/
theorem kidsOf {d : Nat} {w : World} {S : Nat → Prop} {base : Nat} {v : Value} {ps : List ItV} {K : List It} (h : ListIs (d - 1) w S base v ps) (hp : ps.map ItV.x = K) (hd : d = 0 → K = []) : ItemsIs d w (fun b => S b ∨ v.ownBlock = some b) v K := by
  subst hp
  cases d with
  | zero =>
    have h0 := hd rfl
    rw [h0]
    have hl : ps.length = 0 := by rw [← List.length_map (f := ItV.x), h0]; rfl
    obtain ⟨a, c, hv⟩ := h.row.size
    rw [List.length_map, hl] at hv
    subst hv
    exact ItemsIs.none' _ _ _ _ _
  | succ d => exact h.items (fun b hb => Or.inl hb) (fun b hb => Or.inr hb)

/-- What each operation has made ahead of the call. -/
def TB15 (l : List Value) : Nat → Value → World → Prop := fun k v _ => k < 15 → v = l.getD k undef
/-- How the world stands by what has come up of 'x := api.Item{.., Kids: Bare(l[i].Kids)}'. -/
structure JB (wr : World) (d : Nat) (K : List It) (nm : ByteArray) (bk : Bool) (u : Nat → Value) (L : Nat → Bool) (W : World) : Prop where
  bel : Below wr.heap.size wr W
  kid : L 15 = true → ∃ a c, u 15 = .slice a K.length c ∧ ∃ Sk : Nat → Prop, (∀ b, Sk b → wr.heap.size ≤ b ∧ b < W.heap.size ∧ (L 17 = true → ∀ g, u 17 = .pointer (some ⟨g, 0, none⟩) → b ≠ g)) ∧ ItemsIs d W Sk (u 15) K
  bld : L 16 = true → L 15 = true ∧ u 16 = .agg #[.string nm, .slice none 0 0, .bool bk, u 15, .int .i64 0, .int .i64 0]
  var : L 17 = true → ∃ g, u 17 = .pointer (some ⟨g, 0, none⟩) ∧ wr.heap.size ≤ g ∧ g < W.heap.size ∧ Var6 W g (.string ⟨#[]⟩) (.slice none 0 0) (.bool false) (.slice none 0 0) (.int .i64 0) (.int .i64 0)
theorem JB.light {wr : World} {d : Nat} {K : List It} {nm : ByteArray} {bk : Bool} {u : Nat → Value} {L : Nat → Bool} {W : World} (h : JB wr d K nm bk u L W) {j : Nat} (hj : j < 15) (v : Value) : JB wr d K nm bk (upd u j v) (setL L j) W := by
  have e : ∀ i, 15 ≤ i → setL L j i = L i := fun i hi => setL_ne L (by omega)
  have e2 : ∀ i, 15 ≤ i → upd u j v i = u i := fun i hi => by unfold upd; rw [if_neg (by omega)]
  obtain ⟨h1, h2, h3, h4⟩ := h
  refine ⟨h1, ?_, ?_, ?_⟩
  · rw [e 15 (by omega), e 17 (by omega), e2 15 (by omega), e2 17 (by omega)]; exact h2
  · rw [e 16 (by omega), e 15 (by omega), e2 16 (by omega), e2 15 (by omega)]; exact h3
  · rw [e 17 (by omega), e2 17 (by omega)]; exact h4
theorem JB.call {wr : World} {d : Nat} {K : List It} {nm : ByteArray} {bk : Bool} {u : Nat → Value} {L : Nat → Bool} {W W' : World} (h : JB wr d K nm bk u L W) (hL : L 15 = false) (hb : Below W.heap.size W W') {a : Option Addr} {c : Nat} {Sk : Nat → Prop} (hi : ItemsIs d W' Sk (.slice a K.length c) K) (hs : ∀ b, Sk b → W.heap.size ≤ b ∧ b < W'.heap.size) : JB wr d K nm bk (upd u 15 (.slice a K.length c)) (setL L 15) W' := by
  have e : ∀ i, i ≠ 15 → setL L 15 i = L i := fun i hi => setL_ne L hi
  have e2 : ∀ i, i ≠ 15 → upd u 15 (.slice a K.length c) i = u i := fun i hi => by unfold upd; rw [if_neg hi]
  have e3 : upd u 15 (.slice a K.length c) 15 = .slice a K.length c := by unfold upd; rw [if_pos rfl]
  obtain ⟨h1, h2, h3, h4⟩ := h
  have hsz := h1.size
  refine ⟨h1.trans (hb.mono hsz), fun _ => ?_, ?_, ?_⟩
  · rw [e3, e 17 (by decide), e2 17 (by decide)]
    refine ⟨a, c, rfl, Sk, fun b hb2 => ⟨Nat.le_trans hsz (hs b hb2).1, (hs b hb2).2, fun h17 g hg e => ?_⟩, hi⟩
    obtain ⟨g', hg', _, hlt, _⟩ := h4 h17
    rw [hg] at hg'
    injection hg' with hg'
    injection hg' with hg'
    injection hg' with hg'
    have := (hs b hb2).1
    omega
  · rw [e 16 (by decide), e2 16 (by decide)]
    intro h16
    have := (h3 h16).1
    rw [hL] at this; cases this
  · rw [e 17 (by decide), e2 17 (by decide)]
    intro h17
    obtain ⟨g, hg, h5, h6, h7⟩ := h4 h17
    exact ⟨g, hg, h5, Nat.lt_of_lt_of_le h6 hb.size, h7.after hb⟩
theorem JB.build {wr : World} {d : Nat} {K : List It} {nm : ByteArray} {bk : Bool} {u : Nat → Value} {L : Nat → Bool} {W : World} (h : JB wr d K nm bk u L W) (h15 : L 15 = true) : JB wr d K nm bk (upd u 16 (.agg #[.string nm, .slice none 0 0, .bool bk, u 15, .int .i64 0, .int .i64 0])) (setL L 16) W := by
  have e : ∀ i, i ≠ 16 → setL L 16 i = L i := fun i hi => setL_ne L hi
  have e2 : ∀ i, i ≠ 16 → upd u 16 (.agg #[.string nm, .slice none 0 0, .bool bk, u 15, .int .i64 0, .int .i64 0]) i = u i := fun i hi => by unfold upd; rw [if_neg hi]
  have e3 : upd u 16 (.agg #[.string nm, .slice none 0 0, .bool bk, u 15, .int .i64 0, .int .i64 0]) 16 = .agg #[.string nm, .slice none 0 0, .bool bk, u 15, .int .i64 0, .int .i64 0] := by unfold upd; rw [if_pos rfl]
  obtain ⟨h1, h2, h3, h4⟩ := h
  refine ⟨h1, ?_, fun _ => ?_, ?_⟩
  · rw [e 15 (by decide), e 17 (by decide), e2 15 (by decide), e2 17 (by decide)]; exact h2
  · rw [e 15 (by decide), e2 15 (by decide), e3]; exact ⟨h15, rfl⟩
  · rw [e 17 (by decide), e2 17 (by decide)]; exact h4
theorem JB.alloc {wr : World} {d : Nat} {K : List It} {nm : ByteArray} {bk : Bool} {u : Nat → Value} {L : Nat → Bool} {W : World} (h : JB wr d K nm bk u L W) : JB wr d K nm bk (upd u 17 (.pointer (some ⟨W.heap.size, 0, none⟩))) (setL L 17) (W.alloc (.cells #[.string ⟨#[]⟩, .slice none 0 0, .bool false, .slice none 0 0, .int .i64 0, .int .i64 0] 37)) := by
  have e : ∀ i, i ≠ 17 → setL L 17 i = L i := fun i hi => setL_ne L hi
  have e2 : ∀ i, i ≠ 17 → upd u 17 (.pointer (some ⟨W.heap.size, 0, none⟩)) i = u i := fun i hi => by unfold upd; rw [if_neg hi]
  have e3 : upd u 17 (.pointer (some ⟨W.heap.size, 0, none⟩)) 17 = .pointer (some ⟨W.heap.size, 0, none⟩) := by unfold upd; rw [if_pos rfl]
  have hb : Below W.heap.size W (W.alloc (.cells #[.string ⟨#[]⟩, .slice none 0 0, .bool false, .slice none 0 0, .int .i64 0, .int .i64 0] 37)) := (Below.refl _ _).alloc (Nat.le_refl _) _
  obtain ⟨h1, h2, h3, h4⟩ := h
  have hsz := h1.size
  refine ⟨h1.trans (hb.mono hsz), ?_, ?_, fun _ => ?_⟩
  · rw [e 15 (by decide), e2 15 (by decide), e3]
    intro h15
    obtain ⟨a, c, e5, Sk, hs, hi⟩ := h2 h15
    refine ⟨a, c, e5, Sk, fun b hb2 => ⟨(hs b hb2).1, Nat.lt_of_lt_of_le (hs b hb2).2.1 hb.size, fun _ g hg e => ?_⟩, ItemsIs.keep hi (fun _ h => h) (fun b hb2 => hb.block b (hs b hb2).2.1)⟩
    injection hg with hg
    injection hg with hg
    injection hg with hg
    have := (hs b hb2).2.1
    omega
  · rw [e 16 (by decide), e 15 (by decide), e2 16 (by decide), e2 15 (by decide)]; exact h3
  · rw [e3]
    exact ⟨_, rfl, hsz, by simp, Var6.fresh _ _ _ _ _ _ _ _ _ rfl⟩

set_option maxRecDepth 100000 in
set_option maxHeartbeats 16000000 in
theorem bare_any : ∀ (d : Nat) (S : Nat → Prop) (v : Value) (L : List It) (w : World), ItemsIs d w S v L → (∀ b, S b → b < w.heap.size) → cntL L ≤ 1000000 → FewW L →
    Calls Tryd.prog 8 #[v] w (GivesBare d L w) := by
  intro d
  induction d with
  | zero =>
    intro S v L w h _ _ _
    obtain ⟨rfl, a, cap, rfl⟩ := h
    obtain ⟨B, hB⟩ : ∃ B, w.heap.size = B := ⟨_, rfl⟩
    obtain ⟨W0, hW0⟩ : ∃ W, w.alloc (.cells #[] 37) = W := ⟨_, rfl⟩
    have R0 : ListIs 0 W0 (fun _ => False) B (.slice (some ⟨B, 0, none⟩) 0 0) [] := by
      rw [← hW0]
      exact ⟨RowK.fresh _ 6 w _ _ hB.symm (Nat.le_refl _), (fun p hp => by cases hp), (fun p hp => by cases hp), (fun b e h => h)⟩
    have g0 : Below B w W0 := by rw [← hW0, ← hB]; exact (Below.refl _ _).alloc (Nat.le_refl _) _
    have HR0 := Lib.hid R0
    have HG0 := Lib.hid g0
    have HB := Lib.hid hB
    clear R0 g0
    go_enter Tryd.func8, Tryd.ntmps8
    go_wp2
    go_loopw [3, 4] (fun v3 v4 wr => v3 = .slice (some ⟨B, 0, none⟩) 0 0 ∧ v4 = .int .i64 0 ∧ wr = W0) (fun _ _ _ => 0)
    case atStart => exact ⟨rfl, rfl, rfl⟩
    case round =>
      obtain ⟨rfl, rfl, rfl⟩ := hrel
      go_wp2
      go_ret
      exact ⟨_, [], fun _ => False, rfl, by rw [HB.out]; exact HR0.out, by simp [bareL], fun b h => h.elim, by rw [HB.out]; exact HG0.out⟩
  | succ d ih =>
    intro S v L w h hS hm hfw
    obtain ⟨a, cap, rfl⟩ := h.size
    have HH := Lib.hid h
    have HS := Lib.hid hS
    have HIH := Lib.hid ih
    have HM := Lib.hid hm
    have HFW := Lib.hid hfw
    obtain ⟨n, hn⟩ : ∃ n, L.length = n := ⟨_, rfl⟩
    have HN := Lib.hid hn
    have HLn : n ≤ 1000000 := by
      have := len_cnt L
      omega
    obtain ⟨B, hB⟩ : ∃ B, w.heap.size = B := ⟨_, rfl⟩
    obtain ⟨W0, hW0⟩ : ∃ W, w.alloc (.cells #[] 37) = W := ⟨_, rfl⟩
    have R0 : ListIs d W0 (fun _ => False) B (.slice (some ⟨B, 0, none⟩) 0 0) [] := by
      rw [← hW0]
      exact ⟨RowK.fresh _ 6 w _ _ hB.symm (Nat.le_refl _), (fun p hp => by cases hp), (fun p hp => by cases hp), (fun b e h => h)⟩
    have g0 : Below B w W0 := by rw [← hW0, ← hB]; exact (Below.refl _ _).alloc (Nat.le_refl _) _
    have HR0 := Lib.hid R0
    have HG0 := Lib.hid g0
    have HB := Lib.hid hB
    have e0 : bareL (L.take 0) = [] := by simp [bareL]
    have HE0 := Lib.hid e0
    rw [hn]
    clear h hS ih hm hfw hn R0 g0 e0
    go_enter Tryd.func8, Tryd.ntmps8
    go_wp2
    go_loopw [3, 4] (fun v3 v4 wr => ∃ (i : Nat) (ps : List ItV) (Sx : Nat → Prop), i ≤ n ∧ v4 = .int .i64 (i : Int) ∧ ListIs d wr Sx B v3 ps ∧ ps.map ItV.x = bareL (L.take i) ∧ (∀ b, Sx b → B ≤ b ∧ b < wr.heap.size) ∧ Below B w wr) (fun _ v4 _ => n - (intOf v4).toNat)
    case atStart => exact ⟨0, [], _, Nat.zero_le _, rfl, HR0.out, HE0.out.symm, fun b h => h.elim, HG0.out⟩
    case round =>
      rename_i wr
      obtain ⟨i, ps, Sx, hi, rfl, hr, hps, hsx, hb⟩ := hrel
      have HR := Lib.hid hr
      have HPS := Lib.hid hps
      have HSX := Lib.hid hsx
      have HBL := Lib.hid hb
      clear hr hb hps hsx
      by_cases hin : i < n
      · obtain ⟨d', hd', b, off, wv, kv, rfl, hsb, x0, x1, x2, x3, x4, x5, hw, hk⟩ := HH.out.at i (by rw [HN.out]; exact hin)
        obtain rfl : d = d' := by omega
        have hlt : b < B := HB.out ▸ HS.out b hsb
        obtain ⟨⟨nm, ws, bk, kd, pa, pb⟩, hp⟩ : ∃ p, L.getD i default = p := ⟨_, rfl⟩
        rw [hp] at x0 x2 x4 x5 hw hk
        simp only [It.name, It.words, It.block, It.kids, It.a, It.b] at x0 x2 x4 x5 hw hk
        have HX : Hid (∀ W, Below B w W → W.cell? ⟨b, off + i * 6, none⟩ = some (.string nm) ∧ W.cell? ⟨b, off + i * 6 + 1, none⟩ = some wv ∧ W.cell? ⟨b, off + i * 6 + 2, none⟩ = some (.bool bk) ∧ W.cell? ⟨b, off + i * 6 + 3, none⟩ = some kv) := Lib.hid (fun W h =>
          ⟨(h.cell (p := ⟨b, off + i * 6, none⟩) hlt).trans x0, (h.cell (p := ⟨b, off + i * 6 + 1, none⟩) hlt).trans x1, (h.cell (p := ⟨b, off + i * 6 + 2, none⟩) hlt).trans x2, (h.cell (p := ⟨b, off + i * 6 + 3, none⟩) hlt).trans x3⟩)
        have HNX : Hid (bareL (L.take (i + 1)) = bareL (L.take i) ++ [.mk nm (ws.map Tk3.bare) bk (bareL kd) 0 0]) := Lib.hid (by
          rw [bareL_next (by rw [HN.out]; exact hin), hp, bareL_one]; rfl)
        have HLE : Hid (ws.length ≤ 6 ∧ cntL kd ≤ 1000000 ∧ FewW kd) := Lib.hid (by
          have h1 := HFW.out.at i (by rw [HN.out]; exact hin)
          have h2 := cntK_mono L (i := i + 1) (j := L.length) (by have := HN.out; omega)
          rw [cntK_all, cntK, hp] at h2
          rw [hp] at h1
          have h3 : cntL kd ≤ 1000000 := by
            have := HM.out
            have : cntL (It.mk nm ws bk kd pa pb).kids = cntL kd := rfl
            omega
          exact ⟨h1.1, h3, h1.2⟩)
        have HW : Hid (∀ W, Below B w W → WordsIs W S wv ws) := Lib.hid (fun W h => hw.keep (fun _ h => h) (fun b hb => h.block b (HB.out ▸ HS.out b hb)))
        have HK : Hid (∀ W, Below B w W → ItemsIs d W S kv kd) := Lib.hid (fun W h => ItemsIs.keep hk (fun _ h => h) (fun b hb => h.block b (HB.out ▸ HS.out b hb)))
        have HDL : Hid (d = 0 → bareL kd = []) := Lib.hid (fun h0 => by
          subst h0
          rw [hk.1]; simp [bareL])
        have HSZ : Hid (B ≤ wr.heap.size) := Lib.hid (by have := HBL.out.size; have := HB.out; omega)
        have HCALL : Hid (∀ W, Below wr.heap.size wr W → Calls Tryd.prog 8 #[kv] W (GivesBare d kd W)) := Lib.hid (fun W h =>
          HIH.out S kv kd W (HK.out W (HBL.out.trans (h.mono HSZ.out))) (fun b hb => Nat.lt_of_lt_of_le (HS.out b hb) (HBL.out.trans (h.mono HSZ.out)).size) HLE.out.2.1 HLE.out.2.2)
        obtain ⟨c0, c1, c2, c3⟩ := HX.out wr HBL.out
        clear x0 x1 x2 x3 x4 x5 hw hk hd' hp hsb
        go_wp2
        go_upto_region 5 with fail
        go_cut [5] from 15 to 31 (fun v5 wx => ∃ g kv2 Sk, v5 = .pointer (some ⟨g, 0, none⟩) ∧ wr.heap.size ≤ g ∧ Var6 wx g (.string nm) (.slice none 0 0) (.bool bk) kv2 (.int .i64 0) (.int .i64 0) ∧ ItemsIs d wx Sk kv2 (bareL kd) ∧ (∀ b, Sk b → wr.heap.size ≤ b ∧ b < wx.heap.size ∧ b ≠ g) ∧ Below wr.heap.size wr wx)
        case first =>
          have HIL : Hid ((i : Int) < (n : Int)) := Lib.hid (by omega)
          have HCP : Hid (0 ≤ (i : Int)) := Lib.hid (by omega)
          refine wp_region_mixu 18 (TB15 [.slice (some ⟨b, off, none⟩) n cap, .int .i64 (i : Int), .pointer (some ⟨b, off + i * 6, none⟩), .pointer (some ⟨b, off + i * 6, none⟩), .string nm, .slice (some ⟨b, off, none⟩) n cap, .int .i64 (i : Int), .pointer (some ⟨b, off + i * 6, none⟩), .pointer (some ⟨b, off + i * 6 + 2, none⟩), .bool bk, .slice (some ⟨b, off, none⟩) n cap, .int .i64 (i : Int), .pointer (some ⟨b, off + i * 6, none⟩), .pointer (some ⟨b, off + i * 6 + 3, none⟩), kv]) (JB wr d (bareL kd) nm bk) (by kernel_rfl) (by kernel_rfl) (fun u => ⟨(Below.refl _ _).drew, fun q => (by cases q), fun q => (by cases q), fun q => (by cases q)⟩) ?_ ?_
          · simp only [List.take_succ_cons, List.take_zero]
            refine (StepsU.cons ?_ (StepsU.cons ?_ (StepsU.cons ?_ (StepsU.cons ?_ (StepsU.cons ?_ (StepsU.cons ?_ (StepsU.cons ?_ (StepsU.cons ?_ (StepsU.cons ?_ (StepsU.cons ?_ (StepsU.cons ?_ (StepsU.cons ?_ (StepsU.cons ?_ (StepsU.cons ?_ (StepsU.cons ?_ (StepsU.cons ?_ (StepsU.cons ?_ (StepsU.cons ?_ StepsU.nil))))))))))))))))))
            · intro u W J hL hJ hd
              simp only [putAll, Act.put, List.setIfInBounds_toArray, List.set_cons_succ, List.set_cons_zero, Nat.zero_add, Nat.reduceAdd]
              have hj1 := hJ.light (j := 0) (by decide)
              go_wp2
              first | exact hj1 _ | exact fun _ => rfl | exact ⟨fun _ => rfl, hj1 _, fun j v' _ _ h => h⟩ | exact ⟨_, rfl, fun _ => rfl, hj1 _, fun j v' _ _ h => h⟩ | exact ⟨fun _ => rfl, hj1 _⟩ | exact ⟨_, rfl, fun _ => rfl, hj1 _⟩
            · intro u W J hL hJ hd
              simp only [putAll, Act.put, List.setIfInBounds_toArray, List.set_cons_succ, List.set_cons_zero, Nat.zero_add, Nat.reduceAdd]
              have hj1 := hJ.light (j := 1) (by decide)
              go_wp2
              first | exact hj1 _ | exact fun _ => rfl | exact ⟨fun _ => rfl, hj1 _, fun j v' _ _ h => h⟩ | exact ⟨_, rfl, fun _ => rfl, hj1 _, fun j v' _ _ h => h⟩ | exact ⟨fun _ => rfl, hj1 _⟩ | exact ⟨_, rfl, fun _ => rfl, hj1 _⟩
            · intro u W J hL hJ hd
              have e0 : u 0 = .slice (some ⟨b, off, none⟩) n cap := (hd.1 rfl (by decide)).2 (by decide)
              have e1 : u 1 = .int .i64 (i : Int) := (hd.2.1 rfl (by decide)).2 (by decide)
              have hil := HIL.out
              have hcp := HCP.out
              simp only [putAll, Act.put, List.setIfInBounds_toArray, List.set_cons_succ, List.set_cons_zero, Nat.zero_add, Nat.reduceAdd]
              rw [e0, e1]
              have hj1 := hJ.light (j := 2) (by decide)
              go_wp2
              first | exact hj1 _ | exact fun _ => rfl | exact ⟨fun _ => rfl, hj1 _, fun j v' _ _ h => h⟩ | exact ⟨_, rfl, fun _ => rfl, hj1 _, fun j v' _ _ h => h⟩ | exact ⟨fun _ => rfl, hj1 _⟩ | exact ⟨_, rfl, fun _ => rfl, hj1 _⟩
            · intro u W J hL hJ hd
              have e0 : u 2 = .pointer (some ⟨b, off + i * 6, none⟩) := (hd.1 rfl (by decide)).2 (by decide)
              simp only [putAll, Act.put, List.setIfInBounds_toArray, List.set_cons_succ, List.set_cons_zero, Nat.zero_add, Nat.reduceAdd]
              rw [e0]
              have hj1 := hJ.light (j := 3) (by decide)
              go_wp2
              first | exact hj1 _ | exact fun _ => rfl | exact ⟨fun _ => rfl, hj1 _, fun j v' _ _ h => h⟩ | exact ⟨_, rfl, fun _ => rfl, hj1 _, fun j v' _ _ h => h⟩ | exact ⟨fun _ => rfl, hj1 _⟩ | exact ⟨_, rfl, fun _ => rfl, hj1 _⟩
            · intro u W J hL hJ hd
              have e0 : u 3 = .pointer (some ⟨b, off + i * 6, none⟩) := (hd.1 rfl (by decide)).2 (by decide)
              obtain ⟨c0, c1, c2, c3⟩ := HX.out W (HBL.out.trans (hJ.bel.mono HSZ.out))
              simp only [putAll, Act.put, List.setIfInBounds_toArray, List.set_cons_succ, List.set_cons_zero, Nat.zero_add, Nat.reduceAdd]
              rw [e0]
              have hj1 := hJ.light (j := 4) (by decide)
              go_wp2
              first | exact hj1 _ | exact fun _ => rfl | exact ⟨fun _ => rfl, hj1 _, fun j v' _ _ h => h⟩ | exact ⟨_, rfl, fun _ => rfl, hj1 _, fun j v' _ _ h => h⟩ | exact ⟨fun _ => rfl, hj1 _⟩ | exact ⟨_, rfl, fun _ => rfl, hj1 _⟩
            · intro u W J hL hJ hd
              simp only [putAll, Act.put, List.setIfInBounds_toArray, List.set_cons_succ, List.set_cons_zero, Nat.zero_add, Nat.reduceAdd]
              have hj1 := hJ.light (j := 5) (by decide)
              go_wp2
              first | exact hj1 _ | exact fun _ => rfl | exact ⟨fun _ => rfl, hj1 _, fun j v' _ _ h => h⟩ | exact ⟨_, rfl, fun _ => rfl, hj1 _, fun j v' _ _ h => h⟩ | exact ⟨fun _ => rfl, hj1 _⟩ | exact ⟨_, rfl, fun _ => rfl, hj1 _⟩
            · intro u W J hL hJ hd
              simp only [putAll, Act.put, List.setIfInBounds_toArray, List.set_cons_succ, List.set_cons_zero, Nat.zero_add, Nat.reduceAdd]
              have hj1 := hJ.light (j := 6) (by decide)
              go_wp2
              first | exact hj1 _ | exact fun _ => rfl | exact ⟨fun _ => rfl, hj1 _, fun j v' _ _ h => h⟩ | exact ⟨_, rfl, fun _ => rfl, hj1 _, fun j v' _ _ h => h⟩ | exact ⟨fun _ => rfl, hj1 _⟩ | exact ⟨_, rfl, fun _ => rfl, hj1 _⟩
            · intro u W J hL hJ hd
              have e0 : u 5 = .slice (some ⟨b, off, none⟩) n cap := (hd.1 rfl (by decide)).2 (by decide)
              have e1 : u 6 = .int .i64 (i : Int) := (hd.2.1 rfl (by decide)).2 (by decide)
              have hil := HIL.out
              have hcp := HCP.out
              simp only [putAll, Act.put, List.setIfInBounds_toArray, List.set_cons_succ, List.set_cons_zero, Nat.zero_add, Nat.reduceAdd]
              rw [e0, e1]
              have hj1 := hJ.light (j := 7) (by decide)
              go_wp2
              first | exact hj1 _ | exact fun _ => rfl | exact ⟨fun _ => rfl, hj1 _, fun j v' _ _ h => h⟩ | exact ⟨_, rfl, fun _ => rfl, hj1 _, fun j v' _ _ h => h⟩ | exact ⟨fun _ => rfl, hj1 _⟩ | exact ⟨_, rfl, fun _ => rfl, hj1 _⟩
            · intro u W J hL hJ hd
              have e0 : u 7 = .pointer (some ⟨b, off + i * 6, none⟩) := (hd.1 rfl (by decide)).2 (by decide)
              simp only [putAll, Act.put, List.setIfInBounds_toArray, List.set_cons_succ, List.set_cons_zero, Nat.zero_add, Nat.reduceAdd]
              rw [e0]
              have hj1 := hJ.light (j := 8) (by decide)
              go_wp2
              first | exact hj1 _ | exact fun _ => rfl | exact ⟨fun _ => rfl, hj1 _, fun j v' _ _ h => h⟩ | exact ⟨_, rfl, fun _ => rfl, hj1 _, fun j v' _ _ h => h⟩ | exact ⟨fun _ => rfl, hj1 _⟩ | exact ⟨_, rfl, fun _ => rfl, hj1 _⟩
            · intro u W J hL hJ hd
              have e0 : u 8 = .pointer (some ⟨b, off + i * 6 + 2, none⟩) := (hd.1 rfl (by decide)).2 (by decide)
              obtain ⟨c0, c1, c2, c3⟩ := HX.out W (HBL.out.trans (hJ.bel.mono HSZ.out))
              simp only [putAll, Act.put, List.setIfInBounds_toArray, List.set_cons_succ, List.set_cons_zero, Nat.zero_add, Nat.reduceAdd]
              rw [e0]
              have hj1 := hJ.light (j := 9) (by decide)
              go_wp2
              first | exact hj1 _ | exact fun _ => rfl | exact ⟨fun _ => rfl, hj1 _, fun j v' _ _ h => h⟩ | exact ⟨_, rfl, fun _ => rfl, hj1 _, fun j v' _ _ h => h⟩ | exact ⟨fun _ => rfl, hj1 _⟩ | exact ⟨_, rfl, fun _ => rfl, hj1 _⟩
            · intro u W J hL hJ hd
              simp only [putAll, Act.put, List.setIfInBounds_toArray, List.set_cons_succ, List.set_cons_zero, Nat.zero_add, Nat.reduceAdd]
              have hj1 := hJ.light (j := 10) (by decide)
              go_wp2
              first | exact hj1 _ | exact fun _ => rfl | exact ⟨fun _ => rfl, hj1 _, fun j v' _ _ h => h⟩ | exact ⟨_, rfl, fun _ => rfl, hj1 _, fun j v' _ _ h => h⟩ | exact ⟨fun _ => rfl, hj1 _⟩ | exact ⟨_, rfl, fun _ => rfl, hj1 _⟩
            · intro u W J hL hJ hd
              simp only [putAll, Act.put, List.setIfInBounds_toArray, List.set_cons_succ, List.set_cons_zero, Nat.zero_add, Nat.reduceAdd]
              have hj1 := hJ.light (j := 11) (by decide)
              go_wp2
              first | exact hj1 _ | exact fun _ => rfl | exact ⟨fun _ => rfl, hj1 _, fun j v' _ _ h => h⟩ | exact ⟨_, rfl, fun _ => rfl, hj1 _, fun j v' _ _ h => h⟩ | exact ⟨fun _ => rfl, hj1 _⟩ | exact ⟨_, rfl, fun _ => rfl, hj1 _⟩
            · intro u W J hL hJ hd
              have e0 : u 10 = .slice (some ⟨b, off, none⟩) n cap := (hd.1 rfl (by decide)).2 (by decide)
              have e1 : u 11 = .int .i64 (i : Int) := (hd.2.1 rfl (by decide)).2 (by decide)
              have hil := HIL.out
              have hcp := HCP.out
              simp only [putAll, Act.put, List.setIfInBounds_toArray, List.set_cons_succ, List.set_cons_zero, Nat.zero_add, Nat.reduceAdd]
              rw [e0, e1]
              have hj1 := hJ.light (j := 12) (by decide)
              go_wp2
              first | exact hj1 _ | exact fun _ => rfl | exact ⟨fun _ => rfl, hj1 _, fun j v' _ _ h => h⟩ | exact ⟨_, rfl, fun _ => rfl, hj1 _, fun j v' _ _ h => h⟩ | exact ⟨fun _ => rfl, hj1 _⟩ | exact ⟨_, rfl, fun _ => rfl, hj1 _⟩
            · intro u W J hL hJ hd
              have e0 : u 12 = .pointer (some ⟨b, off + i * 6, none⟩) := (hd.1 rfl (by decide)).2 (by decide)
              simp only [putAll, Act.put, List.setIfInBounds_toArray, List.set_cons_succ, List.set_cons_zero, Nat.zero_add, Nat.reduceAdd]
              rw [e0]
              have hj1 := hJ.light (j := 13) (by decide)
              go_wp2
              first | exact hj1 _ | exact fun _ => rfl | exact ⟨fun _ => rfl, hj1 _, fun j v' _ _ h => h⟩ | exact ⟨_, rfl, fun _ => rfl, hj1 _, fun j v' _ _ h => h⟩ | exact ⟨fun _ => rfl, hj1 _⟩ | exact ⟨_, rfl, fun _ => rfl, hj1 _⟩
            · intro u W J hL hJ hd
              have e0 : u 13 = .pointer (some ⟨b, off + i * 6 + 3, none⟩) := (hd.1 rfl (by decide)).2 (by decide)
              obtain ⟨c0, c1, c2, c3⟩ := HX.out W (HBL.out.trans (hJ.bel.mono HSZ.out))
              simp only [putAll, Act.put, List.setIfInBounds_toArray, List.set_cons_succ, List.set_cons_zero, Nat.zero_add, Nat.reduceAdd]
              rw [e0]
              have hj1 := hJ.light (j := 14) (by decide)
              go_wp2
              first | exact hj1 _ | exact fun _ => rfl | exact ⟨fun _ => rfl, hj1 _, fun j v' _ _ h => h⟩ | exact ⟨_, rfl, fun _ => rfl, hj1 _, fun j v' _ _ h => h⟩ | exact ⟨fun _ => rfl, hj1 _⟩ | exact ⟨_, rfl, fun _ => rfl, hj1 _⟩
            · intro u W J hL hJ hd
              have e0 : u 14 = kv := (hd.1 rfl (by decide)).2 (by decide)
              simp only [putAll, Act.put, List.setIfInBounds_toArray, List.set_cons_succ, List.set_cons_zero, Nat.zero_add, Nat.reduceAdd]
              rw [e0]
              go_wp2_with (go_at_call 8; (with_reducible refine (HCALL.out W hJ.bel).mono ?_); rintro e W1 ⟨v1, ps1, S1, rfl, hl1, hp1, hs1, hb1⟩; obtain ⟨a1, c1, rfl⟩ := hl1.row.size; have hkl : (ps1.map ItV.cells).length = (bareL kd).length := (by rw [← hp1, List.length_map, List.length_map]); rw [hkl] at hl1 ⊢; have hj1 := hJ.call hL hb1 (kidsOf hl1 hp1 HDL.out) (fun b hb => hb.elim (fun h => hs1 b h) (fun h => hl1.row.lt h)))
              first | exact hj1 | exact ⟨hj1, fun j v' _ _ h => h⟩ | exact fun q => absurd q (by decide) | exact ⟨fun q => absurd q (by decide), hj1⟩ | exact ⟨_, rfl, fun q => absurd q (by decide), hj1⟩ | exact ⟨_, rfl, fun q => absurd q (by decide), hj1, fun j v' _ _ h => h⟩ | exact ⟨fun q => absurd q (by decide), hj1, fun j v' _ _ h => h⟩
            · intro u W J hL hJ hd
              have e0 : u 4 = .string nm := (hd.1 rfl (by decide)).2 (by decide)
              have e1 : u 9 = .bool bk := (hd.2.1 rfl (by decide)).2 (by decide)
              have h2 : J 15 = true := (hd.2.2.1 rfl (by decide)).1
              have h15 := h2
              obtain ⟨a1, c1, hu15, _⟩ := hJ.kid h15
              have hj1 := hJ.build h15
              rw [hu15] at hj1
              simp only [putAll, Act.put, List.setIfInBounds_toArray, List.set_cons_succ, List.set_cons_zero, Nat.zero_add, Nat.reduceAdd]
              rw [e0, e1, hu15]
              go_wp2
              first | exact hj1 | exact ⟨hj1, fun j v' _ _ h => h⟩ | exact fun q => absurd q (by decide) | exact ⟨fun q => absurd q (by decide), hj1⟩ | exact ⟨_, rfl, fun q => absurd q (by decide), hj1⟩ | exact ⟨_, rfl, fun q => absurd q (by decide), hj1, fun j v' _ _ h => h⟩ | exact ⟨fun q => absurd q (by decide), hj1, fun j v' _ _ h => h⟩
            · intro u W J hL hJ hd
              have hj1 := hJ.alloc
              simp only [putAll, Act.put, List.setIfInBounds_toArray, List.set_cons_succ, List.set_cons_zero, Nat.zero_add, Nat.reduceAdd]
              go_wp2
              first | exact ⟨fun q => absurd q (by decide), fun j v' _ _ h => h⟩ | exact ⟨fun q => absurd q (by decide), hj1, fun j v' _ _ h => h⟩
          · intro u W J hall hJ hT
            obtain ⟨a1, c1, e15, Sk, hsk, hik⟩ := hJ.kid (hall 15 (by decide))
            obtain ⟨_, e16⟩ := hJ.bld (hall 16 (by decide))
            obtain ⟨g, e17, hg1, hg2, hv⟩ := hJ.var (hall 17 (by decide))
            have hbw := hJ.bel
            have e0 : u 0 = .slice (some ⟨b, off, none⟩) n cap := hT 0 (by decide) (by decide)
            have e1 : u 1 = .int .i64 (i : Int) := hT 1 (by decide) (by decide)
            have e2 : u 2 = .pointer (some ⟨b, off + i * 6, none⟩) := hT 2 (by decide) (by decide)
            have e3 : u 3 = .pointer (some ⟨b, off + i * 6, none⟩) := hT 3 (by decide) (by decide)
            have e4 : u 4 = .string nm := hT 4 (by decide) (by decide)
            have e5 : u 5 = .slice (some ⟨b, off, none⟩) n cap := hT 5 (by decide) (by decide)
            have e6 : u 6 = .int .i64 (i : Int) := hT 6 (by decide) (by decide)
            have e7 : u 7 = .pointer (some ⟨b, off + i * 6, none⟩) := hT 7 (by decide) (by decide)
            have e8 : u 8 = .pointer (some ⟨b, off + i * 6 + 2, none⟩) := hT 8 (by decide) (by decide)
            have e9 : u 9 = .bool bk := hT 9 (by decide) (by decide)
            have e10 : u 10 = .slice (some ⟨b, off, none⟩) n cap := hT 10 (by decide) (by decide)
            have e11 : u 11 = .int .i64 (i : Int) := hT 11 (by decide) (by decide)
            have e12 : u 12 = .pointer (some ⟨b, off + i * 6, none⟩) := hT 12 (by decide) (by decide)
            have e13 : u 13 = .pointer (some ⟨b, off + i * 6 + 3, none⟩) := hT 13 (by decide) (by decide)
            have e14 : u 14 = kv := hT 14 (by decide) (by decide)
            have HSK : Hid (∀ b, Sk b → wr.heap.size ≤ b ∧ b < W.heap.size ∧ b ≠ g) := Lib.hid (fun b hb => ⟨(hsk b hb).1, (hsk b hb).2.1, (hsk b hb).2.2 (hall 17 (by decide)) g e17⟩)
            rw [e15] at e16 hik
            have HIK := Lib.hid hik
            have HV6 := Lib.hid (hv.put (.string nm) (.slice none 0 0) (.bool bk) (.slice a1 (bareL kd).length c1) (.int .i64 0) (.int .i64 0))
            have HBF := Lib.hid (below_put6 hbw hg1 (.string nm) (.slice none 0 0) (.bool bk) (.slice a1 (bareL kd).length c1) (.int .i64 0) (.int .i64 0))
            have HG1 := Lib.hid hg1
            obtain ⟨y0, y1, y2, y3, y4, y5, yq, _⟩ := hv
            simp only [List.take_succ_cons, List.take_zero, List.drop_succ_cons, List.drop_zero, putAll, Act.put, List.setIfInBounds_toArray, List.set_cons_succ, List.set_cons_zero, Nat.zero_add, Nat.reduceAdd]
            rw [e0, e1, e2, e3, e4, e5, e6, e7, e8, e9, e10, e11, e12, e13, e14, e15, e16, e17]
            clear e0 e1 e2 e3 e4 e5 e6 e7 e8 e9 e10 e11 e12 e13 e14 e15 e16 e17 hT hall hJ hsk hik hbw hg1 hg2
            go_wp2
            go_meet
            exact ⟨g, .slice a1 (bareL kd).length c1, Sk, rfl, HG1.out, HV6.out, ItemsIs.keep HIK.out (fun _ h => h) (fun b hb => put6_else _ _ _ _ _ _ _ _ _ (HSK.out b hb).2.2), fun b hb => ⟨(HSK.out b hb).1, Nat.lt_of_lt_of_le (HSK.out b hb).2.1 (Nat.le_of_eq (put6_size _ _ _ _ _ _ _ _).symm), (HSK.out b hb).2.2⟩, HBF.out⟩
        case rest =>
          obtain ⟨g, kv2, Sk, rfl, hg, hv6, hik, hsk, hbc⟩ := hcut
          obtain ⟨Z, hZ⟩ : ∃ z, wc.heap.size = z := ⟨_, rfl⟩
          obtain ⟨m, hm⟩ : ∃ m, ws.length = m := ⟨_, rfl⟩
          have HZ := Lib.hid hZ
          have HMM := Lib.hid hm
          have HG := Lib.hid hg
          have HV6 := Lib.hid hv6
          have HIK := Lib.hid hik
          have HSK := Lib.hid hsk
          have HBC := Lib.hid hbc
          have HBZ := Lib.hid (HBL.out.trans (hbc.mono HSZ.out))
          have HGZ : Hid (g < Z) := Lib.hid (hZ ▸ hv6.s)
          have HBG : Hid (B ≤ g) := Lib.hid (Nat.le_trans HSZ.out hg)
          obtain ⟨aw, cw, hwv⟩ := (HW.out wc HBZ.out).size
          rw [hm] at hwv
          subst hwv
          have hm6 : m ≤ 6 := by have := HLE.out.1; omega
          have HVS := Lib.hid hv6
          clear hg hv6 hik hsk hbc hZ hm
          obtain ⟨wo, rfl⟩ : ∃ x, x = wr := ⟨wr, rfl⟩
          go_wp2
          go_loopw [6] (fun v6 wx => ∃ (k : Nat) (vw : Value), k ≤ m ∧ v6 = .int .i64 (k : Int) ∧ Var6 wx g (.string nm) vw (.bool bk) kv2 (.int .i64 0) (.int .i64 0) ∧ RowK 41 5 wx Z vw (bareV ws k) ∧ OnlyO B (fun i => i = g) wc wx) (fun v6 _ => m - (intOf v6).toNat)
          case atStart => exact ⟨0, .slice none 0 0, Nat.zero_le _, rfl, HVS.out, by rw [bareV_zero]; exact RowK.nil _ _ _ _, OnlyO.refl _ _ _⟩
          case round =>
            obtain ⟨wx, rfl⟩ : ∃ x, x = wr := ⟨wr, rfl⟩
            obtain ⟨k, vw, hk, rfl, hv, hrow, ho⟩ := hrel
            have HVX := Lib.hid hv
            have HRX := Lib.hid hrow
            have HOX := Lib.hid ho
            have HBX := Lib.hid (HBZ.out.trans ho.bel)
            have j1 := (HX.out wx HBX.out).2.1
            clear hv hrow ho
            by_cases hkm : k < m
            · obtain ⟨aw', cw', hwe, hwc, hwcell⟩ := HW.out wx HBX.out
              simp only [Value.slice.injEq] at hwe
              obtain ⟨rfl, hl0, rfl⟩ := hwe
              obtain ⟨b1, o1, rfl, _, t0, t1, t2, t3, t4⟩ := hwcell k (by rw [HMM.out]; exact hkm)
              obtain ⟨t, ht⟩ : ∃ t, ws.getD k {} = t := ⟨_, rfl⟩
              rw [ht] at t0 t1 t2 t3 t4
              have HNT : Hid (bareV ws (k + 1) = bareV ws k ++ [tkV t.bare]) := Lib.hid (by rw [bareV_next (by rw [HMM.out]; exact hkm), ht])
              have HNL : Hid ((bareV ws k).length = k) := Lib.hid (bareV_len (by rw [HMM.out]; omega))
              obtain ⟨gt, W5, W6, tv⟩ := tok_var wx t
              have h0 := tv.g0; have ha := tv.a5; have hs := tv.s6
              have b6 := tv.b6
              have z6 := tv.z6
              have x0 := tv.f5.c0; have xq0 := tv.f5.q 0; have x1 := tv.f5.c1; have xq1 := tv.f5.q 1; have x2 := tv.f5.c2; have xq2 := tv.f5.q 2; have x3 := tv.f5.c3; have xq3 := tv.f5.q 3; have x4 := tv.f5.c4; have xq4 := tv.f5.q 4
              have y0 := tv.f6.c0; have yq0 := tv.f6.q 0; have y1 := tv.f6.c1; have yq1 := tv.f6.q 1; have y2 := tv.f6.c2; have yq2 := tv.f6.q 2; have y3 := tv.f6.c3; have yq3 := tv.f6.q 3; have y4 := tv.f6.c4; have yq4 := tv.f6.q 4
              obtain ⟨W7, hW7⟩ : ∃ W, ((W6.setCell ⟨gt, 3, none⟩ (.int .i64 0)).setCell ⟨gt, 4, none⟩ (.int .i64 0)) = W := ⟨_, rfl⟩
              have F7 : Var5 W7 gt (.int .i64 t.k) (.string t.s) (.int .u64 t.n) (.int .i64 0) (.int .i64 0) := by rw [← hW7]; exact tv.f6.put34 _ _
              have b7 : Below wx.heap.size wx W7 := by rw [← hW7]; exact (b6.setCell (by show wx.heap.size ≤ gt; omega) _).setCell (by show wx.heap.size ≤ gt; omega) _
              obtain ⟨g8, W8, hg8, hW8, u8, b8, zz8⟩ := tok_box W7 t.bare
              have hW8' : W7.alloc (.cells #[.int .i64 t.k, .string t.s, .int .u64 t.n, .int .i64 0, .int .i64 0] 41) = W8 := hW8
              have CA : Hid (∀ j, j < 5 → W8.cell? ⟨g8, j, none⟩ = some ((tkV t.bare).getD j undef)) := Lib.hid (tok_cells u8.c0 u8.c1 u8.c2 u8.c3 u8.c4)
              have hb8 : Below wx.heap.size wx W8 := b7.trans (b8.mono b7.size)
              have HB8 := Lib.hid hb8
              have HR8 := Lib.hid (HRX.out.below hb8)
              have V7 := HVX.out.after b7
              have v7c := V7.c1
              have V8 := HVX.out.after hb8
              have HV8 := Lib.hid V8
              have e0 := F7.c0; have e1 := F7.c1; have e2 := F7.c2; have e3 := F7.c3; have e4 := F7.c4
              have HSZ8 : Hid (Z ≤ W8.heap.size) := Lib.hid (by have := hb8.size; have := HOX.out.size; have := HZ.out; omega)
              have HLT6 : Hid ((bareV ws k).length ≤ 1000000) := Lib.hid (by rw [HNL.out]; omega)
              have hi1 : IntKind.i64.wrap ((k : Int) + 1) = ((k + 1 : Nat) : Int) := by rw [IntKind.wrap_i64]; omega
              obtain ⟨avw, cvw, hvw⟩ := HRX.out.size
              rw [HNL.out] at hvw
              subst hvw
              clear tv u8 b8 zz8 hW8 V7 V8 hb8 b7 b6 F7 ht hl0 hwc hwcell
              go_wp2_with (at_builtin; (refine wp_rowK (T := 35) (t := 41) (sz := 5) rfl _ _ rfl Tryd.underlying35 info_tok rfl (by decide) (by decide) Z _ _ rfl HR8.out g8 (tkV t.bare) rfl rfl CA.out (tkV_one _) HLT6.out HSZ8.out ?_))
              intro v9 w9 hr9 ho9 _
              rw [← HNT.out] at hr9
              obtain ⟨a9, c9, hv9⟩ := hr9.size
              obtain ⟨m9, hm9⟩ : ∃ q, (bareV ws (k + 1)).length = q := ⟨_, rfl⟩
              rw [hm9] at hv9
              subst hv9
              have V9 := HV8.out.stay (ho9.bel.block g HGZ.out) ho9.size
              have i1 := V9.c1
              have iq := V9.q 1
              have HVN := Lib.hid (V9.set1 (.slice a9 m9 c9))
              have HRN : Hid (RowK 41 5 (w9.setCell ⟨g, 1, none⟩ (.slice a9 m9 c9)) Z (.slice a9 m9 c9) (bareV ws (k + 1))) := Lib.hid (by
                exact hr9.kept (fun b hb => sset_else _ _ _ _ _ (by have := (hr9.lt hb).1; have := HGZ.out; omega)))
              have HON : Hid (OnlyO B (fun i => i = g) wc (w9.setCell ⟨g, 1, none⟩ (.slice a9 m9 c9))) := Lib.hid (((HOX.out.past (HB8.out.mono HOX.out.size) (by have := HZ.out; have := HGZ.out; have := HBG.out; omega)).past (by rw [HZ.out]; exact ho9.bel) (by have := HZ.out; have := HGZ.out; have := HBG.out; omega)).set rfl HBG.out _ _)
              clear hr9 ho9 V9 hm9
              go_wp2
              go_roundw
              case rel => exact ⟨k + 1, _, by omega, by go_num, HVN.out, HRN.out, HON.out⟩
              case measure => simp [intOf]; omega
            · have ekm : m = k := by omega
              subst ekm
              have y0 := HVX.out.c0; have y1 := HVX.out.c1; have y2 := HVX.out.c2; have y3 := HVX.out.c3; have y4 := HVX.out.c4; have y5 := HVX.out.c5
              obtain ⟨gi, hgi⟩ : ∃ gg, wx.heap.size = gg := ⟨_, rfl⟩
              obtain ⟨W10, hW10⟩ : ∃ W, wx.alloc (.cells #[.string nm, vw, .bool bk, kv2, .int .i64 0, .int .i64 0] 37) = W := ⟨_, rfl⟩
              obtain ⟨p, hp⟩ : ∃ p : ItV, p = ⟨.mk nm (ws.map Tk3.bare) bk (bareL kd) 0 0, vw, kv2⟩ := ⟨_, rfl⟩
              have CA : Hid (∀ j, j < 6 → W10.cell? ⟨gi, j, none⟩ = some (p.cells.getD j undef)) := Lib.hid (by rw [← hW10, ← hgi, hp]; exact item_cells (p := ⟨.mk nm (ws.map Tk3.bare) bk (bareL kd) 0 0, vw, kv2⟩))
              have h10 : Below wx.heap.size wx W10 := by rw [← hW10]; exact (Below.refl _ _).alloc (Nat.le_refl _) _
              have H10 := Lib.hid h10
              have HKEEP : Hid (∀ b, b < wo.heap.size → W10.heap[b]? = wo.heap[b]?) := Lib.hid (fun b hb => ((h10.block b (Nat.lt_of_lt_of_le hb (Nat.le_trans HBC.out.size HOX.out.size))).trans (HOX.out.keep b (Nat.lt_of_lt_of_le hb HBC.out.size) (fun e => by have := HG.out; omega))).trans (HBC.out.block b hb))
              have HRW := Lib.hid (HR.out.row.kept (fun b e => HKEEP.out b (HR.out.row.lt e).2))
              have hwv : vw.oneCell' = true := by obtain ⟨a, c, rfl⟩ := HRX.out.size; rfl
              have HPO : Hid (∀ u ∈ p.cells, u.oneCell' = true) := Lib.hid (by rw [hp]; exact itv_one hwv HIK.out.one)
              have HLP : Hid ((ps.map ItV.cells).length ≤ 1000000) := Lib.hid (by
                have h1 := congrArg List.length HPS.out
                rw [List.length_map, bareL_len, List.length_take] at h1
                rw [List.length_map, h1]; omega)
              have HSZ10 : Hid (B ≤ W10.heap.size) := Lib.hid (by have := h10.size; have := HBX.out.size; have := HB.out; omega)
              have HPX := Lib.hid hp
              clear hp h10 hwv
              go_wp2_with (at_builtin; (refine wp_rowK (T := 23) (t := 37) (sz := 6) rfl _ _ rfl Tryd.underlying23 info_item rfl (by decide) (by decide) B _ _ rfl HRW.out gi p.cells rfl rfl CA.out HPO.out HLP.out HSZ10.out ?_))
              intro v11 w11 hr11 ho11 hob11
              have hz1 := HZ.out
              have hz2 := HBC.out.size
              have hz3 := HOX.out.size
              have hz4 := H10.out.size
              have k11 : ∀ b, wo.heap.size ≤ b → b < wx.heap.size → w11.heap[b]? = wx.heap[b]? := fun b h1 h2 => (ho11.keep b (by omega) (fun e => by have := (HR.out.row.lt e.symm).2; omega)).trans (H10.out.block b h2)
              have HNEW : Hid (ListIs d w11 (fun b => Sx b ∨ (wo.heap.size ≤ b ∧ b < wx.heap.size ∧ b ≠ g)) B v11 (ps ++ [p])) := Lib.hid (by
                refine HR.out.push hr11 (fun b hb => Or.inl hb) (fun b hb => (ho11.keep b (by have := (HSX.out b hb).2; omega) (fun e => HR.out.out b e.symm hb)).trans (HKEEP.out b (HSX.out b hb).2)) ?_ ?_ (fun b hb => ?_)
                · have hw : WordsIs wx (fun b => Z ≤ b ∧ b < wx.heap.size) vw (ws.map Tk3.bare) := RowK.words (by have := HRX.out; rw [← HMM.out, bareV_all] at this; exact this) (fun b hb => HRX.out.lt hb)
                  rw [HPX.out]
                  exact hw.keep (fun b hb => Or.inr ⟨by omega, hb.2, by have := HGZ.out; omega⟩) (fun b hb => k11 b (by omega) hb.2)
                · rw [HPX.out]
                  refine ItemsIs.keep HIK.out (fun b hb => ?_) (fun b hb => ?_)
                  · have := HSK.out b hb
                    exact Or.inr ⟨this.1, by omega, this.2.2⟩
                  · have := HSK.out b hb
                    exact (k11 b this.1 (by omega)).trans (HOX.out.keep b this.2.1 this.2.2)
                · rcases hob11 with e | e
                  · rw [e] at hb
                    rintro (hx | hx)
                    · exact HR.out.out b hb hx
                    · have := (HR.out.row.lt hb).2; omega
                  · rw [e] at hb
                    injection hb with hb
                    rintro (hx | hx)
                    · have := (HSX.out b hx).2; omega
                    · omega)
              have HSN : Hid (∀ b, (Sx b ∨ (wo.heap.size ≤ b ∧ b < wx.heap.size ∧ b ≠ g)) → B ≤ b ∧ b < w11.heap.size) := Lib.hid (fun b hb => by
                have := ho11.size
                rcases hb with hb | hb
                · have := HSX.out b hb; exact ⟨this.1, by omega⟩
                · exact ⟨by have := HSZ.out; omega, by omega⟩)
              have HBN := Lib.hid ((HBX.out.trans (H10.out.mono (by have := HBX.out.size; have := HB.out; omega))).trans ho11.bel)
              have HPN : Hid ((ps ++ [p]).map ItV.x = bareL (L.take (i + 1))) := Lib.hid (by rw [List.map_append, HPS.out, HNX.out, HPX.out]; rfl)
              clear hr11 ho11 hob11 k11 hz1 hz2 hz3 hz4
              go_wp2
              go_roundw
              case rel => exact ⟨i + 1, ps ++ [p], _, by omega, by go_num, HNEW.out, HPN.out, HSN.out, HBN.out⟩
              case measure => simp [intOf]; omega
      · have en : n = i := by omega
        subst en
        go_wp2
        go_ret
        refine ⟨_, ps, Sx, rfl, by rw [HB.out]; exact HR.out, ?_, by rw [HB.out]; exact HSX.out, by rw [HB.out]; exact HBL.out⟩
        have := HPS.out
        rw [List.take_of_length_le (by rw [HN.out]; exact Nat.le_refl _)] at this
        exact this

end Go.Proofs.YthfmllgflnideaaDoor
