/-
  Trees' tokens, item by item; words as cells.
-/
import Derived.Test.YtmgimkokmlcllaaGreatDoorPkTrel
import Derived.Test.YtmgimkokmlcllaaGreatDoorPkTrem
import Derived.Test.YtmgimkokmlcllaaGreatDoorPkMixs
import Derived.Deep.QuietTactic
import Derived.Test.YtmgimkokmlcllaaGreatDoorPkTrea
import Derived.Test.YtmgimkokmlcllaaGreatDoorPkTrep
namespace Go.Proofs.YtmgimkokmlcllaaGreatDoor
open Go.RowKit

theorem tk_take {L : List It} {i : Nat} (h : i < L.length) : L.take (i + 1) = L.take i ++ [L.getD i default] := by
  rw [List.take_add_one, List.getD_eq_getElem?_getD, List.getElem?_eq_getElem h]; rfl
end Go.Proofs.YtmgimkokmlcllaaGreatDoor

/-
  Trees of sources have few words in an item: plain.
-/
namespace Go.Proofs.YtmgimkokmlcllaaGreatDoor

/-- At most six words in each item. -/
def FewW : List It → Prop
  | [] => True
  | .mk _ w _ kids _ _ :: l => w.length ≤ 6 ∧ FewW kids ∧ FewW l
end Go.Proofs.YtmgimkokmlcllaaGreatDoor

/-
  The document's Bare, of trees in memory.
-/
namespace Go.Proofs.YtmgimkokmlcllaaGreatDoor
open Go.RowKit

theorem bareL_one (x : It) : bareL [x] = [.mk x.name (x.words.map Tk3.bare) x.block (bareL x.kids) 0 0] := by
  obtain ⟨n, w, k, kids, a, b⟩ := x
  simp [bareL, It.name, It.words, It.block, It.kids]
theorem bareL_next {L : List It} {i : Nat} (h : i < L.length) : bareL (L.take (i + 1)) = bareL (L.take i) ++ bareL [L.getD i default] := by
  rw [tk_take h, bareL_app]
theorem bareL_len : ∀ L : List It, (bareL L).length = L.length
  | [] => by simp [bareL]
  | .mk n w k kids a b :: L => by rw [bareL, List.length_cons, List.length_cons, bareL_len L]
/-- What Bare gives. -/
def GivesBare (d : Nat) (L : List It) (w : World) (e : Ending) (w' : World) : Prop :=
  ∃ v ps Sx, e = .returned v ∧ ListIs (d - 1) w' Sx w.heap.size v ps ∧ ps.map ItV.x = bareL L ∧ (∀ b, Sx b → w.heap.size ≤ b ∧ b < w'.heap.size) ∧ Below w.heap.size w w'

/-- The cells of the first words, without places. -/
def bareV (ws : List Tk3) (k : Nat) : List (List Value) := ((ws.take k).map Tk3.bare).map tkV
theorem bareV_zero (ws : List Tk3) : bareV ws 0 = [] := by simp [bareV]
theorem bareV_next {ws : List Tk3} {k : Nat} (h : k < ws.length) : bareV ws (k + 1) = bareV ws k ++ [tkV (ws.getD k {}).bare] := by
  unfold bareV
  have e : ws.take (k + 1) = ws.take k ++ [ws.getD k {}] := by
    rw [List.take_add_one, List.getD_eq_getElem?_getD, List.getElem?_eq_getElem h]; rfl
  rw [e, List.map_append, List.map_append]; rfl
theorem bareV_len {ws : List Tk3} {k : Nat} (h : k ≤ ws.length) : (bareV ws k).length = k := by
  unfold bareV
  rw [List.length_map, List.length_map, List.length_take]; omega
theorem bareV_all (ws : List Tk3) : bareV ws ws.length = (ws.map Tk3.bare).map tkV := by
  unfold bareV
  rw [List.take_length]
/-- What Bare gives of kids, as kids. -/
theorem kidsOf {d : Nat} {w : World} {S : Nat → Prop} {base : Nat} {v : Value} {ps : List ItV} {K : List It} (h : ListIs (d - 1) w S base v ps) (hp : ps.map ItV.x = K) (hd : d = 0 → K = []) : ItemsIs d w (fun b => S b ∨ v.ownBlock = some b) v K := by
  subst hp
  cases d with
  | zero =>
    have h0 := hd rfl
    rw [h0]
    have hl : ps.length = 0 := by rw [← List.length_map (f := ItV.x), h0]; rfl
    obtain ⟨a, c, hv⟩ := h.row.size
    rw [List.length_map, hl] at hv
    subst hv
    exact ItemsIs.none' _ _ _ _ _
  | succ d => exact h.items (fun b hb => Or.inl hb) (fun b hb => Or.inr hb)

/-- What each operation has made ahead of the call. -/
def TB15 (l : List Value) : Nat → Value → World → Prop := fun k v _ => k < 15 → v = l.getD k undef
/-- How the world stands by what has come up of 'x := api.Item{.., Kids: Bare(l[i].Kids)}'. -/
structure JB (wr : World) (d : Nat) (K : List It) (nm : ByteArray) (bk : Bool) (u : Nat → Value) (L : Nat → Bool) (W : World) : Prop where
  bel : Below wr.heap.size wr W
  kid : L 15 = true → ∃ a c, u 15 = .slice a K.length c ∧ ∃ Sk : Nat → Prop, (∀ b, Sk b → wr.heap.size ≤ b ∧ b < W.heap.size ∧ (L 17 = true → ∀ g, u 17 = .pointer (some ⟨g, 0, none⟩) → b ≠ g)) ∧ ItemsIs d W Sk (u 15) K
  bld : L 16 = true → L 15 = true ∧ u 16 = .agg #[.string nm, .slice none 0 0, .bool bk, u 15, .int .i64 0, .int .i64 0]
  var : L 17 = true → ∃ g, u 17 = .pointer (some ⟨g, 0, none⟩) ∧ wr.heap.size ≤ g ∧ g < W.heap.size ∧ Var6 W g (.string ⟨#[]⟩) (.slice none 0 0) (.bool false) (.slice none 0 0) (.int .i64 0) (.int .i64 0)
theorem JB.light {wr : World} {d : Nat} {K : List It} {nm : ByteArray} {bk : Bool} {u : Nat → Value} {L : Nat → Bool} {W : World} (h : JB wr d K nm bk u L W) {j : Nat} (hj : j < 15) (v : Value) : JB wr d K nm bk (upd u j v) (setL L j) W := by
  have e : ∀ i, 15 ≤ i → setL L j i = L i := fun i hi => setL_ne L (by omega)
  have e2 : ∀ i, 15 ≤ i → upd u j v i = u i := fun i hi => by unfold upd; rw [if_neg (by omega)]
  obtain ⟨h1, h2, h3, h4⟩ := h
  refine ⟨h1, ?_, ?_, ?_⟩
  · rw [e 15 (by omega), e 17 (by omega), e2 15 (by omega), e2 17 (by omega)]; exact h2
  · rw [e 16 (by omega), e 15 (by omega), e2 16 (by omega), e2 15 (by omega)]; exact h3
  · rw [e 17 (by omega), e2 17 (by omega)]; exact h4
theorem JB.call {wr : World} {d : Nat} {K : List It} {nm : ByteArray} {bk : Bool} {u : Nat → Value} {L : Nat → Bool} {W W' : World} (h : JB wr d K nm bk u L W) (hL : L 15 = false) (hb : Below W.heap.size W W') {a : Option Addr} {c : Nat} {Sk : Nat → Prop} (hi : ItemsIs d W' Sk (.slice a K.length c) K) (hs : ∀ b, Sk b → W.heap.size ≤ b ∧ b < W'.heap.size) : JB wr d K nm bk (upd u 15 (.slice a K.length c)) (setL L 15) W' := by
  have e : ∀ i, i ≠ 15 → setL L 15 i = L i := fun i hi => setL_ne L hi
  have e2 : ∀ i, i ≠ 15 → upd u 15 (.slice a K.length c) i = u i := fun i hi => by unfold upd; rw [if_neg hi]
  have e3 : upd u 15 (.slice a K.length c) 15 = .slice a K.length c := by unfold upd; rw [if_pos rfl]
  obtain ⟨h1, h2, h3, h4⟩ := h
  have hsz := h1.size
  refine ⟨h1.trans (hb.mono hsz), fun _ => ?_, ?_, ?_⟩
  · rw [e3, e 17 (by decide), e2 17 (by decide)]
    refine ⟨a, c, rfl, Sk, fun b hb2 => ⟨Nat.le_trans hsz (hs b hb2).1, (hs b hb2).2, fun h17 g hg e => ?_⟩, hi⟩
    obtain ⟨g', hg', _, hlt, _⟩ := h4 h17
    rw [hg] at hg'
    injection hg' with hg'
    injection hg' with hg'
    injection hg' with hg'
    have := (hs b hb2).1
    omega
  · rw [e 16 (by decide), e2 16 (by decide)]
    intro h16
    have := (h3 h16).1
    rw [hL] at this; cases this
  · rw [e 17 (by decide), e2 17 (by decide)]
    intro h17
    obtain ⟨g, hg, h5, h6, h7⟩ := h4 h17
    exact ⟨g, hg, h5, Nat.lt_of_lt_of_le h6 hb.size, h7.after hb⟩
theorem JB.build {wr : World} {d : Nat} {K : List It} {nm : ByteArray} {bk : Bool} {u : Nat → Value} {L : Nat → Bool} {W : World} (h : JB wr d K nm bk u L W) (h15 : L 15 = true) : JB wr d K nm bk (upd u 16 (.agg #[.string nm, .slice none 0 0, .bool bk, u 15, .int .i64 0, .int .i64 0])) (setL L 16) W := by
  have e : ∀ i, i ≠ 16 → setL L 16 i = L i := fun i hi => setL_ne L hi
  have e2 : ∀ i, i ≠ 16 → upd u 16 (.agg #[.string nm, .slice none 0 0, .bool bk, u 15, .int .i64 0, .int .i64 0]) i = u i := fun i hi => by unfold upd; rw [if_neg hi]
  have e3 : upd u 16 (.agg #[.string nm, .slice none 0 0, .bool bk, u 15, .int .i64 0, .int .i64 0]) 16 = .agg #[.string nm, .slice none 0 0, .bool bk, u 15, .int .i64 0, .int .i64 0] := by unfold upd; rw [if_pos rfl]
  obtain ⟨h1, h2, h3, h4⟩ := h
  refine ⟨h1, ?_, fun _ => ?_, ?_⟩
  · rw [e 15 (by decide), e 17 (by decide), e2 15 (by decide), e2 17 (by decide)]; exact h2
  · rw [e 15 (by decide), e2 15 (by decide), e3]; exact ⟨h15, rfl⟩
  · rw [e 17 (by decide), e2 17 (by decide)]; exact h4
theorem JB.alloc {wr : World} {d : Nat} {K : List It} {nm : ByteArray} {bk : Bool} {u : Nat → Value} {L : Nat → Bool} {W : World} (h : JB wr d K nm bk u L W) : JB wr d K nm bk (upd u 17 (.pointer (some ⟨W.heap.size, 0, none⟩))) (setL L 17) (W.alloc (.cells #[.string ⟨#[]⟩, .slice none 0 0, .bool false, .slice none 0 0, .int .i64 0, .int .i64 0] 51)) := by
  have e : ∀ i, i ≠ 17 → setL L 17 i = L i := fun i hi => setL_ne L hi
  have e2 : ∀ i, i ≠ 17 → upd u 17 (.pointer (some ⟨W.heap.size, 0, none⟩)) i = u i := fun i hi => by unfold upd; rw [if_neg hi]
  have e3 : upd u 17 (.pointer (some ⟨W.heap.size, 0, none⟩)) 17 = .pointer (some ⟨W.heap.size, 0, none⟩) := by unfold upd; rw [if_pos rfl]
  have hb : Below W.heap.size W (W.alloc (.cells #[.string ⟨#[]⟩, .slice none 0 0, .bool false, .slice none 0 0, .int .i64 0, .int .i64 0] 51)) := (Below.refl _ _).alloc (Nat.le_refl _) _
  obtain ⟨h1, h2, h3, h4⟩ := h
  have hsz := h1.size
  refine ⟨h1.trans (hb.mono hsz), ?_, ?_, fun _ => ?_⟩
  · rw [e 15 (by decide), e2 15 (by decide), e3]
    intro h15
    obtain ⟨a, c, e5, Sk, hs, hi⟩ := h2 h15
    refine ⟨a, c, e5, Sk, fun b hb2 => ⟨(hs b hb2).1, Nat.lt_of_lt_of_le (hs b hb2).2.1 hb.size, fun _ g hg e => ?_⟩, ItemsIs.keep hi (fun _ h => h) (fun b hb2 => hb.block b (hs b hb2).2.1)⟩
    injection hg with hg
    injection hg with hg
    injection hg with hg
    have := (hs b hb2).2.1
    omega
  · rw [e 16 (by decide), e 15 (by decide), e2 16 (by decide), e2 15 (by decide)]; exact h3
  · rw [e3]
    exact ⟨_, rfl, hsz, by simp, Var6.fresh _ _ _ _ _ _ _ _ _ rfl⟩

end Go.Proofs.YtmgimkokmlcllaaGreatDoor
