/-
  Rows of one-cell values of the call's own, nil among them ('var l []T', then 'l = append(l, x)'); lists of bytes in such a row, in memory of their own.
-/
import Derived.Test.YtiephcjdbndjaaaDoorRow
import Derived.Test.YtiephcjdbndjaaaDoorLists
namespace Go.Proofs.YtiephcjdbndjaaaDoor
open Go.RowKit

/-- A slice of the call's own, or nil. -/
structure RowN (t : TypeId) (w : World) (base : Nat) (v : Value) (vs : List Value) : Prop where
  own : w.ownsRow base t 1 v vs.length vs
  one : ∀ u ∈ vs, u.oneCell' = true
theorem RowN.nil (t : TypeId) (w : World) (base : Nat) : RowN t w base (.slice none 0 0) [] := ⟨World.ownsRow_nil w base _ _, fun u hu => by cases hu⟩
theorem OwnRow.rowN {t : TypeId} {w : World} {base : Nat} {v : Value} {vs : List Value} (h : OwnRow t w base v vs) : RowN t w base v vs := ⟨h.own, h.one⟩
theorem RowN.cases {t : TypeId} {w : World} {base : Nat} {v : Value} {vs : List Value} (h : RowN t w base v vs) : (v = .slice none 0 0 ∧ vs = []) ∨ OwnRow t w base v vs := by
  by_cases hn : v = .slice none 0 0
  · refine Or.inl ⟨hn, ?_⟩
    subst hn
    rcases h.own.2 with ⟨_, h0⟩ | ⟨g, cap, cur, e, _⟩
    · exact List.eq_nil_of_length_eq_zero (by simpa using h0)
    · simp at e
  · exact Or.inr ⟨h.own, hn, h.one⟩
theorem RowN.size {t : TypeId} {w : World} {base : Nat} {v : Value} {vs : List Value} (h : RowN t w base v vs) : ∃ a cap, v = .slice a vs.length cap := by
  rcases h.cases with ⟨rfl, rfl⟩ | h
  · exact ⟨none, 0, rfl⟩
  · obtain ⟨g, cap, e, _⟩ := h.form
    exact ⟨_, cap, e⟩
theorem RowN.below {t : TypeId} {w w' : World} {base : Nat} {v : Value} {vs : List Value} (h : RowN t w base v vs) (hb : Below w.heap.size w w') : RowN t w' base v vs := by
  rcases h.cases with ⟨rfl, rfl⟩ | h
  · exact RowN.nil _ _ _
  · exact (h.below hb).rowN
theorem RowN.lt {t : TypeId} {w : World} {base : Nat} {v : Value} {vs : List Value} (h : RowN t w base v vs) {b : Nat} (hb : v.ownBlock = some b) : base ≤ b ∧ b < w.heap.size := by
  rcases h.cases with ⟨rfl, rfl⟩ | h
  · cases hb
  · obtain ⟨g, cap, rfl, h1, h2⟩ := h.form
    cases hb
    exact ⟨h1, h2⟩
/-- One more, which stands in a new row of one: where the slice lies then. -/
theorem run_rowN {w : World} {T t : TypeId} {z : Value} {bts : Nat} (hT : Tryd.prog.underlying T = some (.slice t)) (hinf : (Tryd.prog.info? t).map (fun i => (i.zero, i.size, i.bytes)) = some (some z, 1, bts)) (hzs : z.cells.size = 1) (hbt : bts ≤ 24)
    (base : Nat) (v : Value) (vs : List Value) (hown : RowN t w base v vs) (g : Nat) (y : Value) (hcell : w.cell? ⟨g, 0, none⟩ = some y) (hy : y.oneCell' = true) (hlen : vs.length ≤ 1000000) (hbase : base ≤ w.heap.size) (ty : TypeId) :
    ∃ v' w', (Builtin.append_ #[T, T] ty #[v, .slice (some ⟨g, 0, none⟩) 1 1]).run Tryd.prog w = .ok v' w' ∧ OwnRow t w' base v' (vs ++ [y]) ∧ OnlyO base (fun i => some i = v.ownBlock) w w' ∧ ∀ b, v'.ownBlock = some b → v.ownBlock = some b ∨ w.heap.size ≤ b := by
  rcases hown.cases with ⟨rfl, rfl⟩ | hown
  · obtain ⟨i0, hi, hz0, hz1, hz2⟩ := info_parts hinf
    have hnews : ∀ j u, ([y] : List Value)[j]? = some u → w.cell? ((⟨g, 0, none⟩ : Addr).add j) = some u := by
      intro j u hj
      match j, hj with
      | 0, hj => simp at hj; subst hj; simpa [Addr.add] using hcell
      | j + 1, hj => simp at hj
    have h1 : ∀ u ∈ [y], u.oneCell' = true := fun u hm => (List.mem_singleton.mp hm) ▸ hy
    obtain ⟨v', w', hr, h2, h3, h4⟩ := run_append_own (P := Tryd.prog) w w.heap.size T ty t i0 z 1 bts hT hi hz0 hz1 hz2 hzs (by decide) (.slice none 0 0) 0 [] (World.ownsRow_nil w _ _ _) ⟨g, 0, none⟩ 1 1 [y] rfl hnews h1 (by decide) (by omega) (Nat.le_refl _)
    have hn' : v' ≠ .slice none 0 0 := fun e => by have := (h4.mp e).2; omega
    have hO : OwnRow t w' w.heap.size v' [y] := ⟨h2, hn', h1⟩
    obtain ⟨g', cap, rfl, hb1, hb2⟩ := hO.form
    refine ⟨_, w', hr, ⟨?_, hn', h1⟩, ⟨(Below.refl base w).grown h3 hbase (fun b hk => by cases hk), fun i hi hne => h3.block i hi (by simp [Value.ownBlock])⟩, fun b hb => Or.inr (by cases hb; exact hb1)⟩
    obtain ⟨h5, h6⟩ := h2
    refine ⟨h5, ?_⟩
    rcases h6 with hx | ⟨g2, cap2, cur2, e, hbg, rest⟩
    · exact Or.inl hx
    · exact Or.inr ⟨g2, cap2, cur2, e, Nat.le_trans hbase hbg, rest⟩
  · obtain ⟨v', w', h1, h2, h3, g', c', rfl, h4⟩ := run_row hT hinf hzs hbt base v vs hown g y hcell hy hlen hbase ty
    refine ⟨_, w', h1, h2, h3, fun b hb => ?_⟩
    cases hb
    rcases h4 with h4 | h4
    · exact Or.inl h4.symm
    · exact Or.inr (Nat.le_of_eq h4.symm)
/-- The operation, for a walk. -/
theorem wp_rowN {w : World} {ops : Array Oper} {rest : List Oper} {o : Oper} {a : Act} {Q : Exit → Act → World → Prop} {T t : TypeId} {z : Value} {bts : Nat} (hgd : o.guard = none) (s x : Operand)
    (ho : o.op = .call { callee := .builtin .append, args := #[s, x], argTypes := #[T, T] }) (hT : Tryd.prog.underlying T = some (.slice t)) (hinf : (Tryd.prog.info? t).map (fun i => (i.zero, i.size, i.bytes)) = some (some z, 1, bts)) (hzs : z.cells.size = 1) (hbt : bts ≤ 24)
    (base : Nat) (v : Value) (vs : List Value) (hs : a.eval s = v) (hown : RowN t w base v vs) (g : Nat) (y : Value) (hx : a.eval x = .slice (some ⟨g, 0, none⟩) 1 1) (hcell : w.cell? ⟨g, 0, none⟩ = some y) (hy : y.oneCell' = true)
    (hlen : vs.length ≤ 1000000) (hbase : base ≤ w.heap.size)
    (h : ∀ v' w', OwnRow t w' base v' (vs ++ [y]) → OnlyO base (fun i => some i = v.ownBlock) w w' → (∀ b, v'.ownBlock = some b → v.ownBlock = some b ∨ w.heap.size ≤ b) → wpList Tryd.prog ops Q rest (a.put o.dst v') w') : wpList Tryd.prog ops Q (o :: rest) a w := by
  obtain ⟨v', w', hr, h1, h2, h3⟩ := run_rowN hT hinf hzs hbt base v vs hown g y hcell hy hlen hbase o.type
  exact Lib.wpList_append_run w hgd s x _ _ ho v _ hs hx _ w' hr (h v' w' h1 h2 h3)

/-! ### Lists of bytes in such a row -/
/-- Bytes stay while only blocks change that they don't lie in. -/
theorem ArgB.only {w w' : World} {base : Nat} {O : Foot} {v : Value} {l : List Int} (h : ArgB w v l) (ho : OnlyO base O w w') (hne : l ≠ [] → ∀ b, v.ownBlock = some b → ¬ O b) : ArgB w' v l := by
  rcases h with h | ⟨x, cap, rfl, hc, hcell⟩
  · exact Or.inl h
  · refine Or.inr ⟨x, cap, rfl, hc, fun i hi => ?_⟩
    have h0 := hcell i hi
    have hb : (x.add i).block = x.block := by unfold Addr.add; split <;> rfl
    have hlt : (x.add i).block < w.heap.size := World.block_lt_of_cell? _ _ h0
    rw [World.cell?_of_block (ho.keep _ hlt (by rw [hb]; exact hne (by intro e; rw [e] at hi; cases hi) _ rfl))]
    exact h0
theorem ArgB.lt {w : World} {v : Value} {l : List Int} (h : ArgB w v l) (hn : l ≠ []) {b : Nat} (hb : v.ownBlock = some b) : b < w.heap.size := by
  rcases h with ⟨rfl, rfl⟩ | ⟨x, cap, rfl, hc, hcell⟩
  · exact (hn rfl).elim
  · have h0 := hcell 0 (List.length_pos_iff.mpr hn)
    have hb2 : (x.add 0).block = x.block := by unfold Addr.add; split <;> rfl
    have := World.block_lt_of_cell? _ _ h0
    cases hb
    omega
theorem ArgB.cell1 {w : World} {v : Value} {l : List Int} (h : ArgB w v l) : v.oneCell' = true := by
  rcases h with ⟨rfl, _⟩ | ⟨x, cap, rfl, _⟩ <;> rfl
/-- Lists of bytes, each in a block other than the row's. -/
def RowLL (w : World) (base : Nat) (v : Value) (L : List (List Int)) : Prop :=
  ∃ vs : List Value, RowN 22 w base v vs ∧ vs.length = L.length ∧ ∀ i, i < L.length → ArgB w (vs.getD i undef) (L.getD i []) ∧ (L.getD i [] ≠ [] → ∀ b, (vs.getD i undef).ownBlock = some b → v.ownBlock ≠ some b)
theorem RowLL.nil (w : World) (base : Nat) : RowLL w base (.slice none 0 0) [] := ⟨[], RowN.nil _ _ _, rfl, fun i hi => by cases hi⟩
theorem RowLL.size {w : World} {base : Nat} {v : Value} {L : List (List Int)} (h : RowLL w base v L) : ∃ a cap, v = .slice a L.length cap := by
  obtain ⟨vs, h1, h2, _⟩ := h
  rw [← h2]
  exact h1.size
theorem RowLL.below {w w' : World} {base : Nat} {v : Value} {L : List (List Int)} (h : RowLL w base v L) (hb : Below w.heap.size w w') : RowLL w' base v L := by
  obtain ⟨vs, h1, h2, h3⟩ := h
  exact ⟨vs, h1.below hb, h2, fun i hi => ⟨(h3 i hi).1.below hb, (h3 i hi).2⟩⟩
theorem RowLL.argLL {w : World} {base : Nat} {v : Value} {L : List (List Int)} (h : RowLL w base v L) : ArgLL w v L := by
  obtain ⟨vs, h1, h2, h3⟩ := h
  rcases h1.cases with ⟨rfl, rfl⟩ | h1
  · exact Or.inl ⟨rfl, List.eq_nil_of_length_eq_zero h2.symm⟩
  · obtain ⟨g, cap, rfl, _⟩ := h1.form
    have hcap : vs.length ≤ cap := by
      rcases h1.own.2 with ⟨e, _⟩ | ⟨g', cap', cur, e, _, _, hle, _⟩
      · exact (h1.non e).elim
      · simp only [Value.slice.injEq] at e; omega
    refine Or.inr ⟨⟨g, 0, none⟩, cap, fun i => vs.getD i undef, by rw [h2], by omega, fun i hi => ⟨?_, (h3 i hi).1⟩⟩
    have := h1.at i (by omega)
    rcases i with _ | i <;> simpa [Addr.add] using this
/-- One more list of bytes. -/
theorem wp_moreN {w : World} {ops : Array Oper} {rest : List Oper} {o : Oper} {a : Act} {Q : Exit → Act → World → Prop} (hgd : o.guard = none) (s x : Operand)
    (ho : o.op = .call { callee := .builtin .append, args := #[s, x], argTypes := #[36, 36] })
    (base : Nat) (v : Value) (L : List (List Int)) (hs : a.eval s = v) (hown : RowLL w base v L) (g : Nat) (yv : Value) (y : List Int) (hx : a.eval x = .slice (some ⟨g, 0, none⟩) 1 1) (hcell : w.cell? ⟨g, 0, none⟩ = some yv) (hy : ArgB w yv y) (hyb : y ≠ [] → ∀ b, yv.ownBlock = some b → v.ownBlock ≠ some b)
    (hlen : L.length ≤ 1000000) (hbase : base ≤ w.heap.size)
    (h : ∀ v' w', RowLL w' base v' (L ++ [y]) → Below base w w' → base ≤ w'.heap.size → wpList Tryd.prog ops Q rest (a.put o.dst v') w') : wpList Tryd.prog ops Q (o :: rest) a w := by
  obtain ⟨vs, h1, h2, h3⟩ := hown
  refine wp_rowN hgd s x ho Tryd.underlying36 info_slice rfl (by decide) base v vs hs h1 g yv hx hcell hy.cell1 (by omega) hbase ?_
  intro v' w' k1 k2 k3
  have keep : ∀ (u : Value) (l : List Int), ArgB w u l → (l ≠ [] → ∀ b, u.ownBlock = some b → v.ownBlock ≠ some b) → ArgB w' u l ∧ (l ≠ [] → ∀ b, u.ownBlock = some b → v'.ownBlock ≠ some b) := fun u l hu hne =>
    ⟨hu.only k2 (fun hn b hb e => hne hn b hb e.symm), fun hn b hb e => by
      rcases k3 b e with e2 | e2
      · exact hne hn b hb e2
      · have := hu.lt hn hb; omega⟩
  refine h v' w' ⟨vs ++ [yv], k1.rowN, by simp [h2], fun i hi => ?_⟩ k2.bel (Nat.le_trans hbase k2.size)
  rw [List.length_append] at hi
  by_cases hlast : i < L.length
  · rw [List.getD_eq_getElem?_getD, List.getElem?_append_left (by omega), List.getD_eq_getElem?_getD, List.getElem?_append_left hlast, ← List.getD_eq_getElem?_getD, ← List.getD_eq_getElem?_getD]
    exact keep _ _ (h3 i hlast).1 (h3 i hlast).2
  · have e : i = L.length := by simp at hi; omega
    subst e
    rw [List.getD_eq_getElem?_getD, List.getElem?_append_right (by omega), List.getD_eq_getElem?_getD, List.getElem?_append_right (by omega), h2, Nat.sub_self]
    exact keep yv y hy hyb

end Go.Proofs.YtiephcjdbndjaaaDoor
