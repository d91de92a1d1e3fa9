/-
  Rows of one-cell values that a call has made, whatever they are: what they hold; one more behind them.
-/
import Derived.Test.YtnndpainnoebgaaOwn
import Derived.Laws.AppendOwn
import Derived.Laws.OwnMore
import Derived.WalkSpells
import Derived.Lib.AppendZeros
import Derived.Laws.Append
namespace Go.Proofs.Ytnndpainnoebgaa
open Go.RowKit

/-- A slice of the call's own. -/
structure OwnRow (t : TypeId) (w : World) (base : Nat) (v : Value) (vs : List Value) : Prop where
  own : w.ownsRow base t 1 v vs.length vs
  non : v ≠ .slice none 0 0
  one : ∀ u ∈ vs, u.oneCell' = true
theorem OwnRow.form {t : TypeId} {w : World} {base : Nat} {v : Value} {vs : List Value} (h : OwnRow t w base v vs) : ∃ g cap, v = .slice (some ⟨g, 0, none⟩) vs.length cap ∧ base ≤ g ∧ g < w.heap.size := by
  have hlt := h.own.lt
  rcases h.own.2 with ⟨e, _⟩ | ⟨g, cap, _, e, hb, _⟩
  · exact (h.non e).elim
  · subst e; exact ⟨g, cap, rfl, hb, (hlt g rfl).2⟩
theorem OwnRow.at {t : TypeId} {w : World} {base g n cap : Nat} {vs : List Value} (h : OwnRow t w base (.slice (some ⟨g, 0, none⟩) n cap) vs) (i : Nat) (hi : i < vs.length) : w.cell? ⟨g, i, none⟩ = some (vs.getD i undef) := by
  have hcs := @World.ownsRow.cells _ _ _ _ _ _ _ h.own
  have := hcs (g := g) rfl i (vs.getD i undef) (by rw [List.getD_eq_getElem?_getD, List.getElem?_eq_getElem hi]; rfl)
  rcases i with _ | i <;> simpa [Addr.add] using this
theorem OwnRow.below {t : TypeId} {w w' : World} {base : Nat} {v : Value} {vs : List Value} (h : OwnRow t w base v vs) (hb : Below w.heap.size w w') : OwnRow t w' base v vs := by
  obtain ⟨⟨h1, h2⟩, hn, ho⟩ := h
  refine ⟨⟨h1, ?_⟩, hn, ho⟩
  rcases h2 with hx | ⟨g, cap, cur, rfl, hbg, hg, rest⟩
  · exact Or.inl hx
  · exact Or.inr ⟨g, cap, cur, rfl, hbg, (hb.block _ (Array.getElem?_eq_some_iff.1 hg).1).trans hg, rest⟩
/-- It stays while other things change. -/
theorem OwnRow.only {t : TypeId} {w w' : World} {base b0 g n cap : Nat} {O : Foot} {vs : List Value} (h : OwnRow t w base (.slice (some ⟨g, 0, none⟩) n cap) vs) (hb : OnlyO b0 O w w') (hne : ¬ O g) : OwnRow t w' base (.slice (some ⟨g, 0, none⟩) n cap) vs := by
  obtain ⟨⟨h1, h2⟩, hn, ho⟩ := h
  refine ⟨⟨h1, ?_⟩, hn, ho⟩
  rcases h2 with hx | ⟨g', cap', cur, e, hbg, hg, rest⟩
  · exact Or.inl hx
  · simp only [Value.slice.injEq, Option.some.injEq, Addr.mk.injEq, and_true] at e
    obtain ⟨rfl, e2, e3⟩ := e
    exact Or.inr ⟨g, cap', cur, by rw [e2, e3], hbg, (hb.keep g (Array.getElem?_eq_some_iff.1 hg).1 hne).trans hg, rest⟩
theorem OwnRow.made (t : TypeId) (w : World) (base g : Nat) (x : Value) (hx : x.oneCell' = true) (hg : g = w.heap.size) (h : base ≤ g) : OwnRow t (w.alloc (.cells #[x] t)) base (.slice (some ⟨g, 0, none⟩) 1 1) [x] := by
  subst hg
  exact ⟨⟨rfl, .inr ⟨w.heap.size, 1, #[x], rfl, h, heap_alloc_new w _, Nat.le_refl _, by decide, rfl, rfl⟩⟩, by simp, fun u hu => (List.mem_singleton.mp hu) ▸ hx⟩
theorem OwnRow.fresh (t : TypeId) (w : World) (base g : Nat) (hg : g = w.heap.size) (h : base ≤ g) : OwnRow t (w.alloc (.cells #[] t)) base (.slice (some ⟨g, 0, none⟩) 0 0) [] := by
  subst hg
  exact ⟨World.ownsRow_made w #[] 0 h (Nat.zero_le _) rfl, by simp, fun u hu => by cases hu⟩
/-- One more, which stands in a new row of one: where the slice lies then. -/
theorem run_row {w : World} {T t : TypeId} {z : Value} {bts : Nat} (hT : Try.prog.underlying T = some (.slice t)) (hinf : (Try.prog.info? t).map (fun i => (i.zero, i.size, i.bytes)) = some (some z, 1, bts)) (hzs : z.cells.size = 1) (hbt : bts ≤ 24)
    (base : Nat) (v : Value) (vs : List Value) (hown : OwnRow t w base v vs) (g : Nat) (y : Value) (hcell : w.cell? ⟨g, 0, none⟩ = some y) (hy : y.oneCell' = true) (hlen : vs.length ≤ 1000000) (hbase : base ≤ w.heap.size) (ty : TypeId) :
    ∃ v' w', (Builtin.append_ #[T, T] ty #[v, .slice (some ⟨g, 0, none⟩) 1 1]).run Try.prog w = .ok v' w' ∧ OwnRow t w' base v' (vs ++ [y]) ∧ OnlyO base (fun i => some i = v.ownBlock) w w' ∧
      ∃ g' c', v' = .slice (some ⟨g', 0, none⟩) (vs.length + 1) c' ∧ (some g' = v.ownBlock ∨ g' = w.heap.size) := by
  obtain ⟨i0, hi, hz0, hz1, hz2⟩ := info_parts hinf
  obtain ⟨hO, hn, hu⟩ := hown
  have hnews : ∀ j u, ([y] : List Value)[j]? = some u → w.cell? ((⟨g, 0, none⟩ : Addr).add j) = some u := by
    intro j u hj
    match j, hj with
    | 0, hj => simp at hj; subst hj; simpa [Addr.add] using hcell
    | j + 1, hj => simp at hj
  have h1 : ∀ u ∈ [y], u.oneCell' = true := fun u hm => (List.mem_singleton.mp hm) ▸ hy
  have hby : (vs.length + 1) * bts ≤ 1000001 * 24 := Nat.mul_le_mul (by omega) hbt
  obtain ⟨v', w', hr, h2, h3, h4⟩ := run_append_own (P := Try.prog) w base T ty t i0 z 1 bts hT hi hz0 hz1 hz2 hzs (by decide) v vs.length vs hO ⟨g, 0, none⟩ 1 1 [y] rfl hnews h1 (by unfold maxLen; omega) (by omega) hbase
  have hlt := hO.lt
  have hn' : v' ≠ .slice none 0 0 := fun e => hn (h4.mp e).1
  refine ⟨v', w', hr, ⟨by rw [List.length_append]; exact h2, hn', fun u hm => ?_⟩, ⟨(Below.refl base w).grown h3 hbase (fun b hk => (hlt _ hk).1), fun i hi hne => h3.block i hi hne⟩, ?_⟩
  · rcases List.mem_append.mp hm with hm | hm
    · exact hu u hm
    · exact h1 u hm
  · rcases hO.2 with ⟨e, _⟩ | ⟨g0, cap, cur, rfl, hbg, hg, hnc, hcm, hcs, htake⟩
    · exact (hn e).elim
    · by_cases hroom : vs.length + 1 ≤ cap
      · have hr2 := run_append_room (P := Try.prog) w T ty t i0 hT hi g0 vs.length cap cur hg ⟨g, 0, none⟩ 1 1 [y] (by rw [hz1]; rfl) hnews h1 hroom (by rw [hz1, hcs]; simp; omega)
        rw [hr] at hr2
        cases hr2
        exact ⟨g0, cap, rfl, Or.inl rfl⟩
      · have holds : ∀ j u, vs[j]? = some u → w.cell? ((⟨g0, 0, none⟩ : Addr).add j) = some u := hO.cells (g := g0) rfl
        have hr2 := run_append_grow (P := Try.prog) w T ty t i0 z hT hi hz0 ⟨g0, 0, none⟩ vs.length cap vs (by rw [hz1]; omega) holds ⟨g, 0, none⟩ 1 1 [y] (by rw [hz1]; rfl) hnews (by omega) (by omega) (growslice_fits (by omega) (by rw [hz2]; omega))
        rw [hr] at hr2
        cases hr2
        exact ⟨w.heap.size, _, rfl, Or.inr rfl⟩
/-- The operation, for a walk. -/
theorem wp_row {w : World} {ops : Array Oper} {rest : List Oper} {o : Oper} {a : Act} {Q : Exit → Act → World → Prop} {T t : TypeId} {z : Value} {bts : Nat} (hgd : o.guard = none) (s x : Operand)
    (ho : o.op = .call { callee := .builtin .append, args := #[s, x], argTypes := #[T, T] }) (hT : Try.prog.underlying T = some (.slice t)) (hinf : (Try.prog.info? t).map (fun i => (i.zero, i.size, i.bytes)) = some (some z, 1, bts)) (hzs : z.cells.size = 1) (hbt : bts ≤ 24)
    (base : Nat) (v : Value) (vs : List Value) (hs : a.eval s = v) (hown : OwnRow t w base v vs) (g : Nat) (y : Value) (hx : a.eval x = .slice (some ⟨g, 0, none⟩) 1 1) (hcell : w.cell? ⟨g, 0, none⟩ = some y) (hy : y.oneCell' = true)
    (hlen : vs.length ≤ 1000000) (hbase : base ≤ w.heap.size)
    (h : ∀ g' c' w', OwnRow t w' base (.slice (some ⟨g', 0, none⟩) (vs.length + 1) c') (vs ++ [y]) → OnlyO base (fun i => some i = v.ownBlock) w w' → (some g' = v.ownBlock ∨ g' = w.heap.size) → wpList Try.prog ops Q rest (a.put o.dst (.slice (some ⟨g', 0, none⟩) (vs.length + 1) c')) w') : wpList Try.prog ops Q (o :: rest) a w := by
  obtain ⟨v', w', hr, h1, h2, g', c', rfl, h3⟩ := run_row hT hinf hzs hbt base v vs hown g y hcell hy hlen hbase o.type
  exact Lib.wpList_append_run w hgd s x _ _ ho v _ hs hx _ w' hr (h g' c' w' h1 h2 h3)

end Go.Proofs.Ytnndpainnoebgaa
