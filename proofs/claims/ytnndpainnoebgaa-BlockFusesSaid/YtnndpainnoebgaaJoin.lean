/-
  Bytes put behind bytes of the call's own, whatever slice they lie in; what a slice of bytes is as a string.
-/
import Derived.Test.YtnndpainnoebgaaArgs
import Derived.Test.YtnndpainnoebgaaWirN
import Derived.Laws.AppendOwnNone
import Derived.Laws.IdiomStrings
namespace Go.Proofs.Ytnndpainnoebgaa
open Go.RowKit

theorem OwnInts.argB {w : World} {base : Nat} {v : Value} {l : List Int} (h : OwnInts 5 .u8 w base v l) : ArgB w v l := by
  obtain ⟨b, off, cap, rfl, hc, _, hcell⟩ := h.ints
  refine Or.inr ⟨⟨b, off, none⟩, cap, rfl, hc, fun i hi => ?_⟩
  have := hcell i hi
  rcases i with _ | i <;> simpa [Addr.add] using this
theorem ArgB.nil (w : World) : ArgB w (.slice none 0 0) [] := Or.inl ⟨rfl, rfl⟩
/-- A list of one's own stays while new memory is made. -/
theorem OwnInts.below {t : TypeId} {k : IntKind} {w w' : World} {base : Nat} {v : Value} {l : List Int} (h : OwnInts t k w base v l) (hb : Below w.heap.size w w') : OwnInts t k w' base v l := by
  obtain ⟨⟨h1, h2⟩, hn⟩ := h
  refine ⟨⟨h1, ?_⟩, hn⟩
  rcases h2 with hx | ⟨g, cap, cur, rfl, hbg, hg, rest⟩
  · exact Or.inl hx
  · exact Or.inr ⟨g, cap, cur, rfl, hbg, (hb.block _ (Array.getElem?_eq_some_iff.1 hg).1).trans hg, rest⟩
/-- Bytes of the call's own, made with what they hold. -/
theorem OwnInts.made (w : World) (base g : Nat) (l : List Int) (hg : g = w.heap.size) (h : base ≤ g) (hl : l.length ≤ 1000000) : OwnInts 5 .u8 (w.alloc (.cells (l.map (Value.int .u8)).toArray 5)) base (.slice (some ⟨g, 0, none⟩) l.length l.length) l := by
  subst hg
  exact ⟨⟨by simp, .inr ⟨w.heap.size, l.length, _, rfl, h, heap_alloc_new w _, Nat.le_refl _, by unfold maxLen; omega, by simp, by simp; exact List.take_of_length_le (by simp)⟩⟩, by simp⟩
theorem ArgB.size {w : World} {v : Value} {l : List Int} (h : ArgB w v l) : ∃ a cap, v = .slice a l.length cap := by
  rcases h with ⟨rfl, rfl⟩ | ⟨x, cap, rfl, _⟩
  · exact ⟨none, 0, rfl⟩
  · exact ⟨some x, cap, rfl⟩
/-- The operation, for a walk: bytes behind a list of one's own. -/
theorem wp_join {w : World} {ops : Array Oper} {rest : List Oper} {o : Oper} {a : Act} {Q : Exit → Act → World → Prop} (hgd : o.guard = none) (s x : Operand)
    (ho : o.op = .call { callee := .builtin .append, args := #[s, x], argTypes := #[30, 30] })
    (base : Nat) (v : Value) (l : List Int) (hs : a.eval s = v) (hown : OwnInts 5 .u8 w base v l) (yv : Value) (y : List Int) (hx : a.eval x = yv) (hy : ArgB w yv y)
    (hlen : l.length + y.length ≤ 100000000) (hbase : base ≤ w.heap.size)
    (h : ∀ v' w', OwnInts 5 .u8 w' base v' (l ++ y) → Below base w w' → w.grownBy w' v.ownBlock → base ≤ w'.heap.size → wpList Try.prog ops Q rest (a.put o.dst v') w') : wpList Try.prog ops Q (o :: rest) a w := by
  obtain ⟨i0, hi, hz0, hz1, hz2⟩ := info_parts info_byte
  rcases hy with ⟨rfl, rfl⟩ | ⟨ad, cap, rfl, hc, hcell⟩
  · refine wpList_append_own_none hgd s x _ ho base 5 i0 1 Try.underlying30 hi v l.length _ hs hown.1 hx ?_
    have := h v w (by rw [List.append_nil]; exact hown) (Below.refl _ _) ⟨rfl, rfl, rfl, Nat.le_refl _, fun _ _ _ => rfl⟩ hbase
    exact this
  · refine wpList_append_own w hgd s x 30 ho base 5 i0 (.int .u8 0) 1 1 Try.underlying30 hi hz0 hz1 hz2 rfl (by decide) v l.length _ hs hown.1 ad y.length cap (y.map (Value.int .u8)) hx (by simp) ?_ (ints_one _ _) ?_ ?_ hbase ?_
    · intro j u hu
      rw [List.getElem?_map] at hu
      obtain ⟨z, hz, rfl⟩ := Option.map_eq_some_iff.mp hu
      have hj : j < y.length := (List.getElem?_eq_some_iff.mp hz).1
      rw [hcell j hj, List.getD_eq_getElem?_getD, hz]; rfl
    · unfold maxLen; omega
    · omega
    · intro v' w' hown' hgrow hiff
      have hn : ¬ v' = .slice none 0 0 := fun e => hown.2 (hiff.mp e).1
      have hlt := hown.1.lt
      refine h v' w' (OwnInts.append hown' rfl hn) ((Below.refl base w).grown hgrow hbase (fun b hk => (hlt _ hk).1)) hgrow ?_
      have := hgrow.size; omega
/-- What a slice of bytes is as a string. -/
theorem conv_arg {w : World} {v : Value} {l : List Int} (h : ArgB w v l) (_hb : ∀ z ∈ l, 0 ≤ z ∧ z ≤ 255) : (convert 30 9 v).run Try.prog w = .ok (.string (strOfNums l)) w := by
  rcases h with ⟨rfl, rfl⟩ | ⟨ad, cap, rfl, hc, hcell⟩
  · exact run_convert_bytes_nil w 30 5 Try.underlying30 Try.underlying5 0 0 9 Try.underlying9
  · by_cases hl : 0 < l.length
    · obtain ⟨b, off, rfl, hcell2⟩ := arg_addr hcell hl
      exact run_convert_bytes_arg w 30 5 Try.underlying30 Try.underlying5 _ _ _ _ l rfl hcell2 9 Try.underlying9
    · obtain rfl : l = [] := List.eq_nil_of_length_eq_zero (by omega)
      have := run_convert_bytes_back (P := Try.prog) w 30 9 5 ad cap [] Try.underlying30 Try.underlying5 Try.underlying9 (fun j hj => by cases hj)
      exact this
/-- A part of a slice of bytes, by its cells. -/
theorem ArgB.part {w : World} {b off : Nat} {l : List Int} (h : ∀ i, i < l.length → w.cell? ⟨b, off + i, none⟩ = some (.int .u8 (l.getD i 0))) (p n c : Nat) (hp : p + n ≤ l.length) (hc : n ≤ c) : ArgB w (.slice (some ⟨b, off + p, none⟩) n c) ((l.drop p).take n) := by
  have hl : ((l.drop p).take n).length = n := by rw [List.length_take, List.length_drop]; omega
  refine Or.inr ⟨⟨b, off + p, none⟩, c, by rw [hl], by omega, fun i hi => ?_⟩
  rw [hl] at hi
  have e : ((l.drop p).take n).getD i 0 = l.getD (p + i) 0 := by
    rw [List.getD_eq_getElem?_getD, List.getElem?_take_of_lt hi, List.getElem?_drop, List.getD_eq_getElem?_getD]
  have := h (p + i) (by omega)
  rw [e]
  rcases i with _ | i
  · simpa [Addr.add] using this
  · have e2 : (⟨b, off + p, none⟩ : Addr).add (i + 1) = ⟨b, off + p + (i + 1), none⟩ := by unfold Addr.add; split <;> simp_all
    rw [e2, Nat.add_assoc]; exact this

end Go.Proofs.Ytnndpainnoebgaa
