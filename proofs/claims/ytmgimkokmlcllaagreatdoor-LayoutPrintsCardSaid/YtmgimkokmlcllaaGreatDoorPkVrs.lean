/-
  Numbers of 128 bits in variables: that they stay while new memory is made.
-/
import Derived.WalkKit
import Derived.Test.YtmgimkokmlcllaaGreatDoorProg
import Derived.WalkSmall
import Derived.Lib.Hide
import Derived.Laws.AppendOwn
import Derived.Laws.OwnMore
import Derived.WalkSpells
import Derived.Lib.AppendZeros
import Derived.Laws.Append
import Derived.Maps.AppendAt
namespace Go.Proofs.YtmgimkokmlcllaaGreatDoor
open Go.RowKit

theorem below_step {w a b : World} (h : Below w.heap.size w a) (g : Below a.heap.size a b) : Below w.heap.size w b := h.trans (g.mono h.size)
theorem below_more {w a : World} (h : Below w.heap.size w a) (o : Obj) : Below w.heap.size w (a.alloc o) := h.alloc h.size o
def Box (W : World) (p : Nat) (h l : Int) : Prop := W.cell? ⟨p, 0, none⟩ = some (.int .u64 h) ∧ W.cell? ⟨p, 1, none⟩ = some (.int .u64 l) ∧ p < W.heap.size
theorem Box.after {W W1 : World} {p : Nat} {h l : Int} (k : Box W p h l) (hb : Below W.heap.size W W1) : Box W1 p h l := by
  obtain ⟨c0, c1, s⟩ := k
  exact ⟨(hb.cell (p := ⟨p, 0, none⟩) s).trans c0, (hb.cell (p := ⟨p, 1, none⟩) s).trans c1, Nat.lt_of_lt_of_le s hb.size⟩
theorem Box.fresh (W : World) (h l : Int) (p : Nat) (hp : p = W.heap.size) : Box (W.alloc (.cells #[.int .u64 h, .int .u64 l] 108)) p h l := by
  subst hp; exact ⟨by simp, by simp, by simp⟩
end Go.Proofs.YtmgimkokmlcllaaGreatDoor

/-
  A slice of integers of one kind that reads as a list, in a world: what it is, and that it stays while new memory is made.
-/
namespace Go.Proofs.YtmgimkokmlcllaaGreatDoor
open Go.RowKit

def Ints (k : IntKind) (w : World) (v : Value) (l : List Int) : Prop :=
  ∃ b off cap, v = .slice (some ⟨b, off, none⟩) l.length cap ∧ l.length ≤ cap ∧ b < w.heap.size ∧ ∀ i, i < l.length → w.cell? ⟨b, off + i, none⟩ = some (.int k (l.getD i 0))
def OwnInts (t : TypeId) (k : IntKind) (w : World) (base : Nat) (v : Value) (l : List Int) : Prop :=
  w.ownsRow base t 1 v l.length (l.map (Value.int k)) ∧ v ≠ .slice none 0 0
theorem OwnInts.ints {t : TypeId} {k : IntKind} {w : World} {base : Nat} {v : Value} {l : List Int} (h : OwnInts t k w base v l) : Ints k w v l := by
  obtain ⟨h, hn⟩ := h
  have hlt := h.lt
  have hcs := @World.ownsRow.cells _ _ _ _ _ _ _ h
  rcases h.2 with ⟨rfl, h0⟩ | ⟨g, cap, cur, rfl, h1, h2, h3, h4, h5, h6⟩
  · exact absurd rfl hn
  · refine ⟨g, 0, cap, rfl, h3, (hlt g rfl).2, fun i hi => ?_⟩
    have := hcs (g := g) rfl i (.int k (l.getD i 0)) (by rw [List.getElem?_map, List.getElem?_eq_getElem hi, List.getD_eq_getElem?_getD, List.getElem?_eq_getElem hi]; rfl)
    rcases i with _ | i <;> simpa [Addr.add] using this
theorem OwnInts.fresh (t : TypeId) (k : IntKind) (w : World) (base g : Nat) (hg : g = w.heap.size) (h : base ≤ g) : OwnInts t k (w.alloc (.cells #[] t)) base (.slice (some ⟨g, 0, none⟩) 0 0) [] := by
  subst hg
  exact ⟨World.ownsRow_made w #[] 0 h (Nat.zero_le _) rfl, by simp⟩
theorem OwnInts.append {t : TypeId} {k : IntKind} {w' : World} {base : Nat} {v' : Value} {l : List Int} {m : Nat} {news : List Int} (h : w'.ownsRow base t 1 v' (l.length + m) (l.map (Value.int k) ++ news.map (Value.int k))) (hm : news.length = m)
    (hi : ¬ v' = .slice none 0 0) : OwnInts t k w' base v' (l ++ news) := by
  refine ⟨?_, hi⟩
  rw [List.map_append, List.length_append, hm]
  exact h
theorem ints_next {t : TypeId} {k : IntKind} {w wr w1 : World} {base : Nat} {v v' : Value} {x : List Int} {z : Int} (hown : OwnInts t k wr base v x)
    (hown' : w1.ownsRow base t 1 v' (x.length + 1) (x.map (Value.int k) ++ [.int k z])) (hgrow : (wr.alloc (.cells #[.int k z] t)).grownBy w1 v.ownBlock) (hiff : ¬ v' = .slice none 0 0)
    (hbel : Below w.heap.size w wr) (hsz : w.heap.size ≤ base) (hbs : base ≤ wr.heap.size) :
    OwnInts t k w1 base v' (x ++ [z]) ∧ Below w.heap.size w w1 ∧ base ≤ w1.heap.size := by
  have hlt := hown.1.lt
  have ha : Below w.heap.size w (wr.alloc (.cells #[.int k z] t)) := hbel.alloc (by omega) _
  refine ⟨OwnInts.append (news := [z]) hown' rfl hiff, ha.grown hgrow (by simp; omega) (fun b hk => by have := (hlt _ hk).1; omega), ?_⟩
  have := hgrow.size; simp at this; omega

end Go.Proofs.YtmgimkokmlcllaaGreatDoor

/-
  Variables of two and of three cells: what stands in them, that they may be written, and that they stay while new memory is made.
-/
namespace Go.Proofs.YtmgimkokmlcllaaGreatDoor
open Go.RowKit

theorem below_frozen {w w' : World} {n p i : Nat} (h : Below n w w') (hp : p < n) : w'.frozen? ⟨p, i, none⟩ = w.frozen? ⟨p, i, none⟩ := h.frozen hp
structure Var2 (W : World) (p : Nat) (x y : Value) : Prop where
  c0 : W.cell? ⟨p, 0, none⟩ = some x
  c1 : W.cell? ⟨p, 1, none⟩ = some y
  q0 : W.frozen? ⟨p, 0, none⟩ = false
  q1 : W.frozen? ⟨p, 1, none⟩ = false
  s : p < W.heap.size
theorem Var2.after {W W1 : World} {p : Nat} {x y : Value} (k : Var2 W p x y) (hb : Below W.heap.size W W1) : Var2 W1 p x y :=
  ⟨(hb.cell (p := ⟨p, 0, none⟩) k.s).trans k.c0, (hb.cell (p := ⟨p, 1, none⟩) k.s).trans k.c1, (below_frozen hb k.s).trans k.q0, (below_frozen hb k.s).trans k.q1, Nat.lt_of_lt_of_le k.s hb.size⟩
theorem Var2.fresh (W : World) (x y : Value) (t : TypeId) (p : Nat) (hp : p = W.heap.size) : Var2 (W.alloc (.cells #[x, y] t)) p x y := by
  subst hp; exact ⟨by simp, by simp, by simp [go_sem], by simp [go_sem], by simp⟩
theorem Var2.alloc {W : World} {p : Nat} {x y : Value} (k : Var2 W p x y) (o : Obj) : Var2 (W.alloc o) p x y := k.after ((Below.refl _ _).alloc (Nat.le_refl _) o)
structure Var3 (W : World) (p : Nat) (x y z : Value) : Prop where
  c0 : W.cell? ⟨p, 0, none⟩ = some x
  c1 : W.cell? ⟨p, 1, none⟩ = some y
  c2 : W.cell? ⟨p, 2, none⟩ = some z
  q0 : W.frozen? ⟨p, 0, none⟩ = false
  q1 : W.frozen? ⟨p, 1, none⟩ = false
  q2 : W.frozen? ⟨p, 2, none⟩ = false
  s : p < W.heap.size
theorem Var3.after {W W1 : World} {p : Nat} {x y z : Value} (k : Var3 W p x y z) (hb : Below W.heap.size W W1) : Var3 W1 p x y z :=
  ⟨(hb.cell (p := ⟨p, 0, none⟩) k.s).trans k.c0, (hb.cell (p := ⟨p, 1, none⟩) k.s).trans k.c1, (hb.cell (p := ⟨p, 2, none⟩) k.s).trans k.c2, (below_frozen hb k.s).trans k.q0, (below_frozen hb k.s).trans k.q1, (below_frozen hb k.s).trans k.q2, Nat.lt_of_lt_of_le k.s hb.size⟩
theorem Var3.fresh (W : World) (x y z : Value) (t : TypeId) (p : Nat) (hp : p = W.heap.size) : Var3 (W.alloc (.cells #[x, y, z] t)) p x y z := by
  subst hp; exact ⟨by simp, by simp, by simp, by simp [go_sem], by simp [go_sem], by simp [go_sem], by simp⟩
theorem Var3.alloc {W : World} {p : Nat} {x y z : Value} (k : Var3 W p x y z) (o : Obj) : Var3 (W.alloc o) p x y z := k.after ((Below.refl _ _).alloc (Nat.le_refl _) o)
end Go.Proofs.YtmgimkokmlcllaaGreatDoor

/-
  Things that change in place: the blocks that they lean on, and that nothing else has changed.
-/
namespace Go.Proofs.YtmgimkokmlcllaaGreatDoor
open Go.RowKit

abbrev Foot := Nat → Prop
structure OnlyO (base : Nat) (O : Foot) (w w' : World) : Prop where
  bel : Below base w w'
  keep : ∀ i, i < w.heap.size → ¬ O i → w'.heap[i]? = w.heap[i]?
theorem OnlyO.size {base : Nat} {O : Foot} {w w' : World} (h : OnlyO base O w w') : w.heap.size ≤ w'.heap.size := h.bel.size
theorem OnlyO.of {base : Nat} {O : Foot} {w w' : World} (h : Below w.heap.size w w') (hb : base ≤ w.heap.size) : OnlyO base O w w' := ⟨h.mono hb, fun i hi _ => h.block i hi⟩
def Grown (O O' : Foot) (n : Nat) : Prop := ∀ i, O' i → O i ∨ n ≤ i
theorem Grown.refl (O : Foot) (n : Nat) : Grown O O n := fun _ h => Or.inl h
theorem OnlyO.trans {base : Nat} {O O' : Foot} {a b c : World} (h : OnlyO base O a b) (g : OnlyO base O' b c) (hg : Grown O O' a.heap.size) : OnlyO base O a c :=
  ⟨h.bel.trans g.bel, fun i hi hne => (g.keep i (Nat.lt_of_lt_of_le hi h.size) (fun ho => by rcases hg i ho with ho | ho; exact hne ho; omega)).trans (h.keep i hi hne)⟩
theorem OnlyO.set {base : Nat} {O : Foot} {a b : World} (h : OnlyO base O a b) {r : Nat} (hr : O r) (hb : base ≤ r) (i : Nat) (v : Value) : OnlyO base O a (b.setCell ⟨r, i, none⟩ v) :=
  ⟨h.bel.setCell hb v, fun j hj hne => (Below.heap_setCell b ⟨r, i, none⟩ v j (fun e => by cases e; exact hne hr)).trans (h.keep j hj hne)⟩

end Go.Proofs.YtmgimkokmlcllaaGreatDoor

/-
  Rows of one-cell values that a call has made, whatever they are: what they hold; one more behind them.
-/
namespace Go.Proofs.YtmgimkokmlcllaaGreatDoor
open Go.RowKit

structure OwnRow (t : TypeId) (w : World) (base : Nat) (v : Value) (vs : List Value) : Prop where
  own : w.ownsRow base t 1 v vs.length vs
  non : v ≠ .slice none 0 0
  one : ∀ u ∈ vs, u.oneCell' = true
end Go.Proofs.YtmgimkokmlcllaaGreatDoor

/-
  Rows of structs of the call's own (each of so many cells), nil among them: what they hold; one more behind them.
-/
namespace Go.Proofs.YtmgimkokmlcllaaGreatDoor
open Go.RowKit

theorem addr_add (g k : Nat) : (⟨g, 0, none⟩ : Addr).add k = ⟨g, k, none⟩ := by rcases k with _ | k <;> simp [Addr.add]
structure RowK (t : TypeId) (sz : Nat) (w : World) (base : Nat) (v : Value) (vs : List (List Value)) : Prop where
  own : w.ownsRow base t sz v vs.length vs.flatten
  wid : ∀ u ∈ vs, u.length = sz
  one : ∀ u ∈ vs, ∀ y ∈ u, y.oneCell' = true
theorem RowK.nil (t : TypeId) (sz : Nat) (w : World) (base : Nat) : RowK t sz w base (.slice none 0 0) [] := ⟨World.ownsRow_nil w base _ _, fun u hu => (by cases hu), fun u hu => (by cases hu)⟩
theorem RowK.size {t : TypeId} {sz : Nat} {w : World} {base : Nat} {v : Value} {vs : List (List Value)} (h : RowK t sz w base v vs) : ∃ a cap, v = .slice a vs.length cap := by
  rcases h.own.2 with ⟨e, h0⟩ | ⟨g, cap, _, e, _⟩
  · exact ⟨none, 0, by rw [e, h0]⟩
  · exact ⟨_, cap, e⟩
theorem RowK.form {t : TypeId} {sz : Nat} {w : World} {base : Nat} {v : Value} {vs : List (List Value)} (h : RowK t sz w base v vs) (hne : 0 < vs.length) : ∃ g cap, v = .slice (some ⟨g, 0, none⟩) vs.length cap ∧ base ≤ g ∧ g < w.heap.size ∧ vs.length ≤ cap := by
  have hlt := h.own.lt
  rcases h.own.2 with ⟨_, h0⟩ | ⟨g, cap, _, e, hb, _, hc, _⟩
  · omega
  · exact ⟨g, cap, e, hb, (hlt g (by rw [e]; rfl)).2, hc⟩
theorem RowK.lt {t : TypeId} {sz : Nat} {w : World} {base : Nat} {v : Value} {vs : List (List Value)} (h : RowK t sz w base v vs) {b : Nat} (hb : v.ownBlock = some b) : base ≤ b ∧ b < w.heap.size := h.own.lt b hb
theorem RowK.kept {t : TypeId} {sz : Nat} {w w' : World} {base : Nat} {v : Value} {vs : List (List Value)} (h : RowK t sz w base v vs) (hk : ∀ b, v.ownBlock = some b → w'.heap[b]? = w.heap[b]?) : RowK t sz w' base v vs := by
  obtain ⟨⟨h1, h2⟩, hn, ho⟩ := h
  refine ⟨⟨h1, ?_⟩, hn, ho⟩
  rcases h2 with hx | ⟨g, cap, cur, rfl, hbg, hg, rest⟩
  · exact Or.inl hx
  · exact Or.inr ⟨g, cap, cur, rfl, hbg, (hk g rfl).trans hg, rest⟩
theorem RowK.below {t : TypeId} {sz : Nat} {w w' : World} {base : Nat} {v : Value} {vs : List (List Value)} (h : RowK t sz w base v vs) (hb : Below w.heap.size w w') : RowK t sz w' base v vs :=
  h.kept fun b e => hb.block b (h.lt e).2
theorem RowK.weaken {t : TypeId} {sz : Nat} {w : World} {base base' : Nat} {v : Value} {vs : List (List Value)} (h : RowK t sz w base v vs) (hb : base' ≤ base) : RowK t sz w base' v vs := by
  obtain ⟨⟨h1, h2⟩, hn, ho⟩ := h
  refine ⟨⟨h1, ?_⟩, hn, ho⟩
  rcases h2 with hx | ⟨g, cap, cur, rfl, hbg, rest⟩
  · exact Or.inl hx
  · exact Or.inr ⟨g, cap, cur, rfl, Nat.le_trans hb hbg, rest⟩
theorem getD_flatten {sz : Nat} : ∀ (vs : List (List Value)) (i j : Nat), (∀ u ∈ vs, u.length = sz) → i < vs.length → j < sz → vs.flatten[i * sz + j]? = some ((vs.getD i []).getD j undef)
  | [], i, j, _, h, _ => by cases h
  | u :: vs, 0, j, hl, _, hj => by
    have h1 := hl u (List.mem_cons_self ..)
    rw [List.flatten_cons, Nat.zero_mul, Nat.zero_add, List.getElem?_append_left (by omega), List.getElem?_eq_getElem (by omega)]
    simp [List.getD_eq_getElem?_getD, List.getElem?_eq_getElem (show j < u.length by omega)]
  | u :: vs, i + 1, j, hl, h, hj => by
    have h1 := hl u (List.mem_cons_self ..)
    have ih := getD_flatten vs i j (fun x hx => hl x (List.mem_cons_of_mem _ hx)) (by simpa using h) hj
    have e : (i + 1) * sz + j = u.length + (i * sz + j) := by rw [Nat.add_mul, h1]; omega
    rw [List.flatten_cons, e, List.getElem?_append_right (by omega), show u.length + (i * sz + j) - u.length = i * sz + j by omega, ih]
    rfl
theorem RowK.at {t : TypeId} {sz : Nat} {w : World} {base g n cap : Nat} {vs : List (List Value)} (h : RowK t sz w base (.slice (some ⟨g, 0, none⟩) n cap) vs) (i j : Nat) (hi : i < vs.length) (hj : j < sz) : w.cell? ⟨g, i * sz + j, none⟩ = some ((vs.getD i []).getD j undef) := by
  have hcs := @World.ownsRow.cells _ _ _ _ _ _ _ h.own
  have := hcs (g := g) rfl (i * sz + j) _ (getD_flatten vs i j h.wid hi hj)
  rw [addr_add] at this
  exact this
theorem run_rowK {w : World} {T t : TypeId} {z : Value} {sz bts : Nat} (hT : Tryz.prog.underlying T = some (.slice t)) (hinf : (Tryz.prog.info? t).map (fun i => (i.zero, i.size, i.bytes)) = some (some z, sz, bts)) (hzs : z.cells.size = sz) (hsz : 0 < sz) (hbt : bts ≤ 128)
    (base : Nat) (v : Value) (vs : List (List Value)) (hown : RowK t sz w base v vs) (g : Nat) (y : List Value) (hyl : y.length = sz) (hcell : ∀ j, j < sz → w.cell? ⟨g, j, none⟩ = some (y.getD j undef)) (hy : ∀ u ∈ y, u.oneCell' = true) (hlen : vs.length ≤ 1000000) (hbase : base ≤ w.heap.size) (ty : TypeId) :
    ∃ v' w', (Builtin.append_ #[T, T] ty #[v, .slice (some ⟨g, 0, none⟩) 1 1]).run Tryz.prog w = .ok v' w' ∧ RowK t sz w' base v' (vs ++ [y]) ∧ OnlyO base (fun i => some i = v.ownBlock) w w' ∧ (v'.ownBlock = v.ownBlock ∨ v'.ownBlock = some w.heap.size) := by
  obtain ⟨i0, hi, hz0, hz1, hz2⟩ := info_parts hinf
  have hnews : ∀ j u, y[j]? = some u → w.cell? ((⟨g, 0, none⟩ : Addr).add j) = some u := by
    intro j u hj
    have hj2 : j < y.length := (List.getElem?_eq_some_iff.1 hj).1
    have := hcell j (by omega)
    rw [List.getD_eq_getElem?_getD, hj] at this
    rw [addr_add]
    exact this
  have hby : (vs.length + 1) * bts ≤ 1000001 * 128 := Nat.mul_le_mul (by omega) hbt
  obtain ⟨v', w', hr, h2, h3, h4, h5⟩ := run_append_own_at (P := Tryz.prog) w base T ty t i0 z sz bts hT hi hz0 hz1 hz2 hzs hsz v vs.length vs.flatten hown.own ⟨g, 0, none⟩ 1 1 y (by omega) hnews hy (by unfold maxLen; omega) (by omega) hbase
  refine ⟨v', w', hr, ⟨?_, fun u hm => ?_, fun u hm => ?_⟩, ⟨(Below.refl base w).grown h3 hbase (fun b hk => (hown.lt hk).1), fun i hi hne => h3.block i hi hne⟩, h5⟩
  · rw [List.length_append, List.flatten_append]
    simpa using h2
  · rcases List.mem_append.mp hm with hm | hm
    · exact hown.wid u hm
    · rw [List.mem_singleton.mp hm]; exact hyl
  · rcases List.mem_append.mp hm with hm | hm
    · exact hown.one u hm
    · rw [List.mem_singleton.mp hm]; exact hy
theorem wp_rowK {w : World} {ops : Array Oper} {rest : List Oper} {o : Oper} {a : Act} {Q : Exit → Act → World → Prop} {T t : TypeId} {z : Value} {sz bts : Nat} (hgd : o.guard = none) (s x : Operand)
    (ho : o.op = .call { callee := .builtin .append, args := #[s, x], argTypes := #[T, T] }) (hT : Tryz.prog.underlying T = some (.slice t)) (hinf : (Tryz.prog.info? t).map (fun i => (i.zero, i.size, i.bytes)) = some (some z, sz, bts)) (hzs : z.cells.size = sz) (hsz : 0 < sz) (hbt : bts ≤ 128)
    (base : Nat) (v : Value) (vs : List (List Value)) (hs : a.eval s = v) (hown : RowK t sz w base v vs) (g : Nat) (y : List Value) (hx : a.eval x = .slice (some ⟨g, 0, none⟩) 1 1) (hyl : y.length = sz) (hcell : ∀ j, j < sz → w.cell? ⟨g, j, none⟩ = some (y.getD j undef)) (hy : ∀ u ∈ y, u.oneCell' = true)
    (hlen : vs.length ≤ 1000000) (hbase : base ≤ w.heap.size)
    (h : ∀ v' w', RowK t sz w' base v' (vs ++ [y]) → OnlyO base (fun i => some i = v.ownBlock) w w' → (v'.ownBlock = v.ownBlock ∨ v'.ownBlock = some w.heap.size) → wpList Tryz.prog ops Q rest (a.put o.dst v') w') : wpList Tryz.prog ops Q (o :: rest) a w := by
  obtain ⟨v', w', hr, h1, h2, h3⟩ := run_rowK hT hinf hzs hsz hbt base v vs hown g y hyl hcell hy hlen hbase o.type
  exact Lib.wpList_append_run w hgd s x _ _ ho v _ hs hx _ w' hr (h v' w' h1 h2 h3)

end Go.Proofs.YtmgimkokmlcllaaGreatDoor

/-
  Values stored into variables of two and of three cells: what is there then, and what is as it was.
-/
namespace Go.Proofs.YtmgimkokmlcllaaGreatDoor
open Go.RowKit

def put3 (W : World) (p : Nat) (x y z : Value) : World := ((W.setCell ⟨p, 0, none⟩ x).setCell ⟨p, 1, none⟩ y).setCell ⟨p, 2, none⟩ z
def put2 (W : World) (p : Nat) (x y : Value) : World := (W.setCell ⟨p, 0, none⟩ x).setCell ⟨p, 1, none⟩ y
theorem Var3.put {W : World} {p : Nat} {x y z : Value} (k : Var3 W p x y z) (x' y' z' : Value) : Var3 (put3 W p x' y' z') p x' y' z' := by
  obtain ⟨c0, c1, c2, q0, q1, q2, s⟩ := k
  unfold put3
  refine ⟨?_, ?_, ?_, ?_, ?_, ?_, ?_⟩ <;> simp [go_sem, *]
theorem Var2.put {W : World} {p : Nat} {x y : Value} (k : Var2 W p x y) (x' y' : Value) : Var2 (put2 W p x' y') p x' y' := by
  obtain ⟨c0, c1, q0, q1, s⟩ := k
  unfold put2
  refine ⟨?_, ?_, ?_, ?_, ?_⟩ <;> simp [go_sem, *]
theorem below_put3 {B : Nat} {w W : World} (h : Below B w W) {p : Nat} (hp : B ≤ p) (x y z : Value) : Below B w (put3 W p x y z) := ((h.setCell hp _).setCell hp _).setCell hp _
theorem below_put2 {B : Nat} {w W : World} (h : Below B w W) {p : Nat} (hp : B ≤ p) (x y : Value) : Below B w (put2 W p x y) := (h.setCell hp _).setCell hp _

end Go.Proofs.YtmgimkokmlcllaaGreatDoor
