/-
  Numbers of 128 bits in variables: that they stay while new memory is made.
-/
import Derived.WalkKit
import Derived.Test.YtejelednnacnaaaGreatDoorProg
import Derived.Lib.Hide
import Derived.WalkSmall
import Derived.Test.YtejelednnacnaaaGreatDoorPkPlain
import Derived.Laws.AppendOwn
import Derived.Laws.OwnMore
import Derived.Lib.AppendStr
import Derived.Laws.BytesArg
import Derived.Deep.QuietTactic
import Derived.BigQuiet
import Derived.StillTailTactics
import Derived.RegionTactic
import Derived.Test.YtejelednnacnaaaGreatDoorRows
import Derived.ProofKit
import Derived.OpenShut
import Derived.ChangeOld
import Derived.Lib.SmallJoins
import Derived.Laws.AppendOwnNone
import Derived.Laws.IdiomStrings
import Derived.WalkSpells
import Derived.Lib.AppendZeros
import Derived.Laws.Append
import Derived.Lib.AppendZerosOnto
namespace Go.Proofs.YtejelednnacnaaaGreatDoor
open Go.RowKit

theorem below_step {w a b : World} (h : Below w.heap.size w a) (g : Below a.heap.size a b) : Below w.heap.size w b := h.trans (g.mono h.size)
theorem below_more {w a : World} (h : Below w.heap.size w a) (o : Obj) : Below w.heap.size w (a.alloc o) := h.alloc h.size o
/-- A number in a variable. -/
def Box (W : World) (p : Nat) (h l : Int) : Prop := W.cell? ⟨p, 0, none⟩ = some (.int .u64 h) ∧ W.cell? ⟨p, 1, none⟩ = some (.int .u64 l) ∧ p < W.heap.size
theorem Box.after {W W1 : World} {p : Nat} {h l : Int} (k : Box W p h l) (hb : Below W.heap.size W W1) : Box W1 p h l := by
  obtain ⟨c0, c1, s⟩ := k
  exact ⟨(hb.cell (p := ⟨p, 0, none⟩) s).trans c0, (hb.cell (p := ⟨p, 1, none⟩) s).trans c1, Nat.lt_of_lt_of_le s hb.size⟩
theorem Box.alloc {W : World} {p : Nat} {h l : Int} (k : Box W p h l) (o : Obj) : Box (W.alloc o) p h l := k.after ((Below.refl _ _).alloc (Nat.le_refl _) o)
theorem Box.drew {W : World} {p : Nat} {h l : Int} (k : Box W p h l) : Box W.drew p h l := k.after (Below.refl _ _).drew

end Go.Proofs.YtejelednnacnaaaGreatDoor

/-
  Variables of two and of three cells: what stands in them, that they may be written, and that they stay while new memory is made.
-/
namespace Go.Proofs.YtejelednnacnaaaGreatDoor
open Go.RowKit

theorem below_frozen {w w' : World} {n p i : Nat} (h : Below n w w') (hp : p < n) : w'.frozen? ⟨p, i, none⟩ = w.frozen? ⟨p, i, none⟩ := h.frozen hp
/-- Two cells. -/
structure Var2 (W : World) (p : Nat) (x y : Value) : Prop where
  c0 : W.cell? ⟨p, 0, none⟩ = some x
  c1 : W.cell? ⟨p, 1, none⟩ = some y
  q0 : W.frozen? ⟨p, 0, none⟩ = false
  q1 : W.frozen? ⟨p, 1, none⟩ = false
  s : p < W.heap.size
theorem Var2.after {W W1 : World} {p : Nat} {x y : Value} (k : Var2 W p x y) (hb : Below W.heap.size W W1) : Var2 W1 p x y :=
  ⟨(hb.cell (p := ⟨p, 0, none⟩) k.s).trans k.c0, (hb.cell (p := ⟨p, 1, none⟩) k.s).trans k.c1, (below_frozen hb k.s).trans k.q0, (below_frozen hb k.s).trans k.q1, Nat.lt_of_lt_of_le k.s hb.size⟩
theorem Var2.fresh (W : World) (x y : Value) (t : TypeId) (p : Nat) (hp : p = W.heap.size) : Var2 (W.alloc (.cells #[x, y] t)) p x y := by
  subst hp; exact ⟨by simp, by simp, by simp [go_sem], by simp [go_sem], by simp⟩
theorem Var2.alloc {W : World} {p : Nat} {x y : Value} (k : Var2 W p x y) (o : Obj) : Var2 (W.alloc o) p x y := k.after ((Below.refl _ _).alloc (Nat.le_refl _) o)
theorem Var2.drew {W : World} {p : Nat} {x y : Value} (k : Var2 W p x y) : Var2 W.drew p x y := k.after (Below.refl _ _).drew
/-- Three cells. -/
structure Var3 (W : World) (p : Nat) (x y z : Value) : Prop where
  c0 : W.cell? ⟨p, 0, none⟩ = some x
  c1 : W.cell? ⟨p, 1, none⟩ = some y
  c2 : W.cell? ⟨p, 2, none⟩ = some z
  q0 : W.frozen? ⟨p, 0, none⟩ = false
  q1 : W.frozen? ⟨p, 1, none⟩ = false
  q2 : W.frozen? ⟨p, 2, none⟩ = false
  s : p < W.heap.size
theorem Var3.after {W W1 : World} {p : Nat} {x y z : Value} (k : Var3 W p x y z) (hb : Below W.heap.size W W1) : Var3 W1 p x y z :=
  ⟨(hb.cell (p := ⟨p, 0, none⟩) k.s).trans k.c0, (hb.cell (p := ⟨p, 1, none⟩) k.s).trans k.c1, (hb.cell (p := ⟨p, 2, none⟩) k.s).trans k.c2, (below_frozen hb k.s).trans k.q0, (below_frozen hb k.s).trans k.q1, (below_frozen hb k.s).trans k.q2, Nat.lt_of_lt_of_le k.s hb.size⟩
theorem Var3.fresh (W : World) (x y z : Value) (t : TypeId) (p : Nat) (hp : p = W.heap.size) : Var3 (W.alloc (.cells #[x, y, z] t)) p x y z := by
  subst hp; exact ⟨by simp, by simp, by simp, by simp [go_sem], by simp [go_sem], by simp [go_sem], by simp⟩
theorem Var3.alloc {W : World} {p : Nat} {x y z : Value} (k : Var3 W p x y z) (o : Obj) : Var3 (W.alloc o) p x y z := k.after ((Below.refl _ _).alloc (Nat.le_refl _) o)
theorem Var3.drew {W : World} {p : Nat} {x y z : Value} (k : Var3 W p x y z) : Var3 W.drew p x y z := k.after (Below.refl _ _).drew

end Go.Proofs.YtejelednnacnaaaGreatDoor

/-
  Things that change in place: the blocks that they lean on, and that nothing else has changed.
-/
namespace Go.Proofs.YtejelednnacnaaaGreatDoor
open Go.RowKit

/-- Blocks. -/
abbrev Foot := Nat → Prop
/-- Only these blocks have changed, and new memory is made. -/
structure OnlyO (base : Nat) (O : Foot) (w w' : World) : Prop where
  bel : Below base w w'
  keep : ∀ i, i < w.heap.size → ¬ O i → w'.heap[i]? = w.heap[i]?
theorem OnlyO.size {base : Nat} {O : Foot} {w w' : World} (h : OnlyO base O w w') : w.heap.size ≤ w'.heap.size := h.bel.size
theorem OnlyO.refl (base : Nat) (O : Foot) (w : World) : OnlyO base O w w := ⟨Below.refl _ _, fun _ _ _ => rfl⟩
theorem OnlyO.of {base : Nat} {O : Foot} {w w' : World} (h : Below w.heap.size w w') (hb : base ≤ w.heap.size) : OnlyO base O w w' := ⟨h.mono hb, fun i hi _ => h.block i hi⟩
/-- What becomes of blocks: the same, or new ones. -/
def Grown (O O' : Foot) (n : Nat) : Prop := ∀ i, O' i → O i ∨ n ≤ i
theorem Grown.refl (O : Foot) (n : Nat) : Grown O O n := fun _ h => Or.inl h
theorem Grown.trans {O O' O2 : Foot} {n m : Nat} (h : Grown O O' n) (g : Grown O' O2 m) (hn : n ≤ m) : Grown O O2 n := fun i hi => by
  rcases g i hi with hi | hi
  · exact h i hi
  · exact Or.inr (by omega)
theorem OnlyO.trans {base : Nat} {O O' : Foot} {a b c : World} (h : OnlyO base O a b) (g : OnlyO base O' b c) (hg : Grown O O' a.heap.size) : OnlyO base O a c :=
  ⟨h.bel.trans g.bel, fun i hi hne => (g.keep i (Nat.lt_of_lt_of_le hi h.size) (fun ho => by rcases hg i ho with ho | ho; exact hne ho; omega)).trans (h.keep i hi hne)⟩
theorem OnlyO.cell {base : Nat} {O : Foot} {w w' : World} (h : OnlyO base O w w') {b o : Nat} (hb : b < w.heap.size) (hne : ¬ O b) : w'.cell? ⟨b, o, none⟩ = w.cell? ⟨b, o, none⟩ := World.cell?_of_block (h.keep b hb hne)
theorem OnlyO.frozen {base : Nat} {O : Foot} {w w' : World} (h : OnlyO base O w w') {b o : Nat} (hb : b < w.heap.size) (hne : ¬ O b) : w'.frozen? ⟨b, o, none⟩ = w.frozen? ⟨b, o, none⟩ := World.frozen?_of_block (h.keep b hb hne)
theorem OnlyO.set {base : Nat} {O : Foot} {a b : World} (h : OnlyO base O a b) {r : Nat} (hr : O r) (hb : base ≤ r) (i : Nat) (v : Value) : OnlyO base O a (b.setCell ⟨r, i, none⟩ v) :=
  ⟨h.bel.setCell hb v, fun j hj hne => (Below.heap_setCell b ⟨r, i, none⟩ v j (fun e => by cases e; exact hne hr)).trans (h.keep j hj hne)⟩

end Go.Proofs.YtejelednnacnaaaGreatDoor

/-
  A slice of integers of one kind that reads as a list, in a world: what it is, and that it stays while new memory is made.
-/
namespace Go.Proofs.YtejelednnacnaaaGreatDoor
open Go.RowKit

/-- The value is a slice that is there, and reads as the list. -/
def Ints (k : IntKind) (w : World) (v : Value) (l : List Int) : Prop :=
  ∃ b off cap, v = .slice (some ⟨b, off, none⟩) l.length cap ∧ l.length ≤ cap ∧ b < w.heap.size ∧ ∀ i, i < l.length → w.cell? ⟨b, off + i, none⟩ = some (.int k (l.getD i 0))
theorem Ints.below {k : IntKind} {w w' : World} {v : Value} {l : List Int} (h : Ints k w v l) (hb : Below w.heap.size w w') : Ints k w' v l := by
  obtain ⟨b, off, cap, rfl, hc, hlt, hcell⟩ := h
  exact ⟨b, off, cap, rfl, hc, Nat.lt_of_lt_of_le hlt hb.size, fun i hi => (hb.cell (p := ⟨b, off + i, none⟩) hlt).trans (hcell i hi)⟩
theorem Ints.at {k : IntKind} {w : World} {b off n cap : Nat} {l : List Int} (h : Ints k w (.slice (some ⟨b, off, none⟩) n cap) l) {i : Nat} (hi : i < l.length) : w.cell? ⟨b, off + i, none⟩ = some (.int k (l.getD i 0)) := by
  obtain ⟨b', off', cap', he, _, _, hcell⟩ := h
  simp only [Value.slice.injEq, Option.some.injEq, Addr.mk.injEq, and_true] at he
  obtain ⟨⟨rfl, rfl⟩, _, _⟩ := he
  exact hcell i hi
/-- A slice of integers that the call has made. -/
def OwnInts (t : TypeId) (k : IntKind) (w : World) (base : Nat) (v : Value) (l : List Int) : Prop :=
  w.ownsRow base t 1 v l.length (l.map (Value.int k)) ∧ v ≠ .slice none 0 0
theorem OwnInts.ints {t : TypeId} {k : IntKind} {w : World} {base : Nat} {v : Value} {l : List Int} (h : OwnInts t k w base v l) : Ints k w v l := by
  obtain ⟨h, hn⟩ := h
  have hlt := h.lt
  have hcs := @World.ownsRow.cells _ _ _ _ _ _ _ h
  rcases h.2 with ⟨rfl, h0⟩ | ⟨g, cap, cur, rfl, h1, h2, h3, h4, h5, h6⟩
  · exact absurd rfl hn
  · refine ⟨g, 0, cap, rfl, h3, (hlt g rfl).2, fun i hi => ?_⟩
    have := hcs (g := g) rfl i (.int k (l.getD i 0)) (by rw [List.getElem?_map, List.getElem?_eq_getElem hi, List.getD_eq_getElem?_getD, List.getElem?_eq_getElem hi]; rfl)
    rcases i with _ | i <;> simpa [Addr.add] using this
/-- A new one, of none. -/
theorem OwnInts.fresh (t : TypeId) (k : IntKind) (w : World) (base g : Nat) (hg : g = w.heap.size) (h : base ≤ g) : OwnInts t k (w.alloc (.cells #[] t)) base (.slice (some ⟨g, 0, none⟩) 0 0) [] := by
  subst hg
  exact ⟨World.ownsRow_made w #[] 0 h (Nat.zero_le _) rfl, by simp⟩
theorem OwnInts.alloc {t : TypeId} {k : IntKind} {w : World} {base : Nat} {v : Value} {l : List Int} (h : OwnInts t k w base v l) (o : Obj) : OwnInts t k (w.alloc o) base v l := ⟨h.1.alloc o, h.2⟩
theorem OwnInts.append {t : TypeId} {k : IntKind} {w' : World} {base : Nat} {v' : Value} {l : List Int} {m : Nat} {news : List Int} (h : w'.ownsRow base t 1 v' (l.length + m) (l.map (Value.int k) ++ news.map (Value.int k))) (hm : news.length = m)
    (hi : ¬ v' = .slice none 0 0) : OwnInts t k w' base v' (l ++ news) := by
  refine ⟨?_, hi⟩
  rw [List.map_append, List.length_append, hm]
  exact h
theorem ints_one (k : IntKind) (l : List Int) : ∀ u ∈ l.map (Value.int k), u.oneCell' = true := by
  intro u hu
  obtain ⟨x, _, rfl⟩ := List.mem_map.mp hu
  rfl
/-- One more, behind a list of the call's own: what is known of the slice, and of what lies below. -/
theorem ints_next {t : TypeId} {k : IntKind} {w wr w1 : World} {base : Nat} {v v' : Value} {x : List Int} {z : Int} (hown : OwnInts t k wr base v x)
    (hown' : w1.ownsRow base t 1 v' (x.length + 1) (x.map (Value.int k) ++ [.int k z])) (hgrow : (wr.alloc (.cells #[.int k z] t)).grownBy w1 v.ownBlock) (hiff : ¬ v' = .slice none 0 0)
    (hbel : Below w.heap.size w wr) (hsz : w.heap.size ≤ base) (hbs : base ≤ wr.heap.size) :
    OwnInts t k w1 base v' (x ++ [z]) ∧ Below w.heap.size w w1 ∧ base ≤ w1.heap.size := by
  have hlt := hown.1.lt
  have ha : Below w.heap.size w (wr.alloc (.cells #[.int k z] t)) := hbel.alloc (by omega) _
  refine ⟨OwnInts.append (news := [z]) hown' rfl hiff, ha.grown hgrow (by simp; omega) (fun b hk => by have := (hlt _ hk).1; omega), ?_⟩
  have := hgrow.size; simp at this; omega

end Go.Proofs.YtejelednnacnaaaGreatDoor

/-
  The document's own answers of layer 7, walked: Num, Int, Text.
-/
namespace Go.Proofs.YtejelednnacnaaaGreatDoor
open Go.RowKit

/-- What a call hands back that makes bytes: a slice of its own that reads as the list; nothing old has changed. -/
def GivesB (l : List Int) (w : World) (e : Ending) (w' : World) : Prop := ∃ g cap, e = .returned (.slice (some ⟨g, 0, none⟩) l.length cap) ∧ OwnInts 5 .u8 w' w.heap.size (.slice (some ⟨g, 0, none⟩) l.length cap) l ∧ Below w.heap.size w w'
theorem OwnInts.form {t : TypeId} {k : IntKind} {w : World} {base : Nat} {v : Value} {l : List Int} (h : OwnInts t k w base v l) : ∃ g cap, v = .slice (some ⟨g, 0, none⟩) l.length cap := by
  rcases h.1.2 with ⟨e, _⟩ | ⟨g, cap, _, e, _⟩
  · exact (h.2 e).elim
  · exact ⟨g, cap, e⟩
theorem info_byte : (Tryz.prog.info? 5).map (fun i => (i.zero, i.size, i.bytes)) = some (some (.int .u8 0), 1, 1) := by kernel_rfl
/-- A list of one's own, made with what it holds. -/
theorem OwnInts.one (t : TypeId) (k : IntKind) (w : World) (base : Nat) (z : Int) (g : Nat) (hg : g = w.heap.size) (h : base ≤ g) : OwnInts t k (w.alloc (.cells #[.int k z] t)) base (.slice (some ⟨g, 0, none⟩) 1 1) [z] := by
  subst hg
  exact ⟨⟨rfl, .inr ⟨w.heap.size, 1, #[.int k z], rfl, h, heap_alloc_new w _, Nat.le_refl _, by decide, rfl, rfl⟩⟩, by simp⟩
/-- A list of one's own behind another one: what is known of the slice, and of what lies below. -/
theorem ints_join {t : TypeId} {k : IntKind} {w wr w1 : World} {base : Nat} {v v' : Value} {x y : List Int} (hown : OwnInts t k wr base v x)
    (hown' : w1.ownsRow base t 1 v' (x.length + y.length) (x.map (Value.int k) ++ y.map (Value.int k))) (hgrow : wr.grownBy w1 v.ownBlock) (hiff : ¬ v' = .slice none 0 0)
    (hbel : Below w.heap.size w wr) (hsz : w.heap.size ≤ base) (hbs : base ≤ wr.heap.size) :
    OwnInts t k w1 base v' (x ++ y) ∧ Below w.heap.size w w1 ∧ base ≤ w1.heap.size := by
  have hlt := hown.1.lt
  refine ⟨OwnInts.append (news := y) hown' rfl hiff, hbel.grown hgrow (by omega) (fun b hk => by have := (hlt _ hk).1; omega), ?_⟩
  have := hgrow.size; omega
theorem ints_cells {k : IntKind} {w : World} {g off n cap : Nat} {l : List Int} (h : Ints k w (.slice (some ⟨g, off, none⟩) n cap) l) : ∀ j u, (l.map (Value.int k))[j]? = some u → w.cell? ((⟨g, off, none⟩ : Addr).add j) = some u := by
  intro j u hu
  rw [List.getElem?_map] at hu
  obtain ⟨z, hz, rfl⟩ := Option.map_eq_some_iff.mp hu
  have hj : j < l.length := (List.getElem?_eq_some_iff.mp hz).1
  have := h.at hj
  rw [List.getD_eq_getElem?_getD, hz] at this
  rcases j with _ | j <;> simpa [Addr.add] using this

theorem OwnInts.put {t : TypeId} {k : IntKind} {w : World} {base g cap : Nat} {l : List Int} (h : OwnInts t k w base (.slice (some ⟨g, 0, none⟩) l.length cap) l) (j : Nat) (z : Int) :
    OwnInts t k (w.setCell ⟨g, j, none⟩ (.int k z)) base (.slice (some ⟨g, 0, none⟩) l.length cap) (l.set j z) := by
  refine ⟨?_, by simp⟩
  have := (h.1.stored j (.int k z)).1
  rw [List.length_set, List.map_set]
  exact this
theorem OwnInts.base_le {t : TypeId} {k : IntKind} {w : World} {base g n cap : Nat} {l : List Int} (h : OwnInts t k w base (.slice (some ⟨g, 0, none⟩) n cap) l) : base ≤ g ∧ g < w.heap.size := h.1.lt g rfl
theorem strCells_nums (s : ByteArray) : Lib.strCells s = (nums s).map (Value.int .u8) := by
  unfold Lib.strCells nums
  rw [List.map_map]
  rfl

theorem strOfNums_inj {a b : List Int} (ha : ∀ z ∈ a, 0 ≤ z ∧ z ≤ 255) (hb : ∀ z ∈ b, 0 ≤ z ∧ z ≤ 255) (h : strOfNums a = strOfNums b) : a = b := by
  rw [← nums_strOfNums a ha, ← nums_strOfNums b hb, h]
end Go.Proofs.YtejelednnacnaaaGreatDoor

/-
  The document's own Get of layer 7: what is read, the call's own memory, pieces of slices.
-/
namespace Go.Proofs.YtejelednnacnaaaGreatDoor
open Go.RowKit

/-- What was read: a number, a whole number, a text, a flag. -/
structure GotV where
  n : Nat := 0
  i : Int := 0
  s : ByteArray := ⟨#[]⟩
  f : Bool := false
def GotV.val (g : GotV) : Value := .agg #[.int .u64 g.n, .int .i64 g.i, .string g.s, .bool g.f]
/-- A number at the front, that begins with so many bytes to come. -/
def takeK (k : Int) (r : List Int) : Option (Nat × List Int) :=
  if 8 < k ∨ (r.length : Int) < k ∨ (0 < k ∧ r.getD 0 0 = 0) then none else some (valB (r.take k.toNat), r.drop k.toNat)
/-- A thing at the front, and what is behind it. -/
def takeT (kind most : Int) : List Int → Option (GotV × List Int)
  | [] => none
  | k :: r =>
    if kind = 3 then (if k < 2 then some ({ f := decide (k = 1) }, r) else none)
    else if kind = 1 then
      (if k / 16 % 2 = 1 then
        match takeK (k - 16) r with
        | none => none
        | some (n, q) => if 0 < n ∧ n ≤ 9223372036854775808 then some ({ i := -(n : Int) }, q) else none
      else
        match takeK k r with
        | none => none
        | some (n, q) => if n ≤ 9223372036854775807 then some ({ i := n }, q) else none)
    else
      match takeK k r with
      | none => none
      | some (n, q) =>
        if kind = 0 then some ({ n := n }, q)
        else if most < 0 ∨ most < n then none
        else if kind = 4 then some ({ n := n }, q)
        else if q.length < n then none
        else some ({ s := strOfNums (q.take n) }, q.drop n)
/-- What Get hands back. -/
def GivesGet (B : List Int) (o : Option (GotV × List Int)) (w : World) (e : Ending) (w' : World) : Prop :=
  Below w.heap.size w w' ∧ ((∃ g q, o = some (g, q) ∧ q.length ≤ B.length ∧ B.drop (B.length - q.length) = q ∧ e = .returned (.tuple #[g.val, .int .i64 ((B.length - q.length : Nat) : Int), .bool true])) ∨
    (o = none ∧ ∃ (a b : Int) (c : ByteArray) (d : Bool) (n : Int), e = .returned (.tuple #[.agg #[.int .u64 a, .int .i64 b, .string c, .bool d], .int .i64 n, .bool false])))
/-- Four cells. -/
structure Var4 (W : World) (p : Nat) (x y z u : Value) : Prop where
  c0 : W.cell? ⟨p, 0, none⟩ = some x
  c1 : W.cell? ⟨p, 1, none⟩ = some y
  c2 : W.cell? ⟨p, 2, none⟩ = some z
  c3 : W.cell? ⟨p, 3, none⟩ = some u
  q0 : W.frozen? ⟨p, 0, none⟩ = false
  q1 : W.frozen? ⟨p, 1, none⟩ = false
  q2 : W.frozen? ⟨p, 2, none⟩ = false
  q3 : W.frozen? ⟨p, 3, none⟩ = false
  s : p < W.heap.size
theorem Var4.after {W W1 : World} {p : Nat} {x y z u : Value} (k : Var4 W p x y z u) (hb : Below W.heap.size W W1) : Var4 W1 p x y z u :=
  ⟨(hb.cell (p := ⟨p, 0, none⟩) k.s).trans k.c0, (hb.cell (p := ⟨p, 1, none⟩) k.s).trans k.c1, (hb.cell (p := ⟨p, 2, none⟩) k.s).trans k.c2, (hb.cell (p := ⟨p, 3, none⟩) k.s).trans k.c3, (below_frozen hb k.s).trans k.q0, (below_frozen hb k.s).trans k.q1, (below_frozen hb k.s).trans k.q2, (below_frozen hb k.s).trans k.q3, Nat.lt_of_lt_of_le k.s hb.size⟩
theorem Var4.fresh (W : World) (x y z u : Value) (t : TypeId) (p : Nat) (hp : p = W.heap.size) : Var4 (W.alloc (.cells #[x, y, z, u] t)) p x y z u := by
  subst hp; exact ⟨by simp, by simp, by simp, by simp, by simp [go_sem], by simp [go_sem], by simp [go_sem], by simp [go_sem], by simp⟩
theorem Var4.alloc {W : World} {p : Nat} {x y z u : Value} (k : Var4 W p x y z u) (o : Obj) : Var4 (W.alloc o) p x y z u := k.after ((Below.refl _ _).alloc (Nat.le_refl _) o)

theorem drop_rest {B R : List Int} {a K : Nat} (hR : B.drop (a + 1) = R) (hl : a + 1 ≤ B.length) (hK : K ≤ R.length) : (R.drop K).length ≤ B.length ∧ B.drop (B.length - (R.drop K).length) = R.drop K ∧ B.length - (R.drop K).length = a + 1 + K := by
  subst hR
  rw [List.length_drop] at hK
  rw [List.drop_drop, List.length_drop]
  refine ⟨by omega, ?_, by omega⟩
  rw [show B.length - (B.length - (a + 1 + K)) = a + 1 + K by omega]
theorem under_bytes : Tryz.prog.underlying 22 = some (.slice (Tryz.prog.elem 22)) := by kernel_rfl
theorem elem_bytes : ∀ W, (sizeOf (Tryz.prog.elem 22)).run Tryz.prog W = .ok 1 W := fun _ => by kernel_rfl
theorem slice_mid (g o n cap a b : Nat) (hab : a ≤ b) (hb : b ≤ cap) : ∃ o2 c2, (∀ W, (Instr.slice 22 (.slice (some ⟨g, o, none⟩) n cap) (some (.int .i64 a)) (some (.int .i64 b)) none).run Tryz.prog W = .ok (.slice (some ⟨g, o2, none⟩) ((b - a : Nat) : Nat) c2) W) ∧ (0 < b - a → o2 = o + a) := by
  by_cases hc : cap = a
  · refine ⟨o, cap - a, fun W => ?_, fun h => by omega⟩
    rw [run_slice_lh W 22 _ n cap under_bytes .i64 .i64 a b (by omega) (by omega) (by omega), elem_bytes]
    simp only [Result.andThen, sliced, Int.toNat_natCast]
    rw [if_pos hc]
  · refine ⟨o + a, cap - a, fun W => ?_, fun _ => rfl⟩
    rw [run_slice_lh W 22 _ n cap under_bytes .i64 .i64 a b (by omega) (by omega) (by omega), elem_bytes]
    simp only [Result.andThen, sliced, Int.toNat_natCast]
    rw [if_neg hc]
    rcases a with _ | a <;> simp [Addr.add]
theorem text_of {w : World} (g o2 c2 : Nat) (zs : List Int) (n : Nat) (hn : zs.length = n) (hc : ∀ i, i < n → ∀ x y z, (((w.alloc x).alloc y).alloc z).cell? ⟨g, o2 + i, none⟩ = some (.int .u8 (zs.getD i 0))) :
    ∀ x y z, (convert 22 9 (.slice (some ⟨g, o2, none⟩) n c2)).run Tryz.prog (((w.alloc x).alloc y).alloc z) = .ok (.string (strOfNums zs)) (((w.alloc x).alloc y).alloc z) := fun x y z =>
  run_convert_bytes_arg _ 22 5 Tryz.underlying22 Tryz.underlying5 g o2 n c2 zs hn (fun i hi => hc i hi x y z) 9 Tryz.underlying9
/-- What stands in the call's own memory. -/
structure GtM (w wr : World) (kind most : Int) : Prop where
  b : Var2 wr w.heap.size (.int .i64 kind) (.int .i64 most)
  r : Var4 wr (w.heap.size + 1) (.int .u64 0) (.int .i64 0) (.string ⟨#[]⟩) (.bool false)
  z : Var4 wr (w.heap.size + 1 + 1) (.int .u64 0) (.int .i64 0) (.string ⟨#[]⟩) (.bool false)
  bel : Below w.heap.size w wr
  lt : w.heap.size + 1 + 1 < wr.heap.size
theorem GtM.start (w : World) (kind most : Int) : GtM w (((w.alloc (.cells #[.int .i64 kind, .int .i64 most] 72)).alloc (.cells #[.int .u64 0, .int .i64 0, .string ⟨#[]⟩, .bool false] 68)).alloc (.cells #[.int .u64 0, .int .i64 0, .string ⟨#[]⟩, .bool false] 68)) kind most := by
  have k0 := Var2.fresh w (.int .i64 kind) (.int .i64 most) 72 _ rfl
  have e1 : (w.alloc (.cells #[.int .i64 kind, .int .i64 most] 72)).heap.size = w.heap.size + 1 := by simp
  have b0 : Below w.heap.size w (w.alloc (.cells #[.int .i64 kind, .int .i64 most] 72)) := (Below.refl _ _).alloc (Nat.le_refl _) _
  generalize w.alloc (.cells #[.int .i64 kind, .int .i64 most] 72) = A at e1 k0 b0 ⊢
  have k1 := Var4.fresh A (.int .u64 0) (.int .i64 0) (.string ⟨#[]⟩) (.bool false) 68 _ rfl
  have e2 : (A.alloc (.cells #[.int .u64 0, .int .i64 0, .string ⟨#[]⟩, .bool false] 68)).heap.size = A.heap.size + 1 := by simp
  have k0 := k0.alloc (.cells #[.int .u64 0, .int .i64 0, .string ⟨#[]⟩, .bool false] 68)
  have b0 := below_more b0 (.cells #[.int .u64 0, .int .i64 0, .string ⟨#[]⟩, .bool false] 68)
  generalize A.alloc (.cells #[.int .u64 0, .int .i64 0, .string ⟨#[]⟩, .bool false] 68) = B at e2 k0 k1 b0 ⊢
  have k2 := Var4.fresh B (.int .u64 0) (.int .i64 0) (.string ⟨#[]⟩) (.bool false) 68 _ rfl
  have e3 : (B.alloc (.cells #[.int .u64 0, .int .i64 0, .string ⟨#[]⟩, .bool false] 68)).heap.size = B.heap.size + 1 := by simp
  have k0 := k0.alloc (.cells #[.int .u64 0, .int .i64 0, .string ⟨#[]⟩, .bool false] 68)
  have k1 := k1.alloc (.cells #[.int .u64 0, .int .i64 0, .string ⟨#[]⟩, .bool false] 68)
  have b0 := below_more b0 (.cells #[.int .u64 0, .int .i64 0, .string ⟨#[]⟩, .bool false] 68)
  have ep : A.heap.size = w.heap.size + 1 := e1
  have eq : B.heap.size = w.heap.size + 1 + 1 := by omega
  rw [eq] at k2
  rw [ep] at k1
  exact ⟨k0, k1, k2, b0, by omega⟩
/-- Memory that is older than the call's own. -/
theorem GtM.old {w wr : World} {kind most : Int} (h : GtM w wr kind most) {g o : Nat} {x : Value} (hg : g < w.heap.size) (hc : w.cell? ⟨g, o, none⟩ = some x) : wr.cell? ⟨g, o, none⟩ = some x := (h.bel.cell (p := ⟨g, o, none⟩) hg).trans hc
theorem old3 {w : World} {g i : Nat} {x : Value} (hg : g < w.heap.size) (h : w.cell? ⟨g, i, none⟩ = some x) (a b c : Obj) : (((w.alloc a).alloc b).alloc c).cell? ⟨g, i, none⟩ = some x :=
  (Below.cell (p := ⟨g, i, none⟩) ((((Below.refl w.heap.size w).alloc (Nat.le_refl _) a).alloc (by simp) b).alloc (by simp; omega) c) hg).trans h
theorem below3 (w : World) (a b c : Obj) : Below w.heap.size w (((w.alloc a).alloc b).alloc c) := (((Below.refl w.heap.size w).alloc (Nat.le_refl _) a).alloc (by simp) b).alloc (by simp; omega) c
theorem GivesGet.none {B : List Int} {w w' : World} {o : Option (GotV × List Int)} {a b : Int} {c : ByteArray} {d : Bool} {n : Int} (h : o = .none) (hb : Below w.heap.size w w') : GivesGet B o w (.returned (.tuple #[.agg #[.int .u64 a, .int .i64 b, .string c, .bool d], .int .i64 n, .bool false])) w' := ⟨hb, Or.inr ⟨h, a, b, c, d, n, rfl⟩⟩
theorem GivesGet.some {B q : List Int} {w w' : World} {o : Option (GotV × List Int)} {a b c d : Value} {n : Int} {g : GotV} (h : o = .some (g, q)) (hq : q.length ≤ B.length) (hd : B.drop (B.length - q.length) = q) (hn : n = ((B.length - q.length : Nat) : Int)) (hg : g.val = .agg #[a, b, c, d]) (hb : Below w.heap.size w w') :
    GivesGet B o w (.returned (.tuple #[.agg #[a, b, c, d], .int .i64 n, .bool true])) w' := ⟨hb, Or.inl ⟨g, q, h, hq, hd, by rw [hn, hg]⟩⟩
theorem drop_cons {B : List Int} {a : Nat} (h : a < B.length) : B.drop a = B.getD a 0 :: B.drop (a + 1) := by
  rw [List.drop_eq_getElem_cons h, List.getD_eq_getElem?_getD, List.getElem?_eq_getElem h]; rfl
theorem drop_back (B : List Int) (a : Nat) (h : a ≤ B.length) : (B.drop a).length ≤ B.length ∧ B.drop (B.length - (B.drop a).length) = B.drop a ∧ B.length - (B.drop a).length = a := by
  rw [List.length_drop]
  refine ⟨by omega, ?_, by omega⟩
  rw [show B.length - (B.length - a) = a by omega]

end Go.Proofs.YtejelednnacnaaaGreatDoor

/-
  What a reader's state is, and what each call makes of it: plain. That only one block has changed.
-/
namespace Go.Proofs.YtejelednnacnaaaGreatDoor
open Go.RowKit

/-- A thing that is asked for, of a reader that has so many bytes left, or is bad. -/
def readT (kind most : Int) : Option (List Int) → GotV × Option (List Int)
  | none => ({}, none)
  | some R => match takeT kind most R with
    | none => ({}, none)
    | some (g, q) => (g, some q)
theorem readT_none (kind most : Int) : readT kind most none = ({}, none) := rfl
theorem readT_some {kind most : Int} {R q : List Int} {g : GotV} (h : takeT kind most R = some (g, q)) : readT kind most (some R) = (g, some q) := by simp only [readT, h]
theorem readT_fail {kind most : Int} {R : List Int} (h : takeT kind most R = none) : readT kind most (some R) = ({}, none) := by simp only [readT, h]
/-- How many are left. -/
def leftN : Option (List Int) → Nat
  | none => 0
  | some R => R.length
/-- Fine, or Torn. -/
def endC : Option (List Int) → Int
  | some [] => 0
  | _ => 10
/-- One block has changed, and new memory is made. -/
structure OnlyB (r : Nat) (w w' : World) : Prop where
  bel : Below r w w'
  size : w.heap.size ≤ w'.heap.size
  keep : ∀ i, i < w.heap.size → i ≠ r → w'.heap[i]? = w.heap[i]?
theorem OnlyB.cell {r : Nat} {w w' : World} (h : OnlyB r w w') {b o : Nat} (hb : b < w.heap.size) (hne : b ≠ r) : w'.cell? ⟨b, o, none⟩ = w.cell? ⟨b, o, none⟩ := World.cell?_of_block (h.keep b hb hne)
theorem OnlyB.frozen {r : Nat} {w w' : World} (h : OnlyB r w w') {b o : Nat} (hb : b < w.heap.size) (hne : b ≠ r) : w'.frozen? ⟨b, o, none⟩ = w.frozen? ⟨b, o, none⟩ := World.frozen?_of_block (h.keep b hb hne)
theorem OnlyB.ints {r : Nat} {w w' : World} (h : OnlyB r w w') {k : IntKind} {g off cap : Nat} {l : List Int} (hi : Ints k w (.slice (some ⟨g, off, none⟩) l.length cap) l) (hne : g ≠ r) : Ints k w' (.slice (some ⟨g, off, none⟩) l.length cap) l := by
  obtain ⟨b', off', cap', he, hc, hlt, hcell⟩ := hi
  simp only [Value.slice.injEq, Option.some.injEq, Addr.mk.injEq, and_true] at he
  obtain ⟨⟨rfl, rfl⟩, _, rfl⟩ := he
  exact ⟨g, off, cap, rfl, hc, Nat.lt_of_lt_of_le hlt h.size, fun i hi => by rw [h.cell hlt hne]; exact hcell i hi⟩
theorem OnlyB.below {r B : Nat} {w w' : World} (h : OnlyB r w w') (hB : B ≤ r) : Below B w w' := h.bel.mono hB
theorem Var4.only {r : Nat} {W W1 : World} {p : Nat} {x y z u : Value} (k : Var4 W p x y z u) (hb : OnlyB r W W1) (hne : p ≠ r) : Var4 W1 p x y z u := by
  obtain ⟨c0, c1, c2, c3, q0, q1, q2, q3, s⟩ := k
  exact ⟨by rw [hb.cell s hne, c0], by rw [hb.cell s hne, c1], by rw [hb.cell s hne, c2], by rw [hb.cell s hne, c3], by rw [hb.frozen s hne, q0], by rw [hb.frozen s hne, q1], by rw [hb.frozen s hne, q2], by rw [hb.frozen s hne, q3], Nat.lt_of_lt_of_le s hb.size⟩

/-- The value is a slice that reads as the list: of some address, if there is anything in it. -/
def BytesIs (w : World) (v : Value) (l : List Int) : Prop :=
  ∃ a cap, v = .slice a l.length cap ∧ l.length ≤ cap ∧ ∀ i, i < l.length → ∃ b off, a = some ⟨b, off, none⟩ ∧ w.cell? ⟨b, off + i, none⟩ = some (.int .u8 (l.getD i 0))
theorem BytesIs.below {w w' : World} {v : Value} {l : List Int} (h : BytesIs w v l) (hb : Below w.heap.size w w') : BytesIs w' v l := by
  obtain ⟨a, cap, rfl, hc, hcell⟩ := h
  refine ⟨a, cap, rfl, hc, fun i hi => ?_⟩
  obtain ⟨b, off, rfl, h⟩ := hcell i hi
  exact ⟨b, off, rfl, (hb.cell (p := ⟨b, off + i, none⟩) (World.block_lt_of_cell? _ _ h)).trans h⟩
theorem Ints.bytesIs {w : World} {v : Value} {l : List Int} (h : Ints .u8 w v l) : BytesIs w v l := by
  obtain ⟨b, off, cap, rfl, hc, _, hcell⟩ := h
  exact ⟨_, cap, rfl, hc, fun i hi => ⟨b, off, rfl, hcell i hi⟩⟩
theorem BytesIs.ints {w : World} {v : Value} {l : List Int} (h : BytesIs w v l) (hl : 0 < l.length) : Ints .u8 w v l := by
  obtain ⟨a, cap, rfl, hc, hcell⟩ := h
  obtain ⟨b, off, rfl, h0⟩ := hcell 0 hl
  refine ⟨b, off, cap, rfl, hc, World.block_lt_of_cell? _ _ h0, fun i hi => ?_⟩
  obtain ⟨b', off', he, h⟩ := hcell i hi
  simp only [Option.some.injEq, Addr.mk.injEq, and_true] at he
  obtain ⟨rfl, rfl⟩ := he
  exact h

/-- What a thing is, kind by kind. -/
theorem takeT_most {kind : Int} (h : kind = 0 ∨ kind = 1 ∨ kind = 3) (m m' : Int) (R : List Int) : takeT kind m R = takeT kind m' R := by
  rcases h with rfl | rfl | rfl <;> cases R <;> rfl
theorem takeT_num {most : Int} {R q : List Int} {g : GotV} (h : takeT 0 most R = some (g, q)) : g = { n := g.n } := by
  cases R with
  | nil => cases h
  | cons k r =>
    have h2 : (match takeK k r with | none => none | some (n, q) => some (({ n := n } : GotV), q)) = some (g, q) := h
    cases hk : takeK k r with
    | none => rw [hk] at h2; cases h2
    | some p => rw [hk] at h2; cases h2; rfl
theorem takeT_count {most : Int} {R q : List Int} {g : GotV} (h : takeT 4 most R = some (g, q)) (hm : most ≤ 9223372036854775807) : g = { n := g.n } ∧ (g.n : Int) ≤ 9223372036854775807 := by
  cases R with
  | nil => cases h
  | cons k r =>
    have h2 : (match takeK k r with | none => none | some (n, q) => if most < 0 ∨ most < n then none else some (({ n := n } : GotV), q)) = some (g, q) := h
    cases hk : takeK k r with
    | none => rw [hk] at h2; cases h2
    | some p =>
      obtain ⟨n, q'⟩ := p
      rw [hk] at h2
      by_cases hc : most < 0 ∨ most < (n : Int)
      · simp only [if_pos hc] at h2; cases h2
      · simp only [if_neg hc] at h2
        cases h2
        exact ⟨rfl, by show (n : Int) ≤ _; omega⟩
theorem takeT_text {most : Int} {R q : List Int} {g : GotV} (h : takeT 2 most R = some (g, q)) : g = { s := g.s } := by
  cases R with
  | nil => cases h
  | cons k r =>
    have h2 : (match takeK k r with | none => none | some (n, q) => if most < 0 ∨ most < n then none else if q.length < n then none else some (({ s := strOfNums (q.take n) } : GotV), q.drop n)) = some (g, q) := h
    cases hk : takeK k r with
    | none => rw [hk] at h2; cases h2
    | some p =>
      obtain ⟨n, q'⟩ := p
      rw [hk] at h2
      by_cases hc : most < 0 ∨ most < (n : Int)
      · simp only [if_pos hc] at h2; cases h2
      · simp only [if_neg hc] at h2
        by_cases hd : q'.length < n
        · simp only [if_pos hd] at h2; cases h2
        · simp only [if_neg hd] at h2
          cases h2; rfl
theorem takeT_flag {most : Int} {R q : List Int} {g : GotV} (h : takeT 3 most R = some (g, q)) : g = { f := g.f } := by
  cases R with
  | nil => cases h
  | cons k r =>
    have h2 : (if k < 2 then some (({ f := decide (k = 1) } : GotV), r) else none) = some (g, q) := h
    by_cases hc : k < 2
    · rw [if_pos hc] at h2; cases h2; rfl
    · rw [if_neg hc] at h2; cases h2
theorem takeT_int {most : Int} {R q : List Int} {g : GotV} (h : takeT 1 most R = some (g, q)) : g = { i := g.i } := by
  cases R with
  | nil => cases h
  | cons k r =>
    have h2 : (if k / 16 % 2 = 1 then (match takeK (k - 16) r with | none => none | some (n, q) => if 0 < n ∧ n ≤ 9223372036854775808 then some (({ i := -(n : Int) } : GotV), q) else none)
      else (match takeK k r with | none => none | some (n, q) => if n ≤ 9223372036854775807 then some (({ i := n } : GotV), q) else none)) = some (g, q) := h
    by_cases hs : k / 16 % 2 = 1
    · rw [if_pos hs] at h2
      cases hk : takeK (k - 16) r with
      | none => rw [hk] at h2; cases h2
      | some p =>
        obtain ⟨n, q'⟩ := p
        rw [hk] at h2
        by_cases hc : 0 < n ∧ n ≤ 9223372036854775808
        · simp only [if_pos hc] at h2; cases h2; rfl
        · simp only [if_neg hc] at h2; cases h2
    · rw [if_neg hs] at h2
      cases hk : takeK k r with
      | none => rw [hk] at h2; cases h2
      | some p =>
        obtain ⟨n, q'⟩ := p
        rw [hk] at h2
        by_cases hc : n ≤ 9223372036854775807
        · simp only [if_pos hc] at h2; cases h2; rfl
        · simp only [if_neg hc] at h2; cases h2

end Go.Proofs.YtejelednnacnaaaGreatDoor

/-
  Bytes that are handed in: what they are.
-/
namespace Go.Proofs.YtejelednnacnaaaGreatDoor
open Go.ChangeShapes Go.WideShapes Go.ChangeAt Go.RowKit Go.Joins

/-- Bytes that are handed in: nil, or some. -/
def ArgB (w : World) (v : Value) (l : List Int) : Prop :=
  (v = .slice none 0 0 ∧ l = []) ∨ ∃ (x : Addr) (cap : Nat), v = .slice (some x) l.length cap ∧ l.length ≤ cap ∧ ∀ i, i < l.length → w.cell? (x.add i) = some (.int .u8 (l.getD i 0))
theorem arg_addr {w : World} {x : Addr} {l : List Int} (h : ∀ i, i < l.length → w.cell? (x.add i) = some (.int .u8 (l.getD i 0))) (hl : 0 < l.length) : ∃ b off, x = ⟨b, off, none⟩ ∧ ∀ i, i < l.length → w.cell? ⟨b, off + i, none⟩ = some (.int .u8 (l.getD i 0)) := ints_at h hl
theorem ArgB.bytesIs {w : World} {v : Value} {l : List Int} (h : ArgB w v l) : BytesIs w v l := by
  rcases h with ⟨rfl, rfl⟩ | ⟨x, cap, rfl, hc, hcell⟩
  · exact ⟨none, 0, rfl, Nat.le_refl _, fun i hi => by cases hi⟩
  · refine ⟨_, cap, rfl, hc, fun i hi => ?_⟩
    obtain ⟨b, off, rfl, h⟩ := arg_addr hcell (by omega)
    exact ⟨b, off, rfl, h i hi⟩
theorem ArgB.below {w w' : World} {v : Value} {l : List Int} (h : ArgB w v l) (hb : Below w.heap.size w w') : ArgB w' v l := by
  rcases h with h | ⟨x, cap, rfl, hc, hcell⟩
  · exact Or.inl h
  · exact Or.inr ⟨x, cap, rfl, hc, fun i hi => (hb.cell (World.block_lt_of_cell? _ _ (hcell i hi))).trans (hcell i hi)⟩
set_option maxRecDepth 100000 in
theorem open_bytes {H : Type} {enc : TypeId × Value → H} {W : World} {base : Nat} {held : Bool} {r : Reach} {b0 : Nat} {v : Value} {d : DataW H} {p : List MemPlace}
    (hv : Value.okWide Tryz.prog W r b0 22 v) (h : DataW.Trod enc Tryz.prog W base (fun _ => true) held 22 v d p) : ∃ l, ArgB W v l ∧ ∀ z ∈ l, 0 ≤ z ∧ z ≤ 255 := by
  obtain ⟨a0, len0, cap0, rfl⟩ := okWide_slice Tryz.underlying22 hv
  obtain ⟨fuel, hf⟩ := h
  rcases open_ints Tryz.underlying22 Tryz.underlying5 (by kernel_rfl) hf with ⟨hcs, _⟩ | ⟨x, l, c, zs, hcs, _, hl, hm, hz, _, hcell, hwz⟩
  · simp [Value.cells] at hcs
    obtain ⟨rfl, rfl, rfl⟩ := hcs
    exact ⟨[], Or.inl ⟨rfl, rfl⟩, fun z hz => by cases hz⟩
  · simp [Value.cells] at hcs
    obtain ⟨rfl, rfl, rfl⟩ := hcs
    have hz' : zs.length = cap0 := by simpa using hz
    have hlen : (zs.take len0).length = len0 := by rw [List.length_take]; omega
    refine ⟨zs.take len0, Or.inr ⟨x, cap0, by rw [hlen], by omega, fun i hi => ?_⟩, fun z hzm => ?_⟩
    · rw [hlen] at hi
      rw [hcell i (by omega), List.getD_eq_getElem?_getD, List.getD_eq_getElem?_getD, List.getElem?_take_of_lt hi]
    · have := hwz z (List.mem_of_mem_take hzm)
      simpa [Lit.wf, IntKind.min, IntKind.max, IntKind.signed, IntKind.bits] using this

end Go.Proofs.YtejelednnacnaaaGreatDoor

/-
  Bytes put behind bytes of the call's own, whatever slice they lie in; what a slice of bytes is as a string.
-/
namespace Go.Proofs.YtejelednnacnaaaGreatDoor
open Go.RowKit

theorem OwnInts.argB {w : World} {base : Nat} {v : Value} {l : List Int} (h : OwnInts 5 .u8 w base v l) : ArgB w v l := by
  obtain ⟨b, off, cap, rfl, hc, _, hcell⟩ := h.ints
  refine Or.inr ⟨⟨b, off, none⟩, cap, rfl, hc, fun i hi => ?_⟩
  have := hcell i hi
  rcases i with _ | i <;> simpa [Addr.add] using this
theorem ArgB.nil (w : World) : ArgB w (.slice none 0 0) [] := Or.inl ⟨rfl, rfl⟩
/-- A list of one's own stays while new memory is made. -/
theorem OwnInts.below {t : TypeId} {k : IntKind} {w w' : World} {base : Nat} {v : Value} {l : List Int} (h : OwnInts t k w base v l) (hb : Below w.heap.size w w') : OwnInts t k w' base v l := by
  obtain ⟨⟨h1, h2⟩, hn⟩ := h
  refine ⟨⟨h1, ?_⟩, hn⟩
  rcases h2 with hx | ⟨g, cap, cur, rfl, hbg, hg, rest⟩
  · exact Or.inl hx
  · exact Or.inr ⟨g, cap, cur, rfl, hbg, (hb.block _ (Array.getElem?_eq_some_iff.1 hg).1).trans hg, rest⟩
/-- Bytes of the call's own, made with what they hold. -/
theorem OwnInts.made (w : World) (base g : Nat) (l : List Int) (hg : g = w.heap.size) (h : base ≤ g) (hl : l.length ≤ 1000000) : OwnInts 5 .u8 (w.alloc (.cells (l.map (Value.int .u8)).toArray 5)) base (.slice (some ⟨g, 0, none⟩) l.length l.length) l := by
  subst hg
  exact ⟨⟨by simp, .inr ⟨w.heap.size, l.length, _, rfl, h, heap_alloc_new w _, Nat.le_refl _, by unfold maxLen; omega, by simp, by simp; exact List.take_of_length_le (by simp)⟩⟩, by simp⟩
theorem ArgB.size {w : World} {v : Value} {l : List Int} (h : ArgB w v l) : ∃ a cap, v = .slice a l.length cap := by
  rcases h with ⟨rfl, rfl⟩ | ⟨x, cap, rfl, _⟩
  · exact ⟨none, 0, rfl⟩
  · exact ⟨some x, cap, rfl⟩
/-- The operation, for a walk: bytes behind a list of one's own. -/
theorem wp_join {w : World} {ops : Array Oper} {rest : List Oper} {o : Oper} {a : Act} {Q : Exit → Act → World → Prop} (hgd : o.guard = none) (s x : Operand)
    (ho : o.op = .call { callee := .builtin .append, args := #[s, x], argTypes := #[22, 22] })
    (base : Nat) (v : Value) (l : List Int) (hs : a.eval s = v) (hown : OwnInts 5 .u8 w base v l) (yv : Value) (y : List Int) (hx : a.eval x = yv) (hy : ArgB w yv y)
    (hlen : l.length + y.length ≤ 100000000) (hbase : base ≤ w.heap.size)
    (h : ∀ v' w', OwnInts 5 .u8 w' base v' (l ++ y) → Below base w w' → w.grownBy w' v.ownBlock → base ≤ w'.heap.size → wpList Tryz.prog ops Q rest (a.put o.dst v') w') : wpList Tryz.prog ops Q (o :: rest) a w := by
  obtain ⟨i0, hi, hz0, hz1, hz2⟩ := info_parts info_byte
  rcases hy with ⟨rfl, rfl⟩ | ⟨ad, cap, rfl, hc, hcell⟩
  · refine wpList_append_own_none hgd s x _ ho base 5 i0 1 Tryz.underlying22 hi v l.length _ hs hown.1 hx ?_
    have := h v w (by rw [List.append_nil]; exact hown) (Below.refl _ _) ⟨rfl, rfl, rfl, Nat.le_refl _, fun _ _ _ => rfl⟩ hbase
    exact this
  · refine wpList_append_own w hgd s x 22 ho base 5 i0 (.int .u8 0) 1 1 Tryz.underlying22 hi hz0 hz1 hz2 rfl (by decide) v l.length _ hs hown.1 ad y.length cap (y.map (Value.int .u8)) hx (by simp) ?_ (ints_one _ _) ?_ ?_ hbase ?_
    · intro j u hu
      rw [List.getElem?_map] at hu
      obtain ⟨z, hz, rfl⟩ := Option.map_eq_some_iff.mp hu
      have hj : j < y.length := (List.getElem?_eq_some_iff.mp hz).1
      rw [hcell j hj, List.getD_eq_getElem?_getD, hz]; rfl
    · unfold maxLen; omega
    · omega
    · intro v' w' hown' hgrow hiff
      have hn : ¬ v' = .slice none 0 0 := fun e => hown.2 (hiff.mp e).1
      have hlt := hown.1.lt
      refine h v' w' (OwnInts.append hown' rfl hn) ((Below.refl base w).grown hgrow hbase (fun b hk => (hlt _ hk).1)) hgrow ?_
      have := hgrow.size; omega
/-- What a slice of bytes is as a string. -/
theorem conv_arg {w : World} {v : Value} {l : List Int} (h : ArgB w v l) (_hb : ∀ z ∈ l, 0 ≤ z ∧ z ≤ 255) : (convert 22 9 v).run Tryz.prog w = .ok (.string (strOfNums l)) w := by
  rcases h with ⟨rfl, rfl⟩ | ⟨ad, cap, rfl, hc, hcell⟩
  · exact run_convert_bytes_nil w 22 5 Tryz.underlying22 Tryz.underlying5 0 0 9 Tryz.underlying9
  · by_cases hl : 0 < l.length
    · obtain ⟨b, off, rfl, hcell2⟩ := arg_addr hcell hl
      exact run_convert_bytes_arg w 22 5 Tryz.underlying22 Tryz.underlying5 _ _ _ _ l rfl hcell2 9 Tryz.underlying9
    · obtain rfl : l = [] := List.eq_nil_of_length_eq_zero (by omega)
      have := run_convert_bytes_back (P := Tryz.prog) w 22 9 5 ad cap [] Tryz.underlying22 Tryz.underlying5 Tryz.underlying9 (fun j hj => by cases hj)
      exact this
/-- A part of a slice of bytes, by its cells. -/
theorem ArgB.part {w : World} {b off : Nat} {l : List Int} (h : ∀ i, i < l.length → w.cell? ⟨b, off + i, none⟩ = some (.int .u8 (l.getD i 0))) (p n c : Nat) (hp : p + n ≤ l.length) (hc : n ≤ c) : ArgB w (.slice (some ⟨b, off + p, none⟩) n c) ((l.drop p).take n) := by
  have hl : ((l.drop p).take n).length = n := by rw [List.length_take, List.length_drop]; omega
  refine Or.inr ⟨⟨b, off + p, none⟩, c, by rw [hl], by omega, fun i hi => ?_⟩
  rw [hl] at hi
  have e : ((l.drop p).take n).getD i 0 = l.getD (p + i) 0 := by
    rw [List.getD_eq_getElem?_getD, List.getElem?_take_of_lt hi, List.getElem?_drop, List.getD_eq_getElem?_getD]
  have := h (p + i) (by omega)
  rw [e]
  rcases i with _ | i
  · simpa [Addr.add] using this
  · have e2 : (⟨b, off + p, none⟩ : Addr).add (i + 1) = ⟨b, off + p + (i + 1), none⟩ := by unfold Addr.add; split <;> simp_all
    rw [e2, Nat.add_assoc]; exact this

end Go.Proofs.YtejelednnacnaaaGreatDoor

/-
  Rows of one-cell values that a call has made, whatever they are: what they hold; one more behind them.
-/
namespace Go.Proofs.YtejelednnacnaaaGreatDoor
open Go.RowKit

/-- A slice of the call's own. -/
structure OwnRow (t : TypeId) (w : World) (base : Nat) (v : Value) (vs : List Value) : Prop where
  own : w.ownsRow base t 1 v vs.length vs
  non : v ≠ .slice none 0 0
  one : ∀ u ∈ vs, u.oneCell' = true
theorem OwnRow.form {t : TypeId} {w : World} {base : Nat} {v : Value} {vs : List Value} (h : OwnRow t w base v vs) : ∃ g cap, v = .slice (some ⟨g, 0, none⟩) vs.length cap ∧ base ≤ g ∧ g < w.heap.size := by
  have hlt := h.own.lt
  rcases h.own.2 with ⟨e, _⟩ | ⟨g, cap, _, e, hb, _⟩
  · exact (h.non e).elim
  · subst e; exact ⟨g, cap, rfl, hb, (hlt g rfl).2⟩
theorem OwnRow.at {t : TypeId} {w : World} {base g n cap : Nat} {vs : List Value} (h : OwnRow t w base (.slice (some ⟨g, 0, none⟩) n cap) vs) (i : Nat) (hi : i < vs.length) : w.cell? ⟨g, i, none⟩ = some (vs.getD i undef) := by
  have hcs := @World.ownsRow.cells _ _ _ _ _ _ _ h.own
  have := hcs (g := g) rfl i (vs.getD i undef) (by rw [List.getD_eq_getElem?_getD, List.getElem?_eq_getElem hi]; rfl)
  rcases i with _ | i <;> simpa [Addr.add] using this
theorem OwnRow.below {t : TypeId} {w w' : World} {base : Nat} {v : Value} {vs : List Value} (h : OwnRow t w base v vs) (hb : Below w.heap.size w w') : OwnRow t w' base v vs := by
  obtain ⟨⟨h1, h2⟩, hn, ho⟩ := h
  refine ⟨⟨h1, ?_⟩, hn, ho⟩
  rcases h2 with hx | ⟨g, cap, cur, rfl, hbg, hg, rest⟩
  · exact Or.inl hx
  · exact Or.inr ⟨g, cap, cur, rfl, hbg, (hb.block _ (Array.getElem?_eq_some_iff.1 hg).1).trans hg, rest⟩
/-- It stays while other things change. -/
theorem OwnRow.only {t : TypeId} {w w' : World} {base b0 g n cap : Nat} {O : Foot} {vs : List Value} (h : OwnRow t w base (.slice (some ⟨g, 0, none⟩) n cap) vs) (hb : OnlyO b0 O w w') (hne : ¬ O g) : OwnRow t w' base (.slice (some ⟨g, 0, none⟩) n cap) vs := by
  obtain ⟨⟨h1, h2⟩, hn, ho⟩ := h
  refine ⟨⟨h1, ?_⟩, hn, ho⟩
  rcases h2 with hx | ⟨g', cap', cur, e, hbg, hg, rest⟩
  · exact Or.inl hx
  · simp only [Value.slice.injEq, Option.some.injEq, Addr.mk.injEq, and_true] at e
    obtain ⟨rfl, e2, e3⟩ := e
    exact Or.inr ⟨g, cap', cur, by rw [e2, e3], hbg, (hb.keep g (Array.getElem?_eq_some_iff.1 hg).1 hne).trans hg, rest⟩
theorem OwnRow.made (t : TypeId) (w : World) (base g : Nat) (x : Value) (hx : x.oneCell' = true) (hg : g = w.heap.size) (h : base ≤ g) : OwnRow t (w.alloc (.cells #[x] t)) base (.slice (some ⟨g, 0, none⟩) 1 1) [x] := by
  subst hg
  exact ⟨⟨rfl, .inr ⟨w.heap.size, 1, #[x], rfl, h, heap_alloc_new w _, Nat.le_refl _, by decide, rfl, rfl⟩⟩, by simp, fun u hu => (List.mem_singleton.mp hu) ▸ hx⟩
theorem OwnRow.fresh (t : TypeId) (w : World) (base g : Nat) (hg : g = w.heap.size) (h : base ≤ g) : OwnRow t (w.alloc (.cells #[] t)) base (.slice (some ⟨g, 0, none⟩) 0 0) [] := by
  subst hg
  exact ⟨World.ownsRow_made w #[] 0 h (Nat.zero_le _) rfl, by simp, fun u hu => by cases hu⟩
/-- One more, which stands in a new row of one: where the slice lies then. -/
theorem run_row {w : World} {T t : TypeId} {z : Value} {bts : Nat} (hT : Tryz.prog.underlying T = some (.slice t)) (hinf : (Tryz.prog.info? t).map (fun i => (i.zero, i.size, i.bytes)) = some (some z, 1, bts)) (hzs : z.cells.size = 1) (hbt : bts ≤ 24)
    (base : Nat) (v : Value) (vs : List Value) (hown : OwnRow t w base v vs) (g : Nat) (y : Value) (hcell : w.cell? ⟨g, 0, none⟩ = some y) (hy : y.oneCell' = true) (hlen : vs.length ≤ 1000000) (hbase : base ≤ w.heap.size) (ty : TypeId) :
    ∃ v' w', (Builtin.append_ #[T, T] ty #[v, .slice (some ⟨g, 0, none⟩) 1 1]).run Tryz.prog w = .ok v' w' ∧ OwnRow t w' base v' (vs ++ [y]) ∧ OnlyO base (fun i => some i = v.ownBlock) w w' ∧
      ∃ g' c', v' = .slice (some ⟨g', 0, none⟩) (vs.length + 1) c' ∧ (some g' = v.ownBlock ∨ g' = w.heap.size) := by
  obtain ⟨i0, hi, hz0, hz1, hz2⟩ := info_parts hinf
  obtain ⟨hO, hn, hu⟩ := hown
  have hnews : ∀ j u, ([y] : List Value)[j]? = some u → w.cell? ((⟨g, 0, none⟩ : Addr).add j) = some u := by
    intro j u hj
    match j, hj with
    | 0, hj => simp at hj; subst hj; simpa [Addr.add] using hcell
    | j + 1, hj => simp at hj
  have h1 : ∀ u ∈ [y], u.oneCell' = true := fun u hm => (List.mem_singleton.mp hm) ▸ hy
  have hby : (vs.length + 1) * bts ≤ 1000001 * 24 := Nat.mul_le_mul (by omega) hbt
  obtain ⟨v', w', hr, h2, h3, h4⟩ := run_append_own (P := Tryz.prog) w base T ty t i0 z 1 bts hT hi hz0 hz1 hz2 hzs (by decide) v vs.length vs hO ⟨g, 0, none⟩ 1 1 [y] rfl hnews h1 (by unfold maxLen; omega) (by omega) hbase
  have hlt := hO.lt
  have hn' : v' ≠ .slice none 0 0 := fun e => hn (h4.mp e).1
  refine ⟨v', w', hr, ⟨by rw [List.length_append]; exact h2, hn', fun u hm => ?_⟩, ⟨(Below.refl base w).grown h3 hbase (fun b hk => (hlt _ hk).1), fun i hi hne => h3.block i hi hne⟩, ?_⟩
  · rcases List.mem_append.mp hm with hm | hm
    · exact hu u hm
    · exact h1 u hm
  · rcases hO.2 with ⟨e, _⟩ | ⟨g0, cap, cur, rfl, hbg, hg, hnc, hcm, hcs, htake⟩
    · exact (hn e).elim
    · by_cases hroom : vs.length + 1 ≤ cap
      · have hr2 := run_append_room (P := Tryz.prog) w T ty t i0 hT hi g0 vs.length cap cur hg ⟨g, 0, none⟩ 1 1 [y] (by rw [hz1]; rfl) hnews h1 hroom (by rw [hz1, hcs]; simp; omega)
        rw [hr] at hr2
        cases hr2
        exact ⟨g0, cap, rfl, Or.inl rfl⟩
      · have holds : ∀ j u, vs[j]? = some u → w.cell? ((⟨g0, 0, none⟩ : Addr).add j) = some u := hO.cells (g := g0) rfl
        have hr2 := run_append_grow (P := Tryz.prog) w T ty t i0 z hT hi hz0 ⟨g0, 0, none⟩ vs.length cap vs (by rw [hz1]; omega) holds ⟨g, 0, none⟩ 1 1 [y] (by rw [hz1]; rfl) hnews (by omega) (by omega) (growslice_fits (by omega) (by rw [hz2]; omega))
        rw [hr] at hr2
        cases hr2
        exact ⟨w.heap.size, _, rfl, Or.inr rfl⟩
/-- The operation, for a walk. -/
theorem wp_row {w : World} {ops : Array Oper} {rest : List Oper} {o : Oper} {a : Act} {Q : Exit → Act → World → Prop} {T t : TypeId} {z : Value} {bts : Nat} (hgd : o.guard = none) (s x : Operand)
    (ho : o.op = .call { callee := .builtin .append, args := #[s, x], argTypes := #[T, T] }) (hT : Tryz.prog.underlying T = some (.slice t)) (hinf : (Tryz.prog.info? t).map (fun i => (i.zero, i.size, i.bytes)) = some (some z, 1, bts)) (hzs : z.cells.size = 1) (hbt : bts ≤ 24)
    (base : Nat) (v : Value) (vs : List Value) (hs : a.eval s = v) (hown : OwnRow t w base v vs) (g : Nat) (y : Value) (hx : a.eval x = .slice (some ⟨g, 0, none⟩) 1 1) (hcell : w.cell? ⟨g, 0, none⟩ = some y) (hy : y.oneCell' = true)
    (hlen : vs.length ≤ 1000000) (hbase : base ≤ w.heap.size)
    (h : ∀ g' c' w', OwnRow t w' base (.slice (some ⟨g', 0, none⟩) (vs.length + 1) c') (vs ++ [y]) → OnlyO base (fun i => some i = v.ownBlock) w w' → (some g' = v.ownBlock ∨ g' = w.heap.size) → wpList Tryz.prog ops Q rest (a.put o.dst (.slice (some ⟨g', 0, none⟩) (vs.length + 1) c')) w') : wpList Tryz.prog ops Q (o :: rest) a w := by
  obtain ⟨v', w', hr, h1, h2, g', c', rfl, h3⟩ := run_row hT hinf hzs hbt base v vs hown g y hcell hy hlen hbase o.type
  exact Lib.wpList_append_run w hgd s x _ _ ho v _ hs hx _ w' hr (h g' c' w' h1 h2 h3)

end Go.Proofs.YtejelednnacnaaaGreatDoor

/-
  Slices of slices of bytes: what they are.
-/
namespace Go.Proofs.YtejelednnacnaaaGreatDoor
open Go.RowKit

/-- A slice of slices of bytes that reads as a list of lists: nil, or some. -/
def ArgLL (w : World) (v : Value) (L : List (List Int)) : Prop :=
  (v = .slice none 0 0 ∧ L = []) ∨ ∃ (x : Addr) (cap : Nat) (vs : Nat → Value), v = .slice (some x) L.length cap ∧ L.length ≤ cap ∧ ∀ i, i < L.length → w.cell? (x.add i) = some (vs i) ∧ ArgB w (vs i) (L.getD i [])
theorem ArgLL.below {w w' : World} {v : Value} {L : List (List Int)} (h : ArgLL w v L) (hb : Below w.heap.size w w') : ArgLL w' v L := by
  rcases h with h | ⟨x, cap, vs, rfl, hc, hcell⟩
  · exact Or.inl h
  · exact Or.inr ⟨x, cap, vs, rfl, hc, fun i hi => ⟨(hb.cell (World.block_lt_of_cell? _ _ (hcell i hi).1)).trans (hcell i hi).1, (hcell i hi).2.below hb⟩⟩
theorem info_slice : (Tryz.prog.info? 22).map (fun i => (i.zero, i.size, i.bytes)) = some (some (.slice none 0 0), 1, 24) := by kernel_rfl
/-- The slices of bytes in a slice of slices, with an address of their own. -/
theorem ArgLL.at {w : World} {v : Value} {L : List (List Int)} (h : ArgLL w v L) (hl : 0 < L.length) : ∃ b off cap, ∃ vs : Nat → Value, v = .slice (some ⟨b, off, none⟩) L.length cap ∧ ∀ i, i < L.length → w.cell? ⟨b, off + i, none⟩ = some (vs i) ∧ ArgB w (vs i) (L.getD i []) := by
  rcases h with ⟨_, rfl⟩ | ⟨x, cap, vs, rfl, hc, hcell⟩
  · simp at hl
  · obtain ⟨b, off, rfl⟩ : ∃ b off, x = ⟨b, off, none⟩ := by
      have h0 := (hcell 0 hl).1
      obtain ⟨b, off, sp⟩ := x
      have : sp = none := by simpa [Addr.add] using World.cell?_spot h0
      subst this
      exact ⟨b, off, rfl⟩
    have e3 : ∀ j : Nat, (⟨b, off, none⟩ : Addr).add j = ⟨b, off + j, none⟩ := fun j => by unfold Addr.add; split <;> simp_all
    exact ⟨b, off, cap, vs, rfl, fun i hi => by have := hcell i hi; rw [e3] at this; exact this⟩
theorem ArgLL.size {w : World} {v : Value} {L : List (List Int)} (h : ArgLL w v L) : ∃ a cap, v = .slice a L.length cap := by
  rcases h with ⟨rfl, rfl⟩ | ⟨x, cap, vs, rfl, _⟩
  · exact ⟨none, 0, rfl⟩
  · exact ⟨some x, cap, rfl⟩

end Go.Proofs.YtejelednnacnaaaGreatDoor

/-
  Rows of one-cell values of the call's own, nil among them ('var l []T', then 'l = append(l, x)'); lists of bytes in such a row, in memory of their own.
-/
namespace Go.Proofs.YtejelednnacnaaaGreatDoor
open Go.RowKit

/-- A slice of the call's own, or nil. -/
structure RowN (t : TypeId) (w : World) (base : Nat) (v : Value) (vs : List Value) : Prop where
  own : w.ownsRow base t 1 v vs.length vs
  one : ∀ u ∈ vs, u.oneCell' = true
theorem RowN.nil (t : TypeId) (w : World) (base : Nat) : RowN t w base (.slice none 0 0) [] := ⟨World.ownsRow_nil w base _ _, fun u hu => by cases hu⟩
theorem OwnRow.rowN {t : TypeId} {w : World} {base : Nat} {v : Value} {vs : List Value} (h : OwnRow t w base v vs) : RowN t w base v vs := ⟨h.own, h.one⟩
theorem RowN.cases {t : TypeId} {w : World} {base : Nat} {v : Value} {vs : List Value} (h : RowN t w base v vs) : (v = .slice none 0 0 ∧ vs = []) ∨ OwnRow t w base v vs := by
  by_cases hn : v = .slice none 0 0
  · refine Or.inl ⟨hn, ?_⟩
    subst hn
    rcases h.own.2 with ⟨_, h0⟩ | ⟨g, cap, cur, e, _⟩
    · exact List.eq_nil_of_length_eq_zero (by simpa using h0)
    · simp at e
  · exact Or.inr ⟨h.own, hn, h.one⟩
theorem RowN.size {t : TypeId} {w : World} {base : Nat} {v : Value} {vs : List Value} (h : RowN t w base v vs) : ∃ a cap, v = .slice a vs.length cap := by
  rcases h.cases with ⟨rfl, rfl⟩ | h
  · exact ⟨none, 0, rfl⟩
  · obtain ⟨g, cap, e, _⟩ := h.form
    exact ⟨_, cap, e⟩
theorem RowN.below {t : TypeId} {w w' : World} {base : Nat} {v : Value} {vs : List Value} (h : RowN t w base v vs) (hb : Below w.heap.size w w') : RowN t w' base v vs := by
  rcases h.cases with ⟨rfl, rfl⟩ | h
  · exact RowN.nil _ _ _
  · exact (h.below hb).rowN
theorem RowN.lt {t : TypeId} {w : World} {base : Nat} {v : Value} {vs : List Value} (h : RowN t w base v vs) {b : Nat} (hb : v.ownBlock = some b) : base ≤ b ∧ b < w.heap.size := by
  rcases h.cases with ⟨rfl, rfl⟩ | h
  · cases hb
  · obtain ⟨g, cap, rfl, h1, h2⟩ := h.form
    cases hb
    exact ⟨h1, h2⟩
/-- One more, which stands in a new row of one: where the slice lies then. -/
theorem run_rowN {w : World} {T t : TypeId} {z : Value} {bts : Nat} (hT : Tryz.prog.underlying T = some (.slice t)) (hinf : (Tryz.prog.info? t).map (fun i => (i.zero, i.size, i.bytes)) = some (some z, 1, bts)) (hzs : z.cells.size = 1) (hbt : bts ≤ 24)
    (base : Nat) (v : Value) (vs : List Value) (hown : RowN t w base v vs) (g : Nat) (y : Value) (hcell : w.cell? ⟨g, 0, none⟩ = some y) (hy : y.oneCell' = true) (hlen : vs.length ≤ 1000000) (hbase : base ≤ w.heap.size) (ty : TypeId) :
    ∃ v' w', (Builtin.append_ #[T, T] ty #[v, .slice (some ⟨g, 0, none⟩) 1 1]).run Tryz.prog w = .ok v' w' ∧ OwnRow t w' base v' (vs ++ [y]) ∧ OnlyO base (fun i => some i = v.ownBlock) w w' ∧ ∀ b, v'.ownBlock = some b → v.ownBlock = some b ∨ w.heap.size ≤ b := by
  rcases hown.cases with ⟨rfl, rfl⟩ | hown
  · obtain ⟨i0, hi, hz0, hz1, hz2⟩ := info_parts hinf
    have hnews : ∀ j u, ([y] : List Value)[j]? = some u → w.cell? ((⟨g, 0, none⟩ : Addr).add j) = some u := by
      intro j u hj
      match j, hj with
      | 0, hj => simp at hj; subst hj; simpa [Addr.add] using hcell
      | j + 1, hj => simp at hj
    have h1 : ∀ u ∈ [y], u.oneCell' = true := fun u hm => (List.mem_singleton.mp hm) ▸ hy
    obtain ⟨v', w', hr, h2, h3, h4⟩ := run_append_own (P := Tryz.prog) w w.heap.size T ty t i0 z 1 bts hT hi hz0 hz1 hz2 hzs (by decide) (.slice none 0 0) 0 [] (World.ownsRow_nil w _ _ _) ⟨g, 0, none⟩ 1 1 [y] rfl hnews h1 (by decide) (by omega) (Nat.le_refl _)
    have hn' : v' ≠ .slice none 0 0 := fun e => by have := (h4.mp e).2; omega
    have hO : OwnRow t w' w.heap.size v' [y] := ⟨h2, hn', h1⟩
    obtain ⟨g', cap, rfl, hb1, hb2⟩ := hO.form
    refine ⟨_, w', hr, ⟨?_, hn', h1⟩, ⟨(Below.refl base w).grown h3 hbase (fun b hk => by cases hk), fun i hi hne => h3.block i hi (by simp [Value.ownBlock])⟩, fun b hb => Or.inr (by cases hb; exact hb1)⟩
    obtain ⟨h5, h6⟩ := h2
    refine ⟨h5, ?_⟩
    rcases h6 with hx | ⟨g2, cap2, cur2, e, hbg, rest⟩
    · exact Or.inl hx
    · exact Or.inr ⟨g2, cap2, cur2, e, Nat.le_trans hbase hbg, rest⟩
  · obtain ⟨v', w', h1, h2, h3, g', c', rfl, h4⟩ := run_row hT hinf hzs hbt base v vs hown g y hcell hy hlen hbase ty
    refine ⟨_, w', h1, h2, h3, fun b hb => ?_⟩
    cases hb
    rcases h4 with h4 | h4
    · exact Or.inl h4.symm
    · exact Or.inr (Nat.le_of_eq h4.symm)
/-- The operation, for a walk. -/
theorem wp_rowN {w : World} {ops : Array Oper} {rest : List Oper} {o : Oper} {a : Act} {Q : Exit → Act → World → Prop} {T t : TypeId} {z : Value} {bts : Nat} (hgd : o.guard = none) (s x : Operand)
    (ho : o.op = .call { callee := .builtin .append, args := #[s, x], argTypes := #[T, T] }) (hT : Tryz.prog.underlying T = some (.slice t)) (hinf : (Tryz.prog.info? t).map (fun i => (i.zero, i.size, i.bytes)) = some (some z, 1, bts)) (hzs : z.cells.size = 1) (hbt : bts ≤ 24)
    (base : Nat) (v : Value) (vs : List Value) (hs : a.eval s = v) (hown : RowN t w base v vs) (g : Nat) (y : Value) (hx : a.eval x = .slice (some ⟨g, 0, none⟩) 1 1) (hcell : w.cell? ⟨g, 0, none⟩ = some y) (hy : y.oneCell' = true)
    (hlen : vs.length ≤ 1000000) (hbase : base ≤ w.heap.size)
    (h : ∀ v' w', OwnRow t w' base v' (vs ++ [y]) → OnlyO base (fun i => some i = v.ownBlock) w w' → (∀ b, v'.ownBlock = some b → v.ownBlock = some b ∨ w.heap.size ≤ b) → wpList Tryz.prog ops Q rest (a.put o.dst v') w') : wpList Tryz.prog ops Q (o :: rest) a w := by
  obtain ⟨v', w', hr, h1, h2, h3⟩ := run_rowN hT hinf hzs hbt base v vs hown g y hcell hy hlen hbase o.type
  exact Lib.wpList_append_run w hgd s x _ _ ho v _ hs hx _ w' hr (h v' w' h1 h2 h3)

/-! ### Lists of bytes in such a row -/
/-- Bytes stay while only blocks change that they don't lie in. -/
theorem ArgB.only {w w' : World} {base : Nat} {O : Foot} {v : Value} {l : List Int} (h : ArgB w v l) (ho : OnlyO base O w w') (hne : l ≠ [] → ∀ b, v.ownBlock = some b → ¬ O b) : ArgB w' v l := by
  rcases h with h | ⟨x, cap, rfl, hc, hcell⟩
  · exact Or.inl h
  · refine Or.inr ⟨x, cap, rfl, hc, fun i hi => ?_⟩
    have h0 := hcell i hi
    have hb : (x.add i).block = x.block := by unfold Addr.add; split <;> rfl
    have hlt : (x.add i).block < w.heap.size := World.block_lt_of_cell? _ _ h0
    rw [World.cell?_of_block (ho.keep _ hlt (by rw [hb]; exact hne (by intro e; rw [e] at hi; cases hi) _ rfl))]
    exact h0
theorem ArgB.lt {w : World} {v : Value} {l : List Int} (h : ArgB w v l) (hn : l ≠ []) {b : Nat} (hb : v.ownBlock = some b) : b < w.heap.size := by
  rcases h with ⟨rfl, rfl⟩ | ⟨x, cap, rfl, hc, hcell⟩
  · exact (hn rfl).elim
  · have h0 := hcell 0 (List.length_pos_iff.mpr hn)
    have hb2 : (x.add 0).block = x.block := by unfold Addr.add; split <;> rfl
    have := World.block_lt_of_cell? _ _ h0
    cases hb
    omega
theorem ArgB.cell1 {w : World} {v : Value} {l : List Int} (h : ArgB w v l) : v.oneCell' = true := by
  rcases h with ⟨rfl, _⟩ | ⟨x, cap, rfl, _⟩ <;> rfl
/-- Lists of bytes, each in a block other than the row's. -/
def RowLL (w : World) (base : Nat) (v : Value) (L : List (List Int)) : Prop :=
  ∃ vs : List Value, RowN 22 w base v vs ∧ vs.length = L.length ∧ ∀ i, i < L.length → ArgB w (vs.getD i undef) (L.getD i []) ∧ (L.getD i [] ≠ [] → ∀ b, (vs.getD i undef).ownBlock = some b → v.ownBlock ≠ some b)
theorem RowLL.nil (w : World) (base : Nat) : RowLL w base (.slice none 0 0) [] := ⟨[], RowN.nil _ _ _, rfl, fun i hi => by cases hi⟩
theorem RowLL.size {w : World} {base : Nat} {v : Value} {L : List (List Int)} (h : RowLL w base v L) : ∃ a cap, v = .slice a L.length cap := by
  obtain ⟨vs, h1, h2, _⟩ := h
  rw [← h2]
  exact h1.size
theorem RowLL.below {w w' : World} {base : Nat} {v : Value} {L : List (List Int)} (h : RowLL w base v L) (hb : Below w.heap.size w w') : RowLL w' base v L := by
  obtain ⟨vs, h1, h2, h3⟩ := h
  exact ⟨vs, h1.below hb, h2, fun i hi => ⟨(h3 i hi).1.below hb, (h3 i hi).2⟩⟩
theorem RowLL.argLL {w : World} {base : Nat} {v : Value} {L : List (List Int)} (h : RowLL w base v L) : ArgLL w v L := by
  obtain ⟨vs, h1, h2, h3⟩ := h
  rcases h1.cases with ⟨rfl, rfl⟩ | h1
  · exact Or.inl ⟨rfl, List.eq_nil_of_length_eq_zero h2.symm⟩
  · obtain ⟨g, cap, rfl, _⟩ := h1.form
    have hcap : vs.length ≤ cap := by
      rcases h1.own.2 with ⟨e, _⟩ | ⟨g', cap', cur, e, _, _, hle, _⟩
      · exact (h1.non e).elim
      · simp only [Value.slice.injEq] at e; omega
    refine Or.inr ⟨⟨g, 0, none⟩, cap, fun i => vs.getD i undef, by rw [h2], by omega, fun i hi => ⟨?_, (h3 i hi).1⟩⟩
    have := h1.at i (by omega)
    rcases i with _ | i <;> simpa [Addr.add] using this
/-- One more list of bytes. -/
theorem wp_moreN {w : World} {ops : Array Oper} {rest : List Oper} {o : Oper} {a : Act} {Q : Exit → Act → World → Prop} (hgd : o.guard = none) (s x : Operand)
    (ho : o.op = .call { callee := .builtin .append, args := #[s, x], argTypes := #[37, 37] })
    (base : Nat) (v : Value) (L : List (List Int)) (hs : a.eval s = v) (hown : RowLL w base v L) (g : Nat) (yv : Value) (y : List Int) (hx : a.eval x = .slice (some ⟨g, 0, none⟩) 1 1) (hcell : w.cell? ⟨g, 0, none⟩ = some yv) (hy : ArgB w yv y) (hyb : y ≠ [] → ∀ b, yv.ownBlock = some b → v.ownBlock ≠ some b)
    (hlen : L.length ≤ 1000000) (hbase : base ≤ w.heap.size)
    (h : ∀ v' w', RowLL w' base v' (L ++ [y]) → Below base w w' → base ≤ w'.heap.size → wpList Tryz.prog ops Q rest (a.put o.dst v') w') : wpList Tryz.prog ops Q (o :: rest) a w := by
  obtain ⟨vs, h1, h2, h3⟩ := hown
  refine wp_rowN hgd s x ho Tryz.underlying37 info_slice rfl (by decide) base v vs hs h1 g yv hx hcell hy.cell1 (by omega) hbase ?_
  intro v' w' k1 k2 k3
  have keep : ∀ (u : Value) (l : List Int), ArgB w u l → (l ≠ [] → ∀ b, u.ownBlock = some b → v.ownBlock ≠ some b) → ArgB w' u l ∧ (l ≠ [] → ∀ b, u.ownBlock = some b → v'.ownBlock ≠ some b) := fun u l hu hne =>
    ⟨hu.only k2 (fun hn b hb e => hne hn b hb e.symm), fun hn b hb e => by
      rcases k3 b e with e2 | e2
      · exact hne hn b hb e2
      · have := hu.lt hn hb; omega⟩
  refine h v' w' ⟨vs ++ [yv], k1.rowN, by simp [h2], fun i hi => ?_⟩ k2.bel (Nat.le_trans hbase k2.size)
  rw [List.length_append] at hi
  by_cases hlast : i < L.length
  · rw [List.getD_eq_getElem?_getD, List.getElem?_append_left (by omega), List.getD_eq_getElem?_getD, List.getElem?_append_left hlast, ← List.getD_eq_getElem?_getD, ← List.getD_eq_getElem?_getD]
    exact keep _ _ (h3 i hlast).1 (h3 i hlast).2
  · have e : i = L.length := by simp at hi; omega
    subst e
    rw [List.getD_eq_getElem?_getD, List.getElem?_append_right (by omega), List.getD_eq_getElem?_getD, List.getElem?_append_right (by omega), h2, Nat.sub_self]
    exact keep yv y hy hyb

end Go.Proofs.YtejelednnacnaaaGreatDoor

/-
  Lists of bytes with the blocks that they lean on; the document's own log of layer 10: what it is, that it stays while other things change.
-/
namespace Go.Proofs.YtejelednnacnaaaGreatDoor
open Go.RowKit

/-- Lists of bytes in a row of one's own: the row's block and the bytes' blocks are among F, or bytes lie below the base. -/
def LLF (w : World) (base : Nat) (F : Foot) (v : Value) (L : List (List Int)) : Prop :=
  ∃ vs : List Value, RowN 22 w base v vs ∧ vs.length = L.length ∧ (∀ b, v.ownBlock = some b → F b) ∧ ∀ i, i < L.length → ArgB w (vs.getD i undef) (L.getD i []) ∧ (L.getD i [] ≠ [] → ∀ b, (vs.getD i undef).ownBlock = some b → v.ownBlock ≠ some b ∧ (F b ∨ b < base))
theorem LLF.nil (w : World) (base : Nat) (F : Foot) : LLF w base F (.slice none 0 0) [] := ⟨[], RowN.nil _ _ _, rfl, fun b hb => (by cases hb), fun i hi => by cases hi⟩
theorem LLF.rowLL {w : World} {base : Nat} {F : Foot} {v : Value} {L : List (List Int)} (h : LLF w base F v L) : RowLL w base v L := by
  obtain ⟨vs, h1, h2, h3, h4⟩ := h
  exact ⟨vs, h1, h2, fun i hi => ⟨(h4 i hi).1, fun hn b hb => ((h4 i hi).2 hn b hb).1⟩⟩
theorem LLF.argLL {w : World} {base : Nat} {F : Foot} {v : Value} {L : List (List Int)} (h : LLF w base F v L) : ArgLL w v L := h.rowLL.argLL
theorem LLF.size {w : World} {base : Nat} {F : Foot} {v : Value} {L : List (List Int)} (h : LLF w base F v L) : ∃ a cap, v = .slice a L.length cap := h.rowLL.size
theorem LLF.weak {w : World} {base : Nat} {F F' : Foot} {v : Value} {L : List (List Int)} (h : LLF w base F v L) (hF : ∀ i, F i → F' i) : LLF w base F' v L := by
  obtain ⟨vs, h1, h2, h3, h4⟩ := h
  exact ⟨vs, h1, h2, fun b hb => hF b (h3 b hb), fun i hi => ⟨(h4 i hi).1, fun hn b hb => ⟨((h4 i hi).2 hn b hb).1, ((h4 i hi).2 hn b hb).2.imp (hF b) id⟩⟩⟩
theorem RowN.only {t : TypeId} {w w' : World} {base b0 : Nat} {O : Foot} {v : Value} {vs : List Value} (h : RowN t w base v vs) (ho : OnlyO b0 O w w') (hne : ∀ b, v.ownBlock = some b → ¬ O b) : RowN t w' base v vs := by
  rcases h.cases with ⟨rfl, rfl⟩ | h
  · exact RowN.nil _ _ _
  · obtain ⟨g, cap, rfl, _⟩ := h.form
    exact (h.only ho (hne g rfl)).rowN
/-- They stay while other things change. -/
theorem LLF.only {w w' : World} {base : Nat} {F O : Foot} {v : Value} {L : List (List Int)} (h : LLF w base F v L) (ho : OnlyO base O w w') (hd : ∀ i, F i → ¬ O i) (hO : ∀ i, O i → base ≤ i) : LLF w' base F v L := by
  obtain ⟨vs, h1, h2, h3, h4⟩ := h
  refine ⟨vs, h1.only ho (fun b hb => hd b (h3 b hb)), h2, h3, fun i hi => ⟨(h4 i hi).1.only ho (fun hn b hb hob => ?_), (h4 i hi).2⟩⟩
  rcases ((h4 i hi).2 hn b hb).2 with hf | hf
  · exact hd b hf hob
  · have := hO b hob; omega
theorem LLF.after {w w' : World} {base : Nat} {F : Foot} {v : Value} {L : List (List Int)} (h : LLF w base F v L) (hb : Below w.heap.size w w') : LLF w' base F v L := by
  obtain ⟨vs, h1, h2, h3, h4⟩ := h
  exact ⟨vs, h1.below hb, h2, h3, fun i hi => ⟨(h4 i hi).1.below hb, (h4 i hi).2⟩⟩
theorem RowN.base {t : TypeId} {w : World} {base base' : Nat} {v : Value} {vs : List Value} (h : RowN t w base v vs) (hb : base' ≤ base) : RowN t w base' v vs := by
  obtain ⟨⟨h1, h2⟩, h3⟩ := h
  refine ⟨⟨h1, ?_⟩, h3⟩
  rcases h2 with hx | ⟨g, cap, cur, rfl, hbg, rest⟩
  · exact Or.inl hx
  · exact Or.inr ⟨g, cap, cur, rfl, Nat.le_trans hb hbg, rest⟩
/-- Of a later base they are of an elder one, if no bytes lie between. -/
theorem LLF.base {w : World} {base base' : Nat} {F : Foot} {v : Value} {L : List (List Int)} (h : LLF w base F v L) (hb : base' ≤ base) : LLF w base' (fun i => F i ∨ (base' ≤ i ∧ i < base)) v L := by
  obtain ⟨vs, h1, h2, h3, h4⟩ := h
  refine ⟨vs, h1.base hb, h2, fun b hb => Or.inl (h3 b hb), fun i hi => ⟨(h4 i hi).1, fun hn b hb => ⟨((h4 i hi).2 hn b hb).1, ?_⟩⟩⟩
  rcases ((h4 i hi).2 hn b hb).2 with hf | hf
  · exact Or.inl (Or.inl hf)
  · by_cases hlt : base' ≤ b
    · exact Or.inl (Or.inr ⟨hlt, hf⟩)
    · exact Or.inr (by omega)
/-- One more. -/
theorem LLF.more {w w' : World} {base : Nat} {F F' : Foot} {v v' yv : Value} {L : List (List Int)} {y : List Int} (h : LLF w base F v L) (hy : ArgB w yv y) (hyb : y ≠ [] → ∀ b, yv.ownBlock = some b → v.ownBlock ≠ some b ∧ (F' b ∨ b < base)) (hF : ∀ i, F i → F' i)
    (k1 : ∀ vs, vs.length = L.length → RowN 22 w base v vs → OwnRow 22 w' base v' (vs ++ [yv])) (k2 : OnlyO base (fun i => some i = v.ownBlock) w w') (k3 : ∀ b, v'.ownBlock = some b → v.ownBlock = some b ∨ w.heap.size ≤ b) (k4 : ∀ b, v'.ownBlock = some b → w.heap.size ≤ b → F' b) : LLF w' base F' v' (L ++ [y]) := by
  obtain ⟨vs, h1, h2, h3, h4⟩ := h
  have keep : ∀ (u : Value) (l : List Int), ArgB w u l → (l ≠ [] → ∀ b, u.ownBlock = some b → v.ownBlock ≠ some b ∧ (F' b ∨ b < base)) → ArgB w' u l ∧ (l ≠ [] → ∀ b, u.ownBlock = some b → v'.ownBlock ≠ some b ∧ (F' b ∨ b < base)) := fun u l hu hne =>
    ⟨hu.only k2 (fun hn b hb e => (hne hn b hb).1 e.symm), fun hn b hb => ⟨fun e => by
      rcases k3 b e with e2 | e2
      · exact (hne hn b hb).1 e2
      · have := hu.lt hn hb; omega, (hne hn b hb).2⟩⟩
  refine ⟨vs ++ [yv], (k1 vs h2 h1).rowN, by simp [h2], fun b hb => ?_, fun i hi => ?_⟩
  · rcases k3 b hb with e | e
    · exact hF b (h3 b e)
    · exact k4 b hb e
  · rw [List.length_append] at hi
    by_cases hlast : i < L.length
    · rw [List.getD_eq_getElem?_getD, List.getElem?_append_left (by omega), List.getD_eq_getElem?_getD, List.getElem?_append_left hlast, ← List.getD_eq_getElem?_getD, ← List.getD_eq_getElem?_getD]
      exact keep _ _ (h4 i hlast).1 (fun hn b hb => ⟨((h4 i hlast).2 hn b hb).1, ((h4 i hlast).2 hn b hb).2.imp (hF b) id⟩)
    · have e : i = L.length := by simp at hi; omega
      subst e
      rw [List.getD_eq_getElem?_getD, List.getElem?_append_right (by omega), List.getD_eq_getElem?_getD, List.getElem?_append_right (by omega), h2, Nat.sub_self]
      exact keep yv y hy hyb
/-- The operation, for a walk: one more list of bytes, which stands in a new row of one. -/
theorem wp_moreF {w : World} {ops : Array Oper} {rest : List Oper} {o : Oper} {a : Act} {Q : Exit → Act → World → Prop} (hgd : o.guard = none) (s x : Operand)
    (ho : o.op = .call { callee := .builtin .append, args := #[s, x], argTypes := #[37, 37] })
    (base : Nat) (F : Foot) (v : Value) (L : List (List Int)) (hs : a.eval s = v) (hown : LLF w base F v L) (g : Nat) (yv : Value) (y : List Int) (hx : a.eval x = .slice (some ⟨g, 0, none⟩) 1 1) (hcell : w.cell? ⟨g, 0, none⟩ = some yv) (hy : ArgB w yv y) (hyb : y ≠ [] → ∀ b, yv.ownBlock = some b → v.ownBlock ≠ some b ∧ (F b ∨ b < base))
    (hlen : L.length ≤ 1000000) (hbase : base ≤ w.heap.size)
    (h : ∀ v' w', LLF w' base (fun i => F i ∨ (w.heap.size ≤ i ∧ i < w'.heap.size)) v' (L ++ [y]) → OnlyO base (fun i => some i = v.ownBlock) w w' → (∀ b, v'.ownBlock = some b → v.ownBlock = some b ∨ w.heap.size ≤ b) → wpList Tryz.prog ops Q rest (a.put o.dst v') w') : wpList Tryz.prog ops Q (o :: rest) a w := by
  obtain ⟨vs, h1, h2, h3, h4⟩ := hown
  refine wp_rowN hgd s x ho Tryz.underlying37 info_slice rfl (by decide) base v vs hs h1 g yv hx hcell hy.cell1 (by omega) hbase ?_
  intro v' w' k1 k2 k3
  refine h v' w' (LLF.more (yv := yv) ⟨vs, h1, h2, h3, h4⟩ hy (fun hn b hb => ⟨(hyb hn b hb).1, (hyb hn b hb).2.imp Or.inl id⟩) (fun i hi => Or.inl hi) (fun vs' hl' hr' => ?_) k2 k3 (fun b hb hlt => Or.inr ⟨hlt, ?_⟩)) k2 k3
  · have e : vs' = vs := by
      have a1 := hr'.own.1
      rcases hr'.own.2 with ⟨e, h0⟩ | ⟨g1, c1, cur1, e1, _, hg1, _, _, _, t1⟩
      · have : vs'.length = 0 := by omega
        have e1 := List.eq_nil_of_length_eq_zero this
        have e2 : vs = [] := List.eq_nil_of_length_eq_zero (by omega)
        rw [e1, e2]
      · rcases h1.own.2 with ⟨e, h0⟩ | ⟨g2, c2, cur2, e2, _, hg2, _, _, _, t2⟩
        · have e1 := List.eq_nil_of_length_eq_zero h0
          have e2 : vs' = [] := List.eq_nil_of_length_eq_zero (by rw [hl', ← h2, h0])
          rw [e1, e2]
        · rw [e1] at e2
          simp only [Value.slice.injEq, Option.some.injEq, Addr.mk.injEq, and_true] at e2
          obtain ⟨rfl, _, rfl⟩ := e2
          rw [hg1] at hg2
          cases hg2
          rw [← t1, ← t2, hl', h2]
    rw [e]; exact k1
  · obtain ⟨g', cap, rfl, _, hlt'⟩ := k1.form
    cases hb
    exact hlt'

/-- The document's log in block m: its records, and how many bytes there are for them. -/
structure RLog (w : World) (base : Nat) (F : Foot) (m : Nat) (L : List (List Int)) (all : Nat) : Prop where
  ex : ∃ v, w.cell? ⟨m, 0, none⟩ = some v ∧ LLF w base F v L
  c1 : w.cell? ⟨m, 1, none⟩ = some (.int .i64 (all : Int))
  q : ∀ i, w.frozen? ⟨m, i, none⟩ = false
  s : m < w.heap.size
  b : base ≤ m
  own : ∀ i, F i → base ≤ i ∧ i < w.heap.size ∧ i ≠ m
theorem RLog.after {w w' : World} {base : Nat} {F : Foot} {m : Nat} {L : List (List Int)} {all : Nat} (h : RLog w base F m L all) (hb : Below w.heap.size w w') : RLog w' base F m L all := by
  obtain ⟨⟨v, c0, hl⟩, c1, q, s, b, own⟩ := h
  have hk := hb.block m s
  exact ⟨⟨v, (World.cell?_of_block hk).trans c0, hl.after hb⟩, (World.cell?_of_block hk).trans c1, fun i => (World.frozen?_of_block hk).trans (q i), Nat.lt_of_lt_of_le s hb.size, b, fun i hi => ⟨(own i hi).1, Nat.lt_of_lt_of_le (own i hi).2.1 hb.size, (own i hi).2.2⟩⟩
theorem RLog.only {w w' : World} {base : Nat} {F O : Foot} {m : Nat} {L : List (List Int)} {all : Nat} (h : RLog w base F m L all) (ho : OnlyO base O w w') (hd : ∀ i, F i → ¬ O i) (hm : ¬ O m) (hO : ∀ i, O i → base ≤ i) : RLog w' base F m L all := by
  obtain ⟨⟨v, c0, hl⟩, c1, q, s, b, own⟩ := h
  have hk := ho.keep m s hm
  exact ⟨⟨v, (World.cell?_of_block hk).trans c0, hl.only ho hd hO⟩, (World.cell?_of_block hk).trans c1, fun i => (World.frozen?_of_block hk).trans (q i), Nat.lt_of_lt_of_le s ho.size, b, fun i hi => ⟨(own i hi).1, Nat.lt_of_lt_of_le (own i hi).2.1 ho.size, (own i hi).2.2⟩⟩

end Go.Proofs.YtejelednnacnaaaGreatDoor

/-
  slices.Grow of nothing, and slices.Concat of slices of bytes: walked.
-/
namespace Go.Proofs.YtejelednnacnaaaGreatDoor
open Go.RowKit

set_option maxRecDepth 100000 in
set_option maxHeartbeats 4000000 in
theorem grow_any (n : Nat) (w : World) (n0 : 0 < n) (hn : n ≤ 100000000) :
    Calls Tryz.prog 97 #[.slice none 0 0, .int .i64 (n : Int)] w fun e w' => ∃ v, e = .returned v ∧ OwnInts 5 .u8 w' w.heap.size v [] ∧ Below w.heap.size w w' := by
  obtain ⟨i0, hi, hz0, hz1, hz2⟩ := info_parts info_byte
  have hold : (Builtin.firstCells i0.size 0 (.slice none 0 0)).run Tryz.prog w.drew = .ok #[] w.drew := run_firstCells_none w.drew i0.size 0 0 0
  have hr := fun ty => Lib.run_append_grow_zeros (P := Tryz.prog) w 22 3 ty 5 i0 (.int .u8 0) .i64 .i64 Tryz.underlying22 Tryz.underlying3 hi hz0 none 0 0 [] hold n n0 (by rw [hz1]; decide) (by omega) (by omega) (by rw [hz2]; omega) (growslice_fits (by omega) (by rw [hz2]; omega))
  have hge := grownCap_ge w (0 + n) 0 5
  have hcm2 : grownCap w (0 + n) 0 5 ≤ maxLen := grownCap_le_maxLen w (0 + n) 0 5 (by unfold maxLen; omega)
  have hw : IntKind.i64.wrap (n : Int) = (n : Int) := by rw [IntKind.wrap_i64]; omega
  have hn0 : ¬ (n : Int) < 0 := by omega
  have hnp : (0 : Int) < (n : Int) := by omega
  rw [Nat.zero_add] at hge hcm2
  simp only [Nat.zero_add] at hr
  obtain ⟨G, hG⟩ : ∃ G, grownCap w n 0 5 = G := ⟨_, rfl⟩
  rw [hG] at hge hcm2
  simp only [hG] at hr
  unfold maxLen at hcm2
  have HZ : Hid (∃ cur : Array Value, cur.size = G ∧ ∀ ty, (Builtin.append_ #[22, 3] ty #[.slice none 0 0, .int .i64 (n : Int)]).run Tryz.prog w = .ok (.slice (some ⟨w.heap.size, 0, none⟩) n G) (w.drew.alloc (.cells cur 5))) := by
    refine ⟨_, ?_, fun ty => hr ty⟩
    simp [size_zeroCells]
    show n * 1 + (G - n) * 1 = G
    omega
  clear hr hold hG
  obtain ⟨cur, hcur, hrun⟩ := HZ.out
  clear HZ
  have HR := Lib.hid hrun
  have HC := Lib.hid hcur
  clear hrun hcur
  go_enter Tryz.func97, Tryz.ntmps97
  go_wp2_with (at_builtin; refine Lib.wpList_append_run _ rfl _ _ _ _ rfl _ _ rfl rfl _ _ (HR.out _) ?_)
  all_goals (go_ret; refine ⟨_, rfl, ⟨⟨rfl, Or.inr ⟨w.heap.size, G, cur, rfl, Nat.le_refl _, heap_alloc_new w.drew _, Nat.zero_le _, hcm2, by rw [HC.out]; omega, rfl⟩⟩, by simp⟩, ((Below.refl _ _).drew).alloc (Nat.le_refl _) _⟩)

theorem flat_step (L : List (List Int)) (k : Nat) (h : k < L.length) : (L.take (k + 1)).flatten = (L.take k).flatten ++ L.getD k [] := by
  rw [List.take_succ_eq_append_getElem h, List.flatten_append, List.getD_eq_getElem?_getD, List.getElem?_eq_getElem h]; simp
theorem flat_le (L : List (List Int)) (k : Nat) : (L.take k).flatten.length ≤ L.flatten.length := by
  conv => rhs; rw [← List.take_append_drop k L, List.flatten_append, List.length_append]
  omega

set_option maxRecDepth 100000 in
set_option maxHeartbeats 4000000 in
theorem concat_any (v : Value) (L : List (List Int)) (w : World) (hv : ArgLL w v L) (h0 : 0 < L.flatten.length) (hl : L.flatten.length ≤ 4000000) (hn : L.length ≤ 1000000) :
    Calls Tryz.prog 85 #[v] w fun e w' => ∃ u, e = .returned u ∧ OwnInts 5 .u8 w' w.heap.size u L.flatten ∧ Below w.heap.size w w' := by
  have hL0 : 0 < L.length := by
    cases L with
    | nil => simp at h0
    | cons a b => simp
  obtain ⟨b, off, cap, vs, rfl, hk⟩ := hv.at hL0
  have HK := Lib.hid hk
  obtain ⟨N, hN⟩ : ∃ N, L.flatten.length = N := ⟨_, rfl⟩
  have HN := Lib.hid hN
  rw [hN] at h0 hl
  clear hv hk hN
  go_enter Tryz.func85, Tryz.ntmps85
  go_wp2
  go_loop [3, 11] (fun v3 v11 => ∃ k : Nat, v11 = .int .i64 (k : Int) ∧ k ≤ L.length ∧ v3 = .int .i64 ((L.take k).flatten.length : Nat)) (fun _ v11 => L.length - (intOf v11).toNat)
  case atStart => exact ⟨0, rfl, Nat.zero_le _, rfl⟩
  case round =>
    obtain ⟨k, rfl, hkl, rfl⟩ := hrel
    by_cases hlt : k < L.length
    · obtain ⟨c0, ha⟩ := HK.out k hlt
      obtain ⟨x, hx⟩ : ∃ x, L.getD k [] = x := ⟨_, rfl⟩
      rw [hx] at ha
      obtain ⟨xa, xc, hxe⟩ := ha.size
      rw [hxe] at c0
      have hst := flat_step L k hlt
      rw [hx] at hst
      have hle := flat_le L (k + 1)
      rw [HN.out, hst, List.length_append] at hle
      have HST := Lib.hid (congrArg List.length hst)
      rw [List.length_append] at HST
      obtain ⟨m, hm⟩ : ∃ m, (L.take k).flatten.length = m := ⟨_, rfl⟩
      rw [hm] at hle HST ⊢
      have hadd : IntKind.i64.wrap ((m : Int) + (x.length : Int)) = ((m + x.length : Nat) : Int) := by rw [IntKind.wrap_i64]; omega
      have hnn : ¬ ((m + x.length : Nat) : Int) < 0 := by omega
      clear hst ha hx hxe hm
      go_wp2
      go_round
      case rel => exact ⟨k + 1, by go_num, by omega, by rw [HST.out]; go_num⟩
      case measure => simp [intOf]; omega
    · obtain rfl : k = L.length := by omega
      have hfin : (L.take L.length).flatten.length = N := by rw [List.take_length]; exact HN.out
      rw [hfin]
      clear hfin hlt
      go_wp2_with (go_at_call 97; (with_reducible refine (grow_any N _ h0 (by omega)).mono ?_); rintro e w1 ⟨u, rfl, hO, hB⟩; have HO := Lib.hid hO; have HB := Lib.hid hB; clear hO hB)
      obtain ⟨base, hbd⟩ : ∃ b, w.heap.size = b := ⟨_, rfl⟩
      have HBd := Lib.hid hbd
      rw [hbd] at HO HB
      clear hbd
      go_loopw [6, 27] (fun v6 v27 wr => ∃ k : Nat, v27 = .int .i64 (k : Int) ∧ k ≤ L.length ∧ OwnInts 5 .u8 wr base v6 ((L.take k).flatten) ∧ Below base w wr ∧ base ≤ wr.heap.size) (fun _ v27 _ => L.length - (intOf v27).toNat)
      case atStart => exact ⟨0, rfl, Nat.zero_le _, HO.out, HB.out, by have := HB.out.size; have := HBd.out; omega⟩
      case round =>
        obtain ⟨k, rfl, hkl, hO, hB, hS⟩ := hrel
        have HO2 := Lib.hid hO
        have HB2 := Lib.hid hB
        have HS2 := Lib.hid hS
        clear hO hB hS
        by_cases hlt : k < L.length
        · obtain ⟨c0, ha⟩ := HK.out k hlt
          have hfr : Below w.heap.size w wr := HBd.out.symm ▸ HB2.out
          have c1 := (hfr.cell (p := ⟨b, off + k, none⟩) (World.block_lt_of_cell? _ _ c0)).trans c0
          have ha1 := ha.below hfr
          obtain ⟨x, hx⟩ : ∃ x, L.getD k [] = x := ⟨_, rfl⟩
          rw [hx] at ha1
          obtain ⟨xa, xc, hxe⟩ := ha1.size
          rw [hxe] at c1 ha1
          have hst := flat_step L k hlt
          rw [hx] at hst
          have hle := flat_le L (k + 1)
          rw [HN.out, hst, List.length_append] at hle
          have HST := Lib.hid hst
          have HA := Lib.hid ha1
          obtain ⟨y, hy⟩ : ∃ y, (L.take k).flatten = y := ⟨_, rfl⟩
          rw [hy] at HO2 HST hle
          have HLe : Hid (y.length + x.length ≤ 100000000) := (by omega : y.length + x.length ≤ 100000000)
          clear hfr c0 ha hx hxe hst hy ha1 hle
          go_wp2_with (at_builtin; refine wp_join rfl _ _ rfl base _ y rfl HO2.out _ x rfl HA.out HLe.out HS2.out ?_)
          intro v' w2 hown hb2 _ hs2
          have HB3 := Lib.hid (HB2.out.trans hb2)
          have HO3 := Lib.hid hown
          have HS3 := Lib.hid hs2
          clear hown hb2 hs2
          go_wp2
          go_roundw
          case rel => exact ⟨k + 1, by go_num, by omega, by rw [HST.out]; exact HO3.out, HB3.out, HS3.out⟩
          case measure => simp [intOf]; omega
        · obtain rfl : k = L.length := by omega
          go_wp2
          go_ret
          have := HO2.out
          rw [List.take_length, ← HBd.out] at this
          exact ⟨_, rfl, this, HBd.out.symm ▸ HB2.out⟩

end Go.Proofs.YtejelednnacnaaaGreatDoor

/-
  Bytes of one's own that may be nil: what they are, what is put behind them; two slices, and three, one behind the other.
-/
namespace Go.Proofs.YtejelednnacnaaaGreatDoor
open Go.RowKit

/-- A list of the caller's own, or nil. -/
def OwnN (w : World) (base : Nat) (v : Value) (l : List Int) : Prop := w.ownsRow base 5 1 v l.length (l.map (Value.int .u8))
theorem OwnInts.ownN {w : World} {base : Nat} {v : Value} {l : List Int} (h : OwnInts 5 .u8 w base v l) : OwnN w base v l := h.1
theorem OwnN.nil (w : World) (base : Nat) : OwnN w base (.slice none 0 0) [] := World.ownsRow_nil w base _ _
theorem OwnN.argB {w : World} {base : Nat} {v : Value} {l : List Int} (h : OwnN w base v l) : ArgB w v l := by
  by_cases hn : v = .slice none 0 0
  · subst hn
    rcases h.2 with ⟨_, h0⟩ | ⟨g, cap, cur, e, _⟩
    · have : l = [] := List.eq_nil_of_length_eq_zero (by simpa using h0)
      subst this
      exact ArgB.nil w
    · simp at e
  · exact OwnInts.argB ⟨h, hn⟩
theorem OwnInts.older {t : TypeId} {k : IntKind} {w : World} {b1 b2 : Nat} {v : Value} {l : List Int} (h : OwnInts t k w b1 v l) (hb : b2 ≤ b1) : OwnInts t k w b2 v l := by
  obtain ⟨⟨h1, h2⟩, hn⟩ := h
  refine ⟨⟨h1, ?_⟩, hn⟩
  rcases h2 with hx | ⟨g, cap, cur, rfl, hbg, rest⟩
  · exact Or.inl hx
  · exact Or.inr ⟨g, cap, cur, rfl, Nat.le_trans hb hbg, rest⟩
/-- Two slices, and three, in a row of their own. -/
theorem ArgLL.pair {w : World} {v u : Value} {l m : List Int} (hv : ArgB w v l) (hu : ArgB w u m) (t : TypeId) (g : Nat) (hg : g = w.heap.size) : ArgLL (w.alloc (.cells #[v, u] t)) (.slice (some ⟨g, 0, none⟩) 2 2) [l, m] := by
  subst hg
  have hb : Below w.heap.size w (w.alloc (.cells #[v, u] t)) := (Below.refl _ _).alloc (Nat.le_refl _) _
  refine Or.inr ⟨⟨w.heap.size, 0, none⟩, 2, fun i => (#[v, u] : Array Value).getD i undef, rfl, Nat.le_refl _, fun i hi => ?_⟩
  match i, hi with
  | 0, _ => exact ⟨by simp [Addr.add], hv.below hb⟩
  | 1, _ => exact ⟨by simp [Addr.add], hu.below hb⟩
theorem ArgLL.three {w : World} {v u x : Value} {l m n : List Int} (hv : ArgB w v l) (hu : ArgB w u m) (hx : ArgB w x n) (t : TypeId) (g : Nat) (hg : g = w.heap.size) : ArgLL (w.alloc (.cells #[v, u, x] t)) (.slice (some ⟨g, 0, none⟩) 3 3) [l, m, n] := by
  subst hg
  have hb : Below w.heap.size w (w.alloc (.cells #[v, u, x] t)) := (Below.refl _ _).alloc (Nat.le_refl _) _
  refine Or.inr ⟨⟨w.heap.size, 0, none⟩, 3, fun i => (#[v, u, x] : Array Value).getD i undef, rfl, Nat.le_refl _, fun i hi => ?_⟩
  match i, hi with
  | 0, _ => exact ⟨by simp [Addr.add], hv.below hb⟩
  | 1, _ => exact ⟨by simp [Addr.add], hu.below hb⟩
  | 2, _ => exact ⟨by simp [Addr.add], hx.below hb⟩
theorem concat_two (v u : Value) (l m : List Int) (w : World) (g : Nat) (t : TypeId) (hg : g = w.heap.size) (hv : ArgB w v l) (hu : ArgB w u m) (h0 : 0 < m.length) (hl : l.length ≤ 1000000) (hm : m.length ≤ 1000000) :
    Calls Tryz.prog 85 #[.slice (some ⟨g, 0, none⟩) 2 2] (w.alloc (.cells #[v, u] t)) fun e w' => ∃ x, e = .returned x ∧ OwnInts 5 .u8 w' w.heap.size x (l ++ m) ∧ Below w.heap.size w w' := by
  have hf : [l, m].flatten = l ++ m := by simp
  refine (concat_any _ [l, m] _ (ArgLL.pair hv hu t g hg) (by rw [hf, List.length_append]; omega) (by rw [hf, List.length_append]; omega) (by simp)).mono ?_
  rintro e w' ⟨x, rfl, hO, hB⟩
  rw [hf] at hO
  exact ⟨x, rfl, hO.older (by simp), below_step ((Below.refl _ _).alloc (Nat.le_refl _) _) hB⟩
theorem concat_three (v u x : Value) (l m n : List Int) (w : World) (g : Nat) (t : TypeId) (hg : g = w.heap.size) (hv : ArgB w v l) (hu : ArgB w u m) (hx : ArgB w x n) (h0 : 0 < m.length) (hl : l.length ≤ 1000000) (hm : m.length ≤ 1000000) (hn : n.length ≤ 1000000) :
    Calls Tryz.prog 85 #[.slice (some ⟨g, 0, none⟩) 3 3] (w.alloc (.cells #[v, u, x] t)) fun e w' => ∃ x, e = .returned x ∧ OwnInts 5 .u8 w' w.heap.size x (l ++ (m ++ n)) ∧ Below w.heap.size w w' := by
  have hf : [l, m, n].flatten = l ++ (m ++ n) := by simp
  refine (concat_any _ [l, m, n] _ (ArgLL.three hv hu hx t g hg) (by rw [hf, List.length_append, List.length_append]; omega) (by rw [hf, List.length_append, List.length_append]; omega) (by simp)).mono ?_
  rintro e w' ⟨x, rfl, hO, hB⟩
  rw [hf] at hO
  exact ⟨x, rfl, hO.older (by simp), below_step ((Below.refl _ _).alloc (Nat.le_refl _) _) hB⟩
/-- The operation, for a walk: bytes behind a list of one's own that may be nil. -/
theorem wp_joinN {w : World} {ops : Array Oper} {rest : List Oper} {o : Oper} {a : Act} {Q : Exit → Act → World → Prop} (hgd : o.guard = none) (s x : Operand)
    (ho : o.op = .call { callee := .builtin .append, args := #[s, x], argTypes := #[22, 22] })
    (base : Nat) (v : Value) (l : List Int) (hs : a.eval s = v) (hown : OwnN w base v l) (yv : Value) (y : List Int) (hx : a.eval x = yv) (hy : ArgB w yv y)
    (hlen : l.length + y.length ≤ 100000000) (hbase : base ≤ w.heap.size)
    (h : ∀ v' w', OwnN w' base v' (l ++ y) → Below base w w' → w.grownBy w' v.ownBlock → base ≤ w'.heap.size → wpList Tryz.prog ops Q rest (a.put o.dst v') w') : wpList Tryz.prog ops Q (o :: rest) a w := by
  obtain ⟨i0, hi, hz0, hz1, hz2⟩ := info_parts info_byte
  rcases hy with ⟨rfl, rfl⟩ | ⟨ad, cap, rfl, hc, hcell⟩
  · refine wpList_append_own_none hgd s x _ ho base 5 i0 1 Tryz.underlying22 hi v l.length _ hs hown hx ?_
    have := h v w (by rw [List.append_nil]; exact hown) (Below.refl _ _) ⟨rfl, rfl, rfl, Nat.le_refl _, fun _ _ _ => rfl⟩ hbase
    exact this
  · refine wpList_append_own w hgd s x 22 ho base 5 i0 (.int .u8 0) 1 1 Tryz.underlying22 hi hz0 hz1 hz2 rfl (by decide) v l.length _ hs hown ad y.length cap (y.map (Value.int .u8)) hx (by simp) ?_ (ints_one _ _) ?_ ?_ hbase ?_
    · intro j u hu
      rw [List.getElem?_map] at hu
      obtain ⟨z, hz, rfl⟩ := Option.map_eq_some_iff.mp hu
      have hj : j < y.length := (List.getElem?_eq_some_iff.mp hz).1
      rw [hcell j hj, List.getD_eq_getElem?_getD, hz]; rfl
    · unfold maxLen; omega
    · omega
    · intro v' w' hown' hgrow _
      have hlt := World.ownsRow.lt hown
      refine h v' w' ?_ ((Below.refl base w).grown hgrow hbase (fun b hk => (hlt _ hk).1)) hgrow ?_
      · unfold OwnN
        rw [List.map_append, List.length_append]
        exact hown'
      · have := hgrow.size; omega

end Go.Proofs.YtejelednnacnaaaGreatDoor

/-
  Values stored into variables of two and of three cells: what is there then, and what is as it was.
-/
namespace Go.Proofs.YtejelednnacnaaaGreatDoor
open Go.RowKit

/-- Three cells stored. -/
def put3 (W : World) (p : Nat) (x y z : Value) : World := ((W.setCell ⟨p, 0, none⟩ x).setCell ⟨p, 1, none⟩ y).setCell ⟨p, 2, none⟩ z
def put2 (W : World) (p : Nat) (x y : Value) : World := (W.setCell ⟨p, 0, none⟩ x).setCell ⟨p, 1, none⟩ y
theorem Var3.put {W : World} {p : Nat} {x y z : Value} (k : Var3 W p x y z) (x' y' z' : Value) : Var3 (put3 W p x' y' z') p x' y' z' := by
  obtain ⟨c0, c1, c2, q0, q1, q2, s⟩ := k
  unfold put3
  refine ⟨?_, ?_, ?_, ?_, ?_, ?_, ?_⟩ <;> simp [go_sem, *]
theorem Var2.put {W : World} {p : Nat} {x y : Value} (k : Var2 W p x y) (x' y' : Value) : Var2 (put2 W p x' y') p x' y' := by
  obtain ⟨c0, c1, q0, q1, s⟩ := k
  unfold put2
  refine ⟨?_, ?_, ?_, ?_, ?_⟩ <;> simp [go_sem, *]
theorem Var3.else3 {W : World} {p r : Nat} {x y z : Value} (k : Var3 W p x y z) (h : r ≠ p) (x' y' z' : Value) : Var3 (put3 W r x' y' z') p x y z := by
  obtain ⟨c0, c1, c2, q0, q1, q2, s⟩ := k
  have h2 : ¬ r = p := h
  have h3 : ¬ p = r := fun e => h e.symm
  unfold put3
  refine ⟨?_, ?_, ?_, ?_, ?_, ?_, ?_⟩ <;> simp [go_sem, *]
theorem Var2.else3 {W : World} {p r : Nat} {x y : Value} (k : Var2 W p x y) (h : r ≠ p) (x' y' z' : Value) : Var2 (put3 W r x' y' z') p x y := by
  obtain ⟨c0, c1, q0, q1, s⟩ := k
  have h2 : ¬ r = p := h
  have h3 : ¬ p = r := fun e => h e.symm
  unfold put3
  refine ⟨?_, ?_, ?_, ?_, ?_⟩ <;> simp [go_sem, *]
theorem Var3.else2 {W : World} {p r : Nat} {x y z : Value} (k : Var3 W p x y z) (h : r ≠ p) (x' y' : Value) : Var3 (put2 W r x' y') p x y z := by
  obtain ⟨c0, c1, c2, q0, q1, q2, s⟩ := k
  have h2 : ¬ r = p := h
  have h3 : ¬ p = r := fun e => h e.symm
  unfold put2
  refine ⟨?_, ?_, ?_, ?_, ?_, ?_, ?_⟩ <;> simp [go_sem, *]
theorem Var2.else2 {W : World} {p r : Nat} {x y : Value} (k : Var2 W p x y) (h : r ≠ p) (x' y' : Value) : Var2 (put2 W r x' y') p x y := by
  obtain ⟨c0, c1, q0, q1, s⟩ := k
  have h2 : ¬ r = p := h
  have h3 : ¬ p = r := fun e => h e.symm
  unfold put2
  refine ⟨?_, ?_, ?_, ?_, ?_⟩ <;> simp [go_sem, *]
theorem below_put3 {B : Nat} {w W : World} (h : Below B w W) {p : Nat} (hp : B ≤ p) (x y z : Value) : Below B w (put3 W p x y z) := ((h.setCell hp _).setCell hp _).setCell hp _
theorem below_put2 {B : Nat} {w W : World} (h : Below B w W) {p : Nat} (hp : B ≤ p) (x y : Value) : Below B w (put2 W p x y) := (h.setCell hp _).setCell hp _

end Go.Proofs.YtejelednnacnaaaGreatDoor
