/-
  What a reader's state is, and what each call makes of it: plain. That only one block has changed.
-/
import Derived.Test.YtnndpainnoebgaaWirG
namespace Go.Proofs.Ytnndpainnoebgaa
open Go.RowKit

/-- A thing that is asked for, of a reader that has so many bytes left, or is bad. -/
def readT (kind most : Int) : Option (List Int) → GotV × Option (List Int)
  | none => ({}, none)
  | some R => match takeT kind most R with
    | none => ({}, none)
    | some (g, q) => (g, some q)
theorem readT_none (kind most : Int) : readT kind most none = ({}, none) := rfl
theorem readT_some {kind most : Int} {R q : List Int} {g : GotV} (h : takeT kind most R = some (g, q)) : readT kind most (some R) = (g, some q) := by simp only [readT, h]
theorem readT_fail {kind most : Int} {R : List Int} (h : takeT kind most R = none) : readT kind most (some R) = ({}, none) := by simp only [readT, h]
/-- How many are left. -/
def leftN : Option (List Int) → Nat
  | none => 0
  | some R => R.length
/-- Fine, or Torn. -/
def endC : Option (List Int) → Int
  | some [] => 0
  | _ => 10
/-- One block has changed, and new memory is made. -/
structure OnlyB (r : Nat) (w w' : World) : Prop where
  bel : Below r w w'
  size : w.heap.size ≤ w'.heap.size
  keep : ∀ i, i < w.heap.size → i ≠ r → w'.heap[i]? = w.heap[i]?
theorem OnlyB.cell {r : Nat} {w w' : World} (h : OnlyB r w w') {b o : Nat} (hb : b < w.heap.size) (hne : b ≠ r) : w'.cell? ⟨b, o, none⟩ = w.cell? ⟨b, o, none⟩ := World.cell?_of_block (h.keep b hb hne)
theorem OnlyB.frozen {r : Nat} {w w' : World} (h : OnlyB r w w') {b o : Nat} (hb : b < w.heap.size) (hne : b ≠ r) : w'.frozen? ⟨b, o, none⟩ = w.frozen? ⟨b, o, none⟩ := World.frozen?_of_block (h.keep b hb hne)
theorem OnlyB.ints {r : Nat} {w w' : World} (h : OnlyB r w w') {k : IntKind} {g off cap : Nat} {l : List Int} (hi : Ints k w (.slice (some ⟨g, off, none⟩) l.length cap) l) (hne : g ≠ r) : Ints k w' (.slice (some ⟨g, off, none⟩) l.length cap) l := by
  obtain ⟨b', off', cap', he, hc, hlt, hcell⟩ := hi
  simp only [Value.slice.injEq, Option.some.injEq, Addr.mk.injEq, and_true] at he
  obtain ⟨⟨rfl, rfl⟩, _, rfl⟩ := he
  exact ⟨g, off, cap, rfl, hc, Nat.lt_of_lt_of_le hlt h.size, fun i hi => by rw [h.cell hlt hne]; exact hcell i hi⟩
theorem OnlyB.below {r B : Nat} {w w' : World} (h : OnlyB r w w') (hB : B ≤ r) : Below B w w' := h.bel.mono hB
theorem Var4.only {r : Nat} {W W1 : World} {p : Nat} {x y z u : Value} (k : Var4 W p x y z u) (hb : OnlyB r W W1) (hne : p ≠ r) : Var4 W1 p x y z u := by
  obtain ⟨c0, c1, c2, c3, q0, q1, q2, q3, s⟩ := k
  exact ⟨by rw [hb.cell s hne, c0], by rw [hb.cell s hne, c1], by rw [hb.cell s hne, c2], by rw [hb.cell s hne, c3], by rw [hb.frozen s hne, q0], by rw [hb.frozen s hne, q1], by rw [hb.frozen s hne, q2], by rw [hb.frozen s hne, q3], Nat.lt_of_lt_of_le s hb.size⟩

/-- The value is a slice that reads as the list: of some address, if there is anything in it. -/
def BytesIs (w : World) (v : Value) (l : List Int) : Prop :=
  ∃ a cap, v = .slice a l.length cap ∧ l.length ≤ cap ∧ ∀ i, i < l.length → ∃ b off, a = some ⟨b, off, none⟩ ∧ w.cell? ⟨b, off + i, none⟩ = some (.int .u8 (l.getD i 0))
theorem BytesIs.below {w w' : World} {v : Value} {l : List Int} (h : BytesIs w v l) (hb : Below w.heap.size w w') : BytesIs w' v l := by
  obtain ⟨a, cap, rfl, hc, hcell⟩ := h
  refine ⟨a, cap, rfl, hc, fun i hi => ?_⟩
  obtain ⟨b, off, rfl, h⟩ := hcell i hi
  exact ⟨b, off, rfl, (hb.cell (p := ⟨b, off + i, none⟩) (World.block_lt_of_cell? _ _ h)).trans h⟩
theorem Ints.bytesIs {w : World} {v : Value} {l : List Int} (h : Ints .u8 w v l) : BytesIs w v l := by
  obtain ⟨b, off, cap, rfl, hc, _, hcell⟩ := h
  exact ⟨_, cap, rfl, hc, fun i hi => ⟨b, off, rfl, hcell i hi⟩⟩
theorem BytesIs.ints {w : World} {v : Value} {l : List Int} (h : BytesIs w v l) (hl : 0 < l.length) : Ints .u8 w v l := by
  obtain ⟨a, cap, rfl, hc, hcell⟩ := h
  obtain ⟨b, off, rfl, h0⟩ := hcell 0 hl
  refine ⟨b, off, cap, rfl, hc, World.block_lt_of_cell? _ _ h0, fun i hi => ?_⟩
  obtain ⟨b', off', he, h⟩ := hcell i hi
  simp only [Option.some.injEq, Addr.mk.injEq, and_true] at he
  obtain ⟨rfl, rfl⟩ := he
  exact h
/-- What a thing is, kind by kind. -/
theorem takeT_most {kind : Int} (h : kind = 0 ∨ kind = 1 ∨ kind = 3) (m m' : Int) (R : List Int) : takeT kind m R = takeT kind m' R := by
  rcases h with rfl | rfl | rfl <;> cases R <;> rfl
theorem takeT_num {most : Int} {R q : List Int} {g : GotV} (h : takeT 0 most R = some (g, q)) : g = { n := g.n } := by
  cases R with
  | nil => cases h
  | cons k r =>
    have h2 : (match takeK k r with | none => none | some (n, q) => some (({ n := n } : GotV), q)) = some (g, q) := h
    cases hk : takeK k r with
    | none => rw [hk] at h2; cases h2
    | some p => rw [hk] at h2; cases h2; rfl
theorem takeT_count {most : Int} {R q : List Int} {g : GotV} (h : takeT 4 most R = some (g, q)) (hm : most ≤ 9223372036854775807) : g = { n := g.n } ∧ (g.n : Int) ≤ 9223372036854775807 := by
  cases R with
  | nil => cases h
  | cons k r =>
    have h2 : (match takeK k r with | none => none | some (n, q) => if most < 0 ∨ most < n then none else some (({ n := n } : GotV), q)) = some (g, q) := h
    cases hk : takeK k r with
    | none => rw [hk] at h2; cases h2
    | some p =>
      obtain ⟨n, q'⟩ := p
      rw [hk] at h2
      by_cases hc : most < 0 ∨ most < (n : Int)
      · simp only [if_pos hc] at h2; cases h2
      · simp only [if_neg hc] at h2
        cases h2
        exact ⟨rfl, by show (n : Int) ≤ _; omega⟩
theorem takeT_text {most : Int} {R q : List Int} {g : GotV} (h : takeT 2 most R = some (g, q)) : g = { s := g.s } := by
  cases R with
  | nil => cases h
  | cons k r =>
    have h2 : (match takeK k r with | none => none | some (n, q) => if most < 0 ∨ most < n then none else if q.length < n then none else some (({ s := strOfNums (q.take n) } : GotV), q.drop n)) = some (g, q) := h
    cases hk : takeK k r with
    | none => rw [hk] at h2; cases h2
    | some p =>
      obtain ⟨n, q'⟩ := p
      rw [hk] at h2
      by_cases hc : most < 0 ∨ most < (n : Int)
      · simp only [if_pos hc] at h2; cases h2
      · simp only [if_neg hc] at h2
        by_cases hd : q'.length < n
        · simp only [if_pos hd] at h2; cases h2
        · simp only [if_neg hd] at h2
          cases h2; rfl
theorem takeT_flag {most : Int} {R q : List Int} {g : GotV} (h : takeT 3 most R = some (g, q)) : g = { f := g.f } := by
  cases R with
  | nil => cases h
  | cons k r =>
    have h2 : (if k < 2 then some (({ f := decide (k = 1) } : GotV), r) else none) = some (g, q) := h
    by_cases hc : k < 2
    · rw [if_pos hc] at h2; cases h2; rfl
    · rw [if_neg hc] at h2; cases h2
theorem takeT_int {most : Int} {R q : List Int} {g : GotV} (h : takeT 1 most R = some (g, q)) : g = { i := g.i } := by
  cases R with
  | nil => cases h
  | cons k r =>
    have h2 : (if k / 16 % 2 = 1 then (match takeK (k - 16) r with | none => none | some (n, q) => if 0 < n ∧ n ≤ 9223372036854775808 then some (({ i := -(n : Int) } : GotV), q) else none)
      else (match takeK k r with | none => none | some (n, q) => if n ≤ 9223372036854775807 then some (({ i := n } : GotV), q) else none)) = some (g, q) := h
    by_cases hs : k / 16 % 2 = 1
    · rw [if_pos hs] at h2
      cases hk : takeK (k - 16) r with
      | none => rw [hk] at h2; cases h2
      | some p =>
        obtain ⟨n, q'⟩ := p
        rw [hk] at h2
        by_cases hc : 0 < n ∧ n ≤ 9223372036854775808
        · simp only [if_pos hc] at h2; cases h2; rfl
        · simp only [if_neg hc] at h2; cases h2
    · rw [if_neg hs] at h2
      cases hk : takeK k r with
      | none => rw [hk] at h2; cases h2
      | some p =>
        obtain ⟨n, q'⟩ := p
        rw [hk] at h2
        by_cases hc : n ≤ 9223372036854775807
        · simp only [if_pos hc] at h2; cases h2; rfl
        · simp only [if_neg hc] at h2; cases h2

end Go.Proofs.Ytnndpainnoebgaa
