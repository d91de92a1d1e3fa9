/-
  What package civil's Read makes of a text, letter by letter: plain.
-/
import Derived.Test.YthhaineoflpkkaaDoorCivZ
import Derived.Laws.RangeAny
namespace Go.Proofs.YthhaineoflpkkaaDoor
open Go.RowKit

/-- Digits alone, no more than so many. -/
structure Ds (d : List Int) (width : Nat) : Prop where
  all : ∀ z ∈ d, 48 ≤ z ∧ z ≤ 57
  le : d.length ≤ width
  bd : (numOf d : Int) ≤ bdN d.length
theorem Ds.nil (width : Nat) : Ds [] width := ⟨fun z hz => (by cases hz), Nat.zero_le _, (by decide)⟩
theorem Ds.snoc {d : List Int} {width : Nat} {z : Int} (h : Ds d width) (z0 : 48 ≤ z) (z1 : z ≤ 57) (hl : d.length < width) (h4 : width ≤ 4) : Ds (d ++ [z]) width := by
  obtain ⟨all, le, bd⟩ := h
  refine ⟨fun y hy => ?_, by rw [List.length_append]; exact hl, ?_⟩
  · rcases List.mem_append.mp hy with hy | hy
    · exact all y hy
    · rw [List.mem_singleton.mp hy]; exact ⟨z0, z1⟩
  · rw [numOf_snoc, List.length_append, List.length_singleton]
    have : d.length = 0 ∨ d.length = 1 ∨ d.length = 2 ∨ d.length = 3 := by omega
    rcases this with e | e | e | e <;> rw [e] at bd ⊢ <;> simp only [bdN] at bd ⊢ <;> omega
theorem Ds.pos {d : List Int} {width : Nat} (_h : Ds d width) : 0 ≤ (numOf d : Int) := by omega
theorem Ds.top {d : List Int} {width : Nat} (h : Ds d width) : (numOf d : Int) ≤ 9999 := by
  have h1 := h.bd
  have h2 : ∀ n, bdN n ≤ 9999 := fun n => by match n with | 0 => decide | 1 => decide | 2 => decide | 3 => decide | (n + 4) => exact Int.le_refl _
  have := h2 d.length
  omega
theorem Ds.num {d : List Int} {width : Nat} {z : Int} (_h : Ds d width) (z0 : 48 ≤ z) : (numOf d : Int) * 10 + (z - 48) = (numOf (d ++ [z]) : Int) := by
  rw [numOf_snoc]; omega
theorem Ds.at {d : List Int} {width : Nat} (h : Ds d width) {i : Nat} (hi : i < d.length) : 48 ≤ d.getD i 0 ∧ d.getD i 0 ≤ 57 := h.all _ (getD_mem hi)

/-- How the letters so far stand: digits, and dashes between. -/
def Sh (zs d0 d1 d2 : List Int) : Nat → Prop
  | 0 => zs = d0 ∧ d1 = [] ∧ d2 = []
  | 1 => zs = d0 ++ 45 :: d1 ∧ d2 = []
  | 2 => zs = d0 ++ 45 :: (d1 ++ 45 :: d2)
  | _ => False
/-- What is read so far. -/
structure RdC (zs : List Int) (i : Nat) (d0 d1 d2 : List Int) : Prop where
  sh : Sh zs d0 d1 d2 i
  k0 : Ds d0 4
  k1 : Ds d1 2
  k2 : Ds d2 2
theorem RdC.start : RdC [] 0 [] [] [] := ⟨⟨rfl, rfl, rfl⟩, Ds.nil _, Ds.nil _, Ds.nil _⟩
theorem RdC.dash0 {zs d0 d1 d2 : List Int} (h : RdC zs 0 d0 d1 d2) : RdC (zs ++ [45]) 1 d0 d1 d2 := by
  obtain ⟨⟨rfl, rfl, rfl⟩, k0, k1, k2⟩ := h
  exact ⟨⟨rfl, rfl⟩, k0, k1, k2⟩
theorem RdC.dash1 {zs d0 d1 d2 : List Int} (h : RdC zs 1 d0 d1 d2) : RdC (zs ++ [45]) 2 d0 d1 d2 := by
  obtain ⟨⟨rfl, rfl⟩, k0, k1, k2⟩ := h
  refine ⟨?_, k0, k1, k2⟩
  simp [Sh]
theorem RdC.dig0 {zs d0 d1 d2 : List Int} {z : Int} (h : RdC zs 0 d0 d1 d2) (z0 : 48 ≤ z) (z1 : z ≤ 57) (hl : d0.length < 4) : RdC (zs ++ [z]) 0 (d0 ++ [z]) d1 d2 := by
  obtain ⟨⟨rfl, rfl, rfl⟩, k0, k1, k2⟩ := h
  exact ⟨⟨rfl, rfl, rfl⟩, k0.snoc z0 z1 hl (by decide), k1, k2⟩
theorem RdC.dig1 {zs d0 d1 d2 : List Int} {z : Int} (h : RdC zs 1 d0 d1 d2) (z0 : 48 ≤ z) (z1 : z ≤ 57) (hl : d1.length < 2) : RdC (zs ++ [z]) 1 d0 (d1 ++ [z]) d2 := by
  obtain ⟨⟨rfl, rfl⟩, k0, k1, k2⟩ := h
  refine ⟨?_, k0, k1.snoc z0 z1 hl (by decide), k2⟩
  simp [Sh]
theorem RdC.dig2 {zs d0 d1 d2 : List Int} {z : Int} (h : RdC zs 2 d0 d1 d2) (z0 : 48 ≤ z) (z1 : z ≤ 57) (hl : d2.length < 2) : RdC (zs ++ [z]) 2 d0 d1 (d2 ++ [z]) := by
  obtain ⟨rfl, k0, k1, k2⟩ := h
  refine ⟨?_, k0, k1, k2.snoc z0 z1 hl (by decide)⟩
  simp [Sh]
theorem take_snoc {zs : List Int} {j : Nat} {b : Int} (hj : j < zs.length) (hb : zs.getD j 0 = b) : zs.take (j + 1) = zs.take j ++ [b] := by
  rw [List.take_succ_eq_append_getElem hj, ← hb, List.getD_eq_getElem?_getD, List.getElem?_eq_getElem hj]; rfl
theorem take_at {zs : List Int} {j k : Nat} (h : k < j) : (zs.take j).getD k 0 = zs.getD k 0 := by
  rw [List.getD_eq_getElem?_getD, List.getD_eq_getElem?_getD, List.getElem?_take, if_pos h]
theorem ok_dash {zs : List Int} {k : Nat} (h : okL zs k) (e : zs.getD k 0 = 45) : k = 4 ∨ k = 7 := by
  unfold okL at h
  split at h
  · assumption
  · omega
/-- Where the letters stand in a date's text. -/
theorem RdC.place {zs d0 d1 d2 : List Int} {i j : Nat} (h : RdC (zs.take j) i d0 d1 d2) (g : DateText zs) (hj : j ≤ 10) :
    (i = 0 ∧ d0.length = j) ∨ (i = 1 ∧ d0.length = 4 ∧ j = 5 + d1.length) ∨ (i = 2 ∧ d0.length = 4 ∧ d1.length = 2 ∧ j = 8 + d2.length) := by
  obtain ⟨sh, k0, k1, k2⟩ := h
  obtain ⟨gl, gok⟩ := g
  have hlen : (zs.take j).length = j := by rw [List.length_take]; omega
  match i, sh with
  | 0, ⟨e, _, _⟩ => left; rw [e] at hlen; exact ⟨rfl, hlen⟩
  | 1, ⟨e, _⟩ =>
    right; left
    have hl := hlen
    rw [e, List.length_append, List.length_cons] at hl
    have h45 : zs.getD d0.length 0 = 45 := by
      rw [← take_at (j := j) (show d0.length < j by omega), e]; simp
    have := ok_dash (gok d0.length (by omega)) h45
    have := k0.le
    exact ⟨rfl, by omega, by omega⟩
  | 2, e =>
    right; right
    replace e : zs.take j = d0 ++ 45 :: (d1 ++ 45 :: d2) := e
    have hl := hlen
    rw [e, List.length_append, List.length_cons, List.length_append, List.length_cons] at hl
    have h45 : zs.getD d0.length 0 = 45 := by
      rw [← take_at (j := j) (show d0.length < j by omega), e]; simp
    have h46 : zs.getD (d0.length + 1 + d1.length) 0 = 45 := by
      rw [← take_at (j := j) (show d0.length + 1 + d1.length < j by omega), e]
      rw [show d0 ++ 45 :: (d1 ++ 45 :: d2) = (d0 ++ 45 :: d1) ++ 45 :: d2 by simp, show d0.length + 1 + d1.length = (d0 ++ 45 :: d1).length by simp; omega]
      simp
    have q1 := ok_dash (gok d0.length (by omega)) h45
    have q2 := ok_dash (gok (d0.length + 1 + d1.length) (by omega)) h46
    have := k0.le
    have := k1.le
    exact ⟨rfl, by omega, by omega, by omega⟩
/-- A letter that is in no place. -/
theorem RdC.dead {zs d0 d1 d2 : List Int} {i j : Nat} {b : Int} (h : RdC (zs.take j) i d0 d1 d2) (hj : j < zs.length) (hb : zs.getD j 0 = b) (h45 : b = 45 → i = 2) (hd : 48 ≤ b → b ≤ 57 → (i = 0 ∧ 4 ≤ d0.length) ∨ (i = 1 ∧ 2 ≤ d1.length) ∨ (i = 2 ∧ 2 ≤ d2.length)) : ¬ DateText zs := by
  intro g
  have hp := h.place g (by have := g.1; omega)
  have ho := g.2 j (by have := g.1; omega)
  have hl := g.1
  have k0 := h.k0.le
  have k1 := h.k1.le
  unfold okL at ho
  rw [hb] at ho
  split at ho
  · have := h45 ho
    omega
  · have := hd ho.1 ho.2
    omega
/-- A text that ends too soon. -/
theorem RdC.short {zs d0 d1 d2 : List Int} {i : Nat} (h : RdC zs i d0 d1 d2) (hne : ¬ (d0.length = 4 ∧ d1.length = 2 ∧ d2.length = 2)) : ¬ DateText zs := by
  intro g
  have e : zs.take zs.length = zs := List.take_length
  have h2 : RdC (zs.take zs.length) i d0 d1 d2 := by rw [e]; exact h
  have hp := h2.place g (by have := g.1; omega)
  have := g.1
  have := h.k0.le
  have := h.k1.le
  omega
/-- A text that is a date's. -/
theorem RdC.full {zs d0 d1 d2 : List Int} {i : Nat} (h : RdC zs i d0 d1 d2) (e0 : d0.length = 4) (e1 : d1.length = 2) (e2 : d2.length = 2) : DateText zs ∧ nAt zs 0 4 = numOf d0 ∧ nAt zs 5 2 = numOf d1 ∧ nAt zs 8 2 = numOf d2 := by
  obtain ⟨sh, k0, k1, k2⟩ := h
  match i, sh with
  | 0, ⟨_, h1, _⟩ => rw [h1] at e1; cases e1
  | 1, ⟨_, h2⟩ => rw [h2] at e2; cases e2
  | 2, e =>
    replace e : zs = d0 ++ 45 :: (d1 ++ 45 :: d2) := e
    match d0, e0, d1, e1, d2, e2 with
    | [a, b, c, d], _, [p, q], _, [r, s], _ =>
      subst e
      have a0 := k0.all a (by simp)
      have a1 := k0.all b (by simp)
      have a2 := k0.all c (by simp)
      have a3 := k0.all d (by simp)
      have b0 := k1.all p (by simp)
      have b1 := k1.all q (by simp)
      have c0 := k2.all r (by simp)
      have c1 := k2.all s (by simp)
      refine ⟨⟨rfl, fun j hj => ?_⟩, rfl, rfl, rfl⟩
      have : j = 0 ∨ j = 1 ∨ j = 2 ∨ j = 3 ∨ j = 4 ∨ j = 5 ∨ j = 6 ∨ j = 7 ∨ j = 8 ∨ j = 9 := by omega
      rcases this with rfl | rfl | rfl | rfl | rfl | rfl | rfl | rfl | rfl | rfl
      · exact a0
      · exact a1
      · exact a2
      · exact a3
      · rfl
      · exact b0
      · exact b1
      · rfl
      · exact c0
      · exact c1

end Go.Proofs.YthhaineoflpkkaaDoor
