/-
  A disk without a fuse, and what a crash leaves of it: plain.
-/
import Derived.Test.YtnndpainnoebgaaBlkA
import Derived.Test.YtnndpainnoebgaaRead
namespace Go.Proofs.Ytnndpainnoebgaa

/-- A disk of 6 blocks of 32 bytes, without a fuse. -/
structure NF (E : Dsk) : Prop where
  n : E.n = 6
  size : E.size = 32
  fuse : E.fuse = -1
  dark : E.dark = false
theorem NF.new : NF (Dsk.new 6 32) := ⟨rfl, rfl, rfl, rfl⟩
theorem NF.deed {E : Dsk} (h : NF E) : E.deed.1 = true ∧ NF E.deed.2 ∧ E.deed.2.last = E.last ∧ E.deed.2.deeds = E.deeds + 1 := by
  have hf : ¬ E.fuse = 0 := by rw [h.fuse]; decide
  unfold Dsk.deed
  rw [if_neg hf]
  refine ⟨rfl, ⟨h.n, h.size, ?_, h.dark⟩, rfl, rfl⟩
  show (if 0 < E.fuse then E.fuse - 1 else E.fuse) = -1
  rw [h.fuse]; rfl
theorem NF.write {E : Dsk} (h : NF E) (i : Int) {b : List Int} (hb : ∀ z ∈ b, 0 ≤ z ∧ z ≤ 255) :
    NF (E.write i b).2 ∧ (E.write i b).2.last = E.last ∧ (E.write i b).2.deeds ≤ E.deeds + 1 ∧
    ((E.write i b).1 = 2 ∧ (E.write i b).2 = E ∨ (E.write i b).1 = 0 ∧ 0 ≤ i ∧ i < 6 ∧ ∃ c : List Int, c.length = 32 ∧ (∀ z ∈ c, 0 ≤ z ∧ z ≤ 255) ∧ (E.write i b).2.waits = E.waits ++ [(i.toNat * 32, c)]) := by
  obtain ⟨d1, d2, d3, d4⟩ := h.deed
  unfold Dsk.write
  rw [if_neg (by rw [h.dark]; simp)]
  by_cases hc : i < 0 ∨ (E.n : Int) ≤ i ∨ E.size < b.length
  · rw [if_pos hc]
    exact ⟨h, rfl, Nat.le_succ _, Or.inl ⟨rfl, rfl⟩⟩
  · rw [if_neg hc, if_pos d1]
    have hn := h.n
    have hs := h.size
    obtain ⟨p1, p2⟩ := pad_ok (size := E.size) (b := b) (by omega) hb
    refine ⟨⟨d2.n, d2.size, d2.fuse, d2.dark⟩, d3, by show E.deed.2.deeds ≤ _; omega, Or.inr ⟨rfl, by omega, by omega, _, by rw [p1, hs], p2, by show E.waits ++ [(i.toNat * E.size, _)] = _; rw [hs]⟩⟩
theorem NF.sync {E : Dsk} (h : NF E) : E.sync.1 = 0 ∧ NF E.sync.2 ∧ E.sync.2.last = E.seen ∧ E.sync.2.waits = [] ∧ E.sync.2.deeds = E.deeds + 1 := by
  obtain ⟨d1, d2, d3, d4⟩ := h.deed
  unfold Dsk.sync
  rw [if_neg (by rw [h.dark]; simp), if_pos d1]
  exact ⟨rfl, ⟨d2.n, d2.size, d2.fuse, d2.dark⟩, rfl, rfl, d4⟩

/-- What is seen behind so many writes. -/
def seenAt (S : List Int) (ws : List (Nat × List Int)) (k : Nat) : List Int := (ws.take k).foldl layL S
theorem seenAt_all (S : List Int) (ws : List (Nat × List Int)) : seenAt S ws ws.length = ws.foldl layL S := by unfold seenAt; rw [List.take_length]
theorem seenAt_more (S : List Int) (ws : List (Nat × List Int)) (p : Nat × List Int) (k : Nat) (hk : k ≤ ws.length) : seenAt S (ws ++ [p]) k = seenAt S ws k := by
  unfold seenAt; rw [List.take_append_of_le_length hk]
theorem seenAt_next (S : List Int) (ws : List (Nat × List Int)) (k : Nat) (hk : k < ws.length) : seenAt S ws (k + 1) = layL (seenAt S ws k) (ws.getD k (0, [])) := by
  unfold seenAt
  rw [List.take_succ_eq_append_getElem hk, List.foldl_append, List.getD_eq_getElem?_getD, List.getElem?_eq_getElem hk]; rfl
theorem seenAt_len {S : List Int} {ws : List (Nat × List Int)} (hS : S.length = 192) (hw : ∀ p ∈ ws, (∃ i, i < 6 ∧ p.1 = i * 32) ∧ p.2.length = 32) (k : Nat) : (seenAt S ws k).length = 192 := by
  unfold seenAt
  have : ∀ (l : List (Nat × List Int)), (∀ p ∈ l, (∃ i, i < 6 ∧ p.1 = i * 32) ∧ p.2.length = 32) → ∀ s : List Int, s.length = 192 → (l.foldl layL s).length = 192 := by
    intro l
    induction l with
    | nil => intro _ s hs; exact hs
    | cons p l ih =>
      intro hl s hs
      obtain ⟨⟨i, hi, e⟩, h2⟩ := hl p (by simp)
      exact ih (fun q hq => hl q (by simp [hq])) _ (by rw [layL_len (by omega), hs])
  exact this _ (fun p hp => hw p (List.mem_of_mem_take hp)) S hS
theorem seenAt_byte {S : List Int} {ws : List (Nat × List Int)} (hS : ∀ z ∈ S, 0 ≤ z ∧ z ≤ 255) (hw : ∀ p ∈ ws, ∀ z ∈ p.2, 0 ≤ z ∧ z ≤ 255) (k : Nat) : ∀ z ∈ seenAt S ws k, 0 ≤ z ∧ z ≤ 255 := by
  unfold seenAt
  have : ∀ (l : List (Nat × List Int)), (∀ p ∈ l, ∀ z ∈ p.2, 0 ≤ z ∧ z ≤ 255) → ∀ s : List Int, (∀ z ∈ s, 0 ≤ z ∧ z ≤ 255) → ∀ z ∈ l.foldl layL s, 0 ≤ z ∧ z ≤ 255 := by
    intro l
    induction l with
    | nil => intro _ s hs; exact hs
    | cons p l ih => intro hl s hs; exact ih (fun q hq => hl q (by simp [hq])) _ (layL_byte hs (hl p (by simp)))
  exact this _ (fun p hp => hw p (List.mem_of_mem_take hp)) S hS
/-- What a crash leaves: what was seen behind some write, and a part of the next one. -/
theorem left_part {a c : List Int} {p t : Nat} (hA : a.length = 192) (hc : c.length = 32) (hp : p + 32 ≤ 192) (ht : t ≤ 32) (torn : Nat) (htt : c.take torn = c.take t) :
    layL a (p, c.take torn) = a.take p ++ ((layL a (p, c)).drop p).take t ++ a.drop (p + t) := by
  unfold layL
  have h1 : (c.take t).length = t := by rw [List.length_take]; omega
  rw [htt]
  simp only [h1]
  congr 2
  have h2 : (a.take p).length = p := by rw [List.length_take]; omega
  rw [List.append_assoc, List.drop_append_of_le_length (by omega), List.drop_eq_nil_of_le (by omega), List.nil_append, List.take_append_of_le_length (by omega)]
theorem str_ext (l : List Int) (hb : ∀ z ∈ l, 0 ≤ z ∧ z ≤ 255) (i j : Nat) : (strOfNums l).extract i j = strOfNums ((l.drop i).take (j - i)) := by
  have h1 : nums ((strOfNums l).extract i j) = ((nums (strOfNums l)).drop i).take (j - i) := by
    simp only [nums, ByteArray.data_extract, Array.toList_extract, List.extract_eq_take_drop, List.map_take, List.map_drop]
  rw [nums_strOfNums l hb] at h1
  rw [← h1, strOfNums_nums]

end Go.Proofs.Ytnndpainnoebgaa
