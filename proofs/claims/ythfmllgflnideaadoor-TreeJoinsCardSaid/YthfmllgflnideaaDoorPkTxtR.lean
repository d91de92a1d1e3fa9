/-
  The document's own runes of a text, walked.
-/
import Derived.Test.YthfmllgflnideaaDoorPkPlain
import Derived.Test.YthfmllgflnideaaDoorPkVrs
import Derived.WalkSpells
import Derived.WalkLawsBesides
import Derived.Lib.Hide
import Derived.Lib.OthersKept
namespace Go.Proofs.YthfmllgflnideaaDoor
open Go.RowKit

theorem info_rune : (Tryd.prog.info? 21).map (fun i => (i.zero, i.size, i.bytes)) = some (some (.int .i32 0), 1, 4) := by kernel_rfl
/-- What is made so far, in front of a place. -/
structure RunesAt (zs : List Int) (i : Nat) (l : List Int) : Prop where
  all : runesOf zs = l ++ rfrom zs i
  len : l.length ≤ i
theorem RunesAt.start (zs : List Int) : RunesAt zs 0 [] := ⟨rfl, Nat.le_refl _⟩
theorem RunesAt.next {zs : List Int} {i : Nat} {l : List Int} (h : RunesAt zs i l) (hi : i < zs.length) {z : Int} {n : Nat} (hz : runeA zs i = z) (hn : widA zs i = n) (n1 : 1 ≤ n) : RunesAt zs (i + n) (l ++ [z]) := by
  obtain ⟨h1, h2⟩ := h
  refine ⟨?_, by simp; omega⟩
  rw [h1, rfrom_in hi, hz, hn, List.append_assoc]; rfl
theorem RunesAt.fin {zs : List Int} {i : Nat} {l : List Int} (h : RunesAt zs i l) (hi : ¬ i < zs.length) : runesOf zs = l := by rw [h.all, rfrom_out hi, List.append_nil]
def bdC : Nat → Int
  | 0 => 31
  | k + 1 => 64 * bdC k + 63
theorem bdC_pos (k : Nat) : 0 ≤ bdC k := by
  induction k with
  | zero => decide
  | succ k ih => simp only [bdC]; omega
theorem bdC_mono {k n : Nat} (h : k ≤ n) : bdC k ≤ bdC n := by
  induction n with
  | zero => obtain rfl : k = 0 := by omega
            exact Int.le_refl _
  | succ n ih =>
    by_cases e : k = n + 1
    · rw [e]; exact Int.le_refl _
    · have h1 := ih (by omega)
      have h2 := bdC_pos n
      simp only [bdC]; omega
/-- What is known within a rune of more than one byte. -/
structure InR (zs : List Int) (i k : Nat) (c : Int) : Prop where
  all : allB zs i k = true
  ec : c = cAt zs i k
  c0 : 0 ≤ c
  c1 : c ≤ bdC k
theorem InR.next {zs : List Int} {i k : Nat} {c z : Int} (h : InR zs i k c) (hl : i + (k + 1) < zs.length) (hz : zs.getD (i + (k + 1)) 0 = z) (z0 : 128 ≤ z) (z1 : z ≤ 191) : InR zs i (k + 1) (64 * c + z - 128) := by
  obtain ⟨h1, h2, h3, h4⟩ := h
  refine ⟨?_, ?_, by omega, ?_⟩
  · simp only [allB, h1, Bool.true_and]; exact contB_iff.mpr ⟨hl, by omega, by omega⟩
  · rw [cAt, hz, h2]
  · simp only [bdC]; omega
theorem InR.miss {zs : List Int} {i k : Nat} (hl : ¬ i + (k + 1) < zs.length) (hn : k + 1 ≤ clsN (zs.getD i 0)) : wholeB zs i = false := by
  have h1 : allB zs i (k + 1) = false := by
    simp only [allB]
    have : contB zs (i + (k + 1)) = false := by
      cases hc : contB zs (i + (k + 1)) with
      | false => rfl
      | true => exact (hl (contB_iff.mp hc).1).elim
    rw [this, Bool.and_false]
  unfold wholeB
  rw [allB_less h1 hn]; simp
theorem InR.break {zs : List Int} {i k : Nat} {z : Int} (hz : zs.getD (i + (k + 1)) 0 = z) (hc : z < 128 ∨ 191 < z) (hn : k + 1 ≤ clsN (zs.getD i 0)) : wholeB zs i = false := by
  have h1 : allB zs i (k + 1) = false := by
    simp only [allB]
    have : contB zs (i + (k + 1)) = false := by
      cases hc2 : contB zs (i + (k + 1)) with
      | false => rfl
      | true => have := contB_iff.mp hc2; omega
    rw [this, Bool.and_false]
  unfold wholeB
  rw [allB_less h1 hn]; simp
theorem InR.good {zs : List Int} {i n : Nat} {c L : Int} (h : InR zs i n c) (hn : clsN (zs.getD i 0) = n) (n0 : 0 < n) (hL : clsL (zs.getD i 0) = L) (h1 : L ≤ c) (h2 : c ≤ 1114111) (h3 : ¬ (55296 ≤ c ∧ c < 57344)) (h128 : ¬ zs.getD i 0 < 128) : runeA zs i = c ∧ widA zs i = n + 1 := by
  have hw : wholeB zs i = true := by
    unfold wholeB
    rw [hn, hL, h.all, ← h.ec]
    simp; omega
  obtain ⟨r1, r2⟩ := runeA_good h128 hw
  rw [r1, r2, hn, ← h.ec]
  exact ⟨rfl, rfl⟩
theorem InR.bad {zs : List Int} {i n : Nat} {c L : Int} (h : InR zs i n c) (hn : clsN (zs.getD i 0) = n) (hL : clsL (zs.getD i 0) = L) (hc : c < L ∨ 1114111 < c ∨ (55296 ≤ c ∧ c < 57344)) : wholeB zs i = false := by
  unfold wholeB
  rw [hn, hL, h.all, ← h.ec]
  simp; omega
theorem whole_none {zs : List Int} {i : Nat} (hn : clsN (zs.getD i 0) = 0) : wholeB zs i = false := by unfold wholeB; rw [hn]; rfl

/-- What Runes hands back. -/
def GivesRunes (l : List Int) (w : World) (e : Ending) (w' : World) : Prop := ∃ v, e = .returned v ∧ Ints .i32 w' v l ∧ Below w.heap.size w w' ∧ ∀ b, v.ownBlock = some b → w.heap.size ≤ b

end Go.Proofs.YthfmllgflnideaaDoor
