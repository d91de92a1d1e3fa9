/-
  The document's own answers for numbers of bits, walked: a text of digits as a number, or why it is none.
-/
import Derived.Test.YtmgimkokmlcllaaGreatDoorPkRefs
import Derived.Test.YtmgimkokmlcllaaGreatDoorPkExact
import Derived.Deep.RegionHeld3
import Derived.Test.YtmgimkokmlcllaaGreatDoorPkPlain
import Derived.Test.YtmgimkokmlcllaaGreatDoorPkVrs
import Derived.Test.YtmgimkokmlcllaaGreatDoorPkTexts
namespace Go.Proofs.YtmgimkokmlcllaaGreatDoor
open Go.RowKit

structure ReadAt (zs : List Int) (l : List Bool) (k : Nat) : Prop where
  len : l.length ≤ 129 + 5 * k
  num : val l = numOf (zs.take k)
structure RdMem (w wr : World) : Prop where
  r0 : wr.cell? ⟨w.heap.size, 0, none⟩ = some (.int .u64 0)
  r1 : wr.cell? ⟨w.heap.size, 1, none⟩ = some (.int .u64 0)
  q0 : wr.frozen? ⟨w.heap.size, 0, none⟩ = false
  q1 : wr.frozen? ⟨w.heap.size, 1, none⟩ = false
  ten : Bools wr (.slice (some ⟨w.heap.size + 1 + 1, 0, none⟩) 4 4) [false, true, false, true]
  s0 : w.heap.size < wr.heap.size
  bel : Below w.heap.size w wr
end Go.Proofs.YtmgimkokmlcllaaGreatDoor

/-
  Pieces of texts, by their bytes.
-/
namespace Go.Proofs.YtmgimkokmlcllaaGreatDoor
open Go.RowKit

theorem pstr_len (l : List Int) : (strOfNums l).size = l.length := by rw [← nums_length]; simp [nums, strOfNums]
end Go.Proofs.YtmgimkokmlcllaaGreatDoor

/-
  The document's calls of layer 13: number, factor: walked.
-/
namespace Go.Proofs.YtmgimkokmlcllaaGreatDoor
open Go.RowKit

theorem sgetD_left {A B : List Int} {i : Nat} (h : i < A.length) : (A ++ B).getD i 0 = A.getD i 0 := by
  rw [List.getD_eq_getElem?_getD, List.getD_eq_getElem?_getD, List.getElem?_append_left h]
theorem sgetD_right {A B : List Int} {i : Nat} (h : A.length ≤ i) : (A ++ B).getD i 0 = B.getD (i - A.length) 0 := by
  rw [List.getD_eq_getElem?_getD, List.getD_eq_getElem?_getD, List.getElem?_append_right h]
def spadL (B : List Int) : List Int := B ++ List.replicate (3 - B.length) 48
theorem spad_len {B : List Int} (h : B.length ≤ 3) : (spadL B).length = 3 := by unfold spadL; rw [List.length_append, List.length_replicate]; omega
theorem spad_dig {B : List Int} (h : AllD B) (i : Nat) (hi : i < (spadL B).length) : 48 ≤ (spadL B).getD i 0 ∧ (spadL B).getD i 0 ≤ 57 := by
  unfold spadL at hi ⊢
  by_cases hb : i < B.length
  · rw [sgetD_left hb]
    exact h.2 i hb
  · rw [sgetD_right (by omega)]
    rw [List.length_append, List.length_replicate] at hi
    rw [List.getD_eq_getElem?_getD, List.getElem?_replicate, if_pos (by omega)]
    decide
theorem snum_snoc (P : List Int) (i : Nat) (hi : i < P.length) : numOf (P.take (i + 1)) = 10 * numOf (P.take i) + (P.getD i 0 - 48).toNat := by
  rw [take_snoc hi]
  unfold numOf
  rw [List.foldl_append]
  rfl
theorem snum_room {P : List Int} (h : ∀ i, i < P.length → 48 ≤ P.getD i 0 ∧ P.getD i 0 ≤ 57) : ∀ k, k ≤ P.length → numOf (P.take k) < 10 ^ k
  | 0, _ => by simp [numOf]
  | k + 1, hk => by
    have ih := snum_room h k (by omega)
    have hz := h k (by omega)
    rw [snum_snoc P k (by omega), Nat.pow_succ]
    omega
theorem t3_is (B : List Int) : t3 B = numOf ((spadL B).take 3) := rfl
theorem facF_word {A B : List Int} (h : ¬ (AllD B ∧ B.length ≤ 3)) : facF A B = (0, 5) := if_neg h
theorem facF_err {A B : List Int} (h : AllD B ∧ B.length ≤ 3) (he : ¬ (numF A).2 = 0) : facF A B = (0, (numF A).2) := by unfold facF; rw [if_pos h, if_neg he]
theorem facF_big {A B : List Int} (h : AllD B ∧ B.length ≤ 3) (he : (numF A).2 = 0) (hb : (18446744073709551615 - t3 B) / 1000 < (numF A).1) : facF A B = (0, 8) := by unfold facF; rw [if_pos h, if_pos he, if_pos hb]
theorem facF_fine {A B : List Int} (h : AllD B ∧ B.length ≤ 3) (he : (numF A).2 = 0) (hb : ¬ (18446744073709551615 - t3 B) / 1000 < (numF A).1) : facF A B = (1000 * (numF A).1 + t3 B, 0) := by unfold facF; rw [if_pos h, if_pos he, if_neg hb]
end Go.Proofs.YtmgimkokmlcllaaGreatDoor
