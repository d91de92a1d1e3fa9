/-
  The document's own answers for numbers of bits, walked: a text of digits as a number, or why it is none.
-/
import Derived.Test.YthfmllgflnideaaDoorPkRefs
import Derived.Test.YthfmllgflnideaaDoorPkExact
import Derived.Deep.RegionHeld3
import Derived.Test.YthfmllgflnideaaDoorPkPlain
import Derived.Test.YthfmllgflnideaaDoorPkVrs
import Derived.Test.YthfmllgflnideaaDoorPkTexts
namespace Go.Proofs.YthfmllgflnideaaDoor
open Go.RowKit

theorem four_bools (W : World) (g : Nat) (hg : g = W.heap.size) : Bools (W.alloc (.cells #[.bool false, .bool true, .bool false, .bool true] 4)) (.slice (some ⟨g, 0, none⟩) 4 4) [false, true, false, true] := by
  subst hg
  refine ⟨W.heap.size, 0, 4, rfl, by decide, by simp, fun i hi => ?_⟩
  rcases i with _ | _ | _ | _ | i
  · simp
  · simp
  · simp
  · simp
  · simp at hi; omega
theorem four_eq : [false, true, false, true].length = 4 := rfl
theorem four_len : [false, true, false, true].length ≤ 100000 := by simp
/-- What is known at the head of a round. -/
structure ReadAt (zs : List Int) (l : List Bool) (k : Nat) : Prop where
  len : l.length ≤ 129 + 5 * k
  num : val l = numOf (zs.take k)
theorem ReadAt.start (zs : List Int) : ReadAt zs [] 0 := ⟨by simp, rfl⟩
theorem ReadAt.next {zs : List Int} {l l1 l2 : List Bool} {k n : Nat} (h : ReadAt zs l k) (hk : k < zs.length) (h1 : l1.length ≤ l.length + 4) (e1 : val l1 = val l * 10) (h2 : l2.length ≤ max l1.length 128 + 1) (e2 : val l2 = val l1 + n) (hn : n = (zs.getD k 0 - 48).toNat) : ReadAt zs l2 (k + 1) := by
  obtain ⟨a, b⟩ := h
  exact ⟨by omega, by rw [numOf_step _ _ hk, e2, e1, b, hn]; omega⟩

/-- A letter of a text of digits. -/
theorem digit_at {s : ByteArray} (hall : ∀ i, i < (nums s).length → 48 ≤ (nums s).getD i 0 ∧ (nums s).getD i 0 ≤ 57) (k : Nat) (h : k < s.size) : ∃ z : Int, (s[k].toNat : Int) = z ∧ 48 ≤ z ∧ z ≤ 57 ∧ Hid ((nums s).getD k 0 = z) := by
  have h1 := hall k (by rw [nums_length]; exact h)
  rw [nums_at s k h] at h1
  exact ⟨_, rfl, h1.1, h1.2, nums_at s k h⟩
/-- What stands in the call's own memory: the place of the result, and ten. -/
structure RdMem (w wr : World) : Prop where
  r0 : wr.cell? ⟨w.heap.size, 0, none⟩ = some (.int .u64 0)
  r1 : wr.cell? ⟨w.heap.size, 1, none⟩ = some (.int .u64 0)
  q0 : wr.frozen? ⟨w.heap.size, 0, none⟩ = false
  q1 : wr.frozen? ⟨w.heap.size, 1, none⟩ = false
  ten : Bools wr (.slice (some ⟨w.heap.size + 1 + 1, 0, none⟩) 4 4) [false, true, false, true]
  s0 : w.heap.size < wr.heap.size
  bel : Below w.heap.size w wr
theorem RdMem.after {w wr w1 : World} (h : RdMem w wr) (hb : Below wr.heap.size wr w1) : RdMem w w1 := by
  obtain ⟨r0, r1, q0, q1, ten, s0, bel⟩ := h
  exact ⟨(hb.cell (p := ⟨w.heap.size, 0, none⟩) s0).trans r0, (hb.cell (p := ⟨w.heap.size, 1, none⟩) s0).trans r1, (hb.frozen (p := ⟨w.heap.size, 0, none⟩) s0).trans q0, (hb.frozen (p := ⟨w.heap.size, 1, none⟩) s0).trans q1, ten.below hb, Nat.lt_of_lt_of_le s0 hb.size, bel.trans (hb.mono bel.size)⟩
theorem RdMem.start (w : World) : RdMem w (((w.alloc (.cells #[.int .u64 0, .int .u64 0] 84)).alloc (.cells #[] 4)).alloc (.cells #[.bool false, .bool true, .bool false, .bool true] 4)) := by
  have hb : Below (w.alloc (.cells #[.int .u64 0, .int .u64 0] 84)).heap.size (w.alloc (.cells #[.int .u64 0, .int .u64 0] 84)) (((w.alloc (.cells #[.int .u64 0, .int .u64 0] 84)).alloc (.cells #[] 4)).alloc (.cells #[.bool false, .bool true, .bool false, .bool true] 4)) :=
    ((Below.refl _ _).alloc (Nat.le_refl _) _).alloc (by simp) _
  obtain ⟨r0, r1, q0, q1, s0, bel⟩ := res_kept hb
  exact ⟨r0, r1, q0, q1, four_bools _ _ (by simp), s0, bel⟩
theorem RdMem.bools (w : World) : Bools (((w.alloc (.cells #[.int .u64 0, .int .u64 0] 84)).alloc (.cells #[] 4)).alloc (.cells #[.bool false, .bool true, .bool false, .bool true] 4)) (.slice (some ⟨w.heap.size + 1, 0, none⟩) 0 0) [] :=
  (OwnBits.fresh _ 0 _ (by simp) (Nat.zero_le _)).bools.alloc _

end Go.Proofs.YthfmllgflnideaaDoor

/-
  Pieces of texts, by their bytes.
-/
namespace Go.Proofs.YthfmllgflnideaaDoor
open Go.RowKit

theorem pstr_ext (l : List Int) (hb : ∀ z ∈ l, 0 ≤ z ∧ z ≤ 255) (i j : Nat) : (strOfNums l).extract i j = strOfNums ((l.drop i).take (j - i)) := by
  have h1 : nums ((strOfNums l).extract i j) = ((nums (strOfNums l)).drop i).take (j - i) := by
    simp only [nums, ByteArray.data_extract, Array.toList_extract, List.extract_eq_take_drop, List.map_take, List.map_drop]
  rw [nums_strOfNums l hb] at h1
  rw [← h1, strOfNums_nums]
theorem pstr_len (l : List Int) : (strOfNums l).size = l.length := by rw [← nums_length]; simp [nums, strOfNums]
theorem pstr_to (Z : List Int) (hb : ∀ z ∈ Z, 0 ≤ z ∧ z ≤ 255) (k : Nat) (zk : Int) (ek : zk = (k : Int)) (hf : k ≤ Z.length) (W : World) :
    (Instr.slice 9 (.string (strOfNums Z)) none (some (.int .i64 zk)) none).run Tryd.prog W = .ok (.string (strOfNums (Z.take k))) W := by
  subst ek
  rw [run_slice_string_to_if W 9 _ .i64 (k : Int) Tryd.underlying9, if_pos ⟨by omega, by rw [pstr_len]; omega⟩, pstr_ext Z hb, Int.toNat_natCast, Nat.sub_zero, List.drop_zero]
theorem pstr_from (Z : List Int) (hb : ∀ z ∈ Z, 0 ≤ z ∧ z ≤ 255) (k : Nat) (zk : Int) (ek : zk = (k : Int)) (hf : k ≤ Z.length) (W : World) :
    (Instr.slice 9 (.string (strOfNums Z)) (some (.int .i64 zk)) none none).run Tryd.prog W = .ok (.string (strOfNums (Z.drop k))) W := by
  subst ek
  rw [run_slice_string_from_if W 9 _ .i64 (k : Int) Tryd.underlying9, if_pos ⟨by omega, by rw [pstr_len]; omega⟩, pstr_ext Z hb, Int.toNat_natCast, List.take_of_length_le (by rw [List.length_drop, pstr_len]; exact Nat.le_refl _)]

end Go.Proofs.YthfmllgflnideaaDoor

/-
  The document's calls of layer 13: number, factor: walked.
-/
namespace Go.Proofs.YthfmllgflnideaaDoor
open Go.RowKit

theorem sgetD_left {A B : List Int} {i : Nat} (h : i < A.length) : (A ++ B).getD i 0 = A.getD i 0 := by
  rw [List.getD_eq_getElem?_getD, List.getD_eq_getElem?_getD, List.getElem?_append_left h]
theorem sgetD_right {A B : List Int} {i : Nat} (h : A.length ≤ i) : (A ++ B).getD i 0 = B.getD (i - A.length) 0 := by
  rw [List.getD_eq_getElem?_getD, List.getD_eq_getElem?_getD, List.getElem?_append_right h]
/-- Digits behind a point, filled up to three. -/
def spadL (B : List Int) : List Int := B ++ List.replicate (3 - B.length) 48
theorem spad_len {B : List Int} (h : B.length ≤ 3) : (spadL B).length = 3 := by unfold spadL; rw [List.length_append, List.length_replicate]; omega
theorem spad_dig {B : List Int} (h : AllD B) (i : Nat) (hi : i < (spadL B).length) : 48 ≤ (spadL B).getD i 0 ∧ (spadL B).getD i 0 ≤ 57 := by
  unfold spadL at hi ⊢
  by_cases hb : i < B.length
  · rw [sgetD_left hb]
    exact h.2 i hb
  · rw [sgetD_right (by omega)]
    rw [List.length_append, List.length_replicate] at hi
    rw [List.getD_eq_getElem?_getD, List.getElem?_replicate, if_pos (by omega)]
    decide
theorem spad_in {B : List Int} {i : Nat} (hi : i < B.length) : (spadL B).getD i 0 = B.getD i 0 := sgetD_left hi
theorem spad_out {B : List Int} {i : Nat} (h : ¬ i < B.length) (hi : i < 3) : (spadL B).getD i 0 = 48 := by
  unfold spadL
  rw [sgetD_right (by omega), List.getD_eq_getElem?_getD, List.getElem?_replicate, if_pos (by omega)]
  rfl
theorem snum_snoc (P : List Int) (i : Nat) (hi : i < P.length) : numOf (P.take (i + 1)) = 10 * numOf (P.take i) + (P.getD i 0 - 48).toNat := by
  rw [take_snoc hi]
  unfold numOf
  rw [List.foldl_append]
  rfl
theorem snum_room {P : List Int} (h : ∀ i, i < P.length → 48 ≤ P.getD i 0 ∧ P.getD i 0 ≤ 57) : ∀ k, k ≤ P.length → numOf (P.take k) < 10 ^ k
  | 0, _ => by simp [numOf]
  | k + 1, hk => by
    have ih := snum_room h k (by omega)
    have hz := h k (by omega)
    rw [snum_snoc P k (by omega), Nat.pow_succ]
    omega
theorem t3_is (B : List Int) : t3 B = numOf ((spadL B).take 3) := rfl
theorem facF_word {A B : List Int} (h : ¬ (AllD B ∧ B.length ≤ 3)) : facF A B = (0, 5) := if_neg h
theorem facF_err {A B : List Int} (h : AllD B ∧ B.length ≤ 3) (he : ¬ (numF A).2 = 0) : facF A B = (0, (numF A).2) := by unfold facF; rw [if_pos h, if_neg he]
theorem facF_big {A B : List Int} (h : AllD B ∧ B.length ≤ 3) (he : (numF A).2 = 0) (hb : (18446744073709551615 - t3 B) / 1000 < (numF A).1) : facF A B = (0, 8) := by unfold facF; rw [if_pos h, if_pos he, if_pos hb]
theorem facF_fine {A B : List Int} (h : AllD B ∧ B.length ≤ 3) (he : (numF A).2 = 0) (hb : ¬ (18446744073709551615 - t3 B) / 1000 < (numF A).1) : facF A B = (1000 * (numF A).1 + t3 B, 0) := by unfold facF; rw [if_pos h, if_pos he, if_neg hb]
end Go.Proofs.YthfmllgflnideaaDoor
