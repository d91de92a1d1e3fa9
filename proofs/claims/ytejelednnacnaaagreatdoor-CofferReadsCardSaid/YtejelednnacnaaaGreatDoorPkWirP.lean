/-
  What is written is read: plain.
-/
import Derived.Test.YtejelednnacnaaaGreatDoorPkBase
namespace Go.Proofs.YtejelednnacnaaaGreatDoor
open Go.RowKit

theorem takeK_digs (n : Nat) (hn : n ≤ 18446744073709551615) (R : List Int) : takeK ((digs n).length : Int) (digs n ++ R) = some (n, R) := by
  have h8 := digs_len8 hn
  unfold takeK
  have hno : ¬ (8 < ((digs n).length : Int) ∨ ((digs n ++ R).length : Int) < ((digs n).length : Int) ∨ (0 < ((digs n).length : Int) ∧ (digs n ++ R).getD 0 0 = 0)) := by
    rw [List.length_append]
    rintro (h | h | ⟨h, h2⟩)
    · omega
    · omega
    · have hn0 : n ≠ 0 := fun e => by subst e; rw [digs_zero] at h; simp at h
      have := digs_head n hn0
      rw [List.getD_eq_getElem?_getD, List.getElem?_append_left (by omega), ← List.getD_eq_getElem?_getD] at h2
      omega
  rw [if_neg hno, Int.toNat_natCast, List.take_left, List.drop_left, valB_digs]
theorem read_num (n : Nat) (hn : n ≤ 18446744073709551615) (most : Int) (R : List Int) : readT 0 most (some (numB n ++ R)) = ({ n := n }, some R) := by
  refine readT_some ?_
  have h : takeT 0 most (numB n ++ R) = match takeK ((digs n).length : Int) (digs n ++ R) with | none => none | some (n, q) => some (({ n := n } : GotV), q) := rfl
  rw [h, takeK_digs n hn R]
theorem read_int (i : Int) (h0 : -9223372036854775808 ≤ i) (h1 : i ≤ 9223372036854775807) (most : Int) (R : List Int) : readT 1 most (some (intB i ++ R)) = ({ i := i }, some R) := by
  refine readT_some ?_
  by_cases hi : 0 ≤ i
  · obtain ⟨n, rfl⟩ : ∃ n : Nat, i = n := ⟨i.toNat, by omega⟩
    have h8 := digs_len8 (n := n) (by omega)
    have e : intB (n : Int) = ((digs n).length : Int) :: digs n := by unfold intB; rw [if_pos hi, Int.toNat_natCast]; rfl
    rw [e, List.cons_append, takeT, if_neg (show ¬ (1 : Int) = 3 by decide), if_pos (show (1 : Int) = 1 from rfl), if_neg (by omega), takeK_digs n (by omega) R]
    simp only []
    rw [if_pos (by omega)]
  · obtain ⟨n, rfl⟩ : ∃ n : Nat, i = -(n : Int) := ⟨(-i).toNat, by omega⟩
    have h8 := digs_len8 (n := n) (by omega)
    have e : intB (-(n : Int)) = (((digs n).length : Int) + 16) :: digs n := by unfold intB; rw [if_neg hi, show (- -(n : Int)).toNat = n by omega]
    rw [e, List.cons_append, takeT, if_neg (show ¬ (1 : Int) = 3 by decide), if_pos (show (1 : Int) = 1 from rfl), if_pos (by omega), show ((digs n).length : Int) + 16 - 16 = ((digs n).length : Int) by omega, takeK_digs n (by omega) R]
    simp only []
    rw [if_pos (by omega)]
theorem read_text (s : ByteArray) (hs : s.size ≤ 1000000) (R : List Int) : readT 2 s.size (some (numB s.size ++ nums s ++ R)) = ({ s := s }, some R) := by
  refine readT_some ?_
  have h : takeT 2 s.size (numB s.size ++ nums s ++ R) = match takeK ((digs s.size).length : Int) (digs s.size ++ nums s ++ R) with | none => none | some (n, q) => if (s.size : Int) < 0 ∨ (s.size : Int) < n then none else if q.length < n then none else some (({ s := strOfNums (q.take n) } : GotV), q.drop n) := rfl
  have hl := nums_length s
  rw [h, List.append_assoc, takeK_digs s.size (by omega) (nums s ++ R)]
  simp only []
  rw [if_neg (by omega), if_neg (by rw [List.length_append]; omega), ← hl, List.take_left, List.drop_left, strOfNums_nums]
theorem read_flag (f : Bool) (R : List Int) (most : Int) : readT 3 most (some ((if f then 1 else 0) :: R)) = ({ f := f }, some R) := by
  refine readT_some ?_
  cases f <;> rfl

end Go.Proofs.YtejelednnacnaaaGreatDoor
