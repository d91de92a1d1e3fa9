/-
  A number at the front of a text, as the program takes it, and what each thing that is asked for makes of it: plain.
-/
import Derived.Test.YtejelednnacnaaaGreatDoorPkBase
import Derived.Test.YtejelednnacnaaaGreatDoorPkWirP
namespace Go.Proofs.YtejelednnacnaaaGreatDoor
open Go.RowKit

/-- A number at the front: whether it is below 0, its size, and what is behind it. -/
def frontT : List Int → Option (Bool × Nat × List Int)
  | [] => none
  | k :: r => match takeK (if k / 16 % 2 = 1 then k - 16 else k) r with
    | none => none
    | some (n, q) => if k = 16 then none else some (decide (k / 16 % 2 = 1), n, q)
theorem frontT_none {k : Int} {r : List Int} (h : takeK (if k / 16 % 2 = 1 then k - 16 else k) r = none) : frontT (k :: r) = none := by simp only [frontT, h]
theorem frontT_16 (r : List Int) : frontT (16 :: r) = none := by
  simp only [frontT]
  cases takeK (if (16 : Int) / 16 % 2 = 1 then 16 - 16 else 16) r <;> simp
theorem frontT_some {k : Int} {r q : List Int} {n : Nat} (h : takeK (if k / 16 % 2 = 1 then k - 16 else k) r = some (n, q)) (hk : k ≠ 16) : frontT (k :: r) = some (decide (k / 16 % 2 = 1), n, q) := by simp only [frontT, h, if_neg hk]
theorem takeK_big {k : Int} (r : List Int) (h : 8 < k) : takeK k r = none := by unfold takeK; rw [if_pos (Or.inl h)]
theorem takeK_fit {k n : Nat} {r : List Int} (hk : k ≤ 8) (hr : k ≤ r.length) (h0 : 0 < k → r.getD 0 0 ≠ 0) (hn : valB (r.take k) = n) : takeK (k : Int) r = some (n, r.drop k) := by
  unfold takeK
  rw [if_neg (by rintro (h | h | ⟨h, h2⟩) <;> first | omega | exact h0 (by omega) h2), Int.toNat_natCast, hn]
theorem valB_some (zs : List Int) (hb : ∀ z ∈ zs, 0 ≤ z ∧ z ≤ 255) (k : Nat) (hk : k ≤ zs.length) (k0 : 0 < k) (h0 : zs.getD 0 0 ≠ 0) : 0 < valB (zs.take k) := by
  have h1 := (hb (zs.getD 0 0) (by rw [List.getD_eq_getElem?_getD, List.getElem?_eq_getElem (by omega)]; exact List.getElem_mem _)).1
  have hd := digs_back zs hb (fun _ => by omega) k hk
  by_cases h : valB (zs.take k) = 0
  · rw [h, digs_zero] at hd
    have := congrArg List.length hd
    rw [List.length_take, List.length_nil] at this
    omega
  · omega
/-- What stands at the front, and what is behind it. -/
theorem frontT_is {R q : List Int} {b : Bool} {n : Nat} (h : frontT R = some (b, n, q)) (hb : ∀ z ∈ R, 0 ≤ z ∧ z ≤ 255) :
    n ≤ 18446744073709551615 ∧ q.length < R.length ∧ R.drop (R.length - q.length) = q ∧ (b = true → 0 < n) := by
  cases R with
  | nil => cases h
  | cons k r =>
    simp only [frontT] at h
    obtain ⟨c, hc⟩ : ∃ c, (if k / 16 % 2 = 1 then k - 16 else k) = c := ⟨_, rfl⟩
    rw [hc] at h
    have hk0 := hb k (by simp)
    have hbr : ∀ z ∈ r, 0 ≤ z ∧ z ≤ 255 := fun z hz => hb z (by simp [hz])
    by_cases hno : 8 < c ∨ (r.length : Int) < c ∨ (0 < c ∧ r.getD 0 0 = 0)
    · have ht : takeK c r = none := by unfold takeK; rw [if_pos hno]
      rw [ht] at h; cases h
    · have ht : takeK c r = some (valB (r.take c.toNat), r.drop c.toNat) := by unfold takeK; rw [if_neg hno]
      rw [ht] at h
      by_cases h16 : k = 16
      · simp only [if_pos h16] at h; cases h
      · simp only [if_neg h16, Option.some.injEq, Prod.mk.injEq] at h
        obtain ⟨rfl, rfl, rfl⟩ := h
        have hle : c.toNat ≤ r.length := by omega
        have hlt := valB_lt r hbr c.toNat hle
        have h8 : (256 : Nat) ^ c.toNat ≤ 256 ^ 8 := Nat.pow_le_pow_right (by decide) (by omega)
        have e8 : (256 : Nat) ^ 8 = 18446744073709551616 := by decide
        refine ⟨by omega, ?_, ?_, ?_⟩
        · rw [List.length_drop, List.length_cons]; omega
        · rw [List.length_drop, List.length_cons, show r.length + 1 - (r.length - c.toNat) = c.toNat + 1 by omega, List.drop_succ_cons]
        · intro hd
          have hd2 : k / 16 % 2 = 1 := by simpa using hd
          rw [if_pos hd2] at hc
          have hc0 : 0 < c := by omega
          exact valB_some r hbr c.toNat hle (by omega) (fun e => hno (Or.inr (Or.inr ⟨hc0, e⟩)))
/-- What Num makes of it. -/
theorem takeT_front0 (most : Int) (R : List Int) (hb : ∀ z ∈ R, 0 ≤ z ∧ z ≤ 255) : takeT 0 most R = match frontT R with
    | some (false, n, q) => some ({ n := n }, q)
    | _ => none := by
  cases R with
  | nil => rfl
  | cons k r =>
    have e : takeT 0 most (k :: r) = match takeK k r with | none => none | some (n, q) => some (({ n := n } : GotV), q) := rfl
    have hk0 := (hb k (by simp)).1
    rw [e]
    simp only [frontT]
    by_cases hs : k / 16 % 2 = 1
    · simp only [if_pos hs, decide_eq_true hs]
      rw [takeK_big r (by omega)]
      cases takeK (k - 16) r with
      | none => rfl
      | some p => obtain ⟨n, q⟩ := p; by_cases h16 : k = 16 <;> simp [h16]
    · simp only [if_neg hs, decide_eq_false hs]
      cases takeK k r with
      | none => rfl
      | some p => obtain ⟨n, q⟩ := p; have h16 : k ≠ 16 := by omega
                  simp [h16]
/-- What Int makes of it. -/
theorem takeT_front1 (most : Int) (R : List Int) (hb : ∀ z ∈ R, 0 ≤ z ∧ z ≤ 255) : takeT 1 most R = match frontT R with
    | some (true, n, q) => if n ≤ 9223372036854775808 then some ({ i := -(n : Int) }, q) else none
    | some (false, n, q) => if n ≤ 9223372036854775807 then some ({ i := n }, q) else none
    | none => none := by
  cases R with
  | nil => rfl
  | cons k r =>
    have e : takeT 1 most (k :: r) = (if k / 16 % 2 = 1 then (match takeK (k - 16) r with | none => none | some (n, q) => if 0 < n ∧ n ≤ 9223372036854775808 then some (({ i := -(n : Int) } : GotV), q) else none)
      else (match takeK k r with | none => none | some (n, q) => if n ≤ 9223372036854775807 then some (({ i := n } : GotV), q) else none)) := rfl
    rw [e]
    by_cases hs : k / 16 % 2 = 1
    · rw [if_pos hs]
      cases hk : takeK (k - 16) r with
      | none => rw [frontT_none (by rw [if_pos hs]; exact hk)]
      | some p =>
        obtain ⟨n, q⟩ := p
        by_cases h16 : k = 16
        · subst h16
          rw [frontT_16]
          have : takeK (16 - 16) r = some (0, r) := by
            unfold takeK
            rw [if_neg (by rintro (h | h | h) <;> omega)]; rfl
          rw [this] at hk
          cases hk
          simp only []
          rw [if_neg (by omega)]
        · have hf := frontT_some (n := n) (q := q) (by rw [if_pos hs]; exact hk) h16
          rw [decide_eq_true hs] at hf
          have h0 := (frontT_is hf hb).2.2.2 rfl
          rw [hf]
          simp only []
          by_cases hn : n ≤ 9223372036854775808
          · rw [if_pos hn, if_pos ⟨h0, hn⟩]
          · rw [if_neg hn, if_neg (fun h => hn h.2)]
    · rw [if_neg hs]
      cases hk : takeK k r with
      | none => rw [frontT_none (by rw [if_neg hs]; exact hk)]
      | some p =>
        obtain ⟨n, q⟩ := p
        have hf := frontT_some (n := n) (q := q) (by rw [if_neg hs]; exact hk) (by omega)
        rw [decide_eq_false hs] at hf
        rw [hf]
/-- A count, and a text: of a number. -/
theorem takeT_of4 (most : Int) (R : List Int) : takeT 4 most R = match takeT 0 0 R with
    | none => none
    | some (g, q) => if most < 0 ∨ most < (g.n : Int) then none else some ({ n := g.n }, q) := by
  cases R with
  | nil => rfl
  | cons k r =>
    have e : takeT 4 most (k :: r) = match takeK k r with | none => none | some (n, q) => if most < 0 ∨ most < (n : Int) then none else some (({ n := n } : GotV), q) := rfl
    have e0 : takeT 0 0 (k :: r) = match takeK k r with | none => none | some (n, q) => some (({ n := n } : GotV), q) := rfl
    rw [e, e0]
    cases takeK k r with
    | none => rfl
    | some p => rfl
theorem takeT_of2 (most : Int) (R : List Int) : takeT 2 most R = match takeT 4 most R with
    | none => none
    | some (g, q) => if q.length < g.n then none else some ({ s := strOfNums (q.take g.n) }, q.drop g.n) := by
  cases R with
  | nil => rfl
  | cons k r =>
    have e : takeT 4 most (k :: r) = match takeK k r with | none => none | some (n, q) => if most < 0 ∨ most < (n : Int) then none else some (({ n := n } : GotV), q) := rfl
    have e2 : takeT 2 most (k :: r) = match takeK k r with | none => none | some (n, q) => if most < 0 ∨ most < (n : Int) then none else if q.length < n then none else some (({ s := strOfNums (q.take n) } : GotV), q.drop n) := rfl
    rw [e, e2]
    cases takeK k r with
    | none => rfl
    | some p =>
      obtain ⟨n, q⟩ := p
      simp only []
      by_cases hm : most < 0 ∨ most < (n : Int)
      · simp only [if_pos hm]
      · simp only [if_neg hm]

/-- A text's front, its letters by number. -/
theorem wstr_size (l : List Int) : (strOfNums l).size = l.length := by rw [← nums_length]; unfold nums strOfNums; simp
theorem wstr_some {l : List Int} (h : l ≠ []) : (strOfNums l).toList.isEmpty = false ∧ ¬ (strOfNums l).toList = [] := by
  have e : (strOfNums l).toList = (strOfNums l).data.toList := ByteArray.toList_eq _
  have hl : (strOfNums l).data.toList.length = l.length := by have := wstr_size l; simpa using this
  have hp : 0 < l.length := List.length_pos_iff.mpr h
  rw [e]
  cases hd : (strOfNums l).data.toList with
  | nil => rw [hd] at hl; simp at hl; omega
  | cons a l => simp
theorem wstr_at {l : List Int} (hb : ∀ z ∈ l, 0 ≤ z ∧ z ≤ 255) (i : Nat) (h : i < (strOfNums l).size) : ((strOfNums l)[i].toNat : Int) = l.getD i 0 := by
  rw [← nums_at _ i h, nums_strOfNums l hb]
theorem wstr_take (l : List Int) (hb : ∀ z ∈ l, 0 ≤ z ∧ z ≤ 255) (n : Nat) : (strOfNums l).extract 0 n = strOfNums (l.take n) := by
  have h1 : nums ((strOfNums l).extract 0 n) = (nums (strOfNums l)).take n := by simp [nums, List.map_take]
  rw [nums_strOfNums l hb] at h1
  rw [← h1, strOfNums_nums]
theorem wstr_drop (l : List Int) (hb : ∀ z ∈ l, 0 ≤ z ∧ z ≤ 255) (n : Nat) : (strOfNums l).extract n (strOfNums l).size = strOfNums (l.drop n) := by
  have h1 : nums ((strOfNums l).extract n (strOfNums l).size) = (nums (strOfNums l)).drop n := by
    simp only [nums, ByteArray.data_extract, Array.toList_extract, List.extract_eq_take_drop, List.map_take, List.map_drop]
    exact List.take_of_length_le (by simp)
  rw [nums_strOfNums l hb] at h1
  rw [← h1, strOfNums_nums]

end Go.Proofs.YtejelednnacnaaaGreatDoor
