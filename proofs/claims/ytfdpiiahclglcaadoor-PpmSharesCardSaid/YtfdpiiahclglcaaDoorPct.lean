/-
  Shares in parts of a million, as percents: the letters of a print, and which texts are prints: plain arithmetic. No program in sight.
-/
import Derived.Test.YtfdpiiahclglcaaDoorRead
import Derived.Lib.TrimByte
namespace Go.Proofs.YtfdpiiahclglcaaDoor

/-- The digits behind the point, without noughts at the end: of so many parts, k digits at most. -/
def fr : Nat → Nat → List Int
  | 0, _ => []
  | k + 1, l => if l = 0 then [] else (48 + ((l / 1000 : Nat) : Int)) :: fr k (l % 1000 * 10)
/-- What stands behind the whole percents' digits. -/
def tailOf (l : Nat) : List Int := if l = 0 then [] else 46 :: fr 4 l
/-- The letters of a share's print. -/
def pct (p : Nat) : List Int := dec (p / 10000) ++ (tailOf (p % 10000) ++ [37])

theorem fr_zero (k : Nat) : fr k 0 = [] := by cases k <;> simp [fr]
theorem fr_step {k l : Nat} (h : ¬ l = 0) : fr (k + 1) l = (48 + ((l / 1000 : Nat) : Int)) :: fr k (l % 1000 * 10) := by rw [fr, if_neg h]
theorem fr_len (k l : Nat) : (fr k l).length ≤ k := by
  induction k generalizing l with
  | zero => simp [fr]
  | succ k ih =>
    by_cases h : l = 0
    · subst h; simp [fr_zero]
    · rw [fr_step h]; simp; exact ih _
theorem fr_byte (k l : Nat) (hl : l < 10000) : ∀ x ∈ fr k l, 48 ≤ x ∧ x ≤ 57 := by
  induction k generalizing l with
  | zero => simp [fr]
  | succ k ih =>
    by_cases h : l = 0
    · subst h; simp [fr_zero]
    · intro x hx
      rw [fr_step h] at hx
      rcases List.mem_cons.mp hx with rfl | hx
      · omega
      · exact ih _ (by omega) x hx
theorem pct_byte (p : Nat) : ∀ x ∈ pct p, 0 ≤ x ∧ x ≤ 255 := by
  intro x hx
  unfold pct tailOf at hx
  rcases List.mem_append.mp hx with hx | hx
  · have := dec_byte _ x hx; omega
  · rcases List.mem_append.mp hx with hx | hx
    · split at hx
      · simp at hx
      · rcases List.mem_cons.mp hx with rfl | hx
        · omega
        · have := fr_byte 4 _ (by omega) x hx; omega
    · simp at hx; omega

/-- The digits of a number of parts, with a one ahead. -/
theorem dec_five (l : Nat) (h : l < 10000) : dec (10000 + l) = [49, 48 + ((l / 1000 : Nat) : Int), 48 + ((l / 100 % 10 : Nat) : Int), 48 + ((l / 10 % 10 : Nat) : Int), 48 + ((l % 10 : Nat) : Int)] := by
  rw [dec_big (by omega), dec_big (by omega), dec_big (by omega), dec_big (by omega), dec_small (by omega)]
  simp only [List.cons_append, List.nil_append]
  congr 1
  · omega
  · congr 1
    · omega
    · congr 1
      · omega
      · congr 1
        · omega
        · congr 1; omega
/-- Four digits without the noughts at their end. -/
theorem fr_four (l : Nat) (_h : l < 10000) :
    fr 4 l = if ¬ l % 10 = 0 then [48 + ((l / 1000 : Nat) : Int), 48 + ((l / 100 % 10 : Nat) : Int), 48 + ((l / 10 % 10 : Nat) : Int), 48 + ((l % 10 : Nat) : Int)]
      else if ¬ l % 100 = 0 then [48 + ((l / 1000 : Nat) : Int), 48 + ((l / 100 % 10 : Nat) : Int), 48 + ((l / 10 % 10 : Nat) : Int)]
      else if ¬ l % 1000 = 0 then [48 + ((l / 1000 : Nat) : Int), 48 + ((l / 100 % 10 : Nat) : Int)]
      else if ¬ l = 0 then [48 + ((l / 1000 : Nat) : Int)] else [] := by
  have e1 : l % 1000 * 10 / 1000 = l / 100 % 10 := by omega
  have e2 : l % 1000 * 10 % 1000 * 10 / 1000 = l / 10 % 10 := by omega
  have e3 : l % 1000 * 10 % 1000 * 10 % 1000 * 10 / 1000 = l % 10 := by omega
  by_cases h1 : l % 10 = 0
  · rw [if_neg (by omega)]
    by_cases h2 : l % 100 = 0
    · rw [if_neg (by omega)]
      by_cases h3 : l % 1000 = 0
      · rw [if_neg (by omega)]
        by_cases h4 : l = 0
        · rw [if_neg (by omega), h4, fr_zero]
        · rw [if_pos h4, fr_step h4, show l % 1000 * 10 = 0 by omega, fr_zero]
      · rw [if_pos h3, fr_step (by omega), fr_step (by omega), e1, show l % 1000 * 10 % 1000 * 10 = 0 by omega, fr_zero]
    · rw [if_pos h2, fr_step (by omega), fr_step (by omega), fr_step (by omega), e1, e2, show l % 1000 * 10 % 1000 * 10 % 1000 * 10 = 0 by omega, fr_zero]
  · rw [if_pos h1, fr_step (by omega), fr_step (by omega), fr_step (by omega), fr_step (by omega), e1, e2, e3]; rfl

/-- A digit behind the point; none is a nought. -/
def dB (B : List Int) (j : Nat) : Nat := (B.getD j 48 - 48).toNat
def pv (B : List Int) : Nat → Nat
  | 0 => 0
  | j + 1 => pv B j + dB B j * 10 ^ (3 - j)
/-- Digits behind the point as Print writes them. -/
structure Fr (B : List Int) : Prop where
  some : 1 ≤ B.length
  few : B.length ≤ 4
  all : ∀ i, i < B.length → 48 ≤ B.getD i 0 ∧ B.getD i 0 ≤ 57
  last : B.getD (B.length - 1) 0 ≠ 48

theorem getD_default {B : List Int} {i : Nat} (h : i < B.length) (a b : Int) : B.getD i a = B.getD i b := by
  rw [List.getD_eq_getElem?_getD, List.getD_eq_getElem?_getD, List.getElem?_eq_getElem h]; rfl
theorem getD_beyond {B : List Int} {i : Nat} (h : ¬ i < B.length) (a : Int) : B.getD i a = a := by
  rw [List.getD_eq_getElem?_getD, List.getElem?_eq_none (by omega)]; rfl
theorem dB_le {B : List Int} (h : ∀ i, i < B.length → 48 ≤ B.getD i 0 ∧ B.getD i 0 ≤ 57) (j : Nat) : dB B j ≤ 9 := by
  unfold dB
  by_cases hj : j < B.length
  · rw [getD_default hj 48 0]; have := h j hj; omega
  · rw [getD_beyond hj]; omega
theorem dB_none {B : List Int} {j : Nat} (h : ¬ j < B.length) : dB B j = 0 := by unfold dB; rw [getD_beyond h]; rfl
theorem pv_four (B : List Int) : pv B 4 = dB B 0 * 1000 + dB B 1 * 100 + dB B 2 * 10 + dB B 3 := by simp [pv]
theorem pv_end {B : List Int} (j : Nat) (h : B.length ≤ j) (h4 : j ≤ 4) : pv B j = pv B 4 := by
  have : ∀ d, j + d ≤ 4 → pv B (j + d) = pv B j := by
    intro d
    induction d with
    | zero => intro _; rfl
    | succ d ih => intro hd; rw [← Nat.add_assoc, pv, dB_none (by omega), ih (by omega)]; omega
  rw [← this (4 - j) (by omega), show j + (4 - j) = 4 by omega]
theorem pv_lt {B : List Int} (h : ∀ i, i < B.length → 48 ≤ B.getD i 0 ∧ B.getD i 0 ≤ 57) : pv B 4 ≤ 9999 := by
  rw [pv_four]
  have h0 := dB_le h 0; have h1 := dB_le h 1; have h2 := dB_le h 2; have h3 := dB_le h 3
  omega
theorem pv_nil (j : Nat) : pv [] j = 0 := by
  induction j with
  | zero => rfl
  | succ j ih => rw [pv, ih, dB_none (by simp)]; omega
/-- What is read behind the point is what is printed there. -/
theorem fr_pv {B : List Int} (h : Fr B) : fr 4 (pv B 4) = B ∧ pv B 4 ≠ 0 := by
  obtain ⟨h1, h2, h3, h4⟩ := h
  rw [pv_four]
  rcases B with _ | ⟨a, _ | ⟨b, _ | ⟨c, _ | ⟨d, _ | ⟨e, B⟩⟩⟩⟩⟩
  · simp at h1
  · have a1 := h3 0 (by simp)
    simp [dB] at a1 h4 ⊢
    rw [fr_four _ (by omega), if_neg (by omega), if_neg (by omega), if_neg (by omega), if_pos (by omega)]
    refine ⟨?_, by omega⟩
    simp; omega
  · have a1 := h3 0 (by simp); have a2 := h3 1 (by simp)
    simp [dB] at a1 a2 h4 ⊢
    rw [fr_four _ (by omega), if_neg (by omega), if_neg (by omega), if_pos (by omega)]
    refine ⟨?_, by omega⟩
    simp; omega
  · have a1 := h3 0 (by simp); have a2 := h3 1 (by simp); have a3 := h3 2 (by simp)
    simp [dB] at a1 a2 a3 h4 ⊢
    rw [fr_four _ (by omega), if_neg (by omega), if_pos (by omega)]
    refine ⟨?_, by omega⟩
    simp; omega
  · have a1 := h3 0 (by simp); have a2 := h3 1 (by simp); have a3 := h3 2 (by simp); have a4 := h3 3 (by simp)
    simp [dB] at a1 a2 a3 a4 h4 ⊢
    rw [fr_four _ (by omega), if_pos (by omega)]
    refine ⟨?_, by omega⟩
    simp; omega
  · simp at h2
theorem fr_fr {l : Nat} (h : l < 10000) (h0 : l ≠ 0) : Fr (fr 4 l) ∧ pv (fr 4 l) 4 = l := by
  rw [fr_four _ h]
  by_cases h1 : l % 10 = 0
  · rw [if_neg (by omega)]
    by_cases h2 : l % 100 = 0
    · rw [if_neg (by omega)]
      by_cases h3 : l % 1000 = 0
      · rw [if_neg (by omega), if_pos h0]
        refine ⟨⟨by simp, by simp, ?_, ?_⟩, ?_⟩
        · intro i hi
          have : i = 0 := by simpa using hi
          subst this; simp; omega
        · simp; omega
        · rw [pv_four]; simp [dB]; omega
      · rw [if_pos h3]
        refine ⟨⟨by simp, by simp, ?_, ?_⟩, ?_⟩
        · intro i hi
          rcases i with _ | _ | i
          · simp; omega
          · simp; omega
          · simp at hi; omega
        · simp; omega
        · rw [pv_four]; simp [dB]; omega
    · rw [if_pos h2]
      refine ⟨⟨by simp, by simp, ?_, ?_⟩, ?_⟩
      · intro i hi
        rcases i with _ | _ | _ | i
        · simp; omega
        · simp; omega
        · simp; omega
        · simp at hi; omega
      · simp; omega
      · rw [pv_four]; simp [dB]; omega
  · rw [if_pos h1]
    refine ⟨⟨by simp, by simp, ?_, ?_⟩, ?_⟩
    · intro i hi
      rcases i with _ | _ | _ | _ | i
      · simp; omega
      · simp; omega
      · simp; omega
      · simp; omega
      · simp at hi; omega
    · simp; omega
    · rw [pv_four]; simp [dB]; omega

/-- A text ahead of its %: what stands ahead of the first point, and what behind it, if there is one. -/
structure Halves (ys A B : List Int) (d : Bool) : Prop where
  all : ys = A ++ (if d then 46 :: B else [])
  none : 46 ∉ A
  nil : d = false → B = []
/-- So written as Print writes, but for its size. -/
structure Written (A B : List Int) (d : Bool) : Prop where
  dg : Dg A
  fr : d = true → Fr B
/-- Its parts. -/
def parts (A B : List Int) : Nat := numOf A * 10000 + pv B 4

theorem Halves.unique {ys A B A' B' : List Int} {d d' : Bool} (h : Halves ys A B d) (h' : Halves ys A' B' d') : A = A' ∧ B = B' ∧ d = d' := by
  obtain ⟨h1, h2, h3⟩ := h
  obtain ⟨h1', h2', h3'⟩ := h'
  have e : A ++ (if d then 46 :: B else []) = A' ++ (if d' then 46 :: B' else []) := h1.symm.trans h1'
  clear h1 h1'
  have key : ∀ A A' : List Int, 46 ∉ A → 46 ∉ A' → A ++ (if d then 46 :: B else []) = A' ++ (if d' then 46 :: B' else []) → A = A' ∧ (if d then 46 :: B else []) = (if d' then 46 :: B' else []) := by
    intro A
    induction A with
    | nil =>
      intro A' _ g' e
      cases A' with
      | nil => exact ⟨rfl, e⟩
      | cons x A' =>
        exfalso
        cases d with
        | false => simp at e
        | true => simp at e; exact g' (by rw [← e.1]; exact List.mem_cons_self)
    | cons a A ih =>
      intro A' g g' e
      cases A' with
      | nil =>
        exfalso
        cases d' with
        | false => simp at e
        | true => simp at e; exact g (by rw [e.1]; exact List.mem_cons_self)
      | cons x A' =>
        simp only [List.cons_append, List.cons.injEq] at e
        obtain ⟨i1, i2⟩ := ih A' (fun h => g (List.mem_cons_of_mem _ h)) (fun h => g' (List.mem_cons_of_mem _ h)) e.2
        exact ⟨by rw [e.1, i1], i2⟩
  obtain ⟨i1, i2⟩ := key A A' h2 h2' e
  refine ⟨i1, ?_⟩
  cases d <;> cases d'
  · exact ⟨(h3 rfl).trans (h3' rfl).symm, rfl⟩
  · simp at i2
  · simp at i2
  · simp at i2; exact ⟨i2, rfl⟩
theorem Written.back {ys A B : List Int} {d : Bool} (h : Halves ys A B d) (g : Written A B d) : pct (parts A B) = ys ++ [37] := by
  obtain ⟨h1, h2, h3⟩ := h
  obtain ⟨g1, g2⟩ := g
  unfold pct parts tailOf
  cases d with
  | false =>
    have hB := h3 rfl
    subst hB
    rw [pv_nil, h1, show (numOf A * 10000 + 0) / 10000 = numOf A by omega, show (numOf A * 10000 + 0) % 10000 = 0 by omega, g1.back]
    simp
  | true =>
    have hf := g2 rfl
    have hl := pv_lt hf.all
    obtain ⟨e1, e2⟩ := fr_pv hf
    rw [h1, show (numOf A * 10000 + pv B 4) / 10000 = numOf A by omega, show (numOf A * 10000 + pv B 4) % 10000 = pv B 4 by omega, g1.back, if_neg e2, e1]
    simp
theorem pct_halves (p : Nat) : ∃ ys A B d, pct p = ys ++ [37] ∧ Halves ys A B d ∧ Written A B d ∧ parts A B = p := by
  have hn : 46 ∉ dec (p / 10000) := fun h => by have := dec_byte _ _ h; omega
  by_cases h : p % 10000 = 0
  · refine ⟨dec (p / 10000), dec (p / 10000), [], false, ?_, ⟨by simp, hn, fun _ => rfl⟩, ⟨dec_dg _, fun e => by cases e⟩, ?_⟩
    · unfold pct tailOf; rw [if_pos h]; simp
    · unfold parts; rw [numOf_dec, pv_nil]; omega
  · obtain ⟨f1, f2⟩ := fr_fr (show p % 10000 < 10000 by omega) h
    refine ⟨dec (p / 10000) ++ 46 :: fr 4 (p % 10000), dec (p / 10000), fr 4 (p % 10000), true, ?_, ⟨by simp, hn, fun e => by cases e⟩, ⟨dec_dg _, fun _ => f1⟩, ?_⟩
    · unfold pct tailOf; rw [if_neg h]; simp
    · unfold parts; rw [numOf_dec, f2]; omega

end Go.Proofs.YtfdpiiahclglcaaDoor
