/-
  A source's tokens, or its first fault, as the document says them: plain.
-/
import Derived.Test.YtmgimkokmlcllaaGreatDoorPkScne
import Derived.Test.YtmgimkokmlcllaaGreatDoorPkPlain
namespace Go.Proofs.YtmgimkokmlcllaaGreatDoor

theorem runes_ok {zs : List Int} (hb : ∀ z ∈ zs, 0 ≤ z ∧ z ≤ 255) : RunesOk (runesOf zs) := by
  have key : ∀ n i, zs.length - i ≤ n → RunesOk (rfrom zs i) := by
    intro n
    induction n with
    | zero => intro i hi r hr; rw [rfrom_out (by omega)] at hr; cases hr
    | succ n ih =>
      intro i hi r hr
      by_cases h : i < zs.length
      · rw [rfrom_in h, List.mem_cons] at hr
        rcases hr with rfl | hr
        · have h0 : 0 ≤ zs.getD i 0 := by
            rw [List.getD_eq_getElem?_getD, List.getElem?_eq_getElem h]
            exact (hb _ (List.getElem_mem h)).1
          have h1 := runeA_le zs i h0
          by_cases h2 : 0 ≤ runeA zs i
          · exact Or.inr (enc_back h hb h2).1
          · exact Or.inl (by omega)
        · have h1 := widA_pos zs i
          exact ih (i + widA zs i) (by omega) r hr
      · rw [rfrom_out h] at hr; cases hr
  exact key zs.length 0 (by omega)
def lineEnd (l : List Int) (i : Nat) : Nat := i + ((l.drop i).takeWhile (fun z => decide (z ≠ 10))).length
theorem lineEnd_bd {l : List Int} {i : Nat} (h : i ≤ l.length) : i ≤ lineEnd l i ∧ lineEnd l i ≤ l.length := by
  unfold lineEnd
  have := (List.takeWhile_prefix (l := l.drop i) (fun z => decide (z ≠ 10))).length_le
  rw [List.length_drop] at this
  omega
theorem lineEnd_in {l : List Int} {i j : Nat} (hij : i ≤ j) (hj : j < lineEnd l i) : l.getD j 0 ≠ 10 := by
  unfold lineEnd at hj
  have hp := List.takeWhile_prefix (l := l.drop i) (fun z => decide (z ≠ 10))
  have hk2 : j - i < ((l.drop i).takeWhile (fun z => decide (z ≠ 10))).length := by omega
  have e := hp.getElem hk2
  have hm : ((l.drop i).takeWhile (fun z => decide (z ≠ 10)))[j - i] ∈ (l.drop i).takeWhile (fun z => decide (z ≠ 10)) := List.getElem_mem hk2
  have hall := List.all_takeWhile (l := l.drop i) (p := fun z => decide (z ≠ 10))
  have hw := List.all_eq_true.mp hall _ hm
  rw [e] at hw
  have hlen := hp.length_le
  have hkl : j - i < (l.drop i).length := by omega
  rw [List.length_drop] at hkl
  rw [List.getElem_drop] at hw
  rw [List.getD_eq_getElem?_getD, List.getElem?_eq_getElem (by omega)]
  have h2 : l[i + (j - i)]'(by omega) ≠ 10 := of_decide_eq_true hw
  have e2 : i + (j - i) = j := by omega
  intro h3
  apply h2
  simp only [e2]
  exact h3
theorem lineEnd_out {l : List Int} {i : Nat} (h : lineEnd l i < l.length) : l.getD (lineEnd l i) 0 = 10 := by
  unfold lineEnd at h ⊢
  have := takeWhile_stop (p := fun z => decide (z ≠ 10)) (l.drop i) (by rw [List.length_drop]; omega)
  rw [List.getD_eq_getElem?_getD, List.getElem?_drop] at this
  rw [List.getD_eq_getElem?_getD]
  have h2 := of_decide_eq_false this
  exact Decidable.not_not.mp h2
theorem lineEnd_one {l : List Int} {i : Nat} (h : i < l.length) (e : l.getD i 0 ≠ 10) : i < lineEnd l i := by
  unfold lineEnd
  rw [sdrop_cons h, List.takeWhile_cons_of_pos (by simpa using e), List.length_cons]
  omega
def gapB (z : Int) : Bool := z == 32 || z == 9 || z == 10
noncomputable def tokF (l : List Int) (i : Nat) : Except (Nat × Int) (List (TkV × Nat)) :=
  if h : i < l.length then
    (if gapB (l.getD i 0) then tokF l (i + 1)
     else if _h2 : l.getD i 0 = 35 then tokF l (lineEnd l i)
     else if (oneF l i).2.2 = 0 then (if _hn : i < (oneF l i).2.1 then (tokF l (oneF l i).2.1).map (fun L => ((oneF l i).1, i) :: L) else .ok [])
     else .error (i, (oneF l i).2.2))
  else .ok []
termination_by l.length - i
decreasing_by
  · omega
  · have := lineEnd_one h (by omega); omega
  · omega
theorem tokF_end {l : List Int} {i : Nat} (h : l.length ≤ i) : tokF l i = .ok [] := by rw [tokF, dif_neg (by omega)]
theorem tokF_gap {l : List Int} {i : Nat} (h : i < l.length) (e : gapB (l.getD i 0) = true) : tokF l i = tokF l (i + 1) := by rw [tokF, dif_pos h, if_pos e]
theorem tokF_note {l : List Int} {i : Nat} (h : i < l.length) (e : l.getD i 0 = 35) : tokF l i = tokF l (lineEnd l i) := by
  rw [tokF, dif_pos h, if_neg (by rw [e]; decide), dif_pos e]
theorem tokF_bad {l : List Int} {i : Nat} (h : i < l.length) (e1 : gapB (l.getD i 0) = false) (e2 : l.getD i 0 ≠ 35) (e3 : (oneF l i).2.2 ≠ 0) : tokF l i = .error (i, (oneF l i).2.2) := by
  rw [tokF, dif_pos h, if_neg (by rw [e1]; decide), dif_neg e2, if_neg e3]
theorem tokF_one {l : List Int} {i : Nat} (h : i < l.length) (e1 : gapB (l.getD i 0) = false) (e2 : l.getD i 0 ≠ 35) (e3 : (oneF l i).2.2 = 0) (hn : i < (oneF l i).2.1) : tokF l i = (tokF l (oneF l i).2.1).map (fun L => ((oneF l i).1, i) :: L) := by
  rw [tokF, dif_pos h, if_neg (by rw [e1]; decide), dif_neg e2, if_pos e3, dif_pos hn]
theorem oneF_next {l : List Int} {i : Nat} (h : i < l.length) (e : (oneF l i).2.2 = 0) : i < (oneF l i).2.1 ∧ (oneF l i).2.1 ≤ l.length := by
  unfold oneF at e ⊢
  split
  · exact ⟨Nat.lt_succ_self _, h⟩
  · rename_i n1
    rw [if_neg n1] at e
    split
    · exact ⟨Nat.lt_succ_self _, h⟩
    · rename_i n2
      rw [if_neg n2] at e
      split
      · exact ⟨Nat.lt_succ_self _, h⟩
      · rename_i n3
        rw [if_neg n3] at e
        split
        · rename_i n4
          rw [if_pos n4] at e
          split
          · rename_i n5
            rw [if_pos n5] at e
            cases e
          · rename_i n5
            have := qF_bd _ (l.drop (i + 1)) (i + 1) (Nat.le_refl _)
            rw [List.length_drop] at this
            show i < qF (l.drop (i + 1)) (i + 1) ∧ qF (l.drop (i + 1)) (i + 1) ≤ l.length
            omega
        · rename_i n4
          rw [if_neg n4] at e
          split
          · rename_i n5
            rw [if_pos n5] at e
            cases e
          · rename_i n5
            have hw : withinB (l.getD i 0) = true := by
              cases hx : withinB (l.getD i 0) with
              | true => rfl
              | false => exact (n5 hx).elim
            exact ⟨wordEnd_one h hw, (wordEnd_bd (Nat.le_of_lt h)).2⟩

end Go.Proofs.YtmgimkokmlcllaaGreatDoor

/-
  A source's words as the program takes them, piece by piece: plain.
-/
namespace Go.Proofs.YtmgimkokmlcllaaGreatDoor

theorem rune_high {zs : List Int} {i : Nat} (h : ¬ zs.getD i 0 < 128) : runeA zs i = -1 ∨ 128 ≤ runeA zs i := by
  cases hw : wholeB zs i with
  | false => exact Or.inl (runeA_bad h hw).1
  | true =>
    refine Or.inr ?_
    rw [(runeA_good h hw).1]
    unfold wholeB at hw
    simp only [Bool.and_eq_true, decide_eq_true_eq] at hw
    have h3 := hw.1.1.2
    have h4 := hw.1.1.1.1
    have h5 : 128 ≤ clsL (zs.getD i 0) := by
      unfold clsN at h4
      unfold clsL
      split at h4
      · rename_i h6; rw [if_pos h6]; omega
      · rename_i h6
        rw [if_neg h6]
        split at h4
        · rename_i h7; rw [if_pos h7]; omega
        · rename_i h7
          rw [if_neg h7]
          split at h4
          · rename_i h8; rw [if_pos h8]; omega
          · cases h4
    omega
theorem first_is {zs : List Int} (h : zs ≠ []) (hb : ∀ z ∈ zs, 0 ≤ z ∧ z ≤ 255) : 0 < (runesOf zs).length ∧ ((0 ≤ zs.getD 0 0 ∧ zs.getD 0 0 < 128 ∧ (runesOf zs).getD 0 0 = zs.getD 0 0) ∨ (128 ≤ zs.getD 0 0 ∧ ((runesOf zs).getD 0 0 = -1 ∨ 128 ≤ (runesOf zs).getD 0 0))) := by
  have h0 : 0 < zs.length := List.length_pos_iff.mpr h
  have e : runesOf zs = runeA zs 0 :: rfrom zs (0 + widA zs 0) := rfrom_in h0
  have hz := hb (zs.getD 0 0) (by rw [List.getD_eq_getElem?_getD, List.getElem?_eq_getElem h0]; exact List.getElem_mem h0)
  have e2 : (runesOf zs).getD 0 0 = runeA zs 0 := by rw [e]; rfl
  refine ⟨by rw [e]; simp, ?_⟩
  rw [e2]
  by_cases hl : zs.getD 0 0 < 128
  · exact Or.inl ⟨hz.1, hl, (runeA_low hl).1⟩
  · exact Or.inr ⟨by omega, rune_high hl⟩
def qEnd : Bool → List Int → Nat
  | _, [] => 0
  | tk, r :: t => if r = 10 then 0 else if tk = true then qEnd false t + 1 else if r = 92 then qEnd true t + 1 else if r = 34 then 1 else qEnd false t + 1
theorem qEnd_le : ∀ (tk : Bool) (m : List Int), qEnd tk m ≤ m.length
  | _, [] => Nat.le_refl _
  | tk, r :: t => by
    have h1 := qEnd_le false t
    have h2 := qEnd_le true t
    simp only [qEnd, List.length_cons]
    split
    · omega
    split
    · omega
    split
    · omega
    split <;> omega
def Calm (u : Qs) : Prop := (∀ xs, u ≠ .done xs) ∧ ∀ xs, u ≠ .esc xs
theorem calm_dead : Calm .dead := ⟨fun _ e => (by cases e), fun _ e => (by cases e)⟩
theorem calm_norm (xs : List Int) : Calm (.norm xs) := ⟨fun _ e => (by cases e), fun _ e => (by cases e)⟩
theorem calm_uni (xs : List Int) : Calm (.uni xs) := ⟨fun _ e => (by cases e), fun _ e => (by cases e)⟩
theorem calm_hex (xs : List Int) (k : Nat) (x : Int) : Calm (.hex xs k x) := ⟨fun _ e => (by cases e), fun _ e => (by cases e)⟩
theorem calm_step {u : Qs} (h : Calm u) {r : Int} (h1 : r ≠ 34) (h2 : r ≠ 92) : Calm (ustep u r) := by
  cases u with
  | start => show Calm (if r = 34 then .norm [] else .dead); rw [if_neg h1]; exact calm_dead
  | norm xs =>
    show Calm (if r = 34 then Qs.done xs else if r < 32 ∨ r = 127 then .dead else if r = 92 then .esc xs else .norm (xs ++ [r]))
    rw [if_neg h1]
    split
    · exact calm_dead
    · first | exact calm_norm _ | (rw [if_neg h2]; exact calm_norm _)
  | esc xs => exact (h.2 xs rfl).elim
  | uni xs =>
    show Calm (if r = 123 then Qs.hex xs 0 0 else .dead)
    split
    · exact calm_hex _ _ _
    · exact calm_dead
  | hex xs k x =>
    show Calm (if 0 ≤ hexV r ∧ k < 6 then Qs.hex xs (k + 1) (16 * x + hexV r) else if r = 125 ∧ k ≠ 0 ∧ x ≤ 1114111 ∧ ¬ (55296 ≤ x ∧ x < 57344) then .norm (xs ++ [x]) else .dead)
    split
    · exact calm_hex _ _ _
    · split
      · exact calm_norm _
      · exact calm_dead
  | done xs => exact (h.1 xs rfl).elim
  | dead => exact calm_dead
theorem calm_back {u : Qs} (h : Calm u) : ustep u 92 = .dead ∨ ∃ xs, ustep u 92 = .esc xs := by
  cases u with
  | start => exact Or.inl rfl
  | norm xs => exact Or.inr ⟨xs, rfl⟩
  | esc xs => exact (h.2 xs rfl).elim
  | uni xs => exact Or.inl rfl
  | hex xs k x =>
    refine Or.inl ?_
    show (if 0 ≤ hexV 92 ∧ k < 6 then Qs.hex xs (k + 1) (16 * x + hexV 92) else if (92 : Int) = 125 ∧ k ≠ 0 ∧ x ≤ 1114111 ∧ ¬ (55296 ≤ x ∧ x < 57344) then .norm (xs ++ [x]) else .dead) = .dead
    rw [if_neg (by have : hexV 92 = -1 := rfl; omega), if_neg (by omega)]
  | done xs => exact (h.1 xs rfl).elim
  | dead => exact Or.inl rfl
theorem calm_esc {u : Qs} (h : u = .dead ∨ ∃ xs, u = .esc xs) (r : Int) : Calm (ustep u r) := by
  rcases h with rfl | ⟨xs, rfl⟩
  · exact calm_dead
  · show Calm (if r = 34 ∨ r = 92 then Qs.norm (xs ++ [r]) else if r = 110 then .norm (xs ++ [10]) else if r = 116 then .norm (xs ++ [9]) else if r = 117 then .uni xs else .dead)
    repeat' split
    all_goals first | exact calm_norm _ | exact calm_uni _ | exact calm_dead
theorem qEnd_is : ∀ (n : Nat) (t : List Int) (k : Nat), t.length ≤ n →
    (qF t k = 0 ∧ ∀ u, Calm u → ∀ xs, (t.take (qEnd false t)).foldl ustep u ≠ .done xs) ∨ (qF t k = k + qEnd false t ∧ 0 < qEnd false t)
  | _, [], k, _ => Or.inl ⟨by rw [qF], fun u hu xs => hu.1 xs⟩
  | 0, _ :: _, _, h => absurd h (by simp)
  | n + 1, r :: t, k, h => by
    have hl : t.length ≤ n := by simpa using h
    rw [qF_cons]
    by_cases h1 : r = 10
    · refine Or.inl ⟨if_pos h1, fun u hu xs => ?_⟩
      have e : qEnd false (r :: t) = 0 := by simp only [qEnd]; rw [if_pos h1]
      rw [e]; exact hu.1 xs
    rw [if_neg h1]
    by_cases h2 : r = 34
    · have e : qEnd false (r :: t) = 1 := by simp only [qEnd]; rw [if_neg h1, if_neg (by decide), if_neg (by omega), if_pos h2]
      rw [if_pos h2, e]; exact Or.inr ⟨rfl, by omega⟩
    rw [if_neg h2]
    by_cases h3 : r = 92
    · subst h3
      have e : qEnd false (92 :: t) = qEnd true t + 1 := by simp only [qEnd]; rw [if_neg (by omega), if_neg (by decide), if_pos trivial]
      rw [if_pos rfl, e]
      cases t with
      | nil =>
        refine Or.inl ⟨rfl, fun u hu xs => ?_⟩
        show ustep u 92 ≠ _
        rcases calm_back hu with e2 | ⟨ys, e2⟩ <;> rw [e2] <;> exact fun e3 => by cases e3
      | cons s v =>
        show ((if s = 10 then 0 else qF v (k + 2)) = 0 ∧ _) ∨ ((if s = 10 then 0 else qF v (k + 2)) = _ ∧ _)
        by_cases h4 : s = 10
        · have e4 : qEnd true (s :: v) = 0 := by simp only [qEnd]; rw [if_pos h4]
          rw [if_pos h4, e4]
          refine Or.inl ⟨rfl, fun u hu xs => ?_⟩
          show ustep u 92 ≠ _
          rcases calm_back hu with e2 | ⟨ys, e2⟩ <;> rw [e2] <;> exact fun e3 => by cases e3
        · have e4 : qEnd true (s :: v) = qEnd false v + 1 := by simp only [qEnd]; rw [if_neg h4, if_pos trivial]
          rw [if_neg h4, e4]
          have hv : v.length ≤ n := by simp at hl; omega
          rcases qEnd_is n v (k + 2) hv with ⟨q1, q2⟩ | ⟨q1, q2⟩
          · refine Or.inl ⟨q1, fun u hu xs => ?_⟩
            have : ((92 :: s :: v).take (qEnd false v + 1 + 1)).foldl ustep u = (v.take (qEnd false v)).foldl ustep (ustep (ustep u 92) s) := rfl
            rw [this]
            exact q2 _ (calm_esc (calm_back hu) s) xs
          · refine Or.inr ⟨by rw [q1]; omega, by omega⟩
    · have e : qEnd false (r :: t) = qEnd false t + 1 := by simp only [qEnd]; rw [if_neg h1, if_neg (by decide), if_neg h3, if_neg h2]
      rw [if_neg h3, e]
      rcases qEnd_is n t (k + 1) hl with ⟨q1, q2⟩ | ⟨q1, q2⟩
      · refine Or.inl ⟨q1, fun u hu xs => ?_⟩
        have : ((r :: t).take (qEnd false t + 1)).foldl ustep u = (t.take (qEnd false t)).foldl ustep (ustep u r) := rfl
        rw [this]
        exact q2 _ (calm_step hu h2 h3) xs
      · exact Or.inr ⟨by rw [q1]; omega, by omega⟩

def pieceN (m : List Int) : Nat :=
  if m.getD 0 0 = 35 then lineEnd m 0 else if m.getD 0 0 = 34 then qEnd true m else if withinB (m.getD 0 0) = true then wordEnd m 0 else 1
theorem pieceN_bd {m : List Int} (h : 0 < m.length) : 1 ≤ pieceN m ∧ pieceN m ≤ m.length := by
  unfold pieceN
  split
  · rename_i e
    exact ⟨lineEnd_one h (by omega), (lineEnd_bd (Nat.zero_le _)).2⟩
  split
  · rename_i e1 e2
    refine ⟨?_, qEnd_le _ _⟩
    cases m with
    | nil => cases h
    | cons r t =>
      have : r = 34 := e2
      simp only [qEnd]
      rw [if_neg (by omega), if_pos trivial]
      omega
  split
  · rename_i e1 e2 e3
    exact ⟨wordEnd_one h e3, (wordEnd_bd (Nat.zero_le _)).2⟩
  · exact ⟨Nat.le_refl _, h⟩
noncomputable def tokP (p : List Int) : TkV × Int :=
  if p.getD 0 0 = 123 then (⟨7, [], 0⟩, 0) else if p.getD 0 0 = 125 then (⟨8, [], 0⟩, 0) else if p.getD 0 0 = 59 then (⟨9, [], 0⟩, 0)
  else if p.getD 0 0 = 34 then (if (unqF p).2 = 0 then (⟨2, (unqF p).1, 0⟩, 0) else (tk0, (unqF p).2)) else valF p
theorem unqF_no {p : List Int} (h : NoQ p) : unqF p = ([], 5) := by
  unfold unqF
  split
  · rename_i xs e; exact (h xs e).elim
  · rfl
theorem lineEnd_drop (l : List Int) (i : Nat) : lineEnd l i = i + lineEnd (l.drop i) 0 := by unfold lineEnd; simp
theorem wordEnd_drop (l : List Int) (i : Nat) : wordEnd l i = i + wordEnd (l.drop i) 0 := by unfold wordEnd; simp
theorem letter_within {r : Int} (h : withinB r = false) : letterB r = false ∧ digitB r = false := by
  unfold withinB at h
  simp only [Bool.or_eq_false_iff] at h
  exact ⟨h.1.1.1.1.1, h.1.1.1.1.2⟩
theorem getD_zero_take {m : List Int} {k : Nat} (h : 1 ≤ k) : (m.take k).getD 0 0 = m.getD 0 0 := getD_take (by omega)
theorem one_piece {l : List Int} {i : Nat} (hi : i < l.length) :
    (oneF l i).2.2 = (tokP ((l.drop i).take (pieceN (l.drop i)))).2 ∧ ((oneF l i).2.2 = 0 → l.getD i 0 ≠ 35 → (oneF l i).1 = (tokP ((l.drop i).take (pieceN (l.drop i)))).1 ∧ (oneF l i).2.1 = i + pieceN (l.drop i)) := by
  obtain ⟨m, hm⟩ : ∃ m, l.drop i = m := ⟨_, rfl⟩
  have hml : 0 < m.length := by rw [← hm, List.length_drop]; omega
  have h0 : m.getD 0 0 = l.getD i 0 := by
    rw [← hm, List.getD_eq_getElem?_getD, List.getElem?_drop, List.getD_eq_getElem?_getD]; rfl
  have hb := pieceN_bd hml
  have hp0 : (m.take (pieceN m)).getD 0 0 = l.getD i 0 := by rw [getD_zero_take hb.1, h0]
  have hend : ∀ E, i ≤ E → (l.take E).drop i = m.take (E - i) := fun E hE => by rw [← hm, List.drop_take]
  rw [hm]
  unfold oneF tokP
  rw [hp0]
  by_cases n1 : l.getD i 0 = 123
  · rw [if_pos n1, if_pos n1]
    refine ⟨rfl, fun _ _ => ⟨rfl, ?_⟩⟩
    unfold pieceN; rw [h0, n1, if_neg (by omega), if_neg (by omega), if_neg (by decide)]
  rw [if_neg n1, if_neg n1]
  by_cases n2 : l.getD i 0 = 125
  · rw [if_pos n2, if_pos n2]
    refine ⟨rfl, fun _ _ => ⟨rfl, ?_⟩⟩
    unfold pieceN; rw [h0, n2, if_neg (by omega), if_neg (by omega), if_neg (by decide)]
  rw [if_neg n2, if_neg n2]
  by_cases n3 : l.getD i 0 = 59
  · rw [if_pos n3, if_pos n3]
    refine ⟨rfl, fun _ _ => ⟨rfl, ?_⟩⟩
    unfold pieceN; rw [h0, n3, if_neg (by omega), if_neg (by omega), if_neg (by decide)]
  rw [if_neg n3, if_neg n3]
  by_cases n4 : l.getD i 0 = 34
  · rw [if_pos n4, if_pos n4]
    have hpn : pieceN m = qEnd true m := by unfold pieceN; rw [h0, if_neg (by omega), if_pos n4]
    obtain ⟨t, rfl⟩ : ∃ t, m = 34 :: t := by
      cases m with
      | nil => cases hml
      | cons r t => have : r = 34 := by rw [← n4, ← h0]; rfl
                    exact ⟨t, by rw [this]⟩
    have ht : l.drop (i + 1) = t := by
      have : l.drop (i + 1) = (l.drop i).drop 1 := by rw [List.drop_drop]
      rw [this, hm]; rfl
    have hq : qEnd true (34 :: t) = qEnd false t + 1 := by simp only [qEnd]; rw [if_neg (by omega), if_pos trivial]
    rw [hpn, hq, ht]
    rcases qEnd_is t.length t (i + 1) (Nat.le_refl _) with ⟨q1, q2⟩ | ⟨q1, q2⟩
    · have hno : NoQ ((34 :: t).take (qEnd false t + 1)) := fun xs e => by
        have e2 : uf ((34 :: t).take (qEnd false t + 1)) = (t.take (qEnd false t)).foldl ustep (.norm []) := rfl
        rw [e2] at e
        exact q2 _ (calm_norm _) xs e
      rw [if_pos q1, unqF_no hno]
      exact ⟨rfl, fun e => by cases e⟩
    · have hne : ¬ qF t (i + 1) = 0 := by omega
      rw [if_neg hne, q1, hend _ (by omega), show i + 1 + qEnd false t - i = qEnd false t + 1 by omega]
      by_cases hz : (unqF ((34 :: t).take (qEnd false t + 1))).2 = 0
      · rw [if_pos hz]
        exact ⟨hz, fun _ _ => ⟨rfl, by show i + 1 + qEnd false t = i + (qEnd false t + 1); omega⟩⟩
      · rw [if_neg hz]
        exact ⟨rfl, fun e => (hz e).elim⟩
  rw [if_neg n4, if_neg n4]
  cases hw : withinB (l.getD i 0) with
  | false =>
    rw [if_pos rfl]
    by_cases n5 : l.getD i 0 = 35
    · have hlw := letter_within hw
      have hv : valF (m.take (pieceN m)) = (tk0, 5) := by
        refine valF_none (Or.inr (by rw [hp0]; exact hlw.2)) (fun hN => ?_)
        have := hN.2.2.1
        rw [hp0, hlw.1] at this
        cases this
      rw [hv]
      exact ⟨rfl, fun e => by cases e⟩
    · have hlw := letter_within hw
      have hv : valF (m.take (pieceN m)) = (tk0, 5) := by
        refine valF_none (Or.inr (by rw [hp0]; exact hlw.2)) (fun hN => ?_)
        have := hN.2.2.1
        rw [hp0, hlw.1] at this
        cases this
      rw [hv]
      exact ⟨rfl, fun e => by cases e⟩
  | true =>
    rw [if_neg (by decide)]
    have hpn : pieceN m = wordEnd m 0 := by
      unfold pieceN
      rw [h0, if_neg (fun e => by rw [e] at hw; revert hw; decide), if_neg n4, if_pos hw]
    have hwe : wordEnd l i = i + wordEnd m 0 := by rw [← hm]; exact wordEnd_drop l i
    rw [hpn, hwe, hend _ (by omega), show i + wordEnd m 0 - i = wordEnd m 0 by omega]
    exact ⟨rfl, fun _ _ => ⟨rfl, rfl⟩⟩
theorem tokF_piece {l : List Int} {i : Nat} (hi : i < l.length) (e1 : gapB (l.getD i 0) = false) (e2 : l.getD i 0 ≠ 35) :
    tokF l i = if (tokP ((l.drop i).take (pieceN (l.drop i)))).2 = 0 then (tokF l (i + pieceN (l.drop i))).map (fun L => ((tokP ((l.drop i).take (pieceN (l.drop i)))).1, i) :: L) else .error (i, (tokP ((l.drop i).take (pieceN (l.drop i)))).2) := by
  obtain ⟨h1, h2⟩ := one_piece hi
  by_cases hz : (oneF l i).2.2 = 0
  · obtain ⟨h3, h4⟩ := h2 hz e2
    rw [if_pos (by rw [← h1]; exact hz), tokF_one hi e1 e2 hz (oneF_next hi hz).1, h3, h4]
  · rw [if_neg (by rw [← h1]; exact hz), tokF_bad hi e1 e2 hz, h1]
theorem tokF_skip {l : List Int} {i : Nat} (hi : i < l.length) (e : gapB (l.getD i 0) = true ∨ l.getD i 0 = 35) : tokF l i = tokF l (i + pieceN (l.drop i)) := by
  have h0 : (l.drop i).getD 0 0 = l.getD i 0 := by
    rw [List.getD_eq_getElem?_getD, List.getElem?_drop, List.getD_eq_getElem?_getD]; rfl
  rcases e with e | e
  · have hp : pieceN (l.drop i) = 1 := by
      have hc : l.getD i 0 = 32 ∨ l.getD i 0 = 9 ∨ l.getD i 0 = 10 := by unfold gapB at e; simpa [or_assoc] using e
      unfold pieceN
      rw [h0, if_neg (by omega), if_neg (by omega)]
      rcases hc with hc | hc | hc <;> rw [hc, if_neg (by decide)]
    rw [hp, tokF_gap hi e]
  · have hp : pieceN (l.drop i) = lineEnd (l.drop i) 0 := by unfold pieceN; rw [h0, if_pos e]
    rw [hp, tokF_note hi e, lineEnd_drop]

end Go.Proofs.YtmgimkokmlcllaaGreatDoor

/-
  A word's value as the program takes it, by the letters: plain.
-/
namespace Go.Proofs.YtmgimkokmlcllaaGreatDoor

noncomputable def valG (zs : List Int) : TkV × Int :=
  open Classical in
  if NameL (runesOf zs) then (⟨1, zs, 0⟩, 0)
  else if zs = [] ∨ digitB (zs.getD 0 0) = false then (tk0, 5)
  else if AllD zs then numT 3 (numF zs)
  else if zs.getD (zs.length - 1) 0 = 37 then numT 5 (shareF zs)
  else if 46 ∈ zs then numT 4 (facF (headP zs) (tailP zs))
  else numT 6 (spanF zs)
theorem valG_name {zs : List Int} (h : NameL (runesOf zs)) : valG zs = (⟨1, zs, 0⟩, 0) := by unfold valG; rw [if_pos h]
theorem valG_none {zs : List Int} (h : ¬ NameL (runesOf zs)) (h1 : zs = [] ∨ digitB (zs.getD 0 0) = false) : valG zs = (tk0, 5) := by unfold valG; rw [if_neg h, if_pos h1]
theorem valG_count {zs : List Int} (h : ¬ NameL (runesOf zs)) (h1 : ¬ (zs = [] ∨ digitB (zs.getD 0 0) = false)) (h2 : AllD zs) : valG zs = numT 3 (numF zs) := by unfold valG; rw [if_neg h, if_neg h1, if_pos h2]
theorem valG_share {zs : List Int} (h : ¬ NameL (runesOf zs)) (h1 : ¬ (zs = [] ∨ digitB (zs.getD 0 0) = false)) (h2 : ¬ AllD zs) (h3 : zs.getD (zs.length - 1) 0 = 37) : valG zs = numT 5 (shareF zs) := by unfold valG; rw [if_neg h, if_neg h1, if_neg h2, if_pos h3]
theorem valG_factor {zs : List Int} (h : ¬ NameL (runesOf zs)) (h1 : ¬ (zs = [] ∨ digitB (zs.getD 0 0) = false)) (h2 : ¬ AllD zs) (h3 : ¬ zs.getD (zs.length - 1) 0 = 37) (h4 : 46 ∈ zs) : valG zs = numT 4 (facF (headP zs) (tailP zs)) := by unfold valG; rw [if_neg h, if_neg h1, if_neg h2, if_neg h3, if_pos h4]
theorem valG_span {zs : List Int} (h : ¬ NameL (runesOf zs)) (h1 : ¬ (zs = [] ∨ digitB (zs.getD 0 0) = false)) (h2 : ¬ AllD zs) (h3 : ¬ zs.getD (zs.length - 1) 0 = 37) (h4 : ¬ 46 ∈ zs) : valG zs = numT 6 (spanF zs) := by unfold valG; rw [if_neg h, if_neg h1, if_neg h2, if_neg h3, if_neg h4]

theorem text_runes {zs : List Int} (hb : ∀ z ∈ zs, 0 ≤ z ∧ z ≤ 255) (hg : ∀ r ∈ runesOf zs, 0 ≤ r) : textR (runesOf zs) = zs := by
  have h := (good_back hb hg).2
  have key : ∀ l : List Int, (∀ r ∈ l, 0 ≤ r) → textR l = l.flatMap encL := by
    intro l
    induction l with
    | nil => intro _; rfl
    | cons r l ih =>
      intro hl
      have h1 : byteR r = encL r := if_neg (by have := hl r (List.mem_cons_self ..); omega)
      show byteR r ++ textR l = encL r ++ l.flatMap encL
      rw [h1, ih (fun x hx => hl x (List.mem_cons_of_mem _ hx))]
  rw [key _ hg, h]
theorem digit_first {zs : List Int} (hb : ∀ z ∈ zs, 0 ≤ z ∧ z ≤ 255) : (zs = [] ∨ digitB (zs.getD 0 0) = false) ↔ (runesOf zs = [] ∨ digitB ((runesOf zs).getD 0 0) = false) := by
  by_cases h : zs = []
  · rw [h, runes_nil]
  · obtain ⟨h1, h2⟩ := first_is h hb
    have h3 : runesOf zs ≠ [] := List.ne_nil_of_length_pos h1
    have hd : digitB (zs.getD 0 0) = digitB ((runesOf zs).getD 0 0) := by
      rcases h2 with ⟨_, _, e⟩ | ⟨g1, g2⟩
      · rw [e]
      · generalize zs.getD 0 0 = u at g1 ⊢
        generalize (runesOf zs).getD 0 0 = v at g2 ⊢
        have e1 : digitB u = false := by unfold digitB; simp; omega
        have e2 : digitB v = false := by unfold digitB; simp; omega
        rw [e1, e2]
    rw [hd]
    simp [h, h3]
theorem valG_valF {zs : List Int} (hb : ∀ z ∈ zs, 0 ≤ z ∧ z ≤ 255) (hg : ∀ r ∈ runesOf zs, 0 ≤ r) : valG zs = valF (runesOf zs) := by
  have ht := text_runes hb hg
  have hd := digit_first hb
  unfold valG valF
  rw [ht]
  by_cases h1 : NameL (runesOf zs)
  · have h2 : runesOf zs = [] ∨ digitB ((runesOf zs).getD 0 0) = false := by
      refine Or.inr ?_
      have h3 := h1.2.2.1
      cases hx : digitB ((runesOf zs).getD 0 0) with
      | false => rfl
      | true =>
        unfold letterB at h3
        unfold digitB at hx
        simp only [Bool.and_eq_true, Bool.or_eq_true, decide_eq_true_eq] at h3 hx
        omega
    rw [if_pos h1, if_pos h2, if_pos h1]
  · rw [if_neg h1]
    by_cases h2 : zs = [] ∨ digitB (zs.getD 0 0) = false
    · rw [if_pos h2, if_pos (hd.mp h2), if_neg h1]
    · rw [if_neg h2, if_neg (fun h => h2 (hd.mpr h))]
theorem within_low {r : Int} (h : withinB r = true) : 0 ≤ r := by
  unfold withinB letterB digitB at h
  simp only [Bool.and_eq_true, Bool.or_eq_true, decide_eq_true_eq] at h
  omega
theorem runes_of_ascii {zs : List Int} (h : ∀ z ∈ zs, 0 ≤ z ∧ z < 128) : runesOf zs = zs := by
  have := runes_ascii zs h []
  rw [runes_nil, List.append_nil] at this
  exact this
theorem digit_within {z : Int} (h : 48 ≤ z ∧ z ≤ 57) : withinB z = true := by unfold withinB digitB; simp [h]
theorem unit_within {z : Int} (h : unitOf z ≠ 0) : withinB z = true := by
  unfold unitOf at h
  have : z = 119 ∨ z = 100 ∨ z = 104 ∨ z = 109 ∨ z = 115 := by
    refine Classical.byContradiction fun hn => h ?_
    rw [if_neg (by omega), if_neg (by omega), if_neg (by omega), if_neg (by omega), if_neg (by omega)]
  rcases this with rfl | rfl | rfl | rfl | rfl <;> decide
theorem dg_digits {zs : List Int} (h : Dg zs) : ∀ z ∈ zs, 48 ≤ z ∧ z ≤ 57 := by
  have := h.back
  rw [← this]
  exact dec_byte _
theorem allD_digits {zs : List Int} (h : AllD zs) : ∀ z ∈ zs, 48 ≤ z ∧ z ≤ 57 := fun z hz => by
  obtain ⟨i, hi, rfl⟩ := List.mem_iff_getElem.mp hz
  have := h.2 i hi
  rw [List.getD_eq_getElem?_getD, List.getElem?_eq_getElem hi] at this
  exact this
theorem runs_letters : ∀ (zs : List Int) (s t : St), runs s zs = some t → ∀ z ∈ zs, (48 ≤ z ∧ z ≤ 57) ∨ unitOf z ≠ 0
  | [], _, _, _, z, hz => by cases hz
  | y :: zs, s, t, h, z, hz => by
    have h2 : (stp s y).bind (fun u => runs u zs) = some t := by
      have := runs_append s [y] zs
      rw [List.singleton_append] at this
      rw [this] at h
      simpa [runs] using h
    obtain ⟨u, hu, hr⟩ := Option.bind_eq_some_iff.mp h2
    rcases List.mem_cons.mp hz with rfl | hz
    · by_cases hd : 48 ≤ z ∧ z ≤ 57
      · exact Or.inl hd
      · refine Or.inr fun h0 => ?_
        obtain ⟨a, l, n⟩ := s
        cases n with
        | none => rw [stp_bare hd] at hu; cases hu
        | some n => rw [stp_none hd (Or.inl h0)] at hu; cases hu
    · exact runs_letters zs u t hr z hz
theorem within_ascii {z : Int} (h : (48 ≤ z ∧ z ≤ 57) ∨ unitOf z ≠ 0 ∨ z = 46 ∨ z = 37) : withinB z = true ∧ 0 ≤ z ∧ z < 128 := by
  rcases h with h | h | h | h
  · exact ⟨digit_within h, by omega, by omega⟩
  · have h2 := unit_within h
    refine ⟨h2, within_low h2, ?_⟩
    refine Classical.byContradiction fun hn => h (unitOf_high (by omega))
  · subst h; exact ⟨by decide, by omega, by omega⟩
  · subst h; exact ⟨by decide, by omega, by omega⟩
theorem share_letters {zs : List Int} (h : (shareF zs).2 ≠ 5) : ∀ z ∈ zs, (48 ≤ z ∧ z ≤ 57) ∨ unitOf z ≠ 0 ∨ z = 46 ∨ z = 37 := by
  unfold shareF at h
  split at h
  · rename_i hx
    obtain ⟨ys, d, e1, e2, e3⟩ := hx.choose_spec
    have hbk := Written.back e2 e3
    rw [← e1] at hbk
    rw [← hbk]
    intro z hz
    unfold pct tailOf at hz
    rcases List.mem_append.mp hz with hz | hz
    · exact Or.inl (dec_byte _ z hz)
    · rcases List.mem_append.mp hz with hz | hz
      · split at hz
        · cases hz
        · rcases List.mem_cons.mp hz with rfl | hz
          · exact Or.inr (Or.inr (Or.inl rfl))
          · exact Or.inl (fr_byte 4 _ (by omega) z hz)
      · exact Or.inr (Or.inr (Or.inr (List.mem_singleton.mp hz)))
  · exact (h rfl).elim
theorem span_letters {zs : List Int} (h : (spanF zs).2 ≠ 5) : ∀ z ∈ zs, (48 ≤ z ∧ z ≤ 57) ∨ unitOf z ≠ 0 ∨ z = 46 ∨ z = 37 := by
  unfold spanF at h
  split at h
  · rename_i hx
    obtain ⟨_, l, hr⟩ := hx.choose_spec
    intro z hz
    rcases runs_letters zs _ _ hr z hz with h | h
    · exact Or.inl h
    · exact Or.inr (Or.inl h)
  · exact (h rfl).elim
theorem fac_letters {zs : List Int} (hp : 46 ∈ zs) (h : (facF (headP zs) (tailP zs)).2 ≠ 5) : ∀ z ∈ zs, (48 ≤ z ∧ z ≤ 57) ∨ unitOf z ≠ 0 ∨ z = 46 ∨ z = 37 := by
  have e := (point_parts hp).1
  unfold facF at h
  split at h
  · rename_i hB
    have hA : Dg (headP zs) := by
      refine Classical.byContradiction fun hn => ?_
      rw [numF_no hn] at h
      rw [if_neg (by decide)] at h
      exact h rfl
    intro z hz
    rw [e] at hz
    rcases List.mem_append.mp hz with hz | hz
    · exact Or.inl (dg_digits hA z hz)
    · rcases List.mem_cons.mp hz with rfl | hz
      · exact Or.inr (Or.inr (Or.inl rfl))
      · exact Or.inl (allD_digits hB.1 z hz)
  · exact (h rfl).elim
theorem numT_code {k : Nat} {p : Nat × Int} (h : (numT k p).2 ≠ 5) : p.2 ≠ 5 := fun e => h (by
  rw [numT_err (by rw [e]; decide)]; exact e)
theorem valG_within {zs : List Int} (_hb : ∀ z ∈ zs, 0 ≤ z ∧ z ≤ 255) (h : (valG zs).2 ≠ 5) : ∀ r ∈ runesOf zs, withinB r = true := by
  have fin : (∀ z ∈ zs, (48 ≤ z ∧ z ≤ 57) ∨ unitOf z ≠ 0 ∨ z = 46 ∨ z = 37) → ∀ r ∈ runesOf zs, withinB r = true := fun hl => by
    rw [runes_of_ascii (fun z hz => (within_ascii (hl z hz)).2)]
    exact fun r hr => (within_ascii (hl r hr)).1
  unfold valG at h
  split at h
  · rename_i hN
    intro r hr
    obtain ⟨i, hi, rfl⟩ := List.mem_iff_getElem.mp hr
    have := hN.2.2.2 i hi
    unfold nameOk at this
    rw [List.getD_eq_getElem?_getD, List.getElem?_eq_getElem hi] at this
    simp only [Option.getD_some] at this
    unfold withinB
    revert this
    cases letterB (runesOf zs)[i] <;> cases digitB (runesOf zs)[i] <;> simp
    intro _ h2
    rcases h2 with h2 | h2 <;> simp [h2]
  split at h
  · exact (h rfl).elim
  split at h
  · rename_i hA
    exact fin fun z hz => Or.inl (allD_digits hA z hz)
  split at h
  · exact fin (share_letters (numT_code h))
  split at h
  · rename_i hp
    exact fin (fac_letters hp (numT_code h))
  · exact fin (span_letters (numT_code h))
theorem valG_else {zs : List Int} (hb : ∀ z ∈ zs, 0 ≤ z ∧ z ≤ 255) {r : Int} (hr : r ∈ runesOf zs) (h : withinB r = false) : valG zs = (tk0, 5) := by
  have h5 : (valG zs).2 = 5 := by
    refine Classical.byContradiction fun hn => ?_
    rw [valG_within hb hn r hr] at h; cases h
  have hk : ∀ k p, (numT k p).2 = 5 → numT k p = (tk0, 5) := fun k p e => by
    by_cases h0 : p.2 = 0
    · rw [numT_fine h0] at e; cases e
    · rw [numT_err h0] at e ⊢
      have : p.2 = 5 := e
      rw [this]
  unfold valG at h5 ⊢
  split
  · rename_i h1
    rw [if_pos h1] at h5; cases h5
  rename_i h1
  rw [if_neg h1] at h5
  split
  · rfl
  rename_i h2
  rw [if_neg h2] at h5
  split
  · rename_i h3; rw [if_pos h3] at h5; exact hk _ _ h5
  rename_i h3
  rw [if_neg h3] at h5
  split
  · rename_i h4; rw [if_pos h4] at h5; exact hk _ _ h5
  rename_i h4
  rw [if_neg h4] at h5
  split
  · rename_i h6; rw [if_pos h6] at h5; exact hk _ _ h5
  rename_i h6
  rw [if_neg h6] at h5
  exact hk _ _ h5

end Go.Proofs.YtmgimkokmlcllaaGreatDoor
