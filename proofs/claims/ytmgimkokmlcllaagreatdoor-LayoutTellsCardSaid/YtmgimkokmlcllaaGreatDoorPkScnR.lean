/-
  What is printed is read: a printed token, with a gap or the end behind it, is one piece, of that token: plain.
-/
import Derived.Test.YtmgimkokmlcllaaGreatDoorPkScnp
import Derived.Test.YtmgimkokmlcllaaGreatDoorPkScnM
import Derived.Test.YtmgimkokmlcllaaGreatDoorPkPlain
namespace Go.Proofs.YtmgimkokmlcllaaGreatDoor

/-- A token's text, by its kind. -/
def txT (k : Int) (s : ByteArray) : List Int := if k = 1 ∨ k = 2 then nums s else []
/-- What doesn't stand in a word. -/
def EndG (R : List Int) : Prop := ∀ r t, R = r :: t → withinB r = false
/-- Runes that are one piece, of this token. -/
structure ReadsAs (pr : List Int) (t : TkV) : Prop where
  some : 0 < pr.length
  gap : gapB (pr.getD 0 0) = false
  note : pr.getD 0 0 ≠ 35
  tok : tokP pr = (t, 0)
  piece : ∀ R, EndG R → pieceN (pr ++ R) = pr.length

theorem takeWhile_whole {p : Int → Bool} : ∀ (a R : List Int), (∀ z ∈ a, p z = true) → (∀ r t, R = r :: t → p r = false) → (a ++ R).takeWhile p = a
  | [], [], _, _ => rfl
  | [], r :: t, _, h => by rw [List.nil_append, List.takeWhile_cons_of_neg (by rw [h r t rfl]; decide)]
  | z :: a, R, ha, h => by
    rw [List.cons_append, List.takeWhile_cons_of_pos (ha z (List.mem_cons_self ..)), takeWhile_whole a R (fun x hx => ha x (List.mem_cons_of_mem _ hx)) h]
theorem getD_app {a : List Int} (R : List Int) (h : 0 < a.length) : (a ++ R).getD 0 0 = a.getD 0 0 := by
  cases a with
  | nil => cases h
  | cons z a => rfl
/-- A word. -/
theorem ReadsAs.word {pr : List Int} {t : TkV} (h0 : 0 < pr.length) (hw : ∀ z ∈ pr, withinB z = true) (hv : valF pr = (t, 0)) : ReadsAs pr t := by
  have hf : withinB (pr.getD 0 0) = true := by
    rw [List.getD_eq_getElem?_getD, List.getElem?_eq_getElem h0]
    exact hw _ (List.getElem_mem h0)
  have no : ∀ c : Int, withinB c = false → pr.getD 0 0 ≠ c := fun c hc e => by rw [e, hc] at hf; cases hf
  have n35 := no 35 (by decide)
  have n34 := no 34 (by decide)
  refine ⟨h0, ?_, n35, ?_, fun R hR => ?_⟩
  · have n1 := no 32 (by decide)
    have n2 := no 9 (by decide)
    have n3 := no 10 (by decide)
    generalize pr.getD 0 0 = v at n1 n2 n3
    unfold gapB
    simp [n1, n2, n3]
  · unfold tokP
    rw [if_neg (no 123 (by decide)), if_neg (no 125 (by decide)), if_neg (no 59 (by decide)), if_neg n34, hv]
  · unfold pieceN
    rw [getD_app R h0, if_neg n35, if_neg n34, if_pos hf]
    unfold wordEnd
    rw [List.drop_zero, takeWhile_whole pr R hw hR, Nat.zero_add]
theorem text_ascii {l : List Int} (h : ∀ z ∈ l, 0 ≤ z ∧ z < 128) : textR l = l := by
  induction l with
  | nil => rfl
  | cons z l ih =>
    have h1 := h z (List.mem_cons_self ..)
    have e : byteR z = [z] := by unfold byteR encL; rw [if_neg (by omega), if_pos h1.2]
    show byteR z ++ textR l = _
    rw [e, ih (fun x hx => h x (List.mem_cons_of_mem _ hx))]; rfl
theorem ReadsAs.num {pr : List Int} {k n : Nat} (h0 : 0 < pr.length) (hl : ∀ z ∈ pr, (48 ≤ z ∧ z ≤ 57) ∨ unitOf z ≠ 0 ∨ z = 46 ∨ z = 37) (hv : valF pr = numT k (n, 0)) : ReadsAs pr ⟨k, [], n⟩ :=
  ReadsAs.word h0 (fun z hz => (within_ascii (hl z hz)).1) (by rw [hv]; exact numT_fine rfl)
theorem text_letters {pr : List Int} (hl : ∀ z ∈ pr, (48 ≤ z ∧ z ≤ 57) ∨ unitOf z ≠ 0 ∨ z = 46 ∨ z = 37) : textR pr = pr := text_ascii (fun z hz => (within_ascii (hl z hz)).2)
theorem digit_front {pr : List Int} (h0 : 0 < pr.length) (h : 48 ≤ pr.getD 0 0 ∧ pr.getD 0 0 ≤ 57) : ¬ (pr = [] ∨ digitB (pr.getD 0 0) = false) := by
  rintro (rfl | h2)
  · cases h0
  · generalize pr.getD 0 0 = v at h h2
    unfold digitB at h2
    simp [h] at h2
theorem not_allD {zs : List Int} {z : Int} (h : z ∈ zs) (hz : ¬ (48 ≤ z ∧ z ≤ 57)) : ¬ AllD zs := fun g => hz (allD_digits g z h)
theorem tailD_bd {r : Nat} (h : r < 100) : (∀ z ∈ tailD r, 48 ≤ z ∧ z ≤ 57) ∧ (tailD r).length ≤ 2 := by
  unfold tailD
  split
  · exact ⟨fun z hz => (by cases hz), by simp⟩
  · split
    · refine ⟨fun z hz => ?_, by simp⟩
      have := List.mem_singleton.mp hz; omega
    · refine ⟨fun z hz => ?_, by simp⟩
      simp only [List.mem_cons, List.not_mem_nil, or_false] at hz
      omega
theorem head_tail {a b : List Int} (h : ∀ z ∈ a, z ≠ 46) : headP (a ++ 46 :: b) = a ∧ tailP (a ++ 46 :: b) = b := by
  unfold headP tailP
  induction a with
  | nil => simp
  | cons z a ih =>
    have hz := h z (List.mem_cons_self ..)
    obtain ⟨i1, i2⟩ := ih (fun x hx => h x (List.mem_cons_of_mem _ hx))
    rw [List.cons_append, List.takeWhile_cons_of_pos (by simpa using hz), List.dropWhile_cons_of_pos (by simpa using hz), i1]
    exact ⟨rfl, i2⟩
theorem facP_form (n : Nat) : facP n = dec (n / 1000) ++ 46 :: ([48 + ((n % 1000 / 100 : Nat) : Int)] ++ tailD (n % 100)) := by
  unfold facP; simp
theorem pct_letters (n : Nat) : ∀ z ∈ pct n, (48 ≤ z ∧ z ≤ 57) ∨ unitOf z ≠ 0 ∨ z = 46 ∨ z = 37 := fun z hz => by
  unfold pct tailOf at hz
  rcases List.mem_append.mp hz with hz | hz
  · exact Or.inl (dec_byte _ z hz)
  · rcases List.mem_append.mp hz with hz | hz
    · split at hz
      · cases hz
      · rcases List.mem_cons.mp hz with rfl | hz
        · exact Or.inr (Or.inr (Or.inl rfl))
        · exact Or.inl (fr_byte 4 _ (by omega) z hz)
    · exact Or.inr (Or.inr (Or.inr (List.mem_singleton.mp hz)))
theorem span_print {n : Nat} (h : n ≤ 253402300799) : spanF (spn n) = (n, 0) := by
  have hx : ∃ N, Tells (spn n) N := ⟨n, spn_tells n⟩
  unfold spanF
  rw [dif_pos hx, Tells.unique hx.choose_spec (spn_tells n), if_pos h]
theorem reads_span {n : Nat} (h : n ≤ 253402300799) : ReadsAs (spn n) ⟨6, [], n⟩ := by
  obtain ⟨hne, l, hr⟩ := spn_tells n
  have hl0 := runs_letters _ _ _ hr
  have hl : ∀ z ∈ spn n, (48 ≤ z ∧ z ≤ 57) ∨ unitOf z ≠ 0 ∨ z = 46 ∨ z = 37 := fun z hz => by
    rcases hl0 z hz with h | h
    · exact Or.inl h
    · exact Or.inr (Or.inl h)
  have h0 : 0 < (spn n).length := List.length_pos_iff.mpr hne
  obtain ⟨hla, hl1, _⟩ := Tells.last hne hr
  refine ReadsAs.num h0 hl ?_
  have hfront : 48 ≤ (spn n).getD 0 0 ∧ (spn n).getD 0 0 ≤ 57 := by
    refine Classical.byContradiction fun hn => ?_
    have hd := runs_dead (s := St0) (zs := spn n) (k := 0) h0 (t := St0) (by rfl) (by exact stp_bare hn)
    rw [hd] at hr; cases hr
  have hlast : unitOf ((spn n).getD ((spn n).length - 1) 0) ≠ 0 := by rw [← hla]; exact hl1
  have hmem : (spn n).getD ((spn n).length - 1) 0 ∈ spn n := getD_mem (by omega)
  have h46 : ¬ (46 : Int) ∈ spn n := fun hm => by
    rcases hl0 46 hm with h | h
    · omega
    · exact h rfl
  rw [valF_span (digit_front h0 hfront) (by rw [text_letters hl]; exact not_allD hmem (unitOf_letter hlast)) (by rw [text_letters hl]; exact fun e => hlast (by rw [e]; rfl)) (by rw [text_letters hl]; exact h46), text_letters hl, span_print h]
theorem reads_mark {c : Int} {k : Nat} (h : (c = 123 ∧ k = 7) ∨ (c = 125 ∧ k = 8) ∨ (c = 59 ∧ k = 9)) : ReadsAs [c] ⟨k, [], 0⟩ := by
  rcases h with ⟨rfl, rfl⟩ | ⟨rfl, rfl⟩ | ⟨rfl, rfl⟩
  all_goals
    refine ⟨by decide, by decide, by decide, rfl, fun R _ => ?_⟩
    unfold pieceN
    rw [getD_app R (by decide)]
    rfl
theorem name_within {l : List Int} (h : NameL l) : ∀ z ∈ l, withinB z = true := fun z hz => by
  obtain ⟨i, hi, rfl⟩ := List.mem_iff_getElem.mp hz
  have := h.2.2.2 i hi
  unfold nameOk at this
  rw [List.getD_eq_getElem?_getD, List.getElem?_eq_getElem hi] at this
  simp only [Option.getD_some] at this
  unfold withinB
  revert this
  cases letterB l[i] <;> cases digitB l[i] <;> simp
  intro _ h2
  rcases h2 with h2 | h2 <;> simp [h2]
theorem name_front {l : List Int} (h : NameL l) : digitB (l.getD 0 0) = false := by
  have h3 := h.2.2.1
  cases hx : digitB (l.getD 0 0) with
  | false => rfl
  | true =>
    unfold letterB at h3
    unfold digitB at hx
    simp only [Bool.and_eq_true, Bool.or_eq_true, decide_eq_true_eq] at h3 hx
    omega
theorem reads_name {zs : List Int} (hb : ∀ z ∈ zs, 0 ≤ z ∧ z ≤ 255) (h : NameL (runesOf zs)) : ReadsAs (runesOf zs) ⟨1, zs, 0⟩ := by
  have hw := name_within h
  refine ReadsAs.word h.1 hw ?_
  rw [valF_name (Or.inr (name_front h)) h, text_runes hb (fun r hr => within_low (hw r hr))]
theorem hexL_in (n : Nat) : ∀ z ∈ hexL n, (48 ≤ z ∧ z ≤ 57) ∨ (97 ≤ z ∧ z ≤ 102) := by
  have one : ∀ m, m < 16 → (48 ≤ hexD m ∧ hexD m ≤ 57) ∨ (97 ≤ hexD m ∧ hexD m ≤ 102) := fun m hm => by unfold hexD; split <;> omega
  induction n using Nat.strongRecOn with
  | _ n ih =>
    intro z hz
    by_cases h : n < 16
    · rw [hexL_small h] at hz
      obtain rfl : z = hexD n := by simpa using hz
      exact one _ h
    · rw [hexL_big h] at hz
      rcases List.mem_append.mp hz with hz | hz
      · exact ih (n / 16) (by omega) z hz
      · obtain rfl : z = hexD (n % 16) := by simpa using hz
        exact one _ (by omega)
end Go.Proofs.YtmgimkokmlcllaaGreatDoor
