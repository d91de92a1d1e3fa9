/-
  What is printed is read: a printed token, with a gap or the end behind it, is one piece, of that token: plain.
-/
import Derived.Test.YtmgimkokmlcllaaGreatDoorPkScnp
import Derived.Test.YtmgimkokmlcllaaGreatDoorPkScnM
import Derived.Test.YtmgimkokmlcllaaGreatDoorPkPlain
namespace Go.Proofs.YtmgimkokmlcllaaGreatDoor

def txT (k : Int) (s : ByteArray) : List Int := if k = 1 ∨ k = 2 then nums s else []
def EndG (R : List Int) : Prop := ∀ r t, R = r :: t → withinB r = false
structure ReadsAs (pr : List Int) (t : TkV) : Prop where
  some : 0 < pr.length
  gap : gapB (pr.getD 0 0) = false
  note : pr.getD 0 0 ≠ 35
  tok : tokP pr = (t, 0)
  piece : ∀ R, EndG R → pieceN (pr ++ R) = pr.length

theorem takeWhile_whole {p : Int → Bool} : ∀ (a R : List Int), (∀ z ∈ a, p z = true) → (∀ r t, R = r :: t → p r = false) → (a ++ R).takeWhile p = a
  | [], [], _, _ => rfl
  | [], r :: t, _, h => by rw [List.nil_append, List.takeWhile_cons_of_neg (by rw [h r t rfl]; decide)]
  | z :: a, R, ha, h => by
    rw [List.cons_append, List.takeWhile_cons_of_pos (ha z (List.mem_cons_self ..)), takeWhile_whole a R (fun x hx => ha x (List.mem_cons_of_mem _ hx)) h]
theorem getD_app {a : List Int} (R : List Int) (h : 0 < a.length) : (a ++ R).getD 0 0 = a.getD 0 0 := by
  cases a with
  | nil => cases h
  | cons z a => rfl
theorem ReadsAs.word {pr : List Int} {t : TkV} (h0 : 0 < pr.length) (hw : ∀ z ∈ pr, withinB z = true) (hv : valF pr = (t, 0)) : ReadsAs pr t := by
  have hf : withinB (pr.getD 0 0) = true := by
    rw [List.getD_eq_getElem?_getD, List.getElem?_eq_getElem h0]
    exact hw _ (List.getElem_mem h0)
  have no : ∀ c : Int, withinB c = false → pr.getD 0 0 ≠ c := fun c hc e => by rw [e, hc] at hf; cases hf
  have n35 := no 35 (by decide)
  have n34 := no 34 (by decide)
  refine ⟨h0, ?_, n35, ?_, fun R hR => ?_⟩
  · have n1 := no 32 (by decide)
    have n2 := no 9 (by decide)
    have n3 := no 10 (by decide)
    generalize pr.getD 0 0 = v at n1 n2 n3
    unfold gapB
    simp [n1, n2, n3]
  · unfold tokP
    rw [if_neg (no 123 (by decide)), if_neg (no 125 (by decide)), if_neg (no 59 (by decide)), if_neg n34, hv]
  · unfold pieceN
    rw [getD_app R h0, if_neg n35, if_neg n34, if_pos hf]
    unfold wordEnd
    rw [List.drop_zero, takeWhile_whole pr R hw hR, Nat.zero_add]
theorem text_ascii {l : List Int} (h : ∀ z ∈ l, 0 ≤ z ∧ z < 128) : textR l = l := by
  induction l with
  | nil => rfl
  | cons z l ih =>
    have h1 := h z (List.mem_cons_self ..)
    have e : byteR z = [z] := by unfold byteR encL; rw [if_neg (by omega), if_pos h1.2]
    show byteR z ++ textR l = _
    rw [e, ih (fun x hx => h x (List.mem_cons_of_mem _ hx))]; rfl
theorem ReadsAs.num {pr : List Int} {k n : Nat} (h0 : 0 < pr.length) (hl : ∀ z ∈ pr, (48 ≤ z ∧ z ≤ 57) ∨ unitOf z ≠ 0 ∨ z = 46 ∨ z = 37) (hv : valF pr = numT k (n, 0)) : ReadsAs pr ⟨k, [], n⟩ :=
  ReadsAs.word h0 (fun z hz => (within_ascii (hl z hz)).1) (by rw [hv]; exact numT_fine rfl)
theorem text_letters {pr : List Int} (hl : ∀ z ∈ pr, (48 ≤ z ∧ z ≤ 57) ∨ unitOf z ≠ 0 ∨ z = 46 ∨ z = 37) : textR pr = pr := text_ascii (fun z hz => (within_ascii (hl z hz)).2)
theorem digit_front {pr : List Int} (h0 : 0 < pr.length) (h : 48 ≤ pr.getD 0 0 ∧ pr.getD 0 0 ≤ 57) : ¬ (pr = [] ∨ digitB (pr.getD 0 0) = false) := by
  rintro (rfl | h2)
  · cases h0
  · generalize pr.getD 0 0 = v at h h2
    unfold digitB at h2
    simp [h] at h2
theorem dec_front (n : Nat) : 48 ≤ (dec n).getD 0 0 ∧ (dec n).getD 0 0 ≤ 57 := by
  have hp := dec_pos n
  exact dec_byte n _ (getD_mem (by omega))
theorem allD_dec (n : Nat) : AllD (dec n) := by
  have hp := dec_pos n
  exact ⟨fun e => (by rw [e] at hp; cases hp), fun i hi => dec_byte n _ (getD_mem hi)⟩
theorem not_allD {zs : List Int} {z : Int} (h : z ∈ zs) (hz : ¬ (48 ≤ z ∧ z ≤ 57)) : ¬ AllD zs := fun g => hz (allD_digits g z h)
theorem reads_count {n : Nat} (h : n ≤ 18446744073709551615) : ReadsAs (dec n) ⟨3, [], n⟩ := by
  have hp := dec_pos n
  have hl : ∀ z ∈ dec n, (48 ≤ z ∧ z ≤ 57) ∨ unitOf z ≠ 0 ∨ z = 46 ∨ z = 37 := fun z hz => Or.inl (dec_byte n z hz)
  refine ReadsAs.num hp hl ?_
  rw [valF_count (digit_front hp (dec_front n)) (by rw [text_letters hl]; exact allD_dec n), text_letters hl, numF_fine (dec_dg n) (by rw [numOf_dec]; exact h), numOf_dec]
theorem tailD_bd {r : Nat} (h : r < 100) : (∀ z ∈ tailD r, 48 ≤ z ∧ z ≤ 57) ∧ (tailD r).length ≤ 2 := by
  unfold tailD
  split
  · exact ⟨fun z hz => (by cases hz), by simp⟩
  · split
    · refine ⟨fun z hz => ?_, by simp⟩
      have := List.mem_singleton.mp hz; omega
    · refine ⟨fun z hz => ?_, by simp⟩
      simp only [List.mem_cons, List.not_mem_nil, or_false] at hz
      omega
theorem t3_tail {m : Nat} (h : m < 1000) : t3 ([48 + ((m / 100 : Nat) : Int)] ++ tailD (m % 100)) = m := by
  unfold t3 tailD
  by_cases h1 : m % 100 = 0
  · rw [if_pos h1]
    simp [numOf]
    omega
  · rw [if_neg h1]
    by_cases h2 : m % 100 % 10 = 0
    · rw [if_pos h2]
      simp [numOf]
      omega
    · rw [if_neg h2]
      simp [numOf]
      omega
theorem head_tail {a b : List Int} (h : ∀ z ∈ a, z ≠ 46) : headP (a ++ 46 :: b) = a ∧ tailP (a ++ 46 :: b) = b := by
  unfold headP tailP
  induction a with
  | nil => simp
  | cons z a ih =>
    have hz := h z (List.mem_cons_self ..)
    obtain ⟨i1, i2⟩ := ih (fun x hx => h x (List.mem_cons_of_mem _ hx))
    rw [List.cons_append, List.takeWhile_cons_of_pos (by simpa using hz), List.dropWhile_cons_of_pos (by simpa using hz), i1]
    exact ⟨rfl, i2⟩
theorem facP_form (n : Nat) : facP n = dec (n / 1000) ++ 46 :: ([48 + ((n % 1000 / 100 : Nat) : Int)] ++ tailD (n % 100)) := by
  unfold facP; simp
theorem reads_factor {n : Nat} (h : n ≤ 18446744073709551615) : ReadsAs (facP n) ⟨4, [], n⟩ := by
  obtain ⟨B, hB⟩ : ∃ B, [48 + ((n % 1000 / 100 : Nat) : Int)] ++ tailD (n % 100) = B := ⟨_, rfl⟩
  have hf := facP_form n
  have ht := tailD_bd (r := n % 100) (by omega)
  have hBd : ∀ z ∈ B, 48 ≤ z ∧ z ≤ 57 := fun z hz => by
    rw [← hB] at hz
    rcases List.mem_append.mp hz with hz | hz
    · have := List.mem_singleton.mp hz; omega
    · exact ht.1 z hz
  have hBl : 1 ≤ B.length ∧ B.length ≤ 3 := by rw [← hB, List.length_append]; have := ht.2; simp; omega
  have h3 : t3 B = n % 1000 := by
    rw [← hB]
    have := t3_tail (m := n % 1000) (by omega)
    rw [show n % 1000 % 100 = n % 100 by omega] at this
    exact this
  rw [hB] at hf
  have hp := dec_pos (n / 1000)
  have hl : ∀ z ∈ facP n, (48 ≤ z ∧ z ≤ 57) ∨ unitOf z ≠ 0 ∨ z = 46 ∨ z = 37 := fun z hz => by
    rw [hf] at hz
    rcases List.mem_append.mp hz with hz | hz
    · exact Or.inl (dec_byte _ z hz)
    · rcases List.mem_cons.mp hz with rfl | hz
      · exact Or.inr (Or.inr (Or.inl rfl))
      · exact Or.inl (hBd z hz)
  have h0 : 0 < (facP n).length := by rw [hf, List.length_append]; omega
  refine ReadsAs.num h0 hl ?_
  have hfront : 48 ≤ (facP n).getD 0 0 ∧ (facP n).getD 0 0 ≤ 57 := by rw [hf, getD_app _ hp]; exact dec_front _
  have h46 : (46 : Int) ∈ facP n := by rw [hf]; simp
  have hlast : ¬ (facP n).getD ((facP n).length - 1) 0 = 37 := by
    have hm : (facP n).getD ((facP n).length - 1) 0 ∈ B := by
      rw [hf]
      have e : (dec (n / 1000) ++ 46 :: B).length - 1 = (dec (n / 1000) ++ [46]).length + (B.length - 1) := by simp; omega
      have e2 : dec (n / 1000) ++ 46 :: B = (dec (n / 1000) ++ [46]) ++ B := by simp
      rw [e, e2, getD_right]
      exact getD_mem (by omega)
    have := hBd _ hm
    omega
  obtain ⟨hh, htl⟩ := head_tail (a := dec (n / 1000)) (b := B) (fun z hz => by have := dec_byte _ z hz; omega)
  rw [valF_factor (digit_front h0 hfront) (by rw [text_letters hl]; exact not_allD h46 (by omega)) (by rw [text_letters hl]; exact hlast) (by rw [text_letters hl]; exact h46), text_letters hl, hf, hh, htl]
  congr 1
  have hA : AllD B := ⟨fun e => (by rw [e] at hBl; simp at hBl), fun i hi => hBd _ (getD_mem hi)⟩
  unfold facF
  rw [if_pos ⟨hA, hBl.2⟩, numF_fine (dec_dg _) (by rw [numOf_dec]; omega), numOf_dec, if_pos rfl, h3, if_neg (by omega)]
  congr 1
  omega
theorem share_print {n : Nat} (h : n ≤ 1000000) : shareF (pct n) = (n, 0) := by
  obtain ⟨ys, A, B, d, e1, e2, e3, e4⟩ := pct_halves n
  unfold shareF
  have hx : ∃ p : List Int × List Int, ∃ ys d, pct n = ys ++ [37] ∧ Halves ys p.1 p.2 d ∧ Written p.1 p.2 d := ⟨(A, B), ys, d, e1, e2, e3⟩
  rw [dif_pos hx]
  obtain ⟨ys', d', f1, f2, f3⟩ := hx.choose_spec
  have hy : ys' = ys := List.append_cancel_right (f1.symm.trans e1)
  subst hy
  obtain ⟨q1, q2, _⟩ := Halves.unique f2 e2
  rw [q1, q2, e4, if_neg (by omega)]
theorem pct_letters (n : Nat) : ∀ z ∈ pct n, (48 ≤ z ∧ z ≤ 57) ∨ unitOf z ≠ 0 ∨ z = 46 ∨ z = 37 := fun z hz => by
  unfold pct tailOf at hz
  rcases List.mem_append.mp hz with hz | hz
  · exact Or.inl (dec_byte _ z hz)
  · rcases List.mem_append.mp hz with hz | hz
    · split at hz
      · cases hz
      · rcases List.mem_cons.mp hz with rfl | hz
        · exact Or.inr (Or.inr (Or.inl rfl))
        · exact Or.inl (fr_byte 4 _ (by omega) z hz)
    · exact Or.inr (Or.inr (Or.inr (List.mem_singleton.mp hz)))
theorem reads_share {n : Nat} (h : n ≤ 1000000) : ReadsAs (pct n) ⟨5, [], n⟩ := by
  have hl := pct_letters n
  have hp := dec_pos (n / 10000)
  have h0 : 0 < (pct n).length := by unfold pct; rw [List.length_append]; omega
  refine ReadsAs.num h0 hl ?_
  have hfront : 48 ≤ (pct n).getD 0 0 ∧ (pct n).getD 0 0 ≤ 57 := by unfold pct; rw [getD_app _ hp]; exact dec_front _
  have h37 : (37 : Int) ∈ pct n := by unfold pct; simp
  have hlast : (pct n).getD ((pct n).length - 1) 0 = 37 := by
    unfold pct
    rw [← List.append_assoc]
    have e : ((dec (n / 10000) ++ tailOf (n % 10000)) ++ [37]).length - 1 = (dec (n / 10000) ++ tailOf (n % 10000)).length + 0 := by simp
    rw [e, getD_right]; rfl
  rw [valF_share (digit_front h0 hfront) (by rw [text_letters hl]; exact not_allD h37 (by omega)) (by rw [text_letters hl]; exact hlast), text_letters hl, share_print h]
theorem span_print {n : Nat} (h : n ≤ 253402300799) : spanF (spn n) = (n, 0) := by
  have hx : ∃ N, Tells (spn n) N := ⟨n, spn_tells n⟩
  unfold spanF
  rw [dif_pos hx, Tells.unique hx.choose_spec (spn_tells n), if_pos h]
theorem reads_span {n : Nat} (h : n ≤ 253402300799) : ReadsAs (spn n) ⟨6, [], n⟩ := by
  obtain ⟨hne, l, hr⟩ := spn_tells n
  have hl0 := runs_letters _ _ _ hr
  have hl : ∀ z ∈ spn n, (48 ≤ z ∧ z ≤ 57) ∨ unitOf z ≠ 0 ∨ z = 46 ∨ z = 37 := fun z hz => by
    rcases hl0 z hz with h | h
    · exact Or.inl h
    · exact Or.inr (Or.inl h)
  have h0 : 0 < (spn n).length := List.length_pos_iff.mpr hne
  obtain ⟨hla, hl1, _⟩ := Tells.last hne hr
  refine ReadsAs.num h0 hl ?_
  have hfront : 48 ≤ (spn n).getD 0 0 ∧ (spn n).getD 0 0 ≤ 57 := by
    refine Classical.byContradiction fun hn => ?_
    have hd := runs_dead (s := St0) (zs := spn n) (k := 0) h0 (t := St0) (by rfl) (by exact stp_bare hn)
    rw [hd] at hr; cases hr
  have hlast : unitOf ((spn n).getD ((spn n).length - 1) 0) ≠ 0 := by rw [← hla]; exact hl1
  have hmem : (spn n).getD ((spn n).length - 1) 0 ∈ spn n := getD_mem (by omega)
  have h46 : ¬ (46 : Int) ∈ spn n := fun hm => by
    rcases hl0 46 hm with h | h
    · omega
    · exact h rfl
  rw [valF_span (digit_front h0 hfront) (by rw [text_letters hl]; exact not_allD hmem (unitOf_letter hlast)) (by rw [text_letters hl]; exact fun e => hlast (by rw [e]; rfl)) (by rw [text_letters hl]; exact h46), text_letters hl, span_print h]
theorem reads_mark {c : Int} {k : Nat} (h : (c = 123 ∧ k = 7) ∨ (c = 125 ∧ k = 8) ∨ (c = 59 ∧ k = 9)) : ReadsAs [c] ⟨k, [], 0⟩ := by
  rcases h with ⟨rfl, rfl⟩ | ⟨rfl, rfl⟩ | ⟨rfl, rfl⟩
  all_goals
    refine ⟨by decide, by decide, by decide, rfl, fun R _ => ?_⟩
    unfold pieceN
    rw [getD_app R (by decide)]
    rfl
theorem name_within {l : List Int} (h : NameL l) : ∀ z ∈ l, withinB z = true := fun z hz => by
  obtain ⟨i, hi, rfl⟩ := List.mem_iff_getElem.mp hz
  have := h.2.2.2 i hi
  unfold nameOk at this
  rw [List.getD_eq_getElem?_getD, List.getElem?_eq_getElem hi] at this
  simp only [Option.getD_some] at this
  unfold withinB
  revert this
  cases letterB l[i] <;> cases digitB l[i] <;> simp
  intro _ h2
  rcases h2 with h2 | h2 <;> simp [h2]
theorem name_front {l : List Int} (h : NameL l) : digitB (l.getD 0 0) = false := by
  have h3 := h.2.2.1
  cases hx : digitB (l.getD 0 0) with
  | false => rfl
  | true =>
    unfold letterB at h3
    unfold digitB at hx
    simp only [Bool.and_eq_true, Bool.or_eq_true, decide_eq_true_eq] at h3 hx
    omega
theorem reads_name {zs : List Int} (hb : ∀ z ∈ zs, 0 ≤ z ∧ z ≤ 255) (h : NameL (runesOf zs)) : ReadsAs (runesOf zs) ⟨1, zs, 0⟩ := by
  have hw := name_within h
  refine ReadsAs.word h.1 hw ?_
  rw [valF_name (Or.inr (name_front h)) h, text_runes hb (fun r hr => within_low (hw r hr))]
theorem hexL_in (n : Nat) : ∀ z ∈ hexL n, (48 ≤ z ∧ z ≤ 57) ∨ (97 ≤ z ∧ z ≤ 102) := by
  have one : ∀ m, m < 16 → (48 ≤ hexD m ∧ hexD m ≤ 57) ∨ (97 ≤ hexD m ∧ hexD m ≤ 102) := fun m hm => by unfold hexD; split <;> omega
  induction n using Nat.strongRecOn with
  | _ n ih =>
    intro z hz
    by_cases h : n < 16
    · rw [hexL_small h] at hz
      obtain rfl : z = hexD n := by simpa using hz
      exact one _ h
    · rw [hexL_big h] at hz
      rcases List.mem_append.mp hz with hz | hz
      · exact ih (n / 16) (by omega) z hz
      · obtain rfl : z = hexD (n % 16) := by simpa using hz
        exact one _ (by omega)
theorem qEnd_quote {r : Int} (t : List Int) : qEnd false (quoteU r ++ t) = (quoteU r).length + qEnd false t := by
  have plain : ∀ (a t : List Int), (∀ z ∈ a, z ≠ 10 ∧ z ≠ 34 ∧ z ≠ 92) → qEnd false (a ++ t) = a.length + qEnd false t := by
    intro a t
    induction a with
    | nil => intro _; simp
    | cons z a ih =>
      intro ha
      obtain ⟨h1, h2, h3⟩ := ha z (List.mem_cons_self ..)
      show qEnd false (z :: (a ++ t)) = _
      simp only [qEnd]
      rw [if_neg h1, if_neg (by decide), if_neg h3, if_neg h2, ih (fun x hx => ha x (List.mem_cons_of_mem _ hx)), List.length_cons]
      omega
  have back : ∀ (x : Int) (t : List Int), x ≠ 10 → qEnd false (92 :: x :: t) = 2 + qEnd false t := fun x t hx => by
    simp only [qEnd]
    rw [if_neg (by omega), if_neg (by decide), if_pos trivial, if_neg hx, if_pos trivial]
    omega
  unfold quoteU
  split
  · exact back 34 t (by omega)
  split
  · exact back 92 t (by omega)
  split
  · exact back 110 t (by omega)
  split
  · exact back 116 t (by omega)
  split
  · have e : ([92, 117, 123] ++ hexL r.toNat ++ [125] ++ t : List Int) = 92 :: 117 :: (([123] ++ hexL r.toNat ++ [125]) ++ t) := by simp
    rw [e, back 117 _ (by omega), plain _ t (fun z hz => by
      rcases List.mem_append.mp hz with hz | hz
      · rcases List.mem_append.mp hz with hz | hz
        · have := List.mem_singleton.mp hz; omega
        · have := hexL_in _ z hz; omega
      · have := List.mem_singleton.mp hz; omega)]
    simp
    omega
  · refine plain [r] t (fun z hz => ?_)
    have := List.mem_singleton.mp hz
    omega
theorem qEnd_quotes : ∀ (l : List Int), (∀ r ∈ l, RuneOk r) → ∀ R, qEnd false (l.flatMap quoteU ++ 34 :: R) = (l.flatMap quoteU).length + 1
  | [], _, R => by
    show qEnd false (34 :: R) = _
    simp only [qEnd]
    rw [if_neg (by omega), if_neg (by decide), if_neg (by omega), if_pos trivial]
    rfl
  | r :: l, h, R => by
    rw [List.flatMap_cons, List.append_assoc, qEnd_quote, qEnd_quotes l (fun x hx => h x (List.mem_cons_of_mem _ hx)) R, List.length_append]
    omega
theorem reads_text {zs : List Int} (hb : ∀ z ∈ zs, 0 ≤ z ∧ z ≤ 255) (hg : GoodL (runesOf zs)) (hl : (runesOf zs).length ≤ 120) : ReadsAs (runesOf (quoteL (runesOf zs))) ⟨2, zs, 0⟩ := by
  obtain ⟨hok, hback⟩ := good_back hb (good_mem hg)
  have hr := runes_quoteL hok
  have hu := quote_back hok
  obtain ⟨l, hll⟩ : ∃ l, runesOf zs = l := ⟨_, rfl⟩
  rw [hll] at hok hback hr hu hl
  rw [hll]
  have hq : unqF (runesOf (quoteL l)) = (zs, 0) := by
    unfold unqF
    rw [hu]
    simp only
    rw [if_neg (by omega), hback]
  have hf : (runesOf (quoteL l)).getD 0 0 = 34 := by rw [hr]; rfl
  have h0 : 0 < (runesOf (quoteL l)).length := by rw [hr]; simp
  refine ⟨h0, by rw [hf]; decide, by rw [hf]; decide, ?_, fun R _ => ?_⟩
  · unfold tokP
    rw [hf, if_neg (by decide), if_neg (by decide), if_neg (by decide), if_pos rfl, hq, if_pos rfl]
  · unfold pieceN
    rw [getD_app R h0, hf, if_neg (by decide), if_pos rfl, hr]
    show qEnd true (34 :: (l.flatMap quoteU ++ [34] ++ R)) = _
    have e : (l.flatMap quoteU ++ [34] ++ R : List Int) = l.flatMap quoteU ++ 34 :: R := by simp
    simp only [qEnd]
    rw [if_neg (by omega), if_pos trivial, e, qEnd_quotes l hok R]
    simp
theorem reads_right {k : Int} {s : ByteArray} {n : Nat} (h : RightT k s (n : Int)) (hn : n ≤ 18446744073709551615) (h0 : k ≠ 0) : ReadsAs (runesOf (prT k s n)) ⟨k.toNat, txT k s, n⟩ := by
  have asc : ∀ zs : List Int, (∀ z ∈ zs, (48 ≤ z ∧ z ≤ 57) ∨ unitOf z ≠ 0 ∨ z = 46 ∨ z = 37) → runesOf zs = zs := fun zs hz => runes_of_ascii (fun z hm => (within_ascii (hz z hm)).2)
  unfold RightT at h
  rcases h with ⟨rfl, h, hz⟩ | ⟨rfl, h, h2, hz⟩ | ⟨rfl | rfl, rfl⟩ | ⟨rfl, rfl, h2⟩ | ⟨rfl, rfl, h2⟩ | ⟨rfl | rfl | rfl | rfl, rfl, hz⟩
  · obtain rfl : n = 0 := by omega
    exact reads_name (nums_byte s) h
  · obtain rfl : n = 0 := by omega
    exact reads_text (nums_byte s) h h2
  · have e : prT 3 ⟨#[]⟩ n = dec n := rfl
    rw [e, asc _ (fun z hz => Or.inl (dec_byte n z hz))]
    exact reads_count hn
  · have e : prT 4 ⟨#[]⟩ n = facP n := rfl
    have hr := reads_factor hn
    rw [e]
    have hl : ∀ z ∈ facP n, 0 ≤ z ∧ z < 128 := fun z hz => by
      rw [facP_form] at hz
      have ht := tailD_bd (r := n % 100) (by omega)
      rcases List.mem_append.mp hz with hz | hz
      · have := dec_byte _ z hz; omega
      · rcases List.mem_cons.mp hz with rfl | hz
        · omega
        · rcases List.mem_append.mp hz with hz | hz
          · have := List.mem_singleton.mp hz; omega
          · have := ht.1 z hz; omega
    rw [runes_of_ascii hl]
    exact hr
  · have e : prT 5 ⟨#[]⟩ n = pct n := rfl
    rw [e, asc _ (pct_letters n)]
    exact reads_share (by omega)
  · have e : prT 6 ⟨#[]⟩ n = spn n := rfl
    obtain ⟨_, l, hr⟩ := spn_tells n
    have hl0 := runs_letters _ _ _ hr
    rw [e, asc _ (fun z hz => (hl0 z hz).elim Or.inl (fun h => Or.inr (Or.inl h)))]
    exact reads_span (by omega)
  · exact (h0 rfl).elim
  · obtain rfl : n = 0 := by omega
    have e : prT 7 ⟨#[]⟩ 0 = [123] := rfl
    rw [e, runes_of_ascii (fun z hz => by have := List.mem_singleton.mp hz; omega)]
    exact reads_mark (Or.inl ⟨rfl, rfl⟩)
  · obtain rfl : n = 0 := by omega
    have e : prT 8 ⟨#[]⟩ 0 = [125] := rfl
    rw [e, runes_of_ascii (fun z hz => by have := List.mem_singleton.mp hz; omega)]
    exact reads_mark (Or.inr (Or.inl ⟨rfl, rfl⟩))
  · obtain rfl : n = 0 := by omega
    have e : prT 9 ⟨#[]⟩ 0 = [59] := rfl
    rw [e, runes_of_ascii (fun z hz => by have := List.mem_singleton.mp hz; omega)]
    exact reads_mark (Or.inr (Or.inr ⟨rfl, rfl⟩))

end Go.Proofs.YtmgimkokmlcllaaGreatDoor
