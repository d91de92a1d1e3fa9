/-
  What is quoted is unquoted: plain arithmetic. No program in sight.
-/
import Derived.Test.YtkhmaiggcihneaaDoorTxtM
namespace Go.Proofs.YtkhmaiggcihneaaDoor

theorem take_two {zs : List Int} {i : Nat} (h : i + 1 < zs.length) : (zs.drop i).take 2 = [zs.getD i 0, zs.getD (i + 1) 0] := by
  apply List.ext_getElem
  · simp; omega
  · intro j h1 h2
    have : j = 0 ∨ j = 1 := by simp at h2; omega
    rcases this with rfl | rfl <;> simp [List.getD_eq_getElem?_getD, h, show i < zs.length by omega]
theorem take_three {zs : List Int} {i : Nat} (h : i + 2 < zs.length) : (zs.drop i).take 3 = [zs.getD i 0, zs.getD (i + 1) 0, zs.getD (i + 2) 0] := by
  apply List.ext_getElem
  · simp; omega
  · intro j h1 h2
    have : j = 0 ∨ j = 1 ∨ j = 2 := by simp at h2; omega
    rcases this with rfl | rfl | rfl <;> simp [List.getD_eq_getElem?_getD, h, show i < zs.length by omega, show i + 1 < zs.length by omega]
theorem take_four {zs : List Int} {i : Nat} (h : i + 3 < zs.length) : (zs.drop i).take 4 = [zs.getD i 0, zs.getD (i + 1) 0, zs.getD (i + 2) 0, zs.getD (i + 3) 0] := by
  apply List.ext_getElem
  · simp; omega
  · intro j h1 h2
    have : j = 0 ∨ j = 1 ∨ j = 2 ∨ j = 3 := by simp at h2; omega
    rcases this with rfl | rfl | rfl | rfl <;> simp [List.getD_eq_getElem?_getD, h, show i < zs.length by omega, show i + 1 < zs.length by omega, show i + 2 < zs.length by omega]
theorem take_one {zs : List Int} {i : Nat} (h : i < zs.length) : (zs.drop i).take 1 = [zs.getD i 0] := by
  apply List.ext_getElem
  · simp; omega
  · intro j h1 h2
    have : j = 0 := by simp at h2; omega
    subst this
    simp [List.getD_eq_getElem?_getD, h]

theorem clsN_is {b : Int} {n : Nat} (h : clsN b = n) : (n = 1 → 192 ≤ b ∧ b < 224) ∧ (n = 2 → 224 ≤ b ∧ b < 240) ∧ (n = 3 → 240 ≤ b ∧ b < 248) := by
  unfold clsN at h
  split at h
  · omega
  · split at h
    · omega
    · split at h <;> omega
/-- A good rune's bytes are those that stand there. -/
theorem enc_back {zs : List Int} {i : Nat} (hi : i < zs.length) (hb : ∀ z ∈ zs, 0 ≤ z ∧ z ≤ 255) (h : 0 ≤ runeA zs i) : RuneOk (runeA zs i) ∧ encL (runeA zs i) = (zs.drop i).take (widA zs i) := by
  have hbd : ∀ j, j < zs.length → 0 ≤ zs.getD j 0 ∧ zs.getD j 0 ≤ 255 := fun j hj => by
    rw [List.getD_eq_getElem?_getD, List.getElem?_eq_getElem hj]
    exact hb _ (List.getElem_mem hj)
  by_cases k0 : zs.getD i 0 < 128
  · obtain ⟨h1, h2⟩ := runeA_low k0
    rw [h1, h2, take_one hi]
    have := hbd i hi
    exact ⟨⟨by omega, by omega, by omega⟩, by unfold encL; rw [if_pos k0]⟩
  · cases hw : wholeB zs i with
    | false => rw [(runeA_bad k0 hw).1] at h; omega
    | true =>
      obtain ⟨h1, h2⟩ := runeA_good k0 hw
      have hend := wholeB_end hw
      have hw2 := hw
      unfold wholeB at hw2
      simp only [Bool.and_eq_true, decide_eq_true_eq, Bool.not_eq_true', Bool.and_eq_false_iff, decide_eq_false_iff_not] at hw2
      obtain ⟨⟨⟨⟨n0, hall⟩, hL⟩, hM⟩, hS⟩ := hw2
      have hb0 := hbd i hi
      have n3 := clsN_le (zs.getD i 0)
      have hn : clsN (zs.getD i 0) = 1 ∨ clsN (zs.getD i 0) = 2 ∨ clsN (zs.getD i 0) = 3 := by omega
      rcases hn with hn | hn | hn
      · rw [hn] at h1 h2 hend hall hL hM hS
        have hc := contB_iff.mp (allB_in hall (j := 1) (by omega) (by omega))
        rw [h1, h2, take_two hend]
        have hcl : 192 ≤ zs.getD i 0 ∧ zs.getD i 0 < 224 := (clsN_is hn).1 rfl
        have hv : cAt zs i 1 = 64 * (zs.getD i 0 - 192) + zs.getD (i + 1) 0 - 128 := by simp only [cAt, clsB]; rw [if_pos hcl]
        have hLL : clsL (zs.getD i 0) = 128 := by unfold clsL; rw [if_pos hcl]
        rw [hLL] at hL
        refine ⟨⟨by omega, by omega, by omega⟩, ?_⟩
        unfold encL
        rw [if_neg (by omega), if_pos (by omega)]
        simp only [List.cons.injEq, and_true]
        omega
      · rw [hn] at h1 h2 hend hall hL hM hS
        have hc := contB_iff.mp (allB_in hall (j := 1) (by omega) (by omega))
        have hd := contB_iff.mp (allB_in hall (j := 2) (by omega) (by omega))
        rw [h1, h2, take_three hend]
        have hcl : 224 ≤ zs.getD i 0 ∧ zs.getD i 0 < 240 := (clsN_is hn).2.1 rfl
        have hno : ¬ (192 ≤ zs.getD i 0 ∧ zs.getD i 0 < 224) := by omega
        have hv : cAt zs i 2 = 64 * (64 * (zs.getD i 0 - 224) + zs.getD (i + 1) 0 - 128) + zs.getD (i + 2) 0 - 128 := by simp only [cAt, clsB]; rw [if_neg hno, if_pos hcl]
        have hLL : clsL (zs.getD i 0) = 2048 := by unfold clsL; rw [if_neg hno, if_pos hcl]
        rw [hLL] at hL
        generalize zs.getD i 0 = a at *
        generalize zs.getD (i + 1) 0 = b at *
        generalize zs.getD (i + 2) 0 = c at *
        generalize cAt zs i 2 = v at *
        refine ⟨⟨by omega, by omega, by omega⟩, ?_⟩
        unfold encL
        rw [if_neg (by omega), if_neg (by omega), if_pos (by omega)]
        simp only [List.cons.injEq, and_true]
        omega
      · rw [hn] at h1 h2 hend hall hL hM hS
        have hc := contB_iff.mp (allB_in hall (j := 1) (by omega) (by omega))
        have hd := contB_iff.mp (allB_in hall (j := 2) (by omega) (by omega))
        have he := contB_iff.mp (allB_in hall (j := 3) (by omega) (by omega))
        rw [h1, h2, take_four hend]
        have hcl : 240 ≤ zs.getD i 0 ∧ zs.getD i 0 < 248 := (clsN_is hn).2.2 rfl
        have hno : ¬ (192 ≤ zs.getD i 0 ∧ zs.getD i 0 < 224) := by omega
        have hno2 : ¬ (224 ≤ zs.getD i 0 ∧ zs.getD i 0 < 240) := by omega
        have hv : cAt zs i 3 = 64 * (64 * (64 * (zs.getD i 0 - 240) + zs.getD (i + 1) 0 - 128) + zs.getD (i + 2) 0 - 128) + zs.getD (i + 3) 0 - 128 := by simp only [cAt, clsB]; rw [if_neg hno, if_neg hno2, if_pos hcl]
        have hLL : clsL (zs.getD i 0) = 65536 := by unfold clsL; rw [if_neg hno, if_neg hno2, if_pos hcl]
        rw [hLL] at hL
        generalize zs.getD i 0 = a at *
        generalize zs.getD (i + 1) 0 = b at *
        generalize zs.getD (i + 2) 0 = c at *
        generalize zs.getD (i + 3) 0 = d at *
        generalize cAt zs i 3 = v at *
        refine ⟨⟨by omega, by omega, by omega⟩, ?_⟩
        unfold encL
        rw [if_neg (by omega), if_neg (by omega), if_neg (by omega)]
        simp only [List.cons.injEq, and_true]
        refine ⟨?_, ?_, ?_, ?_⟩ <;> omega
/-- A good text is its runes' bytes. -/
theorem good_back {zs : List Int} (hb : ∀ z ∈ zs, 0 ≤ z ∧ z ≤ 255) (hg : ∀ r ∈ runesOf zs, 0 ≤ r) : (∀ r ∈ runesOf zs, RuneOk r) ∧ (runesOf zs).flatMap encL = zs := by
  have key : ∀ n i, zs.length - i ≤ n → (∀ r ∈ rfrom zs i, 0 ≤ r) → (∀ r ∈ rfrom zs i, RuneOk r) ∧ (rfrom zs i).flatMap encL = zs.drop i := by
    intro n
    induction n with
    | zero => intro i hi _; rw [rfrom_out (by omega), List.drop_eq_nil_of_le (by omega)]; exact ⟨fun r hr => (by cases hr), rfl⟩
    | succ n ih =>
      intro i hi hr
      by_cases h : i < zs.length
      · rw [rfrom_in h] at hr ⊢
        have hp := widA_pos zs i
        obtain ⟨e1, e2⟩ := enc_back h hb (hr _ List.mem_cons_self)
        obtain ⟨i1, i2⟩ := ih (i + widA zs i) (by omega) (fun r hm => hr r (List.mem_cons_of_mem _ hm))
        refine ⟨fun r hm => ?_, ?_⟩
        · rcases List.mem_cons.mp hm with rfl | hm
          · exact e1
          · exact i1 r hm
        · rw [List.flatMap_cons, i2, e2, ← List.drop_drop]
          exact List.take_append_drop _ _
      · rw [rfrom_out h, List.drop_eq_nil_of_le (by omega)]; exact ⟨fun r hr => (by cases hr), rfl⟩
  exact key zs.length 0 (by omega) hg
theorem good_mem {l : List Int} (h : GoodL l) : ∀ r ∈ l, 0 ≤ r := fun r hr => by
  obtain ⟨i, hi, rfl⟩ := List.getElem_of_mem hr
  have := h i hi
  rw [List.getD_eq_getElem?_getD, List.getElem?_eq_getElem hi] at this
  exact this

/-- The runes of what stands for a rune. -/
def quoteU (r : Int) : List Int :=
  if r = 34 then [92, 34] else if r = 92 then [92, 92] else if r = 10 then [92, 110] else if r = 9 then [92, 116] else if r < 32 ∨ r = 127 then [92, 117, 123] ++ hexL r.toNat ++ [125] else [r]
theorem runes_ascii (a : List Int) (h : ∀ z ∈ a, 0 ≤ z ∧ z < 128) (ys : List Int) : runesOf (a ++ ys) = a ++ runesOf ys := by
  induction a with
  | nil => rfl
  | cons z a ih =>
    have := h z List.mem_cons_self
    rw [List.cons_append, runes_low this.1 this.2, ih (fun x hx => h x (List.mem_cons_of_mem _ hx))]; rfl
theorem hexD_bd {n : Nat} (h : n < 16) : 48 ≤ hexD n ∧ hexD n ≤ 102 := by unfold hexD; split <;> omega
theorem hexL_bd (n : Nat) : ∀ z ∈ hexL n, 48 ≤ z ∧ z ≤ 102 := by
  induction n using Nat.strongRecOn with
  | _ n ih =>
    intro z hz
    by_cases h : n < 16
    · rw [hexL_small h] at hz
      have : z = hexD n := by simpa using hz
      subst this
      exact hexD_bd h
    · rw [hexL_big h] at hz
      rcases List.mem_append.mp hz with hz | hz
      · exact ih (n / 16) (by omega) z hz
      · have : z = hexD (n % 16) := by simpa using hz
        subst this
        exact hexD_bd (by omega)
theorem runes_quoteR {r : Int} (h : RuneOk r) (ys : List Int) : runesOf (quoteR r ++ ys) = quoteU r ++ runesOf ys := by
  unfold quoteR quoteU
  split
  · exact runes_ascii _ (by decide) ys
  split
  · exact runes_ascii _ (by decide) ys
  split
  · exact runes_ascii _ (by decide) ys
  split
  · exact runes_ascii _ (by decide) ys
  split
  · refine runes_ascii _ (fun z hz => ?_) ys
    simp only [List.mem_append, List.mem_cons, List.not_mem_nil, or_false] at hz
    rcases hz with (hz | hz) | hz
    · omega
    · have := hexL_bd _ z hz; omega
    · omega
  · exact runes_enc h ys
theorem runes_quoteL {l : List Int} (h : ∀ r ∈ l, RuneOk r) : runesOf (quoteL l) = [34] ++ l.flatMap quoteU ++ [34] := by
  have key : ∀ l : List Int, (∀ r ∈ l, RuneOk r) → runesOf (quoteB l ++ [34]) = l.flatMap quoteU ++ [34] := by
    intro l
    induction l with
    | nil =>
      intro _
      have := runes_low (r := 34) (by decide) (by decide) []
      rw [runes_nil] at this
      exact this
    | cons r l ih =>
      intro h
      have hq : quoteB (r :: l) = quoteR r ++ quoteB l := by simp [quoteB]
      rw [hq, List.append_assoc, runes_quoteR (h r List.mem_cons_self), ih (fun x hx => h x (List.mem_cons_of_mem _ hx)), List.flatMap_cons, List.append_assoc]
  unfold quoteL
  rw [List.append_assoc]
  show runesOf (34 :: (quoteB l ++ [34])) = _
  rw [runes_low (by decide) (by decide), key l h]
  simp
theorem hexV_D {n : Nat} (h : n < 16) : hexV (hexD n) = n := by
  have : n = 0 ∨ n = 1 ∨ n = 2 ∨ n = 3 ∨ n = 4 ∨ n = 5 ∨ n = 6 ∨ n = 7 ∨ n = 8 ∨ n = 9 ∨ n = 10 ∨ n = 11 ∨ n = 12 ∨ n = 13 ∨ n = 14 ∨ n = 15 := by omega
  rcases this with rfl | rfl | rfl | rfl | rfl | rfl | rfl | rfl | rfl | rfl | rfl | rfl | rfl | rfl | rfl | rfl <;> decide
theorem fold_hex (xs : List Int) (n : Nat) (h : n < 256) : ∃ k, k ≠ 0 ∧ (hexL n).foldl ustep (.hex xs 0 0) = .hex xs k n := by
  have st : ∀ k x m, m < 16 → k < 6 → ustep (.hex xs k x) (hexD m) = .hex xs (k + 1) (16 * x + m) := fun k x m hm hk => by
    show (if 0 ≤ hexV (hexD m) ∧ k < 6 then Qs.hex xs (k + 1) (16 * x + hexV (hexD m)) else _) = _
    rw [hexV_D hm, if_pos (by omega)]
  by_cases hs : n < 16
  · rw [hexL_small hs]
    refine ⟨1, by decide, ?_⟩
    simp only [List.foldl_cons, List.foldl_nil]
    rw [st 0 0 n hs (by decide)]
    simp
  · rw [hexL_big hs, hexL_small (by omega)]
    refine ⟨2, by decide, ?_⟩
    simp only [List.cons_append, List.nil_append, List.foldl_cons, List.foldl_nil]
    rw [st 0 0 _ (by omega) (by decide), st 1 _ _ (by omega) (by decide)]
    congr 1
    omega
theorem fold_quote (xs : List Int) {r : Int} (h : RuneOk r) : (quoteU r).foldl ustep (.norm xs) = .norm (xs ++ [r]) := by
  obtain ⟨h0, h1, h2⟩ := h
  unfold quoteU
  split
  · rename_i e; subst e; rfl
  split
  · rename_i e; subst e; rfl
  split
  · rename_i e; subst e; rfl
  split
  · rename_i e; subst e; rfl
  split
  · rename_i k1 k2 k3 k4 k5
    obtain ⟨k, hk, hf⟩ := fold_hex xs r.toNat (by omega)
    rw [List.foldl_append, List.foldl_append]
    have e1 : [92, 117, 123].foldl ustep (.norm xs) = .hex xs 0 0 := rfl
    rw [e1, hf]
    show (if 0 ≤ hexV 125 ∧ k < 6 then Qs.hex xs (k + 1) (16 * ((r.toNat : Nat) : Int) + hexV 125) else if (125 : Int) = 125 ∧ k ≠ 0 ∧ ((r.toNat : Nat) : Int) ≤ 1114111 ∧ ¬ (55296 ≤ ((r.toNat : Nat) : Int) ∧ ((r.toNat : Nat) : Int) < 57344) then .norm (xs ++ [((r.toNat : Nat) : Int)]) else .dead) = _
    have e2 : hexV 125 = -1 := by decide
    rw [e2, if_neg (by omega), if_pos ⟨rfl, hk, by omega, by omega⟩, Int.toNat_of_nonneg h0]
  · rename_i k1 k2 k3 k4 k5
    show (if r = 34 then Qs.done xs else if r < 32 ∨ r = 127 then .dead else if r = 92 then .esc xs else .norm (xs ++ [r])) = _
    rw [if_neg k1, if_neg k5, if_neg k2]
theorem fold_quotes (l xs : List Int) (h : ∀ r ∈ l, RuneOk r) : (l.flatMap quoteU).foldl ustep (.norm xs) = .norm (xs ++ l) := by
  induction l generalizing xs with
  | nil => simp
  | cons r l ih =>
    rw [List.flatMap_cons, List.foldl_append, fold_quote xs (h r List.mem_cons_self), ih _ (fun x hx => h x (List.mem_cons_of_mem _ hx)), List.append_assoc]; rfl
/-- What is quoted is unquoted. -/
theorem quote_back {l : List Int} (h : ∀ r ∈ l, RuneOk r) : uf (runesOf (quoteL l)) = .done l := by
  unfold uf
  rw [runes_quoteL h, List.foldl_append, List.foldl_append]
  have e1 : [34].foldl ustep .start = .norm [] := rfl
  rw [e1, fold_quotes l [] h]
  rfl

end Go.Proofs.YtkhmaiggcihneaaDoor
