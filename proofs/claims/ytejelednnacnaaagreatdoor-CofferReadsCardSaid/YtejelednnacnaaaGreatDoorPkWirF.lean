/-
  Package wire's reader: its calls, walked.
-/
import Derived.Test.YtejelednnacnaaaGreatDoorPkWirE
namespace Go.Proofs.YtejelednnacnaaaGreatDoor
open Go.RowKit

/-- What each call makes of a reader's state. -/
theorem readT0_is (most : Int) {st : Option (List Int)} (hb : ∀ z ∈ st.getD [], 0 ≤ z ∧ z ≤ 255) :
    (∃ n q, frontT (st.getD []) = some (false, n, q) ∧ readT 0 most st = ({ n := n }, some q)) ∨ ((∃ n q, frontT (st.getD []) = some (true, n, q)) ∧ readT 0 most st = ({}, none)) ∨ (frontT (st.getD []) = none ∧ readT 0 most st = ({}, none)) := by
  cases st with
  | none => exact Or.inr (Or.inr ⟨rfl, rfl⟩)
  | some R =>
    have h := takeT_front0 most R hb
    simp only [Option.getD_some] at hb ⊢
    cases hf : frontT R with
    | none => rw [hf] at h; exact Or.inr (Or.inr ⟨rfl, readT_fail h⟩)
    | some p =>
      obtain ⟨b, n, q⟩ := p
      rw [hf] at h
      cases b with
      | false => exact Or.inl ⟨n, q, rfl, readT_some h⟩
      | true => exact Or.inr (Or.inl ⟨⟨n, q, rfl⟩, readT_fail h⟩)
theorem readT1_is (most : Int) {st : Option (List Int)} (hb : ∀ z ∈ st.getD [], 0 ≤ z ∧ z ≤ 255) :
    (∃ n q, frontT (st.getD []) = some (false, n, q) ∧ readT 1 most st = if n ≤ 9223372036854775807 then ({ i := n }, some q) else ({}, none)) ∨
    (∃ n q, frontT (st.getD []) = some (true, n, q) ∧ readT 1 most st = if n ≤ 9223372036854775808 then ({ i := -(n : Int) }, some q) else ({}, none)) ∨ (frontT (st.getD []) = none ∧ readT 1 most st = ({}, none)) := by
  cases st with
  | none => exact Or.inr (Or.inr ⟨rfl, rfl⟩)
  | some R =>
    have h := takeT_front1 most R hb
    simp only [Option.getD_some] at hb ⊢
    cases hf : frontT R with
    | none => rw [hf] at h; exact Or.inr (Or.inr ⟨rfl, readT_fail h⟩)
    | some p =>
      obtain ⟨b, n, q⟩ := p
      rw [hf] at h
      cases b with
      | false =>
        refine Or.inl ⟨n, q, rfl, ?_⟩
        by_cases hn : n ≤ 9223372036854775807
        · simp only [if_pos hn] at h ⊢; exact readT_some h
        · simp only [if_neg hn] at h ⊢; exact readT_fail h
      | true =>
        refine Or.inr (Or.inl ⟨n, q, rfl, ?_⟩)
        by_cases hn : n ≤ 9223372036854775808
        · simp only [if_pos hn] at h ⊢; exact readT_some h
        · simp only [if_neg hn] at h ⊢; exact readT_fail h
theorem readT4_is (most : Int) (st : Option (List Int)) : readT 4 most st = if most < 0 ∨ most < ((readT 0 0 st).1.n : Int) then ({}, none) else ({ n := (readT 0 0 st).1.n }, (readT 0 0 st).2) := by
  cases st with
  | none =>
    have e : readT 0 0 none = ({}, none) := rfl
    rw [e]
    by_cases h : most < 0 ∨ most < (((({} : GotV), (none : Option (List Int))).1.n : Nat) : Int)
    · rw [if_pos h]; rfl
    · rw [if_neg h]; rfl
  | some R =>
    have h4 := takeT_of4 most R
    cases h0 : takeT 0 0 R with
    | none =>
      rw [h0] at h4
      rw [readT_fail h0, readT_fail h4]
      by_cases h : most < 0 ∨ most < (((({} : GotV), (none : Option (List Int))).1.n : Nat) : Int)
      · rw [if_pos h]
      · rw [if_neg h]
    | some p =>
      obtain ⟨g, q⟩ := p
      rw [h0] at h4
      rw [readT_some h0]
      by_cases h : most < 0 ∨ most < (g.n : Int)
      · simp only [if_pos h] at h4 ⊢
        exact readT_fail h4
      · simp only [if_neg h] at h4 ⊢
        exact readT_some h4
theorem readT2_is (most : Int) (st : Option (List Int)) : readT 2 most st = if ((readT 4 most st).2.getD []).length < (readT 4 most st).1.n then ({}, none) else ({ s := strOfNums (((readT 4 most st).2.getD []).take (readT 4 most st).1.n) }, (readT 4 most st).2.map (·.drop (readT 4 most st).1.n)) := by
  cases st with
  | none => rfl
  | some R =>
    have h2 := takeT_of2 most R
    cases h4 : takeT 4 most R with
    | none =>
      rw [h4] at h2
      rw [readT_fail h4, readT_fail h2]; rfl
    | some p =>
      obtain ⟨g, q⟩ := p
      rw [h4] at h2
      rw [readT_some h4]
      simp only [Option.getD_some, Option.map_some]
      by_cases h : q.length < g.n
      · simp only [if_pos h] at h2 ⊢
        exact readT_fail h2
      · simp only [if_neg h] at h2 ⊢
        exact readT_some h2

/-- What stands at the front of what a reader has left. -/
theorem front_rd (st : Option (List Int)) (hb : ∀ z ∈ st.getD [], 0 ≤ z ∧ z ≤ 255) (hl : (st.getD []).length ≤ 1000000) (w : World) :
    Calls Tryz.prog 89 #[.string (strOfNums (st.getD []))] w fun e w' => w' = w ∧
      ((∃ (b : Bool) (n m : Nat) (q : List Int), e = .returned (.tuple #[.bool b, .int .u64 (n : Int), .int .i64 (m : Int)]) ∧ 0 < m ∧ m ≤ (st.getD []).length ∧ n ≤ 18446744073709551615 ∧ (b = true → 0 < n) ∧ frontT (st.getD []) = some (b, n, q) ∧ st.map (·.drop m) = some q) ∨
        (e = .returned (.tuple #[.bool false, .int .u64 0, .int .i64 0]) ∧ frontT (st.getD []) = none)) := by
  refine (front_any _ w hb hl).mono ?_
  rintro e w' ⟨⟨b, n, q, hf, rfl⟩ | ⟨hf, rfl⟩, rfl⟩
  · obtain ⟨h1, h2, h3, h4⟩ := frontT_is hf hb
    refine ⟨rfl, Or.inl ⟨b, n, _, q, rfl, by omega, by omega, h1, h4, hf, ?_⟩⟩
    cases st with
    | none => cases hf
    | some R => simp only [Option.getD_some] at h3 ⊢; rw [Option.map_some, h3]
  · exact ⟨rfl, Or.inr ⟨rfl, hf⟩⟩

theorem m0_false {m : Nat} (h : 0 < m) : ((m : Int) == 0) = false := by simpa using (by omega : ¬ m = 0)
set_option maxRecDepth 100000 in
set_option maxHeartbeats 4000000 in
theorem rdnum_any (hi r : Nat) (st : Option (List Int)) (w : World) (h : RdrIs w hi r st) : Calls Tryz.prog 79 #[.pointer (some ⟨r, 0, none⟩)] w (GivesT hi r (.int .u64 (readT 0 0 st).1.n) (readT 0 0 st).2 w) := by
  have HR := Lib.hid h
  have HF := Lib.hid (fun w => front_rd st h.ok h.len w)
  have HT := Lib.hid (readT0_is 0 h.ok)
  obtain ⟨G, hG⟩ : ∃ G, readT 0 0 st = G := ⟨_, rfl⟩
  rw [hG] at HT ⊢
  clear h hG
  generalize hS : strOfNums (st.getD []) = t at HF
  have HS := Lib.hid hS
  clear hS
  go_enter Tryz.func79, Tryz.ntmps79
  go_wp2_with (first
    | (go_at_call 90; (with_reducible refine (rest_any hi r st _ HR.out).mono ?_); rintro e wq ⟨rfl, hq⟩; obtain rfl := hq.symm; rw [HS.out])
    | (go_at_call 89; (with_reducible refine (HF.out _).mono ?_); rintro e wq ⟨hq, ⟨_ | _, n, m, q, rfl, m0, m1, n1, nb, f1, f2⟩ | ⟨rfl, f1⟩⟩ <;> (obtain rfl := hq.symm; have F1 := Lib.hid f1; clear f1; try (have F2 := Lib.hid f2; have m0i : ((m : Int) == 0) = false := m0_false m0; clear f2)))
    | (go_at_call 92; (with_reducible refine (take_any hi r st m _ HR.out m1).mono ?_); rintro e w1 ⟨rfl, h1, g1⟩; have H1 := Lib.hid h1; have G1 := Lib.hid g1; clear h1 g1)
    | (go_at_call 91; (with_reducible refine (spoil_any hi r st _ HR.out).mono ?_); rintro e w1 ⟨rfl, h1, g1⟩; have H1 := Lib.hid h1; have G1 := Lib.hid g1; clear h1 g1))
  · have hfin : Hid (G = ({ n := n }, some q)) := by
      rcases HT.out with ⟨n2, q2, e1, e2⟩ | ⟨⟨n2, q2, e1⟩, _⟩ | ⟨e1, _⟩
      · rw [F1.out] at e1; cases e1; exact e2
      · rw [F1.out] at e1; cases e1
      · rw [F1.out] at e1; cases e1
    go_ret
    rw [hfin.out]
    rw [F2.out] at H1
    exact ⟨rfl, H1.out, G1.out⟩
  · have hfin : Hid (G = ({}, none)) := by
      rcases HT.out with ⟨n2, q2, e1, e2⟩ | ⟨⟨n2, q2, e1⟩, e2⟩ | ⟨e1, _⟩
      · rw [F1.out] at e1; cases e1
      · exact e2
      · rw [F1.out] at e1; cases e1
    go_ret
    rw [hfin.out]
    exact ⟨rfl, H1.out, G1.out⟩
  · have hfin : Hid (G = ({}, none)) := by
      rcases HT.out with ⟨n2, q2, e1, e2⟩ | ⟨⟨n2, q2, e1⟩, e2⟩ | ⟨e1, e2⟩
      · rw [F1.out] at e1; cases e1
      · exact e2
      · exact e2
    go_ret
    rw [hfin.out]
    exact ⟨rfl, H1.out, G1.out⟩

/-- What front tells, ahead of the call. -/
theorem front_out (st : Option (List Int)) (hb : ∀ z ∈ st.getD [], 0 ≤ z ∧ z ≤ 255) (hl : (st.getD []).length ≤ 1000000) :
    (∃ (b : Bool) (n m : Nat) (q : List Int), 0 < m ∧ m ≤ (st.getD []).length ∧ n ≤ 18446744073709551615 ∧ (b = true → 0 < n) ∧ frontT (st.getD []) = some (b, n, q) ∧ st.map (·.drop m) = some q ∧
      ∀ w, Calls Tryz.prog 89 #[.string (strOfNums (st.getD []))] w fun e w' => w' = w ∧ e = .returned (.tuple #[.bool b, .int .u64 (n : Int), .int .i64 (m : Int)])) ∨
    (frontT (st.getD []) = none ∧ ∀ w, Calls Tryz.prog 89 #[.string (strOfNums (st.getD []))] w fun e w' => w' = w ∧ e = .returned (.tuple #[.bool false, .int .u64 0, .int .i64 0])) := by
  cases hf : frontT (st.getD []) with
  | none =>
    refine Or.inr ⟨rfl, fun w => (front_any _ w hb hl).mono ?_⟩
    rintro e w' ⟨⟨b, n, q, h, _⟩ | ⟨_, rfl⟩, rfl⟩
    · rw [hf] at h; cases h
    · exact ⟨rfl, rfl⟩
  | some p =>
    obtain ⟨b, n, q⟩ := p
    obtain ⟨h1, h2, h3, h4⟩ := frontT_is hf hb
    refine Or.inl ⟨b, n, (st.getD []).length - q.length, q, by omega, by omega, h1, h4, rfl, ?_, fun w => (front_any _ w hb hl).mono ?_⟩
    · cases st with
      | none => cases hf
      | some R => simp only [Option.getD_some] at h3 ⊢; rw [Option.map_some, h3]
    · rintro e w' ⟨⟨b2, n2, q2, h, rfl⟩ | ⟨h, _⟩, rfl⟩
      · rw [hf] at h; cases h; exact ⟨rfl, rfl⟩
      · rw [hf] at h; cases h
theorem u64_less {n : Nat} (h : (n : Int) ≤ 18446744073709551614) : IntKind.u64.wrap ((n : Int) + 1 - 1) = (n : Int) ∧ IntKind.u64.wrap (n : Int) = (n : Int) := by
  rw [IntKind.wrap_u64, IntKind.wrap_u64]; omega
theorem i64_back {n : Nat} (h : (n : Int) ≤ 9223372036854775807) : IntKind.i64.wrap (n : Int) = (n : Int) ∧ IntKind.i64.wrap (-(n : Int)) = -(n : Int) ∧ IntKind.i64.wrap (-(n : Int) - 1) = -(n : Int) - 1 := by
  rw [IntKind.wrap_i64, IntKind.wrap_i64, IntKind.wrap_i64]; omega
theorem int_top {n : Nat} (h : (n : Int) ≤ 9223372036854775807) : (n : Int) ≤ 18446744073709551614 := by omega

theorem leftN_is (st : Option (List Int)) : leftN st = (st.getD []).length := by cases st <;> rfl
theorem rdleft_any (hi r : Nat) (st : Option (List Int)) (w : World) (h : RdrIs w hi r st) : Calls Tryz.prog 81 #[.pointer (some ⟨r, 0, none⟩)] w (GivesT hi r (.int .i64 (leftN st)) st w) := by
  have HR := Lib.hid h
  have hsz : (strOfNums (st.getD [])).size = leftN st := by rw [leftN_is]; exact wstr_size _
  clear h
  generalize hS : strOfNums (st.getD []) = t at hsz
  have HS := Lib.hid hS
  clear hS
  go_enter Tryz.func81, Tryz.ntmps81
  go_wp2_with (go_at_call 90; (with_reducible refine (rest_any hi r st _ HR.out).mono ?_); rintro e wq ⟨rfl, hq⟩; obtain rfl := hq.symm; rw [HS.out])
  go_ret
  exact ⟨rfl, HR.out, OnlyB.refl _ _⟩

end Go.Proofs.YtejelednnacnaaaGreatDoor
