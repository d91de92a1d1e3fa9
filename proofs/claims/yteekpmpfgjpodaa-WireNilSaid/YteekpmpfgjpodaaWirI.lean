/-
  Package wire's reader: its calls, walked: Text, Flag, End; a reader that isn't there.
-/
import Derived.Test.YteekpmpfgjpodaaWirF
namespace Go.Proofs.Yteekpmpfgjpodaa
open Go.RowKit

theorem readT4_len (most : Int) (st : Option (List Int)) : ((readT 4 most st).1.n : Int) ≤ 9223372036854775807 ∨ 9223372036854775807 < most := by
  rw [readT4_is]
  by_cases h : most < 0 ∨ most < ((readT 0 0 st).1.n : Int)
  · rw [if_pos h]; exact Or.inl (by decide)
  · rw [if_neg h]
    by_cases h2 : (9223372036854775807 : Int) < most
    · exact Or.inr h2
    · exact Or.inl (by show ((readT 0 0 st).1.n : Int) ≤ _; omega)

set_option maxRecDepth 100000 in
set_option maxHeartbeats 4000000 in
theorem rdtext_any (hi r : Nat) (st : Option (List Int)) (most : Int) (w : World) (h : RdrIs w hi r st) (m0 : -9223372036854775808 ≤ most) (m1 : most ≤ 9223372036854775807) : Calls Try.prog 18 #[.pointer (some ⟨r, 0, none⟩), .int .i64 most] w (GivesT hi r (.string (readT 2 most st).1.s) (readT 2 most st).2 w) := by
  have HC := Lib.hid (rdcount_any hi r st most w h m0 m1)
  have hn9 : ((readT 4 most st).1.n : Int) ≤ 9223372036854775807 := by rcases readT4_len most st with h | h <;> omega
  rw [readT2_is]
  obtain ⟨G, hG⟩ : ∃ G, readT 4 most st = G := ⟨_, rfl⟩
  rw [hG] at HC hn9 ⊢
  clear hG h
  obtain ⟨⟨n, x1, x2, x3⟩, st1⟩ := G
  simp only [] at HC hn9 ⊢
  have hl := leftN_is st1
  by_cases hbig : (st1.getD []).length < n
  · rw [if_pos hbig]
    have hb : (leftN st1 : Int) < (n : Int) := by omega
    go_enter Try.func18, Try.ntmps18
    go_wp2_with (first
      | (go_at_call 24; (with_reducible refine (HC.out).mono ?_); rintro e w1 ⟨rfl, h1, g1⟩; have H1 := Lib.hid h1; have G1 := Lib.hid g1; clear h1 g1)
      | (go_at_call 19; (with_reducible refine (rdleft_any hi r st1 _ H1.out).mono ?_); rintro e w2 ⟨rfl, h2, g2⟩; have H2 := Lib.hid h2; have G2 := Lib.hid (G1.out.trans g2); clear h2 g2)
      | (go_at_call 29; (with_reducible refine (spoil_any hi r st1 _ H2.out).mono ?_); rintro e w3 ⟨rfl, h3, g3⟩; have H3 := Lib.hid h3; have G3 := Lib.hid (G2.out.trans g3); clear h3 g3))
    go_ret
    exact ⟨rfl, H3.out, G3.out⟩
  · rw [if_neg hbig]
    have hb : ¬ (leftN st1 : Int) < (n : Int) := by omega
    have hle : n ≤ (st1.getD []).length := by omega
    go_enter Try.func18, Try.ntmps18
    go_wp2_with (first
      | (go_at_call 24; (with_reducible refine (HC.out).mono ?_); rintro e w1 ⟨rfl, h1, g1⟩; have H1 := Lib.hid h1; have G1 := Lib.hid g1; clear h1 g1)
      | (go_at_call 19; (with_reducible refine (rdleft_any hi r st1 _ H1.out).mono ?_); rintro e w2 ⟨rfl, h2, g2⟩; have H2 := Lib.hid h2; have G2 := Lib.hid (G1.out.trans g2); clear h2 g2)
      | (go_at_call 30; (with_reducible refine (take_any hi r st1 n _ H2.out hle).mono ?_); rintro e w3 ⟨rfl, h3, g3⟩; have H3 := Lib.hid h3; have G3 := Lib.hid (G2.out.trans g3); clear h3 g3))
    go_ret
    exact ⟨rfl, H3.out, G3.out⟩

theorem flag_bytes : strOfNums [0] = ⟨#[0]⟩ ∧ strOfNums [1] = ⟨#[1]⟩ := ⟨rfl, rfl⟩
set_option maxRecDepth 100000 in
set_option maxHeartbeats 4000000 in
theorem rdflag_any (hi r : Nat) (st : Option (List Int)) (w : World) (h : RdrIs w hi r st) : Calls Try.prog 20 #[.pointer (some ⟨r, 0, none⟩)] w (GivesT hi r (.bool (readT 3 0 st).1.f) (readT 3 0 st).2 w) := by
  have HR := Lib.hid h
  have hok := h.ok
  have hlen := h.len
  have hrest := Lib.hid (fun w h => rest_any hi r st w h)
  by_cases hnil : st.getD [] = []
  · have hfin : Hid (readT 3 0 st = ({}, none)) := by
      cases st with
      | none => rfl
      | some R => obtain rfl : R = [] := hnil; rfl
    have he : strOfNums (st.getD []) = ⟨#[]⟩ := by rw [hnil]; rfl
    rw [he] at hrest
    clear h hok hlen hnil he
    go_enter Try.func20, Try.ntmps20
    go_wp2_with (first
      | (go_at_call 28; (with_reducible refine (hrest.out _ HR.out).mono ?_); rintro e wq ⟨rfl, hq⟩; obtain rfl := hq.symm)
      | (go_at_call 29; (with_reducible refine (spoil_any hi r st _ HR.out).mono ?_); rintro e w1 ⟨rfl, h1, g1⟩; have H1 := Lib.hid h1; have G1 := Lib.hid g1; clear h1 g1))
    go_ret
    rw [hfin.out]
    exact ⟨rfl, H1.out, G1.out⟩
  · obtain ⟨k, q, hst⟩ : ∃ k q, st = some (k :: q) := by
      cases st with
      | none => exact (hnil rfl).elim
      | some R => cases R with
        | nil => exact (hnil rfl).elim
        | cons k q => exact ⟨k, q, rfl⟩
    subst hst
    simp only [Option.getD_some] at hok hlen hrest
    obtain ⟨k0, k1⟩ := hok k (by simp)
    have hsz : (strOfNums (k :: q)).size = q.length + 1 := wstr_size _
    have hs0 : 0 < (strOfNums (k :: q)).size := by omega
    have hx0 : ((strOfNums (k :: q))[0].toNat : Int) = k := wstr_at hok 0 hs0
    obtain ⟨e1, e2⟩ := wstr_some (l := k :: q) (by simp)
    have htk : Hid (∀ w, RdrIs w hi r (some (k :: q)) → Calls Try.prog 30 #[.pointer (some ⟨r, 0, none⟩), .int .i64 1] w (GivesT hi r (.string (strOfNums [k])) (some q) w)) := fun w h => by
      have := take_any hi r (some (k :: q)) 1 w h (by simp)
      exact this
    generalize hS : strOfNums (k :: q) = t at hrest hsz hs0 hx0 e1 e2
    clear h hnil hok hS
    by_cases hk : 1 < k
    · have hfin : Hid (readT 3 0 (some (k :: q)) = ({}, none)) := readT_fail (by show (if k < 2 then _ else _) = none; rw [if_neg (by omega)])
      go_enter Try.func20, Try.ntmps20
      go_wp2_with (first
        | (go_at_call 28; (with_reducible refine (hrest.out _ HR.out).mono ?_); rintro e wq ⟨rfl, hq⟩; obtain rfl := hq.symm)
        | (go_at_call 29; (with_reducible refine (spoil_any hi r _ _ HR.out).mono ?_); rintro e w1 ⟨rfl, h1, g1⟩; have H1 := Lib.hid h1; have G1 := Lib.hid g1; clear h1 g1))
      go_ret
      rw [hfin.out]
      exact ⟨rfl, H1.out, G1.out⟩
    · have hfin : Hid (readT 3 0 (some (k :: q)) = ({ f := decide (k = 1) }, some q)) := readT_some (by show (if k < 2 then _ else _) = _; rw [if_pos (by omega)])
      by_cases hk1 : k = 1
      · subst hk1
        rw [flag_bytes.2] at htk
        go_enter Try.func20, Try.ntmps20
        go_wp2_with (first
          | (go_at_call 28; (with_reducible refine (hrest.out _ HR.out).mono ?_); rintro e wq ⟨rfl, hq⟩; obtain rfl := hq.symm)
          | (go_at_call 30; (with_reducible refine (htk.out _ HR.out).mono ?_); rintro e w1 ⟨rfl, h1, g1⟩; have H1 := Lib.hid h1; have G1 := Lib.hid g1; clear h1 g1))
        go_ret
        rw [hfin.out]
        exact ⟨rfl, H1.out, G1.out⟩
      · obtain rfl : k = 0 := by omega
        rw [flag_bytes.1] at htk
        go_enter Try.func20, Try.ntmps20
        go_wp2_with (first
          | (go_at_call 28; (with_reducible refine (hrest.out _ HR.out).mono ?_); rintro e wq ⟨rfl, hq⟩; obtain rfl := hq.symm)
          | (go_at_call 30; (with_reducible refine (htk.out _ HR.out).mono ?_); rintro e w1 ⟨rfl, h1, g1⟩; have H1 := Lib.hid h1; have G1 := Lib.hid g1; clear h1 g1))
        go_ret
        rw [hfin.out]
        exact ⟨rfl, H1.out, G1.out⟩

set_option maxRecDepth 100000 in
set_option maxHeartbeats 4000000 in
theorem rdend_any (hi r : Nat) (st : Option (List Int)) (w : World) (h : RdrIs w hi r st) : Calls Try.prog 22 #[.pointer (some ⟨r, 0, none⟩)] w (GivesT hi r (.int .i64 (endC st)) st w) := by
  have HR := Lib.hid h
  clear h
  cases st with
  | none =>
    have hB : Hid (∀ w, RdrIs w hi r none → Calls Try.prog 21 #[.pointer (some ⟨r, 0, none⟩)] w (GivesT hi r (.bool true) none w)) := fun w h => rdbad_any hi r none w h
    go_enter Try.func22, Try.ntmps22
    go_wp2_with (go_at_call 21; (with_reducible refine (hB.out _ HR.out).mono ?_); rintro e w1 ⟨rfl, h1, g1⟩; have H1 := Lib.hid h1; have G1 := Lib.hid g1; clear h1 g1)
    go_ret
    exact ⟨rfl, H1.out, G1.out⟩
  | some R =>
    have hB : Hid (∀ w, RdrIs w hi r (some R) → Calls Try.prog 21 #[.pointer (some ⟨r, 0, none⟩)] w (GivesT hi r (.bool false) (some R) w)) := fun w h => rdbad_any hi r (some R) w h
    have hL : Hid (∀ w, RdrIs w hi r (some R) → Calls Try.prog 19 #[.pointer (some ⟨r, 0, none⟩)] w (GivesT hi r (.int .i64 (R.length : Int)) (some R) w)) := fun w h => rdleft_any hi r (some R) w h
    cases R with
    | nil =>
      have hL2 : Hid (∀ w, RdrIs w hi r (some []) → Calls Try.prog 19 #[.pointer (some ⟨r, 0, none⟩)] w (GivesT hi r (.int .i64 0) (some []) w)) := hL
      go_enter Try.func22, Try.ntmps22
      go_wp2_with (first
        | (go_at_call 21; (with_reducible refine (hB.out _ HR.out).mono ?_); rintro e w1 ⟨rfl, h1, g1⟩; have H1 := Lib.hid h1; have G1 := Lib.hid g1; clear h1 g1)
        | (go_at_call 19; (with_reducible refine (hL2.out _ H1.out).mono ?_); rintro e w2 ⟨rfl, h2, g2⟩; have H2 := Lib.hid h2; have G2 := Lib.hid (G1.out.trans g2); clear h2 g2))
      go_ret
      exact ⟨rfl, H2.out, G2.out⟩
    | cons k q =>
      have hp : (0 : Int) < ((k :: q).length : Int) := by simp only [List.length_cons]; omega
      have hfin : Hid (endC (some (k :: q)) = 10) := rfl
      generalize hQ : k :: q = Q at hB hL hp hfin HR ⊢
      go_enter Try.func22, Try.ntmps22
      go_wp2_with (first
        | (go_at_call 21; (with_reducible refine (hB.out _ HR.out).mono ?_); rintro e w1 ⟨rfl, h1, g1⟩; have H1 := Lib.hid h1; have G1 := Lib.hid g1; clear h1 g1)
        | (go_at_call 19; (with_reducible refine (hL.out _ H1.out).mono ?_); rintro e w2 ⟨rfl, h2, g2⟩; have H2 := Lib.hid h2; have G2 := Lib.hid (G1.out.trans g2); clear h2 g2))
      go_ret
      rw [hfin.out]
      exact ⟨rfl, H2.out, G2.out⟩

/-- A reader that isn't there. -/
theorem front_none (w : World) : Calls Try.prog 27 #[.string ⟨#[]⟩] w fun e w' => e = .returned (.tuple #[.bool false, .int .u64 0, .int .i64 0]) ∧ w' = w := by
  have e0 : strOfNums [] = ⟨#[]⟩ := rfl
  rw [← e0]
  refine (front_any [] w (by intro z hz; cases hz) (by decide)).mono ?_
  rintro e w' ⟨⟨b, n, q, h, _⟩ | ⟨_, rfl⟩, rfl⟩
  · cases h
  · exact ⟨rfl, rfl⟩
set_option maxRecDepth 100000 in
set_option maxHeartbeats 4000000 in
theorem rdnum_nil (w : World) : Calls Try.prog 16 #[.pointer none] w fun e w' => e = .returned (.int .u64 0) ∧ Below w.heap.size w w' := by
  go_enter Try.func16, Try.ntmps16
  go_wp2_with (first
    | (go_at_call 28; (with_reducible refine (rest_nil _).mono ?_); rintro e wq ⟨rfl, hq⟩; obtain rfl := hq.symm)
    | (go_at_call 27; (with_reducible refine (front_none _).mono ?_); rintro e wq ⟨rfl, hq⟩; obtain rfl := hq.symm)
    | (go_at_call 29; (with_reducible refine (spoil_nil _).mono ?_); rintro e wq ⟨rfl, hq⟩; obtain rfl := hq.symm))
  go_ret
  exact ⟨rfl, Below.refl _ _⟩
set_option maxRecDepth 100000 in
set_option maxHeartbeats 4000000 in
theorem rdint_nil (w : World) : Calls Try.prog 17 #[.pointer none] w fun e w' => e = .returned (.int .i64 0) ∧ Below w.heap.size w w' := by
  go_enter Try.func17, Try.ntmps17
  go_wp2_with (first
    | (go_at_call 28; (with_reducible refine (rest_nil _).mono ?_); rintro e wq ⟨rfl, hq⟩; obtain rfl := hq.symm)
    | (go_at_call 27; (with_reducible refine (front_none _).mono ?_); rintro e wq ⟨rfl, hq⟩; obtain rfl := hq.symm)
    | (go_at_call 29; (with_reducible refine (spoil_nil _).mono ?_); rintro e wq ⟨rfl, hq⟩; obtain rfl := hq.symm))
  go_ret
  exact ⟨rfl, Below.refl _ _⟩
set_option maxRecDepth 100000 in
set_option maxHeartbeats 4000000 in
theorem rdflag_nil (w : World) : Calls Try.prog 20 #[.pointer none] w fun e w' => e = .returned (.bool false) ∧ Below w.heap.size w w' := by
  go_enter Try.func20, Try.ntmps20
  go_wp2_with (first
    | (go_at_call 28; (with_reducible refine (rest_nil _).mono ?_); rintro e wq ⟨rfl, hq⟩; obtain rfl := hq.symm)
    | (go_at_call 29; (with_reducible refine (spoil_nil _).mono ?_); rintro e wq ⟨rfl, hq⟩; obtain rfl := hq.symm))
  go_ret
  exact ⟨rfl, Below.refl _ _⟩
set_option maxRecDepth 100000 in
set_option maxHeartbeats 4000000 in
theorem rdbad_nil (w : World) : Calls Try.prog 21 #[.pointer none] w fun e w' => e = .returned (.bool true) ∧ Below w.heap.size w w' := by
  go_enter Try.func21, Try.ntmps21
  go_wp2
  go_ret
  exact ⟨rfl, Below.refl _ _⟩
set_option maxRecDepth 100000 in
set_option maxHeartbeats 4000000 in
theorem rdleft_nil (w : World) : Calls Try.prog 19 #[.pointer none] w fun e w' => e = .returned (.int .i64 0) ∧ Below w.heap.size w w' := by
  go_enter Try.func19, Try.ntmps19
  go_wp2_with (first
    | (go_at_call 28; (with_reducible refine (rest_nil _).mono ?_); rintro e wq ⟨rfl, hq⟩; obtain rfl := hq.symm))
  go_ret
  exact ⟨rfl, Below.refl _ _⟩
theorem take_nil (n : Int) (w : World) : Calls Try.prog 30 #[.pointer none, .int .i64 n] w fun e w' => e = .returned (.string ⟨#[]⟩) ∧ w' = w := by
  go_enter Try.func30, Try.ntmps30
  go_wp2
  go_ret
  exact ⟨rfl, rfl⟩
set_option maxRecDepth 100000 in
set_option maxHeartbeats 4000000 in
theorem rdcount_nil (most : Int) (w : World) (m0 : -9223372036854775808 ≤ most) (m1 : most ≤ 9223372036854775807) : Calls Try.prog 24 #[.pointer none, .int .i64 most] w fun e w' => e = .returned (.int .i64 0) ∧ Below w.heap.size w w' := by
  by_cases hneg : most < 0
  · go_enter Try.func24, Try.ntmps24
    go_wp2_with (first
      | (go_at_call 16; (with_reducible refine (rdnum_nil _).mono ?_); rintro e w1 ⟨rfl, g1⟩; have G1 := Lib.hid g1; clear g1)
      | (go_at_call 29; (with_reducible refine (spoil_nil _).mono ?_); rintro e wq ⟨rfl, hq⟩; obtain rfl := hq.symm))
    go_ret
    exact ⟨rfl, G1.out⟩
  · have hw : IntKind.u64.wrap most = most := by rw [IntKind.wrap_u64]; omega
    have hn : ¬ most < 0 := hneg
    go_enter Try.func24, Try.ntmps24
    go_wp2_with (go_at_call 16; (with_reducible refine (rdnum_nil _).mono ?_); rintro e w1 ⟨rfl, g1⟩; have G1 := Lib.hid g1; clear g1)
    go_ret
    exact ⟨rfl, G1.out⟩
set_option maxRecDepth 100000 in
set_option maxHeartbeats 4000000 in
theorem rdtext_nil (most : Int) (w : World) (m0 : -9223372036854775808 ≤ most) (m1 : most ≤ 9223372036854775807) : Calls Try.prog 18 #[.pointer none, .int .i64 most] w fun e w' => e = .returned (.string ⟨#[]⟩) ∧ Below w.heap.size w w' := by
  go_enter Try.func18, Try.ntmps18
  go_wp2_with (first
    | (go_at_call 24; (with_reducible refine (rdcount_nil most _ m0 m1).mono ?_); rintro e w1 ⟨rfl, g1⟩; have G1 := Lib.hid g1; clear g1)
    | (go_at_call 19; (with_reducible refine (rdleft_nil _).mono ?_); rintro e w2 ⟨rfl, g2⟩; have G2 := Lib.hid (below_step G1.out g2); clear g2)
    | (go_at_call 30; (with_reducible refine (take_nil 0 _).mono ?_); rintro e wq ⟨rfl, hq⟩; obtain rfl := hq.symm))
  go_ret
  exact ⟨rfl, G2.out⟩
set_option maxRecDepth 100000 in
set_option maxHeartbeats 4000000 in
theorem rdend_nil (w : World) : Calls Try.prog 22 #[.pointer none] w fun e w' => e = .returned (.int .i64 10) ∧ Below w.heap.size w w' := by
  go_enter Try.func22, Try.ntmps22
  go_wp2_with (go_at_call 21; (with_reducible refine (rdbad_nil _).mono ?_); rintro e w1 ⟨rfl, g1⟩; have G1 := Lib.hid g1; clear g1)
  go_ret
  exact ⟨rfl, G1.out⟩

end Go.Proofs.Yteekpmpfgjpodaa
