/-
  ScanWords: whether a text is a word, and which token; walked.
-/
import Derived.Test.YthainohkneociaaDoorPkScnLA
import Derived.Test.YthainohkneociaaDoorPkScne
namespace Go.Proofs.YthainohkneociaaDoor
open Go.RowKit

set_option maxRecDepth 100000 in
set_option maxHeartbeats 4000000 in
/-- Value, of whatever text. -/
theorem pvalue_any (s : ByteArray) (w : World) (hm : s.size ≤ 4294967296) : Calls Tryd.prog 6 #[.string s] w (GivesTk (valG (nums s)).1 (valG (nums s)).2 w) := by
  obtain ⟨B, hB⟩ : ∃ B, w.heap.size = B := ⟨_, rfl⟩
  obtain ⟨W0, hW0⟩ : ∃ W, w.alloc (.cells #[.int .i64 0, .string ⟨#[]⟩, .int .u64 0, .int .i64 0, .int .i64 0] 27) = W := ⟨_, rfl⟩
  have V0 : Var5 W0 B (.int .i64 0) (.string ⟨#[]⟩) (.int .u64 0) (.int .i64 0) (.int .i64 0) := by rw [← hW0]; exact Var5.fresh _ _ _ _ _ _ _ _ hB.symm
  have g0 : Below w.heap.size w W0 := by rw [← hW0]; exact (Below.refl _ _).alloc (Nat.le_refl _) _
  have HV := Lib.hid V0
  have HG : Hid (Below B w W0) := Lib.hid (by rw [← hB]; exact g0)
  have HB := Lib.hid hB
  obtain ⟨⟨⟨K, T, N⟩, c⟩, hp⟩ : ∃ p, valG (nums s) = p := ⟨_, rfl⟩
  obtain ⟨VV, hVV⟩ : ∃ v, valV (valG (nums s)) = v := ⟨_, rfl⟩
  have RV := Lib.hid (fun W => svalue_p s W hm)
  have RT : Hid (∀ W, Calls Tryd.prog 14 #[VV] W fun e w' => e = .returned (.tuple #[.agg #[.int .i64 (K : Int), .string (strOfNums T), .int .u64 (N : Int), .int .i64 0, .int .i64 0], .int .i64 c]) ∧ Below W.heap.size W w') := Lib.hid (fun W => by
    have := stold_any (nums s) W
    rw [hVV, hp] at this
    exact this)
  rw [hVV] at RV
  rw [hp]
  show Calls Tryd.prog 6 #[.string s] w (fun e w' => e = .returned (.tuple #[.agg #[.int .i64 (K : Int), .string (strOfNums T), .int .u64 (N : Int), .int .i64 0, .int .i64 0], .int .i64 c]) ∧ Below w.heap.size w w')
  clear V0 g0 hp hVV
  go_enter Tryd.func6, Tryd.ntmps6
  go_wp2_with (first
    | (go_at_call 15; (with_reducible refine (RV.out _).mono ?_); rintro e w1 ⟨rfl, g1⟩; have G1 : Hid (Below B w w1) := Lib.hid (HB.out ▸ below_step (HB.out.symm ▸ HG.out) g1); have V1 := Lib.hid (HV.out.after g1); clear g1)
    | (go_at_call 14; (with_reducible refine (RT.out _).mono ?_); rintro e w2 ⟨rfl, g2⟩; have G2 : Hid (Below B w w2) := Lib.hid (HB.out ▸ below_step (HB.out.symm ▸ G1.out) g2); have V2 := Lib.hid (V1.out.after g2); have c0 := V2.out.c0; have c1 := V2.out.c1; have c2 := V2.out.c2; have c3 := V2.out.c3; have c4 := V2.out.c4; have q1 := V2.out.q; clear g2))
  refine bodyPost_ret (tok_results (f := Tryd.f6) rfl (V2.out.put (.int .i64 (K : Int)) (.string (strOfNums T)) (.int .u64 (N : Int)) (.int .i64 0) (.int .i64 0)) rfl rfl) rfl ?_
  exact ⟨rfl, HB.out ▸ below_put5 G2.out (Nat.le_refl _) _ _ _ _ _⟩

/-- The tokens of a text of word runes. -/
theorem word_toks {l : List Int} (h0 : l ≠ []) (hw : ∀ r ∈ l, withinB r = true) : outF l = if (valF l).2 = 0 then ([((valF l).1, 0), (tk0, l.length)], 0, 0, 0) else ([], (valF l).2, 1, 1) := by
  have hl : 0 < l.length := List.length_pos_iff.mpr h0
  have hf : withinB (l.getD 0 0) = true := hw _ (getD_mem hl)
  have no : ∀ c : Int, withinB c = false → l.getD 0 0 ≠ c := fun c hc e => by rw [e, hc] at hf; cases hf
  have hp : pieceN l = l.length := by
    unfold pieceN
    rw [if_neg (no 35 (by decide)), if_neg (no 34 (by decide)), if_pos hf]
    unfold wordEnd
    have := takeWhile_whole (p := withinB) l [] hw (fun r t e => by cases e)
    rw [List.append_nil] at this
    rw [List.drop_zero, this, Nat.zero_add]
  have hg : gapB (l.getD 0 0) = false := by
    have n1 := no 32 (by decide)
    have n2 := no 9 (by decide)
    have n3 := no 10 (by decide)
    generalize l.getD 0 0 = v at n1 n2 n3
    unfold gapB
    simp [n1, n2, n3]
  have ht : tokP l = valF l := by
    unfold tokP
    rw [if_neg (no 123 (by decide)), if_neg (no 125 (by decide)), if_neg (no 59 (by decide)), if_neg (no 34 (by decide))]
  have h1 := tokF_piece hl hg (no 35 (by decide))
  rw [List.drop_zero, hp, List.take_length, ht] at h1
  by_cases hc : (valF l).2 = 0
  · rw [if_pos hc] at h1 ⊢
    have h2 := tokF_end (l := l) (i := 0 + l.length) (by omega)
    rw [h2] at h1
    rw [outF_fine h1]; rfl
  · rw [if_neg hc] at h1 ⊢
    rw [outF_bad h1]; rfl
/-- A place of its own. -/
structure SpotMade (w : World) (g : Nat) (W2 W3 : World) : Prop where
  g0 : w.heap.size = g
  a2 : w.alloc (.cells #[.int .i64 0, .int .i64 0] 25) = W2
  s3 : ((W2.setCell ⟨g, 0, none⟩ (.int .i64 1)).setCell ⟨g, 1, none⟩ (.int .i64 1)) = W3
  v2 : Var2 W2 g (.int .i64 0) (.int .i64 0)
  v3 : Var2 W3 g (.int .i64 1) (.int .i64 1)
  bel : Below w.heap.size w W3
theorem spot_made (w : World) : ∃ g W2 W3, SpotMade w g W2 W3 := by
  obtain ⟨g, hg⟩ : ∃ g, w.heap.size = g := ⟨_, rfl⟩
  obtain ⟨W2, hW2⟩ : ∃ W, w.alloc (.cells #[.int .i64 0, .int .i64 0] 25) = W := ⟨_, rfl⟩
  have b2 : Below w.heap.size w W2 := by rw [← hW2]; exact (Below.refl _ _).alloc (Nat.le_refl _) _
  have V2 : Var2 W2 g (.int .i64 0) (.int .i64 0) := by rw [← hW2]; exact Var2.fresh _ _ _ _ _ hg.symm
  exact ⟨g, W2, _, hg, hW2, rfl, V2, V2.put _ _, below_put2 b2 (by omega) _ _⟩

set_option maxRecDepth 100000 in
set_option maxHeartbeats 16000000 in
theorem scnw_no (s : ByteArray) (w : World) (env : Env w) (hm : s.size ≤ 500) (hw : ¬ ∀ r ∈ runesOf (nums s), withinB r = true) : Calls Tryd.prog 3 #[.string s] w fun e w' => e = .returned (.bool true) ∧ Below w.heap.size w w' := by
  have HA := Lib.hid (scn_awake w env)
  have HENV := Lib.hid env
  have hok := runes_ok (nums_byte s)
  have hll := runes_le (nums s)
  rw [nums_length] at hll
  have HRU := Lib.hid (fun W => rrunes_any s W (by omega))
  have hva := fun W => pvalue_any s W (by omega)
  have hsz : ¬ (500 : Int) < (s.size : Int) := by omega
  obtain ⟨r, hr, hrw⟩ : ∃ r, r ∈ runesOf (nums s) ∧ withinB r = false := by
    refine Classical.byContradiction fun hn => hw fun r hr => ?_
    cases hx : withinB r with
    | true => rfl
    | false => exact (hn ⟨r, hr, hx⟩).elim
  rw [valG_else (nums_byte s) hr hrw] at hva
  obtain ⟨l, hl⟩ : ∃ l, runesOf (nums s) = l := ⟨_, rfl⟩
  rw [hl] at HRU hll hw
  have HVA : Hid (∀ W, Calls Tryd.prog 6 #[.string s] W fun e w' => e = .returned (.tuple #[.agg #[.int .i64 0, .string ⟨#[]⟩, .int .u64 0, .int .i64 0, .int .i64 0], .int .i64 5]) ∧ Below W.heap.size W w') := Lib.hid hva
  have HW := Lib.hid hw
  clear env hok hva hr hrw hl hm hw
  go_enter Tryd.func3, Tryd.ntmps3
  go_wp2_with (first | (go_at_call 5; (with_reducible refine (HA.out).mono ?_); rintro e w1 ⟨rfl, g1⟩; have G1 := Lib.hid g1; have HE1 := Lib.hid (HENV.out.step g1); clear g1) | (go_at_call 6; (with_reducible refine (HVA.out _).mono ?_); rintro e w2 ⟨rfl, g2⟩; obtain ⟨tg, W5, W6, W7, W8, tm⟩ := tok_made w2 0 ⟨#[]⟩ 0 1 1; have G6 := Lib.hid (below_step (below_step G1.out g2) tm.b6); have HE6 := Lib.hid (HE1.out.step (below_step g2 tm.b6)); have T6 := Lib.hid tm.f6; have htg := tm.g0; have ha5 := tm.a5; have hs6 := tm.s6; have d0 := tm.f5.c0; have d1 := tm.f5.c1; have d2 := tm.f5.c2; have d3 := tm.f5.c3; have d4 := tm.f5.c4; have dq := tm.f5.q; clear g2 tm) | (go_at_call 7; (with_reducible refine (HRU.out _).mono ?_); rintro e w7 ⟨v7, rfl, i7, g7, _⟩; have G7 := Lib.hid (below_step G6.out g7); have HE7 := Lib.hid (HE6.out.step g7); have T7 := Lib.hid (T6.out.after g7); have HI7 := Lib.hid i7; clear g7 i7 htg ha5 hs6 d0 d1 d2 d3 d4 dq))
  obtain ⟨b, off, cap, rfl, hcap, hb, hcell⟩ := HI7.out
  have HC := Lib.hid hcell
  have t0 := T7.out.c0; have t1 := T7.out.c1; have t2 := T7.out.c2; have t3 := T7.out.c3; have t4 := T7.out.c4
  obtain ⟨n, hn⟩ : ∃ n, l.length = n := ⟨_, rfl⟩
  have HN := Lib.hid hn
  rw [hn] at hll hcap ⊢
  clear hcell hn
  go_loop [6] (fun v6 => ∃ j : Nat, j ≤ n ∧ v6 = .int .i64 (j : Int) ∧ Hid (∀ i, i < j → withinB (l.getD i 0) = true)) (fun v6 => n - (intOf v6).toNat)
  case atStart => exact ⟨0, Nat.zero_le _, rfl, fun i hi => by omega⟩
  case round =>
    obtain ⟨j, hj, rfl, hall⟩ := hrel
    by_cases hjn : j < n
    · have xj := HC.out j (by rw [HN.out]; exact hjn)
      obtain ⟨z, hz⟩ : ∃ z, l.getD j 0 = z := ⟨_, rfl⟩
      rw [hz] at xj
      have HZ := Lib.hid hz
      have hj1 : IntKind.i64.wrap ((j : Int) + 1) = ((j + 1 : Nat) : Int) := by rw [IntKind.wrap_i64]; omega
      clear hz
      obtain ⟨q, hq⟩ : ∃ q, withinB z = q := ⟨_, rfl⟩
      have HW1 := Lib.hid (fun W => swithin_is hq W)
      have HQ := Lib.hid hq
      clear hq
      cases q with
      | true =>
        have hnext : Hid (∀ i, i < j + 1 → withinB (l.getD i 0) = true) := fun i hi => by
          by_cases e : i = j
          · rw [e, HZ.out]; exact HQ.out
          · exact hall.out i (by omega)
        go_wp2_with (go_at_call 8; (with_reducible refine (HW1.out _).mono ?_); rintro e w1 ⟨rfl, rfl⟩)
        go_round
        case rel => exact ⟨j + 1, by omega, by go_num, hnext⟩
        case measure => simp [intOf]; omega
      | false =>
        go_wp2_with (go_at_call 8; (with_reducible refine (HW1.out _).mono ?_); rintro e w1 ⟨rfl, rfl⟩)
        go_ret
        exact ⟨rfl, G7.out⟩
    · exfalso
      refine HW.out fun r hr => ?_
      obtain ⟨i, hi, rfl⟩ := List.mem_iff_getElem.mp hr
      have := hall.out i (by rw [HN.out] at hi; omega)
      rw [List.getD_eq_getElem?_getD, List.getElem?_eq_getElem hi] at this
      exact this
set_option maxRecDepth 100000 in
set_option maxHeartbeats 16000000 in
theorem scnw_empty (s : ByteArray) (w : World) (env : Env w) (hm : s.size ≤ 500) (h0 : s = ⟨#[]⟩) : Calls Tryd.prog 3 #[.string s] w fun e w' => e = .returned (.bool true) ∧ Below w.heap.size w w' := by
  have hw : ∀ r ∈ runesOf (nums s), withinB r = true := by
    subst h0
    have e : runesOf (nums ⟨#[]⟩) = [] := runes_nil
    rw [e]; intro r hr; cases hr
  have HA := Lib.hid (scn_awake w env)
  have HENV := Lib.hid env
  have hok := runes_ok (nums_byte s)
  have hll := runes_le (nums s)
  rw [nums_length] at hll
  have HRU := Lib.hid (fun W => rrunes_any s W (by omega))
  have hva := fun W => pvalue_any s W (by omega)
  have hsz : ¬ (500 : Int) < (s.size : Int) := by omega
  obtain ⟨⟨⟨K, T, N⟩, c⟩, hp⟩ : ∃ p, valF (runesOf (nums s)) = p := ⟨_, rfl⟩
  rw [valG_valF (nums_byte s) (fun r hr => within_low (hw r hr)), hp] at hva
  obtain ⟨l, hl⟩ : ∃ l, runesOf (nums s) = l := ⟨_, rfl⟩
  rw [hl] at HRU hll hw hok hp
  obtain ⟨S, hS⟩ : ∃ S, strOfNums T = S := ⟨_, rfl⟩
  have HVA : Hid (∀ W, Calls Tryd.prog 6 #[.string s] W fun e w' => e = .returned (.tuple #[.agg #[.int .i64 (K : Int), .string S, .int .u64 (N : Int), .int .i64 0, .int .i64 0], .int .i64 c]) ∧ Below W.heap.size W w') := Lib.hid (by rw [← hS]; exact hva)
  have HVR : Hid (∀ W v, Ints .i32 W v l → Calls Tryd.prog 9 #[v] W fun e w' => e = .returned (.tuple #[.agg #[.int .i64 (K : Int), .string S, .int .u64 (N : Int), .int .i64 0, .int .i64 0], .int .i64 c]) ∧ Below W.heap.size W w') := Lib.hid (fun W v hv => by
    have := svalue_any v l W hv hok (by omega)
    rw [hp] at this
    rw [← hS]
    exact this)
  have HW := Lib.hid hw
  have hcc : (c != c) = false := by simp
  have hl0 : l = [] := by rw [← hl, h0]; exact runes_nil
  have hc5 : c = 5 := by
    have h1 : valF l = (tk0, 5) := valF_none (Or.inl hl0) (fun hN => by have := hN.1; rw [hl0] at this; simp at this)
    rw [hp] at h1
    exact congrArg Prod.snd h1
  have HTK : Hid (∀ W, Env W → Calls Tryd.prog 10 #[.string s] W (fun e w' => ∃ v, e = .returned (.tuple #[v, .agg #[.int .i64 0, .int .i64 0, .int .i64 0]]) ∧ RowK 27 5 w' W.heap.size v (toksV [] [(tk0, 0)]) ∧ Below W.heap.size W w')) := Lib.hid (fun W e => by
    have h := (ptoks_any s W e (by omega)).mono (fun e w' h => h.out)
    rw [hl, hl0, outF_fine (L := []) (tokF_end (by simp))] at h
    exact h)
  subst hc5
  clear env hok hva hl hm hw hp hS h0 hcc
  go_enter Tryd.func3, Tryd.ntmps3
  go_wp2_with (first | (go_at_call 5; (with_reducible refine (HA.out).mono ?_); rintro e w1 ⟨rfl, g1⟩; have G1 := Lib.hid g1; have HE1 := Lib.hid (HENV.out.step g1); clear g1) | (go_at_call 6; (with_reducible refine (HVA.out _).mono ?_); rintro e w2 ⟨rfl, g2⟩; obtain ⟨tg, W5, W6, W7, W8, tm⟩ := tok_made w2 (K : Int) S (N : Int) 1 1; have G6 := Lib.hid (below_step (below_step G1.out g2) tm.b6); have HE6 := Lib.hid (HE1.out.step (below_step g2 tm.b6)); have T6 := Lib.hid tm.f6; have htg := tm.g0; have ha5 := tm.a5; have hs6 := tm.s6; have d0 := tm.f5.c0; have d1 := tm.f5.c1; have d2 := tm.f5.c2; have d3 := tm.f5.c3; have d4 := tm.f5.c4; have dq := tm.f5.q; clear g2 tm) | (go_at_call 7; (with_reducible refine (HRU.out _).mono ?_); rintro e w7 ⟨v7, rfl, i7, g7, _⟩; have G7 := Lib.hid (below_step G6.out g7); have HE7 := Lib.hid (HE6.out.step g7); have T7 := Lib.hid (T6.out.after g7); have HI7 := Lib.hid i7; clear g7 i7 htg ha5 hs6 d0 d1 d2 d3 d4 dq))
  obtain ⟨b, off, cap, rfl, hcap, hb, hcell⟩ := HI7.out
  have HC := Lib.hid hcell
  have t0 := T7.out.c0; have t1 := T7.out.c1; have t2 := T7.out.c2; have t3 := T7.out.c3; have t4 := T7.out.c4
  obtain ⟨n, hn⟩ : ∃ n, l.length = n := ⟨_, rfl⟩
  have HN := Lib.hid hn
  rw [hn] at hll hcap ⊢
  clear hcell hn
  have hn0 : n = 0 := by rw [← HN.out, hl0]; rfl
  subst hn0
  clear hl0 hll
  have HI8 : Hid (Ints .i32 w7 (.slice (some ⟨b, off, none⟩) 0 cap) l) := Lib.hid (by have := HI7.out; rw [HN.out] at this; exact this)
  go_loop [6] (fun v6 => ∃ j : Nat, j ≤ 0 ∧ v6 = .int .i64 (j : Int)) (fun v6 => 0 - (intOf v6).toNat)
  case atStart => exact ⟨0, Nat.zero_le _, rfl⟩
  case round =>
    obtain ⟨j, hj, rfl⟩ := hrel
    obtain rfl : j = 0 := by omega
    go_wp2_with (first | (go_at_call 9; (with_reducible refine (HVR.out w7 (.slice (some ⟨b, off, none⟩) 0 cap) HI8.out).mono ?_); rintro e w9 ⟨rfl, g9⟩; obtain ⟨ug, U5, U6, U7, U8, um⟩ := tok_made w9 (K : Int) S (N : Int) 1 1; have g10 := below_step g9 um.b6; have G10 := Lib.hid (below_step G7.out g10); have HE10 := Lib.hid (HE7.out.step g10); have T10 := Lib.hid (T7.out.after g10); have X10 := Lib.hid um.f6; have hug := um.g0; have hua := um.a5; have hus := um.s6; have d0 := um.f5.c0; have d1 := um.f5.c1; have d2 := um.f5.c2; have d3 := um.f5.c3; have d4 := um.f5.c4; have dq := um.f5.q; have e0 := T10.out.c0; have e1 := T10.out.c1; have e2 := T10.out.c2; have e3 := T10.out.c3; have e4 := T10.out.c4; have f0 := X10.out.c0; have f1 := X10.out.c1; have f2 := X10.out.c2; have f3 := X10.out.c3; have f4 := X10.out.c4; clear g9 g10 um) | (go_at_call 10; (with_reducible refine (HTK.out _ HE10.out).mono ?_); rintro e w11 ⟨v11, rfl, r11, g11⟩; clear hug hua hus d0 d1 d2 d3 d4 dq e0 e1 e2 e3 e4 f0 f1 f2 f3 f4 t0 t1 t2 t3 t4; obtain ⟨rg, rc, rfl, _, _, _⟩ := r11.form (by decide); rw [show (toksV [] [(tk0, 0)]).length = 1 from rfl]; obtain ⟨fg, F5, F6, fm⟩ := fault_made w11 0 0 0; have g12 := below_step g11 fm.bel; have G12 := Lib.hid (below_step G10.out g12); have T12 := Lib.hid (T10.out.after g12); have Y12 := Lib.hid fm.v3; have hfg := fm.g0; have hfa := fm.a2; have hfs := fm.s3; have p0 := fm.v2.c0; have p1 := fm.v2.c1; have p2 := fm.v2.c2; have p3 := fm.v2.q0; have p4 := fm.v2.q1; have p5 := fm.v2.q2; have HFT : Hid (¬ tg = fg) := Lib.hid (by rw [← hfg]; exact Nat.ne_of_lt (T10.out.after g11).s); have e0 := T12.out.c0; have e1 := T12.out.c1; have e2 := T12.out.c2; have e3 := T12.out.c3; have e4 := T12.out.c4; have j0 := Y12.out.c0; have j1 := Y12.out.c1; have j2 := Y12.out.c2; clear r11 g11 g12 fm))
    go_ret
    exact ⟨rfl, G12.out⟩
set_option maxRecDepth 100000 in
set_option maxHeartbeats 16000000 in
theorem scnw_bad (s : ByteArray) (w : World) (env : Env w) (hm : s.size ≤ 500) (h0 : s ≠ ⟨#[]⟩) (hw : ∀ r ∈ runesOf (nums s), withinB r = true) (hc : (valF (runesOf (nums s))).2 ≠ 0) : Calls Tryd.prog 3 #[.string s] w fun e w' => e = .returned (.bool true) ∧ Below w.heap.size w w' := by
  have HA := Lib.hid (scn_awake w env)
  have HENV := Lib.hid env
  have hok := runes_ok (nums_byte s)
  have hll := runes_le (nums s)
  rw [nums_length] at hll
  have HRU := Lib.hid (fun W => rrunes_any s W (by omega))
  have hva := fun W => pvalue_any s W (by omega)
  have hsz : ¬ (500 : Int) < (s.size : Int) := by omega
  obtain ⟨⟨⟨K, T, N⟩, c⟩, hp⟩ : ∃ p, valF (runesOf (nums s)) = p := ⟨_, rfl⟩
  rw [valG_valF (nums_byte s) (fun r hr => within_low (hw r hr)), hp] at hva
  obtain ⟨l, hl⟩ : ∃ l, runesOf (nums s) = l := ⟨_, rfl⟩
  rw [hl] at HRU hll hw hok hp hc
  rw [hp] at hc
  obtain ⟨S, hS⟩ : ∃ S, strOfNums T = S := ⟨_, rfl⟩
  have HVA : Hid (∀ W, Calls Tryd.prog 6 #[.string s] W fun e w' => e = .returned (.tuple #[.agg #[.int .i64 (K : Int), .string S, .int .u64 (N : Int), .int .i64 0, .int .i64 0], .int .i64 c]) ∧ Below W.heap.size W w') := Lib.hid (by rw [← hS]; exact hva)
  have HVR : Hid (∀ W v, Ints .i32 W v l → Calls Tryd.prog 9 #[v] W fun e w' => e = .returned (.tuple #[.agg #[.int .i64 (K : Int), .string S, .int .u64 (N : Int), .int .i64 0, .int .i64 0], .int .i64 c]) ∧ Below W.heap.size W w') := Lib.hid (fun W v hv => by
    have := svalue_any v l W hv hok (by omega)
    rw [hp] at this
    rw [← hS]
    exact this)
  have HW := Lib.hid hw
  have hcc : (c != c) = false := by simp
  have hl0 : l ≠ [] := fun e => h0 (empty_of (size_of_runes.mpr (by rw [hl]; exact e)))
  have hwt := word_toks hl0 hw
  rw [hp] at hwt
  have hc0 : c ≠ 0 := hc
  rw [if_neg (show ¬ ((⟨K, T, N⟩ : TkV), c).2 = 0 from hc0)] at hwt
  have HTK : Hid (∀ W, Env W → Calls Tryd.prog 10 #[.string s] W (fun e w' => ∃ v, e = .returned (.tuple #[v, .agg #[.int .i64 c, .int .i64 1, .int .i64 1]]) ∧ RowK 27 5 w' W.heap.size v (toksV l []) ∧ Below W.heap.size W w')) := Lib.hid (fun W e => by
    have h := (ptoks_any s W e (by omega)).mono (fun e w' h => h.out)
    rw [hl, hwt] at h
    exact h)
  have hcb : (c != 0) = true := by simpa using hc0
  have hln : 0 < l.length := List.length_pos_iff.mpr hl0
  clear env hok hva hm hw hp hS h0 hc hc0 hwt hl hl0
  go_enter Tryd.func3, Tryd.ntmps3
  go_wp2_with (first | (go_at_call 5; (with_reducible refine (HA.out).mono ?_); rintro e w1 ⟨rfl, g1⟩; have G1 := Lib.hid g1; have HE1 := Lib.hid (HENV.out.step g1); clear g1) | (go_at_call 6; (with_reducible refine (HVA.out _).mono ?_); rintro e w2 ⟨rfl, g2⟩; obtain ⟨tg, W5, W6, W7, W8, tm⟩ := tok_made w2 (K : Int) S (N : Int) 1 1; have G6 := Lib.hid (below_step (below_step G1.out g2) tm.b6); have HE6 := Lib.hid (HE1.out.step (below_step g2 tm.b6)); have T6 := Lib.hid tm.f6; have htg := tm.g0; have ha5 := tm.a5; have hs6 := tm.s6; have d0 := tm.f5.c0; have d1 := tm.f5.c1; have d2 := tm.f5.c2; have d3 := tm.f5.c3; have d4 := tm.f5.c4; have dq := tm.f5.q; clear g2 tm) | (go_at_call 7; (with_reducible refine (HRU.out _).mono ?_); rintro e w7 ⟨v7, rfl, i7, g7, _⟩; have G7 := Lib.hid (below_step G6.out g7); have HE7 := Lib.hid (HE6.out.step g7); have T7 := Lib.hid (T6.out.after g7); have HI7 := Lib.hid i7; clear g7 i7 htg ha5 hs6 d0 d1 d2 d3 d4 dq))
  obtain ⟨b, off, cap, rfl, hcap, hb, hcell⟩ := HI7.out
  have HC := Lib.hid hcell
  have t0 := T7.out.c0; have t1 := T7.out.c1; have t2 := T7.out.c2; have t3 := T7.out.c3; have t4 := T7.out.c4
  obtain ⟨n, hn⟩ : ∃ n, l.length = n := ⟨_, rfl⟩
  have HN := Lib.hid hn
  rw [hn] at hll hcap ⊢
  clear hcell hn
  rw [HN.out] at hln
  have hnb : ((n : Int) == 0) = false := by simp; omega
  clear hln
  have HI8 : Hid (Ints .i32 w7 (.slice (some ⟨b, off, none⟩) n cap) l) := Lib.hid (by have := HI7.out; rw [HN.out] at this; exact this)
  go_loop [6] (fun v6 => ∃ j : Nat, j ≤ n ∧ v6 = .int .i64 (j : Int)) (fun v6 => n - (intOf v6).toNat)
  case atStart => exact ⟨0, Nat.zero_le _, rfl⟩
  case round =>
    obtain ⟨j, hj, rfl⟩ := hrel
    by_cases hjn : j < n
    · have xj := HC.out j (by rw [HN.out]; exact hjn)
      have hq := HW.out _ (getD_mem (zs := l) (i := j) (by rw [HN.out]; exact hjn))
      obtain ⟨z, hz⟩ : ∃ z, l.getD j 0 = z := ⟨_, rfl⟩
      rw [hz] at xj hq
      have hj1 : IntKind.i64.wrap ((j : Int) + 1) = ((j + 1 : Nat) : Int) := by rw [IntKind.wrap_i64]; omega
      have HW1 := Lib.hid (fun W => swithin_is hq W)
      clear hz hq
      go_wp2_with (go_at_call 8; (with_reducible refine (HW1.out _).mono ?_); rintro e w1 ⟨rfl, rfl⟩)
      go_round
      case rel => exact ⟨j + 1, by omega, by go_num⟩
      case measure => simp [intOf]; omega
    · obtain rfl : j = n := by omega
      go_wp2_with (first | (go_at_call 9; (with_reducible refine (HVR.out w7 (.slice (some ⟨b, off, none⟩) j cap) HI8.out).mono ?_); rintro e w9 ⟨rfl, g9⟩; obtain ⟨ug, U5, U6, U7, U8, um⟩ := tok_made w9 (K : Int) S (N : Int) 1 1; have g10 := below_step g9 um.b6; have G10 := Lib.hid (below_step G7.out g10); have HE10 := Lib.hid (HE7.out.step g10); have T10 := Lib.hid (T7.out.after g10); have X10 := Lib.hid um.f6; have hug := um.g0; have hua := um.a5; have hus := um.s6; have d0 := um.f5.c0; have d1 := um.f5.c1; have d2 := um.f5.c2; have d3 := um.f5.c3; have d4 := um.f5.c4; have dq := um.f5.q; have e0 := T10.out.c0; have e1 := T10.out.c1; have e2 := T10.out.c2; have e3 := T10.out.c3; have e4 := T10.out.c4; have f0 := X10.out.c0; have f1 := X10.out.c1; have f2 := X10.out.c2; have f3 := X10.out.c3; have f4 := X10.out.c4; clear g9 g10 um) | (go_at_call 10; (with_reducible refine (HTK.out _ HE10.out).mono ?_); rintro e w11 ⟨v11, rfl, r11, g11⟩; clear hug hua hus d0 d1 d2 d3 d4 dq e0 e1 e2 e3 e4 f0 f1 f2 f3 f4 t0 t1 t2 t3 t4; obtain ⟨ra, rc, rfl⟩ := r11.size; rw [show (toksV l []).length = 0 from rfl]; obtain ⟨fg, F5, F6, fm⟩ := fault_made w11 c 1 1; have g12 := below_step g11 fm.bel; have G12 := Lib.hid (below_step G10.out g12); have T12 := Lib.hid (T10.out.after g12); have Y12 := Lib.hid fm.v3; have hfg := fm.g0; have hfa := fm.a2; have hfs := fm.s3; have p0 := fm.v2.c0; have p1 := fm.v2.c1; have p2 := fm.v2.c2; have p3 := fm.v2.q0; have p4 := fm.v2.q1; have p5 := fm.v2.q2; have HFT : Hid (¬ tg = fg) := Lib.hid (by rw [← hfg]; exact Nat.ne_of_lt (T10.out.after g11).s); have e0 := T12.out.c0; have e1 := T12.out.c1; have e2 := T12.out.c2; have e3 := T12.out.c3; have e4 := T12.out.c4; have j0 := Y12.out.c0; have j1 := Y12.out.c1; have j2 := Y12.out.c2; clear r11 g11 g12; obtain ⟨ag, A2, A3, am⟩ := spot_made F6; have hag := am.g0; have haa := am.a2; have has := am.s3; have o0 := am.v2.c0; have o1 := am.v2.c1; have o2 := am.v2.q0; have o3 := am.v2.q1; have y0 := am.v3.c0; have y1 := am.v3.c1; have G13 := Lib.hid (below_step G12.out am.bel); have Y13 := Lib.hid (Y12.out.after am.bel); have T13 := Lib.hid (T12.out.after am.bel); have k0 := Y13.out.c0; have k1 := Y13.out.c1; have k2 := Y13.out.c2; clear am fm))
      go_ret
      exact ⟨rfl, G13.out⟩
set_option maxRecDepth 100000 in
set_option maxHeartbeats 16000000 in
theorem scnw_fine (s : ByteArray) (w : World) (env : Env w) (hm : s.size ≤ 500) (h0 : s ≠ ⟨#[]⟩) (hw : ∀ r ∈ runesOf (nums s), withinB r = true) (hc : (valF (runesOf (nums s))).2 = 0) : Calls Tryd.prog 3 #[.string s] w fun e w' => e = .returned (.bool true) ∧ Below w.heap.size w w' := by
  have HA := Lib.hid (scn_awake w env)
  have HENV := Lib.hid env
  have hok := runes_ok (nums_byte s)
  have hll := runes_le (nums s)
  rw [nums_length] at hll
  have HRU := Lib.hid (fun W => rrunes_any s W (by omega))
  have hva := fun W => pvalue_any s W (by omega)
  have hsz : ¬ (500 : Int) < (s.size : Int) := by omega
  obtain ⟨⟨⟨K, T, N⟩, c⟩, hp⟩ : ∃ p, valF (runesOf (nums s)) = p := ⟨_, rfl⟩
  rw [valG_valF (nums_byte s) (fun r hr => within_low (hw r hr)), hp] at hva
  obtain ⟨l, hl⟩ : ∃ l, runesOf (nums s) = l := ⟨_, rfl⟩
  rw [hl] at HRU hll hw hok hp hc
  rw [hp] at hc
  obtain ⟨S, hS⟩ : ∃ S, strOfNums T = S := ⟨_, rfl⟩
  have HVA : Hid (∀ W, Calls Tryd.prog 6 #[.string s] W fun e w' => e = .returned (.tuple #[.agg #[.int .i64 (K : Int), .string S, .int .u64 (N : Int), .int .i64 0, .int .i64 0], .int .i64 c]) ∧ Below W.heap.size W w') := Lib.hid (by rw [← hS]; exact hva)
  have HVR : Hid (∀ W v, Ints .i32 W v l → Calls Tryd.prog 9 #[v] W fun e w' => e = .returned (.tuple #[.agg #[.int .i64 (K : Int), .string S, .int .u64 (N : Int), .int .i64 0, .int .i64 0], .int .i64 c]) ∧ Below W.heap.size W w') := Lib.hid (fun W v hv => by
    have := svalue_any v l W hv hok (by omega)
    rw [hp] at this
    rw [← hS]
    exact this)
  have HW := Lib.hid hw
  have hcc : (c != c) = false := by simp
  have hl0 : l ≠ [] := fun e => h0 (empty_of (size_of_runes.mpr (by rw [hl]; exact e)))
  have hwt := word_toks hl0 hw
  rw [hp] at hwt
  have hc0 : c = 0 := hc
  rw [if_pos (show ((⟨K, T, N⟩ : TkV), c).2 = 0 from hc0)] at hwt
  obtain ⟨LL, hLL⟩ : ∃ L, ([((⟨K, T, N⟩ : TkV), 0), (tk0, l.length)] : List (TkV × Nat)) = L := ⟨_, rfl⟩
  have HTK : Hid (∀ W, Env W → Calls Tryd.prog 10 #[.string s] W (fun e w' => ∃ v, e = .returned (.tuple #[v, .agg #[.int .i64 0, .int .i64 0, .int .i64 0]]) ∧ RowK 27 5 w' W.heap.size v (toksV l LL) ∧ Below W.heap.size W w')) := Lib.hid (fun W e => by
    have h := (ptoks_any s W e (by omega)).mono (fun e w' h => h.out)
    rw [hl, hwt, hLL] at h
    exact h)
  have HLL : Hid ((toksV l LL).length = 2) := Lib.hid (by rw [toksV_len, ← hLL]; rfl)
  have e0 : (toksV l LL).getD 0 [] = tkC l ((⟨K, T, N⟩ : TkV), 0) := by rw [← hLL]; rfl
  have HC0 : Hid (some (((toksV l LL).getD 0 []).getD 0 undef) = some (.int .i64 (K : Int))) := Lib.hid (by rw [e0]; rfl)
  have HC1 : Hid (some (((toksV l LL).getD 0 []).getD 1 undef) = some (.string S)) := Lib.hid (by rw [e0]; show some (Value.string (strOfNums T)) = _; rw [hS])
  have HC2 : Hid (some (((toksV l LL).getD 0 []).getD 2 undef) = some (.int .u64 (N : Int))) := Lib.hid (by rw [e0]; rfl)
  have HC3 : Hid (some (((toksV l LL).getD 0 []).getD 3 undef) = some (.int .i64 1)) := Lib.hid (by rw [e0]; rfl)
  have HC4 : Hid (some (((toksV l LL).getD 0 []).getD 4 undef) = some (.int .i64 1)) := Lib.hid (by rw [e0]; rfl)
  have hln : 0 < l.length := List.length_pos_iff.mpr hl0
  subst hc0
  clear env hok hva hm hw hp hS h0 hc hwt hl hl0 e0 hLL hcc
  go_enter Tryd.func3, Tryd.ntmps3
  go_wp2_with (first | (go_at_call 5; (with_reducible refine (HA.out).mono ?_); rintro e w1 ⟨rfl, g1⟩; have G1 := Lib.hid g1; have HE1 := Lib.hid (HENV.out.step g1); clear g1) | (go_at_call 6; (with_reducible refine (HVA.out _).mono ?_); rintro e w2 ⟨rfl, g2⟩; obtain ⟨tg, W5, W6, W7, W8, tm⟩ := tok_made w2 (K : Int) S (N : Int) 1 1; have HTG : Hid (w.heap.size ≤ tg) := Lib.hid (by rw [← tm.g0]; exact (below_step G1.out g2).size); have G6 := Lib.hid (below_step (below_step G1.out g2) tm.b6); have HE6 := Lib.hid (HE1.out.step (below_step g2 tm.b6)); have T6 := Lib.hid tm.f6; have htg := tm.g0; have ha5 := tm.a5; have hs6 := tm.s6; have d0 := tm.f5.c0; have d1 := tm.f5.c1; have d2 := tm.f5.c2; have d3 := tm.f5.c3; have d4 := tm.f5.c4; have dq := tm.f5.q; clear g2 tm) | (go_at_call 7; (with_reducible refine (HRU.out _).mono ?_); rintro e w7 ⟨v7, rfl, i7, g7, _⟩; have G7 := Lib.hid (below_step G6.out g7); have HE7 := Lib.hid (HE6.out.step g7); have T7 := Lib.hid (T6.out.after g7); have HI7 := Lib.hid i7; clear g7 i7 htg ha5 hs6 d0 d1 d2 d3 d4 dq))
  obtain ⟨b, off, cap, rfl, hcap, hb, hcell⟩ := HI7.out
  have HC := Lib.hid hcell
  have t0 := T7.out.c0; have t1 := T7.out.c1; have t2 := T7.out.c2; have t3 := T7.out.c3; have t4 := T7.out.c4
  obtain ⟨n, hn⟩ : ∃ n, l.length = n := ⟨_, rfl⟩
  have HN := Lib.hid hn
  rw [hn] at hll hcap ⊢
  clear hcell hn
  rw [HN.out] at hln
  have hnb : ((n : Int) == 0) = false := by simp; omega
  clear hln
  have HI8 : Hid (Ints .i32 w7 (.slice (some ⟨b, off, none⟩) n cap) l) := Lib.hid (by have := HI7.out; rw [HN.out] at this; exact this)
  go_loop [6] (fun v6 => ∃ j : Nat, j ≤ n ∧ v6 = .int .i64 (j : Int)) (fun v6 => n - (intOf v6).toNat)
  case atStart => exact ⟨0, Nat.zero_le _, rfl⟩
  case round =>
    obtain ⟨j, hj, rfl⟩ := hrel
    by_cases hjn : j < n
    · have xj := HC.out j (by rw [HN.out]; exact hjn)
      have hq := HW.out _ (getD_mem (zs := l) (i := j) (by rw [HN.out]; exact hjn))
      obtain ⟨z, hz⟩ : ∃ z, l.getD j 0 = z := ⟨_, rfl⟩
      rw [hz] at xj hq
      have hj1 : IntKind.i64.wrap ((j : Int) + 1) = ((j + 1 : Nat) : Int) := by rw [IntKind.wrap_i64]; omega
      have HW1 := Lib.hid (fun W => swithin_is hq W)
      clear hz hq
      go_wp2_with (go_at_call 8; (with_reducible refine (HW1.out _).mono ?_); rintro e w1 ⟨rfl, rfl⟩)
      go_round
      case rel => exact ⟨j + 1, by omega, by go_num⟩
      case measure => simp [intOf]; omega
    · obtain rfl : j = n := by omega
      go_wp2_with (first | (go_at_call 9; (with_reducible refine (HVR.out w7 (.slice (some ⟨b, off, none⟩) j cap) HI8.out).mono ?_); rintro e w9 ⟨rfl, g9⟩; obtain ⟨ug, U5, U6, U7, U8, um⟩ := tok_made w9 (K : Int) S (N : Int) 1 1; have g10 := below_step g9 um.b6; have G10 := Lib.hid (below_step G7.out g10); have HE10 := Lib.hid (HE7.out.step g10); have T10 := Lib.hid (T7.out.after g10); have X10 := Lib.hid um.f6; have hug := um.g0; have hua := um.a5; have hus := um.s6; have d0 := um.f5.c0; have d1 := um.f5.c1; have d2 := um.f5.c2; have d3 := um.f5.c3; have d4 := um.f5.c4; have dq := um.f5.q; have e0 := T10.out.c0; have e1 := T10.out.c1; have e2 := T10.out.c2; have e3 := T10.out.c3; have e4 := T10.out.c4; have f0 := X10.out.c0; have f1 := X10.out.c1; have f2 := X10.out.c2; have f3 := X10.out.c3; have f4 := X10.out.c4; clear g9 g10 um) | (go_at_call 10; (with_reducible refine (HTK.out _ HE10.out).mono ?_); rintro e w11 ⟨v11, rfl, r11, g11⟩; clear hug hua hus d0 d1 d2 d3 d4 dq e0 e1 e2 e3 e4 f0 f1 f2 f3 f4 t0 t1 t2 t3 t4; obtain ⟨rg, rc, rfl, hrg0, hrg1, _⟩ := r11.form (by rw [HLL.out]; decide); have HRG := Lib.hid hrg1; have HRG0 := Lib.hid hrg0; rw [HLL.out]; have m0 : w11.cell? ⟨rg, 0, none⟩ = some (.int .i64 (K : Int)) := (r11.at 0 0 (by rw [HLL.out]; decide) (by decide)).trans HC0.out; have m1 : w11.cell? ⟨rg, 1, none⟩ = some (.string S) := (r11.at 0 1 (by rw [HLL.out]; decide) (by decide)).trans HC1.out; have m2 : w11.cell? ⟨rg, 2, none⟩ = some (.int .u64 (N : Int)) := (r11.at 0 2 (by rw [HLL.out]; decide) (by decide)).trans HC2.out; have m3 : w11.cell? ⟨rg, 3, none⟩ = some (.int .i64 1) := (r11.at 0 3 (by rw [HLL.out]; decide) (by decide)).trans HC3.out; have m4 : w11.cell? ⟨rg, 4, none⟩ = some (.int .i64 1) := (r11.at 0 4 (by rw [HLL.out]; decide) (by decide)).trans HC4.out; obtain ⟨fg, F5, F6, fm⟩ := fault_made w11 0 0 0; have g12 := below_step g11 fm.bel; have G12 := Lib.hid (below_step G10.out g12); have T12 := Lib.hid (T10.out.after g12); have Y12 := Lib.hid fm.v3; have hfg := fm.g0; have hfa := fm.a2; have hfs := fm.s3; have p0 := fm.v2.c0; have p1 := fm.v2.c1; have p2 := fm.v2.c2; have p3 := fm.v2.q0; have p4 := fm.v2.q1; have p5 := fm.v2.q2; have HFT : Hid (¬ tg = fg) := Lib.hid (by rw [← hfg]; exact Nat.ne_of_lt (T10.out.after g11).s); have u0 := (fm.bel.cell (p := ⟨rg, 0, none⟩) hrg1).trans m0; have u1 := (fm.bel.cell (p := ⟨rg, 1, none⟩) hrg1).trans m1; have u2 := (fm.bel.cell (p := ⟨rg, 2, none⟩) hrg1).trans m2; have u3 := (fm.bel.cell (p := ⟨rg, 3, none⟩) hrg1).trans m3; have u4 := (fm.bel.cell (p := ⟨rg, 4, none⟩) hrg1).trans m4; have hrg2 : rg < F6.heap.size := Nat.lt_of_lt_of_le hrg1 fm.bel.size; clear m0 m1 m2 m3 m4 hrg0 hrg1; have e0 := T12.out.c0; have e1 := T12.out.c1; have e2 := T12.out.c2; have e3 := T12.out.c3; have e4 := T12.out.c4; have j0 := Y12.out.c0; have j1 := Y12.out.c1; have j2 := Y12.out.c2; clear r11 g11 g12; obtain ⟨ag, A2, A3, am⟩ := spot_made F6; have hag := am.g0; have haa := am.a2; have has := am.s3; have o0 := am.v2.c0; have o1 := am.v2.c1; have o2 := am.v2.q0; have o3 := am.v2.q1; have y0 := am.v3.c0; have y1 := am.v3.c1; have G13 := Lib.hid (below_step G12.out am.bel); have Y13 := Lib.hid (Y12.out.after am.bel); have T13 := Lib.hid (T12.out.after am.bel); have k0 := Y13.out.c0; have k1 := Y13.out.c1; have k2 := Y13.out.c2; have v0 := (am.bel.cell (p := ⟨rg, 0, none⟩) hrg2).trans u0; have v1 := (am.bel.cell (p := ⟨rg, 1, none⟩) hrg2).trans u1; have v2 := (am.bel.cell (p := ⟨rg, 2, none⟩) hrg2).trans u2; have v3 := (am.bel.cell (p := ⟨rg, 3, none⟩) hrg2).trans u3; have v4 := (am.bel.cell (p := ⟨rg, 4, none⟩) hrg2).trans u4; have TQ := T13.out.q; have tt0 := T13.out.c0; have tt1 := T13.out.c1; have tt2 := T13.out.c2; have tt3 := T13.out.c3; have tt4 := T13.out.c4; have hnt1 : ¬ tg = rg := (by have := T10.out.s; have := HRG0.out; omega); have hnt2 : ¬ rg = tg := (fun e => hnt1 e.symm); have hnf1 : ¬ tg = fg := HFT.out; have hnf2 : ¬ fg = tg := (fun e => hnf1 e.symm); obtain ⟨W14, hW14⟩ : ∃ W, (A3.setCell ⟨tg, 3, none⟩ (.int .i64 1)).setCell ⟨tg, 4, none⟩ (.int .i64 1) = W := ⟨_, rfl⟩; have V14 : Var5 W14 tg (.int .i64 (K : Int)) (.string S) (.int .u64 (N : Int)) (.int .i64 1) (.int .i64 1) := (by rw [← hW14]; exact T13.out.put34 _ _); have F14 : Var3 W14 fg (.int .i64 0) (.int .i64 0) (.int .i64 0) := (by rw [← hW14]; exact Y13.out.hold (by rw [sset_else _ _ _ _ _ hnf2, sset_else _ _ _ _ _ hnf2]) (by simp)); have er : W14.heap[rg]? = A3.heap[rg]? := (by rw [← hW14, sset_else _ _ _ _ _ hnt2, sset_else _ _ _ _ _ hnt2]); have G14 : Hid (Below w.heap.size w W14) := Lib.hid (by rw [← hW14]; exact (G13.out.setCell HTG.out _).setCell HTG.out _); have z0 := (World.cell?_of_block (a := ⟨rg, 0, none⟩) er).trans v0; have z1 := (World.cell?_of_block (a := ⟨rg, 1, none⟩) er).trans v1; have z2 := (World.cell?_of_block (a := ⟨rg, 2, none⟩) er).trans v2; have z3 := (World.cell?_of_block (a := ⟨rg, 3, none⟩) er).trans v3; have z4 := (World.cell?_of_block (a := ⟨rg, 4, none⟩) er).trans v4; have x0 := V14.c0; have x1 := V14.c1; have x2 := V14.c2; have x3 := V14.c3; have x4 := V14.c4; have q0 := F14.c0; have q1 := F14.c1; have q2 := F14.c2; clear V14 F14 er u0 u1 u2 u3 u4 v0 v1 v2 v3 v4; clear am fm))
      clear hnb hW14 hag haa has o0 o1 o2 o3 hfg hfa hfs p0 p1 p2 p3 p4 p5 k0 k1 k2 TQ tt0 tt1 tt2 tt3 tt4 e0 e1 e2 e3 e4 j0 j1 j2 y0 y1
      go_quiet (fail)
      go_wp2
      go_ret
      exact ⟨rfl, Go.below_drewN G14.out _⟩
set_option maxRecDepth 100000 in
set_option maxHeartbeats 4000000 in
theorem scnwords_walk (s : ByteArray) (w : World) (env : Env w) (_hm : s.size ≤ 9223372036854775807) : Calls Tryd.prog 3 #[.string s] w fun e w' => e = .returned (.bool true) ∧ Below w.heap.size w w' := by
  by_cases hl : 500 < s.size
  · have HA := Lib.hid (scn_awake w env)
    have hsz : (500 : Int) < (s.size : Int) := by omega
    clear hl env
    go_enter Tryd.func3, Tryd.ntmps3
    go_wp2_with (go_at_call 5; (with_reducible refine (HA.out).mono ?_); rintro e w1 ⟨rfl, g1⟩; have G1 := Lib.hid g1; clear g1)
    go_ret
    exact ⟨rfl, G1.out⟩
  · by_cases hw : ∀ r ∈ runesOf (nums s), withinB r = true
    · by_cases h0 : s = ⟨#[]⟩
      · exact scnw_empty s w env (by omega) h0
      · by_cases hc : (valF (runesOf (nums s))).2 = 0
        · exact scnw_fine s w env (by omega) h0 hw hc
        · exact scnw_bad s w env (by omega) h0 hw hc
    · exact scnw_no s w env (by omega) hw

end Go.Proofs.YthainohkneociaaDoor
