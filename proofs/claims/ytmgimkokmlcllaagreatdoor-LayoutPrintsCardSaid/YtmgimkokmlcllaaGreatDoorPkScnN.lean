/-
  A factor, written, as the document's answer writes it.
-/
import Derived.Test.YtmgimkokmlcllaaGreatDoorPkScnM
import Derived.Test.YtmgimkokmlcllaaGreatDoorPkMixs
import Derived.Test.YtmgimkokmlcllaaGreatDoorPkScnb
namespace Go.Proofs.YtmgimkokmlcllaaGreatDoor
open Go.RowKit

def TP (p n q L r : Nat) : Nat → Value → World → Prop
  | 0, v, _ => v = .pointer (some ⟨p, 2, none⟩)
  | 1, v, _ => v = .int .u64 (n : Int)
  | 2, v, _ => v = .int .u64 (q : Int)
  | 3, v, _ => v = .string (strOfNums (dec q))
  | 4, v, _ => v = .string (strOfNums (dec q ++ [46]))
  | 5, v, _ => v = .int .u64 (L : Int)
  | 6, v, _ => v = .int .u64 (r : Int)
  | 7, v, _ => v = .int .u8 (r : Int)
  | 8, v, _ => v = .int .u8 (48 + (r : Int))
  | 9, v, W => ∃ g, v = .slice (some ⟨g, 0, none⟩) 1 1 ∧ g < W.heap.size ∧ W.cell? ⟨g, 0, none⟩ = some (.int .u8 (48 + (r : Int)))
  | 10, v, _ => v = .string (strOfNums [48 + (r : Int)])
  | 11, v, _ => v = .string (strOfNums (dec q ++ [46, 48 + (r : Int)]))
  | _, _, _ => True
theorem TP.keep {p n q L r : Nat} (k : Nat) (v : Value) (w w' : World) (h : TP p n q L r k v w) (hb : Below w.heap.size w w') : TP p n q L r k v w' := by
  match k, h with
  | 0, h => exact h
  | 1, h => exact h
  | 2, h => exact h
  | 3, h => exact h
  | 4, h => exact h
  | 5, h => exact h
  | 6, h => exact h
  | 7, h => exact h
  | 8, h => exact h
  | 9, h =>
    obtain ⟨g, e, hg, hc⟩ := h
    exact ⟨g, e, Nat.lt_of_lt_of_le hg hb.size, (hb.cell (p := ⟨g, 0, none⟩) hg).trans hc⟩
  | 10, h => exact h
  | 11, h => exact h
  | k + 12, _ => exact trivial
theorem one_letter_at (W : World) (z : Int) (g : Nat) (hc : W.cell? ⟨g, 0, none⟩ = some (.int .u8 z)) :
    (convert 41 9 (.slice (some ⟨g, 0, none⟩) 1 1)).run Tryz.prog W = .ok (.string (strOfNums [z])) W :=
  run_convert_bytes_arg W 41 5 Tryz.underlying41 Tryz.underlying5 _ _ 1 1 [z] rfl (fun i hi => by
    obtain rfl : i = 0 := by omega
    simpa using hc) 9 Tryz.underlying9
theorem tailD_len (r : Nat) : (tailD r).length ≤ 2 := by
  unfold tailD
  split
  · decide
  · split <;> simp
set_option maxRecDepth 100000 in
set_option maxHeartbeats 8000000 in
theorem sprint_fac (n : Nat) (a b : Int) (w : World) (hn : n ≤ 18446744073709551615) (hr : RightT 4 ⟨#[]⟩ (n : Int)) :
    Calls Tryz.prog 28 #[.agg #[.int .i64 4, .string ⟨#[]⟩, .int .u64 (n : Int), .int .i64 a, .int .i64 b]] w fun e w' => e = .returned (.string (strOfNums (facP n))) ∧ Below w.heap.size w w' := by
  obtain ⟨W0, hW0⟩ : ∃ W, w.alloc (.cells #[.int .i64 4, .string ⟨#[]⟩, .int .u64 (n : Int), .int .i64 a, .int .i64 b] 59) = W := ⟨_, rfl⟩
  have V0 : Var5 W0 w.heap.size (.int .i64 4) (.string ⟨#[]⟩) (.int .u64 (n : Int)) (.int .i64 a) (.int .i64 b) := by rw [← hW0]; exact Var5.fresh _ _ _ _ _ _ _ _ rfl
  have g0 : Below w.heap.size w W0 := by rw [← hW0]; exact (Below.refl _ _).alloc (Nat.le_refl _) _
  have HG := Lib.hid g0
  have HV := Lib.hid V0
  have HRT := Lib.hid (fun W => sright_any 4 ⟨#[]⟩ (n : Int) a b W (by decide))
  obtain ⟨c0, c1, c2, c3, c4, _, _⟩ := V0
  clear g0
  have HR := Lib.hid hr
  clear hr
  have HDC := Lib.hid (fun W => sdec_any (n / 1000) W (by omega))
  obtain ⟨q, hq⟩ : ∃ q : Nat, n / 1000 = q := ⟨_, rfl⟩
  obtain ⟨L, hL⟩ : ∃ L : Nat, n % 1000 = L := ⟨_, rfl⟩
  obtain ⟨r, hr⟩ : ∃ r : Nat, L / 100 = r := ⟨_, rfl⟩
  obtain ⟨M, hM⟩ : ∃ M : Nat, L % 100 = M := ⟨_, rfl⟩
  have hqi : (n : Int) / 1000 = (q : Int) := by omega
  have hqt : (n : Int).tdiv 1000 = (q : Int) := by rw [Int.tdiv_eq_ediv_of_nonneg (by omega)]; omega
  have hli : (n : Int) % 1000 = (L : Int) := by omega
  have hlt : (n : Int).tmod 1000 = (L : Int) := by rw [Int.tmod_eq_emod_of_nonneg (by omega)]; omega
  have hri : (L : Int) / 100 = (r : Int) := by omega
  have hrt : (L : Int).tdiv 100 = (r : Int) := by rw [Int.tdiv_eq_ediv_of_nonneg (by omega)]; omega
  have hmi : (L : Int) % 100 = (M : Int) := by omega
  have hmt : (L : Int).tmod 100 = (M : Int) := by rw [Int.tmod_eq_emod_of_nonneg (by omega)]; omega
  have hr9 : r ≤ 9 := by omega
  have hM99 : M < 100 := by omega
  have hw8 : IntKind.u8.wrap (r : Int) = (r : Int) := by rw [IntKind.wrap_u8]; omega
  have hw9 : IntKind.u8.wrap (48 + (r : Int)) = 48 + (r : Int) := by rw [IntKind.wrap_u8]; omega
  rw [hq] at HDC
  have hsq : (strOfNums (dec q)).size ≤ 39 := by rw [strOfNums_size]; exact dec_len (by unfold W128; omega)
  have HSQ := Lib.hid hsq
  have HFP : Hid (facP n = dec q ++ [46, 48 + (r : Int)] ++ tailD M) := Lib.hid (by unfold facP; rw [hq, hL, hr, show n % 100 = M by omega]; simp)
  clear hq hL hr hM
  go_enter Tryz.func28, Tryz.ntmps28
  go_wp2_with (first | (go_at_call 44; (with_reducible refine (HRT.out _).mono ?_); rintro e w2 ⟨q, rfl, hq, h2⟩; obtain rfl : q = true := hq.mpr HR.out; have V2 := Lib.hid (HV.out.after h2); have G2 := Lib.hid (below_step HG.out h2); have d0 := V2.out.c0; have d1 := V2.out.c1; have d2 := V2.out.c2; clear hq h2))
  have HX := Lib.hid (show ∀ W, Below w2.heap.size w2 W → Var5 W w.heap.size (.int .i64 4) (.string ⟨#[]⟩) (.int .u64 (n : Int)) (.int .i64 a) (.int .i64 b) from fun W h => V2.out.after h)
  clear d0 d1 d2 c0 c1 c2 c3 c4
  refine wp_region_mix 12 (TP w.heap.size n q L r) (fun _ => false) (by kernel_rfl) (by kernel_rfl) TP.keep (fun _ _ _ h => by cases h) ?_ ?_
  · simp only [List.take_succ_cons, List.take_zero]
    refine (StepsAll.cons ?_ (StepsAll.cons ?_ (StepsAll.cons ?_ (StepsAll.cons ?_ (StepsAll.cons ?_ (StepsAll.cons ?_ (StepsAll.cons ?_ (StepsAll.cons ?_ (StepsAll.cons ?_ (StepsAll.cons ?_ (StepsAll.cons ?_ (StepsAll.cons ?_ StepsAll.nil))))))))))))
    · intro u W hb hd
      simp only [putAll, Act.put, List.setIfInBounds_toArray, List.set_cons_succ, List.set_cons_zero, Nat.zero_add, Nat.reduceAdd]
      go_wp2
      first | exact ⟨rfl, Below.refl _ _⟩ | exact ⟨_, rfl, rfl, Below.refl _ _, fun h => by simp at h⟩ | exact ⟨_, rfl, rfl, Below.refl _ _⟩ | exact ⟨rfl, Below.refl _ _, fun h => by simp at h⟩
    · intro u W hb hd
      have e0 : u 0 = .pointer (some ⟨w.heap.size, 2, none⟩) := hd.1 rfl (by decide)
      obtain ⟨c0, c1, c2, _, _, _, _⟩ := HX.out W hb
      simp only [putAll, Act.put, List.setIfInBounds_toArray, List.set_cons_succ, List.set_cons_zero, Nat.zero_add, Nat.reduceAdd]
      rw [e0]
      go_wp2
      first | exact ⟨rfl, Below.refl _ _⟩ | exact ⟨_, rfl, rfl, Below.refl _ _, fun h => by simp at h⟩ | exact ⟨_, rfl, rfl, Below.refl _ _⟩ | exact ⟨rfl, Below.refl _ _, fun h => by simp at h⟩
    · intro u W hb hd
      have e0 : u 1 = .int .u64 (n : Int) := hd.1 rfl (by decide)
      simp only [putAll, Act.put, List.setIfInBounds_toArray, List.set_cons_succ, List.set_cons_zero, Nat.zero_add, Nat.reduceAdd]
      rw [e0]
      go_wp2
      first | exact ⟨rfl, Below.refl _ _⟩ | exact ⟨_, rfl, rfl, Below.refl _ _, fun h => by simp at h⟩ | exact ⟨_, rfl, rfl, Below.refl _ _⟩ | exact ⟨rfl, Below.refl _ _, fun h => by simp at h⟩
    · intro u W hb hd
      have e0 : u 2 = .int .u64 (q : Int) := hd.1 rfl (by decide)
      simp only [putAll, Act.put, List.setIfInBounds_toArray, List.set_cons_succ, List.set_cons_zero, Nat.zero_add, Nat.reduceAdd]
      rw [e0]
      go_wp2_with (go_at_call 46; (with_reducible refine (HDC.out _).mono ?_); rintro e W1 ⟨rfl, g⟩)
      first | exact ⟨rfl, g⟩ | exact ⟨_, rfl, rfl, g, fun h => by simp at h⟩ | exact ⟨_, rfl, rfl, g⟩
    · intro u W hb hd
      have e0 : u 3 = .string (strOfNums (dec q)) := hd.1 rfl (by decide)
      have hap := str_point (dec q)
      simp only [putAll, Act.put, List.setIfInBounds_toArray, List.set_cons_succ, List.set_cons_zero, Nat.zero_add, Nat.reduceAdd]
      rw [e0]
      go_wp2
      first | exact ⟨by rw [hap], Below.refl _ _⟩ | exact ⟨rfl, Below.refl _ _⟩ | exact ⟨_, rfl, by rw [← hap]; rfl, Below.refl _ _⟩ | exact ⟨_, rfl, by rw [← hap]; rfl, Below.refl _ _, fun h => by simp at h⟩
    · intro u W hb hd
      simp only [putAll, Act.put, List.setIfInBounds_toArray, List.set_cons_succ, List.set_cons_zero, Nat.zero_add, Nat.reduceAdd]
      go_wp2
      first | exact ⟨rfl, Below.refl _ _⟩ | exact ⟨_, rfl, rfl, Below.refl _ _, fun h => by simp at h⟩ | exact ⟨_, rfl, rfl, Below.refl _ _⟩ | exact ⟨rfl, Below.refl _ _, fun h => by simp at h⟩
    · intro u W hb hd
      have e0 : u 5 = .int .u64 (L : Int) := hd.1 rfl (by decide)
      simp only [putAll, Act.put, List.setIfInBounds_toArray, List.set_cons_succ, List.set_cons_zero, Nat.zero_add, Nat.reduceAdd]
      rw [e0]
      go_wp2
      first | exact ⟨rfl, Below.refl _ _⟩ | exact ⟨_, rfl, rfl, Below.refl _ _, fun h => by simp at h⟩ | exact ⟨_, rfl, rfl, Below.refl _ _⟩ | exact ⟨rfl, Below.refl _ _, fun h => by simp at h⟩
    · intro u W hb hd
      have e0 : u 6 = .int .u64 (r : Int) := hd.1 rfl (by decide)
      simp only [putAll, Act.put, List.setIfInBounds_toArray, List.set_cons_succ, List.set_cons_zero, Nat.zero_add, Nat.reduceAdd]
      rw [e0]
      go_wp2
      first | exact ⟨rfl, Below.refl _ _⟩ | exact ⟨_, rfl, rfl, Below.refl _ _, fun h => by simp at h⟩ | exact ⟨_, rfl, rfl, Below.refl _ _⟩ | exact ⟨rfl, Below.refl _ _, fun h => by simp at h⟩
    · intro u W hb hd
      have e0 : u 7 = .int .u8 (r : Int) := hd.1 rfl (by decide)
      simp only [putAll, Act.put, List.setIfInBounds_toArray, List.set_cons_succ, List.set_cons_zero, Nat.zero_add, Nat.reduceAdd]
      rw [e0]
      go_wp2
      first | exact ⟨rfl, Below.refl _ _⟩ | exact ⟨_, rfl, rfl, Below.refl _ _, fun h => by simp at h⟩ | exact ⟨_, rfl, rfl, Below.refl _ _⟩ | exact ⟨rfl, Below.refl _ _, fun h => by simp at h⟩
    · intro u W hb hd
      have e0 : u 8 = .int .u8 (48 + (r : Int)) := hd.1 rfl (by decide)
      simp only [putAll, Act.put, List.setIfInBounds_toArray, List.set_cons_succ, List.set_cons_zero, Nat.zero_add, Nat.reduceAdd]
      rw [e0]
      go_wp2
      first | exact ⟨⟨_, rfl, by simp, by simp⟩, (Below.refl _ _).alloc (Nat.le_refl _) _⟩ | exact ⟨_, rfl, ⟨_, rfl, by simp, by simp⟩, (Below.refl _ _).alloc (Nat.le_refl _) _, fun h => by simp at h⟩ | exact ⟨_, rfl, ⟨_, rfl, by simp, by simp⟩, (Below.refl _ _).alloc (Nat.le_refl _) _⟩
    · intro u W hb hd
      have e0 := hd.1 rfl (by decide)
      simp only [putAll, Act.put, List.setIfInBounds_toArray, List.set_cons_succ, List.set_cons_zero, Nat.zero_add, Nat.reduceAdd]
      obtain ⟨g, eg, hg, hc⟩ := e0
      rw [eg]
      have hcv := one_letter_at W (48 + (r : Int)) g hc
      go_wp2
      first | exact ⟨rfl, Below.refl _ _⟩ | exact ⟨_, rfl, rfl, Below.refl _ _, fun h => by simp at h⟩ | exact ⟨_, rfl, rfl, Below.refl _ _⟩ | exact ⟨rfl, Below.refl _ _, fun h => by simp at h⟩
    · intro u W hb hd
      have e0 : u 4 = .string (strOfNums (dec q ++ [46])) := hd.1 rfl (by decide)
      have e1 : u 10 = .string (strOfNums [48 + (r : Int)]) := hd.2.1 rfl (by decide)
      have hap2 := strOfNums_append (dec q ++ [46]) [48 + (r : Int)]
      have hs2 : (strOfNums (dec q ++ [46])).size + (strOfNums [48 + (r : Int)]).size ≤ 9223372036854775807 := by have := HSQ.out; rw [pstr_len] at this; rw [pstr_len, pstr_len, List.length_append]; simp; omega
      simp only [putAll, Act.put, List.setIfInBounds_toArray, List.set_cons_succ, List.set_cons_zero, Nat.zero_add, Nat.reduceAdd]
      rw [e0, e1]
      go_wp2
      first | exact ⟨congrArg Value.string hap2, Below.refl _ _⟩ | exact ⟨congrArg Value.string hap2.symm, Below.refl _ _⟩ | exact ⟨rfl, Below.refl _ _⟩ | exact ⟨_, rfl, by rw [← hap2]; rfl, Below.refl _ _⟩ | exact ⟨_, rfl, by rw [← hap2]; rfl, Below.refl _ _, fun h => by simp at h⟩ | exact ⟨_, rfl, rfl, Below.refl _ _⟩
  · intro u W hb hT _
    have e11 : u 11 = .string (strOfNums (dec q ++ [46, 48 + (r : Int)])) := hT 11 (by decide)
    have G3 := Lib.hid (below_step G2.out hb)
    simp only [List.take_succ_cons, List.take_zero, List.drop_succ_cons, List.drop_zero, putAll, Act.put, List.setIfInBounds_toArray, List.set_cons_succ, List.set_cons_zero, Nat.zero_add, Nat.reduceAdd]
    rw [e11]
    clear hb hT e11
    obtain ⟨pre, hpre⟩ : ∃ x, dec q ++ [46, 48 + (r : Int)] = x := ⟨_, rfl⟩
    have hpl : pre.length ≤ 41 := by rw [← hpre, List.length_append]; rw [pstr_len] at hsq; simp; omega
    rw [hpre] at HFP ⊢
    go_wp2
    clear hpre hqi hqt hli hlt hri hrt hmi hmt hw8 hw9 hsq
    have HPL := Lib.hid hpl
    go_loopw [3, 4] (fun v3 v4 wr => ∃ (m : Nat) (xs : List Int), v3 = .int .u64 (m : Int) ∧ v4 = .string (strOfNums (pre ++ xs)) ∧ m < 100 ∧ Hid (xs ++ tailD m = tailD M) ∧ Below w.heap.size w wr) (fun v3 _ _ => 11 * ((intOf v3).toNat % 10) + (intOf v3).toNat / 10)
    case atStart => exact ⟨M, [], rfl, by rw [List.append_nil], hM99, Lib.hid (List.nil_append _), G3.out⟩
    case round =>
      obtain ⟨m, xs, rfl, rfl, hm, HT, hbel⟩ := hrel
      have hxl : xs.length ≤ 2 := by
        have h1 := congrArg List.length HT.out
        have h2 := tailD_len M
        rw [List.length_append] at h1
        omega
      have hsz : (strOfNums (pre ++ xs)).size ≤ 43 := by rw [pstr_len, List.length_append]; omega
      have HB := Lib.hid hbel
      clear hxl hbel
      by_cases h0 : m = 0
      · have HE : Hid (facP n = pre ++ xs) := Lib.hid (by rw [HFP.out, ← HT.out, h0]; simp [tailD])
        subst h0
        go_wp2
        go_ret
        exact ⟨by rw [HE.out]; rfl, HB.out⟩
      · have hmp : 0 < (m : Int) := by omega
        have hmb : decide ((m : Int) > 0) = true := by simp; omega
        obtain ⟨t, ht⟩ : ∃ t : Nat, m / 10 = t := ⟨_, rfl⟩
        obtain ⟨y, hy⟩ : ∃ y : Nat, m % 10 = y := ⟨_, rfl⟩
        have ht1 : (m : Int) / 10 = (t : Int) := by omega
        have ht2 : (m : Int).tdiv 10 = (t : Int) := by rw [Int.tdiv_eq_ediv_of_nonneg (by omega)]; omega
        have hy1 : (m : Int) % 10 = (y : Int) := by omega
        have hy2 : (m : Int).tmod 10 = (y : Int) := by rw [Int.tmod_eq_emod_of_nonneg (by omega)]; omega
        have hw8 : IntKind.u8.wrap (t : Int) = (t : Int) := by rw [IntKind.wrap_u8]; omega
        have hw9 : IntKind.u8.wrap (48 + (t : Int)) = 48 + (t : Int) := by rw [IntKind.wrap_u8]; omega
        have hw10 : IntKind.u64.wrap ((y : Int) * 10) = ((y * 10 : Nat) : Int) := by rw [IntKind.wrap_u64]; omega
        have hcv := one_letter wr (48 + (t : Int)) wr.heap.size rfl
        have hap := strOfNums_append (pre ++ xs) [48 + (t : Int)]
        have hs1 : (strOfNums (pre ++ xs)).size + (strOfNums [48 + (t : Int)]).size ≤ 9223372036854775807 := by have e : (strOfNums [48 + (t : Int)]).size = 1 := rfl; omega
        have HT2 : Hid (xs ++ [48 + (t : Int)] ++ tailD (y * 10) = tailD M) := Lib.hid (by rw [← HT.out, tailD_step hm (by omega), ht, hy]; simp)
        have D2 := Lib.hid (below_more HB.out (.cells #[.int .u8 (48 + (t : Int))] 5))
        clear h0
        go_wp2
        go_roundw
        case measure => simp [intOf]; omega
        case rel => exact ⟨y * 10, xs ++ [48 + (t : Int)], by go_num, by rw [← List.append_assoc], by omega, HT2, D2.out⟩

end Go.Proofs.YtmgimkokmlcllaaGreatDoor
