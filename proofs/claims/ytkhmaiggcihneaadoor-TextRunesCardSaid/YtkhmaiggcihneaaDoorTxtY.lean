/-
  The statement TextRunes, walked: over the contracts of package text's calls.
-/
import Derived.Test.YtkhmaiggcihneaaDoorTxtW
import Derived.Lib.TrimByte
namespace Go.Proofs.YtkhmaiggcihneaaDoor
open Go.RowKit

theorem nums_ext {a b : ByteArray} (h : nums a = nums b) : a = b := by rw [← strOfNums_nums a, h, strOfNums_nums]
theorem txt_mk (l : List UInt8) : nums ⟨l.toArray⟩ = l.map fun b => (b.toNat : Int) := by simp [nums]
theorem txt_upto (s : ByteArray) (k : Nat) : nums (s.extract 0 k) = (nums s).take k := by
  rw [Lib.extract_upto, txt_mk, nums, List.map_take]
theorem txt_from (s : ByteArray) (k : Nat) : nums (s.extract k s.size) = (nums s).drop k := by
  rw [Lib.extract_from, txt_mk, nums, List.map_drop]
theorem tcount_is {s : ByteArray} (hm : s.size ≤ 4294967296) {n : Int} (h : ((runesOf (nums s)).length : Int) = n) (w : World) (env : Env w) : Calls Tryd.prog 9 #[.string s] w fun e w' => e = .returned (.int .i64 n) ∧ Below w.heap.size w w' := by
  subst h; exact tcount_any s w env hm
theorem tgood_is {s : ByteArray} (hm : s.size ≤ 4294967296) {q : Bool} (h : q = true ↔ GoodL (runesOf (nums s))) (w : World) (env : Env w) : Calls Tryd.prog 10 #[.string s] w fun e w' => e = .returned (.bool q) ∧ Below w.heap.size w w' := by
  refine (tgood_any s w env hm).mono ?_
  rintro e w' ⟨q', rfl, h', g⟩
  obtain rfl : q' = q := by cases q <;> cases q' <;> simp_all
  exact ⟨rfl, g⟩
/-- What is known of a text that is cut behind so many runes. -/
theorem cut_facts (s : ByteArray) (k : Nat) : ∃ c d : ByteArray, strOfNums ((nums s).take (posOf (nums s) k)) = c ∧ c.size ≤ s.size ∧ s.extract 0 c.size = c ∧ s.extract c.size s.size = d ∧ d.size ≤ s.size ∧ runesOf (nums c) = (runesOf (nums s)).take k ∧ runesOf (nums d) = (runesOf (nums s)).drop k := by
  have hp := pos_le (nums s) k
  have hl := nums_length s
  obtain ⟨p, hpp⟩ : ∃ p, posOf (nums s) k = p := ⟨_, rfl⟩
  have ht := pos_take (nums s) k
  have hd := pos_drop (nums s) k
  rw [hpp] at hp ht hd ⊢
  have hnc : nums (strOfNums ((nums s).take p)) = (nums s).take p := nums_strOfNums _ (fun z hz => nums_byte s z (List.mem_of_mem_take hz))
  have hcs : (strOfNums ((nums s).take p)).size = p := by rw [strOfNums_size, List.length_take]; omega
  refine ⟨_, _, rfl, by rw [hcs]; omega, ?_, rfl, ?_, by rw [hnc, ht], ?_⟩
  · refine nums_ext ?_
    rw [hnc, hcs, txt_upto]
  · rw [← nums_length, txt_from, hcs, List.length_drop]; omega
  · rw [hcs, txt_from, ← hd, rfrom_drop hp]

set_option maxRecDepth 100000 in
set_option maxHeartbeats 2000000 in
theorem txtrunes_walk (s : ByteArray) (n : Int) (w : World) (env : Env w) (_hm : s.size ≤ 9223372036854775807) (n0 : -9223372036854775808 ≤ n) (n1 : n ≤ 9223372036854775807) :
    Calls Tryd.prog 3 #[.string s, .int .i64 n] w fun e w' => e = .returned (.bool true) ∧ Below w.heap.size w w' := by
  by_cases hs : 500 < s.size
  · go_enter Tryd.func3, Tryd.ntmps3
    go_wp2_with (go_at_call 7; (with_reducible refine (txt_awake _ env).mono ?_); rintro e w1 ⟨rfl, g⟩; have DD := g; clear g)
    go_ret
    exact ⟨rfl, DD⟩
  have hs2 : s.size ≤ 500 := by omega
  have hs3 : s.size ≤ 4294967296 := by omega
  clear hs
  obtain ⟨q, hq⟩ := prop_bool (GoodL (runesOf (nums s)))
  have TG := Lib.hid (fun w env => tgood_is hs3 hq w env)
  have RG := Lib.hid (fun w => rgood_is hs3 hq w)
  have RR := Lib.hid (fun w => rrunes_any s w hs3)
  have TN := Lib.hid (fun w env => tcount_is hs3 (n := ((runesOf (nums s)).length : Int)) rfl w env)
  have TC := Lib.hid (fun w env => tcut_any s n w env hs3 n0 n1)
  have hll := runes_len (nums s)
  rw [nums_length] at hll
  obtain ⟨c, d, hc, hcs, hx1, hx2, hds, hrc, hrd⟩ := cut_facts s n.toNat
  rw [hc] at TC
  obtain ⟨l, hl⟩ : ∃ l, runesOf (nums s) = l := ⟨_, rfl⟩
  rw [hl] at RR TN hll hrc hrd
  have hk : ∃ k : Int, k = (if n < 0 then 0 else if (l.length : Int) < n then (l.length : Int) else n) := ⟨_, rfl⟩
  obtain ⟨k, hk⟩ := hk
  have hk1 : ((runesOf (nums c)).length : Int) = k := by rw [hrc, List.length_take, hk]; split <;> (try split) <;> omega
  have hk2 : ((runesOf (nums d)).length : Int) = (l.length : Int) - k := by rw [hrd, List.length_drop, hk]; split <;> (try split) <;> omega
  have TNc := Lib.hid (fun w env => tcount_is (show c.size ≤ 4294967296 by omega) hk1 w env)
  have TNd := Lib.hid (fun w env => tcount_is (show d.size ≤ 4294967296 by omega) hk2 w env)
  have k0 : 0 ≤ k := by rw [hk]; split <;> (try split) <;> omega
  have k1 : k ≤ (l.length : Int) := by rw [hk]; split <;> (try split) <;> omega
  obtain ⟨f, hf⟩ : ∃ f, strOfNums ((nums s).map foldB) = f := ⟨_, rfl⟩
  have TF := Lib.hid (fun w env => tfold_any s w env hs3)
  rw [hf] at TF
  have hfs : f.size = s.size := by rw [← hf, strOfNums_size, List.length_map, nums_length]
  have hfn : Hid (∀ i, i < s.size → (nums f).getD i 0 = foldB ((nums s).getD i 0)) := fun i hi => by rw [← hf, nums_strOfNums _ (foldB_byte (nums_byte s))]; exact map_getD foldB (by rw [nums_length]; exact hi)
  have HK := Lib.hid hk
  clear hc hrc hrd hq hl hk1 hk2 hf hk hds
  have hcase : (n < 0 ∧ k = 0) ∨ (0 ≤ n ∧ (l.length : Int) < n ∧ k = (l.length : Int)) ∨ (0 ≤ n ∧ n ≤ (l.length : Int) ∧ k = n) := by
    have h5 := HK.out
    split at h5
    · exact Or.inl ⟨by omega, h5⟩
    · split at h5
      · exact Or.inr (Or.inl ⟨by omega, by omega, h5⟩)
      · exact Or.inr (Or.inr ⟨by omega, by omega, h5⟩)
  clear HK
  rcases hcase with ⟨h1, rfl⟩ | ⟨h1, h2, rfl⟩ | ⟨h1, h2, rfl⟩
  all_goals
    go_enter Tryd.func3, Tryd.ntmps3
    go_wp2_with (first
      | (go_at_call 7; (with_reducible refine (txt_awake _ env).mono ?_); rintro e w1 ⟨rfl, g⟩; have DD := g; clear g)
      | (go_at_call 8; (with_reducible refine (RR.out _).mono ?_); rintro e w2 ⟨v, rfl, ⟨b, off, cap, rfl, hcap, hb, hcell⟩, g, _⟩; have DD := below_step DD g; clear g hcell)
      | (go_at_call 9; (with_reducible refine (TN.out _ (env.step DD)).mono ?_); rintro e w3 ⟨rfl, g⟩; have DD := below_step DD g; clear g)
      | (go_at_call 10; (with_reducible refine (TG.out _ (env.step DD)).mono ?_); rintro e w4 ⟨rfl, g⟩; have DD := below_step DD g; clear g)
      | (go_at_call 11; (with_reducible refine (RG.out _).mono ?_); rintro e w5 ⟨rfl, g⟩; have DD := below_step DD g; clear g)
      | (go_at_call 12; (with_reducible refine (TC.out _ (env.step DD)).mono ?_); rintro e w6 ⟨rfl, g⟩; have DD := below_step DD g; clear g)
      | (go_at_call 9; (with_reducible refine (TNc.out _ (env.step DD)).mono ?_); rintro e w7 ⟨rfl, g⟩; have DD := below_step DD g; clear g)
      | (go_at_call 9; (with_reducible refine (TNd.out _ (env.step DD)).mono ?_); rintro e w8 ⟨rfl, g⟩; have DD := below_step DD g; clear g)
      | (go_at_call 13; (with_reducible refine (TF.out _ (env.step DD)).mono ?_); rintro e w9 ⟨rfl, g⟩; have DD := below_step DD g; clear g))
    go_loop [9, 10] (fun v9 _ => ∃ i : Nat, i ≤ s.size ∧ v9 = .int .i64 i) (fun v9 _ => s.size - (intOf v9).toNat)
    case atStart => exact ⟨0, Nat.zero_le _, rfl⟩
    case round =>
      obtain ⟨i, hi, rfl⟩ := hrel
      by_cases hi2 : i < s.size
      · have hi3 : i < f.size := by omega
        obtain ⟨z, hz, hzz⟩ : ∃ z, ((s[i]'hi2).toNat : Int) = z ∧ (nums s).getD i 0 = z := ⟨_, rfl, nums_at s i hi2⟩
        obtain ⟨y, hy, hyy⟩ : ∃ y, ((f[i]'hi3).toNat : Int) = y ∧ (nums f).getD i 0 = y := ⟨_, rfl, nums_at f i hi3⟩
        have hfy := hfn.out i hi2
        rw [hzz, hyy] at hfy
        have hzb : 0 ≤ z ∧ z ≤ 255 := by rw [← hz]; have := (s[i]'hi2).toNat_lt; omega
        obtain ⟨z0, z1⟩ := hzb
        clear hzz hyy
        by_cases c1 : 65 ≤ z
        · by_cases c2 : z ≤ 90
          · unfold foldB at hfy
            rw [if_pos ⟨c1, c2⟩] at hfy
            subst hfy
            have hw : IntKind.u8.wrap (z + 32) = z + 32 := by rw [IntKind.wrap_u8]; omega
            go_wp2
            go_round
            case rel => exact ⟨i + 1, by omega, by go_num⟩
            case measure => simp [intOf]; omega
          · unfold foldB at hfy
            rw [if_neg (by omega)] at hfy
            subst hfy
            go_wp2
            go_round
            case rel => exact ⟨i + 1, by omega, by go_num⟩
            case measure => simp [intOf]; omega
        · unfold foldB at hfy
          rw [if_neg (by omega)] at hfy
          subst hfy
          go_wp2
          go_round
          case rel => exact ⟨i + 1, by omega, by go_num⟩
          case measure => simp [intOf]; omega
      · go_wp2
        go_ret
        exact ⟨rfl, DD⟩

end Go.Proofs.YtkhmaiggcihneaaDoor
