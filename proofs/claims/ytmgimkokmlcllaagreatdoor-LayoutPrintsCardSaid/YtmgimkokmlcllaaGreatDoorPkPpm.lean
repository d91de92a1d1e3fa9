/-
  Package ppm, walked: Right, Print, Rest, Part, Cut, Share: each by what its numbers are.
-/
import Derived.Test.YtmgimkokmlcllaaGreatDoorPkPlain
import Derived.Test.YtmgimkokmlcllaaGreatDoorPkExact
import Derived.Test.YtmgimkokmlcllaaGreatDoorPkVrs
import Derived.Lib.IndexLaws
namespace Go.Proofs.YtmgimkokmlcllaaGreatDoor
open Go.RowKit

theorem right_yes (p : Int) (w : World) (h : p ≤ 1000000) : Calls Tryz.prog 100 #[.int .u32 p] w fun e w' => e = .returned (.bool true) ∧ w = w' := by
  go_enter Tryz.func100, Tryz.ntmps100
  go_wp2
  go_ret
  exact ⟨rfl, rfl⟩
theorem right_no (p : Int) (w : World) (h : ¬ p ≤ 1000000) : Calls Tryz.prog 100 #[.int .u32 p] w fun e w' => e = .returned (.bool false) ∧ w = w' := by
  have hd : decide (p ≤ 1000000) = false := by simpa using h
  clear h
  go_enter Tryz.func100, Tryz.ntmps100
  go_wp2
  go_ret
  exact ⟨rfl, rfl⟩
theorem pdigits_any (n : Int) (w : World) (h0 : 0 ≤ n) (h1 : n ≤ 4294967295) :
    Calls Tryz.prog 101 #[.int .u32 n] w fun e w' => e = .returned (.string (strOfNums (dec n.toNat))) ∧ Below w.heap.size w w' := by
  go_enter Tryz.func101, Tryz.ntmps101
  go_wp2_with (go_at_call 98; (with_reducible refine (print_any 0 n n.toNat _ (IsW.small h0 (by omega))).mono ?_); rintro e w1 ⟨rfl, g1⟩)
  go_ret
  exact ⟨rfl, g1⟩

theorem str_percent (l : List Int) : strOfNums l ++ ⟨#[37]⟩ = strOfNums (l ++ [37]) := strOfNums_append l [37]
theorem str_point (l : List Int) : strOfNums l ++ ⟨#[46]⟩ = strOfNums (l ++ [46]) := strOfNums_append l [46]
theorem dec_small_len {n : Nat} (h : n ≤ 1000000) : (dec n).length ≤ 39 := dec_len (by unfold W128; omega)

theorem five_tail (l : Nat) (h : l < 10000) : (strOfNums (dec (10000 + l))).extract 1 (strOfNums (dec (10000 + l))).size = strOfNums [48 + ((l / 1000 : Nat) : Int), 48 + ((l / 100 % 10 : Nat) : Int), 48 + ((l / 10 % 10 : Nat) : Int), 48 + ((l % 10 : Nat) : Int)] := by
  rw [dec_five l h, Lib.extract_from]
  rfl
theorem byte_digit (n : Nat) (h : n ≤ 9) : UInt8.ofNat (48 + (n : Int)).toNat = 48 ↔ n = 0 := by
  constructor
  · intro e
    have := congrArg UInt8.toNat e
    simp only [UInt8.toNat_ofNat'] at this
    have e2 : (48 : UInt8).toNat = 48 := rfl
    omega
  · rintro rfl; rfl
theorem trim_four (l : Nat) (h : l < 10000) : Lib.trimRightB (strOfNums [48 + ((l / 1000 : Nat) : Int), 48 + ((l / 100 % 10 : Nat) : Int), 48 + ((l / 10 % 10 : Nat) : Int), 48 + ((l % 10 : Nat) : Int)]).data.toList 48 = (strOfNums (fr 4 l)).data.toList := by
  have b1 := byte_digit (l / 1000) (by omega)
  have b2 := byte_digit (l / 100 % 10) (by omega)
  have b3 := byte_digit (l / 10 % 10) (by omega)
  have b4 := byte_digit (l % 10) (by omega)
  rw [fr_four l h]
  unfold Lib.trimRightB strOfNums
  simp only [List.map_cons, List.map_nil, List.reverse_cons, List.reverse_nil, List.nil_append, List.cons_append, List.dropWhile_cons, beq_iff_eq, b1, b2, b3, b4]
  by_cases h1 : l % 10 = 0
  · by_cases h2 : l % 100 = 0
    · by_cases h3 : l % 1000 = 0
      · by_cases h4 : l = 0
        · subst h4; rfl
        · rw [if_pos h1, if_pos (show l / 10 % 10 = 0 by omega), if_pos (show l / 100 % 10 = 0 by omega), if_neg (show ¬ l / 1000 = 0 by omega), if_neg (show ¬ ¬ l % 10 = 0 by omega), if_neg (show ¬ ¬ l % 100 = 0 by omega), if_neg (show ¬ ¬ l % 1000 = 0 by omega), if_pos h4]; rfl
      · rw [if_pos h1, if_pos (show l / 10 % 10 = 0 by omega), if_neg (show ¬ l / 100 % 10 = 0 by omega), if_neg (show ¬ ¬ l % 10 = 0 by omega), if_neg (show ¬ ¬ l % 100 = 0 by omega), if_pos h3]; rfl
    · rw [if_pos h1, if_neg (show ¬ l / 10 % 10 = 0 by omega), if_neg (show ¬ ¬ l % 10 = 0 by omega), if_pos h2]; rfl
  · rw [if_neg h1, if_pos h1]; rfl

theorem pct_whole (p : Nat) (h : p % 10000 = 0) : strOfNums (dec (p / 10000)) ++ ⟨#[37]⟩ = strOfNums (pct p) := by
  unfold pct tailOf; rw [if_pos h, str_percent]; rfl
theorem pct_left (p : Nat) (h : ¬ p % 10000 = 0) : strOfNums (dec (p / 10000)) ++ ⟨#[46]⟩ ++ strOfNums (fr 4 (p % 10000)) ++ ⟨#[37]⟩ = strOfNums (pct p) := by
  unfold pct tailOf; rw [if_neg h, str_point, strOfNums_append, str_percent]; simp

set_option maxRecDepth 100000 in
theorem pprint_any (p : Int) (w : World) (h0 : 0 ≤ p) (h : p ≤ 1000000) :
    Calls Tryz.prog 66 #[.int .u32 p] w fun e w' => e = .returned (.string (strOfNums (pct p.toNat))) ∧ Below w.heap.size w w' := by
  obtain ⟨q, hq⟩ : ∃ q, p / 10000 = q := ⟨_, rfl⟩
  obtain ⟨l, hl⟩ : ∃ l, p % 10000 = l := ⟨_, rfl⟩
  have q0 : 0 ≤ q := by omega
  have q1 : q ≤ 100 := by omega
  have l0 : 0 ≤ l := by omega
  have l1 : l ≤ 9999 := by omega
  have hqn : Hid (q.toNat = p.toNat / 10000) := by unfold Hid; omega
  have hln : Hid (l.toNat = p.toNat % 10000) := by unfold Hid; omega
  have hlen : Hid ((dec q.toNat).length ≤ 39) := dec_small_len (by omega)
  by_cases hz : l = 0
  · subst hz
    have hfin := Lib.hid (pct_whole p.toNat (by have := hln.out; omega))
    have hsz : (strOfNums (dec q.toNat)).size + (⟨#[37]⟩ : ByteArray).size ≤ 9223372036854775807 := by rw [strOfNums_size]; have := hlen.out; have e : (⟨#[37]⟩ : ByteArray).size = 1 := rfl; omega
    go_enter Tryz.func66, Tryz.ntmps66
    go_wp2_with (first
      | (go_at_call 100; (with_reducible refine (right_yes p _ h).mono ?_); rintro e w1 ⟨rfl, rfl⟩)
      | (go_at_call 101; (with_reducible refine (pdigits_any q _ q0 (by omega)).mono ?_); rintro e w1 ⟨rfl, g1⟩))
    go_ret
    exact ⟨by rw [← hfin.out, ← hqn.out]; rfl, g1⟩
  · have hzb : (l == 0) = false := by simpa using hz
    have hfin := Lib.hid (pct_left p.toNat (by have := hln.out; omega))
    have hne : Hid (l.toNat < 10000) := by unfold Hid; omega
    have htn : Hid ((10000 + l).toNat = 10000 + l.toNat) := by unfold Hid; omega
    have hs5 : (strOfNums (dec (10000 + l).toNat)).size = 5 := by rw [htn.out, dec_five _ hne.out]; rfl
    obtain ⟨four, hfour⟩ : ∃ four, (strOfNums (dec (10000 + l).toNat)).extract 1 5 = four := ⟨_, rfl⟩
    have hf4 : Hid (four = strOfNums [48 + ((l.toNat / 1000 : Nat) : Int), 48 + ((l.toNat / 100 % 10 : Nat) : Int), 48 + ((l.toNat / 10 % 10 : Nat) : Int), 48 + ((l.toNat % 10 : Nat) : Int)]) := by
      unfold Hid
      rw [← hfour, ← five_tail l.toNat hne.out, ← htn.out, hs5]
    have htrim : ∀ w, Calls Tryz.prog 99 #[.string four, .string ⟨#[48]⟩] w fun e w' => e = .returned (.string (strOfNums (fr 4 l.toNat))) ∧ w = w' := fun w => by
      refine (Tryz.strings_TrimRight_one four 48 (by decide) w (by rw [hf4.out, strOfNums_size]; simp)).mono ?_
      rintro e w' ⟨rfl, hw⟩
      exact ⟨by rw [hf4.out, trim_four _ hne.out], hw.symm⟩
    have hsq : (strOfNums (dec q.toNat)).size ≤ 39 := by rw [strOfNums_size]; exact hlen.out
    have hsf : (strOfNums (fr 4 l.toNat)).size ≤ 4 := by rw [strOfNums_size]; exact fr_len _ _
    have hs1 : (strOfNums (dec q.toNat)).size + 1 ≤ 9223372036854775807 := by omega
    have hs2 : (strOfNums (dec q.toNat)).size + 1 + (strOfNums (fr 4 l.toNat)).size ≤ 9223372036854775807 := by omega
    have hs3 : (strOfNums (dec q.toNat)).size + 1 + (strOfNums (fr 4 l.toNat)).size + 1 ≤ 9223372036854775807 := by omega
    clear hz
    have HT := Lib.hid htrim
    clear htrim
    go_enter Tryz.func66, Tryz.ntmps66
    go_wp2_with (first
      | (go_at_call 100; (with_reducible refine (right_yes p _ h).mono ?_); rintro e w1 ⟨rfl, rfl⟩)
      | (go_at_call 101; (with_reducible refine (pdigits_any (10000 + l) _ (by omega) (by omega)).mono ?_); rintro e w1 ⟨rfl, g1⟩)
      | (go_at_call 101; (with_reducible refine (pdigits_any q _ q0 (by omega)).mono ?_); rintro e w2 ⟨rfl, g2⟩)
      | (go_at_call 99; (with_reducible refine (HT.out _).mono ?_); rintro e w' ⟨rfl, rfl⟩))
    go_ret
    exact ⟨by rw [← hfin.out, ← hqn.out, ← hln.out]; rfl, below_step g1 g2⟩

def GivesCut (q r : Nat) (c : Int) (w : World) (e : Ending) (w' : World) : Prop := ∃ x y : Int, e = .returned (.tuple #[.int .u64 x, .int .u64 y, .int .i64 c]) ∧ 0 ≤ x ∧ x ≤ 18446744073709551615 ∧ x.toNat = q ∧ 0 ≤ y ∧ y ≤ 18446744073709551615 ∧ y.toNat = r ∧ Below w.heap.size w w'
def GivesPC (N : Nat) (c : Int) (w : World) (e : Ending) (w' : World) : Prop := ∃ x : Int, e = .returned (.tuple #[.int .u32 x, .int .i64 c]) ∧ 0 ≤ x ∧ x ≤ 4294967295 ∧ x.toNat = N ∧ Below w.heap.size w w'
end Go.Proofs.YtmgimkokmlcllaaGreatDoor

/-
  Package ppm, walked: a text cut in two (strings.Cut, strings.CutSuffix), and the digits behind the point.
-/
namespace Go.Proofs.YtmgimkokmlcllaaGreatDoor
open Go.RowKit

theorem nums_mk (l : List UInt8) : nums ⟨l.toArray⟩ = l.map fun b => (b.toNat : Int) := by simp [nums]
theorem nums_upto (s : ByteArray) (k : Nat) : nums (s.extract 0 k) = (nums s).take k := by
  rw [Lib.extract_upto, nums_mk, nums, List.map_take]
theorem nums_from (s : ByteArray) (k : Nat) : nums (s.extract k s.size) = (nums s).drop k := by
  rw [Lib.extract_from, nums_mk, nums, List.map_drop]
theorem csuf_any (s : ByteArray) (hm : s.size ≤ 9223372036854775807) : ∃ (t : ByteArray) (e : Bool), (e = true → nums s = nums t ++ [37]) ∧ (e = false → ¬ ∃ ys, nums s = ys ++ [37]) ∧ t.size ≤ s.size ∧
    ∀ w, Calls Tryz.prog 156 #[.string s, .string ⟨#[37]⟩] w fun x w' => x = .returned (.tuple #[.string t, .bool e]) ∧ w = w' := by
  refine ⟨⟨(Lib.trimSuffix s.data.toList [37]).toArray⟩, Lib.hasSuffix s.data.toList [37], fun h => ?_, fun h hc => ?_, ?_, fun w => ?_⟩
  · rw [nums_mk]
    unfold Lib.trimSuffix
    rw [if_pos h]
    unfold Lib.hasSuffix at h
    obtain ⟨t, ht⟩ := List.isSuffixOf_iff_suffix.mp h
    rw [nums, ← ht]
    simp
  · obtain ⟨ys, hy⟩ := hc
    have hl : s.data.toList ≠ [] := fun e => by rw [nums, e] at hy; simp at hy
    have hx := List.dropLast_concat_getLast hl
    rw [nums, ← hx, List.map_append] at hy
    have hlast : ((s.data.toList.getLast hl).toNat : Int) = 37 := by
      have := congrArg List.getLast? hy
      simpa using this
    have h37 : s.data.toList.getLast hl = 37 := UInt8.toNat_inj.mp (by have e : (37 : UInt8).toNat = 37 := rfl; omega)
    have : Lib.hasSuffix s.data.toList [37] = true := by
      unfold Lib.hasSuffix
      exact List.isSuffixOf_iff_suffix.mpr ⟨s.data.toList.dropLast, by rw [← h37]; exact hx⟩
    rw [this] at h; cases h
  · rw [Lib.size_mk]
    unfold Lib.trimSuffix
    have : s.data.toList.length = s.size := by simp
    split
    · rw [List.length_take]; omega
    · omega
  · refine (Tryz.strings_CutSuffix s ⟨#[37]⟩ w hm).mono ?_
    rintro e w' ⟨rfl, hw⟩
    exact ⟨rfl, hw.symm⟩

theorem point_in (s : ByteArray) : 46 ∈ nums s ↔ (46 : UInt8) ∈ s.data.toList := by
  unfold nums
  rw [List.mem_map]
  constructor
  · rintro ⟨b, hb, e⟩
    have : b = 46 := UInt8.toNat_inj.mp (by have e2 : (46 : UInt8).toNat = 46 := rfl; omega)
    rw [← this]; exact hb
  · intro h; exact ⟨46, h, rfl⟩

theorem cut_any (s : ByteArray) (hm : s.size ≤ 9223372036854775807) : ∃ (a b : ByteArray) (d : Bool), Halves (nums s) (nums a) (nums b) d ∧ a.size ≤ s.size ∧ b.size ≤ s.size ∧
    ∀ w, Calls Tryz.prog 157 #[.string s, .string ⟨#[46]⟩] w fun x w' => x = .returned (.tuple #[.string a, .string b, .bool d]) ∧ Below w.heap.size w w' := by
  have hge := Lib.indexByte_ge s.data.toList 46
  by_cases h : Lib.indexByte s.data.toList 46 = -1
  · refine ⟨s, ⟨#[]⟩, false, ⟨by simp, ?_, fun _ => rfl⟩, Nat.le_refl _, Nat.zero_le _, fun w => ?_⟩
    · rw [point_in]
      intro hc
      obtain ⟨k, hk, e⟩ := List.mem_iff_getElem.mp hc
      exact Lib.indexByte_none h k (by rw [List.getElem?_eq_getElem hk, e])
    · have hi : ∀ w, Calls Tryz.prog 175 #[.string s, .string ⟨#[46]⟩] w fun e w' => e = .returned (.int .i64 (-1)) ∧ w = w' := fun w => by
        refine (Tryz.stringslite_Index_one s 46 w).mono ?_
        rintro e w' ⟨rfl, hw⟩
        exact ⟨by rw [h], hw.symm⟩
      have hc : ∀ w, Calls Tryz.prog 178 #[.string s, .string ⟨#[46]⟩] w fun x w' => x = .returned (.tuple #[.string s, .string ⟨#[]⟩, .bool false]) ∧ w = w' := fun w => by
        clear hge h
        go_enter Tryz.func178, Tryz.ntmps178
        go_wp2_with (go_at_call 175; (with_reducible refine (hi _).mono ?_); rintro e w1 ⟨rfl, rfl⟩)
        go_ret3
        exact ⟨rfl, rfl⟩
      clear hge h
      go_enter Tryz.func157, Tryz.ntmps157
      go_wp2_with (go_at_call 178; (with_reducible refine (hc _).mono ?_); rintro e w1 ⟨rfl, rfl⟩)
      go_ret3
      exact ⟨rfl, Below.refl _ _⟩
  · obtain ⟨i, hi⟩ : ∃ i : Nat, Lib.indexByte s.data.toList 46 = i := ⟨(Lib.indexByte s.data.toList 46).toNat, by omega⟩
    obtain ⟨h1, h2⟩ := Lib.indexByte_some hi
    have hlt : i < s.size := by
      have : i < s.data.toList.length := by
        by_cases hc : i < s.data.toList.length
        · exact hc
        · rw [List.getElem?_eq_none (by omega)] at h1; cases h1
      simpa using this
    have hl : i < (nums s).length := by rw [nums_length]; exact hlt
    have h46 : (nums s)[i] = 46 := by
      have : (nums s)[i]? = some 46 := by rw [nums, List.getElem?_map, h1]; rfl
      rw [List.getElem?_eq_getElem hl] at this
      exact Option.some.inj this
    refine ⟨s.extract 0 i, s.extract (i + 1) s.size, true, ⟨?_, ?_, fun e => by cases e⟩, by rw [ByteArray.size_extract]; omega, by rw [ByteArray.size_extract]; omega, fun w => ?_⟩
    · rw [nums_upto, nums_from, if_pos rfl, ← h46, List.getElem_cons_drop, List.take_append_drop]
    · rw [point_in, Lib.extract_upto]
      intro hc
      obtain ⟨k, hk, e⟩ := List.mem_iff_getElem.mp hc
      simp at hk e
      exact h2 k (by omega) (by rw [List.getElem?_eq_getElem (by simp; omega)]; simp; exact e)
    · have hi' : ∀ w, Calls Tryz.prog 175 #[.string s, .string ⟨#[46]⟩] w fun e w' => e = .returned (.int .i64 i) ∧ w = w' := fun w => by
        refine (Tryz.stringslite_Index_one s 46 w).mono ?_
        rintro e w' ⟨rfl, hw⟩
        exact ⟨by rw [hi], hw.symm⟩
      have hc : ∀ w, Calls Tryz.prog 178 #[.string s, .string ⟨#[46]⟩] w fun x w' => x = .returned (.tuple #[.string (s.extract 0 i), .string (s.extract (i + 1) s.size), .bool true]) ∧ Below w.heap.size w w' := fun w => by
        have c1 : (0 : Int) ≤ i := by omega
        have c2 : (i : Int) ≤ s.size := by omega
        have c3 : (0 : Int) ≤ (i : Int) + 1 := by omega
        have c4 : ((i : Int) + 1) ≤ s.size := by omega
        clear hge h hi h1 h2 hl h46
        go_enter Tryz.func178, Tryz.ntmps178
        go_wp2_with (go_at_call 175; (with_reducible refine (hi' _).mono ?_); rintro e w1 ⟨rfl, rfl⟩)
        go_region
        go_wp2
        go_ret3
        exact ⟨rfl, (Below.refl _ _).drew⟩
      clear hge h hi h1 h2 hl h46
      go_enter Tryz.func157, Tryz.ntmps157
      go_wp2_with (go_at_call 178; (with_reducible refine (hc _).mono ?_); rintro e w1 ⟨rfl, g1⟩)
      go_ret3
      exact ⟨rfl, g1⟩

structure BAt (B : List Int) (pos : Nat) (P u z : Int) : Prop where
  few : pos ≤ 4
  len : pos ≤ B.length
  p : P = (pv B pos : Int)
  u : u = ((10 ^ (4 - pos) : Nat) : Int)
  z : (pos = 0 ∧ z = 48) ∨ (1 ≤ pos ∧ B.getD (pos - 1) 0 = z)
  all : ∀ i, i < pos → 48 ≤ B.getD i 0 ∧ B.getD i 0 ≤ 57
theorem BAt.start (B : List Int) : BAt B 0 0 10000 48 := ⟨by decide, Nat.zero_le _, rfl, rfl, Or.inl ⟨rfl, rfl⟩, fun i h => by omega⟩
theorem dB_at {B : List Int} {i : Nat} (hi : i < B.length) : dB B i = (B.getD i 0 - 48).toNat := by unfold dB; rw [getD_default hi 48 0]
theorem BAt.bounds {B : List Int} {pos : Nat} {P u z : Int} (h : BAt B pos P u z) : 0 ≤ P ∧ P ≤ 9999 ∧ 1 ≤ u ∧ u ≤ 10000 := by
  obtain ⟨h1, h2, h3, h4, h5, h6⟩ := h
  have hd : ∀ i, i < pos → dB B i ≤ 9 := fun i hi => by rw [dB_at (by omega)]; have := h6 i hi; omega
  subst h3; subst h4
  match pos, h1, hd with
  | 0, _, hd => simp [pv]
  | 1, _, hd => have d0 := hd 0 (by omega); simp [pv]; omega
  | 2, _, hd => have d0 := hd 0 (by omega); have d1 := hd 1 (by omega); simp [pv]; omega
  | 3, _, hd => have d0 := hd 0 (by omega); have d1 := hd 1 (by omega); have d2 := hd 2 (by omega); simp [pv]; omega
  | 4, _, hd => have d0 := hd 0 (by omega); have d1 := hd 1 (by omega); have d2 := hd 2 (by omega); have d3 := hd 3 (by omega); simp [pv]; omega
theorem BAt.unit {B : List Int} {pos : Nat} {P u z : Int} (h : BAt B pos P u z) (hp : ¬ pos = 4) : ∃ v, u / 10 = v ∧ 1 ≤ v ∧ v ≤ 1000 ∧ v = ((10 ^ (3 - pos) : Nat) : Int) := by
  obtain ⟨h1, h2, h3, h4, h5, h6⟩ := h
  subst h4
  match pos, h1, hp with
  | 0, _, _ => exact ⟨_, rfl, by decide, by decide, by decide⟩
  | 1, _, _ => exact ⟨_, rfl, by decide, by decide, by decide⟩
  | 2, _, _ => exact ⟨_, rfl, by decide, by decide, by decide⟩
  | 3, _, _ => exact ⟨_, rfl, by decide, by decide, by decide⟩
  | 4, _, hp => exact (hp rfl).elim
theorem BAt.stop {B : List Int} {P u z : Int} (h : BAt B 4 P u z) : u / 10 = 0 := by
  rw [h.u]; rfl
theorem BAt.next {B : List Int} {pos : Nat} {P u z v z' m : Int} (h : BAt B pos P u z) (hp : ¬ pos = 4) (hl : pos < B.length) (hv : v = ((10 ^ (3 - pos) : Nat) : Int)) (hz : B.getD pos 0 = z') (h1 : 48 ≤ z') (h2 : z' ≤ 57) (hm : v * (z' - 48) = m) :
    BAt B (pos + 1) (P + m) v z' := by
  have hf := h.few
  refine ⟨by omega, hl, ?_, by rw [hv, show 4 - (pos + 1) = 3 - pos by omega], Or.inr ⟨by omega, hz⟩, fun i hi => ?_⟩
  · rw [pv, h.p, ← hm, hv, dB_at hl, hz]
    have e : z' - 48 = (((z' - 48).toNat : Nat) : Int) := by omega
    rw [e, Int.toNat_natCast, ← Int.natCast_mul, Nat.mul_comm]
    omega
  · by_cases e : i = pos
    · subst e; rw [hz]; exact ⟨h1, h2⟩
    · exact h.all i (by omega)
theorem BAt.yes {B : List Int} {pos : Nat} {P u z : Int} (h : BAt B pos P u z) (hl : pos = B.length) (hz : ¬ z = 48) : Fr B ∧ P = (pv B 4 : Int) := by
  obtain ⟨h1, h2, h3, h4, h5, h6⟩ := h
  subst hl
  rcases h5 with ⟨_, e⟩ | ⟨h5, e⟩
  · exact (hz e).elim
  · exact ⟨⟨h5, h1, h6, by rw [e]; exact hz⟩, by rw [h3, pv_end _ (Nat.le_refl _) h1]⟩
theorem BAt.no {B : List Int} {pos : Nat} {P u z : Int} (h : BAt B pos P u z) (hl : pos = B.length) (hz : z = 48) : ¬ Fr B := by
  obtain ⟨h1, h2, h3, h4, h5, h6⟩ := h
  subst hl
  intro f
  rcases h5 with ⟨e, _⟩ | ⟨_, e⟩
  · have := f.some; omega
  · exact f.last (e.trans hz)

def GivesB2 (B : List Int) (w : World) (e : Ending) (w' : World) : Prop := ∃ (x : Int) (b : Bool), e = .returned (.tuple #[.int .u64 x, .bool b]) ∧ (b = true ↔ Fr B) ∧ (b = true → x = (pv B 4 : Int)) ∧ Below w.heap.size w w'

set_option maxRecDepth 100000 in
set_option maxHeartbeats 1000000 in
theorem behind_any (s : ByteArray) (w : World) (hm : s.size ≤ 9223372036854775807) :
    Calls Tryz.prog 158 #[.string s] w (GivesB2 (nums s) w) := by
  go_enter Tryz.func158, Tryz.ntmps158
  go_wp2
  go_loopw [4, 5, 6] (fun v4 v5 v6 w' => ∃ (pos : Nat) (P u z : Int), v4 = .int .u64 P ∧ v5 = .int .u64 u ∧ v6 = .int .i32 z ∧ BAt (nums s) pos P u z ∧ w' = w.iter s pos) (fun _ _ _ w' => s.size - w'.iterPos w.heap.size)
  case atStart => exact ⟨0, 0, 10000, 48, rfl, rfl, rfl, BAt.start _, rfl⟩
  case round =>
    obtain ⟨pos, P, u, z0, rfl, rfl, rfl, hB, rfl⟩ := hrel
    obtain ⟨b0, b1, b2, b3⟩ := hB.bounds
    have HB := Lib.hid hB
    have hlen : Hid ((nums s).length = s.size) := nums_length s
    clear hB
    by_cases h1 : pos < s.size
    · obtain ⟨z, p, hnx, zl, zh, hyes, hno⟩ := next_rune (w.iter s pos) w.heap.size s pos (World.iter_heap w s pos) h1
      simp only [iter_at] at hnx
      replace hyes := Lib.hid hyes
      replace hno := Lib.hid hno
      by_cases h4 : pos = 4
      · subst h4
        have hu := HB.out.stop
        have hfin : Hid (¬ Fr (nums s)) := by intro f; have h2 := f.few; have h3 := hlen.out; omega
        go_wp2
        go_ret2
        exact ⟨0, false, rfl, ⟨fun e => Bool.noConfusion e, fun f => (hfin.out f).elim⟩, fun e => Bool.noConfusion e, iter_below _ _ _⟩
      · obtain ⟨v, hv, v1, v2, hvp⟩ := HB.out.unit h4
        replace hvp := Lib.hid hvp
        have hv0 : (v == 0) = false := by simp; omega
        by_cases h2 : z < 48
        · have hbad := Lib.hid (fun f : Fr (nums s) => hno.out (by omega) (f.all pos (by have := hlen.out; omega)))
          go_wp2
          go_ret2
          exact ⟨0, false, rfl, ⟨fun e => Bool.noConfusion e, fun f => (hbad.out f).elim⟩, fun e => Bool.noConfusion e, iter_below _ _ _⟩
        · by_cases h3 : 57 < z
          · have hbad := Lib.hid (fun f : Fr (nums s) => hno.out (by omega) (f.all pos (by have := hlen.out; omega)))
            go_wp2
            go_ret2
            exact ⟨0, false, rfl, ⟨fun e => Bool.noConfusion e, fun f => (hbad.out f).elim⟩, fun e => Bool.noConfusion e, iter_below _ _ _⟩
          · obtain ⟨rfl, hz2⟩ := hyes.out ⟨by omega, by omega⟩
            obtain ⟨m, hmm⟩ : ∃ m, v * (z - 48) = m := ⟨_, rfl⟩
            have hnext := Lib.hid (HB.out.next h4 (by have := hlen.out; omega) hvp.out hz2 (by omega) (by omega) hmm)
            have hnb := hnext.out.bounds
            have m0 : 0 ≤ m := by rw [← hmm]; exact Int.mul_nonneg (by omega) (by omega)
            have m1 : P + m ≤ 9999 := hnb.2.1
            clear hnb
            have hzk : 0 ≤ z - 48 := by omega
            replace hz2 := Lib.hid hz2
            go_wp2
            go_roundw
            case rel => exact ⟨pos + 1, P + m, v, z, by rw [← hmm, ← hv], by rw [hv], rfl, hnext.out, rfl⟩
            case measure => simp; omega
    · have hnx : ∀ ty, (Instr.next (.pointer (some ⟨w.heap.size, 0, none⟩)) true ty).run Tryz.prog (w.iter s pos) = _ := fun ty => run_next_end w s pos ty h1
      have hpe : Hid (pos = (nums s).length) := by have h2 := HB.out.len; have h3 := hlen.out; unfold Hid; omega
      by_cases hz : z0 = 48
      · have hfin := Lib.hid (HB.out.no hpe.out hz)
        subst hz
        go_wp2
        go_ret2
        exact ⟨P, false, rfl, ⟨fun e => Bool.noConfusion e, fun f => (hfin.out f).elim⟩, fun e => Bool.noConfusion e, iter_below _ _ _⟩
      · have hfin := Lib.hid (HB.out.yes hpe.out hz)
        have hzb : (z0 != 48) = true := by simpa using hz
        clear hz
        go_wp2
        go_ret2
        exact ⟨P, true, rfl, ⟨fun _ => hfin.out.1, fun _ => rfl⟩, fun _ => hfin.out.2, iter_below _ _ _⟩

end Go.Proofs.YtmgimkokmlcllaaGreatDoor

/-
  Package ppm, walked: Read: a text of percents as parts, or why it is none.
-/
namespace Go.Proofs.YtmgimkokmlcllaaGreatDoor
open Go.RowKit

def Shape (s : ByteArray) (p : Nat) : Prop := ∃ ys A B d, nums s = ys ++ [37] ∧ Halves ys A B d ∧ Written A B d ∧ parts A B = p
def WhenFr (d : Bool) (B : List Int) : Prop := d = true → Fr B
set_option maxRecDepth 100000 in
theorem pread_noend (s t a b : ByteArray) (d : Bool) (w : World) (hbs : b.size ≤ 9223372036854775807)
    (hsuf : ∀ w, Calls Tryz.prog 156 #[.string s, .string ⟨#[37]⟩] w fun x w' => x = .returned (.tuple #[.string t, .bool false]) ∧ w = w')
    (hcut : ∀ w, Calls Tryz.prog 157 #[.string t, .string ⟨#[46]⟩] w fun x w' => x = .returned (.tuple #[.string a, .string b, .bool d]) ∧ Below w.heap.size w w')
    (N : Nat) (c : Int) (hread : ∀ w, Calls Tryz.prog 134 #[.string a] w (GivesWC N c w))  :
    Calls Tryz.prog 135 #[.string s] w (GivesPC 0 5 w) := by
  have HS := Lib.hid hsuf
  have HC := Lib.hid hcut
  have HR := Lib.hid hread
  have HB := Lib.hid (fun w => behind_any b w hbs)
  clear hsuf hcut hread
  cases d
  all_goals
    go_enter Tryz.func135, Tryz.ntmps135
    go_wp2_with (first | (go_at_call 156; (with_reducible refine (HS.out _).mono ?_); rintro e w0 ⟨rfl, rfl⟩) | (go_at_call 157; (with_reducible refine (HC.out _).mono ?_); rintro e w1 ⟨rfl, g1⟩) | (go_at_call 134; (with_reducible refine (HR.out _).mono ?_); rintro e w2 ⟨wh, wl, rfl, hW, g2⟩; clear hW; have DD := below_more (below_step g1 g2) (.cells #[.int .u64 wh, .int .u64 wl] 108); have KK := Lib.hid (Box.fresh w2 wh wl _ rfl); obtain ⟨_, _, _⟩ := KK.out) | (go_at_call 158; (with_reducible refine (HB.out _).mono ?_); rintro e w3 ⟨x, y, rfl, hy, hx, g3⟩; clear hy hx; have DD := below_step DD g3; have KK := Lib.hid (KK.out.after g3); obtain ⟨_, _, _⟩ := KK.out))
    go_ret2
    exact ⟨0, rfl, by decide, by decide, rfl, DD⟩

set_option maxRecDepth 100000 in
theorem pread_unwritten (s t a b : ByteArray) (d : Bool) (w : World) (hbs : b.size ≤ 9223372036854775807)
    (hsuf : ∀ w, Calls Tryz.prog 156 #[.string s, .string ⟨#[37]⟩] w fun x w' => x = .returned (.tuple #[.string t, .bool true]) ∧ w = w')
    (hcut : ∀ w, Calls Tryz.prog 157 #[.string t, .string ⟨#[46]⟩] w fun x w' => x = .returned (.tuple #[.string a, .string b, .bool d]) ∧ Below w.heap.size w w')
    (N : Nat) (c : Int) (hread : ∀ w, Calls Tryz.prog 134 #[.string a] w (GivesWC N c w)) (hd : d = true) (hf : ¬ Fr (nums b)) :
    Calls Tryz.prog 135 #[.string s] w (GivesPC 0 5 w) := by
  have HS := Lib.hid hsuf
  have HC := Lib.hid hcut
  have HR := Lib.hid hread
  have HB := Lib.hid (fun w => behind_any b w hbs)
  clear hsuf hcut hread
  have hfr := Lib.hid hf
  clear hf
  subst hd
  go_enter Tryz.func135, Tryz.ntmps135
  go_wp2_with (first | (go_at_call 156; (with_reducible refine (HS.out _).mono ?_); rintro e w0 ⟨rfl, rfl⟩) | (go_at_call 157; (with_reducible refine (HC.out _).mono ?_); rintro e w1 ⟨rfl, g1⟩) | (go_at_call 134; (with_reducible refine (HR.out _).mono ?_); rintro e w2 ⟨wh, wl, rfl, hW, g2⟩; clear hW; have DD := below_more (below_step g1 g2) (.cells #[.int .u64 wh, .int .u64 wl] 108); have KK := Lib.hid (Box.fresh w2 wh wl _ rfl); obtain ⟨_, _, _⟩ := KK.out) | (go_at_call 158; (with_reducible refine (HB.out _).mono ?_); rintro e w3 ⟨x, y, rfl, hy, hx, g3⟩; obtain rfl : y = false := (by cases y; rfl; exact (hfr.out (hy.mp rfl)).elim); clear hy hx; have DD := below_step DD g3; have KK := Lib.hid (KK.out.after g3); obtain ⟨_, _, _⟩ := KK.out))
  go_ret2
  exact ⟨0, rfl, by decide, by decide, rfl, DD⟩

set_option maxRecDepth 100000 in
theorem pread_ahead (s t a b : ByteArray) (d : Bool) (w : World) (hbs : b.size ≤ 9223372036854775807)
    (hsuf : ∀ w, Calls Tryz.prog 156 #[.string s, .string ⟨#[37]⟩] w fun x w' => x = .returned (.tuple #[.string t, .bool true]) ∧ w = w')
    (hcut : ∀ w, Calls Tryz.prog 157 #[.string t, .string ⟨#[46]⟩] w fun x w' => x = .returned (.tuple #[.string a, .string b, .bool d]) ∧ Below w.heap.size w w')
    (N : Nat) (hread : ∀ w, Calls Tryz.prog 134 #[.string a] w (GivesWC N 5 w)) (hf : WhenFr d (nums b)) :
    Calls Tryz.prog 135 #[.string s] w (GivesPC 0 5 w) := by
  have HS := Lib.hid hsuf
  have HC := Lib.hid hcut
  have HR := Lib.hid hread
  have HB := Lib.hid (fun w => behind_any b w hbs)
  clear hsuf hcut hread
  have hfr := Lib.hid hf
  clear hf
  cases d
  all_goals
    go_enter Tryz.func135, Tryz.ntmps135
    go_wp2_with (first | (go_at_call 156; (with_reducible refine (HS.out _).mono ?_); rintro e w0 ⟨rfl, rfl⟩) | (go_at_call 157; (with_reducible refine (HC.out _).mono ?_); rintro e w1 ⟨rfl, g1⟩) | (go_at_call 134; (with_reducible refine (HR.out _).mono ?_); rintro e w2 ⟨wh, wl, rfl, hW, g2⟩; clear hW; have DD := below_more (below_step g1 g2) (.cells #[.int .u64 wh, .int .u64 wl] 108); have KK := Lib.hid (Box.fresh w2 wh wl _ rfl); obtain ⟨_, _, _⟩ := KK.out) | (go_at_call 158; (with_reducible refine (HB.out _).mono ?_); rintro e w3 ⟨x, y, rfl, hy, hx, g3⟩; obtain rfl := hy.mpr (hfr.out rfl); clear hy; replace hx := Lib.hid (hx rfl); have DD := below_step DD g3; have KK := Lib.hid (KK.out.after g3); obtain ⟨_, _, _⟩ := KK.out))
    go_ret2
    exact ⟨0, rfl, by decide, by decide, rfl, DD⟩

set_option maxRecDepth 100000 in
theorem pread_over (s t a b : ByteArray) (d : Bool) (w : World) (hbs : b.size ≤ 9223372036854775807)
    (hsuf : ∀ w, Calls Tryz.prog 156 #[.string s, .string ⟨#[37]⟩] w fun x w' => x = .returned (.tuple #[.string t, .bool true]) ∧ w = w')
    (hcut : ∀ w, Calls Tryz.prog 157 #[.string t, .string ⟨#[46]⟩] w fun x w' => x = .returned (.tuple #[.string a, .string b, .bool d]) ∧ Below w.heap.size w w')
    (N : Nat) (hread : ∀ w, Calls Tryz.prog 134 #[.string a] w (GivesWC N 3 w)) (hf : WhenFr d (nums b)) :
    Calls Tryz.prog 135 #[.string s] w (GivesPC 0 8 w) := by
  have HS := Lib.hid hsuf
  have HC := Lib.hid hcut
  have HR := Lib.hid hread
  have HB := Lib.hid (fun w => behind_any b w hbs)
  clear hsuf hcut hread
  have hfr := Lib.hid hf
  clear hf
  cases d
  all_goals
    go_enter Tryz.func135, Tryz.ntmps135
    go_wp2_with (first | (go_at_call 156; (with_reducible refine (HS.out _).mono ?_); rintro e w0 ⟨rfl, rfl⟩) | (go_at_call 157; (with_reducible refine (HC.out _).mono ?_); rintro e w1 ⟨rfl, g1⟩) | (go_at_call 134; (with_reducible refine (HR.out _).mono ?_); rintro e w2 ⟨wh, wl, rfl, hW, g2⟩; clear hW; have DD := below_more (below_step g1 g2) (.cells #[.int .u64 wh, .int .u64 wl] 108); have KK := Lib.hid (Box.fresh w2 wh wl _ rfl); obtain ⟨_, _, _⟩ := KK.out) | (go_at_call 158; (with_reducible refine (HB.out _).mono ?_); rintro e w3 ⟨x, y, rfl, hy, hx, g3⟩; obtain rfl := hy.mpr (hfr.out rfl); clear hy; replace hx := Lib.hid (hx rfl); have DD := below_step DD g3; have KK := Lib.hid (KK.out.after g3); obtain ⟨_, _, _⟩ := KK.out))
    go_ret2
    exact ⟨0, rfl, by decide, by decide, rfl, DD⟩

theorem cmp100 (k wh wl : Int) (N : Nat) (w : World) (hW : IsW wh wl N) (hk : cmpI N 100 = k) :
    Calls Tryz.prog 159 #[.agg #[.int .u64 wh, .int .u64 wl], .agg #[.int .u64 0, .int .u64 100]] w fun e w' => e = .returned (.int .i64 k) ∧ Below w.heap.size w w' := by
  rw [← hk]; exact ecompare_any wh wl 0 100 N 100 w hW ⟨by decide, by decide, by decide, by decide, by decide⟩
set_option maxRecDepth 100000 in
theorem pread_hundred (s t a b : ByteArray) (d : Bool) (w : World) (hbs : b.size ≤ 9223372036854775807)
    (hsuf : ∀ w, Calls Tryz.prog 156 #[.string s, .string ⟨#[37]⟩] w fun x w' => x = .returned (.tuple #[.string t, .bool true]) ∧ w = w')
    (hcut : ∀ w, Calls Tryz.prog 157 #[.string t, .string ⟨#[46]⟩] w fun x w' => x = .returned (.tuple #[.string a, .string b, .bool d]) ∧ Below w.heap.size w w')
    (N : Nat) (hread : ∀ w, Calls Tryz.prog 134 #[.string a] w (GivesWC N 0 w)) (hf : WhenFr d (nums b)) (hN : 100 < N) :
    Calls Tryz.prog 135 #[.string s] w (GivesPC 0 8 w) := by
  have HS := Lib.hid hsuf
  have HC := Lib.hid hcut
  have HR := Lib.hid hread
  have HB := Lib.hid (fun w => behind_any b w hbs)
  clear hsuf hcut hread
  have hfr := Lib.hid hf
  clear hf
  obtain ⟨k, hk⟩ : ∃ k, cmpI N 100 = k := ⟨_, rfl⟩
  have hkb : decide (k > 0) = true := by rw [← hk]; rw [cmpI_gt hN]; rfl
  replace hk := Lib.hid hk
  cases d
  all_goals
    go_enter Tryz.func135, Tryz.ntmps135
    go_wp2_with (first | (go_at_call 156; (with_reducible refine (HS.out _).mono ?_); rintro e w0 ⟨rfl, rfl⟩) | (go_at_call 157; (with_reducible refine (HC.out _).mono ?_); rintro e w1 ⟨rfl, g1⟩) | (go_at_call 134; (with_reducible refine (HR.out _).mono ?_); rintro e w2 ⟨wh, wl, rfl, hW, g2⟩; have DD := below_more (below_step g1 g2) (.cells #[.int .u64 wh, .int .u64 wl] 108); have KK := Lib.hid (Box.fresh w2 wh wl _ rfl); obtain ⟨_, _, _⟩ := KK.out) | (go_at_call 158; (with_reducible refine (HB.out _).mono ?_); rintro e w3 ⟨x, y, rfl, hy, hx, g3⟩; obtain rfl := hy.mpr (hfr.out rfl); clear hy; replace hx := Lib.hid (hx rfl); have DD := below_step DD g3; have KK := Lib.hid (KK.out.after g3); obtain ⟨_, _, _⟩ := KK.out) | (go_at_call 159; (with_reducible refine (cmp100 k wh wl N _ hW hk.out).mono ?_); rintro e w4 ⟨rfl, g4⟩; have DD := below_step DD g4; have KK := Lib.hid (KK.out.after g4); obtain ⟨_, _, _⟩ := KK.out))
    go_ret2
    exact ⟨0, rfl, by decide, by decide, rfl, DD⟩

theorem low100 {h l : Int} {N : Nat} (k : IsW h l N) (hN : N ≤ 100) : h = 0 ∧ 0 ≤ l ∧ l ≤ 100 ∧ Hid (l = (N : Int)) := by
  obtain ⟨a, b, c, d, e⟩ := k
  unfold Hid; omega
theorem pv_word {B : List Int} {x : Int} (f : Fr B) (h : x = (pv B 4 : Int)) : 0 ≤ x ∧ x ≤ 9999 ∧ Hid (x = (pv B 4 : Int)) := by
  have := pv_lt f.all
  exact ⟨by omega, by omega, h⟩
set_option maxRecDepth 100000 in
theorem pread_above (s t a b : ByteArray) (d : Bool) (w : World) (hbs : b.size ≤ 9223372036854775807)
    (hsuf : ∀ w, Calls Tryz.prog 156 #[.string s, .string ⟨#[37]⟩] w fun x w' => x = .returned (.tuple #[.string t, .bool true]) ∧ w = w')
    (hcut : ∀ w, Calls Tryz.prog 157 #[.string t, .string ⟨#[46]⟩] w fun x w' => x = .returned (.tuple #[.string a, .string b, .bool d]) ∧ Below w.heap.size w w')
    (N : Nat) (hread : ∀ w, Calls Tryz.prog 134 #[.string a] w (GivesWC N 0 w)) (hf : WhenFr d (nums b)) (hb0 : d = false → nums b = []) (hN : N ≤ 100) (hp : 1000000 < N * 10000 + pv (nums b) 4) :
    Calls Tryz.prog 135 #[.string s] w (GivesPC 0 8 w) := by
  have HS := Lib.hid hsuf
  have HC := Lib.hid hcut
  have HR := Lib.hid hread
  have HB := Lib.hid (fun w => behind_any b w hbs)
  clear hsuf hcut hread
  have hfr := Lib.hid hf
  have HN := Lib.hid hN
  have HP := Lib.hid hp
  clear hf hp hN
  obtain ⟨k, hk⟩ : ∃ k, cmpI N 100 = k := ⟨_, rfl⟩
  have hkb : decide (k > 0) = false := by rw [← hk]; have hN := HN.out; rcases Nat.lt_or_ge N 100 with h | h; (rw [cmpI_lt h]; rfl); (rw [cmpI_eq (by omega)]; rfl)
  replace hk := Lib.hid hk
  cases d
  · have hz := Lib.hid (hb0 rfl)
    clear hb0
    go_enter Tryz.func135, Tryz.ntmps135
    go_wp2_with (first | (go_at_call 156; (with_reducible refine (HS.out _).mono ?_); rintro e w0 ⟨rfl, rfl⟩) | (go_at_call 157; (with_reducible refine (HC.out _).mono ?_); rintro e w1 ⟨rfl, g1⟩) | (go_at_call 134; (with_reducible refine (HR.out _).mono ?_); rintro e w2 ⟨wh, wl, rfl, hW, g2⟩; obtain ⟨rfl, wl0, wl1, wln⟩ := low100 hW HN.out; have DD := below_more (below_step g1 g2) (.cells #[.int .u64 0, .int .u64 wl] 108); have KK := Lib.hid (Box.fresh w2 0 wl _ rfl); obtain ⟨_, _, _⟩ := KK.out) | (go_at_call 158; (with_reducible refine (HB.out _).mono ?_); rintro e w3 ⟨x, y, rfl, hy, hx, g3⟩; obtain rfl := hy.mpr (hfr.out rfl); clear hy; obtain ⟨x0, x1, hxx⟩ := pv_word (hfr.out rfl) (hx rfl); clear hx; have DD := below_step DD g3; have KK := Lib.hid (KK.out.after g3); obtain ⟨_, _, _⟩ := KK.out) | (go_at_call 159; (with_reducible refine (cmp100 k 0 wl N _ hW hk.out).mono ?_); rintro e w4 ⟨rfl, g4⟩; have DD := below_step DD g4; have KK := Lib.hid (KK.out.after g4); obtain ⟨_, _, _⟩ := KK.out) | (go_at_call 100; (with_reducible refine (right_no (wl * 10000) _ (by have h1 := HP.out; have h2 := wln.out; rw [hz.out, pv_nil] at h1; omega)).mono ?_); rintro e w5 ⟨rfl, rfl⟩))
    go_ret2
    exact ⟨0, rfl, by decide, by decide, rfl, DD⟩
  · clear hb0
    go_enter Tryz.func135, Tryz.ntmps135
    go_wp2_with (first | (go_at_call 156; (with_reducible refine (HS.out _).mono ?_); rintro e w0 ⟨rfl, rfl⟩) | (go_at_call 157; (with_reducible refine (HC.out _).mono ?_); rintro e w1 ⟨rfl, g1⟩) | (go_at_call 134; (with_reducible refine (HR.out _).mono ?_); rintro e w2 ⟨wh, wl, rfl, hW, g2⟩; obtain ⟨rfl, wl0, wl1, wln⟩ := low100 hW HN.out; have DD := below_more (below_step g1 g2) (.cells #[.int .u64 0, .int .u64 wl] 108); have KK := Lib.hid (Box.fresh w2 0 wl _ rfl); obtain ⟨_, _, _⟩ := KK.out) | (go_at_call 158; (with_reducible refine (HB.out _).mono ?_); rintro e w3 ⟨x, y, rfl, hy, hx, g3⟩; obtain rfl := hy.mpr (hfr.out rfl); clear hy; obtain ⟨x0, x1, hxx⟩ := pv_word (hfr.out rfl) (hx rfl); clear hx; have DD := below_step DD g3; have KK := Lib.hid (KK.out.after g3); obtain ⟨_, _, _⟩ := KK.out) | (go_at_call 159; (with_reducible refine (cmp100 k 0 wl N _ hW hk.out).mono ?_); rintro e w4 ⟨rfl, g4⟩; have DD := below_step DD g4; have KK := Lib.hid (KK.out.after g4); obtain ⟨_, _, _⟩ := KK.out) | (go_at_call 100; (with_reducible refine (right_no (wl * 10000 + x) _ (by have h1 := HP.out; have h2 := wln.out; have h3 := hxx.out; omega)).mono ?_); rintro e w5 ⟨rfl, rfl⟩))
    go_ret2
    exact ⟨0, rfl, by decide, by decide, rfl, DD⟩
set_option maxRecDepth 100000 in
theorem pread_fine (s t a b : ByteArray) (d : Bool) (w : World) (hbs : b.size ≤ 9223372036854775807)
    (hsuf : ∀ w, Calls Tryz.prog 156 #[.string s, .string ⟨#[37]⟩] w fun x w' => x = .returned (.tuple #[.string t, .bool true]) ∧ w = w')
    (hcut : ∀ w, Calls Tryz.prog 157 #[.string t, .string ⟨#[46]⟩] w fun x w' => x = .returned (.tuple #[.string a, .string b, .bool d]) ∧ Below w.heap.size w w')
    (N : Nat) (hread : ∀ w, Calls Tryz.prog 134 #[.string a] w (GivesWC N 0 w)) (hf : WhenFr d (nums b)) (hb0 : d = false → nums b = []) (hN : N ≤ 100) (hp : N * 10000 + pv (nums b) 4 ≤ 1000000) :
    Calls Tryz.prog 135 #[.string s] w (GivesPC (N * 10000 + pv (nums b) 4) 0 w) := by
  have HS := Lib.hid hsuf
  have HC := Lib.hid hcut
  have HR := Lib.hid hread
  have HB := Lib.hid (fun w => behind_any b w hbs)
  clear hsuf hcut hread
  have hfr := Lib.hid hf
  have HN := Lib.hid hN
  have HP := Lib.hid hp
  clear hf hp hN
  obtain ⟨k, hk⟩ : ∃ k, cmpI N 100 = k := ⟨_, rfl⟩
  have hkb : decide (k > 0) = false := by rw [← hk]; have hN := HN.out; rcases Nat.lt_or_ge N 100 with h | h; (rw [cmpI_lt h]; rfl); (rw [cmpI_eq (by omega)]; rfl)
  replace hk := Lib.hid hk
  cases d
  · have hz := Lib.hid (hb0 rfl)
    clear hb0
    go_enter Tryz.func135, Tryz.ntmps135
    go_wp2_with (first | (go_at_call 156; (with_reducible refine (HS.out _).mono ?_); rintro e w0 ⟨rfl, rfl⟩) | (go_at_call 157; (with_reducible refine (HC.out _).mono ?_); rintro e w1 ⟨rfl, g1⟩) | (go_at_call 134; (with_reducible refine (HR.out _).mono ?_); rintro e w2 ⟨wh, wl, rfl, hW, g2⟩; obtain ⟨rfl, wl0, wl1, wln⟩ := low100 hW HN.out; have DD := below_more (below_step g1 g2) (.cells #[.int .u64 0, .int .u64 wl] 108); have KK := Lib.hid (Box.fresh w2 0 wl _ rfl); obtain ⟨_, _, _⟩ := KK.out) | (go_at_call 158; (with_reducible refine (HB.out _).mono ?_); rintro e w3 ⟨x, y, rfl, hy, hx, g3⟩; obtain rfl := hy.mpr (hfr.out rfl); clear hy; obtain ⟨x0, x1, hxx⟩ := pv_word (hfr.out rfl) (hx rfl); clear hx; have DD := below_step DD g3; have KK := Lib.hid (KK.out.after g3); obtain ⟨_, _, _⟩ := KK.out) | (go_at_call 159; (with_reducible refine (cmp100 k 0 wl N _ hW hk.out).mono ?_); rintro e w4 ⟨rfl, g4⟩; have DD := below_step DD g4; have KK := Lib.hid (KK.out.after g4); obtain ⟨_, _, _⟩ := KK.out) | (go_at_call 100; (with_reducible refine (right_yes (wl * 10000) _ (by have h1 := HP.out; have h2 := wln.out; rw [hz.out, pv_nil] at h1; omega)).mono ?_); rintro e w5 ⟨rfl, rfl⟩))
    go_ret2
    exact ⟨wl * 10000, rfl, by omega, by omega, by have h2 := wln.out; rw [hz.out, pv_nil]; omega, DD⟩
  · clear hb0
    go_enter Tryz.func135, Tryz.ntmps135
    go_wp2_with (first | (go_at_call 156; (with_reducible refine (HS.out _).mono ?_); rintro e w0 ⟨rfl, rfl⟩) | (go_at_call 157; (with_reducible refine (HC.out _).mono ?_); rintro e w1 ⟨rfl, g1⟩) | (go_at_call 134; (with_reducible refine (HR.out _).mono ?_); rintro e w2 ⟨wh, wl, rfl, hW, g2⟩; obtain ⟨rfl, wl0, wl1, wln⟩ := low100 hW HN.out; have DD := below_more (below_step g1 g2) (.cells #[.int .u64 0, .int .u64 wl] 108); have KK := Lib.hid (Box.fresh w2 0 wl _ rfl); obtain ⟨_, _, _⟩ := KK.out) | (go_at_call 158; (with_reducible refine (HB.out _).mono ?_); rintro e w3 ⟨x, y, rfl, hy, hx, g3⟩; obtain rfl := hy.mpr (hfr.out rfl); clear hy; obtain ⟨x0, x1, hxx⟩ := pv_word (hfr.out rfl) (hx rfl); clear hx; have DD := below_step DD g3; have KK := Lib.hid (KK.out.after g3); obtain ⟨_, _, _⟩ := KK.out) | (go_at_call 159; (with_reducible refine (cmp100 k 0 wl N _ hW hk.out).mono ?_); rintro e w4 ⟨rfl, g4⟩; have DD := below_step DD g4; have KK := Lib.hid (KK.out.after g4); obtain ⟨_, _, _⟩ := KK.out) | (go_at_call 100; (with_reducible refine (right_yes (wl * 10000 + x) _ (by have h1 := HP.out; have h2 := wln.out; have h3 := hxx.out; omega)).mono ?_); rintro e w5 ⟨rfl, rfl⟩))
    go_ret2
    exact ⟨wl * 10000 + x, rfl, by omega, by omega, by have h2 := wln.out; have h3 := hxx.out; omega, DD⟩

end Go.Proofs.YtmgimkokmlcllaaGreatDoor

/-
  Package ppm, walked: Read, in its three outcomes; and that a print is read.
-/
namespace Go.Proofs.YtmgimkokmlcllaaGreatDoor
open Go.RowKit

structure Ends (s : ByteArray) (ys A B : List Int) (d : Bool) : Prop where
  all : nums s = ys ++ [37]
  halves : Halves ys A B d
theorem Ends.unique {s : ByteArray} {ys A B ys' A' B' : List Int} {d d' : Bool} (h : Ends s ys A B d) (h' : Ends s ys' A' B' d') : ys = ys' ∧ A = A' ∧ B = B' ∧ d = d' := by
  have e : ys = ys' := List.append_cancel_right (h.all.symm.trans h'.all)
  subst e
  exact ⟨rfl, h.halves.unique h'.halves⟩
theorem eread_some (a : ByteArray) (hm : a.size ≤ 9223372036854775807) : ∃ (N : Nat) (c : Int), ∀ w, Calls Tryz.prog 134 #[.string a] w (GivesWC N c w) := by
  by_cases h : Dg (nums a)
  · exact ⟨_, _, fun w => eread_yes a w hm h⟩
  · exact ⟨_, _, fun w => eread_no a w hm h⟩
def Outcome (R : Nat → Int → Prop) (s : ByteArray) : Prop :=
  ((¬ ∃ ys, nums s = ys ++ [37]) ∧ R 0 5) ∨ ∃ ys A B d, Ends s ys A B d ∧ ((¬ Written A B d ∧ R 0 5) ∨ (Written A B d ∧ 1000000 < parts A B ∧ R 0 8) ∨ (Written A B d ∧ parts A B ≤ 1000000 ∧ R (parts A B) 0))

theorem pread_cases (s : ByteArray) (hm : s.size ≤ 9223372036854775807) : Outcome (fun N c => ∀ w, Calls Tryz.prog 135 #[.string s] w (GivesPC N c w)) s := by
  obtain ⟨t, en, h1, h2, h3, hsuf⟩ := csuf_any s hm
  obtain ⟨a, b, d, hH, ha, hb, hcut⟩ := cut_any t (by omega)
  obtain ⟨N, c, hread⟩ := eread_some a (by omega)
  have hbs : b.size ≤ 9223372036854775807 := by omega
  cases en with
  | false => exact Or.inl ⟨h2 rfl, fun w => pread_noend s t a b d w hbs hsuf hcut N c hread⟩
  | true =>
    refine Or.inr ⟨nums t, nums a, nums b, d, ⟨h1 rfl, hH⟩, ?_⟩
    by_cases hf : WhenFr d (nums b)
    · by_cases hd : Dg (nums a)
      · have hW : Written (nums a) (nums b) d := ⟨hd, hf⟩
        refine Or.inr ?_
        have hr := fun w => eread_yes a w (by omega) hd
        have hpv : pv (nums b) 4 ≤ 9999 := by
          cases d with
          | false => rw [hH.nil rfl, pv_nil]; omega
          | true => exact pv_lt (hf rfl).all
        have hp : parts (nums a) (nums b) = numOf (nums a) * 10000 + pv (nums b) 4 := rfl
        by_cases h128 : W128 (numOf (nums a))
        · rw [capN_in h128, capC_in h128] at hr
          by_cases h100 : 100 < numOf (nums a)
          · exact Or.inl ⟨hW, by omega, fun w => pread_hundred s t a b d w hbs hsuf hcut _ hr hf h100⟩
          · by_cases hbig : 1000000 < numOf (nums a) * 10000 + pv (nums b) 4
            · exact Or.inl ⟨hW, by omega, fun w => pread_above s t a b d w hbs hsuf hcut _ hr hf hH.nil (by omega) hbig⟩
            · exact Or.inr ⟨hW, by omega, fun w => pread_fine s t a b d w hbs hsuf hcut _ hr hf hH.nil (by omega) (by omega)⟩
        · rw [capN_out h128, capC_out h128] at hr
          unfold W128 at h128
          exact Or.inl ⟨hW, by omega, fun w => pread_over s t a b d w hbs hsuf hcut _ hr hf⟩
      · exact Or.inl ⟨fun hW => hd hW.dg, fun w => pread_ahead s t a b d w hbs hsuf hcut _ (fun w => eread_no a w (by omega) hd) hf⟩
    · have hdt : d = true := by
        cases d with
        | false => exact (hf (fun e => by cases e)).elim
        | true => rfl
      exact Or.inl ⟨fun hW => hf hW.fr, fun w => pread_unwritten s t a b d w hbs hsuf hcut N c hread hdt (fun f => hf (fun _ => f))⟩

end Go.Proofs.YtmgimkokmlcllaaGreatDoor
