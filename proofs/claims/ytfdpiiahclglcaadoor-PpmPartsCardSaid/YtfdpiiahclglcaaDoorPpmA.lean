/-
  Package ppm, walked: Right, Print, Rest, Part, Cut, Share: each by what its numbers are.
-/
import Derived.Test.YtfdpiiahclglcaaDoorPct
import Derived.Test.YtfdpiiahclglcaaDoorPrint
import Derived.Test.YtfdpiiahclglcaaDoorBoxes
import Derived.Test.YtfdpiiahclglcaaDoorReadB
namespace Go.Proofs.YtfdpiiahclglcaaDoor
open Go.RowKit

theorem right_yes (p : Int) (w : World) (h : p ≤ 1000000) : Calls Tryd.prog 11 #[.int .u32 p] w fun e w' => e = .returned (.bool true) ∧ w = w' := by
  go_enter Tryd.func11, Tryd.ntmps11
  go_wp2
  go_ret
  exact ⟨rfl, rfl⟩
theorem right_no (p : Int) (w : World) (h : ¬ p ≤ 1000000) : Calls Tryd.prog 11 #[.int .u32 p] w fun e w' => e = .returned (.bool false) ∧ w = w' := by
  have hd : decide (p ≤ 1000000) = false := by simpa using h
  clear h
  go_enter Tryd.func11, Tryd.ntmps11
  go_wp2
  go_ret
  exact ⟨rfl, rfl⟩
theorem pdigits_any (n : Int) (w : World) (h0 : 0 ≤ n) (h1 : n ≤ 4294967295) :
    Calls Tryd.prog 22 #[.int .u32 n] w fun e w' => e = .returned (.string (strOfNums (dec n.toNat))) ∧ Below w.heap.size w w' := by
  go_enter Tryd.func22, Tryd.ntmps22
  go_wp2_with (go_at_call 34; (with_reducible refine (print_any 0 n n.toNat _ (IsW.small h0 (by omega))).mono ?_); rintro e w1 ⟨rfl, g1⟩)
  go_ret
  exact ⟨rfl, g1⟩

theorem pprint_none (p : Int) (w : World) (h : ¬ p ≤ 1000000) : Calls Tryd.prog 7 #[.int .u32 p] w fun e w' => e = .returned (.string ⟨#[63]⟩) ∧ w = w' := by
  go_enter Tryd.func7, Tryd.ntmps7
  go_wp2_with (go_at_call 11; (with_reducible refine (right_no p _ h).mono ?_); rintro e w1 ⟨rfl, rfl⟩)
  go_ret
  exact ⟨rfl, rfl⟩

theorem str_percent (l : List Int) : strOfNums l ++ ⟨#[37]⟩ = strOfNums (l ++ [37]) := strOfNums_append l [37]
theorem str_point (l : List Int) : strOfNums l ++ ⟨#[46]⟩ = strOfNums (l ++ [46]) := strOfNums_append l [46]
theorem dec_small_len {n : Nat} (h : n ≤ 1000000) : (dec n).length ≤ 39 := dec_len (by unfold W128; omega)

/-- The digits of parts of a percent, as Print takes them out of a number with a one ahead, and without the noughts at their end. -/
theorem five_tail (l : Nat) (h : l < 10000) : (strOfNums (dec (10000 + l))).extract 1 (strOfNums (dec (10000 + l))).size = strOfNums [48 + ((l / 1000 : Nat) : Int), 48 + ((l / 100 % 10 : Nat) : Int), 48 + ((l / 10 % 10 : Nat) : Int), 48 + ((l % 10 : Nat) : Int)] := by
  rw [dec_five l h, Lib.extract_from]
  rfl
theorem byte_digit (n : Nat) (h : n ≤ 9) : UInt8.ofNat (48 + (n : Int)).toNat = 48 ↔ n = 0 := by
  constructor
  · intro e
    have := congrArg UInt8.toNat e
    simp only [UInt8.toNat_ofNat'] at this
    have e2 : (48 : UInt8).toNat = 48 := rfl
    omega
  · rintro rfl; rfl
theorem trim_four (l : Nat) (h : l < 10000) : Lib.trimRightB (strOfNums [48 + ((l / 1000 : Nat) : Int), 48 + ((l / 100 % 10 : Nat) : Int), 48 + ((l / 10 % 10 : Nat) : Int), 48 + ((l % 10 : Nat) : Int)]).data.toList 48 = (strOfNums (fr 4 l)).data.toList := by
  have b1 := byte_digit (l / 1000) (by omega)
  have b2 := byte_digit (l / 100 % 10) (by omega)
  have b3 := byte_digit (l / 10 % 10) (by omega)
  have b4 := byte_digit (l % 10) (by omega)
  rw [fr_four l h]
  unfold Lib.trimRightB strOfNums
  simp only [List.map_cons, List.map_nil, List.reverse_cons, List.reverse_nil, List.nil_append, List.cons_append, List.dropWhile_cons, beq_iff_eq, b1, b2, b3, b4]
  by_cases h1 : l % 10 = 0
  · by_cases h2 : l % 100 = 0
    · by_cases h3 : l % 1000 = 0
      · by_cases h4 : l = 0
        · subst h4; rfl
        · rw [if_pos h1, if_pos (show l / 10 % 10 = 0 by omega), if_pos (show l / 100 % 10 = 0 by omega), if_neg (show ¬ l / 1000 = 0 by omega), if_neg (show ¬ ¬ l % 10 = 0 by omega), if_neg (show ¬ ¬ l % 100 = 0 by omega), if_neg (show ¬ ¬ l % 1000 = 0 by omega), if_pos h4]; rfl
      · rw [if_pos h1, if_pos (show l / 10 % 10 = 0 by omega), if_neg (show ¬ l / 100 % 10 = 0 by omega), if_neg (show ¬ ¬ l % 10 = 0 by omega), if_neg (show ¬ ¬ l % 100 = 0 by omega), if_pos h3]; rfl
    · rw [if_pos h1, if_neg (show ¬ l / 10 % 10 = 0 by omega), if_neg (show ¬ ¬ l % 10 = 0 by omega), if_pos h2]; rfl
  · rw [if_neg h1, if_pos h1]; rfl

/-- The pieces of a print, put together. -/
theorem pct_whole (p : Nat) (h : p % 10000 = 0) : strOfNums (dec (p / 10000)) ++ ⟨#[37]⟩ = strOfNums (pct p) := by
  unfold pct tailOf; rw [if_pos h, str_percent]; rfl
theorem pct_left (p : Nat) (h : ¬ p % 10000 = 0) : strOfNums (dec (p / 10000)) ++ ⟨#[46]⟩ ++ strOfNums (fr 4 (p % 10000)) ++ ⟨#[37]⟩ = strOfNums (pct p) := by
  unfold pct tailOf; rw [if_neg h, str_point, strOfNums_append, str_percent]; simp

set_option maxRecDepth 100000 in
theorem pprint_any (p : Int) (w : World) (h0 : 0 ≤ p) (h : p ≤ 1000000) :
    Calls Tryd.prog 7 #[.int .u32 p] w fun e w' => e = .returned (.string (strOfNums (pct p.toNat))) ∧ Below w.heap.size w w' := by
  obtain ⟨q, hq⟩ : ∃ q, p / 10000 = q := ⟨_, rfl⟩
  obtain ⟨l, hl⟩ : ∃ l, p % 10000 = l := ⟨_, rfl⟩
  have q0 : 0 ≤ q := by omega
  have q1 : q ≤ 100 := by omega
  have l0 : 0 ≤ l := by omega
  have l1 : l ≤ 9999 := by omega
  have hqn : Hid (q.toNat = p.toNat / 10000) := by unfold Hid; omega
  have hln : Hid (l.toNat = p.toNat % 10000) := by unfold Hid; omega
  have hlen : Hid ((dec q.toNat).length ≤ 39) := dec_small_len (by omega)
  by_cases hz : l = 0
  · subst hz
    have hfin := Lib.hid (pct_whole p.toNat (by have := hln.out; omega))
    have hsz : (strOfNums (dec q.toNat)).size + (⟨#[37]⟩ : ByteArray).size ≤ 9223372036854775807 := by rw [strOfNums_size]; have := hlen.out; have e : (⟨#[37]⟩ : ByteArray).size = 1 := rfl; omega
    go_enter Tryd.func7, Tryd.ntmps7
    go_wp2_with (first
      | (go_at_call 11; (with_reducible refine (right_yes p _ h).mono ?_); rintro e w1 ⟨rfl, rfl⟩)
      | (go_at_call 22; (with_reducible refine (pdigits_any q _ q0 (by omega)).mono ?_); rintro e w1 ⟨rfl, g1⟩))
    go_ret
    exact ⟨by rw [← hfin.out, ← hqn.out]; rfl, g1⟩
  · have hzb : (l == 0) = false := by simpa using hz
    have hfin := Lib.hid (pct_left p.toNat (by have := hln.out; omega))
    have hne : Hid (l.toNat < 10000) := by unfold Hid; omega
    have htn : Hid ((10000 + l).toNat = 10000 + l.toNat) := by unfold Hid; omega
    have hs5 : (strOfNums (dec (10000 + l).toNat)).size = 5 := by rw [htn.out, dec_five _ hne.out]; rfl
    obtain ⟨four, hfour⟩ : ∃ four, (strOfNums (dec (10000 + l).toNat)).extract 1 5 = four := ⟨_, rfl⟩
    have hf4 : Hid (four = strOfNums [48 + ((l.toNat / 1000 : Nat) : Int), 48 + ((l.toNat / 100 % 10 : Nat) : Int), 48 + ((l.toNat / 10 % 10 : Nat) : Int), 48 + ((l.toNat % 10 : Nat) : Int)]) := by
      unfold Hid
      rw [← hfour, ← five_tail l.toNat hne.out, ← htn.out, hs5]
    have htrim : ∀ w, Calls Tryd.prog 23 #[.string four, .string ⟨#[48]⟩] w fun e w' => e = .returned (.string (strOfNums (fr 4 l.toNat))) ∧ w = w' := fun w => by
      refine (Tryd.strings_TrimRight_one four 48 (by decide) w (by rw [hf4.out, strOfNums_size]; simp)).mono ?_
      rintro e w' ⟨rfl, hw⟩
      exact ⟨by rw [hf4.out, trim_four _ hne.out], hw.symm⟩
    have hsq : (strOfNums (dec q.toNat)).size ≤ 39 := by rw [strOfNums_size]; exact hlen.out
    have hsf : (strOfNums (fr 4 l.toNat)).size ≤ 4 := by rw [strOfNums_size]; exact fr_len _ _
    have hs1 : (strOfNums (dec q.toNat)).size + 1 ≤ 9223372036854775807 := by omega
    have hs2 : (strOfNums (dec q.toNat)).size + 1 + (strOfNums (fr 4 l.toNat)).size ≤ 9223372036854775807 := by omega
    have hs3 : (strOfNums (dec q.toNat)).size + 1 + (strOfNums (fr 4 l.toNat)).size + 1 ≤ 9223372036854775807 := by omega
    clear hz
    have HT := Lib.hid htrim
    clear htrim
    go_enter Tryd.func7, Tryd.ntmps7
    go_wp2_with (first
      | (go_at_call 11; (with_reducible refine (right_yes p _ h).mono ?_); rintro e w1 ⟨rfl, rfl⟩)
      | (go_at_call 22; (with_reducible refine (pdigits_any (10000 + l) _ (by omega) (by omega)).mono ?_); rintro e w1 ⟨rfl, g1⟩)
      | (go_at_call 22; (with_reducible refine (pdigits_any q _ q0 (by omega)).mono ?_); rintro e w2 ⟨rfl, g2⟩)
      | (go_at_call 23; (with_reducible refine (HT.out _).mono ?_); rintro e w' ⟨rfl, rfl⟩))
    go_ret
    exact ⟨by rw [← hfin.out, ← hqn.out, ← hln.out]; rfl, below_step g1 g2⟩

theorem rest_yes (p : Int) (w : World) (h0 : 0 ≤ p) (h : p ≤ 1000000) : Calls Tryd.prog 12 #[.int .u32 p] w fun e w' => e = .returned (.int .u32 (1000000 - p)) ∧ w = w' := by
  go_enter Tryd.func12, Tryd.ntmps12
  go_wp2_with (go_at_call 11; (with_reducible refine (right_yes p _ h).mono ?_); rintro e w1 ⟨rfl, rfl⟩)
  go_ret
  exact ⟨rfl, rfl⟩
theorem rest_no (p : Int) (w : World) (h : ¬ p ≤ 1000000) : Calls Tryd.prog 12 #[.int .u32 p] w fun e w' => e = .returned (.int .u32 0) ∧ w = w' := by
  go_enter Tryd.func12, Tryd.ntmps12
  go_wp2_with (go_at_call 11; (with_reducible refine (right_no p _ h).mono ?_); rintro e w1 ⟨rfl, rfl⟩)
  go_ret
  exact ⟨rfl, rfl⟩

theorem part_no (n p : Int) (w : World) (h : ¬ p ≤ 1000000) : Calls Tryd.prog 13 #[.int .u64 n, .int .u32 p] w (GivesWC 0 8 w) := by
  go_enter Tryd.func13, Tryd.ntmps13
  go_wp2_with (go_at_call 11; (with_reducible refine (right_no p _ h).mono ?_); rintro e w1 ⟨rfl, rfl⟩)
  refine bodyPost_ret (v := .tuple #[.agg #[.int .u64 0, .int .u64 0], .int .i64 8]) (by simp [results, Tryd.results13, go_sem]) rfl ⟨0, 0, rfl, IsW.zero, ?_⟩
  exact (Below.refl _ _).alloc (Nat.le_refl _) _
theorem part_yes (n p : Int) (w : World) (n0 : 0 ≤ n) (n1 : n ≤ 18446744073709551615) (h0 : 0 ≤ p) (h : p ≤ 1000000) :
    Calls Tryd.prog 13 #[.int .u64 n, .int .u32 p] w (GivesWC (n.toNat * p.toNat) 0 w) := by
  go_enter Tryd.func13, Tryd.ntmps13
  go_wp2_with (first
    | (go_at_call 11; (with_reducible refine (right_yes p _ h).mono ?_); rintro e w1 ⟨rfl, rfl⟩)
    | (go_at_call 30; (with_reducible refine (etimes_any n p _ n0 n1 h0 (by omega)).mono ?_); rintro e w1 ⟨th, tl, rfl, hW, g1⟩; obtain ⟨r0, r1, q0, q1, s0, bel⟩ := res_kept g1))
  refine bodyPost_ret (v := .tuple #[.agg #[.int .u64 th, .int .u64 tl], .int .i64 0]) (by simp [results, Tryd.results13, go_sem, r0, r1]) rfl ⟨th, tl, rfl, hW, ?_⟩
  exact (bel.setCell (by simp) _).setCell (by simp) _

/-- Whole ones, and what is left. -/
def GivesCut (q r : Nat) (c : Int) (w : World) (e : Ending) (w' : World) : Prop := ∃ x y : Int, e = .returned (.tuple #[.int .u64 x, .int .u64 y, .int .i64 c]) ∧ 0 ≤ x ∧ x ≤ 18446744073709551615 ∧ x.toNat = q ∧ 0 ≤ y ∧ y ≤ 18446744073709551615 ∧ y.toNat = r ∧ Below w.heap.size w w'
theorem cut_no (n p : Int) (w : World) (h : ¬ p ≤ 1000000) : Calls Tryd.prog 14 #[.int .u64 n, .int .u32 p] w (GivesCut 0 0 8 w) := by
  go_enter Tryd.func14, Tryd.ntmps14
  go_wp2_with (go_at_call 13; (with_reducible refine (part_no n p _ h).mono ?_); rintro e w1 ⟨th, tl, rfl, hW, g1⟩)
  go_ret3
  exact ⟨0, 0, rfl, by decide, by decide, rfl, by decide, by decide, rfl, below_more g1 _⟩
theorem cut_low {h l : Int} {n p : Nat} (hp : p ≤ 1000000) (hn : n < 18446744073709551616) (k : IsW h l (n * p / 1000000)) : h = 0 := by
  have h1 : n * p ≤ n * 1000000 := Nat.mul_le_mul_left _ hp
  obtain ⟨_, _, _, _, e⟩ := k
  omega
theorem mod_small {x : Int} {N : Nat} (_h0 : 0 ≤ x) (h : x.toNat = N % 1000000) : x ≤ 18446744073709551615 := by omega
theorem low_num {x : Int} {N : Nat} (h : 0 * 18446744073709551616 + x = (N : Int)) : x.toNat = N := by omega
theorem cut_yes (n p : Int) (w : World) (n0 : 0 ≤ n) (n1 : n ≤ 18446744073709551615) (h0 : 0 ≤ p) (h : p ≤ 1000000) :
    Calls Tryd.prog 14 #[.int .u64 n, .int .u32 p] w (GivesCut (n.toNat * p.toNat / 1000000) (n.toNat * p.toNat % 1000000) 0 w) := by
  have hl := Lib.hid (fun (x y : Int) (k : IsW x y (n.toNat * p.toNat / 1000000)) => cut_low (by omega) (by omega) k)
  go_enter Tryd.func14, Tryd.ntmps14
  go_wp2_with (first
    | (go_at_call 13; (with_reducible refine (part_yes n p _ n0 n1 h0 h).mono ?_); rintro e w1 ⟨th, tl, rfl, hW, g1⟩)
    | (go_at_call 31; (with_reducible refine (floor_any th tl 1000000 _ _ hW (by decide) (by decide)).mono ?_); rintro e w2 ⟨qh, ql, x, rfl, hW2, hx0, hx, g2⟩; obtain rfl := hl.out _ _ hW2; obtain ⟨_, _, l0, l1, le⟩ := hW2; replace hx : Hid (x.toNat = n.toNat * p.toNat % 1000000) := hx; replace le := Lib.hid le; have hx1 := mod_small hx0 hx.out))
  go_ret3
  exact ⟨ql, x, rfl, l0, l1, low_num le.out, hx0, hx1, hx.out, below_more (below_step (below_more g1 _) g2) _⟩

def GivesPC (N : Nat) (c : Int) (w : World) (e : Ending) (w' : World) : Prop := ∃ x : Int, e = .returned (.tuple #[.int .u32 x, .int .i64 c]) ∧ 0 ≤ x ∧ x ≤ 4294967295 ∧ x.toNat = N ∧ Below w.heap.size w w'
theorem share_zero (a : Int) (w : World) : Calls Tryd.prog 21 #[.int .u64 a, .int .u64 0] w (GivesPC 0 4 w) := by
  go_enter Tryd.func21, Tryd.ntmps21
  go_wp2
  go_ret2
  exact ⟨0, rfl, by decide, by decide, rfl, Below.refl _ _⟩
theorem share_more (a b : Int) (w : World) (hb : 1 ≤ b) (h : b < a) : Calls Tryd.prog 21 #[.int .u64 a, .int .u64 b] w (GivesPC 0 16 w) := by
  have hne : (b == 0) = false := by simp; omega
  go_enter Tryd.func21, Tryd.ntmps21
  go_wp2
  go_ret2
  exact ⟨0, rfl, by decide, by decide, rfl, Below.refl _ _⟩
theorem share_low {h l : Int} {a b : Nat} (hab : a ≤ b) (k : IsW h l (a * 1000000 / b)) : h = 0 ∧ l ≤ 1000000 := by
  have h1 : a * 1000000 / b ≤ 1000000 := by
    apply Nat.div_le_of_le_mul
    have := Nat.mul_le_mul_right 1000000 hab
    omega
  obtain ⟨_, _, _, _, e⟩ := k
  omega
theorem share_any (a b : Int) (w : World) (ha : 0 ≤ a) (hb : 1 ≤ b) (hb1 : b ≤ 18446744073709551615) (h : ¬ b < a) :
    Calls Tryd.prog 21 #[.int .u64 a, .int .u64 b] w (GivesPC (a.toNat * 1000000 / b.toNat) 0 w) := by
  have hne : (b == 0) = false := by simp; omega
  have hl := Lib.hid (fun (x y : Int) (k : IsW x y (a.toNat * 1000000 / b.toNat)) => share_low (by omega) k)
  go_enter Tryd.func21, Tryd.ntmps21
  go_wp2_with (first
    | (go_at_call 30; (with_reducible refine (etimes_any a 1000000 _ ha (by omega) (by decide) (by decide)).mono ?_); rintro e w1 ⟨th, tl, rfl, hW, g1⟩; replace hW : IsW th tl (a.toNat * 1000000) := hW)
    | (go_at_call 31; (with_reducible refine (floor_any th tl b _ _ hW hb hb1).mono ?_); rintro e w2 ⟨qh, ql, x, rfl, hW2, hx0, hx, g2⟩; clear hx; obtain ⟨rfl, hql⟩ := hl.out _ _ hW2; obtain ⟨_, _, l0, l1, le⟩ := hW2; replace le := Lib.hid le))
  go_ret2
  exact ⟨ql, rfl, l0, by omega, low_num le.out, below_more (below_step g1 g2) _⟩

end Go.Proofs.YtfdpiiahclglcaaDoor
