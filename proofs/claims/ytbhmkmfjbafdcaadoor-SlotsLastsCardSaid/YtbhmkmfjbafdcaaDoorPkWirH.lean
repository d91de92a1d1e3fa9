/-
  Package wire's number: how many bytes a size has, and they, the highest first: walked.
-/
import Derived.Test.YtbhmkmfjbafdcaaDoorPkBase
import Derived.Test.YtbhmkmfjbafdcaaDoorPkShelf
import Derived.Lib.BitFns
import Derived.WalkSpells
import Derived.WalkLawsBesides
import Derived.Lib.Hide
namespace Go.Proofs.YtbhmkmfjbafdcaaDoor
open Go.RowKit

/-- How many bytes: by the bits. -/
theorem digs_bits (n : Nat) (hn : n < 18446744073709551616) : (digs n).length = (Lib.bitLen n + 7) / 8 := by
  induction n using Nat.strongRecOn with
  | _ n ih =>
    by_cases h0 : n = 0
    · subst h0; rw [digs_zero]; rfl
    · rw [digs_pos h0, List.length_append, List.length_singleton]
      by_cases h : n < 256
      · have h1 := Lib.bitLen_half n h0 (by omega)
        have h2 := Lib.bitLen_le8 ⟨n, h⟩
        simp only at h2
        rw [show n / 256 = 0 by omega, digs_zero, List.length_nil]
        omega
      · rw [ih (n / 256) (by omega) (by omega), Lib.bitLen_shift8 n (by omega) hn]
        omega
/-- One byte more. -/
theorem digs_next (n j : Nat) (h : j < (digs n).length) : digs (n / 256 ^ j) = digs (n / 256 ^ (j + 1)) ++ [((n / 256 ^ j % 256 : Nat) : Int)] := by
  have h0 : n / 256 ^ j ≠ 0 := by
    intro e
    have hp : 0 < 256 ^ j := Nat.pow_pos (by decide)
    have h1 : n < 256 ^ j := by
      by_cases hc : n < 256 ^ j
      · exact hc
      · have := Nat.div_pos (Nat.le_of_not_lt hc) hp; omega
    have := digs_len n j h1
    omega
  rw [digs_pos h0, Nat.pow_succ, ← Nat.div_div_eq_div_mul]
theorem digs_none (n : Nat) : digs (n / 256 ^ (digs n).length) = [] := by
  have h : n < 256 ^ (digs n).length := by
    have := valB_lt (digs n) (digs_byte n) (digs n).length (Nat.le_refl _)
    rwa [List.take_length, valB_digs] at this
  rw [Nat.div_eq_of_lt h, digs_zero]

set_option maxRecDepth 100000 in
set_option maxHeartbeats 4000000 in
theorem number_any (mark n : Nat) (w : World) (hm : mark ≤ 16) (hn : n ≤ 18446744073709551615) :
    Calls Tryd.prog 72 #[.int .u8 mark, .int .u64 n] w fun e w' => ∃ v, e = .returned v ∧ OwnInts 5 .u8 w' w.heap.size v (((mark + (digs n).length : Nat) : Int) :: digs n) ∧ Below w.heap.size w w' := by
  obtain ⟨i0, hi, hz0, hz1, hz2⟩ := info_parts info_byte
  have h8 := digs_len8 hn
  have HL := Lib.hid (fun w => Tryd.bits_Len64 (n : Int) w (by omega) (by omega))
  have hbl := digs_bits n (by omega)
  obtain ⟨L, hL⟩ : ∃ L, Lib.bitLen n = L := ⟨_, rfl⟩
  obtain ⟨C, hC⟩ : ∃ C, (digs n).length = C := ⟨_, rfl⟩
  have HL2 : Hid (∀ w, Calls Tryd.prog 73 #[.int .u64 n] w fun e w' => e = .returned (.int .i64 (L : Int)) ∧ w' = w) := fun w => by
    have := HL.out w
    rw [Int.toNat_natCast, hL] at this
    exact this
  clear HL
  rw [hL, hC] at hbl
  have HN := Lib.hid (digs_none n)
  have HX := Lib.hid (fun j h => digs_next n j h)
  rw [hC] at h8 HN HX ⊢
  clear hC hL
  have w1 : IntKind.i64.wrap ((L : Int) + 7) = ((L + 7 : Nat) : Int) := by rw [IntKind.wrap_i64]; omega
  have w2 : ((L + 7 : Nat) : Int).tdiv 8 = (C : Int) := by rw [Int.tdiv_eq_ediv_of_nonneg (by omega)]; omega
  have w3 : IntKind.i64.wrap (C : Int) = (C : Int) := by rw [IntKind.wrap_i64]; omega
  have w4 : IntKind.u8.wrap (C : Int) = (C : Int) := by rw [IntKind.wrap_u8]; omega
  have w5 : IntKind.u8.wrap ((mark : Int) + (C : Int)) = ((mark + C : Nat) : Int) := by rw [IntKind.wrap_u8]; omega
  have w6 : IntKind.i64.wrap ((C : Int) - 1) = (C : Int) - 1 := by rw [IntKind.wrap_i64]; omega
  go_enter Tryd.func72, Tryd.ntmps72
  go_wp2_with (go_at_call 73; (with_reducible refine (HL2.out _).mono ?_); rintro e wq ⟨rfl, hq⟩; obtain rfl := hq.symm)
  go_loopw [6, 7] (fun v6 v7 wr => ∃ j : Nat, v7 = .int .i64 ((j : Int) - 1) ∧ j ≤ C ∧ OwnInts 5 .u8 wr w.heap.size v6 (((mark + C : Nat) : Int) :: digs (n / 256 ^ j)) ∧ Below w.heap.size w wr ∧ w.heap.size ≤ wr.heap.size) (fun _ v7 _ => (intOf v7 + 1).toNat)
  case atStart =>
    have e : ((L : Int) + 7) / 8 = (C : Int) := by omega
    rw [e]
    exact ⟨C, rfl, Nat.le_refl _, by rw [HN.out]; exact OwnInts.one _ _ _ _ _ _ rfl (Nat.le_refl _), (Below.refl _ _).alloc (Nat.le_refl _) _, by simp⟩
  case round =>
    obtain ⟨j, rfl, hj, hO, hB, hs⟩ := hrel
    obtain ⟨g, cap, rfl⟩ := hO.form
    have HO := Lib.hid hO
    have HB := Lib.hid hB
    have hxl : (digs (n / 256 ^ j)).length ≤ 8 := digs_len8 (Nat.le_trans (Nat.div_le_self _ _) hn)
    have HS := Lib.hid hs
    clear hO hB
    clear w1 w2 w3 w4 w5 w6
    by_cases h0 : j = 0
    · subst h0
      have hfin : Hid (digs (n / 256 ^ 0) = digs n) := by unfold Hid; rw [Nat.pow_zero, Nat.div_one]
      go_wp2
      go_ret
      refine ⟨_, rfl, ?_, HB.out⟩
      have := HO.out
      rw [hfin.out] at this ⊢
      exact this
    · obtain ⟨i, rfl⟩ : ∃ i, j = i + 1 := ⟨j - 1, by omega⟩
      obtain ⟨x, hx⟩ : ∃ x, (((mark + C : Nat) : Int) :: digs (n / 256 ^ (i + 1))) = x := ⟨_, rfl⟩
      have hxl2 : x.length ≤ 9 := by rw [← hx, List.length_cons]; omega
      rw [hx] at HO ⊢
      have hnx : Hid (x ++ [(n : Int) / 256 ^ i % 256] = ((mark + C : Nat) : Int) :: digs (n / 256 ^ i)) := by
        unfold Hid
        have e : ((n / 256 ^ i % 256 : Nat) : Int) = (n : Int) / 256 ^ i % 256 := by
          rw [Int.natCast_emod, Int.natCast_ediv, Int.natCast_pow]; rfl
        rw [← hx, HX.out i (by omega), e]; rfl
      have hq : (n : Int) / 2 ^ (8 * (i : Int)).toNat = ((n / 256 ^ i : Nat) : Int) := by
        have e : (2 : Int) ^ (8 * i) = ((256 ^ i : Nat) : Int) := by rw [show (256 : Nat) = 2 ^ 8 from rfl, ← Nat.pow_mul, Int.natCast_pow]; rfl
        rw [show (8 * (i : Int)).toNat = 8 * i by omega, e]; rfl
      have hw1 : IntKind.i64.wrap (8 * (i : Int)) = 8 * (i : Int) := by rw [IntKind.wrap_i64]; omega
      have hi1 : ((i + 1 : Nat) : Int) - 1 = (i : Int) := by omega
      have hw3 : IntKind.i64.wrap ((i : Int) - 1) = (i : Int) - 1 := by rw [IntKind.wrap_i64]; omega
      have hb8 : 8 * (i : Int) ≤ 64 := by omega
      clear hx
      rw [hi1]
      go_wp2_with (at_builtin; refine wpList_append_own _ rfl _ _ 36 rfl w.heap.size 5 i0 (.int .u8 0) 1 1 Tryd.underlying36 hi hz0 hz1 hz2 rfl (by decide) _ _ _ rfl (HO.out.1.alloc _) ⟨wr.heap.size, 0, none⟩ 1 1 [.int .u8 ((n : Int) / 256 ^ i % 256)] rfl rfl ?q1a ?q1b ?q1c ?q1d ?q1e ?_)
      case q1a => exact cell_one_new _ _ _
      all_goals first | rfl | (intro u hu; simp at hu; subst hu; rfl) | (unfold maxLen; omega) | (omega) | (simp; omega) | skip
      intro v' w1 hown' hgrow hiff
      have hn1 := ints_next HO.out hown' hgrow hiff HB.out (Nat.le_refl _) HS.out
      clear hown' hgrow hiff
      obtain ⟨hn1, hn2, hn3⟩ := hn1
      rw [hnx.out] at hn1
      go_wp2
      go_roundw
      case rel => exact ⟨i, rfl, by omega, hn1, hn2, hn3⟩
      case measure => simp [intOf]

end Go.Proofs.YtbhmkmfjbafdcaaDoor
