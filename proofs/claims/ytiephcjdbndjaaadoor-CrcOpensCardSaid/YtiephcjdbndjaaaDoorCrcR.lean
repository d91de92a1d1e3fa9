/-
  The document's own answers of layer 8, walked: Of.
-/
import Derived.Test.YtiephcjdbndjaaaDoorCrcA
import Derived.Test.YtiephcjdbndjaaaDoorWirS
import Derived.Laws.BitsAllLaws
namespace Go.Proofs.YtiephcjdbndjaaaDoor
open Go.RowKit

theorem take_snocI {l : List Int} {i : Nat} (h : i < l.length) : l.take (i + 1) = l.take i ++ [l.getD i 0] := by
  rw [List.take_succ_eq_append_getElem h, List.getD_eq_getElem?_getD, List.getElem?_eq_getElem h]; rfl
set_option maxRecDepth 100000 in
set_option maxHeartbeats 4000000 in
theorem rcof_any (v : Value) (l : List Int) (w : World) (hv : BytesIs w v l) (hb : ∀ z ∈ l, 0 ≤ z ∧ z ≤ 255) (hl : l.length ≤ 1000000) :
    Calls Tryd.prog 8 #[v] w fun e w' => e = .returned (.int .u32 (sumL l)) ∧ w = w' := by
  obtain ⟨a, cap, rfl, hcap, hcell⟩ := hv
  have HC := Lib.hid hcell
  have HB := Lib.hid hb
  clear hcell hb
  go_enter Tryd.func8, Tryd.ntmps8
  go_wp2
  go_loop [3, 4] (fun v3 v4 => ∃ (i c : Nat), i ≤ l.length ∧ v4 = .int .i64 (i : Int) ∧ v3 = .int .u32 (c : Int) ∧ c < 4294967296 ∧ regL 4294967295 (l.take i) = c) (fun _ v4 => l.length - (intOf v4).toNat)
  case atStart => exact ⟨0, 4294967295, Nat.zero_le _, rfl, rfl, by decide, rfl⟩
  case round =>
    obtain ⟨i, c, hi, rfl, rfl, hc, hr⟩ := hrel
    have HR := Lib.hid hr
    clear hr
    by_cases h1 : i < l.length
    · obtain ⟨b, off, ha, hx⟩ := HC.out i h1
      subst ha
      have hz := HB.out (l.getD i 0) (by rw [List.getD_eq_getElem?_getD, List.getElem?_eq_getElem h1]; exact List.getElem_mem h1)
      obtain ⟨x, hxx⟩ : ∃ x : Nat, l.getD i 0 = (x : Int) := ⟨(l.getD i 0).toNat, by omega⟩
      rw [hxx] at hx hz
      have HX := Lib.hid hxx
      have hx256 : x ≤ 255 := by omega
      clear hxx hz
      go_wp2
      go_loop [3, 5] (fun v3 v5 => ∃ (k d : Nat), k ≤ 8 ∧ v5 = .int .u64 (k : Int) ∧ v3 = .int .u32 (d : Int) ∧ d < 4294967296 ∧ bitsC c x k = d) (fun _ v5 => 8 - (intOf v5).toNat)
      case atStart => exact ⟨0, c, by omega, rfl, rfl, hc, rfl⟩
      case round =>
        obtain ⟨k, d, hk, rfl, rfl, hd, hbits⟩ := hrel
        have HBt := Lib.hid hbits
        clear hbits
        by_cases hk8 : k < 8
        · obtain ⟨t, ht⟩ : ∃ t : Nat, x / 2 ^ k = t := ⟨_, rfl⟩
          have htz : (x : Int) / 2 ^ k = (t : Int) := by rw [← ht, Int.natCast_ediv, Int.natCast_pow]; rfl
          have HT := Lib.hid ht
          clear ht
          have hq : Hid ((d : Int) / 2 = ((d / 2 : Nat) : Int)) := (by omega : (d : Int) / 2 = ((d / 2 : Nat) : Int))
          by_cases he : d % 2 = t % 2
          · have e1 : ((d : Int) % 2 != (t : Int).tmod 2) = false := by rw [Int.tmod_eq_emod_of_nonneg (by omega)]; simp; omega
            have e2 : ((d : Int) % 2 != (t : Int) % 2) = false := by simp; omega
            have hnx : Hid (bitsC c x (k + 1) = d / 2) := by
              unfold Hid
              show bitC (bitsC c x k) (x / 2 ^ k) = d / 2
              rw [HBt.out, HT.out]; exact if_pos he
            have hd2 : Hid (d / 2 < 4294967296) := (by omega : d / 2 < 4294967296)
            clear he
            go_wp2
            go_round
            case rel => exact ⟨k + 1, d / 2, by omega, by go_num, by rw [hq.out], hd2.out, hnx.out⟩
            case measure => simp [intOf]; omega
          · have e1 : ((d : Int) % 2 != (t : Int).tmod 2) = true := by rw [Int.tmod_eq_emod_of_nonneg (by omega)]; simp; omega
            have e2 : ((d : Int) % 2 != (t : Int) % 2) = true := by simp; omega
            have hnx : Hid (bitsC c x (k + 1) = (d / 2) ^^^ polyN) := by
              unfold Hid
              show bitC (bitsC c x k) (x / 2 ^ k) = (d / 2) ^^^ polyN
              rw [HBt.out, HT.out]; exact if_neg he
            have hd2 : Hid ((d / 2) ^^^ polyN < 4294967296) := xor_lt32 (by omega) (by decide)
            have hxr : Hid (bits .xor .u32 ((d : Int) / 2) 2197175160 = (((d / 2) ^^^ polyN : Nat) : Int)) := by
              unfold Hid; rw [hq.out]; exact u32_xor_nat (d / 2) 2197175160 (by omega) (by decide)
            clear he
            go_wp2
            go_round
            case rel => exact ⟨k + 1, (d / 2) ^^^ polyN, by omega, by go_num, by rw [hxr.out], hd2.out, hnx.out⟩
            case measure => simp [intOf]; omega
        · obtain rfl : k = 8 := by omega
          have hnx : Hid (regL 4294967295 (l.take (i + 1)) = d) := by
            unfold Hid
            rw [take_snocI h1, regL_snoc, HR.out, HX.out, Int.toNat_natCast]
            exact HBt.out
          go_wp2
          go_round
          case rel => exact ⟨i + 1, d, by omega, by go_num, rfl, hd, hnx.out⟩
          case measure => simp [intOf]; omega
    · obtain rfl : i = l.length := by omega
      have hfin : Hid (sumL l = 4294967295 - c) := by
        have := HR.out
        rw [List.take_length] at this
        unfold Hid sumL onL
        rw [Nat.sub_zero, this]
      have hsub : (4294967295 : Int) - (c : Int) = ((4294967295 - c : Nat) : Int) := by omega
      have hw : IntKind.u32.wrap ((4294967295 - c : Nat) : Int) = ((4294967295 - c : Nat) : Int) := by rw [IntKind.wrap_u32]; omega
      go_wp2
      go_ret
      exact ⟨by rw [hfin.out]; rfl, rfl⟩

end Go.Proofs.YtiephcjdbndjaaaDoor
