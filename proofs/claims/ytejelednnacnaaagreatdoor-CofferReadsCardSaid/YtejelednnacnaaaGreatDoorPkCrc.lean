/-
  The document's own answers of layer 8, walked: Of.
-/
import Derived.Test.YtejelednnacnaaaGreatDoorPkPlain
import Derived.Test.YtejelednnacnaaaGreatDoorPkBase
import Derived.Laws.BitsAllLaws
import Derived.Deep.QuietTactic
import Derived.BigQuiet
import Derived.Test.YtejelednnacnaaaGreatDoorChecked
import Derived.Lib.AppendIntMem
import Derived.Lib.LaidTab
import Derived.Stop.LaidErr
import Derived.WalkSpells
namespace Go.Proofs.YtejelednnacnaaaGreatDoor
open Go.RowKit

theorem take_snocI {l : List Int} {i : Nat} (h : i < l.length) : l.take (i + 1) = l.take i ++ [l.getD i 0] := by
  rw [List.take_succ_eq_append_getElem h, List.getD_eq_getElem?_getD, List.getElem?_eq_getElem h]; rfl
set_option maxRecDepth 100000 in
set_option maxHeartbeats 4000000 in
theorem rcof_any (v : Value) (l : List Int) (w : World) (hv : BytesIs w v l) (hb : ∀ z ∈ l, 0 ≤ z ∧ z ≤ 255) (hl : l.length ≤ 1000000) :
    Calls Tryz.prog 61 #[v] w fun e w' => e = .returned (.int .u32 (sumL l)) ∧ w = w' := by
  obtain ⟨a, cap, rfl, hcap, hcell⟩ := hv
  have HC := Lib.hid hcell
  have HB := Lib.hid hb
  clear hcell hb
  go_enter Tryz.func61, Tryz.ntmps61
  go_wp2
  go_loop [3, 4] (fun v3 v4 => ∃ (i c : Nat), i ≤ l.length ∧ v4 = .int .i64 (i : Int) ∧ v3 = .int .u32 (c : Int) ∧ c < 4294967296 ∧ regL 4294967295 (l.take i) = c) (fun _ v4 => l.length - (intOf v4).toNat)
  case atStart => exact ⟨0, 4294967295, Nat.zero_le _, rfl, rfl, by decide, rfl⟩
  case round =>
    obtain ⟨i, c, hi, rfl, rfl, hc, hr⟩ := hrel
    have HR := Lib.hid hr
    clear hr
    by_cases h1 : i < l.length
    · obtain ⟨b, off, ha, hx⟩ := HC.out i h1
      subst ha
      have hz := HB.out (l.getD i 0) (by rw [List.getD_eq_getElem?_getD, List.getElem?_eq_getElem h1]; exact List.getElem_mem h1)
      obtain ⟨x, hxx⟩ : ∃ x : Nat, l.getD i 0 = (x : Int) := ⟨(l.getD i 0).toNat, by omega⟩
      rw [hxx] at hx hz
      have HX := Lib.hid hxx
      have hx256 : x ≤ 255 := by omega
      clear hxx hz
      go_wp2
      go_loop [3, 5] (fun v3 v5 => ∃ (k d : Nat), k ≤ 8 ∧ v5 = .int .u64 (k : Int) ∧ v3 = .int .u32 (d : Int) ∧ d < 4294967296 ∧ bitsC c x k = d) (fun _ v5 => 8 - (intOf v5).toNat)
      case atStart => exact ⟨0, c, by omega, rfl, rfl, hc, rfl⟩
      case round =>
        obtain ⟨k, d, hk, rfl, rfl, hd, hbits⟩ := hrel
        have HBt := Lib.hid hbits
        clear hbits
        by_cases hk8 : k < 8
        · obtain ⟨t, ht⟩ : ∃ t : Nat, x / 2 ^ k = t := ⟨_, rfl⟩
          have htz : (x : Int) / 2 ^ k = (t : Int) := by rw [← ht, Int.natCast_ediv, Int.natCast_pow]; rfl
          have HT := Lib.hid ht
          clear ht
          have hq : Hid ((d : Int) / 2 = ((d / 2 : Nat) : Int)) := (by omega : (d : Int) / 2 = ((d / 2 : Nat) : Int))
          by_cases he : d % 2 = t % 2
          · have e1 : ((d : Int) % 2 != (t : Int).tmod 2) = false := by rw [Int.tmod_eq_emod_of_nonneg (by omega)]; simp; omega
            have e2 : ((d : Int) % 2 != (t : Int) % 2) = false := by simp; omega
            have hnx : Hid (bitsC c x (k + 1) = d / 2) := by
              unfold Hid
              show bitC (bitsC c x k) (x / 2 ^ k) = d / 2
              rw [HBt.out, HT.out]; exact if_pos he
            have hd2 : Hid (d / 2 < 4294967296) := (by omega : d / 2 < 4294967296)
            clear he
            go_wp2
            go_round
            case rel => exact ⟨k + 1, d / 2, by omega, by go_num, by rw [hq.out], hd2.out, hnx.out⟩
            case measure => simp [intOf]; omega
          · have e1 : ((d : Int) % 2 != (t : Int).tmod 2) = true := by rw [Int.tmod_eq_emod_of_nonneg (by omega)]; simp; omega
            have e2 : ((d : Int) % 2 != (t : Int) % 2) = true := by simp; omega
            have hnx : Hid (bitsC c x (k + 1) = (d / 2) ^^^ polyN) := by
              unfold Hid
              show bitC (bitsC c x k) (x / 2 ^ k) = (d / 2) ^^^ polyN
              rw [HBt.out, HT.out]; exact if_neg he
            have hd2 : Hid ((d / 2) ^^^ polyN < 4294967296) := xor_lt32 (by omega) (by decide)
            have hxr : Hid (bits .xor .u32 ((d : Int) / 2) 2197175160 = (((d / 2) ^^^ polyN : Nat) : Int)) := by
              unfold Hid; rw [hq.out]; exact u32_xor_nat (d / 2) 2197175160 (by omega) (by decide)
            clear he
            go_wp2
            go_round
            case rel => exact ⟨k + 1, (d / 2) ^^^ polyN, by omega, by go_num, by rw [hxr.out], hd2.out, hnx.out⟩
            case measure => simp [intOf]; omega
        · obtain rfl : k = 8 := by omega
          have hnx : Hid (regL 4294967295 (l.take (i + 1)) = d) := by
            unfold Hid
            rw [take_snocI h1, regL_snoc, HR.out, HX.out, Int.toNat_natCast]
            exact HBt.out
          go_wp2
          go_round
          case rel => exact ⟨i + 1, d, by omega, by go_num, rfl, hd, hnx.out⟩
          case measure => simp [intOf]; omega
    · obtain rfl : i = l.length := by omega
      have hfin : Hid (sumL l = 4294967295 - c) := by
        have := HR.out
        rw [List.take_length] at this
        unfold Hid sumL onL
        rw [Nat.sub_zero, this]
      have hsub : (4294967295 : Int) - (c : Int) = ((4294967295 - c : Nat) : Int) := by omega
      have hw : IntKind.u32.wrap ((4294967295 - c : Nat) : Int) = ((4294967295 - c : Nat) : Int) := by rw [IntKind.wrap_u32]; omega
      go_wp2
      go_ret
      exact ⟨by rw [hfin.out]; rfl, rfl⟩

end Go.Proofs.YtejelednnacnaaaGreatDoor

/-
  The document's own answers of layer 8, walked: four, Frame.
-/
namespace Go.Proofs.YtejelednnacnaaaGreatDoor
open Go.RowKit

theorem rcof_arg (v : Value) (l : List Int) (w : World) (hv : ArgB w v l) (hb : ∀ z ∈ l, 0 ≤ z ∧ z ≤ 255) (hl : l.length ≤ 1000000) :
    Calls Tryz.prog 61 #[v] w fun e w' => e = .returned (.int .u32 (sumL l)) ∧ w = w' := rcof_any v l w hv.bytesIs hb hl

set_option maxRecDepth 100000 in
theorem rcfour_any (n : Nat) (w : World) (hn : n < 4294967296) : Calls Tryz.prog 60 #[.int .u32 n] w (GivesB (fourL n) w) := by
  obtain ⟨x, hx⟩ : ∃ x, n / 16777216 = x := ⟨_, rfl⟩
  obtain ⟨y, hy⟩ : ∃ y, n / 65536 % 256 = y := ⟨_, rfl⟩
  obtain ⟨z, hz⟩ : ∃ z, n / 256 % 256 = z := ⟨_, rfl⟩
  obtain ⟨u, hu⟩ : ∃ u, n % 256 = u := ⟨_, rfl⟩
  have hx0 : x % 256 = x := by omega
  have e1 : IntKind.u8.wrap ((n : Int) / 16777216) = (x : Int) := by rw [IntKind.wrap_u8]; omega
  have e2 : IntKind.u8.wrap ((n : Int) / 65536 % 256) = (y : Int) := by rw [IntKind.wrap_u8]; omega
  have e3 : IntKind.u8.wrap ((n : Int) / 256 % 256) = (z : Int) := by rw [IntKind.wrap_u8]; omega
  have e4 : IntKind.u8.wrap ((n : Int) % 256) = (u : Int) := by rw [IntKind.wrap_u8]; omega
  have hf : Hid (fourL n = [(x : Int), (y : Int), (z : Int), (u : Int)]) := by unfold Hid fourL; rw [hx, hy, hz, hu, hx0]
  have HO := Lib.hid (OwnInts.made w w.heap.size w.heap.size [(x : Int), (y : Int), (z : Int), (u : Int)] rfl (Nat.le_refl _) (by simp))
  have HB := Lib.hid (fun o => (Below.refl w.heap.size w).alloc (Nat.le_refl _) o)
  clear hx hy hz hu hx0
  go_enter Tryz.func60, Tryz.ntmps60
  go_wp2
  go_ret
  rw [hf.out]
  exact ⟨w.heap.size, 4, rfl, HO.out, HB.out _⟩

set_option maxRecDepth 100000 in
set_option maxHeartbeats 4000000 in
theorem rcframe_any (v : Value) (l : List Int) (w : World) (hv : ArgB w v l) (hb : ∀ z ∈ l, 0 ≤ z ∧ z ≤ 255) (hl : l.length ≤ 1000000) :
    Calls Tryz.prog 47 #[v] w (GivesB (frameL l) w) := by
  obtain ⟨a, cap, rfl⟩ := hv.size
  have HV := Lib.hid hv
  have HBy := Lib.hid hb
  have hw : IntKind.u32.wrap (l.length : Int) = (l.length : Int) := by rw [IntKind.wrap_u32]; omega
  clear hv hb
  obtain ⟨B, hB⟩ : ∃ B, w.heap.size = B := ⟨_, rfl⟩
  have HBd := Lib.hid hB
  have hO1 := Lib.hid (OwnInts.one 5 .u8 w B 245 w.heap.size rfl (by omega))
  have hB1 : Hid (Below B w (w.alloc (.cells #[.int .u8 245] 5))) := (Below.refl B w).alloc (by omega) _
  have S1 : Hid (B ≤ (w.alloc (.cells #[.int .u8 245] 5)).heap.size) := (by simp; omega : B ≤ (w.alloc (.cells #[.int .u8 245] 5)).heap.size)
  clear hB
  go_enter Tryz.func47, Tryz.ntmps47
  go_wp2_with (first
    | (go_at_call 60; (with_reducible refine (rcfour_any l.length _ (by omega)).mono ?_); rintro e w2 ⟨g2, cap2, rfl, h2, b2⟩; have H2 := Lib.hid h2; have HO2 := Lib.hid (hO1.out.below b2); have B2 := Lib.hid (hB1.out.trans (b2.mono S1.out)); have S2 := Lib.hid (Nat.le_trans S1.out b2.size); clear h2 b2)
    | (at_builtin; refine wp_join rfl _ _ rfl B _ [245] rfl HO2.out _ (fourL l.length) rfl H2.out.argB (by simp only [fourL_len, List.length_cons, List.length_nil]; omega) S2.out ?_))
  intro v3 w3 h3 b3 _ s3
  obtain ⟨x3, hx3⟩ : ∃ x, 245 :: fourL l.length = x := ⟨_, rfl⟩
  have L3 : Hid (x3.length = 5) := by rw [← hx3]; rfl
  rw [hx3] at h3
  have X3 := Lib.hid hx3
  clear hx3
  have H3 := Lib.hid h3
  have B3 := Lib.hid (B2.out.trans b3)
  have S3 := Lib.hid s3
  obtain ⟨g3, cap3, rfl⟩ := h3.form
  clear h3 b3 s3 H2 HO2 B2 S2 hO1 hB1 S1
  have HV3 := Lib.hid (HV.out.below (HBd.out ▸ B3.out))
  have hsl := sumL_lt l
  go_wp2_with (first
    | (go_at_call 61; (with_reducible refine (rcof_arg _ l _ HV3.out HBy.out hl).mono ?_); rintro e w4 ⟨rfl, rfl⟩)
    | (go_at_call 60; (with_reducible refine (rcfour_any (sumL l) _ hsl).mono ?_); rintro e w4 ⟨g4, cap4, rfl, h4, b4⟩; have H4 := Lib.hid h4; have HO4 := Lib.hid (H3.out.below b4); have B4 := Lib.hid (B3.out.trans (b4.mono S3.out)); have S4 := Lib.hid (Nat.le_trans S3.out b4.size); clear h4 b4)
    | (at_builtin; refine wp_join rfl _ _ rfl B _ x3 rfl HO4.out _ (fourL (sumL l)) rfl H4.out.argB (by have := L3.out; simp only [fourL_len]; omega) S4.out ?_))
  intro v5 w5 h5 b5 _ s5
  obtain ⟨x5, hx5⟩ : ∃ x, x3 ++ fourL (sumL l) = x := ⟨_, rfl⟩
  have L5 : Hid (x5.length = 9) := by unfold Hid; rw [← hx5, List.length_append, L3.out, fourL_len]
  rw [hx5] at h5
  have X5 := Lib.hid hx5
  clear hx5
  have H5 := Lib.hid h5
  have B5 := Lib.hid (B4.out.trans b5)
  have S5 := Lib.hid s5
  obtain ⟨g5, cap5, rfl⟩ := h5.form
  clear h5 b5 s5 H4 HO4 B4 S4 H3 B3 S3 HV3
  have HV5 := Lib.hid (HV.out.below (HBd.out ▸ B5.out))
  go_wp2_with (at_builtin; refine wp_join rfl _ _ rfl B _ x5 rfl H5.out _ l rfl HV5.out (by have := L5.out; omega) S5.out ?_)
  intro v6 w6 h6 b6 _ s6
  obtain ⟨x6, hx6⟩ : ∃ x, x5 ++ l = x := ⟨_, rfl⟩
  have L6 : Hid (x6.length = 9 + l.length) := by unfold Hid; rw [← hx6, List.length_append, L5.out]
  rw [hx6] at h6
  have X6 := Lib.hid hx6
  clear hx6
  have H6 := Lib.hid h6
  have B6 := Lib.hid (B5.out.trans b6)
  have S6 := Lib.hid s6
  obtain ⟨g6, cap6, rfl⟩ := h6.form
  clear h6 b6 s6 H5 B5 S5 HV5
  have H7 := Lib.hid (H6.out.alloc (.cells #[.int .u8 95] 5))
  have N7 := Lib.hid (OwnInts.one 5 .u8 w6 B 95 w6.heap.size rfl S6.out)
  have B7 : Hid (Below B w (w6.alloc (.cells #[.int .u8 95] 5))) := B6.out.alloc S6.out _
  have S7 : Hid (B ≤ (w6.alloc (.cells #[.int .u8 95] 5)).heap.size) := (by have := S6.out; simp; omega : B ≤ (w6.alloc (.cells #[.int .u8 95] 5)).heap.size)
  go_wp2_with (at_builtin; refine wp_join rfl _ _ rfl B _ x6 rfl H7.out _ [95] rfl N7.out.argB (by have := L6.out; simp only [List.length_cons, List.length_nil]; omega) S7.out ?_)
  intro v8 w8 h8 b8 _ s8
  have B8 := Lib.hid (B7.out.trans b8)
  obtain ⟨x8, hx8⟩ : ∃ x, x6 ++ [95] = x := ⟨_, rfl⟩
  have e : Hid (x8 = frameL l) := by unfold Hid frameL; rw [← hx8, ← X6.out, ← X5.out, ← X3.out]; simp
  rw [hx8] at h8
  have H8 := Lib.hid h8
  obtain ⟨g8, cap8, rfl⟩ := h8.form
  clear h8 b8 s8 hx8 H7 N7 B7 S7 H6 B6 S6
  go_wp2
  go_ret
  rw [← e.out]
  exact ⟨g8, cap8, rfl, HBd.out ▸ H8.out, HBd.out ▸ B8.out⟩

end Go.Proofs.YtejelednnacnaaaGreatDoor

/-
  The document's own answers of layer 8, walked: Open.
-/
namespace Go.Proofs.YtejelednnacnaaaGreatDoor
open Go.RowKit

/-- What opening bytes comes to (the bytes in the frame lie where they lay). -/
def GivesO (v : Value) (B : List Int) (w : World) (e : Ending) (w' : World) : Prop :=
  Below w.heap.size w w' ∧ ((openL B = none ∧ e = .returned (.tuple #[.slice none 0 0, .int .i64 0, .bool false])) ∨ ∃ x xv, openL B = some x ∧ e = .returned (.tuple #[xv, .int .i64 ((x.length + 10 : Nat) : Int), .bool true]) ∧ ∀ w0, ArgB w0 v B → ArgB w0 xv x)

set_option maxRecDepth 100000 in
set_option maxHeartbeats 4000000 in
theorem rcopen_any (v : Value) (B : List Int) (w : World) (hv : ArgB w v B) (hb : ∀ z ∈ B, 0 ≤ z ∧ z ≤ 255) (hl : B.length ≤ 1000000) :
    Calls Tryz.prog 30 #[v] w (GivesO v B w) := by
  by_cases h10 : B.length < 10
  · obtain ⟨a, cap, rfl⟩ := hv.size
    have hn : Hid (openL B = none) := by unfold Hid openL; rw [if_neg (by omega)]
    have hlt : (B.length : Int) < 10 := by omega
    clear hv hb h10
    go_enter Tryz.func30, Tryz.ntmps30
    go_wp2
    go_ret3
    exact ⟨Below.refl _ _, Or.inl ⟨hn.out, rfl⟩⟩
  · have hge : ¬ (B.length : Int) < 10 := by omega
    rcases hv with ⟨rfl, rfl⟩ | ⟨x, cap, rfl, hcap, hcell⟩
    · exact (h10 (by decide)).elim
    obtain ⟨b, off, rfl, hc⟩ := arg_addr hcell (by omega)
    clear hcell
    have HC := Lib.hid hc
    have HBy := Lib.hid hb
    have hbyte : ∀ i, i < B.length → 0 ≤ B.getD i 0 ∧ B.getD i 0 ≤ 255 := fun i hi => hb _ (by rw [List.getD_eq_getElem?_getD, List.getElem?_eq_getElem hi]; exact List.getElem_mem hi)
    obtain ⟨z1, hz1⟩ : ∃ z, B.getD 1 0 = z := ⟨_, rfl⟩
    obtain ⟨z2, hz2⟩ : ∃ z, B.getD 2 0 = z := ⟨_, rfl⟩
    obtain ⟨z3, hz3⟩ : ∃ z, B.getD 3 0 = z := ⟨_, rfl⟩
    obtain ⟨z4, hz4⟩ : ∃ z, B.getD 4 0 = z := ⟨_, rfl⟩
    have c1 := hc 1 (by omega)
    have c2 := hc 2 (by omega)
    have c3 := hc 3 (by omega)
    have c4 := hc 4 (by omega)
    have b1 := hbyte 1 (by omega)
    have b2 := hbyte 2 (by omega)
    have b3 := hbyte 3 (by omega)
    have b4 := hbyte 4 (by omega)
    rw [hz1] at c1 b1
    rw [hz2] at c2 b2
    rw [hz3] at c3 b3
    rw [hz4] at c4 b4
    obtain ⟨n, hn⟩ : ∃ n : Nat, 16777216 * z1 + 65536 * z2 + 256 * z3 + z4 = (n : Int) := ⟨(16777216 * z1 + 65536 * z2 + 256 * z3 + z4).toNat, by omega⟩
    have hsaid : Hid (saidN B = n) := by unfold Hid saidN fourN; rw [hz1, hz2, hz3, hz4, hn]; rfl
    have n32 : n < 4294967296 := by omega
    have w1 : IntKind.u64.wrap z1 = z1 := by rw [IntKind.wrap_u64]; omega
    have w2 : IntKind.u64.wrap z2 = z2 := by rw [IntKind.wrap_u64]; omega
    have w3 : IntKind.u64.wrap z3 = z3 := by rw [IntKind.wrap_u64]; omega
    have w4 : IntKind.u64.wrap z4 = z4 := by rw [IntKind.wrap_u64]; omega
    have w5 : IntKind.u64.wrap (16777216 * z1) = 16777216 * z1 := by rw [IntKind.wrap_u64]; omega
    have w6 : IntKind.u64.wrap (65536 * z2) = 65536 * z2 := by rw [IntKind.wrap_u64]; omega
    have w7 : IntKind.u64.wrap (256 * z3) = 256 * z3 := by rw [IntKind.wrap_u64]; omega
    have w8 : IntKind.u64.wrap (16777216 * z1 + 65536 * z2) = 16777216 * z1 + 65536 * z2 := by rw [IntKind.wrap_u64]; omega
    have w9 : IntKind.u64.wrap (16777216 * z1 + 65536 * z2 + 256 * z3) = 16777216 * z1 + 65536 * z2 + 256 * z3 := by rw [IntKind.wrap_u64]; omega
    have w10 : IntKind.u64.wrap (16777216 * z1 + 65536 * z2 + 256 * z3 + z4) = (n : Int) := by rw [hn, IntKind.wrap_u64]; omega
    have g1 : (1 : Int) < (B.length : Int) := by omega
    have g2 : (2 : Int) < (B.length : Int) := by omega
    have g3 : (3 : Int) < (B.length : Int) := by omega
    have g4 : (4 : Int) < (B.length : Int) := by omega
    clear hz1 hz2 hz3 hz4 hc hb hbyte h10
    go_enter Tryz.func30, Tryz.ntmps30
    go_wp2
    go_quiet (fail)
    have DW := Lib.hid (below_drewN (Below.refl w.heap.size w) nq)
    generalize w.drewN nq = W at DW ⊢
    clear c1 c2 c3 c4 b1 b2 b3 b4 w1 w2 w3 w4 w5 w6 w7 w8 w9 w10 g1 g2 g3 g4 hn
    have hw1 : IntKind.u64.wrap ((B.length : Int) - 10) = (B.length : Int) - 10 := by rw [IntKind.wrap_u64]; omega
    by_cases hn2 : B.length - 10 < n
    · have hno : Hid (openL B = none) := by unfold Hid openL; rw [hsaid.out, if_neg (by omega)]
      have hgt : (B.length : Int) - 10 < (n : Int) := by omega
      clear hn2
      go_wp2
      go_ret3
      exact ⟨DW.out, Or.inl ⟨hno.out, rfl⟩⟩
    · have hgt : ¬ (B.length : Int) - 10 < (n : Int) := by omega
      have hw2 : IntKind.i64.wrap (n : Int) = (n : Int) := by rw [IntKind.wrap_i64]; omega
      have hw3 : IntKind.i64.wrap (9 + (n : Int)) = 9 + (n : Int) := by rw [IntKind.wrap_i64]; omega
      have hbd : 9 + (n : Int) ≤ (cap : Int) := by omega
      have hN : Hid (n + 10 ≤ B.length) := (by omega : n + 10 ≤ B.length)
      clear hn2
      have hcW : ∀ i, i < B.length → W.cell? ⟨b, off + i, none⟩ = some (.int .u8 (B.getD i 0)) := fun i hi => (DW.out.cell (p := ⟨b, off + i, none⟩) (World.block_lt_of_cell? _ _ (HC.out i hi))).trans (HC.out i hi)
      obtain ⟨X, hX⟩ : ∃ X, (B.drop 9).take n = X := ⟨_, rfl⟩
      have HXl : Hid (X.length = n) := by unfold Hid; rw [← hX, List.length_take, List.length_drop]; omega
      have HXb : Hid (∀ z ∈ X, 0 ≤ z ∧ z ≤ 255) := fun z hz => by rw [← hX] at hz; exact HBy.out z (List.mem_of_mem_drop (List.mem_of_mem_take hz))
      have HA := Lib.hid (ArgB.part hcW 9 n (cap - 9) (by omega) (by omega))
      have HA0 := Lib.hid (fun (w0 : World) (h0 : ArgB w0 (.slice (some ⟨b, off, none⟩) B.length cap) B) => show ArgB w0 (.slice (some ⟨b, off + 9, none⟩) n (cap - 9)) X from by
        rcases h0 with ⟨h0, _⟩ | ⟨x0, cap0, h0, _, hcell0⟩
        · cases h0
        · simp only [Value.slice.injEq, Option.some.injEq] at h0
          obtain ⟨rfl, _, rfl⟩ := h0
          obtain ⟨b1, off1, he, hc1⟩ := arg_addr hcell0 (by omega)
          simp only [Addr.mk.injEq, and_true] at he
          obtain ⟨rfl, rfl⟩ := he
          rw [← hX]
          exact ArgB.part hc1 9 n (cap - 9) (by omega) (by omega))
      rw [hX] at HA
      have HCW := Lib.hid hcW
      have HX := Lib.hid hX
      clear hcW hX
      go_wp2_with (go_at_call 47; (with_reducible refine (rcframe_any _ X _ HA.out HXb.out (by have := HXl.out; omega)).mono ?_); rintro e w2 ⟨g2, cap2, rfl, h2, b2⟩; have H2 := Lib.hid h2; have B2 := Lib.hid b2; clear h2 b2)
      obtain ⟨fx, hfx⟩ : ∃ fx, frameL X = fx := ⟨_, rfl⟩
      have HFl : Hid (fx.length = n + 10) := by unfold Hid; rw [← hfx, frameL_len, HXl.out]
      have HFb : Hid (∀ z ∈ fx, 0 ≤ z ∧ z ≤ 255) := by rw [← hfx]; exact frameL_byte HXb.out
      rw [hfx] at H2 ⊢
      have HF := Lib.hid hfx
      clear hfx
      obtain ⟨t, ht⟩ : ∃ t, B.take (n + 10) = t := ⟨_, rfl⟩
      have HTb : Hid (∀ z ∈ t, 0 ≤ z ∧ z ≤ 255) := fun z hz => by rw [← ht] at hz; exact HBy.out z (List.mem_of_mem_take hz)
      have hA2 : ArgB W (.slice (some ⟨b, off, none⟩) fx.length cap) t := by
        have := ArgB.part HCW.out 0 (n + 10) cap (by have := hN.out; omega) (by omega)
        rw [HFl.out, ← ht]
        exact this
      have HT := Lib.hid ht
      clear ht
      have hv1 := fun q => conv_arg (w := w2.drewN q) ((H2.out.argB).below (below_drewN (Below.refl _ _) q)) HFb.out
      have hv2 := fun q => conv_arg (w := w2.drewN q) ((hA2.below B2.out).below (below_drewN (Below.refl _ _) q)) HTb.out
      have hv10 := hv1 0
      have hv20 := hv2 0
      change (convert 22 9 (.slice (some ⟨g2, 0, none⟩) fx.length cap2)).run Tryz.prog w2 = .ok (.string (strOfNums fx)) w2 at hv10
      change (convert 22 9 (.slice (some ⟨b, off, none⟩) fx.length cap)).run Tryz.prog w2 = .ok (.string (strOfNums t)) w2 at hv20
      have hfc : (fx.length : Int) ≤ (cap : Int) := by have := HFl.out; have := hN.out; omega
      have BW2 := Lib.hid (below_step DW.out B2.out)
      clear hA2
      by_cases he : fx = t
      · subst he
        have hyes : Hid (openL B = some X) := by
          unfold Hid openL
          rw [hsaid.out, HX.out, if_pos ⟨by have := hN.out; omega, hN.out, by rw [HF.out, HT.out]⟩]
        go_wp2
        go_quiet (fail)
        have BW3 := Lib.hid (below_drewN BW2.out nq)
        generalize w2.drewN nq = w3 at BW3 ⊢
        go_wp2
        go_ret3
        exact ⟨BW3.out, Or.inr ⟨X, _, hyes.out, by rw [HXl.out, HFl.out]; rfl, HA0.out⟩⟩
      · have hne : ((strOfNums fx).toList == (strOfNums t).toList) = false := beq_eq_false_iff_ne.mpr fun h => he (strOfNums_inj HFb.out HTb.out (ByteArray.ext (Array.toList_inj.mp (by rw [← ByteArray.toList_eq, ← ByteArray.toList_eq]; exact h))))
        have hno : Hid (openL B = none) := by
          unfold Hid openL
          rw [hsaid.out, HX.out, if_neg]
          rintro ⟨_, _, h3⟩
          rw [HF.out, HT.out] at h3
          exact he h3
        clear he
        go_wp2
        go_quiet (fail)
        have BW3 := Lib.hid (below_drewN BW2.out nq)
        generalize w2.drewN nq = w3 at BW3 ⊢
        go_wp2
        go_ret3
        exact ⟨BW3.out, Or.inl ⟨hno.out, rfl⟩⟩

end Go.Proofs.YtejelednnacnaaaGreatDoor

/-
  Lists of bytes in slices: what they are; the document's own All and Same of layer 8, walked.
-/
namespace Go.Proofs.YtejelednnacnaaaGreatDoor
open Go.RowKit

/-- What is left of bytes behind some. -/
theorem slice_from {w : World} {v : Value} {B : List Int} (h : ArgB w v B) (k : Nat) (hk : k ≤ B.length) :
    ∃ sv, (∀ W, (Instr.slice 22 v (some (.int .i64 (k : Int))) none none).run Tryz.prog W = .ok sv W) ∧ ArgB w sv (B.drop k) := by
  have hs : ∀ W : World, (sizeOf (Tryz.prog.elem 22)).run Tryz.prog W = .ok 1 W := fun W => by kernel_rfl
  have run : ∀ (a : Option Addr) (cap : Nat), (∀ W, (Instr.slice 22 (.slice a B.length cap) (some (.int .i64 (k : Int))) none none).run Tryz.prog W = .ok (sliced a k B.length cap 1) W) := fun a cap W => by
    have := run_slice_l (P := Tryz.prog) W 22 a B.length cap (by kernel_rfl) .i64 (k : Int) (by omega) (by omega)
    rw [this, hs]
    simp only [Result.andThen, Int.toNat_natCast]
  rcases h with ⟨rfl, rfl⟩ | ⟨x, cap, rfl, hc, hcell⟩
  · obtain rfl : k = 0 := by simpa using hk
    exact ⟨_, run none 0, Or.inl ⟨rfl, by simp⟩⟩
  · refine ⟨_, run (some x) cap, ?_⟩
    have hl : (B.drop k).length = B.length - k := List.length_drop ..
    unfold sliced
    by_cases hkc : cap = k
    · rw [if_pos hkc]
      refine Or.inr ⟨x, cap - k, by rw [hl], by omega, fun i hi => ?_⟩
      rw [hl] at hi
      omega
    · rw [if_neg hkc]
      refine Or.inr ⟨x.add (k * 1), cap - k, by rw [hl]; rfl, by omega, fun i hi => ?_⟩
      rw [hl] at hi
      obtain ⟨b, off, rfl, hcell2⟩ := arg_addr hcell (by omega)
      have e : (B.drop k).getD i 0 = B.getD (k + i) 0 := by rw [List.getD_eq_getElem?_getD, List.getElem?_drop, List.getD_eq_getElem?_getD]
      have e2 : ((⟨b, off, none⟩ : Addr).add (k * 1)).add i = ⟨b, off + (k + i), none⟩ := by
        have e3 : ∀ o j : Nat, (⟨b, o, none⟩ : Addr).add j = ⟨b, o + j, none⟩ := fun o j => by unfold Addr.add; split <;> simp_all
        rw [e3, e3, Nat.mul_one, Nat.add_assoc]
      rw [e, e2]
      exact hcell2 (k + i) (by omega)

/-- One of the call's own, the bytes in it of an elder world. -/
def OwnLL (w0 w : World) (base : Nat) (v : Value) (L : List (List Int)) : Prop :=
  v ≠ .slice none 0 0 ∧ ∃ vs : List Value, w.ownsRow base 22 1 v L.length vs ∧ vs.length = L.length ∧ (∀ u ∈ vs, u.oneCell' = true) ∧ ∀ i, i < L.length → ArgB w0 (vs.getD i undef) (L.getD i [])
theorem OwnLL.form {w0 w : World} {base : Nat} {v : Value} {L : List (List Int)} (h : OwnLL w0 w base v L) : ∃ g cap, v = .slice (some ⟨g, 0, none⟩) L.length cap := by
  obtain ⟨hn, vs, ho, _⟩ := h
  rcases ho.2 with ⟨e, _⟩ | ⟨g, cap, _, e, _⟩
  · exact (hn e).elim
  · exact ⟨g, cap, e⟩
theorem OwnLL.argLL {w0 w : World} {base : Nat} {v : Value} {L : List (List Int)} (h : OwnLL w0 w base v L) (hb : Below w0.heap.size w0 w) : ArgLL w v L := by
  obtain ⟨hn, vs, ho, hl, _, ha⟩ := h
  have hcs := @World.ownsRow.cells _ _ _ _ _ _ _ ho
  rcases ho.2 with ⟨e, _⟩ | ⟨g, cap, cur, rfl, h1, h2, h3, _⟩
  · exact (hn e).elim
  · refine Or.inr ⟨⟨g, 0, none⟩, cap, fun i => vs.getD i undef, rfl, h3, fun i hi => ⟨?_, (ha i hi).below hb⟩⟩
    refine hcs (g := g) rfl i _ ?_
    show vs[i]? = some (vs.getD i undef)
    rw [List.getD_eq_getElem?_getD, List.getElem?_eq_getElem (by omega)]; rfl
theorem OwnLL.fresh (w0 w : World) (base g : Nat) (hg : g = w.heap.size) (h : base ≤ g) : OwnLL w0 (w.alloc (.cells #[] 22)) base (.slice (some ⟨g, 0, none⟩) 0 0) [] := by
  subst hg
  exact ⟨by simp, [], World.ownsRow_made w #[] 0 h (Nat.zero_le _) rfl, rfl, (by intro u hu; cases hu), (by intro i hi; cases hi)⟩
theorem OwnLL.below {w0 w w' : World} {base : Nat} {v : Value} {L : List (List Int)} (h : OwnLL w0 w base v L) (hb : Below w.heap.size w w') : OwnLL w0 w' base v L := by
  obtain ⟨hn, vs, ⟨h1, h2⟩, hl, hu, ha⟩ := h
  refine ⟨hn, vs, ⟨h1, ?_⟩, hl, hu, ha⟩
  rcases h2 with hx | ⟨g, cap, cur, rfl, hbg, hg, rest⟩
  · exact Or.inl hx
  · exact Or.inr ⟨g, cap, cur, rfl, hbg, (hb.block _ (Array.getElem?_eq_some_iff.1 hg).1).trans hg, rest⟩
theorem ArgB.oneCell {w : World} {v : Value} {l : List Int} (h : ArgB w v l) : v.oneCell' = true := by
  rcases h with ⟨rfl, _⟩ | ⟨x, cap, rfl, _⟩ <;> rfl
/-- The operation, for a walk: one more slice of bytes, which stands in a new row of one. -/
theorem wp_more {w0 w : World} {ops : Array Oper} {rest : List Oper} {o : Oper} {a : Act} {Q : Exit → Act → World → Prop} (hgd : o.guard = none) (s x : Operand)
    (ho : o.op = .call { callee := .builtin .append, args := #[s, x], argTypes := #[37, 37] })
    (base : Nat) (v : Value) (L : List (List Int)) (hs : a.eval s = v) (hown : OwnLL w0 w base v L) (g : Nat) (yv : Value) (y : List Int) (hx : a.eval x = .slice (some ⟨g, 0, none⟩) 1 1) (hcell : w.cell? ⟨g, 0, none⟩ = some yv) (hy : ArgB w0 yv y)
    (hlen : L.length ≤ 100000000) (hbase : base ≤ w.heap.size)
    (h : ∀ v' w', OwnLL w0 w' base v' (L ++ [y]) → Below base w w' → base ≤ w'.heap.size → wpList Tryz.prog ops Q rest (a.put o.dst v') w') : wpList Tryz.prog ops Q (o :: rest) a w := by
  obtain ⟨i0, hi, hz0, hz1, hz2⟩ := info_parts info_slice
  obtain ⟨hn, vs, hO, hl, hu, ha⟩ := hown
  refine wpList_append_own w hgd s x 37 ho base 22 i0 (.slice none 0 0) 1 24 Tryz.underlying37 hi hz0 hz1 hz2 rfl (by decide) v L.length vs hs hO ⟨g, 0, none⟩ 1 1 [yv] hx rfl ?_ ?_ ?_ ?_ hbase ?_
  · intro j u hj
    match j, hj with
    | 0, hj => simp at hj; subst hj; simpa [Addr.add] using hcell
    | j + 1, hj => simp at hj
  · intro u hm
    obtain rfl : u = yv := by simpa using hm
    exact hy.oneCell
  · unfold maxLen; omega
  · omega
  · intro v' w' hown' hgrow hiff
    have hlt := hO.lt
    refine h v' w' ⟨fun e => hn (hiff.mp e).1, vs ++ [yv], ?_, by simp [hl], ?_, ?_⟩ ((Below.refl base w).grown hgrow hbase (fun b hk => (hlt _ hk).1)) ?_
    · rw [List.length_append]; exact hown'
    · intro u hm
      rcases List.mem_append.mp hm with hm | hm
      · exact hu u hm
      · obtain rfl : u = yv := by simpa using hm
        exact hy.oneCell
    · intro i hi
      rw [List.length_append] at hi
      by_cases hlast : i < L.length
      · rw [List.getD_eq_getElem?_getD, List.getElem?_append_left (by omega), List.getD_eq_getElem?_getD, List.getElem?_append_left hlast, ← List.getD_eq_getElem?_getD, ← List.getD_eq_getElem?_getD]
        exact ha i hlast
      · have e : i = L.length := by simp at hi; omega
        subst e
        rw [List.getD_eq_getElem?_getD, List.getElem?_append_right (by omega), List.getD_eq_getElem?_getD, List.getElem?_append_right (by omega), hl, Nat.sub_self]
        exact hy
    · have := hgrow.size; omega

/-- What All comes to. -/
def GivesA (B : List Int) (w : World) (e : Ending) (w' : World) : Prop :=
  ∃ v, e = .returned (.tuple #[v, .int .i64 ((allL B).2 : Int)]) ∧ ArgLL w' v (allL B).1 ∧ Below w.heap.size w w'

set_option maxRecDepth 100000 in
set_option maxHeartbeats 4000000 in
theorem rcall_any (v : Value) (B : List Int) (w : World) (hv : ArgB w v B) (hb : ∀ z ∈ B, 0 ≤ z ∧ z ≤ 255) (hl : B.length ≤ 1000000) :
    Calls Tryz.prog 32 #[v] w (GivesA B w) := by
  obtain ⟨a, cap, rfl⟩ := hv.size
  have HV := Lib.hid hv
  have HBy := Lib.hid hb
  clear hv hb
  obtain ⟨base, hB⟩ : ∃ b, w.heap.size = b := ⟨_, rfl⟩
  have HBd := Lib.hid hB
  go_enter Tryz.func32, Tryz.ntmps32
  go_wp2
  go_loopw [4, 5] (fun v4 v5 wr => ∃ (L : List (List Int)) (k : Nat), v5 = .int .i64 (k : Int) ∧ k ≤ B.length ∧ L.length ≤ k ∧ allL B = (L ++ (allL (B.drop k)).1, k + (allL (B.drop k)).2) ∧ OwnLL w wr base v4 L ∧ Below base w wr ∧ base ≤ wr.heap.size) (fun _ v5 _ => B.length - (intOf v5).toNat)
  case atStart => exact ⟨[], 0, rfl, Nat.zero_le _, Nat.zero_le _, by simp, OwnLL.fresh w w base _ hB.symm (by omega), (Below.refl _ _).alloc (by omega) _, by simp; omega⟩
  case round =>
    obtain ⟨L, k, rfl, hk, hLk, hall, hO, hBel, hs⟩ := hrel
    obtain ⟨g, c, rfl⟩ := hO.form
    have HO := Lib.hid hO
    have HB := Lib.hid hBel
    have HS := Lib.hid hs
    have HAll := Lib.hid hall
    clear hO hBel hs hall
    obtain ⟨sv, hsv, hA0⟩ := slice_from HV.out k hk
    have hA := hA0
    have hl2 : (B.drop k).length = B.length - k := List.length_drop ..
    have HA := Lib.hid (hA.below (HBd.out ▸ HB.out))
    have HAb : Hid (∀ z ∈ B.drop k, 0 ≤ z ∧ z ≤ 255) := fun z hz => HBy.out z (List.mem_of_mem_drop hz)
    have HAl : Hid ((B.drop k).length ≤ 1000000) := (by omega : (B.drop k).length ≤ 1000000)
    have HR := Lib.hid (rcopen_any sv (B.drop k) wr HA.out HAb.out HAl.out)
    clear hA hl2
    have HAw := Lib.hid hA0
    clear hA0
    go_wp2_with (first
      | (go_at_call 30; (with_reducible refine HR.out.mono ?_); rintro e w1 ⟨b1, ⟨n1, rfl⟩ | ⟨x, xv, n1, rfl, a1⟩⟩ <;> (have B1 := Lib.hid b1; have N1 := Lib.hid n1; clear b1 n1; try (have HX := Lib.hid (a1 w HAw.out); obtain ⟨ax, cx, rfl⟩ := HX.out.size; have O1 := Lib.hid ((HO.out.below B1.out).below ((Below.refl w1.heap.size w1).alloc (Nat.le_refl _) (.cells #[.slice ax x.length cx] 22))); have S1 := Lib.hid (show base ≤ (w1.alloc (.cells #[.slice ax x.length cx] 22)).heap.size by have := HS.out; have := B1.out.size; simp; omega); have C1 := Lib.hid (show (w1.alloc (.cells #[.slice ax x.length cx] 22)).cell? ⟨w1.heap.size, 0, none⟩ = some (.slice ax x.length cx) by rw [World.cell?_alloc_mark]; rfl); have L1 := Lib.hid (show L.length ≤ 100000000 by omega); clear a1)))
      | (at_builtin; refine wp_more (w0 := w) rfl _ _ rfl base _ L rfl O1.out w1.heap.size _ x rfl C1.out HX.out L1.out S1.out ?_))
    · have hfin : Hid (allL B = (L, k)) := by unfold Hid; rw [HAll.out, allL_none N1.out]; simp
      have BB := Lib.hid (HB.out.trans (B1.out.mono HS.out))
      go_wp2
      go_ret2
      refine ⟨_, by rw [hfin.out]; rfl, ?_, HBd.out ▸ BB.out⟩
      rw [hfin.out]
      exact (HO.out.below B1.out).argLL (HBd.out ▸ BB.out)
    · intro v2 w2 h2 b2 s2
      have hxl := Lib.hid (open_len N1.out)
      obtain ⟨m, hm⟩ : ∃ m : Nat, x.length + 10 = m := ⟨_, rfl⟩
      have HM := Lib.hid hm
      have hstep : Hid (allL B = ((L ++ [x]) ++ (allL (B.drop (k + m))).1, (k + m) + (allL (B.drop (k + m))).2)) := by
        unfold Hid
        have e := allL_some N1.out
        rw [List.drop_drop, hm] at e
        rw [HAll.out, e, List.append_assoc]
        simp only [Prod.mk.injEq]
        exact ⟨rfl, by omega⟩
      have hkm : k + m ≤ B.length := by have := hxl.out; rw [List.length_drop] at this; omega
      have hadd : IntKind.i64.wrap ((k : Int) + ((x.length : Int) + 10)) = ((k + m : Nat) : Int) := by rw [IntKind.wrap_i64]; omega
      have BB := Lib.hid ((HB.out.trans (B1.out.mono HS.out)).alloc (Nat.le_trans HS.out B1.out.size) (.cells #[.slice ax x.length cx] 22))
      have hmp : Hid (0 < m) := (by omega : 0 < m)
      clear hm
      have H2 := Lib.hid h2
      have B2 := Lib.hid (BB.out.trans b2)
      have S2 := Lib.hid s2
      clear h2 b2 s2
      go_wp2
      go_roundw
      case rel => exact ⟨L ++ [x], k + m, rfl, hkm, by have := hmp.out; rw [List.length_append]; simp only [List.length_cons, List.length_nil]; omega, hstep.out, H2.out, B2.out, S2.out⟩
      case measure => simp [intOf]; have := hmp.out; omega

theorem LL_ext {L M : List (List Int)} (hl : L.length = M.length) (h : ∀ i, i < L.length → L.getD i [] = M.getD i []) : L = M := by
  apply List.ext_getElem hl
  intro i h1 h2
  have := h i h1
  rw [List.getD_eq_getElem?_getD, List.getD_eq_getElem?_getD, List.getElem?_eq_getElem h1, List.getElem?_eq_getElem h2] at this
  exact this
set_option maxRecDepth 100000 in
set_option maxHeartbeats 4000000 in
theorem rcsame_any (v1 v2 : Value) (L M : List (List Int)) (w : World) (h1 : ArgLL w v1 L) (h2 : ArgLL w v2 M) (hL : ∀ l ∈ L, ∀ z ∈ l, 0 ≤ z ∧ z ≤ 255) (hM : ∀ l ∈ M, ∀ z ∈ l, 0 ≤ z ∧ z ≤ 255) (hll : L.length ≤ 100000000) :
    Calls Tryz.prog 36 #[v1, v2] w fun e w' => e = .returned (.bool (decide (L = M))) ∧ Below w.heap.size w w' := by
  by_cases hlen : L.length = M.length
  case neg =>
    obtain ⟨a1, c1, rfl⟩ := h1.size
    obtain ⟨a2, c2, rfl⟩ := h2.size
    have hne : ((L.length : Int) != (M.length : Int)) = true := by simp; omega
    have hno : Hid (decide (L = M) = false) := decide_eq_false (fun e => hlen (by rw [e]))
    clear h1 h2 hL hM hlen
    go_enter Tryz.func36, Tryz.ntmps36
    go_wp2
    go_ret
    exact ⟨by rw [hno.out]; rfl, Below.refl _ _⟩
  case pos =>
    by_cases h0 : 0 < L.length
    case neg =>
      obtain ⟨a1, c1, rfl⟩ := h1.size
      obtain ⟨a2, c2, rfl⟩ := h2.size
      obtain rfl : L = [] := List.eq_nil_of_length_eq_zero (by omega)
      obtain rfl : M = [] := List.eq_nil_of_length_eq_zero (by simpa using hlen.symm)
      clear h1 h2 hL hM hlen h0
      go_enter Tryz.func36, Tryz.ntmps36
      go_wp2
      go_loop [5] (fun v5 => v5 = .int .i64 0) (fun _ => 0)
      case atStart => rfl
      case round =>
        subst hrel
        go_wp2
        go_ret
        exact ⟨rfl, Below.refl _ _⟩
    case pos =>
      obtain ⟨b1, o1, c1, f1, rfl, k1⟩ := h1.at h0
      obtain ⟨b2, o2, c2, f2, rfl, k2⟩ := h2.at (by omega)
      have K1 := Lib.hid k1
      have K2 := Lib.hid k2
      have HL := Lib.hid hL
      have HM := Lib.hid hM
      have hlz : (M.length : Int) = (L.length : Int) := by omega
      have HLen := Lib.hid hlen
      clear h1 h2 k1 k2 hL hM
      go_enter Tryz.func36, Tryz.ntmps36
      go_wp2
      go_loopw [5] (fun v5 wr => ∃ i : Nat, v5 = .int .i64 (i : Int) ∧ i ≤ L.length ∧ (∀ j, j < i → L.getD j [] = M.getD j []) ∧ Below w.heap.size w wr) (fun v5 _ => L.length - (intOf v5).toNat)
      case atStart => exact ⟨0, rfl, Nat.zero_le _, fun j hj => by omega, Below.refl _ _⟩
      case round =>
        obtain ⟨i, rfl, hi, hall, hB⟩ := hrel
        have HB := Lib.hid hB
        have HA := Lib.hid hall
        clear hB hall
        by_cases hlt : i < L.length
        · obtain ⟨q1, p1⟩ := K1.out i hlt
          obtain ⟨q2, p2⟩ := K2.out i (by omega)
          have d1 := (HB.out.cell (p := ⟨b1, o1 + i, none⟩) (World.block_lt_of_cell? _ _ q1)).trans q1
          have d2 := (HB.out.cell (p := ⟨b2, o2 + i, none⟩) (World.block_lt_of_cell? _ _ q2)).trans q2
          have m1 : Hid (∀ z ∈ L.getD i [], 0 ≤ z ∧ z ≤ 255) := HL.out _ (by rw [List.getD_eq_getElem?_getD, List.getElem?_eq_getElem hlt]; exact List.getElem_mem hlt)
          have m2 : Hid (∀ z ∈ M.getD i [], 0 ≤ z ∧ z ≤ 255) := HM.out _ (by rw [List.getD_eq_getElem?_getD, List.getElem?_eq_getElem (show i < M.length by omega)]; exact List.getElem_mem _)
          have hv1 := fun q => conv_arg (w := wr.drewN q) ((p1.below HB.out).below (below_drewN (Below.refl _ _) q)) m1.out
          have hv2 := fun q => conv_arg (w := wr.drewN q) ((p2.below HB.out).below (below_drewN (Below.refl _ _) q)) m2.out
          have hv10 : (convert 22 9 (f1 i)).run Tryz.prog wr = .ok (.string (strOfNums (L.getD i []))) wr := hv1 0
          have hv20 : (convert 22 9 (f2 i)).run Tryz.prog wr = .ok (.string (strOfNums (M.getD i []))) wr := hv2 0
          obtain ⟨s1, hs1⟩ : ∃ s, f1 i = s := ⟨_, rfl⟩
          obtain ⟨s2, hs2⟩ : ∃ s, f2 i = s := ⟨_, rfl⟩
          rw [hs1] at d1 hv10
          rw [hs2] at d2 hv20
          simp only [hs1] at hv1
          simp only [hs2] at hv2
          obtain ⟨x, hx⟩ : ∃ x, L.getD i [] = x := ⟨_, rfl⟩
          obtain ⟨y, hy⟩ : ∃ y, M.getD i [] = y := ⟨_, rfl⟩
          rw [hx] at hv10 m1
          rw [hy] at hv20 m2
          simp only [hx] at hv1
          simp only [hy] at hv2
          have HX := Lib.hid hx
          have HY := Lib.hid hy
          obtain ⟨a1, e1, rfl⟩ : ∃ a e, s1 = .slice a x.length e := by have := p1.size; rw [hs1, hx] at this; exact this
          obtain ⟨a2, e2, rfl⟩ : ∃ a e, s2 = .slice a y.length e := by have := p2.size; rw [hs2, hy] at this; exact this
          have g1 : (i : Int) < (L.length : Int) := by omega
          clear hx hy hs1 hs2 p1 p2 q1 q2
          by_cases he : x = y
          · subst he
            go_wp2
            go_quiet (fail)
            have HB2 := Lib.hid (below_drewN HB.out nq)
            generalize wr.drewN nq = w2 at HB2 ⊢
            go_wp2
            go_roundw
            case rel => exact ⟨i + 1, by go_num, by omega, fun j hj => (by
              by_cases e : j = i
              · subst e; rw [HX.out, HY.out]
              · exact HA.out j (by omega)), HB2.out⟩
            case measure => simp [intOf]; omega
          · have hne : ((strOfNums x).toList == (strOfNums y).toList) = false := beq_eq_false_iff_ne.mpr fun h => he (strOfNums_inj m1.out m2.out (ByteArray.ext (Array.toList_inj.mp (by rw [← ByteArray.toList_eq, ← ByteArray.toList_eq]; exact h))))
            have hno : Hid (decide (L = M) = false) := decide_eq_false (fun e => he (by rw [← HX.out, ← HY.out, e]))
            clear he
            go_wp2
            go_quiet (fail)
            have HB2 := Lib.hid (below_drewN HB.out nq)
            generalize wr.drewN nq = w2 at HB2 ⊢
            go_wp2
            go_ret
            exact ⟨by rw [hno.out]; rfl, HB2.out⟩
        · have hyes : Hid (decide (L = M) = true) := decide_eq_true (LL_ext HLen.out (fun j hj => HA.out j (by omega)))
          have g1 : ¬ (i : Int) < (L.length : Int) := by omega
          go_wp2
          go_ret
          exact ⟨by rw [hyes.out]; rfl, HB.out⟩

end Go.Proofs.YtejelednnacnaaaGreatDoor

/-
  A row that lists tables hands them over, whichever place a table has in its list.
-/
namespace Go.Proofs.YtejelednnacnaaaGreatDoor
open Go.RowKit

theorem tabIs_of_mem {laid : List (String × DataW Unit)} {W : World} {name : String} {k : IntKind} {zs : List Int} {g : Nat} {t e : TypeId} {n : Nat}
    (hg : Tryz.prog.globalNamed name = some g) (hty : (Tryz.prog.globals[g]?).map (·.type) = some t) (ht : Tryz.prog.underlying t = some (.array n e)) (he : Tryz.prog.underlying e = some (.int k)) (hce : Tryz.prog.cellsOf e = 1) (hct : Tryz.prog.cellsOf t = n)
    (h : laidMet Tryz.prog laid W) (hm : (name, Lib.tabData k zs) ∈ laid) : Lib.TabIs Tryz.prog W name k zs := by
  induction laid with
  | nil => cases hm
  | cons x r ih =>
    rcases List.mem_cons.mp hm with hx | hx
    · subst hx
      exact Lib.tabIs_of_head hg hty ht he hce hct h
    · exact ih h.tail hx
end Go.Proofs.YtejelednnacnaaaGreatDoor

/-
  What the program's calls lean on beside their arguments: package crc's table, what a register of four bits has come to when they have fallen out.
-/
namespace Go.Proofs.YtejelednnacnaaaGreatDoor
open Go.RowKit

def turnsL : List Int := [0, 274646895, 549293790, 820201905, 1098587580, 1361435347, 1640403810, 1905808397, 2197175160, 2460548119, 2722870694, 2987750089, 3280807620, 3553878443, 3811616794, 4084100981]
/-- The table stands, and goes on standing whatever new memory holds. -/
def Turns (w : World) : Prop := Lib.TabBelow Tryz.prog w.heap.size w "firebell/crc.turns" .u32 turnsL
theorem Turns.step {w w' : World} (h : Turns w) (hb : Below w.heap.size w w') : Turns w' := fun x hx => h x (below_step hb hx)
/-- Each of its cells is what four bits come to. -/
theorem Turns.cell {w : World} (h : Turns w) (i : Nat) (hi : i < 16) : w.cell? ⟨1, i, none⟩ = some (.int .u32 (shsC i 4 : Nat)) := by
  have hg : Tryz.prog.globalNamed "firebell/crc.turns" = some 1 := by kernel_rfl
  have hc := h.here.cell hg i (by simpa [turnsL] using hi)
  rw [hc]
  have key : ∀ i : Nat, i < 16 → turnsL.getD i 0 = ((shsC i 4 : Nat) : Int) := by decide +kernel
  have hk := key i hi
  rw [List.getD_eq_getElem?_getD] at hk
  simp_all
/-- A row that lists the table hands it over. -/
theorem turns_of_laid {laid : List (String × DataW Unit)} {W : World} (h : laidMet Tryz.prog laid W) (hm : ("firebell/crc.turns", Lib.tabData .u32 turnsL) ∈ laid) : Turns W :=
  Lib.tabBelow_of_tabIs (tabIs_of_mem (g := 1) (t := 147) (e := 114) (n := 16) (by kernel_rfl) (by kernel_rfl) Tryz.underlying147 Tryz.underlying114 (by kernel_rfl) (by kernel_rfl) h hm)

def Env (w : World) : Prop := Turns w
theorem Env.step {w w' : World} (h : Env w) (hb : Below w.heap.size w w') : Env w' := Turns.step h hb
theorem Env.turns {w : World} (h : Env w) : Turns w := h

end Go.Proofs.YtejelednnacnaaaGreatDoor

/-
  The program's calls of package crc, walked: On, Of, Size.
-/
namespace Go.Proofs.YtejelednnacnaaaGreatDoor
open Go.RowKit

theorem shs_lt {c : Nat} (h : c < 4294967296) (k : Nat) : shsC c k < 4294967296 := by
  induction k with
  | zero => exact h
  | succ k ih =>
    simp only [shsC]
    unfold shC
    split
    · omega
    · exact xor_lt32 (by omega) (by decide)
/-- Four bits fall out, by the table. -/
def nibC (c : Nat) : Nat := (c / 16) ^^^ shsC (c % 16) 4
theorem nibC_lt {c : Nat} (h : c < 4294967296) : nibC c < 4294967296 := xor_lt32 (by omega) (shs_lt (by omega) 4)
theorem byte_nibs {c x : Nat} (hx : x < 256) : byteC c x = nibC (nibC (c ^^^ x)) := by
  have e : ∀ d, shsC d 4 = nibC d := fun d => by rw [shs_four, Nat.xor_comm]; rfl
  rw [byte_shs hx, show (8 : Nat) = 4 + 4 by rfl, shs_add, e, e]

theorem and15 {d k : Nat} (h : d < 4294967296) (hk : d % 16 = k) : bits .and .u32 (d : Int) 15 = (k : Int) := by
  rw [show (15 : Int) = ((15 : Nat) : Int) by rfl, u32_and_nat d 15 h (by decide), ← hk]
  congr 1
  exact Nat.and_two_pow_sub_one_eq_mod d 4
/-- All bits turned. -/
theorem not32 {s : Nat} (h : s < 4294967296) : s ^^^ 4294967295 = 4294967295 - s := by
  have e : s ^^^ (2 ^ 32 - 1) = 2 ^ 32 - (s + 1) := Nat.eq_of_testBit_eq fun i => by
    rw [Nat.testBit_two_pow_sub_succ h, Nat.testBit_xor, Nat.testBit_two_pow_sub_one]
    by_cases hi : i < 32
    · simp [hi]
    · simp [hi]
      exact Nat.testBit_lt_two_pow (Nat.lt_of_lt_of_le (m := 2 ^ 32) h (Nat.pow_le_pow_right (n := 2) (by decide) (by omega : 32 ≤ i)))
  have e2 : s ^^^ 4294967295 = 2 ^ 32 - (s + 1) := e
  rw [e2]
  omega
set_option maxRecDepth 100000 in
set_option maxHeartbeats 4000000 in
theorem con_same (s : Nat) (v : Value) (l : List Int) (w : World) (env : Env w) (hs : s < 4294967296) (hv : ArgB w v l) (hb : ∀ z ∈ l, 0 ≤ z ∧ z ≤ 255) (hl : l.length ≤ 1000000) :
    Calls Tryz.prog 98 #[.int .u32 s, v] w fun e w' => e = .returned (.int .u32 (onL s l)) ∧ w' = w := by
  obtain ⟨a, cap, rfl, hcap, hcell⟩ := hv.bytesIs
  have HC := Lib.hid hcell
  have HB := Lib.hid hb
  have HT := Lib.hid env.turns
  clear hcell hb env hv
  have hns : bits .xor .u32 (4294967295 : Int) (s : Int) = ((4294967295 - s : Nat) : Int) := by
    rw [show (4294967295 : Int) = ((4294967295 : Nat) : Int) by rfl, u32_xor_nat _ _ (by decide) hs]
    congr 1
    rw [Nat.xor_comm]
    exact not32 hs
  have hmx : IntKind.u32.max = (4294967295 : Int) := rfl
  obtain ⟨c0, hc0⟩ : ∃ c, 4294967295 - s = c := ⟨_, rfl⟩
  have HC0 := Lib.hid hc0
  have hc02 : c0 < 4294967296 := by omega
  rw [hc0] at hns
  clear hc0
  go_enter Tryz.func98, Tryz.ntmps98
  go_wp2
  go_loop [5, 12] (fun v5 v12 => ∃ (i c : Nat), i ≤ l.length ∧ v12 = .int .i64 (i : Int) ∧ v5 = .int .u32 (c : Int) ∧ c < 4294967296 ∧ regL c0 (l.take i) = c) (fun _ v12 => l.length - (intOf v12).toNat)
  case atStart => exact ⟨0, c0, Nat.zero_le _, rfl, rfl, hc02, rfl⟩
  case round =>
    obtain ⟨i, c, hi, rfl, rfl, hc, hr⟩ := hrel
    have HR := Lib.hid hr
    clear hr
    by_cases h1 : i < l.length
    · obtain ⟨b, off, ha, hx⟩ := HC.out i h1
      subst ha
      have hz := HB.out (l.getD i 0) (by rw [List.getD_eq_getElem?_getD, List.getElem?_eq_getElem h1]; exact List.getElem_mem h1)
      obtain ⟨x, hxx⟩ : ∃ x : Nat, l.getD i 0 = (x : Int) := ⟨(l.getD i 0).toNat, by omega⟩
      rw [hxx] at hx hz
      have HX := Lib.hid hxx
      have hx256 : x ≤ 255 := by omega
      clear hxx hz
      obtain ⟨d, hd⟩ : ∃ d, c ^^^ x = d := ⟨_, rfl⟩
      have hd2 : d < 4294967296 := by rw [← hd]; exact xor_lt32 hc (by omega)
      have hwx : IntKind.u32.wrap (x : Int) = (x : Int) := by rw [IntKind.wrap_u32]; omega
      have hxr : bits .xor .u32 (c : Int) (x : Int) = (d : Int) := by rw [u32_xor_nat c x hc (by omega), hd]
      obtain ⟨f, hf⟩ : ∃ f, nibC d = f := ⟨_, rfl⟩
      have hf2 : f < 4294967296 := by rw [← hf]; exact nibC_lt hd2
      obtain ⟨g, hg⟩ : ∃ g, nibC f = g := ⟨_, rfl⟩
      have hg2 : g < 4294967296 := by rw [← hg]; exact nibC_lt hf2
      obtain ⟨k, hk⟩ : ∃ k, d % 16 = k := ⟨_, rfl⟩
      obtain ⟨k2, hk2⟩ : ∃ k, f % 16 = k := ⟨_, rfl⟩
      obtain ⟨q, hq⟩ : ∃ k, d / 16 = k := ⟨_, rfl⟩
      obtain ⟨q2, hq2⟩ : ∃ k, f / 16 = k := ⟨_, rfl⟩
      obtain ⟨t1, ht1⟩ : ∃ y, shsC k 4 = y := ⟨_, rfl⟩
      obtain ⟨t2, ht2⟩ : ∃ y, shsC k2 4 = y := ⟨_, rfl⟩
      have hcd := HT.out.cell k (by omega)
      have hcf := HT.out.cell k2 (by omega)
      have xd : bits .xor .u32 (q : Int) (t1 : Int) = (f : Int) := by rw [← ht1, ← hk, u32_xor_nat _ _ (by omega) (shs_lt (by omega) 4), ← hf, ← hq]; rfl
      have xf : bits .xor .u32 (q2 : Int) (t2 : Int) = (g : Int) := by rw [← ht2, ← hk2, u32_xor_nat _ _ (by omega) (shs_lt (by omega) 4), ← hg, ← hq2]; rfl
      rw [ht1] at hcd
      rw [ht2] at hcf
      have ed : bits .and .u32 (d : Int) 15 = (k : Int) := and15 hd2 hk
      have ef : bits .and .u32 (f : Int) 15 = (k2 : Int) := and15 hf2 hk2
      have qd : (d : Int) / 16 = (q : Int) := by omega
      have qf : (f : Int) / 16 = (q2 : Int) := by omega
      have b1 : (k : Int) < 16 := by omega
      have b2 : (k2 : Int) < 16 := by omega
      have hnx : Hid (regL c0 (l.take (i + 1)) = g) := by
        unfold Hid
        rw [take_snocI h1, regL_snoc, HR.out, HX.out, Int.toNat_natCast, byte_nibs (by omega), hd, hf, hg]
      clear hk hk2 hq hq2 ht1 ht2 hd hf hg
      go_wp2
      go_round
      case rel => exact ⟨i + 1, g, by omega, by go_num, rfl, hg2, hnx.out⟩
      case measure => simp [intOf]; omega
    · obtain rfl : i = l.length := by omega
      have hfin : Hid (onL s l = 4294967295 - c) := by
        have := HR.out
        rw [List.take_length] at this
        unfold Hid onL
        rw [HC0.out, this]
      have hns2 : bits .xor .u32 (4294967295 : Int) (c : Int) = ((4294967295 - c : Nat) : Int) := by
        rw [show (4294967295 : Int) = ((4294967295 : Nat) : Int) by rfl, u32_xor_nat _ _ (by decide) hc]
        congr 1
        rw [Nat.xor_comm]
        exact not32 hc
      obtain ⟨c9, hc9⟩ : ∃ z, 4294967295 - c = z := ⟨_, rfl⟩
      rw [hc9] at hns2 hfin
      clear hc9
      go_wp2
      go_ret
      exact ⟨by rw [hfin.out]; rfl, rfl⟩
theorem con_any (s : Nat) (v : Value) (l : List Int) (w : World) (env : Env w) (hs : s < 4294967296) (hv : ArgB w v l) (hb : ∀ z ∈ l, 0 ≤ z ∧ z ≤ 255) (hl : l.length ≤ 1000000) :
    Calls Tryz.prog 98 #[.int .u32 s, v] w fun e w' => e = .returned (.int .u32 (onL s l)) ∧ Below w.heap.size w w' :=
  (con_same s v l w env hs hv hb hl).mono fun _ _ ⟨h1, h2⟩ => ⟨h1, by rw [h2]; exact Below.refl _ _⟩

theorem cof_same (v : Value) (l : List Int) (w : World) (env : Env w) (hv : ArgB w v l) (hb : ∀ z ∈ l, 0 ≤ z ∧ z ≤ 255) (hl : l.length ≤ 1000000) :
    Calls Tryz.prog 87 #[v] w fun e w' => e = .returned (.int .u32 (sumL l)) ∧ w' = w := by
  have HC : Hid (Calls Tryz.prog 98 #[.int .u32 0, v] w fun e w' => e = .returned (.int .u32 (sumL l)) ∧ w' = w) := con_same 0 v l w env (by decide) hv hb hl
  clear hv hb env
  go_enter Tryz.func87, Tryz.ntmps87
  go_wp2_with (go_at_call 98; (with_reducible refine HC.out.mono ?_); rintro e w1 ⟨rfl, rfl⟩)
  go_ret
  exact ⟨rfl, rfl⟩
theorem cof_any (v : Value) (l : List Int) (w : World) (env : Env w) (hv : ArgB w v l) (hb : ∀ z ∈ l, 0 ≤ z ∧ z ≤ 255) (hl : l.length ≤ 1000000) :
    Calls Tryz.prog 87 #[v] w fun e w' => e = .returned (.int .u32 (sumL l)) ∧ Below w.heap.size w w' :=
  (cof_same v l w env hv hb hl).mono fun _ _ ⟨h1, h2⟩ => ⟨h1, by rw [h2]; exact Below.refl _ _⟩

theorem csize_any (n : Int) (w : World) (_env : Env w) (n0 : -9223372036854775808 ≤ n) (n1 : n ≤ 9223372036854775807) :
    Calls Tryz.prog 84 #[.int .i64 n] w fun e w' => e = .returned (.int .i64 (if 0 ≤ n ∧ n ≤ 1073741824 then n + 10 else 0)) ∧ Below w.heap.size w w' := by
  by_cases h0 : n < 0
  · have hno : Hid ((if 0 ≤ n ∧ n ≤ 1073741824 then n + 10 else 0) = 0) := if_neg (by omega)
    go_enter Tryz.func84, Tryz.ntmps84
    go_wp2
    go_ret
    first
      | exact ⟨rfl, Below.refl _ _⟩
      | exact ⟨by rw [hno.out]; rfl, Below.refl _ _⟩
  · by_cases h1 : 1073741824 < n
    · have hno : Hid ((if 0 ≤ n ∧ n ≤ 1073741824 then n + 10 else 0) = 0) := if_neg (by omega)
      go_enter Tryz.func84, Tryz.ntmps84
      go_wp2
      go_ret
      first
      | exact ⟨rfl, Below.refl _ _⟩
      | exact ⟨by rw [hno.out]; rfl, Below.refl _ _⟩
    · have hno : Hid ((if 0 ≤ n ∧ n ≤ 1073741824 then n + 10 else 0) = n + 10) := if_pos (by omega)
      have hw : IntKind.i64.wrap (n + 10) = n + 10 := by rw [IntKind.wrap_i64]; omega
      go_enter Tryz.func84, Tryz.ntmps84
      go_wp2
      go_ret
      first
      | exact ⟨rfl, Below.refl _ _⟩
      | exact ⟨by rw [hno.out]; rfl, Below.refl _ _⟩

end Go.Proofs.YtejelednnacnaaaGreatDoor

/-
  The program's calls of package crc, walked: four, number, bytes.Clone, Frame.
-/
namespace Go.Proofs.YtejelednnacnaaaGreatDoor
open Go.RowKit

set_option maxRecDepth 100000 in
theorem cfour_any (n : Nat) (w : World) (hn : n < 4294967296) : Calls Tryz.prog 86 #[.int .u32 n] w (GivesB (fourL n) w) := by
  obtain ⟨x, hx⟩ : ∃ x, n / 16777216 = x := ⟨_, rfl⟩
  obtain ⟨y, hy⟩ : ∃ y, n / 65536 % 256 = y := ⟨_, rfl⟩
  obtain ⟨z, hz⟩ : ∃ z, n / 256 % 256 = z := ⟨_, rfl⟩
  obtain ⟨u, hu⟩ : ∃ u, n % 256 = u := ⟨_, rfl⟩
  have hx0 : x % 256 = x := by omega
  have e1 : IntKind.u8.wrap ((n : Int) / 16777216) = (x : Int) := by rw [IntKind.wrap_u8]; omega
  have e2 : IntKind.u8.wrap ((n : Int) / 65536) = (y : Int) := by rw [IntKind.wrap_u8]; omega
  have e3 : IntKind.u8.wrap ((n : Int) / 256) = (z : Int) := by rw [IntKind.wrap_u8]; omega
  have e4 : IntKind.u8.wrap (n : Int) = (u : Int) := by rw [IntKind.wrap_u8]; omega
  have hf : Hid (fourL n = [(x : Int), (y : Int), (z : Int), (u : Int)]) := by unfold Hid fourL; rw [hx, hy, hz, hu, hx0]
  have HO := Lib.hid (OwnInts.made w w.heap.size w.heap.size [(x : Int), (y : Int), (z : Int), (u : Int)] rfl (Nat.le_refl _) (by simp))
  have HB := Lib.hid (fun o => (Below.refl w.heap.size w).alloc (Nat.le_refl _) o)
  clear hx hy hz hu hx0
  go_enter Tryz.func86, Tryz.ntmps86
  go_wp2
  go_ret
  rw [hf.out]
  exact ⟨w.heap.size, 4, rfl, HO.out, HB.out _⟩

theorem or_byte32 (a z : Nat) (ha : a < 16777216) (hz : z < 256) : bits .or .u32 (256 * (a : Int)) (z : Int) = ((256 * a + z : Nat) : Int) := by
  rw [show 256 * (a : Int) = ((256 * a : Nat) : Int) by omega, u32_or_nat (256 * a) z (by omega) (by omega)]
  have := Nat.two_pow_add_eq_or_of_lt (i := 8) (b := z) (by omega) a
  simp only [show (2 : Nat) ^ 8 = 256 from rfl] at this
  rw [this]
/-- Bytes as a number, the highest first. -/
def highN (l : List Int) : Nat := l.foldl (fun n z => 256 * n + z.toNat) 0
theorem highN_snoc (l : List Int) (z : Int) : highN (l ++ [z]) = 256 * highN l + z.toNat := by unfold highN; rw [List.foldl_append]; rfl
theorem foldH_lt (l : List Int) (c : Nat) (h : ∀ z ∈ l, 0 ≤ z ∧ z ≤ 255) : l.foldl (fun n z => 256 * n + z.toNat) c < (c + 1) * 256 ^ l.length := by
  induction l generalizing c with
  | nil => simp
  | cons z l ih =>
    have h1 := ih (256 * c + z.toNat) (fun y hy => h y (by simp [hy]))
    have h2 := h z (by simp)
    rw [List.foldl_cons, List.length_cons, Nat.pow_succ]
    refine Nat.lt_of_lt_of_le h1 ?_
    rw [Nat.mul_comm (256 ^ l.length) 256, ← Nat.mul_assoc]
    exact Nat.mul_le_mul_right _ (by omega)
theorem highN_lt {l : List Int} (h : ∀ z ∈ l, 0 ≤ z ∧ z ≤ 255) : highN l < 256 ^ l.length := by
  have := foldH_lt l 0 h
  rw [Nat.zero_add, Nat.one_mul] at this
  exact this
theorem highN_four (a b c d : Int) (ha : 0 ≤ a) (hb : 0 ≤ b) (hc : 0 ≤ c) (hd : 0 ≤ d) : highN [a, b, c, d] = fourN a b c d := by
  unfold highN fourN
  simp only [List.foldl_cons, List.foldl_nil]
  omega

set_option maxRecDepth 100000 in
set_option maxHeartbeats 4000000 in
theorem cnumber_any (v : Value) (l : List Int) (w : World) (hv : ArgB w v l) (hb : ∀ z ∈ l, 0 ≤ z ∧ z ≤ 255) (hl : l.length ≤ 4) :
    Calls Tryz.prog 88 #[v] w fun e w' => e = .returned (.int .u32 (highN l)) ∧ w' = w := by
  obtain ⟨a, cap, rfl, hcap, hcell⟩ := hv.bytesIs
  have HC := Lib.hid hcell
  have HB := Lib.hid hb
  clear hcell hb hv
  go_enter Tryz.func88, Tryz.ntmps88
  go_wp2
  go_loop [3, 8] (fun v3 v8 => ∃ (i c : Nat), i ≤ l.length ∧ v8 = .int .i64 (i : Int) ∧ v3 = .int .u32 (c : Int) ∧ highN (l.take i) = c) (fun _ v8 => l.length - (intOf v8).toNat)
  case atStart => exact ⟨0, 0, Nat.zero_le _, rfl, rfl, rfl⟩
  case round =>
    obtain ⟨i, c, hi, rfl, rfl, hr⟩ := hrel
    have HR := Lib.hid hr
    by_cases h1 : i < l.length
    · obtain ⟨b, off, ha, hx⟩ := HC.out i h1
      subst ha
      have hz := HB.out (l.getD i 0) (by rw [List.getD_eq_getElem?_getD, List.getElem?_eq_getElem h1]; exact List.getElem_mem h1)
      obtain ⟨x, hxx⟩ : ∃ x : Nat, l.getD i 0 = (x : Int) := ⟨(l.getD i 0).toNat, by omega⟩
      rw [hxx] at hx hz
      have HX := Lib.hid hxx
      have hc : c < 16777216 := by
        have h2 := highN_lt (l := l.take i) (fun z hz => HB.out z (List.mem_of_mem_take hz))
        rw [hr, List.length_take, Nat.min_eq_left hi] at h2
        exact Nat.lt_of_lt_of_le h2 (Nat.pow_le_pow_right (n := 256) (by decide) (by omega : i ≤ 3))
      have hx256 : x ≤ 255 := by omega
      clear hr hxx hz
      have hwx : IntKind.u32.wrap (x : Int) = (x : Int) := by rw [IntKind.wrap_u32]; omega
      have hwc : IntKind.u32.wrap ((c : Int) * 256) = 256 * (c : Int) := by rw [IntKind.wrap_u32]; omega
      have hwc2 : IntKind.u32.wrap (256 * (c : Int)) = 256 * (c : Int) := by rw [IntKind.wrap_u32]; omega
      obtain ⟨g, hg⟩ : ∃ g, 256 * c + x = g := ⟨_, rfl⟩
      have hor : bits .or .u32 (256 * (c : Int)) (x : Int) = (g : Int) := by rw [or_byte32 c x hc (by omega), hg]
      have hnx : Hid (highN (l.take (i + 1)) = g) := by
        unfold Hid
        rw [take_snocI h1, highN_snoc, HR.out, HX.out, Int.toNat_natCast, hg]
      clear hg
      go_wp2
      go_round
      case rel => exact ⟨i + 1, g, by omega, by go_num, rfl, hnx.out⟩
      case measure => simp [intOf]; omega
    · obtain rfl : i = l.length := by omega
      have hfin : Hid (highN l = c) := by
        have := HR.out
        rw [List.take_length] at this
        exact this
      go_wp2
      go_ret
      exact ⟨by rw [hfin.out]; rfl, rfl⟩

set_option maxRecDepth 100000 in
set_option maxHeartbeats 4000000 in
theorem clone_any (v : Value) (l : List Int) (w : World) (hv : ArgB w v l) (hl : l.length ≤ 1000000) :
    Calls Tryz.prog 70 #[v] w fun e w' => ∃ u, e = .returned u ∧ ArgB w' u l ∧ (∀ b, u.ownBlock = some b → w.heap.size ≤ b) ∧ Below w.heap.size w w' := by
  rcases hv with ⟨rfl, rfl⟩ | ⟨x, cap, rfl, hc, hcell⟩
  · have hnil := fun W => Lib.run_eql_slice_nil (P := Tryz.prog) W 22 5 none 0 0 0 0 Tryz.underlying22
    go_enter Tryz.func70, Tryz.ntmps70
    go_wp2
    go_ret
    exact ⟨_, rfl, Or.inl ⟨rfl, rfl⟩, (fun b hb => by cases hb), Below.refl _ _⟩
  · have HV : Hid (ArgB w (.slice (some x) l.length cap) l) := Or.inr ⟨x, cap, rfl, hc, hcell⟩
    have HN := Lib.hid (OwnInts.fresh 5 .u8 w w.heap.size w.heap.size rfl (Nat.le_refl _))
    have HB := Lib.hid (fun o => (Below.refl w.heap.size w).alloc (Nat.le_refl _) o)
    have HS := Lib.hid (fun o => show w.heap.size ≤ (w.alloc o).heap.size by simp)
    have hnil := fun W => Lib.run_eql_slice_nil (P := Tryz.prog) W 22 5 (some x) l.length cap 0 0 Tryz.underlying22
    clear hcell hc
    go_enter Tryz.func70, Tryz.ntmps70
    go_wp2_with (at_builtin; refine wp_join rfl _ _ rfl w.heap.size _ [] rfl HN.out _ l rfl (HV.out.below (HB.out _)) (by simp only [List.length_nil]; omega) (HS.out _) ?_)
    intro v2 w2 h2 b2 _ s2
    have H2 := Lib.hid h2
    have B2 := Lib.hid ((HB.out (.cells #[] 5)).trans b2)
    clear h2 b2
    go_wp2
    go_ret
    exact ⟨_, rfl, H2.out.argB, fun b hb => (H2.out.1.lt b hb).1, B2.out⟩

theorem OwnInts.elder {t : TypeId} {k : IntKind} {w : World} {b1 b2 : Nat} {v : Value} {l : List Int} (h : OwnInts t k w b1 v l) (hb : b2 ≤ b1) : OwnInts t k w b2 v l := by
  obtain ⟨⟨h1, h2⟩, hn⟩ := h
  refine ⟨⟨h1, ?_⟩, hn⟩
  rcases h2 with hx | ⟨g, cap, cur, rfl, hbg, rest⟩
  · exact Or.inl hx
  · exact Or.inr ⟨g, cap, cur, rfl, Nat.le_trans hb hbg, rest⟩
theorem ArgLL.five {w : World} {v1 v2 v3 v4 v5 : Value} {l1 l2 l3 l4 l5 : List Int} (h1 : ArgB w v1 l1) (h2 : ArgB w v2 l2) (h3 : ArgB w v3 l3) (h4 : ArgB w v4 l4) (h5 : ArgB w v5 l5) (t : TypeId) (g : Nat) (hg : g = w.heap.size) : ArgLL (w.alloc (.cells #[v1, v2, v3, v4, v5] t)) (.slice (some ⟨g, 0, none⟩) 5 5) [l1, l2, l3, l4, l5] := by
  subst hg
  have hb : Below w.heap.size w (w.alloc (.cells #[v1, v2, v3, v4, v5] t)) := (Below.refl _ _).alloc (Nat.le_refl _) _
  refine Or.inr ⟨⟨w.heap.size, 0, none⟩, 5, fun i => (#[v1, v2, v3, v4, v5] : Array Value).getD i undef, rfl, Nat.le_refl _, fun i hi => ?_⟩
  match i, hi with
  | 0, _ => exact ⟨by simp [Addr.add], h1.below hb⟩
  | 1, _ => exact ⟨by simp [Addr.add], h2.below hb⟩
  | 2, _ => exact ⟨by simp [Addr.add], h3.below hb⟩
  | 3, _ => exact ⟨by simp [Addr.add], h4.below hb⟩
  | 4, _ => exact ⟨by simp [Addr.add], h5.below hb⟩
theorem concat_frame (v2 v3 v4 : Value) (l : List Int) (w : World) (g1 g5 g : Nat) (t : TypeId) (hg : g = w.heap.size) (h1 : ArgB w (.slice (some ⟨g1, 0, none⟩) 1 1) [245]) (h2 : ArgB w v2 (fourL l.length)) (h3 : ArgB w v3 (fourL (sumL l))) (h4 : ArgB w v4 l) (h5 : ArgB w (.slice (some ⟨g5, 0, none⟩) 1 1) [95]) (hl : l.length ≤ 1000000) :
    Calls Tryz.prog 85 #[.slice (some ⟨g, 0, none⟩) 5 5] (w.alloc (.cells #[.slice (some ⟨g1, 0, none⟩) 1 1, v2, v3, v4, .slice (some ⟨g5, 0, none⟩) 1 1] t)) fun e w' => ∃ x, e = .returned x ∧ OwnInts 5 .u8 w' w.heap.size x (frameL l) ∧ Below w.heap.size w w' := by
  have hf : [[245], fourL l.length, fourL (sumL l), l, [95]].flatten = frameL l := by unfold frameL; simp
  have hL := frameL_len l
  refine (concat_any _ _ _ (ArgLL.five h1 h2 h3 h4 h5 t g hg) (by rw [hf]; omega) (by rw [hf]; omega) (by simp)).mono ?_
  rintro e w' ⟨x, rfl, hO, hB⟩
  rw [hf] at hO
  exact ⟨x, rfl, OwnInts.elder hO (by simp), below_step ((Below.refl _ _).alloc (Nat.le_refl _) _) hB⟩

/-- A slice of bytes that a call hands back. -/
def GivesF (l : List Int) (w : World) (e : Ending) (w' : World) : Prop := ∃ v, e = .returned v ∧ ArgB w' v l ∧ Below w.heap.size w w'
/-- A slice of bytes that a call hands back, in new memory. -/
def GivesFN (l : List Int) (w : World) (e : Ending) (w' : World) : Prop := ∃ v, e = .returned v ∧ ArgB w' v l ∧ (∀ b, v.ownBlock = some b → w.heap.size ≤ b) ∧ Below w.heap.size w w'
set_option maxRecDepth 100000 in
set_option maxHeartbeats 4000000 in
theorem cframe_new (v : Value) (l : List Int) (w : World) (env : Env w) (hv : ArgB w v l) (hb : ∀ z ∈ l, 0 ≤ z ∧ z ≤ 255) (hl : l.length ≤ 1000000) :
    Calls Tryz.prog 74 #[v] w (GivesFN (frameL l) w) := by
  obtain ⟨a, cap, rfl⟩ := hv.size
  have HV := Lib.hid hv
  have HBy := Lib.hid hb
  have HE := Lib.hid env
  have hw : IntKind.u32.wrap (l.length : Int) = (l.length : Int) := by rw [IntKind.wrap_u32]; omega
  have hsl := sumL_lt l
  clear hv hb env
  obtain ⟨B, hB⟩ : ∃ B, w.heap.size = B := ⟨_, rfl⟩
  have HBd := Lib.hid hB
  have hO1 := Lib.hid (OwnInts.one 5 .u8 w B 245 B hB.symm (Nat.le_refl _))
  have hB1 : Hid (Below B w (w.alloc (.cells #[.int .u8 245] 5))) := (Below.refl B w).alloc (by omega) _
  have S1 : Hid (B ≤ (w.alloc (.cells #[.int .u8 245] 5)).heap.size) := (by simp; omega : B ≤ (w.alloc (.cells #[.int .u8 245] 5)).heap.size)
  have HC2 := Lib.hid (cfour_any l.length (w.alloc (.cells #[.int .u8 245] 5)) (by omega))
  have HC3 := Lib.hid (fun w2 b2 => cof_any (.slice a l.length cap) l w2 (HE.out.step b2) (HV.out.below b2) HBy.out hl)
  have HC4 := Lib.hid (fun w3 => cfour_any (sumL l) w3 hsl)
  go_enter Tryz.func74, Tryz.ntmps74
  go_wp2_with (first
    | (go_at_call 87; (with_reducible refine (HC3.out _ (HBd.out ▸ B2.out)).mono ?_); rintro e w3 ⟨rfl, b3⟩; have A3 := Lib.hid (A2.out.below b3); have H3 := Lib.hid (H2.out.argB.below b3); have B3 := Lib.hid (B2.out.trans (b3.mono S2.out)); have S3 := Lib.hid (Nat.le_trans S2.out b3.size); clear b3)
    | (go_at_call 86; first
      | ((with_reducible refine HC2.out.mono ?_); rintro e w2 ⟨g2, cap2, rfl, h2, b2⟩; have H2 := Lib.hid h2; have A2 := Lib.hid (hO1.out.argB.below b2); have B2 := Lib.hid (hB1.out.trans (b2.mono S1.out)); have S2 := Lib.hid (Nat.le_trans S1.out b2.size); clear h2 b2)
      | ((with_reducible refine (HC4.out _).mono ?_); rintro e w4 ⟨g4, cap4, rfl, h4, b4⟩; have H4 := Lib.hid h4.argB; have A4 := Lib.hid (A3.out.below b4); have C4 := Lib.hid (H3.out.below b4); have B4 := Lib.hid (B3.out.trans (b4.mono S3.out)); have S4 := Lib.hid (Nat.le_trans S3.out b4.size); have V4 := Lib.hid (HV.out.below (HBd.out ▸ B4.out)); have L4 := Lib.hid ((Below.refl w4.heap.size w4).alloc (Nat.le_refl _) (.cells #[.int .u8 95] 5)); have N4 := Lib.hid (OwnInts.one 5 .u8 w4 B 95 w4.heap.size rfl S4.out).argB; have T4 := Lib.hid (B4.out.alloc S4.out (.cells #[.int .u8 95] 5)); clear h4 b4))
    | (go_at_call 85; (with_reducible refine (concat_frame _ _ _ l _ _ _ _ _ (by simp) (A4.out.below L4.out) (C4.out.below L4.out) (H4.out.below L4.out) (V4.out.below L4.out) N4.out hl).mono ?_); rintro e w5 ⟨u, rfl, h5, b5⟩; have H5 := Lib.hid h5; have B5 := Lib.hid b5; clear h5 b5))
  go_ret
  exact ⟨_, rfl, H5.out.argB, fun b hb => by have q := (H5.out.1.lt b hb).1; have q2 := S4.out; have q3 := HBd.out; simp at q; omega, HBd.out ▸ T4.out.trans (B5.out.mono (by have := S4.out; simp; omega))⟩
theorem cframe_any (v : Value) (l : List Int) (w : World) (env : Env w) (hv : ArgB w v l) (hb : ∀ z ∈ l, 0 ≤ z ∧ z ≤ 255) (hl : l.length ≤ 1000000) :
    Calls Tryz.prog 74 #[v] w (GivesF (frameL l) w) :=
  (cframe_new v l w env hv hb hl).mono fun _ _ ⟨v, e, h, _, b⟩ => ⟨v, e, h, b⟩

end Go.Proofs.YtejelednnacnaaaGreatDoor

/-
  What opening bytes comes to, as package crc looks at it: plain lists of bytes.
-/
namespace Go.Proofs.YtejelednnacnaaaGreatDoor
open Go.RowKit

theorem fourN_four (n : Nat) (h : n < 4294967296) : fourN ((n / 16777216 % 256 : Nat) : Int) ((n / 65536 % 256 : Nat) : Int) ((n / 256 % 256 : Nat) : Int) ((n % 256 : Nat) : Int) = n := by
  unfold fourN; omega
theorem four_fourN {a b c d : Int} (ha : 0 ≤ a ∧ a ≤ 255) (hb : 0 ≤ b ∧ b ≤ 255) (hc : 0 ≤ c ∧ c ≤ 255) (hd : 0 ≤ d ∧ d ≤ 255) : fourL (fourN a b c d) = [a, b, c, d] := by
  unfold fourL fourN
  simp only [List.cons.injEq, and_true]
  refine ⟨?_, ?_, ?_, ?_⟩ <;> omega
/-- Nine bytes, and what is left. -/
theorem nine {B : List Int} (h : 10 ≤ B.length) : ∃ b0 b1 b2 b3 b4 b5 b6 b7 b8 R, B = b0 :: b1 :: b2 :: b3 :: b4 :: b5 :: b6 :: b7 :: b8 :: R ∧ 1 ≤ R.length := by
  match B, h with
  | b0 :: b1 :: b2 :: b3 :: b4 :: b5 :: b6 :: b7 :: b8 :: R, h => exact ⟨b0, b1, b2, b3, b4, b5, b6, b7, b8, R, rfl, by simp only [List.length_cons] at h; omega⟩
/-- What opening bytes comes to, as the program looks at it. -/
theorem open_if {B : List Int} (hb : ∀ z ∈ B, 0 ≤ z ∧ z ≤ 255) (h10 : 10 ≤ B.length) (n : Nat) (hs : saidN B = n) (hn : n + 10 ≤ B.length) (h0 : B.getD 0 0 = 245) (h9 : B.getD (9 + n) 0 = 95) :
    openL B = if sumL ((B.drop 9).take n) = highN ((B.drop 5).take 4) then some ((B.drop 9).take n) else none := by
  obtain ⟨b0, b1, b2, b3, b4, b5, b6, b7, b8, R, rfl, hR⟩ := nine h10
  obtain rfl : b0 = 245 := h0
  have e5 : ((245 :: b1 :: b2 :: b3 :: b4 :: b5 :: b6 :: b7 :: b8 :: R).drop 5).take 4 = [b5, b6, b7, b8] := rfl
  have e9 : ((245 :: b1 :: b2 :: b3 :: b4 :: b5 :: b6 :: b7 :: b8 :: R).drop 9) = R := rfl
  have y : ∀ k, k ∈ [b1, b2, b3, b4, b5, b6, b7, b8] → 0 ≤ k ∧ k ≤ 255 := fun k hk => hb k (by simp at hk ⊢; omega)
  have y1 := y b1 (by simp)
  have y2 := y b2 (by simp)
  have y3 := y b3 (by simp)
  have y4 := y b4 (by simp)
  have y5 := y b5 (by simp)
  have y6 := y b6 (by simp)
  have y7 := y b7 (by simp)
  have y8 := y b8 (by simp)
  rw [e5, e9, highN_four _ _ _ _ y5.1 y6.1 y7.1 y8.1]
  have hs2 : fourN b1 b2 b3 b4 = n := hs
  have hlR : n + 1 ≤ R.length := by simp only [List.length_cons] at hn; omega
  have hR9 : R.getD n 0 = 95 := by rw [Nat.add_comm] at h9; simpa using h9
  have hX : (R.take n).length = n := by rw [List.length_take]; omega
  have htake : (245 :: b1 :: b2 :: b3 :: b4 :: b5 :: b6 :: b7 :: b8 :: R).take (n + 10) = 245 :: b1 :: b2 :: b3 :: b4 :: b5 :: b6 :: b7 :: b8 :: (R.take n ++ [95]) := by
    have : R.take (n + 1) = R.take n ++ [95] := by rw [take_snocI (by omega), hR9]
    rw [← this]
    rfl
  have hfr : frameL (R.take n) = [245] ++ ([b1, b2, b3, b4] ++ (fourL (sumL (R.take n)) ++ (R.take n ++ [95]))) := by
    unfold frameL
    rw [hX, ← hs2, four_fourN y1 y2 y3 y4]
  unfold openL
  rw [hs, e9, htake]
  by_cases hsum : sumL (R.take n) = fourN b5 b6 b7 b8
  · have h3 : frameL (R.take n) = 245 :: b1 :: b2 :: b3 :: b4 :: b5 :: b6 :: b7 :: b8 :: (R.take n ++ [95]) := by
      rw [hfr, hsum, four_fourN y5 y6 y7 y8]; rfl
    exact (if_pos ⟨h10, hn, h3⟩).trans (if_pos hsum).symm
  · refine (if_neg ?_).trans (if_neg hsum).symm
    rintro ⟨_, _, h3⟩
    rw [hfr] at h3
    apply hsum
    have h4 : fourL (sumL (R.take n)) = [b5, b6, b7, b8] := by
      have := congrArg (fun l => (l.drop 5).take 4) h3
      simpa [fourL] using this
    have h5 := fourN_four (sumL (R.take n)) (sumL_lt _)
    unfold fourL at h4
    simp only [List.cons.injEq, and_true] at h4
    rw [h4.1, h4.2.1, h4.2.2.1, h4.2.2.2] at h5
    exact h5.symm
theorem said_high {B : List Int} (hb : ∀ z ∈ B, 0 ≤ z ∧ z ≤ 255) (h10 : 10 ≤ B.length) : highN ((B.drop 1).take 4) = saidN B := by
  obtain ⟨b0, b1, b2, b3, b4, b5, b6, b7, b8, R, rfl, hR⟩ := nine h10
  have y : ∀ k, k ∈ [b1, b2, b3, b4] → 0 ≤ k := fun k hk => (hb k (by simp at hk ⊢; omega)).1
  exact highN_four _ _ _ _ (y _ (by simp)) (y _ (by simp)) (y _ (by simp)) (y _ (by simp))

end Go.Proofs.YtejelednnacnaaaGreatDoor

/-
  The program's calls of package crc, walked: Open, All.
-/
namespace Go.Proofs.YtejelednnacnaaaGreatDoor
open Go.RowKit

/-- A part of a slice of bytes. -/
theorem slice_in {w : World} {v : Value} {B : List Int} (h : ArgB w v B) (lo hi : Nat) (zl zh : Int) (el : zl = (lo : Int)) (eh : zh = (hi : Int)) (hlo : lo ≤ hi) (hll : lo < B.length) (hhi : hi ≤ B.length) :
    ∃ sv, (∀ W, (Instr.slice 22 v (some (.int .i64 zl)) (some (.int .i64 zh)) none).run Tryz.prog W = .ok sv W) ∧ ArgB w sv ((B.drop lo).take (hi - lo)) := by
  subst el eh
  have hs : ∀ W : World, (sizeOf (Tryz.prog.elem 22)).run Tryz.prog W = .ok 1 W := fun W => by kernel_rfl
  rcases h with ⟨rfl, rfl⟩ | ⟨x, cap, rfl, hc, hcell⟩
  · simp at hll
  obtain ⟨b, off, rfl, hcell2⟩ := arg_addr hcell (by omega)
  refine ⟨.slice (some ⟨b, off + lo, none⟩) (hi - lo) (cap - lo), fun W => ?_, ArgB.part hcell2 lo (hi - lo) (cap - lo) (by omega) (by omega)⟩
  have := run_slice_lh (P := Tryz.prog) W 22 (some ⟨b, off, none⟩) B.length cap (by kernel_rfl) .i64 .i64 (lo : Int) (hi : Int) (by omega) (by omega) (by omega)
  rw [this, hs]
  have e3 : ∀ j : Nat, (⟨b, off, none⟩ : Addr).add j = ⟨b, off + j, none⟩ := fun j => by unfold Addr.add; split <;> simp_all
  simp only [Result.andThen, Int.toNat_natCast, sliced]
  rw [if_neg (by omega)]
  simp only [Option.map_some, Nat.mul_one, e3]

/-- What opening comes to: the bytes, in new memory, and how many the frame has; or Torn. -/
def GivesPN (B : List Int) (w : World) (e : Ending) (w' : World) : Prop :=
  Below w.heap.size w w' ∧ ((openL B = none ∧ e = .returned (.tuple #[.slice none 0 0, .int .i64 0, .int .i64 10])) ∨ ∃ x v, openL B = some x ∧ e = .returned (.tuple #[v, .int .i64 ((x.length + 10 : Nat) : Int), .int .i64 0]) ∧ ArgB w' v x ∧ ∀ b, v.ownBlock = some b → w.heap.size ≤ b)
/-- What opening comes to: the bytes and how many the frame has, or Torn. -/
def GivesP (B : List Int) (w : World) (e : Ending) (w' : World) : Prop :=
  Below w.heap.size w w' ∧ ((openL B = none ∧ ∃ v, e = .returned (.tuple #[v, .int .i64 0, .int .i64 10]) ∧ ArgB w' v []) ∨ ∃ x v, openL B = some x ∧ e = .returned (.tuple #[v, .int .i64 ((x.length + 10 : Nat) : Int), .int .i64 0]) ∧ ArgB w' v x)

set_option maxRecDepth 100000 in
set_option maxHeartbeats 4000000 in
theorem copen_new (v : Value) (B : List Int) (w : World) (env : Env w) (hv : ArgB w v B) (hb : ∀ z ∈ B, 0 ≤ z ∧ z ≤ 255) (hl : B.length ≤ 1000000) :
    Calls Tryz.prog 77 #[v] w (GivesPN B w) := by
  by_cases h10 : B.length < 10
  · obtain ⟨a, cap, rfl⟩ := hv.size
    have hn : Hid (openL B = none) := by unfold Hid openL; rw [if_neg (by omega)]
    have hlt : (B.length : Int) < 10 := by omega
    clear hv hb h10 env
    go_enter Tryz.func77, Tryz.ntmps77
    go_wp2
    go_ret3
    exact ⟨Below.refl _ _, Or.inl ⟨hn.out, rfl⟩⟩
  have hge : ¬ (B.length : Int) < 10 := by omega
  have h1010 : 10 ≤ B.length := by omega
  obtain ⟨s15, hr15, A15⟩ := slice_in hv 1 5 1 5 rfl rfl (by decide) (by omega) (by omega)
  obtain ⟨s59, hr59, A59⟩ := slice_in hv 5 9 5 9 rfl rfl (by decide) (by omega) (by omega)
  have CN := Lib.hid (cnumber_any s15 _ w A15 (fun z hz => hb z (List.mem_of_mem_drop (List.mem_of_mem_take hz))) (by rw [List.length_take]; omega))
  have hsh : highN ((B.drop 1).take (5 - 1)) = saidN B := said_high hb h1010
  rw [hsh] at CN
  obtain ⟨n, hn⟩ : ∃ n, saidN B = n := ⟨_, rfl⟩
  rw [hn] at CN hsh
  have hn32 : n < 4294967296 := by
    have := highN_lt (l := (B.drop 1).take (5 - 1)) (fun z hz => hb z (List.mem_of_mem_drop (List.mem_of_mem_take hz)))
    rw [hsh] at this
    refine Nat.lt_of_lt_of_le this (Nat.pow_le_pow_right (n := 256) (by decide) (?_ : _ ≤ 4))
    rw [List.length_take]; omega
  have HV := Lib.hid hv
  have HE := Lib.hid env
  rcases hv with ⟨rfl, rfl⟩ | ⟨x, cap, rfl, hcap, hcell⟩
  · simp at h1010
  obtain ⟨b, off, rfl, hc⟩ := arg_addr hcell (by omega)
  have c0 := hc 0 (by omega)
  rw [Nat.add_zero] at c0
  obtain ⟨z0, hz0⟩ : ∃ z, B.getD 0 0 = z := ⟨_, rfl⟩
  rw [hz0] at c0
  have hlp : (0 : Int) < (B.length : Int) := by omega
  by_cases h245 : z0 = 245
  case neg =>
    have hno : Hid (openL B = none) := open_first (by rw [hz0]; exact h245)
    have hne : (z0 != 245) = true := by simpa using h245
    clear hc hcell env hb h10 A15 A59 hr15 hr59 h245 hz0 hsh hn
    go_enter Tryz.func77, Tryz.ntmps77
    go_wp2
    go_ret3
    exact ⟨Below.refl _ _, Or.inl ⟨hno.out, rfl⟩⟩
  subst h245
  have hwn : IntKind.u64.wrap (n : Int) = (n : Int) := by rw [IntKind.wrap_u64]; omega
  have hws : IntKind.i64.wrap ((B.length : Int) - 10) = (B.length : Int) - 10 := by rw [IntKind.wrap_i64]; omega
  have hwu : IntKind.u64.wrap ((B.length : Int) - 10) = (B.length : Int) - 10 := by rw [IntKind.wrap_u64]; omega
  by_cases hbig : B.length - 10 < n
  · have hno : Hid (openL B = none) := by unfold Hid openL; rw [hn, if_neg (by omega)]
    have hgt : (B.length : Int) - 10 < (n : Int) := by omega
    clear hc hcell env hb h10 A15 A59 hr59 hz0 hsh hn
    go_enter Tryz.func77, Tryz.ntmps77
    go_wp2_with (go_at_call 88; (with_reducible refine CN.out.mono ?_); rintro e w1 ⟨rfl, rfl⟩)
    go_ret3
    exact ⟨Below.refl _ _, Or.inl ⟨hno.out, rfl⟩⟩
  have hngt : ¬ (B.length : Int) - 10 < (n : Int) := by omega
  have hwi : IntKind.i64.wrap (n : Int) = (n : Int) := by rw [IntKind.wrap_i64]; omega
  obtain ⟨E, hE⟩ : ∃ E, 9 + n = E := ⟨_, rfl⟩
  have hwE : IntKind.i64.wrap (9 + (n : Int)) = (E : Int) := by rw [IntKind.wrap_i64]; omega
  have hEl : (E : Int) < (B.length : Int) := by omega
  have hE9 : (9 : Int) ≤ (E : Int) := by omega
  have cE := hc E (by omega)
  obtain ⟨z9, hz9⟩ : ∃ z, B.getD E 0 = z := ⟨_, rfl⟩
  rw [hz9] at cE
  have hcapE : (E : Int) ≤ (cap : Int) := by omega
  obtain ⟨s9E, hr9E, A9E⟩ := slice_in HV.out 9 (9 + n) 9 (E : Int) rfl (by omega) (by omega) (by omega) (by omega)
  rw [show 9 + n - 9 = n by omega] at A9E
  obtain ⟨X, hX⟩ : ∃ X, (B.drop 9).take n = X := ⟨_, rfl⟩
  have HXl : Hid (X.length = n) := by unfold Hid; rw [← hX, List.length_take, List.length_drop]; omega
  have HXb : Hid (∀ z ∈ X, 0 ≤ z ∧ z ≤ 255) := fun z hz => by rw [← hX] at hz; exact hb z (List.mem_of_mem_drop (List.mem_of_mem_take hz))
  rw [hX] at A9E
  have HA := Lib.hid A9E
  have HA5 := Lib.hid A59
  have hxl : X.length ≤ 1000000 := by have := HXl.out; omega
  obtain ⟨S1, hS1⟩ : ∃ s, sumL X = s := ⟨_, rfl⟩
  obtain ⟨S2, hS2⟩ : ∃ s, highN ((B.drop 5).take (9 - 5)) = s := ⟨_, rfl⟩
  have C1 : Hid (∀ W, Below w.heap.size w W → Calls Tryz.prog 87 #[s9E] W fun e w' => e = .returned (.int .u32 (S1 : Int)) ∧ w' = W) := fun W g => by
    have := cof_same s9E X W (HE.out.step g) (HA.out.below g) HXb.out hxl
    rw [hS1] at this
    exact this
  have C2 : Hid (∀ W, Below w.heap.size w W → Calls Tryz.prog 88 #[s59] W fun e w' => e = .returned (.int .u32 (S2 : Int)) ∧ w' = W) := fun W g => by
    have := cnumber_any s59 _ W (HA5.out.below g) (fun z hz => hb z (List.mem_of_mem_drop (List.mem_of_mem_take hz))) (by rw [List.length_take]; omega)
    rw [hS2] at this
    exact this
  by_cases h95 : z9 = 95
  case neg =>
    have hno : Hid (openL B = none) := open_last (by rw [hn, Nat.add_comm, hE, hz9]; exact h95)
    have hne : (z9 != 95) = true := by simpa using h95
    clear hc hcell env hb h10 A15 A59 hr59 hz0 hsh hn hz9 h95 A9E hX hS1 hS2 hE hr9E
    go_enter Tryz.func77, Tryz.ntmps77
    go_wp2_with (go_at_call 88; (with_reducible refine CN.out.mono ?_); rintro e w1 ⟨rfl, rfl⟩)
    go_quiet (fail)
    have D3 := Lib.hid (below_drewN (Below.refl w1.heap.size w1) nq)
    generalize w1.drewN nq = W3 at D3 ⊢
    go_wp2
    go_ret3
    exact ⟨D3.out, Or.inl ⟨hno.out, rfl⟩⟩
  subst h95
  have hif := open_if hb h1010 n hn (by omega) hz0 (by rw [hE]; exact hz9)
  rw [hX, hS1] at hif
  rw [show highN ((B.drop 5).take 4) = S2 from hS2] at hif
  by_cases hs : S1 = S2
  case neg =>
    have hno : Hid (openL B = none) := by unfold Hid; rw [hif, if_neg hs]
    have hne : ((S1 : Int) != (S2 : Int)) = true := by simp; omega
    clear hc hcell env hb h10 A15 A59 hz0 hsh hn hz9 A9E hX hS1 hS2 hE hif hs
    go_enter Tryz.func77, Tryz.ntmps77
    go_wp2_with (go_at_call 88; (with_reducible refine CN.out.mono ?_); rintro e w1 ⟨rfl, rfl⟩)
    go_quiet (first
      | (go_at_call 87; exact Calls.quiet_of_same (C1.out _ (below_drewN (Below.refl _ _) _)))
      | (go_at_call 88; exact Calls.quiet_of_same (C2.out _ (below_drewN (Below.refl _ _) _))))
    have D3 := Lib.hid (below_drewN (Below.refl w1.heap.size w1) nq)
    generalize w1.drewN nq = W3 at D3 ⊢
    go_wp2
    go_ret3
    exact ⟨D3.out, Or.inl ⟨hno.out, rfl⟩⟩
  subst hs
  have hyes : Hid (openL B = some X) := by unfold Hid; rw [hif, if_pos rfl]
  have hwF : IntKind.i64.wrap ((E : Int) + 1) = (E : Int) + 1 := by rw [IntKind.wrap_i64]; omega
  have hEX : Hid ((E : Int) + 1 = ((X.length + 10 : Nat) : Int)) := by have := HXl.out; unfold Hid; omega
  have CC := Lib.hid (fun W (g : Below w.heap.size w W) => clone_any s9E X W (HA.out.below g) hxl)
  clear hc hcell env hb h10 A15 A59 hz0 hsh hn hz9 A9E hX hS1 hS2 hE hif
  go_enter Tryz.func77, Tryz.ntmps77
  go_wp2_with (go_at_call 88; (with_reducible refine CN.out.mono ?_); rintro e w1 ⟨rfl, rfl⟩)
  go_quiet (first
    | (go_at_call 87; exact Calls.quiet_of_same (C1.out _ (below_drewN (Below.refl _ _) _)))
    | (go_at_call 88; exact Calls.quiet_of_same (C2.out _ (below_drewN (Below.refl _ _) _))))
  have D3 := Lib.hid (below_drewN (Below.refl w1.heap.size w1) nq)
  generalize w1.drewN nq = W3 at D3 ⊢
  go_wp2_with (go_at_call 70; (with_reducible refine (CC.out _ D3.out).mono ?_); rintro e w4 ⟨u, rfl, h4, f4, b4⟩; have F4 := Lib.hid (fun b hb => Nat.le_trans D3.out.size (f4 b hb)); have H4 := Lib.hid h4; have B4 := Lib.hid (below_step D3.out b4); clear h4 b4 f4)
  go_ret3
  exact ⟨B4.out, Or.inr ⟨X, _, hyes.out, by rw [hEX.out]; rfl, H4.out, F4.out⟩⟩
theorem copen_any (v : Value) (B : List Int) (w : World) (env : Env w) (hv : ArgB w v B) (hb : ∀ z ∈ B, 0 ≤ z ∧ z ≤ 255) (hl : B.length ≤ 1000000) :
    Calls Tryz.prog 77 #[v] w (GivesP B w) :=
  (copen_new v B w env hv hb hl).mono fun e w' h => ⟨h.1, by
    rcases h.2 with ⟨h1, h2⟩ | ⟨x, v, h1, h2, h3, _⟩
    · exact Or.inl ⟨h1, _, h2, ArgB.nil _⟩
    · exact Or.inr ⟨x, v, h1, h2, h3⟩⟩

end Go.Proofs.YtejelednnacnaaaGreatDoor

/-
  The program's calls of package crc, walked: All.
-/
namespace Go.Proofs.YtejelednnacnaaaGreatDoor
open Go.RowKit

set_option maxRecDepth 100000 in
set_option maxHeartbeats 4000000 in
theorem call_any (v : Value) (B : List Int) (w : World) (env : Env w) (hv : ArgB w v B) (hb : ∀ z ∈ B, 0 ≤ z ∧ z ≤ 255) (hl : B.length ≤ 1000000) :
    Calls Tryz.prog 67 #[v] w (GivesA B w) := by
  obtain ⟨a, cap, rfl⟩ := hv.size
  have HV := Lib.hid hv
  have HBy := Lib.hid hb
  have HE := Lib.hid env
  clear hv hb env
  obtain ⟨base, hB⟩ : ∃ b, w.heap.size = b := ⟨_, rfl⟩
  have HBd := Lib.hid hB
  go_enter Tryz.func67, Tryz.ntmps67
  go_wp2
  go_loopw [4, 5] (fun v4 v5 wr => ∃ (L : List (List Int)) (k : Nat), v5 = .int .i64 (k : Int) ∧ k ≤ B.length ∧ L.length ≤ k ∧ allL B = (L ++ (allL (B.drop k)).1, k + (allL (B.drop k)).2) ∧ RowLL wr base v4 L ∧ Below base w wr ∧ base ≤ wr.heap.size) (fun _ v5 _ => B.length - (intOf v5).toNat)
  case atStart => exact ⟨[], 0, rfl, Nat.zero_le _, Nat.zero_le _, by simp, RowLL.nil _ _, Below.refl _ _, by omega⟩
  case round =>
    obtain ⟨L, k, rfl, hk, hLk, hall, hO, hBel, hs⟩ := hrel
    obtain ⟨g, c, rfl⟩ := hO.size
    have HO := Lib.hid hO
    have HB := Lib.hid hBel
    have HS := Lib.hid hs
    have HAll := Lib.hid hall
    clear hO hBel hs hall
    obtain ⟨sv, hsv, hA0⟩ := slice_from HV.out k hk
    have hA := hA0
    have hl2 : (B.drop k).length = B.length - k := List.length_drop ..
    have HA := Lib.hid (hA.below (HBd.out ▸ HB.out))
    have HAb : Hid (∀ z ∈ B.drop k, 0 ≤ z ∧ z ≤ 255) := fun z hz => HBy.out z (List.mem_of_mem_drop hz)
    have HAl : Hid ((B.drop k).length ≤ 1000000) := (by omega : (B.drop k).length ≤ 1000000)
    have HR := Lib.hid (copen_new sv (B.drop k) wr (HE.out.step (HBd.out ▸ HB.out)) HA.out HAb.out HAl.out)
    clear hA hl2 hA0
    go_wp2_with (first
      | (go_at_call 77; (with_reducible refine HR.out.mono ?_); rintro e w1 ⟨b1, ⟨n1, rfl⟩ | ⟨x, xv, n1, rfl, a1, f1⟩⟩ <;> (have B1 := Lib.hid b1; have N1 := Lib.hid n1; clear b1 n1; try (have HX := Lib.hid a1; have F1 := Lib.hid f1; obtain ⟨ax, cx, rfl⟩ := HX.out.size; have G1 := Lib.hid ((Below.refl w1.heap.size w1).alloc (Nat.le_refl _) (.cells #[.slice ax x.length cx] 22)); have O1 := Lib.hid ((HO.out.below B1.out).below G1.out); have S1 := Lib.hid (show base ≤ (w1.alloc (.cells #[.slice ax x.length cx] 22)).heap.size by have := HS.out; have := B1.out.size; simp; omega); have C1 := Lib.hid (show (w1.alloc (.cells #[.slice ax x.length cx] 22)).cell? ⟨w1.heap.size, 0, none⟩ = some (.slice ax x.length cx) by rw [World.cell?_alloc_mark]; rfl); have L1 := Lib.hid (show L.length ≤ 1000000 by omega); have K1 := Lib.hid (show x ≠ [] → ∀ b, (Value.slice ax x.length cx).ownBlock = some b → (Value.slice g L.length c).ownBlock ≠ some b from fun _ b hb e => by have h5 := F1.out b hb; obtain ⟨vs, h6, _⟩ := HO.out; have := (h6.lt e).2; omega); clear a1 f1)))
      | (at_builtin; refine wp_moreN rfl _ _ rfl base _ L rfl O1.out w1.heap.size _ x rfl C1.out (HX.out.below G1.out) K1.out L1.out S1.out ?_))
    · have hfin : Hid (allL B = (L, k)) := by unfold Hid; rw [HAll.out, allL_none N1.out]; simp
      have BB := Lib.hid (HB.out.trans (B1.out.mono HS.out))
      go_wp2
      go_ret2
      refine ⟨_, by rw [hfin.out]; rfl, ?_, HBd.out ▸ BB.out⟩
      rw [hfin.out]
      exact (HO.out.below B1.out).argLL
    · intro v2 w2 h2 b2 s2
      have hxl := Lib.hid (open_len N1.out)
      obtain ⟨m, hm⟩ : ∃ m : Nat, x.length + 10 = m := ⟨_, rfl⟩
      have HM := Lib.hid hm
      have hstep : Hid (allL B = ((L ++ [x]) ++ (allL (B.drop (k + m))).1, (k + m) + (allL (B.drop (k + m))).2)) := by
        unfold Hid
        have e := allL_some N1.out
        rw [List.drop_drop, hm] at e
        rw [HAll.out, e, List.append_assoc]
        simp only [Prod.mk.injEq]
        exact ⟨rfl, by omega⟩
      have hkm : k + m ≤ B.length := by have := hxl.out; rw [List.length_drop] at this; omega
      have hadd : IntKind.i64.wrap ((k : Int) + ((x.length : Int) + 10)) = ((k + m : Nat) : Int) := by rw [IntKind.wrap_i64]; omega
      have BB := Lib.hid ((HB.out.trans (B1.out.mono HS.out)).alloc (Nat.le_trans HS.out B1.out.size) (.cells #[.slice ax x.length cx] 22))
      have hmp : Hid (0 < m) := (by omega : 0 < m)
      clear hm
      have H2 := Lib.hid h2
      have B2 := Lib.hid (BB.out.trans b2)
      have S2 := Lib.hid s2
      clear h2 b2 s2
      go_wp2
      go_roundw
      case rel => exact ⟨L ++ [x], k + m, rfl, hkm, by have := hmp.out; rw [List.length_append]; simp only [List.length_cons, List.length_nil]; omega, hstep.out, H2.out, B2.out, S2.out⟩
      case measure => simp [intOf]; have := hmp.out; omega

end Go.Proofs.YtejelednnacnaaaGreatDoor

/-
  All contracts of package crc's calls together: con_any, cof_any, csize_any (XCrcO), cframe_any (XCrcF), copen_any (XCrcP), call_any (XCrcQ).
-/
namespace Go.Proofs.YtejelednnacnaaaGreatDoor
open Go.RowKit

theorem crc_contracts : True := trivial

end Go.Proofs.YtejelednnacnaaaGreatDoor
