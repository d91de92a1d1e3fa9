/-
  The document's own answers of layer 8, walked: four, Frame.
-/
import Derived.Test.YtiephcjdbndjaaaDoorCrcR
import Derived.Test.YtiephcjdbndjaaaDoorJoin
namespace Go.Proofs.YtiephcjdbndjaaaDoor
open Go.RowKit

theorem rcof_arg (v : Value) (l : List Int) (w : World) (hv : ArgB w v l) (hb : ∀ z ∈ l, 0 ≤ z ∧ z ≤ 255) (hl : l.length ≤ 1000000) :
    Calls Tryd.prog 8 #[v] w fun e w' => e = .returned (.int .u32 (sumL l)) ∧ w = w' := rcof_any v l w hv.bytesIs hb hl

set_option maxRecDepth 100000 in
theorem rcfour_any (n : Nat) (w : World) (hn : n < 4294967296) : Calls Tryd.prog 22 #[.int .u32 n] w (GivesB (fourL n) w) := by
  obtain ⟨x, hx⟩ : ∃ x, n / 16777216 = x := ⟨_, rfl⟩
  obtain ⟨y, hy⟩ : ∃ y, n / 65536 % 256 = y := ⟨_, rfl⟩
  obtain ⟨z, hz⟩ : ∃ z, n / 256 % 256 = z := ⟨_, rfl⟩
  obtain ⟨u, hu⟩ : ∃ u, n % 256 = u := ⟨_, rfl⟩
  have hx0 : x % 256 = x := by omega
  have e1 : IntKind.u8.wrap ((n : Int) / 16777216) = (x : Int) := by rw [IntKind.wrap_u8]; omega
  have e2 : IntKind.u8.wrap ((n : Int) / 65536 % 256) = (y : Int) := by rw [IntKind.wrap_u8]; omega
  have e3 : IntKind.u8.wrap ((n : Int) / 256 % 256) = (z : Int) := by rw [IntKind.wrap_u8]; omega
  have e4 : IntKind.u8.wrap ((n : Int) % 256) = (u : Int) := by rw [IntKind.wrap_u8]; omega
  have hf : Hid (fourL n = [(x : Int), (y : Int), (z : Int), (u : Int)]) := by unfold Hid fourL; rw [hx, hy, hz, hu, hx0]
  have HO := Lib.hid (OwnInts.made w w.heap.size w.heap.size [(x : Int), (y : Int), (z : Int), (u : Int)] rfl (Nat.le_refl _) (by simp))
  have HB := Lib.hid (fun o => (Below.refl w.heap.size w).alloc (Nat.le_refl _) o)
  clear hx hy hz hu hx0
  go_enter Tryd.func22, Tryd.ntmps22
  go_wp2
  go_ret
  rw [hf.out]
  exact ⟨w.heap.size, 4, rfl, HO.out, HB.out _⟩

set_option maxRecDepth 100000 in
set_option maxHeartbeats 4000000 in
theorem rcframe_any (v : Value) (l : List Int) (w : World) (hv : ArgB w v l) (hb : ∀ z ∈ l, 0 ≤ z ∧ z ≤ 255) (hl : l.length ≤ 1000000) :
    Calls Tryd.prog 12 #[v] w (GivesB (frameL l) w) := by
  obtain ⟨a, cap, rfl⟩ := hv.size
  have HV := Lib.hid hv
  have HBy := Lib.hid hb
  have hw : IntKind.u32.wrap (l.length : Int) = (l.length : Int) := by rw [IntKind.wrap_u32]; omega
  clear hv hb
  obtain ⟨B, hB⟩ : ∃ B, w.heap.size = B := ⟨_, rfl⟩
  have HBd := Lib.hid hB
  have hO1 := Lib.hid (OwnInts.one 5 .u8 w B 245 w.heap.size rfl (by omega))
  have hB1 : Hid (Below B w (w.alloc (.cells #[.int .u8 245] 5))) := (Below.refl B w).alloc (by omega) _
  have S1 : Hid (B ≤ (w.alloc (.cells #[.int .u8 245] 5)).heap.size) := (by simp; omega : B ≤ (w.alloc (.cells #[.int .u8 245] 5)).heap.size)
  clear hB
  go_enter Tryd.func12, Tryd.ntmps12
  go_wp2_with (first
    | (go_at_call 22; (with_reducible refine (rcfour_any l.length _ (by omega)).mono ?_); rintro e w2 ⟨g2, cap2, rfl, h2, b2⟩; have H2 := Lib.hid h2; have HO2 := Lib.hid (hO1.out.below b2); have B2 := Lib.hid (hB1.out.trans (b2.mono S1.out)); have S2 := Lib.hid (Nat.le_trans S1.out b2.size); clear h2 b2)
    | (at_builtin; refine wp_join rfl _ _ rfl B _ [245] rfl HO2.out _ (fourL l.length) rfl H2.out.argB (by simp only [fourL_len, List.length_cons, List.length_nil]; omega) S2.out ?_))
  intro v3 w3 h3 b3 _ s3
  obtain ⟨x3, hx3⟩ : ∃ x, 245 :: fourL l.length = x := ⟨_, rfl⟩
  have L3 : Hid (x3.length = 5) := by rw [← hx3]; rfl
  rw [hx3] at h3
  have X3 := Lib.hid hx3
  clear hx3
  have H3 := Lib.hid h3
  have B3 := Lib.hid (B2.out.trans b3)
  have S3 := Lib.hid s3
  obtain ⟨g3, cap3, rfl⟩ := h3.form
  clear h3 b3 s3 H2 HO2 B2 S2 hO1 hB1 S1
  have HV3 := Lib.hid (HV.out.below (HBd.out ▸ B3.out))
  have hsl := sumL_lt l
  go_wp2_with (first
    | (go_at_call 8; (with_reducible refine (rcof_arg _ l _ HV3.out HBy.out hl).mono ?_); rintro e w4 ⟨rfl, rfl⟩)
    | (go_at_call 22; (with_reducible refine (rcfour_any (sumL l) _ hsl).mono ?_); rintro e w4 ⟨g4, cap4, rfl, h4, b4⟩; have H4 := Lib.hid h4; have HO4 := Lib.hid (H3.out.below b4); have B4 := Lib.hid (B3.out.trans (b4.mono S3.out)); have S4 := Lib.hid (Nat.le_trans S3.out b4.size); clear h4 b4)
    | (at_builtin; refine wp_join rfl _ _ rfl B _ x3 rfl HO4.out _ (fourL (sumL l)) rfl H4.out.argB (by have := L3.out; simp only [fourL_len]; omega) S4.out ?_))
  intro v5 w5 h5 b5 _ s5
  obtain ⟨x5, hx5⟩ : ∃ x, x3 ++ fourL (sumL l) = x := ⟨_, rfl⟩
  have L5 : Hid (x5.length = 9) := by unfold Hid; rw [← hx5, List.length_append, L3.out, fourL_len]
  rw [hx5] at h5
  have X5 := Lib.hid hx5
  clear hx5
  have H5 := Lib.hid h5
  have B5 := Lib.hid (B4.out.trans b5)
  have S5 := Lib.hid s5
  obtain ⟨g5, cap5, rfl⟩ := h5.form
  clear h5 b5 s5 H4 HO4 B4 S4 H3 B3 S3 HV3
  have HV5 := Lib.hid (HV.out.below (HBd.out ▸ B5.out))
  go_wp2_with (at_builtin; refine wp_join rfl _ _ rfl B _ x5 rfl H5.out _ l rfl HV5.out (by have := L5.out; omega) S5.out ?_)
  intro v6 w6 h6 b6 _ s6
  obtain ⟨x6, hx6⟩ : ∃ x, x5 ++ l = x := ⟨_, rfl⟩
  have L6 : Hid (x6.length = 9 + l.length) := by unfold Hid; rw [← hx6, List.length_append, L5.out]
  rw [hx6] at h6
  have X6 := Lib.hid hx6
  clear hx6
  have H6 := Lib.hid h6
  have B6 := Lib.hid (B5.out.trans b6)
  have S6 := Lib.hid s6
  obtain ⟨g6, cap6, rfl⟩ := h6.form
  clear h6 b6 s6 H5 B5 S5 HV5
  have H7 := Lib.hid (H6.out.alloc (.cells #[.int .u8 95] 5))
  have N7 := Lib.hid (OwnInts.one 5 .u8 w6 B 95 w6.heap.size rfl S6.out)
  have B7 : Hid (Below B w (w6.alloc (.cells #[.int .u8 95] 5))) := B6.out.alloc S6.out _
  have S7 : Hid (B ≤ (w6.alloc (.cells #[.int .u8 95] 5)).heap.size) := (by have := S6.out; simp; omega : B ≤ (w6.alloc (.cells #[.int .u8 95] 5)).heap.size)
  go_wp2_with (at_builtin; refine wp_join rfl _ _ rfl B _ x6 rfl H7.out _ [95] rfl N7.out.argB (by have := L6.out; simp only [List.length_cons, List.length_nil]; omega) S7.out ?_)
  intro v8 w8 h8 b8 _ s8
  have B8 := Lib.hid (B7.out.trans b8)
  obtain ⟨x8, hx8⟩ : ∃ x, x6 ++ [95] = x := ⟨_, rfl⟩
  have e : Hid (x8 = frameL l) := by unfold Hid frameL; rw [← hx8, ← X6.out, ← X5.out, ← X3.out]; simp
  rw [hx8] at h8
  have H8 := Lib.hid h8
  obtain ⟨g8, cap8, rfl⟩ := h8.form
  clear h8 b8 s8 hx8 H7 N7 B7 S7 H6 B6 S6
  go_wp2
  go_ret
  rw [← e.out]
  exact ⟨g8, cap8, rfl, HBd.out ▸ H8.out, HBd.out ▸ B8.out⟩

end Go.Proofs.YtiephcjdbndjaaaDoor
