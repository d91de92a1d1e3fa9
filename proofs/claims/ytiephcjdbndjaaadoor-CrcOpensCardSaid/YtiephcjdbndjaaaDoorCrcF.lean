/-
  The program's calls of package crc, walked: four, number, bytes.Clone, Frame.
-/
import Derived.Test.YtiephcjdbndjaaaDoorCrcO
import Derived.Test.YtiephcjdbndjaaaDoorCat
import Derived.WalkSpells
namespace Go.Proofs.YtiephcjdbndjaaaDoor
open Go.RowKit

set_option maxRecDepth 100000 in
theorem cfour_any (n : Nat) (w : World) (hn : n < 4294967296) : Calls Tryd.prog 19 #[.int .u32 n] w (GivesB (fourL n) w) := by
  obtain ⟨x, hx⟩ : ∃ x, n / 16777216 = x := ⟨_, rfl⟩
  obtain ⟨y, hy⟩ : ∃ y, n / 65536 % 256 = y := ⟨_, rfl⟩
  obtain ⟨z, hz⟩ : ∃ z, n / 256 % 256 = z := ⟨_, rfl⟩
  obtain ⟨u, hu⟩ : ∃ u, n % 256 = u := ⟨_, rfl⟩
  have hx0 : x % 256 = x := by omega
  have e1 : IntKind.u8.wrap ((n : Int) / 16777216) = (x : Int) := by rw [IntKind.wrap_u8]; omega
  have e2 : IntKind.u8.wrap ((n : Int) / 65536) = (y : Int) := by rw [IntKind.wrap_u8]; omega
  have e3 : IntKind.u8.wrap ((n : Int) / 256) = (z : Int) := by rw [IntKind.wrap_u8]; omega
  have e4 : IntKind.u8.wrap (n : Int) = (u : Int) := by rw [IntKind.wrap_u8]; omega
  have hf : Hid (fourL n = [(x : Int), (y : Int), (z : Int), (u : Int)]) := by unfold Hid fourL; rw [hx, hy, hz, hu, hx0]
  have HO := Lib.hid (OwnInts.made w w.heap.size w.heap.size [(x : Int), (y : Int), (z : Int), (u : Int)] rfl (Nat.le_refl _) (by simp))
  have HB := Lib.hid (fun o => (Below.refl w.heap.size w).alloc (Nat.le_refl _) o)
  clear hx hy hz hu hx0
  go_enter Tryd.func19, Tryd.ntmps19
  go_wp2
  go_ret
  rw [hf.out]
  exact ⟨w.heap.size, 4, rfl, HO.out, HB.out _⟩

theorem or_byte32 (a z : Nat) (ha : a < 16777216) (hz : z < 256) : bits .or .u32 (256 * (a : Int)) (z : Int) = ((256 * a + z : Nat) : Int) := by
  rw [show 256 * (a : Int) = ((256 * a : Nat) : Int) by omega, u32_or_nat (256 * a) z (by omega) (by omega)]
  have := Nat.two_pow_add_eq_or_of_lt (i := 8) (b := z) (by omega) a
  simp only [show (2 : Nat) ^ 8 = 256 from rfl] at this
  rw [this]
/-- Bytes as a number, the highest first. -/
def highN (l : List Int) : Nat := l.foldl (fun n z => 256 * n + z.toNat) 0
theorem highN_snoc (l : List Int) (z : Int) : highN (l ++ [z]) = 256 * highN l + z.toNat := by unfold highN; rw [List.foldl_append]; rfl
theorem foldH_lt (l : List Int) (c : Nat) (h : ∀ z ∈ l, 0 ≤ z ∧ z ≤ 255) : l.foldl (fun n z => 256 * n + z.toNat) c < (c + 1) * 256 ^ l.length := by
  induction l generalizing c with
  | nil => simp
  | cons z l ih =>
    have h1 := ih (256 * c + z.toNat) (fun y hy => h y (by simp [hy]))
    have h2 := h z (by simp)
    rw [List.foldl_cons, List.length_cons, Nat.pow_succ]
    refine Nat.lt_of_lt_of_le h1 ?_
    rw [Nat.mul_comm (256 ^ l.length) 256, ← Nat.mul_assoc]
    exact Nat.mul_le_mul_right _ (by omega)
theorem highN_lt {l : List Int} (h : ∀ z ∈ l, 0 ≤ z ∧ z ≤ 255) : highN l < 256 ^ l.length := by
  have := foldH_lt l 0 h
  rw [Nat.zero_add, Nat.one_mul] at this
  exact this
theorem highN_four (a b c d : Int) (ha : 0 ≤ a) (hb : 0 ≤ b) (hc : 0 ≤ c) (hd : 0 ≤ d) : highN [a, b, c, d] = fourN a b c d := by
  unfold highN fourN
  simp only [List.foldl_cons, List.foldl_nil]
  omega

set_option maxRecDepth 100000 in
set_option maxHeartbeats 4000000 in
theorem cnumber_any (v : Value) (l : List Int) (w : World) (hv : ArgB w v l) (hb : ∀ z ∈ l, 0 ≤ z ∧ z ≤ 255) (hl : l.length ≤ 4) :
    Calls Tryd.prog 20 #[v] w fun e w' => e = .returned (.int .u32 (highN l)) ∧ w' = w := by
  obtain ⟨a, cap, rfl, hcap, hcell⟩ := hv.bytesIs
  have HC := Lib.hid hcell
  have HB := Lib.hid hb
  clear hcell hb hv
  go_enter Tryd.func20, Tryd.ntmps20
  go_wp2
  go_loop [3, 8] (fun v3 v8 => ∃ (i c : Nat), i ≤ l.length ∧ v8 = .int .i64 (i : Int) ∧ v3 = .int .u32 (c : Int) ∧ highN (l.take i) = c) (fun _ v8 => l.length - (intOf v8).toNat)
  case atStart => exact ⟨0, 0, Nat.zero_le _, rfl, rfl, rfl⟩
  case round =>
    obtain ⟨i, c, hi, rfl, rfl, hr⟩ := hrel
    have HR := Lib.hid hr
    by_cases h1 : i < l.length
    · obtain ⟨b, off, ha, hx⟩ := HC.out i h1
      subst ha
      have hz := HB.out (l.getD i 0) (by rw [List.getD_eq_getElem?_getD, List.getElem?_eq_getElem h1]; exact List.getElem_mem h1)
      obtain ⟨x, hxx⟩ : ∃ x : Nat, l.getD i 0 = (x : Int) := ⟨(l.getD i 0).toNat, by omega⟩
      rw [hxx] at hx hz
      have HX := Lib.hid hxx
      have hc : c < 16777216 := by
        have h2 := highN_lt (l := l.take i) (fun z hz => HB.out z (List.mem_of_mem_take hz))
        rw [hr, List.length_take, Nat.min_eq_left hi] at h2
        exact Nat.lt_of_lt_of_le h2 (Nat.pow_le_pow_right (n := 256) (by decide) (by omega : i ≤ 3))
      have hx256 : x ≤ 255 := by omega
      clear hr hxx hz
      have hwx : IntKind.u32.wrap (x : Int) = (x : Int) := by rw [IntKind.wrap_u32]; omega
      have hwc : IntKind.u32.wrap ((c : Int) * 256) = 256 * (c : Int) := by rw [IntKind.wrap_u32]; omega
      have hwc2 : IntKind.u32.wrap (256 * (c : Int)) = 256 * (c : Int) := by rw [IntKind.wrap_u32]; omega
      obtain ⟨g, hg⟩ : ∃ g, 256 * c + x = g := ⟨_, rfl⟩
      have hor : bits .or .u32 (256 * (c : Int)) (x : Int) = (g : Int) := by rw [or_byte32 c x hc (by omega), hg]
      have hnx : Hid (highN (l.take (i + 1)) = g) := by
        unfold Hid
        rw [take_snocI h1, highN_snoc, HR.out, HX.out, Int.toNat_natCast, hg]
      clear hg
      go_wp2
      go_round
      case rel => exact ⟨i + 1, g, by omega, by go_num, rfl, hnx.out⟩
      case measure => simp [intOf]; omega
    · obtain rfl : i = l.length := by omega
      have hfin : Hid (highN l = c) := by
        have := HR.out
        rw [List.take_length] at this
        exact this
      go_wp2
      go_ret
      exact ⟨by rw [hfin.out]; rfl, rfl⟩

set_option maxRecDepth 100000 in
set_option maxHeartbeats 4000000 in
theorem clone_any (v : Value) (l : List Int) (w : World) (hv : ArgB w v l) (hl : l.length ≤ 1000000) :
    Calls Tryd.prog 21 #[v] w fun e w' => ∃ u, e = .returned u ∧ ArgB w' u l ∧ (∀ b, u.ownBlock = some b → w.heap.size ≤ b) ∧ Below w.heap.size w w' := by
  rcases hv with ⟨rfl, rfl⟩ | ⟨x, cap, rfl, hc, hcell⟩
  · have hnil := fun W => Lib.run_eql_slice_nil (P := Tryd.prog) W 22 5 none 0 0 0 0 Tryd.underlying22
    go_enter Tryd.func21, Tryd.ntmps21
    go_wp2
    go_ret
    exact ⟨_, rfl, Or.inl ⟨rfl, rfl⟩, (fun b hb => by cases hb), Below.refl _ _⟩
  · have HV : Hid (ArgB w (.slice (some x) l.length cap) l) := Or.inr ⟨x, cap, rfl, hc, hcell⟩
    have HN := Lib.hid (OwnInts.fresh 5 .u8 w w.heap.size w.heap.size rfl (Nat.le_refl _))
    have HB := Lib.hid (fun o => (Below.refl w.heap.size w).alloc (Nat.le_refl _) o)
    have HS := Lib.hid (fun o => show w.heap.size ≤ (w.alloc o).heap.size by simp)
    have hnil := fun W => Lib.run_eql_slice_nil (P := Tryd.prog) W 22 5 (some x) l.length cap 0 0 Tryd.underlying22
    clear hcell hc
    go_enter Tryd.func21, Tryd.ntmps21
    go_wp2_with (at_builtin; refine wp_join rfl _ _ rfl w.heap.size _ [] rfl HN.out _ l rfl (HV.out.below (HB.out _)) (by simp only [List.length_nil]; omega) (HS.out _) ?_)
    intro v2 w2 h2 b2 _ s2
    have H2 := Lib.hid h2
    have B2 := Lib.hid ((HB.out (.cells #[] 5)).trans b2)
    clear h2 b2
    go_wp2
    go_ret
    exact ⟨_, rfl, H2.out.argB, fun b hb => (H2.out.1.lt b hb).1, B2.out⟩

theorem OwnInts.elder {t : TypeId} {k : IntKind} {w : World} {b1 b2 : Nat} {v : Value} {l : List Int} (h : OwnInts t k w b1 v l) (hb : b2 ≤ b1) : OwnInts t k w b2 v l := by
  obtain ⟨⟨h1, h2⟩, hn⟩ := h
  refine ⟨⟨h1, ?_⟩, hn⟩
  rcases h2 with hx | ⟨g, cap, cur, rfl, hbg, rest⟩
  · exact Or.inl hx
  · exact Or.inr ⟨g, cap, cur, rfl, Nat.le_trans hb hbg, rest⟩
theorem ArgLL.five {w : World} {v1 v2 v3 v4 v5 : Value} {l1 l2 l3 l4 l5 : List Int} (h1 : ArgB w v1 l1) (h2 : ArgB w v2 l2) (h3 : ArgB w v3 l3) (h4 : ArgB w v4 l4) (h5 : ArgB w v5 l5) (t : TypeId) (g : Nat) (hg : g = w.heap.size) : ArgLL (w.alloc (.cells #[v1, v2, v3, v4, v5] t)) (.slice (some ⟨g, 0, none⟩) 5 5) [l1, l2, l3, l4, l5] := by
  subst hg
  have hb : Below w.heap.size w (w.alloc (.cells #[v1, v2, v3, v4, v5] t)) := (Below.refl _ _).alloc (Nat.le_refl _) _
  refine Or.inr ⟨⟨w.heap.size, 0, none⟩, 5, fun i => (#[v1, v2, v3, v4, v5] : Array Value).getD i undef, rfl, Nat.le_refl _, fun i hi => ?_⟩
  match i, hi with
  | 0, _ => exact ⟨by simp [Addr.add], h1.below hb⟩
  | 1, _ => exact ⟨by simp [Addr.add], h2.below hb⟩
  | 2, _ => exact ⟨by simp [Addr.add], h3.below hb⟩
  | 3, _ => exact ⟨by simp [Addr.add], h4.below hb⟩
  | 4, _ => exact ⟨by simp [Addr.add], h5.below hb⟩
theorem concat_frame (v2 v3 v4 : Value) (l : List Int) (w : World) (g1 g5 g : Nat) (t : TypeId) (hg : g = w.heap.size) (h1 : ArgB w (.slice (some ⟨g1, 0, none⟩) 1 1) [245]) (h2 : ArgB w v2 (fourL l.length)) (h3 : ArgB w v3 (fourL (sumL l))) (h4 : ArgB w v4 l) (h5 : ArgB w (.slice (some ⟨g5, 0, none⟩) 1 1) [95]) (hl : l.length ≤ 1000000) :
    Calls Tryd.prog 18 #[.slice (some ⟨g, 0, none⟩) 5 5] (w.alloc (.cells #[.slice (some ⟨g1, 0, none⟩) 1 1, v2, v3, v4, .slice (some ⟨g5, 0, none⟩) 1 1] t)) fun e w' => ∃ x, e = .returned x ∧ OwnInts 5 .u8 w' w.heap.size x (frameL l) ∧ Below w.heap.size w w' := by
  have hf : [[245], fourL l.length, fourL (sumL l), l, [95]].flatten = frameL l := by unfold frameL; simp
  have hL := frameL_len l
  refine (concat_any _ _ _ (ArgLL.five h1 h2 h3 h4 h5 t g hg) (by rw [hf]; omega) (by rw [hf]; omega) (by simp)).mono ?_
  rintro e w' ⟨x, rfl, hO, hB⟩
  rw [hf] at hO
  exact ⟨x, rfl, OwnInts.elder hO (by simp), below_step ((Below.refl _ _).alloc (Nat.le_refl _) _) hB⟩

/-- A slice of bytes that a call hands back. -/
def GivesF (l : List Int) (w : World) (e : Ending) (w' : World) : Prop := ∃ v, e = .returned v ∧ ArgB w' v l ∧ Below w.heap.size w w'
set_option maxRecDepth 100000 in
set_option maxHeartbeats 4000000 in
theorem cframe_any (v : Value) (l : List Int) (w : World) (env : Env w) (hv : ArgB w v l) (hb : ∀ z ∈ l, 0 ≤ z ∧ z ≤ 255) (hl : l.length ≤ 1000000) :
    Calls Tryd.prog 10 #[v] w (GivesF (frameL l) w) := by
  obtain ⟨a, cap, rfl⟩ := hv.size
  have HV := Lib.hid hv
  have HBy := Lib.hid hb
  have HE := Lib.hid env
  have hw : IntKind.u32.wrap (l.length : Int) = (l.length : Int) := by rw [IntKind.wrap_u32]; omega
  have hsl := sumL_lt l
  clear hv hb env
  obtain ⟨B, hB⟩ : ∃ B, w.heap.size = B := ⟨_, rfl⟩
  have HBd := Lib.hid hB
  have hO1 := Lib.hid (OwnInts.one 5 .u8 w B 245 B hB.symm (Nat.le_refl _))
  have hB1 : Hid (Below B w (w.alloc (.cells #[.int .u8 245] 5))) := (Below.refl B w).alloc (by omega) _
  have S1 : Hid (B ≤ (w.alloc (.cells #[.int .u8 245] 5)).heap.size) := (by simp; omega : B ≤ (w.alloc (.cells #[.int .u8 245] 5)).heap.size)
  have HC2 := Lib.hid (cfour_any l.length (w.alloc (.cells #[.int .u8 245] 5)) (by omega))
  have HC3 := Lib.hid (fun w2 b2 => cof_any (.slice a l.length cap) l w2 (HE.out.step b2) (HV.out.below b2) HBy.out hl)
  have HC4 := Lib.hid (fun w3 => cfour_any (sumL l) w3 hsl)
  go_enter Tryd.func10, Tryd.ntmps10
  go_wp2_with (first
    | (go_at_call 7; (with_reducible refine (HC3.out _ (HBd.out ▸ B2.out)).mono ?_); rintro e w3 ⟨rfl, b3⟩; have A3 := Lib.hid (A2.out.below b3); have H3 := Lib.hid (H2.out.argB.below b3); have B3 := Lib.hid (B2.out.trans (b3.mono S2.out)); have S3 := Lib.hid (Nat.le_trans S2.out b3.size); clear b3)
    | (go_at_call 19; first
      | ((with_reducible refine HC2.out.mono ?_); rintro e w2 ⟨g2, cap2, rfl, h2, b2⟩; have H2 := Lib.hid h2; have A2 := Lib.hid (hO1.out.argB.below b2); have B2 := Lib.hid (hB1.out.trans (b2.mono S1.out)); have S2 := Lib.hid (Nat.le_trans S1.out b2.size); clear h2 b2)
      | ((with_reducible refine (HC4.out _).mono ?_); rintro e w4 ⟨g4, cap4, rfl, h4, b4⟩; have H4 := Lib.hid h4.argB; have A4 := Lib.hid (A3.out.below b4); have C4 := Lib.hid (H3.out.below b4); have B4 := Lib.hid (B3.out.trans (b4.mono S3.out)); have S4 := Lib.hid (Nat.le_trans S3.out b4.size); have V4 := Lib.hid (HV.out.below (HBd.out ▸ B4.out)); have L4 := Lib.hid ((Below.refl w4.heap.size w4).alloc (Nat.le_refl _) (.cells #[.int .u8 95] 5)); have N4 := Lib.hid (OwnInts.one 5 .u8 w4 B 95 w4.heap.size rfl S4.out).argB; have T4 := Lib.hid (B4.out.alloc S4.out (.cells #[.int .u8 95] 5)); clear h4 b4))
    | (go_at_call 18; (with_reducible refine (concat_frame _ _ _ l _ _ _ _ _ (by simp) (A4.out.below L4.out) (C4.out.below L4.out) (H4.out.below L4.out) (V4.out.below L4.out) N4.out hl).mono ?_); rintro e w5 ⟨u, rfl, h5, b5⟩; have H5 := Lib.hid h5; have B5 := Lib.hid b5; clear h5 b5))
  go_ret
  exact ⟨_, rfl, H5.out.argB, HBd.out ▸ T4.out.trans (B5.out.mono (by have := S4.out; simp; omega))⟩

end Go.Proofs.YtiephcjdbndjaaaDoor
