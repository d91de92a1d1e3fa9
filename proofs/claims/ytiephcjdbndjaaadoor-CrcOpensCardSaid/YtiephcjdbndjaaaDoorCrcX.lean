/-
  The laws of layer 8, walked over the contracts: CrcOpens.
-/
import Derived.Test.YtiephcjdbndjaaaDoorCrcK
import Derived.Test.YtiephcjdbndjaaaDoorMix
namespace Go.Proofs.YtiephcjdbndjaaaDoor
open Go.RowKit

/-- What each operation of the drawn statement has made. -/
def TO (vF vl vx : Value) (sF sl : ByteArray) (n10 nF nl : Int) (F : List Int) : Nat → Value → World → Prop
  | 0, v, _ => v = vF
  | 1, v, _ => v = .string sF
  | 2, v, _ => v = vl
  | 3, v, w => ∃ g c, v = .slice (some ⟨g, 0, none⟩) F.length c ∧ ArgB w v F
  | 4, v, _ => v = .string sF
  | 5, v, _ => v = .bool false
  | 6, v, _ => v = .bool false
  | 7, v, _ => v = vx
  | 8, v, _ => v = .string sl
  | 9, v, _ => v = vl
  | 10, v, _ => v = .string sl
  | 11, v, _ => v = .bool false
  | 12, v, _ => v = .bool false
  | 13, v, _ => v = .bool false
  | 14, v, _ => v = .int .i64 n10
  | 15, v, _ => v = vF
  | 16, v, _ => v = .int .i64 nF
  | 17, v, _ => v = .bool false
  | 18, v, _ => v = .bool false
  | 19, v, _ => v = .bool false
  | 20, v, _ => v = .int .i64 0
  | 21, v, _ => v = .bool false
  | 22, v, _ => v = .bool false
  | 23, v, _ => v = .bool false
  | 24, v, _ => v = vl
  | 25, v, _ => v = .int .i64 nl
  | 26, v, _ => v = .int .i64 n10
  | 27, v, _ => v = vF
  | 28, v, _ => v = .int .i64 nF
  | 29, v, _ => v = .bool false
  | 30, v, _ => v = .bool false
  | _, _, _ => True
theorem TO.keep {vF vl vx : Value} {sF sl : ByteArray} {n10 nF nl : Int} {F : List Int} (i : Nat) (v : Value) (w w' : World) (h : TO vF vl vx sF sl n10 nF nl F i v w) (hb : Below w.heap.size w w') : TO vF vl vx sF sl n10 nF nl F i v w' := by
  match i, h with
  | 0, h => exact h
  | 1, h => exact h
  | 2, h => exact h
  | 3, h => obtain ⟨g, c, e, ha⟩ := h; exact ⟨g, c, e, ha.below hb⟩
  | 4, h => exact h
  | 5, h => exact h
  | 6, h => exact h
  | 7, h => exact h
  | 8, h => exact h
  | 9, h => exact h
  | 10, h => exact h
  | 11, h => exact h
  | 12, h => exact h
  | 13, h => exact h
  | 14, h => exact h
  | 15, h => exact h
  | 16, h => exact h
  | 17, h => exact h
  | 18, h => exact h
  | 19, h => exact h
  | 20, h => exact h
  | 21, h => exact h
  | 22, h => exact h
  | 23, h => exact h
  | 24, h => exact h
  | 25, h => exact h
  | 26, h => exact h
  | 27, h => exact h
  | 28, h => exact h
  | 29, h => exact h
  | 30, h => exact h
  | n + 31, _ => exact trivial

set_option maxRecDepth 100000 in
set_option maxHeartbeats 16000000 in
theorem crcopens_walk (v v2 : Value) (n : Int) (l t : List Int) (w : World) (env : Env w) (hv : ArgB w v l) (hb : ∀ z ∈ l, 0 ≤ z ∧ z ≤ 255) (hv2 : ArgB w v2 t) (hb2 : ∀ z ∈ t, 0 ≤ z ∧ z ≤ 255) (n0 : -9223372036854775808 ≤ n) (n1 : n ≤ 9223372036854775807) :
    Calls Tryd.prog 4 #[v, v2, .int .i64 n] w fun e w' => e = .returned (.bool true) ∧ Below w.heap.size w w' := by
  have HW := Lib.hid (crc_awake w env)
  obtain ⟨a, cap, rfl⟩ := hv.size
  obtain ⟨a2, cap2, rfl⟩ := hv2.size
  by_cases h2 : 2000 < l.length
  · have hgt : (2000 : Int) < (l.length : Int) := by omega
    clear hv hb hv2 hb2 env h2
    go_enter Tryd.func4, Tryd.ntmps4
    go_wp2_with (go_at_call 6; (with_reducible refine HW.out.mono ?_); rintro e w1 ⟨rfl, g⟩; have G := Lib.hid g; clear g)
    go_ret
    exact ⟨rfl, G.out⟩
  have hgt : ¬ (2000 : Int) < (l.length : Int) := by omega
  by_cases h3 : 2000 < t.length
  · have hgt2 : (2000 : Int) < (t.length : Int) := by omega
    clear hv hb hv2 hb2 env h2 h3
    go_enter Tryd.func4, Tryd.ntmps4
    go_wp2_with (go_at_call 6; (with_reducible refine HW.out.mono ?_); rintro e w1 ⟨rfl, g⟩; have G := Lib.hid g; clear g)
    go_ret
    exact ⟨rfl, G.out⟩
  have hgt2 : ¬ (2000 : Int) < (t.length : Int) := by omega
  have HV := Lib.hid hv
  have HV2 := Lib.hid hv2
  have HE := Lib.hid env
  have HBy := Lib.hid hb
  have HBy2 := Lib.hid hb2
  have Ll : Hid (l.length ≤ 2000) := (by omega : l.length ≤ 2000)
  have Lt : Hid (t.length ≤ 2000) := (by omega : t.length ≤ 2000)
  clear hv hb hv2 hb2 env h2 h3
  obtain ⟨F, hF⟩ : ∃ F, frameL l = F := ⟨_, rfl⟩
  have HF := Lib.hid hF
  have LF : Hid (F.length = l.length + 10) := by unfold Hid; rw [← hF, frameL_len]
  have FB : Hid (∀ z ∈ F, 0 ≤ z ∧ z ≤ 255) := by rw [← hF]; exact frameL_byte HBy.out
  have HO : Hid (openL (F ++ t) = some l) := by rw [← hF]; exact open_frame (by have := Ll.out; omega) t
  have FTB : Hid (∀ z ∈ F ++ t, 0 ≤ z ∧ z ≤ 255) := fun z hz => (List.mem_append.mp hz).elim (FB.out z) (HBy2.out z)
  have FTL : Hid ((F ++ t).length ≤ 1000000) := by unfold Hid; rw [List.length_append]; have := LF.out; have := Ll.out; have := Lt.out; omega
  obtain ⟨FT, hFT⟩ : ∃ x, F ++ t = x := ⟨_, rfl⟩
  rw [hFT] at HO FTB FTL
  have HFT := Lib.hid hFT
  clear hFT
  have CFr := Lib.hid (fun W (g : Below w.heap.size w W) => cframe_any (.slice a l.length cap) l W (HE.out.step g) (HV.out.below g) HBy.out (by have := Ll.out; omega))
  rw [hF] at CFr
  clear hF
  obtain ⟨B0, hB0⟩ : ∃ b, w.heap.size = b := ⟨_, rfl⟩
  have HB0 := Lib.hid hB0
  clear hB0
  go_enter Tryd.func4, Tryd.ntmps4
  go_wp2_with (first
    | (go_at_call 6; (with_reducible refine HW.out.mono ?_); rintro e w1 ⟨rfl, g⟩; have G := Lib.hid g; clear g)
    | (go_at_call 10; (with_reducible refine (CFr.out _ G.out).mono ?_); rintro e w2 ⟨vf, rfl, hA2, g2⟩; have A2 := Lib.hid hA2; obtain ⟨af, cf, rfl⟩ := hA2.size; have G2 := Lib.hid (below_step G.out g2); have O2 := Lib.hid (OwnInts.fresh 5 .u8 w2 w2.heap.size w2.heap.size rfl (Nat.le_refl _)); have D3 := Lib.hid ((Below.refl w2.heap.size w2).alloc (Nat.le_refl _) (.cells #[] 5)); have A3 := Lib.hid (A2.out.below D3.out); have S3 := Lib.hid D3.out.size; clear hA2 g2)
    | (at_builtin; refine wp_join rfl _ _ rfl w2.heap.size _ [] rfl O2.out _ F rfl A3.out (by have := LF.out; have := Ll.out; simp only [List.length_nil]; omega) S3.out ?_; intro v4 w4 h4 b4 _ s4; have D4 := Lib.hid (D3.out.trans b4); have H4 := Lib.hid (show OwnInts 5 .u8 w4 w2.heap.size v4 F from h4); obtain ⟨g4, c4, rfl⟩ := H4.out.form; have T4 := Lib.hid (HV2.out.below (below_step G2.out D4.out)); have S4 := Lib.hid s4; clear h4 b4 s4)
    | (at_builtin; refine wp_join rfl _ _ rfl w2.heap.size _ F rfl H4.out _ t rfl T4.out (by have := LF.out; have := Ll.out; have := Lt.out; omega) S4.out ?_; intro v5 w5 h5 b5 _ s5; have D5 := Lib.hid (D4.out.trans b5); rw [HFT.out] at h5; have H5 := Lib.hid h5; obtain ⟨g5, c5, rfl⟩ := h5.form; have A5 := Lib.hid H5.out.argB; have E5 := Lib.hid (HE.out.step (below_step G2.out D5.out)); clear h5 b5 s5)
    | (go_at_call 11; (with_reducible refine (copen_some E5.out A5.out FTB.out FTL.out HO.out).mono ?_); rintro e w6 ⟨⟨ax, cx, rfl, hx⟩, g6⟩; have X6 := Lib.hid hx; have D6 := Lib.hid (below_step D5.out g6); clear hx g6))
  obtain ⟨sF, hsF⟩ : ∃ s, strOfNums F = s := ⟨_, rfl⟩
  obtain ⟨sl, hsl⟩ : ∃ s, strOfNums l = s := ⟨_, rfl⟩
  have HSF := Lib.hid hsF
  have HSL := Lib.hid hsl
  clear hsF hsl
  have W26 := Lib.hid D6.out
  have AF6 := Lib.hid (A2.out.below D6.out)
  have G6 := Lib.hid (below_step G2.out D6.out)
  have AB6 := Lib.hid (HV.out.below G6.out)
  have AT6 := Lib.hid (HV2.out.below G6.out)
  have E6 := Lib.hid (HE.out.step G6.out)
  have CV : Hid (∀ W, Below w6.heap.size w6 W → (convert 22 9 (.slice af F.length cf)).run Tryd.prog W = .ok (.string sF) W ∧ (convert 22 9 (.slice ax l.length cx)).run Tryd.prog W = .ok (.string sl) W ∧ (convert 22 9 (.slice a l.length cap)).run Tryd.prog W = .ok (.string sl) W) := fun W g =>
    ⟨by rw [← HSF.out]; exact conv_arg (AF6.out.below g) FB.out, by rw [← HSL.out]; exact conv_arg (X6.out.below g) HBy.out, by rw [← HSL.out]; exact conv_arg (AB6.out.below g) HBy.out⟩
  have hk : ((l.length : Int) + 10 != (F.length : Int)) = false := by have := LF.out; simp; omega
  have CSz := Lib.hid (fun W (g : Below w6.heap.size w6 W) => csize_len W (E6.out.step g) Ll.out)
  have RFr := Lib.hid (fun W (g : Below w6.heap.size w6 W) => rcframe_any (.slice a l.length cap) l W (AB6.out.below g) HBy.out (by have := Ll.out; omega))
  rw [HF.out] at RFr
  clear A2 O2 D3 A3 S3 D4 H4 T4 S4 D5 H5 A5 E5 D6 G
  refine wp_region_mix 31 (TO (.slice af F.length cf) (.slice a l.length cap) (.slice ax l.length cx) sF sl ((l.length : Int) + 10) (F.length : Int) (l.length : Int) F) (fun _ => false) (by kernel_rfl) (by kernel_rfl) TO.keep (fun _ _ _ h => by cases h) ?_ ?_
  · simp only [List.take_succ_cons, List.take_zero]
    refine (StepsAll.cons ?_ (StepsAll.cons ?_ (StepsAll.cons ?_ (StepsAll.cons ?_ (StepsAll.cons ?_ (StepsAll.cons ?_ (StepsAll.cons ?_ (StepsAll.cons ?_ (StepsAll.cons ?_ (StepsAll.cons ?_ (StepsAll.cons ?_ (StepsAll.cons ?_ (StepsAll.cons ?_ (StepsAll.cons ?_ (StepsAll.cons ?_ (StepsAll.cons ?_ (StepsAll.cons ?_ (StepsAll.cons ?_ (StepsAll.cons ?_ (StepsAll.cons ?_ (StepsAll.cons ?_ (StepsAll.cons ?_ (StepsAll.cons ?_ (StepsAll.cons ?_ (StepsAll.cons ?_ (StepsAll.cons ?_ (StepsAll.cons ?_ (StepsAll.cons ?_ (StepsAll.cons ?_ (StepsAll.cons ?_ (StepsAll.cons ?_ StepsAll.nil)))))))))))))))))))))))))))))))
    · intro u W hb hd
      simp only [putAll, Act.put, List.setIfInBounds_toArray, List.set_cons_succ, List.set_cons_zero, Nat.zero_add, Nat.reduceAdd]
      go_wp2
      first | exact ⟨rfl, Below.refl _ _⟩ | exact ⟨_, rfl, rfl, Below.refl _ _⟩ | exact ⟨_, rfl, rfl, Below.refl _ _, fun h => by simp at h⟩
    · intro u W hb hd
      have e0 : u 0 = (.slice af F.length cf) := hd.1 rfl (by decide)
      have k1 := (CV.out W hb).1
      simp only [putAll, Act.put, List.setIfInBounds_toArray, List.set_cons_succ, List.set_cons_zero, Nat.zero_add, Nat.reduceAdd]
      rw [e0]
      go_wp2
      first | exact ⟨rfl, Below.refl _ _⟩ | exact ⟨_, rfl, rfl, Below.refl _ _⟩ | exact ⟨_, rfl, rfl, Below.refl _ _, fun h => by simp at h⟩
    · intro u W hb hd
      simp only [putAll, Act.put, List.setIfInBounds_toArray, List.set_cons_succ, List.set_cons_zero, Nat.zero_add, Nat.reduceAdd]
      go_wp2
      first | exact ⟨rfl, Below.refl _ _⟩ | exact ⟨_, rfl, rfl, Below.refl _ _⟩ | exact ⟨_, rfl, rfl, Below.refl _ _, fun h => by simp at h⟩
    · intro u W hb hd
      have e0 : u 2 = .slice a l.length cap := hd.1 rfl (by decide)
      simp only [putAll, Act.put, List.setIfInBounds_toArray, List.set_cons_succ, List.set_cons_zero, Nat.zero_add, Nat.reduceAdd]
      rw [e0]
      go_wp2_with (go_at_call 12; (with_reducible refine (RFr.out _ hb).mono ?_); rintro e w7 ⟨g7, c7, rfl, h7, b7⟩)
      first | exact ⟨_, rfl, ⟨g7, c7, rfl, h7.argB⟩, b7, fun h => by simp at h⟩ | exact ⟨_, rfl, ⟨g7, c7, rfl, h7.argB⟩, b7⟩
    · intro u W hb hd
      obtain ⟨g3, c3, e0, a3⟩ : ∃ g c, u 3 = .slice (some ⟨g, 0, none⟩) F.length c ∧ ArgB W (u 3) F := hd.1 rfl (by decide)
      rw [e0] at a3
      have kc := conv_arg a3 FB.out
      rw [HSF.out] at kc
      simp only [putAll, Act.put, List.setIfInBounds_toArray, List.set_cons_succ, List.set_cons_zero, Nat.zero_add, Nat.reduceAdd]
      rw [e0]
      go_wp2
      first | exact ⟨rfl, Below.refl _ _⟩ | exact ⟨_, rfl, rfl, Below.refl _ _⟩ | exact ⟨_, rfl, rfl, Below.refl _ _, fun h => by simp at h⟩
    · intro u W hb hd
      have e0 : u 1 = .string sF := hd.1 rfl (by decide)
      have e1 : u 4 = .string sF := hd.2.1 rfl (by decide)
      simp only [putAll, Act.put, List.setIfInBounds_toArray, List.set_cons_succ, List.set_cons_zero, Nat.zero_add, Nat.reduceAdd]
      rw [e0, e1]
      go_wp2
      first | exact ⟨rfl, Below.refl _ _⟩ | exact ⟨_, rfl, rfl, Below.refl _ _⟩ | exact ⟨_, rfl, rfl, Below.refl _ _, fun h => by simp at h⟩
    · intro u W hb hd
      have e0 : u 5 = .bool false := hd.1 rfl (by decide)
      simp only [putAll, Act.put, List.setIfInBounds_toArray, List.set_cons_succ, List.set_cons_zero, Nat.zero_add, Nat.reduceAdd]
      rw [e0]
      go_wp2
      first | exact ⟨rfl, Below.refl _ _⟩ | exact ⟨_, rfl, rfl, Below.refl _ _⟩ | exact ⟨_, rfl, rfl, Below.refl _ _, fun h => by simp at h⟩
    · intro u W hb hd
      have e0 : u 6 = .bool false := hd.1 rfl (by decide)
      simp only [putAll, Act.put, List.setIfInBounds_toArray, List.set_cons_succ, List.set_cons_zero, Nat.zero_add, Nat.reduceAdd]
      rw [e0]
      go_wp2
      first | exact ⟨rfl, Below.refl _ _⟩ | exact ⟨_, rfl, rfl, Below.refl _ _⟩ | exact ⟨_, rfl, rfl, Below.refl _ _, fun h => by simp at h⟩
    · intro u W hb hd
      have e0 : u 7 = .slice ax l.length cx := hd.1 rfl (by decide)
      have e1 : u 6 = .bool false := hd.2.1 rfl (by decide)
      have k1 := (CV.out W hb).2.1
      simp only [putAll, Act.put, List.setIfInBounds_toArray, List.set_cons_succ, List.set_cons_zero, Nat.zero_add, Nat.reduceAdd]
      rw [e0, e1]
      go_wp2
      first | exact ⟨rfl, Below.refl _ _⟩ | exact ⟨_, rfl, rfl, Below.refl _ _⟩ | exact ⟨_, rfl, rfl, Below.refl _ _, fun h => by simp at h⟩
    · intro u W hb hd
      have e0 : u 6 = .bool false := hd.1 rfl (by decide)
      simp only [putAll, Act.put, List.setIfInBounds_toArray, List.set_cons_succ, List.set_cons_zero, Nat.zero_add, Nat.reduceAdd]
      rw [e0]
      go_wp2
      first | exact ⟨rfl, Below.refl _ _⟩ | exact ⟨_, rfl, rfl, Below.refl _ _⟩ | exact ⟨_, rfl, rfl, Below.refl _ _, fun h => by simp at h⟩
    · intro u W hb hd
      have e0 : u 9 = .slice a l.length cap := hd.1 rfl (by decide)
      have e1 : u 6 = .bool false := hd.2.1 rfl (by decide)
      have k1 := (CV.out W hb).2.2
      simp only [putAll, Act.put, List.setIfInBounds_toArray, List.set_cons_succ, List.set_cons_zero, Nat.zero_add, Nat.reduceAdd]
      rw [e0, e1]
      go_wp2
      first | exact ⟨rfl, Below.refl _ _⟩ | exact ⟨_, rfl, rfl, Below.refl _ _⟩ | exact ⟨_, rfl, rfl, Below.refl _ _, fun h => by simp at h⟩
    · intro u W hb hd
      have e0 : u 8 = .string sl := hd.1 rfl (by decide)
      have e1 : u 10 = .string sl := hd.2.1 rfl (by decide)
      have e2 : u 6 = .bool false := hd.2.2.1 rfl (by decide)
      simp only [putAll, Act.put, List.setIfInBounds_toArray, List.set_cons_succ, List.set_cons_zero, Nat.zero_add, Nat.reduceAdd]
      rw [e0, e1, e2]
      go_wp2
      first | exact ⟨rfl, Below.refl _ _⟩ | exact ⟨_, rfl, rfl, Below.refl _ _⟩ | exact ⟨_, rfl, rfl, Below.refl _ _, fun h => by simp at h⟩
    · intro u W hb hd
      have e0 : u 6 = .bool false := hd.1 rfl (by decide)
      have e1 : u 11 = .bool false := hd.2.1 rfl (by decide)
      simp only [putAll, Act.put, List.setIfInBounds_toArray, List.set_cons_succ, List.set_cons_zero, Nat.zero_add, Nat.reduceAdd]
      rw [e0, e1]
      go_wp2
      first | exact ⟨rfl, Below.refl _ _⟩ | exact ⟨_, rfl, rfl, Below.refl _ _⟩ | exact ⟨_, rfl, rfl, Below.refl _ _, fun h => by simp at h⟩
    · intro u W hb hd
      have e0 : u 12 = .bool false := hd.1 rfl (by decide)
      simp only [putAll, Act.put, List.setIfInBounds_toArray, List.set_cons_succ, List.set_cons_zero, Nat.zero_add, Nat.reduceAdd]
      rw [e0]
      go_wp2
      first | exact ⟨rfl, Below.refl _ _⟩ | exact ⟨_, rfl, rfl, Below.refl _ _⟩ | exact ⟨_, rfl, rfl, Below.refl _ _, fun h => by simp at h⟩
    · intro u W hb hd
      have e0 : u 13 = .bool false := hd.1 rfl (by decide)
      simp only [putAll, Act.put, List.setIfInBounds_toArray, List.set_cons_succ, List.set_cons_zero, Nat.zero_add, Nat.reduceAdd]
      rw [e0]
      go_wp2
      first | exact ⟨rfl, Below.refl _ _⟩ | exact ⟨_, rfl, rfl, Below.refl _ _⟩ | exact ⟨_, rfl, rfl, Below.refl _ _, fun h => by simp at h⟩
    · intro u W hb hd
      have e0 : u 13 = .bool false := hd.1 rfl (by decide)
      simp only [putAll, Act.put, List.setIfInBounds_toArray, List.set_cons_succ, List.set_cons_zero, Nat.zero_add, Nat.reduceAdd]
      rw [e0]
      go_wp2
      first | exact ⟨rfl, Below.refl _ _⟩ | exact ⟨_, rfl, rfl, Below.refl _ _⟩ | exact ⟨_, rfl, rfl, Below.refl _ _, fun h => by simp at h⟩
    · intro u W hb hd
      have e0 : u 15 = (.slice af F.length cf) := hd.1 rfl (by decide)
      have e1 : u 13 = .bool false := hd.2.1 rfl (by decide)
      simp only [putAll, Act.put, List.setIfInBounds_toArray, List.set_cons_succ, List.set_cons_zero, Nat.zero_add, Nat.reduceAdd]
      rw [e0, e1]
      go_wp2
      first | exact ⟨rfl, Below.refl _ _⟩ | exact ⟨_, rfl, rfl, Below.refl _ _⟩ | exact ⟨_, rfl, rfl, Below.refl _ _, fun h => by simp at h⟩
    · intro u W hb hd
      have e0 : u 14 = .int .i64 ((l.length : Int) + 10) := hd.1 rfl (by decide)
      have e1 : u 16 = .int .i64 (F.length : Int) := hd.2.1 rfl (by decide)
      have e2 : u 13 = .bool false := hd.2.2.1 rfl (by decide)
      simp only [putAll, Act.put, List.setIfInBounds_toArray, List.set_cons_succ, List.set_cons_zero, Nat.zero_add, Nat.reduceAdd]
      rw [e0, e1, e2]
      go_wp2
      first | exact ⟨rfl, Below.refl _ _⟩ | exact ⟨_, rfl, rfl, Below.refl _ _⟩ | exact ⟨_, rfl, rfl, Below.refl _ _, fun h => by simp at h⟩
    · intro u W hb hd
      have e0 : u 13 = .bool false := hd.1 rfl (by decide)
      have e1 : u 17 = .bool false := hd.2.1 rfl (by decide)
      simp only [putAll, Act.put, List.setIfInBounds_toArray, List.set_cons_succ, List.set_cons_zero, Nat.zero_add, Nat.reduceAdd]
      rw [e0, e1]
      go_wp2
      first | exact ⟨rfl, Below.refl _ _⟩ | exact ⟨_, rfl, rfl, Below.refl _ _⟩ | exact ⟨_, rfl, rfl, Below.refl _ _, fun h => by simp at h⟩
    · intro u W hb hd
      have e0 : u 18 = .bool false := hd.1 rfl (by decide)
      simp only [putAll, Act.put, List.setIfInBounds_toArray, List.set_cons_succ, List.set_cons_zero, Nat.zero_add, Nat.reduceAdd]
      rw [e0]
      go_wp2
      first | exact ⟨rfl, Below.refl _ _⟩ | exact ⟨_, rfl, rfl, Below.refl _ _⟩ | exact ⟨_, rfl, rfl, Below.refl _ _, fun h => by simp at h⟩
    · intro u W hb hd
      have e0 : u 19 = .bool false := hd.1 rfl (by decide)
      simp only [putAll, Act.put, List.setIfInBounds_toArray, List.set_cons_succ, List.set_cons_zero, Nat.zero_add, Nat.reduceAdd]
      rw [e0]
      go_wp2
      first | exact ⟨rfl, Below.refl _ _⟩ | exact ⟨_, rfl, rfl, Below.refl _ _⟩ | exact ⟨_, rfl, rfl, Below.refl _ _, fun h => by simp at h⟩
    · intro u W hb hd
      have e0 : u 20 = .int .i64 0 := hd.1 rfl (by decide)
      have e1 : u 19 = .bool false := hd.2.1 rfl (by decide)
      simp only [putAll, Act.put, List.setIfInBounds_toArray, List.set_cons_succ, List.set_cons_zero, Nat.zero_add, Nat.reduceAdd]
      rw [e0, e1]
      go_wp2
      first | exact ⟨rfl, Below.refl _ _⟩ | exact ⟨_, rfl, rfl, Below.refl _ _⟩ | exact ⟨_, rfl, rfl, Below.refl _ _, fun h => by simp at h⟩
    · intro u W hb hd
      have e0 : u 19 = .bool false := hd.1 rfl (by decide)
      have e1 : u 21 = .bool false := hd.2.1 rfl (by decide)
      simp only [putAll, Act.put, List.setIfInBounds_toArray, List.set_cons_succ, List.set_cons_zero, Nat.zero_add, Nat.reduceAdd]
      rw [e0, e1]
      go_wp2
      first | exact ⟨rfl, Below.refl _ _⟩ | exact ⟨_, rfl, rfl, Below.refl _ _⟩ | exact ⟨_, rfl, rfl, Below.refl _ _, fun h => by simp at h⟩
    · intro u W hb hd
      have e0 : u 22 = .bool false := hd.1 rfl (by decide)
      simp only [putAll, Act.put, List.setIfInBounds_toArray, List.set_cons_succ, List.set_cons_zero, Nat.zero_add, Nat.reduceAdd]
      rw [e0]
      go_wp2
      first | exact ⟨rfl, Below.refl _ _⟩ | exact ⟨_, rfl, rfl, Below.refl _ _⟩ | exact ⟨_, rfl, rfl, Below.refl _ _, fun h => by simp at h⟩
    · intro u W hb hd
      have e0 : u 23 = .bool false := hd.1 rfl (by decide)
      simp only [putAll, Act.put, List.setIfInBounds_toArray, List.set_cons_succ, List.set_cons_zero, Nat.zero_add, Nat.reduceAdd]
      rw [e0]
      go_wp2
      first | exact ⟨rfl, Below.refl _ _⟩ | exact ⟨_, rfl, rfl, Below.refl _ _⟩ | exact ⟨_, rfl, rfl, Below.refl _ _, fun h => by simp at h⟩
    · intro u W hb hd
      have e0 : u 24 = .slice a l.length cap := hd.1 rfl (by decide)
      have e1 : u 23 = .bool false := hd.2.1 rfl (by decide)
      simp only [putAll, Act.put, List.setIfInBounds_toArray, List.set_cons_succ, List.set_cons_zero, Nat.zero_add, Nat.reduceAdd]
      rw [e0, e1]
      go_wp2
      first | exact ⟨rfl, Below.refl _ _⟩ | exact ⟨_, rfl, rfl, Below.refl _ _⟩ | exact ⟨_, rfl, rfl, Below.refl _ _, fun h => by simp at h⟩
    · intro u W hb hd
      have e0 : u 25 = .int .i64 (l.length : Int) := hd.1 rfl (by decide)
      have e2 : u 23 = .bool false := hd.2.2.1 rfl (by decide)
      simp only [putAll, Act.put, List.setIfInBounds_toArray, List.set_cons_succ, List.set_cons_zero, Nat.zero_add, Nat.reduceAdd]
      rw [e0, e2]
      go_wp2_with (go_at_call 13; (with_reducible refine (CSz.out _ hb).mono ?_); rintro e w8 ⟨rfl, b8⟩)
      first | exact ⟨_, rfl, rfl, b8, fun h => by simp at h⟩ | exact ⟨_, rfl, rfl, b8⟩
    · intro u W hb hd
      have e0 : u 23 = .bool false := hd.1 rfl (by decide)
      simp only [putAll, Act.put, List.setIfInBounds_toArray, List.set_cons_succ, List.set_cons_zero, Nat.zero_add, Nat.reduceAdd]
      rw [e0]
      go_wp2
      first | exact ⟨rfl, Below.refl _ _⟩ | exact ⟨_, rfl, rfl, Below.refl _ _⟩ | exact ⟨_, rfl, rfl, Below.refl _ _, fun h => by simp at h⟩
    · intro u W hb hd
      have e0 : u 27 = (.slice af F.length cf) := hd.1 rfl (by decide)
      have e1 : u 23 = .bool false := hd.2.1 rfl (by decide)
      simp only [putAll, Act.put, List.setIfInBounds_toArray, List.set_cons_succ, List.set_cons_zero, Nat.zero_add, Nat.reduceAdd]
      rw [e0, e1]
      go_wp2
      first | exact ⟨rfl, Below.refl _ _⟩ | exact ⟨_, rfl, rfl, Below.refl _ _⟩ | exact ⟨_, rfl, rfl, Below.refl _ _, fun h => by simp at h⟩
    · intro u W hb hd
      have e0 : u 26 = .int .i64 ((l.length : Int) + 10) := hd.1 rfl (by decide)
      have e1 : u 28 = .int .i64 (F.length : Int) := hd.2.1 rfl (by decide)
      have e2 : u 23 = .bool false := hd.2.2.1 rfl (by decide)
      simp only [putAll, Act.put, List.setIfInBounds_toArray, List.set_cons_succ, List.set_cons_zero, Nat.zero_add, Nat.reduceAdd]
      rw [e0, e1, e2]
      go_wp2
      first | exact ⟨rfl, Below.refl _ _⟩ | exact ⟨_, rfl, rfl, Below.refl _ _⟩ | exact ⟨_, rfl, rfl, Below.refl _ _, fun h => by simp at h⟩
    · intro u W hb hd
      have e0 : u 23 = .bool false := hd.1 rfl (by decide)
      have e1 : u 29 = .bool false := hd.2.1 rfl (by decide)
      simp only [putAll, Act.put, List.setIfInBounds_toArray, List.set_cons_succ, List.set_cons_zero, Nat.zero_add, Nat.reduceAdd]
      rw [e0, e1]
      go_wp2
      first | exact ⟨rfl, Below.refl _ _⟩ | exact ⟨_, rfl, rfl, Below.refl _ _⟩ | exact ⟨_, rfl, rfl, Below.refl _ _, fun h => by simp at h⟩
  intro u w8 hb hT _
  have e0 : u 0 = _ := hT 0 (by decide)
  have e1 : u 1 = _ := hT 1 (by decide)
  have e2 : u 2 = _ := hT 2 (by decide)
  have e4 : u 4 = _ := hT 4 (by decide)
  have e5 : u 5 = _ := hT 5 (by decide)
  have e6 : u 6 = _ := hT 6 (by decide)
  have e7 : u 7 = _ := hT 7 (by decide)
  have e8 : u 8 = _ := hT 8 (by decide)
  have e9 : u 9 = _ := hT 9 (by decide)
  have e10 : u 10 = _ := hT 10 (by decide)
  have e11 : u 11 = _ := hT 11 (by decide)
  have e12 : u 12 = _ := hT 12 (by decide)
  have e13 : u 13 = _ := hT 13 (by decide)
  have e14 : u 14 = _ := hT 14 (by decide)
  have e15 : u 15 = _ := hT 15 (by decide)
  have e16 : u 16 = _ := hT 16 (by decide)
  have e17 : u 17 = _ := hT 17 (by decide)
  have e18 : u 18 = _ := hT 18 (by decide)
  have e19 : u 19 = _ := hT 19 (by decide)
  have e20 : u 20 = _ := hT 20 (by decide)
  have e21 : u 21 = _ := hT 21 (by decide)
  have e22 : u 22 = _ := hT 22 (by decide)
  have e23 : u 23 = _ := hT 23 (by decide)
  have e24 : u 24 = _ := hT 24 (by decide)
  have e25 : u 25 = _ := hT 25 (by decide)
  have e26 : u 26 = _ := hT 26 (by decide)
  have e27 : u 27 = _ := hT 27 (by decide)
  have e28 : u 28 = _ := hT 28 (by decide)
  have e29 : u 29 = _ := hT 29 (by decide)
  have e30 : u 30 = _ := hT 30 (by decide)
  obtain ⟨g3, c3, e3, _⟩ : ∃ g c, u 3 = .slice (some ⟨g, 0, none⟩) F.length c ∧ ArgB w8 (u 3) F := hT 3 (by decide)
  simp only [List.take_succ_cons, List.take_zero, List.drop_succ_cons, List.drop_nil, putAll, Act.put, List.setIfInBounds_toArray, List.set_cons_succ, List.set_cons_zero, Nat.zero_add, Nat.reduceAdd]
  rw [e0, e1, e2, e3, e4, e5, e6, e7, e8, e9, e10, e11, e12, e13, e14, e15, e16, e17, e18, e19, e20, e21, e22, e23, e24, e25, e26, e27, e28, e29, e30]
  have B8 := Lib.hid hb
  clear hb hT e0 e1 e2 e3 e4 e5 e6 e7 e8 e9 e10 e11 e12 e13 e14 e15 e16 e17 e18 e19 e20 e21 e22 e23 e24 e25 e26 e27 e28 e29 e30
  have D8 := Lib.hid (below_step G6.out B8.out)
  have CA := Lib.hid (fun W (g : Below w.heap.size w W) => call_any (.slice a2 t.length cap2) t W (HE.out.step g) (HV2.out.below g) HBy2.out (by have := Lt.out; omega))
  have RA := Lib.hid (fun W (g : Below w.heap.size w W) => rcall_any (.slice a2 t.length cap2) t W (HV2.out.below g) HBy2.out (by have := Lt.out; omega))
  have HLB := Lib.hid (allL_byte HBy2.out)
  have HLL : Hid ((allL t).1.length ≤ 100000000) := by have := allL_len t; have := Lt.out; unfold Hid; omega
  obtain ⟨sz, hsz⟩ : ∃ z : Int, (if 0 ≤ n ∧ n ≤ 1073741824 then n + 10 else 0) = z := ⟨_, rfl⟩
  have CZ := Lib.hid (fun W (g : Below w.heap.size w W) => csize_any n W (HE.out.step g) n0 n1)
  rw [hsz] at CZ
  have hc : (decide (n ≥ 0) = false ∧ sz = 0) ∨ (decide (n ≥ 0) = true ∧ decide (n ≤ 1073741824) = true ∧ sz = n + 10 ∧ IntKind.i64.wrap (n + 10) = n + 10) ∨ (decide (n ≥ 0) = true ∧ decide (n ≤ 1073741824) = false ∧ sz = 0) := by
    by_cases k0 : 0 ≤ n
    · by_cases k1 : n ≤ 1073741824
      · rw [if_pos ⟨k0, k1⟩] at hsz
        exact Or.inr (Or.inl ⟨by simp; omega, by simp; omega, hsz.symm, by rw [IntKind.wrap_i64]; omega⟩)
      · rw [if_neg (by omega)] at hsz
        exact Or.inr (Or.inr ⟨by simp; omega, by simp; omega, hsz.symm⟩)
    · rw [if_neg (by omega)] at hsz
      exact Or.inl ⟨by simp; omega, hsz.symm⟩
  clear hsz n0 n1
  rcases hc with ⟨d1, rfl⟩ | ⟨d1, d2, rfl, hwn⟩ | ⟨d1, d2, rfl⟩
  · cases hop : openL t with
    | none =>
      have CO := Lib.hid (fun W (g : Below w.heap.size w W) => copen_none (HE.out.step g) (HV2.out.below g) HBy2.out (by have := Lt.out; omega) hop)
      have RO := Lib.hid (fun W (g : Below w.heap.size w W) => rcopen_none (HV2.out.below g) HBy2.out (by have := Lt.out; omega) hop)
      go_wp2_with (first
        | (go_at_call 11; (with_reducible refine (CO.out _ D8.out).mono ?_); rintro e w9 ⟨⟨ay, cy, rfl⟩, g⟩; have D9 := Lib.hid (below_step D8.out g); clear g)
        | (go_at_call 14; (with_reducible refine (RO.out _ D9.out).mono ?_); rintro e w10 ⟨rfl, g⟩; have D10 := Lib.hid (below_step D9.out g); clear g)
        | (go_at_call 15; (with_reducible refine (CA.out _ D10.out).mono ?_); rintro e w11 ⟨v11, rfl, L11, g⟩; have D11 := Lib.hid (below_step D10.out g); have LL11 := Lib.hid L11; clear g L11)
        | (go_at_call 16; (with_reducible refine (RA.out _ D11.out).mono ?_); rintro e w12 ⟨v12, rfl, L12, g⟩; have D12 := Lib.hid (below_step D11.out g); have LM11 := Lib.hid (LL11.out.below g); have LM12 := Lib.hid L12; clear g L12)
        | (go_at_call 17; (with_reducible refine (rcsame_self _ _ _ _ LM11.out LM12.out HLB.out HLL.out).mono ?_); rintro e w13 ⟨rfl, g⟩; have D13 := Lib.hid (below_step D12.out g); clear g)
        | (go_at_call 13; (with_reducible refine (CZ.out _ D13.out).mono ?_); rintro e w14 ⟨rfl, g⟩; have D14 := Lib.hid (below_step D13.out g); clear g))
      go_ret
      exact ⟨rfl, D14.out⟩
    | some x =>
      have hxb : Hid (∀ z ∈ x, 0 ≤ z ∧ z ≤ 255) := fun z hz => by obtain ⟨_, _, _, e, _⟩ := open_some hop; rw [e] at hz; exact HBy2.out z (List.mem_of_mem_drop (List.mem_of_mem_take hz))
      have CO := Lib.hid (fun W (g : Below w.heap.size w W) => copen_some (HE.out.step g) (HV2.out.below g) HBy2.out (by have := Lt.out; omega) hop)
      have RO := Lib.hid (fun W (g : Below w.heap.size w W) => rcopen_some (HV2.out.below g) HBy2.out (by have := Lt.out; omega) hop)
      go_wp2_with (first
        | (go_at_call 11; (with_reducible refine (CO.out _ D8.out).mono ?_); rintro e w9 ⟨⟨ay, cy, rfl, hy⟩, g⟩; have D9 := Lib.hid (below_step D8.out g); have Y9 := Lib.hid hy; clear g hy)
        | (go_at_call 14; (with_reducible refine (RO.out _ D9.out).mono ?_); rintro e w10 ⟨⟨az, cz, rfl, hz⟩, g⟩; have D10 := Lib.hid (below_step D9.out g); have y10 := conv_arg (Y9.out.below g) hxb.out; have z10 := conv_arg hz hxb.out; clear g hz)
        | (go_at_call 15; (with_reducible refine (CA.out _ D10.out).mono ?_); rintro e w11 ⟨v11, rfl, L11, g⟩; have D11 := Lib.hid (below_step D10.out g); have LL11 := Lib.hid L11; clear g L11)
        | (go_at_call 16; (with_reducible refine (RA.out _ D11.out).mono ?_); rintro e w12 ⟨v12, rfl, L12, g⟩; have D12 := Lib.hid (below_step D11.out g); have LM11 := Lib.hid (LL11.out.below g); have LM12 := Lib.hid L12; clear g L12)
        | (go_at_call 17; (with_reducible refine (rcsame_self _ _ _ _ LM11.out LM12.out HLB.out HLL.out).mono ?_); rintro e w13 ⟨rfl, g⟩; have D13 := Lib.hid (below_step D12.out g); clear g)
        | (go_at_call 13; (with_reducible refine (CZ.out _ D13.out).mono ?_); rintro e w14 ⟨rfl, g⟩; have D14 := Lib.hid (below_step D13.out g); clear g))
      go_ret
      exact ⟨rfl, D14.out⟩
  · cases hop : openL t with
    | none =>
      have CO := Lib.hid (fun W (g : Below w.heap.size w W) => copen_none (HE.out.step g) (HV2.out.below g) HBy2.out (by have := Lt.out; omega) hop)
      have RO := Lib.hid (fun W (g : Below w.heap.size w W) => rcopen_none (HV2.out.below g) HBy2.out (by have := Lt.out; omega) hop)
      go_wp2_with (first
        | (go_at_call 11; (with_reducible refine (CO.out _ D8.out).mono ?_); rintro e w9 ⟨⟨ay, cy, rfl⟩, g⟩; have D9 := Lib.hid (below_step D8.out g); clear g)
        | (go_at_call 14; (with_reducible refine (RO.out _ D9.out).mono ?_); rintro e w10 ⟨rfl, g⟩; have D10 := Lib.hid (below_step D9.out g); clear g)
        | (go_at_call 15; (with_reducible refine (CA.out _ D10.out).mono ?_); rintro e w11 ⟨v11, rfl, L11, g⟩; have D11 := Lib.hid (below_step D10.out g); have LL11 := Lib.hid L11; clear g L11)
        | (go_at_call 16; (with_reducible refine (RA.out _ D11.out).mono ?_); rintro e w12 ⟨v12, rfl, L12, g⟩; have D12 := Lib.hid (below_step D11.out g); have LM11 := Lib.hid (LL11.out.below g); have LM12 := Lib.hid L12; clear g L12)
        | (go_at_call 17; (with_reducible refine (rcsame_self _ _ _ _ LM11.out LM12.out HLB.out HLL.out).mono ?_); rintro e w13 ⟨rfl, g⟩; have D13 := Lib.hid (below_step D12.out g); clear g)
        | (go_at_call 13; (with_reducible refine (CZ.out _ D13.out).mono ?_); rintro e w14 ⟨rfl, g⟩; have D14 := Lib.hid (below_step D13.out g); clear g))
      go_ret
      exact ⟨rfl, D14.out⟩
    | some x =>
      have hxb : Hid (∀ z ∈ x, 0 ≤ z ∧ z ≤ 255) := fun z hz => by obtain ⟨_, _, _, e, _⟩ := open_some hop; rw [e] at hz; exact HBy2.out z (List.mem_of_mem_drop (List.mem_of_mem_take hz))
      have CO := Lib.hid (fun W (g : Below w.heap.size w W) => copen_some (HE.out.step g) (HV2.out.below g) HBy2.out (by have := Lt.out; omega) hop)
      have RO := Lib.hid (fun W (g : Below w.heap.size w W) => rcopen_some (HV2.out.below g) HBy2.out (by have := Lt.out; omega) hop)
      go_wp2_with (first
        | (go_at_call 11; (with_reducible refine (CO.out _ D8.out).mono ?_); rintro e w9 ⟨⟨ay, cy, rfl, hy⟩, g⟩; have D9 := Lib.hid (below_step D8.out g); have Y9 := Lib.hid hy; clear g hy)
        | (go_at_call 14; (with_reducible refine (RO.out _ D9.out).mono ?_); rintro e w10 ⟨⟨az, cz, rfl, hz⟩, g⟩; have D10 := Lib.hid (below_step D9.out g); have y10 := conv_arg (Y9.out.below g) hxb.out; have z10 := conv_arg hz hxb.out; clear g hz)
        | (go_at_call 15; (with_reducible refine (CA.out _ D10.out).mono ?_); rintro e w11 ⟨v11, rfl, L11, g⟩; have D11 := Lib.hid (below_step D10.out g); have LL11 := Lib.hid L11; clear g L11)
        | (go_at_call 16; (with_reducible refine (RA.out _ D11.out).mono ?_); rintro e w12 ⟨v12, rfl, L12, g⟩; have D12 := Lib.hid (below_step D11.out g); have LM11 := Lib.hid (LL11.out.below g); have LM12 := Lib.hid L12; clear g L12)
        | (go_at_call 17; (with_reducible refine (rcsame_self _ _ _ _ LM11.out LM12.out HLB.out HLL.out).mono ?_); rintro e w13 ⟨rfl, g⟩; have D13 := Lib.hid (below_step D12.out g); clear g)
        | (go_at_call 13; (with_reducible refine (CZ.out _ D13.out).mono ?_); rintro e w14 ⟨rfl, g⟩; have D14 := Lib.hid (below_step D13.out g); clear g))
      go_ret
      exact ⟨rfl, D14.out⟩
  · cases hop : openL t with
    | none =>
      have CO := Lib.hid (fun W (g : Below w.heap.size w W) => copen_none (HE.out.step g) (HV2.out.below g) HBy2.out (by have := Lt.out; omega) hop)
      have RO := Lib.hid (fun W (g : Below w.heap.size w W) => rcopen_none (HV2.out.below g) HBy2.out (by have := Lt.out; omega) hop)
      go_wp2_with (first
        | (go_at_call 11; (with_reducible refine (CO.out _ D8.out).mono ?_); rintro e w9 ⟨⟨ay, cy, rfl⟩, g⟩; have D9 := Lib.hid (below_step D8.out g); clear g)
        | (go_at_call 14; (with_reducible refine (RO.out _ D9.out).mono ?_); rintro e w10 ⟨rfl, g⟩; have D10 := Lib.hid (below_step D9.out g); clear g)
        | (go_at_call 15; (with_reducible refine (CA.out _ D10.out).mono ?_); rintro e w11 ⟨v11, rfl, L11, g⟩; have D11 := Lib.hid (below_step D10.out g); have LL11 := Lib.hid L11; clear g L11)
        | (go_at_call 16; (with_reducible refine (RA.out _ D11.out).mono ?_); rintro e w12 ⟨v12, rfl, L12, g⟩; have D12 := Lib.hid (below_step D11.out g); have LM11 := Lib.hid (LL11.out.below g); have LM12 := Lib.hid L12; clear g L12)
        | (go_at_call 17; (with_reducible refine (rcsame_self _ _ _ _ LM11.out LM12.out HLB.out HLL.out).mono ?_); rintro e w13 ⟨rfl, g⟩; have D13 := Lib.hid (below_step D12.out g); clear g)
        | (go_at_call 13; (with_reducible refine (CZ.out _ D13.out).mono ?_); rintro e w14 ⟨rfl, g⟩; have D14 := Lib.hid (below_step D13.out g); clear g))
      go_ret
      exact ⟨rfl, D14.out⟩
    | some x =>
      have hxb : Hid (∀ z ∈ x, 0 ≤ z ∧ z ≤ 255) := fun z hz => by obtain ⟨_, _, _, e, _⟩ := open_some hop; rw [e] at hz; exact HBy2.out z (List.mem_of_mem_drop (List.mem_of_mem_take hz))
      have CO := Lib.hid (fun W (g : Below w.heap.size w W) => copen_some (HE.out.step g) (HV2.out.below g) HBy2.out (by have := Lt.out; omega) hop)
      have RO := Lib.hid (fun W (g : Below w.heap.size w W) => rcopen_some (HV2.out.below g) HBy2.out (by have := Lt.out; omega) hop)
      go_wp2_with (first
        | (go_at_call 11; (with_reducible refine (CO.out _ D8.out).mono ?_); rintro e w9 ⟨⟨ay, cy, rfl, hy⟩, g⟩; have D9 := Lib.hid (below_step D8.out g); have Y9 := Lib.hid hy; clear g hy)
        | (go_at_call 14; (with_reducible refine (RO.out _ D9.out).mono ?_); rintro e w10 ⟨⟨az, cz, rfl, hz⟩, g⟩; have D10 := Lib.hid (below_step D9.out g); have y10 := conv_arg (Y9.out.below g) hxb.out; have z10 := conv_arg hz hxb.out; clear g hz)
        | (go_at_call 15; (with_reducible refine (CA.out _ D10.out).mono ?_); rintro e w11 ⟨v11, rfl, L11, g⟩; have D11 := Lib.hid (below_step D10.out g); have LL11 := Lib.hid L11; clear g L11)
        | (go_at_call 16; (with_reducible refine (RA.out _ D11.out).mono ?_); rintro e w12 ⟨v12, rfl, L12, g⟩; have D12 := Lib.hid (below_step D11.out g); have LM11 := Lib.hid (LL11.out.below g); have LM12 := Lib.hid L12; clear g L12)
        | (go_at_call 17; (with_reducible refine (rcsame_self _ _ _ _ LM11.out LM12.out HLB.out HLL.out).mono ?_); rintro e w13 ⟨rfl, g⟩; have D13 := Lib.hid (below_step D12.out g); clear g)
        | (go_at_call 13; (with_reducible refine (CZ.out _ D13.out).mono ?_); rintro e w14 ⟨rfl, g⟩; have D14 := Lib.hid (below_step D13.out g); clear g))
      go_ret
      exact ⟨rfl, D14.out⟩

end Go.Proofs.YtiephcjdbndjaaaDoor
