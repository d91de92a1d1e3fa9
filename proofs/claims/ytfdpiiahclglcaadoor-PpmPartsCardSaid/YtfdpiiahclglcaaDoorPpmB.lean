/-
  Package ppm, walked: a text cut in two (strings.Cut, strings.CutSuffix), and the digits behind the point.
-/
import Derived.Test.YtfdpiiahclglcaaDoorPpmA
import Derived.Lib.IndexLaws
namespace Go.Proofs.YtfdpiiahclglcaaDoor
open Go.RowKit

theorem nums_mk (l : List UInt8) : nums ⟨l.toArray⟩ = l.map fun b => (b.toNat : Int) := by simp [nums]
theorem nums_upto (s : ByteArray) (k : Nat) : nums (s.extract 0 k) = (nums s).take k := by
  rw [Lib.extract_upto, nums_mk, nums, List.map_take]
theorem nums_from (s : ByteArray) (k : Nat) : nums (s.extract k s.size) = (nums s).drop k := by
  rw [Lib.extract_from, nums_mk, nums, List.map_drop]
theorem size_of_nums (s : ByteArray) : s.size = (nums s).length := (nums_length s).symm

/-- What strings.CutSuffix makes of a text, at %. -/
theorem csuf_any (s : ByteArray) (hm : s.size ≤ 9223372036854775807) : ∃ (t : ByteArray) (e : Bool), (e = true → nums s = nums t ++ [37]) ∧ (e = false → ¬ ∃ ys, nums s = ys ++ [37]) ∧ t.size ≤ s.size ∧
    ∀ w, Calls Tryd.prog 24 #[.string s, .string ⟨#[37]⟩] w fun x w' => x = .returned (.tuple #[.string t, .bool e]) ∧ w = w' := by
  refine ⟨⟨(Lib.trimSuffix s.data.toList [37]).toArray⟩, Lib.hasSuffix s.data.toList [37], fun h => ?_, fun h hc => ?_, ?_, fun w => ?_⟩
  · rw [nums_mk]
    unfold Lib.trimSuffix
    rw [if_pos h]
    unfold Lib.hasSuffix at h
    obtain ⟨t, ht⟩ := List.isSuffixOf_iff_suffix.mp h
    rw [nums, ← ht]
    simp
  · obtain ⟨ys, hy⟩ := hc
    have hl : s.data.toList ≠ [] := fun e => by rw [nums, e] at hy; simp at hy
    have hx := List.dropLast_concat_getLast hl
    rw [nums, ← hx, List.map_append] at hy
    have hlast : ((s.data.toList.getLast hl).toNat : Int) = 37 := by
      have := congrArg List.getLast? hy
      simpa using this
    have h37 : s.data.toList.getLast hl = 37 := UInt8.toNat_inj.mp (by have e : (37 : UInt8).toNat = 37 := rfl; omega)
    have : Lib.hasSuffix s.data.toList [37] = true := by
      unfold Lib.hasSuffix
      exact List.isSuffixOf_iff_suffix.mpr ⟨s.data.toList.dropLast, by rw [← h37]; exact hx⟩
    rw [this] at h; cases h
  · rw [Lib.size_mk]
    unfold Lib.trimSuffix
    have : s.data.toList.length = s.size := by simp
    split
    · rw [List.length_take]; omega
    · omega
  · refine (Tryd.strings_CutSuffix s ⟨#[37]⟩ w hm).mono ?_
    rintro e w' ⟨rfl, hw⟩
    exact ⟨rfl, hw.symm⟩

theorem point_in (s : ByteArray) : 46 ∈ nums s ↔ (46 : UInt8) ∈ s.data.toList := by
  unfold nums
  rw [List.mem_map]
  constructor
  · rintro ⟨b, hb, e⟩
    have : b = 46 := UInt8.toNat_inj.mp (by have e2 : (46 : UInt8).toNat = 46 := rfl; omega)
    rw [← this]; exact hb
  · intro h; exact ⟨46, h, rfl⟩

/-- What strings.Cut makes of a text, at the first point. -/
theorem cut_any (s : ByteArray) (hm : s.size ≤ 9223372036854775807) : ∃ (a b : ByteArray) (d : Bool), Halves (nums s) (nums a) (nums b) d ∧ a.size ≤ s.size ∧ b.size ≤ s.size ∧
    ∀ w, Calls Tryd.prog 25 #[.string s, .string ⟨#[46]⟩] w fun x w' => x = .returned (.tuple #[.string a, .string b, .bool d]) ∧ Below w.heap.size w w' := by
  have hge := Lib.indexByte_ge s.data.toList 46
  by_cases h : Lib.indexByte s.data.toList 46 = -1
  · refine ⟨s, ⟨#[]⟩, false, ⟨by simp, ?_, fun _ => rfl⟩, Nat.le_refl _, Nat.zero_le _, fun w => ?_⟩
    · rw [point_in]
      intro hc
      obtain ⟨k, hk, e⟩ := List.mem_iff_getElem.mp hc
      exact Lib.indexByte_none h k (by rw [List.getElem?_eq_getElem hk, e])
    · have hi : ∀ w, Calls Tryd.prog 51 #[.string s, .string ⟨#[46]⟩] w fun e w' => e = .returned (.int .i64 (-1)) ∧ w = w' := fun w => by
        refine (Tryd.stringslite_Index_one s 46 w).mono ?_
        rintro e w' ⟨rfl, hw⟩
        exact ⟨by rw [h], hw.symm⟩
      have hc : ∀ w, Calls Tryd.prog 40 #[.string s, .string ⟨#[46]⟩] w fun x w' => x = .returned (.tuple #[.string s, .string ⟨#[]⟩, .bool false]) ∧ w = w' := fun w => by
        clear hge h
        go_enter Tryd.func40, Tryd.ntmps40
        go_wp2_with (go_at_call 51; (with_reducible refine (hi _).mono ?_); rintro e w1 ⟨rfl, rfl⟩)
        go_ret3
        exact ⟨rfl, rfl⟩
      clear hge h
      go_enter Tryd.func25, Tryd.ntmps25
      go_wp2_with (go_at_call 40; (with_reducible refine (hc _).mono ?_); rintro e w1 ⟨rfl, rfl⟩)
      go_ret3
      exact ⟨rfl, Below.refl _ _⟩
  · obtain ⟨i, hi⟩ : ∃ i : Nat, Lib.indexByte s.data.toList 46 = i := ⟨(Lib.indexByte s.data.toList 46).toNat, by omega⟩
    obtain ⟨h1, h2⟩ := Lib.indexByte_some hi
    have hlt : i < s.size := by
      have : i < s.data.toList.length := by
        by_cases hc : i < s.data.toList.length
        · exact hc
        · rw [List.getElem?_eq_none (by omega)] at h1; cases h1
      simpa using this
    have hl : i < (nums s).length := by rw [nums_length]; exact hlt
    have h46 : (nums s)[i] = 46 := by
      have : (nums s)[i]? = some 46 := by rw [nums, List.getElem?_map, h1]; rfl
      rw [List.getElem?_eq_getElem hl] at this
      exact Option.some.inj this
    refine ⟨s.extract 0 i, s.extract (i + 1) s.size, true, ⟨?_, ?_, fun e => by cases e⟩, by rw [ByteArray.size_extract]; omega, by rw [ByteArray.size_extract]; omega, fun w => ?_⟩
    · rw [nums_upto, nums_from, if_pos rfl, ← h46, List.getElem_cons_drop, List.take_append_drop]
    · rw [point_in, Lib.extract_upto]
      intro hc
      obtain ⟨k, hk, e⟩ := List.mem_iff_getElem.mp hc
      simp at hk e
      exact h2 k (by omega) (by rw [List.getElem?_eq_getElem (by simp; omega)]; simp; exact e)
    · have hi' : ∀ w, Calls Tryd.prog 51 #[.string s, .string ⟨#[46]⟩] w fun e w' => e = .returned (.int .i64 i) ∧ w = w' := fun w => by
        refine (Tryd.stringslite_Index_one s 46 w).mono ?_
        rintro e w' ⟨rfl, hw⟩
        exact ⟨by rw [hi], hw.symm⟩
      have hc : ∀ w, Calls Tryd.prog 40 #[.string s, .string ⟨#[46]⟩] w fun x w' => x = .returned (.tuple #[.string (s.extract 0 i), .string (s.extract (i + 1) s.size), .bool true]) ∧ Below w.heap.size w w' := fun w => by
        have c1 : (0 : Int) ≤ i := by omega
        have c2 : (i : Int) ≤ s.size := by omega
        have c3 : (0 : Int) ≤ (i : Int) + 1 := by omega
        have c4 : ((i : Int) + 1) ≤ s.size := by omega
        clear hge h hi h1 h2 hl h46
        go_enter Tryd.func40, Tryd.ntmps40
        go_wp2_with (go_at_call 51; (with_reducible refine (hi' _).mono ?_); rintro e w1 ⟨rfl, rfl⟩)
        go_region
        go_wp2
        go_ret3
        exact ⟨rfl, (Below.refl _ _).drew⟩
      clear hge h hi h1 h2 hl h46
      go_enter Tryd.func25, Tryd.ntmps25
      go_wp2_with (go_at_call 40; (with_reducible refine (hc _).mono ?_); rintro e w1 ⟨rfl, g1⟩)
      go_ret3
      exact ⟨rfl, g1⟩

/-- What is known of the digits behind the point at the head of a round. -/
structure BAt (B : List Int) (pos : Nat) (P u z : Int) : Prop where
  few : pos ≤ 4
  len : pos ≤ B.length
  p : P = (pv B pos : Int)
  u : u = ((10 ^ (4 - pos) : Nat) : Int)
  z : (pos = 0 ∧ z = 48) ∨ (1 ≤ pos ∧ B.getD (pos - 1) 0 = z)
  all : ∀ i, i < pos → 48 ≤ B.getD i 0 ∧ B.getD i 0 ≤ 57
theorem BAt.start (B : List Int) : BAt B 0 0 10000 48 := ⟨by decide, Nat.zero_le _, rfl, rfl, Or.inl ⟨rfl, rfl⟩, fun i h => by omega⟩
theorem dB_at {B : List Int} {i : Nat} (hi : i < B.length) : dB B i = (B.getD i 0 - 48).toNat := by unfold dB; rw [getD_default hi 48 0]
theorem BAt.bounds {B : List Int} {pos : Nat} {P u z : Int} (h : BAt B pos P u z) : 0 ≤ P ∧ P ≤ 9999 ∧ 1 ≤ u ∧ u ≤ 10000 := by
  obtain ⟨h1, h2, h3, h4, h5, h6⟩ := h
  have hd : ∀ i, i < pos → dB B i ≤ 9 := fun i hi => by rw [dB_at (by omega)]; have := h6 i hi; omega
  subst h3; subst h4
  match pos, h1, hd with
  | 0, _, hd => simp [pv]
  | 1, _, hd => have d0 := hd 0 (by omega); simp [pv]; omega
  | 2, _, hd => have d0 := hd 0 (by omega); have d1 := hd 1 (by omega); simp [pv]; omega
  | 3, _, hd => have d0 := hd 0 (by omega); have d1 := hd 1 (by omega); have d2 := hd 2 (by omega); simp [pv]; omega
  | 4, _, hd => have d0 := hd 0 (by omega); have d1 := hd 1 (by omega); have d2 := hd 2 (by omega); have d3 := hd 3 (by omega); simp [pv]; omega
theorem BAt.unit {B : List Int} {pos : Nat} {P u z : Int} (h : BAt B pos P u z) (hp : ¬ pos = 4) : ∃ v, u / 10 = v ∧ 1 ≤ v ∧ v ≤ 1000 ∧ v = ((10 ^ (3 - pos) : Nat) : Int) := by
  obtain ⟨h1, h2, h3, h4, h5, h6⟩ := h
  subst h4
  match pos, h1, hp with
  | 0, _, _ => exact ⟨_, rfl, by decide, by decide, by decide⟩
  | 1, _, _ => exact ⟨_, rfl, by decide, by decide, by decide⟩
  | 2, _, _ => exact ⟨_, rfl, by decide, by decide, by decide⟩
  | 3, _, _ => exact ⟨_, rfl, by decide, by decide, by decide⟩
  | 4, _, hp => exact (hp rfl).elim
theorem BAt.stop {B : List Int} {P u z : Int} (h : BAt B 4 P u z) : u / 10 = 0 := by
  rw [h.u]; rfl
theorem BAt.next {B : List Int} {pos : Nat} {P u z v z' m : Int} (h : BAt B pos P u z) (hp : ¬ pos = 4) (hl : pos < B.length) (hv : v = ((10 ^ (3 - pos) : Nat) : Int)) (hz : B.getD pos 0 = z') (h1 : 48 ≤ z') (h2 : z' ≤ 57) (hm : v * (z' - 48) = m) :
    BAt B (pos + 1) (P + m) v z' := by
  have hf := h.few
  refine ⟨by omega, hl, ?_, by rw [hv, show 4 - (pos + 1) = 3 - pos by omega], Or.inr ⟨by omega, hz⟩, fun i hi => ?_⟩
  · rw [pv, h.p, ← hm, hv, dB_at hl, hz]
    have e : z' - 48 = (((z' - 48).toNat : Nat) : Int) := by omega
    rw [e, Int.toNat_natCast, ← Int.natCast_mul, Nat.mul_comm]
    omega
  · by_cases e : i = pos
    · subst e; rw [hz]; exact ⟨h1, h2⟩
    · exact h.all i (by omega)
theorem BAt.yes {B : List Int} {pos : Nat} {P u z : Int} (h : BAt B pos P u z) (hl : pos = B.length) (hz : ¬ z = 48) : Fr B ∧ P = (pv B 4 : Int) := by
  obtain ⟨h1, h2, h3, h4, h5, h6⟩ := h
  subst hl
  rcases h5 with ⟨_, e⟩ | ⟨h5, e⟩
  · exact (hz e).elim
  · exact ⟨⟨h5, h1, h6, by rw [e]; exact hz⟩, by rw [h3, pv_end _ (Nat.le_refl _) h1]⟩
theorem BAt.no {B : List Int} {pos : Nat} {P u z : Int} (h : BAt B pos P u z) (hl : pos = B.length) (hz : z = 48) : ¬ Fr B := by
  obtain ⟨h1, h2, h3, h4, h5, h6⟩ := h
  subst hl
  intro f
  rcases h5 with ⟨e, _⟩ | ⟨_, e⟩
  · have := f.some; omega
  · exact f.last (e.trans hz)

/-- What behindPoint hands back. -/
def GivesB2 (B : List Int) (w : World) (e : Ending) (w' : World) : Prop := ∃ (x : Int) (b : Bool), e = .returned (.tuple #[.int .u64 x, .bool b]) ∧ (b = true ↔ Fr B) ∧ (b = true → x = (pv B 4 : Int)) ∧ Below w.heap.size w w'

set_option maxRecDepth 100000 in
set_option maxHeartbeats 1000000 in
theorem behind_any (s : ByteArray) (w : World) (hm : s.size ≤ 9223372036854775807) :
    Calls Tryd.prog 27 #[.string s] w (GivesB2 (nums s) w) := by
  go_enter Tryd.func27, Tryd.ntmps27
  go_wp2
  go_loopw [4, 5, 6] (fun v4 v5 v6 w' => ∃ (pos : Nat) (P u z : Int), v4 = .int .u64 P ∧ v5 = .int .u64 u ∧ v6 = .int .i32 z ∧ BAt (nums s) pos P u z ∧ w' = w.iter s pos) (fun _ _ _ w' => s.size - w'.iterPos w.heap.size)
  case atStart => exact ⟨0, 0, 10000, 48, rfl, rfl, rfl, BAt.start _, rfl⟩
  case round =>
    obtain ⟨pos, P, u, z0, rfl, rfl, rfl, hB, rfl⟩ := hrel
    obtain ⟨b0, b1, b2, b3⟩ := hB.bounds
    have HB := Lib.hid hB
    have hlen : Hid ((nums s).length = s.size) := nums_length s
    clear hB
    by_cases h1 : pos < s.size
    · obtain ⟨z, p, hnx, zl, zh, hyes, hno⟩ := next_rune (w.iter s pos) w.heap.size s pos (World.iter_heap w s pos) h1
      simp only [iter_at] at hnx
      replace hyes := Lib.hid hyes
      replace hno := Lib.hid hno
      by_cases h4 : pos = 4
      · subst h4
        have hu := HB.out.stop
        have hfin : Hid (¬ Fr (nums s)) := by intro f; have h2 := f.few; have h3 := hlen.out; omega
        go_wp2
        go_ret2
        exact ⟨0, false, rfl, ⟨fun e => Bool.noConfusion e, fun f => (hfin.out f).elim⟩, fun e => Bool.noConfusion e, iter_below _ _ _⟩
      · obtain ⟨v, hv, v1, v2, hvp⟩ := HB.out.unit h4
        replace hvp := Lib.hid hvp
        have hv0 : (v == 0) = false := by simp; omega
        by_cases h2 : z < 48
        · have hbad := Lib.hid (fun f : Fr (nums s) => hno.out (by omega) (f.all pos (by have := hlen.out; omega)))
          go_wp2
          go_ret2
          exact ⟨0, false, rfl, ⟨fun e => Bool.noConfusion e, fun f => (hbad.out f).elim⟩, fun e => Bool.noConfusion e, iter_below _ _ _⟩
        · by_cases h3 : 57 < z
          · have hbad := Lib.hid (fun f : Fr (nums s) => hno.out (by omega) (f.all pos (by have := hlen.out; omega)))
            go_wp2
            go_ret2
            exact ⟨0, false, rfl, ⟨fun e => Bool.noConfusion e, fun f => (hbad.out f).elim⟩, fun e => Bool.noConfusion e, iter_below _ _ _⟩
          · obtain ⟨rfl, hz2⟩ := hyes.out ⟨by omega, by omega⟩
            obtain ⟨m, hmm⟩ : ∃ m, v * (z - 48) = m := ⟨_, rfl⟩
            have hnext := Lib.hid (HB.out.next h4 (by have := hlen.out; omega) hvp.out hz2 (by omega) (by omega) hmm)
            have hnb := hnext.out.bounds
            have m0 : 0 ≤ m := by rw [← hmm]; exact Int.mul_nonneg (by omega) (by omega)
            have m1 : P + m ≤ 9999 := hnb.2.1
            clear hnb
            have hzk : 0 ≤ z - 48 := by omega
            replace hz2 := Lib.hid hz2
            go_wp2
            go_roundw
            case rel => exact ⟨pos + 1, P + m, v, z, by rw [← hmm, ← hv], by rw [hv], rfl, hnext.out, rfl⟩
            case measure => simp; omega
    · have hnx : ∀ ty, (Instr.next (.pointer (some ⟨w.heap.size, 0, none⟩)) true ty).run Tryd.prog (w.iter s pos) = _ := fun ty => run_next_end w s pos ty h1
      have hpe : Hid (pos = (nums s).length) := by have h2 := HB.out.len; have h3 := hlen.out; unfold Hid; omega
      by_cases hz : z0 = 48
      · have hfin := Lib.hid (HB.out.no hpe.out hz)
        subst hz
        go_wp2
        go_ret2
        exact ⟨P, false, rfl, ⟨fun e => Bool.noConfusion e, fun f => (hfin.out f).elim⟩, fun e => Bool.noConfusion e, iter_below _ _ _⟩
      · have hfin := Lib.hid (HB.out.yes hpe.out hz)
        have hzb : (z0 != 48) = true := by simpa using hz
        clear hz
        go_wp2
        go_ret2
        exact ⟨P, true, rfl, ⟨fun _ => hfin.out.1, fun _ => rfl⟩, fun _ => hfin.out.2, iter_below _ _ _⟩

end Go.Proofs.YtfdpiiahclglcaaDoor
