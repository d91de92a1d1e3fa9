/-
  The document's own answers for numbers of bits, walked: a text of digits as a number, or why it is none.
-/
import Derived.Test.YthfmllgflnideaaGreatDoorPkRefs
import Derived.Test.YthfmllgflnideaaGreatDoorPkExact
import Derived.Deep.RegionHeld3
import Derived.Test.YthfmllgflnideaaGreatDoorPkPlain
import Derived.Test.YthfmllgflnideaaGreatDoorPkTexts
import Derived.Test.YthfmllgflnideaaGreatDoorPkVrs
namespace Go.Proofs.YthfmllgflnideaaGreatDoor
open Go.RowKit

set_option maxRecDepth 100000 in
theorem refread_empty (w : World) : Calls Tryz.prog 58 #[.string ⟨#[]⟩] w (GivesWC 0 5 w) := by
  go_enter Tryz.func58, Tryz.ntmps58
  go_wp2
  refine bodyPost_ret (v := .tuple #[.agg #[.int .u64 0, .int .u64 0], .int .i64 5]) (by simp [results, Tryz.results58, go_sem]) rfl ⟨0, 0, rfl, IsW.zero, ?_⟩
  exact (Below.refl _ _).alloc (Nat.le_refl _) _
set_option maxRecDepth 100000 in
theorem refread_ahead (s : ByteArray) (w : World) (hm : s.size ≤ 9223372036854775807) (h0 : 1 < s.size) (hh : (s[0].toNat : Int) = 48) : Calls Tryz.prog 58 #[.string s] w (GivesWC 0 5 w) := by
  obtain ⟨e1, e2⟩ := toList_empty (s := s) (by omega)
  have h1 : 0 < s.size := by omega
  go_enter Tryz.func58, Tryz.ntmps58
  go_wp2
  refine bodyPost_ret (v := .tuple #[.agg #[.int .u64 0, .int .u64 0], .int .i64 5]) (by simp [results, Tryz.results58, go_sem]) rfl ⟨0, 0, rfl, IsW.zero, ?_⟩
  exact (Below.refl _ _).alloc (Nat.le_refl _) _

set_option maxRecDepth 100000 in
set_option maxHeartbeats 2000000 in
theorem refread_bad (s : ByteArray) (w : World) (hm : s.size ≤ 9223372036854775807) (h0 : 0 < s.size) (hh : ¬ (s[0].toNat : Int) = 48) (hd : ¬ Dg (nums s)) : Calls Tryz.prog 58 #[.string s] w (GivesWC 0 5 w) := by
  obtain ⟨e1, e2⟩ := toList_empty (s := s) (by omega)
  have hz0 : ((s[0].toNat : Int) == 48) = false := by simpa using hh
  have hbad : ¬ ∀ i, i < s.size → 48 ≤ (nums s).getD i 0 ∧ (nums s).getD i 0 ≤ 57 := fun hall => hd
    ⟨fun e => by have := nums_length s; rw [e] at this; simp at this; omega, fun e => (hh (by rw [← nums_at s 0 h0]; exact e)).elim, fun i hi => hall i (by rw [nums_length] at hi; exact hi)⟩
  replace hbad := Lib.hid hbad
  clear hd hh
  go_enter Tryz.func58, Tryz.ntmps58
  go_wp2
  go_loop [4] (fun i => ∃ k : Nat, k ≤ s.size ∧ i = .int .i64 k ∧ Hid (∀ j, j < k → 48 ≤ (nums s).getD j 0 ∧ (nums s).getD j 0 ≤ 57)) (fun i => s.size - (intOf i).toNat)
  case atStart => exact ⟨0, Nat.zero_le _, rfl, Lib.hid (fun j hj => by omega)⟩
  case round =>
    obtain ⟨k, hk, rfl, hall⟩ := hrel
    by_cases h1 : k < s.size
    · have hzz := nums_at s k h1
      obtain ⟨z, hz⟩ : ∃ z, (s[k].toNat : Int) = z := ⟨_, rfl⟩
      rw [hz] at hzz
      have hb0 : 0 ≤ z ∧ z ≤ 255 := by rw [← hz]; have := s[k].toNat_lt; omega
      obtain ⟨hb0, hb1⟩ := hb0
      replace hzz := Lib.hid hzz
      by_cases h2 : z < 48
      · go_wp2
        refine bodyPost_ret (v := .tuple #[.agg #[.int .u64 0, .int .u64 0], .int .i64 5]) (by simp [results, Tryz.results58, go_sem]) rfl ⟨0, 0, rfl, IsW.zero, ?_⟩
        exact (Below.refl _ _).alloc (Nat.le_refl _) _
      · by_cases h3 : 57 < z
        · go_wp2
          refine bodyPost_ret (v := .tuple #[.agg #[.int .u64 0, .int .u64 0], .int .i64 5]) (by simp [results, Tryz.results58, go_sem]) rfl ⟨0, 0, rfl, IsW.zero, ?_⟩
          exact (Below.refl _ _).alloc (Nat.le_refl _) _
        · have hall' : Hid (∀ j, j < k + 1 → 48 ≤ (nums s).getD j 0 ∧ (nums s).getD j 0 ≤ 57) := by
            intro i hi
            by_cases e : i = k
            · rw [e, hzz.out]; exact ⟨by omega, by omega⟩
            · exact hall.out i (by omega)
          go_wp2
          go_round
          case rel => exact ⟨k + 1, by omega, by go_num, hall'.out⟩
          case measure => simp [intOf]; omega
    · obtain rfl : k = s.size := by omega
      exact (hbad.out hall.out).elim

theorem four_bools (W : World) (g : Nat) (hg : g = W.heap.size) : Bools (W.alloc (.cells #[.bool false, .bool true, .bool false, .bool true] 4)) (.slice (some ⟨g, 0, none⟩) 4 4) [false, true, false, true] := by
  subst hg
  refine ⟨W.heap.size, 0, 4, rfl, by decide, by simp, fun i hi => ?_⟩
  rcases i with _ | _ | _ | _ | i
  · simp
  · simp
  · simp
  · simp
  · simp at hi; omega
theorem four_eq : [false, true, false, true].length = 4 := rfl
theorem four_len : [false, true, false, true].length ≤ 100000 := by simp
/-- What is known at the head of a round. -/
structure ReadAt (zs : List Int) (l : List Bool) (k : Nat) : Prop where
  len : l.length ≤ 129 + 5 * k
  num : val l = numOf (zs.take k)
theorem ReadAt.start (zs : List Int) : ReadAt zs [] 0 := ⟨by simp, rfl⟩
theorem ReadAt.next {zs : List Int} {l l1 l2 : List Bool} {k n : Nat} (h : ReadAt zs l k) (hk : k < zs.length) (h1 : l1.length ≤ l.length + 4) (e1 : val l1 = val l * 10) (h2 : l2.length ≤ max l1.length 128 + 1) (e2 : val l2 = val l1 + n) (hn : n = (zs.getD k 0 - 48).toNat) : ReadAt zs l2 (k + 1) := by
  obtain ⟨a, b⟩ := h
  exact ⟨by omega, by rw [numOf_step _ _ hk, e2, e1, b, hn]; omega⟩

/-- A letter of a text of digits. -/
theorem digit_at {s : ByteArray} (hall : ∀ i, i < (nums s).length → 48 ≤ (nums s).getD i 0 ∧ (nums s).getD i 0 ≤ 57) (k : Nat) (h : k < s.size) : ∃ z : Int, (s[k].toNat : Int) = z ∧ 48 ≤ z ∧ z ≤ 57 ∧ Hid ((nums s).getD k 0 = z) := by
  have h1 := hall k (by rw [nums_length]; exact h)
  rw [nums_at s k h] at h1
  exact ⟨_, rfl, h1.1, h1.2, nums_at s k h⟩
/-- What stands in the call's own memory: the place of the result, and ten. -/
structure RdMem (w wr : World) : Prop where
  r0 : wr.cell? ⟨w.heap.size, 0, none⟩ = some (.int .u64 0)
  r1 : wr.cell? ⟨w.heap.size, 1, none⟩ = some (.int .u64 0)
  q0 : wr.frozen? ⟨w.heap.size, 0, none⟩ = false
  q1 : wr.frozen? ⟨w.heap.size, 1, none⟩ = false
  ten : Bools wr (.slice (some ⟨w.heap.size + 1 + 1, 0, none⟩) 4 4) [false, true, false, true]
  s0 : w.heap.size < wr.heap.size
  bel : Below w.heap.size w wr
theorem RdMem.after {w wr w1 : World} (h : RdMem w wr) (hb : Below wr.heap.size wr w1) : RdMem w w1 := by
  obtain ⟨r0, r1, q0, q1, ten, s0, bel⟩ := h
  exact ⟨(hb.cell (p := ⟨w.heap.size, 0, none⟩) s0).trans r0, (hb.cell (p := ⟨w.heap.size, 1, none⟩) s0).trans r1, (hb.frozen (p := ⟨w.heap.size, 0, none⟩) s0).trans q0, (hb.frozen (p := ⟨w.heap.size, 1, none⟩) s0).trans q1, ten.below hb, Nat.lt_of_lt_of_le s0 hb.size, bel.trans (hb.mono bel.size)⟩
theorem RdMem.start (w : World) : RdMem w (((w.alloc (.cells #[.int .u64 0, .int .u64 0] 89)).alloc (.cells #[] 4)).alloc (.cells #[.bool false, .bool true, .bool false, .bool true] 4)) := by
  have hb : Below (w.alloc (.cells #[.int .u64 0, .int .u64 0] 89)).heap.size (w.alloc (.cells #[.int .u64 0, .int .u64 0] 89)) (((w.alloc (.cells #[.int .u64 0, .int .u64 0] 89)).alloc (.cells #[] 4)).alloc (.cells #[.bool false, .bool true, .bool false, .bool true] 4)) :=
    ((Below.refl _ _).alloc (Nat.le_refl _) _).alloc (by simp) _
  obtain ⟨r0, r1, q0, q1, s0, bel⟩ := res_kept hb
  exact ⟨r0, r1, q0, q1, four_bools _ _ (by simp), s0, bel⟩
theorem RdMem.bools (w : World) : Bools (((w.alloc (.cells #[.int .u64 0, .int .u64 0] 89)).alloc (.cells #[] 4)).alloc (.cells #[.bool false, .bool true, .bool false, .bool true] 4)) (.slice (some ⟨w.heap.size + 1, 0, none⟩) 0 0) [] :=
  (OwnBits.fresh _ 0 _ (by simp) (Nat.zero_le _)).bools.alloc _

set_option maxRecDepth 100000 in
set_option maxHeartbeats 4000000 in
theorem refread_yes (s : ByteArray) (w : World) (hm : s.size ≤ 9223372036854775807) (hd : Dg (nums s)) : Calls Tryz.prog 58 #[.string s] w (GivesWC (capN (numOf (nums s))) (capC (numOf (nums s))) w) := by
  have h0 : 0 < s.size := by
    have : ¬ s.size = 0 := fun e => hd.some (List.eq_nil_of_length_eq_zero (by rw [nums_length, e]))
    omega
  obtain ⟨e1, e2⟩ := toList_empty (s := s) (by omega)
  have hz0 : ((s[0].toNat : Int) == 48) = false ∨ s.size = 1 := by
    by_cases hh : (s[0].toNat : Int) = 48
    · have := hd.head (by rw [nums_at s 0 h0]; exact hh)
      rw [nums_length] at this; exact Or.inr this
    · exact Or.inl (by simpa using hh)
  have hlong := fun (h : 39 < s.size) => hd.long (by rw [nums_length]; exact h)
  have hall := Lib.hid hd.all
  replace hlong := Lib.hid hlong
  by_cases hz1 : ((s[0].toNat : Int) == 48) = true
  · have hs1 : s.size ≤ 1 := by
      rcases hz0 with hz0 | hz0
      · rw [hz0] at hz1; cases hz1
      · omega
    clear hz0 hd
    go_enter Tryz.func58, Tryz.ntmps58
    go_wp2
    go_loop [4] (fun i => ∃ k : Nat, k ≤ s.size ∧ i = .int .i64 k) (fun i => s.size - (intOf i).toNat)
    case atStart => exact ⟨0, Nat.zero_le _, rfl⟩
    case round =>
      obtain ⟨k, hk, rfl⟩ := hrel
      by_cases h1 : k < s.size
      · obtain ⟨z, hz, hb0, hb1, hzz⟩ := digit_at hall.out k h1
        go_wp2
        go_round
        case rel => exact ⟨k + 1, by omega, by go_num⟩
        case measure => simp [intOf]; omega
      · obtain rfl : k = s.size := by omega
        by_cases hl : 39 < s.size
        · omega
        · go_wp2
          go_loopw [5, 7] (fun v i wr => ∃ (k : Nat) (l : List Bool), k ≤ s.size ∧ i = .int .i64 k ∧ Bools wr v l ∧ ReadAt (nums s) l k ∧ RdMem w wr) (fun _ i _ => s.size - (intOf i).toNat)
          case atStart => exact ⟨0, [], Nat.zero_le _, rfl, RdMem.bools w, ReadAt.start _, RdMem.start w⟩
          case round =>
            obtain ⟨k2, l, hk2, rfl, hv, hR, hM⟩ := hrel
            replace hv := Lib.hid hv
            replace hR := Lib.hid hR
            by_cases h2 : k2 < s.size
            · obtain ⟨z, hz, hb0, hb1, hzz⟩ := digit_at hall.out k2 h2
              have HV := Lib.hid hv.out.drew
              have HM := Lib.hid (hM.after (Below.refl _ _).drew)
              have hk3 := Lib.hid (show k2 < (nums s).length by rw [nums_length]; exact h2)
              have hla : l.length ≤ 100000 := by have := hR.out.len; omega
              have hten := HM.out.ten
              have hw0 : IntKind.u64.wrap z = z := by rw [IntKind.wrap_u64]; omega
              have hw1 : IntKind.u64.wrap (z - 48) = z - 48 := by rw [IntKind.wrap_u64]; omega
              go_wp2
              go_region_held3 (fun W => W.heap.size = W.heap.size) (first | rfl | go_keep)
                (first
                  | (go_at_call 74; (with_reducible refine (times_any _ _ l [false, true, false, true] wr.drew HV.out hten hla four_len).mono ?_); rintro e w2 ⟨v1, l1, rfl, b1, ⟨n1, c1⟩, g1⟩; replace n1 := Lib.hid n1; replace c1 := Lib.hid (show val l1 = val l * 10 from c1); replace b1 := Lib.hid b1; have HM2 := Lib.hid (HM.out.after g1))
                  | (go_at_call 75; (with_reducible refine (bits_small (z - 48) _ (by omega) (by omega)).mono ?_); rintro e w3 ⟨v2, l2, rfl, b2, ⟨n2, c2⟩, g2⟩; replace n2 := Lib.hid n2; replace c2 := Lib.hid c2; replace b2 := Lib.hid b2; have HM3 := Lib.hid (HM2.out.after g2); have b3 := Lib.hid (b1.out.below g2))
                  | (go_at_call 73; (with_reducible refine (plus_any v1 v2 l1 l2 _ b3.out.orNil b2.out.orNil (by have t := n1.out; rw [four_eq] at t; omega) (by have := n2.out; omega)).mono ?_); rintro e w4 ⟨v4, l4, rfl, b4, ⟨n4, c4⟩, g4⟩; replace n4 := Lib.hid n4; replace c4 := Lib.hid c4; replace b4 := Lib.hid b4; have HM4 := Lib.hid (HM3.out.after g4)))
              all_goals
                have hnext := ReadAt.next hR.out hk3.out (by have t := n1.out; rw [four_eq] at t; exact t) c1.out (by have t := n4.out; rw [n2.out] at t; exact t) (c4.out.trans (by rw [c2.out])) (by rw [hzz.out])
                clear hw0 hw1
                go_wp2
                go_roundw
                case rel => exact ⟨k2 + 1, l4, by omega, by go_num, b4.out, hnext, HM4.out⟩
                case measure => simp [intOf]; omega
            · obtain rfl : k2 = s.size := by omega
              have hN : Hid (val l = numOf (nums s)) := by unfold Hid; rw [hR.out.num, ← nums_length, List.take_length]
              have hlz : l.length ≤ 400 := by have := hR.out.len; omega
              by_cases hw : W128 (numOf (nums s))
              · have hw2 := Lib.hid hw
                clear hw
                go_wp2_with (go_at_call 76; (with_reducible refine (of_any _ l _ hv.out (by omega)).mono ?_); rintro e w5 ⟨ph, pl, ok, rfl, hW5, hok, g5⟩; rw [hN.out] at hok hW5; rw [capN_in hw2.out] at hW5; obtain rfl := hok.mpr hw2.out; clear hok; have HM5 := hM.after g5; obtain ⟨r0, r1, q0, q1, _, s0, bel⟩ := HM5)
                refine bodyPost_ret (v := .tuple #[.agg #[.int .u64 ph, .int .u64 pl], .int .i64 0]) (by simp [results, Tryz.results58, go_sem, r0, r1, s0]) rfl ⟨ph, pl, by rw [capC_in hw2.out], by rw [capN_in hw2.out]; exact hW5, ?_⟩
                exact ((bel.setCell (by simp) _).setCell (by simp) _).alloc (by simp; omega) _
              · have hw2 := Lib.hid hw
                clear hw
                go_wp2_with (go_at_call 76; (with_reducible refine (of_any _ l _ hv.out (by omega)).mono ?_); rintro e w5 ⟨ph, pl, ok, rfl, hW5, hok, g5⟩; rw [hN.out] at hok hW5; obtain rfl : ok = false := (by cases ok; rfl; exact (hw2.out (hok.mp rfl)).elim); clear hok hW5; have HM5 := hM.after g5; obtain ⟨r0, r1, q0, q1, _, s0, bel⟩ := HM5)
                refine bodyPost_ret (v := .tuple #[.agg #[.int .u64 0, .int .u64 0], .int .i64 3]) (by simp [results, Tryz.results58, go_sem, r0, r1, s0]) rfl ⟨0, 0, by rw [capC_out hw2.out], by rw [capN_out hw2.out]; exact IsW.zero, ?_⟩
                exact ((bel.setCell (by simp) _).setCell (by simp) _).alloc (by simp; omega) _
  · have hz1 : ((s[0].toNat : Int) == 48) = false := by simpa using hz1
    clear hz0 hd
    go_enter Tryz.func58, Tryz.ntmps58
    go_wp2
    go_loop [4] (fun i => ∃ k : Nat, k ≤ s.size ∧ i = .int .i64 k) (fun i => s.size - (intOf i).toNat)
    case atStart => exact ⟨0, Nat.zero_le _, rfl⟩
    case round =>
      obtain ⟨k, hk, rfl⟩ := hrel
      by_cases h1 : k < s.size
      · obtain ⟨z, hz, hb0, hb1, hzz⟩ := digit_at hall.out k h1
        go_wp2
        go_round
        case rel => exact ⟨k + 1, by omega, by go_num⟩
        case measure => simp [intOf]; omega
      · obtain rfl : k = s.size := by omega
        by_cases hl : 39 < s.size
        · have hov := Lib.hid (hlong.out hl)
          go_wp2
          refine bodyPost_ret (v := .tuple #[.agg #[.int .u64 0, .int .u64 0], .int .i64 3]) (by simp [results, Tryz.results58, go_sem]) rfl ⟨0, 0, by rw [capC_out hov.out], by rw [capN_out hov.out]; exact IsW.zero, ?_⟩
          exact (Below.refl _ _).alloc (Nat.le_refl _) _
        · go_wp2
          go_loopw [5, 7] (fun v i wr => ∃ (k : Nat) (l : List Bool), k ≤ s.size ∧ i = .int .i64 k ∧ Bools wr v l ∧ ReadAt (nums s) l k ∧ RdMem w wr) (fun _ i _ => s.size - (intOf i).toNat)
          case atStart => exact ⟨0, [], Nat.zero_le _, rfl, RdMem.bools w, ReadAt.start _, RdMem.start w⟩
          case round =>
            obtain ⟨k2, l, hk2, rfl, hv, hR, hM⟩ := hrel
            replace hv := Lib.hid hv
            replace hR := Lib.hid hR
            by_cases h2 : k2 < s.size
            · obtain ⟨z, hz, hb0, hb1, hzz⟩ := digit_at hall.out k2 h2
              have HV := Lib.hid hv.out.drew
              have HM := Lib.hid (hM.after (Below.refl _ _).drew)
              have hk3 := Lib.hid (show k2 < (nums s).length by rw [nums_length]; exact h2)
              have hla : l.length ≤ 100000 := by have := hR.out.len; omega
              have hten := HM.out.ten
              have hw0 : IntKind.u64.wrap z = z := by rw [IntKind.wrap_u64]; omega
              have hw1 : IntKind.u64.wrap (z - 48) = z - 48 := by rw [IntKind.wrap_u64]; omega
              go_wp2
              go_region_held3 (fun W => W.heap.size = W.heap.size) (first | rfl | go_keep)
                (first
                  | (go_at_call 74; (with_reducible refine (times_any _ _ l [false, true, false, true] wr.drew HV.out hten hla four_len).mono ?_); rintro e w2 ⟨v1, l1, rfl, b1, ⟨n1, c1⟩, g1⟩; replace n1 := Lib.hid n1; replace c1 := Lib.hid (show val l1 = val l * 10 from c1); replace b1 := Lib.hid b1; have HM2 := Lib.hid (HM.out.after g1))
                  | (go_at_call 75; (with_reducible refine (bits_small (z - 48) _ (by omega) (by omega)).mono ?_); rintro e w3 ⟨v2, l2, rfl, b2, ⟨n2, c2⟩, g2⟩; replace n2 := Lib.hid n2; replace c2 := Lib.hid c2; replace b2 := Lib.hid b2; have HM3 := Lib.hid (HM2.out.after g2); have b3 := Lib.hid (b1.out.below g2))
                  | (go_at_call 73; (with_reducible refine (plus_any v1 v2 l1 l2 _ b3.out.orNil b2.out.orNil (by have t := n1.out; rw [four_eq] at t; omega) (by have := n2.out; omega)).mono ?_); rintro e w4 ⟨v4, l4, rfl, b4, ⟨n4, c4⟩, g4⟩; replace n4 := Lib.hid n4; replace c4 := Lib.hid c4; replace b4 := Lib.hid b4; have HM4 := Lib.hid (HM3.out.after g4)))
              all_goals
                have hnext := ReadAt.next hR.out hk3.out (by have t := n1.out; rw [four_eq] at t; exact t) c1.out (by have t := n4.out; rw [n2.out] at t; exact t) (c4.out.trans (by rw [c2.out])) (by rw [hzz.out])
                clear hw0 hw1
                go_wp2
                go_roundw
                case rel => exact ⟨k2 + 1, l4, by omega, by go_num, b4.out, hnext, HM4.out⟩
                case measure => simp [intOf]; omega
            · obtain rfl : k2 = s.size := by omega
              have hN : Hid (val l = numOf (nums s)) := by unfold Hid; rw [hR.out.num, ← nums_length, List.take_length]
              have hlz : l.length ≤ 400 := by have := hR.out.len; omega
              by_cases hw : W128 (numOf (nums s))
              · have hw2 := Lib.hid hw
                clear hw
                go_wp2_with (go_at_call 76; (with_reducible refine (of_any _ l _ hv.out (by omega)).mono ?_); rintro e w5 ⟨ph, pl, ok, rfl, hW5, hok, g5⟩; rw [hN.out] at hok hW5; rw [capN_in hw2.out] at hW5; obtain rfl := hok.mpr hw2.out; clear hok; have HM5 := hM.after g5; obtain ⟨r0, r1, q0, q1, _, s0, bel⟩ := HM5)
                refine bodyPost_ret (v := .tuple #[.agg #[.int .u64 ph, .int .u64 pl], .int .i64 0]) (by simp [results, Tryz.results58, go_sem, r0, r1, s0]) rfl ⟨ph, pl, by rw [capC_in hw2.out], by rw [capN_in hw2.out]; exact hW5, ?_⟩
                exact ((bel.setCell (by simp) _).setCell (by simp) _).alloc (by simp; omega) _
              · have hw2 := Lib.hid hw
                clear hw
                go_wp2_with (go_at_call 76; (with_reducible refine (of_any _ l _ hv.out (by omega)).mono ?_); rintro e w5 ⟨ph, pl, ok, rfl, hW5, hok, g5⟩; rw [hN.out] at hok hW5; obtain rfl : ok = false := (by cases ok; rfl; exact (hw2.out (hok.mp rfl)).elim); clear hok hW5; have HM5 := hM.after g5; obtain ⟨r0, r1, q0, q1, _, s0, bel⟩ := HM5)
                refine bodyPost_ret (v := .tuple #[.agg #[.int .u64 0, .int .u64 0], .int .i64 3]) (by simp [results, Tryz.results58, go_sem, r0, r1, s0]) rfl ⟨0, 0, by rw [capC_out hw2.out], by rw [capN_out hw2.out]; exact IsW.zero, ?_⟩
                exact ((bel.setCell (by simp) _).setCell (by simp) _).alloc (by simp; omega) _
end Go.Proofs.YthfmllgflnideaaGreatDoor

/-
  The document's calls of layer 13: digit, Within, Text, digits, number: walked.
-/
namespace Go.Proofs.YthfmllgflnideaaGreatDoor
open Go.RowKit

theorem sdigit_any (r : Int) (w : World) : Calls Tryz.prog 44 #[.int .i32 r] w fun e w' => e = .returned (.bool (digitB r)) ∧ w = w' := by
  unfold digitB
  by_cases h1 : 48 ≤ r
  · go_enter Tryz.func44, Tryz.ntmps44
    go_wp2
    go_ret
    exact ⟨by simp [h1], rfl⟩
  · go_enter Tryz.func44, Tryz.ntmps44
    go_wp2
    go_ret
    exact ⟨by rw [decide_eq_false (show ¬ 48 ≤ r by omega)]; rfl, rfl⟩
theorem sdigit_is {r : Int} {q : Bool} (h : digitB r = q) (w : World) : Calls Tryz.prog 44 #[.int .i32 r] w fun e w' => e = .returned (.bool q) ∧ w = w' := h ▸ sdigit_any r w
set_option maxRecDepth 100000 in
set_option maxHeartbeats 4000000 in
theorem swithin_any (r : Int) (w : World) : Calls Tryz.prog 28 #[.int .i32 r] w fun e w' => e = .returned (.bool (withinB r)) ∧ w = w' := by
  unfold withinB
  obtain ⟨a, ha⟩ : ∃ x, letterB r = x := ⟨_, rfl⟩
  obtain ⟨b, hb⟩ : ∃ x, digitB r = x := ⟨_, rfl⟩
  have HL := Lib.hid (fun W => rletter_is ha W)
  have HD := Lib.hid (fun W => sdigit_is hb W)
  rw [ha, hb]
  clear ha hb
  cases a
  · cases b
    · by_cases h1 : r = 95
      · subst h1
        go_enter Tryz.func28, Tryz.ntmps28
        go_wp2_with (first
          | (go_at_call 43; (with_reducible refine (HL.out _).mono ?_); rintro e w1 ⟨rfl, rfl⟩)
          | (go_at_call 44; (with_reducible refine (HD.out _).mono ?_); rintro e w1 ⟨rfl, rfl⟩))
        go_ret
        exact ⟨rfl, rfl⟩
      · have e1 : (r == 95) = false := by simpa using h1
        by_cases h2 : r = 45
        · subst h2
          go_enter Tryz.func28, Tryz.ntmps28
          go_wp2_with (first
            | (go_at_call 43; (with_reducible refine (HL.out _).mono ?_); rintro e w1 ⟨rfl, rfl⟩)
            | (go_at_call 44; (with_reducible refine (HD.out _).mono ?_); rintro e w1 ⟨rfl, rfl⟩))
          go_ret
          exact ⟨rfl, rfl⟩
        · have e2 : (r == 45) = false := by simpa using h2
          by_cases h3 : r = 46
          · subst h3
            go_enter Tryz.func28, Tryz.ntmps28
            go_wp2_with (first
              | (go_at_call 43; (with_reducible refine (HL.out _).mono ?_); rintro e w1 ⟨rfl, rfl⟩)
              | (go_at_call 44; (with_reducible refine (HD.out _).mono ?_); rintro e w1 ⟨rfl, rfl⟩))
            go_ret
            exact ⟨rfl, rfl⟩
          · have e3 : (r == 46) = false := by simpa using h3
            go_enter Tryz.func28, Tryz.ntmps28
            go_wp2_with (first
              | (go_at_call 43; (with_reducible refine (HL.out _).mono ?_); rintro e w1 ⟨rfl, rfl⟩)
              | (go_at_call 44; (with_reducible refine (HD.out _).mono ?_); rintro e w1 ⟨rfl, rfl⟩))
            go_ret
            exact ⟨by simp only [decide_eq_false h1, decide_eq_false h2, decide_eq_false h3, Bool.false_or]; rfl, rfl⟩
    · go_enter Tryz.func28, Tryz.ntmps28
      go_wp2_with (first
        | (go_at_call 43; (with_reducible refine (HL.out _).mono ?_); rintro e w1 ⟨rfl, rfl⟩)
        | (go_at_call 44; (with_reducible refine (HD.out _).mono ?_); rintro e w1 ⟨rfl, rfl⟩))
      go_ret
      exact ⟨rfl, rfl⟩
  · go_enter Tryz.func28, Tryz.ntmps28
    go_wp2_with (first
      | (go_at_call 43; (with_reducible refine (HL.out _).mono ?_); rintro e w1 ⟨rfl, rfl⟩))
    go_ret
    exact ⟨rfl, rfl⟩
theorem swithin_is {r : Int} {q : Bool} (h : withinB r = q) (w : World) : Calls Tryz.prog 28 #[.int .i32 r] w fun e w' => e = .returned (.bool q) ∧ w = w' := h ▸ swithin_any r w

set_option maxRecDepth 100000 in
set_option maxHeartbeats 4000000 in
/-- Runes as a text. -/
theorem stext_any (v : Value) (l : List Int) (w : World) (hv : Ints .i32 w v l) (hbd : ∀ z ∈ l, -1 ≤ z ∧ z ≤ 1114111) (hl : l.length ≤ 1000000) :
    Calls Tryz.prog 27 #[v] w fun e w' => e = .returned (.string (strOfNums (textR l))) ∧ Below w.heap.size w w' := by
  obtain ⟨b, off, cap, rfl, hcap, hb, hcell⟩ := hv
  have HC := Lib.hid hcell
  have HBD := Lib.hid hbd
  clear hcell hbd
  go_enter Tryz.func27, Tryz.ntmps27
  go_wp2
  go_loopw [3, 4] (fun v3 v4 wr => ∃ i : Nat, i ≤ l.length ∧ v3 = .string (strOfNums (textR (l.take i))) ∧ v4 = .int .i64 i ∧ Below w.heap.size w wr) (fun _ v4 _ => l.length - (intOf v4).toNat)
  case atStart => exact ⟨0, Nat.zero_le _, rfl, rfl, Below.refl _ _⟩
  case round =>
    obtain ⟨i, hi, rfl, rfl, hbel⟩ := hrel
    have HB := Lib.hid hbel
    clear hbel
    obtain ⟨xs, hxs⟩ : ∃ xs, textR (l.take i) = xs := ⟨_, rfl⟩
    have hlx : (strOfNums xs).size ≤ 4 * i := by
      rw [strOfNums_size, ← hxs]
      have h5 := textR_len (l.take i)
      rw [List.length_take] at h5
      omega
    rw [hxs]
    have HX := Lib.hid hxs
    clear hxs
    by_cases h1 : i < l.length
    · have hx : wr.cell? ⟨b, off + i, none⟩ = some (.int .i32 (l.getD i 0)) := (HB.out.cell (p := ⟨b, off + i, none⟩) hb).trans (HC.out i h1)
      have zz := getD_bd HBD.out h1
      obtain ⟨z, hz⟩ : ∃ z, l.getD i 0 = z := ⟨_, rfl⟩
      rw [hz] at hx zz
      have hst : Hid (∀ t, byteR z = t → strOfNums xs ++ strOfNums t = strOfNums (textR (l.take (i + 1)))) := fun t ht => by
        rw [take_snoc h1, textR_snoc, hz, ht, HX.out, strOfNums_append]
      clear hz
      by_cases h0 : z < 0
      · have hs := Lib.hid (hst.out [255] (if_pos h0))
        have hsz : ¬ 9223372036854775807 < (strOfNums xs).size + 1 := by omega
        go_wp2
        go_roundw
        case rel => exact ⟨i + 1, by omega, by rw [← hs.out]; rfl, by go_num, HB.out⟩
        case measure => simp [intOf]; omega
      · have hs := Lib.hid (hst.out (encL z) (if_neg h0))
        have hby := Lib.hid (rbytes_is (rfl : encL z = encL z) wr (by omega) zz.2)
        obtain ⟨t, ht⟩ : ∃ t, strOfNums (encL z) = t := ⟨_, rfl⟩
        have htl : t.size ≤ 4 := by rw [← ht, strOfNums_size]; exact encL_len z
        rw [ht] at hs hby
        have hsz : ¬ 9223372036854775807 < (strOfNums xs).size + t.size := by omega
        clear ht
        go_wp2_with (go_at_call 42; (with_reducible refine (hby.out).mono ?_); rintro e w2 ⟨rfl, g2⟩; have G2 := Lib.hid (below_step HB.out g2); clear g2)
        go_roundw
        case rel => exact ⟨i + 1, by omega, by rw [← hs.out], by go_num, G2.out⟩
        case measure => simp [intOf]; omega
    · have hfin : Hid (xs = textR l) := by
        have := HX.out
        rw [List.take_of_length_le (by omega)] at this
        exact this.symm
      go_wp2
      go_ret
      exact ⟨by rw [hfin.out]; rfl, HB.out⟩

set_option maxRecDepth 100000 in
set_option maxHeartbeats 4000000 in
/-- Digits alone? -/
theorem sdigits_any (s : ByteArray) (w : World) (hm : s.size ≤ 4294967296) : Calls Tryz.prog 46 #[.string s] w (GivesQ (AllD (nums s)) w) := by
  have HD := Lib.hid (fun r W => sdigit_any r W)
  go_enter Tryz.func46, Tryz.ntmps46
  go_wp2
  go_loop [3] (fun v3 => ∃ i : Nat, i ≤ s.size ∧ v3 = .int .i64 i ∧ Hid (∀ j, j < i → 48 ≤ (nums s).getD j 0 ∧ (nums s).getD j 0 ≤ 57)) (fun v3 => s.size - (intOf v3).toNat)
  case atStart => exact ⟨0, Nat.zero_le _, rfl, Lib.hid (fun j hj => by omega)⟩
  case round =>
    obtain ⟨i, hi, rfl, hall⟩ := hrel
    by_cases h1 : i < s.size
    · have hz0 := nums_at s i h1
      obtain ⟨z, hz⟩ : ∃ z : Int, (s[i].toNat : Int) = z := ⟨_, rfl⟩
      have hz2 : 0 ≤ z ∧ z ≤ 255 := by rw [← hz]; have := s[i].toNat_lt; omega
      rw [hz] at hz0
      have HZ := Lib.hid hz0
      have hwz : IntKind.i32.wrap z = z := by rw [IntKind.wrap_i32]; omega
      clear hz0
      by_cases h2 : digitB z = true
      · have hd := Lib.hid (fun W => sdigit_is h2 W)
        have hall' : Hid (∀ j, j < i + 1 → 48 ≤ (nums s).getD j 0 ∧ (nums s).getD j 0 ≤ 57) := fun j hj => by
          by_cases e : j = i
          · rw [e, HZ.out]; unfold digitB at h2; simpa using h2
          · exact hall.out j (by omega)
        clear h2
        go_wp2_with (go_at_call 44; (with_reducible refine (hd.out _).mono ?_); rintro e w1 ⟨rfl, rfl⟩)
        go_round
        case rel => exact ⟨i + 1, by omega, by go_num, hall'⟩
        case measure => simp [intOf]; omega
      · have hd := Lib.hid (fun W => sdigit_is (Bool.eq_false_iff.mpr h2) W)
        have hbad : Hid (¬ AllD (nums s)) := fun h => h2 (by
          have := h.2 i (by rw [nums_length]; exact h1)
          rw [HZ.out] at this
          unfold digitB
          simpa using this)
        clear h2
        go_wp2_with (go_at_call 44; (with_reducible refine (hd.out _).mono ?_); rintro e w1 ⟨rfl, rfl⟩)
        go_ret
        exact GivesQ.no hbad.out (Below.refl _ _)
    · by_cases h0 : 0 < s.size
      · have hfin : Hid (AllD (nums s)) := ⟨fun e => by have := nums_length s; rw [e] at this; simp at this; omega, fun j hj => hall.out j (by rw [nums_length] at hj; omega)⟩
        go_wp2
        go_ret
        exact ⟨true, by first | rfl | simp [h0], ⟨fun _ => hfin.out, fun _ => rfl⟩, Below.refl _ _⟩
      · have hfin : Hid (¬ AllD (nums s)) := fun h => h.1 (List.eq_nil_of_length_eq_zero (by rw [nums_length]; omega))
        have hs0 : s.size = 0 := by omega
        go_wp2
        go_ret
        exact ⟨false, by first | rfl | simp [hs0], ⟨fun e => Bool.noConfusion e, fun h => (hfin.out h).elim⟩, Below.refl _ _⟩

end Go.Proofs.YthfmllgflnideaaGreatDoor

/-
  Pieces of texts, by their bytes.
-/
namespace Go.Proofs.YthfmllgflnideaaGreatDoor
open Go.RowKit

theorem pstr_ext (l : List Int) (hb : ∀ z ∈ l, 0 ≤ z ∧ z ≤ 255) (i j : Nat) : (strOfNums l).extract i j = strOfNums ((l.drop i).take (j - i)) := by
  have h1 : nums ((strOfNums l).extract i j) = ((nums (strOfNums l)).drop i).take (j - i) := by
    simp only [nums, ByteArray.data_extract, Array.toList_extract, List.extract_eq_take_drop, List.map_take, List.map_drop]
  rw [nums_strOfNums l hb] at h1
  rw [← h1, strOfNums_nums]
theorem pstr_len (l : List Int) : (strOfNums l).size = l.length := by rw [← nums_length]; simp [nums, strOfNums]
theorem pstr_to (Z : List Int) (hb : ∀ z ∈ Z, 0 ≤ z ∧ z ≤ 255) (k : Nat) (zk : Int) (ek : zk = (k : Int)) (hf : k ≤ Z.length) (W : World) :
    (Instr.slice 9 (.string (strOfNums Z)) none (some (.int .i64 zk)) none).run Tryz.prog W = .ok (.string (strOfNums (Z.take k))) W := by
  subst ek
  rw [run_slice_string_to_if W 9 _ .i64 (k : Int) Tryz.underlying9, if_pos ⟨by omega, by rw [pstr_len]; omega⟩, pstr_ext Z hb, Int.toNat_natCast, Nat.sub_zero, List.drop_zero]
theorem pstr_from (Z : List Int) (hb : ∀ z ∈ Z, 0 ≤ z ∧ z ≤ 255) (k : Nat) (zk : Int) (ek : zk = (k : Int)) (hf : k ≤ Z.length) (W : World) :
    (Instr.slice 9 (.string (strOfNums Z)) (some (.int .i64 zk)) none none).run Tryz.prog W = .ok (.string (strOfNums (Z.drop k))) W := by
  subst ek
  rw [run_slice_string_from_if W 9 _ .i64 (k : Int) Tryz.underlying9, if_pos ⟨by omega, by rw [pstr_len]; omega⟩, pstr_ext Z hb, Int.toNat_natCast, List.take_of_length_le (by rw [List.length_drop, pstr_len]; exact Nat.le_refl _)]

end Go.Proofs.YthfmllgflnideaaGreatDoor

/-
  The document's calls of layer 13: number, factor: walked.
-/
namespace Go.Proofs.YthfmllgflnideaaGreatDoor
open Go.RowKit

theorem refread_none (s : ByteArray) (w : World) (hm : s.size ≤ 9223372036854775807) (hd : ¬ Dg (nums s)) : Calls Tryz.prog 58 #[.string s] w (GivesWC 0 5 w) := by
  by_cases h0 : s.size = 0
  · have e : s = ⟨#[]⟩ := ByteArray.ext (Array.eq_empty_of_size_eq_zero h0)
    rw [e]
    exact refread_empty w
  · by_cases hh : (s[0].toNat : Int) = 48
    · by_cases h1 : 1 < s.size
      · exact refread_ahead s w hm h1 hh
      · refine (hd ⟨?_, ?_, ?_⟩).elim
        · intro e
          have := nums_length s
          rw [e] at this
          exact h0 this.symm
        · intro _
          rw [nums_length]
          omega
        · intro i hi
          rw [nums_length] at hi
          obtain rfl : i = 0 := by omega
          rw [nums_at s 0 (by omega), hh]
          omega
    · exact refread_bad s w hm (by omega) hh hd
set_option maxRecDepth 100000 in
set_option maxHeartbeats 4000000 in
/-- A number of 64 bits. -/
theorem snumber_any (s : ByteArray) (w : World) (hm : s.size ≤ 4294967296) :
    Calls Tryz.prog 47 #[.string s] w fun e w' => e = .returned (.tuple #[.int .u64 ((numF (nums s)).1 : Int), .int .i64 (numF (nums s)).2]) ∧ Below w.heap.size w w' := by
  by_cases hd : Dg (nums s)
  · have HR := Lib.hid (refread_yes s w (by omega) hd)
    obtain ⟨N, hN⟩ : ∃ N, numOf (nums s) = N := ⟨_, rfl⟩
    by_cases h128 : W128 N
    · rw [hN, capN_in h128, capC_in h128] at HR
      by_cases h64 : N ≤ 18446744073709551615
      · rw [numF_fine hd (by rw [hN]; exact h64), hN]
        clear hd hN h128
        go_enter Tryz.func47, Tryz.ntmps47
        go_wp2_with (go_at_call 58; (with_reducible refine (HR.out).mono ?_); rintro e w1 ⟨h, l, rfl, hw, g1⟩; obtain ⟨rfl, rfl⟩ : h = 0 ∧ l = (N : Int) := (by obtain ⟨a, b, c, d, e⟩ := hw; omega); have G1 := Lib.hid (below_more g1 (.cells #[.int .u64 0, .int .u64 (N : Int)] 89)); clear g1 hw)
        go_ret2
        exact ⟨rfl, G1.out⟩
      · rw [numF_big hd (by rw [hN]; exact h64)]
        clear hd hN h128
        go_enter Tryz.func47, Tryz.ntmps47
        go_wp2_with (go_at_call 58; (with_reducible refine (HR.out).mono ?_); rintro e w1 ⟨h, l, rfl, hw, g1⟩; have hp : 0 < h := (by obtain ⟨a, b, c, d, e⟩ := hw; omega); have G1 := Lib.hid (below_more g1 (.cells #[.int .u64 h, .int .u64 l] 89)); clear g1 hw)
        go_ret2
        exact ⟨rfl, G1.out⟩
    · rw [hN, capN_out h128, capC_out h128] at HR
      have h64 : ¬ N ≤ 18446744073709551615 := fun q => h128 (by unfold W128; omega)
      rw [numF_big hd (by rw [hN]; exact h64)]
      clear hd hN h128 h64
      go_enter Tryz.func47, Tryz.ntmps47
      go_wp2_with (go_at_call 58; (with_reducible refine (HR.out).mono ?_); rintro e w1 ⟨h, l, rfl, hw, g1⟩; have G1 := Lib.hid (below_more g1 (.cells #[.int .u64 h, .int .u64 l] 89)); clear g1 hw)
      go_ret2
      exact ⟨rfl, G1.out⟩
  · have HR := Lib.hid (refread_none s w (by omega) hd)
    rw [numF_no hd]
    clear hd
    go_enter Tryz.func47, Tryz.ntmps47
    go_wp2_with (go_at_call 58; (with_reducible refine (HR.out).mono ?_); rintro e w1 ⟨h, l, rfl, hw, g1⟩; obtain ⟨rfl, rfl⟩ : h = 0 ∧ l = 0 := (by obtain ⟨a, b, c, d, e⟩ := hw; omega); have G1 := Lib.hid (below_more g1 (.cells #[.int .u64 0, .int .u64 0] 89)); clear g1 hw)
    go_ret2
    exact ⟨rfl, G1.out⟩

theorem sgetD_left {A B : List Int} {i : Nat} (h : i < A.length) : (A ++ B).getD i 0 = A.getD i 0 := by
  rw [List.getD_eq_getElem?_getD, List.getD_eq_getElem?_getD, List.getElem?_append_left h]
theorem sgetD_right {A B : List Int} {i : Nat} (h : A.length ≤ i) : (A ++ B).getD i 0 = B.getD (i - A.length) 0 := by
  rw [List.getD_eq_getElem?_getD, List.getD_eq_getElem?_getD, List.getElem?_append_right h]
/-- Digits behind a point, filled up to three. -/
def spadL (B : List Int) : List Int := B ++ List.replicate (3 - B.length) 48
theorem spad_len {B : List Int} (h : B.length ≤ 3) : (spadL B).length = 3 := by unfold spadL; rw [List.length_append, List.length_replicate]; omega
theorem spad_dig {B : List Int} (h : AllD B) (i : Nat) (hi : i < (spadL B).length) : 48 ≤ (spadL B).getD i 0 ∧ (spadL B).getD i 0 ≤ 57 := by
  unfold spadL at hi ⊢
  by_cases hb : i < B.length
  · rw [sgetD_left hb]
    exact h.2 i hb
  · rw [sgetD_right (by omega)]
    rw [List.length_append, List.length_replicate] at hi
    rw [List.getD_eq_getElem?_getD, List.getElem?_replicate, if_pos (by omega)]
    decide
theorem spad_in {B : List Int} {i : Nat} (hi : i < B.length) : (spadL B).getD i 0 = B.getD i 0 := sgetD_left hi
theorem spad_out {B : List Int} {i : Nat} (h : ¬ i < B.length) (hi : i < 3) : (spadL B).getD i 0 = 48 := by
  unfold spadL
  rw [sgetD_right (by omega), List.getD_eq_getElem?_getD, List.getElem?_replicate, if_pos (by omega)]
  rfl
theorem snum_snoc (P : List Int) (i : Nat) (hi : i < P.length) : numOf (P.take (i + 1)) = 10 * numOf (P.take i) + (P.getD i 0 - 48).toNat := by
  rw [take_snoc hi]
  unfold numOf
  rw [List.foldl_append]
  rfl
theorem snum_room {P : List Int} (h : ∀ i, i < P.length → 48 ≤ P.getD i 0 ∧ P.getD i 0 ≤ 57) : ∀ k, k ≤ P.length → numOf (P.take k) < 10 ^ k
  | 0, _ => by simp [numOf]
  | k + 1, hk => by
    have ih := snum_room h k (by omega)
    have hz := h k (by omega)
    rw [snum_snoc P k (by omega), Nat.pow_succ]
    omega
theorem t3_is (B : List Int) : t3 B = numOf ((spadL B).take 3) := rfl
theorem facF_word {A B : List Int} (h : ¬ (AllD B ∧ B.length ≤ 3)) : facF A B = (0, 5) := if_neg h
theorem facF_err {A B : List Int} (h : AllD B ∧ B.length ≤ 3) (he : ¬ (numF A).2 = 0) : facF A B = (0, (numF A).2) := by unfold facF; rw [if_pos h, if_neg he]
theorem facF_big {A B : List Int} (h : AllD B ∧ B.length ≤ 3) (he : (numF A).2 = 0) (hb : (18446744073709551615 - t3 B) / 1000 < (numF A).1) : facF A B = (0, 8) := by unfold facF; rw [if_pos h, if_pos he, if_pos hb]
theorem facF_fine {A B : List Int} (h : AllD B ∧ B.length ≤ 3) (he : (numF A).2 = 0) (hb : ¬ (18446744073709551615 - t3 B) / 1000 < (numF A).1) : facF A B = (1000 * (numF A).1 + t3 B, 0) := by unfold facF; rw [if_pos h, if_pos he, if_neg hb]
set_option maxRecDepth 100000 in
set_option maxHeartbeats 8000000 in
/-- Digits, a point, digits. -/
theorem sfactor_any (A B : List Int) (w : World) (hA : ∀ i, i < A.length → A.getD i 0 ≠ 46) (hb : ∀ z ∈ A ++ 46 :: B, 0 ≤ z ∧ z ≤ 255) (hl : (A ++ 46 :: B).length ≤ 4294967295) :
    Calls Tryz.prog 49 #[.string (strOfNums (A ++ 46 :: B))] w fun e w' => e = .returned (.tuple #[.int .u64 ((facF A B).1 : Int), .int .i64 (facF A B).2]) ∧ Below w.heap.size w w' := by
  have hlen : (strOfNums (A ++ 46 :: B)).size = A.length + (B.length + 1) := by rw [pstr_len, List.length_append, List.length_cons]
  rw [List.length_append, List.length_cons] at hl
  have hto := fun W => pstr_to (A ++ 46 :: B) hb A.length (A.length : Int) rfl (by rw [List.length_append]; omega) W
  have hfrom := fun W => pstr_from (A ++ 46 :: B) hb (A.length + 1) ((A.length : Int) + 1) (by omega) (by rw [List.length_append, List.length_cons]; omega) W
  rw [List.take_left] at hto
  rw [show A.length + 1 = (A ++ [46]).length by simp, show A ++ 46 :: B = (A ++ [46]) ++ B by simp, List.drop_left, ← show A ++ 46 :: B = (A ++ [46]) ++ B by simp] at hfrom
  have hbA : ∀ z ∈ A, 0 ≤ z ∧ z ≤ 255 := fun z hz => hb z (List.mem_append_left _ hz)
  have hbB : ∀ z ∈ B, 0 ≤ z ∧ z ≤ 255 := fun z hz => hb z (List.mem_append_right _ (List.mem_cons_of_mem _ hz))
  have HNU := Lib.hid (fun W => snumber_any (strOfNums A) W (by rw [pstr_len]; omega))
  have HDI := Lib.hid (fun W => sdigits_any (strOfNums B) W (by rw [pstr_len]; omega))
  rw [nums_strOfNums A hbA] at HNU
  rw [nums_strOfNums B hbB] at HDI
  have hlB : (strOfNums B).size = B.length := pstr_len B
  have HZA : Hid (∀ i, i < A.length → (A ++ 46 :: B).getD i 0 ≠ 46) := fun i hi => by rw [sgetD_left hi]; exact hA i hi
  have HZ4 : Hid ((A ++ 46 :: B).getD A.length 0 = 46) := by unfold Hid; rw [sgetD_right (Nat.le_refl _), Nat.sub_self]; rfl
  obtain ⟨X, hX⟩ : ∃ X, strOfNums (A ++ 46 :: B) = X := ⟨_, rfl⟩
  obtain ⟨XA, hXA⟩ : ∃ X, strOfNums A = X := ⟨_, rfl⟩
  obtain ⟨XB, hXB⟩ : ∃ X, strOfNums B = X := ⟨_, rfl⟩
  obtain ⟨Z, hZ⟩ : ∃ Z, A ++ 46 :: B = Z := ⟨_, rfl⟩
  obtain ⟨nA, hnA⟩ : ∃ n, A.length = n := ⟨_, rfl⟩
  have hnx : nums X = Z := by rw [← hX, ← hZ]; exact nums_strOfNums _ hb
  have hnb : nums XB = B := by rw [← hXB]; exact nums_strOfNums _ hbB
  have HAT := Lib.hid (fun i (h : i < X.size) => (by rw [← hnx]; exact nums_at X i h : Z.getD i 0 = (X[i].toNat : Int)))
  have HBAT := Lib.hid (fun i (h : i < XB.size) => (by have q := nums_at XB i h; rw [hnb] at q; exact q : B.getD i 0 = (XB[i].toNat : Int)))
  rw [hX] at hlen hto hfrom ⊢
  rw [hZ] at HZA HZ4
  rw [hXA] at HNU hto
  rw [hXB] at HDI hlB hfrom
  rw [hnA] at hlen hto hfrom HZA HZ4 hl
  clear hX hXA hXB hZ hnA hb hbA hbB hA hnx hnb
  go_enter Tryz.func49, Tryz.ntmps49
  go_wp2
  go_loop [4] (fun v4 => ∃ i : Nat, i ≤ nA ∧ v4 = .int .i64 i) (fun v4 => nA - (intOf v4).toNat)
  case atStart => exact ⟨0, Nat.zero_le _, rfl⟩
  case round =>
    obtain ⟨i, hi, rfl⟩ := hrel
    have his : i < X.size := by omega
    have hz0 := HAT.out i his
    obtain ⟨z, hz⟩ : ∃ z : Int, (X[i].toNat : Int) = z := ⟨_, rfl⟩
    rw [hz] at hz0
    by_cases h1 : i < nA
    · have hne : (z == 46) = false := by
        have := HZA.out i h1
        rw [hz0] at this
        simpa using this
      clear hz0
      go_wp2
      go_round
      case rel => exact ⟨i + 1, by omega, by go_num⟩
      case measure => simp [intOf]; omega
    · obtain rfl : i = nA := by omega
      have hz46 : z = 46 := by rw [← hz0]; exact HZ4.out
      subst hz46
      clear hz0
      by_cases hD : AllD B
      case neg =>
        have HND := Lib.hid hD
        have HFF := Lib.hid (facF_word (A := A) (fun h => hD h.1))
        clear hD
        go_wp2_with (go_at_call 46; (with_reducible refine (HDI.out _).mono ?_); rintro e w1 ⟨q, rfl, hq, g1⟩; obtain rfl : q = false := (by cases q with | false => rfl | true => exact (HND.out (hq.mp rfl)).elim); have G1 := Lib.hid g1; clear g1 hq)
        go_ret2
        exact ⟨by rw [HFF.out]; rfl, G1.out⟩
      case pos =>
        have HND := Lib.hid hD
        by_cases h3 : B.length ≤ 3
        case neg =>
          have HFF := Lib.hid (facF_word (A := A) (B := B) (fun h => h3 h.2))
          have h3' : (3 : Int) < (XB.size : Int) := by omega
          clear hD
          go_wp2_with (go_at_call 46; (with_reducible refine (HDI.out _).mono ?_); rintro e w1 ⟨q, rfl, hq, g1⟩; obtain rfl : q = true := (hq.mpr HND.out); have G1 := Lib.hid g1; clear g1 hq)
          go_ret2
          exact ⟨by rw [HFF.out]; rfl, G1.out⟩
        case pos =>
          have h3' : ¬ (3 : Int) < (XB.size : Int) := by omega
          have hpl := spad_len h3
          have HPL := Lib.hid hpl
          have HPD := Lib.hid (fun i (hi : i < 3) => spad_dig hD i (by rw [hpl]; exact hi))
          have HPR := Lib.hid (fun k (hk : k ≤ 3) => snum_room (spad_dig hD) k (by rw [hpl]; exact hk))
          have HN1 := Lib.hid (numF_bd A)
          by_cases he : (numF A).2 = 0
          case neg =>
            have hff := facF_err ⟨hD, h3⟩ he
            obtain ⟨NA, hNA⟩ : ∃ x, (numF A).1 = x := ⟨_, rfl⟩
            obtain ⟨EA, hEA⟩ : ∃ x, (numF A).2 = x := ⟨_, rfl⟩
            rw [hEA] at he hff
            have HFF := Lib.hid hff
            rw [hNA, hEA] at HNU
            have he' : (EA != 0) = true := by simp [he]
            clear hD hNA hEA hpl hff
            go_wp2_with (first
              | (go_at_call 46; (with_reducible refine (HDI.out _).mono ?_); rintro e w1 ⟨q, rfl, hq, g1⟩; obtain rfl : q = true := (hq.mpr HND.out); have G1 := Lib.hid g1; clear g1 hq)
              | (go_at_call 47; (with_reducible refine (HNU.out _).mono ?_); rintro e w2 ⟨rfl, g2⟩; have G2 := Lib.hid (below_step G1.out g2); clear g2))
            go_ret2
            exact ⟨by rw [HFF.out]; rfl, G2.out⟩
          case pos =>
            have hF := @facF_big A B ⟨hD, h3⟩ he
            have hG := @facF_fine A B ⟨hD, h3⟩ he
            rw [he] at HNU
            obtain ⟨NA, hNA⟩ : ∃ x, (numF A).1 = x := ⟨_, rfl⟩
            rw [hNA] at HNU HN1 hF hG
            obtain ⟨T, hT⟩ : ∃ x, t3 B = x := ⟨_, rfl⟩
            have HT : Hid (numOf ((spadL B).take 3) = T) := by rw [← t3_is]; exact hT
            rw [hT] at hF hG
            have HFG := Lib.hid (And.intro hF hG)
            clear hD hNA hpl he hF hG hT
            go_wp2_with (first
              | (go_at_call 46; (with_reducible refine (HDI.out _).mono ?_); rintro e w1 ⟨q, rfl, hq, g1⟩; obtain rfl : q = true := (hq.mpr HND.out); have G1 := Lib.hid g1; clear g1 hq)
              | (go_at_call 47; (with_reducible refine (HNU.out _).mono ?_); rintro e w2 ⟨rfl, g2⟩; have G2 := Lib.hid (below_step G1.out g2); clear g2))
            go_loop [8, 9] (fun v8 v9 => ∃ j : Nat, j ≤ 3 ∧ v8 = .int .u64 ((numOf ((spadL B).take j) : Nat) : Int) ∧ v9 = .int .i64 j) (fun _ v9 => 3 - (intOf v9).toNat)
            case atStart => exact ⟨0, Nat.zero_le _, rfl, rfl⟩
            case round =>
              obtain ⟨j, hj, rfl, rfl⟩ := hrel
              by_cases hj3 : j < 3
              · have hb := HPR.out j hj
                have hp : 10 ^ j ≤ 100 := by
                  have : j = 0 ∨ j = 1 ∨ j = 2 := by omega
                  rcases this with rfl | rfl | rfl <;> decide
                have hst := snum_snoc (spadL B) j (by rw [HPL.out]; exact hj3)
                have hd := HPD.out j hj3
                obtain ⟨N0, hN0⟩ : ∃ x, numOf ((spadL B).take j) = x := ⟨_, rfl⟩
                obtain ⟨N1, hN1⟩ : ∃ x, numOf ((spadL B).take (j + 1)) = x := ⟨_, rfl⟩
                rw [hN0] at hb
                rw [hN0, hN1] at hst
                rw [hN0]
                have HN1' := Lib.hid hN1
                have hm : IntKind.u64.wrap (10 * (N0 : Int)) = 10 * (N0 : Int) := by rw [IntKind.wrap_u64]; omega
                have hji : (j : Int) < 3 := by omega
                by_cases hjb : j < B.length
                · have hz0 := HBAT.out j (by omega)
                  have hpi := spad_in hjb
                  obtain ⟨z, hz⟩ : ∃ z : Int, (XB[j].toNat : Int) = z := ⟨_, rfl⟩
                  rw [hz] at hz0
                  rw [hpi, hz0] at hst hd
                  have hjb' : (j : Int) < (XB.size : Int) := by omega
                  have hw1 : IntKind.u64.wrap z = z := by rw [IntKind.wrap_u64]; omega
                  have hw2 : IntKind.u64.wrap (10 * (N0 : Int) + z) = 10 * (N0 : Int) + z := by rw [IntKind.wrap_u64]; omega
                  have hw3 : IntKind.u64.wrap (10 * (N0 : Int) + z - 48) = (N1 : Int) := by rw [IntKind.wrap_u64]; omega
                  have hw4 : 10 * (N0 : Int) + z - 48 = (N1 : Int) := by omega
                  have HW4 := Lib.hid hw4
                  clear hst hb hp hz0 hpi hN0 hN1 hd hw4
                  go_wp2
                  go_round
                  case rel => exact ⟨j + 1, by omega, by rw [HN1'.out], by go_num⟩
                  case measure => simp [intOf]; omega
                · have hpo := spad_out hjb hj3
                  rw [hpo] at hst
                  have hjb' : ¬ (j : Int) < (XB.size : Int) := by omega
                  have hw4 : Hid (10 * (N0 : Int) = (N1 : Int)) := by unfold Hid; omega
                  clear hst hb hp hpo hN0 hN1 hd
                  go_wp2
                  go_round
                  case rel => exact ⟨j + 1, by omega, by rw [HN1'.out, ← hw4.out], by go_num⟩
                  case measure => simp [intOf]; omega
              · obtain rfl : j = 3 := by omega
                rw [HT.out]
                have hT3 : T < 10 ^ 3 := by rw [← HT.out]; exact HPR.out 3 (Nat.le_refl _)
                have hN1 := HN1.out
                obtain ⟨Q, hQ⟩ : ∃ x, (18446744073709551615 - T) / 1000 = x := ⟨_, rfl⟩
                have hs : IntKind.u64.wrap (18446744073709551615 - (T : Int)) = 18446744073709551615 - (T : Int) := by rw [IntKind.wrap_u64]; omega
                have hq1 : (18446744073709551615 - (T : Int)).tdiv 1000 = (Q : Int) := by rw [Int.tdiv_eq_ediv_of_nonneg (by omega)]; omega
                have hq2 : (18446744073709551615 - (T : Int)) / 1000 = (Q : Int) := by omega
                have hFG := HFG.out
                rw [hQ] at hFG
                by_cases hbig : Q < NA
                · have HFF := Lib.hid (hFG.1 hbig)
                  have hbi : (Q : Int) < (NA : Int) := by omega
                  clear hFG hQ
                  go_wp2
                  go_ret2
                  exact ⟨by rw [HFF.out]; rfl, G2.out⟩
                · have HFF := Lib.hid (hFG.2 hbig)
                  have hbi : ¬ (Q : Int) < (NA : Int) := by omega
                  have hr1 : IntKind.u64.wrap (1000 * (NA : Int)) = 1000 * (NA : Int) := by rw [IntKind.wrap_u64]; omega
                  have hr2 : IntKind.u64.wrap (1000 * (NA : Int) + (T : Int)) = 1000 * (NA : Int) + (T : Int) := by rw [IntKind.wrap_u64]; omega
                  have HR3 : Hid (1000 * (NA : Int) + (T : Int) = ((1000 * NA + T : Nat) : Int)) := by unfold Hid; omega
                  clear hFG hQ
                  go_wp2
                  go_ret2
                  exact ⟨by rw [HFF.out]; show Ending.returned (Value.tuple #[.int .u64 (1000 * (NA : Int) + (T : Int)), .int .i64 0]) = Ending.returned (Value.tuple #[.int .u64 ((1000 * NA + T : Nat) : Int), .int .i64 0]); rw [HR3.out], G2.out⟩

end Go.Proofs.YthfmllgflnideaaGreatDoor
