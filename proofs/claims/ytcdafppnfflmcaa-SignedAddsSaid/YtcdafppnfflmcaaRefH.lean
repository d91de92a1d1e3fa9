/-
  The document's own answers for numbers of bits, walked: a text of digits as a number, or why it is none.
-/
import Derived.Test.YtcdafppnfflmcaaRefD
import Derived.Test.YtcdafppnfflmcaaOf
import Derived.Test.YtcdafppnfflmcaaReadB
import Derived.Deep.RegionHeld3
namespace Go.Proofs.Ytcdafppnfflmcaa
open Go.RowKit

set_option maxRecDepth 100000 in
theorem refread_empty (w : World) : Calls Try.prog 32 #[.string ⟨#[]⟩] w (GivesWC 0 5 w) := by
  go_enter Try.func32, Try.ntmps32
  go_wp2
  refine bodyPost_ret (v := .tuple #[.agg #[.int .u64 0, .int .u64 0], .int .i64 5]) (by simp [results, Try.results32, go_sem]) rfl ⟨0, 0, rfl, IsW.zero, ?_⟩
  exact (Below.refl _ _).alloc (Nat.le_refl _) _
set_option maxRecDepth 100000 in
theorem refread_ahead (s : ByteArray) (w : World) (hm : s.size ≤ 9223372036854775807) (h0 : 1 < s.size) (hh : (s[0].toNat : Int) = 48) : Calls Try.prog 32 #[.string s] w (GivesWC 0 5 w) := by
  obtain ⟨e1, e2⟩ := toList_empty (s := s) (by omega)
  have h1 : 0 < s.size := by omega
  go_enter Try.func32, Try.ntmps32
  go_wp2
  refine bodyPost_ret (v := .tuple #[.agg #[.int .u64 0, .int .u64 0], .int .i64 5]) (by simp [results, Try.results32, go_sem]) rfl ⟨0, 0, rfl, IsW.zero, ?_⟩
  exact (Below.refl _ _).alloc (Nat.le_refl _) _

set_option maxRecDepth 100000 in
set_option maxHeartbeats 2000000 in
theorem refread_bad (s : ByteArray) (w : World) (hm : s.size ≤ 9223372036854775807) (h0 : 0 < s.size) (hh : ¬ (s[0].toNat : Int) = 48) (hd : ¬ Dg (nums s)) : Calls Try.prog 32 #[.string s] w (GivesWC 0 5 w) := by
  obtain ⟨e1, e2⟩ := toList_empty (s := s) (by omega)
  have hz0 : ((s[0].toNat : Int) == 48) = false := by simpa using hh
  have hbad : ¬ ∀ i, i < s.size → 48 ≤ (nums s).getD i 0 ∧ (nums s).getD i 0 ≤ 57 := fun hall => hd
    ⟨fun e => by have := nums_length s; rw [e] at this; simp at this; omega, fun e => (hh (by rw [← nums_at s 0 h0]; exact e)).elim, fun i hi => hall i (by rw [nums_length] at hi; exact hi)⟩
  replace hbad := Lib.hid hbad
  clear hd hh
  go_enter Try.func32, Try.ntmps32
  go_wp2
  go_loop [4] (fun i => ∃ k : Nat, k ≤ s.size ∧ i = .int .i64 k ∧ Hid (∀ j, j < k → 48 ≤ (nums s).getD j 0 ∧ (nums s).getD j 0 ≤ 57)) (fun i => s.size - (intOf i).toNat)
  case atStart => exact ⟨0, Nat.zero_le _, rfl, Lib.hid (fun j hj => by omega)⟩
  case round =>
    obtain ⟨k, hk, rfl, hall⟩ := hrel
    by_cases h1 : k < s.size
    · have hzz := nums_at s k h1
      obtain ⟨z, hz⟩ : ∃ z, (s[k].toNat : Int) = z := ⟨_, rfl⟩
      rw [hz] at hzz
      have hb0 : 0 ≤ z ∧ z ≤ 255 := by rw [← hz]; have := s[k].toNat_lt; omega
      obtain ⟨hb0, hb1⟩ := hb0
      replace hzz := Lib.hid hzz
      by_cases h2 : z < 48
      · go_wp2
        refine bodyPost_ret (v := .tuple #[.agg #[.int .u64 0, .int .u64 0], .int .i64 5]) (by simp [results, Try.results32, go_sem]) rfl ⟨0, 0, rfl, IsW.zero, ?_⟩
        exact (Below.refl _ _).alloc (Nat.le_refl _) _
      · by_cases h3 : 57 < z
        · go_wp2
          refine bodyPost_ret (v := .tuple #[.agg #[.int .u64 0, .int .u64 0], .int .i64 5]) (by simp [results, Try.results32, go_sem]) rfl ⟨0, 0, rfl, IsW.zero, ?_⟩
          exact (Below.refl _ _).alloc (Nat.le_refl _) _
        · have hall' : Hid (∀ j, j < k + 1 → 48 ≤ (nums s).getD j 0 ∧ (nums s).getD j 0 ≤ 57) := by
            intro i hi
            by_cases e : i = k
            · rw [e, hzz.out]; exact ⟨by omega, by omega⟩
            · exact hall.out i (by omega)
          go_wp2
          go_round
          case rel => exact ⟨k + 1, by omega, by go_num, hall'.out⟩
          case measure => simp [intOf]; omega
    · obtain rfl : k = s.size := by omega
      exact (hbad.out hall.out).elim

theorem four_bools (W : World) (g : Nat) (hg : g = W.heap.size) : Bools (W.alloc (.cells #[.bool false, .bool true, .bool false, .bool true] 4)) (.slice (some ⟨g, 0, none⟩) 4 4) [false, true, false, true] := by
  subst hg
  refine ⟨W.heap.size, 0, 4, rfl, by decide, by simp, fun i hi => ?_⟩
  rcases i with _ | _ | _ | _ | i
  · simp
  · simp
  · simp
  · simp
  · simp at hi; omega
theorem four_eq : [false, true, false, true].length = 4 := rfl
theorem four_len : [false, true, false, true].length ≤ 100000 := by simp
/-- What is known at the head of a round. -/
structure ReadAt (zs : List Int) (l : List Bool) (k : Nat) : Prop where
  len : l.length ≤ 129 + 5 * k
  num : val l = numOf (zs.take k)
theorem ReadAt.start (zs : List Int) : ReadAt zs [] 0 := ⟨by simp, rfl⟩
theorem ReadAt.next {zs : List Int} {l l1 l2 : List Bool} {k n : Nat} (h : ReadAt zs l k) (hk : k < zs.length) (h1 : l1.length ≤ l.length + 4) (e1 : val l1 = val l * 10) (h2 : l2.length ≤ max l1.length 128 + 1) (e2 : val l2 = val l1 + n) (hn : n = (zs.getD k 0 - 48).toNat) : ReadAt zs l2 (k + 1) := by
  obtain ⟨a, b⟩ := h
  exact ⟨by omega, by rw [numOf_step _ _ hk, e2, e1, b, hn]; omega⟩

/-- A letter of a text of digits. -/
theorem digit_at {s : ByteArray} (hall : ∀ i, i < (nums s).length → 48 ≤ (nums s).getD i 0 ∧ (nums s).getD i 0 ≤ 57) (k : Nat) (h : k < s.size) : ∃ z : Int, (s[k].toNat : Int) = z ∧ 48 ≤ z ∧ z ≤ 57 ∧ Hid ((nums s).getD k 0 = z) := by
  have h1 := hall k (by rw [nums_length]; exact h)
  rw [nums_at s k h] at h1
  exact ⟨_, rfl, h1.1, h1.2, nums_at s k h⟩
/-- What stands in the call's own memory: the place of the result, and ten. -/
structure RdMem (w wr : World) : Prop where
  r0 : wr.cell? ⟨w.heap.size, 0, none⟩ = some (.int .u64 0)
  r1 : wr.cell? ⟨w.heap.size, 1, none⟩ = some (.int .u64 0)
  q0 : wr.frozen? ⟨w.heap.size, 0, none⟩ = false
  q1 : wr.frozen? ⟨w.heap.size, 1, none⟩ = false
  ten : Bools wr (.slice (some ⟨w.heap.size + 1 + 1, 0, none⟩) 4 4) [false, true, false, true]
  s0 : w.heap.size < wr.heap.size
  bel : Below w.heap.size w wr
theorem RdMem.after {w wr w1 : World} (h : RdMem w wr) (hb : Below wr.heap.size wr w1) : RdMem w w1 := by
  obtain ⟨r0, r1, q0, q1, ten, s0, bel⟩ := h
  exact ⟨(hb.cell (p := ⟨w.heap.size, 0, none⟩) s0).trans r0, (hb.cell (p := ⟨w.heap.size, 1, none⟩) s0).trans r1, (hb.frozen (p := ⟨w.heap.size, 0, none⟩) s0).trans q0, (hb.frozen (p := ⟨w.heap.size, 1, none⟩) s0).trans q1, ten.below hb, Nat.lt_of_lt_of_le s0 hb.size, bel.trans (hb.mono bel.size)⟩
theorem RdMem.start (w : World) : RdMem w (((w.alloc (.cells #[.int .u64 0, .int .u64 0] 24)).alloc (.cells #[] 4)).alloc (.cells #[.bool false, .bool true, .bool false, .bool true] 4)) := by
  have hb : Below (w.alloc (.cells #[.int .u64 0, .int .u64 0] 24)).heap.size (w.alloc (.cells #[.int .u64 0, .int .u64 0] 24)) (((w.alloc (.cells #[.int .u64 0, .int .u64 0] 24)).alloc (.cells #[] 4)).alloc (.cells #[.bool false, .bool true, .bool false, .bool true] 4)) :=
    ((Below.refl _ _).alloc (Nat.le_refl _) _).alloc (by simp) _
  obtain ⟨r0, r1, q0, q1, s0, bel⟩ := res_kept hb
  exact ⟨r0, r1, q0, q1, four_bools _ _ (by simp), s0, bel⟩
theorem RdMem.bools (w : World) : Bools (((w.alloc (.cells #[.int .u64 0, .int .u64 0] 24)).alloc (.cells #[] 4)).alloc (.cells #[.bool false, .bool true, .bool false, .bool true] 4)) (.slice (some ⟨w.heap.size + 1, 0, none⟩) 0 0) [] :=
  (OwnBits.fresh _ 0 _ (by simp) (Nat.zero_le _)).bools.alloc _

set_option maxRecDepth 100000 in
set_option maxHeartbeats 4000000 in
theorem refread_yes (s : ByteArray) (w : World) (hm : s.size ≤ 9223372036854775807) (hd : Dg (nums s)) : Calls Try.prog 32 #[.string s] w (GivesWC (capN (numOf (nums s))) (capC (numOf (nums s))) w) := by
  have h0 : 0 < s.size := by
    have : ¬ s.size = 0 := fun e => hd.some (List.eq_nil_of_length_eq_zero (by rw [nums_length, e]))
    omega
  obtain ⟨e1, e2⟩ := toList_empty (s := s) (by omega)
  have hz0 : ((s[0].toNat : Int) == 48) = false ∨ s.size = 1 := by
    by_cases hh : (s[0].toNat : Int) = 48
    · have := hd.head (by rw [nums_at s 0 h0]; exact hh)
      rw [nums_length] at this; exact Or.inr this
    · exact Or.inl (by simpa using hh)
  have hlong := fun (h : 39 < s.size) => hd.long (by rw [nums_length]; exact h)
  have hall := Lib.hid hd.all
  replace hlong := Lib.hid hlong
  by_cases hz1 : ((s[0].toNat : Int) == 48) = true
  · have hs1 : s.size ≤ 1 := by
      rcases hz0 with hz0 | hz0
      · rw [hz0] at hz1; cases hz1
      · omega
    clear hz0 hd
    go_enter Try.func32, Try.ntmps32
    go_wp2
    go_loop [4] (fun i => ∃ k : Nat, k ≤ s.size ∧ i = .int .i64 k) (fun i => s.size - (intOf i).toNat)
    case atStart => exact ⟨0, Nat.zero_le _, rfl⟩
    case round =>
      obtain ⟨k, hk, rfl⟩ := hrel
      by_cases h1 : k < s.size
      · obtain ⟨z, hz, hb0, hb1, hzz⟩ := digit_at hall.out k h1
        go_wp2
        go_round
        case rel => exact ⟨k + 1, by omega, by go_num⟩
        case measure => simp [intOf]; omega
      · obtain rfl : k = s.size := by omega
        by_cases hl : 39 < s.size
        · omega
        · go_wp2
          go_loopw [5, 7] (fun v i wr => ∃ (k : Nat) (l : List Bool), k ≤ s.size ∧ i = .int .i64 k ∧ Bools wr v l ∧ ReadAt (nums s) l k ∧ RdMem w wr) (fun _ i _ => s.size - (intOf i).toNat)
          case atStart => exact ⟨0, [], Nat.zero_le _, rfl, RdMem.bools w, ReadAt.start _, RdMem.start w⟩
          case round =>
            obtain ⟨k2, l, hk2, rfl, hv, hR, hM⟩ := hrel
            replace hv := Lib.hid hv
            replace hR := Lib.hid hR
            by_cases h2 : k2 < s.size
            · obtain ⟨z, hz, hb0, hb1, hzz⟩ := digit_at hall.out k2 h2
              have HV := Lib.hid hv.out.drew
              have HM := Lib.hid (hM.after (Below.refl _ _).drew)
              have hk3 := Lib.hid (show k2 < (nums s).length by rw [nums_length]; exact h2)
              have hla : l.length ≤ 100000 := by have := hR.out.len; omega
              have hten := HM.out.ten
              have hw0 : IntKind.u64.wrap z = z := by rw [IntKind.wrap_u64]; omega
              have hw1 : IntKind.u64.wrap (z - 48) = z - 48 := by rw [IntKind.wrap_u64]; omega
              go_wp2
              go_region_held3 (fun W => W.heap.size = W.heap.size) (first | rfl | go_keep)
                (first
                  | (go_at_call 22; (with_reducible refine (times_any _ _ l [false, true, false, true] wr.drew HV.out hten hla four_len).mono ?_); rintro e w2 ⟨v1, l1, rfl, b1, ⟨n1, c1⟩, g1⟩; replace n1 := Lib.hid n1; replace c1 := Lib.hid (show val l1 = val l * 10 from c1); replace b1 := Lib.hid b1; have HM2 := Lib.hid (HM.out.after g1))
                  | (go_at_call 13; (with_reducible refine (bits_small (z - 48) _ (by omega) (by omega)).mono ?_); rintro e w3 ⟨v2, l2, rfl, b2, ⟨n2, c2⟩, g2⟩; replace n2 := Lib.hid n2; replace c2 := Lib.hid c2; replace b2 := Lib.hid b2; have HM3 := Lib.hid (HM2.out.after g2); have b3 := Lib.hid (b1.out.below g2))
                  | (go_at_call 21; (with_reducible refine (plus_any v1 v2 l1 l2 _ b3.out.orNil b2.out.orNil (by have t := n1.out; rw [four_eq] at t; omega) (by have := n2.out; omega)).mono ?_); rintro e w4 ⟨v4, l4, rfl, b4, ⟨n4, c4⟩, g4⟩; replace n4 := Lib.hid n4; replace c4 := Lib.hid c4; replace b4 := Lib.hid b4; have HM4 := Lib.hid (HM3.out.after g4)))
              all_goals
                have hnext := ReadAt.next hR.out hk3.out (by have t := n1.out; rw [four_eq] at t; exact t) c1.out (by have t := n4.out; rw [n2.out] at t; exact t) (c4.out.trans (by rw [c2.out])) (by rw [hzz.out])
                clear hw0 hw1
                go_wp2
                go_roundw
                case rel => exact ⟨k2 + 1, l4, by omega, by go_num, b4.out, hnext, HM4.out⟩
                case measure => simp [intOf]; omega
            · obtain rfl : k2 = s.size := by omega
              have hN : Hid (val l = numOf (nums s)) := by unfold Hid; rw [hR.out.num, ← nums_length, List.take_length]
              have hlz : l.length ≤ 400 := by have := hR.out.len; omega
              by_cases hw : W128 (numOf (nums s))
              · have hw2 := Lib.hid hw
                clear hw
                go_wp2_with (go_at_call 27; (with_reducible refine (of_any _ l _ hv.out (by omega)).mono ?_); rintro e w5 ⟨ph, pl, ok, rfl, hW5, hok, g5⟩; rw [hN.out] at hok hW5; rw [capN_in hw2.out] at hW5; obtain rfl := hok.mpr hw2.out; clear hok; have HM5 := hM.after g5; obtain ⟨r0, r1, q0, q1, _, s0, bel⟩ := HM5)
                refine bodyPost_ret (v := .tuple #[.agg #[.int .u64 ph, .int .u64 pl], .int .i64 0]) (by simp [results, Try.results32, go_sem, r0, r1, s0]) rfl ⟨ph, pl, by rw [capC_in hw2.out], by rw [capN_in hw2.out]; exact hW5, ?_⟩
                exact ((bel.setCell (by simp) _).setCell (by simp) _).alloc (by simp; omega) _
              · have hw2 := Lib.hid hw
                clear hw
                go_wp2_with (go_at_call 27; (with_reducible refine (of_any _ l _ hv.out (by omega)).mono ?_); rintro e w5 ⟨ph, pl, ok, rfl, hW5, hok, g5⟩; rw [hN.out] at hok hW5; obtain rfl : ok = false := (by cases ok; rfl; exact (hw2.out (hok.mp rfl)).elim); clear hok hW5; have HM5 := hM.after g5; obtain ⟨r0, r1, q0, q1, _, s0, bel⟩ := HM5)
                refine bodyPost_ret (v := .tuple #[.agg #[.int .u64 0, .int .u64 0], .int .i64 3]) (by simp [results, Try.results32, go_sem, r0, r1, s0]) rfl ⟨0, 0, by rw [capC_out hw2.out], by rw [capN_out hw2.out]; exact IsW.zero, ?_⟩
                exact ((bel.setCell (by simp) _).setCell (by simp) _).alloc (by simp; omega) _
  · have hz1 : ((s[0].toNat : Int) == 48) = false := by simpa using hz1
    clear hz0 hd
    go_enter Try.func32, Try.ntmps32
    go_wp2
    go_loop [4] (fun i => ∃ k : Nat, k ≤ s.size ∧ i = .int .i64 k) (fun i => s.size - (intOf i).toNat)
    case atStart => exact ⟨0, Nat.zero_le _, rfl⟩
    case round =>
      obtain ⟨k, hk, rfl⟩ := hrel
      by_cases h1 : k < s.size
      · obtain ⟨z, hz, hb0, hb1, hzz⟩ := digit_at hall.out k h1
        go_wp2
        go_round
        case rel => exact ⟨k + 1, by omega, by go_num⟩
        case measure => simp [intOf]; omega
      · obtain rfl : k = s.size := by omega
        by_cases hl : 39 < s.size
        · have hov := Lib.hid (hlong.out hl)
          go_wp2
          refine bodyPost_ret (v := .tuple #[.agg #[.int .u64 0, .int .u64 0], .int .i64 3]) (by simp [results, Try.results32, go_sem]) rfl ⟨0, 0, by rw [capC_out hov.out], by rw [capN_out hov.out]; exact IsW.zero, ?_⟩
          exact (Below.refl _ _).alloc (Nat.le_refl _) _
        · go_wp2
          go_loopw [5, 7] (fun v i wr => ∃ (k : Nat) (l : List Bool), k ≤ s.size ∧ i = .int .i64 k ∧ Bools wr v l ∧ ReadAt (nums s) l k ∧ RdMem w wr) (fun _ i _ => s.size - (intOf i).toNat)
          case atStart => exact ⟨0, [], Nat.zero_le _, rfl, RdMem.bools w, ReadAt.start _, RdMem.start w⟩
          case round =>
            obtain ⟨k2, l, hk2, rfl, hv, hR, hM⟩ := hrel
            replace hv := Lib.hid hv
            replace hR := Lib.hid hR
            by_cases h2 : k2 < s.size
            · obtain ⟨z, hz, hb0, hb1, hzz⟩ := digit_at hall.out k2 h2
              have HV := Lib.hid hv.out.drew
              have HM := Lib.hid (hM.after (Below.refl _ _).drew)
              have hk3 := Lib.hid (show k2 < (nums s).length by rw [nums_length]; exact h2)
              have hla : l.length ≤ 100000 := by have := hR.out.len; omega
              have hten := HM.out.ten
              have hw0 : IntKind.u64.wrap z = z := by rw [IntKind.wrap_u64]; omega
              have hw1 : IntKind.u64.wrap (z - 48) = z - 48 := by rw [IntKind.wrap_u64]; omega
              go_wp2
              go_region_held3 (fun W => W.heap.size = W.heap.size) (first | rfl | go_keep)
                (first
                  | (go_at_call 22; (with_reducible refine (times_any _ _ l [false, true, false, true] wr.drew HV.out hten hla four_len).mono ?_); rintro e w2 ⟨v1, l1, rfl, b1, ⟨n1, c1⟩, g1⟩; replace n1 := Lib.hid n1; replace c1 := Lib.hid (show val l1 = val l * 10 from c1); replace b1 := Lib.hid b1; have HM2 := Lib.hid (HM.out.after g1))
                  | (go_at_call 13; (with_reducible refine (bits_small (z - 48) _ (by omega) (by omega)).mono ?_); rintro e w3 ⟨v2, l2, rfl, b2, ⟨n2, c2⟩, g2⟩; replace n2 := Lib.hid n2; replace c2 := Lib.hid c2; replace b2 := Lib.hid b2; have HM3 := Lib.hid (HM2.out.after g2); have b3 := Lib.hid (b1.out.below g2))
                  | (go_at_call 21; (with_reducible refine (plus_any v1 v2 l1 l2 _ b3.out.orNil b2.out.orNil (by have t := n1.out; rw [four_eq] at t; omega) (by have := n2.out; omega)).mono ?_); rintro e w4 ⟨v4, l4, rfl, b4, ⟨n4, c4⟩, g4⟩; replace n4 := Lib.hid n4; replace c4 := Lib.hid c4; replace b4 := Lib.hid b4; have HM4 := Lib.hid (HM3.out.after g4)))
              all_goals
                have hnext := ReadAt.next hR.out hk3.out (by have t := n1.out; rw [four_eq] at t; exact t) c1.out (by have t := n4.out; rw [n2.out] at t; exact t) (c4.out.trans (by rw [c2.out])) (by rw [hzz.out])
                clear hw0 hw1
                go_wp2
                go_roundw
                case rel => exact ⟨k2 + 1, l4, by omega, by go_num, b4.out, hnext, HM4.out⟩
                case measure => simp [intOf]; omega
            · obtain rfl : k2 = s.size := by omega
              have hN : Hid (val l = numOf (nums s)) := by unfold Hid; rw [hR.out.num, ← nums_length, List.take_length]
              have hlz : l.length ≤ 400 := by have := hR.out.len; omega
              by_cases hw : W128 (numOf (nums s))
              · have hw2 := Lib.hid hw
                clear hw
                go_wp2_with (go_at_call 27; (with_reducible refine (of_any _ l _ hv.out (by omega)).mono ?_); rintro e w5 ⟨ph, pl, ok, rfl, hW5, hok, g5⟩; rw [hN.out] at hok hW5; rw [capN_in hw2.out] at hW5; obtain rfl := hok.mpr hw2.out; clear hok; have HM5 := hM.after g5; obtain ⟨r0, r1, q0, q1, _, s0, bel⟩ := HM5)
                refine bodyPost_ret (v := .tuple #[.agg #[.int .u64 ph, .int .u64 pl], .int .i64 0]) (by simp [results, Try.results32, go_sem, r0, r1, s0]) rfl ⟨ph, pl, by rw [capC_in hw2.out], by rw [capN_in hw2.out]; exact hW5, ?_⟩
                exact ((bel.setCell (by simp) _).setCell (by simp) _).alloc (by simp; omega) _
              · have hw2 := Lib.hid hw
                clear hw
                go_wp2_with (go_at_call 27; (with_reducible refine (of_any _ l _ hv.out (by omega)).mono ?_); rintro e w5 ⟨ph, pl, ok, rfl, hW5, hok, g5⟩; rw [hN.out] at hok hW5; obtain rfl : ok = false := (by cases ok; rfl; exact (hw2.out (hok.mp rfl)).elim); clear hok hW5; have HM5 := hM.after g5; obtain ⟨r0, r1, q0, q1, _, s0, bel⟩ := HM5)
                refine bodyPost_ret (v := .tuple #[.agg #[.int .u64 0, .int .u64 0], .int .i64 3]) (by simp [results, Try.results32, go_sem, r0, r1, s0]) rfl ⟨0, 0, by rw [capC_out hw2.out], by rw [capN_out hw2.out]; exact IsW.zero, ?_⟩
                exact ((bel.setCell (by simp) _).setCell (by simp) _).alloc (by simp; omega) _
end Go.Proofs.Ytcdafppnfflmcaa
