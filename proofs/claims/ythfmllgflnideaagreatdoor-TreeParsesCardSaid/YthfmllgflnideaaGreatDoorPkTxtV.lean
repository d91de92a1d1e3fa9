/-
  The document's own Unquote, walked.
-/
import Derived.Test.YthfmllgflnideaaGreatDoorPkTexts
import Derived.Test.YthfmllgflnideaaGreatDoorPkPlain
import Derived.Deep.RegionHeld3
namespace Go.Proofs.YthfmllgflnideaaGreatDoor
open Go.RowKit

def GivesUnq (l : List Int) (w : World) (e : Ending) (w' : World) : Prop := ∃ t c, e = .returned (.tuple #[.string (strOfNums t), .int .i64 c]) ∧ UnqL l t c ∧ Below w.heap.size w w'
theorem GivesUnq.word {l : List Int} {w w' : World} (h : NoQ l) (hb : Below w.heap.size w w') : GivesUnq l w (.returned (.tuple #[.string ⟨#[]⟩, .int .i64 5])) w' := ⟨[], 5, rfl, Or.inl ⟨h, rfl, rfl⟩, hb⟩
theorem GivesUnq.long {l xs : List Int} {w w' : World} (h : uf l = .done xs) (hx : 120 < xs.length) (hb : Below w.heap.size w w') : GivesUnq l w (.returned (.tuple #[.string ⟨#[]⟩, .int .i64 9])) w' := ⟨[], 9, rfl, Or.inr ⟨xs, h, Or.inl ⟨hx, rfl, rfl⟩⟩, hb⟩
theorem GivesUnq.fine {l xs : List Int} {w w' : World} (h : uf l = .done xs) (hx : xs.length ≤ 120) (hb : Below w.heap.size w w') : GivesUnq l w (.returned (.tuple #[.string (strOfNums (xs.flatMap encL)), .int .i64 0])) w' := ⟨_, 0, rfl, Or.inr ⟨xs, h, Or.inr ⟨hx, rfl, rfl⟩⟩, hb⟩
theorem rgood_is {s : ByteArray} (hm : s.size ≤ 4294967296) {q : Bool} (h : q = true ↔ GoodL (runesOf (nums s))) (w : World) : Calls Tryz.prog 40 #[.string s] w fun e w' => e = .returned (.bool q) ∧ Below w.heap.size w w' := by
  refine (rgood_any s w hm).mono ?_
  rintro e w' ⟨q', rfl, h', g⟩
  obtain rfl : q' = q := by
    cases q <;> cases q' <;> simp_all
  exact ⟨rfl, g⟩
theorem rdigit_is {r d : Int} (h : hexV r = d) (r0 : -1 ≤ r) (r1 : r ≤ 1114111) (w : World) : Calls Tryz.prog 41 #[.int .i32 r] w fun e w' => e = .returned (.int .i32 d) ∧ w = w' := by
  subst h; exact rdigit_any r w r0 r1
theorem enc_snoc (xs : List Int) (z : Int) : (xs ++ [z]).flatMap encL = xs.flatMap encL ++ encL z := by simp
theorem enc_len (xs : List Int) : (xs.flatMap encL).length ≤ 4 * xs.length := by
  induction xs with
  | nil => simp
  | cons z l ih => rw [List.flatMap_cons, List.length_append, List.length_cons]; have := encL_len z; omega
theorem hexV_bd (r : Int) : hexV r = -1 ∨ (0 ≤ hexV r ∧ hexV r ≤ 15) := by unfold hexV; split <;> (try split) <;> omega
theorem step_norm {xs : List Int} {z : Int} (h : z ≠ 34) (h2 : ¬ (z < 32 ∨ z = 127)) (h3 : z ≠ 92) : ustep (.norm xs) z = .norm (xs ++ [z]) := by
  show (if z = 34 then Qs.done xs else if z < 32 ∨ z = 127 then .dead else if z = 92 then .esc xs else .norm (xs ++ [z])) = _
  rw [if_neg h, if_neg h2, if_neg h3]
theorem step_bad {xs : List Int} {z : Int} (h : z ≠ 34) (h2 : z < 32 ∨ z = 127) : ustep (.norm xs) z = .dead := by
  show (if z = 34 then Qs.done xs else if z < 32 ∨ z = 127 then .dead else if z = 92 then .esc xs else .norm (xs ++ [z])) = _
  rw [if_neg h, if_pos h2]
theorem step_esc {xs : List Int} {z : Int} (h1 : z ≠ 34) (h2 : z ≠ 92) (h3 : z ≠ 110) (h4 : z ≠ 116) (h5 : z ≠ 117) : ustep (.esc xs) z = .dead := by
  show (if z = 34 ∨ z = 92 then Qs.norm (xs ++ [z]) else if z = 110 then .norm (xs ++ [10]) else if z = 116 then .norm (xs ++ [9]) else if z = 117 then .uni xs else .dead) = _
  rw [if_neg (by omega), if_neg h3, if_neg h4, if_neg h5]
theorem step_dig {xs : List Int} {k : Nat} {x z d : Int} (hd : hexV z = d) (h0 : 0 ≤ d) (hk : k < 6) : ustep (.hex xs k x) z = .hex xs (k + 1) (16 * x + d) := by
  show (if 0 ≤ hexV z ∧ k < 6 then Qs.hex xs (k + 1) (16 * x + hexV z) else _) = _
  rw [if_pos (by omega), hd]
theorem step_end {xs : List Int} {k : Nat} {x z : Int} (hd : ¬ (0 ≤ hexV z ∧ k < 6)) (h : z = 125 ∧ k ≠ 0 ∧ x ≤ 1114111 ∧ ¬ (55296 ≤ x ∧ x < 57344)) : ustep (.hex xs k x) z = .norm (xs ++ [x]) := by
  show (if 0 ≤ hexV z ∧ k < 6 then Qs.hex xs (k + 1) (16 * x + hexV z) else if z = 125 ∧ k ≠ 0 ∧ x ≤ 1114111 ∧ ¬ (55296 ≤ x ∧ x < 57344) then .norm (xs ++ [x]) else .dead) = _
  rw [if_neg hd, if_pos h]
theorem step_off {xs : List Int} {k : Nat} {x z : Int} (hd : ¬ (0 ≤ hexV z ∧ k < 6)) (h : ¬ (z = 125 ∧ k ≠ 0 ∧ x ≤ 1114111 ∧ ¬ (55296 ≤ x ∧ x < 57344))) : ustep (.hex xs k x) z = .dead := by
  show (if 0 ≤ hexV z ∧ k < 6 then Qs.hex xs (k + 1) (16 * x + hexV z) else if z = 125 ∧ k ≠ 0 ∧ x ≤ 1114111 ∧ ¬ (55296 ≤ x ∧ x < 57344) then .norm (xs ++ [x]) else .dead) = _
  rw [if_neg hd, if_neg h]
theorem step_open {xs : List Int} {z : Int} (h : z ≠ 123) : ustep (.uni xs) z = .dead := if_neg h
theorem hexV_end : hexV 125 = -1 := by decide
/-- The bound of a number of so many digits. -/
def bdH : Nat → Int
  | 0 => 0
  | k + 1 => 16 * bdH k + 15
theorem bdH_le {k : Nat} (h : k ≤ 6) : bdH k ≤ 16777215 := by
  have : k = 0 ∨ k = 1 ∨ k = 2 ∨ k = 3 ∨ k = 4 ∨ k = 5 ∨ k = 6 := by omega
  rcases this with rfl | rfl | rfl | rfl | rfl | rfl | rfl <;> decide

set_option maxRecDepth 100000 in
set_option maxHeartbeats 16000000 in
theorem runq_any (s : ByteArray) (w : World) (hm : s.size ≤ 4294967296) : Calls Tryz.prog 26 #[.string s] w (GivesUnq (runesOf (nums s)) w) := by
  have hll := runes_len (nums s)
  rw [nums_length] at hll
  have hbd := runes_bd (nums s) (nums_byte s)
  have RGY := Lib.hid (fun (h : GoodL (runesOf (nums s))) w => rgood_is (q := true) hm ⟨fun _ => h, fun _ => rfl⟩ w)
  have RGN := Lib.hid (fun (h : ¬ GoodL (runesOf (nums s))) w => rgood_is (q := false) hm ⟨fun e => Bool.noConfusion e, fun e => (h e).elim⟩ w)
  obtain ⟨l, hl⟩ : ∃ l, runesOf (nums s) = l := ⟨_, rfl⟩
  have R := Lib.hid (fun w => rrunes_any s w hm)
  rw [hl] at R hll hbd RGY RGN ⊢
  clear hl
  have HBD := Lib.hid hbd
  clear hbd
  by_cases hg : GoodL l
  case neg =>
    have RG := Lib.hid (RGN.out hg)
    have hbad := Lib.hid (NoQ.bad hg)
    clear hg
    go_enter Tryz.func26, Tryz.ntmps26
    go_wp2_with (first
      | (go_at_call 15; (with_reducible refine (R.out _).mono ?_); rintro e w1 ⟨v, rfl, ⟨b, off, cap, rfl, hcap, hb, hcell⟩, g, _⟩; have G := Lib.hid g; clear g hcell)
      | (go_at_call 40; (with_reducible refine (RG.out _).mono ?_); rintro e w2 ⟨rfl, g⟩; have G := Lib.hid (below_step G.out g); clear g))
    go_ret2
    exact GivesUnq.word hbad.out G.out
  have RG := Lib.hid (RGY.out hg)
  have HG := Lib.hid hg
  clear hg
  by_cases h2 : l.length < 2
  · have hbad := Lib.hid (NoQ.short h2)
    go_enter Tryz.func26, Tryz.ntmps26
    go_wp2_with (first
      | (go_at_call 15; (with_reducible refine (R.out _).mono ?_); rintro e w1 ⟨v, rfl, ⟨b, off, cap, rfl, hcap, hb, hcell⟩, g, _⟩; have G := Lib.hid g; clear g hcell)
      | (go_at_call 40; (with_reducible refine (RG.out _).mono ?_); rintro e w2 ⟨rfl, g⟩; have G := Lib.hid (below_step G.out g); clear g))
    go_ret2
    exact GivesUnq.word hbad.out G.out
  have h3 : 2 ≤ l.length := by omega
  have h0 : 0 < l.length := by omega
  clear h2
  obtain ⟨z0, hz0⟩ : ∃ z, l.getD 0 0 = z := ⟨_, rfl⟩
  have HZ0 := Lib.hid hz0
  clear hz0
  by_cases hm0 : z0 = 34
  case neg =>
    have hbad := Lib.hid (NoQ.mark h0 HZ0.out hm0)
    have n34 : (z0 != 34) = true := by simpa using hm0
    go_enter Tryz.func26, Tryz.ntmps26
    go_wp2_with (first
      | (go_at_call 15; (with_reducible refine (R.out _).mono ?_); rintro e w1 ⟨v, rfl, ⟨b, off, cap, rfl, hcap, hb, hcell⟩, g, _⟩; have G := Lib.hid g; clear g; have hc0 := hcell 0 h0; rw [HZ0.out, Nat.add_zero] at hc0; clear hcell)
      | (go_at_call 40; (with_reducible refine (RG.out _).mono ?_); rintro e w2 ⟨rfl, g⟩; have hc0 := (g.cell (p := ⟨b, off, none⟩) hb).trans hc0; have G := Lib.hid (below_step G.out g); clear g))
    go_ret2
    exact GivesUnq.word hbad.out G.out
  subst hm0
  have hst : Hid (ut l 1 = .norm []) := ut_next (ut_zero l) h0 HZ0.out
  go_enter Tryz.func26, Tryz.ntmps26
  go_wp2_with (first
    | (go_at_call 15; (with_reducible refine (R.out _).mono ?_); rintro e w1 ⟨v, rfl, ⟨b, off, cap, rfl, hcap, hb, hcell⟩, g, _⟩; have G := Lib.hid g; clear g; have HC := Lib.hid hcell; have hc0 := hcell 0 h0; rw [HZ0.out, Nat.add_zero] at hc0; clear hcell)
    | (go_at_call 40; (with_reducible refine (RG.out _).mono ?_); rintro e w2 ⟨rfl, g⟩; have hc0 := (g.cell (p := ⟨b, off, none⟩) hb).trans hc0; have HC2 := Lib.hid (fun i hi => (g.cell (p := ⟨b, off + i, none⟩) hb).trans (HC.out i hi)); have hb2 := Nat.lt_of_lt_of_le hb g.size; have G := Lib.hid (below_step G.out g); clear g))
  clear hc0
  go_loopw [5, 6, 7] (fun v5 v6 v7 wr => ∃ (i : Nat) (xs : List Int), 1 ≤ i ∧ i ≤ l.length ∧ v7 = .int .i64 i ∧ v6 = .int .i64 xs.length ∧ v5 = .string (strOfNums (xs.flatMap encL)) ∧ xs.length ≤ i ∧ ut l i = .norm xs ∧ Below w2.heap.size w2 wr) (fun _ _ v7 _ => l.length - (intOf v7).toNat)
  case atStart => exact ⟨1, [], by omega, by omega, rfl, rfl, rfl, Nat.zero_le _, hst.out, Below.refl _ _⟩
  case round =>
    obtain ⟨i, xs, i1, hi, rfl, rfl, rfl, hxi, hU, hbel⟩ := hrel
    have HU := Lib.hid hU
    have HB := Lib.hid hbel
    clear hU hbel
    have hsz : (strOfNums (xs.flatMap encL)).size ≤ 4 * xs.length := by rw [strOfNums_size]; exact enc_len xs
    obtain ⟨T, hT⟩ : ∃ T, strOfNums (xs.flatMap encL) = T := ⟨_, rfl⟩
    rw [hT] at hsz ⊢
    have HT := Lib.hid hT
    clear hT
    have hap : Hid (∀ z, T ++ strOfNums (encL z) = strOfNums ((xs ++ [z]).flatMap encL)) := fun z => by rw [enc_snoc, ← strOfNums_append, HT.out]
    have hln : Hid (∀ z, ((xs.length : Int) + 1) = ((xs ++ [z]).length : Int)) := fun z => by simp
    obtain ⟨n, hn⟩ : ∃ n, xs.length = n := ⟨_, rfl⟩
    rw [hn] at hsz hxi ⊢
    have HN := Lib.hid hn
    clear hn
    have HL := Lib.hid hi
    have hci := Lib.hid (fun j (hj : j < l.length) => (HB.out.cell (p := ⟨b, off + j, none⟩) hb2).trans (HC2.out j hj))
    have hzb := Lib.hid (fun j (hj : j < l.length) => And.intro (HG.out j hj) (getD_bd HBD.out hj).2)
    by_cases h1 : i < l.length
    case neg =>
      have hbad := Lib.hid (NoQ.over HU.out (by omega) (fun xs e => by cases e))
      have e1 : ((i : Int) != (l.length : Int) - 1) = true := bne_iff_ne.mpr (by omega)
      go_wp2
      go_ret2
      exact GivesUnq.word hbad.out (below_step G.out HB.out)
    have hx := hci.out i h1
    obtain ⟨zb0, zb1⟩ := hzb.out i h1
    obtain ⟨z, hz⟩ : ∃ z, l.getD i 0 = z := ⟨_, rfl⟩
    rw [hz] at hx zb0 zb1
    have HS := Lib.hid (fun u (h : ustep (.norm xs) z = u) => (ut_next HU.out h1 hz).trans h)
    clear hz
    by_cases k34 : z = 34
    · subst k34
      have hd := Lib.hid (HS.out _ rfl)
      by_cases hend : i + 1 = l.length
      · have hdone : Hid (uf l = .done xs) := by have h5 := hd.out; rw [hend, ut_all] at h5; exact h5
        have e1 : ((i : Int) != (l.length : Int) - 1) = false := by rw [bne_eq_false_iff_eq]; omega
        by_cases h120 : 120 < n
        · have h121 : Hid (120 < xs.length) := by unfold Hid; rw [HN.out]; exact h120
          go_wp2
          go_ret2
          exact GivesUnq.long hdone.out h121.out (below_step G.out HB.out)
        · have h121 : Hid (xs.length ≤ 120) := by unfold Hid; rw [HN.out]; omega
          go_wp2
          go_ret2
          rw [← HT.out]
          exact GivesUnq.fine hdone.out h121.out (below_step G.out HB.out)
      · have e1 : ((i : Int) != (l.length : Int) - 1) = true := bne_iff_ne.mpr (by omega)
        have hbad := Lib.hid (NoQ.dead (ut_next hd.out (show i + 1 < l.length by omega) rfl))
        go_wp2
        go_ret2
        exact GivesUnq.word hbad.out (below_step G.out HB.out)
    have n34 : (z == 34) = false := by simpa using k34
    have m34 : (z != 34) = true := by simpa using k34
    by_cases k32 : z < 32
    · have hh := Lib.hid (HS.out _ (step_bad k34 (Or.inl k32)))
      have hbad := Lib.hid (NoQ.dead hh.out)
      go_wp2
      go_ret2
      exact GivesUnq.word hbad.out (below_step G.out HB.out)
    by_cases k127 : z = 127
    · subst k127
      have hh := Lib.hid (HS.out _ (step_bad (by decide) (Or.inr rfl)))
      have hbad := Lib.hid (NoQ.dead hh.out)
      go_wp2
      go_ret2
      exact GivesUnq.word hbad.out (below_step G.out HB.out)
    have n127 : (z == 127) = false := by simpa using k127
    by_cases k92 : z = 92
    case neg =>
      have n92 : (z == 92) = false := by simpa using k92
      have hnx := Lib.hid (show ut l (i + 1) = .norm (xs ++ [z]) from HS.out _ (step_norm k34 (by omega) k92))
      have hta := Lib.hid (hap.out (z))
      have htl := Lib.hid (hln.out (z))
      obtain ⟨t, ht⟩ : ∃ t, encL (z) = t := ⟨_, rfl⟩
      have HY := Lib.hid (fun w => rbytes_is ht w (by omega) (by omega))
      have hlt : (strOfNums t).size ≤ 4 := by rw [strOfNums_size, ← ht]; exact encL_len _
      have s1 : ¬ 9223372036854775807 < T.size + (strOfNums t).size := by omega
      rw [ht] at hta
      clear ht
      go_wp2_with (first
        | (go_at_call 42; (with_reducible refine (HY.out _).mono ?_); rintro e w3 ⟨rfl, g⟩; have B3 := Lib.hid (below_step HB.out g); clear g))
      go_roundw
      case rel => exact ⟨i + 1, xs ++ [z], by omega, by omega, congrArg (Value.int IntKind.i64) (by omega), by rw [← htl.out, HN.out], by rw [← hta.out], by have h5 := HN.out; simp only [List.length_append, List.length_singleton]; omega, hnx.out, B3.out⟩
      case measure => simp [intOf]; omega
    subst k92
    have HE := Lib.hid (HS.out _ rfl)
    by_cases h1b : i + 1 < l.length
    case neg =>
      have hbad := Lib.hid (NoQ.over HE.out (by omega) (fun xs e => by cases e))
      go_wp2
      go_ret2
      exact GivesUnq.word hbad.out (below_step G.out HB.out)
    have hxb := hci.out (i + 1) h1b
    obtain ⟨cb0, cb1⟩ := hzb.out (i + 1) h1b
    obtain ⟨c, hc⟩ : ∃ c, l.getD (i + 1) 0 = c := ⟨_, rfl⟩
    rw [hc] at hxb cb0 cb1
    have HS2 := Lib.hid (fun u (h : ustep (.esc xs) c = u) => (ut_next HE.out h1b hc).trans h)
    clear hc
    obtain ⟨i2, hi2⟩ : ∃ i2, i + 1 = i2 := ⟨_, rfl⟩
    have hi2c : (i : Int) + 1 = (i2 : Int) := by omega
    rw [hi2] at hxb h1b
    by_cases k1034 : c = 34
    · subst k1034
      have hnx := Lib.hid (show ut l (i + 2) = .norm (xs ++ [34]) from HS2.out _ rfl)
      have hta := Lib.hid (hap.out (34))
      have htl := Lib.hid (hln.out (34))
      obtain ⟨t, ht⟩ : ∃ t, encL (34) = t := ⟨_, rfl⟩
      have HY := Lib.hid (fun w => rbytes_is ht w (by decide) (by decide))
      have hlt : (strOfNums t).size ≤ 4 := by rw [strOfNums_size, ← ht]; exact encL_len _
      have s1 : ¬ 9223372036854775807 < T.size + (strOfNums t).size := by omega
      rw [ht] at hta
      clear ht
      go_wp2_with (first
        | (go_at_call 42; (with_reducible refine (HY.out _).mono ?_); rintro e w3 ⟨rfl, g⟩; have B3 := Lib.hid (below_step HB.out g); clear g))
      go_roundw
      case rel => exact ⟨i + 2, xs ++ [34], by omega, by omega, congrArg (Value.int IntKind.i64) (by omega), by rw [← htl.out, HN.out], by rw [← hta.out], by have h5 := HN.out; simp only [List.length_append, List.length_singleton]; omega, hnx.out, B3.out⟩
      case measure => simp [intOf]; omega
    have e1034 : (c == 34) = false := by simpa using k1034
    by_cases k1092 : c = 92
    · subst k1092
      have hnx := Lib.hid (show ut l (i + 2) = .norm (xs ++ [92]) from HS2.out _ rfl)
      have hta := Lib.hid (hap.out (92))
      have htl := Lib.hid (hln.out (92))
      obtain ⟨t, ht⟩ : ∃ t, encL (92) = t := ⟨_, rfl⟩
      have HY := Lib.hid (fun w => rbytes_is ht w (by decide) (by decide))
      have hlt : (strOfNums t).size ≤ 4 := by rw [strOfNums_size, ← ht]; exact encL_len _
      have s1 : ¬ 9223372036854775807 < T.size + (strOfNums t).size := by omega
      rw [ht] at hta
      clear ht
      go_wp2_with (first
        | (go_at_call 42; (with_reducible refine (HY.out _).mono ?_); rintro e w3 ⟨rfl, g⟩; have B3 := Lib.hid (below_step HB.out g); clear g))
      go_roundw
      case rel => exact ⟨i + 2, xs ++ [92], by omega, by omega, congrArg (Value.int IntKind.i64) (by omega), by rw [← htl.out, HN.out], by rw [← hta.out], by have h5 := HN.out; simp only [List.length_append, List.length_singleton]; omega, hnx.out, B3.out⟩
      case measure => simp [intOf]; omega
    have e1092 : (c == 92) = false := by simpa using k1092
    by_cases k1110 : c = 110
    · subst k1110
      have hnx := Lib.hid (show ut l (i + 2) = .norm (xs ++ [10]) from HS2.out _ rfl)
      have hta := Lib.hid (hap.out (10))
      have htl := Lib.hid (hln.out (10))
      obtain ⟨t, ht⟩ : ∃ t, encL (10) = t := ⟨_, rfl⟩
      have HY := Lib.hid (fun w => rbytes_is ht w (by decide) (by decide))
      have hlt : (strOfNums t).size ≤ 4 := by rw [strOfNums_size, ← ht]; exact encL_len _
      have s1 : ¬ 9223372036854775807 < T.size + (strOfNums t).size := by omega
      rw [ht] at hta
      clear ht
      go_wp2_with (first
        | (go_at_call 42; (with_reducible refine (HY.out _).mono ?_); rintro e w3 ⟨rfl, g⟩; have B3 := Lib.hid (below_step HB.out g); clear g))
      go_roundw
      case rel => exact ⟨i + 2, xs ++ [10], by omega, by omega, congrArg (Value.int IntKind.i64) (by omega), by rw [← htl.out, HN.out], by rw [← hta.out], by have h5 := HN.out; simp only [List.length_append, List.length_singleton]; omega, hnx.out, B3.out⟩
      case measure => simp [intOf]; omega
    have e1110 : (c == 110) = false := by simpa using k1110
    by_cases k1116 : c = 116
    · subst k1116
      have hnx := Lib.hid (show ut l (i + 2) = .norm (xs ++ [9]) from HS2.out _ rfl)
      have hta := Lib.hid (hap.out (9))
      have htl := Lib.hid (hln.out (9))
      obtain ⟨t, ht⟩ : ∃ t, encL (9) = t := ⟨_, rfl⟩
      have HY := Lib.hid (fun w => rbytes_is ht w (by decide) (by decide))
      have hlt : (strOfNums t).size ≤ 4 := by rw [strOfNums_size, ← ht]; exact encL_len _
      have s1 : ¬ 9223372036854775807 < T.size + (strOfNums t).size := by omega
      rw [ht] at hta
      clear ht
      go_wp2_with (first
        | (go_at_call 42; (with_reducible refine (HY.out _).mono ?_); rintro e w3 ⟨rfl, g⟩; have B3 := Lib.hid (below_step HB.out g); clear g))
      go_roundw
      case rel => exact ⟨i + 2, xs ++ [9], by omega, by omega, congrArg (Value.int IntKind.i64) (by omega), by rw [← htl.out, HN.out], by rw [← hta.out], by have h5 := HN.out; simp only [List.length_append, List.length_singleton]; omega, hnx.out, B3.out⟩
      case measure => simp [intOf]; omega
    have e1116 : (c == 116) = false := by simpa using k1116
    by_cases k1117 : c = 117
    case neg =>
      have e1117 : (c == 117) = false := by simpa using k1117
      have hh := Lib.hid (HS2.out _ (step_esc k1034 k1092 k1110 k1116 k1117))
      have hbad := Lib.hid (NoQ.dead hh.out)
      go_wp2
      go_ret2
      exact GivesUnq.word hbad.out (below_step G.out HB.out)
    subst k1117
    have HE2 := Lib.hid (HS2.out _ rfl)
    by_cases h1c : i2 + 1 < l.length
    case neg =>
      have hbad := Lib.hid (NoQ.over HE2.out (by omega) (fun xs e => by cases e))
      go_wp2
      go_ret2
      exact GivesUnq.word hbad.out (below_step G.out HB.out)
    have hxc := hci.out (i2 + 1) h1c
    obtain ⟨d, hd⟩ : ∃ d, l.getD (i2 + 1) 0 = d := ⟨_, rfl⟩
    rw [hd] at hxc
    have HS3 := Lib.hid (fun u (h : ustep (.uni xs) d = u) => (ut_next (i := i2 + 1) (by rw [← hi2]; exact HE2.out) h1c hd).trans h)
    clear hd
    obtain ⟨i3, hi3⟩ : ∃ i3, i2 + 1 = i3 := ⟨_, rfl⟩
    have hi3c : (i2 : Int) + 1 = (i3 : Int) := by omega
    rw [hi3] at hxc h1c
    by_cases k123 : d = 123
    case neg =>
      have e123 : (d != 123) = true := by simpa using k123
      have hh := Lib.hid (HS3.out _ (step_open k123))
      have hbad := Lib.hid (NoQ.dead hh.out)
      go_wp2
      go_ret2
      exact GivesUnq.word hbad.out (below_step G.out HB.out)
    subst k123
    have HE3 : Hid (ut l (i3 + 1) = .hex xs 0 0) := by have h5 := HS3.out _ rfl; rw [hi3] at h5; exact h5
    have HI2 := Lib.hid hi2
    have HI3 := Lib.hid hi3
    clear hi2 hi3
    go_wp2
    go_loop [7, 8, 10] (fun v7 v8 v10 => ∃ (j k : Nat) (x : Int), j = i3 + 1 + k ∧ j ≤ l.length ∧ k ≤ 6 ∧ v7 = .int .i64 j ∧ v10 = .int .i64 k ∧ v8 = .int .i32 x ∧ 0 ≤ x ∧ x ≤ bdH k ∧ ut l j = .hex xs k x) (fun v7 _ _ => l.length - (intOf v7).toNat)
    case atStart => exact ⟨i3 + 1, 0, 0, by omega, by omega, by omega, congrArg (Value.int IntKind.i64) (by omega), rfl, rfl, by decide, by decide, HE3.out⟩
    case round =>
      obtain ⟨j, k, x, hjk, hj, hk6, rfl, rfl, rfl, x0, hxb2, hUj⟩ := hrel
      have x1 : x ≤ 16777215 := by have := bdH_le hk6; omega
      have HX := Lib.hid hxb2
      have HJ := Lib.hid hUj
      have HJK := Lib.hid hjk
      clear hxb2 hUj hjk hxc hxb hx
      have hjl : ¬ (j < i) := by have := HJK.out; have := HI2.out; have := HI3.out; omega
      by_cases h1j : j < l.length
      case neg =>
        have hov := Lib.hid (NoQ.over HJ.out (by omega) (fun xs e => by cases e))
        by_cases hk0 : k = 0
        · subst hk0
          have hbad := Lib.hid (hov.out)
          go_wp2
          go_ret2
          exact GivesUnq.word hbad.out (below_step G.out HB.out)
        · have hkz : ((k : Int) == 0) = false := beq_eq_false_iff_ne.mpr (by omega)
          have hkz2 : ¬ (k : Int) = 0 := by omega
          have hbad := Lib.hid (hov.out)
          go_wp2
          go_ret2
          exact GivesUnq.word hbad.out (below_step G.out HB.out)
      have hxj := hci.out j h1j
      obtain ⟨hb0, hb1⟩ := hzb.out j h1j
      obtain ⟨h, hh⟩ : ∃ h, l.getD j 0 = h := ⟨_, rfl⟩
      rw [hh] at hxj hb0 hb1
      have HS4 := Lib.hid (fun u (g : ustep (.hex xs k x) h = u) => (ut_next HJ.out h1j hh).trans g)
      clear hh
      obtain ⟨v, hv⟩ : ∃ v, hexV h = v := ⟨_, rfl⟩
      have HD := Lib.hid (fun w => rdigit_is hv (by omega) hb1 w)
      have hvb := hexV_bd h
      rw [hv] at hvb
      have HV := Lib.hid hv
      clear hv
      by_cases hv0 : 0 ≤ v
      · have hv1 : v ≤ 15 := by omega
        clear hvb
        by_cases hk5 : k < 6
        · have hnx := Lib.hid (HS4.out _ (step_dig HV.out hv0 hk5))
          have hbx : Hid (16 * x + v ≤ bdH (k + 1)) := by have h5 := HX.out; unfold Hid; simp only [bdH]; omega
          go_wp2_with (go_at_call 41; (with_reducible refine (HD.out _).mono ?_); rintro e w4 ⟨rfl, rfl⟩)
          go_round
          case rel => exact ⟨j + 1, k + 1, 16 * x + v, by have := HJK.out; omega, by omega, by omega, by go_num, by go_num, rfl, by omega, hbx.out, hnx.out⟩
          case measure => simp [intOf]; omega
        · have hk7 : Hid (k = 6) := by unfold Hid; omega
          have hne : h ≠ 125 := fun e => by have h5 := HV.out; rw [e, hexV_end] at h5; omega
          have e125 : (h != 125) = true := by simpa using hne
          have hdd := Lib.hid (HS4.out _ (step_off (by omega) (fun g => hne g.1)))
          have hkz : ((k : Int) == 0) = false := beq_eq_false_iff_ne.mpr (by omega)
          have hbad := Lib.hid (NoQ.dead hdd.out)
          go_wp2_with (first
            | (go_at_call 41; (with_reducible refine (HD.out _).mono ?_); rintro e w4 ⟨rfl, rfl⟩))
          go_ret2
          exact GivesUnq.word hbad.out (below_step G.out HB.out)
      have hvn : v = -1 := by omega
      subst hvn
      clear hvb hv0
      have hno : Hid (¬ (0 ≤ hexV h ∧ k < 6)) := by have h5 := HV.out; unfold Hid; omega
      by_cases hk0 : k = 0
      · subst hk0
        have hdd := Lib.hid (HS4.out _ (step_off hno.out (fun g => g.2.1 rfl)))
        have hbad := Lib.hid (NoQ.dead hdd.out)
        go_wp2_with (first
          | (go_at_call 41; (with_reducible refine (HD.out _).mono ?_); rintro e w4 ⟨rfl, rfl⟩))
        go_ret2
        exact GivesUnq.word hbad.out (below_step G.out HB.out)
      have hkz : ((k : Int) == 0) = false := beq_eq_false_iff_ne.mpr (by omega)
      have hkz2 : ¬ (k : Int) = 0 := by omega
      by_cases k125 : h = 125
      case neg =>
        have e125 : (h != 125) = true := by simpa using k125
        have hdd := Lib.hid (HS4.out _ (step_off hno.out (fun g => k125 g.1)))
        have hbad := Lib.hid (NoQ.dead hdd.out)
        go_wp2_with (first
          | (go_at_call 41; (with_reducible refine (HD.out _).mono ?_); rintro e w4 ⟨rfl, rfl⟩))
        go_ret2
        exact GivesUnq.word hbad.out (below_step G.out HB.out)
      subst k125
      by_cases xm : 1114111 < x
      · have hdd := Lib.hid (HS4.out _ (step_off hno.out (fun g => by have h5 := g.2.2.1; omega)))
        have hbad := Lib.hid (NoQ.dead hdd.out)
        go_wp2_with (first
          | (go_at_call 41; (with_reducible refine (HD.out _).mono ?_); rintro e w4 ⟨rfl, rfl⟩))
        go_ret2
        exact GivesUnq.word hbad.out (below_step G.out HB.out)
      have xm2 : x ≤ 1114111 := by omega
      by_cases xlo : x < 55296
      · have hdd := Lib.hid (HS4.out _ (step_end hno.out ⟨rfl, hk0, xm2, by omega⟩))
        obtain ⟨m, hm5⟩ : ∃ m, j + 1 = i + m := ⟨j + 1 - i, by omega⟩
        have hdd2 : Hid (ut l (i + m) = .norm (xs ++ [x])) := by have h5 := hdd.out; rw [hm5] at h5; exact h5
        have hmc : (j : Int) + 1 = ((i + m : Nat) : Int) := by omega
        have hnx := Lib.hid (show ut l (i + m) = .norm (xs ++ [x]) from hdd2.out)
        have hta := Lib.hid (hap.out (x))
        have htl := Lib.hid (hln.out (x))
        obtain ⟨t, ht⟩ : ∃ t, encL (x) = t := ⟨_, rfl⟩
        have HY := Lib.hid (fun w => rbytes_is ht w (by omega) (by omega))
        have hlt : (strOfNums t).size ≤ 4 := by rw [strOfNums_size, ← ht]; exact encL_len _
        have s1 : ¬ 9223372036854775807 < T.size + (strOfNums t).size := by omega
        rw [ht] at hta
        clear ht
        go_wp2_with (first
          | (go_at_call 41; (with_reducible refine (HD.out _).mono ?_); rintro e w4 ⟨rfl, rfl⟩)
          | (go_at_call 42; (with_reducible refine (HY.out _).mono ?_); rintro e w3 ⟨rfl, g⟩; have B3 := Lib.hid (below_step HB.out g); clear g))
        go_roundw
        case rel => exact ⟨i + m, xs ++ [x], by omega, by omega, congrArg (Value.int IntKind.i64) (by omega), by rw [← htl.out, HN.out], by rw [← hta.out], by have h5 := HN.out; simp only [List.length_append, List.length_singleton]; omega, hnx.out, B3.out⟩
        case measure => simp [intOf]; omega
      by_cases xhi : 57344 ≤ x
      · have hdd := Lib.hid (HS4.out _ (step_end hno.out ⟨rfl, hk0, xm2, by omega⟩))
        obtain ⟨m, hm5⟩ : ∃ m, j + 1 = i + m := ⟨j + 1 - i, by omega⟩
        have hdd2 : Hid (ut l (i + m) = .norm (xs ++ [x])) := by have h5 := hdd.out; rw [hm5] at h5; exact h5
        have hmc : (j : Int) + 1 = ((i + m : Nat) : Int) := by omega
        have hnx := Lib.hid (show ut l (i + m) = .norm (xs ++ [x]) from hdd2.out)
        have hta := Lib.hid (hap.out (x))
        have htl := Lib.hid (hln.out (x))
        obtain ⟨t, ht⟩ : ∃ t, encL (x) = t := ⟨_, rfl⟩
        have HY := Lib.hid (fun w => rbytes_is ht w (by omega) (by omega))
        have hlt : (strOfNums t).size ≤ 4 := by rw [strOfNums_size, ← ht]; exact encL_len _
        have s1 : ¬ 9223372036854775807 < T.size + (strOfNums t).size := by omega
        rw [ht] at hta
        clear ht
        go_wp2_with (first
          | (go_at_call 41; (with_reducible refine (HD.out _).mono ?_); rintro e w4 ⟨rfl, rfl⟩)
          | (go_at_call 42; (with_reducible refine (HY.out _).mono ?_); rintro e w3 ⟨rfl, g⟩; have B3 := Lib.hid (below_step HB.out g); clear g))
        go_roundw
        case rel => exact ⟨i + m, xs ++ [x], by omega, by omega, congrArg (Value.int IntKind.i64) (by omega), by rw [← htl.out, HN.out], by rw [← hta.out], by have h5 := HN.out; simp only [List.length_append, List.length_singleton]; omega, hnx.out, B3.out⟩
        case measure => simp [intOf]; omega
      have hdd := Lib.hid (HS4.out _ (step_off hno.out (fun g => by have h5 := g.2.2.2; omega)))
      have xs1 : 55296 ≤ x := by omega
      have xs2 : x < 57344 := by omega
      have hbad := Lib.hid (NoQ.dead hdd.out)
      go_wp2_with (first
        | (go_at_call 41; (with_reducible refine (HD.out _).mono ?_); rintro e w4 ⟨rfl, rfl⟩))
      go_ret2
      exact GivesUnq.word hbad.out (below_step G.out HB.out)

end Go.Proofs.YthfmllgflnideaaGreatDoor
