/-
  The document's own runes of a text, walked.
-/
import Derived.Test.YtmgimkokmlcllaaGreatDoorPkPlain
import Derived.Test.YtmgimkokmlcllaaGreatDoorPkVrs
import Derived.WalkSpells
import Derived.WalkLawsBesides
import Derived.Lib.Hide
import Derived.Lib.OthersKept
namespace Go.Proofs.YtmgimkokmlcllaaGreatDoor
open Go.RowKit

theorem info_rune : (Tryz.prog.info? 21).map (fun i => (i.zero, i.size, i.bytes)) = some (some (.int .i32 0), 1, 4) := by kernel_rfl
structure RunesAt (zs : List Int) (i : Nat) (l : List Int) : Prop where
  all : runesOf zs = l ++ rfrom zs i
  len : l.length ≤ i
theorem RunesAt.start (zs : List Int) : RunesAt zs 0 [] := ⟨rfl, Nat.le_refl _⟩
theorem RunesAt.next {zs : List Int} {i : Nat} {l : List Int} (h : RunesAt zs i l) (hi : i < zs.length) {z : Int} {n : Nat} (hz : runeA zs i = z) (hn : widA zs i = n) (n1 : 1 ≤ n) : RunesAt zs (i + n) (l ++ [z]) := by
  obtain ⟨h1, h2⟩ := h
  refine ⟨?_, by simp; omega⟩
  rw [h1, rfrom_in hi, hz, hn, List.append_assoc]; rfl
theorem RunesAt.fin {zs : List Int} {i : Nat} {l : List Int} (h : RunesAt zs i l) (hi : ¬ i < zs.length) : runesOf zs = l := by rw [h.all, rfrom_out hi, List.append_nil]
def bdC : Nat → Int
  | 0 => 31
  | k + 1 => 64 * bdC k + 63
theorem bdC_pos (k : Nat) : 0 ≤ bdC k := by
  induction k with
  | zero => decide
  | succ k ih => simp only [bdC]; omega
theorem bdC_mono {k n : Nat} (h : k ≤ n) : bdC k ≤ bdC n := by
  induction n with
  | zero => obtain rfl : k = 0 := by omega
            exact Int.le_refl _
  | succ n ih =>
    by_cases e : k = n + 1
    · rw [e]; exact Int.le_refl _
    · have h1 := ih (by omega)
      have h2 := bdC_pos n
      simp only [bdC]; omega
structure InR (zs : List Int) (i k : Nat) (c : Int) : Prop where
  all : allB zs i k = true
  ec : c = cAt zs i k
  c0 : 0 ≤ c
  c1 : c ≤ bdC k
theorem InR.next {zs : List Int} {i k : Nat} {c z : Int} (h : InR zs i k c) (hl : i + (k + 1) < zs.length) (hz : zs.getD (i + (k + 1)) 0 = z) (z0 : 128 ≤ z) (z1 : z ≤ 191) : InR zs i (k + 1) (64 * c + z - 128) := by
  obtain ⟨h1, h2, h3, h4⟩ := h
  refine ⟨?_, ?_, by omega, ?_⟩
  · simp only [allB, h1, Bool.true_and]; exact contB_iff.mpr ⟨hl, by omega, by omega⟩
  · rw [cAt, hz, h2]
  · simp only [bdC]; omega
theorem InR.miss {zs : List Int} {i k : Nat} (hl : ¬ i + (k + 1) < zs.length) (hn : k + 1 ≤ clsN (zs.getD i 0)) : wholeB zs i = false := by
  have h1 : allB zs i (k + 1) = false := by
    simp only [allB]
    have : contB zs (i + (k + 1)) = false := by
      cases hc : contB zs (i + (k + 1)) with
      | false => rfl
      | true => exact (hl (contB_iff.mp hc).1).elim
    rw [this, Bool.and_false]
  unfold wholeB
  rw [allB_less h1 hn]; simp
theorem InR.break {zs : List Int} {i k : Nat} {z : Int} (hz : zs.getD (i + (k + 1)) 0 = z) (hc : z < 128 ∨ 191 < z) (hn : k + 1 ≤ clsN (zs.getD i 0)) : wholeB zs i = false := by
  have h1 : allB zs i (k + 1) = false := by
    simp only [allB]
    have : contB zs (i + (k + 1)) = false := by
      cases hc2 : contB zs (i + (k + 1)) with
      | false => rfl
      | true => have := contB_iff.mp hc2; omega
    rw [this, Bool.and_false]
  unfold wholeB
  rw [allB_less h1 hn]; simp
theorem InR.good {zs : List Int} {i n : Nat} {c L : Int} (h : InR zs i n c) (hn : clsN (zs.getD i 0) = n) (n0 : 0 < n) (hL : clsL (zs.getD i 0) = L) (h1 : L ≤ c) (h2 : c ≤ 1114111) (h3 : ¬ (55296 ≤ c ∧ c < 57344)) (h128 : ¬ zs.getD i 0 < 128) : runeA zs i = c ∧ widA zs i = n + 1 := by
  have hw : wholeB zs i = true := by
    unfold wholeB
    rw [hn, hL, h.all, ← h.ec]
    simp; omega
  obtain ⟨r1, r2⟩ := runeA_good h128 hw
  rw [r1, r2, hn, ← h.ec]
  exact ⟨rfl, rfl⟩
theorem InR.bad {zs : List Int} {i n : Nat} {c L : Int} (h : InR zs i n c) (hn : clsN (zs.getD i 0) = n) (hL : clsL (zs.getD i 0) = L) (hc : c < L ∨ 1114111 < c ∨ (55296 ≤ c ∧ c < 57344)) : wholeB zs i = false := by
  unfold wholeB
  rw [hn, hL, h.all, ← h.ec]
  simp; omega
theorem whole_none {zs : List Int} {i : Nat} (hn : clsN (zs.getD i 0) = 0) : wholeB zs i = false := by unfold wholeB; rw [hn]; rfl

def GivesRunes (l : List Int) (w : World) (e : Ending) (w' : World) : Prop := ∃ v, e = .returned v ∧ Ints .i32 w' v l ∧ Below w.heap.size w w' ∧ ∀ b, v.ownBlock = some b → w.heap.size ≤ b

set_option maxRecDepth 100000 in
set_option maxHeartbeats 8000000 in
theorem rrunes_any (s : ByteArray) (w : World) (hm : s.size ≤ 4294967296) : Calls Tryz.prog 71 #[.string s] w (GivesRunes (runesOf (nums s)) w) := by
  have hlen : Hid ((nums s).length = s.size) := nums_length s
  obtain ⟨i0, hi, hz0, hz1, hz2⟩ := info_parts info_rune
  go_enter Tryz.func71, Tryz.ntmps71
  go_wp2
  go_loopw [3, 4] (fun v3 v4 wr => ∃ (i : Nat) (l : List Int), i ≤ s.size ∧ v4 = .int .i64 i ∧ RunesAt (nums s) i l ∧ OwnInts 21 .i32 wr w.heap.size v3 l ∧ Below w.heap.size w wr ∧ w.heap.size ≤ wr.heap.size) (fun _ v4 _ => s.size - (intOf v4).toNat)
  case atStart => exact ⟨0, [], Nat.zero_le _, rfl, RunesAt.start _, OwnInts.fresh _ _ _ _ _ (by simp) (Nat.le_refl _), (Below.refl _ _).alloc (Nat.le_refl _) _, by simp⟩
  case round =>
    obtain ⟨i, l, hi9, rfl, hA, hown, hbel, hsz⟩ := hrel
    have HA := Lib.hid hA
    have HO := Lib.hid hown
    have HB := Lib.hid hbel
    have HL := Lib.hid hA.len
    clear hA hown hbel
    by_cases h1 : i < s.size
    · obtain ⟨c, hc, hcc⟩ : ∃ c, ((s[i]'h1).toNat : Int) = c ∧ Hid ((nums s).getD i 0 = c) := ⟨_, rfl, nums_at s i h1⟩
      have hcb : 0 ≤ c ∧ c ≤ 255 := by rw [← hc]; have := (s[i]'h1).toNat_lt; omega
      obtain ⟨c0, c1⟩ := hcb
      have hl : Hid (i < (nums s).length) := by unfold Hid; rw [hlen.out]; exact h1
      by_cases k1 : c < 128
      · have hnext := Lib.hid (HA.out.next hl.out ((runeA_low (by rw [hcc.out]; exact k1)).1.trans hcc.out) (runeA_low (by rw [hcc.out]; exact k1)).2 (Nat.le_refl _))
        have cw : IntKind.i32.wrap c = c := by rw [IntKind.wrap_i32]; omega
        go_wp2_with (at_builtin; refine wpList_append_own _ rfl _ _ 101 rfl w.heap.size 21 i0 (.int .i32 0) 1 4 Tryz.underlying101 hi hz0 hz1 hz2 rfl (by decide) _ _ _ rfl (HO.out.1.alloc _) ⟨wr.heap.size, 0, none⟩ 1 1 [.int .i32 (c)] rfl rfl ?q1a ?q1b ?q1c ?q1d ?q1e ?_)
        all_goals first | (exact cell_one_new _ _ _) | rfl | (intro u hu; simp at hu; subst hu; rfl) | (have := HL.out; unfold maxLen; omega) | (have := HL.out; omega) | (simp; omega) | skip
        intro v' w1 hown' hgrow hiff
        have hn1 := ints_next HO.out hown' hgrow hiff HB.out (Nat.le_refl _) hsz
        clear hown' hgrow hiff
        obtain ⟨hn1, hn2, hn3⟩ := hn1
        go_wp2
        go_roundw
        case rel => exact ⟨i + 1, _, by omega, by go_num, hnext.out, hn1, hn2, hn3⟩
        case measure => simp [intOf]; omega
      · have k128 : Hid (128 ≤ (nums s).getD i 0) := by unfold Hid; rw [hcc.out]; omega
        have cw : IntKind.i32.wrap c = c := by rw [IntKind.wrap_i32]; omega
        have hbad := Lib.hid (fun h : wholeB (nums s) i = false => HA.out.next hl.out (runeA_bad (by have := k128.out; omega) h).1 (runeA_bad (by have := k128.out; omega) h).2 (Nat.le_refl _))
        by_cases k2 : c < 192 ∨ 248 ≤ c
        · have hN : Hid (clsN ((nums s).getD i 0) = 0) := by unfold Hid clsN; rw [hcc.out]; rw [if_neg (by omega)]; rw [if_neg (by omega)]; rw [if_neg (by omega)]
          have hB := Lib.hid (hbad.out (whole_none hN.out))
          by_cases k3 : c < 192
          · clear k2
            go_wp2
            go_loop [5, 8, 9] (fun v5 v8 v9 => v9 = .int .i64 1 ∧ v5 = .int .i32 c ∧ v8 = .bool false) (fun _ _ _ => 0)
            case atStart => exact ⟨rfl, rfl, rfl⟩
            case round =>
              obtain ⟨rfl, rfl, rfl⟩ := hrel
              go_wp2_with (at_builtin; refine wpList_append_own _ rfl _ _ 101 rfl w.heap.size 21 i0 (.int .i32 0) 1 4 Tryz.underlying101 hi hz0 hz1 hz2 rfl (by decide) _ _ _ rfl (HO.out.1.alloc _) ⟨wr.heap.size, 0, none⟩ 1 1 [.int .i32 (-1)] rfl rfl ?q2a ?q2b ?q2c ?q2d ?q2e ?_)
              all_goals first | (exact cell_one_new _ _ _) | rfl | (intro u hu; simp at hu; subst hu; rfl) | (have := HL.out; unfold maxLen; omega) | (have := HL.out; omega) | (simp; omega) | skip
              intro v' w1 hown' hgrow hiff
              have hn1 := ints_next HO.out hown' hgrow hiff HB.out (Nat.le_refl _) hsz
              clear hown' hgrow hiff
              obtain ⟨hn1, hn2, hn3⟩ := hn1
              go_wp2
              go_roundw
              case rel => exact ⟨i + 1, _, by omega, by go_num, hB.out, hn1, hn2, hn3⟩
              case measure => simp [intOf]; omega
          · have k4 : 248 ≤ c := by omega
            clear k2
            go_wp2
            go_loop [5, 8, 9] (fun v5 v8 v9 => v9 = .int .i64 1 ∧ v5 = .int .i32 c ∧ v8 = .bool false) (fun _ _ _ => 0)
            case atStart => exact ⟨rfl, rfl, rfl⟩
            case round =>
              obtain ⟨rfl, rfl, rfl⟩ := hrel
              go_wp2_with (at_builtin; refine wpList_append_own _ rfl _ _ 101 rfl w.heap.size 21 i0 (.int .i32 0) 1 4 Tryz.underlying101 hi hz0 hz1 hz2 rfl (by decide) _ _ _ rfl (HO.out.1.alloc _) ⟨wr.heap.size, 0, none⟩ 1 1 [.int .i32 (-1)] rfl rfl ?q3a ?q3b ?q3c ?q3d ?q3e ?_)
              all_goals first | (exact cell_one_new _ _ _) | rfl | (intro u hu; simp at hu; subst hu; rfl) | (have := HL.out; unfold maxLen; omega) | (have := HL.out; omega) | (simp; omega) | skip
              intro v' w1 hown' hgrow hiff
              have hn1 := ints_next HO.out hown' hgrow hiff HB.out (Nat.le_refl _) hsz
              clear hown' hgrow hiff
              obtain ⟨hn1, hn2, hn3⟩ := hn1
              go_wp2
              go_roundw
              case rel => exact ⟨i + 1, _, by omega, by go_num, hB.out, hn1, hn2, hn3⟩
              case measure => simp [intOf]; omega
        · have k192 : 192 ≤ c := by omega
          have k248 : c < 248 := by omega
          clear k2
          by_cases k5 : c < 224
          · have g1 : ¬ 224 ≤ c := by omega
            have hN : Hid (clsN ((nums s).getD i 0) = 1) := by unfold Hid clsN; rw [hcc.out]; rw [if_pos (by omega)]
            have hLe : Hid (clsL ((nums s).getD i 0) = 128) := by unfold Hid clsL; rw [hcc.out]; rw [if_pos (by omega)]
            have hI0 : Hid (InR (nums s) i 0 (c - 192)) := ⟨rfl, by rw [cAt, hcc.out]; unfold clsB; rw [if_pos (by omega)], by omega, by show c - 192 ≤ 31; omega⟩
            have cw2 : IntKind.i32.wrap (c - 192) = c - 192 := by rw [IntKind.wrap_i32]; omega
            go_wp2
            go_loop [5, 8, 9] (fun v5 v8 v9 => ∃ (k : Nat) (x : Int), k ≤ 1 ∧ v8 = .bool true ∧ v9 = .int .i64 ((k + 1 : Nat) : Int) ∧ v5 = .int .i32 x ∧ InR (nums s) i k x) (fun _ _ v9 => 10 - (intOf v9).toNat)
            case atStart => exact ⟨0, c - 192, by omega, rfl, rfl, rfl, hI0.out⟩
            case round =>
              obtain ⟨k, x, hk, rfl, rfl, rfl, hI⟩ := hrel
              have HI := Lib.hid hI
              have x0 := hI.c0
              have x1 : x ≤ 2047 := by have h5 := hI.c1; have h6 := bdC_mono hk; have h7 : bdC 1 = 2047 := rfl; omega
              have hk9 := Lib.hid hk
              obtain ⟨κ, hκ⟩ : ∃ κ, k + 1 = κ := ⟨_, rfl⟩
              have HK := Lib.hid hκ
              obtain ⟨j, hj⟩ : ∃ j : Nat, i + κ = j := ⟨_, rfl⟩
              have hj2 : (i : Int) + (κ : Int) = (j : Int) := by omega
              have HJ := Lib.hid hj
              have κ0 : κ ≤ 4 := by omega
              rw [hκ]
              clear hI hk hκ hj
              by_cases h2 : κ ≤ 1
              · by_cases h3 : j < s.size
                · obtain ⟨z, hz, hzz⟩ : ∃ z, ((s[j]'h3).toNat : Int) = z ∧ Hid ((nums s).getD (i + (k + 1)) 0 = z) := ⟨_, rfl, by unfold Hid; rw [HK.out, HJ.out]; exact nums_at s j h3⟩
                  have hzb : 0 ≤ z ∧ z ≤ 255 := by rw [← hz]; have := (s[j]'h3).toNat_lt; omega
                  obtain ⟨z0, z1⟩ := hzb
                  have hl2 : Hid (i + (k + 1) < (nums s).length) := by unfold Hid; rw [hlen.out, HK.out, HJ.out]; exact h3
                  by_cases hlow : z < 128
                  · have hB := Lib.hid (hbad.out (InR.break hzz.out (Or.inl hlow) (by rw [hN.out, HK.out]; exact h2)))
                    go_wp2_with (at_builtin; refine wpList_append_own _ rfl _ _ 101 rfl w.heap.size 21 i0 (.int .i32 0) 1 4 Tryz.underlying101 hi hz0 hz1 hz2 rfl (by decide) _ _ _ rfl (HO.out.1.alloc _) ⟨wr.heap.size, 0, none⟩ 1 1 [.int .i32 (-1)] rfl rfl ?q4a ?q4b ?q4c ?q4d ?q4e ?_)
                    all_goals first | (exact cell_one_new _ _ _) | rfl | (intro u hu; simp at hu; subst hu; rfl) | (have := HL.out; unfold maxLen; omega) | (have := HL.out; omega) | (simp; omega) | skip
                    intro v' w1 hown' hgrow hiff
                    have hn1 := ints_next HO.out hown' hgrow hiff HB.out (Nat.le_refl _) hsz
                    clear hown' hgrow hiff
                    obtain ⟨hn1, hn2, hn3⟩ := hn1
                    go_wp2
                    go_roundw
                    case rel => exact ⟨i + 1, _, by omega, by go_num, hB.out, hn1, hn2, hn3⟩
                    case measure => simp [intOf]; omega
                  · by_cases hhigh : 191 < z
                    · have hB := Lib.hid (hbad.out (InR.break hzz.out (Or.inr hhigh) (by rw [hN.out, HK.out]; exact h2)))
                      go_wp2_with (at_builtin; refine wpList_append_own _ rfl _ _ 101 rfl w.heap.size 21 i0 (.int .i32 0) 1 4 Tryz.underlying101 hi hz0 hz1 hz2 rfl (by decide) _ _ _ rfl (HO.out.1.alloc _) ⟨wr.heap.size, 0, none⟩ 1 1 [.int .i32 (-1)] rfl rfl ?q5a ?q5b ?q5c ?q5d ?q5e ?_)
                      all_goals first | (exact cell_one_new _ _ _) | rfl | (intro u hu; simp at hu; subst hu; rfl) | (have := HL.out; unfold maxLen; omega) | (have := HL.out; omega) | (simp; omega) | skip
                      intro v' w1 hown' hgrow hiff
                      have hn1 := ints_next HO.out hown' hgrow hiff HB.out (Nat.le_refl _) hsz
                      clear hown' hgrow hiff
                      obtain ⟨hn1, hn2, hn3⟩ := hn1
                      go_wp2
                      go_roundw
                      case rel => exact ⟨i + 1, _, by omega, by go_num, hB.out, hn1, hn2, hn3⟩
                      case measure => simp [intOf]; omega
                    · have hnext := Lib.hid (HI.out.next hl2.out hzz.out (by omega) (by omega))
                      have zw : IntKind.i32.wrap z = z := by rw [IntKind.wrap_i32]; omega
                      go_wp2
                      go_round
                      case rel => exact ⟨k + 1, 64 * x + z - 128, by have := HK.out; omega, rfl, congrArg (Value.int IntKind.i64) (by have := HK.out; omega), rfl, hnext.out⟩
                      case measure => have := HK.out; simp [intOf]; omega
                · have hB := Lib.hid (hbad.out (InR.miss (k := k) (by rw [hlen.out, HK.out, HJ.out]; exact h3) (by rw [hN.out, HK.out]; exact h2)))
                  go_wp2_with (at_builtin; refine wpList_append_own _ rfl _ _ 101 rfl w.heap.size 21 i0 (.int .i32 0) 1 4 Tryz.underlying101 hi hz0 hz1 hz2 rfl (by decide) _ _ _ rfl (HO.out.1.alloc _) ⟨wr.heap.size, 0, none⟩ 1 1 [.int .i32 (-1)] rfl rfl ?q6a ?q6b ?q6c ?q6d ?q6e ?_)
                  all_goals first | (exact cell_one_new _ _ _) | rfl | (intro u hu; simp at hu; subst hu; rfl) | (have := HL.out; unfold maxLen; omega) | (have := HL.out; omega) | (simp; omega) | skip
                  intro v' w1 hown' hgrow hiff
                  have hn1 := ints_next HO.out hown' hgrow hiff HB.out (Nat.le_refl _) hsz
                  clear hown' hgrow hiff
                  obtain ⟨hn1, hn2, hn3⟩ := hn1
                  go_wp2
                  go_roundw
                  case rel => exact ⟨i + 1, _, by omega, by go_num, hB.out, hn1, hn2, hn3⟩
                  case measure => simp [intOf]; omega
              · have hkn : Hid (k = 1) := by have h5 := HK.out; have h6 := hk9.out; unfold Hid; omega
                have HI2 : Hid (InR (nums s) i 1 x) := by have h5 := HI.out; rw [hkn.out] at h5; exact h5
                by_cases x2 : x < 128
                · have hB := Lib.hid (hbad.out (HI2.out.bad hN.out hLe.out (Or.inl x2)))
                  go_wp2_with (at_builtin; refine wpList_append_own _ rfl _ _ 101 rfl w.heap.size 21 i0 (.int .i32 0) 1 4 Tryz.underlying101 hi hz0 hz1 hz2 rfl (by decide) _ _ _ rfl (HO.out.1.alloc _) ⟨wr.heap.size, 0, none⟩ 1 1 [.int .i32 (-1)] rfl rfl ?q7a ?q7b ?q7c ?q7d ?q7e ?_)
                  all_goals first | (exact cell_one_new _ _ _) | rfl | (intro u hu; simp at hu; subst hu; rfl) | (have := HL.out; unfold maxLen; omega) | (have := HL.out; omega) | (simp; omega) | skip
                  intro v' w1 hown' hgrow hiff
                  have hn1 := ints_next HO.out hown' hgrow hiff HB.out (Nat.le_refl _) hsz
                  clear hown' hgrow hiff
                  obtain ⟨hn1, hn2, hn3⟩ := hn1
                  go_wp2
                  go_roundw
                  case rel => exact ⟨i + 1, _, by omega, by go_num, hB.out, hn1, hn2, hn3⟩
                  case measure => simp [intOf]; omega
                · have hG := HI2.out.good hN.out (by decide) hLe.out (by omega) (by omega) (by omega) (by have := k128.out; omega)
                  have hnext := Lib.hid (HA.out.next hl.out hG.1 hG.2 (by decide))
                  have hin : i + 2 ≤ s.size := by have h5 := widA_in hl.out; rw [hG.2, hlen.out] at h5; exact h5
                  clear hG
                  have x5 : x < 55296 := by omega
                  go_wp2_with (at_builtin; refine wpList_append_own _ rfl _ _ 101 rfl w.heap.size 21 i0 (.int .i32 0) 1 4 Tryz.underlying101 hi hz0 hz1 hz2 rfl (by decide) _ _ _ rfl (HO.out.1.alloc _) ⟨wr.heap.size, 0, none⟩ 1 1 [.int .i32 (x)] rfl rfl ?q8a ?q8b ?q8c ?q8d ?q8e ?_)
                  all_goals first | (exact cell_one_new _ _ _) | rfl | (intro u hu; simp at hu; subst hu; rfl) | (have := HL.out; unfold maxLen; omega) | (have := HL.out; omega) | (simp; omega) | skip
                  intro v' w1 hown' hgrow hiff
                  have hn1 := ints_next HO.out hown' hgrow hiff HB.out (Nat.le_refl _) hsz
                  clear hown' hgrow hiff
                  obtain ⟨hn1, hn2, hn3⟩ := hn1
                  go_wp2
                  go_roundw
                  case rel => exact ⟨i + 2, _, by omega, by go_num, hnext.out, hn1, hn2, hn3⟩
                  case measure => simp [intOf]; omega
          · by_cases k6 : c < 240
            · have g1 : 224 ≤ c := by omega
              have hN : Hid (clsN ((nums s).getD i 0) = 2) := by unfold Hid clsN; rw [hcc.out]; rw [if_neg (by omega)]; rw [if_pos (by omega)]
              have hLe : Hid (clsL ((nums s).getD i 0) = 2048) := by unfold Hid clsL; rw [hcc.out]; rw [if_neg (by omega)]; rw [if_pos (by omega)]
              have hI0 : Hid (InR (nums s) i 0 (c - 224)) := ⟨rfl, by rw [cAt, hcc.out]; unfold clsB; rw [if_neg (by omega)]; rw [if_pos (by omega)], by omega, by show c - 224 ≤ 31; omega⟩
              have cw2 : IntKind.i32.wrap (c - 224) = c - 224 := by rw [IntKind.wrap_i32]; omega
              go_wp2
              go_loop [5, 8, 9] (fun v5 v8 v9 => ∃ (k : Nat) (x : Int), k ≤ 2 ∧ v8 = .bool true ∧ v9 = .int .i64 ((k + 1 : Nat) : Int) ∧ v5 = .int .i32 x ∧ InR (nums s) i k x) (fun _ _ v9 => 10 - (intOf v9).toNat)
              case atStart => exact ⟨0, c - 224, by omega, rfl, rfl, rfl, hI0.out⟩
              case round =>
                obtain ⟨k, x, hk, rfl, rfl, rfl, hI⟩ := hrel
                have HI := Lib.hid hI
                have x0 := hI.c0
                have x1 : x ≤ 131071 := by have h5 := hI.c1; have h6 := bdC_mono hk; have h7 : bdC 2 = 131071 := rfl; omega
                have hk9 := Lib.hid hk
                obtain ⟨κ, hκ⟩ : ∃ κ, k + 1 = κ := ⟨_, rfl⟩
                have HK := Lib.hid hκ
                obtain ⟨j, hj⟩ : ∃ j : Nat, i + κ = j := ⟨_, rfl⟩
                have hj2 : (i : Int) + (κ : Int) = (j : Int) := by omega
                have HJ := Lib.hid hj
                have κ0 : κ ≤ 4 := by omega
                rw [hκ]
                clear hI hk hκ hj
                by_cases h2 : κ ≤ 2
                · by_cases h3 : j < s.size
                  · obtain ⟨z, hz, hzz⟩ : ∃ z, ((s[j]'h3).toNat : Int) = z ∧ Hid ((nums s).getD (i + (k + 1)) 0 = z) := ⟨_, rfl, by unfold Hid; rw [HK.out, HJ.out]; exact nums_at s j h3⟩
                    have hzb : 0 ≤ z ∧ z ≤ 255 := by rw [← hz]; have := (s[j]'h3).toNat_lt; omega
                    obtain ⟨z0, z1⟩ := hzb
                    have hl2 : Hid (i + (k + 1) < (nums s).length) := by unfold Hid; rw [hlen.out, HK.out, HJ.out]; exact h3
                    by_cases hlow : z < 128
                    · have hB := Lib.hid (hbad.out (InR.break hzz.out (Or.inl hlow) (by rw [hN.out, HK.out]; exact h2)))
                      go_wp2_with (at_builtin; refine wpList_append_own _ rfl _ _ 101 rfl w.heap.size 21 i0 (.int .i32 0) 1 4 Tryz.underlying101 hi hz0 hz1 hz2 rfl (by decide) _ _ _ rfl (HO.out.1.alloc _) ⟨wr.heap.size, 0, none⟩ 1 1 [.int .i32 (-1)] rfl rfl ?q9a ?q9b ?q9c ?q9d ?q9e ?_)
                      all_goals first | (exact cell_one_new _ _ _) | rfl | (intro u hu; simp at hu; subst hu; rfl) | (have := HL.out; unfold maxLen; omega) | (have := HL.out; omega) | (simp; omega) | skip
                      intro v' w1 hown' hgrow hiff
                      have hn1 := ints_next HO.out hown' hgrow hiff HB.out (Nat.le_refl _) hsz
                      clear hown' hgrow hiff
                      obtain ⟨hn1, hn2, hn3⟩ := hn1
                      go_wp2
                      go_roundw
                      case rel => exact ⟨i + 1, _, by omega, by go_num, hB.out, hn1, hn2, hn3⟩
                      case measure => simp [intOf]; omega
                    · by_cases hhigh : 191 < z
                      · have hB := Lib.hid (hbad.out (InR.break hzz.out (Or.inr hhigh) (by rw [hN.out, HK.out]; exact h2)))
                        go_wp2_with (at_builtin; refine wpList_append_own _ rfl _ _ 101 rfl w.heap.size 21 i0 (.int .i32 0) 1 4 Tryz.underlying101 hi hz0 hz1 hz2 rfl (by decide) _ _ _ rfl (HO.out.1.alloc _) ⟨wr.heap.size, 0, none⟩ 1 1 [.int .i32 (-1)] rfl rfl ?q10a ?q10b ?q10c ?q10d ?q10e ?_)
                        all_goals first | (exact cell_one_new _ _ _) | rfl | (intro u hu; simp at hu; subst hu; rfl) | (have := HL.out; unfold maxLen; omega) | (have := HL.out; omega) | (simp; omega) | skip
                        intro v' w1 hown' hgrow hiff
                        have hn1 := ints_next HO.out hown' hgrow hiff HB.out (Nat.le_refl _) hsz
                        clear hown' hgrow hiff
                        obtain ⟨hn1, hn2, hn3⟩ := hn1
                        go_wp2
                        go_roundw
                        case rel => exact ⟨i + 1, _, by omega, by go_num, hB.out, hn1, hn2, hn3⟩
                        case measure => simp [intOf]; omega
                      · have hnext := Lib.hid (HI.out.next hl2.out hzz.out (by omega) (by omega))
                        have zw : IntKind.i32.wrap z = z := by rw [IntKind.wrap_i32]; omega
                        go_wp2
                        go_round
                        case rel => exact ⟨k + 1, 64 * x + z - 128, by have := HK.out; omega, rfl, congrArg (Value.int IntKind.i64) (by have := HK.out; omega), rfl, hnext.out⟩
                        case measure => have := HK.out; simp [intOf]; omega
                  · have hB := Lib.hid (hbad.out (InR.miss (k := k) (by rw [hlen.out, HK.out, HJ.out]; exact h3) (by rw [hN.out, HK.out]; exact h2)))
                    go_wp2_with (at_builtin; refine wpList_append_own _ rfl _ _ 101 rfl w.heap.size 21 i0 (.int .i32 0) 1 4 Tryz.underlying101 hi hz0 hz1 hz2 rfl (by decide) _ _ _ rfl (HO.out.1.alloc _) ⟨wr.heap.size, 0, none⟩ 1 1 [.int .i32 (-1)] rfl rfl ?q11a ?q11b ?q11c ?q11d ?q11e ?_)
                    all_goals first | (exact cell_one_new _ _ _) | rfl | (intro u hu; simp at hu; subst hu; rfl) | (have := HL.out; unfold maxLen; omega) | (have := HL.out; omega) | (simp; omega) | skip
                    intro v' w1 hown' hgrow hiff
                    have hn1 := ints_next HO.out hown' hgrow hiff HB.out (Nat.le_refl _) hsz
                    clear hown' hgrow hiff
                    obtain ⟨hn1, hn2, hn3⟩ := hn1
                    go_wp2
                    go_roundw
                    case rel => exact ⟨i + 1, _, by omega, by go_num, hB.out, hn1, hn2, hn3⟩
                    case measure => simp [intOf]; omega
                · have hkn : Hid (k = 2) := by have h5 := HK.out; have h6 := hk9.out; unfold Hid; omega
                  have HI2 : Hid (InR (nums s) i 2 x) := by have h5 := HI.out; rw [hkn.out] at h5; exact h5
                  by_cases x2 : x < 2048
                  · have hB := Lib.hid (hbad.out (HI2.out.bad hN.out hLe.out (Or.inl x2)))
                    go_wp2_with (at_builtin; refine wpList_append_own _ rfl _ _ 101 rfl w.heap.size 21 i0 (.int .i32 0) 1 4 Tryz.underlying101 hi hz0 hz1 hz2 rfl (by decide) _ _ _ rfl (HO.out.1.alloc _) ⟨wr.heap.size, 0, none⟩ 1 1 [.int .i32 (-1)] rfl rfl ?q12a ?q12b ?q12c ?q12d ?q12e ?_)
                    all_goals first | (exact cell_one_new _ _ _) | rfl | (intro u hu; simp at hu; subst hu; rfl) | (have := HL.out; unfold maxLen; omega) | (have := HL.out; omega) | (simp; omega) | skip
                    intro v' w1 hown' hgrow hiff
                    have hn1 := ints_next HO.out hown' hgrow hiff HB.out (Nat.le_refl _) hsz
                    clear hown' hgrow hiff
                    obtain ⟨hn1, hn2, hn3⟩ := hn1
                    go_wp2
                    go_roundw
                    case rel => exact ⟨i + 1, _, by omega, by go_num, hB.out, hn1, hn2, hn3⟩
                    case measure => simp [intOf]; omega
                  · by_cases x4 : 55296 ≤ x ∧ x < 57344
                    · have hB := Lib.hid (hbad.out (HI2.out.bad hN.out hLe.out (Or.inr (Or.inr x4))))
                      obtain ⟨x4a, x4b⟩ := x4
                      go_wp2_with (at_builtin; refine wpList_append_own _ rfl _ _ 101 rfl w.heap.size 21 i0 (.int .i32 0) 1 4 Tryz.underlying101 hi hz0 hz1 hz2 rfl (by decide) _ _ _ rfl (HO.out.1.alloc _) ⟨wr.heap.size, 0, none⟩ 1 1 [.int .i32 (-1)] rfl rfl ?q13a ?q13b ?q13c ?q13d ?q13e ?_)
                      all_goals first | (exact cell_one_new _ _ _) | rfl | (intro u hu; simp at hu; subst hu; rfl) | (have := HL.out; unfold maxLen; omega) | (have := HL.out; omega) | (simp; omega) | skip
                      intro v' w1 hown' hgrow hiff
                      have hn1 := ints_next HO.out hown' hgrow hiff HB.out (Nat.le_refl _) hsz
                      clear hown' hgrow hiff
                      obtain ⟨hn1, hn2, hn3⟩ := hn1
                      go_wp2
                      go_roundw
                      case rel => exact ⟨i + 1, _, by omega, by go_num, hB.out, hn1, hn2, hn3⟩
                      case measure => simp [intOf]; omega
                    · have hG := HI2.out.good hN.out (by decide) hLe.out (by omega) (by omega) (by omega) (by have := k128.out; omega)
                      have hnext := Lib.hid (HA.out.next hl.out hG.1 hG.2 (by decide))
                      have hin : i + 3 ≤ s.size := by have h5 := widA_in hl.out; rw [hG.2, hlen.out] at h5; exact h5
                      clear hG
                      by_cases x5 : x < 55296
                      · clear x4
                        go_wp2_with (at_builtin; refine wpList_append_own _ rfl _ _ 101 rfl w.heap.size 21 i0 (.int .i32 0) 1 4 Tryz.underlying101 hi hz0 hz1 hz2 rfl (by decide) _ _ _ rfl (HO.out.1.alloc _) ⟨wr.heap.size, 0, none⟩ 1 1 [.int .i32 (x)] rfl rfl ?q14a ?q14b ?q14c ?q14d ?q14e ?_)
                        all_goals first | (exact cell_one_new _ _ _) | rfl | (intro u hu; simp at hu; subst hu; rfl) | (have := HL.out; unfold maxLen; omega) | (have := HL.out; omega) | (simp; omega) | skip
                        intro v' w1 hown' hgrow hiff
                        have hn1 := ints_next HO.out hown' hgrow hiff HB.out (Nat.le_refl _) hsz
                        clear hown' hgrow hiff
                        obtain ⟨hn1, hn2, hn3⟩ := hn1
                        go_wp2
                        go_roundw
                        case rel => exact ⟨i + 3, _, by omega, by go_num, hnext.out, hn1, hn2, hn3⟩
                        case measure => simp [intOf]; omega
                      · have x6 : ¬ x < 57344 := by omega
                        clear x4
                        go_wp2_with (at_builtin; refine wpList_append_own _ rfl _ _ 101 rfl w.heap.size 21 i0 (.int .i32 0) 1 4 Tryz.underlying101 hi hz0 hz1 hz2 rfl (by decide) _ _ _ rfl (HO.out.1.alloc _) ⟨wr.heap.size, 0, none⟩ 1 1 [.int .i32 (x)] rfl rfl ?q15a ?q15b ?q15c ?q15d ?q15e ?_)
                        all_goals first | (exact cell_one_new _ _ _) | rfl | (intro u hu; simp at hu; subst hu; rfl) | (have := HL.out; unfold maxLen; omega) | (have := HL.out; omega) | (simp; omega) | skip
                        intro v' w1 hown' hgrow hiff
                        have hn1 := ints_next HO.out hown' hgrow hiff HB.out (Nat.le_refl _) hsz
                        clear hown' hgrow hiff
                        obtain ⟨hn1, hn2, hn3⟩ := hn1
                        go_wp2
                        go_roundw
                        case rel => exact ⟨i + 3, _, by omega, by go_num, hnext.out, hn1, hn2, hn3⟩
                        case measure => simp [intOf]; omega
            · have g1 : 240 ≤ c := by omega
              have hN : Hid (clsN ((nums s).getD i 0) = 3) := by unfold Hid clsN; rw [hcc.out]; rw [if_neg (by omega)]; rw [if_neg (by omega)]; rw [if_pos (by omega)]
              have hLe : Hid (clsL ((nums s).getD i 0) = 65536) := by unfold Hid clsL; rw [hcc.out]; rw [if_neg (by omega)]; rw [if_neg (by omega)]; rw [if_pos (by omega)]
              have hI0 : Hid (InR (nums s) i 0 (c - 240)) := ⟨rfl, by rw [cAt, hcc.out]; unfold clsB; rw [if_neg (by omega)]; rw [if_neg (by omega)]; rw [if_pos (by omega)], by omega, by show c - 240 ≤ 31; omega⟩
              have cw2 : IntKind.i32.wrap (c - 240) = c - 240 := by rw [IntKind.wrap_i32]; omega
              go_wp2
              go_loop [5, 8, 9] (fun v5 v8 v9 => ∃ (k : Nat) (x : Int), k ≤ 3 ∧ v8 = .bool true ∧ v9 = .int .i64 ((k + 1 : Nat) : Int) ∧ v5 = .int .i32 x ∧ InR (nums s) i k x) (fun _ _ v9 => 10 - (intOf v9).toNat)
              case atStart => exact ⟨0, c - 240, by omega, rfl, rfl, rfl, hI0.out⟩
              case round =>
                obtain ⟨k, x, hk, rfl, rfl, rfl, hI⟩ := hrel
                have HI := Lib.hid hI
                have x0 := hI.c0
                have x1 : x ≤ 8388607 := by have h5 := hI.c1; have h6 := bdC_mono hk; have h7 : bdC 3 = 8388607 := rfl; omega
                have hk9 := Lib.hid hk
                obtain ⟨κ, hκ⟩ : ∃ κ, k + 1 = κ := ⟨_, rfl⟩
                have HK := Lib.hid hκ
                obtain ⟨j, hj⟩ : ∃ j : Nat, i + κ = j := ⟨_, rfl⟩
                have hj2 : (i : Int) + (κ : Int) = (j : Int) := by omega
                have HJ := Lib.hid hj
                have κ0 : κ ≤ 4 := by omega
                rw [hκ]
                clear hI hk hκ hj
                by_cases h2 : κ ≤ 3
                · by_cases h3 : j < s.size
                  · obtain ⟨z, hz, hzz⟩ : ∃ z, ((s[j]'h3).toNat : Int) = z ∧ Hid ((nums s).getD (i + (k + 1)) 0 = z) := ⟨_, rfl, by unfold Hid; rw [HK.out, HJ.out]; exact nums_at s j h3⟩
                    have hzb : 0 ≤ z ∧ z ≤ 255 := by rw [← hz]; have := (s[j]'h3).toNat_lt; omega
                    obtain ⟨z0, z1⟩ := hzb
                    have hl2 : Hid (i + (k + 1) < (nums s).length) := by unfold Hid; rw [hlen.out, HK.out, HJ.out]; exact h3
                    by_cases hlow : z < 128
                    · have hB := Lib.hid (hbad.out (InR.break hzz.out (Or.inl hlow) (by rw [hN.out, HK.out]; exact h2)))
                      go_wp2_with (at_builtin; refine wpList_append_own _ rfl _ _ 101 rfl w.heap.size 21 i0 (.int .i32 0) 1 4 Tryz.underlying101 hi hz0 hz1 hz2 rfl (by decide) _ _ _ rfl (HO.out.1.alloc _) ⟨wr.heap.size, 0, none⟩ 1 1 [.int .i32 (-1)] rfl rfl ?q16a ?q16b ?q16c ?q16d ?q16e ?_)
                      all_goals first | (exact cell_one_new _ _ _) | rfl | (intro u hu; simp at hu; subst hu; rfl) | (have := HL.out; unfold maxLen; omega) | (have := HL.out; omega) | (simp; omega) | skip
                      intro v' w1 hown' hgrow hiff
                      have hn1 := ints_next HO.out hown' hgrow hiff HB.out (Nat.le_refl _) hsz
                      clear hown' hgrow hiff
                      obtain ⟨hn1, hn2, hn3⟩ := hn1
                      go_wp2
                      go_roundw
                      case rel => exact ⟨i + 1, _, by omega, by go_num, hB.out, hn1, hn2, hn3⟩
                      case measure => simp [intOf]; omega
                    · by_cases hhigh : 191 < z
                      · have hB := Lib.hid (hbad.out (InR.break hzz.out (Or.inr hhigh) (by rw [hN.out, HK.out]; exact h2)))
                        go_wp2_with (at_builtin; refine wpList_append_own _ rfl _ _ 101 rfl w.heap.size 21 i0 (.int .i32 0) 1 4 Tryz.underlying101 hi hz0 hz1 hz2 rfl (by decide) _ _ _ rfl (HO.out.1.alloc _) ⟨wr.heap.size, 0, none⟩ 1 1 [.int .i32 (-1)] rfl rfl ?q17a ?q17b ?q17c ?q17d ?q17e ?_)
                        all_goals first | (exact cell_one_new _ _ _) | rfl | (intro u hu; simp at hu; subst hu; rfl) | (have := HL.out; unfold maxLen; omega) | (have := HL.out; omega) | (simp; omega) | skip
                        intro v' w1 hown' hgrow hiff
                        have hn1 := ints_next HO.out hown' hgrow hiff HB.out (Nat.le_refl _) hsz
                        clear hown' hgrow hiff
                        obtain ⟨hn1, hn2, hn3⟩ := hn1
                        go_wp2
                        go_roundw
                        case rel => exact ⟨i + 1, _, by omega, by go_num, hB.out, hn1, hn2, hn3⟩
                        case measure => simp [intOf]; omega
                      · have hnext := Lib.hid (HI.out.next hl2.out hzz.out (by omega) (by omega))
                        have zw : IntKind.i32.wrap z = z := by rw [IntKind.wrap_i32]; omega
                        go_wp2
                        go_round
                        case rel => exact ⟨k + 1, 64 * x + z - 128, by have := HK.out; omega, rfl, congrArg (Value.int IntKind.i64) (by have := HK.out; omega), rfl, hnext.out⟩
                        case measure => have := HK.out; simp [intOf]; omega
                  · have hB := Lib.hid (hbad.out (InR.miss (k := k) (by rw [hlen.out, HK.out, HJ.out]; exact h3) (by rw [hN.out, HK.out]; exact h2)))
                    go_wp2_with (at_builtin; refine wpList_append_own _ rfl _ _ 101 rfl w.heap.size 21 i0 (.int .i32 0) 1 4 Tryz.underlying101 hi hz0 hz1 hz2 rfl (by decide) _ _ _ rfl (HO.out.1.alloc _) ⟨wr.heap.size, 0, none⟩ 1 1 [.int .i32 (-1)] rfl rfl ?q18a ?q18b ?q18c ?q18d ?q18e ?_)
                    all_goals first | (exact cell_one_new _ _ _) | rfl | (intro u hu; simp at hu; subst hu; rfl) | (have := HL.out; unfold maxLen; omega) | (have := HL.out; omega) | (simp; omega) | skip
                    intro v' w1 hown' hgrow hiff
                    have hn1 := ints_next HO.out hown' hgrow hiff HB.out (Nat.le_refl _) hsz
                    clear hown' hgrow hiff
                    obtain ⟨hn1, hn2, hn3⟩ := hn1
                    go_wp2
                    go_roundw
                    case rel => exact ⟨i + 1, _, by omega, by go_num, hB.out, hn1, hn2, hn3⟩
                    case measure => simp [intOf]; omega
                · have hkn : Hid (k = 3) := by have h5 := HK.out; have h6 := hk9.out; unfold Hid; omega
                  have HI2 : Hid (InR (nums s) i 3 x) := by have h5 := HI.out; rw [hkn.out] at h5; exact h5
                  by_cases x2 : x < 65536
                  · have hB := Lib.hid (hbad.out (HI2.out.bad hN.out hLe.out (Or.inl x2)))
                    go_wp2_with (at_builtin; refine wpList_append_own _ rfl _ _ 101 rfl w.heap.size 21 i0 (.int .i32 0) 1 4 Tryz.underlying101 hi hz0 hz1 hz2 rfl (by decide) _ _ _ rfl (HO.out.1.alloc _) ⟨wr.heap.size, 0, none⟩ 1 1 [.int .i32 (-1)] rfl rfl ?q19a ?q19b ?q19c ?q19d ?q19e ?_)
                    all_goals first | (exact cell_one_new _ _ _) | rfl | (intro u hu; simp at hu; subst hu; rfl) | (have := HL.out; unfold maxLen; omega) | (have := HL.out; omega) | (simp; omega) | skip
                    intro v' w1 hown' hgrow hiff
                    have hn1 := ints_next HO.out hown' hgrow hiff HB.out (Nat.le_refl _) hsz
                    clear hown' hgrow hiff
                    obtain ⟨hn1, hn2, hn3⟩ := hn1
                    go_wp2
                    go_roundw
                    case rel => exact ⟨i + 1, _, by omega, by go_num, hB.out, hn1, hn2, hn3⟩
                    case measure => simp [intOf]; omega
                  · by_cases x3 : 1114111 < x
                    · have hB := Lib.hid (hbad.out (HI2.out.bad hN.out hLe.out (Or.inr (Or.inl x3))))
                      go_wp2_with (at_builtin; refine wpList_append_own _ rfl _ _ 101 rfl w.heap.size 21 i0 (.int .i32 0) 1 4 Tryz.underlying101 hi hz0 hz1 hz2 rfl (by decide) _ _ _ rfl (HO.out.1.alloc _) ⟨wr.heap.size, 0, none⟩ 1 1 [.int .i32 (-1)] rfl rfl ?q20a ?q20b ?q20c ?q20d ?q20e ?_)
                      all_goals first | (exact cell_one_new _ _ _) | rfl | (intro u hu; simp at hu; subst hu; rfl) | (have := HL.out; unfold maxLen; omega) | (have := HL.out; omega) | (simp; omega) | skip
                      intro v' w1 hown' hgrow hiff
                      have hn1 := ints_next HO.out hown' hgrow hiff HB.out (Nat.le_refl _) hsz
                      clear hown' hgrow hiff
                      obtain ⟨hn1, hn2, hn3⟩ := hn1
                      go_wp2
                      go_roundw
                      case rel => exact ⟨i + 1, _, by omega, by go_num, hB.out, hn1, hn2, hn3⟩
                      case measure => simp [intOf]; omega
                    · have hG := HI2.out.good hN.out (by decide) hLe.out (by omega) (by omega) (by omega) (by have := k128.out; omega)
                      have hnext := Lib.hid (HA.out.next hl.out hG.1 hG.2 (by decide))
                      have hin : i + 4 ≤ s.size := by have h5 := widA_in hl.out; rw [hG.2, hlen.out] at h5; exact h5
                      clear hG
                      have x6 : ¬ x < 57344 := by omega
                      go_wp2_with (at_builtin; refine wpList_append_own _ rfl _ _ 101 rfl w.heap.size 21 i0 (.int .i32 0) 1 4 Tryz.underlying101 hi hz0 hz1 hz2 rfl (by decide) _ _ _ rfl (HO.out.1.alloc _) ⟨wr.heap.size, 0, none⟩ 1 1 [.int .i32 (x)] rfl rfl ?q21a ?q21b ?q21c ?q21d ?q21e ?_)
                      all_goals first | (exact cell_one_new _ _ _) | rfl | (intro u hu; simp at hu; subst hu; rfl) | (have := HL.out; unfold maxLen; omega) | (have := HL.out; omega) | (simp; omega) | skip
                      intro v' w1 hown' hgrow hiff
                      have hn1 := ints_next HO.out hown' hgrow hiff HB.out (Nat.le_refl _) hsz
                      clear hown' hgrow hiff
                      obtain ⟨hn1, hn2, hn3⟩ := hn1
                      go_wp2
                      go_roundw
                      case rel => exact ⟨i + 4, _, by omega, by go_num, hnext.out, hn1, hn2, hn3⟩
                      case measure => simp [intOf]; omega
    · have hfin := Lib.hid (HA.out.fin (by rw [hlen.out]; exact h1))
      go_wp2
      go_ret
      exact ⟨_, rfl, by rw [hfin.out]; exact HO.out.ints, HB.out, fun b hb => (HO.out.1.lt b hb).1⟩

end Go.Proofs.YtmgimkokmlcllaaGreatDoor
