/-
  Texts by their runes: how many the library counts, and which texts it calls valid: plain arithmetic.
-/
import Derived.Test.YtmgimkokmlcllaaGreatDoorPkPlain
import Derived.Lib.RuneBytes
import Derived.Lib.RuneCount
import Derived.Lib.ValidLaws
import Derived.Test.YtmgimkokmlcllaaGreatDoorPkTexts
import Derived.Lib.OthersKept
import Derived.Test.YtmgimkokmlcllaaGreatDoorPkEnvs
import Derived.Laws.IdiomStrings
import Derived.Test.YtmgimkokmlcllaaGreatDoorPkShelf
import Derived.Test.YtmgimkokmlcllaaGreatDoorPkVrs
import Derived.Shelf.Strings.BuilderRune
import Derived.RegionTactic
import Derived.ChangeAlike
import Derived.Test.YtmgimkokmlcllaaGreatDoorPkTxtV
import Derived.Deep.LoopGhost
namespace Go.Proofs.YtmgimkokmlcllaaGreatDoor

theorem decode_wid (s : ByteArray) (pos : Nat) (h : pos < s.size) : (Utf8.decode s pos).2 = widA (nums s) pos := by
  rcases decode_rune s pos h with ⟨_, h2, h3⟩ | ⟨_, h3⟩
  · rw [h3, h2]
  · rw [h3]
theorem count_runes (s : ByteArray) : Lib.runeCount s = (runesOf (nums s)).length := by
  have key : ∀ fuel pos, s.size - pos ≤ fuel → Lib.runeCountFrom s fuel pos = (rfrom (nums s) pos).length := by
    intro fuel
    induction fuel with
    | zero => intro pos h; rw [rfrom_out (by rw [nums_length]; omega)]; rfl
    | succ n ih =>
      intro pos h
      by_cases hp : pos < s.size
      · have hw := widA_pos (nums s) pos
        rw [rfrom_in (by rw [nums_length]; exact hp), List.length_cons, ← ih (pos + widA (nums s) pos) (by omega)]
        simp only [Lib.runeCountFrom, if_pos hp, decode_wid s pos hp]
        omega
      · rw [rfrom_out (by rw [nums_length]; exact hp), Lib.runeCountFrom_end s _ pos hp]; rfl
  exact key s.size 0 (by omega)
theorem good_cons {z : Int} {l : List Int} : GoodL (z :: l) ↔ 0 ≤ z ∧ GoodL l := by
  constructor
  · intro h
    exact ⟨h 0 (by simp), fun i hi => h (i + 1) (by simpa using hi)⟩
  · rintro ⟨h0, h⟩ i hi
    match i, hi with
    | 0, _ => exact h0
    | i + 1, hi => exact h i (by simpa using hi)
theorem good_nil : GoodL [] := fun i hi => by cases hi
theorem valid_good (s : ByteArray) : (Lib.validD s.data.toList = true) ↔ GoodL (runesOf (nums s)) := by
  have key : ∀ n pos, s.size - pos ≤ n → (Lib.validD (s.data.toList.drop pos) = true ↔ GoodL (rfrom (nums s) pos)) := by
    intro n
    induction n with
    | zero =>
      intro pos h
      rw [rfrom_out (by rw [nums_length]; omega), List.drop_eq_nil_of_le (by rw [Array.length_toList]; show s.size ≤ pos; omega), Lib.validD_nil]
      exact ⟨fun _ => good_nil, fun _ => rfl⟩
    | succ n ih =>
      intro pos h
      by_cases hp : pos < s.size
      · have hw := widA_pos (nums s) pos
        have hne : s.data.toList.drop pos ≠ [] := fun e => by
          have := congrArg List.length e
          rw [List.length_drop, Array.length_toList] at this
          have : s.size - pos = 0 := this
          omega
        rw [Lib.validD_step _ hne, Lib.decodeL_drop, rfrom_in (by rw [nums_length]; exact hp), good_cons]
        rcases decode_rune s pos hp with ⟨h1, h2, h3⟩ | ⟨h1, h3⟩
        · rw [h3, h1]; simp
        · rw [h3]
          have hnot : ¬ ((runeA (nums s) pos).toNat = 65533 ∧ widA (nums s) pos = 1) := by
            rintro ⟨ha, hb⟩
            by_cases k0 : (nums s).getD pos 0 < 128
            · have := (runeA_low k0).1; omega
            · cases hq : wholeB (nums s) pos with
              | true =>
                have h5 := (runeA_good k0 hq).2
                have h6 : 0 < clsN ((nums s).getD pos 0) := by
                  unfold wholeB at hq
                  simp only [Bool.and_eq_true, decide_eq_true_eq] at hq
                  exact hq.1.1.1.1
                omega
              | false => have := (runeA_bad k0 hq).1; omega
          rw [if_neg hnot, List.drop_drop, ih (pos + widA (nums s) pos) (by omega)]
          exact ⟨fun g => ⟨h1, g⟩, fun g => g.2⟩
      · rw [rfrom_out (by rw [nums_length]; exact hp), List.drop_eq_nil_of_le (by rw [Array.length_toList]; show s.size ≤ pos; omega), Lib.validD_nil]
        exact ⟨fun _ => good_nil, fun _ => rfl⟩
  have := key s.size 0 (by omega)
  rwa [List.drop_zero] at this
theorem good_ok {s : ByteArray} (h : GoodL (runesOf (nums s))) : ∀ r ∈ runesOf (nums s), RuneOk r := (good_back (nums_byte s) (good_mem h)).1
theorem encode_enc {r : Int} (h : RuneOk r) : Lib.encodeRuneZ r = encL r := by
  obtain ⟨h0, h1, h2⟩ := h
  unfold encL
  by_cases a : r < 128
  · rw [if_pos a, Lib.encodeRuneZ_one h0 (by omega)]
  · by_cases b : r < 2048
    · rw [if_neg a, if_pos b, Lib.encodeRuneZ_two (by omega) (by omega)]
    · by_cases c : r < 65536
      · rw [if_neg a, if_neg b, if_pos c, Lib.encodeRuneZ_three (by omega)]
      · rw [if_neg a, if_neg b, if_neg c, Lib.encodeRuneZ_four (by omega) h1]

end Go.Proofs.YtmgimkokmlcllaaGreatDoor

/-
  Package text's calls, walked: Letter, mayEnd, plain, Name.
-/
namespace Go.Proofs.YtmgimkokmlcllaaGreatDoor
open Go.RowKit

theorem txt_rune (w : World) (k : Nat) (s : ByteArray) (pos : Nat) (hk : w.heap[k]? = some (.stringIter s pos)) (h : pos < s.size) :
    ∃ y : Int, (∀ ty, (Instr.next (.pointer (some ⟨k, 0, none⟩)) true ty).run Tryz.prog w = .ok (.tuple #[.bool true, .int .i64 pos, .int .i32 y]) (w.iterAt k s (pos + widA (nums s) pos))) ∧ 0 ≤ y ∧ y ≤ 1114111 ∧
      ((runeA (nums s) pos = -1 ∧ y = 65533) ∨ (0 ≤ runeA (nums s) pos ∧ y = runeA (nums s) pos)) := by
  have hl := runeA_le (nums s) pos (by rw [nums_at s pos h]; omega)
  rcases decode_rune s pos h with ⟨h1, h2, h3⟩ | ⟨h1, h3⟩
  · exact ⟨65533, fun ty => by rw [Lib.run_next_any_at w k s pos ty hk h, h3, h2]; rfl, by omega, by omega, Or.inl ⟨h1, rfl⟩⟩
  · exact ⟨runeA (nums s) pos, fun ty => by
      rw [Lib.run_next_any_at w k s pos ty hk h, h3]
      show Result.ok (Value.tuple #[.bool true, .int .i64 pos, .int .i32 (((runeA (nums s) pos).toNat : Nat) : Int)]) _ = _
      rw [Int.toNat_of_nonneg h1], h1, by omega, Or.inr ⟨h1, rfl⟩⟩

set_option maxRecDepth 100000 in
set_option maxHeartbeats 4000000 in
theorem tletter_same (r : Int) (w : World) : Calls Tryz.prog 68 #[.int .i32 r] w fun e w' => e = .returned (.bool (letterB r)) ∧ w = w' := by
  obtain ⟨q, hq⟩ : ∃ q, letterB r = q := ⟨_, rfl⟩
  rw [hq]
  have HQ := Lib.hid hq
  clear hq
  have hc : r ≤ 64 ∨ (65 ≤ r ∧ r ≤ 90) ∨ (91 ≤ r ∧ r ≤ 96) ∨ (97 ≤ r ∧ r ≤ 122) ∨ (123 ≤ r ∧ r ≤ 191) ∨ (192 ≤ r ∧ r ≤ 214) ∨ r = 215 ∨ (216 ≤ r ∧ r ≤ 246) ∨ r = 247 ∨ (248 ≤ r ∧ r ≤ 591) ∨ (592 ≤ r ∧ r ≤ 879) ∨ (880 ≤ r ∧ r ≤ 1023) ∨ (1024 ≤ r ∧ r ≤ 1279) ∨ 1280 ≤ r := by omega
  rcases hc with h0 | ⟨h0, h1⟩ | ⟨h0, h1⟩ | ⟨h0, h1⟩ | ⟨h0, h1⟩ | ⟨h0, h1⟩ | rfl | ⟨h0, h1⟩ | rfl | ⟨h0, h1⟩ | ⟨h0, h1⟩ | ⟨h0, h1⟩ | ⟨h0, h1⟩ | h0
  · obtain rfl : q = false := by rw [← HQ.out]; unfold letterB; simp; omega
    have e1 : (r == 215) = false := by simp; omega
    have e2 : (r == 247) = false := by simp; omega
    have d0 : decide (r ≥ 97) = false := by simp; omega
    have d1 : decide (r ≤ 122) = true := by simp; omega
    have d2 : decide (r ≥ 65) = false := by simp; omega
    have d3 : decide (r ≤ 90) = true := by simp; omega
    have d4 : decide (r ≥ 192) = false := by simp; omega
    have d5 : decide (r ≤ 591) = true := by simp; omega
    have d6 : decide (r ≥ 880) = false := by simp; omega
    have d7 : decide (r ≤ 1023) = true := by simp; omega
    have d8 : decide (r ≥ 1024) = false := by simp; omega
    have d9 : decide (r ≤ 1279) = true := by simp; omega
    clear h0
    go_enter Tryz.func68, Tryz.ntmps68
    go_wp2
    go_ret
    exact ⟨rfl, rfl⟩
  · obtain rfl : q = true := by rw [← HQ.out]; unfold letterB; simp; omega
    have e1 : (r == 215) = false := by simp; omega
    have e2 : (r == 247) = false := by simp; omega
    have d0 : decide (r ≥ 97) = false := by simp; omega
    have d1 : decide (r ≤ 122) = true := by simp; omega
    have d2 : decide (r ≥ 65) = true := by simp; omega
    have d3 : decide (r ≤ 90) = true := by simp; omega
    have d4 : decide (r ≥ 192) = false := by simp; omega
    have d5 : decide (r ≤ 591) = true := by simp; omega
    have d6 : decide (r ≥ 880) = false := by simp; omega
    have d7 : decide (r ≤ 1023) = true := by simp; omega
    have d8 : decide (r ≥ 1024) = false := by simp; omega
    have d9 : decide (r ≤ 1279) = true := by simp; omega
    clear h0 h1
    go_enter Tryz.func68, Tryz.ntmps68
    go_wp2
    go_ret
    exact ⟨rfl, rfl⟩
  · obtain rfl : q = false := by rw [← HQ.out]; unfold letterB; simp; omega
    have e1 : (r == 215) = false := by simp; omega
    have e2 : (r == 247) = false := by simp; omega
    have d0 : decide (r ≥ 97) = false := by simp; omega
    have d1 : decide (r ≤ 122) = true := by simp; omega
    have d2 : decide (r ≥ 65) = true := by simp; omega
    have d3 : decide (r ≤ 90) = false := by simp; omega
    have d4 : decide (r ≥ 192) = false := by simp; omega
    have d5 : decide (r ≤ 591) = true := by simp; omega
    have d6 : decide (r ≥ 880) = false := by simp; omega
    have d7 : decide (r ≤ 1023) = true := by simp; omega
    have d8 : decide (r ≥ 1024) = false := by simp; omega
    have d9 : decide (r ≤ 1279) = true := by simp; omega
    clear h0 h1
    go_enter Tryz.func68, Tryz.ntmps68
    go_wp2
    go_ret
    exact ⟨rfl, rfl⟩
  · obtain rfl : q = true := by rw [← HQ.out]; unfold letterB; simp; omega
    have e1 : (r == 215) = false := by simp; omega
    have e2 : (r == 247) = false := by simp; omega
    have d0 : decide (r ≥ 97) = true := by simp; omega
    have d1 : decide (r ≤ 122) = true := by simp; omega
    have d2 : decide (r ≥ 65) = true := by simp; omega
    have d3 : decide (r ≤ 90) = false := by simp; omega
    have d4 : decide (r ≥ 192) = false := by simp; omega
    have d5 : decide (r ≤ 591) = true := by simp; omega
    have d6 : decide (r ≥ 880) = false := by simp; omega
    have d7 : decide (r ≤ 1023) = true := by simp; omega
    have d8 : decide (r ≥ 1024) = false := by simp; omega
    have d9 : decide (r ≤ 1279) = true := by simp; omega
    clear h0 h1
    go_enter Tryz.func68, Tryz.ntmps68
    go_wp2
    go_ret
    exact ⟨rfl, rfl⟩
  · obtain rfl : q = false := by rw [← HQ.out]; unfold letterB; simp; omega
    have e1 : (r == 215) = false := by simp; omega
    have e2 : (r == 247) = false := by simp; omega
    have d0 : decide (r ≥ 97) = true := by simp; omega
    have d1 : decide (r ≤ 122) = false := by simp; omega
    have d2 : decide (r ≥ 65) = true := by simp; omega
    have d3 : decide (r ≤ 90) = false := by simp; omega
    have d4 : decide (r ≥ 192) = false := by simp; omega
    have d5 : decide (r ≤ 591) = true := by simp; omega
    have d6 : decide (r ≥ 880) = false := by simp; omega
    have d7 : decide (r ≤ 1023) = true := by simp; omega
    have d8 : decide (r ≥ 1024) = false := by simp; omega
    have d9 : decide (r ≤ 1279) = true := by simp; omega
    clear h0 h1
    go_enter Tryz.func68, Tryz.ntmps68
    go_wp2
    go_ret
    exact ⟨rfl, rfl⟩
  · obtain rfl : q = true := by rw [← HQ.out]; unfold letterB; simp; omega
    have e1 : (r == 215) = false := by simp; omega
    have e2 : (r == 247) = false := by simp; omega
    have d0 : decide (r ≥ 97) = true := by simp; omega
    have d1 : decide (r ≤ 122) = false := by simp; omega
    have d2 : decide (r ≥ 65) = true := by simp; omega
    have d3 : decide (r ≤ 90) = false := by simp; omega
    have d4 : decide (r ≥ 192) = true := by simp; omega
    have d5 : decide (r ≤ 591) = true := by simp; omega
    have d6 : decide (r ≥ 880) = false := by simp; omega
    have d7 : decide (r ≤ 1023) = true := by simp; omega
    have d8 : decide (r ≥ 1024) = false := by simp; omega
    have d9 : decide (r ≤ 1279) = true := by simp; omega
    clear h0 h1
    go_enter Tryz.func68, Tryz.ntmps68
    go_wp2
    go_ret
    exact ⟨rfl, rfl⟩
  · obtain rfl : q = false := by rw [← HQ.out]; decide
    go_enter Tryz.func68, Tryz.ntmps68
    go_wp2
    go_ret
    exact ⟨rfl, rfl⟩
  · obtain rfl : q = true := by rw [← HQ.out]; unfold letterB; simp; omega
    have e1 : (r == 215) = false := by simp; omega
    have e2 : (r == 247) = false := by simp; omega
    have d0 : decide (r ≥ 97) = true := by simp; omega
    have d1 : decide (r ≤ 122) = false := by simp; omega
    have d2 : decide (r ≥ 65) = true := by simp; omega
    have d3 : decide (r ≤ 90) = false := by simp; omega
    have d4 : decide (r ≥ 192) = true := by simp; omega
    have d5 : decide (r ≤ 591) = true := by simp; omega
    have d6 : decide (r ≥ 880) = false := by simp; omega
    have d7 : decide (r ≤ 1023) = true := by simp; omega
    have d8 : decide (r ≥ 1024) = false := by simp; omega
    have d9 : decide (r ≤ 1279) = true := by simp; omega
    clear h0 h1
    go_enter Tryz.func68, Tryz.ntmps68
    go_wp2
    go_ret
    exact ⟨rfl, rfl⟩
  · obtain rfl : q = false := by rw [← HQ.out]; decide
    go_enter Tryz.func68, Tryz.ntmps68
    go_wp2
    go_ret
    exact ⟨rfl, rfl⟩
  · obtain rfl : q = true := by rw [← HQ.out]; unfold letterB; simp; omega
    have e1 : (r == 215) = false := by simp; omega
    have e2 : (r == 247) = false := by simp; omega
    have d0 : decide (r ≥ 97) = true := by simp; omega
    have d1 : decide (r ≤ 122) = false := by simp; omega
    have d2 : decide (r ≥ 65) = true := by simp; omega
    have d3 : decide (r ≤ 90) = false := by simp; omega
    have d4 : decide (r ≥ 192) = true := by simp; omega
    have d5 : decide (r ≤ 591) = true := by simp; omega
    have d6 : decide (r ≥ 880) = false := by simp; omega
    have d7 : decide (r ≤ 1023) = true := by simp; omega
    have d8 : decide (r ≥ 1024) = false := by simp; omega
    have d9 : decide (r ≤ 1279) = true := by simp; omega
    clear h0 h1
    go_enter Tryz.func68, Tryz.ntmps68
    go_wp2
    go_ret
    exact ⟨rfl, rfl⟩
  · obtain rfl : q = false := by rw [← HQ.out]; unfold letterB; simp; omega
    have e1 : (r == 215) = false := by simp; omega
    have e2 : (r == 247) = false := by simp; omega
    have d0 : decide (r ≥ 97) = true := by simp; omega
    have d1 : decide (r ≤ 122) = false := by simp; omega
    have d2 : decide (r ≥ 65) = true := by simp; omega
    have d3 : decide (r ≤ 90) = false := by simp; omega
    have d4 : decide (r ≥ 192) = true := by simp; omega
    have d5 : decide (r ≤ 591) = false := by simp; omega
    have d6 : decide (r ≥ 880) = false := by simp; omega
    have d7 : decide (r ≤ 1023) = true := by simp; omega
    have d8 : decide (r ≥ 1024) = false := by simp; omega
    have d9 : decide (r ≤ 1279) = true := by simp; omega
    clear h0 h1
    go_enter Tryz.func68, Tryz.ntmps68
    go_wp2
    go_ret
    exact ⟨rfl, rfl⟩
  · obtain rfl : q = true := by rw [← HQ.out]; unfold letterB; simp; omega
    have e1 : (r == 215) = false := by simp; omega
    have e2 : (r == 247) = false := by simp; omega
    have d0 : decide (r ≥ 97) = true := by simp; omega
    have d1 : decide (r ≤ 122) = false := by simp; omega
    have d2 : decide (r ≥ 65) = true := by simp; omega
    have d3 : decide (r ≤ 90) = false := by simp; omega
    have d4 : decide (r ≥ 192) = true := by simp; omega
    have d5 : decide (r ≤ 591) = false := by simp; omega
    have d6 : decide (r ≥ 880) = true := by simp; omega
    have d7 : decide (r ≤ 1023) = true := by simp; omega
    have d8 : decide (r ≥ 1024) = false := by simp; omega
    have d9 : decide (r ≤ 1279) = true := by simp; omega
    clear h0 h1
    go_enter Tryz.func68, Tryz.ntmps68
    go_wp2
    go_ret
    exact ⟨rfl, rfl⟩
  · obtain rfl : q = true := by rw [← HQ.out]; unfold letterB; simp; omega
    have e1 : (r == 215) = false := by simp; omega
    have e2 : (r == 247) = false := by simp; omega
    have d0 : decide (r ≥ 97) = true := by simp; omega
    have d1 : decide (r ≤ 122) = false := by simp; omega
    have d2 : decide (r ≥ 65) = true := by simp; omega
    have d3 : decide (r ≤ 90) = false := by simp; omega
    have d4 : decide (r ≥ 192) = true := by simp; omega
    have d5 : decide (r ≤ 591) = false := by simp; omega
    have d6 : decide (r ≥ 880) = true := by simp; omega
    have d7 : decide (r ≤ 1023) = false := by simp; omega
    have d8 : decide (r ≥ 1024) = true := by simp; omega
    have d9 : decide (r ≤ 1279) = true := by simp; omega
    clear h0 h1
    go_enter Tryz.func68, Tryz.ntmps68
    go_wp2
    go_ret
    exact ⟨rfl, rfl⟩
  · obtain rfl : q = false := by rw [← HQ.out]; unfold letterB; simp; omega
    have e1 : (r == 215) = false := by simp; omega
    have e2 : (r == 247) = false := by simp; omega
    have d0 : decide (r ≥ 97) = true := by simp; omega
    have d1 : decide (r ≤ 122) = false := by simp; omega
    have d2 : decide (r ≥ 65) = true := by simp; omega
    have d3 : decide (r ≤ 90) = false := by simp; omega
    have d4 : decide (r ≥ 192) = true := by simp; omega
    have d5 : decide (r ≤ 591) = false := by simp; omega
    have d6 : decide (r ≥ 880) = true := by simp; omega
    have d7 : decide (r ≤ 1023) = false := by simp; omega
    have d8 : decide (r ≥ 1024) = true := by simp; omega
    have d9 : decide (r ≤ 1279) = false := by simp; omega
    clear h0
    go_enter Tryz.func68, Tryz.ntmps68
    go_wp2
    go_ret
    exact ⟨rfl, rfl⟩
theorem tletter_at {r : Int} {q : Bool} (h : letterB r = q) (w : World) : Calls Tryz.prog 68 #[.int .i32 r] w fun e w' => e = .returned (.bool q) ∧ w = w' := by
  subst h; exact tletter_same r w

def endB (r : Int) : Bool := letterB r || digitB r
def midB (r : Int) : Bool := endB r || (decide (r = 95) || decide (r = 45))
theorem tend_is {r : Int} {q : Bool} (h : endB r = q) (w : World) : Calls Tryz.prog 69 #[.int .i32 r] w fun e w' => e = .returned (.bool q) ∧ w = w' := by
  obtain ⟨a, ha⟩ : ∃ a, letterB r = a := ⟨_, rfl⟩
  have RL := Lib.hid (fun w => tletter_at ha w)
  have HQ : Hid ((a || digitB r) = q) := by rw [← h, ← ha]; rfl
  clear h ha
  cases a with
  | true =>
    obtain rfl : q = true := by rw [← HQ.out]; rfl
    go_enter Tryz.func69, Tryz.ntmps69
    go_wp2_with (go_at_call 68; (with_reducible refine (RL.out _).mono ?_); rintro e w2 ⟨rfl, rfl⟩)
    go_ret
    exact ⟨rfl, rfl⟩
  | false =>
    by_cases h1 : 48 ≤ r
    · by_cases h2 : r ≤ 57
      · obtain rfl : q = true := by rw [← HQ.out]; unfold digitB; simp [h1, h2]
        go_enter Tryz.func69, Tryz.ntmps69
        go_wp2_with (go_at_call 68; (with_reducible refine (RL.out _).mono ?_); rintro e w2 ⟨rfl, rfl⟩)
        go_ret
        exact ⟨rfl, rfl⟩
      · obtain rfl : q = false := by rw [← HQ.out]; unfold digitB; simp [h2]
        have d1 : decide (r ≤ 57) = false := by simp; omega
        go_enter Tryz.func69, Tryz.ntmps69
        go_wp2_with (go_at_call 68; (with_reducible refine (RL.out _).mono ?_); rintro e w2 ⟨rfl, rfl⟩)
        go_ret
        exact ⟨rfl, rfl⟩
    · obtain rfl : q = false := by rw [← HQ.out]; unfold digitB; simp [h1]
      have d1 : decide (r ≥ 48) = false := by simp; omega
      go_enter Tryz.func69, Tryz.ntmps69
      go_wp2_with (go_at_call 68; (with_reducible refine (RL.out _).mono ?_); rintro e w2 ⟨rfl, rfl⟩)
      go_ret
      exact ⟨rfl, rfl⟩

def plainB (r : Int) : Bool := decide (32 ≤ r) && decide (r ≠ 127) && decide (r ≠ 34) && decide (r ≠ 92)
theorem tplain_is {r : Int} {q : Bool} (h : plainB r = q) (w : World) : Calls Tryz.prog 120 #[.int .i32 r] w fun e w' => e = .returned (.bool q) ∧ w = w' := by
  by_cases h1 : 32 ≤ r
  · by_cases h2 : r = 127
    · subst h2
      obtain rfl : q = false := by rw [← h]; decide
      go_enter Tryz.func120, Tryz.ntmps120
      go_wp2
      go_ret
      exact ⟨rfl, rfl⟩
    · by_cases h3 : r = 34
      · subst h3
        obtain rfl : q = false := by rw [← h]; decide
        go_enter Tryz.func120, Tryz.ntmps120
        go_wp2
        go_ret
        exact ⟨rfl, rfl⟩
      · by_cases h4 : r = 92
        · subst h4
          obtain rfl : q = false := by rw [← h]; decide
          go_enter Tryz.func120, Tryz.ntmps120
          go_wp2
          go_ret
          exact ⟨rfl, rfl⟩
        · obtain rfl : q = true := by rw [← h]; unfold plainB; simp [h1, h2, h3, h4]
          have e2 : (r != 127) = true := by simpa using h2
          have e3 : (r != 34) = true := by simpa using h3
          have e4 : (r != 92) = true := by simpa using h4
          clear h
          go_enter Tryz.func120, Tryz.ntmps120
          go_wp2
          go_ret
          exact ⟨rfl, rfl⟩
  · obtain rfl : q = false := by rw [← h]; unfold plainB; simp [h1]
    have d1 : decide (r ≥ 32) = false := by simp; omega
    clear h
    go_enter Tryz.func120, Tryz.ntmps120
    go_wp2
    go_ret
    exact ⟨rfl, rfl⟩

structure NmC (l : List Int) (i : Nat) (y : Int) : Prop where
  le : i ≤ l.length
  head : 0 < i → letterB (l.getD 0 0) = true
  all : ∀ j, j < i → midB (l.getD j 0) = true
  last : endB y = (decide (0 < i) && endB (l.getD (i - 1) 0))
theorem NmC.start (l : List Int) : NmC l 0 0 := ⟨Nat.zero_le _, fun h => by omega, fun j h => by omega, rfl⟩
theorem told_same {z y : Int} (h : (z = -1 ∧ y = 65533) ∨ (0 ≤ z ∧ y = z)) : letterB z = letterB y ∧ endB z = endB y ∧ midB z = midB y := by
  rcases h with ⟨rfl, rfl⟩ | ⟨_, rfl⟩
  · exact ⟨by decide, by decide, by decide⟩
  · exact ⟨rfl, rfl, rfl⟩
theorem NmC.next {l : List Int} {i : Nat} {y0 y z : Int} (h : NmC l i y0) (hi : i < l.length) (hz : l.getD i 0 = z) (ht : (z = -1 ∧ y = 65533) ∨ (0 ≤ z ∧ y = z)) (h0 : i = 0 → letterB y = true) (hm : midB y = true) : NmC l (i + 1) y := by
  obtain ⟨e1, e2, e3⟩ := told_same ht
  refine ⟨by omega, fun _ => ?_, fun j hj => ?_, ?_⟩
  · by_cases k : i = 0
    · subst k; rw [hz, e1]; exact h0 rfl
    · exact h.head (by omega)
  · by_cases k : j = i
    · subst k; rw [hz, e3]; exact hm
    · exact h.all j (by omega)
  · rw [show i + 1 - 1 = i by omega, hz, e2, decide_eq_true (show 0 < i + 1 by omega), Bool.true_and]
theorem NmC.no {l : List Int} {i : Nat} {y z : Int} (hi : i < l.length) (hz : l.getD i 0 = z) (ht : (z = -1 ∧ y = 65533) ∨ (0 ≤ z ∧ y = z)) (hm : midB y = false) : ¬ NameL l := fun g => by
  have := g.2.2.2 i hi
  obtain ⟨e1, e2, e3⟩ := told_same ht
  rw [← e3] at hm
  unfold nameOk at this
  rw [hz] at this
  unfold midB endB at hm
  simp only [Bool.or_eq_false_iff] at hm
  rw [hm.1.1, hm.1.2, hm.2.1, hm.2.2] at this
  simp at this
theorem NmC.first {l : List Int} {y z : Int} (hz : l.getD 0 0 = z) (ht : (z = -1 ∧ y = 65533) ∨ (0 ≤ z ∧ y = z)) (hm : letterB y = false) : ¬ NameL l := fun g => by
  have := g.2.2.1
  rw [hz, (told_same ht).1, hm] at this
  cases this
theorem NmC.done {l : List Int} {i : Nat} {y : Int} (h : NmC l i y) (hi : i = l.length) (h24 : i ≤ 24) : endB y = true ↔ NameL l := by
  rw [h.last]
  constructor
  · intro e
    simp only [Bool.and_eq_true, decide_eq_true_eq] at e
    refine ⟨by omega, by omega, h.head e.1, fun j hj => ?_⟩
    have hm := h.all j (by omega)
    by_cases k : j = i - 1
    · rw [k]
      have := e.2
      unfold endB at this
      unfold nameOk
      rw [this]; rfl
    · unfold midB endB at hm
      unfold nameOk
      rw [decide_eq_true (show j + 1 ≠ l.length by omega)]
      exact hm
  · rintro ⟨a, b, c, d⟩
    have := d (i - 1) (by omega)
    unfold nameOk at this
    rw [decide_eq_false (show ¬ (i - 1 + 1 ≠ l.length) by omega), Bool.false_and, Bool.or_false] at this
    unfold endB
    rw [this, decide_eq_true (show 0 < i by omega)]; rfl

theorem drop_cons {l : List Int} {i : Nat} {z : Int} {r : List Int} (h : l.drop i = z :: r) : i < l.length ∧ l.getD i 0 = z ∧ l.drop (i + 1) = r := by
  have hi : i < l.length := by
    have := congrArg List.length h
    rw [List.length_drop, List.length_cons] at this
    omega
  rw [List.drop_eq_getElem_cons hi] at h
  injection h with h1 h2
  exact ⟨hi, by rw [List.getD_eq_getElem?_getD, List.getElem?_eq_getElem hi]; exact h1, h2⟩
set_option maxRecDepth 100000 in
set_option maxHeartbeats 8000000 in
theorem tname_plain (s : ByteArray) (w : World) (_hm : s.size ≤ 4294967296) : Calls Tryz.prog 40 #[.string s] w (GivesQ (NameL (runesOf (nums s))) w) := by
  have hlen : Hid ((nums s).length = s.size) := nums_length s
  obtain ⟨l, hl⟩ : ∃ l, runesOf (nums s) = l := ⟨_, rfl⟩
  rw [hl]
  have HL := Lib.hid hl
  clear hl
  go_enter Tryz.func40, Tryz.ntmps40
  go_wp2
  obtain ⟨I, hI⟩ : ∃ I, w.heap.size = I := ⟨_, rfl⟩
  rw [hI]
  have HI := Lib.hid hI
  have hit0 : (w.iter s 0).heap[I]? = some (.stringIter s 0) := by rw [← hI]; exact World.iter_heap w s 0
  have hb0 : Below I w (w.iter s 0) := by rw [← hI]; exact (Below.refl _ _).alloc (Nat.le_refl _) _
  generalize w.iter s 0 = w0 at hit0 hb0 ⊢
  clear hI
  replace hit0 := Lib.hid hit0
  replace hb0 := Lib.hid hb0
  go_loopw [3, 4] (fun v3 v4 wr => ∃ (pos i : Nat) (y : Int), v3 = .int .i64 (i : Int) ∧ v4 = .int .i32 y ∧ i ≤ 24 ∧ pos ≤ s.size ∧ rfrom (nums s) pos = l.drop i ∧ NmC l i y ∧ wr.heap[I]? = some (.stringIter s pos) ∧ Below I w wr) (fun _ _ wr => s.size - wr.iterPos I)
  case atStart => exact ⟨0, 0, 0, rfl, rfl, by omega, by omega, HL.out, NmC.start l, hit0.out, hb0.out⟩
  case round =>
    obtain ⟨pos, i, y0, rfl, rfl, h24, hp, hr, hC, hk, hb⟩ := hrel
    have HC := Lib.hid hC
    have HR := Lib.hid hr
    have HB0 := Lib.hid hb
    clear hC hr hb
    by_cases h1 : pos < s.size
    · obtain ⟨y, hnx, y0', y1, ht⟩ := txt_rune wr I s pos hk h1
      have hR : rfrom (nums s) pos = runeA (nums s) pos :: rfrom (nums s) (pos + widA (nums s) pos) := rfrom_in (by rw [hlen.out]; exact h1)
      obtain ⟨hi0, hz, hr2⟩ := drop_cons (HR.out.symm.trans hR)
      have HT := Lib.hid ht
      have HZ := Lib.hid hz
      have HR2 := Lib.hid hr2.symm
      have hwid := Lib.hid (widA_pos (nums s) pos)
      have hwin := Lib.hid (widA_in (zs := nums s) (i := pos) (by rw [hlen.out]; exact h1))
      have HB := Lib.hid (Lib.below_iterAt HB0.out (Nat.le_refl I) s (pos + widA (nums s) pos))
      have hk2 := Lib.hid (Lib.iterAt_heap wr I s pos (pos + widA (nums s) pos) hk)
      have hk0 := Lib.hid hk
      have hi : Hid (i < l.length) := hi0
      clear ht hz hr2 hR hi0 hk
      obtain ⟨p2, hp2⟩ : ∃ p, pos + widA (nums s) pos = p := ⟨_, rfl⟩
      rw [hp2] at hnx HB hk2 HR2 hwin
      have hlt : Hid (pos < p2) := by have := hwid.out; unfold Hid; omega
      have hle : Hid (p2 ≤ s.size) := by have := hwin.out; rw [hlen.out] at this; exact this
      clear hp2 hwid hwin
      generalize wr.iterAt I s p2 = W1 at hnx HB hk2
      obtain ⟨q, hq⟩ : ∃ q, letterB y = q := ⟨_, rfl⟩
      obtain ⟨qe, hqe⟩ : ∃ q, endB y = q := ⟨_, rfl⟩
      have RL := Lib.hid (fun w => tletter_at hq w)
      have RE := Lib.hid (fun w => tend_is hqe w)
      have HQ := Lib.hid hq
      have HE := Lib.hid hqe
      clear hq hqe
      by_cases h25 : i = 24
      · have hbad : Hid (¬ NameL l) := fun g => by have h5 : l.length ≤ 24 := g.2.1; have := hi.out; omega
        subst h25
        go_wp2_with (first
          | (go_at_call 68; (with_reducible refine (RL.out _).mono ?_); rintro e w2 ⟨rfl, rfl⟩)
          | (go_at_call 69; (with_reducible refine (RE.out _).mono ?_); rintro e w2 ⟨rfl, rfl⟩))
        go_ret
        exact GivesQ.no hbad.out (HI.out ▸ HB.out)
      · by_cases h0 : i = 0
        · subst h0
          cases q with
          | false =>
            have hbad := Lib.hid (NmC.first HZ.out HT.out HQ.out)
            go_wp2_with (first
              | (go_at_call 68; (with_reducible refine (RL.out _).mono ?_); rintro e w2 ⟨rfl, rfl⟩)
              | (go_at_call 69; (with_reducible refine (RE.out _).mono ?_); rintro e w2 ⟨rfl, rfl⟩))
            go_ret
            exact GivesQ.no hbad.out (HI.out ▸ HB.out)
          | true =>
            obtain rfl : qe = true := by rw [← HE.out]; unfold endB; rw [HQ.out]; rfl
            have hm : Hid (midB y = true) := by unfold Hid midB; rw [HE.out]; rfl
            have hn := Lib.hid (HC.out.next hi.out HZ.out HT.out (fun _ => HQ.out) hm.out)
            go_wp2_with (first
              | (go_at_call 68; (with_reducible refine (RL.out _).mono ?_); rintro e w2 ⟨rfl, rfl⟩)
              | (go_at_call 69; (with_reducible refine (RE.out _).mono ?_); rintro e w2 ⟨rfl, rfl⟩))
            go_round
            case rel => exact ⟨p2, 0 + 1, y, by go_num, rfl, by omega, hle.out, HR2.out, hn.out, hk2.out, HB.out⟩
            case measure => rw [iterPos_of hk2.out, iterPos_of hk0.out]; have := hlt.out; have := hle.out; omega
        · have d0 : ((i : Int) + 1 == 1) = false := by simp; omega
          have h0n : Hid (i = 0 → letterB y = true) := fun e => (h0 e).elim
          cases qe with
          | true =>
            have hm : Hid (midB y = true) := by unfold Hid midB; rw [HE.out]; rfl
            have hn := Lib.hid (HC.out.next hi.out HZ.out HT.out h0n.out hm.out)
            go_wp2_with (first
              | (go_at_call 68; (with_reducible refine (RL.out _).mono ?_); rintro e w2 ⟨rfl, rfl⟩)
              | (go_at_call 69; (with_reducible refine (RE.out _).mono ?_); rintro e w2 ⟨rfl, rfl⟩))
            go_round
            case rel => exact ⟨p2, i + 1, y, by go_num, rfl, by omega, hle.out, HR2.out, hn.out, hk2.out, HB.out⟩
            case measure => rw [iterPos_of hk2.out, iterPos_of hk0.out]; have := hlt.out; have := hle.out; omega
          | false =>
            by_cases c95 : y = 95
            · subst c95
              have hm : Hid (midB 95 = true) := (by decide : midB 95 = true)
              have hn := Lib.hid (HC.out.next hi.out HZ.out HT.out h0n.out hm.out)
              go_wp2_with (first
                | (go_at_call 68; (with_reducible refine (RL.out _).mono ?_); rintro e w2 ⟨rfl, rfl⟩)
                | (go_at_call 69; (with_reducible refine (RE.out _).mono ?_); rintro e w2 ⟨rfl, rfl⟩))
              go_round
              case rel => exact ⟨p2, i + 1, 95, by go_num, rfl, by omega, hle.out, HR2.out, hn.out, hk2.out, HB.out⟩
              case measure => rw [iterPos_of hk2.out, iterPos_of hk0.out]; have := hlt.out; have := hle.out; omega
            · have e95 : (y != 95) = true := by simpa using c95
              by_cases c45 : y = 45
              · subst c45
                have hm : Hid (midB 45 = true) := (by decide : midB 45 = true)
                have hn := Lib.hid (HC.out.next hi.out HZ.out HT.out h0n.out hm.out)
                go_wp2_with (first
                  | (go_at_call 68; (with_reducible refine (RL.out _).mono ?_); rintro e w2 ⟨rfl, rfl⟩)
                  | (go_at_call 69; (with_reducible refine (RE.out _).mono ?_); rintro e w2 ⟨rfl, rfl⟩))
                go_round
                case rel => exact ⟨p2, i + 1, 45, by go_num, rfl, by omega, hle.out, HR2.out, hn.out, hk2.out, HB.out⟩
                case measure => rw [iterPos_of hk2.out, iterPos_of hk0.out]; have := hlt.out; have := hle.out; omega
              · have e45 : (y != 45) = true := by simpa using c45
                have hm : Hid (midB y = false) := by unfold Hid midB; rw [HE.out]; simp [c95, c45]
                have hbad := Lib.hid (NmC.no hi.out HZ.out HT.out hm.out)
                go_wp2_with (first
                  | (go_at_call 68; (with_reducible refine (RL.out _).mono ?_); rintro e w2 ⟨rfl, rfl⟩)
                  | (go_at_call 69; (with_reducible refine (RE.out _).mono ?_); rintro e w2 ⟨rfl, rfl⟩))
                go_ret
                exact GivesQ.no hbad.out (HI.out ▸ HB.out)
    · have hend : i = l.length := by
        have h5 := HR.out
        rw [rfrom_out (by rw [hlen.out]; exact h1)] at h5
        have h6 := congrArg List.length h5
        rw [List.length_drop] at h6
        have h7 := HC.out.le
        simp at h6; omega
      have hnx := fun ty => Lib.run_next_end_at (P := Tryz.prog) wr I s pos ty hk h1
      obtain ⟨qe, hqe⟩ : ∃ q, endB y0 = q := ⟨_, rfl⟩
      have RE := Lib.hid (fun w => tend_is hqe w)
      have hD := Lib.hid (HC.out.done hend h24)
      have HE := Lib.hid hqe
      clear hqe hend
      go_wp2_with (go_at_call 69; (with_reducible refine (RE.out _).mono ?_); rintro e w2 ⟨rfl, rfl⟩)
      go_ret
      exact ⟨qe, rfl, by rw [← HE.out]; exact hD.out, HI.out ▸ HB0.out⟩

end Go.Proofs.YtmgimkokmlcllaaGreatDoor

/-
  Package text's calls, walked: Good, Count, Cut, Fold.
-/
namespace Go.Proofs.YtmgimkokmlcllaaGreatDoor
open Go.RowKit

theorem tgood_any (s : ByteArray) (w : World) (env : Env w) (_hm : s.size ≤ 4294967296) : Calls Tryz.prog 95 #[.string s] w (GivesQ (GoodL (runesOf (nums s))) w) := by
  have R := Lib.hid (Tryz.utf8_ValidString s w (by omega) env.utf)
  have V := Lib.hid (valid_good s)
  generalize Lib.validD s.data.toList = q at R V
  go_enter Tryz.func95, Tryz.ntmps95
  go_wp2_with (go_at_call 118; (with_reducible refine R.out.mono ?_); rintro e w1 ⟨rfl, hb⟩; have HB := Lib.hid hb; clear hb)
  go_ret
  exact ⟨q, rfl, V.out, HB.out⟩
theorem tgood_yes {s : ByteArray} {w : World} (env : Env w) (hm : s.size ≤ 4294967296) (h : GoodL (runesOf (nums s))) : Calls Tryz.prog 95 #[.string s] w fun e w' => e = .returned (.bool true) ∧ Below w.heap.size w w' := by
  refine (tgood_any s w env hm).mono ?_
  rintro e w' ⟨q, rfl, hq, hb⟩
  rw [hq.mpr h]
  exact ⟨rfl, hb⟩
theorem tgood_no {s : ByteArray} {w : World} (env : Env w) (hm : s.size ≤ 4294967296) (h : ¬ GoodL (runesOf (nums s))) : Calls Tryz.prog 95 #[.string s] w fun e w' => e = .returned (.bool false) ∧ Below w.heap.size w w' := by
  refine (tgood_any s w env hm).mono ?_
  rintro e w' ⟨q, rfl, hq, hb⟩
  cases q with
  | false => exact ⟨rfl, hb⟩
  | true => exact (h (hq.mp rfl)).elim

theorem tcount_big (s : ByteArray) (w : World) (_hm : s.size ≤ 1099511627776) : Calls Tryz.prog 96 #[.string s] w fun e w' => e = .returned (.int .i64 (runesOf (nums s)).length) ∧ Below w.heap.size w w' := by
  have R := Lib.hid (Tryz.utf8_RuneCountInString s w (by omega))
  rw [count_runes] at R
  generalize (runesOf (nums s)).length = n at R ⊢
  go_enter Tryz.func96, Tryz.ntmps96
  go_wp2_with (go_at_call 119; (with_reducible refine R.out.mono ?_); rintro e w1 ⟨rfl, p, hb⟩; have HB := Lib.hid hb; clear hb)
  go_ret
  refine ⟨rfl, ?_⟩
  rw [HB.out]
  exact (Below.refl _ _).alloc (Nat.le_refl _) _

structure FoM (w wr : World) (zs : List Int) (b i : Nat) : Prop where
  new : w.heap.size ≤ b
  bel : Below w.heap.size w wr
  lo : ∀ j, j < zs.length → j < i → wr.cell? ⟨b, j, none⟩ = some (.int .u8 (foldB (zs.getD j 0)))
  hi : ∀ j, j < zs.length → i ≤ j → wr.cell? ⟨b, j, none⟩ = some (.int .u8 (zs.getD j 0))
  free : ∀ j, j < zs.length → wr.frozen? ⟨b, j, none⟩ = false
end Go.Proofs.YtmgimkokmlcllaaGreatDoor

/-
  A text put together in a strings.Builder of the call's own, walked at this program (its copyCheck has no way out by panic here): WriteByte, WriteString; what a builder holds, by numbers.
-/
namespace Go.Proofs.YtmgimkokmlcllaaGreatDoor
open Go.RowKit

def u8s (zs : List Int) : List Value := zs.map fun z => .int .u8 z
theorem u8s_len (zs : List Int) : (u8s zs).length = zs.length := by simp [u8s]
theorem u8s_append (a b : List Int) : u8s (a ++ b) = u8s a ++ u8s b := by simp [u8s]
theorem u8s_bytes {zs : List Int} (h : ∀ z ∈ zs, 0 ≤ z ∧ z ≤ 255) : Lib.byteCells (zs.map fun z => UInt8.ofNat z.toNat) = u8s zs := by
  unfold Lib.byteCells u8s
  rw [List.map_map]
  apply List.map_congr_left
  intro z hz
  have := h z hz
  simp only [Function.comp, UInt8.toNat_ofNat']
  congr 1
  omega
theorem u8s_str {zs : List Int} (h : ∀ z ∈ zs, 0 ≤ z ∧ z ≤ 255) : Lib.strCells (strOfNums zs) = u8s zs := by
  have := u8s_bytes h
  unfold Lib.byteCells at this
  unfold Lib.strCells strOfNums
  simpa using this
theorem str_size (zs : List Int) : (strOfNums zs).size = zs.length := strOfNums_size zs

abbrev BldF (B b : Nat) (xs : List Value) (w : World) : Prop := Lib.IsBuilderF 43 5 B b xs w

set_option maxRecDepth 100000 in
theorem cc_new (b : Nat) (w : World) (h0 : w.cell? ⟨b, 0, none⟩ = some (.pointer none)) (hsh : w.shape? b = some (43, 2)) (hfz : w.frozen? ⟨b, 0, none⟩ = false) :
    Calls Tryz.prog 90 #[.pointer (some ⟨b, 0, none⟩)] w fun e w' => e = .returned (.tuple #[]) ∧ w' = w.setCell ⟨b, 0, none⟩ (.pointer (some ⟨b, 0, none⟩)) := by
  obtain ⟨j, hj, hjs⟩ := Option.map_eq_some_iff.1 (show (Tryz.prog.info? 43).map (·.size) = some 2 by kernel_rfl)
  go_enter Tryz.func90, Tryz.ntmps90
  go_wp2
  rw [Lib.run_to_unsafe w ⟨b, 0, none⟩ Tryz.underlying40 Tryz.underlying136 hj (by rw [hjs]; decide) hsh (Nat.zero_lt_succ 1)]
  simp only [Result.andThen]
  rw [Oper.upon_value]
  go_wp2
  rw [run_callFunc_extern Tryz.func113 (by kernel_rfl) (by kernel_rfl) (by kernel_rfl) (e := Extern.AbiNoEscape.same) (by kernel_rfl)]
  rw [Lib.run_noEscape]
  simp only [Result.andThen]
  rw [Oper.upon_value]
  go_wp2
  rw [Lib.run_from_unsafe w ⟨b, 0, none⟩ Tryz.underlying136 Tryz.underlying40 hj hsh (by kernel_rfl)]
  simp only [Result.andThen]
  rw [Oper.upon_value]
  go_wp2
  go_end0
  exact ⟨rfl, rfl⟩
set_option maxRecDepth 100000 in
theorem cc_used (b : Nat) (w : World) (h0 : w.cell? ⟨b, 0, none⟩ = some (.pointer (some ⟨b, 0, none⟩))) :
    Calls Tryz.prog 90 #[.pointer (some ⟨b, 0, none⟩)] w fun e w' => e = .returned (.tuple #[]) ∧ w' = w := by
  obtain ⟨j, hj⟩ : ∃ j, Tryz.prog.info? 43 = some j := Option.isSome_iff_exists.mp (by kernel_rfl)
  have hne := Lib.run_neq_ptr_same (P := Tryz.prog) w (tp := 40) (te := 43) ⟨b, 0, none⟩ Tryz.underlying40 hj
  go_enter Tryz.func90, Tryz.ntmps90
  go_wp2
  go_end0
  exact ⟨rfl, rfl⟩
theorem cc_any (B b : Nat) (xs : List Value) (w : World) (h : BldF B b xs w) :
    Calls Tryz.prog 90 #[.pointer (some ⟨b, 0, none⟩)] w fun e w' => e = .returned (.tuple #[]) ∧ Lib.BuilderAtF 43 5 B b (.pointer (some ⟨b, 0, none⟩)) xs w' ∧ Below B w w' ∧ Lib.OthersKept 5 (some b) w w' := by
  rcases h with h | h
  · refine (cc_new b w h.cell0 h.shape h.frozen0).mono ?_
    rintro e w' ⟨rfl, rfl⟩
    exact ⟨rfl, h.used _, (Below.refl B w).setCell (p := ⟨b, 0, none⟩) h.1 _, (Lib.OthersKept.refl _ _ w).setCell ⟨b, 0, none⟩ rfl _⟩
  · refine (cc_used b w h.cell0).mono ?_
    rintro e w' ⟨rfl, rfl⟩
    exact ⟨rfl, h, Below.refl B _, Lib.OthersKept.refl _ _ _⟩

theorem u8_info : ∃ i, Tryz.prog.info? 5 = some i ∧ i.zero = some (.int .u8 0) ∧ i.size = 1 ∧ i.bytes = 1 := by
  have h : (Tryz.prog.info? 5).map (fun i => (i.zero, i.size, i.bytes)) = some (some (.int .u8 0), 1, 1) := by kernel_rfl
  cases e : Tryz.prog.info? 5 with
  | none => rw [e] at h; cases h
  | some i =>
    rw [e] at h
    simp only [Option.map_some, Option.some.injEq, Prod.mk.injEq] at h
    exact ⟨i, rfl, h.1, h.2.1, h.2.2⟩

set_option maxHeartbeats 2000000 in
set_option maxRecDepth 100000 in
theorem wbyte_any (B b : Nat) (zs : List Int) (c : Int) (w : World) (h : BldF B b (u8s zs) w) (hlen : zs.length + 1 ≤ 140737488355328) (hBw : B ≤ w.heap.size) :
    Calls Tryz.prog 61 #[.pointer (some ⟨b, 0, none⟩), .int .u8 c] w fun e w' => e = .returned .nilIface ∧ BldF B b (u8s (zs ++ [c])) w' ∧ Below B w w' ∧ Lib.OthersKept 5 (some b) w w' := by
  obtain ⟨i0, hi, hz0, hz1, hz2⟩ := u8_info
  go_enter Tryz.func61, Tryz.ntmps61
  go_wp2_with (go_at_call 90; refine (cc_any B b _ _ h).mono ?_)
  rintro e w1 ⟨rfl, h1, hb1, hk1⟩
  obtain ⟨hB, v, hbk, hown, hne⟩ := h1
  rw [u8s_len] at hown
  have c0 : w1.cell? ⟨b, 0, none⟩ = some (.pointer (some ⟨b, 0, none⟩)) := by rw [Lib.cell_of_heap hbk]; rfl
  have c1 : w1.cell? ⟨b, 1, none⟩ = some v := by rw [Lib.cell_of_heap hbk]; rfl
  go_wp2_with (at_builtin; refine wpList_append_ownF _ rfl _ _ 41 rfl B 5 i0 (.int .u8 0) 1 1 Tryz.underlying41 hi hz0 hz1 hz2 rfl (by decide) _ _ _ rfl (hown.alloc _) ⟨w1.heap.size, 0, none⟩ 1 1 [.int .u8 c] rfl rfl ?c1 ?c2 ?c3 ?c4 ?c5 ?_)
  case c1 =>
    intro j u hj
    match j, hj with
    | 0, hj => simp at hj; subst hj; simp [Addr.add]
  case c2 => intro u hu; simp at hu; subst hu; rfl
  case c3 => unfold maxLen; omega
  case c4 => omega
  case c5 => have := hb1.size; simp; omega
  intro v' w2 hown' hgrow _
  have hlt : b < w1.heap.size := (Array.getElem?_eq_some_iff.1 hbk).1
  have hb2 : w2.heap[b]? = some (.cells #[.pointer (some ⟨b, 0, none⟩), v] 43 (0, 0)) := by
    rw [hgrow.block b (by simp; omega) (fun e => hne e.symm), Lib.alloc_old w1 _ b hlt]
    exact hbk
  have d0 : w2.cell? ⟨b, 0, none⟩ = some (.pointer (some ⟨b, 0, none⟩)) := by rw [Lib.cell_of_heap hb2]; rfl
  have d1 : w2.cell? ⟨b, 1, none⟩ = some v := by rw [Lib.cell_of_heap hb2]; rfl
  have f1 : w2.frozen? ⟨b, 1, none⟩ = false := Lib.frozen_of_heap hb2 1
  obtain ⟨g, cap, rfl⟩ : ∃ g cap, v' = .slice (some ⟨g, 0, none⟩) (zs.length + 1) cap := by
    rcases hown'.2 with ⟨_, h0⟩ | ⟨g, cap, cur, fz, hv, _⟩
    · omega
    · exact ⟨g, cap, hv⟩
  go_wp2
  go_ret
  refine ⟨rfl, Or.inr ?_, ?_, ((hk1.alloc _).grown hgrow (Lib.ownsRowF_kind (hown.alloc _))).setCell ⟨b, 1, none⟩ rfl _⟩
  · refine Lib.BuilderAtF.put (T := 43) (e := 5) hB hb2 (bs' := u8s (zs ++ [c])) ?_ (by decide)
    rw [u8s_len, u8s_append, List.length_append]
    exact hown'
  · exact ((hb1.alloc (by have := hb1.size; omega) _).grown hgrow (by have := hb1.size; simp; omega) (fun k hk => (hown.lt k hk).1)).setCell (p := ⟨b, 1, none⟩) hB _

set_option maxHeartbeats 2000000 in
set_option maxRecDepth 100000 in
theorem wstr_any (B b : Nat) (zs ys : List Int) (hy : ∀ z ∈ ys, 0 ≤ z ∧ z ≤ 255) (w : World) (h : BldF B b (u8s zs) w) (hlen : zs.length + ys.length ≤ 140737488355328) (hBw : B ≤ w.heap.size) :
    Calls Tryz.prog 59 #[.pointer (some ⟨b, 0, none⟩), .string (strOfNums ys)] w fun e w' => e = .returned (.tuple #[.int .i64 ys.length, .nilIface]) ∧ BldF B b (u8s (zs ++ ys)) w' ∧ Below B w w' ∧ Lib.OthersKept 5 (some b) w w' := by
  obtain ⟨i0, hi, hz0, hz1, hz2⟩ := u8_info
  have hcells := u8s_str hy
  have hsz := str_size ys
  generalize strOfNums ys = s at hcells hsz ⊢
  have HS := Lib.hid hsz
  have HC := Lib.hid hcells
  clear hcells hsz
  go_enter Tryz.func59, Tryz.ntmps59
  go_wp2_with (go_at_call 90; refine (cc_any B b _ _ h).mono ?_)
  rintro e w1 ⟨rfl, h1, hb1, hk1⟩
  obtain ⟨hB, v, hbk, hown, hne⟩ := h1
  rw [u8s_len] at hown
  have c0 : w1.cell? ⟨b, 0, none⟩ = some (.pointer (some ⟨b, 0, none⟩)) := by rw [Lib.cell_of_heap hbk]; rfl
  have c1 : w1.cell? ⟨b, 1, none⟩ = some v := by rw [Lib.cell_of_heap hbk]; rfl
  go_wp2_with (at_builtin; refine Lib.wpList_append_own_stringF _ rfl _ _ 41 9 rfl B 5 i0 Tryz.underlying41 Tryz.underlying9 hi hz0 hz1 hz2 _ _ _ rfl hown s rfl ?c3 ?c4 ?c5 ?_)
  case c3 => rw [HS.out]; unfold maxLen; omega
  case c4 => rw [HS.out]; omega
  case c5 => have := hb1.size; omega
  intro v' w2 hown' hgrow _
  have hlt : b < w1.heap.size := (Array.getElem?_eq_some_iff.1 hbk).1
  have hb2 : w2.heap[b]? = some (.cells #[.pointer (some ⟨b, 0, none⟩), v] 43 (0, 0)) := by
    rw [hgrow.block b hlt (fun e => hne e.symm)]
    exact hbk
  have d0 : w2.cell? ⟨b, 0, none⟩ = some (.pointer (some ⟨b, 0, none⟩)) := by rw [Lib.cell_of_heap hb2]; rfl
  have d1 : w2.cell? ⟨b, 1, none⟩ = some v := by rw [Lib.cell_of_heap hb2]; rfl
  have f1 : w2.frozen? ⟨b, 1, none⟩ = false := Lib.frozen_of_heap hb2 1
  have H' := Lib.hid hown'
  obtain ⟨ao, n', cap, rfl⟩ : ∃ ao n' cap, v' = .slice ao n' cap := by
    rcases hown'.2 with ⟨hv, _⟩ | ⟨g, cap, cur, fz, hv, _⟩
    · exact ⟨_, _, _, hv⟩
    · exact ⟨_, _, _, hv⟩
  clear hown'
  go_wp2
  go_ret2
  refine ⟨?_, Or.inr ?_, ?_, (hk1.grown hgrow (Lib.ownsRowF_kind hown)).setCell ⟨b, 1, none⟩ rfl _⟩
  · rw [HS.out]; rfl
  · refine Lib.BuilderAtF.put (T := 43) (e := 5) hB hb2 (bs' := u8s (zs ++ ys)) ?_ (by decide)
    rw [u8s_len, u8s_append, List.length_append]
    have := H'.out
    rw [HS.out, HC.out] at this
    exact this
  · exact (hb1.grown hgrow (by have := hb1.size; omega) (fun k hk => (hown.lt k hk).1)).setCell (p := ⟨b, 1, none⟩) hB _

theorem bstr_any (B b : Nat) (zs : List Int) (hz : ∀ z ∈ zs, 0 ≤ z ∧ z ≤ 255) (w : World) (h : BldF B b (u8s zs) w) (hBw : B ≤ w.heap.size) :
    Calls Tryz.prog 25 #[.pointer (some ⟨b, 0, none⟩)] w fun e w' => e = .returned (.string (strOfNums zs)) ∧ BldF B b (u8s zs) w' ∧ Below B w w' ∧ Lib.OthersKept 5 (some b) w w' := by
  rw [← u8s_bytes hz] at h ⊢
  exact Tryz.Builder_String_any_k B b _ w h hBw
theorem bld_new (w : World) (B b : Nat) (hb : b = w.heap.size) (hB : B ≤ b) : BldF B b (u8s []) (w.alloc (.cells #[.pointer none, .slice none 0 0] 43)) := by
  subst hb
  exact Or.inl ⟨hB, .slice none 0 0, heap_alloc_new w _, World.ownsRowF_nil _ _ _ _, fun h => by cases h⟩

end Go.Proofs.YtmgimkokmlcllaaGreatDoor

/-
  Package text's reader of quoted texts: what it holds (its builder lies in a field of its own), and its calls, walked.
-/
namespace Go.Proofs.YtmgimkokmlcllaaGreatDoor
open Go.RowKit

structure RdF (B b : Nat) (a n d : Int) (zs : List Int) (w : World) : Prop where
  hB : B ≤ b
  ex : ∃ p v, (p = .pointer none ∨ p = .pointer (some ⟨b, 1, none⟩)) ∧ w.heap[b]? = some (.cells #[.int .i64 a, p, v, .int .i32 n, .int .i64 d] 160 (0, 0)) ∧
    w.ownsRowF B 5 1 v zs.length (u8s zs) ∧ v.ownBlock ≠ some b ∧ (zs = [] → v = .slice none 0 0)
def KF (B b : Nat) (w w' : World) : Prop := Below B w w' ∧ Lib.OthersKept 5 (some b) w w'
theorem KF.refl (B b : Nat) (w : World) : KF B b w w := ⟨Below.refl _ _, Lib.OthersKept.refl _ _ _⟩
theorem KF.trans {B b : Nat} {w w1 w2 : World} (h : KF B b w w1) (g : KF B b w1 w2) : KF B b w w2 := ⟨h.1.trans g.1, h.2.trans g.2⟩
theorem KF.put {B b : Nat} {w w1 : World} (h : KF B b w w1) (hB : B ≤ b) (o : Nat) (v : Value) : KF B b w (w1.setCell ⟨b, o, none⟩ v) := ⟨h.1.setCell hB _, h.2.setCell ⟨b, o, none⟩ rfl _⟩
theorem RdF.lt {B b : Nat} {a n d : Int} {zs : List Int} {w : World} (h : RdF B b a n d zs w) : b < w.heap.size := by
  obtain ⟨_, p, v, _, hb, _⟩ := h
  exact (Array.getElem?_eq_some_iff.1 hb).1
theorem RdF.cells {B b : Nat} {a n d : Int} {zs : List Int} {w : World} (h : RdF B b a n d zs w) :
    w.cell? ⟨b, 0, none⟩ = some (.int .i64 a) ∧ w.cell? ⟨b, 3, none⟩ = some (.int .i32 n) ∧ w.cell? ⟨b, 4, none⟩ = some (.int .i64 d) ∧ (∀ o, w.frozen? ⟨b, o, none⟩ = false) := by
  obtain ⟨_, p, v, _, hb, _⟩ := h
  exact ⟨by rw [Lib.cell_of_heap hb]; rfl, by rw [Lib.cell_of_heap hb]; rfl, by rw [Lib.cell_of_heap hb]; rfl, fun o => Lib.frozen_of_heap hb o⟩
theorem own_put {w : World} {B b : Nat} {v : Value} {n : Nat} {xs : List Value} (h : w.ownsRowF B 5 1 v n xs) (hne : v.ownBlock ≠ some b) (o : Nat) (x : Value) : (w.setCell ⟨b, o, none⟩ x).ownsRowF B 5 1 v n xs :=
  h.kept (row := some b) ⟨rfl, rfl, rfl, by simp [World.setCell], fun k _ hk => Below.heap_setCell _ _ _ _ (fun e => hk (by simp [e]))⟩ (Or.inr hne)
theorem RdF.put0 {B b : Nat} {a n d : Int} {zs : List Int} {w : World} (h : RdF B b a n d zs w) (a' : Int) : RdF B b a' n d zs (w.setCell ⟨b, 0, none⟩ (.int .i64 a')) := by
  obtain ⟨hB, p, v, hp, hb, ho, hn, h0⟩ := h
  exact ⟨hB, p, v, hp, by simp [World.setCell, Array.getElem?_modify, hb], own_put ho hn _ _, hn, h0⟩
theorem RdF.put3 {B b : Nat} {a n d : Int} {zs : List Int} {w : World} (h : RdF B b a n d zs w) (n' : Int) : RdF B b a n' d zs (w.setCell ⟨b, 3, none⟩ (.int .i32 n')) := by
  obtain ⟨hB, p, v, hp, hb, ho, hn, h0⟩ := h
  exact ⟨hB, p, v, hp, by simp [World.setCell, Array.getElem?_modify, hb], own_put ho hn _ _, hn, h0⟩
theorem RdF.put4 {B b : Nat} {a n d : Int} {zs : List Int} {w : World} (h : RdF B b a n d zs w) (d' : Int) : RdF B b a n d' zs (w.setCell ⟨b, 4, none⟩ (.int .i64 d')) := by
  obtain ⟨hB, p, v, hp, hb, ho, hn, h0⟩ := h
  exact ⟨hB, p, v, hp, by simp [World.setCell, Array.getElem?_modify, hb], own_put ho hn _ _, hn, h0⟩
theorem RdF.iterAt {B b : Nat} {a n d : Int} {zs : List Int} {w : World} (h : RdF B b a n d zs w) {k : Nat} {s : ByteArray} {pos : Nat} (hk : w.heap[k]? = some (.stringIter s pos)) (pos' : Nat) : RdF B b a n d zs (w.iterAt k s pos') := by
  obtain ⟨hB, p, v, hp, hb, ho, hn, h0⟩ := h
  have hkb : b ≠ k := fun e => by rw [e, hk] at hb; cases hb
  refine ⟨hB, p, v, hp, (Lib.iterAt_other w k b s pos' hkb).trans hb, ⟨ho.1, ?_⟩, hn, h0⟩
  rcases ho.2 with hx | ⟨g, cap, cur, fz, hv, hbg, hg, rest⟩
  · exact Or.inl hx
  · have hkg : g ≠ k := fun e => by rw [e, hk] at hg; cases hg
    exact Or.inr ⟨g, cap, cur, fz, hv, hbg, (Lib.iterAt_other w k g s pos' hkg).trans hg, rest⟩
theorem RdF.new (w : World) (B b : Nat) (hb : b = w.heap.size) (hB : B ≤ b) : RdF B b 0 0 0 [] (w.alloc (.cells #[.int .i64 0, .pointer none, .slice none 0 0, .int .i32 0, .int .i64 0] 160)) := by
  subst hb
  exact ⟨hB, .pointer none, .slice none 0 0, Or.inl rfl, heap_alloc_new w _, World.ownsRowF_nil _ _ _ _, (by intro h; cases h), fun _ => rfl⟩
theorem RdF.alloc {B b : Nat} {a n d : Int} {zs : List Int} {w : World} (h : RdF B b a n d zs w) (o : Obj) : RdF B b a n d zs (w.alloc o) := by
  have hlt := h.lt
  obtain ⟨hB, p, v, hp, hb, ho, hn, h0⟩ := h
  exact ⟨hB, p, v, hp, (Lib.alloc_old w o b hlt).trans hb, ho.kept (World.grownBy_alloc w o none) (by cases hv : v.ownBlock <;> simp), hn, h0⟩

set_option maxRecDepth 100000 in
theorem ccr_new (b : Nat) (w : World) (h0 : w.cell? ⟨b, 1, none⟩ = some (.pointer none)) (hsh : w.shape? b = some (160, 5)) (hfz : w.frozen? ⟨b, 1, none⟩ = false) :
    Calls Tryz.prog 90 #[.pointer (some ⟨b, 1, none⟩)] w fun e w' => e = .returned (.tuple #[]) ∧ w' = w.setCell ⟨b, 1, none⟩ (.pointer (some ⟨b, 1, none⟩)) := by
  obtain ⟨j, hj, hjs⟩ := Option.map_eq_some_iff.1 (show (Tryz.prog.info? 43).map (·.size) = some 2 by kernel_rfl)
  go_enter Tryz.func90, Tryz.ntmps90
  go_wp2
  rw [Lib.run_to_unsafe w ⟨b, 1, none⟩ Tryz.underlying40 Tryz.underlying136 hj (by rw [hjs]; decide) hsh (Nat.succ_lt_succ (Nat.zero_lt_succ 3))]
  simp only [Result.andThen]
  rw [Oper.upon_value]
  go_wp2
  rw [run_callFunc_extern Tryz.func113 (by kernel_rfl) (by kernel_rfl) (by kernel_rfl) (e := Extern.AbiNoEscape.same) (by kernel_rfl)]
  rw [Lib.run_noEscape]
  simp only [Result.andThen]
  rw [Oper.upon_value]
  go_wp2
  rw [Lib.run_from_unsafe w ⟨b, 1, none⟩ Tryz.underlying136 Tryz.underlying40 hj hsh (by kernel_rfl)]
  simp only [Result.andThen]
  rw [Oper.upon_value]
  go_wp2
  go_end0
  exact ⟨rfl, rfl⟩
set_option maxRecDepth 100000 in
theorem ccr_used (b : Nat) (w : World) (h0 : w.cell? ⟨b, 1, none⟩ = some (.pointer (some ⟨b, 1, none⟩))) :
    Calls Tryz.prog 90 #[.pointer (some ⟨b, 1, none⟩)] w fun e w' => e = .returned (.tuple #[]) ∧ w' = w := by
  obtain ⟨j, hj⟩ : ∃ j, Tryz.prog.info? 43 = some j := Option.isSome_iff_exists.mp (by kernel_rfl)
  have hne := Lib.run_neq_ptr_same (P := Tryz.prog) w (tp := 40) (te := 43) ⟨b, 1, none⟩ Tryz.underlying40 hj
  go_enter Tryz.func90, Tryz.ntmps90
  go_wp2
  go_end0
  exact ⟨rfl, rfl⟩
theorem ccr_any (B b : Nat) (a n d : Int) (zs : List Int) (w : World) (h : RdF B b a n d zs w) :
    Calls Tryz.prog 90 #[.pointer (some ⟨b, 1, none⟩)] w fun e w' => e = .returned (.tuple #[]) ∧ KF B b w w' ∧ B ≤ b ∧
      ∃ v, w'.heap[b]? = some (.cells #[.int .i64 a, .pointer (some ⟨b, 1, none⟩), v, .int .i32 n, .int .i64 d] 160 (0, 0)) ∧ w'.ownsRowF B 5 1 v zs.length (u8s zs) ∧ v.ownBlock ≠ some b := by
  obtain ⟨hB, p, v, hp, hb, ho, hn, _⟩ := h
  rcases hp with rfl | rfl
  · refine (ccr_new b w (by rw [Lib.cell_of_heap hb]; rfl) (by simp [World.shape?, hb]) (Lib.frozen_of_heap hb 1)).mono ?_
    rintro e w' ⟨rfl, rfl⟩
    exact ⟨rfl, (KF.refl B b w).put hB _ _, hB, v, by simp [World.setCell, Array.getElem?_modify, hb], own_put ho hn _ _, hn⟩
  · refine (ccr_used b w (by rw [Lib.cell_of_heap hb]; rfl)).mono ?_
    rintro e w' ⟨rfl, rfl⟩
    exact ⟨rfl, KF.refl _ _ _, hB, v, hb, ho, hn⟩

theorem enc_cells {r : Int} (h : RuneOk r) : Lib.runeCells r = u8s (encL r) := by unfold Lib.runeCells u8s; rw [encode_enc h]
theorem enc_pos (r : Int) : 1 ≤ (encL r).length := by unfold encL; repeat' split
                                                      all_goals simp
set_option maxHeartbeats 2000000 in
set_option maxRecDepth 100000 in
theorem wruner_any (B b : Nat) (a n d : Int) (zs : List Int) (r : Int) (hr : RuneOk r) (w : World) (h : RdF B b a n d zs w) (hlen : zs.length + 4 ≤ 140737488355328) (hBw : B ≤ w.heap.size) :
    Calls Tryz.prog 171 #[.pointer (some ⟨b, 1, none⟩), .int .i32 r] w fun e w' => (∃ k, e = .returned (.tuple #[.int .i64 k, .nilIface])) ∧ RdF B b a n d (zs ++ encL r) w' ∧ KF B b w w' := by
  have hcs := enc_cells hr
  have r0 : -2147483648 ≤ r := by have := hr.1; omega
  have r1 : r ≤ 2147483647 := by have := hr.2.1; omega
  have hp := enc_pos r
  go_enter Tryz.func171, Tryz.ntmps171
  go_wp2_with (go_at_call 90; refine (ccr_any B b a n d zs _ h).mono ?_)
  rintro e w1 ⟨rfl, hk1, hB, v, hbk, hown, hne⟩
  obtain ⟨ao, cap, rfl⟩ : ∃ ao cap, v = .slice ao zs.length cap := by
    rcases hown.2 with ⟨hv, h0⟩ | ⟨g, cap, cur, fz, hv, _⟩
    · exact ⟨none, 0, by rw [hv, h0]⟩
    · exact ⟨_, _, hv⟩
  have c1 : w1.cell? ⟨b, 1, none⟩ = some (.pointer (some ⟨b, 1, none⟩)) := by rw [Lib.cell_of_heap hbk]; rfl
  have c2 : w1.cell? ⟨b, 2, none⟩ = some (.slice ao zs.length cap) := by rw [Lib.cell_of_heap hbk]; rfl
  have hs1 := hk1.1.size
  go_wp2_with (go_at_call 185; refine (Tryz.utf8_AppendRune_row B _ zs.length (u8s zs) r r0 r1 _ hown hlen (by omega)).mono ?_)
  rintro e w2 ⟨v', rfl, hown', o, hgrow⟩
  have hlt : b < w1.heap.size := (Array.getElem?_eq_some_iff.1 hbk).1
  have hb2 : w2.heap[b]? = some (.cells #[.int .i64 a, .pointer (some ⟨b, 1, none⟩), .slice ao zs.length cap, .int .i32 n, .int .i64 d] 160 (0, 0)) := by
    rw [hgrow.block b (by simp; omega) (fun e => hne e.symm), Lib.alloc_old w1 _ b hlt]
    exact hbk
  rw [hcs, u8s_len, ← u8s_append] at hown'
  have d1 : w2.cell? ⟨b, 1, none⟩ = some (.pointer (some ⟨b, 1, none⟩)) := by rw [Lib.cell_of_heap hb2]; rfl
  have d2 : w2.cell? ⟨b, 2, none⟩ = some (.slice ao zs.length cap) := by rw [Lib.cell_of_heap hb2]; rfl
  have f2 : w2.frozen? ⟨b, 2, none⟩ = false := Lib.frozen_of_heap hb2 2
  have HO := Lib.hid hown'
  obtain ⟨g, cap', rfl⟩ : ∃ g cap', v' = .slice (some ⟨g, 0, none⟩) (zs.length + (encL r).length) cap' := by
    rcases hown'.2 with ⟨_, h0⟩ | ⟨g, cap', cur, fz, hv, _⟩
    · omega
    · exact ⟨g, cap', hv⟩
  have hne2 := Lib.ownBlock_neF hown' hb2 (by decide)
  clear hown'
  go_wp2
  go_ret2
  refine ⟨⟨_, rfl⟩, ⟨hB, _, _, Or.inr rfl, ?_, ?_, hne2, ?_⟩, ?_, ?_⟩
  · simp [World.setCell, Array.getElem?_modify, hb2]
  · rw [List.length_append]
    exact own_put HO.out hne2 _ _
  · intro e
    have := congrArg List.length e
    rw [List.length_append, List.length_nil] at this
    omega
  · exact ((hk1.1.alloc (by omega) _).grown hgrow (by simp; omega) (fun k hk => (hown.lt k hk).1)).setCell (p := ⟨b, 2, none⟩) hB _
  · exact ((hk1.2.alloc _).grown hgrow (Lib.ownsRowF_kind (hown.alloc _))).setCell ⟨b, 2, none⟩ rfl _

set_option maxHeartbeats 2000000 in
set_option maxRecDepth 100000 in
/-- What is read from a reader's builder. -/
theorem bstrr_any (B b : Nat) (a n d : Int) (zs : List Int) (hz : ∀ z ∈ zs, 0 ≤ z ∧ z ≤ 255) (w : World) (h : RdF B b a n d zs w) (_hBw : B ≤ w.heap.size) :
    Calls Tryz.prog 25 #[.pointer (some ⟨b, 1, none⟩)] w fun e w' => e = .returned (.string (strOfNums zs)) ∧ RdF B b a n d zs w' ∧ KF B b w w' := by
  obtain ⟨hB, p, v, hp, hb, ho, hn, h0⟩ := h
  by_cases he : zs = []
  · subst he
    obtain rfl := h0 rfl
    have c2 : w.drew.cell? ⟨b, 2, none⟩ = some (.slice none 0 0) := by
      have : w.drew.heap[b]? = some (.cells #[.int .i64 a, p, .slice none 0 0, .int .i32 n, .int .i64 d] 160 (0, 0)) := hb
      rw [Lib.cell_of_heap this]; rfl
    have hSD : (Builtin.unsafeSliceData_ #[41] 74 #[.slice none 0 0]).run Tryz.prog w.drew = .ok (.pointer none) w.drew := rfl
    have hUS := Lib.run_unsafeString_none (P := Tryz.prog) w.drew 74 3 9 none
    have hfin : RdF B b a n d [] w.drew := ⟨hB, p, _, hp, hb, ho, hn, h0⟩
    go_enter Tryz.func25, Tryz.ntmps25
    go_wp2
    go_region
    all_goals (go_wp2; go_ret; exact ⟨rfl, hfin, Below.drew (Below.refl B w), (Lib.OthersKept.refl _ _ w).drew⟩)
  · have hl0 : zs.length ≠ 0 := fun e => he (List.length_eq_zero_iff.mp e)
    obtain ⟨g, cap, cur, fz, rfl, hbg, hg, hfz, hnc, hcm, hcs, htake⟩ : ∃ g cap cur fz, v = .slice (some ⟨g, 0, none⟩) zs.length cap ∧ B ≤ g ∧ w.heap[g]? = some (.cells cur 5 fz) ∧ fz.2 ≤ zs.length * 1 ∧ zs.length ≤ cap ∧ cap ≤ maxLen ∧ cur.size = cap * 1 ∧ cur.toList.take (zs.length * 1) = u8s zs := by
      rcases ho.2 with ⟨_, hx⟩ | ⟨g, cap, cur, fz, hv, r⟩
      · exact absurd hx hl0
      · exact ⟨g, cap, cur, fz, hv, r⟩
    have c2 : w.drew.cell? ⟨b, 2, none⟩ = some (.slice (some ⟨g, 0, none⟩) zs.length cap) := by
      have : w.drew.heap[b]? = some (.cells #[.int .i64 a, p, .slice (some ⟨g, 0, none⟩) zs.length cap, .int .i32 n, .int .i64 d] 160 (0, 0)) := hb
      rw [Lib.cell_of_heap this]; rfl
    have hSD : (Builtin.unsafeSliceData_ #[41] 74 #[.slice (some ⟨g, 0, none⟩) zs.length cap]).run Tryz.prog w.drew = .ok (.pointer (some ⟨g, 0, none⟩)) w.drew :=
      Lib.run_unsafeSliceData_row _ _ _ _ _ _ (by omega)
    have hUS : (Builtin.unsafeString_ #[74, 3] 9 #[.pointer (some ⟨g, 0, none⟩), .int .i64 zs.length]).run Tryz.prog w.drew = .ok (.string (strOfNums zs)) (w.drew.freeze ⟨g, 0, none⟩ zs.length) := by
      have hl : ((zs.map fun z => UInt8.ofNat z.toNat).length : Nat) = zs.length := by simp
      have := Lib.run_unsafeString_row w.drew 74 3 9 5 Tryz.underlying74 (by kernel_rfl) g cur.size (by have hg' : w.drew.heap[g]? = some (.cells cur 5 fz) := hg; simp [World.shape?, hg']) (zs.map fun z => UInt8.ofNat z.toNat) (by simpa using he) (by rw [hl]; omega) (by rw [hl]; unfold maxLen at hcm; omega) (by
        intro j x hx
        rw [List.getElem?_map] at hx
        cases hj : zs[j]? with
        | none => rw [hj] at hx; cases hx
        | some z =>
          rw [hj] at hx
          obtain rfl : UInt8.ofNat z.toNat = x := by simpa using hx
          have hzz := hz z (List.mem_of_getElem? hj)
          have h5 := ho.cells (g := g) rfl j (.int .u8 z) (by simp [u8s, hj])
          have e : ((UInt8.ofNat z.toNat).toNat : Int) = z := by simp only [UInt8.toNat_ofNat']; omega
          rw [e]
          exact h5)
      rw [hl] at this
      exact this
    have hfin : RdF B b a n d zs (w.drew.freeze ⟨g, 0, none⟩ zs.length) := by
      have hgb : g ≠ b := fun e => hn (by simp [Value.ownBlock, e])
      refine ⟨hB, p, .slice (some ⟨g, 0, none⟩) zs.length cap, hp, ?_, ?_, hn, fun e => (he e).elim⟩
      · unfold World.freeze
        rw [if_neg hl0]
        simp only [Array.getElem?_modify]
        rw [if_neg hgb]
        exact hb
      · refine ⟨ho.1, Or.inr ⟨g, cap, cur, if fz.1 == fz.2 then (0, 0 + zs.length) else (min fz.1 0, max fz.2 (0 + zs.length)), rfl, hbg, ?_, ?_, hnc, hcm, hcs, htake⟩⟩
        · unfold World.freeze
          rw [if_neg hl0]
          obtain ⟨lo, hi⟩ := fz
          have hg' : w.drew.heap[g]? = some (.cells cur 5 (lo, hi)) := hg
          simp only [Array.getElem?_modify, hg']
          simp
        · split <;> simp <;> omega
    go_enter Tryz.func25, Tryz.ntmps25
    go_wp2
    go_region
    all_goals (go_wp2; go_ret; exact ⟨rfl, hfin, Lib.below_freeze (Below.drew (Below.refl B w)) (p := ⟨g, 0, none⟩) hbg _, ((Lib.OthersKept.refl _ _ w).drew).freeze ⟨g, 0, none⟩ _ ⟨cur, fz, hg⟩⟩)

end Go.Proofs.YtmgimkokmlcllaaGreatDoor

/-
  Package text's reader of quoted texts, rune by rune: its calls, walked.
-/
namespace Go.Proofs.YtmgimkokmlcllaaGreatDoor
open Go.RowKit

theorem encs_len (xs : List Int) : (xs.flatMap encL).length ≤ 4 * xs.length := by
  induction xs with
  | nil => simp
  | cons x xs ih =>
    have := encL_len x
    simp only [List.flatMap_cons, List.length_append, List.length_cons]
    omega
theorem encs_snoc (xs : List Int) (r : Int) : (xs ++ [r]).flatMap encL = xs.flatMap encL ++ encL r := by simp
theorem encs_byte {xs : List Int} (h : ∀ r ∈ xs, RuneOk r) : ∀ z ∈ xs.flatMap encL, 0 ≤ z ∧ z ≤ 255 := by
  intro z hz
  obtain ⟨r, hr, hz⟩ := List.mem_flatMap.mp hz
  exact encL_byte (h r hr).1 (h r hr).2.1 z hz

theorem ustep_norm (xs : List Int) (r : Int) : ustep (.norm xs) r = if r = 34 then .done xs else if r < 32 ∨ r = 127 then .dead else if r = 92 then .esc xs else .norm (xs ++ [r]) := rfl
theorem ustep_esc (xs : List Int) (r : Int) : ustep (.esc xs) r = if r = 34 ∨ r = 92 then .norm (xs ++ [r]) else if r = 110 then .norm (xs ++ [10]) else if r = 116 then .norm (xs ++ [9]) else if r = 117 then .uni xs else .dead := rfl

set_option maxRecDepth 100000 in
theorem rwrite_any (B b : Nat) (a n d : Int) (zs : List Int) (r : Int) (hr : RuneOk r) (w : World) (h : RdF B b a n d zs w) (hlen : zs.length + 4 ≤ 140737488355328) (hBw : B ≤ w.heap.size) :
    Calls Tryz.prog 172 #[.pointer (some ⟨b, 0, none⟩), .int .i32 r] w fun e w' => e = .returned (.tuple #[]) ∧ RdF B b 1 n d (zs ++ encL r) w' ∧ KF B b w w' := by
  have hB := Lib.hid h.hB
  have HW := Lib.hid (wruner_any B b a n d zs r hr w h hlen hBw)
  clear h hr
  go_enter Tryz.func172, Tryz.ntmps172
  go_wp2_with (go_at_call 171; (with_reducible refine HW.out.mono ?_); rintro e w1 ⟨⟨k, rfl⟩, h1, k1⟩; have H1 := Lib.hid h1; have K1 := Lib.hid k1; have hc := h1.cells; clear h1 k1; obtain ⟨c0, c3, c4, hf⟩ := hc; have f0 := hf 0; clear hf)
  go_end0
  exact ⟨rfl, H1.out.put0 1, K1.out.put hB.out _ _⟩

set_option maxRecDepth 100000 in
theorem radd_any (B b : Nat) (a n d : Int) (zs : List Int) (g : Int) (n0 : 0 ≤ n) (n1 : n ≤ 1048575) (g0 : 0 ≤ g) (g1 : g ≤ 15) (d0 : 0 ≤ d) (d1 : d ≤ 5) (w : World) (h : RdF B b a n d zs w) :
    Calls Tryz.prog 174 #[.pointer (some ⟨b, 0, none⟩), .int .i32 g] w fun e w' => e = .returned (.tuple #[]) ∧ RdF B b a (n * 16 + g) (d + 1) zs w' ∧ KF B b w w' := by
  have hB := Lib.hid h.hB
  have hw1 : IntKind.i32.wrap (n * 16) = n * 16 := by rw [IntKind.wrap_i32]; omega
  have hw2 : IntKind.i32.wrap (n * 16 + g) = n * 16 + g := by rw [IntKind.wrap_i32]; omega
  have hw3 : IntKind.i64.wrap (d + 1) = d + 1 := by rw [IntKind.wrap_i64]; omega
  have H1 := Lib.hid h
  have hc := h.cells
  clear h
  obtain ⟨c0, c3, c4, hf⟩ := hc
  have f3 := hf 3
  have f4 := hf 4
  have e4 : (w.setCell ⟨b, 3, none⟩ (.int .i32 (n * 16 + g))).cell? ⟨b, 4, none⟩ = some (.int .i64 d) := ((H1.out.put3 (n * 16 + g)).cells).2.2.1
  clear hf
  go_enter Tryz.func174, Tryz.ntmps174
  go_wp2
  go_end0
  exact ⟨rfl, (H1.out.put3 _).put4 _, ((KF.refl _ _ _).put hB.out _ _).put hB.out _ _⟩

def qxs : Qs → List Int
  | .start => [] | .norm xs => xs | .esc xs => xs | .uni xs => xs | .hex xs _ _ => xs | .done xs => xs | .dead => []
def qat : Qs → Int
  | .start => 0 | .norm _ => 1 | .esc _ => 2 | .uni _ => 3 | .hex _ _ _ => 4 | .done _ => 5 | .dead => 6
def qnum : Qs → Int → Int → Prop
  | .uni _, n, d => n = 0 ∧ d = 0
  | .hex _ k x, n, d => n = x ∧ d = k ∧ k ≤ 6 ∧ 0 ≤ x ∧ x < ((16 ^ k : Nat) : Int)
  | _, _, _ => True
structure RS (B b m : Nat) (u : Qs) (w : World) : Prop where
  ok : ∀ r ∈ qxs u, RuneOk r
  len : (qxs u).length ≤ m
  rd : ∃ n d, RdF B b (qat u) n d ((qxs u).flatMap encL) w ∧ qnum u n d
def TK (B b m : Nat) (u : Qs) (r : Int) (w : World) (e : Ending) (w' : World) : Prop :=
  KF B b w w' ∧ ((e = .returned (.bool true) ∧ ustep u r ≠ .dead ∧ RS B b (m + 1) (ustep u r) w') ∨ (e = .returned (.bool false) ∧ ustep u r = .dead))
theorem TK.no {B b m : Nat} {u : Qs} {r : Int} {w w' : World} (h : ustep u r = .dead) (k : KF B b w w') : TK B b m u r w (.returned (.bool false)) w' := ⟨k, Or.inr ⟨rfl, h⟩⟩
theorem TK.yes {B b m : Nat} {u v : Qs} {r : Int} {w w' : World} (h : ustep u r = v) (hv : v ≠ .dead) (g : RS B b (m + 1) v w') (k : KF B b w w') : TK B b m u r w (.returned (.bool true)) w' := ⟨k, Or.inl ⟨rfl, by rw [h]; exact hv, by rw [h]; exact g⟩⟩
theorem ok_snoc {xs : List Int} {r : Int} (h : ∀ r ∈ xs, RuneOk r) (hr : RuneOk r) : ∀ y ∈ xs ++ [r], RuneOk y := by
  intro y hy
  rcases List.mem_append.mp hy with hy | hy
  · exact h y hy
  · obtain rfl : y = r := by simpa using hy
    exact hr

set_option maxRecDepth 100000 in
set_option maxHeartbeats 2000000 in
theorem tbetween_any (B b m : Nat) (xs : List Int) (r : Int) (hr : RuneOk r) (w : World) (h : RS B b m (.norm xs) w) (hm : m ≤ 4294967296) (hBw : B ≤ w.heap.size) :
    Calls Tryz.prog 148 #[.pointer (some ⟨b, 0, none⟩), .int .i32 r] w (TK B b m (.norm xs) r w) := by
  obtain ⟨hok, hlen, n, d, hrd, _⟩ := h
  have HO := Lib.hid hok
  have HL := Lib.hid hlen
  have HR := Lib.hid hrd
  have hB := Lib.hid hrd.hB
  have hc := hrd.cells
  obtain ⟨c0, c3, c4, hf⟩ := hc
  have f0 := hf 0
  clear hok hlen hrd hf
  by_cases h34 : r = 34
  · subst h34
    go_enter Tryz.func148, Tryz.ntmps148
    go_wp2
    go_ret
    exact TK.yes (v := .done xs) (by rw [ustep_norm, if_pos rfl]) (by intro e; cases e) ⟨HO.out, Nat.le_succ_of_le HL.out, n, d, HR.out.put0 5, trivial⟩ ((KF.refl _ _ _).put hB.out _ _)
  · by_cases h92 : r = 92
    · subst h92
      go_enter Tryz.func148, Tryz.ntmps148
      go_wp2
      go_ret
      exact TK.yes (v := .esc xs) (by rw [ustep_norm, if_neg (by decide), if_neg (by decide), if_pos rfl]) (by intro e; cases e) ⟨HO.out, Nat.le_succ_of_le HL.out, n, d, HR.out.put0 2, trivial⟩ ((KF.refl _ _ _).put hB.out _ _)
    · have e34 : (r == 34) = false := by simpa using h34
      have e92 : (r == 92) = false := by simpa using h92
      by_cases hp : 32 ≤ r ∧ r ≠ 127
      · have hpl : plainB r = true := by unfold plainB; simp [hp.1, hp.2, h34, h92]
        have RP := Lib.hid (fun w => tplain_is hpl w)
        have hu : Hid (ustep (.norm xs) r = .norm (xs ++ [r])) := by unfold Hid; rw [ustep_norm, if_neg h34, if_neg (by omega), if_neg h92]
        have HW := Lib.hid (wruner_any B b 1 n d _ r hr w HR.out (by have := encs_len xs; have := HL.out; have e : (qxs (.norm xs)) = xs := rfl; rw [e] at this ⊢; omega) hBw)
        have HRr := Lib.hid hr
        clear hp hpl hr h34 h92
        go_enter Tryz.func148, Tryz.ntmps148
        go_wp2_with (first
          | (go_at_call 120; (with_reducible refine (RP.out _).mono ?_); rintro e w1 ⟨rfl, rfl⟩)
          | (go_at_call 171; (with_reducible refine HW.out.mono ?_); rintro e w1 ⟨⟨k, rfl⟩, h1, k1⟩; have H1 := Lib.hid h1; have K1 := Lib.hid k1; clear h1 k1))
        go_ret
        refine TK.yes hu.out (by intro e; cases e) ⟨ok_snoc HO.out HRr.out, ?_, n, d, ?_, trivial⟩ K1.out
        · have := HL.out
          show (xs ++ [r]).length ≤ m + 1
          rw [List.length_append]
          exact Nat.succ_le_succ this
        · show RdF B b 1 n d ((xs ++ [r]).flatMap encL) w1
          rw [encs_snoc]; exact H1.out
      · have hpl : plainB r = false := by
          unfold plainB
          simp only [Bool.and_eq_false_iff, decide_eq_false_iff_not]
          by_cases q : 32 ≤ r
          · exact Or.inl (Or.inl (Or.inr (fun e => hp ⟨q, e⟩)))
          · exact Or.inl (Or.inl (Or.inl q))
        have RP := Lib.hid (fun w => tplain_is hpl w)
        have hu : Hid (ustep (.norm xs) r = .dead) := by unfold Hid; rw [ustep_norm, if_neg h34, if_pos (by omega)]
        clear hp hpl hr h34 h92
        go_enter Tryz.func148, Tryz.ntmps148
        go_wp2_with (go_at_call 120; (with_reducible refine (RP.out _).mono ?_); rintro e w1 ⟨rfl, rfl⟩)
        go_ret
        exact TK.no hu.out (KF.refl _ _ _)

theorem RS.wrote {B b m : Nat} {xs : List Int} {r n d : Int} {w : World} (ho : ∀ r ∈ xs, RuneOk r) (hl : xs.length ≤ m) (hr : RuneOk r) (h : RdF B b 1 n d (xs.flatMap encL ++ encL r) w) : RS B b (m + 1) (.norm (xs ++ [r])) w := by
  refine ⟨ok_snoc ho hr, ?_, n, d, ?_, trivial⟩
  · show (xs ++ [r]).length ≤ m + 1
    rw [List.length_append]
    exact Nat.succ_le_succ hl
  · show RdF B b 1 n d ((xs ++ [r]).flatMap encL) w
    rw [encs_snoc]; exact h
theorem ok_low {r : Int} (h0 : 0 ≤ r) (h1 : r ≤ 127) : RuneOk r := ⟨h0, by omega, by omega⟩

set_option maxRecDepth 100000 in
set_option maxHeartbeats 2000000 in
theorem tescaped_any (B b m : Nat) (xs : List Int) (r : Int) (hr : RuneOk r) (w : World) (h : RS B b m (.esc xs) w) (hm : m ≤ 4294967296) (hBw : B ≤ w.heap.size) :
    Calls Tryz.prog 149 #[.pointer (some ⟨b, 0, none⟩), .int .i32 r] w (TK B b m (.esc xs) r w) := by
  obtain ⟨hok, hlen, n, d, hrd, _⟩ := h
  have hlen2 : xs.length ≤ m := hlen
  have HO := Lib.hid hok
  have HL := Lib.hid hlen2
  have HR := Lib.hid hrd
  have hB := Lib.hid hrd.hB
  have HW := Lib.hid (fun r hr => rwrite_any B b 2 n d (xs.flatMap encL) r hr w hrd (by have := encs_len xs; omega) hBw)
  clear hok hlen hlen2 hrd
  by_cases h34 : r = 34
  · subst h34
    go_enter Tryz.func149, Tryz.ntmps149
    go_wp2_with (go_at_call 172; (with_reducible refine (HW.out _ hr).mono ?_); rintro e w1 ⟨rfl, h1, k1⟩; have H1 := Lib.hid h1; have K1 := Lib.hid k1; clear h1 k1)
    go_ret
    exact TK.yes (v := .norm (xs ++ [34])) (by rw [ustep_esc, if_pos (Or.inl rfl)]) (by intro e; cases e) (RS.wrote HO.out HL.out hr H1.out) K1.out
  by_cases h92 : r = 92
  · subst h92
    go_enter Tryz.func149, Tryz.ntmps149
    go_wp2_with (go_at_call 172; (with_reducible refine (HW.out _ hr).mono ?_); rintro e w1 ⟨rfl, h1, k1⟩; have H1 := Lib.hid h1; have K1 := Lib.hid k1; clear h1 k1)
    go_ret
    exact TK.yes (v := .norm (xs ++ [92])) (by rw [ustep_esc, if_pos (Or.inr rfl)]) (by intro e; cases e) (RS.wrote HO.out HL.out hr H1.out) K1.out
  by_cases h110 : r = 110
  · subst h110
    have h10 := Lib.hid (ok_low (r := 10) (by decide) (by decide))
    go_enter Tryz.func149, Tryz.ntmps149
    go_wp2_with (go_at_call 172; (with_reducible refine (HW.out _ h10.out).mono ?_); rintro e w1 ⟨rfl, h1, k1⟩; have H1 := Lib.hid h1; have K1 := Lib.hid k1; clear h1 k1)
    go_ret
    exact TK.yes (v := .norm (xs ++ [10])) (by rw [ustep_esc, if_neg (by decide), if_pos rfl]) (by intro e; cases e) (RS.wrote HO.out HL.out h10.out H1.out) K1.out
  by_cases h116 : r = 116
  · subst h116
    have h9 := Lib.hid (ok_low (r := 9) (by decide) (by decide))
    go_enter Tryz.func149, Tryz.ntmps149
    go_wp2_with (go_at_call 172; (with_reducible refine (HW.out _ h9.out).mono ?_); rintro e w1 ⟨rfl, h1, k1⟩; have H1 := Lib.hid h1; have K1 := Lib.hid k1; clear h1 k1)
    go_ret
    exact TK.yes (v := .norm (xs ++ [9])) (by rw [ustep_esc, if_neg (by decide), if_neg (by decide), if_pos rfl]) (by intro e; cases e) (RS.wrote HO.out HL.out h9.out H1.out) K1.out
  by_cases h117 : r = 117
  · subst h117
    have g1 := HR.out.put0 3
    have g2 := g1.put3 0
    have g3 := Lib.hid (g2.put4 0)
    obtain ⟨c0, c3, c4, hf⟩ := HR.out.cells
    have f0 := hf 0
    have f3 := hf 3
    have f4 := hf 4
    have d3 := g1.cells.2.1
    have d4 := g2.cells.2.2.1
    clear g1 g2 hf HW
    go_enter Tryz.func149, Tryz.ntmps149
    go_wp2
    go_ret
    exact TK.yes (v := .uni xs) (by rw [ustep_esc, if_neg (by decide), if_neg (by decide), if_neg (by decide), if_pos rfl]) (by intro e; cases e) ⟨HO.out, Nat.le_succ_of_le HL.out, 0, 0, g3.out, ⟨rfl, rfl⟩⟩ ((((KF.refl _ _ _).put hB.out _ _).put hB.out _ _).put hB.out _ _)
  · have e1 : (r == 34) = false := by simpa using h34
    have e2 : (r == 92) = false := by simpa using h92
    have e3 : (r == 110) = false := by simpa using h110
    have e4 : (r == 116) = false := by simpa using h116
    have e5 : (r == 117) = false := by simpa using h117
    have hu : Hid (ustep (.esc xs) r = .dead) := by unfold Hid; rw [ustep_esc, if_neg (by omega), if_neg h110, if_neg h116, if_neg h117]
    clear h34 h92 h110 h116 h117 HW
    go_enter Tryz.func149, Tryz.ntmps149
    go_wp2
    go_ret
    exact TK.no hu.out (KF.refl _ _ _)

theorem pow16 {k : Nat} (h : k < 6) : ((16 ^ k : Nat) : Int) ≤ 1048576 := by
  have : k = 0 ∨ k = 1 ∨ k = 2 ∨ k = 3 ∨ k = 4 ∨ k = 5 := by omega
  rcases this with rfl | rfl | rfl | rfl | rfl | rfl <;> decide
theorem pow16_le {k : Nat} (h : k ≤ 6) : ((16 ^ k : Nat) : Int) ≤ 16777216 := by
  have : k = 0 ∨ k = 1 ∨ k = 2 ∨ k = 3 ∨ k = 4 ∨ k = 5 ∨ k = 6 := by omega
  rcases this with rfl | rfl | rfl | rfl | rfl | rfl | rfl <;> decide
theorem hexV_low {r : Int} (h : 48 ≤ r) (h2 : r ≤ 57) : hexV r = r - 48 := if_pos ⟨h, h2⟩
theorem hexV_let {r : Int} (h : 97 ≤ r) (h2 : r ≤ 102) : hexV r = r - 87 := by unfold hexV; rw [if_neg (by omega), if_pos ⟨h, h2⟩]
theorem hexV_no {r : Int} (h : ¬ (48 ≤ r ∧ r ≤ 57)) (h2 : ¬ (97 ≤ r ∧ r ≤ 102)) : hexV r = -1 := by unfold hexV; rw [if_neg h, if_neg h2]
theorem RS.digit {B b m : Nat} {xs : List Int} {k : Nat} {x g : Int} {w : World} (ho : ∀ r ∈ xs, RuneOk r) (hl : xs.length ≤ m) (hk : k < 6) (x0 : 0 ≤ x) (x1 : x < ((16 ^ k : Nat) : Int)) (g0 : 0 ≤ g) (g1 : g ≤ 15) (h : RdF B b 4 (x * 16 + g) ((k : Int) + 1) (xs.flatMap encL) w) : RS B b (m + 1) (.hex xs (k + 1) (16 * x + g)) w := by
  refine ⟨ho, Nat.le_succ_of_le hl, x * 16 + g, (k : Int) + 1, h, by omega, by omega, by omega, by omega, ?_⟩
  rw [Nat.pow_succ]
  omega

set_option maxRecDepth 100000 in
set_option maxHeartbeats 4000000 in
theorem tnumber_any (B b m : Nat) (xs : List Int) (k : Nat) (x r : Int) (w : World) (h : RS B b m (.hex xs k x) w) (hm : m ≤ 4294967296) (hBw : B ≤ w.heap.size) :
    Calls Tryz.prog 150 #[.pointer (some ⟨b, 0, none⟩), .int .i32 r] w (TK B b m (.hex xs k x) r w) := by
  obtain ⟨hok, hlen, n, d, hrd, hn, hd, k6, x0, x1⟩ := h
  subst hn
  subst hd
  have hlen2 : xs.length ≤ m := hlen
  have HO := Lib.hid hok
  have HL := Lib.hid hlen2
  have HR := Lib.hid hrd
  have hB := Lib.hid hrd.hB
  have HX := Lib.hid x1
  have hle := pow16_le k6
  have xle : n ≤ 16777215 := by omega
  obtain ⟨c0, c3, c4, hf⟩ := hrd.cells
  clear hok hlen hlen2 hrd hf x1 hle
  have HV := Lib.hid (Tryz.utf8_ValidRune n w)
  by_cases h125 : r = 125
  · subst h125
    by_cases hk0 : k = 0
    · subst hk0
      have hu : Hid (ustep (.hex xs 0 n) 125 = .dead) := by
        show (if 0 ≤ hexV 125 ∧ 0 < 6 then Qs.hex xs (0 + 1) (16 * n + hexV 125) else if 125 = 125 ∧ (0 : Nat) ≠ 0 ∧ n ≤ 1114111 ∧ ¬ (55296 ≤ n ∧ n < 57344) then .norm (xs ++ [n]) else .dead) = .dead
        rw [if_neg (by decide), if_neg (by omega)]
      clear HV
      go_enter Tryz.func150, Tryz.ntmps150
      go_wp2
      go_ret
      exact TK.no hu.out (KF.refl _ _ _)
    · have kpos : (0 : Int) < (k : Int) := by omega
      have khid := Lib.hid hk0
      clear hk0
      by_cases hv : n ≤ 1114111 ∧ ¬ (55296 ≤ n ∧ n < 57344)
      · have hval : Lib.validRune n = true := by unfold Lib.validRune; simp; omega
        rw [hval] at HV
        have hr := Lib.hid (show RuneOk n from ⟨x0, hv.1, hv.2⟩)
        have hu : Hid (ustep (.hex xs k n) 125 = .norm (xs ++ [n])) := by
          show (if 0 ≤ hexV 125 ∧ k < 6 then Qs.hex xs (k + 1) (16 * n + hexV 125) else if 125 = 125 ∧ k ≠ 0 ∧ n ≤ 1114111 ∧ ¬ (55296 ≤ n ∧ n < 57344) then .norm (xs ++ [n]) else .dead) = _
          rw [if_neg (fun e => absurd e.1 (by decide)), if_pos ⟨rfl, khid.out, hv.1, hv.2⟩]
        have HW := Lib.hid (rwrite_any B b 4 n k (xs.flatMap encL) n hr.out w HR.out (by have := encs_len xs; have := HL.out; omega) hBw)
        clear hv hval
        go_enter Tryz.func150, Tryz.ntmps150
        go_wp2_with (first
          | (go_at_call 173; (with_reducible refine HV.out.mono ?_); rintro e w1 ⟨rfl, rfl⟩)
          | (go_at_call 172; (with_reducible refine HW.out.mono ?_); rintro e w1 ⟨rfl, h1, k1⟩; have H1 := Lib.hid h1; have K1 := Lib.hid k1; clear h1 k1))
        go_ret
        exact TK.yes hu.out (by intro e; cases e) (RS.wrote HO.out HL.out hr.out H1.out) K1.out
      · have hval : Lib.validRune n = false := by unfold Lib.validRune; simp; omega
        rw [hval] at HV
        have hu : Hid (ustep (.hex xs k n) 125 = .dead) := by
          show (if 0 ≤ hexV 125 ∧ k < 6 then Qs.hex xs (k + 1) (16 * n + hexV 125) else if 125 = 125 ∧ k ≠ 0 ∧ n ≤ 1114111 ∧ ¬ (55296 ≤ n ∧ n < 57344) then .norm (xs ++ [n]) else .dead) = _
          rw [if_neg (fun e => absurd e.1 (by decide)), if_neg (fun e => hv e.2.2)]
        clear hv hval
        by_cases k66 : k = 6
        · subst k66
          go_enter Tryz.func150, Tryz.ntmps150
          go_wp2_with (go_at_call 173; (with_reducible refine HV.out.mono ?_); rintro e w1 ⟨rfl, rfl⟩)
          go_ret
          exact TK.no hu.out (KF.refl _ _ _)
        · have e6 : ((k : Int) == 6) = false := by simp; omega
          clear k66
          go_enter Tryz.func150, Tryz.ntmps150
          go_wp2_with (go_at_call 173; (with_reducible refine HV.out.mono ?_); rintro e w1 ⟨rfl, rfl⟩)
          go_ret
          exact TK.no hu.out (KF.refl _ _ _)
  · have e125 : (r == 125) = false := by simpa using h125
    clear HV
    by_cases k66 : k = 6
    · subst k66
      have hu : Hid (ustep (.hex xs 6 n) r = .dead) := by
        show (if 0 ≤ hexV r ∧ 6 < 6 then Qs.hex xs (6 + 1) (16 * n + hexV r) else if r = 125 ∧ (6 : Nat) ≠ 0 ∧ n ≤ 1114111 ∧ ¬ (55296 ≤ n ∧ n < 57344) then .norm (xs ++ [n]) else .dead) = _
        rw [if_neg (fun e => absurd e.2 (by decide)), if_neg (fun e => h125 e.1)]
      clear h125
      go_enter Tryz.func150, Tryz.ntmps150
      go_wp2
      go_ret
      exact TK.no hu.out (KF.refl _ _ _)
    · have hk : k < 6 := by omega
      have e6 : ((k : Int) == 6) = false := by simp; omega
      have n1 : n ≤ 1048575 := by have := pow16 hk; have := HX.out; omega
      have HK := Lib.hid hk
      have HN := Lib.hid x0
      have HA := Lib.hid (fun g g0 g1 => radd_any B b 4 n k (xs.flatMap encL) g x0 n1 g0 g1 (by omega) (by omega) w HR.out)
      clear k66 hk
      by_cases hd : 48 ≤ r ∧ r ≤ 57
      · obtain ⟨r0, r1⟩ := hd
        have hu : Hid (ustep (.hex xs k n) r = .hex xs (k + 1) (16 * n + (r - 48))) := by
          show (if 0 ≤ hexV r ∧ k < 6 then Qs.hex xs (k + 1) (16 * n + hexV r) else _) = _
          rw [hexV_low r0 r1, if_pos ⟨by omega, HK.out⟩]
        have hw : IntKind.i32.wrap (r - 48) = r - 48 := by rw [IntKind.wrap_i32]; omega
        have g0 : Hid (0 ≤ r - 48) := (by omega : 0 ≤ r - 48)
        have g1 : Hid (r - 48 ≤ 15) := (by omega : r - 48 ≤ 15)
        clear h125
        go_enter Tryz.func150, Tryz.ntmps150
        go_wp2_with (go_at_call 174; (with_reducible refine (HA.out _ g0.out g1.out).mono ?_); rintro e w1 ⟨rfl, h1, k1⟩; have H1 := Lib.hid h1; have K1 := Lib.hid k1; clear h1 k1)
        go_ret
        exact TK.yes hu.out (by intro e; cases e) (RS.digit HO.out HL.out HK.out HN.out HX.out g0.out g1.out H1.out) K1.out
      · by_cases ha : 97 ≤ r ∧ r ≤ 102
        · obtain ⟨r0, r1⟩ := ha
          have hu : Hid (ustep (.hex xs k n) r = .hex xs (k + 1) (16 * n + (r - 97 + 10))) := by
            show (if 0 ≤ hexV r ∧ k < 6 then Qs.hex xs (k + 1) (16 * n + hexV r) else _) = _
            rw [hexV_let r0 r1, if_pos ⟨by omega, HK.out⟩]
            congr 1; omega
          have hw : IntKind.i32.wrap (r - 97) = r - 97 := by rw [IntKind.wrap_i32]; omega
          have hw2 : IntKind.i32.wrap (r - 97 + 10) = r - 97 + 10 := by rw [IntKind.wrap_i32]; omega
          have d57 : decide (r ≤ 57) = false := by simp; omega
          have g0 : Hid (0 ≤ r - 97 + 10) := (by omega : 0 ≤ r - 97 + 10)
          have g1 : Hid (r - 97 + 10 ≤ 15) := (by omega : r - 97 + 10 ≤ 15)
          clear h125 hd
          go_enter Tryz.func150, Tryz.ntmps150
          go_wp2_with (go_at_call 174; (with_reducible refine (HA.out _ g0.out g1.out).mono ?_); rintro e w1 ⟨rfl, h1, k1⟩; have H1 := Lib.hid h1; have K1 := Lib.hid k1; clear h1 k1)
          go_ret
          exact TK.yes hu.out (by intro e; cases e) (RS.digit HO.out HL.out HK.out HN.out HX.out g0.out g1.out H1.out) K1.out
        · have hu : Hid (ustep (.hex xs k n) r = .dead) := by
            show (if 0 ≤ hexV r ∧ k < 6 then Qs.hex xs (k + 1) (16 * n + hexV r) else if r = 125 ∧ k ≠ 0 ∧ n ≤ 1114111 ∧ ¬ (55296 ≤ n ∧ n < 57344) then .norm (xs ++ [n]) else .dead) = _
            rw [hexV_no hd ha, if_neg (fun e => absurd e.1 (by decide)), if_neg (fun e => h125 e.1)]
          clear HA h125
          have hcs : r < 48 ∨ (57 < r ∧ r < 97) ∨ 102 < r := by omega
          clear hd ha
          rcases hcs with q | ⟨q, q2⟩ | q
          · have d1 : decide (r ≥ 48) = false := by simp; omega
            have d2 : decide (r ≥ 97) = false := by simp; omega
            clear q
            go_enter Tryz.func150, Tryz.ntmps150
            go_wp2
            go_ret
            exact TK.no hu.out (KF.refl _ _ _)
          · have d0 : decide (r ≥ 48) = true := by simp; omega
            have d1 : decide (r ≤ 57) = false := by simp; omega
            have d2 : decide (r ≥ 97) = false := by simp; omega
            clear q q2
            go_enter Tryz.func150, Tryz.ntmps150
            go_wp2
            go_ret
            exact TK.no hu.out (KF.refl _ _ _)
          · have d0 : decide (r ≥ 48) = true := by simp; omega
            have d1 : decide (r ≤ 57) = false := by simp; omega
            have d2 : decide (r ≥ 97) = true := by simp; omega
            have d3 : decide (r ≤ 102) = false := by simp; omega
            clear q
            go_enter Tryz.func150, Tryz.ntmps150
            go_wp2
            go_ret
            exact TK.no hu.out (KF.refl _ _ _)

end Go.Proofs.YtmgimkokmlcllaaGreatDoor

/-
  Package text's calls, walked: Unquote.
-/
namespace Go.Proofs.YtmgimkokmlcllaaGreatDoor
open Go.RowKit

theorem RS.iterAt {B b m : Nat} {u : Qs} {w : World} (h : RS B b m u w) {k : Nat} {s : ByteArray} {pos : Nat} (hk : w.heap[k]? = some (.stringIter s pos)) (pos' : Nat) : RS B b m u (w.iterAt k s pos') := by
  obtain ⟨ho, hl, n, d, hr, hn⟩ := h
  exact ⟨ho, hl, n, d, hr.iterAt hk pos', hn⟩
theorem RdF.below {B b : Nat} {a n d : Int} {zs : List Int} {w w' : World} (h : RdF B b a n d zs w) (g : Below w.heap.size w w') : RdF B b a n d zs w' := by
  have hlt := h.lt
  obtain ⟨hB, p, v, hp, hb, ho, hn, h0⟩ := h
  refine ⟨hB, p, v, hp, (g.block _ hlt).trans hb, ⟨ho.1, ?_⟩, hn, h0⟩
  rcases ho.2 with hx | ⟨x, cap, cur, fz, hv, hbg, hg, rest⟩
  · exact Or.inl hx
  · exact Or.inr ⟨x, cap, cur, fz, hv, hbg, (g.block _ (Array.getElem?_eq_some_iff.1 hg).1).trans hg, rest⟩
theorem RS.at {B b m : Nat} {u : Qs} {w : World} (h : RS B b m u w) : w.cell? ⟨b, 0, none⟩ = some (.int .i64 (qat u)) := by
  obtain ⟨_, _, n, d, hr, _⟩ := h
  exact hr.cells.1

set_option maxRecDepth 100000 in
set_option maxHeartbeats 2000000 in
theorem ttake_any (B b m : Nat) (u : Qs) (hu : u ≠ .dead) (r : Int) (hr : RuneOk r) (w : World) (h : RS B b m u w) (hm : m ≤ 4294967296) (hBw : B ≤ w.heap.size) :
    Calls Tryz.prog 129 #[.pointer (some ⟨b, 0, none⟩), .int .i32 r] w (TK B b m u r w) := by
  have c0 := h.at
  cases u with
  | dead => exact (hu rfl).elim
  | start =>
    clear hu
    obtain ⟨_, _, n, d, hrd, _⟩ := h
    have HR := Lib.hid hrd
    have hB := Lib.hid hrd.hB
    have f0 := hrd.cells.2.2.2 0
    clear hrd
    change w.cell? ⟨b, 0, none⟩ = some (.int .i64 0) at c0
    by_cases h34 : r = 34
    · subst h34
      go_enter Tryz.func129, Tryz.ntmps129
      go_wp2
      go_ret
      exact TK.yes (v := .norm []) rfl (by intro e; cases e) ⟨fun r hr => (by cases hr), Nat.zero_le _, n, d, HR.out.put0 1, trivial⟩ ((KF.refl _ _ _).put hB.out _ _)
    · have e34 : (r == 34) = false := by simpa using h34
      have hd : Hid (ustep .start r = .dead) := if_neg h34
      clear h34
      go_enter Tryz.func129, Tryz.ntmps129
      go_wp2
      go_ret
      exact TK.no hd.out ((KF.refl _ _ _).put hB.out _ _)
  | norm xs =>
    have HT := Lib.hid (tbetween_any B b m xs r hr w h hm hBw)
    clear hu h hr
    change w.cell? ⟨b, 0, none⟩ = some (.int .i64 1) at c0
    go_enter Tryz.func129, Tryz.ntmps129
    go_wp2_with (go_at_call 148; (with_reducible refine HT.out.mono ?_); rintro e w1 ⟨k1, ⟨rfl, h1, g1⟩ | ⟨rfl, h1⟩⟩ <;> (have K1 := Lib.hid k1; have H1 := Lib.hid h1; clear k1 h1))
    · have G1 := Lib.hid g1
      clear g1
      go_wp2
      go_ret
      exact ⟨K1.out, Or.inl ⟨rfl, H1.out, G1.out⟩⟩
    · go_wp2
      go_ret
      exact ⟨K1.out, Or.inr ⟨rfl, H1.out⟩⟩
  | esc xs =>
    have HT := Lib.hid (tescaped_any B b m xs r hr w h hm hBw)
    clear hu h hr
    change w.cell? ⟨b, 0, none⟩ = some (.int .i64 2) at c0
    go_enter Tryz.func129, Tryz.ntmps129
    go_wp2_with (go_at_call 149; (with_reducible refine HT.out.mono ?_); rintro e w1 ⟨k1, ⟨rfl, h1, g1⟩ | ⟨rfl, h1⟩⟩ <;> (have K1 := Lib.hid k1; have H1 := Lib.hid h1; clear k1 h1))
    · have G1 := Lib.hid g1
      clear g1
      go_wp2
      go_ret
      exact ⟨K1.out, Or.inl ⟨rfl, H1.out, G1.out⟩⟩
    · go_wp2
      go_ret
      exact ⟨K1.out, Or.inr ⟨rfl, H1.out⟩⟩
  | uni xs =>
    obtain ⟨ho, hl, n, d, hrd, hn, hd⟩ := h
    subst hn
    subst hd
    have HO := Lib.hid ho
    have HL := Lib.hid hl
    have HR := Lib.hid hrd
    have hB := Lib.hid hrd.hB
    have f0 := hrd.cells.2.2.2 0
    clear hrd ho hl hu
    change w.cell? ⟨b, 0, none⟩ = some (.int .i64 3) at c0
    by_cases h123 : r = 123
    · subst h123
      go_enter Tryz.func129, Tryz.ntmps129
      go_wp2
      go_ret
      exact TK.yes (v := .hex xs 0 0) rfl (by intro e; cases e) ⟨HO.out, Nat.le_succ_of_le HL.out, 0, 0, HR.out.put0 4, rfl, rfl, by omega, by omega, by decide⟩ ((KF.refl _ _ _).put hB.out _ _)
    · have e123 : (r == 123) = false := by simpa using h123
      have hd : Hid (ustep (.uni xs) r = .dead) := if_neg h123
      clear h123
      go_enter Tryz.func129, Tryz.ntmps129
      go_wp2
      go_ret
      exact TK.no hd.out ((KF.refl _ _ _).put hB.out _ _)
  | hex xs k x =>
    have HT := Lib.hid (tnumber_any B b m xs k x r w h hm hBw)
    clear hu h hr
    change w.cell? ⟨b, 0, none⟩ = some (.int .i64 4) at c0
    go_enter Tryz.func129, Tryz.ntmps129
    go_wp2_with (go_at_call 150; (with_reducible refine HT.out.mono ?_); rintro e w1 ⟨k1, ⟨rfl, h1, g1⟩ | ⟨rfl, h1⟩⟩ <;> (have K1 := Lib.hid k1; have H1 := Lib.hid h1; clear k1 h1))
    · have G1 := Lib.hid g1
      clear g1
      go_wp2
      go_ret
      exact ⟨K1.out, Or.inl ⟨rfl, H1.out, G1.out⟩⟩
    · go_wp2
      go_ret
      exact ⟨K1.out, Or.inr ⟨rfl, H1.out⟩⟩
  | done xs =>
    clear hu h
    change w.cell? ⟨b, 0, none⟩ = some (.int .i64 5) at c0
    go_enter Tryz.func129, Tryz.ntmps129
    go_wp2
    go_ret
    exact TK.no rfl (KF.refl _ _ _)

theorem runes_encs {xs : List Int} (h : ∀ r ∈ xs, RuneOk r) : runesOf (xs.flatMap encL) = xs := by
  induction xs with
  | nil => exact runes_nil
  | cons x xs ih =>
    rw [List.flatMap_cons, runes_enc (h x (by simp)), ih (fun r hr => h r (by simp [hr]))]
theorem qat_five {u : Qs} (h : ∀ xs, u ≠ .done xs) : (qat u != 5) = true := by
  cases u with
  | done xs => exact (h xs rfl).elim
  | _ => rfl

set_option maxRecDepth 100000 in
set_option maxHeartbeats 8000000 in
theorem tunq_any (s : ByteArray) (w : World) (env : Env w) (hm : s.size ≤ 4294967296) : Calls Tryz.prog 110 #[.string s] w (GivesUnq (runesOf (nums s)) w) := by
  have hlen : Hid ((nums s).length = s.size) := nums_length s
  by_cases hg : GoodL (runesOf (nums s))
  case neg =>
    have RG := Lib.hid (tgood_no env hm hg)
    have hbad := Lib.hid (NoQ.bad hg)
    clear hg
    go_enter Tryz.func110, Tryz.ntmps110
    go_wp2_with (go_at_call 95; (with_reducible refine RG.out.mono ?_); rintro e w1 ⟨rfl, g⟩; have G := Lib.hid g; clear g)
    go_ret2
    exact GivesUnq.word hbad.out G.out
  case pos =>
    have RG := Lib.hid (tgood_yes env hm hg)
    have HOK := Lib.hid (good_ok hg)
    have hll := runes_len (nums s)
    rw [hlen.out] at hll
    clear hg
    obtain ⟨l, hl⟩ : ∃ l, runesOf (nums s) = l := ⟨_, rfl⟩
    rw [hl] at HOK hll ⊢
    have HL := Lib.hid hl
    have HLL := Lib.hid hll
    have HE := Lib.hid env
    clear hl hll env
    go_enter Tryz.func110, Tryz.ntmps110
    go_wp2_with (go_at_call 95; (with_reducible refine RG.out.mono ?_); rintro e w1 ⟨rfl, g⟩; have G := Lib.hid g; clear g)
    obtain ⟨B, hBd⟩ : ∃ B, w.heap.size = B := ⟨_, rfl⟩
    obtain ⟨b, hbd⟩ : ∃ b, w1.heap.size = b := ⟨_, rfl⟩
    have hBb : B ≤ b := by have := G.out.size; omega
    have N1 := RdF.new w1 B b hbd.symm hBb
    have B1 : Below B w (w1.alloc (.cells #[.int .i64 0, .pointer none, .slice none 0 0, .int .i32 0, .int .i64 0] 160)) := by rw [← hBd]; exact below_more G.out _
    have S1 : (w1.alloc (.cells #[.int .i64 0, .pointer none, .slice none 0 0, .int .i32 0, .int .i64 0] 160)).heap.size = b + 1 := by rw [← hbd]; simp
    rw [hbd]
    generalize w1.alloc (.cells #[.int .i64 0, .pointer none, .slice none 0 0, .int .i32 0, .int .i64 0] 160) = w2 at N1 B1 S1 ⊢
    have N2 := Lib.hid (N1.alloc (.stringIter s 0))
    have B2 : Hid (Below B w (w2.iter s 0)) := B1.alloc (by omega) _
    have I2 : Hid ((w2.iter s 0).heap[b + 1]? = some (.stringIter s 0)) := by have := World.iter_heap w2 s 0; rw [S1] at this; exact this
    change Hid (RdF B b 0 0 0 [] (w2.iter s 0)) at N2
    generalize w2.iter s 0 = w3 at N2 B2 I2 ⊢
    have HBb := Lib.hid hBb
    have HBd := Lib.hid hBd
    clear N1 B1 S1 hBb hBd hbd G
    obtain ⟨I, hI⟩ : ∃ I, b + 1 = I := ⟨_, rfl⟩
    rw [hI] at I2 ⊢
    have hIb : Hid (I ≠ b) := (by omega : I ≠ b)
    have hBI : Hid (B ≤ I) := by have := HBb.out; unfold Hid; omega
    clear hI
    go_loopw [] (fun wr => ∃ (pos i : Nat) (u : Qs), u ≠ .dead ∧ pos ≤ s.size ∧ rfrom (nums s) pos = l.drop i ∧ i ≤ l.length ∧ ut l i = u ∧ RS B b i u wr ∧ wr.heap[I]? = some (.stringIter s pos) ∧ Below B w wr) (fun wr => s.size - wr.iterPos I)
    case atStart => exact ⟨0, 0, .start, (by intro e; cases e), Nat.zero_le _, HL.out, Nat.zero_le _, rfl, ⟨fun r hr => (by cases hr), Nat.zero_le _, 0, 0, N2.out, trivial⟩, I2.out, B2.out⟩
    case round =>
      obtain ⟨pos, i, u, hu, hp, hr, hil, hut, hS, hk, hb⟩ := hrel
      have HU := Lib.hid hu
      have HUT := Lib.hid hut
      have HR := Lib.hid hr
      have HB0 := Lib.hid hb
      clear hu hut hr hb
      by_cases h1 : pos < s.size
      · obtain ⟨y, hnx, y0, y1, ht⟩ := txt_rune wr I s pos hk h1
        have hR : rfrom (nums s) pos = runeA (nums s) pos :: rfrom (nums s) (pos + widA (nums s) pos) := rfrom_in (by rw [hlen.out]; exact h1)
        obtain ⟨hi0, hz, hr2⟩ := drop_cons (HR.out.symm.trans hR)
        have hmem : l.getD i 0 ∈ l := by rw [List.getD_eq_getElem?_getD, List.getElem?_eq_getElem hi0]; exact List.getElem_mem hi0
        have hok : RuneOk y := by
          rcases ht with ⟨e1, _⟩ | ⟨_, e2⟩
          · have := (HOK.out _ hmem).1; rw [hz, e1] at this; omega
          · rw [e2, ← hz]; exact HOK.out _ hmem
        have hzy : l.getD i 0 = y := by
          rcases ht with ⟨e1, _⟩ | ⟨_, e2⟩
          · have := (HOK.out _ hmem).1; rw [hz, e1] at this; omega
          · rw [e2, ← hz]
        have HZ := Lib.hid hzy
        have HRO := Lib.hid hok
        have HR2 := Lib.hid hr2.symm
        have hwid := Lib.hid (widA_pos (nums s) pos)
        have hwin := Lib.hid (widA_in (zs := nums s) (i := pos) (by rw [hlen.out]; exact h1))
        have HB := Lib.hid (Lib.below_iterAt HB0.out hBI.out s (pos + widA (nums s) pos))
        have hk2 := Lib.hid (Lib.iterAt_heap wr I s pos (pos + widA (nums s) pos) hk)
        have hk0 := Lib.hid hk
        have HS := Lib.hid (hS.iterAt hk (pos + widA (nums s) pos))
        have hi : Hid (i < l.length) := hi0
        clear ht hz hr2 hR hi0 hk hS hzy hok hmem
        obtain ⟨p2, hp2⟩ : ∃ p, pos + widA (nums s) pos = p := ⟨_, rfl⟩
        rw [hp2] at hnx HB hk2 HR2 hwin HS
        have hlt : Hid (pos < p2) := by have := hwid.out; unfold Hid; omega
        have hle : Hid (p2 ≤ s.size) := by have := hwin.out; rw [hlen.out] at this; exact this
        clear hp2 hwid hwin
        generalize wr.iterAt I s p2 = W1 at hnx HB hk2 HS
        have HT := Lib.hid (ttake_any B b i u HU.out y HRO.out W1 HS.out (by have := HLL.out; omega) (by have := HB.out.size; have := HBd.out; omega))
        have hnext := Lib.hid (ut_next HUT.out hi.out HZ.out)
        go_wp2_with (go_at_call 129; (with_reducible refine HT.out.mono ?_); rintro e w4 ⟨k1, ⟨rfl, h1', g1⟩ | ⟨rfl, h1'⟩⟩ <;> (have K1 := Lib.hid k1; have H1 := Lib.hid h1'; clear k1 h1'))
        · have G1 := Lib.hid g1
          clear g1
          have hk4 := Lib.hid (Lib.OthersKept.iter K1.out.2 hk2.out hIb.out)
          go_wp2
          go_roundw
          case rel => exact ⟨p2, i + 1, ustep u y, H1.out, hle.out, HR2.out, hi.out, hnext.out, G1.out, hk4.out, HB.out.trans K1.out.1⟩
          case measure => rw [iterPos_of hk4.out, iterPos_of hk0.out]; have := hlt.out; have := hle.out; omega
        · go_wp2
          go_ret2
          exact GivesUnq.word (NoQ.dead (hnext.out.trans H1.out)) (HBd.out ▸ HB.out.trans K1.out.1)
      · have hend : i = l.length := by
          have h5 := HR.out
          rw [rfrom_out (by rw [hlen.out]; exact h1)] at h5
          have h6 := congrArg List.length h5
          rw [List.length_drop] at h6
          simp at h6; omega
        have hnx := fun ty => Lib.run_next_end_at (P := Tryz.prog) wr I s pos ty hk h1
        have c0 := hS.at
        by_cases hdone : ∃ xs, u = .done xs
        · obtain ⟨xs, rfl⟩ := hdone
          have hfin : Hid (uf l = .done xs) := by rw [← ut_all, ← hend]; exact HUT.out
          obtain ⟨ho, hlx, n, d, hrd, _⟩ := hS
          change (∀ r ∈ xs, RuneOk r) at ho
          change xs.length ≤ i at hlx
          change RdF B b 5 n d (xs.flatMap encL) wr at hrd
          change wr.cell? ⟨b, 0, none⟩ = some (.int .i64 5) at c0
          have hbyte := encs_byte ho
          have HST := Lib.hid (fun w' (h : RdF B b 5 n d (xs.flatMap encL) w') (g : Below B w w') => bstrr_any B b 5 n d (xs.flatMap encL) hbyte w' h (by have := g.size; have := HBd.out; omega))
          have hsz : (strOfNums (xs.flatMap encL)).size ≤ 1099511627776 := by rw [str_size]; have := encs_len xs; have := HLL.out; omega
          have HC := Lib.hid (fun w' => tcount_big (strOfNums (xs.flatMap encL)) w' hsz)
          rw [nums_strOfNums _ hbyte, runes_encs ho] at HC
          have HRD := Lib.hid hrd
          clear hsz hbyte hrd hk hend ho hlx
          by_cases h120 : 120 < xs.length
          · have h120z : Hid (120 < xs.length) := h120
            have h120i : (120 : Int) < (xs.length : Int) := by omega
            clear h120
            go_wp2_with (first
              | (go_at_call 25; (with_reducible refine (HST.out _ HRD.out HB0.out).mono ?_); rintro e w4 ⟨rfl, h4, k4⟩; have H4 := Lib.hid h4; have K4 := Lib.hid k4; clear h4 k4)
              | (go_at_call 96; (with_reducible refine (HC.out _).mono ?_); rintro e w5 ⟨rfl, g5⟩; have G5 := Lib.hid g5; clear g5))
            go_ret2
            exact GivesUnq.long hfin.out h120z.out (HBd.out ▸ (HB0.out.trans K4.out.1).trans (G5.out.mono (by have := (HB0.out.trans K4.out.1).size; have := HBd.out; omega)))
          · have h120z : Hid (xs.length ≤ 120) := (by omega : xs.length ≤ 120)
            have h120i : ¬ (120 : Int) < (xs.length : Int) := by omega
            clear h120
            go_wp2_with (first
              | (go_at_call 25; (with_reducible refine (HST.out _ HRD.out HB0.out).mono ?_); rintro e w4 ⟨rfl, h4, k4⟩; have H4 := Lib.hid h4; have K4 := Lib.hid k4; have B4 := Lib.hid (HB0.out.trans K4.out.1); clear h4 k4 HRD)
              | (go_at_call 96; (with_reducible refine (HC.out _).mono ?_); rintro e w5 ⟨rfl, g5⟩; have H5 := Lib.hid (H4.out.below g5); have B5 := Lib.hid (B4.out.trans (g5.mono (by have := B4.out.size; have := HBd.out; omega))); clear g5 H4 B4 K4)
              | (go_at_call 25; (with_reducible refine (HST.out _ H5.out B5.out).mono ?_); rintro e w6 ⟨rfl, h6, k6⟩; have B6 := Lib.hid (B5.out.trans k6.1); clear h6 k6))
            go_ret2
            exact GivesUnq.fine hfin.out h120z.out (HBd.out ▸ B6.out)
        · have hno : Hid (NoQ l) := NoQ.over HUT.out hend (fun xs e => hdone ⟨xs, e⟩)
          have hne := qat_five (u := u) (fun xs e => hdone ⟨xs, e⟩)
          generalize qat u = q at c0 hne
          clear hdone hend hk hS
          go_wp2
          go_ret2
          exact GivesUnq.word hno.out (HBd.out ▸ HB0.out)

end Go.Proofs.YtmgimkokmlcllaaGreatDoor

/-
  strconv.FormatInt at base 16, of numbers below 256, by their digits of sixteen.
-/
namespace Go.Proofs.YtmgimkokmlcllaaGreatDoor
open Go.RowKit

theorem tz64_sixteen (w : World) (env : EnvQ w) : Calls Tryz.prog 184 #[.int .u64 16] w fun e w' => e = .returned (.int .i64 4) ∧ w = w' := by
  have h4 := env.deb.four
  have hx : IntKind.u64.wrap (bits .and .u64 16 (IntKind.u64.wrap (-16)) * 285870213051353865) / 288230376151711744 = 15 := by decide +kernel
  clear env
  go_enter Tryz.func184, Tryz.ntmps184
  go_wp2
  go_ret
  exact ⟨rfl, rfl⟩
theorem tz_sixteen (w : World) (env : EnvQ w) : Calls Tryz.prog 170 #[.int .u64 16] w fun e w' => e = .returned (.int .i64 4) ∧ w = w' := by
  have H := Lib.hid (tz64_sixteen w env)
  clear env
  go_enter Tryz.func170, Tryz.ntmps170
  go_wp2_with (go_at_call 184; (with_reducible refine H.out.mono ?_); rintro e w1 ⟨rfl, rfl⟩)
  go_ret
  exact ⟨rfl, rfl⟩
theorem pow2_sixteen (w : World) : Calls Tryz.prog 169 #[.int .i64 16] w fun e w' => e = .returned (.bool true) ∧ w = w' := by
  go_enter Tryz.func169, Tryz.ntmps169
  go_wp2
  go_ret
  exact ⟨rfl, rfl⟩

structure HxM (w wr : World) (b f : Nat) (xs : List Int) : Prop where
  row : ∀ i, i < 65 → ∃ v, wr.cell? ⟨b, i, none⟩ = some v
  free : ∀ i, i < 65 → wr.frozen? ⟨b, i, none⟩ = false
  got : ∀ i, i < xs.length → wr.cell? ⟨b, f + i, none⟩ = some (.int .u8 (xs.getD i 0))
  bel : Below w.heap.size w wr
  new : w.heap.size ≤ b
theorem HxM.put {w W : World} {b f : Nat} {d : Int} {xs : List Int} (h : HxM w W b f xs) (hf : 0 < f) (hf' : f ≤ 65) (g : Nat) (hg : g = f - 1) : HxM w (W.setCell ⟨b, g, none⟩ (.int .u8 d)) b g (d :: xs) := by
  subst hg
  obtain ⟨row, free, got, bel, new⟩ := h
  obtain ⟨v, hv⟩ := row (f - 1) (by omega)
  refine ⟨?_, fun i hi => by rw [World.frozen?_setCell]; exact free i hi, ?_, bel.setCell new _, new⟩
  · intro i hi
    by_cases he : i = f - 1
    · subst he; exact ⟨_, World.cell?_setCell_same _ _ _ hv⟩
    · rw [World.cell?_setCell_other _ _ _ _ (by intro e; injection e with _ e2; omega)]; exact row i hi
  · intro i hi
    rcases i with _ | i
    · exact World.cell?_setCell_same _ _ _ hv
    · rw [World.cell?_setCell_other _ _ _ _ (by intro e; injection e with _ e2; omega), show f - 1 + (i + 1) = f + i by omega]
      simpa using got i (by simpa using hi)
theorem hx_slice (W : World) (b f n : Nat) (hf : n + f = 65) (h0 : f < 65) :
    (Instr.sliceAt 197 (.pointer (some ⟨b, 0, none⟩)) (some (.int .i64 (f : Int))) none none).run Tryz.prog W = .ok (.slice (some ⟨b, f, none⟩) n n) W := by
  have hl : Tryz.prog.arrayLen 197 = 65 := by kernel_rfl
  have := run_sliceAt_array_l (P := Tryz.prog) W 197 ⟨b, 0, none⟩ (by kernel_rfl) .i64 (f : Int) (by omega) (by rw [hl]; omega)
  rw [this, hl]
  have hs : (sizeOf (Tryz.prog.elem 197)).run Tryz.prog W = .ok 1 W := by kernel_rfl
  rw [hs]
  simp only [Result.andThen, slicedAt, Int.toNat_natCast, Nat.mul_one]
  rw [if_neg (by omega), show 65 - f = n by omega]
  rcases f with _ | f <;> simp [Addr.add]
theorem and15 : ∀ X : Fin 256, bits .and .u64 ((X.val : Nat) : Int) 15 = ((X.val % 16 : Nat) : Int) := by decide +kernel
theorem hx_digit (k : Nat) (h : k < 16) (W : World) : (Instr.index 9 (.string ⟨#[48, 49, 50, 51, 52, 53, 54, 55, 56, 57, 97, 98, 99, 100, 101, 102, 103, 104, 105, 106, 107, 108, 109, 110, 111, 112, 113, 114, 115, 116, 117, 118, 119, 120, 121, 122]⟩) (.int .u64 (k : Int))).run Tryz.prog W = .ok (.int .u8 (hexD k)) W := by
  have : k = 0 ∨ k = 1 ∨ k = 2 ∨ k = 3 ∨ k = 4 ∨ k = 5 ∨ k = 6 ∨ k = 7 ∨ k = 8 ∨ k = 9 ∨ k = 10 ∨ k = 11 ∨ k = 12 ∨ k = 13 ∨ k = 14 ∨ k = 15 := by omega
  rcases this with rfl | rfl | rfl | rfl | rfl | rfl | rfl | rfl | rfl | rfl | rfl | rfl | rfl | rfl | rfl | rfl <;> (show _ = _; kernel_rfl)

theorem cell_new_at' (W : World) (C : Array Value) (t : TypeId) (g j : Nat) (hg : g = W.heap.size) (hj : j < C.size) : ∃ v, (W.alloc (.cells C t)).cell? ⟨g, j, none⟩ = some v := by
  subst hg
  exact ⟨C[j], by rw [World.cell?_alloc_mark]; exact Array.getElem?_eq_getElem hj⟩
set_option maxRecDepth 100000 in
set_option maxHeartbeats 4000000 in
theorem fbits_any (N : Nat) (hN : N < 256) (w : World) (env : EnvQ w) :
    Calls Tryz.prog 147 #[.slice none 0 0, .int .u64 (N : Int), .int .i64 16, .bool false, .bool false] w fun e w' => e = .returned (.tuple #[.slice none 0 0, .string (strOfNums (hexL N))]) ∧ Below w.heap.size w w' := by
  have HE := Lib.hid env
  have HP := Lib.hid (fun w => pow2_sixteen w)
  clear env
  go_enter Tryz.func147, Tryz.ntmps147
  go_wp2_with (first
    | (go_at_call 169; (with_reducible refine (HP.out _).mono ?_); rintro e w1 ⟨rfl, rfl⟩)
    | (go_at_call 170; (with_reducible refine (tz_sixteen _ (HE.out.step (below_more (Below.refl _ _) _))).mono ?_); rintro e w1 ⟨rfl, rfl⟩))
  obtain ⟨b, hb⟩ : ∃ b, w.heap.size = b := ⟨_, rfl⟩
  go_loopw [1, 13] (fun v1 v13 wr => ∃ (f m : Nat) (xs : List Int), v1 = .int .u64 (m : Int) ∧ v13 = .int .i64 (f : Int) ∧ hexL N = hexL m ++ xs ∧ xs.length + f = 65 ∧ ((f = 65 ∧ m < 256) ∨ (f = 64 ∧ m < 16)) ∧ HxM w wr b f xs) (fun v1 _ _ => (intOf v1).toNat)
  case atStart =>
    refine ⟨65, N, [], rfl, rfl, by simp, rfl, Or.inl ⟨rfl, hN⟩, ?_, ?_, ?_, ?_, by omega⟩
    · intro i hi; exact cell_new_at' _ _ _ _ _ hb.symm (by simpa using hi)
    · intro i hi; subst hb; simp [go_sem]
    · intro i hi; simp at hi
    · exact (Below.refl _ _).alloc (Nat.le_refl _) _
  case round =>
    obtain ⟨f, m, xs, rfl, rfl, hx, hl, hc, hM⟩ := hrel
    have HX := Lib.hid hx
    have HL := Lib.hid hl
    have HM := Lib.hid hM
    have hf0 : Hid (0 < f ∧ f ≤ 65) := by unfold Hid; omega
    obtain ⟨v, hv⟩ := hM.row (f - 1) (by omega)
    have hv' := hM.free (f - 1) (by omega)
    have hf1 : (f : Int) - 1 = ((f - 1 : Nat) : Int) := by omega
    obtain ⟨g, hg⟩ : ∃ g, f - 1 = g := ⟨_, rfl⟩
    rw [hg] at hv hv' hf1
    have HG := Lib.hid hg
    have hg65 : g < 65 := by omega
    have hm256 : m < 256 := by omega
    clear hx hl hM hg
    by_cases h16 : m < 16
    · clear hc
      have hd := hx_digit m h16
      have hlt : ¬ (m : Int) ≥ 16 := by omega
      have hn : (xs.length + 1) + g = 65 := by have := HL.out; have := HG.out; have := hf0.out; omega
      have hsl := fun W => hx_slice W b g (xs.length + 1) hn hg65
      have M1 := Lib.hid (HM.out.put (d := hexD m) hf0.out.1 hf0.out.2 g HG.out.symm)
      have hcv : (convert 41 9 (.slice (some ⟨b, g, none⟩) (xs.length + 1) (xs.length + 1))).run Tryz.prog (wr.setCell ⟨b, g, none⟩ (.int .u8 (hexD m))) = .ok (.string (strOfNums (hexD m :: xs))) (wr.setCell ⟨b, g, none⟩ (.int .u8 (hexD m))) :=
        run_convert_bytes_arg _ 41 5 Tryz.underlying41 Tryz.underlying5 _ _ _ _ (hexD m :: xs) rfl (fun i hi => M1.out.got i (by simpa using hi)) 9 Tryz.underlying9
      have hfin : Hid (strOfNums (hexD m :: xs) = strOfNums (hexL N)) := by unfold Hid; rw [HX.out, hexL_small h16]; rfl
      generalize strOfNums (hexD m :: xs) = R at hcv hfin
      clear hn
      go_wp2
      go_ret2
      exact ⟨by rw [← hfin.out]; rfl, by have := M1.out.bel; rw [hb] at this; exact this⟩
    · have hf65 : f = 65 := by omega
      obtain ⟨k, hk⟩ : ∃ k, m % 16 = k := ⟨_, rfl⟩
      obtain ⟨q, hq⟩ : ∃ q, m / 16 = q := ⟨_, rfl⟩
      have hd := hx_digit k (by omega)
      have ha : bits .and .u64 (m : Int) 15 = (k : Int) := by rw [← hk]; exact and15 ⟨m, hm256⟩
      have hge : (m : Int) ≥ 16 := by omega
      have hsh : Hid ((m : Int) / 16 = (q : Int)) := (by omega : (m : Int) / 16 = (q : Int))
      have M1 := Lib.hid (HM.out.put (d := hexD k) hf0.out.1 hf0.out.2 g HG.out.symm)
      have h16m : Hid (16 ≤ m) := (by omega : 16 ≤ m)
      have hq16 : Hid (q < 16) := (by omega : q < 16)
      have hqm : Hid (q < m) := (by omega : q < m)
      have h65 := Lib.hid hf65
      have HK := Lib.hid hk
      have HQ := Lib.hid hq
      clear h16 hf65 hc hk hq
      go_wp2
      go_roundw
      case rel =>
        refine ⟨g, q, hexD k :: xs, by rw [hsh.out], rfl, ?_, ?_, Or.inr ⟨?_, hq16.out⟩, M1.out⟩
        · rw [HX.out, hexL_big (by have := h16m.out; omega), List.append_assoc, HQ.out, HK.out]; rfl
        · have := HL.out; have := HG.out; have := hf0.out; rw [List.length_cons]; omega
        · have := h65.out; have := HG.out; omega
      case measure => simp [intOf]; have := h16m.out; omega

theorem fint16_any (N : Nat) (hN : N < 256) (w : World) (env : EnvQ w) :
    Calls Tryz.prog 104 #[.int .i64 (N : Int), .int .i64 16] w fun e w' => e = .returned (.string (strOfNums (hexL N))) ∧ Below w.heap.size w w' := by
  have HI : Calls Tryz.prog 126 #[.int .i64 (N : Int), .int .i64 16] w fun e w' => e = .returned (.string (strOfNums (hexL N))) ∧ Below w.heap.size w w' := by
    have HF := Lib.hid (fbits_any N hN w env)
    have hw : IntKind.u64.wrap (N : Int) = (N : Int) := by rw [IntKind.wrap_u64]; omega
    have hlt : ¬ (N : Int) < 0 := by omega
    clear env
    generalize strOfNums (hexL N) = R at HF ⊢
    go_enter Tryz.func126, Tryz.ntmps126
    go_wp2_with (go_at_call 147; (with_reducible refine HF.out.mono ?_); rintro e w1 ⟨rfl, g⟩; have G := Lib.hid g; clear g)
    go_ret
    exact ⟨rfl, G.out⟩
  have HI := Lib.hid HI
  clear env
  generalize strOfNums (hexL N) = R at HI ⊢
  go_enter Tryz.func104, Tryz.ntmps104
  go_wp2_with (go_at_call 126; (with_reducible refine HI.out.mono ?_); rintro e w1 ⟨rfl, g⟩; have G := Lib.hid g; clear g)
  go_ret
  exact ⟨rfl, G.out⟩

end Go.Proofs.YtmgimkokmlcllaaGreatDoor

/-
  Package text's calls, walked: Quote.
-/
namespace Go.Proofs.YtmgimkokmlcllaaGreatDoor
open Go.RowKit

theorem str_enc {r : Int} (h : RuneOk r) : Utf8.encode r = strOfNums (encL r) := by
  obtain ⟨h0, h1, h2⟩ := h
  have hv : Utf8.valid r = true := by unfold Utf8.valid; simp; omega
  obtain ⟨n, rfl⟩ : ∃ n : Nat, r = (n : Int) := ⟨r.toNat, by omega⟩
  have e : ∀ a : Nat, UInt8.ofNat a = UInt8.ofNat ((a : Int).toNat) := fun a => by rw [Int.toNat_natCast]
  unfold Utf8.encode encL
  simp only [hv, if_true, Int.toNat_natCast]
  by_cases a : n < 128
  · rw [if_pos a, if_pos (by omega)]; unfold strOfNums; simp
  · by_cases b : n < 2048
    · rw [if_neg a, if_pos b, if_neg (by omega), if_pos (by omega)]
      have e1 : ((192 : Int) + (n : Int) / 64) = ((192 + n / 64 : Nat) : Int) := by omega
      have e2 : ((128 : Int) + (n : Int) % 64) = ((128 + n % 64 : Nat) : Int) := by omega
      rw [e1, e2]; unfold strOfNums
      simp only [List.map_cons, List.map_nil, Int.toNat_natCast]
    · by_cases c : n < 65536
      · rw [if_neg a, if_neg b, if_pos c, if_neg (by omega), if_neg (by omega), if_pos (by omega)]
        have e1 : ((224 : Int) + (n : Int) / 4096) = ((224 + n / 4096 : Nat) : Int) := by omega
        have e2 : ((128 : Int) + (n : Int) / 64 % 64) = ((128 + n / 64 % 64 : Nat) : Int) := by omega
        have e3 : ((128 : Int) + (n : Int) % 64) = ((128 + n % 64 : Nat) : Int) := by omega
        rw [e1, e2, e3]; unfold strOfNums
        simp only [List.map_cons, List.map_nil, Int.toNat_natCast]
      · rw [if_neg a, if_neg b, if_neg c, if_neg (by omega), if_neg (by omega), if_neg (by omega)]
        have e1 : ((240 : Int) + (n : Int) / 262144) = ((240 + n / 262144 : Nat) : Int) := by omega
        have e2 : ((128 : Int) + (n : Int) / 4096 % 64) = ((128 + n / 4096 % 64 : Nat) : Int) := by omega
        have e3 : ((128 : Int) + (n : Int) / 64 % 64) = ((128 + n / 64 % 64 : Nat) : Int) := by omega
        have e4 : ((128 : Int) + (n : Int) % 64) = ((128 + n % 64 : Nat) : Int) := by omega
        rw [e1, e2, e3, e4]; unfold strOfNums
        simp only [List.map_cons, List.map_nil, Int.toNat_natCast]

theorem hexL_bytes (n : Nat) : ∀ z ∈ hexL n, 0 ≤ z ∧ z ≤ 255 := fun z hz => by have := hexL_bd n z hz; omega
theorem quoteR_byte {r : Int} (h : RuneOk r) : ∀ z ∈ quoteR r, 0 ≤ z ∧ z ≤ 255 := by
  intro z hz
  unfold quoteR at hz
  repeat' split at hz
  all_goals try (simp at hz; omega)
  · rename_i hr
    simp only [List.mem_append, List.mem_cons, List.not_mem_nil, or_false] at hz
    rcases hz with (hz | hz) | hz
    · omega
    · exact hexL_bytes _ z hz
    · omega
  · exact encL_byte h.1 h.2.1 z hz

set_option maxRecDepth 100000 in
set_option maxHeartbeats 4000000 in
theorem tprinted_any (r : Int) (hr : RuneOk r) (w : World) (env : EnvQ w) : Calls Tryz.prog 97 #[.int .i32 r] w fun e w' => e = .returned (.string (strOfNums (quoteR r))) ∧ Below w.heap.size w w' := by
  obtain ⟨q, hq⟩ : ∃ q, plainB r = q := ⟨_, rfl⟩
  have RP := Lib.hid (fun w => tplain_is hq w)
  cases q with
  | true =>
    have henc := str_enc hr
    have hres : Hid (strOfNums (encL r) = strOfNums (quoteR r)) := by
      unfold Hid quoteR
      unfold plainB at hq
      simp only [Bool.and_eq_true, decide_eq_true_eq] at hq
      rw [if_neg (by omega), if_neg (by omega), if_neg (by omega), if_neg (by omega), if_neg (by omega)]
    generalize strOfNums (encL r) = R at henc hres
    clear hq hr env
    go_enter Tryz.func97, Tryz.ntmps97
    go_wp2_with (go_at_call 120; (with_reducible refine (RP.out _).mono ?_); rintro e w1 ⟨rfl, rfl⟩)
    go_ret
    exact ⟨by rw [← hres.out]; rfl, Below.refl _ _⟩
  | false =>
    have hnp : r < 32 ∨ r = 127 ∨ r = 34 ∨ r = 92 := by
      unfold plainB at hq
      simp at hq; omega
    clear hq
    by_cases h10 : r = 10
    · subst h10
      clear hr env hnp
      go_enter Tryz.func97, Tryz.ntmps97
      go_wp2_with (go_at_call 120; (with_reducible refine (RP.out _).mono ?_); rintro e w1 ⟨rfl, rfl⟩)
      go_ret
      exact ⟨rfl, Below.refl _ _⟩
    by_cases h9 : r = 9
    · subst h9
      clear hr env hnp
      go_enter Tryz.func97, Tryz.ntmps97
      go_wp2_with (go_at_call 120; (with_reducible refine (RP.out _).mono ?_); rintro e w1 ⟨rfl, rfl⟩)
      go_ret
      exact ⟨rfl, Below.refl _ _⟩
    by_cases h34 : r = 34
    · subst h34
      clear hr env hnp
      go_enter Tryz.func97, Tryz.ntmps97
      go_wp2_with (go_at_call 120; (with_reducible refine (RP.out _).mono ?_); rintro e w1 ⟨rfl, rfl⟩)
      go_ret
      exact ⟨rfl, Below.refl _ _⟩
    by_cases h92 : r = 92
    · subst h92
      clear hr env hnp
      go_enter Tryz.func97, Tryz.ntmps97
      go_wp2_with (go_at_call 120; (with_reducible refine (RP.out _).mono ?_); rintro e w1 ⟨rfl, rfl⟩)
      go_ret
      exact ⟨rfl, Below.refl _ _⟩
    · have hsm : r < 32 ∨ r = 127 := by omega
      obtain ⟨n, rfl⟩ : ∃ n : Nat, r = (n : Int) := ⟨r.toNat, by have := hr.1; omega⟩
      have HF := Lib.hid (fint16_any n (by omega) w env)
      have hlen := hexL_len n 1 (by omega)
      have hsz : (strOfNums (hexL n)).size ≤ 2 := by rw [strOfNums_size]; exact hlen
      have hres : Hid (⟨#[92, 117, 123]⟩ ++ strOfNums (hexL n) ++ ⟨#[125]⟩ = strOfNums (quoteR (n : Int))) := by
        unfold Hid quoteR
        rw [if_neg h34, if_neg h92, if_neg h10, if_neg h9, if_pos hsm, ← strOfNums_append, ← strOfNums_append, Int.toNat_natCast]
        rfl
      have e10 : ((n : Int) == 10) = false := by simpa using h10
      have e9 : ((n : Int) == 9) = false := by simpa using h9
      have e34 : ((n : Int) == 34) = false := by simpa using h34
      have e92 : ((n : Int) == 92) = false := by simpa using h92
      have hw : IntKind.i64.wrap (n : Int) = (n : Int) := by rw [IntKind.wrap_i64]; omega
      generalize strOfNums (hexL n) = R at HF hsz hres
      have b1 : ¬ 9223372036854775807 < (⟨#[92, 117, 123]⟩ : ByteArray).size + R.size := by
        have : (⟨#[92, 117, 123]⟩ : ByteArray).size = 3 := rfl
        omega
      have b2 : ¬ 9223372036854775807 < ((⟨#[92, 117, 123]⟩ : ByteArray) ++ R).size + (⟨#[125]⟩ : ByteArray).size := by
        have : (⟨#[92, 117, 123]⟩ : ByteArray).size = 3 := rfl
        have : (⟨#[125]⟩ : ByteArray).size = 1 := rfl
        rw [ByteArray.size_append]; omega
      clear h10 h9 h34 h92 hnp hsm hr env hlen
      go_enter Tryz.func97, Tryz.ntmps97
      go_wp2_with (first
        | (go_at_call 120; (with_reducible refine (RP.out _).mono ?_); rintro e w1 ⟨rfl, rfl⟩)
        | (go_at_call 104; (with_reducible refine HF.out.mono ?_); rintro e w1 ⟨rfl, g⟩; have G := Lib.hid g; clear g))
      go_ret
      exact ⟨by rw [← hres.out]; rfl, G.out⟩

theorem BldF.below {B b : Nat} {xs : List Value} {w w' : World} (h : BldF B b xs w) (g : Below w.heap.size w w') : BldF B b xs w' := by
  have key : ∀ p, Lib.BuilderAtF 43 5 B b p xs w → Lib.BuilderAtF 43 5 B b p xs w' := by
    rintro p ⟨hB, v, hb, ho, hn⟩
    refine ⟨hB, v, (g.block _ (Array.getElem?_eq_some_iff.1 hb).1).trans hb, ⟨ho.1, ?_⟩, hn⟩
    rcases ho.2 with hx | ⟨x, cap, cur, fz, hv, hbg, hg, rest⟩
    · exact Or.inl hx
    · exact Or.inr ⟨x, cap, cur, fz, hv, hbg, (g.block _ (Array.getElem?_eq_some_iff.1 hg).1).trans hg, rest⟩
  exact h.elim (fun x => Or.inl (key _ x)) (fun x => Or.inr (key _ x))
theorem BldF.lt {B b : Nat} {xs : List Value} {w : World} (h : BldF B b xs w) : b < w.heap.size := h.elim (fun x => x.lt) (fun x => x.lt)

theorem tquote_long (s : ByteArray) (w : World) (env : EnvQ w) (hm : s.size ≤ 4294967296) (h : GoodL (runesOf (nums s))) (hl : 120 < (runesOf (nums s)).length) : Calls Tryz.prog 63 #[.string s] w fun e w' => e = .returned (.tuple #[.string ⟨#[]⟩, .int .i64 9]) ∧ Below w.heap.size w w' := by
  have RG := Lib.hid (tgood_yes env.lo hm h)
  have RC := Lib.hid (fun w => tcount_big s w (by omega))
  generalize (runesOf (nums s)).length = n at RC hl
  have hn : (120 : Int) < (n : Int) := by omega
  clear h env hl
  go_enter Tryz.func63, Tryz.ntmps63
  go_wp2_with (first
    | (go_at_call 95; (with_reducible refine RG.out.mono ?_); rintro e w1 ⟨rfl, g⟩; have G := Lib.hid g; clear g)
    | (go_at_call 96; (with_reducible refine (RC.out _).mono ?_); rintro e w2 ⟨rfl, g2⟩; have G2 := Lib.hid (below_step G.out g2); clear g2))
  go_ret2
  exact ⟨rfl, G2.out⟩

set_option maxRecDepth 100000 in
set_option maxHeartbeats 8000000 in
theorem tquote_fine (s : ByteArray) (w : World) (env : EnvQ w) (hm : s.size ≤ 4294967296) (h : GoodL (runesOf (nums s))) (hl : (runesOf (nums s)).length ≤ 120) : Calls Tryz.prog 63 #[.string s] w fun e w' => e = .returned (.tuple #[.string (strOfNums (quoteL (runesOf (nums s)))), .int .i64 0]) ∧ Below w.heap.size w w' := by
  have hlen : Hid ((nums s).length = s.size) := nums_length s
  have HE := Lib.hid env
  have RG := Lib.hid (tgood_yes env.lo hm h)
  have RC := Lib.hid (fun w => tcount_big s w (by omega))
  have HOK := Lib.hid (good_ok h)
  obtain ⟨l, hll⟩ : ∃ l, runesOf (nums s) = l := ⟨_, rfl⟩
  rw [hll] at HOK RC hl ⊢
  have HL := Lib.hid hll
  have H120 := Lib.hid hl
  have hn : ¬ (120 : Int) < (l.length : Int) := by omega
  obtain ⟨B, hB⟩ : ∃ B, w.heap.size = B := ⟨_, rfl⟩
  have HB := Lib.hid hB
  clear h env hl hll hB
  go_enter Tryz.func63, Tryz.ntmps63
  go_wp2_with (first
    | (go_at_call 95; (with_reducible refine RG.out.mono ?_); rintro e w1 ⟨rfl, g⟩; have G := Lib.hid g; clear g)
    | (go_at_call 96; (with_reducible refine (RC.out _).mono ?_); rintro e w2 ⟨rfl, g2⟩; have G2 := Lib.hid (HB.out ▸ below_step G.out g2 : Below B w w2); have S2 := Lib.hid (show B ≤ w2.heap.size by have := G2.out.size; have := HB.out; omega); have NB := Lib.hid (bld_new w2 B w2.heap.size rfl S2.out); have NW := Lib.hid (G2.out.alloc S2.out (.cells #[.pointer none, .slice none 0 0] 43)); have NS := Lib.hid (show B ≤ (w2.alloc (.cells #[.pointer none, .slice none 0 0] 43)).heap.size by have := S2.out; simp; omega); clear g2)
    | (go_at_call 61; (with_reducible refine (wbyte_any B w2.heap.size [] 34 _ NB.out (by decide) NS.out).mono ?_); rintro e w3 ⟨rfl, h3, b3, k3⟩; have H3 := Lib.hid h3; have B3 := Lib.hid (NW.out.trans b3); clear h3 b3 k3))
  obtain ⟨b, hb⟩ : ∃ b, w2.heap.size = b := ⟨_, rfl⟩
  rw [hb] at H3 ⊢
  have hlt := H3.out.lt
  obtain ⟨I, hI⟩ : ∃ I, w3.heap.size = I := ⟨_, rfl⟩
  rw [hI] at hlt ⊢
  have hIb : Hid (I ≠ b) := (by omega : I ≠ b)
  have hBI : Hid (B ≤ I) := by have := B3.out.size; have := HB.out; unfold Hid; omega
  have H4 : Hid (BldF B b (u8s [34]) (w3.iter s 0)) := H3.out.alloc _
  have B4 : Hid (Below B w (w3.iter s 0)) := B3.out.alloc (by rw [hI]; exact hBI.out) _
  have I4 : Hid ((w3.iter s 0).heap[I]? = some (.stringIter s 0)) := by rw [← hI]; exact World.iter_heap w3 s 0
  generalize w3.iter s 0 = w4 at H4 B4 I4 ⊢
  clear hlt hI hb H3 B3 NB NW NS
  go_loopw [] (fun wr => ∃ (pos i : Nat), pos ≤ s.size ∧ rfrom (nums s) pos = l.drop i ∧ i ≤ l.length ∧ BldF B b (u8s ([34] ++ quoteB (l.take i))) wr ∧ wr.heap[I]? = some (.stringIter s pos) ∧ Below B w wr) (fun wr => s.size - wr.iterPos I)
  case atStart => exact ⟨0, 0, Nat.zero_le _, HL.out, Nat.zero_le _, H4.out, I4.out, B4.out⟩
  case round =>
    obtain ⟨pos, i, hp, hr, hil, hS, hk, hb⟩ := hrel
    have HR := Lib.hid hr
    have HB0 := Lib.hid hb
    have HS0 := Lib.hid hS
    clear hr hb hS
    by_cases h1 : pos < s.size
    · obtain ⟨y, hnx, y0, y1, ht⟩ := txt_rune wr I s pos hk h1
      have hR : rfrom (nums s) pos = runeA (nums s) pos :: rfrom (nums s) (pos + widA (nums s) pos) := rfrom_in (by rw [hlen.out]; exact h1)
      obtain ⟨hi0, hz, hr2⟩ := drop_cons (HR.out.symm.trans hR)
      have hmem : l.getD i 0 ∈ l := by rw [List.getD_eq_getElem?_getD, List.getElem?_eq_getElem hi0]; exact List.getElem_mem hi0
      have hzy : l.getD i 0 = y := by
        rcases ht with ⟨e1, _⟩ | ⟨_, e2⟩
        · have := (HOK.out _ hmem).1; rw [hz, e1] at this; omega
        · rw [e2, ← hz]
      have hok : RuneOk y := by rw [← hzy]; exact HOK.out _ hmem
      have HRO := Lib.hid hok
      have HR2 := Lib.hid hr2.symm
      have hwid := Lib.hid (widA_pos (nums s) pos)
      have hwin := Lib.hid (widA_in (zs := nums s) (i := pos) (by rw [hlen.out]; exact h1))
      have HB1 := Lib.hid (Lib.below_iterAt HB0.out hBI.out s (pos + widA (nums s) pos))
      have hk2 := Lib.hid (Lib.iterAt_heap wr I s pos (pos + widA (nums s) pos) hk)
      have hk0 := Lib.hid hk
      have HS := Lib.hid (Lib.IsBuilderF.iterAt HS0.out hk (pos + widA (nums s) pos))
      have hi : Hid (i < l.length) := hi0
      have hbyte := Lib.hid (quoteR_byte hok)
      have hnew : Hid (([34] ++ quoteB (l.take i)) ++ quoteR y = [34] ++ quoteB (l.take (i + 1))) := by unfold Hid; rw [take_snoc hi0, quoteB_snoc, hzy, List.append_assoc]
      have hsz : Hid (([34] ++ quoteB (l.take i)).length + (quoteR y).length ≤ 140737488355328) := by
        have h5 := quoteB_len (l := l.take i) (fun z hz => by have := HOK.out z (List.mem_of_mem_take hz); have h6 := this.1; have h7 := this.2.1; omega)
        have h6 := quoteR_len hok.2.1
        have h7 := H120.out
        rw [List.length_take] at h5
        unfold Hid
        rw [List.length_append]
        simp only [List.length_cons, List.length_nil]
        omega
      generalize [34] ++ quoteB (l.take i) = zs at HS hnew hsz
      clear ht hz hr2 hR hi0 hk hzy hok hmem HS0
      obtain ⟨p2, hp2⟩ : ∃ p, pos + widA (nums s) pos = p := ⟨_, rfl⟩
      rw [hp2] at hnx HB1 hk2 HR2 hwin HS
      have hlt : Hid (pos < p2) := by have := hwid.out; unfold Hid; omega
      have hle : Hid (p2 ≤ s.size) := by have := hwin.out; rw [hlen.out] at this; exact this
      clear hp2 hwid hwin
      generalize wr.iterAt I s p2 = W1 at hnx HB1 hk2 HS
      have HP := Lib.hid (tprinted_any y HRO.out W1 (HE.out.step (HB.out ▸ HB1.out)))
      go_wp2_with (first
        | (go_at_call 97; (with_reducible refine HP.out.mono ?_); rintro e w5 ⟨rfl, g5⟩; have H5 := Lib.hid (BldF.below HS.out g5); have I5 := Lib.hid ((g5.block I (Array.getElem?_eq_some_iff.1 hk2.out).1).trans hk2.out); have B5 := Lib.hid (HB1.out.trans (g5.mono (by have := HB1.out.size; have := HB.out; omega))); have S5 := Lib.hid (show B ≤ w5.heap.size by have := B5.out.size; have := HB.out; omega); clear g5)
        | (go_at_call 59; (with_reducible refine (wstr_any B b zs (quoteR y) hbyte.out _ H5.out hsz.out S5.out).mono ?_); rintro e w6 ⟨rfl, h6, b6, k6⟩; have H6 := Lib.hid h6; have I6 := Lib.hid (Lib.OthersKept.iter k6 I5.out hIb.out); have B6 := Lib.hid (B5.out.trans b6); clear h6 b6 k6))
      rw [hnew.out] at H6
      go_roundw
      case rel => exact ⟨p2, i + 1, hle.out, HR2.out, hi.out, H6.out, I6.out, B6.out⟩
      case measure => rw [iterPos_of I6.out, iterPos_of hk0.out]; have := hlt.out; have := hle.out; omega
    · have hend : i = l.length := by
        have h5 := HR.out
        rw [rfrom_out (by rw [hlen.out]; exact h1)] at h5
        have h6 := congrArg List.length h5
        rw [List.length_drop] at h6
        simp at h6; omega
      have hnx := fun ty => Lib.run_next_end_at (P := Tryz.prog) wr I s pos ty hk h1
      subst hend
      rw [List.take_length] at HS0
      have hsz : Hid (([34] ++ quoteB l).length + 1 ≤ 140737488355328) := by
        have h5 := quoteB_len (l := l) (fun z hz => by have := HOK.out z hz; have h6 := this.1; have h7 := this.2.1; omega)
        have h7 := H120.out
        unfold Hid
        rw [List.length_append]
        simp only [List.length_cons, List.length_nil]
        omega
      have hbyte : Hid (∀ z ∈ quoteL l, 0 ≤ z ∧ z ≤ 255) := by
        unfold Hid quoteL
        intro z hz
        rcases List.mem_append.mp hz with hz | hz
        · rcases List.mem_append.mp hz with hz | hz
          · obtain rfl : z = 34 := by simpa using hz
            omega
          · obtain ⟨r, hr, hz⟩ := List.mem_flatMap.mp hz
            exact quoteR_byte (HOK.out r hr) z hz
        · obtain rfl : z = 34 := by simpa using hz
          omega
      have HW := Lib.hid (wbyte_any B b ([34] ++ quoteB l) 34 wr HS0.out hsz.out (by have := HB0.out.size; have := HB.out; omega))
      have HT := Lib.hid (fun w' (h : BldF B b (u8s (quoteL l)) w') (g : Below B w w') => bstr_any B b (quoteL l) hbyte.out w' h (by have := g.size; have := HB.out; omega))
      change Hid (Calls _ _ _ _ (fun e w' => e = .returned .nilIface ∧ BldF B b (u8s (quoteL l)) w' ∧ Below B wr w' ∧ Lib.OthersKept 5 (some b) wr w')) at HW
      obtain ⟨zs, hzs⟩ : ∃ zs, quoteL l = zs := ⟨_, rfl⟩
      rw [hzs] at HW HT
      have HZS := Lib.hid hzs
      clear hzs
      clear hk
      go_wp2_with (first
        | (go_at_call 61; (with_reducible refine HW.out.mono ?_); rintro e w5 ⟨rfl, h5, b5, k5⟩; have H5 := Lib.hid h5; have B5 := Lib.hid (HB0.out.trans b5); clear h5 b5 k5)
        | (go_at_call 25; (with_reducible refine (HT.out _ H5.out B5.out).mono ?_); rintro e w6 ⟨rfl, h6, b6, k6⟩; have B6 := Lib.hid (B5.out.trans b6); clear h6 b6 k6))
      go_ret2
      exact ⟨by rw [HZS.out]; rfl, HB.out ▸ B6.out⟩

end Go.Proofs.YtmgimkokmlcllaaGreatDoor
