/-
  The document's own Good, Letter, Name, Bytes, hex, digit, walked.
-/
import Derived.Test.YtkhmaiggcihneaaDoorTxtR
import Derived.Test.YtkhmaiggcihneaaDoorTxtS
import Derived.Deep.QuietTactic
import Derived.BigQuiet
namespace Go.Proofs.YtkhmaiggcihneaaDoor
open Go.RowKit

theorem runes_len (zs : List Int) : (runesOf zs).length ≤ zs.length := by
  have key : ∀ n i, zs.length - i ≤ n → (rfrom zs i).length ≤ zs.length - i := by
    intro n
    induction n with
    | zero => intro i hi; rw [rfrom_out (by omega)]; simp
    | succ n ih =>
      intro i hi
      by_cases h : i < zs.length
      · rw [rfrom_in h, List.length_cons]
        have h1 := widA_pos zs i
        have h2 := ih (i + widA zs i) (by omega)
        omega
      · rw [rfrom_out h]; simp
  have := key zs.length 0 (by omega)
  unfold runesOf; omega
theorem runes_bd (zs : List Int) (hz : ∀ z ∈ zs, 0 ≤ z ∧ z ≤ 255) : ∀ z ∈ runesOf zs, -1 ≤ z ∧ z ≤ 1114111 := by
  have key : ∀ n i, zs.length - i ≤ n → ∀ z ∈ rfrom zs i, -1 ≤ z ∧ z ≤ 1114111 := by
    intro n
    induction n with
    | zero => intro i hi z hm; rw [rfrom_out (by omega)] at hm; cases hm
    | succ n ih =>
      intro i hi z hm
      by_cases h : i < zs.length
      · rw [rfrom_in h, List.mem_cons] at hm
        rcases hm with rfl | hm
        · refine runeA_le zs i ?_
          rw [List.getD_eq_getElem?_getD, List.getElem?_eq_getElem h]
          exact (hz _ (List.getElem_mem h)).1
        · have h1 := widA_pos zs i
          exact ih (i + widA zs i) (by omega) z hm
      · rw [rfrom_out h] at hm; cases hm
  exact key zs.length 0 (by omega)
theorem getD_bd {l : List Int} (h : ∀ z ∈ l, -1 ≤ z ∧ z ≤ 1114111) {i : Nat} (hi : i < l.length) : -1 ≤ l.getD i 0 ∧ l.getD i 0 ≤ 1114111 := by
  rw [List.getD_eq_getElem?_getD, List.getElem?_eq_getElem hi]
  exact h _ (List.getElem_mem hi)

/-- A bool that is a sentence's truth. -/
def GivesQ (A : Prop) (w : World) (e : Ending) (w' : World) : Prop := ∃ q : Bool, e = .returned (.bool q) ∧ (q = true ↔ A) ∧ Below w.heap.size w w'
theorem GivesQ.yes {A : Prop} {w w' : World} (h : A) (hb : Below w.heap.size w w') : GivesQ A w (.returned (.bool true)) w' := ⟨true, rfl, ⟨fun _ => h, fun _ => rfl⟩, hb⟩
theorem GivesQ.no {A : Prop} {w w' : World} (h : ¬ A) (hb : Below w.heap.size w w') : GivesQ A w (.returned (.bool false)) w' := ⟨false, rfl, ⟨fun e => Bool.noConfusion e, fun e => (h e).elim⟩, hb⟩

theorem rletter_any (r : Int) (w : World) : Calls Tryd.prog 15 #[.int .i32 r] w fun e w' => e = .returned (.bool (letterB r)) ∧ w = w' := by
  obtain ⟨q, hq⟩ : ∃ q, letterB r = q := ⟨_, rfl⟩
  rw [hq]
  have HQ := Lib.hid hq
  clear hq
  by_cases h1 : 97 ≤ r
  · by_cases h2 : r ≤ 122
    · obtain rfl : q = true := by rw [← HQ.out]; unfold letterB; simp [h1, h2]
      go_enter Tryd.func15, Tryd.ntmps15
      go_wp2
      go_ret
      exact ⟨rfl, rfl⟩
    · by_cases h3 : r < 192
      · obtain rfl : q = false := by rw [← HQ.out]; unfold letterB; simp; omega
        have g1 : ¬ r ≤ 90 := by omega
        have g2 : ¬ 880 ≤ r := by omega
        have g3 : ¬ 192 ≤ r := by omega
        go_enter Tryd.func15, Tryd.ntmps15
        go_wp2
        go_ret
        exact ⟨rfl, rfl⟩
      · have g1 : ¬ r ≤ 90 := by omega
        have g3 : 192 ≤ r := by omega
        by_cases h4 : r ≤ 591
        · by_cases h5 : r = 215
          · subst h5
            obtain rfl : q = false := by rw [← HQ.out]; decide
            go_enter Tryd.func15, Tryd.ntmps15
            go_wp2
            go_ret
            exact ⟨rfl, rfl⟩
          · by_cases h6 : r = 247
            · subst h6
              obtain rfl : q = false := by rw [← HQ.out]; decide
              go_enter Tryd.func15, Tryd.ntmps15
              go_wp2
              go_ret
              exact ⟨rfl, rfl⟩
            · obtain rfl : q = true := by rw [← HQ.out]; unfold letterB; simp; omega
              have d1 : (r == 215) = false := by simpa using h5
              have d2 : (r == 247) = false := by simpa using h6
              have d3 : (r != 215) = true := by simpa using h5
              have d4 : (r != 247) = true := by simpa using h6
              go_enter Tryd.func15, Tryd.ntmps15
              go_wp2
              go_ret
              exact ⟨rfl, rfl⟩
        · by_cases h5 : 880 ≤ r
          · by_cases h6 : r ≤ 1279
            · obtain rfl : q = true := by rw [← HQ.out]; unfold letterB; simp; omega
              go_enter Tryd.func15, Tryd.ntmps15
              go_wp2
              go_ret
              exact ⟨rfl, rfl⟩
            · obtain rfl : q = false := by rw [← HQ.out]; unfold letterB; simp; omega
              have d1 : decide (r ≤ 1279) = false := by simp; omega
              go_enter Tryd.func15, Tryd.ntmps15
              go_wp2
              go_ret
              exact ⟨rfl, rfl⟩
          · obtain rfl : q = false := by rw [← HQ.out]; unfold letterB; simp; omega
            have d1 : decide (r ≥ 880) = false := by simp; omega
            go_enter Tryd.func15, Tryd.ntmps15
            go_wp2
            go_ret
            exact ⟨rfl, rfl⟩
  · by_cases h2 : 65 ≤ r
    · by_cases h3 : r ≤ 90
      · obtain rfl : q = true := by rw [← HQ.out]; unfold letterB; simp [h2, h3]
        go_enter Tryd.func15, Tryd.ntmps15
        go_wp2
        go_ret
        exact ⟨rfl, rfl⟩
      · obtain rfl : q = false := by rw [← HQ.out]; unfold letterB; simp; omega
        have g2 : ¬ 880 ≤ r := by omega
        have g3 : ¬ 192 ≤ r := by omega
        go_enter Tryd.func15, Tryd.ntmps15
        go_wp2
        go_ret
        exact ⟨rfl, rfl⟩
    · obtain rfl : q = false := by rw [← HQ.out]; unfold letterB; simp; omega
      have g2 : ¬ 880 ≤ r := by omega
      have g3 : ¬ 192 ≤ r := by omega
      go_enter Tryd.func15, Tryd.ntmps15
      go_wp2
      go_ret
      exact ⟨rfl, rfl⟩

theorem rdigit_any (r : Int) (w : World) (_r0 : -1 ≤ r) (_r1 : r ≤ 1114111) : Calls Tryd.prog 32 #[.int .i32 r] w fun e w' => e = .returned (.int .i32 (if 48 ≤ r ∧ r ≤ 57 then r - 48 else if 97 ≤ r ∧ r ≤ 102 then r - 87 else -1)) ∧ w = w' := by
  by_cases h1 : 48 ≤ r
  · by_cases h2 : r ≤ 57
    · rw [if_pos ⟨h1, h2⟩]
      have hw : IntKind.i32.wrap (r - 48) = r - 48 := by rw [IntKind.wrap_i32]; omega
      go_enter Tryd.func32, Tryd.ntmps32
      go_wp2
      go_ret
      exact ⟨rfl, rfl⟩
    · rw [if_neg (by omega)]
      by_cases h3 : 97 ≤ r
      · by_cases h4 : r ≤ 102
        · rw [if_pos ⟨h3, h4⟩]
          have hw : IntKind.i32.wrap (r - 87) = r - 87 := by rw [IntKind.wrap_i32]; omega
          go_enter Tryd.func32, Tryd.ntmps32
          go_wp2
          go_ret
          exact ⟨rfl, rfl⟩
        · rw [if_neg (by omega)]
          go_enter Tryd.func32, Tryd.ntmps32
          go_wp2
          go_ret
          exact ⟨rfl, rfl⟩
      · rw [if_neg (by omega)]
        go_enter Tryd.func32, Tryd.ntmps32
        go_wp2
        go_ret
        exact ⟨rfl, rfl⟩
  · rw [if_neg (by omega), if_neg (by omega)]
    have h3 : ¬ 97 ≤ r := by omega
    go_enter Tryd.func32, Tryd.ntmps32
    go_wp2
    go_ret
    exact ⟨rfl, rfl⟩

set_option maxRecDepth 100000 in
set_option maxHeartbeats 1000000 in
theorem rgood_any (s : ByteArray) (w : World) (hm : s.size ≤ 4294967296) : Calls Tryd.prog 11 #[.string s] w (GivesQ (GoodL (runesOf (nums s))) w) := by
  have hll := runes_len (nums s)
  rw [nums_length] at hll
  obtain ⟨l, hl⟩ : ∃ l, runesOf (nums s) = l := ⟨_, rfl⟩
  have R := Lib.hid (fun w => rrunes_any s w hm)
  rw [hl] at R hll ⊢
  clear hl
  go_enter Tryd.func11, Tryd.ntmps11
  go_wp2_with (go_at_call 8; (with_reducible refine (R.out _).mono ?_); rintro e w1 ⟨v, rfl, ⟨b, off, cap, rfl, hcap, hb, hcell⟩, g, _⟩; have G := Lib.hid g; clear g)
  have HC := Lib.hid hcell
  clear hcell
  go_loop [4] (fun v4 => ∃ i : Nat, i ≤ l.length ∧ v4 = .int .i64 i ∧ Hid (∀ j, j < i → 0 ≤ l.getD j 0)) (fun v4 => l.length - (intOf v4).toNat)
  case atStart => exact ⟨0, Nat.zero_le _, rfl, Lib.hid (fun j hj => by omega)⟩
  case round =>
    obtain ⟨i, hi, rfl, hall⟩ := hrel
    by_cases h1 : i < l.length
    · have hx := HC.out i h1
      obtain ⟨z, hz⟩ : ∃ z, l.getD i 0 = z := ⟨_, rfl⟩
      rw [hz] at hx
      have HZ := Lib.hid hz
      clear hz
      by_cases h2 : z < 0
      · have hbad := Lib.hid (GoodL.of_not h1 (by rw [HZ.out]; exact h2))
        go_wp2
        go_ret
        exact GivesQ.no hbad.out G.out
      · have hall' : Hid (∀ j, j < i + 1 → 0 ≤ l.getD j 0) := fun j hj => by
          by_cases e : j = i
          · rw [e, HZ.out]; omega
          · exact hall.out j (by omega)
        go_wp2
        go_round
        case rel => exact ⟨i + 1, by omega, by go_num, hall'⟩
        case measure => simp [intOf]; omega
    · have hfin : Hid (GoodL l) := fun j hj => hall.out j (by omega)
      go_wp2
      go_ret
      exact GivesQ.yes hfin.out G.out

end Go.Proofs.YtkhmaiggcihneaaDoor
