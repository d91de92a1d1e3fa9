/-
  The document's own Name and Quote, walked.
-/
import Derived.Test.YtkhmaiggcihneaaDoorTxtG
import Derived.Test.YtkhmaiggcihneaaDoorTxtB
namespace Go.Proofs.YtkhmaiggcihneaaDoor
open Go.RowKit

theorem rletter_is {r : Int} {q : Bool} (h : letterB r = q) (w : World) : Calls Tryd.prog 15 #[.int .i32 r] w fun e w' => e = .returned (.bool q) ∧ w = w' := by
  subst h; exact rletter_any r w
theorem letter_high {r : Int} (h : letterB r = true) : 57 < r := by
  unfold letterB at h
  simp at h
  omega
theorem NameL.bad {l : List Int} {i : Nat} (hi : i < l.length) (h : nameOk l i = false) : ¬ NameL l := fun g => by have := g.2.2.2 i hi; rw [h] at this; cases this

set_option maxRecDepth 100000 in
set_option maxHeartbeats 4000000 in
theorem rname_any (s : ByteArray) (w : World) (hm : s.size ≤ 4294967296) : Calls Tryd.prog 17 #[.string s] w (GivesQ (NameL (runesOf (nums s))) w) := by
  have hll := runes_len (nums s)
  rw [nums_length] at hll
  obtain ⟨l, hl⟩ : ∃ l, runesOf (nums s) = l := ⟨_, rfl⟩
  have R := Lib.hid (fun w => rrunes_any s w hm)
  rw [hl] at R hll ⊢
  clear hl
  by_cases h0 : l.length = 0
  · have hbad : Hid (¬ NameL l) := fun g => by have h5 : 1 ≤ l.length := g.1; omega
    have hz : ((l.length : Int) == 0) = true := by rw [h0]; rfl
    clear h0
    go_enter Tryd.func17, Tryd.ntmps17
    go_wp2_with (go_at_call 8; (with_reducible refine (R.out _).mono ?_); rintro e w1 ⟨v, rfl, ⟨b, off, cap, rfl, hcap, hb, hcell⟩, g, _⟩; have G := Lib.hid g; clear g)
    go_ret
    exact GivesQ.no hbad.out G.out
  · have hz : ((l.length : Int) == 0) = false := beq_eq_false_iff_ne.mpr (by omega)
    have hz2 : ¬ (l.length : Int) = 0 := by omega
    have hpos : 0 < l.length := by omega
    by_cases h24 : 24 < l.length
    · have hbad : Hid (¬ NameL l) := fun g => by have h5 : l.length ≤ 24 := g.2.1; omega
      clear h0
      go_enter Tryd.func17, Tryd.ntmps17
      go_wp2_with (go_at_call 8; (with_reducible refine (R.out _).mono ?_); rintro e w1 ⟨v, rfl, ⟨b, off, cap, rfl, hcap, hb, hcell⟩, g, _⟩; have G := Lib.hid g; clear g)
      go_ret
      exact GivesQ.no hbad.out G.out
    · have hl24 : l.length ≤ 24 := by omega
      clear h24 h0
      obtain ⟨z0, hz0⟩ : ∃ z, l.getD 0 0 = z := ⟨_, rfl⟩
      have HZ0 := Lib.hid hz0
      clear hz0
      obtain ⟨q0, hq0⟩ : ∃ q, letterB z0 = q := ⟨_, rfl⟩
      have RL := Lib.hid (fun w => rletter_is hq0 w)
      have HQ0 := Lib.hid hq0
      clear hq0
      cases q0 with
      | false =>
        have hbad : Hid (¬ NameL l) := fun g => by have h5 := g.2.2.1; rw [HZ0.out, HQ0.out] at h5; cases h5
        go_enter Tryd.func17, Tryd.ntmps17
        go_wp2_with (first
          | (go_at_call 8; (with_reducible refine (R.out _).mono ?_); rintro e w1 ⟨v, rfl, ⟨b, off, cap, rfl, hcap, hb, hcell⟩, g, _⟩; have G := Lib.hid g; clear g; have hc0 := hcell 0 hpos; rw [HZ0.out, Nat.add_zero] at hc0; clear hcell)
          | (go_at_call 15; (with_reducible refine (RL.out _).mono ?_); rintro e w2 ⟨rfl, rfl⟩))
        go_ret
        exact GivesQ.no hbad.out G.out
      | true =>
        go_enter Tryd.func17, Tryd.ntmps17
        go_wp2_with (first
          | (go_at_call 8; (with_reducible refine (R.out _).mono ?_); rintro e w1 ⟨v, rfl, ⟨b, off, cap, rfl, hcap, hb, hcell⟩, g, _⟩; have G := Lib.hid g; clear g; have HC := Lib.hid hcell; have hc0 := hcell 0 hpos; rw [HZ0.out, Nat.add_zero] at hc0; clear hcell)
          | (go_at_call 15; (with_reducible refine (RL.out _).mono ?_); rintro e w2 ⟨rfl, rfl⟩))
        go_loop [4] (fun v4 => ∃ i : Nat, i ≤ l.length ∧ v4 = .int .i64 i ∧ Hid (∀ j, j < i → nameOk l j = true)) (fun v4 => l.length - (intOf v4).toNat)
        case atStart => exact ⟨0, Nat.zero_le _, rfl, Lib.hid (fun j hj => by omega)⟩
        case round =>
          clear hc0
          obtain ⟨i, hi, rfl, hall⟩ := hrel
          by_cases h1 : i < l.length
          · have hx := HC.out i h1
            obtain ⟨z, hz⟩ : ∃ z, l.getD i 0 = z := ⟨_, rfl⟩
            rw [hz] at hx
            have HZ := Lib.hid hz
            clear hz
            obtain ⟨q, hq⟩ : ∃ q, letterB z = q := ⟨_, rfl⟩
            have RL := Lib.hid (fun w => rletter_is hq w)
            have HQ := Lib.hid hq
            clear hq
            have hok : Hid (nameOk l i = (q || digitB z || (decide (i + 1 ≠ l.length) && (decide (z = 95) || decide (z = 45))))) := by unfold Hid nameOk; rw [HZ.out, HQ.out]
            have hnext := Lib.hid (fun h : nameOk l i = true => fun (j : Nat) (hj : j < i + 1) => show nameOk l j = true from by
              by_cases e : j = i
              · rw [e]; exact h
              · exact hall.out j (by omega))
            cases q with
            | true =>
              have hh := letter_high HQ.out
              have hn := Lib.hid (hnext.out (by rw [hok.out]; rfl))
              go_wp2_with (go_at_call 15; (with_reducible refine (RL.out _).mono ?_); rintro e w2 ⟨rfl, rfl⟩)
              go_round
              case rel => exact ⟨i + 1, by omega, by go_num, hn⟩
              case measure => simp [intOf]; omega
            | false =>
              by_cases d1 : z < 48
              · have g1 : decide (z ≥ 48) = false := by simp; omega
                have e2 : (z == 95) = false := by simp; omega
                have e3 : (z != 95) = true := by simp; omega
                by_cases hend : i + 1 = l.length
                · have e1 : ((i : Int) == (l.length : Int) - 1) = true := by simp; omega
                  have hb2 := Lib.hid (NameL.bad h1 (by rw [hok.out]; unfold digitB; simp; omega))
                  go_wp2_with (go_at_call 15; (with_reducible refine (RL.out _).mono ?_); rintro e w2 ⟨rfl, rfl⟩)
                  go_ret
                  exact GivesQ.no hb2.out G.out
                · have e1 : ((i : Int) == (l.length : Int) - 1) = false := by simp; omega
                  by_cases hch : z = 45
                  · subst hch
                    have hn := Lib.hid (hnext.out (by rw [hok.out]; unfold digitB; simp; omega))
                    go_wp2_with (go_at_call 15; (with_reducible refine (RL.out _).mono ?_); rintro e w2 ⟨rfl, rfl⟩)
                    go_round
                    case rel => exact ⟨i + 1, by omega, by go_num, hn⟩
                    case measure => simp [intOf]; omega
                  · have e4 : (z == 45) = false := by simpa using hch
                    have e5 : (z != 45) = true := by simpa using hch
                    have hb2 := Lib.hid (NameL.bad h1 (by rw [hok.out]; unfold digitB; simp; omega))
                    go_wp2_with (go_at_call 15; (with_reducible refine (RL.out _).mono ?_); rintro e w2 ⟨rfl, rfl⟩)
                    go_ret
                    exact GivesQ.no hb2.out G.out
              · by_cases d2 : 57 < z
                · have g1 : decide (z ≤ 57) = false := by simp; omega
                  have e2 : (z == 45) = false := by simp; omega
                  have e3 : (z != 45) = true := by simp; omega
                  by_cases hend : i + 1 = l.length
                  · have e1 : ((i : Int) == (l.length : Int) - 1) = true := by simp; omega
                    have hb2 := Lib.hid (NameL.bad h1 (by rw [hok.out]; unfold digitB; simp; omega))
                    go_wp2_with (go_at_call 15; (with_reducible refine (RL.out _).mono ?_); rintro e w2 ⟨rfl, rfl⟩)
                    go_ret
                    exact GivesQ.no hb2.out G.out
                  · have e1 : ((i : Int) == (l.length : Int) - 1) = false := by simp; omega
                    by_cases hch : z = 95
                    · subst hch
                      have hn := Lib.hid (hnext.out (by rw [hok.out]; unfold digitB; simp; omega))
                      go_wp2_with (go_at_call 15; (with_reducible refine (RL.out _).mono ?_); rintro e w2 ⟨rfl, rfl⟩)
                      go_round
                      case rel => exact ⟨i + 1, by omega, by go_num, hn⟩
                      case measure => simp [intOf]; omega
                    · have e4 : (z == 95) = false := by simpa using hch
                      have e5 : (z != 95) = true := by simpa using hch
                      have hb2 := Lib.hid (NameL.bad h1 (by rw [hok.out]; unfold digitB; simp; omega))
                      go_wp2_with (go_at_call 15; (with_reducible refine (RL.out _).mono ?_); rintro e w2 ⟨rfl, rfl⟩)
                      go_ret
                      exact GivesQ.no hb2.out G.out
                · have d3 : z ≤ 57 := by omega
                  have hn := Lib.hid (hnext.out (by rw [hok.out]; unfold digitB; simp; omega))
                  go_wp2_with (go_at_call 15; (with_reducible refine (RL.out _).mono ?_); rintro e w2 ⟨rfl, rfl⟩)
                  go_round
                  case rel => exact ⟨i + 1, by omega, by go_num, hn⟩
                  case measure => simp [intOf]; omega
          · have hfin : Hid (NameL l) := ⟨hpos, hl24, by rw [HZ0.out]; exact HQ0.out, fun j hj => hall.out j (by omega)⟩
            go_wp2
            go_ret
            exact GivesQ.yes hfin.out G.out

end Go.Proofs.YtkhmaiggcihneaaDoor
