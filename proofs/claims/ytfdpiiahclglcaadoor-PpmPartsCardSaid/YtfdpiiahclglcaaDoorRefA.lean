/-
  The document's own answers for numbers of bits, walked: a bit of a list; which of two lists is the greater number.
-/
import Derived.Test.YtfdpiiahclglcaaDoorBools
import Derived.WalkSpells
import Derived.WalkLawsBesides
import Derived.Lib.Hide
import Derived.KernelRfl
namespace Go.Proofs.YtfdpiiahclglcaaDoor
open Go.RowKit

theorem at_any (v : Value) (l : List Bool) (i : Nat) (w : World) (h : BoolsN w v l) (_hi : i ≤ 9223372036854775807) (hm : l.length ≤ 9223372036854775807) :
    Calls Tryd.prog 32 #[v, .int .i64 i] w fun e w' => e = .returned (.int .i64 (bitN l i)) ∧ w = w' := by
  by_cases hlt : i < l.length
  · rcases h with ⟨rfl, rfl⟩ | ⟨b, off, cap, rfl, hc, hb, hcell⟩
    · simp at hlt
    · have hx := hcell i hlt
      clear hcell
      have hx2 := Lib.hid (show bitN l i = b2n (l.getD i false) from rfl)
      generalize l.getD i false = x at hx hx2
      cases x
      all_goals
        go_enter Tryd.func32, Tryd.ntmps32
        go_wp2
        go_ret
        exact ⟨by rw [hx2.out]; rfl, rfl⟩
  · have hz := Lib.hid (bitN_beyond l i (by omega))
    rcases h with ⟨rfl, rfl⟩ | ⟨b, off, cap, rfl, hc, hb, hcell⟩
    all_goals
      go_enter Tryd.func32, Tryd.ntmps32
      go_wp2
      go_ret
      exact ⟨by rw [hz.out]; rfl, rfl⟩

/-- The same, the bit under a name. -/
theorem at_is (v : Value) (l : List Bool) (i : Nat) (x : Int) (w : World) (h : BoolsN w v l) (hi : i ≤ 9223372036854775807) (hm : l.length ≤ 9223372036854775807) (hx : Hid ((bitN l i : Int) = x)) :
    Calls Tryd.prog 32 #[v, .int .i64 i] w fun e w' => e = .returned (.int .i64 x) ∧ w = w' := by
  rw [← hx.out]; exact at_any v l i w h hi hm

theorem BoolsN.len {w : World} {v : Value} {l : List Bool} (h : BoolsN w v l) : ∃ a cap, v = .slice a l.length cap := by
  rcases h with ⟨rfl, rfl⟩ | ⟨b, off, cap, rfl, _⟩
  · exact ⟨_, _, rfl⟩
  · exact ⟨_, _, rfl⟩

set_option maxHeartbeats 400000 in
theorem compare_any (va vb : Value) (la lb : List Bool) (w : World) (ha : BoolsN w va la) (hb : BoolsN w vb lb) (hma : la.length ≤ 9223372036854775807) (hmb : lb.length ≤ 9223372036854775807) :
    Calls Tryd.prog 19 #[va, vb] w fun e w' => e = .returned (.int .i64 (cmpI (val la) (val lb))) ∧ w = w' := by
  have HA := Lib.hid ha
  have HB := Lib.hid hb
  obtain ⟨aa, ca, rfl⟩ := ha.len
  obtain ⟨ab, cb, rfl⟩ := hb.len
  clear ha hb
  by_cases hlt : la.length < lb.length
  all_goals
    go_enter Tryd.func19, Tryd.ntmps19
    go_wp2
    go_loop [6] (fun i => ∃ (k : Nat) (z : Int), i = .int .i64 z ∧ Hid (z = (k : Int) - 1) ∧ z ≤ 9223372036854775806 ∧ -1 ≤ z ∧ hi la k = hi lb k) (fun i => (intOf i + 1).toNat)
    case atStart => exact ⟨max la.length lb.length, _, rfl, Lib.hid (by omega), by omega, by omega, by rw [hi_beyond _ _ (by omega), hi_beyond _ _ (by omega)]⟩
    case round =>
      obtain ⟨k, z, rfl, hz, hz1, hz2, hh⟩ := hrel
      replace hh := Lib.hid hh
      by_cases h0 : 0 ≤ z
      · obtain ⟨j, rfl⟩ := Int.eq_ofNat_of_zero_le h0
        obtain rfl : k = j + 1 := by have := hz.out; omega
        obtain ⟨x, hx⟩ : ∃ x : Int, x = bitN la j := ⟨_, rfl⟩
        obtain ⟨y, hy⟩ : ∃ y : Int, y = bitN lb j := ⟨_, rfl⟩
        have HX := Lib.hid hx.symm
        have HY := Lib.hid hy.symm
        have hx1 : 0 ≤ x ∧ x ≤ 1 := by have := bitN_le la j; omega
        have hy1 : 0 ≤ y ∧ y ≤ 1 := by have := bitN_le lb j; omega
        obtain ⟨hx1, hx2⟩ := hx1
        obtain ⟨hy1, hy2⟩ := hy1
        clear hx hy hz
        by_cases hxy : x = y
        · subst hxy
          have hstep := Lib.hid (show hi la j = hi lb j by rw [hi_step la j, hi_step lb j, hh.out]; have := HX.out; have := HY.out; omega)
          go_wp2_with (first | (go_at_call 32; (with_reducible refine (at_is _ la _ x _ HA.out (by omega) hma HX).mono ?_); rintro e w' ⟨rfl, rfl⟩) | (go_at_call 32; (with_reducible refine (at_is _ lb _ x _ HB.out (by omega) hmb HY).mono ?_); rintro e w' ⟨rfl, rfl⟩))
          go_round
          case rel => exact ⟨j, _, rfl, Lib.hid rfl, by omega, by omega, hstep.out⟩
          case measure => simp [intOf]
        · have hfound := Lib.hid (show x - y = cmpI (val la) (val lb) by rw [← HX.out, ← HY.out]; exact cmp_found la lb j hh.out (by have := HX.out; have := HY.out; omega))
          have hne : (x == y) = false := by simpa using hxy
          go_wp2_with (first | (go_at_call 32; (with_reducible refine (at_is _ la _ x _ HA.out (by omega) hma HX).mono ?_); rintro e w' ⟨rfl, rfl⟩) | (go_at_call 32; (with_reducible refine (at_is _ lb _ y _ HB.out (by omega) hmb HY).mono ?_); rintro e w' ⟨rfl, rfl⟩))
          go_ret
          exact ⟨by rw [hfound.out]; rfl, rfl⟩
      · obtain rfl : z = -1 := by omega
        obtain rfl : k = 0 := by have := hz.out; omega
        have hres := Lib.hid (cmpI_eq (show val la = val lb by rw [← hi_zero, ← hi_zero]; exact hh.out))
        clear hz
        go_wp2
        go_ret
        exact ⟨by rw [hres.out]; rfl, rfl⟩

theorem compare_is (n : Int) (va vb : Value) (la lb : List Bool) (w : World) (ha : BoolsN w va la) (hb : BoolsN w vb lb) (hma : la.length ≤ 9223372036854775807) (hmb : lb.length ≤ 9223372036854775807) (hn : Hid (cmpI (val la) (val lb) = n)) :
    Calls Tryd.prog 19 #[va, vb] w fun e w' => e = .returned (.int .i64 n) ∧ w = w' := by
  rw [← hn.out]; exact compare_any va vb la lb w ha hb hma hmb

end Go.Proofs.YtfdpiiahclglcaaDoor
