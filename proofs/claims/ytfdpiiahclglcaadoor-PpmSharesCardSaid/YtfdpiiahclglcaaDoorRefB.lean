/-
  The document's own answers for numbers of bits, walked: the bits of a number; both of two numbers, bit by bit.
-/
import Derived.Test.YtfdpiiahclglcaaDoorRefA
namespace Go.Proofs.YtfdpiiahclglcaaDoor
open Go.RowKit

/-- What a call hands back that makes bits: a slice of its own that reads as some list; nothing old has changed. -/
def GivesBits (P : List Bool → Prop) (w : World) (e : Ending) (w' : World) : Prop := ∃ v l, e = .returned v ∧ Bools w' v l ∧ P l ∧ Below w.heap.size w w'
def GivesNew (P : List Bool → Prop) (w : World) (e : Ending) (w' : World) : Prop := ∃ v l, e = .returned v ∧ Bools w' v l ∧ P l ∧ Below w.heap.size w w' ∧ ∀ b, v.ownBlock = some b → w.heap.size ≤ b
theorem GivesNew.bits {P : List Bool → Prop} {w : World} {e : Ending} {w' : World} : GivesNew P w e w' → GivesBits P w e w' := fun ⟨v, l, he, hb, hp, hbel, _⟩ => ⟨v, l, he, hb, hp, hbel⟩

theorem bool_of (x : Nat) (b : Bool) (hb : ((x : Int) % 2 == 1) = b) : b2n b = x % 2 := by
  subst hb
  have : x % 2 = 0 ∨ x % 2 = 1 := by omega
  rcases this with h | h
  · have : ((x : Int) % 2) = 0 := by omega
    rw [this, h]; rfl
  · have : ((x : Int) % 2) = 1 := by omega
    rw [this, h]; rfl
theorem cast_div_pow (x k : Nat) : ((x : Int) / 2 ^ k) = ((x / 2 ^ k : Nat) : Int) := by simp
theorem bit_lo (h l : Int) (k : Nat) (x : List Bool) (bb : Bool) (h0 : 0 ≤ h) (l0 : 0 ≤ l) (hk : k < 64) (hx : x.length = k) (hb : (l / 2 ^ (k % 64) % 2 == 1) = bb) : b2n bb = wide h.toNat l.toNat / 2 ^ x.length % 2 := by
  obtain ⟨h, rfl⟩ := Int.eq_ofNat_of_zero_le h0
  obtain ⟨l, rfl⟩ := Int.eq_ofNat_of_zero_le l0
  rw [hx, Int.toNat_natCast, Int.toNat_natCast, ← place_lo h l k hk]
  rw [Nat.mod_eq_of_lt hk, cast_div_pow] at hb
  exact bool_of _ _ hb
theorem bit_hi (h l : Int) (k : Nat) (x : List Bool) (bb : Bool) (h0 : 0 ≤ h) (l0 : 0 ≤ l) (hl : l ≤ 18446744073709551615) (hk : ¬ k < 64) (hk2 : k < 128) (hx : x.length = k) (hb : (h / 2 ^ (k % 64) % 2 == 1) = bb) : b2n bb = wide h.toNat l.toNat / 2 ^ x.length % 2 := by
  obtain ⟨h, rfl⟩ := Int.eq_ofNat_of_zero_le h0
  obtain ⟨l, rfl⟩ := Int.eq_ofNat_of_zero_le l0
  rw [hx, Int.toNat_natCast, Int.toNat_natCast, ← place_hi h l k (W64.of hl) (by omega)]
  rw [show k % 64 = k - 64 by omega, cast_div_pow] at hb
  exact bool_of _ _ hb
/-- One bit more: what is known of the slice, and of what lies below. -/
theorem bits_next {w wr w1 : World} {v v' : Value} {x : List Bool} {bb : Bool} {N : Nat} {c0 c1 : Value} (hown : OwnBits wr (w.heap.size + 1) v x)
    (hown' : w1.ownsRow (w.heap.size + 1) 4 1 v' (x.length + 1) (x.map Value.bool ++ [.bool bb])) (hgrow : (wr.alloc (.cells #[.bool bb] 4)).grownBy w1 v.ownBlock) (hiff : ¬ v' = .slice none 0 0)
    (hbel : Below w.heap.size w wr) (hsz : w.heap.size < wr.heap.size) (hval : LowOf x N) (hc0 : wr.cell? ⟨w.heap.size, 0, none⟩ = some c0) (hc1 : wr.cell? ⟨w.heap.size, 1, none⟩ = some c1) (hb : b2n bb = N / 2 ^ x.length % 2) :
    OwnBits w1 (w.heap.size + 1) v' (x ++ [bb]) ∧ LowOf (x ++ [bb]) N ∧ w1.cell? ⟨w.heap.size, 0, none⟩ = some c0 ∧ w1.cell? ⟨w.heap.size, 1, none⟩ = some c1 ∧ Below w.heap.size w w1 ∧ w.heap.size < w1.heap.size := by
  have hlt := hown.1.lt
  have ha : Below w.heap.size w (wr.alloc (.cells #[.bool bb] 4)) := hbel.alloc (by omega) _
  have hne : some w.heap.size ≠ v.ownBlock := fun e => by have := (hlt _ e.symm).1; omega
  refine ⟨OwnBits.append (news := [bb]) hown' rfl hiff, hval.next hb, ?_, ?_, ha.grown hgrow (by simp; omega) (fun k hk => by have := (hlt _ hk).1; omega), ?_⟩
  · exact hgrow.cell ((((Below.refl wr.heap.size wr).alloc (Nat.le_refl _) _).cell (p := ⟨w.heap.size, 0, none⟩) hsz).trans hc0) hne
  · exact hgrow.cell ((((Below.refl wr.heap.size wr).alloc (Nat.le_refl _) _).cell (p := ⟨w.heap.size, 1, none⟩) hsz).trans hc1) hne
  · have := hgrow.size; simp at this; omega

set_option maxRecDepth 100000 in
set_option maxHeartbeats 1000000 in
theorem bits_new (h l : Int) (w : World) (hh0 : 0 ≤ h) (hh : h ≤ 18446744073709551615) (hl0 : 0 ≤ l) (hl : l ≤ 18446744073709551615) :
    Calls Tryd.prog 15 #[.agg #[.int .u64 h, .int .u64 l]] w (GivesNew (fun x => x.length = 128 ∧ val x = wide h.toNat l.toNat) w) := by
  obtain ⟨i0, hi, hz0, hz1, hz2⟩ := info_parts info_bool
  go_enter Tryd.func15, Tryd.ntmps15
  go_wp2
  go_loopw [3, 4, 5] (fun out i _ wr => ∃ (k : Nat) (x : List Bool), k ≤ 128 ∧ i = .int .i64 k ∧ OwnBits wr (w.heap.size + 1) out x ∧ Hid (x.length = k) ∧ LowOf x (wide h.toNat l.toNat) ∧
      wr.cell? ⟨w.heap.size, 0, none⟩ = some (.int .u64 h) ∧ wr.cell? ⟨w.heap.size, 1, none⟩ = some (.int .u64 l) ∧ Below w.heap.size w wr ∧ w.heap.size < wr.heap.size) (fun _ i _ _ => 128 - (intOf i).toNat)
  case atStart =>
    exact ⟨0, [], by omega, rfl, OwnBits.fresh _ _ _ (by simp) (Nat.le_refl _), Lib.hid rfl, LowOf.nil _, by simp [go_sem], by simp [go_sem], ((Below.refl _ _).alloc (Nat.le_refl _) _).alloc (by simp) _, by simp; omega⟩
  case round =>
    obtain ⟨k, x, hk, rfl, hown, hlen, hval, hc0, hc1, hbel, hsz⟩ := hrel
    by_cases h1 : k < 64
    · have hp : 0 ≤ l / 2 ^ (k % 64) := Int.ediv_nonneg hl0 (Int.le_of_lt (Int.pow_pos (by decide)))
      obtain ⟨bb, hbb⟩ : ∃ bb, (l / 2 ^ (k % 64) % 2 == 1) = bb := ⟨_, rfl⟩
      have HB := Lib.hid (bit_lo h l k x bb hh0 hl0 h1 hlen.out hbb)
      go_wp2_with (at_builtin; refine wpList_append_own _ rfl _ _ 38 rfl (w.heap.size + 1) 4 i0 (.bool false) 1 1 Tryd.underlying38 hi hz0 hz1 hz2 rfl (by decide) _ _ _ rfl (hown.1.alloc _) ⟨wr.heap.size, 0, none⟩ 1 1 [.bool bb] rfl rfl ?c1 ?c2 ?c3 ?c4 ?c5 ?_)
      case c1 => exact cell_one_new _ _ _
      case c2 => intro u hu; simp at hu; subst hu; rfl
      case c3 => have := hlen.out; unfold maxLen; omega
      case c4 => have := hlen.out; omega
      case c5 => simp; omega
      intro v' w1 hown' hgrow hiff
      have hn := bits_next hown hown' hgrow hiff hbel hsz hval hc0 hc1 HB.out
      clear hown hown' hgrow hiff hbel hval hc0 hc1
      obtain ⟨hn1, hn2, hn3, hn4, hn5, hn6⟩ := hn
      go_wp2
      go_roundw
      case rel => exact ⟨k + 1, _, by omega, by go_num, hn1, Lib.hid (by rw [List.length_append, hlen.out]; rfl), hn2, hn3, hn4, hn5, hn6⟩
      case measure => simp [intOf]; omega
    · by_cases h2 : k < 128
      · have hp : 0 ≤ h / 2 ^ (k % 64) := Int.ediv_nonneg hh0 (Int.le_of_lt (Int.pow_pos (by decide)))
        obtain ⟨bb, hbb⟩ : ∃ bb, (h / 2 ^ (k % 64) % 2 == 1) = bb := ⟨_, rfl⟩
        have HB := Lib.hid (bit_hi h l k x bb hh0 hl0 hl h1 h2 hlen.out hbb)
        go_wp2_with (at_builtin; refine wpList_append_own _ rfl _ _ 38 rfl (w.heap.size + 1) 4 i0 (.bool false) 1 1 Tryd.underlying38 hi hz0 hz1 hz2 rfl (by decide) _ _ _ rfl (hown.1.alloc _) ⟨wr.heap.size, 0, none⟩ 1 1 [.bool bb] rfl rfl ?d1 ?d2 ?d3 ?d4 ?d5 ?_)
        case d1 => exact cell_one_new _ _ _
        case d2 => intro u hu; simp at hu; subst hu; rfl
        case d3 => have := hlen.out; unfold maxLen; omega
        case d4 => have := hlen.out; omega
        case d5 => simp; omega
        intro v' w1 hown' hgrow hiff
        have hn := bits_next hown hown' hgrow hiff hbel hsz hval hc0 hc1 HB.out
        clear hown hown' hgrow hiff hbel hval hc0 hc1
        obtain ⟨hn1, hn2, hn3, hn4, hn5, hn6⟩ := hn
        go_wp2
        go_roundw
        case rel => exact ⟨k + 1, _, by omega, by go_num, hn1, Lib.hid (by rw [List.length_append, hlen.out]; rfl), hn2, hn3, hn4, hn5, hn6⟩
        case measure => simp [intOf]; omega
      · obtain rfl : k = 128 := by omega
        go_wp2
        go_ret
        exact ⟨_, _, rfl, hown.bools, ⟨hlen.out, hval.all hlen.out (wide_lt (W64.of (by omega)) (W64.of (by omega)))⟩, hbel, fun b hb => by have := (hown.1.lt b hb).1; omega⟩
theorem bits_any (h l : Int) (w : World) (hh0 : 0 ≤ h) (hh : h ≤ 18446744073709551615) (hl0 : 0 ≤ l) (hl : l ≤ 18446744073709551615) :
    Calls Tryd.prog 15 #[.agg #[.int .u64 h, .int .u64 l]] w (GivesBits (fun x => x.length = 128 ∧ val x = wide h.toNat l.toNat) w) :=
  (bits_new h l w hh0 hh hl0 hl).mono fun _ _ hg => hg.bits
/-- Of a number of 64 bits. -/
theorem bits_small (x : Int) (w : World) (h0 : 0 ≤ x) (h1 : x ≤ 18446744073709551615) :
    Calls Tryd.prog 15 #[.agg #[.int .u64 0, .int .u64 x]] w (GivesBits (fun l => l.length = 128 ∧ val l = x.toNat) w) := by
  refine (bits_any 0 x w (by decide) (by decide) h0 h1).mono ?_
  rintro e w' ⟨v, l, rfl, hb, ⟨hn, hv⟩, hbel⟩
  exact ⟨v, l, rfl, hb, ⟨hn, by rw [hv]; simp [wide]⟩, hbel⟩

end Go.Proofs.YtfdpiiahclglcaaDoor
