/-
  A slice of bits that reads as a list, in a world: what it is, and that it stays while new memory is made.
-/
import Derived.WalkKit
import Derived.WalkSmall
import Derived.Test.YthfmllgflnideaaGreatDoorProg
import Derived.Test.YthfmllgflnideaaGreatDoorPkPlain
import Derived.WalkSpells
import Derived.WalkLawsBesides
import Derived.Lib.Hide
import Derived.KernelRfl
import Derived.Deep.OwnRows
import Derived.Deep.LoopGhost
namespace Go.Proofs.YthfmllgflnideaaGreatDoor
open Go.RowKit

/-- The value is a slice that is there, and reads as the list. -/
def Bools (w : World) (v : Value) (l : List Bool) : Prop :=
  ∃ b off cap, v = .slice (some ⟨b, off, none⟩) l.length cap ∧ l.length ≤ cap ∧ b < w.heap.size ∧ ∀ i, i < l.length → w.cell? ⟨b, off + i, none⟩ = some (.bool (l.getD i false))
/-- The same, or nil and empty. -/
def BoolsN (w : World) (v : Value) (l : List Bool) : Prop := (v = .slice none 0 0 ∧ l = []) ∨ Bools w v l

theorem Bools.orNil {w : World} {v : Value} {l : List Bool} (h : Bools w v l) : BoolsN w v l := Or.inr h
theorem BoolsN.nil (w : World) : BoolsN w (.slice none 0 0) [] := Or.inl ⟨rfl, rfl⟩
theorem Bools.below {w w' : World} {v : Value} {l : List Bool} (h : Bools w v l) (hb : Below w.heap.size w w') : Bools w' v l := by
  obtain ⟨b, off, cap, rfl, hc, hlt, hcell⟩ := h
  exact ⟨b, off, cap, rfl, hc, Nat.lt_of_lt_of_le hlt hb.size, fun i hi => (hb.cell (p := ⟨b, off + i, none⟩) hlt).trans (hcell i hi)⟩
theorem Bools.alloc {w : World} {v : Value} {l : List Bool} (h : Bools w v l) (o : Obj) : Bools (w.alloc o) v l :=
  h.below ((Below.refl _ _).alloc (Nat.le_refl _) o)
theorem Bools.drew {w : World} {v : Value} {l : List Bool} (h : Bools w v l) : Bools w.drew v l := h.below (Below.refl _ _).drew
theorem Bools.drewN {w : World} {v : Value} {l : List Bool} (h : Bools w v l) (n : Nat) : Bools (w.drewN n) v l := h.below (below_drewN (Below.refl _ _) n)
theorem Bools.setCell {w : World} {v : Value} {l : List Bool} (h : Bools w v l) {a : Addr} (u : Value) (B : Nat) (hv : ∀ b, v.ownBlock = some b → b < B) (ha : B ≤ a.block) : Bools (w.setCell a u) v l := by
  obtain ⟨b, off, cap, rfl, hc, hlt, hcell⟩ := h
  have hb : Below B w (w.setCell a u) := (Below.refl _ _).setCell ha u
  have := hv b rfl
  exact ⟨b, off, cap, rfl, hc, Nat.lt_of_lt_of_le hlt hb.size, fun i hi => (hb.cell (p := ⟨b, off + i, none⟩) this).trans (hcell i hi)⟩
theorem Bools.lt {w : World} {v : Value} {l : List Bool} (h : Bools w v l) : ∀ b, v.ownBlock = some b → b < w.heap.size := by
  obtain ⟨b, off, cap, rfl, hc, hlt, hcell⟩ := h
  intro b' hb
  simp only [Value.ownBlock, Option.some.injEq] at hb
  subst hb; exact hlt
/-- Over any steps that leave what lies below a block alone. -/
theorem Bools.belowOf {w w' : World} {v : Value} {l : List Bool} (h : Bools w v l) {B : Nat} (hB : w.heap.size ≤ B) (hb : Below B w w') : Bools w' v l := h.below (hb.mono hB)
theorem BoolsN.belowOf {w w' : World} {v : Value} {l : List Bool} (h : BoolsN w v l) {B : Nat} (hB : w.heap.size ≤ B) (hb : Below B w w') : BoolsN w' v l := by
  rcases h with h | h
  · exact Or.inl h
  · exact Or.inr (h.belowOf hB hb)

/-- A slice of bits that the call has made. -/
def OwnBits (w : World) (base : Nat) (v : Value) (l : List Bool) : Prop :=
  w.ownsRow base 4 1 v l.length (l.map Value.bool) ∧ v ≠ .slice none 0 0
theorem OwnBits.bools {w : World} {base : Nat} {v : Value} {l : List Bool} (h : OwnBits w base v l) : Bools w v l := by
  obtain ⟨h, hn⟩ := h
  have hlt := h.lt
  have hcs := @World.ownsRow.cells _ _ _ _ _ _ _ h
  rcases h.2 with ⟨rfl, h0⟩ | ⟨g, cap, cur, rfl, h1, h2, h3, h4, h5, h6⟩
  · exact absurd rfl hn
  · refine ⟨g, 0, cap, rfl, h3, (hlt g rfl).2, fun i hi => ?_⟩
    have := hcs (g := g) rfl i (.bool (l.getD i false)) (by rw [List.getElem?_map, List.getElem?_eq_getElem hi, List.getD_eq_getElem?_getD, List.getElem?_eq_getElem hi]; rfl)
    rcases i with _ | i <;> simpa [Addr.add] using this
/-- A new one, of no bits. -/
theorem OwnBits.fresh (w : World) (base g : Nat) (hg : g = w.heap.size) (h : base ≤ g) : OwnBits (w.alloc (.cells #[] 4)) base (.slice (some ⟨g, 0, none⟩) 0 0) [] := by
  subst hg
  exact ⟨World.ownsRow_made w #[] 0 h (Nat.zero_le _) rfl, by simp⟩
theorem OwnBits.one (w : World) (base g : Nat) (x : Bool) (hg : g = w.heap.size) (h : base ≤ g) : OwnBits (w.alloc (.cells #[.bool x] 4)) base (.slice (some ⟨g, 0, none⟩) 1 1) [x] := by
  subst hg
  exact ⟨⟨rfl, .inr ⟨w.heap.size, 1, _, rfl, h, heap_alloc_new w _, Nat.le_refl _, by decide, rfl, rfl⟩⟩, by simp⟩
/-- The cells of a slice that is there. -/
theorem Bools.news {w : World} {b off n cap : Nat} {l : List Bool} (h : Bools w (.slice (some ⟨b, off, none⟩) n cap) l) : ∀ j u, (l.map Value.bool)[j]? = some u → w.cell? ((⟨b, off, none⟩ : Addr).add j) = some u := by
  obtain ⟨b', off', cap', he, _, _, hcell⟩ := h
  simp only [Value.slice.injEq, Option.some.injEq, Addr.mk.injEq, and_true] at he
  obtain ⟨⟨rfl, rfl⟩, _, _⟩ := he
  intro j u hj
  rw [List.getElem?_map] at hj
  obtain ⟨x, hx, rfl⟩ := Option.map_eq_some_iff.mp hj
  obtain ⟨hlt, hx⟩ := List.getElem?_eq_some_iff.mp hx
  have := hcell j hlt
  rw [List.getD_eq_getElem?_getD, List.getElem?_eq_getElem hlt, hx] at this
  rcases j with _ | j <;> simpa [Addr.add] using this
theorem Bools.at {w : World} {b off n cap : Nat} {l : List Bool} (h : Bools w (.slice (some ⟨b, off, none⟩) n cap) l) {i : Nat} (hi : i < l.length) : w.cell? ⟨b, off + i, none⟩ = some (.bool (l.getD i false)) := by
  obtain ⟨b', off', cap', he, _, _, hcell⟩ := h
  simp only [Value.slice.injEq, Option.some.injEq, Addr.mk.injEq, and_true] at he
  obtain ⟨⟨rfl, rfl⟩, _, _⟩ := he
  exact hcell i hi
theorem bools_one (l : List Bool) : ∀ u ∈ l.map Value.bool, u.oneCell' = true := by
  intro u hu
  obtain ⟨x, _, rfl⟩ := List.mem_map.mp hu
  rfl
theorem OwnBits.alloc {w : World} {base : Nat} {v : Value} {l : List Bool} (h : OwnBits w base v l) (o : Obj) : OwnBits (w.alloc o) base v l := ⟨h.1.alloc o, h.2⟩
theorem OwnBits.append {w' : World} {base : Nat} {v' : Value} {l : List Bool} {m : Nat} {news : List Bool} (h : w'.ownsRow base 4 1 v' (l.length + m) (l.map Value.bool ++ news.map Value.bool)) (hm : news.length = m)
    (hi : ¬ v' = .slice none 0 0) : OwnBits w' base v' (l ++ news) := by
  refine ⟨?_, hi⟩
  rw [List.map_append, List.length_append, hm]
  exact h
theorem info_bool : (Tryz.prog.info? 4).map (fun i => (i.zero, i.size, i.bytes)) = some (some (.bool false), 1, 1) := by kernel_rfl

end Go.Proofs.YthfmllgflnideaaGreatDoor

/-
  The document's own answers for numbers of bits, walked: a bit of a list; which of two lists is the greater number.
-/
namespace Go.Proofs.YthfmllgflnideaaGreatDoor
open Go.RowKit

theorem at_any (v : Value) (l : List Bool) (i : Nat) (w : World) (h : BoolsN w v l) (_hi : i ≤ 9223372036854775807) (hm : l.length ≤ 9223372036854775807) :
    Calls Tryz.prog 97 #[v, .int .i64 i] w fun e w' => e = .returned (.int .i64 (bitN l i)) ∧ w = w' := by
  by_cases hlt : i < l.length
  · rcases h with ⟨rfl, rfl⟩ | ⟨b, off, cap, rfl, hc, hb, hcell⟩
    · simp at hlt
    · have hx := hcell i hlt
      clear hcell
      have hx2 := Lib.hid (show bitN l i = b2n (l.getD i false) from rfl)
      generalize l.getD i false = x at hx hx2
      cases x
      all_goals
        go_enter Tryz.func97, Tryz.ntmps97
        go_wp2
        go_ret
        exact ⟨by rw [hx2.out]; rfl, rfl⟩
  · have hz := Lib.hid (bitN_beyond l i (by omega))
    rcases h with ⟨rfl, rfl⟩ | ⟨b, off, cap, rfl, hc, hb, hcell⟩
    all_goals
      go_enter Tryz.func97, Tryz.ntmps97
      go_wp2
      go_ret
      exact ⟨by rw [hz.out]; rfl, rfl⟩

/-- The same, the bit under a name. -/
theorem at_is (v : Value) (l : List Bool) (i : Nat) (x : Int) (w : World) (h : BoolsN w v l) (hi : i ≤ 9223372036854775807) (hm : l.length ≤ 9223372036854775807) (hx : Hid ((bitN l i : Int) = x)) :
    Calls Tryz.prog 97 #[v, .int .i64 i] w fun e w' => e = .returned (.int .i64 x) ∧ w = w' := by
  rw [← hx.out]; exact at_any v l i w h hi hm

theorem BoolsN.len {w : World} {v : Value} {l : List Bool} (h : BoolsN w v l) : ∃ a cap, v = .slice a l.length cap := by
  rcases h with ⟨rfl, rfl⟩ | ⟨b, off, cap, rfl, _⟩
  · exact ⟨_, _, rfl⟩
  · exact ⟨_, _, rfl⟩

end Go.Proofs.YthfmllgflnideaaGreatDoor

/-
  The document's own answers for numbers of bits, walked: the bits of a number; both of two numbers, bit by bit.
-/
namespace Go.Proofs.YthfmllgflnideaaGreatDoor
open Go.RowKit

/-- What a call hands back that makes bits: a slice of its own that reads as some list; nothing old has changed. -/
def GivesBits (P : List Bool → Prop) (w : World) (e : Ending) (w' : World) : Prop := ∃ v l, e = .returned v ∧ Bools w' v l ∧ P l ∧ Below w.heap.size w w'
def GivesNew (P : List Bool → Prop) (w : World) (e : Ending) (w' : World) : Prop := ∃ v l, e = .returned v ∧ Bools w' v l ∧ P l ∧ Below w.heap.size w w' ∧ ∀ b, v.ownBlock = some b → w.heap.size ≤ b
theorem GivesNew.bits {P : List Bool → Prop} {w : World} {e : Ending} {w' : World} : GivesNew P w e w' → GivesBits P w e w' := fun ⟨v, l, he, hb, hp, hbel, _⟩ => ⟨v, l, he, hb, hp, hbel⟩

theorem bool_of (x : Nat) (b : Bool) (hb : ((x : Int) % 2 == 1) = b) : b2n b = x % 2 := by
  subst hb
  have : x % 2 = 0 ∨ x % 2 = 1 := by omega
  rcases this with h | h
  · have : ((x : Int) % 2) = 0 := by omega
    rw [this, h]; rfl
  · have : ((x : Int) % 2) = 1 := by omega
    rw [this, h]; rfl
theorem cast_div_pow (x k : Nat) : ((x : Int) / 2 ^ k) = ((x / 2 ^ k : Nat) : Int) := by simp
theorem bit_lo (h l : Int) (k : Nat) (x : List Bool) (bb : Bool) (h0 : 0 ≤ h) (l0 : 0 ≤ l) (hk : k < 64) (hx : x.length = k) (hb : (l / 2 ^ (k % 64) % 2 == 1) = bb) : b2n bb = wide h.toNat l.toNat / 2 ^ x.length % 2 := by
  obtain ⟨h, rfl⟩ := Int.eq_ofNat_of_zero_le h0
  obtain ⟨l, rfl⟩ := Int.eq_ofNat_of_zero_le l0
  rw [hx, Int.toNat_natCast, Int.toNat_natCast, ← place_lo h l k hk]
  rw [Nat.mod_eq_of_lt hk, cast_div_pow] at hb
  exact bool_of _ _ hb
theorem bit_hi (h l : Int) (k : Nat) (x : List Bool) (bb : Bool) (h0 : 0 ≤ h) (l0 : 0 ≤ l) (hl : l ≤ 18446744073709551615) (hk : ¬ k < 64) (hk2 : k < 128) (hx : x.length = k) (hb : (h / 2 ^ (k % 64) % 2 == 1) = bb) : b2n bb = wide h.toNat l.toNat / 2 ^ x.length % 2 := by
  obtain ⟨h, rfl⟩ := Int.eq_ofNat_of_zero_le h0
  obtain ⟨l, rfl⟩ := Int.eq_ofNat_of_zero_le l0
  rw [hx, Int.toNat_natCast, Int.toNat_natCast, ← place_hi h l k (W64.of hl) (by omega)]
  rw [show k % 64 = k - 64 by omega, cast_div_pow] at hb
  exact bool_of _ _ hb
/-- One bit more: what is known of the slice, and of what lies below. -/
theorem bits_next {w wr w1 : World} {v v' : Value} {x : List Bool} {bb : Bool} {N : Nat} {c0 c1 : Value} (hown : OwnBits wr (w.heap.size + 1) v x)
    (hown' : w1.ownsRow (w.heap.size + 1) 4 1 v' (x.length + 1) (x.map Value.bool ++ [.bool bb])) (hgrow : (wr.alloc (.cells #[.bool bb] 4)).grownBy w1 v.ownBlock) (hiff : ¬ v' = .slice none 0 0)
    (hbel : Below w.heap.size w wr) (hsz : w.heap.size < wr.heap.size) (hval : LowOf x N) (hc0 : wr.cell? ⟨w.heap.size, 0, none⟩ = some c0) (hc1 : wr.cell? ⟨w.heap.size, 1, none⟩ = some c1) (hb : b2n bb = N / 2 ^ x.length % 2) :
    OwnBits w1 (w.heap.size + 1) v' (x ++ [bb]) ∧ LowOf (x ++ [bb]) N ∧ w1.cell? ⟨w.heap.size, 0, none⟩ = some c0 ∧ w1.cell? ⟨w.heap.size, 1, none⟩ = some c1 ∧ Below w.heap.size w w1 ∧ w.heap.size < w1.heap.size := by
  have hlt := hown.1.lt
  have ha : Below w.heap.size w (wr.alloc (.cells #[.bool bb] 4)) := hbel.alloc (by omega) _
  have hne : some w.heap.size ≠ v.ownBlock := fun e => by have := (hlt _ e.symm).1; omega
  refine ⟨OwnBits.append (news := [bb]) hown' rfl hiff, hval.next hb, ?_, ?_, ha.grown hgrow (by simp; omega) (fun k hk => by have := (hlt _ hk).1; omega), ?_⟩
  · exact hgrow.cell ((((Below.refl wr.heap.size wr).alloc (Nat.le_refl _) _).cell (p := ⟨w.heap.size, 0, none⟩) hsz).trans hc0) hne
  · exact hgrow.cell ((((Below.refl wr.heap.size wr).alloc (Nat.le_refl _) _).cell (p := ⟨w.heap.size, 1, none⟩) hsz).trans hc1) hne
  · have := hgrow.size; simp at this; omega

set_option maxRecDepth 100000 in
set_option maxHeartbeats 1000000 in
theorem bits_new (h l : Int) (w : World) (hh0 : 0 ≤ h) (hh : h ≤ 18446744073709551615) (hl0 : 0 ≤ l) (hl : l ≤ 18446744073709551615) :
    Calls Tryz.prog 75 #[.agg #[.int .u64 h, .int .u64 l]] w (GivesNew (fun x => x.length = 128 ∧ val x = wide h.toNat l.toNat) w) := by
  obtain ⟨i0, hi, hz0, hz1, hz2⟩ := info_parts info_bool
  go_enter Tryz.func75, Tryz.ntmps75
  go_wp2
  go_loopw [3, 4, 5] (fun out i _ wr => ∃ (k : Nat) (x : List Bool), k ≤ 128 ∧ i = .int .i64 k ∧ OwnBits wr (w.heap.size + 1) out x ∧ Hid (x.length = k) ∧ LowOf x (wide h.toNat l.toNat) ∧
      wr.cell? ⟨w.heap.size, 0, none⟩ = some (.int .u64 h) ∧ wr.cell? ⟨w.heap.size, 1, none⟩ = some (.int .u64 l) ∧ Below w.heap.size w wr ∧ w.heap.size < wr.heap.size) (fun _ i _ _ => 128 - (intOf i).toNat)
  case atStart =>
    exact ⟨0, [], by omega, rfl, OwnBits.fresh _ _ _ (by simp) (Nat.le_refl _), Lib.hid rfl, LowOf.nil _, by simp [go_sem], by simp [go_sem], ((Below.refl _ _).alloc (Nat.le_refl _) _).alloc (by simp) _, by simp; omega⟩
  case round =>
    obtain ⟨k, x, hk, rfl, hown, hlen, hval, hc0, hc1, hbel, hsz⟩ := hrel
    by_cases h1 : k < 64
    · have hp : 0 ≤ l / 2 ^ (k % 64) := Int.ediv_nonneg hl0 (Int.le_of_lt (Int.pow_pos (by decide)))
      obtain ⟨bb, hbb⟩ : ∃ bb, (l / 2 ^ (k % 64) % 2 == 1) = bb := ⟨_, rfl⟩
      have HB := Lib.hid (bit_lo h l k x bb hh0 hl0 h1 hlen.out hbb)
      go_wp2_with (at_builtin; refine wpList_append_own _ rfl _ _ 107 rfl (w.heap.size + 1) 4 i0 (.bool false) 1 1 Tryz.underlying107 hi hz0 hz1 hz2 rfl (by decide) _ _ _ rfl (hown.1.alloc _) ⟨wr.heap.size, 0, none⟩ 1 1 [.bool bb] rfl rfl ?c1 ?c2 ?c3 ?c4 ?c5 ?_)
      case c1 => exact cell_one_new _ _ _
      case c2 => intro u hu; simp at hu; subst hu; rfl
      case c3 => have := hlen.out; unfold maxLen; omega
      case c4 => have := hlen.out; omega
      case c5 => simp; omega
      intro v' w1 hown' hgrow hiff
      have hn := bits_next hown hown' hgrow hiff hbel hsz hval hc0 hc1 HB.out
      clear hown hown' hgrow hiff hbel hval hc0 hc1
      obtain ⟨hn1, hn2, hn3, hn4, hn5, hn6⟩ := hn
      go_wp2
      go_roundw
      case rel => exact ⟨k + 1, _, by omega, by go_num, hn1, Lib.hid (by rw [List.length_append, hlen.out]; rfl), hn2, hn3, hn4, hn5, hn6⟩
      case measure => simp [intOf]; omega
    · by_cases h2 : k < 128
      · have hp : 0 ≤ h / 2 ^ (k % 64) := Int.ediv_nonneg hh0 (Int.le_of_lt (Int.pow_pos (by decide)))
        obtain ⟨bb, hbb⟩ : ∃ bb, (h / 2 ^ (k % 64) % 2 == 1) = bb := ⟨_, rfl⟩
        have HB := Lib.hid (bit_hi h l k x bb hh0 hl0 hl h1 h2 hlen.out hbb)
        go_wp2_with (at_builtin; refine wpList_append_own _ rfl _ _ 107 rfl (w.heap.size + 1) 4 i0 (.bool false) 1 1 Tryz.underlying107 hi hz0 hz1 hz2 rfl (by decide) _ _ _ rfl (hown.1.alloc _) ⟨wr.heap.size, 0, none⟩ 1 1 [.bool bb] rfl rfl ?d1 ?d2 ?d3 ?d4 ?d5 ?_)
        case d1 => exact cell_one_new _ _ _
        case d2 => intro u hu; simp at hu; subst hu; rfl
        case d3 => have := hlen.out; unfold maxLen; omega
        case d4 => have := hlen.out; omega
        case d5 => simp; omega
        intro v' w1 hown' hgrow hiff
        have hn := bits_next hown hown' hgrow hiff hbel hsz hval hc0 hc1 HB.out
        clear hown hown' hgrow hiff hbel hval hc0 hc1
        obtain ⟨hn1, hn2, hn3, hn4, hn5, hn6⟩ := hn
        go_wp2
        go_roundw
        case rel => exact ⟨k + 1, _, by omega, by go_num, hn1, Lib.hid (by rw [List.length_append, hlen.out]; rfl), hn2, hn3, hn4, hn5, hn6⟩
        case measure => simp [intOf]; omega
      · obtain rfl : k = 128 := by omega
        go_wp2
        go_ret
        exact ⟨_, _, rfl, hown.bools, ⟨hlen.out, hval.all hlen.out (wide_lt (W64.of (by omega)) (W64.of (by omega)))⟩, hbel, fun b hb => by have := (hown.1.lt b hb).1; omega⟩
theorem bits_any (h l : Int) (w : World) (hh0 : 0 ≤ h) (hh : h ≤ 18446744073709551615) (hl0 : 0 ≤ l) (hl : l ≤ 18446744073709551615) :
    Calls Tryz.prog 75 #[.agg #[.int .u64 h, .int .u64 l]] w (GivesBits (fun x => x.length = 128 ∧ val x = wide h.toNat l.toNat) w) :=
  (bits_new h l w hh0 hh hl0 hl).mono fun _ _ hg => hg.bits
/-- Of a number of 64 bits. -/
theorem bits_small (x : Int) (w : World) (h0 : 0 ≤ x) (h1 : x ≤ 18446744073709551615) :
    Calls Tryz.prog 75 #[.agg #[.int .u64 0, .int .u64 x]] w (GivesBits (fun l => l.length = 128 ∧ val l = x.toNat) w) := by
  refine (bits_any 0 x w (by decide) (by decide) h0 h1).mono ?_
  rintro e w' ⟨v, l, rfl, hb, ⟨hn, hv⟩, hbel⟩
  exact ⟨v, l, rfl, hb, ⟨hn, by rw [hv]; simp [wide]⟩, hbel⟩

end Go.Proofs.YthfmllgflnideaaGreatDoor

/-
  The document's own answers for numbers of bits, walked: both, bit by bit; one times the other.
-/
namespace Go.Proofs.YthfmllgflnideaaGreatDoor
open Go.RowKit

/-- One place more of a sum: what is known of the slice, and of what lies below. -/
theorem own_next {w wr w1 : World} {v v' : Value} {x : List Bool} {bb : Bool} (hown : OwnBits wr w.heap.size v x)
    (hown' : w1.ownsRow w.heap.size 4 1 v' (x.length + 1) (x.map Value.bool ++ [.bool bb])) (hgrow : (wr.alloc (.cells #[.bool bb] 4)).grownBy w1 v.ownBlock) (hiff : ¬ v' = .slice none 0 0)
    (hbel : Below w.heap.size w wr) : OwnBits w1 w.heap.size v' (x ++ [bb]) ∧ Below w.heap.size w w1 := by
  have hlt := hown.1.lt
  have hsz := hbel.size
  exact ⟨OwnBits.append (news := [bb]) hown' rfl hiff, (hbel.alloc hsz _).grown hgrow (by simp; omega) (fun k hk => (hlt _ hk).1)⟩
/-- What a place of a sum comes to. -/
theorem sum_place (x y : Int) (c : Nat) (bx by' : Nat) (hx : (bx : Int) = x) (hy : (by' : Int) = y) : ∃ (bb : Bool) (c' : Nat), ((x + y + (c : Int)) % 2 == 1) = bb ∧ (x + y + (c : Int)) / 2 = (c' : Int) ∧ b2n bb = (bx + by' + c) % 2 ∧ c' = (bx + by' + c) / 2 := by
  subst hx; subst hy
  refine ⟨_, (bx + by' + c) / 2, rfl, by omega, ?_, rfl⟩
  have e : ((bx : Int) + (by' : Int) + (c : Int)) = ((bx + by' + c : Nat) : Int) := by omega
  rw [e]; exact bool_of _ _ rfl

theorem at_two (la lb : List Bool) (k : Nat) : (∃ x : Int, 0 ≤ x ∧ x ≤ 1 ∧ Hid ((bitN la k : Int) = x)) ∧ (∃ y : Int, 0 ≤ y ∧ y ≤ 1 ∧ Hid ((bitN lb k : Int) = y)) :=
  ⟨⟨bitN la k, by omega, by have := bitN_le la k; omega, rfl⟩, ⟨bitN lb k, by omega, by have := bitN_le lb k; omega, rfl⟩⟩
/-- What the places so far come to. -/
def SumTo (la lb x : List Bool) (c : Nat) : Prop := val x + 2 ^ x.length * c = lo la x.length + lo lb x.length
theorem SumTo.nil (la lb : List Bool) : SumTo la lb [] 0 := by simp [SumTo, val, lo_zero]
theorem SumTo.next {la lb x : List Bool} {c c' : Nat} {bb : Bool} (h : SumTo la lb x c) (hb : b2n bb = (bitN la x.length + bitN lb x.length + c) % 2) (hc : c' = (bitN la x.length + bitN lb x.length + c) / 2) : SumTo la lb (x ++ [bb]) c' := by
  unfold SumTo at *
  rw [val_append, List.length_append, List.length_singleton, lo_succ, lo_succ, hb, hc]
  exact plus_step _ _ _ _ _ _ _ _ h rfl
theorem SumTo.all {la lb x : List Bool} (h : SumTo la lb x 0) (h1 : la.length ≤ x.length) (h2 : lb.length ≤ x.length) : val x = val la + val lb := by
  unfold SumTo at h
  rw [lo_all _ _ h1, lo_all _ _ h2] at h
  simpa using h

set_option maxRecDepth 100000 in
set_option maxHeartbeats 2000000 in
theorem plus_new (va vb : Value) (la lb : List Bool) (w : World) (ha : BoolsN w va la) (hb : BoolsN w vb lb) (hma : la.length ≤ 1000000) (hmb : lb.length ≤ 1000000) :
    Calls Tryz.prog 73 #[va, vb] w (GivesNew (fun x => x.length ≤ max la.length lb.length + 1 ∧ val x = val la + val lb) w) := by
  obtain ⟨i0, hi, hz0, hz1, hz2⟩ := info_parts info_bool
  have HA := Lib.hid ha
  have HB := Lib.hid hb
  obtain ⟨aa, ca, rfl⟩ := ha.len
  obtain ⟨ab, cb, rfl⟩ := hb.len
  clear ha hb
  go_enter Tryz.func73, Tryz.ntmps73
  go_wp2
  go_loopw [5, 6, 7, 8] (fun out up i _ wr => ∃ (k c : Nat) (x : List Bool), k ≤ 1000002 ∧ c ≤ 1 ∧ (k ≤ max la.length lb.length ∨ c = 0) ∧ k ≤ max la.length lb.length + 1 ∧ i = .int .i64 k ∧ up = .int .i64 c ∧ OwnBits wr w.heap.size out x ∧ Hid (x.length = k) ∧ SumTo la lb x c ∧ Below w.heap.size w wr)
    (fun _ _ i _ _ => max la.length lb.length + 1 - (intOf i).toNat)
  case atStart =>
    exact ⟨0, 0, [], by omega, by omega, Or.inr rfl, by omega, rfl, rfl, OwnBits.fresh _ _ _ rfl (Nat.le_refl _), Lib.hid rfl, SumTo.nil _ _, (Below.refl _ _).alloc (Nat.le_refl _) _⟩
  case round =>
    obtain ⟨k, c, x, hk, hc, hor, hkm, rfl, rfl, hown, hlen, hval, hbel⟩ := hrel
    replace hor := Lib.hid hor
    by_cases h1 : k < la.length
    · obtain ⟨t1, t2⟩ := at_two la lb k
      obtain ⟨x1, hx1, hx2, HX⟩ := t1
      obtain ⟨y1, hy1, hy2, HY⟩ := t2
      obtain ⟨bb, c', hbb, hcc, hb', hc'⟩ := sum_place x1 y1 c _ _ HX.out HY.out
      have hc1 : c' ≤ 1 := by have := bitN_le la k; have := bitN_le lb k; omega
      have hor' := Lib.hid (show k + 1 ≤ max la.length lb.length ∨ c' = 0 by omega)
      have hk1 : Hid (k < max la.length lb.length + 1) := by have := hor.out; unfold Hid; omega
      have HN := Lib.hid (show SumTo la lb (x ++ [bb]) c' from hval.next (by rw [hlen.out]; exact hb') (by rw [hlen.out]; exact hc'))
      have HA1 := Lib.hid (HA.out.belowOf (Nat.le_refl _) hbel)
      have HB1 := Lib.hid (HB.out.belowOf (Nat.le_refl _) hbel)
      clear hb' hc'
      go_wp2_with (first | (go_at_call 97; (with_reducible refine (at_is _ la _ x1 _ HA1.out (by omega) (by omega) HX).mono ?_); rintro e w' ⟨rfl, rfl⟩) | (go_at_call 97; (with_reducible refine (at_is _ lb _ y1 _ HB1.out (by omega) (by omega) HY).mono ?_); rintro e w' ⟨rfl, rfl⟩) | (at_builtin; refine wpList_append_own _ rfl _ _ 107 rfl w.heap.size 4 i0 (.bool false) 1 1 Tryz.underlying107 hi hz0 hz1 hz2 rfl (by decide) _ _ _ rfl (hown.1.alloc _) ⟨wr.heap.size, 0, none⟩ 1 1 [.bool bb] rfl rfl ?c11 ?c12 ?c13 ?c14 ?c15 ?_))
      case c11 => exact cell_one_new _ _ _
      case c12 => intro u hu; simp at hu; subst hu; rfl
      case c13 => have := hlen.out; unfold maxLen; omega
      case c14 => have := hlen.out; omega
      case c15 => have := hbel.size; simp; omega
      intro v' w1 hown' hgrow hiff
      have hn := own_next hown hown' hgrow hiff hbel
      clear hown hown' hgrow hiff hbel hval HA1 HB1
      obtain ⟨hn1, hn2⟩ := hn
      go_wp2
      go_roundw
      case rel => exact ⟨k + 1, c', _, by omega, hc1, hor'.out, hk1.out, by go_num, by rw [hcc], hn1, Lib.hid (by rw [List.length_append, hlen.out]; rfl), HN.out, hn2⟩
      case measure => have := hk1.out; simp [intOf]; omega
    · by_cases h2 : k < lb.length
      · obtain ⟨t1, t2⟩ := at_two la lb k
        obtain ⟨x1, hx1, hx2, HX⟩ := t1
        obtain ⟨y1, hy1, hy2, HY⟩ := t2
        obtain ⟨bb, c', hbb, hcc, hb', hc'⟩ := sum_place x1 y1 c _ _ HX.out HY.out
        have hc1 : c' ≤ 1 := by have := bitN_le la k; have := bitN_le lb k; omega
        have hor' := Lib.hid (show k + 1 ≤ max la.length lb.length ∨ c' = 0 by omega)
        have hk1 : Hid (k < max la.length lb.length + 1) := by have := hor.out; unfold Hid; omega
        have HN := Lib.hid (show SumTo la lb (x ++ [bb]) c' from hval.next (by rw [hlen.out]; exact hb') (by rw [hlen.out]; exact hc'))
        have HA1 := Lib.hid (HA.out.belowOf (Nat.le_refl _) hbel)
        have HB1 := Lib.hid (HB.out.belowOf (Nat.le_refl _) hbel)
        clear hb' hc'
        go_wp2_with (first | (go_at_call 97; (with_reducible refine (at_is _ la _ x1 _ HA1.out (by omega) (by omega) HX).mono ?_); rintro e w' ⟨rfl, rfl⟩) | (go_at_call 97; (with_reducible refine (at_is _ lb _ y1 _ HB1.out (by omega) (by omega) HY).mono ?_); rintro e w' ⟨rfl, rfl⟩) | (at_builtin; refine wpList_append_own _ rfl _ _ 107 rfl w.heap.size 4 i0 (.bool false) 1 1 Tryz.underlying107 hi hz0 hz1 hz2 rfl (by decide) _ _ _ rfl (hown.1.alloc _) ⟨wr.heap.size, 0, none⟩ 1 1 [.bool bb] rfl rfl ?c21 ?c22 ?c23 ?c24 ?c25 ?_))
        case c21 => exact cell_one_new _ _ _
        case c22 => intro u hu; simp at hu; subst hu; rfl
        case c23 => have := hlen.out; unfold maxLen; omega
        case c24 => have := hlen.out; omega
        case c25 => have := hbel.size; simp; omega
        intro v' w1 hown' hgrow hiff
        have hn := own_next hown hown' hgrow hiff hbel
        clear hown hown' hgrow hiff hbel hval HA1 HB1
        obtain ⟨hn1, hn2⟩ := hn
        go_wp2
        go_roundw
        case rel => exact ⟨k + 1, c', _, by omega, hc1, hor'.out, hk1.out, by go_num, by rw [hcc], hn1, Lib.hid (by rw [List.length_append, hlen.out]; rfl), HN.out, hn2⟩
        case measure => have := hk1.out; simp [intOf]; omega
      · by_cases h3 : 0 < c
        · obtain ⟨t1, t2⟩ := at_two la lb k
          obtain ⟨x1, hx1, hx2, HX⟩ := t1
          obtain ⟨y1, hy1, hy2, HY⟩ := t2
          obtain ⟨bb, c', hbb, hcc, hb', hc'⟩ := sum_place x1 y1 c _ _ HX.out HY.out
          have hc1 : c' ≤ 1 := by have := bitN_le la k; have := bitN_le lb k; omega
          have hor' := Lib.hid (show k + 1 ≤ max la.length lb.length ∨ c' = 0 by have := HX.out; have := HY.out; have := bitN_beyond la k (by omega); have := bitN_beyond lb k (by omega); omega)
          have hk1 : Hid (k < max la.length lb.length + 1) := by have := hor.out; unfold Hid; omega
          have HN := Lib.hid (show SumTo la lb (x ++ [bb]) c' from hval.next (by rw [hlen.out]; exact hb') (by rw [hlen.out]; exact hc'))
          have HA1 := Lib.hid (HA.out.belowOf (Nat.le_refl _) hbel)
          have HB1 := Lib.hid (HB.out.belowOf (Nat.le_refl _) hbel)
          clear hb' hc'
          go_wp2_with (first | (go_at_call 97; (with_reducible refine (at_is _ la _ x1 _ HA1.out (by omega) (by omega) HX).mono ?_); rintro e w' ⟨rfl, rfl⟩) | (go_at_call 97; (with_reducible refine (at_is _ lb _ y1 _ HB1.out (by omega) (by omega) HY).mono ?_); rintro e w' ⟨rfl, rfl⟩) | (at_builtin; refine wpList_append_own _ rfl _ _ 107 rfl w.heap.size 4 i0 (.bool false) 1 1 Tryz.underlying107 hi hz0 hz1 hz2 rfl (by decide) _ _ _ rfl (hown.1.alloc _) ⟨wr.heap.size, 0, none⟩ 1 1 [.bool bb] rfl rfl ?c31 ?c32 ?c33 ?c34 ?c35 ?_))
          case c31 => exact cell_one_new _ _ _
          case c32 => intro u hu; simp at hu; subst hu; rfl
          case c33 => have := hlen.out; unfold maxLen; omega
          case c34 => have := hlen.out; omega
          case c35 => have := hbel.size; simp; omega
          intro v' w1 hown' hgrow hiff
          have hn := own_next hown hown' hgrow hiff hbel
          clear hown hown' hgrow hiff hbel hval HA1 HB1
          obtain ⟨hn1, hn2⟩ := hn
          go_wp2
          go_roundw
          case rel => exact ⟨k + 1, c', _, by omega, hc1, hor'.out, hk1.out, by go_num, by rw [hcc], hn1, Lib.hid (by rw [List.length_append, hlen.out]; rfl), HN.out, hn2⟩
          case measure => have := hk1.out; simp [intOf]; omega
        · obtain rfl : c = 0 := by omega
          go_wp2
          go_ret
          exact ⟨_, _, rfl, hown.bools, ⟨by rw [hlen.out]; exact hkm, hval.all (by rw [hlen.out]; omega) (by rw [hlen.out]; omega)⟩, hbel, fun b hb => (hown.1.lt b hb).1⟩
theorem plus_any (va vb : Value) (la lb : List Bool) (w : World) (ha : BoolsN w va la) (hb : BoolsN w vb lb) (hma : la.length ≤ 1000000) (hmb : lb.length ≤ 1000000) :
    Calls Tryz.prog 73 #[va, vb] w (GivesBits (fun x => x.length ≤ max la.length lb.length + 1 ∧ val x = val la + val lb) w) :=
  (plus_new va vb la lb w ha hb hma hmb).mono fun _ _ hg => hg.bits

end Go.Proofs.YthfmllgflnideaaGreatDoor

/-
  The document's own answers for numbers of bits, walked: one times the other.
-/
namespace Go.Proofs.YthfmllgflnideaaGreatDoor
open Go.RowKit

/-- One place further: what is appended to one bit. -/
theorem times_next {W w3 : World} {v3 : Value} {ls : List Bool} (hown : w3.ownsRow W.heap.size 4 1 v3 (1 + ls.length) ([Value.bool false] ++ ls.map Value.bool))
    (hgrow : (W.alloc (.cells #[.bool false] 4)).grownBy w3 (some W.heap.size)) (hiff : ¬ v3 = .slice none 0 0) : Bools w3 v3 (false :: ls) ∧ Below W.heap.size W w3 :=
  ⟨(OwnBits.append (l := [false]) hown rfl hiff).bools, ((Below.refl _ _).alloc (Nat.le_refl _) _).grown hgrow (by simp) (fun k hk => by simp only [Option.some.injEq] at hk; omega)⟩

/-- What is known at the head of a round. -/
structure TimesAt (la lb lo' ls : List Bool) (k : Nat) : Prop where
  len1 : ls.length = la.length + k
  len2 : lo'.length ≤ la.length + k
  vs : val ls = val la * 2 ^ k
  vo : val lo' = val la * lo lb k
theorem TimesAt.start (la lb : List Bool) : TimesAt la lb [] la 0 := ⟨rfl, Nat.zero_le _, by simp, by simp [val, lo_zero]⟩
theorem TimesAt.yes {la lb lo' ls l2 : List Bool} {k : Nat} (h : TimesAt la lb lo' ls k) (hb : lb.getD k false = true) (hl : l2.length ≤ max lo'.length ls.length + 1) (hv : val l2 = val lo' + val ls) : TimesAt la lb l2 (false :: ls) (k + 1) := by
  obtain ⟨h1, h2, h3, h4⟩ := h
  refine ⟨by simp; omega, by omega, by rw [val_false, h3, Nat.pow_succ]; grind, ?_⟩
  have e : bitN lb k = 1 := by unfold bitN; rw [hb]; rfl
  rw [hv, h3, h4, lo_succ, e]; grind
theorem TimesAt.no {la lb lo' ls : List Bool} {k : Nat} (h : TimesAt la lb lo' ls k) (hb : lb.getD k false = false) : TimesAt la lb lo' (false :: ls) (k + 1) := by
  obtain ⟨h1, h2, h3, h4⟩ := h
  refine ⟨by simp; omega, by omega, by rw [val_false, h3, Nat.pow_succ]; grind, ?_⟩
  have e : bitN lb k = 0 := by unfold bitN; rw [hb]; rfl
  rw [h4, lo_succ, e]; simp

set_option maxRecDepth 100000 in
set_option maxHeartbeats 2000000 in
theorem times_any (va vb : Value) (la lb : List Bool) (w : World) (ha : Bools w va la) (hb : Bools w vb lb) (hma : la.length ≤ 100000) (hmb : lb.length ≤ 100000) :
    Calls Tryz.prog 74 #[va, vb] w (GivesBits (fun x => x.length ≤ la.length + lb.length ∧ val x = val la * val lb) w) := by
  obtain ⟨i0, hi, hz0, hz1, hz2⟩ := info_parts info_bool
  have HA := Lib.hid ha
  have HB := Lib.hid hb
  obtain ⟨ba, oa, ca, rfl, _, _, hca⟩ := ha
  obtain ⟨bb, ob, cb, rfl, _, hlb, hcb⟩ := hb
  clear hca hcb
  go_enter Tryz.func74, Tryz.ntmps74
  go_wp2_with (at_builtin; refine wpList_append_own _ rfl _ _ 107 rfl (w.heap.size + 1) 4 i0 (.bool false) 1 1 Tryz.underlying107 hi hz0 hz1 hz2 rfl (by decide) _ 0 [] rfl (OwnBits.fresh _ _ _ (by simp) (Nat.le_refl _)).1 ⟨ba, oa, none⟩ la.length ca (la.map Value.bool) rfl (by simp) ?c1 ?c2 ?c3 ?c4 ?c5 ?_)
  case c1 => exact ((HA.out.alloc _).alloc _).news
  case c2 => exact bools_one la
  case c3 => unfold maxLen; omega
  case c4 => omega
  case c5 => simp
  intro v1 w1 hown1 hgrow1 hiff1
  have hb1 : Bools w1 v1 la := (show OwnBits w1 (w.heap.size + 1) v1 la from ⟨by simpa using hown1, by simpa using hiff1⟩).bools
  have hbel1 : Below w.heap.size w w1 := (((Below.refl _ _).alloc (Nat.le_refl _) _).alloc (by simp) _).grown hgrow1 (by simp; omega) (fun k hk => by simp only [Value.ownBlock, Option.some.injEq] at hk; omega)
  have hbel2 : Below (w.heap.size + 1) (w.alloc (.cells #[] 4)) w1 := ((Below.refl _ _).alloc (by simp) _).grown hgrow1 (by simp) (fun k hk => by simp only [Value.ownBlock, Option.some.injEq] at hk; omega)
  have hbo : Bools w1 (.slice (some ⟨w.heap.size, 0, none⟩) 0 0) [] := (OwnBits.fresh w w.heap.size _ rfl (Nat.le_refl _)).bools.belowOf (by simp) hbel2
  clear hown1 hgrow1 hiff1 hbel2
  go_wp2
  go_loopw [5, 6, 7] (fun vo vs i wr => ∃ (k : Nat) (lo' ls : List Bool), k ≤ lb.length ∧ i = .int .i64 k ∧ Bools wr vo lo' ∧ Bools wr vs ls ∧ TimesAt la lb lo' ls k ∧ Below w.heap.size w wr) (fun _ _ i _ => lb.length - (intOf i).toNat)
  case atStart => exact ⟨0, [], la, Nat.zero_le _, rfl, hbo, hb1, TimesAt.start la lb, hbel1⟩
  case round =>
    obtain ⟨k, lo', ls, hk, rfl, hvo, hvs, hT, hbel⟩ := hrel
    clear hb1 hbel1 hbo
    replace hvo := Lib.hid hvo
    have HS := Lib.hid hvs
    obtain ⟨bs, os, cs, rfl, _, _, hcs⟩ := hvs
    clear hcs
    have hlen := Lib.hid (And.intro hT.len1 hT.len2)
    by_cases h1 : k < lb.length
    · have hcell := (HB.out.below hbel).at h1
      by_cases h2 : lb.getD k false = true
      · rw [h2] at hcell
        replace h2 := Lib.hid h2
        go_wp2_with (first | (go_at_call 73; refine (plus_any _ _ lo' ls _ hvo.out.orNil HS.out.orNil (by have := hlen.out; omega) (by have := hlen.out; omega)).mono ?_; rintro e w2 ⟨v2, l2, rfl, hb2, ⟨hlen2, hval2⟩, hbel2⟩) | (at_builtin; refine wpList_append_own _ rfl _ _ 107 rfl w2.heap.size 4 i0 (.bool false) 1 1 Tryz.underlying107 hi hz0 hz1 hz2 rfl (by decide) _ 1 [.bool false] rfl (OwnBits.one _ _ _ false rfl (Nat.le_refl _)).1 ⟨bs, os, none⟩ ls.length cs (ls.map Value.bool) rfl (by simp) ?c21 ?c22 ?c23 ?c24 ?c25 ?_))
        case c21 => exact ((HS.out.below hbel2).alloc _).news
        case c22 => exact bools_one ls
        case c23 => have := hlen.out; unfold maxLen; omega
        case c24 => have := hlen.out; omega
        case c25 => simp
        intro v3 w3 hown3 hgrow3 hiff3
        have hn := times_next hown3 hgrow3 hiff3
        clear hown3 hgrow3 hiff3
        obtain ⟨hn1, hn2⟩ := hn
        have hT' := hT.yes h2.out hlen2 hval2
        have hbel3 := (hbel.trans (hbel2.mono hbel.size)).trans (hn2.mono (Nat.le_trans hbel.size hbel2.size))
        have hb3 := hb2.below hn2
        clear hT hlen2 hval2 hbel hbel2 hn2 hb2 hvo HS hcell
        go_wp2
        go_roundw
        case rel => exact ⟨k + 1, l2, _, by omega, by go_num, hb3, hn1, hT', hbel3⟩
        case measure => simp [intOf]; omega
      · replace h2 : lb.getD k false = false := by simpa using h2
        rw [h2] at hcell
        replace h2 := Lib.hid h2
        go_wp2_with (at_builtin; refine wpList_append_own _ rfl _ _ 107 rfl wr.heap.size 4 i0 (.bool false) 1 1 Tryz.underlying107 hi hz0 hz1 hz2 rfl (by decide) _ 1 [.bool false] rfl (OwnBits.one _ _ _ false rfl (Nat.le_refl _)).1 ⟨bs, os, none⟩ ls.length cs (ls.map Value.bool) rfl (by simp) ?c31 ?c32 ?c33 ?c34 ?c35 ?_)
        case c31 => exact (HS.out.alloc _).news
        case c32 => exact bools_one ls
        case c33 => have := hlen.out; unfold maxLen; omega
        case c34 => have := hlen.out; omega
        case c35 => simp
        intro v3 w3 hown3 hgrow3 hiff3
        have hn := times_next hown3 hgrow3 hiff3
        clear hown3 hgrow3 hiff3
        obtain ⟨hn1, hn2⟩ := hn
        have hT' := hT.no h2.out
        have hbel3 := hbel.trans (hn2.mono hbel.size)
        have hb3 := Lib.hid (hvo.out.below hn2)
        clear hT hbel hn2 hvo HS hcell
        go_wp2
        go_roundw
        case rel => exact ⟨k + 1, lo', _, by omega, by go_num, hb3.out, hn1, hT', hbel3⟩
        case measure => simp [intOf]; omega
    · obtain rfl : k = lb.length := by omega
      go_wp2
      go_ret
      exact ⟨_, _, rfl, hvo.out, ⟨hT.len2, by rw [hT.vo, lo_all _ _ (Nat.le_refl _)]⟩, hbel⟩
end Go.Proofs.YthfmllgflnideaaGreatDoor

/-
  The document's own answers for numbers of bits, walked: bits as a number; whether an answer is what bits say.
-/
namespace Go.Proofs.YthfmllgflnideaaGreatDoor
open Go.RowKit

/-- What Of hands back. -/
def GivesOf (N : Nat) (w : World) (e : Ending) (w' : World) : Prop := ∃ (h l : Int) (ok : Bool), e = .returned (.tuple #[.agg #[.int .u64 h, .int .u64 l], .bool ok]) ∧ IsW h l (capN N) ∧ (ok = true ↔ W128 N) ∧ Below w.heap.size w w'

/-- What stands in the call's own memory. -/
structure OfMem (w wr : World) (h l : Int) : Prop where
  r0 : wr.cell? ⟨w.heap.size, 0, none⟩ = some (.int .u64 0)
  r1 : wr.cell? ⟨w.heap.size, 1, none⟩ = some (.int .u64 0)
  q0 : wr.frozen? ⟨w.heap.size, 0, none⟩ = false
  q1 : wr.frozen? ⟨w.heap.size, 1, none⟩ = false
  c0 : wr.cell? ⟨w.heap.size + 1, 0, none⟩ = some (.int .u64 h)
  c1 : wr.cell? ⟨w.heap.size + 1, 1, none⟩ = some (.int .u64 l)
  f0 : wr.frozen? ⟨w.heap.size + 1, 0, none⟩ = false
  f1 : wr.frozen? ⟨w.heap.size + 1, 1, none⟩ = false
  bel : Below w.heap.size w wr
  size : wr.heap.size = w.heap.size + 2
theorem OfMem.putHi {w wr : World} {h l : Int} (m : OfMem w wr h l) (x : Int) : OfMem w (wr.setCell ⟨w.heap.size + 1, 0, none⟩ (.int .u64 x)) x l := by
  obtain ⟨r0, r1, q0, q1, c0, c1, f0, f1, bel, size⟩ := m
  refine ⟨?_, ?_, by rw [World.frozen?_setCell]; exact q0, by rw [World.frozen?_setCell]; exact q1, World.cell?_setCell_same _ _ _ c0, ?_, by rw [World.frozen?_setCell]; exact f0, by rw [World.frozen?_setCell]; exact f1, bel.setCell (by simp) _, by simpa using size⟩
  · rw [World.cell?_setCell_other _ _ _ _ (by simp)]; exact r0
  · rw [World.cell?_setCell_other _ _ _ _ (by simp)]; exact r1
  · rw [World.cell?_setCell_other _ _ _ _ (by simp)]; exact c1
theorem OfMem.putLo {w wr : World} {h l : Int} (m : OfMem w wr h l) (x : Int) : OfMem w (wr.setCell ⟨w.heap.size + 1, 1, none⟩ (.int .u64 x)) h x := by
  obtain ⟨r0, r1, q0, q1, c0, c1, f0, f1, bel, size⟩ := m
  refine ⟨?_, ?_, by rw [World.frozen?_setCell]; exact q0, by rw [World.frozen?_setCell]; exact q1, ?_, World.cell?_setCell_same _ _ _ c1, by rw [World.frozen?_setCell]; exact f0, by rw [World.frozen?_setCell]; exact f1, bel.setCell (by simp) _, by simpa using size⟩
  · rw [World.cell?_setCell_other _ _ _ _ (by simp)]; exact r0
  · rw [World.cell?_setCell_other _ _ _ _ (by simp)]; exact r1
  · rw [World.cell?_setCell_other _ _ _ _ (by simp)]; exact c0

theorem pow_small (k : Nat) (hk : k < 64) : (0 : Int) ≤ 2 ^ k ∧ (2 : Int) ^ k ≤ 9223372036854775808 := by
  have h2 : 2 ^ k ≤ 2 ^ 63 := Nat.pow_le_pow_right (by decide) (by omega)
  have h3 : ((2 ^ k : Nat) : Int) ≤ ((2 ^ 63 : Nat) : Int) := Int.ofNat_le.mpr h2
  rw [two_pow_cast]
  exact ⟨Int.natCast_nonneg _, h3⟩

set_option maxRecDepth 100000 in
set_option maxHeartbeats 1000000 in
theorem of_any (v : Value) (x : List Bool) (w : World) (hv : Bools w v x) (hx : x.length ≤ 1000000) :
    Calls Tryz.prog 76 #[v] w (GivesOf (val x) w) := by
  have HV := Lib.hid hv
  obtain ⟨b, off, cap, rfl, _, hlt, hcs⟩ := hv
  clear hcs
  go_enter Tryz.func76, Tryz.ntmps76
  go_wp2
  go_loopw [5] (fun i wr => ∃ (k : Nat) (h l : Int), k ≤ x.length ∧ i = .int .i64 k ∧ IsW h l (lo x k) ∧ OfMem w wr h l) (fun i _ => x.length - (intOf i).toNat)
  case atStart =>
    refine ⟨0, 0, 0, Nat.zero_le _, rfl, by rw [lo_zero]; exact IsW.zero, ⟨by simp [go_sem], by simp [go_sem], by simp [go_sem], by simp [go_sem], by simp [go_sem], by simp [go_sem], by simp [go_sem], by simp [go_sem], ((Below.refl _ _).alloc (Nat.le_refl _) _).alloc (by simp) _, by simp⟩⟩
  case round =>
    obtain ⟨k, h, l, hk, rfl, hW, hM⟩ := hrel
    have HM := Lib.hid hM
    by_cases h1 : k < x.length
    · have hcell := (HV.out.below hM.bel).at h1
      obtain ⟨r0, r1, q0, q1, c0, c1, f0, f1, hbel, hsz⟩ := hM
      by_cases h2 : x.getD k false = true
      · rw [h2] at hcell
        replace h2 := Lib.hid h2
        by_cases h3 : k < 64
        · obtain ⟨p1, p2⟩ := pow_small k h3
          have hn := of_low hW h3 h2.out
          have b1 := hn.l1
          have b0 := hn.l0
          replace hn := Lib.hid hn
          have hm := HM.out.putLo (l + 2 ^ k)
          clear hW
          go_wp2
          go_roundw
          case rel => exact ⟨k + 1, h, l + 2 ^ k, by omega, by go_num, hn.out, hm⟩
          case measure => simp [intOf]; omega
        · by_cases h4 : k < 128
          · obtain ⟨p1, p2⟩ := pow_small (k - 64) (by omega)
            have hn := of_high hW (by omega) h4 h2.out
            have b1 := hn.h1
            have b0 := hn.h0
            replace hn := Lib.hid hn
            have hm := HM.out.putHi (h + 2 ^ (k - 64))
            clear hW
            go_wp2
            go_roundw
            case rel => exact ⟨k + 1, h + 2 ^ (k - 64), l, by omega, by go_num, hn.out, hm⟩
            case measure => simp [intOf]; omega
          · have hb := Lib.hid (of_beyond (by omega) h2.out)
            go_wp2
            refine bodyPost_ret (v := .tuple #[.agg #[.int .u64 0, .int .u64 0], .bool false]) (by simp [results, Tryz.results76, go_sem, r0, r1]) rfl ⟨0, 0, false, rfl, by rw [capN_out hb.out]; exact IsW.zero, ⟨fun e => (Bool.noConfusion e), fun e => (hb.out e).elim⟩, ?_⟩
            exact (HM.out.bel.setCell (by simp) _).setCell (by simp) _
      · replace h2 : x.getD k false = false := by simpa using h2
        rw [h2] at hcell
        have hn := Lib.hid (of_none hW h2)
        replace h2 := Lib.hid h2
        clear hW
        go_wp2
        go_roundw
        case rel => exact ⟨k + 1, h, l, by omega, by go_num, hn.out, HM.out⟩
        case measure => simp [intOf]; omega
    · obtain rfl : k = x.length := by omega
      obtain ⟨r0, r1, q0, q1, c0, c1, f0, f1, hbel, hsz⟩ := hM
      have hN := Lib.hid (lo_all x x.length (Nat.le_refl _))
      have hWW := Lib.hid hW
      clear hW
      go_wp2
      refine bodyPost_ret (v := .tuple #[.agg #[.int .u64 h, .int .u64 l], .bool true]) (by simp [results, Tryz.results76, go_sem, r0, r1]) rfl ⟨h, l, true, rfl, ?_, ⟨fun _ => hN.out ▸ hWW.out.lt, fun _ => rfl⟩, ?_⟩
      · have := hWW.out
        rw [hN.out] at this
        rw [capN_in this.lt]; exact this
      · exact (HM.out.bel.setCell (by simp) _).setCell (by simp) _

theorem box_kept {w w1 : World} {h l : Int} (hb : Below (w.alloc (.cells #[.int .u64 h, .int .u64 l] 89)).heap.size (w.alloc (.cells #[.int .u64 h, .int .u64 l] 89)) w1) :
    w1.cell? ⟨w.heap.size, 0, none⟩ = some (.int .u64 h) ∧ w1.cell? ⟨w.heap.size, 1, none⟩ = some (.int .u64 l) ∧ w.heap.size < w1.heap.size ∧ Below w.heap.size w w1 := by
  have hs := hb.size
  simp at hs
  exact ⟨(hb.cell (p := ⟨w.heap.size, 0, none⟩) (by simp)).trans (by simp), (hb.cell (p := ⟨w.heap.size, 1, none⟩) (by simp)).trans (by simp), by omega, ((Below.refl _ _).alloc (Nat.le_refl _) _).trans (hb.mono (by simp))⟩

end Go.Proofs.YthfmllgflnideaaGreatDoor

/-
  The document's own answers for numbers of bits, walked: one less the other.
-/
namespace Go.Proofs.YthfmllgflnideaaGreatDoor
open Go.RowKit

/-- What the places so far come to. -/
def DiffTo (la lb x : List Bool) (c : Nat) : Prop := lo la x.length + 2 ^ x.length * c = val x + lo lb x.length
theorem DiffTo.nil (la lb : List Bool) : DiffTo la lb [] 0 := by simp [DiffTo, val, lo_zero]
theorem diff_step (a b v c x y c' d k : Nat) (h : a + 2 ^ k * c = v + b) (hs : x + 2 * c' = d + y + c) : (a + 2 ^ k * x) + 2 ^ (k + 1) * c' = (v + 2 ^ k * d) + (b + 2 ^ k * y) := by
  have e : 2 ^ k * x + 2 ^ (k + 1) * c' = 2 ^ k * d + 2 ^ k * y + 2 ^ k * c := by
    have : 2 ^ k * (x + 2 * c') = 2 ^ k * (d + y + c) := by rw [hs]
    rw [Nat.pow_succ]; grind
  omega
theorem DiffTo.next {la lb x : List Bool} {c c' : Nat} {bb : Bool} (h : DiffTo la lb x c) (hs : bitN la x.length + 2 * c' = b2n bb + bitN lb x.length + c) : DiffTo la lb (x ++ [bb]) c' := by
  unfold DiffTo at *
  rw [val_append, List.length_append, List.length_singleton, lo_succ, lo_succ]
  exact diff_step _ _ _ _ _ _ _ _ _ h hs
theorem DiffTo.all {la lb x : List Bool} {c : Nat} (h : DiffTo la lb x c) (hl : x.length = la.length) (hle : val lb ≤ val la) : val x = val la - val lb := by
  unfold DiffTo at h
  have h1 := val_lt la
  have h2 := val_lt x
  have h3 := val_split lb la.length
  have h4 : hi lb la.length = 0 := by
    have : ¬ 1 ≤ hi lb la.length := fun hc => by
      have : 2 ^ la.length * 1 ≤ 2 ^ la.length * hi lb la.length := Nat.mul_le_mul_left _ hc
      omega
    omega
  rw [h4, Nat.mul_zero, Nat.add_zero] at h3
  rw [hl, lo_all la _ (Nat.le_refl _), ← h3] at h
  rw [hl] at h2
  have h5 : c = 0 := by
    have : ¬ 1 ≤ c := fun hc => by
      have : 2 ^ la.length * 1 ≤ 2 ^ la.length * c := Nat.mul_le_mul_left _ hc
      omega
    omega
  rw [h5] at h; omega
theorem diff_place (x y : Int) (c bx by' : Nat) (hx : (bx : Int) = x) (hy : (by' : Int) = y) (h0 : bx ≤ 1) (h : ¬ x - y - (c : Int) < 0) :
    ∃ bb : Bool, (x - y - (c : Int) == 1) = bb ∧ bx + 2 * 0 = b2n bb + by' + c := by
  subst hx; subst hy
  refine ⟨_, rfl, ?_⟩
  have : bx = by' + c ∨ bx = 1 + by' + c := by omega
  rcases this with e | e
  · have h2 : (bx : Int) - by' - c = 0 := by omega
    rw [h2]; simp [b2n]; omega
  · have h2 : (bx : Int) - by' - c = 1 := by omega
    rw [h2]; simp [b2n]; omega
theorem diff_borrow (x y : Int) (c bx by' : Nat) (hx : (bx : Int) = x) (hy : (by' : Int) = y) (h0 : by' ≤ 1) (h1 : c ≤ 1) (h : x - y - (c : Int) < 0) :
    ∃ bb : Bool, (x - y - (c : Int) + 2 == 1) = bb ∧ bx + 2 * 1 = b2n bb + by' + c := by
  subst hx; subst hy
  refine ⟨_, rfl, ?_⟩
  have : bx + 2 = by' + c ∨ bx + 2 = 1 + by' + c := by omega
  rcases this with e | e
  · have h2 : (bx : Int) - by' - c + 2 = 0 := by omega
    rw [h2]; simp [b2n]; omega
  · have h2 : (bx : Int) - by' - c + 2 = 1 := by omega
    rw [h2]; simp [b2n]; omega


end Go.Proofs.YthfmllgflnideaaGreatDoor

/-
  The document's own answers for numbers of bits, walked: how often a number fits, and what is left.
-/
namespace Go.Proofs.YthfmllgflnideaaGreatDoor
open Go.RowKit

theorem getD_set_same (l : List Bool) (j : Nat) (b : Bool) (h : j < l.length) : (l.set j b).getD j false = b := by
  rw [List.getD_eq_getElem?_getD, List.getElem?_set_self h]; rfl
theorem getD_set_other (l : List Bool) (j i : Nat) (b : Bool) (h : j ≠ i) : (l.set j b).getD i false = l.getD i false := by
  rw [List.getD_eq_getElem?_getD, List.getD_eq_getElem?_getD, List.getElem?_set_ne h]
theorem hi_set (l : List Bool) (j : Nat) (b : Bool) : hi (l.set j b) (j + 1) = hi l (j + 1) := by
  unfold hi
  rw [List.drop_set_of_lt (Nat.lt_succ_self j)]

/-- What is known at the head of a round. -/
structure DivAt (la ln ll lq : List Bool) (k : Nat) : Prop where
  lenq : lq.length = la.length
  lenl : ll.length + k = la.length
  low : ∀ j, j < k → lq.getD j false = false
  num : hi lq k * val ln + val ll = hi la k
  less : val ll < val ln
theorem DivAt.start (la ln : List Bool) (hn : val ln ≠ 0) : DivAt la ln [] (List.replicate la.length false) la.length := by
  refine ⟨by simp, by simp, fun j hj => ?_, ?_, by simp [val]; omega⟩
  · rw [List.getD_eq_getElem?_getD, List.getElem?_replicate, if_pos hj]; rfl
  · rw [hi_beyond _ _ (by simp), hi_beyond la _ (Nat.le_refl _)]; simp [val]
theorem DivAt.no {la ln ll lq : List Bool} {j : Nat} (h : DivAt la ln ll lq (j + 1)) (hc : ¬ val ln ≤ val (la.getD j false :: ll)) : DivAt la ln (la.getD j false :: ll) lq j := by
  obtain ⟨h1, h2, h3, h4, h5⟩ := h
  have e : bitN lq j = 0 := by unfold bitN; rw [h3 j (by omega)]; rfl
  refine ⟨h1, by simp; omega, fun i hi => h3 i (by omega), ?_, by omega⟩
  rw [hi_step lq j, hi_step la j, e, ← h4]
  simp only [val]
  show (0 + 2 * hi lq (j + 1)) * val ln + (bitN la j + 2 * val ll) = _
  grind
theorem DivAt.yes {la ln ll lq l2 : List Bool} {j : Nat} (h : DivAt la ln ll lq (j + 1)) (hc : val ln ≤ val (la.getD j false :: ll)) (hl : l2.length = (la.getD j false :: ll).length) (hv : val l2 = val (la.getD j false :: ll) - val ln) :
    DivAt la ln l2 (lq.set j true) j := by
  obtain ⟨h1, h2, h3, h4, h5⟩ := h
  have hj : j < lq.length := by omega
  have e : bitN (lq.set j true) j = 1 := by unfold bitN; rw [getD_set_same _ _ _ hj]; rfl
  have hb := b2n_le (la.getD j false)
  have hx : val (la.getD j false :: ll) = b2n (la.getD j false) + 2 * val ll := rfl
  refine ⟨by rw [List.length_set]; exact h1, by rw [hl]; simp; omega, fun i hi => by rw [getD_set_other _ _ _ _ (by omega)]; exact h3 i (by omega), ?_, by omega⟩
  rw [hi_step (lq.set j true) j, hi_step la j, e, hi_set, hv, ← h4]
  have e2 : bitN la j = b2n (la.getD j false) := rfl
  have e3 : (1 + 2 * hi lq (j + 1)) * val ln = val ln + 2 * (hi lq (j + 1) * val ln) := by grind
  omega
theorem DivAt.no' {la ln ll lq : List Bool} {j : Nat} {bj : Bool} (h : DivAt la ln ll lq (j + 1)) (hb : bj = la.getD j false) (hc : ¬ val ln ≤ val (bj :: ll)) : DivAt la ln (bj :: ll) lq j := by
  subst hb; exact h.no hc
theorem DivAt.yes' {la ln ll lq l2 : List Bool} {j : Nat} {bj : Bool} (h : DivAt la ln ll lq (j + 1)) (hb : bj = la.getD j false) (hc : val ln ≤ val (bj :: ll)) (hl : l2.length = (bj :: ll).length) (hv : val l2 = val (bj :: ll) - val ln) : DivAt la ln l2 (lq.set j true) j := by
  subst hb; exact h.yes hc hl hv
theorem DivAt.all {la ln ll lq : List Bool} (h : DivAt la ln ll lq 0) : val lq = val la / val ln ∧ val ll = val la % val ln := by
  obtain ⟨_, _, _, h4, h5⟩ := h
  rw [hi_zero, hi_zero] at h4
  have e1 : val la / val ln = val lq := by
    rw [← h4, Nat.mul_comm, Nat.add_comm, Nat.add_mul_div_left _ _ (by omega), Nat.div_eq_of_lt h5]; omega
  have e2 : val la % val ln = val ll := by
    rw [← h4, Nat.mul_comm, Nat.add_comm, Nat.add_mul_mod_self_left, Nat.mod_eq_of_lt h5]
  exact ⟨e1.symm, e2.symm⟩

/-- The row of the quotient's bits. -/
structure QMem (w wr : World) (lq : List Bool) : Prop where
  row : ∀ i, i < lq.length → wr.cell? ⟨w.heap.size, i, none⟩ = some (.bool (lq.getD i false))
  free : ∀ i, i < lq.length → wr.frozen? ⟨w.heap.size, i, none⟩ = false
  size : w.heap.size < wr.heap.size
theorem QMem.after {w wr w1 : World} {lq : List Bool} (h : QMem w wr lq) (hb : Below wr.heap.size wr w1) : QMem w w1 lq :=
  ⟨fun i hi => (hb.cell (p := ⟨w.heap.size, i, none⟩) h.size).trans (h.row i hi), fun i hi => (hb.frozen (p := ⟨w.heap.size, i, none⟩) h.size).trans (h.free i hi), Nat.lt_of_lt_of_le h.size hb.size⟩
theorem QMem.put {w wr : World} {lq : List Bool} (h : QMem w wr lq) {j : Nat} (hj : j < lq.length) : QMem w (wr.setCell ⟨w.heap.size, j, none⟩ (.bool true)) (lq.set j true) := by
  refine ⟨fun i hi => ?_, fun i hi => by rw [World.frozen?_setCell]; exact h.free i (by simpa using hi), by simpa using h.size⟩
  rw [List.length_set] at hi
  by_cases e : j = i
  · subst e
    rw [getD_set_same _ _ _ hj]
    exact World.cell?_setCell_same _ _ _ (h.row j hj)
  · rw [World.cell?_setCell_other _ _ _ _ (by first | (simp; done) | (simp; exact e)), getD_set_other _ _ _ _ e]
    exact h.row i hi
theorem QMem.start (w : World) (n : Nat) : QMem w (w.alloc (.cells (madeCells #[.bool false] n) 4)) (List.replicate n false) := by
  refine ⟨fun i hi => ?_, fun i hi => by simp, by simp⟩
  rw [List.length_replicate] at hi
  rw [World.cell?_alloc_new, ← Array.getElem?_toList, toList_madeCells_one, List.getElem?_replicate, if_pos hi, List.getD_eq_getElem?_getD, List.getElem?_replicate, if_pos hi]
  try rfl
theorem QMem.bools {w wr : World} {lq : List Bool} (h : QMem w wr lq) (n : Nat) (hn : n = lq.length) : Bools wr (.slice (some ⟨w.heap.size, 0, none⟩) n n) lq := by
  subst hn
  exact ⟨_, 0, _, rfl, Nat.le_refl _, h.size, fun i hi => by rw [Nat.zero_add]; exact h.row i hi⟩

theorem Bools.setOther {w : World} {v : Value} {l : List Bool} (h : Bools w v l) {a : Addr} (u : Value) (hne : ∀ b, v.ownBlock = some b → b ≠ a.block) : Bools (w.setCell a u) v l := by
  obtain ⟨b, off, cap, rfl, hc, hlt, hcell⟩ := h
  have := hne b rfl
  refine ⟨b, off, cap, rfl, hc, by simpa using hlt, fun i hi => ?_⟩
  rw [World.cell?_setCell_other _ _ _ _ (by intro e; exact this (by rw [e]))]
  exact hcell i hi
/-- What is appended to one bit. -/
theorem app_next {W w3 : World} {v3 : Value} {ls : List Bool} (x : Bool) (hown : w3.ownsRow W.heap.size 4 1 v3 (1 + ls.length) ([Value.bool x] ++ ls.map Value.bool))
    (hgrow : (W.alloc (.cells #[.bool x] 4)).grownBy w3 (some W.heap.size)) (hiff : ¬ v3 = .slice none 0 0) : Bools w3 v3 (x :: ls) ∧ Below W.heap.size W w3 :=
  ⟨(OwnBits.append (l := [x]) hown rfl hiff).bools, ((Below.refl _ _).alloc (Nat.le_refl _) _).grown hgrow (by simp) (fun k hk => by simp only [Option.some.injEq] at hk; omega)⟩

/-- What Divide hands back. -/
def GivesDiv (q r n : Nat) (w : World) (e : Ending) (w' : World) : Prop := ∃ vq vl lq ll, e = .returned (.tuple #[vq, vl]) ∧ Bools w' vq lq ∧ Bools w' vl ll ∧ lq.length = n ∧ ll.length = n ∧ val lq = q ∧ val ll = r ∧ Below w.heap.size w w'

end Go.Proofs.YthfmllgflnideaaGreatDoor

/-
  The document's own answers for numbers of bits, walked: the decimal digits.
-/
namespace Go.Proofs.YthfmllgflnideaaGreatDoor
open Go.RowKit

/-- One letter, as a text. -/
theorem one_letter (W : World) (z : Int) (g : Nat) (hg : g = W.heap.size) :
    (convert 87 9 (.slice (some ⟨g, 0, none⟩) 1 1)).run Tryz.prog (W.alloc (.cells #[.int .u8 z] 5)) = .ok (.string (strOfNums [z])) (W.alloc (.cells #[.int .u8 z] 5)) := by
  subst hg
  exact run_convert_bytes_arg (W.alloc (.cells #[.int .u8 z] 5)) 87 5 Tryz.underlying87 Tryz.underlying5 _ _ 1 1 [z] rfl (fun i hi => by
    obtain rfl : i = 0 := by omega
    simp) 9 Tryz.underlying9

/-- What holds at the head of a round. -/
structure DigitsAt (A n : Nat) (l : List Bool) (xs : List Int) : Prop where
  all : dec A = dec (val l) ++ xs
  len : l.length = n
  lt : W128 (val l)

theorem digits_last {A n : Nat} {l : List Bool} {xs : List Int} {r : Int} (h : DigitsAt A n l xs) (hl : val l < 10) (hr : r = ((val l % 10 : Nat) : Int)) : strOfNums (dec A) = strOfNums ((48 + r) :: xs) := by
  rw [h.all, dec_small hl, hr, Nat.mod_eq_of_lt hl]; rfl
theorem digits_next {A n : Nat} {l lq : List Bool} {xs : List Int} {r : Int} (h : DigitsAt A n l xs) (hl : ¬ val l < 10) (hr : r = ((val l % 10 : Nat) : Int)) (h1 : val lq = val l / 10) (h2 : lq.length = l.length) : DigitsAt A n lq ((48 + r) :: xs) := by
  obtain ⟨a, b, c⟩ := h
  refine ⟨by rw [a, dec_big hl, h1, hr]; simp, by rw [h2, b], ?_⟩
  rw [h1]; unfold W128 at *; omega
theorem digit_of {p r : Int} {N M : Nat} (h : IsW p r (capN N)) (hN : N = M % 10) : p = 0 ∧ 0 ≤ r ∧ r ≤ 9 ∧ r = ((M % 10 : Nat) : Int) := by
  have hw : W128 N := by unfold W128; omega
  rw [capN_in hw] at h
  obtain ⟨a, b, c, d, e⟩ := h
  omega

end Go.Proofs.YthfmllgflnideaaGreatDoor
