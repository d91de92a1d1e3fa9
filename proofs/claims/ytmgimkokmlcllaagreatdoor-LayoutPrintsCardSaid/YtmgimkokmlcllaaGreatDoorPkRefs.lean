/-
  A slice of bits that reads as a list, in a world: what it is, and that it stays while new memory is made.
-/
import Derived.WalkKit
import Derived.WalkSmall
import Derived.Test.YtmgimkokmlcllaaGreatDoorProg
import Derived.Test.YtmgimkokmlcllaaGreatDoorPkPlain
import Derived.WalkSpells
import Derived.WalkLawsBesides
import Derived.Lib.Hide
import Derived.KernelRfl
import Derived.Deep.OwnRows
import Derived.Deep.LoopGhost
namespace Go.Proofs.YtmgimkokmlcllaaGreatDoor
open Go.RowKit

def Bools (w : World) (v : Value) (l : List Bool) : Prop :=
  ∃ b off cap, v = .slice (some ⟨b, off, none⟩) l.length cap ∧ l.length ≤ cap ∧ b < w.heap.size ∧ ∀ i, i < l.length → w.cell? ⟨b, off + i, none⟩ = some (.bool (l.getD i false))
def BoolsN (w : World) (v : Value) (l : List Bool) : Prop := (v = .slice none 0 0 ∧ l = []) ∨ Bools w v l

theorem Bools.orNil {w : World} {v : Value} {l : List Bool} (h : Bools w v l) : BoolsN w v l := Or.inr h
theorem BoolsN.nil (w : World) : BoolsN w (.slice none 0 0) [] := Or.inl ⟨rfl, rfl⟩
theorem Bools.below {w w' : World} {v : Value} {l : List Bool} (h : Bools w v l) (hb : Below w.heap.size w w') : Bools w' v l := by
  obtain ⟨b, off, cap, rfl, hc, hlt, hcell⟩ := h
  exact ⟨b, off, cap, rfl, hc, Nat.lt_of_lt_of_le hlt hb.size, fun i hi => (hb.cell (p := ⟨b, off + i, none⟩) hlt).trans (hcell i hi)⟩
theorem Bools.alloc {w : World} {v : Value} {l : List Bool} (h : Bools w v l) (o : Obj) : Bools (w.alloc o) v l :=
  h.below ((Below.refl _ _).alloc (Nat.le_refl _) o)
theorem Bools.belowOf {w w' : World} {v : Value} {l : List Bool} (h : Bools w v l) {B : Nat} (hB : w.heap.size ≤ B) (hb : Below B w w') : Bools w' v l := h.below (hb.mono hB)
theorem BoolsN.belowOf {w w' : World} {v : Value} {l : List Bool} (h : BoolsN w v l) {B : Nat} (hB : w.heap.size ≤ B) (hb : Below B w w') : BoolsN w' v l := by
  rcases h with h | h
  · exact Or.inl h
  · exact Or.inr (h.belowOf hB hb)

def OwnBits (w : World) (base : Nat) (v : Value) (l : List Bool) : Prop :=
  w.ownsRow base 4 1 v l.length (l.map Value.bool) ∧ v ≠ .slice none 0 0
theorem OwnBits.bools {w : World} {base : Nat} {v : Value} {l : List Bool} (h : OwnBits w base v l) : Bools w v l := by
  obtain ⟨h, hn⟩ := h
  have hlt := h.lt
  have hcs := @World.ownsRow.cells _ _ _ _ _ _ _ h
  rcases h.2 with ⟨rfl, h0⟩ | ⟨g, cap, cur, rfl, h1, h2, h3, h4, h5, h6⟩
  · exact absurd rfl hn
  · refine ⟨g, 0, cap, rfl, h3, (hlt g rfl).2, fun i hi => ?_⟩
    have := hcs (g := g) rfl i (.bool (l.getD i false)) (by rw [List.getElem?_map, List.getElem?_eq_getElem hi, List.getD_eq_getElem?_getD, List.getElem?_eq_getElem hi]; rfl)
    rcases i with _ | i <;> simpa [Addr.add] using this
theorem OwnBits.fresh (w : World) (base g : Nat) (hg : g = w.heap.size) (h : base ≤ g) : OwnBits (w.alloc (.cells #[] 4)) base (.slice (some ⟨g, 0, none⟩) 0 0) [] := by
  subst hg
  exact ⟨World.ownsRow_made w #[] 0 h (Nat.zero_le _) rfl, by simp⟩
theorem OwnBits.one (w : World) (base g : Nat) (x : Bool) (hg : g = w.heap.size) (h : base ≤ g) : OwnBits (w.alloc (.cells #[.bool x] 4)) base (.slice (some ⟨g, 0, none⟩) 1 1) [x] := by
  subst hg
  exact ⟨⟨rfl, .inr ⟨w.heap.size, 1, _, rfl, h, heap_alloc_new w _, Nat.le_refl _, by decide, rfl, rfl⟩⟩, by simp⟩
theorem Bools.news {w : World} {b off n cap : Nat} {l : List Bool} (h : Bools w (.slice (some ⟨b, off, none⟩) n cap) l) : ∀ j u, (l.map Value.bool)[j]? = some u → w.cell? ((⟨b, off, none⟩ : Addr).add j) = some u := by
  obtain ⟨b', off', cap', he, _, _, hcell⟩ := h
  simp only [Value.slice.injEq, Option.some.injEq, Addr.mk.injEq, and_true] at he
  obtain ⟨⟨rfl, rfl⟩, _, _⟩ := he
  intro j u hj
  rw [List.getElem?_map] at hj
  obtain ⟨x, hx, rfl⟩ := Option.map_eq_some_iff.mp hj
  obtain ⟨hlt, hx⟩ := List.getElem?_eq_some_iff.mp hx
  have := hcell j hlt
  rw [List.getD_eq_getElem?_getD, List.getElem?_eq_getElem hlt, hx] at this
  rcases j with _ | j <;> simpa [Addr.add] using this
theorem Bools.at {w : World} {b off n cap : Nat} {l : List Bool} (h : Bools w (.slice (some ⟨b, off, none⟩) n cap) l) {i : Nat} (hi : i < l.length) : w.cell? ⟨b, off + i, none⟩ = some (.bool (l.getD i false)) := by
  obtain ⟨b', off', cap', he, _, _, hcell⟩ := h
  simp only [Value.slice.injEq, Option.some.injEq, Addr.mk.injEq, and_true] at he
  obtain ⟨⟨rfl, rfl⟩, _, _⟩ := he
  exact hcell i hi
theorem bools_one (l : List Bool) : ∀ u ∈ l.map Value.bool, u.oneCell' = true := by
  intro u hu
  obtain ⟨x, _, rfl⟩ := List.mem_map.mp hu
  rfl
theorem OwnBits.append {w' : World} {base : Nat} {v' : Value} {l : List Bool} {m : Nat} {news : List Bool} (h : w'.ownsRow base 4 1 v' (l.length + m) (l.map Value.bool ++ news.map Value.bool)) (hm : news.length = m)
    (hi : ¬ v' = .slice none 0 0) : OwnBits w' base v' (l ++ news) := by
  refine ⟨?_, hi⟩
  rw [List.map_append, List.length_append, hm]
  exact h
theorem info_bool : (Tryz.prog.info? 4).map (fun i => (i.zero, i.size, i.bytes)) = some (some (.bool false), 1, 1) := by kernel_rfl

end Go.Proofs.YtmgimkokmlcllaaGreatDoor

/-
  The document's own answers for numbers of bits, walked: a bit of a list; which of two lists is the greater number.
-/
namespace Go.Proofs.YtmgimkokmlcllaaGreatDoor
open Go.RowKit

theorem at_any (v : Value) (l : List Bool) (i : Nat) (w : World) (h : BoolsN w v l) (_hi : i ≤ 9223372036854775807) (hm : l.length ≤ 9223372036854775807) :
    Calls Tryz.prog 128 #[v, .int .i64 i] w fun e w' => e = .returned (.int .i64 (bitN l i)) ∧ w = w' := by
  by_cases hlt : i < l.length
  · rcases h with ⟨rfl, rfl⟩ | ⟨b, off, cap, rfl, hc, hb, hcell⟩
    · simp at hlt
    · have hx := hcell i hlt
      clear hcell
      have hx2 := Lib.hid (show bitN l i = b2n (l.getD i false) from rfl)
      generalize l.getD i false = x at hx hx2
      cases x
      all_goals
        go_enter Tryz.func128, Tryz.ntmps128
        go_wp2
        go_ret
        exact ⟨by rw [hx2.out]; rfl, rfl⟩
  · have hz := Lib.hid (bitN_beyond l i (by omega))
    rcases h with ⟨rfl, rfl⟩ | ⟨b, off, cap, rfl, hc, hb, hcell⟩
    all_goals
      go_enter Tryz.func128, Tryz.ntmps128
      go_wp2
      go_ret
      exact ⟨by rw [hz.out]; rfl, rfl⟩

theorem at_is (v : Value) (l : List Bool) (i : Nat) (x : Int) (w : World) (h : BoolsN w v l) (hi : i ≤ 9223372036854775807) (hm : l.length ≤ 9223372036854775807) (hx : Hid ((bitN l i : Int) = x)) :
    Calls Tryz.prog 128 #[v, .int .i64 i] w fun e w' => e = .returned (.int .i64 x) ∧ w = w' := by
  rw [← hx.out]; exact at_any v l i w h hi hm

theorem BoolsN.len {w : World} {v : Value} {l : List Bool} (h : BoolsN w v l) : ∃ a cap, v = .slice a l.length cap := by
  rcases h with ⟨rfl, rfl⟩ | ⟨b, off, cap, rfl, _⟩
  · exact ⟨_, _, rfl⟩
  · exact ⟨_, _, rfl⟩

set_option maxHeartbeats 400000 in
theorem compare_any (va vb : Value) (la lb : List Bool) (w : World) (ha : BoolsN w va la) (hb : BoolsN w vb lb) (hma : la.length ≤ 9223372036854775807) (hmb : lb.length ≤ 9223372036854775807) :
    Calls Tryz.prog 107 #[va, vb] w fun e w' => e = .returned (.int .i64 (cmpI (val la) (val lb))) ∧ w = w' := by
  have HA := Lib.hid ha
  have HB := Lib.hid hb
  obtain ⟨aa, ca, rfl⟩ := ha.len
  obtain ⟨ab, cb, rfl⟩ := hb.len
  clear ha hb
  by_cases hlt : la.length < lb.length
  all_goals
    go_enter Tryz.func107, Tryz.ntmps107
    go_wp2
    go_loop [6] (fun i => ∃ (k : Nat) (z : Int), i = .int .i64 z ∧ Hid (z = (k : Int) - 1) ∧ z ≤ 9223372036854775806 ∧ -1 ≤ z ∧ hi la k = hi lb k) (fun i => (intOf i + 1).toNat)
    case atStart => exact ⟨max la.length lb.length, _, rfl, Lib.hid (by omega), by omega, by omega, by rw [hi_beyond _ _ (by omega), hi_beyond _ _ (by omega)]⟩
    case round =>
      obtain ⟨k, z, rfl, hz, hz1, hz2, hh⟩ := hrel
      replace hh := Lib.hid hh
      by_cases h0 : 0 ≤ z
      · obtain ⟨j, rfl⟩ := Int.eq_ofNat_of_zero_le h0
        obtain rfl : k = j + 1 := by have := hz.out; omega
        obtain ⟨x, hx⟩ : ∃ x : Int, x = bitN la j := ⟨_, rfl⟩
        obtain ⟨y, hy⟩ : ∃ y : Int, y = bitN lb j := ⟨_, rfl⟩
        have HX := Lib.hid hx.symm
        have HY := Lib.hid hy.symm
        have hx1 : 0 ≤ x ∧ x ≤ 1 := by have := bitN_le la j; omega
        have hy1 : 0 ≤ y ∧ y ≤ 1 := by have := bitN_le lb j; omega
        obtain ⟨hx1, hx2⟩ := hx1
        obtain ⟨hy1, hy2⟩ := hy1
        clear hx hy hz
        by_cases hxy : x = y
        · subst hxy
          have hstep := Lib.hid (show hi la j = hi lb j by rw [hi_step la j, hi_step lb j, hh.out]; have := HX.out; have := HY.out; omega)
          go_wp2_with (first | (go_at_call 128; (with_reducible refine (at_is _ la _ x _ HA.out (by omega) hma HX).mono ?_); rintro e w' ⟨rfl, rfl⟩) | (go_at_call 128; (with_reducible refine (at_is _ lb _ x _ HB.out (by omega) hmb HY).mono ?_); rintro e w' ⟨rfl, rfl⟩))
          go_round
          case rel => exact ⟨j, _, rfl, Lib.hid rfl, by omega, by omega, hstep.out⟩
          case measure => simp [intOf]
        · have hfound := Lib.hid (show x - y = cmpI (val la) (val lb) by rw [← HX.out, ← HY.out]; exact cmp_found la lb j hh.out (by have := HX.out; have := HY.out; omega))
          have hne : (x == y) = false := by simpa using hxy
          go_wp2_with (first | (go_at_call 128; (with_reducible refine (at_is _ la _ x _ HA.out (by omega) hma HX).mono ?_); rintro e w' ⟨rfl, rfl⟩) | (go_at_call 128; (with_reducible refine (at_is _ lb _ y _ HB.out (by omega) hmb HY).mono ?_); rintro e w' ⟨rfl, rfl⟩))
          go_ret
          exact ⟨by rw [hfound.out]; rfl, rfl⟩
      · obtain rfl : z = -1 := by omega
        obtain rfl : k = 0 := by have := hz.out; omega
        have hres := Lib.hid (cmpI_eq (show val la = val lb by rw [← hi_zero, ← hi_zero]; exact hh.out))
        clear hz
        go_wp2
        go_ret
        exact ⟨by rw [hres.out]; rfl, rfl⟩

theorem compare_is (n : Int) (va vb : Value) (la lb : List Bool) (w : World) (ha : BoolsN w va la) (hb : BoolsN w vb lb) (hma : la.length ≤ 9223372036854775807) (hmb : lb.length ≤ 9223372036854775807) (hn : Hid (cmpI (val la) (val lb) = n)) :
    Calls Tryz.prog 107 #[va, vb] w fun e w' => e = .returned (.int .i64 n) ∧ w = w' := by
  rw [← hn.out]; exact compare_any va vb la lb w ha hb hma hmb

end Go.Proofs.YtmgimkokmlcllaaGreatDoor

/-
  The document's own answers for numbers of bits, walked: the bits of a number; both of two numbers, bit by bit.
-/
namespace Go.Proofs.YtmgimkokmlcllaaGreatDoor
open Go.RowKit

def GivesBits (P : List Bool → Prop) (w : World) (e : Ending) (w' : World) : Prop := ∃ v l, e = .returned v ∧ Bools w' v l ∧ P l ∧ Below w.heap.size w w'
def GivesNew (P : List Bool → Prop) (w : World) (e : Ending) (w' : World) : Prop := ∃ v l, e = .returned v ∧ Bools w' v l ∧ P l ∧ Below w.heap.size w w' ∧ ∀ b, v.ownBlock = some b → w.heap.size ≤ b
theorem GivesNew.bits {P : List Bool → Prop} {w : World} {e : Ending} {w' : World} : GivesNew P w e w' → GivesBits P w e w' := fun ⟨v, l, he, hb, hp, hbel, _⟩ => ⟨v, l, he, hb, hp, hbel⟩

theorem bool_of (x : Nat) (b : Bool) (hb : ((x : Int) % 2 == 1) = b) : b2n b = x % 2 := by
  subst hb
  have : x % 2 = 0 ∨ x % 2 = 1 := by omega
  rcases this with h | h
  · have : ((x : Int) % 2) = 0 := by omega
    rw [this, h]; rfl
  · have : ((x : Int) % 2) = 1 := by omega
    rw [this, h]; rfl
theorem cast_div_pow (x k : Nat) : ((x : Int) / 2 ^ k) = ((x / 2 ^ k : Nat) : Int) := by simp
theorem bit_lo (h l : Int) (k : Nat) (x : List Bool) (bb : Bool) (h0 : 0 ≤ h) (l0 : 0 ≤ l) (hk : k < 64) (hx : x.length = k) (hb : (l / 2 ^ (k % 64) % 2 == 1) = bb) : b2n bb = wide h.toNat l.toNat / 2 ^ x.length % 2 := by
  obtain ⟨h, rfl⟩ := Int.eq_ofNat_of_zero_le h0
  obtain ⟨l, rfl⟩ := Int.eq_ofNat_of_zero_le l0
  rw [hx, Int.toNat_natCast, Int.toNat_natCast, ← place_lo h l k hk]
  rw [Nat.mod_eq_of_lt hk, cast_div_pow] at hb
  exact bool_of _ _ hb
theorem bit_hi (h l : Int) (k : Nat) (x : List Bool) (bb : Bool) (h0 : 0 ≤ h) (l0 : 0 ≤ l) (hl : l ≤ 18446744073709551615) (hk : ¬ k < 64) (hk2 : k < 128) (hx : x.length = k) (hb : (h / 2 ^ (k % 64) % 2 == 1) = bb) : b2n bb = wide h.toNat l.toNat / 2 ^ x.length % 2 := by
  obtain ⟨h, rfl⟩ := Int.eq_ofNat_of_zero_le h0
  obtain ⟨l, rfl⟩ := Int.eq_ofNat_of_zero_le l0
  rw [hx, Int.toNat_natCast, Int.toNat_natCast, ← place_hi h l k (W64.of hl) (by omega)]
  rw [show k % 64 = k - 64 by omega, cast_div_pow] at hb
  exact bool_of _ _ hb
theorem bits_next {w wr w1 : World} {v v' : Value} {x : List Bool} {bb : Bool} {N : Nat} {c0 c1 : Value} (hown : OwnBits wr (w.heap.size + 1) v x)
    (hown' : w1.ownsRow (w.heap.size + 1) 4 1 v' (x.length + 1) (x.map Value.bool ++ [.bool bb])) (hgrow : (wr.alloc (.cells #[.bool bb] 4)).grownBy w1 v.ownBlock) (hiff : ¬ v' = .slice none 0 0)
    (hbel : Below w.heap.size w wr) (hsz : w.heap.size < wr.heap.size) (hval : LowOf x N) (hc0 : wr.cell? ⟨w.heap.size, 0, none⟩ = some c0) (hc1 : wr.cell? ⟨w.heap.size, 1, none⟩ = some c1) (hb : b2n bb = N / 2 ^ x.length % 2) :
    OwnBits w1 (w.heap.size + 1) v' (x ++ [bb]) ∧ LowOf (x ++ [bb]) N ∧ w1.cell? ⟨w.heap.size, 0, none⟩ = some c0 ∧ w1.cell? ⟨w.heap.size, 1, none⟩ = some c1 ∧ Below w.heap.size w w1 ∧ w.heap.size < w1.heap.size := by
  have hlt := hown.1.lt
  have ha : Below w.heap.size w (wr.alloc (.cells #[.bool bb] 4)) := hbel.alloc (by omega) _
  have hne : some w.heap.size ≠ v.ownBlock := fun e => by have := (hlt _ e.symm).1; omega
  refine ⟨OwnBits.append (news := [bb]) hown' rfl hiff, hval.next hb, ?_, ?_, ha.grown hgrow (by simp; omega) (fun k hk => by have := (hlt _ hk).1; omega), ?_⟩
  · exact hgrow.cell ((((Below.refl wr.heap.size wr).alloc (Nat.le_refl _) _).cell (p := ⟨w.heap.size, 0, none⟩) hsz).trans hc0) hne
  · exact hgrow.cell ((((Below.refl wr.heap.size wr).alloc (Nat.le_refl _) _).cell (p := ⟨w.heap.size, 1, none⟩) hsz).trans hc1) hne
  · have := hgrow.size; simp at this; omega

set_option maxRecDepth 100000 in
set_option maxHeartbeats 1000000 in
theorem bits_new (h l : Int) (w : World) (hh0 : 0 ≤ h) (hh : h ≤ 18446744073709551615) (hl0 : 0 ≤ l) (hl : l ≤ 18446744073709551615) :
    Calls Tryz.prog 77 #[.agg #[.int .u64 h, .int .u64 l]] w (GivesNew (fun x => x.length = 128 ∧ val x = wide h.toNat l.toNat) w) := by
  obtain ⟨i0, hi, hz0, hz1, hz2⟩ := info_parts info_bool
  go_enter Tryz.func77, Tryz.ntmps77
  go_wp2
  go_loopw [3, 4, 5] (fun out i _ wr => ∃ (k : Nat) (x : List Bool), k ≤ 128 ∧ i = .int .i64 k ∧ OwnBits wr (w.heap.size + 1) out x ∧ Hid (x.length = k) ∧ LowOf x (wide h.toNat l.toNat) ∧
      wr.cell? ⟨w.heap.size, 0, none⟩ = some (.int .u64 h) ∧ wr.cell? ⟨w.heap.size, 1, none⟩ = some (.int .u64 l) ∧ Below w.heap.size w wr ∧ w.heap.size < wr.heap.size) (fun _ i _ _ => 128 - (intOf i).toNat)
  case atStart =>
    exact ⟨0, [], by omega, rfl, OwnBits.fresh _ _ _ (by simp) (Nat.le_refl _), Lib.hid rfl, LowOf.nil _, by simp [go_sem], by simp [go_sem], ((Below.refl _ _).alloc (Nat.le_refl _) _).alloc (by simp) _, by simp; omega⟩
  case round =>
    obtain ⟨k, x, hk, rfl, hown, hlen, hval, hc0, hc1, hbel, hsz⟩ := hrel
    by_cases h1 : k < 64
    · have hp : 0 ≤ l / 2 ^ (k % 64) := Int.ediv_nonneg hl0 (Int.le_of_lt (Int.pow_pos (by decide)))
      obtain ⟨bb, hbb⟩ : ∃ bb, (l / 2 ^ (k % 64) % 2 == 1) = bb := ⟨_, rfl⟩
      have HB := Lib.hid (bit_lo h l k x bb hh0 hl0 h1 hlen.out hbb)
      go_wp2_with (at_builtin; refine wpList_append_own _ rfl _ _ 105 rfl (w.heap.size + 1) 4 i0 (.bool false) 1 1 Tryz.underlying105 hi hz0 hz1 hz2 rfl (by decide) _ _ _ rfl (hown.1.alloc _) ⟨wr.heap.size, 0, none⟩ 1 1 [.bool bb] rfl rfl ?c1 ?c2 ?c3 ?c4 ?c5 ?_)
      case c1 => exact cell_one_new _ _ _
      case c2 => intro u hu; simp at hu; subst hu; rfl
      case c3 => have := hlen.out; unfold maxLen; omega
      case c4 => have := hlen.out; omega
      case c5 => simp; omega
      intro v' w1 hown' hgrow hiff
      have hn := bits_next hown hown' hgrow hiff hbel hsz hval hc0 hc1 HB.out
      clear hown hown' hgrow hiff hbel hval hc0 hc1
      obtain ⟨hn1, hn2, hn3, hn4, hn5, hn6⟩ := hn
      go_wp2
      go_roundw
      case rel => exact ⟨k + 1, _, by omega, by go_num, hn1, Lib.hid (by rw [List.length_append, hlen.out]; rfl), hn2, hn3, hn4, hn5, hn6⟩
      case measure => simp [intOf]; omega
    · by_cases h2 : k < 128
      · have hp : 0 ≤ h / 2 ^ (k % 64) := Int.ediv_nonneg hh0 (Int.le_of_lt (Int.pow_pos (by decide)))
        obtain ⟨bb, hbb⟩ : ∃ bb, (h / 2 ^ (k % 64) % 2 == 1) = bb := ⟨_, rfl⟩
        have HB := Lib.hid (bit_hi h l k x bb hh0 hl0 hl h1 h2 hlen.out hbb)
        go_wp2_with (at_builtin; refine wpList_append_own _ rfl _ _ 105 rfl (w.heap.size + 1) 4 i0 (.bool false) 1 1 Tryz.underlying105 hi hz0 hz1 hz2 rfl (by decide) _ _ _ rfl (hown.1.alloc _) ⟨wr.heap.size, 0, none⟩ 1 1 [.bool bb] rfl rfl ?d1 ?d2 ?d3 ?d4 ?d5 ?_)
        case d1 => exact cell_one_new _ _ _
        case d2 => intro u hu; simp at hu; subst hu; rfl
        case d3 => have := hlen.out; unfold maxLen; omega
        case d4 => have := hlen.out; omega
        case d5 => simp; omega
        intro v' w1 hown' hgrow hiff
        have hn := bits_next hown hown' hgrow hiff hbel hsz hval hc0 hc1 HB.out
        clear hown hown' hgrow hiff hbel hval hc0 hc1
        obtain ⟨hn1, hn2, hn3, hn4, hn5, hn6⟩ := hn
        go_wp2
        go_roundw
        case rel => exact ⟨k + 1, _, by omega, by go_num, hn1, Lib.hid (by rw [List.length_append, hlen.out]; rfl), hn2, hn3, hn4, hn5, hn6⟩
        case measure => simp [intOf]; omega
      · obtain rfl : k = 128 := by omega
        go_wp2
        go_ret
        exact ⟨_, _, rfl, hown.bools, ⟨hlen.out, hval.all hlen.out (wide_lt (W64.of (by omega)) (W64.of (by omega)))⟩, hbel, fun b hb => by have := (hown.1.lt b hb).1; omega⟩
theorem bits_any (h l : Int) (w : World) (hh0 : 0 ≤ h) (hh : h ≤ 18446744073709551615) (hl0 : 0 ≤ l) (hl : l ≤ 18446744073709551615) :
    Calls Tryz.prog 77 #[.agg #[.int .u64 h, .int .u64 l]] w (GivesBits (fun x => x.length = 128 ∧ val x = wide h.toNat l.toNat) w) :=
  (bits_new h l w hh0 hh hl0 hl).mono fun _ _ hg => hg.bits
theorem bits_small (x : Int) (w : World) (h0 : 0 ≤ x) (h1 : x ≤ 18446744073709551615) :
    Calls Tryz.prog 77 #[.agg #[.int .u64 0, .int .u64 x]] w (GivesBits (fun l => l.length = 128 ∧ val l = x.toNat) w) := by
  refine (bits_any 0 x w (by decide) (by decide) h0 h1).mono ?_
  rintro e w' ⟨v, l, rfl, hb, ⟨hn, hv⟩, hbel⟩
  exact ⟨v, l, rfl, hb, ⟨hn, by rw [hv]; simp [wide]⟩, hbel⟩

end Go.Proofs.YtmgimkokmlcllaaGreatDoor

/-
  The document's own answers for numbers of bits, walked: both, bit by bit; one times the other.
-/
namespace Go.Proofs.YtmgimkokmlcllaaGreatDoor
open Go.RowKit

theorem own_next {w wr w1 : World} {v v' : Value} {x : List Bool} {bb : Bool} (hown : OwnBits wr w.heap.size v x)
    (hown' : w1.ownsRow w.heap.size 4 1 v' (x.length + 1) (x.map Value.bool ++ [.bool bb])) (hgrow : (wr.alloc (.cells #[.bool bb] 4)).grownBy w1 v.ownBlock) (hiff : ¬ v' = .slice none 0 0)
    (hbel : Below w.heap.size w wr) : OwnBits w1 w.heap.size v' (x ++ [bb]) ∧ Below w.heap.size w w1 := by
  have hlt := hown.1.lt
  have hsz := hbel.size
  exact ⟨OwnBits.append (news := [bb]) hown' rfl hiff, (hbel.alloc hsz _).grown hgrow (by simp; omega) (fun k hk => (hlt _ hk).1)⟩
theorem at_two (la lb : List Bool) (k : Nat) : (∃ x : Int, 0 ≤ x ∧ x ≤ 1 ∧ Hid ((bitN la k : Int) = x)) ∧ (∃ y : Int, 0 ≤ y ∧ y ≤ 1 ∧ Hid ((bitN lb k : Int) = y)) :=
  ⟨⟨bitN la k, by omega, by have := bitN_le la k; omega, rfl⟩, ⟨bitN lb k, by omega, by have := bitN_le lb k; omega, rfl⟩⟩
def SumTo (la lb x : List Bool) (c : Nat) : Prop := val x + 2 ^ x.length * c = lo la x.length + lo lb x.length
end Go.Proofs.YtmgimkokmlcllaaGreatDoor

/-
  The document's own answers for numbers of bits, walked: one times the other.
-/
namespace Go.Proofs.YtmgimkokmlcllaaGreatDoor
open Go.RowKit

structure TimesAt (la lb lo' ls : List Bool) (k : Nat) : Prop where
  len1 : ls.length = la.length + k
  len2 : lo'.length ≤ la.length + k
  vs : val ls = val la * 2 ^ k
  vo : val lo' = val la * lo lb k
end Go.Proofs.YtmgimkokmlcllaaGreatDoor

/-
  The document's own answers for numbers of bits, walked: bits as a number; whether an answer is what bits say.
-/
namespace Go.Proofs.YtmgimkokmlcllaaGreatDoor
open Go.RowKit

def GivesOf (N : Nat) (w : World) (e : Ending) (w' : World) : Prop := ∃ (h l : Int) (ok : Bool), e = .returned (.tuple #[.agg #[.int .u64 h, .int .u64 l], .bool ok]) ∧ IsW h l (capN N) ∧ (ok = true ↔ W128 N) ∧ Below w.heap.size w w'

structure OfMem (w wr : World) (h l : Int) : Prop where
  r0 : wr.cell? ⟨w.heap.size, 0, none⟩ = some (.int .u64 0)
  r1 : wr.cell? ⟨w.heap.size, 1, none⟩ = some (.int .u64 0)
  q0 : wr.frozen? ⟨w.heap.size, 0, none⟩ = false
  q1 : wr.frozen? ⟨w.heap.size, 1, none⟩ = false
  c0 : wr.cell? ⟨w.heap.size + 1, 0, none⟩ = some (.int .u64 h)
  c1 : wr.cell? ⟨w.heap.size + 1, 1, none⟩ = some (.int .u64 l)
  f0 : wr.frozen? ⟨w.heap.size + 1, 0, none⟩ = false
  f1 : wr.frozen? ⟨w.heap.size + 1, 1, none⟩ = false
  bel : Below w.heap.size w wr
  size : wr.heap.size = w.heap.size + 2
theorem OfMem.putHi {w wr : World} {h l : Int} (m : OfMem w wr h l) (x : Int) : OfMem w (wr.setCell ⟨w.heap.size + 1, 0, none⟩ (.int .u64 x)) x l := by
  obtain ⟨r0, r1, q0, q1, c0, c1, f0, f1, bel, size⟩ := m
  refine ⟨?_, ?_, by rw [World.frozen?_setCell]; exact q0, by rw [World.frozen?_setCell]; exact q1, World.cell?_setCell_same _ _ _ c0, ?_, by rw [World.frozen?_setCell]; exact f0, by rw [World.frozen?_setCell]; exact f1, bel.setCell (by simp) _, by simpa using size⟩
  · rw [World.cell?_setCell_other _ _ _ _ (by simp)]; exact r0
  · rw [World.cell?_setCell_other _ _ _ _ (by simp)]; exact r1
  · rw [World.cell?_setCell_other _ _ _ _ (by simp)]; exact c1
theorem OfMem.putLo {w wr : World} {h l : Int} (m : OfMem w wr h l) (x : Int) : OfMem w (wr.setCell ⟨w.heap.size + 1, 1, none⟩ (.int .u64 x)) h x := by
  obtain ⟨r0, r1, q0, q1, c0, c1, f0, f1, bel, size⟩ := m
  refine ⟨?_, ?_, by rw [World.frozen?_setCell]; exact q0, by rw [World.frozen?_setCell]; exact q1, ?_, World.cell?_setCell_same _ _ _ c1, by rw [World.frozen?_setCell]; exact f0, by rw [World.frozen?_setCell]; exact f1, bel.setCell (by simp) _, by simpa using size⟩
  · rw [World.cell?_setCell_other _ _ _ _ (by simp)]; exact r0
  · rw [World.cell?_setCell_other _ _ _ _ (by simp)]; exact r1
  · rw [World.cell?_setCell_other _ _ _ _ (by simp)]; exact c0

theorem pow_small (k : Nat) (hk : k < 64) : (0 : Int) ≤ 2 ^ k ∧ (2 : Int) ^ k ≤ 9223372036854775808 := by
  have h2 : 2 ^ k ≤ 2 ^ 63 := Nat.pow_le_pow_right (by decide) (by omega)
  have h3 : ((2 ^ k : Nat) : Int) ≤ ((2 ^ 63 : Nat) : Int) := Int.ofNat_le.mpr h2
  rw [two_pow_cast]
  exact ⟨Int.natCast_nonneg _, h3⟩

set_option maxRecDepth 100000 in
set_option maxHeartbeats 1000000 in
theorem of_any (v : Value) (x : List Bool) (w : World) (hv : Bools w v x) (hx : x.length ≤ 1000000) :
    Calls Tryz.prog 106 #[v] w (GivesOf (val x) w) := by
  have HV := Lib.hid hv
  obtain ⟨b, off, cap, rfl, _, hlt, hcs⟩ := hv
  clear hcs
  go_enter Tryz.func106, Tryz.ntmps106
  go_wp2
  go_loopw [5] (fun i wr => ∃ (k : Nat) (h l : Int), k ≤ x.length ∧ i = .int .i64 k ∧ IsW h l (lo x k) ∧ OfMem w wr h l) (fun i _ => x.length - (intOf i).toNat)
  case atStart =>
    refine ⟨0, 0, 0, Nat.zero_le _, rfl, by rw [lo_zero]; exact IsW.zero, ⟨by simp [go_sem], by simp [go_sem], by simp [go_sem], by simp [go_sem], by simp [go_sem], by simp [go_sem], by simp [go_sem], by simp [go_sem], ((Below.refl _ _).alloc (Nat.le_refl _) _).alloc (by simp) _, by simp⟩⟩
  case round =>
    obtain ⟨k, h, l, hk, rfl, hW, hM⟩ := hrel
    have HM := Lib.hid hM
    by_cases h1 : k < x.length
    · have hcell := (HV.out.below hM.bel).at h1
      obtain ⟨r0, r1, q0, q1, c0, c1, f0, f1, hbel, hsz⟩ := hM
      by_cases h2 : x.getD k false = true
      · rw [h2] at hcell
        replace h2 := Lib.hid h2
        by_cases h3 : k < 64
        · obtain ⟨p1, p2⟩ := pow_small k h3
          have hn := of_low hW h3 h2.out
          have b1 := hn.l1
          have b0 := hn.l0
          replace hn := Lib.hid hn
          have hm := HM.out.putLo (l + 2 ^ k)
          clear hW
          go_wp2
          go_roundw
          case rel => exact ⟨k + 1, h, l + 2 ^ k, by omega, by go_num, hn.out, hm⟩
          case measure => simp [intOf]; omega
        · by_cases h4 : k < 128
          · obtain ⟨p1, p2⟩ := pow_small (k - 64) (by omega)
            have hn := of_high hW (by omega) h4 h2.out
            have b1 := hn.h1
            have b0 := hn.h0
            replace hn := Lib.hid hn
            have hm := HM.out.putHi (h + 2 ^ (k - 64))
            clear hW
            go_wp2
            go_roundw
            case rel => exact ⟨k + 1, h + 2 ^ (k - 64), l, by omega, by go_num, hn.out, hm⟩
            case measure => simp [intOf]; omega
          · have hb := Lib.hid (of_beyond (by omega) h2.out)
            go_wp2
            refine bodyPost_ret (v := .tuple #[.agg #[.int .u64 0, .int .u64 0], .bool false]) (by simp [results, Tryz.results106, go_sem, r0, r1]) rfl ⟨0, 0, false, rfl, by rw [capN_out hb.out]; exact IsW.zero, ⟨fun e => (Bool.noConfusion e), fun e => (hb.out e).elim⟩, ?_⟩
            exact (HM.out.bel.setCell (by simp) _).setCell (by simp) _
      · replace h2 : x.getD k false = false := by simpa using h2
        rw [h2] at hcell
        have hn := Lib.hid (of_none hW h2)
        replace h2 := Lib.hid h2
        clear hW
        go_wp2
        go_roundw
        case rel => exact ⟨k + 1, h, l, by omega, by go_num, hn.out, HM.out⟩
        case measure => simp [intOf]; omega
    · obtain rfl : k = x.length := by omega
      obtain ⟨r0, r1, q0, q1, c0, c1, f0, f1, hbel, hsz⟩ := hM
      have hN := Lib.hid (lo_all x x.length (Nat.le_refl _))
      have hWW := Lib.hid hW
      clear hW
      go_wp2
      refine bodyPost_ret (v := .tuple #[.agg #[.int .u64 h, .int .u64 l], .bool true]) (by simp [results, Tryz.results106, go_sem, r0, r1]) rfl ⟨h, l, true, rfl, ?_, ⟨fun _ => hN.out ▸ hWW.out.lt, fun _ => rfl⟩, ?_⟩
      · have := hWW.out
        rw [hN.out] at this
        rw [capN_in this.lt]; exact this
      · exact (HM.out.bel.setCell (by simp) _).setCell (by simp) _

end Go.Proofs.YtmgimkokmlcllaaGreatDoor

/-
  The document's own answers for numbers of bits, walked: one less the other.
-/
namespace Go.Proofs.YtmgimkokmlcllaaGreatDoor
open Go.RowKit

def DiffTo (la lb x : List Bool) (c : Nat) : Prop := lo la x.length + 2 ^ x.length * c = val x + lo lb x.length
theorem DiffTo.nil (la lb : List Bool) : DiffTo la lb [] 0 := by simp [DiffTo, val, lo_zero]
theorem diff_step (a b v c x y c' d k : Nat) (h : a + 2 ^ k * c = v + b) (hs : x + 2 * c' = d + y + c) : (a + 2 ^ k * x) + 2 ^ (k + 1) * c' = (v + 2 ^ k * d) + (b + 2 ^ k * y) := by
  have e : 2 ^ k * x + 2 ^ (k + 1) * c' = 2 ^ k * d + 2 ^ k * y + 2 ^ k * c := by
    have : 2 ^ k * (x + 2 * c') = 2 ^ k * (d + y + c) := by rw [hs]
    rw [Nat.pow_succ]; grind
  omega
theorem DiffTo.next {la lb x : List Bool} {c c' : Nat} {bb : Bool} (h : DiffTo la lb x c) (hs : bitN la x.length + 2 * c' = b2n bb + bitN lb x.length + c) : DiffTo la lb (x ++ [bb]) c' := by
  unfold DiffTo at *
  rw [val_append, List.length_append, List.length_singleton, lo_succ, lo_succ]
  exact diff_step _ _ _ _ _ _ _ _ _ h hs
theorem DiffTo.all {la lb x : List Bool} {c : Nat} (h : DiffTo la lb x c) (hl : x.length = la.length) (hle : val lb ≤ val la) : val x = val la - val lb := by
  unfold DiffTo at h
  have h1 := val_lt la
  have h2 := val_lt x
  have h3 := val_split lb la.length
  have h4 : hi lb la.length = 0 := by
    have : ¬ 1 ≤ hi lb la.length := fun hc => by
      have : 2 ^ la.length * 1 ≤ 2 ^ la.length * hi lb la.length := Nat.mul_le_mul_left _ hc
      omega
    omega
  rw [h4, Nat.mul_zero, Nat.add_zero] at h3
  rw [hl, lo_all la _ (Nat.le_refl _), ← h3] at h
  rw [hl] at h2
  have h5 : c = 0 := by
    have : ¬ 1 ≤ c := fun hc => by
      have : 2 ^ la.length * 1 ≤ 2 ^ la.length * c := Nat.mul_le_mul_left _ hc
      omega
    omega
  rw [h5] at h; omega
theorem diff_place (x y : Int) (c bx by' : Nat) (hx : (bx : Int) = x) (hy : (by' : Int) = y) (h0 : bx ≤ 1) (h : ¬ x - y - (c : Int) < 0) :
    ∃ bb : Bool, (x - y - (c : Int) == 1) = bb ∧ bx + 2 * 0 = b2n bb + by' + c := by
  subst hx; subst hy
  refine ⟨_, rfl, ?_⟩
  have : bx = by' + c ∨ bx = 1 + by' + c := by omega
  rcases this with e | e
  · have h2 : (bx : Int) - by' - c = 0 := by omega
    rw [h2]; simp [b2n]; omega
  · have h2 : (bx : Int) - by' - c = 1 := by omega
    rw [h2]; simp [b2n]; omega
theorem diff_borrow (x y : Int) (c bx by' : Nat) (hx : (bx : Int) = x) (hy : (by' : Int) = y) (h0 : by' ≤ 1) (h1 : c ≤ 1) (h : x - y - (c : Int) < 0) :
    ∃ bb : Bool, (x - y - (c : Int) + 2 == 1) = bb ∧ bx + 2 * 1 = b2n bb + by' + c := by
  subst hx; subst hy
  refine ⟨_, rfl, ?_⟩
  have : bx + 2 = by' + c ∨ bx + 2 = 1 + by' + c := by omega
  rcases this with e | e
  · have h2 : (bx : Int) - by' - c + 2 = 0 := by omega
    rw [h2]; simp [b2n]; omega
  · have h2 : (bx : Int) - by' - c + 2 = 1 := by omega
    rw [h2]; simp [b2n]; omega


set_option maxRecDepth 100000 in
set_option maxHeartbeats 2000000 in
theorem minus_new (va vb : Value) (la lb : List Bool) (w : World) (ha : BoolsN w va la) (hb : BoolsN w vb lb) (hma : la.length ≤ 1000000) (hmb : lb.length ≤ 1000000) (hle : val lb ≤ val la) :
    Calls Tryz.prog 127 #[va, vb] w (GivesNew (fun x => x.length = la.length ∧ val x = val la - val lb) w) := by
  obtain ⟨i0, hi, hz0, hz1, hz2⟩ := info_parts info_bool
  have HA := Lib.hid ha
  have HB := Lib.hid hb
  have HLE := Lib.hid hle
  obtain ⟨aa, ca, rfl⟩ := ha.len
  obtain ⟨ab, cb, rfl⟩ := hb.len
  clear ha hb hle
  go_enter Tryz.func127, Tryz.ntmps127
  go_wp2
  go_loopw [5, 6, 7, 8] (fun out dn i _ wr => ∃ (k c : Nat) (x : List Bool), k ≤ la.length ∧ c ≤ 1 ∧ i = .int .i64 k ∧ dn = .int .i64 c ∧ OwnBits wr w.heap.size out x ∧ Hid (x.length = k) ∧ DiffTo la lb x c ∧ Below w.heap.size w wr)
    (fun _ _ i _ _ => la.length - (intOf i).toNat)
  case atStart =>
    exact ⟨0, 0, [], by omega, by omega, rfl, rfl, OwnBits.fresh _ _ _ rfl (Nat.le_refl _), Lib.hid rfl, DiffTo.nil _ _, (Below.refl _ _).alloc (Nat.le_refl _) _⟩
  case round =>
    obtain ⟨k, c, x, hk, hc, rfl, rfl, hown, hlen, hval, hbel⟩ := hrel
    by_cases h1 : k < la.length
    · obtain ⟨t1, t2⟩ := at_two la lb k
      obtain ⟨x1, hx1, hx2, HX⟩ := t1
      obtain ⟨y1, hy1, hy2, HY⟩ := t2
      have HA1 := Lib.hid (HA.out.belowOf (Nat.le_refl _) hbel)
      have HB1 := Lib.hid (HB.out.belowOf (Nat.le_refl _) hbel)
      by_cases h2 : x1 - y1 - (c : Int) < 0
      · obtain ⟨bb, hbb, hb'⟩ := diff_borrow x1 y1 c _ _ HX.out HY.out (bitN_le lb k) hc h2
        have HN := Lib.hid (show DiffTo la lb (x ++ [bb]) 1 from hval.next (by rw [hlen.out]; exact hb'))
        clear hb'
        go_wp2_with (first | (go_at_call 128; (with_reducible refine (at_is _ la _ x1 _ HA1.out (by omega) (by omega) HX).mono ?_); rintro e w' ⟨rfl, rfl⟩) | (go_at_call 128; (with_reducible refine (at_is _ lb _ y1 _ HB1.out (by omega) (by omega) HY).mono ?_); rintro e w' ⟨rfl, rfl⟩) | (at_builtin; refine wpList_append_own _ rfl _ _ 105 rfl w.heap.size 4 i0 (.bool false) 1 1 Tryz.underlying105 hi hz0 hz1 hz2 rfl (by decide) _ _ _ rfl (hown.1.alloc _) ⟨wr.heap.size, 0, none⟩ 1 1 [.bool bb] rfl rfl ?c11 ?c12 ?c13 ?c14 ?c15 ?_))
        case c11 => exact cell_one_new _ _ _
        case c12 => intro u hu; simp at hu; subst hu; rfl
        case c13 => have := hlen.out; unfold maxLen; omega
        case c14 => have := hlen.out; omega
        case c15 => have := hbel.size; simp; omega
        intro v' w1 hown' hgrow hiff
        have hn := own_next hown hown' hgrow hiff hbel
        clear hown hown' hgrow hiff hbel hval HA1 HB1
        obtain ⟨hn1, hn2⟩ := hn
        go_wp2
        go_roundw
        case rel => exact ⟨k + 1, 1, _, by omega, by omega, by go_num, rfl, hn1, Lib.hid (by rw [List.length_append, hlen.out]; rfl), HN.out, hn2⟩
        case measure => simp [intOf]; omega
      · obtain ⟨bb, hbb, hb'⟩ := diff_place x1 y1 c _ _ HX.out HY.out (bitN_le la k) h2
        have HN := Lib.hid (show DiffTo la lb (x ++ [bb]) 0 from hval.next (by rw [hlen.out]; exact hb'))
        clear hb'
        go_wp2_with (first | (go_at_call 128; (with_reducible refine (at_is _ la _ x1 _ HA1.out (by omega) (by omega) HX).mono ?_); rintro e w' ⟨rfl, rfl⟩) | (go_at_call 128; (with_reducible refine (at_is _ lb _ y1 _ HB1.out (by omega) (by omega) HY).mono ?_); rintro e w' ⟨rfl, rfl⟩) | (at_builtin; refine wpList_append_own _ rfl _ _ 105 rfl w.heap.size 4 i0 (.bool false) 1 1 Tryz.underlying105 hi hz0 hz1 hz2 rfl (by decide) _ _ _ rfl (hown.1.alloc _) ⟨wr.heap.size, 0, none⟩ 1 1 [.bool bb] rfl rfl ?c21 ?c22 ?c23 ?c24 ?c25 ?_))
        case c21 => exact cell_one_new _ _ _
        case c22 => intro u hu; simp at hu; subst hu; rfl
        case c23 => have := hlen.out; unfold maxLen; omega
        case c24 => have := hlen.out; omega
        case c25 => have := hbel.size; simp; omega
        intro v' w1 hown' hgrow hiff
        have hn := own_next hown hown' hgrow hiff hbel
        clear hown hown' hgrow hiff hbel hval HA1 HB1
        obtain ⟨hn1, hn2⟩ := hn
        go_wp2
        go_roundw
        case rel => exact ⟨k + 1, 0, _, by omega, by omega, by go_num, rfl, hn1, Lib.hid (by rw [List.length_append, hlen.out]; rfl), HN.out, hn2⟩
        case measure => simp [intOf]; omega
    · obtain rfl : k = la.length := by omega
      go_wp2
      go_ret
      exact ⟨_, _, rfl, hown.bools, ⟨hlen.out, hval.all hlen.out HLE.out⟩, hbel, fun b hb => (hown.1.lt b hb).1⟩
end Go.Proofs.YtmgimkokmlcllaaGreatDoor

/-
  The document's own answers for numbers of bits, walked: how often a number fits, and what is left.
-/
namespace Go.Proofs.YtmgimkokmlcllaaGreatDoor
open Go.RowKit

theorem getD_set_same (l : List Bool) (j : Nat) (b : Bool) (h : j < l.length) : (l.set j b).getD j false = b := by
  rw [List.getD_eq_getElem?_getD, List.getElem?_set_self h]; rfl
theorem getD_set_other (l : List Bool) (j i : Nat) (b : Bool) (h : j ≠ i) : (l.set j b).getD i false = l.getD i false := by
  rw [List.getD_eq_getElem?_getD, List.getD_eq_getElem?_getD, List.getElem?_set_ne h]
theorem hi_set (l : List Bool) (j : Nat) (b : Bool) : hi (l.set j b) (j + 1) = hi l (j + 1) := by
  unfold hi
  rw [List.drop_set_of_lt (Nat.lt_succ_self j)]

structure DivAt (la ln ll lq : List Bool) (k : Nat) : Prop where
  lenq : lq.length = la.length
  lenl : ll.length + k = la.length
  low : ∀ j, j < k → lq.getD j false = false
  num : hi lq k * val ln + val ll = hi la k
  less : val ll < val ln
theorem DivAt.start (la ln : List Bool) (hn : val ln ≠ 0) : DivAt la ln [] (List.replicate la.length false) la.length := by
  refine ⟨by simp, by simp, fun j hj => ?_, ?_, by simp [val]; omega⟩
  · rw [List.getD_eq_getElem?_getD, List.getElem?_replicate, if_pos hj]; rfl
  · rw [hi_beyond _ _ (by simp), hi_beyond la _ (Nat.le_refl _)]; simp [val]
theorem DivAt.no {la ln ll lq : List Bool} {j : Nat} (h : DivAt la ln ll lq (j + 1)) (hc : ¬ val ln ≤ val (la.getD j false :: ll)) : DivAt la ln (la.getD j false :: ll) lq j := by
  obtain ⟨h1, h2, h3, h4, h5⟩ := h
  have e : bitN lq j = 0 := by unfold bitN; rw [h3 j (by omega)]; rfl
  refine ⟨h1, by simp; omega, fun i hi => h3 i (by omega), ?_, by omega⟩
  rw [hi_step lq j, hi_step la j, e, ← h4]
  simp only [val]
  show (0 + 2 * hi lq (j + 1)) * val ln + (bitN la j + 2 * val ll) = _
  grind
theorem DivAt.yes {la ln ll lq l2 : List Bool} {j : Nat} (h : DivAt la ln ll lq (j + 1)) (hc : val ln ≤ val (la.getD j false :: ll)) (hl : l2.length = (la.getD j false :: ll).length) (hv : val l2 = val (la.getD j false :: ll) - val ln) :
    DivAt la ln l2 (lq.set j true) j := by
  obtain ⟨h1, h2, h3, h4, h5⟩ := h
  have hj : j < lq.length := by omega
  have e : bitN (lq.set j true) j = 1 := by unfold bitN; rw [getD_set_same _ _ _ hj]; rfl
  have hb := b2n_le (la.getD j false)
  have hx : val (la.getD j false :: ll) = b2n (la.getD j false) + 2 * val ll := rfl
  refine ⟨by rw [List.length_set]; exact h1, by rw [hl]; simp; omega, fun i hi => by rw [getD_set_other _ _ _ _ (by omega)]; exact h3 i (by omega), ?_, by omega⟩
  rw [hi_step (lq.set j true) j, hi_step la j, e, hi_set, hv, ← h4]
  have e2 : bitN la j = b2n (la.getD j false) := rfl
  have e3 : (1 + 2 * hi lq (j + 1)) * val ln = val ln + 2 * (hi lq (j + 1) * val ln) := by grind
  omega
theorem DivAt.no' {la ln ll lq : List Bool} {j : Nat} {bj : Bool} (h : DivAt la ln ll lq (j + 1)) (hb : bj = la.getD j false) (hc : ¬ val ln ≤ val (bj :: ll)) : DivAt la ln (bj :: ll) lq j := by
  subst hb; exact h.no hc
theorem DivAt.yes' {la ln ll lq l2 : List Bool} {j : Nat} {bj : Bool} (h : DivAt la ln ll lq (j + 1)) (hb : bj = la.getD j false) (hc : val ln ≤ val (bj :: ll)) (hl : l2.length = (bj :: ll).length) (hv : val l2 = val (bj :: ll) - val ln) : DivAt la ln l2 (lq.set j true) j := by
  subst hb; exact h.yes hc hl hv
theorem DivAt.all {la ln ll lq : List Bool} (h : DivAt la ln ll lq 0) : val lq = val la / val ln ∧ val ll = val la % val ln := by
  obtain ⟨_, _, _, h4, h5⟩ := h
  rw [hi_zero, hi_zero] at h4
  have e1 : val la / val ln = val lq := by
    rw [← h4, Nat.mul_comm, Nat.add_comm, Nat.add_mul_div_left _ _ (by omega), Nat.div_eq_of_lt h5]; omega
  have e2 : val la % val ln = val ll := by
    rw [← h4, Nat.mul_comm, Nat.add_comm, Nat.add_mul_mod_self_left, Nat.mod_eq_of_lt h5]
  exact ⟨e1.symm, e2.symm⟩

structure QMem (w wr : World) (lq : List Bool) : Prop where
  row : ∀ i, i < lq.length → wr.cell? ⟨w.heap.size, i, none⟩ = some (.bool (lq.getD i false))
  free : ∀ i, i < lq.length → wr.frozen? ⟨w.heap.size, i, none⟩ = false
  size : w.heap.size < wr.heap.size
theorem QMem.after {w wr w1 : World} {lq : List Bool} (h : QMem w wr lq) (hb : Below wr.heap.size wr w1) : QMem w w1 lq :=
  ⟨fun i hi => (hb.cell (p := ⟨w.heap.size, i, none⟩) h.size).trans (h.row i hi), fun i hi => (hb.frozen (p := ⟨w.heap.size, i, none⟩) h.size).trans (h.free i hi), Nat.lt_of_lt_of_le h.size hb.size⟩
theorem QMem.put {w wr : World} {lq : List Bool} (h : QMem w wr lq) {j : Nat} (hj : j < lq.length) : QMem w (wr.setCell ⟨w.heap.size, j, none⟩ (.bool true)) (lq.set j true) := by
  refine ⟨fun i hi => ?_, fun i hi => by rw [World.frozen?_setCell]; exact h.free i (by simpa using hi), by simpa using h.size⟩
  rw [List.length_set] at hi
  by_cases e : j = i
  · subst e
    rw [getD_set_same _ _ _ hj]
    exact World.cell?_setCell_same _ _ _ (h.row j hj)
  · rw [World.cell?_setCell_other _ _ _ _ (by first | (simp; done) | (simp; exact e)), getD_set_other _ _ _ _ e]
    exact h.row i hi
theorem QMem.start (w : World) (n : Nat) : QMem w (w.alloc (.cells (madeCells #[.bool false] n) 4)) (List.replicate n false) := by
  refine ⟨fun i hi => ?_, fun i hi => by simp, by simp⟩
  rw [List.length_replicate] at hi
  rw [World.cell?_alloc_new, ← Array.getElem?_toList, toList_madeCells_one, List.getElem?_replicate, if_pos hi, List.getD_eq_getElem?_getD, List.getElem?_replicate, if_pos hi]
  try rfl
theorem QMem.bools {w wr : World} {lq : List Bool} (h : QMem w wr lq) (n : Nat) (hn : n = lq.length) : Bools wr (.slice (some ⟨w.heap.size, 0, none⟩) n n) lq := by
  subst hn
  exact ⟨_, 0, _, rfl, Nat.le_refl _, h.size, fun i hi => by rw [Nat.zero_add]; exact h.row i hi⟩

theorem Bools.setOther {w : World} {v : Value} {l : List Bool} (h : Bools w v l) {a : Addr} (u : Value) (hne : ∀ b, v.ownBlock = some b → b ≠ a.block) : Bools (w.setCell a u) v l := by
  obtain ⟨b, off, cap, rfl, hc, hlt, hcell⟩ := h
  have := hne b rfl
  refine ⟨b, off, cap, rfl, hc, by simpa using hlt, fun i hi => ?_⟩
  rw [World.cell?_setCell_other _ _ _ _ (by intro e; exact this (by rw [e]))]
  exact hcell i hi
theorem app_next {W w3 : World} {v3 : Value} {ls : List Bool} (x : Bool) (hown : w3.ownsRow W.heap.size 4 1 v3 (1 + ls.length) ([Value.bool x] ++ ls.map Value.bool))
    (hgrow : (W.alloc (.cells #[.bool x] 4)).grownBy w3 (some W.heap.size)) (hiff : ¬ v3 = .slice none 0 0) : Bools w3 v3 (x :: ls) ∧ Below W.heap.size W w3 :=
  ⟨(OwnBits.append (l := [x]) hown rfl hiff).bools, ((Below.refl _ _).alloc (Nat.le_refl _) _).grown hgrow (by simp) (fun k hk => by simp only [Option.some.injEq] at hk; omega)⟩

def GivesDiv (q r n : Nat) (w : World) (e : Ending) (w' : World) : Prop := ∃ vq vl lq ll, e = .returned (.tuple #[vq, vl]) ∧ Bools w' vq lq ∧ Bools w' vl ll ∧ lq.length = n ∧ ll.length = n ∧ val lq = q ∧ val ll = r ∧ Below w.heap.size w w'

set_option maxRecDepth 100000 in
set_option maxHeartbeats 2000000 in
theorem divide_any (va vn : Value) (la ln : List Bool) (w : World) (ha : Bools w va la) (hn : Bools w vn ln) (hma : la.length ≤ 100000) (hmn : ln.length ≤ 100000) (h0 : val ln ≠ 0) :
    Calls Tryz.prog 105 #[va, vn] w (GivesDiv (val la / val ln) (val la % val ln) la.length w) := by
  obtain ⟨i0, hi, hz0, hz1, hz2⟩ := info_parts info_bool
  have hmk := run_make_row' (P := Tryz.prog) 105 4 (.bool false) 1 Tryz.underlying105 info_bool rfl .i64 .i64 la.length (by omega) (by omega)
  have HA := Lib.hid ha
  have HN := Lib.hid hn
  replace h0 := Lib.hid h0
  obtain ⟨ba, oa, ca, rfl, _, hlb, hca⟩ := ha
  clear hca hn
  go_enter Tryz.func105, Tryz.ntmps105
  go_wp2
  go_loopw [7, 8] (fun vl i wr => ∃ (k : Nat) (z : Int) (ll lq : List Bool), i = .int .i64 z ∧ Hid (z = (k : Int) - 1) ∧ -1 ≤ z ∧ z ≤ 1000000 ∧ Hid (k ≤ la.length) ∧ Bools wr vl ll ∧ QMem w wr lq ∧ DivAt la ln ll lq k ∧ Below w.heap.size w wr) (fun _ i _ => (intOf i + 1).toNat)
  case atStart =>
    exact ⟨la.length, _, [], List.replicate la.length false, rfl, Lib.hid rfl, by omega, by omega, Lib.hid (Nat.le_refl _), (OwnBits.fresh _ 0 _ (by simp) (Nat.zero_le _)).bools, (QMem.start w la.length).after ((Below.refl _ _).alloc (Nat.le_refl _) _), DivAt.start la ln h0.out, ((Below.refl _ _).alloc (Nat.le_refl _) _).alloc (by simp) _⟩
  case round =>
    obtain ⟨k, z, ll, lq, rfl, hz, hz1', hz2', hk, hvl, hQ, hD, hbel⟩ := hrel
    by_cases hz0' : 0 ≤ z
    · obtain ⟨j, rfl⟩ := Int.eq_ofNat_of_zero_le hz0'
      obtain rfl : k = j + 1 := by have := hz.out; omega
      have hj : j < la.length := by have := hk.out; omega
      have hcell := (HA.out.below hbel).at hj
      obtain ⟨bj, hbj⟩ : ∃ b, b = la.getD j false := ⟨_, rfl⟩
      rw [← hbj] at hcell
      have HJ := Lib.hid hbj
      clear hbj hz
      replace hQ := Lib.hid hQ
      replace hD := Lib.hid hD
      have HS := Lib.hid hvl
      obtain ⟨bs, os, cs, rfl, _, _, hcs⟩ := hvl
      clear hcs
      have hlen := Lib.hid hD.out.lenl
      go_wp2_with (at_builtin; refine wpList_append_own _ rfl _ _ 105 rfl wr.heap.size 4 i0 (.bool false) 1 1 Tryz.underlying105 hi hz0 hz1 hz2 rfl (by decide) _ 1 [.bool bj] rfl (OwnBits.one _ _ _ bj rfl (Nat.le_refl _)).1 ⟨bs, os, none⟩ ll.length cs (ll.map Value.bool) rfl (by simp) ?c1 ?c2 ?c3 ?c4 ?c5 ?_)
      case c1 => exact (HS.out.alloc _).news
      case c2 => exact bools_one ll
      case c3 => have := hlen.out; unfold maxLen; omega
      case c4 => have := hlen.out; omega
      case c5 => simp
      intro v3 w3 hown3 hgrow3 hiff3
      obtain ⟨k3, g3⟩ := app_next bj hown3 hgrow3 hiff3
      clear hown3 hgrow3 hiff3
      have D3 := hbel.trans (g3.mono hbel.size)
      have Q3 := Lib.hid (hQ.out.after g3)
      have hjq : j < lq.length := by have := hD.out.lenq; omega
      have hll : ll.length ≤ 100000 := by have := hlen.out; omega
      have N3 := Lib.hid ((HN.out.below hbel).below g3)
      replace k3 := Lib.hid k3
      have hl1 : (bj :: ll).length ≤ 100001 := by simp; omega
      obtain ⟨c, hc⟩ : ∃ c, cmpI (val (bj :: ll)) (val ln) = c := ⟨_, rfl⟩
      have hcm : (0 ≤ c ↔ val ln ≤ val (bj :: ll)) := by
        rw [← hc]; unfold cmpI; split <;> (try split) <;> constructor <;> intros <;> omega
      replace hc := Lib.hid hc
      clear hQ hcell HS
      by_cases hle : val ln ≤ val (bj :: ll)
      · have hc0 : 0 ≤ c := hcm.mpr hle
        have hY := Lib.hid (fun (l2 : List Bool) => hD.out.yes' (l2 := l2) HJ.out hle)
        replace hle := Lib.hid hle
        clear hcm
        go_wp2_with (first | (go_at_call 107; refine (compare_is c _ _ (bj :: ll) ln _ k3.out.orNil N3.out.orNil (by omega) (by omega) hc).mono ?_; rintro e w' ⟨rfl, rfl⟩) | (go_at_call 127; refine (minus_new _ _ (bj :: ll) ln _ k3.out.orNil N3.out.orNil (by omega) (by omega) hle.out).mono ?_; rintro e w4 ⟨v4, l4, rfl, k4, ⟨n4, e4⟩, g4, f4⟩; have Q4 := Lib.hid (Q3.out.after g4); have q1 := Q4.out.row j hjq; have q2 := Q4.out.free j hjq; replace n4 := Lib.hid n4; replace e4 := Lib.hid e4))
        have hE := hY.out l4 n4.out e4.out
        have hz3 : w.heap.size < w3.heap.size := Q3.out.size
        have k5 : Bools (w4.setCell ⟨w.heap.size, j, none⟩ (.bool true)) v4 l4 := k4.setOther _ (fun b hb => by have := f4 b hb; show b ≠ w.heap.size; omega)
        have Q5 := Q4.out.put hjq
        have D5 : Below w.heap.size w (w4.setCell ⟨w.heap.size, j, none⟩ (.bool true)) := (D3.trans (g4.mono D3.size)).setCell (Nat.le_refl _) _
        go_roundw
        case rel => exact ⟨j, _, l4, lq.set j true, rfl, Lib.hid rfl, by omega, by omega, Lib.hid (by omega), k5, Q5, hE, D5⟩
        case measure => simp [intOf]
      · have hc0 : ¬ 0 ≤ c := fun h => hle (hcm.mp h)
        have hE := Lib.hid (hD.out.no' HJ.out hle)
        replace hle := Lib.hid hle
        clear hcm
        go_wp2_with (go_at_call 107; refine (compare_is c _ _ (bj :: ll) ln _ k3.out.orNil N3.out.orNil (by omega) (by omega) hc).mono ?_; rintro e w' ⟨rfl, rfl⟩)
        go_roundw
        case rel => exact ⟨j, _, bj :: ll, lq, rfl, Lib.hid rfl, by omega, by omega, Lib.hid (by omega), k3.out, Q3.out, hE.out, D3⟩
        case measure => simp [intOf]
    · obtain rfl : z = -1 := by omega
      obtain rfl : k = 0 := by have := hz.out; omega
      replace hD := Lib.hid hD
      clear hz
      go_wp2
      go_ret2
      exact ⟨_, _, lq, ll, rfl, hQ.bools _ hD.out.lenq.symm, hvl, hD.out.lenq, hD.out.lenl, hD.out.all.1, hD.out.all.2, hbel⟩
end Go.Proofs.YtmgimkokmlcllaaGreatDoor

/-
  The document's own answers for numbers of bits, walked: the decimal digits.
-/
namespace Go.Proofs.YtmgimkokmlcllaaGreatDoor
open Go.RowKit

theorem one_letter (W : World) (z : Int) (g : Nat) (hg : g = W.heap.size) :
    (convert 41 9 (.slice (some ⟨g, 0, none⟩) 1 1)).run Tryz.prog (W.alloc (.cells #[.int .u8 z] 5)) = .ok (.string (strOfNums [z])) (W.alloc (.cells #[.int .u8 z] 5)) := by
  subst hg
  exact run_convert_bytes_arg (W.alloc (.cells #[.int .u8 z] 5)) 41 5 Tryz.underlying41 Tryz.underlying5 _ _ 1 1 [z] rfl (fun i hi => by
    obtain rfl : i = 0 := by omega
    simp) 9 Tryz.underlying9

structure DigitsAt (A n : Nat) (l : List Bool) (xs : List Int) : Prop where
  all : dec A = dec (val l) ++ xs
  len : l.length = n
  lt : W128 (val l)

theorem digits_last {A n : Nat} {l : List Bool} {xs : List Int} {r : Int} (h : DigitsAt A n l xs) (hl : val l < 10) (hr : r = ((val l % 10 : Nat) : Int)) : strOfNums (dec A) = strOfNums ((48 + r) :: xs) := by
  rw [h.all, dec_small hl, hr, Nat.mod_eq_of_lt hl]; rfl
theorem digits_next {A n : Nat} {l lq : List Bool} {xs : List Int} {r : Int} (h : DigitsAt A n l xs) (hl : ¬ val l < 10) (hr : r = ((val l % 10 : Nat) : Int)) (h1 : val lq = val l / 10) (h2 : lq.length = l.length) : DigitsAt A n lq ((48 + r) :: xs) := by
  obtain ⟨a, b, c⟩ := h
  refine ⟨by rw [a, dec_big hl, h1, hr]; simp, by rw [h2, b], ?_⟩
  rw [h1]; unfold W128 at *; omega
theorem digit_of {p r : Int} {N M : Nat} (h : IsW p r (capN N)) (hN : N = M % 10) : p = 0 ∧ 0 ≤ r ∧ r ≤ 9 ∧ r = ((M % 10 : Nat) : Int) := by
  have hw : W128 N := by unfold W128; omega
  rw [capN_in hw] at h
  obtain ⟨a, b, c, d, e⟩ := h
  omega

set_option maxRecDepth 100000 in
set_option maxHeartbeats 2000000 in
theorem digits_any (v : Value) (l : List Bool) (w : World) (hv : Bools w v l) (hl : l.length ≤ 100000) (hA : W128 (val l)) :
    Calls Tryz.prog 76 #[v] w fun e w' => e = .returned (.string (strOfNums (dec (val l)))) ∧ Below w.heap.size w w' := by
  obtain ⟨A, hAe⟩ : ∃ A, A = val l := ⟨_, rfl⟩
  have hD : DigitsAt A l.length l [] := ⟨by rw [hAe]; simp, rfl, hA⟩
  have hlA : Hid (W128 A) := by rw [hAe]; exact hA
  rw [← hAe]
  have HV := Lib.hid hv
  go_enter Tryz.func76, Tryz.ntmps76
  go_wp2_with (go_at_call 77; refine (bits_small 10 _ (by decide) (by decide)).mono ?_; rintro e w1 ⟨vt, lt, rfl, kt, ⟨nt, et⟩, g1⟩; replace et := Lib.hid et; replace nt := Lib.hid nt; replace kt := Lib.hid kt)
  go_loopg [0, 4, 5, 6, 7, 8] (val l) (fun k v0 v4 _ _ _ _ wr => ∃ (m : List Bool) (xs : List Int), Hid (val m ≤ k) ∧ v4 = .string (strOfNums xs) ∧ Bools wr v0 m ∧ DigitsAt A l.length m xs ∧ Below w1.heap.size w1 wr)
  case atStart => exact ⟨l, [], Lib.hid (Nat.le_refl _), rfl, hv.below g1, hD, Below.refl _ _⟩
  case round =>
    obtain ⟨m, xs, hk, rfl, hm, hDD, hbel⟩ := hrel
    replace hm := Lib.hid hm
    replace hDD := Lib.hid hDD
    have hlm : m.length ≤ 100000 := by rw [hDD.out.len]; exact hl
    have hlx : Hid (xs.length ≤ 39) := by have h1 := dec_len hlA.out; rw [hDD.out.all, List.length_append] at h1; unfold Hid; omega
    by_cases hlt : val m < 10
    · have hfin := Lib.hid (fun (r : Int) (hr : r = ((val m % 10 : Nat) : Int)) => digits_last hDD.out hlt hr)
      replace hlt := Lib.hid hlt
      go_wp2_with (first | (go_at_call 105; refine (divide_any _ vt m lt _ hm.out (kt.out.below hbel) hlm (by have := nt.out; omega) (by rw [et.out]; decide)).mono ?_; rintro e w2 ⟨vq, vl, lq, ll, rfl, kq, kl, nq, nl, eq, el, g2⟩; replace eq := Lib.hid (show val lq = val m / 10 by rw [eq, et.out]; rfl); replace el := Lib.hid (show val ll = val m % 10 by rw [el, et.out]; rfl); replace nq := Lib.hid nq; replace nl := Lib.hid nl; replace kq := Lib.hid kq; replace kl := Lib.hid kl) | (go_at_call 106; refine (of_any vl ll _ kl.out (by have := nl.out; omega)).mono ?_; rintro e w3 ⟨p, r, ok, rfl, hW, hok, g3⟩; clear hok; obtain ⟨rfl, r0, r1, hr⟩ := digit_of hW el.out; clear hW; replace hr := Lib.hid hr; have hcv := one_letter (w3.alloc (.cells #[.int .u64 0, .int .u64 r] 108)) (48 + r) (w3.heap.size + 1) (by simp); have hap := strOfNums_append [48 + r] xs; have hsz : (strOfNums [48 + r]).size + (strOfNums xs).size ≤ 9223372036854775807 := (by rw [strOfNums_size, strOfNums_size]; have := hlx.out; simp; omega)) | (go_at_call 107; refine (compare_is 0 vq (.slice none 0 0) lq [] _ (((kq.out.below g3).alloc _).alloc _).orNil (BoolsN.nil _) (by have := nq.out; omega) (by simp) (by unfold Hid; rw [eq.out]; exact cmpI_eq (by have := hlt.out; simp [val]; omega))).mono ?_; rintro e w' ⟨rfl, rfl⟩))
      go_ret
      exact ⟨by rw [hfin.out r hr.out]; rfl, (g1.trans (((hbel.trans ((g2.trans (g3.mono g2.size)).mono hbel.size)).mono g1.size).alloc (by have := g1.size; have := hbel.size; have := g2.size; have := g3.size; omega) _)).alloc (by have := g1.size; have := hbel.size; have := g2.size; have := g3.size; simp; omega) _⟩
    · have hnx := Lib.hid (fun (r : Int) (hr : r = ((val m % 10 : Nat) : Int)) (lq : List Bool) (h1 : val lq = val m / 10) (h2 : lq.length = m.length) => digits_next hDD.out hlt hr h1 h2)
      replace hlt := Lib.hid hlt
      go_wp2_with (first | (go_at_call 105; refine (divide_any _ vt m lt _ hm.out (kt.out.below hbel) hlm (by have := nt.out; omega) (by rw [et.out]; decide)).mono ?_; rintro e w2 ⟨vq, vl, lq, ll, rfl, kq, kl, nq, nl, eq, el, g2⟩; replace eq := Lib.hid (show val lq = val m / 10 by rw [eq, et.out]; rfl); replace el := Lib.hid (show val ll = val m % 10 by rw [el, et.out]; rfl); replace nq := Lib.hid nq; replace nl := Lib.hid nl; replace kq := Lib.hid kq; replace kl := Lib.hid kl) | (go_at_call 106; refine (of_any vl ll _ kl.out (by have := nl.out; omega)).mono ?_; rintro e w3 ⟨p, r, ok, rfl, hW, hok, g3⟩; clear hok; obtain ⟨rfl, r0, r1, hr⟩ := digit_of hW el.out; clear hW; replace hr := Lib.hid hr; have hcv := one_letter (w3.alloc (.cells #[.int .u64 0, .int .u64 r] 108)) (48 + r) (w3.heap.size + 1) (by simp); have hap := strOfNums_append [48 + r] xs; have hsz : (strOfNums [48 + r]).size + (strOfNums xs).size ≤ 9223372036854775807 := (by rw [strOfNums_size, strOfNums_size]; have := hlx.out; simp; omega)) | (go_at_call 107; refine (compare_is 1 vq (.slice none 0 0) lq [] _ (((kq.out.below g3).alloc _).alloc _).orNil (BoolsN.nil _) (by have := nq.out; omega) (by simp) (by unfold Hid; rw [eq.out]; exact cmpI_gt (by have := hlt.out; simp [val]; omega))).mono ?_; rintro e w' ⟨rfl, rfl⟩))
      have hE := hnx.out r hr.out lq eq.out nq.out
      have D3 := (((hbel.trans ((g2.trans (g3.mono g2.size)).mono hbel.size)).alloc (by have := hbel.size; have := g2.size; have := g3.size; omega) (.cells #[.int .u64 0, .int .u64 r] 108)).alloc (by have := hbel.size; have := g2.size; have := g3.size; simp; omega) (.cells #[.int .u8 (48 + r)] 5))
      have K3 := ((kq.out.below g3).alloc (.cells #[.int .u64 0, .int .u64 r] 108)).alloc (.cells #[.int .u8 (48 + r)] 5)
      go_roundg (val m / 10)
      case measure => have := hlt.out; have := hk.out; omega
      case rel => exact ⟨lq, (48 + r) :: xs, Lib.hid (by rw [eq.out]; exact Nat.le_refl _), rfl, K3, hE, D3⟩
end Go.Proofs.YtmgimkokmlcllaaGreatDoor
