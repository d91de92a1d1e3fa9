/-
  The document's own answers for numbers of bits, walked: both, bit by bit; one times the other.
-/
import Derived.Test.YtfdpiiahclglcaaDoorRefB
namespace Go.Proofs.YtfdpiiahclglcaaDoor
open Go.RowKit

/-- One place more of a sum: what is known of the slice, and of what lies below. -/
theorem own_next {w wr w1 : World} {v v' : Value} {x : List Bool} {bb : Bool} (hown : OwnBits wr w.heap.size v x)
    (hown' : w1.ownsRow w.heap.size 4 1 v' (x.length + 1) (x.map Value.bool ++ [.bool bb])) (hgrow : (wr.alloc (.cells #[.bool bb] 4)).grownBy w1 v.ownBlock) (hiff : ¬ v' = .slice none 0 0)
    (hbel : Below w.heap.size w wr) : OwnBits w1 w.heap.size v' (x ++ [bb]) ∧ Below w.heap.size w w1 := by
  have hlt := hown.1.lt
  have hsz := hbel.size
  exact ⟨OwnBits.append (news := [bb]) hown' rfl hiff, (hbel.alloc hsz _).grown hgrow (by simp; omega) (fun k hk => (hlt _ hk).1)⟩
/-- What a place of a sum comes to. -/
theorem sum_place (x y : Int) (c : Nat) (bx by' : Nat) (hx : (bx : Int) = x) (hy : (by' : Int) = y) : ∃ (bb : Bool) (c' : Nat), ((x + y + (c : Int)) % 2 == 1) = bb ∧ (x + y + (c : Int)) / 2 = (c' : Int) ∧ b2n bb = (bx + by' + c) % 2 ∧ c' = (bx + by' + c) / 2 := by
  subst hx; subst hy
  refine ⟨_, (bx + by' + c) / 2, rfl, by omega, ?_, rfl⟩
  have e : ((bx : Int) + (by' : Int) + (c : Int)) = ((bx + by' + c : Nat) : Int) := by omega
  rw [e]; exact bool_of _ _ rfl

theorem at_two (la lb : List Bool) (k : Nat) : (∃ x : Int, 0 ≤ x ∧ x ≤ 1 ∧ Hid ((bitN la k : Int) = x)) ∧ (∃ y : Int, 0 ≤ y ∧ y ≤ 1 ∧ Hid ((bitN lb k : Int) = y)) :=
  ⟨⟨bitN la k, by omega, by have := bitN_le la k; omega, rfl⟩, ⟨bitN lb k, by omega, by have := bitN_le lb k; omega, rfl⟩⟩
/-- What the places so far come to. -/
def SumTo (la lb x : List Bool) (c : Nat) : Prop := val x + 2 ^ x.length * c = lo la x.length + lo lb x.length
theorem SumTo.nil (la lb : List Bool) : SumTo la lb [] 0 := by simp [SumTo, val, lo_zero]
theorem SumTo.next {la lb x : List Bool} {c c' : Nat} {bb : Bool} (h : SumTo la lb x c) (hb : b2n bb = (bitN la x.length + bitN lb x.length + c) % 2) (hc : c' = (bitN la x.length + bitN lb x.length + c) / 2) : SumTo la lb (x ++ [bb]) c' := by
  unfold SumTo at *
  rw [val_append, List.length_append, List.length_singleton, lo_succ, lo_succ, hb, hc]
  exact plus_step _ _ _ _ _ _ _ _ h rfl
theorem SumTo.all {la lb x : List Bool} (h : SumTo la lb x 0) (h1 : la.length ≤ x.length) (h2 : lb.length ≤ x.length) : val x = val la + val lb := by
  unfold SumTo at h
  rw [lo_all _ _ h1, lo_all _ _ h2] at h
  simpa using h

set_option maxRecDepth 100000 in
set_option maxHeartbeats 2000000 in
theorem plus_new (va vb : Value) (la lb : List Bool) (w : World) (ha : BoolsN w va la) (hb : BoolsN w vb lb) (hma : la.length ≤ 1000000) (hmb : lb.length ≤ 1000000) :
    Calls Tryd.prog 18 #[va, vb] w (GivesNew (fun x => x.length ≤ max la.length lb.length + 1 ∧ val x = val la + val lb) w) := by
  obtain ⟨i0, hi, hz0, hz1, hz2⟩ := info_parts info_bool
  have HA := Lib.hid ha
  have HB := Lib.hid hb
  obtain ⟨aa, ca, rfl⟩ := ha.len
  obtain ⟨ab, cb, rfl⟩ := hb.len
  clear ha hb
  go_enter Tryd.func18, Tryd.ntmps18
  go_wp2
  go_loopw [5, 6, 7, 8] (fun out up i _ wr => ∃ (k c : Nat) (x : List Bool), k ≤ 1000002 ∧ c ≤ 1 ∧ (k ≤ max la.length lb.length ∨ c = 0) ∧ k ≤ max la.length lb.length + 1 ∧ i = .int .i64 k ∧ up = .int .i64 c ∧ OwnBits wr w.heap.size out x ∧ Hid (x.length = k) ∧ SumTo la lb x c ∧ Below w.heap.size w wr)
    (fun _ _ i _ _ => max la.length lb.length + 1 - (intOf i).toNat)
  case atStart =>
    exact ⟨0, 0, [], by omega, by omega, Or.inr rfl, by omega, rfl, rfl, OwnBits.fresh _ _ _ rfl (Nat.le_refl _), Lib.hid rfl, SumTo.nil _ _, (Below.refl _ _).alloc (Nat.le_refl _) _⟩
  case round =>
    obtain ⟨k, c, x, hk, hc, hor, hkm, rfl, rfl, hown, hlen, hval, hbel⟩ := hrel
    replace hor := Lib.hid hor
    by_cases h1 : k < la.length
    · obtain ⟨t1, t2⟩ := at_two la lb k
      obtain ⟨x1, hx1, hx2, HX⟩ := t1
      obtain ⟨y1, hy1, hy2, HY⟩ := t2
      obtain ⟨bb, c', hbb, hcc, hb', hc'⟩ := sum_place x1 y1 c _ _ HX.out HY.out
      have hc1 : c' ≤ 1 := by have := bitN_le la k; have := bitN_le lb k; omega
      have hor' := Lib.hid (show k + 1 ≤ max la.length lb.length ∨ c' = 0 by omega)
      have hk1 : Hid (k < max la.length lb.length + 1) := by have := hor.out; unfold Hid; omega
      have HN := Lib.hid (show SumTo la lb (x ++ [bb]) c' from hval.next (by rw [hlen.out]; exact hb') (by rw [hlen.out]; exact hc'))
      have HA1 := Lib.hid (HA.out.belowOf (Nat.le_refl _) hbel)
      have HB1 := Lib.hid (HB.out.belowOf (Nat.le_refl _) hbel)
      clear hb' hc'
      go_wp2_with (first | (go_at_call 32; (with_reducible refine (at_is _ la _ x1 _ HA1.out (by omega) (by omega) HX).mono ?_); rintro e w' ⟨rfl, rfl⟩) | (go_at_call 32; (with_reducible refine (at_is _ lb _ y1 _ HB1.out (by omega) (by omega) HY).mono ?_); rintro e w' ⟨rfl, rfl⟩) | (at_builtin; refine wpList_append_own _ rfl _ _ 38 rfl w.heap.size 4 i0 (.bool false) 1 1 Tryd.underlying38 hi hz0 hz1 hz2 rfl (by decide) _ _ _ rfl (hown.1.alloc _) ⟨wr.heap.size, 0, none⟩ 1 1 [.bool bb] rfl rfl ?c11 ?c12 ?c13 ?c14 ?c15 ?_))
      case c11 => exact cell_one_new _ _ _
      case c12 => intro u hu; simp at hu; subst hu; rfl
      case c13 => have := hlen.out; unfold maxLen; omega
      case c14 => have := hlen.out; omega
      case c15 => have := hbel.size; simp; omega
      intro v' w1 hown' hgrow hiff
      have hn := own_next hown hown' hgrow hiff hbel
      clear hown hown' hgrow hiff hbel hval HA1 HB1
      obtain ⟨hn1, hn2⟩ := hn
      go_wp2
      go_roundw
      case rel => exact ⟨k + 1, c', _, by omega, hc1, hor'.out, hk1.out, by go_num, by rw [hcc], hn1, Lib.hid (by rw [List.length_append, hlen.out]; rfl), HN.out, hn2⟩
      case measure => have := hk1.out; simp [intOf]; omega
    · by_cases h2 : k < lb.length
      · obtain ⟨t1, t2⟩ := at_two la lb k
        obtain ⟨x1, hx1, hx2, HX⟩ := t1
        obtain ⟨y1, hy1, hy2, HY⟩ := t2
        obtain ⟨bb, c', hbb, hcc, hb', hc'⟩ := sum_place x1 y1 c _ _ HX.out HY.out
        have hc1 : c' ≤ 1 := by have := bitN_le la k; have := bitN_le lb k; omega
        have hor' := Lib.hid (show k + 1 ≤ max la.length lb.length ∨ c' = 0 by omega)
        have hk1 : Hid (k < max la.length lb.length + 1) := by have := hor.out; unfold Hid; omega
        have HN := Lib.hid (show SumTo la lb (x ++ [bb]) c' from hval.next (by rw [hlen.out]; exact hb') (by rw [hlen.out]; exact hc'))
        have HA1 := Lib.hid (HA.out.belowOf (Nat.le_refl _) hbel)
        have HB1 := Lib.hid (HB.out.belowOf (Nat.le_refl _) hbel)
        clear hb' hc'
        go_wp2_with (first | (go_at_call 32; (with_reducible refine (at_is _ la _ x1 _ HA1.out (by omega) (by omega) HX).mono ?_); rintro e w' ⟨rfl, rfl⟩) | (go_at_call 32; (with_reducible refine (at_is _ lb _ y1 _ HB1.out (by omega) (by omega) HY).mono ?_); rintro e w' ⟨rfl, rfl⟩) | (at_builtin; refine wpList_append_own _ rfl _ _ 38 rfl w.heap.size 4 i0 (.bool false) 1 1 Tryd.underlying38 hi hz0 hz1 hz2 rfl (by decide) _ _ _ rfl (hown.1.alloc _) ⟨wr.heap.size, 0, none⟩ 1 1 [.bool bb] rfl rfl ?c21 ?c22 ?c23 ?c24 ?c25 ?_))
        case c21 => exact cell_one_new _ _ _
        case c22 => intro u hu; simp at hu; subst hu; rfl
        case c23 => have := hlen.out; unfold maxLen; omega
        case c24 => have := hlen.out; omega
        case c25 => have := hbel.size; simp; omega
        intro v' w1 hown' hgrow hiff
        have hn := own_next hown hown' hgrow hiff hbel
        clear hown hown' hgrow hiff hbel hval HA1 HB1
        obtain ⟨hn1, hn2⟩ := hn
        go_wp2
        go_roundw
        case rel => exact ⟨k + 1, c', _, by omega, hc1, hor'.out, hk1.out, by go_num, by rw [hcc], hn1, Lib.hid (by rw [List.length_append, hlen.out]; rfl), HN.out, hn2⟩
        case measure => have := hk1.out; simp [intOf]; omega
      · by_cases h3 : 0 < c
        · obtain ⟨t1, t2⟩ := at_two la lb k
          obtain ⟨x1, hx1, hx2, HX⟩ := t1
          obtain ⟨y1, hy1, hy2, HY⟩ := t2
          obtain ⟨bb, c', hbb, hcc, hb', hc'⟩ := sum_place x1 y1 c _ _ HX.out HY.out
          have hc1 : c' ≤ 1 := by have := bitN_le la k; have := bitN_le lb k; omega
          have hor' := Lib.hid (show k + 1 ≤ max la.length lb.length ∨ c' = 0 by have := HX.out; have := HY.out; have := bitN_beyond la k (by omega); have := bitN_beyond lb k (by omega); omega)
          have hk1 : Hid (k < max la.length lb.length + 1) := by have := hor.out; unfold Hid; omega
          have HN := Lib.hid (show SumTo la lb (x ++ [bb]) c' from hval.next (by rw [hlen.out]; exact hb') (by rw [hlen.out]; exact hc'))
          have HA1 := Lib.hid (HA.out.belowOf (Nat.le_refl _) hbel)
          have HB1 := Lib.hid (HB.out.belowOf (Nat.le_refl _) hbel)
          clear hb' hc'
          go_wp2_with (first | (go_at_call 32; (with_reducible refine (at_is _ la _ x1 _ HA1.out (by omega) (by omega) HX).mono ?_); rintro e w' ⟨rfl, rfl⟩) | (go_at_call 32; (with_reducible refine (at_is _ lb _ y1 _ HB1.out (by omega) (by omega) HY).mono ?_); rintro e w' ⟨rfl, rfl⟩) | (at_builtin; refine wpList_append_own _ rfl _ _ 38 rfl w.heap.size 4 i0 (.bool false) 1 1 Tryd.underlying38 hi hz0 hz1 hz2 rfl (by decide) _ _ _ rfl (hown.1.alloc _) ⟨wr.heap.size, 0, none⟩ 1 1 [.bool bb] rfl rfl ?c31 ?c32 ?c33 ?c34 ?c35 ?_))
          case c31 => exact cell_one_new _ _ _
          case c32 => intro u hu; simp at hu; subst hu; rfl
          case c33 => have := hlen.out; unfold maxLen; omega
          case c34 => have := hlen.out; omega
          case c35 => have := hbel.size; simp; omega
          intro v' w1 hown' hgrow hiff
          have hn := own_next hown hown' hgrow hiff hbel
          clear hown hown' hgrow hiff hbel hval HA1 HB1
          obtain ⟨hn1, hn2⟩ := hn
          go_wp2
          go_roundw
          case rel => exact ⟨k + 1, c', _, by omega, hc1, hor'.out, hk1.out, by go_num, by rw [hcc], hn1, Lib.hid (by rw [List.length_append, hlen.out]; rfl), HN.out, hn2⟩
          case measure => have := hk1.out; simp [intOf]; omega
        · obtain rfl : c = 0 := by omega
          go_wp2
          go_ret
          exact ⟨_, _, rfl, hown.bools, ⟨by rw [hlen.out]; exact hkm, hval.all (by rw [hlen.out]; omega) (by rw [hlen.out]; omega)⟩, hbel, fun b hb => (hown.1.lt b hb).1⟩
theorem plus_any (va vb : Value) (la lb : List Bool) (w : World) (ha : BoolsN w va la) (hb : BoolsN w vb lb) (hma : la.length ≤ 1000000) (hmb : lb.length ≤ 1000000) :
    Calls Tryd.prog 18 #[va, vb] w (GivesBits (fun x => x.length ≤ max la.length lb.length + 1 ∧ val x = val la + val lb) w) :=
  (plus_new va vb la lb w ha hb hma hmb).mono fun _ _ hg => hg.bits

end Go.Proofs.YtfdpiiahclglcaaDoor
