/-
  The document's own answers for numbers of bits, walked: one times the other.
-/
import Derived.Test.YtfdpiiahclglcaaDoorRefC
namespace Go.Proofs.YtfdpiiahclglcaaDoor
open Go.RowKit

/-- One place further: what is appended to one bit. -/
theorem times_next {W w3 : World} {v3 : Value} {ls : List Bool} (hown : w3.ownsRow W.heap.size 4 1 v3 (1 + ls.length) ([Value.bool false] ++ ls.map Value.bool))
    (hgrow : (W.alloc (.cells #[.bool false] 4)).grownBy w3 (some W.heap.size)) (hiff : ¬ v3 = .slice none 0 0) : Bools w3 v3 (false :: ls) ∧ Below W.heap.size W w3 :=
  ⟨(OwnBits.append (l := [false]) hown rfl hiff).bools, ((Below.refl _ _).alloc (Nat.le_refl _) _).grown hgrow (by simp) (fun k hk => by simp only [Option.some.injEq] at hk; omega)⟩

/-- What is known at the head of a round. -/
structure TimesAt (la lb lo' ls : List Bool) (k : Nat) : Prop where
  len1 : ls.length = la.length + k
  len2 : lo'.length ≤ la.length + k
  vs : val ls = val la * 2 ^ k
  vo : val lo' = val la * lo lb k
theorem TimesAt.start (la lb : List Bool) : TimesAt la lb [] la 0 := ⟨rfl, Nat.zero_le _, by simp, by simp [val, lo_zero]⟩
theorem TimesAt.yes {la lb lo' ls l2 : List Bool} {k : Nat} (h : TimesAt la lb lo' ls k) (hb : lb.getD k false = true) (hl : l2.length ≤ max lo'.length ls.length + 1) (hv : val l2 = val lo' + val ls) : TimesAt la lb l2 (false :: ls) (k + 1) := by
  obtain ⟨h1, h2, h3, h4⟩ := h
  refine ⟨by simp; omega, by omega, by rw [val_false, h3, Nat.pow_succ]; grind, ?_⟩
  have e : bitN lb k = 1 := by unfold bitN; rw [hb]; rfl
  rw [hv, h3, h4, lo_succ, e]; grind
theorem TimesAt.no {la lb lo' ls : List Bool} {k : Nat} (h : TimesAt la lb lo' ls k) (hb : lb.getD k false = false) : TimesAt la lb lo' (false :: ls) (k + 1) := by
  obtain ⟨h1, h2, h3, h4⟩ := h
  refine ⟨by simp; omega, by omega, by rw [val_false, h3, Nat.pow_succ]; grind, ?_⟩
  have e : bitN lb k = 0 := by unfold bitN; rw [hb]; rfl
  rw [h4, lo_succ, e]; simp

set_option maxRecDepth 100000 in
set_option maxHeartbeats 2000000 in
theorem times_any (va vb : Value) (la lb : List Bool) (w : World) (ha : Bools w va la) (hb : Bools w vb lb) (hma : la.length ≤ 100000) (hmb : lb.length ≤ 100000) :
    Calls Tryd.prog 17 #[va, vb] w (GivesBits (fun x => x.length ≤ la.length + lb.length ∧ val x = val la * val lb) w) := by
  obtain ⟨i0, hi, hz0, hz1, hz2⟩ := info_parts info_bool
  have HA := Lib.hid ha
  have HB := Lib.hid hb
  obtain ⟨ba, oa, ca, rfl, _, _, hca⟩ := ha
  obtain ⟨bb, ob, cb, rfl, _, hlb, hcb⟩ := hb
  clear hca hcb
  go_enter Tryd.func17, Tryd.ntmps17
  go_wp2_with (at_builtin; refine wpList_append_own _ rfl _ _ 38 rfl (w.heap.size + 1) 4 i0 (.bool false) 1 1 Tryd.underlying38 hi hz0 hz1 hz2 rfl (by decide) _ 0 [] rfl (OwnBits.fresh _ _ _ (by simp) (Nat.le_refl _)).1 ⟨ba, oa, none⟩ la.length ca (la.map Value.bool) rfl (by simp) ?c1 ?c2 ?c3 ?c4 ?c5 ?_)
  case c1 => exact ((HA.out.alloc _).alloc _).news
  case c2 => exact bools_one la
  case c3 => unfold maxLen; omega
  case c4 => omega
  case c5 => simp
  intro v1 w1 hown1 hgrow1 hiff1
  have hb1 : Bools w1 v1 la := (show OwnBits w1 (w.heap.size + 1) v1 la from ⟨by simpa using hown1, by simpa using hiff1⟩).bools
  have hbel1 : Below w.heap.size w w1 := (((Below.refl _ _).alloc (Nat.le_refl _) _).alloc (by simp) _).grown hgrow1 (by simp; omega) (fun k hk => by simp only [Value.ownBlock, Option.some.injEq] at hk; omega)
  have hbel2 : Below (w.heap.size + 1) (w.alloc (.cells #[] 4)) w1 := ((Below.refl _ _).alloc (by simp) _).grown hgrow1 (by simp) (fun k hk => by simp only [Value.ownBlock, Option.some.injEq] at hk; omega)
  have hbo : Bools w1 (.slice (some ⟨w.heap.size, 0, none⟩) 0 0) [] := (OwnBits.fresh w w.heap.size _ rfl (Nat.le_refl _)).bools.belowOf (by simp) hbel2
  clear hown1 hgrow1 hiff1 hbel2
  go_wp2
  go_loopw [5, 6, 7] (fun vo vs i wr => ∃ (k : Nat) (lo' ls : List Bool), k ≤ lb.length ∧ i = .int .i64 k ∧ Bools wr vo lo' ∧ Bools wr vs ls ∧ TimesAt la lb lo' ls k ∧ Below w.heap.size w wr) (fun _ _ i _ => lb.length - (intOf i).toNat)
  case atStart => exact ⟨0, [], la, Nat.zero_le _, rfl, hbo, hb1, TimesAt.start la lb, hbel1⟩
  case round =>
    obtain ⟨k, lo', ls, hk, rfl, hvo, hvs, hT, hbel⟩ := hrel
    clear hb1 hbel1 hbo
    replace hvo := Lib.hid hvo
    have HS := Lib.hid hvs
    obtain ⟨bs, os, cs, rfl, _, _, hcs⟩ := hvs
    clear hcs
    have hlen := Lib.hid (And.intro hT.len1 hT.len2)
    by_cases h1 : k < lb.length
    · have hcell := (HB.out.below hbel).at h1
      by_cases h2 : lb.getD k false = true
      · rw [h2] at hcell
        replace h2 := Lib.hid h2
        go_wp2_with (first | (go_at_call 18; refine (plus_any _ _ lo' ls _ hvo.out.orNil HS.out.orNil (by have := hlen.out; omega) (by have := hlen.out; omega)).mono ?_; rintro e w2 ⟨v2, l2, rfl, hb2, ⟨hlen2, hval2⟩, hbel2⟩) | (at_builtin; refine wpList_append_own _ rfl _ _ 38 rfl w2.heap.size 4 i0 (.bool false) 1 1 Tryd.underlying38 hi hz0 hz1 hz2 rfl (by decide) _ 1 [.bool false] rfl (OwnBits.one _ _ _ false rfl (Nat.le_refl _)).1 ⟨bs, os, none⟩ ls.length cs (ls.map Value.bool) rfl (by simp) ?c21 ?c22 ?c23 ?c24 ?c25 ?_))
        case c21 => exact ((HS.out.below hbel2).alloc _).news
        case c22 => exact bools_one ls
        case c23 => have := hlen.out; unfold maxLen; omega
        case c24 => have := hlen.out; omega
        case c25 => simp
        intro v3 w3 hown3 hgrow3 hiff3
        have hn := times_next hown3 hgrow3 hiff3
        clear hown3 hgrow3 hiff3
        obtain ⟨hn1, hn2⟩ := hn
        have hT' := hT.yes h2.out hlen2 hval2
        have hbel3 := (hbel.trans (hbel2.mono hbel.size)).trans (hn2.mono (Nat.le_trans hbel.size hbel2.size))
        have hb3 := hb2.below hn2
        clear hT hlen2 hval2 hbel hbel2 hn2 hb2 hvo HS hcell
        go_wp2
        go_roundw
        case rel => exact ⟨k + 1, l2, _, by omega, by go_num, hb3, hn1, hT', hbel3⟩
        case measure => simp [intOf]; omega
      · replace h2 : lb.getD k false = false := by simpa using h2
        rw [h2] at hcell
        replace h2 := Lib.hid h2
        go_wp2_with (at_builtin; refine wpList_append_own _ rfl _ _ 38 rfl wr.heap.size 4 i0 (.bool false) 1 1 Tryd.underlying38 hi hz0 hz1 hz2 rfl (by decide) _ 1 [.bool false] rfl (OwnBits.one _ _ _ false rfl (Nat.le_refl _)).1 ⟨bs, os, none⟩ ls.length cs (ls.map Value.bool) rfl (by simp) ?c31 ?c32 ?c33 ?c34 ?c35 ?_)
        case c31 => exact (HS.out.alloc _).news
        case c32 => exact bools_one ls
        case c33 => have := hlen.out; unfold maxLen; omega
        case c34 => have := hlen.out; omega
        case c35 => simp
        intro v3 w3 hown3 hgrow3 hiff3
        have hn := times_next hown3 hgrow3 hiff3
        clear hown3 hgrow3 hiff3
        obtain ⟨hn1, hn2⟩ := hn
        have hT' := hT.no h2.out
        have hbel3 := hbel.trans (hn2.mono hbel.size)
        have hb3 := Lib.hid (hvo.out.below hn2)
        clear hT hbel hn2 hvo HS hcell
        go_wp2
        go_roundw
        case rel => exact ⟨k + 1, lo', _, by omega, by go_num, hb3.out, hn1, hT', hbel3⟩
        case measure => simp [intOf]; omega
    · obtain rfl : k = lb.length := by omega
      go_wp2
      go_ret
      exact ⟨_, _, rfl, hvo.out, ⟨hT.len2, by rw [hT.vo, lo_all _ _ (Nat.le_refl _)]⟩, hbel⟩
end Go.Proofs.YtfdpiiahclglcaaDoor
