/-
  The document's own answers for numbers of bits, walked: one less the other.
-/
import Derived.Test.YtfdpiiahclglcaaDoorRefC
namespace Go.Proofs.YtfdpiiahclglcaaDoor
open Go.RowKit

/-- What the places so far come to. -/
def DiffTo (la lb x : List Bool) (c : Nat) : Prop := lo la x.length + 2 ^ x.length * c = val x + lo lb x.length
theorem DiffTo.nil (la lb : List Bool) : DiffTo la lb [] 0 := by simp [DiffTo, val, lo_zero]
theorem diff_step (a b v c x y c' d k : Nat) (h : a + 2 ^ k * c = v + b) (hs : x + 2 * c' = d + y + c) : (a + 2 ^ k * x) + 2 ^ (k + 1) * c' = (v + 2 ^ k * d) + (b + 2 ^ k * y) := by
  have e : 2 ^ k * x + 2 ^ (k + 1) * c' = 2 ^ k * d + 2 ^ k * y + 2 ^ k * c := by
    have : 2 ^ k * (x + 2 * c') = 2 ^ k * (d + y + c) := by rw [hs]
    rw [Nat.pow_succ]; grind
  omega
theorem DiffTo.next {la lb x : List Bool} {c c' : Nat} {bb : Bool} (h : DiffTo la lb x c) (hs : bitN la x.length + 2 * c' = b2n bb + bitN lb x.length + c) : DiffTo la lb (x ++ [bb]) c' := by
  unfold DiffTo at *
  rw [val_append, List.length_append, List.length_singleton, lo_succ, lo_succ]
  exact diff_step _ _ _ _ _ _ _ _ _ h hs
theorem DiffTo.all {la lb x : List Bool} {c : Nat} (h : DiffTo la lb x c) (hl : x.length = la.length) (hle : val lb ≤ val la) : val x = val la - val lb := by
  unfold DiffTo at h
  have h1 := val_lt la
  have h2 := val_lt x
  have h3 := val_split lb la.length
  have h4 : hi lb la.length = 0 := by
    have : ¬ 1 ≤ hi lb la.length := fun hc => by
      have : 2 ^ la.length * 1 ≤ 2 ^ la.length * hi lb la.length := Nat.mul_le_mul_left _ hc
      omega
    omega
  rw [h4, Nat.mul_zero, Nat.add_zero] at h3
  rw [hl, lo_all la _ (Nat.le_refl _), ← h3] at h
  rw [hl] at h2
  have h5 : c = 0 := by
    have : ¬ 1 ≤ c := fun hc => by
      have : 2 ^ la.length * 1 ≤ 2 ^ la.length * c := Nat.mul_le_mul_left _ hc
      omega
    omega
  rw [h5] at h; omega
theorem diff_place (x y : Int) (c bx by' : Nat) (hx : (bx : Int) = x) (hy : (by' : Int) = y) (h0 : bx ≤ 1) (h : ¬ x - y - (c : Int) < 0) :
    ∃ bb : Bool, (x - y - (c : Int) == 1) = bb ∧ bx + 2 * 0 = b2n bb + by' + c := by
  subst hx; subst hy
  refine ⟨_, rfl, ?_⟩
  have : bx = by' + c ∨ bx = 1 + by' + c := by omega
  rcases this with e | e
  · have h2 : (bx : Int) - by' - c = 0 := by omega
    rw [h2]; simp [b2n]; omega
  · have h2 : (bx : Int) - by' - c = 1 := by omega
    rw [h2]; simp [b2n]; omega
theorem diff_borrow (x y : Int) (c bx by' : Nat) (hx : (bx : Int) = x) (hy : (by' : Int) = y) (h0 : by' ≤ 1) (h1 : c ≤ 1) (h : x - y - (c : Int) < 0) :
    ∃ bb : Bool, (x - y - (c : Int) + 2 == 1) = bb ∧ bx + 2 * 1 = b2n bb + by' + c := by
  subst hx; subst hy
  refine ⟨_, rfl, ?_⟩
  have : bx + 2 = by' + c ∨ bx + 2 = 1 + by' + c := by omega
  rcases this with e | e
  · have h2 : (bx : Int) - by' - c + 2 = 0 := by omega
    rw [h2]; simp [b2n]; omega
  · have h2 : (bx : Int) - by' - c + 2 = 1 := by omega
    rw [h2]; simp [b2n]; omega


set_option maxRecDepth 100000 in
set_option maxHeartbeats 2000000 in
theorem minus_new (va vb : Value) (la lb : List Bool) (w : World) (ha : BoolsN w va la) (hb : BoolsN w vb lb) (hma : la.length ≤ 1000000) (hmb : lb.length ≤ 1000000) (hle : val lb ≤ val la) :
    Calls Tryd.prog 33 #[va, vb] w (GivesNew (fun x => x.length = la.length ∧ val x = val la - val lb) w) := by
  obtain ⟨i0, hi, hz0, hz1, hz2⟩ := info_parts info_bool
  have HA := Lib.hid ha
  have HB := Lib.hid hb
  have HLE := Lib.hid hle
  obtain ⟨aa, ca, rfl⟩ := ha.len
  obtain ⟨ab, cb, rfl⟩ := hb.len
  clear ha hb hle
  go_enter Tryd.func33, Tryd.ntmps33
  go_wp2
  go_loopw [5, 6, 7, 8] (fun out dn i _ wr => ∃ (k c : Nat) (x : List Bool), k ≤ la.length ∧ c ≤ 1 ∧ i = .int .i64 k ∧ dn = .int .i64 c ∧ OwnBits wr w.heap.size out x ∧ Hid (x.length = k) ∧ DiffTo la lb x c ∧ Below w.heap.size w wr)
    (fun _ _ i _ _ => la.length - (intOf i).toNat)
  case atStart =>
    exact ⟨0, 0, [], by omega, by omega, rfl, rfl, OwnBits.fresh _ _ _ rfl (Nat.le_refl _), Lib.hid rfl, DiffTo.nil _ _, (Below.refl _ _).alloc (Nat.le_refl _) _⟩
  case round =>
    obtain ⟨k, c, x, hk, hc, rfl, rfl, hown, hlen, hval, hbel⟩ := hrel
    by_cases h1 : k < la.length
    · obtain ⟨t1, t2⟩ := at_two la lb k
      obtain ⟨x1, hx1, hx2, HX⟩ := t1
      obtain ⟨y1, hy1, hy2, HY⟩ := t2
      have HA1 := Lib.hid (HA.out.belowOf (Nat.le_refl _) hbel)
      have HB1 := Lib.hid (HB.out.belowOf (Nat.le_refl _) hbel)
      by_cases h2 : x1 - y1 - (c : Int) < 0
      · obtain ⟨bb, hbb, hb'⟩ := diff_borrow x1 y1 c _ _ HX.out HY.out (bitN_le lb k) hc h2
        have HN := Lib.hid (show DiffTo la lb (x ++ [bb]) 1 from hval.next (by rw [hlen.out]; exact hb'))
        clear hb'
        go_wp2_with (first | (go_at_call 32; (with_reducible refine (at_is _ la _ x1 _ HA1.out (by omega) (by omega) HX).mono ?_); rintro e w' ⟨rfl, rfl⟩) | (go_at_call 32; (with_reducible refine (at_is _ lb _ y1 _ HB1.out (by omega) (by omega) HY).mono ?_); rintro e w' ⟨rfl, rfl⟩) | (at_builtin; refine wpList_append_own _ rfl _ _ 38 rfl w.heap.size 4 i0 (.bool false) 1 1 Tryd.underlying38 hi hz0 hz1 hz2 rfl (by decide) _ _ _ rfl (hown.1.alloc _) ⟨wr.heap.size, 0, none⟩ 1 1 [.bool bb] rfl rfl ?c11 ?c12 ?c13 ?c14 ?c15 ?_))
        case c11 => exact cell_one_new _ _ _
        case c12 => intro u hu; simp at hu; subst hu; rfl
        case c13 => have := hlen.out; unfold maxLen; omega
        case c14 => have := hlen.out; omega
        case c15 => have := hbel.size; simp; omega
        intro v' w1 hown' hgrow hiff
        have hn := own_next hown hown' hgrow hiff hbel
        clear hown hown' hgrow hiff hbel hval HA1 HB1
        obtain ⟨hn1, hn2⟩ := hn
        go_wp2
        go_roundw
        case rel => exact ⟨k + 1, 1, _, by omega, by omega, by go_num, rfl, hn1, Lib.hid (by rw [List.length_append, hlen.out]; rfl), HN.out, hn2⟩
        case measure => simp [intOf]; omega
      · obtain ⟨bb, hbb, hb'⟩ := diff_place x1 y1 c _ _ HX.out HY.out (bitN_le la k) h2
        have HN := Lib.hid (show DiffTo la lb (x ++ [bb]) 0 from hval.next (by rw [hlen.out]; exact hb'))
        clear hb'
        go_wp2_with (first | (go_at_call 32; (with_reducible refine (at_is _ la _ x1 _ HA1.out (by omega) (by omega) HX).mono ?_); rintro e w' ⟨rfl, rfl⟩) | (go_at_call 32; (with_reducible refine (at_is _ lb _ y1 _ HB1.out (by omega) (by omega) HY).mono ?_); rintro e w' ⟨rfl, rfl⟩) | (at_builtin; refine wpList_append_own _ rfl _ _ 38 rfl w.heap.size 4 i0 (.bool false) 1 1 Tryd.underlying38 hi hz0 hz1 hz2 rfl (by decide) _ _ _ rfl (hown.1.alloc _) ⟨wr.heap.size, 0, none⟩ 1 1 [.bool bb] rfl rfl ?c21 ?c22 ?c23 ?c24 ?c25 ?_))
        case c21 => exact cell_one_new _ _ _
        case c22 => intro u hu; simp at hu; subst hu; rfl
        case c23 => have := hlen.out; unfold maxLen; omega
        case c24 => have := hlen.out; omega
        case c25 => have := hbel.size; simp; omega
        intro v' w1 hown' hgrow hiff
        have hn := own_next hown hown' hgrow hiff hbel
        clear hown hown' hgrow hiff hbel hval HA1 HB1
        obtain ⟨hn1, hn2⟩ := hn
        go_wp2
        go_roundw
        case rel => exact ⟨k + 1, 0, _, by omega, by omega, by go_num, rfl, hn1, Lib.hid (by rw [List.length_append, hlen.out]; rfl), HN.out, hn2⟩
        case measure => simp [intOf]; omega
    · obtain rfl : k = la.length := by omega
      go_wp2
      go_ret
      exact ⟨_, _, rfl, hown.bools, ⟨hlen.out, hval.all hlen.out HLE.out⟩, hbel, fun b hb => (hown.1.lt b hb).1⟩
theorem minus_any (va vb : Value) (la lb : List Bool) (w : World) (ha : BoolsN w va la) (hb : BoolsN w vb lb) (hma : la.length ≤ 1000000) (hmb : lb.length ≤ 1000000) (hle : val lb ≤ val la) :
    Calls Tryd.prog 33 #[va, vb] w (GivesBits (fun x => x.length = la.length ∧ val x = val la - val lb) w) :=
  (minus_new va vb la lb w ha hb hma hmb hle).mono fun _ _ ⟨v, l, he, hb, hp, hbel, _⟩ => ⟨v, l, he, hb, hp, hbel⟩

end Go.Proofs.YtfdpiiahclglcaaDoor
