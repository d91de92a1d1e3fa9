/-
  The document's own answers for numbers of bits, walked: how often a number fits, and what is left.
-/
import Derived.Test.YtfdpiiahclglcaaDoorRefD
import Derived.Test.YtfdpiiahclglcaaDoorRefE
import Derived.Deep.OwnRows
namespace Go.Proofs.YtfdpiiahclglcaaDoor
open Go.RowKit

theorem getD_set_same (l : List Bool) (j : Nat) (b : Bool) (h : j < l.length) : (l.set j b).getD j false = b := by
  rw [List.getD_eq_getElem?_getD, List.getElem?_set_self h]; rfl
theorem getD_set_other (l : List Bool) (j i : Nat) (b : Bool) (h : j ≠ i) : (l.set j b).getD i false = l.getD i false := by
  rw [List.getD_eq_getElem?_getD, List.getD_eq_getElem?_getD, List.getElem?_set_ne h]
theorem hi_set (l : List Bool) (j : Nat) (b : Bool) : hi (l.set j b) (j + 1) = hi l (j + 1) := by
  unfold hi
  rw [List.drop_set_of_lt (Nat.lt_succ_self j)]

/-- What is known at the head of a round. -/
structure DivAt (la ln ll lq : List Bool) (k : Nat) : Prop where
  lenq : lq.length = la.length
  lenl : ll.length + k = la.length
  low : ∀ j, j < k → lq.getD j false = false
  num : hi lq k * val ln + val ll = hi la k
  less : val ll < val ln
theorem DivAt.start (la ln : List Bool) (hn : val ln ≠ 0) : DivAt la ln [] (List.replicate la.length false) la.length := by
  refine ⟨by simp, by simp, fun j hj => ?_, ?_, by simp [val]; omega⟩
  · rw [List.getD_eq_getElem?_getD, List.getElem?_replicate, if_pos hj]; rfl
  · rw [hi_beyond _ _ (by simp), hi_beyond la _ (Nat.le_refl _)]; simp [val]
theorem DivAt.no {la ln ll lq : List Bool} {j : Nat} (h : DivAt la ln ll lq (j + 1)) (hc : ¬ val ln ≤ val (la.getD j false :: ll)) : DivAt la ln (la.getD j false :: ll) lq j := by
  obtain ⟨h1, h2, h3, h4, h5⟩ := h
  have e : bitN lq j = 0 := by unfold bitN; rw [h3 j (by omega)]; rfl
  refine ⟨h1, by simp; omega, fun i hi => h3 i (by omega), ?_, by omega⟩
  rw [hi_step lq j, hi_step la j, e, ← h4]
  simp only [val]
  show (0 + 2 * hi lq (j + 1)) * val ln + (bitN la j + 2 * val ll) = _
  grind
theorem DivAt.yes {la ln ll lq l2 : List Bool} {j : Nat} (h : DivAt la ln ll lq (j + 1)) (hc : val ln ≤ val (la.getD j false :: ll)) (hl : l2.length = (la.getD j false :: ll).length) (hv : val l2 = val (la.getD j false :: ll) - val ln) :
    DivAt la ln l2 (lq.set j true) j := by
  obtain ⟨h1, h2, h3, h4, h5⟩ := h
  have hj : j < lq.length := by omega
  have e : bitN (lq.set j true) j = 1 := by unfold bitN; rw [getD_set_same _ _ _ hj]; rfl
  have hb := b2n_le (la.getD j false)
  have hx : val (la.getD j false :: ll) = b2n (la.getD j false) + 2 * val ll := rfl
  refine ⟨by rw [List.length_set]; exact h1, by rw [hl]; simp; omega, fun i hi => by rw [getD_set_other _ _ _ _ (by omega)]; exact h3 i (by omega), ?_, by omega⟩
  rw [hi_step (lq.set j true) j, hi_step la j, e, hi_set, hv, ← h4]
  have e2 : bitN la j = b2n (la.getD j false) := rfl
  have e3 : (1 + 2 * hi lq (j + 1)) * val ln = val ln + 2 * (hi lq (j + 1) * val ln) := by grind
  omega
theorem DivAt.no' {la ln ll lq : List Bool} {j : Nat} {bj : Bool} (h : DivAt la ln ll lq (j + 1)) (hb : bj = la.getD j false) (hc : ¬ val ln ≤ val (bj :: ll)) : DivAt la ln (bj :: ll) lq j := by
  subst hb; exact h.no hc
theorem DivAt.yes' {la ln ll lq l2 : List Bool} {j : Nat} {bj : Bool} (h : DivAt la ln ll lq (j + 1)) (hb : bj = la.getD j false) (hc : val ln ≤ val (bj :: ll)) (hl : l2.length = (bj :: ll).length) (hv : val l2 = val (bj :: ll) - val ln) : DivAt la ln l2 (lq.set j true) j := by
  subst hb; exact h.yes hc hl hv
theorem DivAt.all {la ln ll lq : List Bool} (h : DivAt la ln ll lq 0) : val lq = val la / val ln ∧ val ll = val la % val ln := by
  obtain ⟨_, _, _, h4, h5⟩ := h
  rw [hi_zero, hi_zero] at h4
  have e1 : val la / val ln = val lq := by
    rw [← h4, Nat.mul_comm, Nat.add_comm, Nat.add_mul_div_left _ _ (by omega), Nat.div_eq_of_lt h5]; omega
  have e2 : val la % val ln = val ll := by
    rw [← h4, Nat.mul_comm, Nat.add_comm, Nat.add_mul_mod_self_left, Nat.mod_eq_of_lt h5]
  exact ⟨e1.symm, e2.symm⟩

/-- The row of the quotient's bits. -/
structure QMem (w wr : World) (lq : List Bool) : Prop where
  row : ∀ i, i < lq.length → wr.cell? ⟨w.heap.size, i, none⟩ = some (.bool (lq.getD i false))
  free : ∀ i, i < lq.length → wr.frozen? ⟨w.heap.size, i, none⟩ = false
  size : w.heap.size < wr.heap.size
theorem QMem.after {w wr w1 : World} {lq : List Bool} (h : QMem w wr lq) (hb : Below wr.heap.size wr w1) : QMem w w1 lq :=
  ⟨fun i hi => (hb.cell (p := ⟨w.heap.size, i, none⟩) h.size).trans (h.row i hi), fun i hi => (hb.frozen (p := ⟨w.heap.size, i, none⟩) h.size).trans (h.free i hi), Nat.lt_of_lt_of_le h.size hb.size⟩
theorem QMem.put {w wr : World} {lq : List Bool} (h : QMem w wr lq) {j : Nat} (hj : j < lq.length) : QMem w (wr.setCell ⟨w.heap.size, j, none⟩ (.bool true)) (lq.set j true) := by
  refine ⟨fun i hi => ?_, fun i hi => by rw [World.frozen?_setCell]; exact h.free i (by simpa using hi), by simpa using h.size⟩
  rw [List.length_set] at hi
  by_cases e : j = i
  · subst e
    rw [getD_set_same _ _ _ hj]
    exact World.cell?_setCell_same _ _ _ (h.row j hj)
  · rw [World.cell?_setCell_other _ _ _ _ (by first | (simp; done) | (simp; exact e)), getD_set_other _ _ _ _ e]
    exact h.row i hi
theorem QMem.start (w : World) (n : Nat) : QMem w (w.alloc (.cells (madeCells #[.bool false] n) 4)) (List.replicate n false) := by
  refine ⟨fun i hi => ?_, fun i hi => by simp, by simp⟩
  rw [List.length_replicate] at hi
  rw [World.cell?_alloc_new, ← Array.getElem?_toList, toList_madeCells_one, List.getElem?_replicate, if_pos hi, List.getD_eq_getElem?_getD, List.getElem?_replicate, if_pos hi]
  try rfl
theorem QMem.bools {w wr : World} {lq : List Bool} (h : QMem w wr lq) (n : Nat) (hn : n = lq.length) : Bools wr (.slice (some ⟨w.heap.size, 0, none⟩) n n) lq := by
  subst hn
  exact ⟨_, 0, _, rfl, Nat.le_refl _, h.size, fun i hi => by rw [Nat.zero_add]; exact h.row i hi⟩

theorem Bools.setOther {w : World} {v : Value} {l : List Bool} (h : Bools w v l) {a : Addr} (u : Value) (hne : ∀ b, v.ownBlock = some b → b ≠ a.block) : Bools (w.setCell a u) v l := by
  obtain ⟨b, off, cap, rfl, hc, hlt, hcell⟩ := h
  have := hne b rfl
  refine ⟨b, off, cap, rfl, hc, by simpa using hlt, fun i hi => ?_⟩
  rw [World.cell?_setCell_other _ _ _ _ (by intro e; exact this (by rw [e]))]
  exact hcell i hi
/-- What is appended to one bit. -/
theorem app_next {W w3 : World} {v3 : Value} {ls : List Bool} (x : Bool) (hown : w3.ownsRow W.heap.size 4 1 v3 (1 + ls.length) ([Value.bool x] ++ ls.map Value.bool))
    (hgrow : (W.alloc (.cells #[.bool x] 4)).grownBy w3 (some W.heap.size)) (hiff : ¬ v3 = .slice none 0 0) : Bools w3 v3 (x :: ls) ∧ Below W.heap.size W w3 :=
  ⟨(OwnBits.append (l := [x]) hown rfl hiff).bools, ((Below.refl _ _).alloc (Nat.le_refl _) _).grown hgrow (by simp) (fun k hk => by simp only [Option.some.injEq] at hk; omega)⟩

/-- What Divide hands back. -/
def GivesDiv (q r n : Nat) (w : World) (e : Ending) (w' : World) : Prop := ∃ vq vl lq ll, e = .returned (.tuple #[vq, vl]) ∧ Bools w' vq lq ∧ Bools w' vl ll ∧ lq.length = n ∧ ll.length = n ∧ val lq = q ∧ val ll = r ∧ Below w.heap.size w w'

set_option maxRecDepth 100000 in
set_option maxHeartbeats 2000000 in
theorem divide_any (va vn : Value) (la ln : List Bool) (w : World) (ha : Bools w va la) (hn : Bools w vn ln) (hma : la.length ≤ 100000) (hmn : ln.length ≤ 100000) (h0 : val ln ≠ 0) :
    Calls Tryd.prog 20 #[va, vn] w (GivesDiv (val la / val ln) (val la % val ln) la.length w) := by
  obtain ⟨i0, hi, hz0, hz1, hz2⟩ := info_parts info_bool
  have hmk := run_make_row' (P := Tryd.prog) 38 4 (.bool false) 1 Tryd.underlying38 info_bool rfl .i64 .i64 la.length (by omega) (by omega)
  have HA := Lib.hid ha
  have HN := Lib.hid hn
  replace h0 := Lib.hid h0
  obtain ⟨ba, oa, ca, rfl, _, hlb, hca⟩ := ha
  clear hca hn
  go_enter Tryd.func20, Tryd.ntmps20
  go_wp2
  go_loopw [7, 8] (fun vl i wr => ∃ (k : Nat) (z : Int) (ll lq : List Bool), i = .int .i64 z ∧ Hid (z = (k : Int) - 1) ∧ -1 ≤ z ∧ z ≤ 1000000 ∧ Hid (k ≤ la.length) ∧ Bools wr vl ll ∧ QMem w wr lq ∧ DivAt la ln ll lq k ∧ Below w.heap.size w wr) (fun _ i _ => (intOf i + 1).toNat)
  case atStart =>
    exact ⟨la.length, _, [], List.replicate la.length false, rfl, Lib.hid rfl, by omega, by omega, Lib.hid (Nat.le_refl _), (OwnBits.fresh _ 0 _ (by simp) (Nat.zero_le _)).bools, (QMem.start w la.length).after ((Below.refl _ _).alloc (Nat.le_refl _) _), DivAt.start la ln h0.out, ((Below.refl _ _).alloc (Nat.le_refl _) _).alloc (by simp) _⟩
  case round =>
    obtain ⟨k, z, ll, lq, rfl, hz, hz1', hz2', hk, hvl, hQ, hD, hbel⟩ := hrel
    by_cases hz0' : 0 ≤ z
    · obtain ⟨j, rfl⟩ := Int.eq_ofNat_of_zero_le hz0'
      obtain rfl : k = j + 1 := by have := hz.out; omega
      have hj : j < la.length := by have := hk.out; omega
      have hcell := (HA.out.below hbel).at hj
      obtain ⟨bj, hbj⟩ : ∃ b, b = la.getD j false := ⟨_, rfl⟩
      rw [← hbj] at hcell
      have HJ := Lib.hid hbj
      clear hbj hz
      replace hQ := Lib.hid hQ
      replace hD := Lib.hid hD
      have HS := Lib.hid hvl
      obtain ⟨bs, os, cs, rfl, _, _, hcs⟩ := hvl
      clear hcs
      have hlen := Lib.hid hD.out.lenl
      go_wp2_with (at_builtin; refine wpList_append_own _ rfl _ _ 38 rfl wr.heap.size 4 i0 (.bool false) 1 1 Tryd.underlying38 hi hz0 hz1 hz2 rfl (by decide) _ 1 [.bool bj] rfl (OwnBits.one _ _ _ bj rfl (Nat.le_refl _)).1 ⟨bs, os, none⟩ ll.length cs (ll.map Value.bool) rfl (by simp) ?c1 ?c2 ?c3 ?c4 ?c5 ?_)
      case c1 => exact (HS.out.alloc _).news
      case c2 => exact bools_one ll
      case c3 => have := hlen.out; unfold maxLen; omega
      case c4 => have := hlen.out; omega
      case c5 => simp
      intro v3 w3 hown3 hgrow3 hiff3
      obtain ⟨k3, g3⟩ := app_next bj hown3 hgrow3 hiff3
      clear hown3 hgrow3 hiff3
      have D3 := hbel.trans (g3.mono hbel.size)
      have Q3 := Lib.hid (hQ.out.after g3)
      have hjq : j < lq.length := by have := hD.out.lenq; omega
      have hll : ll.length ≤ 100000 := by have := hlen.out; omega
      have N3 := Lib.hid ((HN.out.below hbel).below g3)
      replace k3 := Lib.hid k3
      have hl1 : (bj :: ll).length ≤ 100001 := by simp; omega
      obtain ⟨c, hc⟩ : ∃ c, cmpI (val (bj :: ll)) (val ln) = c := ⟨_, rfl⟩
      have hcm : (0 ≤ c ↔ val ln ≤ val (bj :: ll)) := by
        rw [← hc]; unfold cmpI; split <;> (try split) <;> constructor <;> intros <;> omega
      replace hc := Lib.hid hc
      clear hQ hcell HS
      by_cases hle : val ln ≤ val (bj :: ll)
      · have hc0 : 0 ≤ c := hcm.mpr hle
        have hY := Lib.hid (fun (l2 : List Bool) => hD.out.yes' (l2 := l2) HJ.out hle)
        replace hle := Lib.hid hle
        clear hcm
        go_wp2_with (first | (go_at_call 19; refine (compare_is c _ _ (bj :: ll) ln _ k3.out.orNil N3.out.orNil (by omega) (by omega) hc).mono ?_; rintro e w' ⟨rfl, rfl⟩) | (go_at_call 33; refine (minus_new _ _ (bj :: ll) ln _ k3.out.orNil N3.out.orNil (by omega) (by omega) hle.out).mono ?_; rintro e w4 ⟨v4, l4, rfl, k4, ⟨n4, e4⟩, g4, f4⟩; have Q4 := Lib.hid (Q3.out.after g4); have q1 := Q4.out.row j hjq; have q2 := Q4.out.free j hjq; replace n4 := Lib.hid n4; replace e4 := Lib.hid e4))
        have hE := hY.out l4 n4.out e4.out
        have hz3 : w.heap.size < w3.heap.size := Q3.out.size
        have k5 : Bools (w4.setCell ⟨w.heap.size, j, none⟩ (.bool true)) v4 l4 := k4.setOther _ (fun b hb => by have := f4 b hb; show b ≠ w.heap.size; omega)
        have Q5 := Q4.out.put hjq
        have D5 : Below w.heap.size w (w4.setCell ⟨w.heap.size, j, none⟩ (.bool true)) := (D3.trans (g4.mono D3.size)).setCell (Nat.le_refl _) _
        go_roundw
        case rel => exact ⟨j, _, l4, lq.set j true, rfl, Lib.hid rfl, by omega, by omega, Lib.hid (by omega), k5, Q5, hE, D5⟩
        case measure => simp [intOf]
      · have hc0 : ¬ 0 ≤ c := fun h => hle (hcm.mp h)
        have hE := Lib.hid (hD.out.no' HJ.out hle)
        replace hle := Lib.hid hle
        clear hcm
        go_wp2_with (go_at_call 19; refine (compare_is c _ _ (bj :: ll) ln _ k3.out.orNil N3.out.orNil (by omega) (by omega) hc).mono ?_; rintro e w' ⟨rfl, rfl⟩)
        go_roundw
        case rel => exact ⟨j, _, bj :: ll, lq, rfl, Lib.hid rfl, by omega, by omega, Lib.hid (by omega), k3.out, Q3.out, hE.out, D3⟩
        case measure => simp [intOf]
    · obtain rfl : z = -1 := by omega
      obtain rfl : k = 0 := by have := hz.out; omega
      replace hD := Lib.hid hD
      clear hz
      go_wp2
      go_ret2
      exact ⟨_, _, lq, ll, rfl, hQ.bools _ hD.out.lenq.symm, hvl, hD.out.lenq, hD.out.lenl, hD.out.all.1, hD.out.all.2, hbel⟩
end Go.Proofs.YtfdpiiahclglcaaDoor
