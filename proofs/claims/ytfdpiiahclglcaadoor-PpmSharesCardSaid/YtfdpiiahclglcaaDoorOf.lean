/-
  The document's own answers for numbers of bits, walked: bits as a number; whether an answer is what bits say.
-/
import Derived.Test.YtfdpiiahclglcaaDoorRefB
import Derived.Test.YtfdpiiahclglcaaDoorWide
namespace Go.Proofs.YtfdpiiahclglcaaDoor
open Go.RowKit

/-- What Of hands back. -/
def GivesOf (N : Nat) (w : World) (e : Ending) (w' : World) : Prop := ∃ (h l : Int) (ok : Bool), e = .returned (.tuple #[.agg #[.int .u64 h, .int .u64 l], .bool ok]) ∧ IsW h l (capN N) ∧ (ok = true ↔ W128 N) ∧ Below w.heap.size w w'

/-- What stands in the call's own memory. -/
structure OfMem (w wr : World) (h l : Int) : Prop where
  r0 : wr.cell? ⟨w.heap.size, 0, none⟩ = some (.int .u64 0)
  r1 : wr.cell? ⟨w.heap.size, 1, none⟩ = some (.int .u64 0)
  q0 : wr.frozen? ⟨w.heap.size, 0, none⟩ = false
  q1 : wr.frozen? ⟨w.heap.size, 1, none⟩ = false
  c0 : wr.cell? ⟨w.heap.size + 1, 0, none⟩ = some (.int .u64 h)
  c1 : wr.cell? ⟨w.heap.size + 1, 1, none⟩ = some (.int .u64 l)
  f0 : wr.frozen? ⟨w.heap.size + 1, 0, none⟩ = false
  f1 : wr.frozen? ⟨w.heap.size + 1, 1, none⟩ = false
  bel : Below w.heap.size w wr
  size : wr.heap.size = w.heap.size + 2
theorem OfMem.putHi {w wr : World} {h l : Int} (m : OfMem w wr h l) (x : Int) : OfMem w (wr.setCell ⟨w.heap.size + 1, 0, none⟩ (.int .u64 x)) x l := by
  obtain ⟨r0, r1, q0, q1, c0, c1, f0, f1, bel, size⟩ := m
  refine ⟨?_, ?_, by rw [World.frozen?_setCell]; exact q0, by rw [World.frozen?_setCell]; exact q1, World.cell?_setCell_same _ _ _ c0, ?_, by rw [World.frozen?_setCell]; exact f0, by rw [World.frozen?_setCell]; exact f1, bel.setCell (by simp) _, by simpa using size⟩
  · rw [World.cell?_setCell_other _ _ _ _ (by simp)]; exact r0
  · rw [World.cell?_setCell_other _ _ _ _ (by simp)]; exact r1
  · rw [World.cell?_setCell_other _ _ _ _ (by simp)]; exact c1
theorem OfMem.putLo {w wr : World} {h l : Int} (m : OfMem w wr h l) (x : Int) : OfMem w (wr.setCell ⟨w.heap.size + 1, 1, none⟩ (.int .u64 x)) h x := by
  obtain ⟨r0, r1, q0, q1, c0, c1, f0, f1, bel, size⟩ := m
  refine ⟨?_, ?_, by rw [World.frozen?_setCell]; exact q0, by rw [World.frozen?_setCell]; exact q1, ?_, World.cell?_setCell_same _ _ _ c1, by rw [World.frozen?_setCell]; exact f0, by rw [World.frozen?_setCell]; exact f1, bel.setCell (by simp) _, by simpa using size⟩
  · rw [World.cell?_setCell_other _ _ _ _ (by simp)]; exact r0
  · rw [World.cell?_setCell_other _ _ _ _ (by simp)]; exact r1
  · rw [World.cell?_setCell_other _ _ _ _ (by simp)]; exact c0

theorem pow_small (k : Nat) (hk : k < 64) : (0 : Int) ≤ 2 ^ k ∧ (2 : Int) ^ k ≤ 9223372036854775808 := by
  have h2 : 2 ^ k ≤ 2 ^ 63 := Nat.pow_le_pow_right (by decide) (by omega)
  have h3 : ((2 ^ k : Nat) : Int) ≤ ((2 ^ 63 : Nat) : Int) := Int.ofNat_le.mpr h2
  rw [two_pow_cast]
  exact ⟨Int.natCast_nonneg _, h3⟩

set_option maxRecDepth 100000 in
set_option maxHeartbeats 1000000 in
theorem of_any (v : Value) (x : List Bool) (w : World) (hv : Bools w v x) (hx : x.length ≤ 1000000) :
    Calls Tryd.prog 16 #[v] w (GivesOf (val x) w) := by
  have HV := Lib.hid hv
  obtain ⟨b, off, cap, rfl, _, hlt, hcs⟩ := hv
  clear hcs
  go_enter Tryd.func16, Tryd.ntmps16
  go_wp2
  go_loopw [5] (fun i wr => ∃ (k : Nat) (h l : Int), k ≤ x.length ∧ i = .int .i64 k ∧ IsW h l (lo x k) ∧ OfMem w wr h l) (fun i _ => x.length - (intOf i).toNat)
  case atStart =>
    refine ⟨0, 0, 0, Nat.zero_le _, rfl, by rw [lo_zero]; exact IsW.zero, ⟨by simp [go_sem], by simp [go_sem], by simp [go_sem], by simp [go_sem], by simp [go_sem], by simp [go_sem], by simp [go_sem], by simp [go_sem], ((Below.refl _ _).alloc (Nat.le_refl _) _).alloc (by simp) _, by simp⟩⟩
  case round =>
    obtain ⟨k, h, l, hk, rfl, hW, hM⟩ := hrel
    have HM := Lib.hid hM
    by_cases h1 : k < x.length
    · have hcell := (HV.out.below hM.bel).at h1
      obtain ⟨r0, r1, q0, q1, c0, c1, f0, f1, hbel, hsz⟩ := hM
      by_cases h2 : x.getD k false = true
      · rw [h2] at hcell
        replace h2 := Lib.hid h2
        by_cases h3 : k < 64
        · obtain ⟨p1, p2⟩ := pow_small k h3
          have hn := of_low hW h3 h2.out
          have b1 := hn.l1
          have b0 := hn.l0
          replace hn := Lib.hid hn
          have hm := HM.out.putLo (l + 2 ^ k)
          clear hW
          go_wp2
          go_roundw
          case rel => exact ⟨k + 1, h, l + 2 ^ k, by omega, by go_num, hn.out, hm⟩
          case measure => simp [intOf]; omega
        · by_cases h4 : k < 128
          · obtain ⟨p1, p2⟩ := pow_small (k - 64) (by omega)
            have hn := of_high hW (by omega) h4 h2.out
            have b1 := hn.h1
            have b0 := hn.h0
            replace hn := Lib.hid hn
            have hm := HM.out.putHi (h + 2 ^ (k - 64))
            clear hW
            go_wp2
            go_roundw
            case rel => exact ⟨k + 1, h + 2 ^ (k - 64), l, by omega, by go_num, hn.out, hm⟩
            case measure => simp [intOf]; omega
          · have hb := Lib.hid (of_beyond (by omega) h2.out)
            go_wp2
            refine bodyPost_ret (v := .tuple #[.agg #[.int .u64 0, .int .u64 0], .bool false]) (by simp [results, Tryd.results16, go_sem, r0, r1]) rfl ⟨0, 0, false, rfl, by rw [capN_out hb.out]; exact IsW.zero, ⟨fun e => (Bool.noConfusion e), fun e => (hb.out e).elim⟩, ?_⟩
            exact (HM.out.bel.setCell (by simp) _).setCell (by simp) _
      · replace h2 : x.getD k false = false := by simpa using h2
        rw [h2] at hcell
        have hn := Lib.hid (of_none hW h2)
        replace h2 := Lib.hid h2
        clear hW
        go_wp2
        go_roundw
        case rel => exact ⟨k + 1, h, l, by omega, by go_num, hn.out, HM.out⟩
        case measure => simp [intOf]; omega
    · obtain rfl : k = x.length := by omega
      obtain ⟨r0, r1, q0, q1, c0, c1, f0, f1, hbel, hsz⟩ := hM
      have hN := Lib.hid (lo_all x x.length (Nat.le_refl _))
      have hWW := Lib.hid hW
      clear hW
      go_wp2
      refine bodyPost_ret (v := .tuple #[.agg #[.int .u64 h, .int .u64 l], .bool true]) (by simp [results, Tryd.results16, go_sem, r0, r1]) rfl ⟨h, l, true, rfl, ?_, ⟨fun _ => hN.out ▸ hWW.out.lt, fun _ => rfl⟩, ?_⟩
      · have := hWW.out
        rw [hN.out] at this
        rw [capN_in this.lt]; exact this
      · exact (HM.out.bel.setCell (by simp) _).setCell (by simp) _

theorem box_kept {w w1 : World} {h l : Int} (hb : Below (w.alloc (.cells #[.int .u64 h, .int .u64 l] 33)).heap.size (w.alloc (.cells #[.int .u64 h, .int .u64 l] 33)) w1) :
    w1.cell? ⟨w.heap.size, 0, none⟩ = some (.int .u64 h) ∧ w1.cell? ⟨w.heap.size, 1, none⟩ = some (.int .u64 l) ∧ w.heap.size < w1.heap.size ∧ Below w.heap.size w w1 := by
  have hs := hb.size
  simp at hs
  exact ⟨(hb.cell (p := ⟨w.heap.size, 0, none⟩) (by simp)).trans (by simp), (hb.cell (p := ⟨w.heap.size, 1, none⟩) (by simp)).trans (by simp), by omega, ((Below.refl _ _).alloc (Nat.le_refl _) _).trans (hb.mono (by simp))⟩

end Go.Proofs.YtfdpiiahclglcaaDoor
