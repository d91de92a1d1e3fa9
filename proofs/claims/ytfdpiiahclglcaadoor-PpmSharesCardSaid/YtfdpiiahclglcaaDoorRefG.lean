/-
  The document's own answers for numbers of bits, walked: the decimal digits.
-/
import Derived.Test.YtfdpiiahclglcaaDoorRefF
import Derived.Test.YtfdpiiahclglcaaDoorOf
import Derived.Test.YtfdpiiahclglcaaDoorRead
import Derived.Deep.LoopGhost
namespace Go.Proofs.YtfdpiiahclglcaaDoor
open Go.RowKit

/-- One letter, as a text. -/
theorem one_letter (W : World) (z : Int) (g : Nat) (hg : g = W.heap.size) :
    (convert 59 9 (.slice (some ⟨g, 0, none⟩) 1 1)).run Tryd.prog (W.alloc (.cells #[.int .u8 z] 5)) = .ok (.string (strOfNums [z])) (W.alloc (.cells #[.int .u8 z] 5)) := by
  subst hg
  exact run_convert_bytes_arg (W.alloc (.cells #[.int .u8 z] 5)) 59 5 Tryd.underlying59 Tryd.underlying5 _ _ 1 1 [z] rfl (fun i hi => by
    obtain rfl : i = 0 := by omega
    simp) 9 Tryd.underlying9

/-- What holds at the head of a round. -/
structure DigitsAt (A n : Nat) (l : List Bool) (xs : List Int) : Prop where
  all : dec A = dec (val l) ++ xs
  len : l.length = n
  lt : W128 (val l)

theorem digits_last {A n : Nat} {l : List Bool} {xs : List Int} {r : Int} (h : DigitsAt A n l xs) (hl : val l < 10) (hr : r = ((val l % 10 : Nat) : Int)) : strOfNums (dec A) = strOfNums ((48 + r) :: xs) := by
  rw [h.all, dec_small hl, hr, Nat.mod_eq_of_lt hl]; rfl
theorem digits_next {A n : Nat} {l lq : List Bool} {xs : List Int} {r : Int} (h : DigitsAt A n l xs) (hl : ¬ val l < 10) (hr : r = ((val l % 10 : Nat) : Int)) (h1 : val lq = val l / 10) (h2 : lq.length = l.length) : DigitsAt A n lq ((48 + r) :: xs) := by
  obtain ⟨a, b, c⟩ := h
  refine ⟨by rw [a, dec_big hl, h1, hr]; simp, by rw [h2, b], ?_⟩
  rw [h1]; unfold W128 at *; omega
theorem digit_of {p r : Int} {N M : Nat} (h : IsW p r (capN N)) (hN : N = M % 10) : p = 0 ∧ 0 ≤ r ∧ r ≤ 9 ∧ r = ((M % 10 : Nat) : Int) := by
  have hw : W128 N := by unfold W128; omega
  rw [capN_in hw] at h
  obtain ⟨a, b, c, d, e⟩ := h
  omega

set_option maxRecDepth 100000 in
set_option maxHeartbeats 2000000 in
theorem digits_any (v : Value) (l : List Bool) (w : World) (hv : Bools w v l) (hl : l.length ≤ 100000) (hA : W128 (val l)) :
    Calls Tryd.prog 29 #[v] w fun e w' => e = .returned (.string (strOfNums (dec (val l)))) ∧ Below w.heap.size w w' := by
  obtain ⟨A, hAe⟩ : ∃ A, A = val l := ⟨_, rfl⟩
  have hD : DigitsAt A l.length l [] := ⟨by rw [hAe]; simp, rfl, hA⟩
  have hlA : Hid (W128 A) := by rw [hAe]; exact hA
  rw [← hAe]
  have HV := Lib.hid hv
  go_enter Tryd.func29, Tryd.ntmps29
  go_wp2_with (go_at_call 15; refine (bits_small 10 _ (by decide) (by decide)).mono ?_; rintro e w1 ⟨vt, lt, rfl, kt, ⟨nt, et⟩, g1⟩; replace et := Lib.hid et; replace nt := Lib.hid nt; replace kt := Lib.hid kt)
  go_loopg [0, 4, 5, 6, 7, 8] (val l) (fun k v0 v4 _ _ _ _ wr => ∃ (m : List Bool) (xs : List Int), Hid (val m ≤ k) ∧ v4 = .string (strOfNums xs) ∧ Bools wr v0 m ∧ DigitsAt A l.length m xs ∧ Below w1.heap.size w1 wr)
  case atStart => exact ⟨l, [], Lib.hid (Nat.le_refl _), rfl, hv.below g1, hD, Below.refl _ _⟩
  case round =>
    obtain ⟨m, xs, hk, rfl, hm, hDD, hbel⟩ := hrel
    replace hm := Lib.hid hm
    replace hDD := Lib.hid hDD
    have hlm : m.length ≤ 100000 := by rw [hDD.out.len]; exact hl
    have hlx : Hid (xs.length ≤ 39) := by have h1 := dec_len hlA.out; rw [hDD.out.all, List.length_append] at h1; unfold Hid; omega
    by_cases hlt : val m < 10
    · have hfin := Lib.hid (fun (r : Int) (hr : r = ((val m % 10 : Nat) : Int)) => digits_last hDD.out hlt hr)
      replace hlt := Lib.hid hlt
      go_wp2_with (first | (go_at_call 20; refine (divide_any _ vt m lt _ hm.out (kt.out.below hbel) hlm (by have := nt.out; omega) (by rw [et.out]; decide)).mono ?_; rintro e w2 ⟨vq, vl, lq, ll, rfl, kq, kl, nq, nl, eq, el, g2⟩; replace eq := Lib.hid (show val lq = val m / 10 by rw [eq, et.out]; rfl); replace el := Lib.hid (show val ll = val m % 10 by rw [el, et.out]; rfl); replace nq := Lib.hid nq; replace nl := Lib.hid nl; replace kq := Lib.hid kq; replace kl := Lib.hid kl) | (go_at_call 16; refine (of_any vl ll _ kl.out (by have := nl.out; omega)).mono ?_; rintro e w3 ⟨p, r, ok, rfl, hW, hok, g3⟩; clear hok; obtain ⟨rfl, r0, r1, hr⟩ := digit_of hW el.out; clear hW; replace hr := Lib.hid hr; have hcv := one_letter (w3.alloc (.cells #[.int .u64 0, .int .u64 r] 33)) (48 + r) (w3.heap.size + 1) (by simp); have hap := strOfNums_append [48 + r] xs; have hsz : (strOfNums [48 + r]).size + (strOfNums xs).size ≤ 9223372036854775807 := (by rw [strOfNums_size, strOfNums_size]; have := hlx.out; simp; omega)) | (go_at_call 19; refine (compare_is 0 vq (.slice none 0 0) lq [] _ (((kq.out.below g3).alloc _).alloc _).orNil (BoolsN.nil _) (by have := nq.out; omega) (by simp) (by unfold Hid; rw [eq.out]; exact cmpI_eq (by have := hlt.out; simp [val]; omega))).mono ?_; rintro e w' ⟨rfl, rfl⟩))
      go_ret
      exact ⟨by rw [hfin.out r hr.out]; rfl, (g1.trans (((hbel.trans ((g2.trans (g3.mono g2.size)).mono hbel.size)).mono g1.size).alloc (by have := g1.size; have := hbel.size; have := g2.size; have := g3.size; omega) _)).alloc (by have := g1.size; have := hbel.size; have := g2.size; have := g3.size; simp; omega) _⟩
    · have hnx := Lib.hid (fun (r : Int) (hr : r = ((val m % 10 : Nat) : Int)) (lq : List Bool) (h1 : val lq = val m / 10) (h2 : lq.length = m.length) => digits_next hDD.out hlt hr h1 h2)
      replace hlt := Lib.hid hlt
      go_wp2_with (first | (go_at_call 20; refine (divide_any _ vt m lt _ hm.out (kt.out.below hbel) hlm (by have := nt.out; omega) (by rw [et.out]; decide)).mono ?_; rintro e w2 ⟨vq, vl, lq, ll, rfl, kq, kl, nq, nl, eq, el, g2⟩; replace eq := Lib.hid (show val lq = val m / 10 by rw [eq, et.out]; rfl); replace el := Lib.hid (show val ll = val m % 10 by rw [el, et.out]; rfl); replace nq := Lib.hid nq; replace nl := Lib.hid nl; replace kq := Lib.hid kq; replace kl := Lib.hid kl) | (go_at_call 16; refine (of_any vl ll _ kl.out (by have := nl.out; omega)).mono ?_; rintro e w3 ⟨p, r, ok, rfl, hW, hok, g3⟩; clear hok; obtain ⟨rfl, r0, r1, hr⟩ := digit_of hW el.out; clear hW; replace hr := Lib.hid hr; have hcv := one_letter (w3.alloc (.cells #[.int .u64 0, .int .u64 r] 33)) (48 + r) (w3.heap.size + 1) (by simp); have hap := strOfNums_append [48 + r] xs; have hsz : (strOfNums [48 + r]).size + (strOfNums xs).size ≤ 9223372036854775807 := (by rw [strOfNums_size, strOfNums_size]; have := hlx.out; simp; omega)) | (go_at_call 19; refine (compare_is 1 vq (.slice none 0 0) lq [] _ (((kq.out.below g3).alloc _).alloc _).orNil (BoolsN.nil _) (by have := nq.out; omega) (by simp) (by unfold Hid; rw [eq.out]; exact cmpI_gt (by have := hlt.out; simp [val]; omega))).mono ?_; rintro e w' ⟨rfl, rfl⟩))
      have hE := hnx.out r hr.out lq eq.out nq.out
      have D3 := (((hbel.trans ((g2.trans (g3.mono g2.size)).mono hbel.size)).alloc (by have := hbel.size; have := g2.size; have := g3.size; omega) (.cells #[.int .u64 0, .int .u64 r] 33)).alloc (by have := hbel.size; have := g2.size; have := g3.size; simp; omega) (.cells #[.int .u8 (48 + r)] 5))
      have K3 := ((kq.out.below g3).alloc (.cells #[.int .u64 0, .int .u64 r] 33)).alloc (.cells #[.int .u8 (48 + r)] 5)
      go_roundg (val m / 10)
      case measure => have := hlt.out; have := hk.out; omega
      case rel => exact ⟨lq, (48 + r) :: xs, Lib.hid (by rw [eq.out]; exact Nat.le_refl _), rfl, K3, hE, D3⟩
end Go.Proofs.YtfdpiiahclglcaaDoor
