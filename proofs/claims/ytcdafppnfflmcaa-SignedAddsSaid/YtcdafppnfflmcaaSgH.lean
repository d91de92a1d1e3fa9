/-
  The document's own numbers with a sign: To, walked.
-/
import Derived.Test.YtcdafppnfflmcaaSgF
import Derived.Deep.RegionHeld3
namespace Go.Proofs.Ytcdafppnfflmcaa
open Go.RowKit

def GivesT (U D : Nat) (w : World) (e : Ending) (w' : World) : Prop := ∃ (s : Bool) (h l : Int) (ok : Bool), e = .returned (.tuple #[.agg #[.bool s, .int .u64 h, .int .u64 l], .bool ok]) ∧
  (W128 (gapN U D) → ok = true ∧ IsZ s h l ((U : Int) - D)) ∧ (¬ W128 (gapN U D) → ok = false) ∧ Below w.heap.size w w'
theorem gap_up {U D : Nat} (h : ¬ U < D) : gapN U D = U - D := by unfold gapN; omega
theorem gap_down {U D : Nat} (h : U < D) : gapN U D = D - U := by unfold gapN; omega
theorem to_done {U D N : Nat} {h l : Int} {ok s : Bool} (hg : gapN U D = N) (hW : IsW h l (capN N)) (hok : ok = true ↔ W128 N) (hs : s = decide (U < D)) :
    (W128 (gapN U D) → ok = true ∧ IsZ s h l ((U : Int) - D)) ∧ (¬ W128 (gapN U D) → ok = false) := by
  subst hg hs
  refine ⟨fun hw => ⟨hok.mpr hw, ?_⟩, fun hw => ?_⟩
  · rw [capN_in hw] at hW; exact between_z hW
  · cases ok
    · rfl
    · exact (hw (hok.mp rfl)).elim

set_option maxRecDepth 100000 in
set_option maxHeartbeats 2000000 in
theorem to_any (vu vd : Value) (lu ld : List Bool) (U D n : Nat) (w : World) (h : PairIs w vu vd lu ld U D n) (hn : n ≤ 100000) :
    Calls Try.prog 37 #[.agg #[vu, vd]] w (GivesT U D w) := by
  obtain ⟨a1, c1, rfl⟩ := h.u.len
  obtain ⟨a2, c2, rfl⟩ := h.d.len
  have P0 := Lib.hid h
  have K0 := Lib.hid ((Var2.fresh w (.slice a1 lu.length c1) (.slice a2 ld.length c2) 60 w.heap.size rfl).alloc (.cells #[.bool false, .int .u64 0, .int .u64 0] 58))
  have R0 := Lib.hid (Var3.fresh (w.alloc (.cells #[.slice a1 lu.length c1, .slice a2 ld.length c2] 60)) (.bool false) (.int .u64 0) (.int .u64 0) 58 (w.heap.size + 1) (by simp))
  have D0 : Below w.heap.size w ((w.alloc (.cells #[.slice a1 lu.length c1, .slice a2 ld.length c2] 60)).alloc (.cells #[.bool false, .int .u64 0, .int .u64 0] 58)) := below_more (below_more (Below.refl _ _) _) _
  have hs1 := Lib.hid h.nu
  have hs2 := Lib.hid h.nd
  have P1 := Lib.hid (P0.out.after D0)
  clear h
  by_cases hc : U < D
  · have hcm : Hid (cmpI (val lu) (val ld) = -1) := by unfold Hid; rw [P0.out.U, P0.out.D]; exact cmpI_lt hc
    have hg := Lib.hid (gap_down hc)
    have hle : Hid (U ≤ D) := by unfold Hid; omega
    have hb := Lib.hid (show true = decide (U < D) by simp [hc])
    clear hc
    go_enter Try.func37, Try.ntmps37
    go_wp2_with (go_at_call 14; (with_reducible refine (compare_is (-1) (.slice a1 lu.length c1) (.slice a2 ld.length c2) lu ld _ P1.out.u P1.out.d (by have := hs1.out; omega) (by have := hs2.out; omega) hcm).mono ?_); rintro e w3 ⟨rfl, rfl⟩)
    go_region
    go_wp2
    go_region
    go_wp2_with (first
      | (go_at_call 58; (with_reducible refine (pad_any (.slice a2 ld.length c2) ld lu.length _ P1.out.drew.drew.d (by have := hs2.out; omega) (by have := hs1.out; omega)).mono ?_); rintro e w1 ⟨v1, l1, rfl, k1, ⟨n1, e1⟩, g1⟩; have K1 := Lib.hid (K0.out.drew.drew.after g1); obtain ⟨_, _, _, _, _⟩ := K1.out; have R1 := Lib.hid (R0.out.drew.drew.after g1); have P2 := Lib.hid (P1.out.drew.drew.after g1); have D1 := below_step D0.drew.drew g1; replace e1 := Lib.hid (e1.trans P0.out.D); replace n1 := Lib.hid n1; replace k1 := Lib.hid k1)
      | (go_at_call 23; (with_reducible refine (minus_any v1 (.slice a1 lu.length c1) l1 lu _ k1.out.orNil P2.out.u (by have := n1.out; have := hs1.out; have := hs2.out; omega) (by have := hs1.out; omega) (by rw [e1.out, P0.out.U]; exact hle.out)).mono ?_); rintro e w2 ⟨v2, l2, rfl, k2, ⟨n2, e2⟩, g2⟩; have R2 := Lib.hid (R1.out.after g2); have D2 := below_step D1 g2; replace k2 := Lib.hid k2; replace e2 := Lib.hid (e2.trans (by rw [e1.out, P0.out.U] : _ = D - U)); replace n2 := Lib.hid n2)
      | (go_at_call 27; (with_reducible refine (of_any v2 l2 _ k2.out (by have := n2.out; have := n1.out; have := hs1.out; have := hs2.out; omega)).mono ?_); rintro e w3 ⟨h, l, ok, rfl, hW, hok, g3⟩; rw [e2.out] at hW hok; obtain ⟨_, _, _, _, _, _, _⟩ := R2.out.after g3; have D3 := below_step D2 g3))
    refine bodyPost_ret (v := .tuple #[.agg #[.bool true, .int .u64 h, .int .u64 l], .bool ok]) (by simp [results, Try.results37, go_sem, *]) rfl ⟨true, h, l, ok, rfl, (to_done hg.out hW hok hb.out).1, (to_done hg.out hW hok hb.out).2, ?_⟩
    exact below_more (((D3.setCell (by simp <;> omega) _).setCell (by simp <;> omega) _).setCell (by simp <;> omega) _) _
  · obtain ⟨c, hcm⟩ : ∃ c, cmpI U D = c := ⟨_, rfl⟩
    have hc0 : 0 ≤ c := by rw [← hcm]; unfold cmpI; rw [if_neg hc]; split <;> omega
    have hc1 : ¬ c < 0 := by omega
    replace hcm : Hid (cmpI (val lu) (val ld) = c) := by unfold Hid; rw [P0.out.U, P0.out.D]; exact hcm
    have hg := Lib.hid (gap_up hc)
    have hle : Hid (D ≤ U) := by unfold Hid; omega
    have hb := Lib.hid (show false = decide (U < D) by simp [hc])
    clear hc
    go_enter Try.func37, Try.ntmps37
    go_wp2_with (go_at_call 14; (with_reducible refine (compare_is c (.slice a1 lu.length c1) (.slice a2 ld.length c2) lu ld _ P1.out.u P1.out.d (by have := hs1.out; omega) (by have := hs2.out; omega) hcm).mono ?_); rintro e w3 ⟨rfl, rfl⟩)
    go_region
    go_wp2_with (first
      | (go_at_call 58; (with_reducible refine (pad_any (.slice a1 lu.length c1) lu ld.length _ P1.out.drew.u (by have := hs1.out; omega) (by have := hs2.out; omega)).mono ?_); rintro e w1 ⟨v1, l1, rfl, k1, ⟨n1, e1⟩, g1⟩; have K1 := Lib.hid (K0.out.drew.after g1); obtain ⟨_, _, _, _, _⟩ := K1.out; have R1 := Lib.hid (R0.out.drew.after g1); have P2 := Lib.hid (P1.out.drew.after g1); have D1 := below_step D0.drew g1; replace e1 := Lib.hid (e1.trans P0.out.U); replace n1 := Lib.hid n1; replace k1 := Lib.hid k1)
      | (go_at_call 23; (with_reducible refine (minus_any v1 (.slice a2 ld.length c2) l1 ld _ k1.out.orNil P2.out.d (by have := n1.out; have := hs1.out; have := hs2.out; omega) (by have := hs2.out; omega) (by rw [e1.out, P0.out.D]; exact hle.out)).mono ?_); rintro e w2 ⟨v2, l2, rfl, k2, ⟨n2, e2⟩, g2⟩; have R2 := Lib.hid (R1.out.after g2); have D2 := below_step D1 g2; replace k2 := Lib.hid k2; replace e2 := Lib.hid (e2.trans (by rw [e1.out, P0.out.D] : _ = U - D)); replace n2 := Lib.hid n2)
      | (go_at_call 27; (with_reducible refine (of_any v2 l2 _ k2.out (by have := n2.out; have := n1.out; have := hs1.out; have := hs2.out; omega)).mono ?_); rintro e w3 ⟨h, l, ok, rfl, hW, hok, g3⟩; rw [e2.out] at hW hok; obtain ⟨_, _, _, _, _, _, _⟩ := R2.out.after g3; have D3 := below_step D2 g3))
    refine bodyPost_ret (v := .tuple #[.agg #[.bool false, .int .u64 h, .int .u64 l], .bool ok]) (by simp [results, Try.results37, go_sem, *]) rfl ⟨false, h, l, ok, rfl, (to_done hg.out hW hok hb.out).1, (to_done hg.out hW hok hb.out).2, ?_⟩
    exact below_more (((D3.setCell (by simp <;> omega) _).setCell (by simp <;> omega) _).setCell (by simp <;> omega) _) _

end Go.Proofs.Ytcdafppnfflmcaa
