/-
  The document's own numbers with a sign: Add, Compare, To, walked.
-/
import Derived.Test.YtcdafppnfflmcaaSgF
import Derived.Deep.RegionHeld3
namespace Go.Proofs.Ytcdafppnfflmcaa
open Go.RowKit

set_option maxRecDepth 100000 in
set_option maxHeartbeats 2000000 in
theorem radd_any (vu vd vu' vd' : Value) (lu ld lu' ld' : List Bool) (U D U' D' n : Nat) (w : World) (h : PairIs w vu vd lu ld U D n) (h' : PairIs w vu' vd' lu' ld' U' D' n) (hn : n ≤ 100000) :
    Calls Try.prog 38 #[.agg #[vu, vd], .agg #[vu', vd']] w (GivesP (U + U') (D + D') (n + 1) w) := by
  obtain ⟨a1, c1, rfl⟩ := h.u.len
  obtain ⟨a2, c2, rfl⟩ := h.d.len
  obtain ⟨a3, c3, rfl⟩ := h'.u.len
  obtain ⟨a4, c4, rfl⟩ := h'.d.len
  have P0 := Lib.hid h
  have P0' := Lib.hid h'
  have K0 := Lib.hid (((Var2.fresh w (.slice a1 lu.length c1) (.slice a2 ld.length c2) 60 w.heap.size rfl).alloc (.cells #[.slice a3 lu'.length c3, .slice a4 ld'.length c4] 60)).alloc (.cells #[.slice none 0 0, .slice none 0 0] 60)).drew
  have K0' := Lib.hid ((Var2.fresh (w.alloc (.cells #[.slice a1 lu.length c1, .slice a2 ld.length c2] 60)) (.slice a3 lu'.length c3) (.slice a4 ld'.length c4) 60 (w.heap.size + 1) (by simp)).alloc (.cells #[.slice none 0 0, .slice none 0 0] 60)).drew
  have R0 := Lib.hid (Var2.fresh ((w.alloc (.cells #[.slice a1 lu.length c1, .slice a2 ld.length c2] 60)).alloc (.cells #[.slice a3 lu'.length c3, .slice a4 ld'.length c4] 60)) (.slice none 0 0) (.slice none 0 0) 60 (w.heap.size + 2) (by simp)).drew
  have D0 : Below w.heap.size w (((w.alloc (.cells #[.slice a1 lu.length c1, .slice a2 ld.length c2] 60)).alloc (.cells #[.slice a3 lu'.length c3, .slice a4 ld'.length c4] 60)).alloc (.cells #[.slice none 0 0, .slice none 0 0] 60)).drew := (below_more (below_more (below_more (Below.refl _ _) _) _) _).drew
  have hs1 := Lib.hid h.nu
  have hs2 := Lib.hid h.nd
  have hs3 := Lib.hid h'.nu
  have hs4 := Lib.hid h'.nd
  have P1 := Lib.hid (P0.out.after D0)
  have P1' := Lib.hid (P0'.out.after D0)
  clear h h'
  have q1 : ¬ w.heap.size = w.heap.size + 1 + 1 := by omega
  have q2 : ¬ w.heap.size + 1 = w.heap.size + 1 + 1 := by omega
  have q3 : ¬ w.heap.size + 1 + 1 = w.heap.size := by omega
  have q4 : ¬ w.heap.size + 1 + 1 = w.heap.size + 1 := by omega
  go_enter Try.func38, Try.ntmps38
  go_upto_region 1 with fail
  obtain ⟨_, _, _, _, _⟩ := K0.out
  obtain ⟨_, _, _, _, _⟩ := K0'.out
  obtain ⟨_, _, _, _, _⟩ := R0.out
  go_region_held3 (fun W => W.cell? ⟨w.heap.size, 0, none⟩ = some (.slice a1 lu.length c1) ∧ W.cell? ⟨w.heap.size, 1, none⟩ = some (.slice a2 ld.length c2) ∧ W.cell? ⟨w.heap.size + 1, 0, none⟩ = some (.slice a3 lu'.length c3) ∧ W.cell? ⟨w.heap.size + 1, 1, none⟩ = some (.slice a4 ld'.length c4))
    (first | (refine ⟨?_, ?_, ?_, ?_⟩ <;> assumption) | go_keep)
    (first
      | (go_at_call 21; (with_reducible refine (plus_new (.slice a1 lu.length c1) (.slice a3 lu'.length c3) lu lu' _ P1.out.u P1'.out.u (by have := hs1.out; omega) (by have := hs3.out; omega)).mono ?_); rintro e w1 ⟨v1, l1, rfl, k1, ⟨n1, e1⟩, g1, hn1⟩; have K1 := Lib.hid (K0.out.after g1); have K1' := Lib.hid (K0'.out.after g1); have R1 := Lib.hid (R0.out.after g1); have P2 := Lib.hid (P1.out.after g1); have P2' := Lib.hid (P1'.out.after g1); obtain ⟨_, _, _, _, _⟩ := K1.out; obtain ⟨_, _, _, _, _⟩ := K1'.out; have D1 := below_step D0 g1; have KA := Lib.hid k1; obtain ⟨b1, o1, d1, rfl, _, _, hcx⟩ := k1; clear hcx; replace e1 := Lib.hid e1; replace n1 := Lib.hid n1; replace hn1 := Lib.hid hn1)
      | (go_at_call 21; (with_reducible refine (plus_new (.slice a2 ld.length c2) (.slice a4 ld'.length c4) ld ld' _ P2.out.d P2'.out.d (by have := hs2.out; omega) (by have := hs4.out; omega)).mono ?_); rintro e w2 ⟨v2, l2, rfl, k2, ⟨n2, e2⟩, g2, hn2⟩; obtain ⟨_, _, _, _, _⟩ := K1.out.after g2; obtain ⟨_, _, _, _, _⟩ := K1'.out.after g2; obtain ⟨_, _, _, _, _⟩ := R1.out.after g2; have D2 := below_step D1 g2; have KB := Lib.hid k2; obtain ⟨b2, o2, d2, rfl, _, _, hcx⟩ := k2; clear hcx; replace e2 := Lib.hid e2; replace n2 := Lib.hid n2; replace hn2 := Lib.hid hn2))
  go_wp2
  refine bodyPost_ret (v := .agg #[.slice (some ⟨b1, o1, none⟩) l1.length d1, .slice (some ⟨b2, o2, none⟩) l2.length d2]) (by simp [results, Try.results38, go_sem, *]) rfl ⟨_, _, l1, l2, rfl, ?_, ?_⟩
  · have hp1 : ∀ b, (Value.slice (some ⟨b1, o1, none⟩) l1.length d1).ownBlock = some b → w.heap.size + 2 < b := fun b hb => by have := hn1.out b hb; simp at this; omega
    have hp2 : ∀ b, (Value.slice (some ⟨b2, o2, none⟩) l2.length d2).ownBlock = some b → w.heap.size + 2 < b := fun b hb => by have := hn2.out b hb; have := g1.size; simp at this; omega
    exact ⟨(((KA.out.below g2).put _ hp1).put _ hp1).orNil, ((KB.out.put _ hp2).put _ hp2).orNil, by have := n1.out; have := hs1.out; have := hs3.out; omega, by have := n2.out; have := hs2.out; have := hs4.out; omega, by rw [e1.out, P0.out.U, P0'.out.U], by rw [e2.out, P0.out.D, P0'.out.D]⟩
  · exact (D2.setCell (by simp <;> omega) _).setCell (by simp <;> omega) _


set_option maxRecDepth 100000 in
set_option maxHeartbeats 2000000 in
theorem rcompare_any (vu vd vu' vd' : Value) (lu ld lu' ld' : List Bool) (U D U' D' n : Nat) (w : World) (h : PairIs w vu vd lu ld U D n) (h' : PairIs w vu' vd' lu' ld' U' D' n) (hn : n ≤ 100000) :
    Calls Try.prog 41 #[.agg #[vu, vd], .agg #[vu', vd']] w fun e w' => e = .returned (.int .i64 (cmpI (U + D') (D + U'))) ∧ Below w.heap.size w w' := by
  obtain ⟨a1, c1, rfl⟩ := h.u.len
  obtain ⟨a2, c2, rfl⟩ := h.d.len
  obtain ⟨a3, c3, rfl⟩ := h'.u.len
  obtain ⟨a4, c4, rfl⟩ := h'.d.len
  have P0 := Lib.hid h
  have P0' := Lib.hid h'
  have K0 := Lib.hid ((Var2.fresh w (.slice a1 lu.length c1) (.slice a2 ld.length c2) 60 w.heap.size rfl).alloc (.cells #[.slice a3 lu'.length c3, .slice a4 ld'.length c4] 60)).drew
  have K0' := Lib.hid (Var2.fresh (w.alloc (.cells #[.slice a1 lu.length c1, .slice a2 ld.length c2] 60)) (.slice a3 lu'.length c3) (.slice a4 ld'.length c4) 60 (w.heap.size + 1) (by simp)).drew
  have D0 : Below w.heap.size w ((w.alloc (.cells #[.slice a1 lu.length c1, .slice a2 ld.length c2] 60)).alloc (.cells #[.slice a3 lu'.length c3, .slice a4 ld'.length c4] 60)).drew := (below_more (below_more (Below.refl _ _) _) _).drew
  have hs1 := Lib.hid h.nu
  have hs2 := Lib.hid h.nd
  have hs3 := Lib.hid h'.nu
  have hs4 := Lib.hid h'.nd
  have P1 := Lib.hid (P0.out.after D0)
  have P1' := Lib.hid (P0'.out.after D0)
  clear h h'
  go_enter Try.func41, Try.ntmps41
  go_upto_region 1 with fail
  obtain ⟨_, _, _, _, _⟩ := K0.out
  obtain ⟨_, _, _, _, _⟩ := K0'.out
  go_region_held3 (fun W => W.cell? ⟨w.heap.size, 0, none⟩ = some (.slice a1 lu.length c1) ∧ W.cell? ⟨w.heap.size, 1, none⟩ = some (.slice a2 ld.length c2) ∧ W.cell? ⟨w.heap.size + 1, 0, none⟩ = some (.slice a3 lu'.length c3) ∧ W.cell? ⟨w.heap.size + 1, 1, none⟩ = some (.slice a4 ld'.length c4))
    (first | (refine ⟨?_, ?_, ?_, ?_⟩ <;> assumption) | go_keep)
    (first
      | (go_at_call 21; (with_reducible refine (plus_any (.slice a1 lu.length c1) (.slice a4 ld'.length c4) lu ld' _ P1.out.u P1'.out.d (by have := hs1.out; omega) (by have := hs4.out; omega)).mono ?_); rintro e w1 ⟨v1, l1, rfl, k1, ⟨n1, e1⟩, g1⟩; have K1 := Lib.hid (K0.out.after g1); have K1' := Lib.hid (K0'.out.after g1); have P2 := Lib.hid (P1.out.after g1); have P2' := Lib.hid (P1'.out.after g1); obtain ⟨_, _, _, _, _⟩ := K1.out; obtain ⟨_, _, _, _, _⟩ := K1'.out; have D1 := below_step D0 g1; replace k1 := Lib.hid k1; replace e1 := Lib.hid (e1.trans (by rw [P0.out.U, P0'.out.D] : _ = U + D')); replace n1 := Lib.hid n1)
      | (go_at_call 21; (with_reducible refine (plus_any (.slice a2 ld.length c2) (.slice a3 lu'.length c3) ld lu' _ P2.out.d P2'.out.u (by have := hs2.out; omega) (by have := hs3.out; omega)).mono ?_); rintro e w2 ⟨v2, l2, rfl, k2, ⟨n2, e2⟩, g2⟩; obtain ⟨_, _, _, _, _⟩ := K1.out.after g2; obtain ⟨_, _, _, _, _⟩ := K1'.out.after g2; have D2 := below_step D1 g2; replace e2 := Lib.hid (e2.trans (by rw [P0.out.D, P0'.out.U] : _ = D + U')); replace n2 := Lib.hid n2; replace k2 := Lib.hid k2; have KA := Lib.hid (k1.out.below g2))
      | (go_at_call 14; (with_reducible refine (compare_is (cmpI (U + D') (D + U')) v1 v2 l1 l2 _ KA.out.orNil k2.out.orNil (by have := n1.out; have := hs1.out; have := hs4.out; omega) (by have := n2.out; have := hs2.out; have := hs3.out; omega) (by unfold Hid; rw [e1.out, e2.out])).mono ?_); rintro e w3 ⟨rfl, rfl⟩))
  go_wp2
  go_ret
  exact ⟨rfl, D2⟩

end Go.Proofs.Ytcdafppnfflmcaa
