/-
  The program's calls of package crc, walked: All.
-/
import Derived.Test.YtiephcjdbndjaaaDoorCrcP
import Derived.Test.YtiephcjdbndjaaaDoorRowN
namespace Go.Proofs.YtiephcjdbndjaaaDoor
open Go.RowKit

set_option maxRecDepth 100000 in
set_option maxHeartbeats 4000000 in
theorem call_any (v : Value) (B : List Int) (w : World) (env : Env w) (hv : ArgB w v B) (hb : ∀ z ∈ B, 0 ≤ z ∧ z ≤ 255) (hl : B.length ≤ 1000000) :
    Calls Tryd.prog 15 #[v] w (GivesA B w) := by
  obtain ⟨a, cap, rfl⟩ := hv.size
  have HV := Lib.hid hv
  have HBy := Lib.hid hb
  have HE := Lib.hid env
  clear hv hb env
  obtain ⟨base, hB⟩ : ∃ b, w.heap.size = b := ⟨_, rfl⟩
  have HBd := Lib.hid hB
  go_enter Tryd.func15, Tryd.ntmps15
  go_wp2
  go_loopw [4, 5] (fun v4 v5 wr => ∃ (L : List (List Int)) (k : Nat), v5 = .int .i64 (k : Int) ∧ k ≤ B.length ∧ L.length ≤ k ∧ allL B = (L ++ (allL (B.drop k)).1, k + (allL (B.drop k)).2) ∧ RowLL wr base v4 L ∧ Below base w wr ∧ base ≤ wr.heap.size) (fun _ v5 _ => B.length - (intOf v5).toNat)
  case atStart => exact ⟨[], 0, rfl, Nat.zero_le _, Nat.zero_le _, by simp, RowLL.nil _ _, Below.refl _ _, by omega⟩
  case round =>
    obtain ⟨L, k, rfl, hk, hLk, hall, hO, hBel, hs⟩ := hrel
    obtain ⟨g, c, rfl⟩ := hO.size
    have HO := Lib.hid hO
    have HB := Lib.hid hBel
    have HS := Lib.hid hs
    have HAll := Lib.hid hall
    clear hO hBel hs hall
    obtain ⟨sv, hsv, hA0⟩ := slice_from HV.out k hk
    have hA := hA0
    have hl2 : (B.drop k).length = B.length - k := List.length_drop ..
    have HA := Lib.hid (hA.below (HBd.out ▸ HB.out))
    have HAb : Hid (∀ z ∈ B.drop k, 0 ≤ z ∧ z ≤ 255) := fun z hz => HBy.out z (List.mem_of_mem_drop hz)
    have HAl : Hid ((B.drop k).length ≤ 1000000) := (by omega : (B.drop k).length ≤ 1000000)
    have HR := Lib.hid (copen_new sv (B.drop k) wr (HE.out.step (HBd.out ▸ HB.out)) HA.out HAb.out HAl.out)
    clear hA hl2 hA0
    go_wp2_with (first
      | (go_at_call 11; (with_reducible refine HR.out.mono ?_); rintro e w1 ⟨b1, ⟨n1, rfl⟩ | ⟨x, xv, n1, rfl, a1, f1⟩⟩ <;> (have B1 := Lib.hid b1; have N1 := Lib.hid n1; clear b1 n1; try (have HX := Lib.hid a1; have F1 := Lib.hid f1; obtain ⟨ax, cx, rfl⟩ := HX.out.size; have G1 := Lib.hid ((Below.refl w1.heap.size w1).alloc (Nat.le_refl _) (.cells #[.slice ax x.length cx] 22)); have O1 := Lib.hid ((HO.out.below B1.out).below G1.out); have S1 := Lib.hid (show base ≤ (w1.alloc (.cells #[.slice ax x.length cx] 22)).heap.size by have := HS.out; have := B1.out.size; simp; omega); have C1 := Lib.hid (show (w1.alloc (.cells #[.slice ax x.length cx] 22)).cell? ⟨w1.heap.size, 0, none⟩ = some (.slice ax x.length cx) by rw [World.cell?_alloc_mark]; rfl); have L1 := Lib.hid (show L.length ≤ 1000000 by omega); have K1 := Lib.hid (show x ≠ [] → ∀ b, (Value.slice ax x.length cx).ownBlock = some b → (Value.slice g L.length c).ownBlock ≠ some b from fun _ b hb e => by have h5 := F1.out b hb; obtain ⟨vs, h6, _⟩ := HO.out; have := (h6.lt e).2; omega); clear a1 f1)))
      | (at_builtin; refine wp_moreN rfl _ _ rfl base _ L rfl O1.out w1.heap.size _ x rfl C1.out (HX.out.below G1.out) K1.out L1.out S1.out ?_))
    · have hfin : Hid (allL B = (L, k)) := by unfold Hid; rw [HAll.out, allL_none N1.out]; simp
      have BB := Lib.hid (HB.out.trans (B1.out.mono HS.out))
      go_wp2
      go_ret2
      refine ⟨_, by rw [hfin.out]; rfl, ?_, HBd.out ▸ BB.out⟩
      rw [hfin.out]
      exact (HO.out.below B1.out).argLL
    · intro v2 w2 h2 b2 s2
      have hxl := Lib.hid (open_len N1.out)
      obtain ⟨m, hm⟩ : ∃ m : Nat, x.length + 10 = m := ⟨_, rfl⟩
      have HM := Lib.hid hm
      have hstep : Hid (allL B = ((L ++ [x]) ++ (allL (B.drop (k + m))).1, (k + m) + (allL (B.drop (k + m))).2)) := by
        unfold Hid
        have e := allL_some N1.out
        rw [List.drop_drop, hm] at e
        rw [HAll.out, e, List.append_assoc]
        simp only [Prod.mk.injEq]
        exact ⟨rfl, by omega⟩
      have hkm : k + m ≤ B.length := by have := hxl.out; rw [List.length_drop] at this; omega
      have hadd : IntKind.i64.wrap ((k : Int) + ((x.length : Int) + 10)) = ((k + m : Nat) : Int) := by rw [IntKind.wrap_i64]; omega
      have BB := Lib.hid ((HB.out.trans (B1.out.mono HS.out)).alloc (Nat.le_trans HS.out B1.out.size) (.cells #[.slice ax x.length cx] 22))
      have hmp : Hid (0 < m) := (by omega : 0 < m)
      clear hm
      have H2 := Lib.hid h2
      have B2 := Lib.hid (BB.out.trans b2)
      have S2 := Lib.hid s2
      clear h2 b2 s2
      go_wp2
      go_roundw
      case rel => exact ⟨L ++ [x], k + m, rfl, hkm, by have := hmp.out; rw [List.length_append]; simp only [List.length_cons, List.length_nil]; omega, hstep.out, H2.out, B2.out, S2.out⟩
      case measure => simp [intOf]; have := hmp.out; omega

end Go.Proofs.YtiephcjdbndjaaaDoor
