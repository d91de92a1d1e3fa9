/-
  The document's All of layer 8 once more, with the blocks that its records lean on; the document's Read of layer 10.
-/
import Derived.Test.YtejelednnacnaaaGreatDoorPkBase
import Derived.Test.YtejelednnacnaaaGreatDoorPkCrc
import Derived.Test.YtejelednnacnaaaGreatDoorPkMarkB
import Derived.RegionTactic
import Derived.StillTailTactics
import Derived.Laws.OwnMore
namespace Go.Proofs.YtejelednnacnaaaGreatDoor
open Go.RowKit

/-- What All comes to, with the blocks. -/
def GivesAF (b0 : Nat) (v : Value) (B : List Int) (w : World) (e : Ending) (w' : World) : Prop :=
  ∃ u, e = .returned (.tuple #[u, .int .i64 ((allL B).2 : Int)]) ∧ LLF w' b0 (fun i => (w.heap.size ≤ i ∧ i < w'.heap.size) ∨ v.ownBlock = some i) u (allL B).1 ∧ Below w.heap.size w w'

set_option maxRecDepth 100000 in
set_option maxHeartbeats 4000000 in
theorem rcall_foot (b0 : Nat) (v : Value) (B : List Int) (w : World) (hv : ArgB w v B) (hb : ∀ z ∈ B, 0 ≤ z ∧ z ≤ 255) (hl : B.length ≤ 1000000) (hb0 : b0 ≤ w.heap.size) :
    Calls Tryz.prog 32 #[v] w (GivesAF b0 v B w) := by
  obtain ⟨a, cap, rfl⟩ := hv.size
  have HV := Lib.hid hv
  have HBy := Lib.hid hb
  clear hv hb
  obtain ⟨base, hB⟩ : ∃ b, w.heap.size = b := ⟨_, rfl⟩
  have HBd := Lib.hid hB
  have HB0 := Lib.hid hb0
  go_enter Tryz.func32, Tryz.ntmps32
  go_wp2
  go_loopw [4, 5] (fun v4 v5 wr => ∃ (L : List (List Int)) (k : Nat), v5 = .int .i64 (k : Int) ∧ k ≤ B.length ∧ L.length ≤ k ∧ allL B = (L ++ (allL (B.drop k)).1, k + (allL (B.drop k)).2) ∧ LLF wr b0 (fun i => (base ≤ i ∧ i < wr.heap.size) ∨ (Value.slice a B.length cap).ownBlock = some i) v4 L ∧ (∀ b, v4.ownBlock = some b → base ≤ b) ∧ Below base w wr ∧ base ≤ wr.heap.size) (fun _ v5 _ => B.length - (intOf v5).toNat)
  case atStart => exact ⟨[], 0, rfl, Nat.zero_le _, Nat.zero_le _, by simp, ⟨[], (OwnRow.fresh 22 w b0 _ hB.symm (by omega)).rowN, rfl, fun b hb => (by cases hb; exact Or.inl ⟨Nat.le_refl _, by rw [← hB]; simp⟩), fun i hi => by cases hi⟩, fun b hb => (by cases hb; exact Nat.le_refl _), (Below.refl _ _).alloc (by omega) _, by simp; omega⟩
  case round =>
    obtain ⟨L, k, rfl, hk, hLk, hall, hO, hOb, hBel, hs⟩ := hrel
    obtain ⟨g, c, rfl⟩ := hO.size
    have HOB := Lib.hid hOb
    clear hOb
    have HO := Lib.hid hO
    have HB := Lib.hid hBel
    have HS := Lib.hid hs
    have HAll := Lib.hid hall
    clear hO hBel hs hall
    obtain ⟨sv, hsv, hA0⟩ := slice_from HV.out k hk
    have hA := hA0
    have HSB := Lib.hid (slice_from_block HV.out k hk hsv)
    have hl2 : (B.drop k).length = B.length - k := List.length_drop ..
    have HA := Lib.hid (hA.below (HBd.out ▸ HB.out))
    have HAb : Hid (∀ z ∈ B.drop k, 0 ≤ z ∧ z ≤ 255) := fun z hz => HBy.out z (List.mem_of_mem_drop hz)
    have HAl : Hid ((B.drop k).length ≤ 1000000) := (by omega : (B.drop k).length ≤ 1000000)
    have HR := Lib.hid (rcopen_any sv (B.drop k) wr HA.out HAb.out HAl.out)
    clear hA hl2
    have HAw := Lib.hid hA0
    clear hA0
    go_wp2_with (first
      | (go_at_call 30; (with_reducible refine HR.out.mono ?_); rintro e w1 ⟨b1, ⟨n1, rfl⟩ | ⟨x, xv, n1, rfl, a1⟩⟩ <;> (have B1 := Lib.hid b1; have N1 := Lib.hid n1; clear b1 n1; try (have HX := Lib.hid (a1 w HAw.out); have HSBX := Lib.hid (fun hn => same_block a1 HAw.out hn); obtain ⟨ax, cx, rfl⟩ := HX.out.size; have G1 := Lib.hid ((Below.refl w1.heap.size w1).alloc (Nat.le_refl _) (.cells #[.slice ax x.length cx] 22)); have HX1 := Lib.hid (((HX.out.below (HBd.out ▸ HB.out)).below B1.out).below G1.out); have O1 := Lib.hid ((HO.out.after B1.out).after G1.out); have S1 := Lib.hid (show b0 ≤ (w1.alloc (.cells #[.slice ax x.length cx] 22)).heap.size by have := HS.out; have := B1.out.size; have := HB0.out; have := HBd.out; simp; omega); have C1 := Lib.hid (show (w1.alloc (.cells #[.slice ax x.length cx] 22)).cell? ⟨w1.heap.size, 0, none⟩ = some (.slice ax x.length cx) by rw [World.cell?_alloc_mark]; rfl); have L1 := Lib.hid (show L.length ≤ 1000000 by omega); have HNE : Hid (x ≠ [] → ∀ b, (Value.slice ax x.length cx).ownBlock = some b → (Value.slice g L.length c).ownBlock ≠ some b ∧ (((base ≤ b ∧ b < wr.heap.size) ∨ (Value.slice a B.length cap).ownBlock = some b) ∨ b < b0)) := (fun hn b hb => ⟨fun e => by have q1 := HOB.out b e; have q2 := HX.out.lt hn hb; have q3 := HBd.out; omega, Or.inl (Or.inr ((HSB.out.symm.trans (HSBX.out hn).symm).trans hb))⟩); clear a1)))
      | (at_builtin; refine wp_moreF rfl _ _ rfl b0 (fun i => (base ≤ i ∧ i < wr.heap.size) ∨ (Value.slice a B.length cap).ownBlock = some i) _ L rfl O1.out w1.heap.size _ x rfl C1.out HX1.out HNE.out L1.out S1.out ?_))
    · have hfin : Hid (allL B = (L, k)) := by unfold Hid; rw [HAll.out, allL_none N1.out]; simp
      have BB := Lib.hid (HB.out.trans (B1.out.mono HS.out))
      go_wp2
      go_ret2
      refine ⟨_, by rw [hfin.out]; rfl, ?_, HBd.out ▸ BB.out⟩
      rw [hfin.out, HBd.out]
      exact (HO.out.after B1.out).weak (fun i hi => hi.imp (fun hh => ⟨hh.1, Nat.lt_of_lt_of_le hh.2 B1.out.size⟩) id)
    · intro v2 w2 h2 o2 k3
      have hxl := Lib.hid (open_len N1.out)
      obtain ⟨m, hm⟩ : ∃ m : Nat, x.length + 10 = m := ⟨_, rfl⟩
      have HM := Lib.hid hm
      have hstep : Hid (allL B = ((L ++ [x]) ++ (allL (B.drop (k + m))).1, (k + m) + (allL (B.drop (k + m))).2)) := by
        unfold Hid
        have e := allL_some N1.out
        rw [List.drop_drop, hm] at e
        rw [HAll.out, e, List.append_assoc]
        simp only [Prod.mk.injEq]
        exact ⟨rfl, by omega⟩
      have hkm : k + m ≤ B.length := by have := hxl.out; rw [List.length_drop] at this; omega
      have hadd : IntKind.i64.wrap ((k : Int) + ((x.length : Int) + 10)) = ((k + m : Nat) : Int) := by rw [IntKind.wrap_i64]; omega
      have BB := Lib.hid ((HB.out.trans (B1.out.mono HS.out)).alloc (Nat.le_trans HS.out B1.out.size) (.cells #[.slice ax x.length cx] 22))
      have hmp : Hid (0 < m) := (by omega : 0 < m)
      clear hm
      have q1 := HB.out.size
      have q2 := B1.out.size
      have q3 := G1.out.size
      have q4 := o2.size
      have q5 := HS.out
      have H2 := Lib.hid (h2.weak (F' := fun i => (base ≤ i ∧ i < w2.heap.size) ∨ (Value.slice a B.length cap).ownBlock = some i) (fun i hi => by
        rcases hi with (hi | hi) | hi
        · exact Or.inl ⟨hi.1, by omega⟩
        · exact Or.inr hi
        · exact Or.inl ⟨by omega, hi.2⟩))
      have K3 : Hid (∀ b, v2.ownBlock = some b → base ≤ b) := fun b hb => by
        rcases k3 b hb with e | e
        · exact HOB.out b e
        · omega
      have B2 : Hid (Below base w w2) := ⟨o2.bel.os.trans BB.out.os, o2.bel.tape.trans BB.out.tape, o2.bel.output.trans BB.out.output, Nat.le_trans BB.out.size o2.size, fun i hi => (o2.keep i (by have := BB.out.size; omega) (fun e => by have := HOB.out i e.symm; omega)).trans (BB.out.block i hi)⟩
      have S2 : Hid (base ≤ w2.heap.size) := by unfold Hid; omega
      clear h2 o2 k3 q1 q2 q3 q4 q5
      go_wp2
      go_roundw
      case rel => exact ⟨L ++ [x], k + m, rfl, hkm, by have := hmp.out; rw [List.length_append]; simp only [List.length_cons, List.length_nil]; omega, hstep.out, H2.out, K3.out, B2.out, S2.out⟩
      case measure => simp [intOf]; have := hmp.out; omega

set_option maxRecDepth 100000 in
set_option maxHeartbeats 4000000 in
theorem rread_any (b0 : Nat) (l : List Int) (w : World) (hb : ∀ z ∈ l, 0 ≤ z ∧ z ≤ 255) (hl : l.length ≤ 1000000) (hb0 : b0 ≤ w.heap.size) :
    Calls Tryz.prog 11 #[.string (strOfNums l)] w fun e w' => ∃ m, e = .returned (.pointer (some ⟨m, 0, none⟩)) ∧ w.heap.size ≤ m ∧ RLog w' b0 (fun i => w.heap.size ≤ i ∧ i < m) m (allL l).1 l.length ∧ Below w.heap.size w w' := by
  have hXs : (strOfNums l).size = l.length := rw_str_len l
  have hXn : nums (strOfNums l) = l := nums_strOfNums l hb
  obtain ⟨X, hX⟩ : ∃ X, strOfNums l = X := ⟨_, rfl⟩
  rw [hX] at hXs hXn ⊢
  obtain ⟨c1, w1, hcv, hA, hB1, hlt⟩ := text_bytes X w
  rw [hXn, hXs] at hA
  rw [hXs] at hcv
  obtain ⟨N, hN⟩ : ∃ N, l.length = N := ⟨_, rfl⟩
  have HALL := Lib.hid (rcall_foot b0 _ l w1 hA hb hl (Nat.le_trans hb0 hB1.size))
  rw [hN] at hcv HALL
  have hXs2 : X.size = N := by rw [hXs, hN]
  have HXS := Lib.hid hXs2
  have HB1 := Lib.hid hB1
  have HLT := Lib.hid hlt
  have HNl := Lib.hid hN
  clear hXn hX hA hB1 hlt hN hXs hb hl
  go_enter Tryz.func11, Tryz.ntmps11
  go_wp2_with (go_at_call 32; (with_reducible refine (HALL.out).mono ?_); rintro e w2 ⟨u, rfl, h2, g2⟩; obtain ⟨ua, uc, rfl⟩ := h2.size; have H2 := Lib.hid h2; have G2 := Lib.hid g2; clear h2 g2)
  go_ret
  have q1 := HB1.out.size
  have q2 := G2.out.size
  have q3 := HLT.out
  have hbx : Below w2.heap.size w2 (w2.alloc (.cells #[.slice ua (allL l).1.length uc, .int .i64 (N : Int)] 41)) := (Below.refl _ _).alloc (Nat.le_refl _) _
  have h3 := H2.out.after hbx
  refine ⟨w2.heap.size, rfl, by omega, ⟨⟨.slice ua (allL l).1.length uc, by rw [World.cell?_alloc_new]; rfl, h3.weak (fun i hi => ?_)⟩, ?_, fun i => by simp [go_sem], by simp, by omega, fun i hi => ⟨by omega, by simp; omega, by omega⟩⟩, (HB1.out.trans (G2.out.mono q1)).trans (hbx.mono (Nat.le_trans q1 q2))⟩
  · rcases hi with hi | hi
    · exact ⟨by omega, hi.2⟩
    · have : w.heap.size = i := Option.some.inj hi
      exact ⟨by omega, by omega⟩
  · rw [World.cell?_alloc_new, HNl.out]; rfl

end Go.Proofs.YtejelednnacnaaaGreatDoor
