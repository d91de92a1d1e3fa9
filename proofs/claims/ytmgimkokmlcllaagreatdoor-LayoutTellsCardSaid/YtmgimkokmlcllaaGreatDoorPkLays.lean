/-
  LayoutTells, walked.
-/
import Derived.Test.YtmgimkokmlcllaaGreatDoorPkLayt
import Derived.Test.YtmgimkokmlcllaaGreatDoorPkLayd
import Derived.Test.YtmgimkokmlcllaaGreatDoorPkLayn
import Derived.Test.YtmgimkokmlcllaaGreatDoorPkLayp
import Derived.Test.YtmgimkokmlcllaaGreatDoorPkLayx
import Derived.Test.YtmgimkokmlcllaaGreatDoorPkTrej
import Derived.Test.YtmgimkokmlcllaaGreatDoorPkItemsOpen
namespace Go.Proofs.YtmgimkokmlcllaaGreatDoor
open Go.RowKit Go.Shelf

theorem bare_again (w : List Tk3) : (w.map Tk3.bare).map Tk3.bare = w.map Tk3.bare := by
  rw [List.map_map]
  exact List.map_congr_left (fun t _ => rfl)
theorem bareL_again : ∀ L : List It, bareL (bareL L) = bareL L
  | [] => by simp [bareL]
  | .mk n w k kids a b :: L => by
    rw [bareL, bareL, bareL_again kids, bareL_again L, bare_again]
theorem LightL.all : ∀ {L : List It}, LightL L → AllW L
  | [], _ => by simp [AllW]
  | .mk n w k kids a b :: L, h => by
    rw [LightL] at h
    rw [AllW]
    have h1 : w.length ≤ 20 := h.1.2.1
    exact ⟨by omega, LightL.all h.2.1, LightL.all h.2.2⟩
theorem LightL.bareAll : ∀ {L : List It}, LightL L → AllW (bareL L)
  | [], _ => by simp [bareL, AllW]
  | .mk n w k kids a b :: L, h => by
    rw [LightL] at h
    rw [bareL, AllW]
    have h1 : w.length ≤ 20 := h.1.2.1
    exact ⟨by rw [List.length_map]; omega, LightL.bareAll h.2.1, LightL.bareAll h.2.2⟩
theorem sbare_any (D : Nat) (S : Nat → Prop) (v : Value) (L : List It) (w : World) (h : ItemsIs D w S v L) (hS : ∀ b, S b → b < w.heap.size) (hc : cntL L ≤ 1000000) (hl : LightL L) :
    Calls Tryz.prog 14 #[v] w fun e w' => ∃ v' D', e = .returned v' ∧ NewK D' w' w.heap.size v' (bareL L) ∧ Below w.heap.size w w' :=
  (bare_light D S v L w h hS hc hl).mono (by
    rintro e w' ⟨v', ps, Sx, rfl, hli, hps, hsx, hb⟩
    refine ⟨v', D - 1 + 1, rfl, ⟨fun b => w.heap.size ≤ b ∧ b < w'.heap.size, ?_, fun b h => h⟩, hb⟩
    rw [← hps]
    exact hli.items hsx (fun b hb2 => hli.row.lt hb2))
/-- What is said of a tree that isn't heavy. -/
def Thin (L : List It) : Prop := cntL L ≤ 400 ∧ depL L ≤ 40 ∧ SlimL L

set_option maxRecDepth 100000 in
set_option maxHeartbeats 16000000 in
theorem laytells_walk (v0 v1 : Value) (L M : List It) (w : World) (env : EnvQ w) (h1 : TreeIs w v0 L) (h2 : TreeIs w v1 M) (n1 : NumsR L) (n2 : NumsR M) :
    Calls Tryz.prog 5 #[v0, v1] w fun e w' => e = .returned (.bool true) ∧ Below w.heap.size w w' := by
  obtain ⟨D1, h1⟩ := h1
  obtain ⟨D2, h2⟩ := h2
  have HA := Lib.hid (lay_awake w env)
  have HT1 : Hid (∀ W, Below w.heap.size w W → ItemsIs D1 W (fun b => b < w.heap.size) v0 L) := Lib.hid (fun W hW => h1.belowS (fun b h => h) hW)
  have HT2 : Hid (∀ W, Below w.heap.size w W → ItemsIs D2 W (fun b => b < w.heap.size) v1 M) := Lib.hid (fun W hW => h2.belowS (fun b h => h) hW)
  have HIN : Hid (∀ W, Below w.heap.size w W → ∀ b, b < w.heap.size → b < W.heap.size) := Lib.hid (fun W hW b hb => Nat.lt_of_lt_of_le hb hW.size)
  have HV1 : Hid (∀ W, Below w.heap.size w W → Calls Tryz.prog 7 #[v0] W fun e w' => ∃ q : Bool, e = .returned (.bool q) ∧ (q = false → Thin L) ∧ Below W.heap.size W w') := Lib.hid (fun W hW => sheavy_any D1 _ v0 L W (HT1.out W hW) (HIN.out W hW))
  have HV2 : Hid (∀ W, Below w.heap.size w W → Calls Tryz.prog 7 #[v1] W fun e w' => ∃ q : Bool, e = .returned (.bool q) ∧ (q = false → Thin M) ∧ Below W.heap.size W w') := Lib.hid (fun W hW => sheavy_any D2 _ v1 M W (HT2.out W hW) (HIN.out W hW))
  have HN1 := Lib.hid n1
  have HN2 := Lib.hid n2
  obtain ⟨a1, c1, hv0⟩ := h1.size
  obtain ⟨a2, c2, hv1⟩ := h2.size
  obtain ⟨l1, hl1⟩ : ∃ l, L.length = l := ⟨_, rfl⟩
  obtain ⟨l2, hl2⟩ : ∃ l, M.length = l := ⟨_, rfl⟩
  rw [hl1] at hv0
  rw [hl2] at hv1
  subst hv0 hv1
  have HE := Lib.hid env
  clear env h1 h2 n1 n2 hl1 hl2
  go_enter Tryz.func5, Tryz.ntmps5
  go_wp2_with (first
    | (go_at_call 6; (with_reducible refine (HA.out).mono ?_); rintro e w1 ⟨rfl, g1⟩; have G1 := Lib.hid g1; clear g1)
    | (go_at_call 7; (with_reducible refine (HV1.out _ G1.out).mono ?_); rintro e w2 ⟨q, rfl, hq, g2⟩; have G2 := Lib.hid (below_step G1.out g2); clear g2; cases q))
  · have hthL := hq (by trivial)
    clear hq
    go_wp2_with (go_at_call 7; (with_reducible refine (HV2.out _ G2.out).mono ?_); rintro e w3 ⟨q, rfl, hq, g3⟩; have G3 := Lib.hid (below_step G2.out g3); clear g3; cases q)
    · have hthM := hq (by trivial)
      obtain ⟨x1, x2, x3⟩ := hthL
      obtain ⟨y1, y2, y3⟩ := hthM
      have z1 := x3.light HN1.out
      have z2 := y3.light HN2.out
      have HB1 : Hid (∀ W, Below w.heap.size w W → Calls Tryz.prog 14 #[.slice a1 l1 c1] W fun e w' => ∃ v' D', e = .returned v' ∧ NewK D' w' W.heap.size v' (bareL L) ∧ Below W.heap.size W w') := Lib.hid (fun W hW => sbare_any D1 _ _ L W (HT1.out W hW) (HIN.out W hW) (by omega) z1)
      have HB2 : Hid (∀ W, Below w.heap.size w W → Calls Tryz.prog 14 #[.slice a2 l2 c2] W fun e w' => ∃ v' D', e = .returned v' ∧ NewK D' w' W.heap.size v' (bareL M) ∧ Below W.heap.size W w') := Lib.hid (fun W hW => sbare_any D2 _ _ M W (HT2.out W hW) (HIN.out W hW) (by omega) z2)
      have HCP : Hid (∀ W, Below w.heap.size w W → Calls Tryz.prog 15 #[.slice a1 l1 c1] W fun e w' => e = .returned (.int .i64 (cntL L : Int)) ∧ Below W.heap.size W w') := Lib.hid (fun W hW => lcount_any D1 _ _ L W (HT1.out W hW) (HIN.out W hW) (by omega) (by omega))
      have HCR : Hid (∀ W, Below w.heap.size w W → Calls Tryz.prog 16 #[.slice a1 l1 c1] W fun e w' => e = .returned (.int .i64 (cntL L : Int)) ∧ Below W.heap.size W w') := Lib.hid (fun W hW => scount_any D1 _ _ L W (HT1.out W hW) (HIN.out W hW) (by omega))
      have HDP : Hid (∀ W, Below w.heap.size w W → Calls Tryz.prog 17 #[.slice a1 l1 c1] W fun e w' => e = .returned (.int .i64 (depL L : Int)) ∧ Below W.heap.size W w') := Lib.hid (fun W hW => ldepth_any D1 _ _ L W (HT1.out W hW) (HIN.out W hW) (by omega) (by omega))
      have HDR : Hid (∀ W, Below w.heap.size w W → Calls Tryz.prog 18 #[.slice a1 l1 c1] W fun e w' => e = .returned (.int .i64 (depL L : Int)) ∧ Below W.heap.size W w') := Lib.hid (fun W hW => sdepth_any D1 _ _ L W (HT1.out W hW) (HIN.out W hW) (by have := len_cnt L; omega) (by omega) (by omega))
      have HBP : Hid (∀ W, Below w.heap.size w W → Calls Tryz.prog 20 #[.slice a1 l1 c1] W fun e w' => ∃ v', e = .returned v' ∧ NewK D1 w' W.heap.size v' (bareL L) ∧ Below W.heap.size W w') := Lib.hid (fun W hW => lbare_any D1 _ _ L W (HT1.out W hW) (HIN.out W hW) (by omega) z1)
      have hcb1 : cntL (bareL L) ≤ 1000000 := by rw [cntL_bare]; omega
      have hcb2 : cntL (bareL M) ≤ 1000000 := by rw [cntL_bare]; omega
      have hab1 := z1.bareAll
      have hab2 := z2.bareAll
      have HE1 : Hid (∀ W Da Db la lb x y, NewK Da W la x (bareL L) → NewK Db W lb y (bareL L) → Calls Tryz.prog 19 #[x, y] W fun e w' => e = .returned (.bool true) ∧ Below W.heap.size W w') := Lib.hid (fun W Da Db la lb x y hx hy => by
        obtain ⟨S1, i1, _⟩ := hx
        obtain ⟨S2, i2, _⟩ := hy
        exact (GivesS.yes (stree_dec Da S1 S2 Db x y _ _ W i1 i2 (by omega) hab1 hab1) rfl).mono (by rintro e w' ⟨he, m, rfl⟩; exact ⟨he, Go.below_drewN (Below.refl _ _) m⟩))
      have HE2 : Hid (∀ W Da Db la lb x y, NewK Da W la x (bareL L) → NewK Db W lb y (bareL M) → Calls Tryz.prog 19 #[x, y] W (GivesQ (bareL L = bareL M) W)) := Lib.hid (fun W Da Db la lb x y hx hy => by
        obtain ⟨S1, i1, _⟩ := hx
        obtain ⟨S2, i2, _⟩ := hy
        exact (stree_dec Da S1 S2 Db x y _ _ W i1 i2 (by omega) hab1 hab2).mono (by rintro e w' ⟨q, he, hq, m, rfl⟩; exact ⟨q, he, hq, Go.below_drewN (Below.refl _ _) m⟩))
      have HS0 : Hid (∀ W, Below w.heap.size w W → Calls Tryz.prog 13 #[.slice a1 l1 c1, .slice a2 l2 c2] W (GivesQ (bareL L = bareL M) W)) := Lib.hid (fun W hW => lsame_any D1 _ _ D2 _ _ L M W (HT1.out W hW) (HT2.out W hW) (HIN.out W hW) (HIN.out W hW) (by omega) (by omega) z1.all z2.all)
      have HS1 : Hid (∀ W Db lb y, Below w.heap.size w W → NewK Db W lb y (bareL L) → Calls Tryz.prog 13 #[.slice a1 l1 c1, y] W fun e w' => e = .returned (.bool true) ∧ Below W.heap.size W w') := Lib.hid (fun W Db lb y hW hy => by
        obtain ⟨S2, i2, hs2⟩ := hy
        exact (lsame_any D1 _ _ Db _ _ L _ W (HT1.out W hW) i2 (HIN.out W hW) (fun b h => (hs2 b h).2) (by omega) hcb1 z1.all hab1).mono (by
          rintro e w' ⟨q, rfl, hq, hb⟩
          obtain rfl : q = true := hq.mpr (bareL_again L).symm
          exact ⟨rfl, hb⟩))
      have HS2 : Hid (∀ W Db lb y, Below w.heap.size w W → NewK Db W lb y (bareL M) → Calls Tryz.prog 13 #[.slice a2 l2 c2, y] W fun e w' => e = .returned (.bool true) ∧ Below W.heap.size W w') := Lib.hid (fun W Db lb y hW hy => by
        obtain ⟨S2, i2, hs2⟩ := hy
        exact (lsame_any D2 _ _ Db _ _ M _ W (HT2.out W hW) i2 (HIN.out W hW) (fun b h => (hs2 b h).2) (by omega) hcb2 z2.all hab2).mono (by
          rintro e w' ⟨q, rfl, hq, hb⟩
          obtain rfl : q = true := hq.mpr (bareL_again M).symm
          exact ⟨rfl, hb⟩))
      clear hq x1 x2 x3 y1 y2 y3 z1 z2 hcb1 hcb2 hab1 hab2
      go_wp2_with (first
        | (go_at_call 14; (with_reducible refine (HB1.out _ G3.out).mono ?_); rintro e w4 ⟨v5, d5, rfl, k5, g4⟩; obtain ⟨a5, l5, c5, rfl⟩ := k5.slice; have G4 := Lib.hid (below_step G3.out g4); have K5 := Lib.hid k5; clear g4 k5)
        | (go_at_call 14; (with_reducible refine (HB2.out _ G4.out).mono ?_); rintro e w5 ⟨v6, d6, rfl, k6, g5⟩; obtain ⟨a6, l6, c6, rfl⟩ := k6.slice; have G5 := Lib.hid (below_step G4.out g5); have K6 := Lib.hid k6; have K5b := Lib.hid (K5.out.below g5); clear g5 k6)
        | (go_at_call 15; (with_reducible refine (HCP.out _ G5.out).mono ?_); rintro e w6 ⟨rfl, g6⟩; have G6 := Lib.hid (below_step G5.out g6); have K5c := Lib.hid (K5b.out.below g6); have K6c := Lib.hid (K6.out.below g6); clear g6)
        | (go_at_call 16; (with_reducible refine (HCR.out _ G6.out).mono ?_); rintro e w7 ⟨rfl, g7⟩; have G7 := Lib.hid (below_step G6.out g7); have K5d := Lib.hid (K5c.out.below g7); have K6d := Lib.hid (K6c.out.below g7); clear g7)
        | (go_at_call 17; (with_reducible refine (HDP.out _ G7.out).mono ?_); rintro e w8 ⟨rfl, g8⟩; have G8 := Lib.hid (below_step G7.out g8); have K5e := Lib.hid (K5d.out.below g8); have K6e := Lib.hid (K6d.out.below g8); clear g8)
        | (go_at_call 18; (with_reducible refine (HDR.out _ G8.out).mono ?_); rintro e w9 ⟨rfl, g9⟩; have G9 := Lib.hid (below_step G8.out g9); have K5f := Lib.hid (K5e.out.below g9); have K6f := Lib.hid (K6e.out.below g9); clear g9)
        | (go_at_call 20; (with_reducible refine (HBP.out _ G9.out).mono ?_); rintro e w10 ⟨v7, rfl, k7, g10⟩; obtain ⟨a7, l7, c7, rfl⟩ := k7.slice; have G10 := Lib.hid (below_step G9.out g10); have K5g := Lib.hid (K5f.out.below g10); have K6g := Lib.hid (K6f.out.below g10); have K7 := Lib.hid k7; clear g10 k7)
        | (go_at_call 19; (with_reducible refine (HE1.out _ _ _ _ _ _ _ K7.out K5g.out).mono ?_); rintro e w11 ⟨rfl, g11⟩; have G11 := Lib.hid (below_step G10.out g11); have K5h := Lib.hid (K5g.out.below g11); have K6h := Lib.hid (K6g.out.below g11); clear g11)
        | (go_at_call 13; (with_reducible refine (HS0.out _ G11.out).mono ?_); rintro e w12 ⟨q, rfl, hq, g12⟩; have HQ := Lib.hid hq; have G12 := Lib.hid (below_step G11.out g12); have K5i := Lib.hid (K5h.out.below g12); have K6i := Lib.hid (K6h.out.below g12); clear g12 hq)
        | (go_at_call 19; (with_reducible refine (HE2.out _ _ _ _ _ _ _ K5i.out K6i.out).mono ?_); rintro e w13 ⟨q2, rfl, hq2, g13⟩; obtain rfl : q2 = q := Bool.eq_iff_iff.mpr (hq2.trans HQ.out.symm); have G13 := Lib.hid (below_step G12.out g13); have K5j := Lib.hid (K5i.out.below g13); have K6j := Lib.hid (K6i.out.below g13); clear g13 hq2)
        | (go_at_call 20; (with_reducible refine (HBP.out _ G13.out).mono ?_); rintro e w14 ⟨v8, rfl, k8, g14⟩; obtain ⟨a8, l8, c8, rfl⟩ := k8.slice; have G14 := Lib.hid (below_step G13.out g14); have K6k := Lib.hid (K6j.out.below g14); have K8 := Lib.hid k8; clear g14 k8)
        | (go_at_call 13; (with_reducible refine (HS1.out _ _ _ _ G14.out K8.out).mono ?_); rintro e w15 ⟨rfl, g15⟩; have G15 := Lib.hid (below_step G14.out g15); have K6l := Lib.hid (K6k.out.below g15); clear g15)
        | (go_at_call 13; (with_reducible refine (HS2.out _ _ _ _ G15.out K6l.out).mono ?_); rintro e w16 ⟨rfl, g16⟩; have G16 := Lib.hid (below_step G15.out g16); clear g16))
      go_ret
      exact ⟨rfl, G16.out⟩
    · clear hq
      go_wp2
      go_ret
      exact ⟨rfl, G3.out⟩
  · clear hq
    go_wp2
    go_ret
    exact ⟨rfl, G2.out⟩

end Go.Proofs.YtmgimkokmlcllaaGreatDoor
