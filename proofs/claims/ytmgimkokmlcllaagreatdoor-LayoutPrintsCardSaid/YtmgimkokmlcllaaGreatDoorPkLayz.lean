/-
  The document's answer, whether a tree is right: walked.
-/
import Derived.Test.YtmgimkokmlcllaaGreatDoorPkLayf
import Derived.Test.YtmgimkokmlcllaaGreatDoorPkLayg
import Derived.Test.YtmgimkokmlcllaaGreatDoorPkLayp
import Derived.Test.YtmgimkokmlcllaaGreatDoorPkTrej
import Derived.Test.YtmgimkokmlcllaaGreatDoorPkLaya
import Derived.Test.YtmgimkokmlcllaaGreatDoorPkLayx
import Derived.Test.YtmgimkokmlcllaaGreatDoorPkTrev
import Derived.Test.YtmgimkokmlcllaaGreatDoorPkScnM
import Derived.Test.YtmgimkokmlcllaaGreatDoorPkScnN
namespace Go.Proofs.YtmgimkokmlcllaaGreatDoor
open Go.RowKit

def EachI (x : It) : Prop := NameL (runesOf (nums x.name)) ∧ x.words.length ≤ 6 ∧ (x.block = true ∨ x.kids = []) ∧ EachR x.kids ∧ ∀ t ∈ x.words, WordR t
theorem each_at : ∀ (L : List It), EachR L ↔ ∀ i, i < L.length → EachI (L.getD i default)
  | [] => by simp [EachR]
  | .mk n w k kids a b :: l => by
    rw [EachR, each_at l]
    constructor
    · rintro ⟨h1, h2, h3, h4, h5, h6⟩ i hi
      cases i with
      | zero => exact ⟨h1, h2, h3, h5, h4⟩
      | succ i => exact h6 i (by simpa using hi)
    · intro h
      have h0 := h 0 (by simp)
      exact ⟨h0.1, h0.2.1, h0.2.2.1, h0.2.2.2.2, h0.2.2.2.1, fun i hi => h (i + 1) (by simpa using hi)⟩
def EachAt (D : Nat) : Prop := ∀ (S : Nat → Prop) (v : Value) (L : List It) (w : World), ItemsIs D w S v L → (∀ b, S b → b < w.heap.size) → cntL L ≤ 1000000 → LightL L → Calls Tryz.prog 27 #[v] w (GivesQ (EachR L) w)
set_option maxRecDepth 100000 in
set_option maxHeartbeats 16000000 in
theorem seach_any : ∀ D, EachAt D := by
  intro D
  induction D with
  | zero =>
    intro S v L w h hS hc hl
    obtain ⟨rfl, a, cap, rfl⟩ := h
    clear hS hc hl
    go_enter Tryz.func27, Tryz.ntmps27
    go_wp2
    go_loopw [3] (fun v3 wr => v3 = .int .i64 0 ∧ wr = w) (fun _ _ => 0)
    case atStart => exact ⟨rfl, rfl⟩
    case round =>
      obtain ⟨rfl, rfl⟩ := hrel
      go_wp2
      go_ret
      exact GivesQ.yes (by simp [EachR]) (Below.refl _ _)
  | succ D ih =>
    intro S v L w h hS hc hl
    obtain ⟨n, hn⟩ : ∃ n, L.length = n := ⟨_, rfl⟩
    obtain ⟨a1, c1, rfl⟩ := h.size
    have HH := Lib.hid h
    have HN := Lib.hid hn
    have HS := Lib.hid hS
    have HC := Lib.hid hc
    have HL := Lib.hid hl
    have HIH := Lib.hid ih
    have HEA := Lib.hid (each_at L)
    have hln : n ≤ 1000000 := by have := len_cnt L; omega
    rw [hn] at HEA ⊢
    clear h hn hS hc hl ih
    go_enter Tryz.func27, Tryz.ntmps27
    go_wp2
    go_loopw [3] (fun v3 wr => ∃ i : Nat, i ≤ n ∧ v3 = .int .i64 (i : Int) ∧ Below w.heap.size w wr ∧ ∀ j, j < i → EachI (L.getD j default)) (fun v3 _ => n - (intOf v3).toNat)
    case atStart => exact ⟨0, Nat.zero_le _, rfl, Below.refl _ _, fun j hj => by omega⟩
    case round =>
      obtain ⟨wo, rfl⟩ : ∃ x, x = wr := ⟨wr, rfl⟩
      obtain ⟨i, hi, rfl, hb, hall⟩ := hrel
      have HB := Lib.hid hb
      have HALL := Lib.hid hall
      clear hall
      by_cases hin : i < n
      · obtain ⟨d1, hd1, b1, o1, wv, kv, rfl, s1, e0, e1, e2, e3, e4, e5, hw, hk⟩ := HH.out.at i (by rw [HN.out]; exact hin)
        obtain rfl : D = d1 := by omega
        have hlt1 := HS.out b1 s1
        have f0 := (hb.cell (p := ⟨b1, o1 + i * 6, none⟩) hlt1).trans e0
        have f1 := (hb.cell (p := ⟨b1, o1 + i * 6 + 1, none⟩) hlt1).trans e1
        have f2 := (hb.cell (p := ⟨b1, o1 + i * 6 + 2, none⟩) hlt1).trans e2
        have f3 := (hb.cell (p := ⟨b1, o1 + i * 6 + 3, none⟩) hlt1).trans e3
        have f4 := (hb.cell (p := ⟨b1, o1 + i * 6 + 4, none⟩) hlt1).trans e4
        have f5 := (hb.cell (p := ⟨b1, o1 + i * 6 + 5, none⟩) hlt1).trans e5
        have hck := cntK_mono L (i := i + 1) (j := n) (by omega)
        rw [← HN.out, cntK_all, cntK] at hck
        have hcc := HC.out
        have hli := HL.out.at i (by rw [HN.out]; exact hin)
        have hi1 : IntKind.i64.wrap ((i : Int) + 1) = ((i + 1 : Nat) : Int) := by rw [IntKind.wrap_i64]; omega
        have HEK : Hid (∀ W, Below w.heap.size w W → Calls Tryz.prog 27 #[kv] W (GivesQ (EachR (L.getD i default).kids) W)) := Lib.hid (fun W hbW =>
          HIH.out S kv _ W (hk.belowS HS.out hbW) (fun b h => Nat.lt_of_lt_of_le (HS.out b h) hbW.size) (by omega) hli.2)
        have HWB : Hid (∀ W, Below w.heap.size w W → WordsIs W S wv (L.getD i default).words) := Lib.hid (fun W hbW => hw.below hbW)
        have HLI := Lib.hid hli.1
        obtain ⟨X, hp⟩ : ∃ p, L.getD i default = p := ⟨_, rfl⟩
        have HX := Lib.hid hp
        rw [hp] at f0 f2 f4 f5 HEK HWB HLI
        obtain ⟨nm, wd, bk, kd, pa, pb⟩ := X
        simp only [It.name, It.block, It.a, It.b, It.kids, It.words] at f0 f2 f4 f5 HEK HWB
        have HNA := Lib.hid (fun W => rname_any nm W (by have := HLI.out.1; simp only [It.name] at this; omega))
        obtain ⟨wa, wl, wc, hwv, hwl⟩ : ∃ a l c, wv = Value.slice a l c ∧ wd.length = l := by obtain ⟨a, c, h⟩ := (HWB.out w (Below.refl _ _)).size; exact ⟨_, _, _, h, rfl⟩
        obtain ⟨ka, kl, kc, hkv, hkl⟩ : ∃ a l c, kv = Value.slice a l c ∧ (L.getD i default).kids.length = l := by obtain ⟨a, c, h⟩ := hk.size; exact ⟨_, _, _, h, rfl⟩
        have hkll : kl ≤ 1000000 := by have := len_cnt (L.getD i default).kids; omega
        rw [hp] at hkl
        simp only [It.kids] at hkl
        subst hwv hkv
        obtain ⟨W2, W3, hW2, hW3, v2, v3, g3⟩ := fresh6 wo (.string nm) (.slice wa wl wc) (.bool bk) (.slice ka kl kc) (.int .i64 pa) (.int .i64 pb)
        have HB3 := Lib.hid (hb.trans (g3.mono hb.size))
        obtain ⟨q, hq⟩ : ∃ q, wo.heap.size = q := ⟨_, rfl⟩
        rw [hq] at v2 hW3 v3
        have HV3 := Lib.hid v3
        obtain ⟨y0, y1, y2, y3, y4, y5, yq, ys⟩ := v2
        obtain ⟨t0, t1, t2, t3, _, _, _, _⟩ := v3
        have z0 := yq 0
        have z1 := yq 1
        have z2 := yq 2
        have z3 := yq 3
        have z4 := yq 4
        have z5 := yq 5
        unfold put6 at hW3
        have HWLN := Lib.hid hwl
        have HKLN := Lib.hid hkl
        have HIN := Lib.hid hin
        have HNO : Hid (¬ EachI (.mk nm wd bk kd pa pb) → ¬ EachR L) := Lib.hid (fun h1 h2 => h1 (by have := HEA.out.mp h2 i HIN.out; rw [HX.out] at this; exact this))
        have hIE : EachI (.mk nm wd bk kd pa pb) ↔ NameL (runesOf (nums nm)) ∧ wd.length ≤ 6 ∧ (bk = true ∨ kd = []) ∧ EachR kd ∧ ∀ t ∈ wd, WordR t := Iff.rfl
        have HIE := Lib.hid hIE
        clear e0 e1 e2 e3 e4 e5 hlt1 hck hcc hli hw hk hp hwl hkl g3 yq ys hb hd1 s1 hIE
        by_cases hN : NameL (runesOf (nums nm))
        · have HNM := Lib.hid hN
          clear hN
          by_cases hw6 : wl ≤ 6
          · have hw6' : ¬ (6 : Int) < (wl : Int) := by omega
            by_cases hbk : bk = true ∨ kl = 0
            · have HBK : Hid (bk = true ∨ kd = []) := Lib.hid (hbk.imp id (fun e => List.eq_nil_of_length_eq_zero (by rw [HKLN.out]; exact e)))
              by_cases hek : EachR kd
              · have HEKD := Lib.hid hek
                clear hek
                have hbk2 : bk = true ∨ (bk = false ∧ kl = 0) := by
                  cases bk with
                  | true => exact Or.inl rfl
                  | false => right; exact ⟨rfl, by rcases hbk with h | h; cases h; exact h⟩
                clear hbk
                rcases hbk2 with rfl | ⟨rfl, rfl⟩
                · go_wp2_with (first
                    | (go_at_call 43; (with_reducible refine (HNA.out _).mono ?_); rintro e w5 ⟨q5, rfl, hq5, h5⟩; obtain rfl : q5 = true := hq5.mpr HNM.out; have G5 := Lib.hid (below_step HB3.out h5); have V5 := Lib.hid (HV3.out.after h5); have x1 := V5.out.c1; have x2 := V5.out.c2; have x3 := V5.out.c3; clear hq5 h5)
                    | (go_at_call 27; (with_reducible refine (HEK.out _ G5.out).mono ?_); rintro e w6 ⟨q6, rfl, hq6, h6⟩; obtain rfl : q6 = true := hq6.mpr HEKD.out; have G6 := Lib.hid (below_step G5.out h6); have V6 := Lib.hid (V5.out.after h6); have u1 := V6.out.c1; clear hq6 h6))
                  go_loopw [5] (fun v5 ww => ∃ k : Nat, k ≤ wl ∧ v5 = .int .i64 (k : Int) ∧ Below w.heap.size w ww ∧ Var6 ww q (.string nm) (.slice wa wl wc) (.bool true) (.slice ka kl kc) (.int .i64 pa) (.int .i64 pb) ∧ ∀ j, j < k → WordR (wd.getD j {})) (fun v5 _ => wl - (intOf v5).toNat)
                  case atStart => exact ⟨0, Nat.zero_le _, rfl, G6.out, V6.out, fun j hj => by omega⟩
                  case round =>
                  obtain ⟨k, hk, rfl, hbw, hV6, hkall⟩ := hrel
                  have HKA := Lib.hid hkall
                  have GW := Lib.hid hbw
                  have VW := Lib.hid hV6
                  obtain ⟨_, u1, _, _, _, _, _, _⟩ := hV6
                  clear hkall
                  by_cases hkn : k < wl
                  · obtain ⟨a', cap', he, hc, hcell⟩ := HWB.out _ hbw
                    injection he with q1 q2 q3
                    subst q1
                    obtain ⟨b2, o2, rfl, _, p0, p1, p2, p3, p4⟩ := hcell k (by rw [HWLN.out]; exact hkn)
                    have hk1 : IntKind.i64.wrap ((k : Int) + 1) = ((k + 1 : Nat) : Int) := by rw [IntKind.wrap_i64]; omega
                    have htm : wd.getD k {} ∈ wd := by rw [List.getD_eq_getElem?_getD, List.getElem?_eq_getElem (by rw [HWLN.out]; exact hkn)]; exact List.getElem_mem _
                    have HTM := Lib.hid htm
                    obtain ⟨t, ht⟩ : ∃ t, wd.getD k {} = t := ⟨_, rfl⟩
                    have HT := Lib.hid ht
                    rw [ht] at p0 p1 p2 p3 p4 HTM
                    have HTW : Hid (¬ WordR t → ¬ EachR L) := Lib.hid (fun h1 => HNO.out (fun h2 => h1 (h2.2.2.2.2 _ HTM.out)))
                    obtain ⟨tk, ts, tn, ta, tb⟩ := t
                    have HRT := Lib.hid (fun W => sright_any tk ts tn ta tb W (by have := (HLI.out.2.2 _ HTM.out).1; simp only at this; omega))
                    clear hcell hc q2 q3 ht htm hbw
                    simp only at p0 p1 p2 p3 p4
                    by_cases hlo : tk < 1
                    · have HF : Hid (¬ EachR L) := Lib.hid (HTW.out (fun h => by have := h.lo; simp only at this; omega))
                      go_wp2
                      go_ret
                      exact GivesQ.no HF.out GW.out
                    · by_cases hhi : 6 < tk
                      · have HF : Hid (¬ EachR L) := Lib.hid (HTW.out (fun h => by have := h.hi; simp only at this; omega))
                        go_wp2
                        go_ret
                        exact GivesQ.no HF.out GW.out
                      · by_cases hrt : RightT tk ts tn
                        · have HR := Lib.hid hrt
                          have HLO : Hid (1 ≤ tk ∧ tk ≤ 6) := Lib.hid ⟨by omega, by omega⟩
                          clear hrt
                          go_wp2_with (go_at_call 44; (with_reducible refine (HRT.out _).mono ?_); rintro e w7 ⟨q7, rfl, hq7, h7⟩; obtain rfl : q7 = true := hq7.mpr HR.out; have G7 := Lib.hid (below_step GW.out h7); have V7 := Lib.hid (VW.out.after h7); clear hq7 h7)
                          go_roundw
                          case rel => exact ⟨k + 1, by omega, by go_num, G7.out, V7.out, fun j hj => by
                            rcases Nat.lt_or_ge j k with hx | hx
                            · exact HKA.out j hx
                            · obtain rfl : j = k := by omega
                              rw [HT.out]; exact ⟨HLO.out.1, HLO.out.2, HR.out⟩⟩
                          case measure => simp [intOf]; omega
                        · have HR := Lib.hid hrt
                          have HF : Hid (¬ EachR L) := Lib.hid (HTW.out (fun h => hrt h.right))
                          clear hrt
                          go_wp2_with (go_at_call 44; (with_reducible refine (HRT.out _).mono ?_); rintro e w7 ⟨q7, rfl, hq7, h7⟩; obtain rfl : q7 = false := (by cases q7 with | false => rfl | true => exact (HR.out (hq7.mp rfl)).elim); have G7 := Lib.hid (below_step GW.out h7); clear hq7 h7)
                          go_ret
                          exact GivesQ.no HF.out G7.out
                  · have en : wl = k := by omega
                    subst en
                    have HTX : Hid (EachI (.mk nm wd true kd pa pb)) := Lib.hid ⟨HNM.out, (by show wd.length ≤ 6; rw [HWLN.out]; exact hw6), (by first | exact Or.inl rfl | exact Or.inr (List.eq_nil_of_length_eq_zero HKLN.out)), HEKD.out, fun t ht => by
                      have ht : t ∈ wd := ht
                      obtain ⟨j, hj, rfl⟩ := List.getElem_of_mem ht
                      have := HKA.out j (by rw [← HWLN.out]; exact hj)
                      rw [List.getD_eq_getElem?_getD, List.getElem?_eq_getElem hj] at this
                      exact this⟩
                    go_wp2
                    go_roundw
                    case rel => exact ⟨i + 1, by omega, by go_num, GW.out, fun j hj => by
                      rcases Nat.lt_or_ge j i with hx | hx
                      · exact HALL.out j hx
                      · obtain rfl : j = i := by omega
                        rw [HX.out]; exact HTX.out⟩
                    case measure => simp [intOf]; omega

                · go_wp2_with (first
                    | (go_at_call 43; (with_reducible refine (HNA.out _).mono ?_); rintro e w5 ⟨q5, rfl, hq5, h5⟩; obtain rfl : q5 = true := hq5.mpr HNM.out; have G5 := Lib.hid (below_step HB3.out h5); have V5 := Lib.hid (HV3.out.after h5); have x1 := V5.out.c1; have x2 := V5.out.c2; have x3 := V5.out.c3; clear hq5 h5)
                    | (go_at_call 27; (with_reducible refine (HEK.out _ G5.out).mono ?_); rintro e w6 ⟨q6, rfl, hq6, h6⟩; obtain rfl : q6 = true := hq6.mpr HEKD.out; have G6 := Lib.hid (below_step G5.out h6); have V6 := Lib.hid (V5.out.after h6); have u1 := V6.out.c1; clear hq6 h6))
                  go_loopw [5] (fun v5 ww => ∃ k : Nat, k ≤ wl ∧ v5 = .int .i64 (k : Int) ∧ Below w.heap.size w ww ∧ Var6 ww q (.string nm) (.slice wa wl wc) (.bool false) (.slice ka 0 kc) (.int .i64 pa) (.int .i64 pb) ∧ ∀ j, j < k → WordR (wd.getD j {})) (fun v5 _ => wl - (intOf v5).toNat)
                  case atStart => exact ⟨0, Nat.zero_le _, rfl, G6.out, V6.out, fun j hj => by omega⟩
                  case round =>
                  obtain ⟨k, hk, rfl, hbw, hV6, hkall⟩ := hrel
                  have HKA := Lib.hid hkall
                  have GW := Lib.hid hbw
                  have VW := Lib.hid hV6
                  obtain ⟨_, u1, _, _, _, _, _, _⟩ := hV6
                  clear hkall
                  by_cases hkn : k < wl
                  · obtain ⟨a', cap', he, hc, hcell⟩ := HWB.out _ hbw
                    injection he with q1 q2 q3
                    subst q1
                    obtain ⟨b2, o2, rfl, _, p0, p1, p2, p3, p4⟩ := hcell k (by rw [HWLN.out]; exact hkn)
                    have hk1 : IntKind.i64.wrap ((k : Int) + 1) = ((k + 1 : Nat) : Int) := by rw [IntKind.wrap_i64]; omega
                    have htm : wd.getD k {} ∈ wd := by rw [List.getD_eq_getElem?_getD, List.getElem?_eq_getElem (by rw [HWLN.out]; exact hkn)]; exact List.getElem_mem _
                    have HTM := Lib.hid htm
                    obtain ⟨t, ht⟩ : ∃ t, wd.getD k {} = t := ⟨_, rfl⟩
                    have HT := Lib.hid ht
                    rw [ht] at p0 p1 p2 p3 p4 HTM
                    have HTW : Hid (¬ WordR t → ¬ EachR L) := Lib.hid (fun h1 => HNO.out (fun h2 => h1 (h2.2.2.2.2 _ HTM.out)))
                    obtain ⟨tk, ts, tn, ta, tb⟩ := t
                    have HRT := Lib.hid (fun W => sright_any tk ts tn ta tb W (by have := (HLI.out.2.2 _ HTM.out).1; simp only at this; omega))
                    clear hcell hc q2 q3 ht htm hbw
                    simp only at p0 p1 p2 p3 p4
                    by_cases hlo : tk < 1
                    · have HF : Hid (¬ EachR L) := Lib.hid (HTW.out (fun h => by have := h.lo; simp only at this; omega))
                      go_wp2
                      go_ret
                      exact GivesQ.no HF.out GW.out
                    · by_cases hhi : 6 < tk
                      · have HF : Hid (¬ EachR L) := Lib.hid (HTW.out (fun h => by have := h.hi; simp only at this; omega))
                        go_wp2
                        go_ret
                        exact GivesQ.no HF.out GW.out
                      · by_cases hrt : RightT tk ts tn
                        · have HR := Lib.hid hrt
                          have HLO : Hid (1 ≤ tk ∧ tk ≤ 6) := Lib.hid ⟨by omega, by omega⟩
                          clear hrt
                          go_wp2_with (go_at_call 44; (with_reducible refine (HRT.out _).mono ?_); rintro e w7 ⟨q7, rfl, hq7, h7⟩; obtain rfl : q7 = true := hq7.mpr HR.out; have G7 := Lib.hid (below_step GW.out h7); have V7 := Lib.hid (VW.out.after h7); clear hq7 h7)
                          go_roundw
                          case rel => exact ⟨k + 1, by omega, by go_num, G7.out, V7.out, fun j hj => by
                            rcases Nat.lt_or_ge j k with hx | hx
                            · exact HKA.out j hx
                            · obtain rfl : j = k := by omega
                              rw [HT.out]; exact ⟨HLO.out.1, HLO.out.2, HR.out⟩⟩
                          case measure => simp [intOf]; omega
                        · have HR := Lib.hid hrt
                          have HF : Hid (¬ EachR L) := Lib.hid (HTW.out (fun h => hrt h.right))
                          clear hrt
                          go_wp2_with (go_at_call 44; (with_reducible refine (HRT.out _).mono ?_); rintro e w7 ⟨q7, rfl, hq7, h7⟩; obtain rfl : q7 = false := (by cases q7 with | false => rfl | true => exact (HR.out (hq7.mp rfl)).elim); have G7 := Lib.hid (below_step GW.out h7); clear hq7 h7)
                          go_ret
                          exact GivesQ.no HF.out G7.out
                  · have en : wl = k := by omega
                    subst en
                    have HTX : Hid (EachI (.mk nm wd false kd pa pb)) := Lib.hid ⟨HNM.out, (by show wd.length ≤ 6; rw [HWLN.out]; exact hw6), (by first | exact Or.inl rfl | exact Or.inr (List.eq_nil_of_length_eq_zero HKLN.out)), HEKD.out, fun t ht => by
                      have ht : t ∈ wd := ht
                      obtain ⟨j, hj, rfl⟩ := List.getElem_of_mem ht
                      have := HKA.out j (by rw [← HWLN.out]; exact hj)
                      rw [List.getD_eq_getElem?_getD, List.getElem?_eq_getElem hj] at this
                      exact this⟩
                    go_wp2
                    go_roundw
                    case rel => exact ⟨i + 1, by omega, by go_num, GW.out, fun j hj => by
                      rcases Nat.lt_or_ge j i with hx | hx
                      · exact HALL.out j hx
                      · obtain rfl : j = i := by omega
                        rw [HX.out]; exact HTX.out⟩
                    case measure => simp [intOf]; omega

              · have HEKD := Lib.hid hek
                have HF : Hid (¬ EachR L) := Lib.hid (HNO.out (fun h => hek h.2.2.2.1))
                clear hek
                have hbk2 : bk = true ∨ (bk = false ∧ kl = 0) := by
                  cases bk with
                  | true => exact Or.inl rfl
                  | false => right; exact ⟨rfl, by rcases hbk with h | h; cases h; exact h⟩
                clear hbk
                rcases hbk2 with rfl | ⟨rfl, rfl⟩
                · go_wp2_with (first
                    | (go_at_call 43; (with_reducible refine (HNA.out _).mono ?_); rintro e w5 ⟨q5, rfl, hq5, h5⟩; obtain rfl : q5 = true := hq5.mpr HNM.out; have G5 := Lib.hid (below_step HB3.out h5); have V5 := Lib.hid (HV3.out.after h5); have x1 := V5.out.c1; have x2 := V5.out.c2; have x3 := V5.out.c3; clear hq5 h5)
                    | (go_at_call 27; (with_reducible refine (HEK.out _ G5.out).mono ?_); rintro e w6 ⟨q6, rfl, hq6, h6⟩; obtain rfl : q6 = false := (by cases q6 with | false => rfl | true => exact (HEKD.out (hq6.mp rfl)).elim); have G6 := Lib.hid (below_step G5.out h6); clear hq6 h6))
                  go_ret
                  exact GivesQ.no HF.out G6.out
                · go_wp2_with (first
                    | (go_at_call 43; (with_reducible refine (HNA.out _).mono ?_); rintro e w5 ⟨q5, rfl, hq5, h5⟩; obtain rfl : q5 = true := hq5.mpr HNM.out; have G5 := Lib.hid (below_step HB3.out h5); have V5 := Lib.hid (HV3.out.after h5); have x1 := V5.out.c1; have x2 := V5.out.c2; have x3 := V5.out.c3; clear hq5 h5)
                    | (go_at_call 27; (with_reducible refine (HEK.out _ G5.out).mono ?_); rintro e w6 ⟨q6, rfl, hq6, h6⟩; obtain rfl : q6 = false := (by cases q6 with | false => rfl | true => exact (HEKD.out (hq6.mp rfl)).elim); have G6 := Lib.hid (below_step G5.out h6); clear hq6 h6))
                  go_ret
                  exact GivesQ.no HF.out G6.out
            · obtain ⟨rfl, hk0⟩ : bk = false ∧ (0 : Int) < (kl : Int) := by
                constructor
                · cases bk with
                  | true => exact (hbk (Or.inl rfl)).elim
                  | false => rfl
                · have : kl ≠ 0 := fun e => hbk (Or.inr e)
                  omega
              have HF : Hid (¬ EachR L) := Lib.hid (HNO.out (fun h => by
                rcases h.2.2.1 with h | h
                · exact hbk (Or.inl h)
                · have h : kd = [] := h
                  exact hbk (Or.inr (by rw [← HKLN.out, h]; rfl))))
              clear hbk
              go_wp2_with (go_at_call 43; (with_reducible refine (HNA.out _).mono ?_); rintro e w5 ⟨q5, rfl, hq5, h5⟩; obtain rfl : q5 = true := hq5.mpr HNM.out; have G5 := Lib.hid (below_step HB3.out h5); have V5 := Lib.hid (HV3.out.after h5); have x1 := V5.out.c1; have x2 := V5.out.c2; have x3 := V5.out.c3; clear hq5 h5)
              go_ret
              exact GivesQ.no HF.out G5.out
          · have hw6' : (6 : Int) < (wl : Int) := by omega
            have HF : Hid (¬ EachR L) := Lib.hid (HNO.out (fun h => hw6 (by rw [← HWLN.out]; exact h.2.1)))
            go_wp2_with (go_at_call 43; (with_reducible refine (HNA.out _).mono ?_); rintro e w5 ⟨q5, rfl, hq5, h5⟩; obtain rfl : q5 = true := hq5.mpr HNM.out; have G5 := Lib.hid (below_step HB3.out h5); have V5 := Lib.hid (HV3.out.after h5); have x1 := V5.out.c1; have x2 := V5.out.c2; have x3 := V5.out.c3; clear hq5 h5)
            go_ret
            exact GivesQ.no HF.out G5.out
        · have HNM := Lib.hid hN
          have HF : Hid (¬ EachR L) := Lib.hid (HNO.out (fun h => hN h.1))
          clear hN
          go_wp2_with (go_at_call 43; (with_reducible refine (HNA.out _).mono ?_); rintro e w5 ⟨q5, rfl, hq5, h5⟩; obtain rfl : q5 = false := (by cases q5 with | false => rfl | true => exact (HNM.out (hq5.mp rfl)).elim); have G5 := Lib.hid (below_step HB3.out h5); clear hq5 h5)
          go_ret
          exact GivesQ.no HF.out G5.out
      · have en : n = i := by omega
        subst en
        clear hb
        go_wp2
        go_ret
        exact GivesQ.yes (HEA.out.mpr HALL.out) HB.out

end Go.Proofs.YtmgimkokmlcllaaGreatDoor

/-
  The document's Right, of trees: walked.
-/
namespace Go.Proofs.YtmgimkokmlcllaaGreatDoor
open Go.RowKit

set_option maxRecDepth 100000 in
set_option maxHeartbeats 8000000 in
theorem stright_any (D : Nat) (S : Nat → Prop) (v : Value) (L : List It) (w : World) (h : ItemsIs D w S v L) (hS : ∀ b, S b → b < w.heap.size) (hc : cntL L ≤ 1000000) (hd : depL L ≤ 1000000) (hl : LightL L) :
    Calls Tryz.prog 10 #[v] w (GivesQ (RightL L) w) := by
  have HIT : Hid (∀ W, Below w.heap.size w W → ItemsIs D W S v L) := Lib.hid (fun W hW => h.belowS hS hW)
  have HIN : Hid (∀ W, Below w.heap.size w W → ∀ b, S b → b < W.heap.size) := Lib.hid (fun W hW b hb => Nat.lt_of_lt_of_le (hS b hb) hW.size)
  have HDR : Hid (∀ W, Below w.heap.size w W → Calls Tryz.prog 18 #[v] W fun e w' => e = .returned (.int .i64 (depL L : Int)) ∧ Below W.heap.size W w') := Lib.hid (fun W hW => sdepth_any D _ _ L W (HIT.out W hW) (HIN.out W hW) (by have := len_cnt L; omega) (by omega) (by omega))
  have HCR : Hid (∀ W, Below w.heap.size w W → Calls Tryz.prog 16 #[v] W fun e w' => e = .returned (.int .i64 (cntL L : Int)) ∧ Below W.heap.size W w') := Lib.hid (fun W hW => scount_any D _ _ L W (HIT.out W hW) (HIN.out W hW) (by omega))
  have HER : Hid (∀ W, Below w.heap.size w W → Calls Tryz.prog 27 #[v] W (GivesQ (EachR L) W)) := Lib.hid (fun W hW => seach_any D _ _ L W (HIT.out W hW) (HIN.out W hW) hc hl)
  have HNO : Hid (∀ (A : Prop), (RightL L → A) → ¬ A → ¬ RightL L) := Lib.hid (fun A h1 h2 h3 => h2 (h1 h3))
  have HD : Hid (RightL L → depL L ≤ 4) := Lib.hid (fun h => h.deep)
  have HC : Hid (RightL L → cntL L ≤ 300) := Lib.hid (fun h => h.many)
  have HE : Hid (RightL L → EachR L) := Lib.hid (fun h => h.each)
  have HY : Hid (depL L ≤ 4 → cntL L ≤ 300 → EachR L → RightL L) := Lib.hid (fun a b c => ⟨a, b, c⟩)
  obtain ⟨a, cap, hv⟩ := h.size
  obtain ⟨n, hn⟩ : ∃ n, L.length = n := ⟨_, rfl⟩
  rw [hn] at hv
  subst hv
  obtain ⟨dp, hdp⟩ : ∃ d, depL L = d := ⟨_, rfl⟩
  obtain ⟨ct, hct⟩ : ∃ d, cntL L = d := ⟨_, rfl⟩
  rw [hdp] at HDR HD HY
  rw [hct] at HCR HC HY
  clear h hS hc hd hl hn hdp hct
  by_cases hd4 : dp ≤ 4
  · have hd4' : (dp : Int) ≤ 4 := by omega
    by_cases hc3 : ct ≤ 300
    · have hc3' : (ct : Int) ≤ 300 := by omega
      go_enter Tryz.func10, Tryz.ntmps10
      go_wp2_with (first
        | (go_at_call 18; (with_reducible refine (HDR.out _ (Below.refl _ _)).mono ?_); rintro e w2 ⟨rfl, g2⟩; have G2 := Lib.hid g2; clear g2)
        | (go_at_call 16; (with_reducible refine (HCR.out _ G2.out).mono ?_); rintro e w3 ⟨rfl, g3⟩; have G3 := Lib.hid (below_step G2.out g3); clear g3)
        | (go_at_call 27; (with_reducible refine (HER.out _ G3.out).mono ?_); rintro e w4 ⟨q, rfl, hq, g4⟩; have HQ := Lib.hid hq; have G4 := Lib.hid (below_step G3.out g4); clear g4 hq))
      go_ret
      exact ⟨q, rfl, ⟨fun e => HY.out hd4 hc3 (HQ.out.mp e), fun e => HQ.out.mpr (HE.out e)⟩, G4.out⟩
    · have hc3' : ¬ (ct : Int) ≤ 300 := by omega
      have HF : Hid (¬ RightL L) := Lib.hid (fun h => hc3 (HC.out h))
      go_enter Tryz.func10, Tryz.ntmps10
      go_wp2_with (first
        | (go_at_call 18; (with_reducible refine (HDR.out _ (Below.refl _ _)).mono ?_); rintro e w2 ⟨rfl, g2⟩; have G2 := Lib.hid g2; clear g2)
        | (go_at_call 16; (with_reducible refine (HCR.out _ G2.out).mono ?_); rintro e w3 ⟨rfl, g3⟩; have G3 := Lib.hid (below_step G2.out g3); clear g3))
      go_ret
      exact GivesQ.no HF.out G3.out
  · have hd4' : ¬ (dp : Int) ≤ 4 := by omega
    have HF : Hid (¬ RightL L) := Lib.hid (fun h => hd4 (HD.out h))
    go_enter Tryz.func10, Tryz.ntmps10
    go_wp2_with (go_at_call 18; (with_reducible refine (HDR.out _ (Below.refl _ _)).mono ?_); rintro e w2 ⟨rfl, g2⟩; have G2 := Lib.hid g2; clear g2)
    go_ret
    exact GivesQ.no HF.out G2.out

end Go.Proofs.YtmgimkokmlcllaaGreatDoor

/-
  The document's print of a tree: walked.
-/
namespace Go.Proofs.YtmgimkokmlcllaaGreatDoor
open Go.RowKit

theorem numsApp (a b : ByteArray) : nums (a ++ b) = nums a ++ nums b := by
  unfold nums
  rw [ByteArray.data_append, Array.toList_append, List.map_append]
theorem wordsP_app (a b : List Tk3) : wordsP (a ++ b) = wordsP a ++ wordsP b := by unfold wordsP; rw [List.flatMap_append]
theorem wordsP_next {wd : List Tk3} {k : Nat} (h : k < wd.length) : wordsP (wd.take (k + 1)) = wordsP (wd.take k) ++ (32 :: prT (wd.getD k {}).k (wd.getD k {}).s (wd.getD k {}).n.toNat) := by
  have e : wd.take (k + 1) = wd.take k ++ [wd.getD k {}] := by
    rw [List.getD_eq_getElem?_getD, List.getElem?_eq_getElem h, Option.getD_some, List.take_append_getElem]
  rw [e, wordsP_app]
  simp [wordsP]
theorem wordsP_take (wd : List Tk3) (k : Nat) : (wordsP (wd.take k)).length ≤ (wordsP wd).length := by
  have e : wordsP wd = wordsP (wd.take k) ++ wordsP (wd.drop k) := by rw [← wordsP_app, List.take_append_drop]
  have := congrArg List.length e
  rw [List.length_append] at this
  omega
theorem prtL_take (d : Nat) (L : List It) (i : Nat) : (prtL d (L.take i)).length ≤ (prtL d L).length := by
  have e : prtL d L = prtL d (L.take i) ++ prtL d (L.drop i) := by rw [← prtL_app, List.take_append_drop]
  have := congrArg List.length e
  rw [List.length_append] at this
  omega
theorem prtL_next {L : List It} {i : Nat} (d : Nat) (h : i < L.length) : prtL d (L.take (i + 1)) = prtL d (L.take i) ++ prtL d [L.getD i default] := by
  rw [tk_take h, prtL_app]
theorem prt_short : ∀ (L : List It) (d : Nat), EachR L → LightL L → d + depL L ≤ 50 → (prtL d L).length ≤ 20000 * cntL L
  | [], d, _, _, _ => by simp [prtL]
  | .mk n w k kids a b :: l, d, h, hl, hd => by
    rw [EachR] at h
    rw [LightL] at hl
    rw [depL] at hd
    obtain ⟨h1, h2, h3, h4, h5, h6⟩ := h
    have i1 := prt_short kids (d + 1) h5 hl.2.1 (by omega)
    have i2 := prt_short l d h6 hl.2.2 (by omega)
    have h7 := words_short w h4 hl.1.2.2
    have h8 : n.size ≤ 2000 := hl.1.1
    rw [prtL, cntL]
    simp only [List.length_append, indP, List.length_replicate, nums_length]
    cases k with
    | true => simp only [if_true, List.length_append, List.length_cons, List.length_nil, List.length_replicate]; omega
    | false => simp only [Bool.false_eq_true, if_false, List.length_cons, List.length_nil]; omega
theorem ind_next {d : Nat} (h : 1 ≤ d) : indP (d + 1) = indP d ++ [32, 32] := by
  unfold indP
  have e : 2 * (d + 1 - 1) = 2 * (d - 1) + 2 := by omega
  rw [e, ← List.replicate_append_replicate]
  rfl
theorem swordp_any (t : Tk3) (w : World) (hr : WordR t) (hn : 0 ≤ t.n ∧ t.n ≤ 18446744073709551615) (hs : t.s.size ≤ 2000) :
    Calls Tryz.prog 28 #[.agg #[.int .i64 t.k, .string t.s, .int .u64 t.n, .int .i64 t.a, .int .i64 t.b]] w fun e w' => e = .returned (.string (strOfNums (prT t.k t.s t.n.toNat))) ∧ Below w.heap.size w w' := by
  obtain ⟨k, s, n, a, b⟩ := t
  obtain ⟨N, rfl⟩ : ∃ N : Nat, n = (N : Int) := ⟨n.toNat, by have := hn.1; simp only at this; omega⟩
  have hr2 : RightT k s (N : Int) := hr.right
  have e : ((N : Int)).toNat = N := by omega
  simp only [e]
  have hN : N ≤ 18446744073709551615 := by have := hn.2; simp only at this; omega
  by_cases h4 : k = 4
  · subst h4
    obtain rfl : s = ⟨#[]⟩ := by
      rcases hr2 with ⟨h, _⟩ | ⟨h, _⟩ | ⟨_, h⟩ | ⟨h, _⟩ | ⟨h, _⟩ | ⟨h, _⟩
      all_goals first | exact h | omega
    have e2 : prT 4 ⟨#[]⟩ N = facP N := by unfold prT; rw [if_neg (by decide), if_neg (by decide), if_neg (by decide), if_pos rfl]
    rw [e2]
    exact sprint_fac N a b w hN hr2
  · exact sprint_most k s N a b w (by simp only at hs; omega) hN h4 hr2
theorem numsR_at : ∀ {L : List It} (_ : NumsR L) (i : Nat), i < L.length → (∀ t ∈ (L.getD i default).words, 0 ≤ t.n ∧ t.n ≤ 18446744073709551615) ∧ NumsR (L.getD i default).kids
  | [], _, i, hi => by cases hi
  | .mk n w k kids a b :: L, h, i, hi => by
    rw [NumsR] at h
    cases i with
    | zero => exact ⟨h.1, h.2.1⟩
    | succ i => exact numsR_at h.2.2 i (by simpa using hi)
def SPrAt (D : Nat) : Prop := ∀ (S : Nat → Prop) (v : Value) (L : List It) (w : World) (d : Nat) (t0 : ByteArray), ItemsIs D w S v L → (∀ b, S b → b < w.heap.size) → EachR L → NumsR L → LightL L → cntL L ≤ 300 → 1 ≤ d → d + depL L ≤ 50 → nums t0 = indP d →
  Calls Tryz.prog 11 #[v, .string t0] w fun e w' => ∃ t, e = .returned (.string t) ∧ nums t = prtL d L ∧ Below w.heap.size w w'

set_option maxRecDepth 100000 in
set_option maxHeartbeats 16000000 in
theorem sprint_tree : ∀ D, SPrAt D := by
  intro D
  induction D with
  | zero =>
    intro S v L w d t0 h hS hE hN hl hc hd hdd ht0
    obtain ⟨rfl, a, cap, rfl⟩ := h
    clear hS hE hN hl hc hdd ht0
    go_enter Tryz.func11, Tryz.ntmps11
    go_wp2
    go_loopw [5, 6] (fun v5 v6 wr => v5 = .string ⟨#[]⟩ ∧ v6 = .int .i64 0 ∧ wr = w) (fun _ _ _ => 0)
    case atStart => exact ⟨rfl, rfl, rfl⟩
    case round =>
      obtain ⟨rfl, rfl, rfl⟩ := hrel
      go_wp2
      go_ret
      exact ⟨_, rfl, by simp [prtL]; rfl, Below.refl _ _⟩
  | succ D ih =>
    intro S v L w d t0 h hS hE hN hl hc hd hdd ht0
    obtain ⟨n, hn⟩ : ∃ n, L.length = n := ⟨_, rfl⟩
    obtain ⟨a1, c1, rfl⟩ := h.size
    have HPL : Hid ((prtL d L).length ≤ 6000000) := Lib.hid (by have := prt_short L d hE hl hdd; omega)
    have ht0s : t0.size ≤ 100 := by
      have := congrArg List.length ht0
      rw [nums_length] at this
      unfold indP at this
      rw [List.length_replicate] at this
      omega
    have hsp : nums (t0 ++ ⟨#[32, 32]⟩) = indP (d + 1) := by rw [numsApp, ht0, ind_next hd]; rfl
    have HH := Lib.hid h
    have HN := Lib.hid hn
    have HS := Lib.hid hS
    have HEA := Lib.hid ((each_at L).mp hE)
    have HNR := Lib.hid hN
    have HL := Lib.hid hl
    have HC := Lib.hid hc
    have HDD := Lib.hid hdd
    have HIH := Lib.hid ih
    have HT0 := Lib.hid ht0
    have HSP := Lib.hid hsp
    have hln : n ≤ 300 := by have := len_cnt L; omega
    rw [hn]
    clear h hn hS hE hN hl hc hdd ih ht0 hsp
    go_enter Tryz.func11, Tryz.ntmps11
    go_wp2
    go_loopw [5, 6] (fun v5 v6 wr => ∃ (i : Nat) (t : ByteArray), i ≤ n ∧ v6 = .int .i64 (i : Int) ∧ v5 = .string t ∧ nums t = prtL d (L.take i) ∧ Below w.heap.size w wr) (fun _ v6 _ => n - (intOf v6).toNat)
    case atStart => exact ⟨0, ⟨#[]⟩, Nat.zero_le _, rfl, rfl, by simp [prtL]; rfl, Below.refl _ _⟩
    case round =>
      obtain ⟨wo, rfl⟩ : ∃ x, x = wr := ⟨wr, rfl⟩
      obtain ⟨i, t, hi, rfl, rfl, ht, hb⟩ := hrel
      have HB := Lib.hid hb
      have HT := Lib.hid ht
      by_cases hin : i < n
      · have hiL : i < L.length := by rw [HN.out]; exact hin
        obtain ⟨d1, hd1, b1, o1, wv, kv, rfl, s1, e0, e1, e2, e3, _, _, hw, hk⟩ := HH.out.at i hiL
        obtain rfl : D = d1 := by omega
        have hlt1 := HS.out b1 s1
        have hts : t.size ≤ 6000000 := by
          have h1 := congrArg List.length ht
          rw [nums_length] at h1
          have := prtL_take d L i
          have := HPL.out
          omega
        have hck := cntK_mono L (i := i + 1) (j := n) (by omega)
        rw [← HN.out, cntK_all, cntK] at hck
        have hdk := depK_mono L (i := i + 1) (j := n) (by omega)
        rw [← HN.out, depK_all, depK] at hdk
        have hcc := HC.out
        have hdd := HDD.out
        have hea := HEA.out i hiL
        have hli := HL.out.at i hiL
        have hnr := numsR_at HNR.out i hiL
        have hi1 : IntKind.i64.wrap ((i : Int) + 1) = ((i + 1 : Nat) : Int) := by rw [IntKind.wrap_i64]; omega
        have hnext := prtL_next d hiL
        obtain ⟨X, hp⟩ : ∃ p, L.getD i default = p := ⟨_, rfl⟩
        rw [hp] at e0 e2 hw hk hea hli hnr hnext hck hdk
        obtain ⟨nm, wd, bk, kd, pa, pb⟩ := X
        simp only [It.name, It.block, It.kids, It.words] at e0 e2 hw hk hnr hck hdk hli
        obtain ⟨ea1, ea2, ea3, ea4, ea5⟩ := hea
        simp only [It.name, It.block, It.kids, It.words] at ea1 ea2 ea3 ea4 ea5
        obtain ⟨⟨li1, li2, li3⟩, li4⟩ := hli
        simp only [It.name, It.words] at li1 li2 li3
        have HKP : Hid (∀ W, Below w.heap.size w W → Calls Tryz.prog 11 #[kv, .string (t0 ++ ⟨#[32, 32]⟩)] W fun e w' => ∃ r, e = .returned (.string r) ∧ nums r = prtL (d + 1) kd ∧ r.size ≤ 6000000 ∧ Below W.heap.size W w') := Lib.hid (fun W hbW =>
          (HIH.out S kv kd W (d + 1) _ (hk.belowS HS.out hbW) (fun b h => Nat.lt_of_lt_of_le (HS.out b h) hbW.size) ea4 hnr.2 li4 (by omega) (by omega) (by omega) HSP.out).mono (by
            rintro e w' ⟨r, rfl, hr, hb⟩
            refine ⟨r, rfl, hr, ?_, hb⟩
            have h1 := congrArg List.length hr
            rw [nums_length] at h1
            have := prt_short kd (d + 1) ea4 li4 (by omega)
            omega))
        have HWB : Hid (∀ W, Below w.heap.size w W → WordsIs W S wv wd) := Lib.hid (fun W hbW => hw.below hbW)
        have HWP : Hid (∀ x ∈ wd, ∀ W, Calls Tryz.prog 28 #[.agg #[.int .i64 x.k, .string x.s, .int .u64 x.n, .int .i64 x.a, .int .i64 x.b]] W fun e w' => e = .returned (.string (strOfNums (prT x.k x.s x.n.toNat))) ∧ nums (strOfNums (prT x.k x.s x.n.toNat)) = prT x.k x.s x.n.toNat ∧ Below W.heap.size W w') := Lib.hid (fun x hx W =>
          (swordp_any x W (ea5 x hx) (hnr.1 x hx) (li3 x hx).1).mono (by
            rintro e w' ⟨rfl, hb⟩
            exact ⟨rfl, nums_strOfNums _ (print_byte (by rw [nat_n (hnr.1 x hx).1]; exact (ea5 x hx).right)), hb⟩))
        have HWS : Hid (∀ k, (wordsP (wd.take k)).length ≤ 14000) := Lib.hid (fun k => by
          have h1 := words_short wd ea5 li3
          have h2 := wordsP_take wd k
          omega)
        have HX : Hid (∀ W, Below w.heap.size w W → W.cell? ⟨b1, o1 + i * 6, none⟩ = some (.string nm) ∧ W.cell? ⟨b1, o1 + i * 6 + 1, none⟩ = some wv ∧ W.cell? ⟨b1, o1 + i * 6 + 2, none⟩ = some (.bool bk) ∧ W.cell? ⟨b1, o1 + i * 6 + 3, none⟩ = some kv) := Lib.hid (fun W hbW =>
          ⟨(hbW.cell (p := ⟨b1, o1 + i * 6, none⟩) hlt1).trans e0, (hbW.cell (p := ⟨b1, o1 + i * 6 + 1, none⟩) hlt1).trans e1, (hbW.cell (p := ⟨b1, o1 + i * 6 + 2, none⟩) hlt1).trans e2, (hbW.cell (p := ⟨b1, o1 + i * 6 + 3, none⟩) hlt1).trans e3⟩)
        have HNEXT := Lib.hid hnext
        obtain ⟨wa, wl, wc, hwv, hwl⟩ : ∃ a l c, wv = Value.slice a l c ∧ wd.length = l := by obtain ⟨a, c, h⟩ := hw.size; exact ⟨_, _, _, h, rfl⟩
        obtain ⟨ka, kl, kc, hkv⟩ : ∃ a l c, kv = Value.slice a l c := by obtain ⟨a, c, h⟩ := hk.size; exact ⟨_, _, _, h⟩
        subst hwv hkv
        have HWLN := Lib.hid hwl
        have hwl6 : wl ≤ 6 := by omega
        have n1 : ¬ 9223372036854775807 < t.size + t0.size := by omega
        have n2 : ¬ 9223372036854775807 < t.size + t0.size + nm.size := by omega
        have n3 : ¬ 9223372036854775807 < t0.size + 2 := by omega
        obtain ⟨x0, x1, x2, x3⟩ := HX.out wo hb
        have HNS : Hid (nm.size ≤ 2000) := Lib.hid li1
        have HTS : Hid (t.size ≤ 6000000) := Lib.hid hts
        have HT0S : Hid (t0.size ≤ 100) := Lib.hid ht0s
        clear e0 e1 e2 e3 hlt1 hw hk hp hb hck hdk hcc hdd ea1 ea2 ea3 ea4 ea5 li1 li2 li3 li4 hnr hnext hiL s1 hd1 hwl ht hts x2 x3
        go_wp2
        go_loopw [5, 7] (fun v5 v7 ww => ∃ (k : Nat) (y : ByteArray), k ≤ wl ∧ v7 = .int .i64 (k : Int) ∧ v5 = .string y ∧ nums y = prtL d (L.take i) ++ (indP d ++ nums nm) ++ wordsP (wd.take k) ∧ Below w.heap.size w ww) (fun _ v7 _ => wl - (intOf v7).toNat)
        case atStart => exact ⟨0, _, Nat.zero_le _, rfl, rfl, by rw [numsApp, numsApp, HT.out, HT0.out]; simp [wordsP], HB.out⟩
        case round =>
          obtain ⟨wi, rfl⟩ : ∃ x, x = wr := ⟨wr, rfl⟩
          obtain ⟨k, y, hk, rfl, rfl, hy, hbw⟩ := hrel
          have HY := Lib.hid hy
          have GW := Lib.hid hbw
          have hys : y.size ≤ 6100000 := by
            have h1 := congrArg List.length hy
            rw [nums_length] at h1
            simp only [List.length_append, nums_length] at h1
            have h2 := congrArg List.length HT0.out
            rw [nums_length] at h2
            have h3 := congrArg List.length HT.out
            rw [nums_length] at h3
            have := HWS.out k
            have := HNS.out
            have := HTS.out
            omega
          obtain ⟨x0, x1, x2, x3⟩ := HX.out wi hbw
          by_cases hkn : k < wl
          · have hkL : k < wd.length := by rw [HWLN.out]; exact hkn
            obtain ⟨a', cap', he, hc, hcell⟩ := HWB.out _ hbw
            injection he with q1 q2 q3
            subst q1
            obtain ⟨b2, o2, rfl, _, p0, p1, p2, p3, p4⟩ := hcell k hkL
            have hk1 : IntKind.i64.wrap ((k : Int) + 1) = ((k + 1 : Nat) : Int) := by rw [IntKind.wrap_i64]; omega
            have htm : wd.getD k {} ∈ wd := by rw [List.getD_eq_getElem?_getD, List.getElem?_eq_getElem hkL]; exact List.getElem_mem _
            have hcall := HWP.out _ htm
            have hnx := wordsP_next hkL
            obtain ⟨x, hx⟩ : ∃ t, wd.getD k {} = t := ⟨_, rfl⟩
            rw [hx] at p0 p1 p2 p3 p4 hcall hnx
            obtain ⟨z, hz⟩ : ∃ z, strOfNums (prT x.k x.s x.n.toNat) = z := ⟨_, rfl⟩
            rw [hz] at hcall
            have hzl : z.size ≤ 20000 := by
              rw [← hz, strOfNums_size]
              have h1 := HWS.out (k + 1)
              rw [hnx] at h1
              simp only [List.length_append, List.length_cons] at h1
              omega
            obtain ⟨xk, xs, xn, xa, xb⟩ := x
            simp only at p0 p1 p2 p3 p4 hcall hnx
            have HCALL := Lib.hid hcall
            have HNX := Lib.hid hnx
            have m1 : ¬ 9223372036854775807 < y.size + 1 := by omega
            have m2 : ¬ 9223372036854775807 < y.size + 1 + z.size := by omega
            clear hcell hc q2 q3 hx hz htm hcall hnx hkL hy hbw x0 x2 x3
            go_wp2_with (go_at_call 28; (with_reducible refine (HCALL.out _).mono ?_); rintro e w7 ⟨rfl, hz7, h7⟩; have HZ7 := Lib.hid hz7; have G7 := Lib.hid (below_step GW.out h7); clear h7 hz7)
            go_roundw
            case rel => exact ⟨k + 1, _, by omega, by go_num, rfl, by rw [numsApp, numsApp, HY.out, HZ7.out, HNX.out]; simp [List.append_assoc]; rfl, G7.out⟩
            case measure => simp [intOf]; omega
          · have en : wl = k := by omega
            subst en
            have htk : wd.take wl = wd := List.take_of_length_le (by rw [HWLN.out]; exact Nat.le_refl _)
            rw [htk] at hy
            have HY2 := Lib.hid hy
            clear hy htk
            have m1 : ¬ 9223372036854775807 < y.size + 2 := by omega
            have m2 : ¬ 9223372036854775807 < y.size + 3 := by omega
            cases bk with
            | false =>
              go_wp2
              go_roundw
              case rel => exact ⟨i + 1, _, by omega, by go_num, rfl, by rw [numsApp, HY2.out, HNEXT.out]; simp [prtL, List.append_assoc]; rfl, GW.out⟩
              case measure => simp [intOf]; omega
            | true =>
              go_wp2_with (go_at_call 11; (with_reducible refine (HKP.out _ GW.out).mono ?_); rintro e w7 ⟨r, rfl, hr, hrs, h7⟩; have HR := Lib.hid hr; have G7 := Lib.hid (below_step GW.out h7); have m3 : ¬ 9223372036854775807 < y.size + 3 + r.size := (by omega); have m4 : ¬ 9223372036854775807 < y.size + 3 + r.size + t0.size := (by omega); have m5 : ¬ 9223372036854775807 < y.size + 3 + r.size + t0.size + 2 := (by omega); clear h7 hr)
              go_roundw
              case rel => exact ⟨i + 1, _, by omega, by go_num, rfl, by rw [numsApp, numsApp, numsApp, numsApp, HY2.out, HR.out, HT0.out, HNEXT.out]; simp [prtL, List.append_assoc]; rfl, G7.out⟩
              case measure => simp [intOf]; omega
      · have en : n = i := by omega
        subst en
        have htk : L.take n = L := List.take_of_length_le (by rw [HN.out]; exact Nat.le_refl _)
        clear ht hb
        go_wp2
        go_ret
        exact ⟨t, rfl, by rw [HT.out, htk], HB.out⟩

end Go.Proofs.YtmgimkokmlcllaaGreatDoor
