/-
  The document's Heavy: trees that are gone through aren't very great. Walked.
-/
import Derived.Test.YtmgimkokmlcllaaGreatDoorPkLayf
import Derived.Test.YtmgimkokmlcllaaGreatDoorPkTrev
import Derived.Test.YtmgimkokmlcllaaGreatDoorPkLayp
import Derived.Test.YtmgimkokmlcllaaGreatDoorPkTrej
import Derived.Test.YtmgimkokmlcllaaGreatDoorPkLayn
import Derived.Deep.QuietTactic
import Derived.BigQuiet
namespace Go.Proofs.YtmgimkokmlcllaaGreatDoor
open Go.RowKit

def SlimX (x : It) : Prop := x.name.size ≤ 2000 ∧ x.words.length ≤ 20 ∧ ∀ t ∈ x.words, t.s.size ≤ 2000
def SlimL : List It → Prop
  | [] => True
  | .mk n w k kids a b :: l => SlimX (.mk n w k kids a b) ∧ SlimL kids ∧ SlimL l
theorem slim_of : ∀ {L : List It}, (∀ i, i < L.length → SlimX (L.getD i default) ∧ SlimL (L.getD i default).kids) → SlimL L
  | [], _ => by simp [SlimL]
  | .mk n w k kids a b :: l, h => by
    have h0 := h 0 (by simp)
    rw [SlimL]
    exact ⟨h0.1, h0.2, slim_of (fun i hi => h (i + 1) (by simpa using hi))⟩
theorem SlimL.light : ∀ {L : List It}, SlimL L → NumsR L → LightL L
  | [], _, _ => by simp [LightL]
  | .mk n w k kids a b :: l, h, hn => by
    rw [SlimL] at h
    rw [NumsR] at hn
    rw [LightL]
    exact ⟨⟨h.1.1, h.1.2.1, fun t ht => ⟨h.1.2.2 t ht, hn.1 t ht⟩⟩, SlimL.light h.2.1 hn.2.1, SlimL.light h.2.2 hn.2.2⟩
def GivesWe (deep left : Nat) (L : List It) (w : World) (e : Ending) (w' : World) : Prop :=
  ∃ r : Int, e = .returned (.int .i64 r) ∧ (r < 0 ∨ (r = (left : Int) - (cntL L : Int) ∧ 0 ≤ r ∧ depL L ≤ deep ∧ SlimL L)) ∧ Below w.heap.size w w'
theorem GivesWe.no {deep left : Nat} {L : List It} {w w' : World} (h : Below w.heap.size w w') : GivesWe deep left L w (.returned (.int .i64 (-1))) w' := ⟨-1, rfl, Or.inl (by decide), h⟩

theorem GivesWe.two {deep left : Nat} {L : List It} {w : World} {e : Ending} {w' : World} (h : GivesWe deep left L w e w') : (∃ r : Int, e = .returned (.int .i64 r) ∧ r < 0 ∧ Below w.heap.size w w') ∨ (∃ rn : Nat, e = .returned (.int .i64 (rn : Int)) ∧ ¬ (rn : Int) < 0 ∧ Hid (rn + cntL L = left ∧ depL L ≤ deep ∧ SlimL L) ∧ Below w.heap.size w w') := by
  obtain ⟨r, rfl, h | ⟨h1, h2, h3, h4⟩, g⟩ := h
  · exact Or.inl ⟨r, rfl, h, g⟩
  · obtain ⟨rn, rfl⟩ : ∃ n : Nat, r = (n : Int) := ⟨r.toNat, by omega⟩
    exact Or.inr ⟨rn, rfl, by omega, ⟨by omega, h3, h4⟩, g⟩
set_option maxRecDepth 100000 in
set_option maxHeartbeats 16000000 in
theorem sweigh_any : ∀ (deep : Nat) (left D : Nat) (S : Nat → Prop) (v : Value) (L : List It) (w : World), ItemsIs D w S v L → (∀ b, S b → b < w.heap.size) → deep ≤ 40 → left ≤ 400 →
    Calls Tryz.prog 21 #[v, .int .i64 (deep : Int), .int .i64 (left : Int)] w (GivesWe deep left L w) := by
  intro deep
  induction deep with
  | zero =>
    intro left D S v L w h hS _ hl
    obtain ⟨a, cap, rfl⟩ := h.size
    obtain ⟨n, hn⟩ : ∃ n, L.length = n := ⟨_, rfl⟩
    rw [hn]
    by_cases h0 : n = 0
    · subst h0
      have hL : L = [] := List.eq_nil_of_length_eq_zero hn
      subst hL
      have hx : ¬ (left : Int) < 0 := by omega
      clear h hS hn
      go_enter Tryz.func21, Tryz.ntmps21
      go_wp2
      go_loopw [2, 7] (fun v2 v7 wr => v2 = .int .i64 (left : Int) ∧ v7 = .int .i64 0 ∧ wr = w) (fun _ _ _ => 0)
      case atStart => exact ⟨rfl, rfl, rfl⟩
      case round =>
        obtain ⟨rfl, rfl, rfl⟩ := hrel
        go_wp2
        go_ret
        exact ⟨_, rfl, Or.inr ⟨by simp [cntL], by omega, by simp [depL], by simp [SlimL]⟩, Below.refl _ _⟩
    · have hx : (0 : Int) < (n : Int) := by omega
      clear h hS hn
      go_enter Tryz.func21, Tryz.ntmps21
      go_wp2
      go_ret
      exact GivesWe.no (Below.refl _ _)
  | succ deep ih =>
    intro left D S v L w h hS hd hl
    obtain ⟨a, cap, rfl⟩ := h.size
    obtain ⟨n, hn⟩ : ∃ n, L.length = n := ⟨_, rfl⟩
    have HH := Lib.hid h
    have HN := Lib.hid hn
    have HS := Lib.hid hS
    have HIH := Lib.hid ih
    rw [hn]
    obtain ⟨dp, hdp⟩ : ∃ d, deep + 1 = d := ⟨_, rfl⟩
    have hdp0 : ((dp : Int) == 0) = false := by simp; omega
    have hdw : IntKind.i64.wrap ((dp : Int) - 1) = (deep : Int) := by rw [IntKind.wrap_i64]; omega
    have HDP := Lib.hid hdp
    have hdeep : deep ≤ 40 := by omega
    rw [hdp] at hd ⊢
    clear h hS hn ih hdp
    by_cases hnl : n ≤ left
    · have hnl' : ¬ (left : Int) < (n : Int) := by omega
      go_enter Tryz.func21, Tryz.ntmps21
      go_wp2
      go_loopw [2, 7] (fun v2 v7 wr => ∃ i lf : Nat, i ≤ n ∧ v2 = .int .i64 (lf : Int) ∧ v7 = .int .i64 (i : Int) ∧ lf + cntK L i = left ∧ depK L i ≤ dp ∧ (∀ j, j < i → SlimX (L.getD j default) ∧ SlimL (L.getD j default).kids) ∧ Below w.heap.size w wr) (fun _ v7 _ => n - (intOf v7).toNat)
      case atStart => exact ⟨0, left, Nat.zero_le _, rfl, rfl, by simp [cntK], by simp [depK], fun j hj => by omega, Below.refl _ _⟩
      case round =>
        obtain ⟨wo, rfl⟩ : ∃ x, x = wr := ⟨wr, rfl⟩
        obtain ⟨i, lf, hi, rfl, rfl, hlf, hdk, hall, hb⟩ := hrel
        have HB := Lib.hid hb
        have HLF := Lib.hid hlf
        have HDK := Lib.hid hdk
        have HALL := Lib.hid hall
        by_cases hin : i < n
        · obtain ⟨d1, hd1, b1, o1, wv, kv, rfl, s1, e0, e1, _, e3, _, _, hw, hk⟩ := HH.out.at i (by rw [HN.out]; exact hin)
          have hlt1 := HS.out b1 s1
          have f0 := (hb.cell (p := ⟨b1, o1 + i * 6, none⟩) hlt1).trans e0
          have f1 := (hb.cell (p := ⟨b1, o1 + i * 6 + 1, none⟩) hlt1).trans e1
          have f3 := (hb.cell (p := ⟨b1, o1 + i * 6 + 3, none⟩) hlt1).trans e3
          have hi1 : IntKind.i64.wrap ((i : Int) + 1) = ((i + 1 : Nat) : Int) := by rw [IntKind.wrap_i64]; omega
          have hlw : IntKind.i64.wrap ((lf : Int) - 1) = (lf : Int) - 1 := by rw [IntKind.wrap_i64]; omega
          by_cases hlf1 : 1 ≤ lf
          · obtain ⟨l2, hl2⟩ : ∃ l2, lf - 1 = l2 := ⟨_, rfl⟩
            have hl2e : (lf : Int) - 1 = (l2 : Int) := by omega
            rw [hl2e] at hlw
            have hl2n : ¬ (l2 : Int) < 0 := by omega
            by_cases hnm : (L.getD i default).name.size ≤ 2000
            · have hnm' : ¬ (2000 : Int) < ((L.getD i default).name.size : Int) := by omega
              by_cases hwd : (L.getD i default).words.length ≤ 20
              · have hwd' : ¬ (20 : Int) < ((L.getD i default).words.length : Int) := by omega
                have HNM := Lib.hid hnm
                have HWD := Lib.hid hwd
                have HCK : Hid (cntK L (i + 1) = cntK L i + 1 + cntL (L.getD i default).kids) := Lib.hid rfl
                have HDKK : Hid (depK L (i + 1) = max (depK L i) (1 + depL (L.getD i default).kids)) := Lib.hid rfl
                have HWE : Hid (∀ W, Below w.heap.size w W → Calls Tryz.prog 21 #[kv, .int .i64 (deep : Int), .int .i64 (l2 : Int)] W (GivesWe deep l2 (L.getD i default).kids W)) := Lib.hid (fun W hbW =>
                  HIH.out l2 d1 S kv _ W (hk.keep (fun _ h => h) (fun b hb => hbW.block b (HS.out b hb))) (fun b h => Nat.lt_of_lt_of_le (HS.out b h) hbW.size) (by omega) (by omega))
                have hwb : WordsIs wo S wv (L.getD i default).words := hw.keep (fun _ h => h) (fun b hx => hb.block b (HS.out b hx))
                have HWB := Lib.hid hwb
                obtain ⟨wds, hwds⟩ : ∃ x, (L.getD i default).words = x := ⟨_, rfl⟩
                have HWDS := Lib.hid hwds
                rw [hwds] at hwb hwd' HWD HWB
                obtain ⟨wa, wc, rfl⟩ := hwb.size
                obtain ⟨wl, hwl⟩ : ∃ x, wds.length = x := ⟨_, rfl⟩
                have HWL := Lib.hid hwl
                rw [hwl] at hwd' f1 HWD HWB
                have hwl20 : wl ≤ 20 := HWD.out
                obtain ⟨nm, hnme⟩ : ∃ x, (L.getD i default).name = x := ⟨_, rfl⟩
                have HNME := Lib.hid hnme
                rw [hnme] at hnm' f0 HNM
                obtain ⟨ka, kl, kc, hkv⟩ : ∃ a l c, kv = Value.slice a l c := by obtain ⟨a, c, h⟩ := hk.size; exact ⟨_, _, _, h⟩
                subst hkv
                have hI0 : L.getD i default = L.getD i default := rfl
                clear hI0 e0 e1 e3 hlt1 hwds hwl hnme hw hk hb hlf hdk hall hnm hwd hwb s1 hd1
                go_wp2
                go_loopw [8] (fun v8 ww => ∃ k : Nat, k ≤ wl ∧ v8 = .int .i64 (k : Int) ∧ ww = wo ∧ ∀ j, j < k → (wds.getD j {}).s.size ≤ 2000) (fun v8 _ => wl - (intOf v8).toNat)
                case atStart => exact ⟨0, Nat.zero_le _, rfl, rfl, fun j hj => by omega⟩
                case round =>
                  obtain ⟨k, hk, rfl, rfl, hkall⟩ := hrel
                  have HKA := Lib.hid hkall
                  clear hkall
                  by_cases hkn : k < wl
                  · obtain ⟨a', cap', he, hc, hcell⟩ := HWB.out
                    injection he with q1 q2 q3
                    subst q1
                    obtain ⟨b2, o2, rfl, _, _, p1, _, _, _⟩ := hcell k (by rw [HWL.out]; exact hkn)
                    have hk1 : IntKind.i64.wrap ((k : Int) + 1) = ((k + 1 : Nat) : Int) := by rw [IntKind.wrap_i64]; omega
                    obtain ⟨t, ht⟩ : ∃ t, (wds.getD k {}).s = t := ⟨_, rfl⟩
                    have HT := Lib.hid ht
                    rw [ht] at p1
                    clear hcell hc q2 q3 ht
                    by_cases hts : t.size ≤ 2000
                    · have hts' : ¬ (2000 : Int) < (t.size : Int) := by omega
                      have HTS := Lib.hid hts
                      clear hts
                      go_wp2
                      go_roundw
                      case rel => exact ⟨k + 1, by omega, by go_num, (by trivial), fun j hj => by
                        rcases Nat.lt_or_ge j k with hx | hx
                        · exact HKA.out j hx
                        · obtain rfl : j = k := by omega
                          rw [HT.out]; exact HTS.out⟩
                      case measure => simp [intOf]; omega
                    · have hts' : (2000 : Int) < (t.size : Int) := by omega
                      clear hts
                      go_wp2
                      go_ret
                      exact GivesWe.no HB.out
                  · have en : wl = k := by omega
                    subst en
                    have HTX : Hid (SlimX (L.getD i default)) := Lib.hid ⟨by rw [HNME.out]; exact HNM.out, by rw [HWDS.out, HWL.out]; exact hwl20, fun t ht => by
                      rw [HWDS.out] at ht
                      obtain ⟨j, hj, rfl⟩ := List.getElem_of_mem ht
                      have := HKA.out j (by rw [← HWL.out]; exact hj)
                      rw [List.getD_eq_getElem?_getD, List.getElem?_eq_getElem hj] at this
                      exact this⟩
                    go_wp2_with (go_at_call 21; (with_reducible refine (HWE.out _ HB.out).mono ?_); intro e w6 hgw; rcases hgw.two with ⟨r, rfl, hr, g6⟩ | ⟨rn, rfl, hr, hx, g6⟩ <;> (clear hgw; have G6 := Lib.hid (below_step HB.out g6); clear g6))
                    · go_ret
                      exact GivesWe.no G6.out
                    · go_roundw
                      case rel => exact ⟨i + 1, rn, by omega, rfl, by go_num, by rw [HCK.out]; have := hx.out.1; have := HLF.out; omega, by rw [HDKK.out]; have := hx.out.2.1; have := HDK.out; have := HDP.out; omega, fun j hj => by
                        rcases Nat.lt_or_ge j i with hx2 | hx2
                        · exact HALL.out j hx2
                        · obtain rfl : j = i := by omega
                          exact ⟨HTX.out, hx.out.2.2⟩, G6.out⟩
                      case measure => simp [intOf]; omega
              · have hwd' : (20 : Int) < ((L.getD i default).words.length : Int) := by omega
                obtain ⟨wa, wc, rfl⟩ := hw.size
                obtain ⟨wl, hwl⟩ : ∃ x, (L.getD i default).words.length = x := ⟨_, rfl⟩
                obtain ⟨nm, hnme⟩ : ∃ x, (L.getD i default).name = x := ⟨_, rfl⟩
                rw [hwl] at hwd' f1
                rw [hnme] at hnm' f0
                clear e0 e1 e3 hlt1 hw hk hb hlf hdk hall hnm hwd hwl hnme f3 s1 hd1
                go_wp2
                go_ret
                exact GivesWe.no HB.out
            · have hnm' : (2000 : Int) < ((L.getD i default).name.size : Int) := by omega
              obtain ⟨nm, hnme⟩ : ∃ x, (L.getD i default).name = x := ⟨_, rfl⟩
              rw [hnme] at hnm' f0
              clear e0 e1 e3 hlt1 hw hk hb hlf hdk hall hnm hnme f3 f1 s1 hd1
              go_wp2
              go_ret
              exact GivesWe.no HB.out
          · have hlx : (lf : Int) - 1 < 0 := by omega
            clear e0 e1 e3 hlt1 hw hk hb hlf hdk hall f0 f3 f1 s1 hd1
            go_wp2
            go_ret
            exact GivesWe.no HB.out
        · have en : n = i := by omega
          subst en
          have HF : Hid (SlimL L) := Lib.hid (slim_of (fun j hj => HALL.out j (by rw [← HN.out]; exact hj)))
          have HCA : Hid (cntK L n = cntL L) := Lib.hid (by rw [← HN.out]; exact cntK_all L)
          have HDA : Hid (depK L n = depL L) := Lib.hid (by rw [← HN.out]; exact depK_all L)
          clear hb hlf hdk hall
          go_wp2
          go_ret
          exact ⟨_, rfl, Or.inr ⟨by have := HLF.out; have := HCA.out; omega, by omega, by have := HDK.out; have := HDA.out; omega, HF.out⟩, HB.out⟩
    · have hnl' : (left : Int) < (n : Int) := by omega
      go_enter Tryz.func21, Tryz.ntmps21
      go_wp2
      go_ret
      exact GivesWe.no (Below.refl _ _)
set_option maxRecDepth 100000 in
set_option maxHeartbeats 4000000 in
/-- What isn't heavy. -/
theorem sheavy_any (D : Nat) (S : Nat → Prop) (v : Value) (L : List It) (w : World) (h : ItemsIs D w S v L) (hS : ∀ b, S b → b < w.heap.size) :
    Calls Tryz.prog 7 #[v] w fun e w' => ∃ q : Bool, e = .returned (.bool q) ∧ (q = false → cntL L ≤ 400 ∧ depL L ≤ 40 ∧ SlimL L) ∧ Below w.heap.size w w' := by
  have HW : Hid (Calls Tryz.prog 21 #[v, .int .i64 40, .int .i64 400] w (GivesWe 40 400 L w)) := Lib.hid (sweigh_any 40 400 D S v L w h hS (Nat.le_refl _) (Nat.le_refl _))
  obtain ⟨a, cap, rfl⟩ := h.size
  obtain ⟨n, hn⟩ : ∃ n, L.length = n := ⟨_, rfl⟩
  rw [hn] at HW ⊢
  clear h hS hn
  go_enter Tryz.func7, Tryz.ntmps7
  go_wp2_with (go_at_call 21; (with_reducible refine (HW.out).mono ?_); intro e w6 hgw; rcases hgw.two with ⟨r, rfl, hr, g6⟩ | ⟨rn, rfl, hr, hx, g6⟩ <;> (clear hgw; have G6 := Lib.hid g6; clear g6))
  · go_ret
    exact ⟨true, rfl, (fun e => by cases e), G6.out⟩
  · go_ret
    exact ⟨false, rfl, fun _ => ⟨by have := hx.out.1; omega, hx.out.2.1, hx.out.2.2⟩, G6.out⟩

end Go.Proofs.YtmgimkokmlcllaaGreatDoor

/-
  The document's Bare, of light trees in memory.
-/
namespace Go.Proofs.YtmgimkokmlcllaaGreatDoor
open Go.RowKit

end Go.Proofs.YtmgimkokmlcllaaGreatDoor

/-
  The document's Same, of any two trees: words first.
-/
namespace Go.Proofs.YtmgimkokmlcllaaGreatDoor
open Go.RowKit

def GivesS (A : Prop) (w : World) (e : Ending) (w' : World) : Prop := ∃ q : Bool, e = .returned (.bool q) ∧ (q = true ↔ A) ∧ ∃ m, w' = w.drewN m
end Go.Proofs.YtmgimkokmlcllaaGreatDoor

/-
  The document's Same, of any two trees.
-/
namespace Go.Proofs.YtmgimkokmlcllaaGreatDoor
open Go.RowKit

def SDecAt (D : Nat) : Prop := ∀ (S T : Nat → Prop) (D2 : Nat) (v1 v2 : Value) (L M : List It) (w : World), ItemsIs D w S v1 L → ItemsIs D2 w T v2 M → cntL L ≤ 1000000000 → AllW L → AllW M →
    Calls Tryz.prog 19 #[v1, v2] w (GivesS (L = M) w)
end Go.Proofs.YtmgimkokmlcllaaGreatDoor
