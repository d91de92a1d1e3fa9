/-
  The document's Heavy: trees that are gone through aren't very great. Walked.
-/
import Derived.Test.YtmgimkokmlcllaaGreatDoorPkLayf
import Derived.Test.YtmgimkokmlcllaaGreatDoorPkTrev
import Derived.Test.YtmgimkokmlcllaaGreatDoorPkLayp
import Derived.Test.YtmgimkokmlcllaaGreatDoorPkTrej
import Derived.Test.YtmgimkokmlcllaaGreatDoorPkLayn
import Derived.Deep.QuietTactic
import Derived.BigQuiet
namespace Go.Proofs.YtmgimkokmlcllaaGreatDoor
open Go.RowKit

/-- Texts that aren't very long, and few words, in all items. -/
def SlimX (x : It) : Prop := x.name.size ≤ 2000 ∧ x.words.length ≤ 20 ∧ ∀ t ∈ x.words, t.s.size ≤ 2000
def SlimL : List It → Prop
  | [] => True
  | .mk n w k kids a b :: l => SlimX (.mk n w k kids a b) ∧ SlimL kids ∧ SlimL l
theorem slim_of : ∀ {L : List It}, (∀ i, i < L.length → SlimX (L.getD i default) ∧ SlimL (L.getD i default).kids) → SlimL L
  | [], _ => by simp [SlimL]
  | .mk n w k kids a b :: l, h => by
    have h0 := h 0 (by simp)
    rw [SlimL]
    exact ⟨h0.1, h0.2, slim_of (fun i hi => h (i + 1) (by simpa using hi))⟩
theorem SlimL.light : ∀ {L : List It}, SlimL L → NumsR L → LightL L
  | [], _, _ => by simp [LightL]
  | .mk n w k kids a b :: l, h, hn => by
    rw [SlimL] at h
    rw [NumsR] at hn
    rw [LightL]
    exact ⟨⟨h.1.1, h.1.2.1, fun t ht => ⟨h.1.2.2 t ht, hn.1 t ht⟩⟩, SlimL.light h.2.1 hn.2.1, SlimL.light h.2.2 hn.2.2⟩
/-- What weigh gives. -/
def GivesWe (deep left : Nat) (L : List It) (w : World) (e : Ending) (w' : World) : Prop :=
  ∃ r : Int, e = .returned (.int .i64 r) ∧ (r < 0 ∨ (r = (left : Int) - (cntL L : Int) ∧ 0 ≤ r ∧ depL L ≤ deep ∧ SlimL L)) ∧ Below w.heap.size w w'
theorem GivesWe.no {deep left : Nat} {L : List It} {w w' : World} (h : Below w.heap.size w w') : GivesWe deep left L w (.returned (.int .i64 (-1))) w' := ⟨-1, rfl, Or.inl (by decide), h⟩

theorem GivesWe.two {deep left : Nat} {L : List It} {w : World} {e : Ending} {w' : World} (h : GivesWe deep left L w e w') : (∃ r : Int, e = .returned (.int .i64 r) ∧ r < 0 ∧ Below w.heap.size w w') ∨ (∃ rn : Nat, e = .returned (.int .i64 (rn : Int)) ∧ ¬ (rn : Int) < 0 ∧ Hid (rn + cntL L = left ∧ depL L ≤ deep ∧ SlimL L) ∧ Below w.heap.size w w') := by
  obtain ⟨r, rfl, h | ⟨h1, h2, h3, h4⟩, g⟩ := h
  · exact Or.inl ⟨r, rfl, h, g⟩
  · obtain ⟨rn, rfl⟩ : ∃ n : Nat, r = (n : Int) := ⟨r.toNat, by omega⟩
    exact Or.inr ⟨rn, rfl, by omega, ⟨by omega, h3, h4⟩, g⟩
set_option maxRecDepth 100000 in
set_option maxHeartbeats 16000000 in
theorem sweigh_any : ∀ (deep : Nat) (left D : Nat) (S : Nat → Prop) (v : Value) (L : List It) (w : World), ItemsIs D w S v L → (∀ b, S b → b < w.heap.size) → deep ≤ 40 → left ≤ 400 →
    Calls Tryz.prog 21 #[v, .int .i64 (deep : Int), .int .i64 (left : Int)] w (GivesWe deep left L w) := by
  intro deep
  induction deep with
  | zero =>
    intro left D S v L w h hS _ hl
    obtain ⟨a, cap, rfl⟩ := h.size
    obtain ⟨n, hn⟩ : ∃ n, L.length = n := ⟨_, rfl⟩
    rw [hn]
    by_cases h0 : n = 0
    · subst h0
      have hL : L = [] := List.eq_nil_of_length_eq_zero hn
      subst hL
      have hx : ¬ (left : Int) < 0 := by omega
      clear h hS hn
      go_enter Tryz.func21, Tryz.ntmps21
      go_wp2
      go_loopw [2, 7] (fun v2 v7 wr => v2 = .int .i64 (left : Int) ∧ v7 = .int .i64 0 ∧ wr = w) (fun _ _ _ => 0)
      case atStart => exact ⟨rfl, rfl, rfl⟩
      case round =>
        obtain ⟨rfl, rfl, rfl⟩ := hrel
        go_wp2
        go_ret
        exact ⟨_, rfl, Or.inr ⟨by simp [cntL], by omega, by simp [depL], by simp [SlimL]⟩, Below.refl _ _⟩
    · have hx : (0 : Int) < (n : Int) := by omega
      clear h hS hn
      go_enter Tryz.func21, Tryz.ntmps21
      go_wp2
      go_ret
      exact GivesWe.no (Below.refl _ _)
  | succ deep ih =>
    intro left D S v L w h hS hd hl
    obtain ⟨a, cap, rfl⟩ := h.size
    obtain ⟨n, hn⟩ : ∃ n, L.length = n := ⟨_, rfl⟩
    have HH := Lib.hid h
    have HN := Lib.hid hn
    have HS := Lib.hid hS
    have HIH := Lib.hid ih
    rw [hn]
    obtain ⟨dp, hdp⟩ : ∃ d, deep + 1 = d := ⟨_, rfl⟩
    have hdp0 : ((dp : Int) == 0) = false := by simp; omega
    have hdw : IntKind.i64.wrap ((dp : Int) - 1) = (deep : Int) := by rw [IntKind.wrap_i64]; omega
    have HDP := Lib.hid hdp
    have hdeep : deep ≤ 40 := by omega
    rw [hdp] at hd ⊢
    clear h hS hn ih hdp
    by_cases hnl : n ≤ left
    · have hnl' : ¬ (left : Int) < (n : Int) := by omega
      go_enter Tryz.func21, Tryz.ntmps21
      go_wp2
      go_loopw [2, 7] (fun v2 v7 wr => ∃ i lf : Nat, i ≤ n ∧ v2 = .int .i64 (lf : Int) ∧ v7 = .int .i64 (i : Int) ∧ lf + cntK L i = left ∧ depK L i ≤ dp ∧ (∀ j, j < i → SlimX (L.getD j default) ∧ SlimL (L.getD j default).kids) ∧ Below w.heap.size w wr) (fun _ v7 _ => n - (intOf v7).toNat)
      case atStart => exact ⟨0, left, Nat.zero_le _, rfl, rfl, by simp [cntK], by simp [depK], fun j hj => by omega, Below.refl _ _⟩
      case round =>
        obtain ⟨wo, rfl⟩ : ∃ x, x = wr := ⟨wr, rfl⟩
        obtain ⟨i, lf, hi, rfl, rfl, hlf, hdk, hall, hb⟩ := hrel
        have HB := Lib.hid hb
        have HLF := Lib.hid hlf
        have HDK := Lib.hid hdk
        have HALL := Lib.hid hall
        by_cases hin : i < n
        · obtain ⟨d1, hd1, b1, o1, wv, kv, rfl, s1, e0, e1, _, e3, _, _, hw, hk⟩ := HH.out.at i (by rw [HN.out]; exact hin)
          have hlt1 := HS.out b1 s1
          have f0 := (hb.cell (p := ⟨b1, o1 + i * 6, none⟩) hlt1).trans e0
          have f1 := (hb.cell (p := ⟨b1, o1 + i * 6 + 1, none⟩) hlt1).trans e1
          have f3 := (hb.cell (p := ⟨b1, o1 + i * 6 + 3, none⟩) hlt1).trans e3
          have hi1 : IntKind.i64.wrap ((i : Int) + 1) = ((i + 1 : Nat) : Int) := by rw [IntKind.wrap_i64]; omega
          have hlw : IntKind.i64.wrap ((lf : Int) - 1) = (lf : Int) - 1 := by rw [IntKind.wrap_i64]; omega
          by_cases hlf1 : 1 ≤ lf
          · obtain ⟨l2, hl2⟩ : ∃ l2, lf - 1 = l2 := ⟨_, rfl⟩
            have hl2e : (lf : Int) - 1 = (l2 : Int) := by omega
            rw [hl2e] at hlw
            have hl2n : ¬ (l2 : Int) < 0 := by omega
            by_cases hnm : (L.getD i default).name.size ≤ 2000
            · have hnm' : ¬ (2000 : Int) < ((L.getD i default).name.size : Int) := by omega
              by_cases hwd : (L.getD i default).words.length ≤ 20
              · have hwd' : ¬ (20 : Int) < ((L.getD i default).words.length : Int) := by omega
                have HNM := Lib.hid hnm
                have HWD := Lib.hid hwd
                have HCK : Hid (cntK L (i + 1) = cntK L i + 1 + cntL (L.getD i default).kids) := Lib.hid rfl
                have HDKK : Hid (depK L (i + 1) = max (depK L i) (1 + depL (L.getD i default).kids)) := Lib.hid rfl
                have HWE : Hid (∀ W, Below w.heap.size w W → Calls Tryz.prog 21 #[kv, .int .i64 (deep : Int), .int .i64 (l2 : Int)] W (GivesWe deep l2 (L.getD i default).kids W)) := Lib.hid (fun W hbW =>
                  HIH.out l2 d1 S kv _ W (hk.keep (fun _ h => h) (fun b hb => hbW.block b (HS.out b hb))) (fun b h => Nat.lt_of_lt_of_le (HS.out b h) hbW.size) (by omega) (by omega))
                have hwb : WordsIs wo S wv (L.getD i default).words := hw.keep (fun _ h => h) (fun b hx => hb.block b (HS.out b hx))
                have HWB := Lib.hid hwb
                obtain ⟨wds, hwds⟩ : ∃ x, (L.getD i default).words = x := ⟨_, rfl⟩
                have HWDS := Lib.hid hwds
                rw [hwds] at hwb hwd' HWD HWB
                obtain ⟨wa, wc, rfl⟩ := hwb.size
                obtain ⟨wl, hwl⟩ : ∃ x, wds.length = x := ⟨_, rfl⟩
                have HWL := Lib.hid hwl
                rw [hwl] at hwd' f1 HWD HWB
                have hwl20 : wl ≤ 20 := HWD.out
                obtain ⟨nm, hnme⟩ : ∃ x, (L.getD i default).name = x := ⟨_, rfl⟩
                have HNME := Lib.hid hnme
                rw [hnme] at hnm' f0 HNM
                obtain ⟨ka, kl, kc, hkv⟩ : ∃ a l c, kv = Value.slice a l c := by obtain ⟨a, c, h⟩ := hk.size; exact ⟨_, _, _, h⟩
                subst hkv
                have hI0 : L.getD i default = L.getD i default := rfl
                clear hI0 e0 e1 e3 hlt1 hwds hwl hnme hw hk hb hlf hdk hall hnm hwd hwb s1 hd1
                go_wp2
                go_loopw [8] (fun v8 ww => ∃ k : Nat, k ≤ wl ∧ v8 = .int .i64 (k : Int) ∧ ww = wo ∧ ∀ j, j < k → (wds.getD j {}).s.size ≤ 2000) (fun v8 _ => wl - (intOf v8).toNat)
                case atStart => exact ⟨0, Nat.zero_le _, rfl, rfl, fun j hj => by omega⟩
                case round =>
                  obtain ⟨k, hk, rfl, rfl, hkall⟩ := hrel
                  have HKA := Lib.hid hkall
                  clear hkall
                  by_cases hkn : k < wl
                  · obtain ⟨a', cap', he, hc, hcell⟩ := HWB.out
                    injection he with q1 q2 q3
                    subst q1
                    obtain ⟨b2, o2, rfl, _, _, p1, _, _, _⟩ := hcell k (by rw [HWL.out]; exact hkn)
                    have hk1 : IntKind.i64.wrap ((k : Int) + 1) = ((k + 1 : Nat) : Int) := by rw [IntKind.wrap_i64]; omega
                    obtain ⟨t, ht⟩ : ∃ t, (wds.getD k {}).s = t := ⟨_, rfl⟩
                    have HT := Lib.hid ht
                    rw [ht] at p1
                    clear hcell hc q2 q3 ht
                    by_cases hts : t.size ≤ 2000
                    · have hts' : ¬ (2000 : Int) < (t.size : Int) := by omega
                      have HTS := Lib.hid hts
                      clear hts
                      go_wp2
                      go_roundw
                      case rel => exact ⟨k + 1, by omega, by go_num, (by trivial), fun j hj => by
                        rcases Nat.lt_or_ge j k with hx | hx
                        · exact HKA.out j hx
                        · obtain rfl : j = k := by omega
                          rw [HT.out]; exact HTS.out⟩
                      case measure => simp [intOf]; omega
                    · have hts' : (2000 : Int) < (t.size : Int) := by omega
                      clear hts
                      go_wp2
                      go_ret
                      exact GivesWe.no HB.out
                  · have en : wl = k := by omega
                    subst en
                    have HTX : Hid (SlimX (L.getD i default)) := Lib.hid ⟨by rw [HNME.out]; exact HNM.out, by rw [HWDS.out, HWL.out]; exact hwl20, fun t ht => by
                      rw [HWDS.out] at ht
                      obtain ⟨j, hj, rfl⟩ := List.getElem_of_mem ht
                      have := HKA.out j (by rw [← HWL.out]; exact hj)
                      rw [List.getD_eq_getElem?_getD, List.getElem?_eq_getElem hj] at this
                      exact this⟩
                    go_wp2_with (go_at_call 21; (with_reducible refine (HWE.out _ HB.out).mono ?_); intro e w6 hgw; rcases hgw.two with ⟨r, rfl, hr, g6⟩ | ⟨rn, rfl, hr, hx, g6⟩ <;> (clear hgw; have G6 := Lib.hid (below_step HB.out g6); clear g6))
                    · go_ret
                      exact GivesWe.no G6.out
                    · go_roundw
                      case rel => exact ⟨i + 1, rn, by omega, rfl, by go_num, by rw [HCK.out]; have := hx.out.1; have := HLF.out; omega, by rw [HDKK.out]; have := hx.out.2.1; have := HDK.out; have := HDP.out; omega, fun j hj => by
                        rcases Nat.lt_or_ge j i with hx2 | hx2
                        · exact HALL.out j hx2
                        · obtain rfl : j = i := by omega
                          exact ⟨HTX.out, hx.out.2.2⟩, G6.out⟩
                      case measure => simp [intOf]; omega
              · have hwd' : (20 : Int) < ((L.getD i default).words.length : Int) := by omega
                obtain ⟨wa, wc, rfl⟩ := hw.size
                obtain ⟨wl, hwl⟩ : ∃ x, (L.getD i default).words.length = x := ⟨_, rfl⟩
                obtain ⟨nm, hnme⟩ : ∃ x, (L.getD i default).name = x := ⟨_, rfl⟩
                rw [hwl] at hwd' f1
                rw [hnme] at hnm' f0
                clear e0 e1 e3 hlt1 hw hk hb hlf hdk hall hnm hwd hwl hnme f3 s1 hd1
                go_wp2
                go_ret
                exact GivesWe.no HB.out
            · have hnm' : (2000 : Int) < ((L.getD i default).name.size : Int) := by omega
              obtain ⟨nm, hnme⟩ : ∃ x, (L.getD i default).name = x := ⟨_, rfl⟩
              rw [hnme] at hnm' f0
              clear e0 e1 e3 hlt1 hw hk hb hlf hdk hall hnm hnme f3 f1 s1 hd1
              go_wp2
              go_ret
              exact GivesWe.no HB.out
          · have hlx : (lf : Int) - 1 < 0 := by omega
            clear e0 e1 e3 hlt1 hw hk hb hlf hdk hall f0 f3 f1 s1 hd1
            go_wp2
            go_ret
            exact GivesWe.no HB.out
        · have en : n = i := by omega
          subst en
          have HF : Hid (SlimL L) := Lib.hid (slim_of (fun j hj => HALL.out j (by rw [← HN.out]; exact hj)))
          have HCA : Hid (cntK L n = cntL L) := Lib.hid (by rw [← HN.out]; exact cntK_all L)
          have HDA : Hid (depK L n = depL L) := Lib.hid (by rw [← HN.out]; exact depK_all L)
          clear hb hlf hdk hall
          go_wp2
          go_ret
          exact ⟨_, rfl, Or.inr ⟨by have := HLF.out; have := HCA.out; omega, by omega, by have := HDK.out; have := HDA.out; omega, HF.out⟩, HB.out⟩
    · have hnl' : (left : Int) < (n : Int) := by omega
      go_enter Tryz.func21, Tryz.ntmps21
      go_wp2
      go_ret
      exact GivesWe.no (Below.refl _ _)
set_option maxRecDepth 100000 in
set_option maxHeartbeats 4000000 in
/-- What isn't heavy. -/
theorem sheavy_any (D : Nat) (S : Nat → Prop) (v : Value) (L : List It) (w : World) (h : ItemsIs D w S v L) (hS : ∀ b, S b → b < w.heap.size) :
    Calls Tryz.prog 7 #[v] w fun e w' => ∃ q : Bool, e = .returned (.bool q) ∧ (q = false → cntL L ≤ 400 ∧ depL L ≤ 40 ∧ SlimL L) ∧ Below w.heap.size w w' := by
  have HW : Hid (Calls Tryz.prog 21 #[v, .int .i64 40, .int .i64 400] w (GivesWe 40 400 L w)) := Lib.hid (sweigh_any 40 400 D S v L w h hS (Nat.le_refl _) (Nat.le_refl _))
  obtain ⟨a, cap, rfl⟩ := h.size
  obtain ⟨n, hn⟩ : ∃ n, L.length = n := ⟨_, rfl⟩
  rw [hn] at HW ⊢
  clear h hS hn
  go_enter Tryz.func7, Tryz.ntmps7
  go_wp2_with (go_at_call 21; (with_reducible refine (HW.out).mono ?_); intro e w6 hgw; rcases hgw.two with ⟨r, rfl, hr, g6⟩ | ⟨rn, rfl, hr, hx, g6⟩ <;> (clear hgw; have G6 := Lib.hid g6; clear g6))
  · go_ret
    exact ⟨true, rfl, (fun e => by cases e), G6.out⟩
  · go_ret
    exact ⟨false, rfl, fun _ => ⟨by have := hx.out.1; omega, hx.out.2.1, hx.out.2.2⟩, G6.out⟩

end Go.Proofs.YtmgimkokmlcllaaGreatDoor

/-
  The document's Bare, of light trees in memory.
-/
namespace Go.Proofs.YtmgimkokmlcllaaGreatDoor
open Go.RowKit

set_option maxRecDepth 100000 in
set_option maxHeartbeats 16000000 in
theorem bare_light : ∀ (d : Nat) (S : Nat → Prop) (v : Value) (L : List It) (w : World), ItemsIs d w S v L → (∀ b, S b → b < w.heap.size) → cntL L ≤ 1000000 → LightL L →
    Calls Tryz.prog 14 #[v] w (GivesBare d L w) := by
  intro d
  induction d with
  | zero =>
    intro S v L w h _ _ _
    obtain ⟨rfl, a, cap, rfl⟩ := h
    obtain ⟨B, hB⟩ : ∃ B, w.heap.size = B := ⟨_, rfl⟩
    obtain ⟨W0, hW0⟩ : ∃ W, w.alloc (.cells #[] 51) = W := ⟨_, rfl⟩
    have R0 : ListIs 0 W0 (fun _ => False) B (.slice (some ⟨B, 0, none⟩) 0 0) [] := by
      rw [← hW0]
      exact ⟨RowK.fresh _ 6 w _ _ hB.symm (Nat.le_refl _), (fun p hp => by cases hp), (fun p hp => by cases hp), (fun b e h => h)⟩
    have g0 : Below B w W0 := by rw [← hW0, ← hB]; exact (Below.refl _ _).alloc (Nat.le_refl _) _
    have HR0 := Lib.hid R0
    have HG0 := Lib.hid g0
    have HB := Lib.hid hB
    clear R0 g0
    go_enter Tryz.func14, Tryz.ntmps14
    go_wp2
    go_loopw [3, 4] (fun v3 v4 wr => v3 = .slice (some ⟨B, 0, none⟩) 0 0 ∧ v4 = .int .i64 0 ∧ wr = W0) (fun _ _ _ => 0)
    case atStart => exact ⟨rfl, rfl, rfl⟩
    case round =>
      obtain ⟨rfl, rfl, rfl⟩ := hrel
      go_wp2
      go_ret
      exact ⟨_, [], fun _ => False, rfl, by rw [HB.out]; exact HR0.out, by simp [bareL], fun b h => h.elim, by rw [HB.out]; exact HG0.out⟩
  | succ d ih =>
    intro S v L w h hS hm hfw
    obtain ⟨a, cap, rfl⟩ := h.size
    have HH := Lib.hid h
    have HS := Lib.hid hS
    have HIH := Lib.hid ih
    have HM := Lib.hid hm
    have HFW := Lib.hid hfw
    obtain ⟨n, hn⟩ : ∃ n, L.length = n := ⟨_, rfl⟩
    have HN := Lib.hid hn
    have HLn : n ≤ 1000000 := by
      have := len_cnt L
      omega
    obtain ⟨B, hB⟩ : ∃ B, w.heap.size = B := ⟨_, rfl⟩
    obtain ⟨W0, hW0⟩ : ∃ W, w.alloc (.cells #[] 51) = W := ⟨_, rfl⟩
    have R0 : ListIs d W0 (fun _ => False) B (.slice (some ⟨B, 0, none⟩) 0 0) [] := by
      rw [← hW0]
      exact ⟨RowK.fresh _ 6 w _ _ hB.symm (Nat.le_refl _), (fun p hp => by cases hp), (fun p hp => by cases hp), (fun b e h => h)⟩
    have g0 : Below B w W0 := by rw [← hW0, ← hB]; exact (Below.refl _ _).alloc (Nat.le_refl _) _
    have HR0 := Lib.hid R0
    have HG0 := Lib.hid g0
    have HB := Lib.hid hB
    have e0 : bareL (L.take 0) = [] := by simp [bareL]
    have HE0 := Lib.hid e0
    rw [hn]
    clear h hS ih hm hfw hn R0 g0 e0
    go_enter Tryz.func14, Tryz.ntmps14
    go_wp2
    go_loopw [3, 4] (fun v3 v4 wr => ∃ (i : Nat) (ps : List ItV) (Sx : Nat → Prop), i ≤ n ∧ v4 = .int .i64 (i : Int) ∧ ListIs d wr Sx B v3 ps ∧ ps.map ItV.x = bareL (L.take i) ∧ (∀ b, Sx b → B ≤ b ∧ b < wr.heap.size) ∧ Below B w wr) (fun _ v4 _ => n - (intOf v4).toNat)
    case atStart => exact ⟨0, [], _, Nat.zero_le _, rfl, HR0.out, HE0.out.symm, fun b h => h.elim, HG0.out⟩
    case round =>
      rename_i wr
      obtain ⟨i, ps, Sx, hi, rfl, hr, hps, hsx, hb⟩ := hrel
      have HR := Lib.hid hr
      have HPS := Lib.hid hps
      have HSX := Lib.hid hsx
      have HBL := Lib.hid hb
      clear hr hb hps hsx
      by_cases hin : i < n
      · obtain ⟨d', hd', b, off, wv, kv, rfl, hsb, x0, x1, x2, x3, x4, x5, hw, hk⟩ := HH.out.at i (by rw [HN.out]; exact hin)
        obtain rfl : d = d' := by omega
        have hlt : b < B := HB.out ▸ HS.out b hsb
        obtain ⟨⟨nm, ws, bk, kd, pa, pb⟩, hp⟩ : ∃ p, L.getD i default = p := ⟨_, rfl⟩
        rw [hp] at x0 x2 x4 x5 hw hk
        simp only [It.name, It.words, It.block, It.kids, It.a, It.b] at x0 x2 x4 x5 hw hk
        have HX : Hid (∀ W, Below B w W → W.cell? ⟨b, off + i * 6, none⟩ = some (.string nm) ∧ W.cell? ⟨b, off + i * 6 + 1, none⟩ = some wv ∧ W.cell? ⟨b, off + i * 6 + 2, none⟩ = some (.bool bk) ∧ W.cell? ⟨b, off + i * 6 + 3, none⟩ = some kv) := Lib.hid (fun W h =>
          ⟨(h.cell (p := ⟨b, off + i * 6, none⟩) hlt).trans x0, (h.cell (p := ⟨b, off + i * 6 + 1, none⟩) hlt).trans x1, (h.cell (p := ⟨b, off + i * 6 + 2, none⟩) hlt).trans x2, (h.cell (p := ⟨b, off + i * 6 + 3, none⟩) hlt).trans x3⟩)
        have HNX : Hid (bareL (L.take (i + 1)) = bareL (L.take i) ++ [.mk nm (ws.map Tk3.bare) bk (bareL kd) 0 0]) := Lib.hid (by
          rw [bareL_next (by rw [HN.out]; exact hin), hp, bareL_one]; rfl)
        have HLE : Hid (ws.length ≤ 20 ∧ cntL kd ≤ 1000000 ∧ LightL kd) := Lib.hid (by
          have h1 := HFW.out.at i (by rw [HN.out]; exact hin)
          have h2 := cntK_mono L (i := i + 1) (j := L.length) (by have := HN.out; omega)
          rw [cntK_all, cntK, hp] at h2
          rw [hp] at h1
          have h3 : cntL kd ≤ 1000000 := by
            have := HM.out
            have : cntL (It.mk nm ws bk kd pa pb).kids = cntL kd := rfl
            omega
          exact ⟨h1.1.2.1, h3, h1.2⟩)
        have HW : Hid (∀ W, Below B w W → WordsIs W S wv ws) := Lib.hid (fun W h => hw.keep (fun _ h => h) (fun b hb => h.block b (HB.out ▸ HS.out b hb)))
        have HK : Hid (∀ W, Below B w W → ItemsIs d W S kv kd) := Lib.hid (fun W h => ItemsIs.keep hk (fun _ h => h) (fun b hb => h.block b (HB.out ▸ HS.out b hb)))
        have HDL : Hid (d = 0 → bareL kd = []) := Lib.hid (fun h0 => by
          subst h0
          rw [hk.1]; simp [bareL])
        have HSZ : Hid (B ≤ wr.heap.size) := Lib.hid (by have := HBL.out.size; have := HB.out; omega)
        have HCALL : Hid (∀ W, Below wr.heap.size wr W → Calls Tryz.prog 14 #[kv] W (GivesBare d kd W)) := Lib.hid (fun W h =>
          HIH.out S kv kd W (HK.out W (HBL.out.trans (h.mono HSZ.out))) (fun b hb => Nat.lt_of_lt_of_le (HS.out b hb) (HBL.out.trans (h.mono HSZ.out)).size) HLE.out.2.1 HLE.out.2.2)
        obtain ⟨c0, c1, c2, c3⟩ := HX.out wr HBL.out
        clear x0 x1 x2 x3 x4 x5 hw hk hd' hp hsb
        go_wp2
        go_upto_region 5 with fail
        go_cut [5] from 15 to 31 (fun v5 wx => ∃ g kv2 Sk, v5 = .pointer (some ⟨g, 0, none⟩) ∧ wr.heap.size ≤ g ∧ Var6 wx g (.string nm) (.slice none 0 0) (.bool bk) kv2 (.int .i64 0) (.int .i64 0) ∧ ItemsIs d wx Sk kv2 (bareL kd) ∧ (∀ b, Sk b → wr.heap.size ≤ b ∧ b < wx.heap.size ∧ b ≠ g) ∧ Below wr.heap.size wr wx)
        case first =>
          have HIL : Hid ((i : Int) < (n : Int)) := Lib.hid (by omega)
          have HCP : Hid (0 ≤ (i : Int)) := Lib.hid (by omega)
          refine wp_region_mixu 18 (TB15 [.slice (some ⟨b, off, none⟩) n cap, .int .i64 (i : Int), .pointer (some ⟨b, off + i * 6, none⟩), .pointer (some ⟨b, off + i * 6, none⟩), .string nm, .slice (some ⟨b, off, none⟩) n cap, .int .i64 (i : Int), .pointer (some ⟨b, off + i * 6, none⟩), .pointer (some ⟨b, off + i * 6 + 2, none⟩), .bool bk, .slice (some ⟨b, off, none⟩) n cap, .int .i64 (i : Int), .pointer (some ⟨b, off + i * 6, none⟩), .pointer (some ⟨b, off + i * 6 + 3, none⟩), kv]) (JB wr d (bareL kd) nm bk) (by kernel_rfl) (by kernel_rfl) (fun u => ⟨(Below.refl _ _).drew, fun q => (by cases q), fun q => (by cases q), fun q => (by cases q)⟩) ?_ ?_
          · simp only [List.take_succ_cons, List.take_zero]
            refine (StepsU.cons ?_ (StepsU.cons ?_ (StepsU.cons ?_ (StepsU.cons ?_ (StepsU.cons ?_ (StepsU.cons ?_ (StepsU.cons ?_ (StepsU.cons ?_ (StepsU.cons ?_ (StepsU.cons ?_ (StepsU.cons ?_ (StepsU.cons ?_ (StepsU.cons ?_ (StepsU.cons ?_ (StepsU.cons ?_ (StepsU.cons ?_ (StepsU.cons ?_ (StepsU.cons ?_ StepsU.nil))))))))))))))))))
            · intro u W J hL hJ hd
              simp only [putAll, Act.put, List.setIfInBounds_toArray, List.set_cons_succ, List.set_cons_zero, Nat.zero_add, Nat.reduceAdd]
              have hj1 := hJ.light (j := 0) (by decide)
              go_wp2
              first | exact hj1 _ | exact fun _ => rfl | exact ⟨fun _ => rfl, hj1 _, fun j v' _ _ h => h⟩ | exact ⟨_, rfl, fun _ => rfl, hj1 _, fun j v' _ _ h => h⟩ | exact ⟨fun _ => rfl, hj1 _⟩ | exact ⟨_, rfl, fun _ => rfl, hj1 _⟩
            · intro u W J hL hJ hd
              simp only [putAll, Act.put, List.setIfInBounds_toArray, List.set_cons_succ, List.set_cons_zero, Nat.zero_add, Nat.reduceAdd]
              have hj1 := hJ.light (j := 1) (by decide)
              go_wp2
              first | exact hj1 _ | exact fun _ => rfl | exact ⟨fun _ => rfl, hj1 _, fun j v' _ _ h => h⟩ | exact ⟨_, rfl, fun _ => rfl, hj1 _, fun j v' _ _ h => h⟩ | exact ⟨fun _ => rfl, hj1 _⟩ | exact ⟨_, rfl, fun _ => rfl, hj1 _⟩
            · intro u W J hL hJ hd
              have e0 : u 0 = .slice (some ⟨b, off, none⟩) n cap := (hd.1 rfl (by decide)).2 (by decide)
              have e1 : u 1 = .int .i64 (i : Int) := (hd.2.1 rfl (by decide)).2 (by decide)
              have hil := HIL.out
              have hcp := HCP.out
              simp only [putAll, Act.put, List.setIfInBounds_toArray, List.set_cons_succ, List.set_cons_zero, Nat.zero_add, Nat.reduceAdd]
              rw [e0, e1]
              have hj1 := hJ.light (j := 2) (by decide)
              go_wp2
              first | exact hj1 _ | exact fun _ => rfl | exact ⟨fun _ => rfl, hj1 _, fun j v' _ _ h => h⟩ | exact ⟨_, rfl, fun _ => rfl, hj1 _, fun j v' _ _ h => h⟩ | exact ⟨fun _ => rfl, hj1 _⟩ | exact ⟨_, rfl, fun _ => rfl, hj1 _⟩
            · intro u W J hL hJ hd
              have e0 : u 2 = .pointer (some ⟨b, off + i * 6, none⟩) := (hd.1 rfl (by decide)).2 (by decide)
              simp only [putAll, Act.put, List.setIfInBounds_toArray, List.set_cons_succ, List.set_cons_zero, Nat.zero_add, Nat.reduceAdd]
              rw [e0]
              have hj1 := hJ.light (j := 3) (by decide)
              go_wp2
              first | exact hj1 _ | exact fun _ => rfl | exact ⟨fun _ => rfl, hj1 _, fun j v' _ _ h => h⟩ | exact ⟨_, rfl, fun _ => rfl, hj1 _, fun j v' _ _ h => h⟩ | exact ⟨fun _ => rfl, hj1 _⟩ | exact ⟨_, rfl, fun _ => rfl, hj1 _⟩
            · intro u W J hL hJ hd
              have e0 : u 3 = .pointer (some ⟨b, off + i * 6, none⟩) := (hd.1 rfl (by decide)).2 (by decide)
              obtain ⟨c0, c1, c2, c3⟩ := HX.out W (HBL.out.trans (hJ.bel.mono HSZ.out))
              simp only [putAll, Act.put, List.setIfInBounds_toArray, List.set_cons_succ, List.set_cons_zero, Nat.zero_add, Nat.reduceAdd]
              rw [e0]
              have hj1 := hJ.light (j := 4) (by decide)
              go_wp2
              first | exact hj1 _ | exact fun _ => rfl | exact ⟨fun _ => rfl, hj1 _, fun j v' _ _ h => h⟩ | exact ⟨_, rfl, fun _ => rfl, hj1 _, fun j v' _ _ h => h⟩ | exact ⟨fun _ => rfl, hj1 _⟩ | exact ⟨_, rfl, fun _ => rfl, hj1 _⟩
            · intro u W J hL hJ hd
              simp only [putAll, Act.put, List.setIfInBounds_toArray, List.set_cons_succ, List.set_cons_zero, Nat.zero_add, Nat.reduceAdd]
              have hj1 := hJ.light (j := 5) (by decide)
              go_wp2
              first | exact hj1 _ | exact fun _ => rfl | exact ⟨fun _ => rfl, hj1 _, fun j v' _ _ h => h⟩ | exact ⟨_, rfl, fun _ => rfl, hj1 _, fun j v' _ _ h => h⟩ | exact ⟨fun _ => rfl, hj1 _⟩ | exact ⟨_, rfl, fun _ => rfl, hj1 _⟩
            · intro u W J hL hJ hd
              simp only [putAll, Act.put, List.setIfInBounds_toArray, List.set_cons_succ, List.set_cons_zero, Nat.zero_add, Nat.reduceAdd]
              have hj1 := hJ.light (j := 6) (by decide)
              go_wp2
              first | exact hj1 _ | exact fun _ => rfl | exact ⟨fun _ => rfl, hj1 _, fun j v' _ _ h => h⟩ | exact ⟨_, rfl, fun _ => rfl, hj1 _, fun j v' _ _ h => h⟩ | exact ⟨fun _ => rfl, hj1 _⟩ | exact ⟨_, rfl, fun _ => rfl, hj1 _⟩
            · intro u W J hL hJ hd
              have e0 : u 5 = .slice (some ⟨b, off, none⟩) n cap := (hd.1 rfl (by decide)).2 (by decide)
              have e1 : u 6 = .int .i64 (i : Int) := (hd.2.1 rfl (by decide)).2 (by decide)
              have hil := HIL.out
              have hcp := HCP.out
              simp only [putAll, Act.put, List.setIfInBounds_toArray, List.set_cons_succ, List.set_cons_zero, Nat.zero_add, Nat.reduceAdd]
              rw [e0, e1]
              have hj1 := hJ.light (j := 7) (by decide)
              go_wp2
              first | exact hj1 _ | exact fun _ => rfl | exact ⟨fun _ => rfl, hj1 _, fun j v' _ _ h => h⟩ | exact ⟨_, rfl, fun _ => rfl, hj1 _, fun j v' _ _ h => h⟩ | exact ⟨fun _ => rfl, hj1 _⟩ | exact ⟨_, rfl, fun _ => rfl, hj1 _⟩
            · intro u W J hL hJ hd
              have e0 : u 7 = .pointer (some ⟨b, off + i * 6, none⟩) := (hd.1 rfl (by decide)).2 (by decide)
              simp only [putAll, Act.put, List.setIfInBounds_toArray, List.set_cons_succ, List.set_cons_zero, Nat.zero_add, Nat.reduceAdd]
              rw [e0]
              have hj1 := hJ.light (j := 8) (by decide)
              go_wp2
              first | exact hj1 _ | exact fun _ => rfl | exact ⟨fun _ => rfl, hj1 _, fun j v' _ _ h => h⟩ | exact ⟨_, rfl, fun _ => rfl, hj1 _, fun j v' _ _ h => h⟩ | exact ⟨fun _ => rfl, hj1 _⟩ | exact ⟨_, rfl, fun _ => rfl, hj1 _⟩
            · intro u W J hL hJ hd
              have e0 : u 8 = .pointer (some ⟨b, off + i * 6 + 2, none⟩) := (hd.1 rfl (by decide)).2 (by decide)
              obtain ⟨c0, c1, c2, c3⟩ := HX.out W (HBL.out.trans (hJ.bel.mono HSZ.out))
              simp only [putAll, Act.put, List.setIfInBounds_toArray, List.set_cons_succ, List.set_cons_zero, Nat.zero_add, Nat.reduceAdd]
              rw [e0]
              have hj1 := hJ.light (j := 9) (by decide)
              go_wp2
              first | exact hj1 _ | exact fun _ => rfl | exact ⟨fun _ => rfl, hj1 _, fun j v' _ _ h => h⟩ | exact ⟨_, rfl, fun _ => rfl, hj1 _, fun j v' _ _ h => h⟩ | exact ⟨fun _ => rfl, hj1 _⟩ | exact ⟨_, rfl, fun _ => rfl, hj1 _⟩
            · intro u W J hL hJ hd
              simp only [putAll, Act.put, List.setIfInBounds_toArray, List.set_cons_succ, List.set_cons_zero, Nat.zero_add, Nat.reduceAdd]
              have hj1 := hJ.light (j := 10) (by decide)
              go_wp2
              first | exact hj1 _ | exact fun _ => rfl | exact ⟨fun _ => rfl, hj1 _, fun j v' _ _ h => h⟩ | exact ⟨_, rfl, fun _ => rfl, hj1 _, fun j v' _ _ h => h⟩ | exact ⟨fun _ => rfl, hj1 _⟩ | exact ⟨_, rfl, fun _ => rfl, hj1 _⟩
            · intro u W J hL hJ hd
              simp only [putAll, Act.put, List.setIfInBounds_toArray, List.set_cons_succ, List.set_cons_zero, Nat.zero_add, Nat.reduceAdd]
              have hj1 := hJ.light (j := 11) (by decide)
              go_wp2
              first | exact hj1 _ | exact fun _ => rfl | exact ⟨fun _ => rfl, hj1 _, fun j v' _ _ h => h⟩ | exact ⟨_, rfl, fun _ => rfl, hj1 _, fun j v' _ _ h => h⟩ | exact ⟨fun _ => rfl, hj1 _⟩ | exact ⟨_, rfl, fun _ => rfl, hj1 _⟩
            · intro u W J hL hJ hd
              have e0 : u 10 = .slice (some ⟨b, off, none⟩) n cap := (hd.1 rfl (by decide)).2 (by decide)
              have e1 : u 11 = .int .i64 (i : Int) := (hd.2.1 rfl (by decide)).2 (by decide)
              have hil := HIL.out
              have hcp := HCP.out
              simp only [putAll, Act.put, List.setIfInBounds_toArray, List.set_cons_succ, List.set_cons_zero, Nat.zero_add, Nat.reduceAdd]
              rw [e0, e1]
              have hj1 := hJ.light (j := 12) (by decide)
              go_wp2
              first | exact hj1 _ | exact fun _ => rfl | exact ⟨fun _ => rfl, hj1 _, fun j v' _ _ h => h⟩ | exact ⟨_, rfl, fun _ => rfl, hj1 _, fun j v' _ _ h => h⟩ | exact ⟨fun _ => rfl, hj1 _⟩ | exact ⟨_, rfl, fun _ => rfl, hj1 _⟩
            · intro u W J hL hJ hd
              have e0 : u 12 = .pointer (some ⟨b, off + i * 6, none⟩) := (hd.1 rfl (by decide)).2 (by decide)
              simp only [putAll, Act.put, List.setIfInBounds_toArray, List.set_cons_succ, List.set_cons_zero, Nat.zero_add, Nat.reduceAdd]
              rw [e0]
              have hj1 := hJ.light (j := 13) (by decide)
              go_wp2
              first | exact hj1 _ | exact fun _ => rfl | exact ⟨fun _ => rfl, hj1 _, fun j v' _ _ h => h⟩ | exact ⟨_, rfl, fun _ => rfl, hj1 _, fun j v' _ _ h => h⟩ | exact ⟨fun _ => rfl, hj1 _⟩ | exact ⟨_, rfl, fun _ => rfl, hj1 _⟩
            · intro u W J hL hJ hd
              have e0 : u 13 = .pointer (some ⟨b, off + i * 6 + 3, none⟩) := (hd.1 rfl (by decide)).2 (by decide)
              obtain ⟨c0, c1, c2, c3⟩ := HX.out W (HBL.out.trans (hJ.bel.mono HSZ.out))
              simp only [putAll, Act.put, List.setIfInBounds_toArray, List.set_cons_succ, List.set_cons_zero, Nat.zero_add, Nat.reduceAdd]
              rw [e0]
              have hj1 := hJ.light (j := 14) (by decide)
              go_wp2
              first | exact hj1 _ | exact fun _ => rfl | exact ⟨fun _ => rfl, hj1 _, fun j v' _ _ h => h⟩ | exact ⟨_, rfl, fun _ => rfl, hj1 _, fun j v' _ _ h => h⟩ | exact ⟨fun _ => rfl, hj1 _⟩ | exact ⟨_, rfl, fun _ => rfl, hj1 _⟩
            · intro u W J hL hJ hd
              have e0 : u 14 = kv := (hd.1 rfl (by decide)).2 (by decide)
              simp only [putAll, Act.put, List.setIfInBounds_toArray, List.set_cons_succ, List.set_cons_zero, Nat.zero_add, Nat.reduceAdd]
              rw [e0]
              go_wp2_with (go_at_call 14; (with_reducible refine (HCALL.out W hJ.bel).mono ?_); rintro e W1 ⟨v1, ps1, S1, rfl, hl1, hp1, hs1, hb1⟩; obtain ⟨a1, c1, rfl⟩ := hl1.row.size; have hkl : (ps1.map ItV.cells).length = (bareL kd).length := (by rw [← hp1, List.length_map, List.length_map]); rw [hkl] at hl1 ⊢; have hj1 := hJ.call hL hb1 (kidsOf hl1 hp1 HDL.out) (fun b hb => hb.elim (fun h => hs1 b h) (fun h => hl1.row.lt h)))
              first | exact hj1 | exact ⟨hj1, fun j v' _ _ h => h⟩ | exact fun q => absurd q (by decide) | exact ⟨fun q => absurd q (by decide), hj1⟩ | exact ⟨_, rfl, fun q => absurd q (by decide), hj1⟩ | exact ⟨_, rfl, fun q => absurd q (by decide), hj1, fun j v' _ _ h => h⟩ | exact ⟨fun q => absurd q (by decide), hj1, fun j v' _ _ h => h⟩
            · intro u W J hL hJ hd
              have e0 : u 4 = .string nm := (hd.1 rfl (by decide)).2 (by decide)
              have e1 : u 9 = .bool bk := (hd.2.1 rfl (by decide)).2 (by decide)
              have h2 : J 15 = true := (hd.2.2.1 rfl (by decide)).1
              have h15 := h2
              obtain ⟨a1, c1, hu15, _⟩ := hJ.kid h15
              have hj1 := hJ.build h15
              rw [hu15] at hj1
              simp only [putAll, Act.put, List.setIfInBounds_toArray, List.set_cons_succ, List.set_cons_zero, Nat.zero_add, Nat.reduceAdd]
              rw [e0, e1, hu15]
              go_wp2
              first | exact hj1 | exact ⟨hj1, fun j v' _ _ h => h⟩ | exact fun q => absurd q (by decide) | exact ⟨fun q => absurd q (by decide), hj1⟩ | exact ⟨_, rfl, fun q => absurd q (by decide), hj1⟩ | exact ⟨_, rfl, fun q => absurd q (by decide), hj1, fun j v' _ _ h => h⟩ | exact ⟨fun q => absurd q (by decide), hj1, fun j v' _ _ h => h⟩
            · intro u W J hL hJ hd
              have hj1 := hJ.alloc
              simp only [putAll, Act.put, List.setIfInBounds_toArray, List.set_cons_succ, List.set_cons_zero, Nat.zero_add, Nat.reduceAdd]
              go_wp2
              first | exact ⟨fun q => absurd q (by decide), fun j v' _ _ h => h⟩ | exact ⟨fun q => absurd q (by decide), hj1, fun j v' _ _ h => h⟩
          · intro u W J hall hJ hT
            obtain ⟨a1, c1, e15, Sk, hsk, hik⟩ := hJ.kid (hall 15 (by decide))
            obtain ⟨_, e16⟩ := hJ.bld (hall 16 (by decide))
            obtain ⟨g, e17, hg1, hg2, hv⟩ := hJ.var (hall 17 (by decide))
            have hbw := hJ.bel
            have e0 : u 0 = .slice (some ⟨b, off, none⟩) n cap := hT 0 (by decide) (by decide)
            have e1 : u 1 = .int .i64 (i : Int) := hT 1 (by decide) (by decide)
            have e2 : u 2 = .pointer (some ⟨b, off + i * 6, none⟩) := hT 2 (by decide) (by decide)
            have e3 : u 3 = .pointer (some ⟨b, off + i * 6, none⟩) := hT 3 (by decide) (by decide)
            have e4 : u 4 = .string nm := hT 4 (by decide) (by decide)
            have e5 : u 5 = .slice (some ⟨b, off, none⟩) n cap := hT 5 (by decide) (by decide)
            have e6 : u 6 = .int .i64 (i : Int) := hT 6 (by decide) (by decide)
            have e7 : u 7 = .pointer (some ⟨b, off + i * 6, none⟩) := hT 7 (by decide) (by decide)
            have e8 : u 8 = .pointer (some ⟨b, off + i * 6 + 2, none⟩) := hT 8 (by decide) (by decide)
            have e9 : u 9 = .bool bk := hT 9 (by decide) (by decide)
            have e10 : u 10 = .slice (some ⟨b, off, none⟩) n cap := hT 10 (by decide) (by decide)
            have e11 : u 11 = .int .i64 (i : Int) := hT 11 (by decide) (by decide)
            have e12 : u 12 = .pointer (some ⟨b, off + i * 6, none⟩) := hT 12 (by decide) (by decide)
            have e13 : u 13 = .pointer (some ⟨b, off + i * 6 + 3, none⟩) := hT 13 (by decide) (by decide)
            have e14 : u 14 = kv := hT 14 (by decide) (by decide)
            have HSK : Hid (∀ b, Sk b → wr.heap.size ≤ b ∧ b < W.heap.size ∧ b ≠ g) := Lib.hid (fun b hb => ⟨(hsk b hb).1, (hsk b hb).2.1, (hsk b hb).2.2 (hall 17 (by decide)) g e17⟩)
            rw [e15] at e16 hik
            have HIK := Lib.hid hik
            have HV6 := Lib.hid (hv.put (.string nm) (.slice none 0 0) (.bool bk) (.slice a1 (bareL kd).length c1) (.int .i64 0) (.int .i64 0))
            have HBF := Lib.hid (below_put6 hbw hg1 (.string nm) (.slice none 0 0) (.bool bk) (.slice a1 (bareL kd).length c1) (.int .i64 0) (.int .i64 0))
            have HG1 := Lib.hid hg1
            obtain ⟨y0, y1, y2, y3, y4, y5, yq, _⟩ := hv
            simp only [List.take_succ_cons, List.take_zero, List.drop_succ_cons, List.drop_zero, putAll, Act.put, List.setIfInBounds_toArray, List.set_cons_succ, List.set_cons_zero, Nat.zero_add, Nat.reduceAdd]
            rw [e0, e1, e2, e3, e4, e5, e6, e7, e8, e9, e10, e11, e12, e13, e14, e15, e16, e17]
            clear e0 e1 e2 e3 e4 e5 e6 e7 e8 e9 e10 e11 e12 e13 e14 e15 e16 e17 hT hall hJ hsk hik hbw hg1 hg2
            go_wp2
            go_meet
            exact ⟨g, .slice a1 (bareL kd).length c1, Sk, rfl, HG1.out, HV6.out, ItemsIs.keep HIK.out (fun _ h => h) (fun b hb => put6_else _ _ _ _ _ _ _ _ _ (HSK.out b hb).2.2), fun b hb => ⟨(HSK.out b hb).1, Nat.lt_of_lt_of_le (HSK.out b hb).2.1 (Nat.le_of_eq (put6_size _ _ _ _ _ _ _ _).symm), (HSK.out b hb).2.2⟩, HBF.out⟩
        case rest =>
          obtain ⟨g, kv2, Sk, rfl, hg, hv6, hik, hsk, hbc⟩ := hcut
          obtain ⟨Z, hZ⟩ : ∃ z, wc.heap.size = z := ⟨_, rfl⟩
          obtain ⟨m, hm⟩ : ∃ m, ws.length = m := ⟨_, rfl⟩
          have HZ := Lib.hid hZ
          have HMM := Lib.hid hm
          have HG := Lib.hid hg
          have HV6 := Lib.hid hv6
          have HIK := Lib.hid hik
          have HSK := Lib.hid hsk
          have HBC := Lib.hid hbc
          have HBZ := Lib.hid (HBL.out.trans (hbc.mono HSZ.out))
          have HGZ : Hid (g < Z) := Lib.hid (hZ ▸ hv6.s)
          have HBG : Hid (B ≤ g) := Lib.hid (Nat.le_trans HSZ.out hg)
          obtain ⟨aw, cw, hwv⟩ := (HW.out wc HBZ.out).size
          rw [hm] at hwv
          subst hwv
          have hm6 : m ≤ 20 := by have := HLE.out.1; omega
          have HVS := Lib.hid hv6
          clear hg hv6 hik hsk hbc hZ hm
          obtain ⟨wo, rfl⟩ : ∃ x, x = wr := ⟨wr, rfl⟩
          go_wp2
          go_loopw [6] (fun v6 wx => ∃ (k : Nat) (vw : Value), k ≤ m ∧ v6 = .int .i64 (k : Int) ∧ Var6 wx g (.string nm) vw (.bool bk) kv2 (.int .i64 0) (.int .i64 0) ∧ RowK 59 5 wx Z vw (bareV ws k) ∧ OnlyO B (fun i => i = g) wc wx) (fun v6 _ => m - (intOf v6).toNat)
          case atStart => exact ⟨0, .slice none 0 0, Nat.zero_le _, rfl, HVS.out, by rw [bareV_zero]; exact RowK.nil _ _ _ _, OnlyO.refl _ _ _⟩
          case round =>
            obtain ⟨wx, rfl⟩ : ∃ x, x = wr := ⟨wr, rfl⟩
            obtain ⟨k, vw, hk, rfl, hv, hrow, ho⟩ := hrel
            have HVX := Lib.hid hv
            have HRX := Lib.hid hrow
            have HOX := Lib.hid ho
            have HBX := Lib.hid (HBZ.out.trans ho.bel)
            have j1 := (HX.out wx HBX.out).2.1
            clear hv hrow ho
            by_cases hkm : k < m
            · obtain ⟨aw', cw', hwe, hwc, hwcell⟩ := HW.out wx HBX.out
              simp only [Value.slice.injEq] at hwe
              obtain ⟨rfl, hl0, rfl⟩ := hwe
              obtain ⟨b1, o1, rfl, _, t0, t1, t2, t3, t4⟩ := hwcell k (by rw [HMM.out]; exact hkm)
              obtain ⟨t, ht⟩ : ∃ t, ws.getD k {} = t := ⟨_, rfl⟩
              rw [ht] at t0 t1 t2 t3 t4
              have HNT : Hid (bareV ws (k + 1) = bareV ws k ++ [tkV t.bare]) := Lib.hid (by rw [bareV_next (by rw [HMM.out]; exact hkm), ht])
              have HNL : Hid ((bareV ws k).length = k) := Lib.hid (bareV_len (by rw [HMM.out]; omega))
              obtain ⟨gt, W5, W6, tv⟩ := tok_var wx t
              have h0 := tv.g0; have ha := tv.a5; have hs := tv.s6
              have b6 := tv.b6
              have z6 := tv.z6
              have x0 := tv.f5.c0; have xq0 := tv.f5.q 0; have x1 := tv.f5.c1; have xq1 := tv.f5.q 1; have x2 := tv.f5.c2; have xq2 := tv.f5.q 2; have x3 := tv.f5.c3; have xq3 := tv.f5.q 3; have x4 := tv.f5.c4; have xq4 := tv.f5.q 4
              have y0 := tv.f6.c0; have yq0 := tv.f6.q 0; have y1 := tv.f6.c1; have yq1 := tv.f6.q 1; have y2 := tv.f6.c2; have yq2 := tv.f6.q 2; have y3 := tv.f6.c3; have yq3 := tv.f6.q 3; have y4 := tv.f6.c4; have yq4 := tv.f6.q 4
              obtain ⟨W7, hW7⟩ : ∃ W, ((W6.setCell ⟨gt, 3, none⟩ (.int .i64 0)).setCell ⟨gt, 4, none⟩ (.int .i64 0)) = W := ⟨_, rfl⟩
              have F7 : Var5 W7 gt (.int .i64 t.k) (.string t.s) (.int .u64 t.n) (.int .i64 0) (.int .i64 0) := by rw [← hW7]; exact tv.f6.put34 _ _
              have b7 : Below wx.heap.size wx W7 := by rw [← hW7]; exact (b6.setCell (by show wx.heap.size ≤ gt; omega) _).setCell (by show wx.heap.size ≤ gt; omega) _
              obtain ⟨g8, W8, hg8, hW8, u8, b8, zz8⟩ := tok_box W7 t.bare
              have hW8' : W7.alloc (.cells #[.int .i64 t.k, .string t.s, .int .u64 t.n, .int .i64 0, .int .i64 0] 59) = W8 := hW8
              have CA : Hid (∀ j, j < 5 → W8.cell? ⟨g8, j, none⟩ = some ((tkV t.bare).getD j undef)) := Lib.hid (tok_cells u8.c0 u8.c1 u8.c2 u8.c3 u8.c4)
              have hb8 : Below wx.heap.size wx W8 := b7.trans (b8.mono b7.size)
              have HB8 := Lib.hid hb8
              have HR8 := Lib.hid (HRX.out.below hb8)
              have V7 := HVX.out.after b7
              have v7c := V7.c1
              have V8 := HVX.out.after hb8
              have HV8 := Lib.hid V8
              have e0 := F7.c0; have e1 := F7.c1; have e2 := F7.c2; have e3 := F7.c3; have e4 := F7.c4
              have HSZ8 : Hid (Z ≤ W8.heap.size) := Lib.hid (by have := hb8.size; have := HOX.out.size; have := HZ.out; omega)
              have HLT6 : Hid ((bareV ws k).length ≤ 1000000) := Lib.hid (by rw [HNL.out]; omega)
              have hi1 : IntKind.i64.wrap ((k : Int) + 1) = ((k + 1 : Nat) : Int) := by rw [IntKind.wrap_i64]; omega
              obtain ⟨avw, cvw, hvw⟩ := HRX.out.size
              rw [HNL.out] at hvw
              subst hvw
              clear tv u8 b8 zz8 hW8 V7 V8 hb8 b7 b6 F7 ht hl0 hwc hwcell
              go_wp2_with (at_builtin; (refine wp_rowK (T := 49) (t := 59) (sz := 5) rfl _ _ rfl Tryz.underlying49 info_tok rfl (by decide) (by decide) Z _ _ rfl HR8.out g8 (tkV t.bare) rfl rfl CA.out (tkV_one _) HLT6.out HSZ8.out ?_))
              intro v9 w9 hr9 ho9 _
              rw [← HNT.out] at hr9
              obtain ⟨a9, c9, hv9⟩ := hr9.size
              obtain ⟨m9, hm9⟩ : ∃ q, (bareV ws (k + 1)).length = q := ⟨_, rfl⟩
              rw [hm9] at hv9
              subst hv9
              have V9 := HV8.out.stay (ho9.bel.block g HGZ.out) ho9.size
              have i1 := V9.c1
              have iq := V9.q 1
              have HVN := Lib.hid (V9.set1 (.slice a9 m9 c9))
              have HRN : Hid (RowK 59 5 (w9.setCell ⟨g, 1, none⟩ (.slice a9 m9 c9)) Z (.slice a9 m9 c9) (bareV ws (k + 1))) := Lib.hid (by
                exact hr9.kept (fun b hb => sset_else _ _ _ _ _ (by have := (hr9.lt hb).1; have := HGZ.out; omega)))
              have HON : Hid (OnlyO B (fun i => i = g) wc (w9.setCell ⟨g, 1, none⟩ (.slice a9 m9 c9))) := Lib.hid (((HOX.out.past (HB8.out.mono HOX.out.size) (by have := HZ.out; have := HGZ.out; have := HBG.out; omega)).past (by rw [HZ.out]; exact ho9.bel) (by have := HZ.out; have := HGZ.out; have := HBG.out; omega)).set rfl HBG.out _ _)
              clear hr9 ho9 V9 hm9
              go_wp2
              go_roundw
              case rel => exact ⟨k + 1, _, by omega, by go_num, HVN.out, HRN.out, HON.out⟩
              case measure => simp [intOf]; omega
            · have ekm : m = k := by omega
              subst ekm
              have y0 := HVX.out.c0; have y1 := HVX.out.c1; have y2 := HVX.out.c2; have y3 := HVX.out.c3; have y4 := HVX.out.c4; have y5 := HVX.out.c5
              obtain ⟨gi, hgi⟩ : ∃ gg, wx.heap.size = gg := ⟨_, rfl⟩
              obtain ⟨W10, hW10⟩ : ∃ W, wx.alloc (.cells #[.string nm, vw, .bool bk, kv2, .int .i64 0, .int .i64 0] 51) = W := ⟨_, rfl⟩
              obtain ⟨p, hp⟩ : ∃ p : ItV, p = ⟨.mk nm (ws.map Tk3.bare) bk (bareL kd) 0 0, vw, kv2⟩ := ⟨_, rfl⟩
              have CA : Hid (∀ j, j < 6 → W10.cell? ⟨gi, j, none⟩ = some (p.cells.getD j undef)) := Lib.hid (by rw [← hW10, ← hgi, hp]; exact item_cells (p := ⟨.mk nm (ws.map Tk3.bare) bk (bareL kd) 0 0, vw, kv2⟩))
              have h10 : Below wx.heap.size wx W10 := by rw [← hW10]; exact (Below.refl _ _).alloc (Nat.le_refl _) _
              have H10 := Lib.hid h10
              have HKEEP : Hid (∀ b, b < wo.heap.size → W10.heap[b]? = wo.heap[b]?) := Lib.hid (fun b hb => ((h10.block b (Nat.lt_of_lt_of_le hb (Nat.le_trans HBC.out.size HOX.out.size))).trans (HOX.out.keep b (Nat.lt_of_lt_of_le hb HBC.out.size) (fun e => by have := HG.out; omega))).trans (HBC.out.block b hb))
              have HRW := Lib.hid (HR.out.row.kept (fun b e => HKEEP.out b (HR.out.row.lt e).2))
              have hwv : vw.oneCell' = true := by obtain ⟨a, c, rfl⟩ := HRX.out.size; rfl
              have HPO : Hid (∀ u ∈ p.cells, u.oneCell' = true) := Lib.hid (by rw [hp]; exact itv_one hwv HIK.out.one)
              have HLP : Hid ((ps.map ItV.cells).length ≤ 1000000) := Lib.hid (by
                have h1 := congrArg List.length HPS.out
                rw [List.length_map, bareL_len, List.length_take] at h1
                rw [List.length_map, h1]; omega)
              have HSZ10 : Hid (B ≤ W10.heap.size) := Lib.hid (by have := h10.size; have := HBX.out.size; have := HB.out; omega)
              have HPX := Lib.hid hp
              clear hp h10 hwv
              go_wp2_with (at_builtin; (refine wp_rowK (T := 22) (t := 51) (sz := 6) rfl _ _ rfl Tryz.underlying22 info_item rfl (by decide) (by decide) B _ _ rfl HRW.out gi p.cells rfl rfl CA.out HPO.out HLP.out HSZ10.out ?_))
              intro v11 w11 hr11 ho11 hob11
              have hz1 := HZ.out
              have hz2 := HBC.out.size
              have hz3 := HOX.out.size
              have hz4 := H10.out.size
              have k11 : ∀ b, wo.heap.size ≤ b → b < wx.heap.size → w11.heap[b]? = wx.heap[b]? := fun b h1 h2 => (ho11.keep b (by omega) (fun e => by have := (HR.out.row.lt e.symm).2; omega)).trans (H10.out.block b h2)
              have HNEW : Hid (ListIs d w11 (fun b => Sx b ∨ (wo.heap.size ≤ b ∧ b < wx.heap.size ∧ b ≠ g)) B v11 (ps ++ [p])) := Lib.hid (by
                refine HR.out.push hr11 (fun b hb => Or.inl hb) (fun b hb => (ho11.keep b (by have := (HSX.out b hb).2; omega) (fun e => HR.out.out b e.symm hb)).trans (HKEEP.out b (HSX.out b hb).2)) ?_ ?_ (fun b hb => ?_)
                · have hw : WordsIs wx (fun b => Z ≤ b ∧ b < wx.heap.size) vw (ws.map Tk3.bare) := RowK.words (by have := HRX.out; rw [← HMM.out, bareV_all] at this; exact this) (fun b hb => HRX.out.lt hb)
                  rw [HPX.out]
                  exact hw.keep (fun b hb => Or.inr ⟨by omega, hb.2, by have := HGZ.out; omega⟩) (fun b hb => k11 b (by omega) hb.2)
                · rw [HPX.out]
                  refine ItemsIs.keep HIK.out (fun b hb => ?_) (fun b hb => ?_)
                  · have := HSK.out b hb
                    exact Or.inr ⟨this.1, by omega, this.2.2⟩
                  · have := HSK.out b hb
                    exact (k11 b this.1 (by omega)).trans (HOX.out.keep b this.2.1 this.2.2)
                · rcases hob11 with e | e
                  · rw [e] at hb
                    rintro (hx | hx)
                    · exact HR.out.out b hb hx
                    · have := (HR.out.row.lt hb).2; omega
                  · rw [e] at hb
                    injection hb with hb
                    rintro (hx | hx)
                    · have := (HSX.out b hx).2; omega
                    · omega)
              have HSN : Hid (∀ b, (Sx b ∨ (wo.heap.size ≤ b ∧ b < wx.heap.size ∧ b ≠ g)) → B ≤ b ∧ b < w11.heap.size) := Lib.hid (fun b hb => by
                have := ho11.size
                rcases hb with hb | hb
                · have := HSX.out b hb; exact ⟨this.1, by omega⟩
                · exact ⟨by have := HSZ.out; omega, by omega⟩)
              have HBN := Lib.hid ((HBX.out.trans (H10.out.mono (by have := HBX.out.size; have := HB.out; omega))).trans ho11.bel)
              have HPN : Hid ((ps ++ [p]).map ItV.x = bareL (L.take (i + 1))) := Lib.hid (by rw [List.map_append, HPS.out, HNX.out, HPX.out]; rfl)
              clear hr11 ho11 hob11 k11 hz1 hz2 hz3 hz4
              go_wp2
              go_roundw
              case rel => exact ⟨i + 1, ps ++ [p], _, by omega, by go_num, HNEW.out, HPN.out, HSN.out, HBN.out⟩
              case measure => simp [intOf]; omega
      · have en : n = i := by omega
        subst en
        go_wp2
        go_ret
        refine ⟨_, ps, Sx, rfl, by rw [HB.out]; exact HR.out, ?_, by rw [HB.out]; exact HSX.out, by rw [HB.out]; exact HBL.out⟩
        have := HPS.out
        rw [List.take_of_length_le (by rw [HN.out]; exact Nat.le_refl _)] at this
        exact this

end Go.Proofs.YtmgimkokmlcllaaGreatDoor

/-
  The document's Same, of any two trees: words first.
-/
namespace Go.Proofs.YtmgimkokmlcllaaGreatDoor
open Go.RowKit

/-- An answer, quietly. -/
def GivesS (A : Prop) (w : World) (e : Ending) (w' : World) : Prop := ∃ q : Bool, e = .returned (.bool q) ∧ (q = true ↔ A) ∧ ∃ m, w' = w.drewN m
theorem words_ext {l k : List Tk3} (h : l.length = k.length) : l = k ↔ ∀ i, i < l.length → l.getD i {} = k.getD i {} := by
  constructor
  · rintro rfl i _; rfl
  · intro hx
    apply List.ext_getElem h
    intro i h1 h2
    have := hx i h1
    rw [List.getD_eq_getElem?_getD, List.getD_eq_getElem?_getD, List.getElem?_eq_getElem h1, List.getElem?_eq_getElem h2] at this
    exact this
theorem tk_eq {k k' n n' a a' b b' : Int} {s s' : ByteArray} : (({ k := k, s := s, n := n, a := a, b := b } : Tk3) = { k := k', s := s', n := n', a := a', b := b' }) ↔ k = k' ∧ s = s' ∧ n = n' ∧ a = a' ∧ b = b' := by
  constructor
  · intro h; injection h with h1 h2 h3 h4 h5; exact ⟨h1, h2, h3, h4, h5⟩
  · rintro ⟨rfl, rfl, rfl, rfl, rfl⟩; rfl
set_option maxRecDepth 100000 in
set_option maxHeartbeats 8000000 in
theorem swords_dec (S T : Nat → Prop) (v1 v2 : Value) (l r : List Tk3) (w : World) (h1 : WordsIs w S v1 l) (h2 : WordsIs w T v2 r) (hl : l.length ≤ 1000000000) :
    Calls Tryz.prog 34 #[v1, v2] w (GivesS (l = r) w) := by
  obtain ⟨n, hn⟩ : ∃ n, l.length = n := ⟨_, rfl⟩
  obtain ⟨a1, c1, rfl, k1, hc1⟩ := h1
  obtain ⟨a2, c2, rfl, k2, hc2⟩ := h2
  have H1 := Lib.hid hc1
  have HN := Lib.hid hn
  by_cases hlk : l.length = r.length
  · have HX := Lib.hid (words_ext hlk)
    rw [← hlk] at k2 hc2 ⊢
    have H2 := Lib.hid hc2
    rw [hn] at hl k1 k2 ⊢
    clear hc1 hc2 hn hlk
    go_enter Tryz.func34, Tryz.ntmps34
    go_wp2
    go_loopw [5] (fun v5 wr => ∃ i : Nat, i ≤ n ∧ v5 = .int .i64 (i : Int) ∧ (∃ q, wr = w.drewN q) ∧ ∀ j, j < i → l.getD j {} = r.getD j {}) (fun v5 _ => n - (intOf v5).toNat)
    case atStart => exact ⟨0, Nat.zero_le _, rfl, ⟨0, rfl⟩, fun j hj => by omega⟩
    case round =>
      obtain ⟨i, hi, rfl, ⟨q, rfl⟩, hall⟩ := hrel
      have HA := Lib.hid hall
      clear hall
      by_cases hin : i < n
      · obtain ⟨b1, o1, rfl, s1, e0, e1, e2, e3, e4⟩ := H1.out i (by rw [HN.out]; exact hin)
        obtain ⟨b2, o2, rfl, s2, f0, f1, f2, f3, f4⟩ := H2.out i (by rw [HN.out]; exact hin)
        have hi1 : IntKind.i64.wrap ((i : Int) + 1) = ((i + 1 : Nat) : Int) := by rw [IntKind.wrap_i64]; omega
        obtain ⟨⟨k, s, m, x, y⟩, hp⟩ : ∃ p, l.getD i {} = p := ⟨_, rfl⟩
        obtain ⟨⟨k', s', m', x', y'⟩, hp'⟩ : ∃ p, r.getD i {} = p := ⟨_, rfl⟩
        have HP := Lib.hid hp
        have HP' := Lib.hid hp'
        have HIN : Hid (i < l.length) := Lib.hid (by rw [HN.out]; exact hin)
        rw [hp] at e0 e1 e2 e3 e4
        rw [hp'] at f0 f1 f2 f3 f4
        simp only at e0 e1 e2 e3 e4 f0 f1 f2 f3 f4
        clear hp hp' s1 s2
        go_wp2
        refine wp_region_quiet_lit (by kernel_rfl) (by kernel_rfl) ?_
        iterate 8 (first | go_big_quiet_step (fail) | quiet_step (fail))
        refine wpQuiet_step (fun K hK => ?_)
        go_simp
        by_cases heq : k = k' ∧ s.toList = s'.toList ∧ m = m' ∧ x = x' ∧ y = y'
        · obtain ⟨q1, q2, q3, q4, q5⟩ := heq
          refine ⟨.bool false, fun a => by rw [if_pos q1, if_pos q2, if_pos q3, if_pos q4, if_pos q5]; exact ⟨rfl, rfl⟩, hK _ ?_⟩
          refine wpQuiet_nil ?_
          intro _ hw'
          obtain ⟨nq, hw''⟩ := hw'
          subst hw''
          have HNX : Hid (l.getD i {} = r.getD i {}) := Lib.hid (by rw [HP.out, HP'.out]; exact tk_eq.mpr ⟨q1, toList_inj q2, q3, q4, q5⟩)
          clear hK K q1 q2 q3 q4 q5
          go_wp2
          go_roundw
          case rel => exact ⟨i + 1, by omega, by go_num, ⟨_, rfl⟩, fun j hj => by
            rcases Nat.lt_or_ge j i with hx | hx
            · exact HA.out j hx
            · obtain rfl : j = i := by omega
              exact HNX.out⟩
          case measure => simp [intOf]; omega
        · refine ⟨.bool true, fun a => ?_, hK _ ?_⟩
          · by_cases q1 : k = k'
            · rw [if_pos q1]
              by_cases q2 : s.toList = s'.toList
              · rw [if_pos q2]
                by_cases q3 : m = m'
                · rw [if_pos q3]
                  by_cases q4 : x = x'
                  · rw [if_pos q4, if_neg (fun q5 => heq ⟨q1, q2, q3, q4, q5⟩)]; exact ⟨rfl, rfl⟩
                  · rw [if_neg q4]; exact ⟨rfl, rfl⟩
                · rw [if_neg q3]; exact ⟨rfl, rfl⟩
              · rw [if_neg q2]; exact ⟨rfl, rfl⟩
            · rw [if_neg q1]; exact ⟨rfl, rfl⟩
          refine wpQuiet_nil ?_
          intro _ hw'
          obtain ⟨nq, hw''⟩ := hw'
          subst hw''
          have HNX : Hid (¬ l = r) := Lib.hid (fun e => by
            have := HX.out.mp e i HIN.out
            rw [HP.out, HP'.out] at this
            obtain ⟨q1, q2, q3, q4, q5⟩ := tk_eq.mp this
            exact heq ⟨q1, by rw [q2], q3, q4, q5⟩)
          clear hK K heq
          go_wp2
          go_ret
          exact ⟨false, rfl, ⟨fun h => (by cases h), fun h => (HNX.out h).elim⟩, _, World.drewN_drewN _ _ _⟩
      · have en : n = i := by omega
        subst en
        go_wp2
        go_ret
        exact ⟨true, rfl, ⟨fun _ => HX.out.mpr (fun j hj => HA.out j (by rw [← HN.out]; exact hj)), fun _ => rfl⟩, q, rfl⟩
  · have HK : Hid (¬ l = r) := Lib.hid (fun e => hlk (by rw [e]))
    have hne : ¬ ((l.length : Int) = (r.length : Int)) := by omega
    obtain ⟨r2, hr2⟩ : ∃ m, r.length = m := ⟨_, rfl⟩
    rw [hn, hr2] at hne ⊢
    clear hc1 hc2 hn hlk hr2 k1 k2
    go_enter Tryz.func34, Tryz.ntmps34
    go_wp2
    go_ret
    exact ⟨false, rfl, ⟨fun h => (by cases h), fun h => (HK.out h).elim⟩, 0, rfl⟩

end Go.Proofs.YtmgimkokmlcllaaGreatDoor

/-
  The document's Same, of any two trees.
-/
namespace Go.Proofs.YtmgimkokmlcllaaGreatDoor
open Go.RowKit

theorem items_ext {L M : List It} (h : L.length = M.length) : L = M ↔ ∀ i, i < L.length → L.getD i default = M.getD i default := by
  constructor
  · rintro rfl i _; rfl
  · intro hx
    apply List.ext_getElem h
    intro i h1 h2
    have := hx i h1
    rw [List.getD_eq_getElem?_getD, List.getD_eq_getElem?_getD, List.getElem?_eq_getElem h1, List.getElem?_eq_getElem h2] at this
    exact this
def SDecAt (D : Nat) : Prop := ∀ (S T : Nat → Prop) (D2 : Nat) (v1 v2 : Value) (L M : List It) (w : World), ItemsIs D w S v1 L → ItemsIs D2 w T v2 M → cntL L ≤ 1000000000 → AllW L → AllW M →
    Calls Tryz.prog 19 #[v1, v2] w (GivesS (L = M) w)
theorem GivesS.yes {P : Program} {f : FuncId} {args : Array Value} {A : Prop} {w : World} (h : Calls P f args w (GivesS A w)) (a : A) : Calls P f args w fun e w' => e = .returned (.bool true) ∧ ∃ m, w' = w.drewN m :=
  h.mono fun _ _ ⟨q, he, hq, hm⟩ => ⟨by rw [he, hq.mpr a], hm⟩
theorem GivesS.no {P : Program} {f : FuncId} {args : Array Value} {A : Prop} {w : World} (h : Calls P f args w (GivesS A w)) (a : ¬ A) : Calls P f args w fun e w' => e = .returned (.bool false) ∧ ∃ m, w' = w.drewN m :=
  h.mono fun _ _ ⟨q, he, hq, hm⟩ => ⟨by cases q with | false => exact he | true => exact (a (hq.mp rfl)).elim, hm⟩
set_option maxRecDepth 100000 in
set_option maxHeartbeats 16000000 in
theorem stree_dec : ∀ D, SDecAt D := by
  intro D
  induction D with
  | zero =>
    intro S T D2 v1 v2 L M w h1 h2 _ _ _
    obtain ⟨rfl, a1, c1, rfl⟩ := h1
    obtain ⟨a2, c2, rfl⟩ := h2.size
    by_cases hM : M = []
    · subst hM
      have hz : ([] : List It).length = 0 := rfl
      rw [hz]
      clear h2 hz
      go_enter Tryz.func19, Tryz.ntmps19
      go_wp2
      go_loopw [5] (fun v5 wr => v5 = .int .i64 0 ∧ wr = w) (fun _ _ => 0)
      case atStart => exact ⟨rfl, rfl⟩
      case round =>
        obtain ⟨rfl, rfl⟩ := hrel
        go_wp2
        go_ret
        exact ⟨true, rfl, ⟨fun _ => (by trivial), fun _ => rfl⟩, 0, rfl⟩
    · have hne : ¬ ((0 : Int) = (M.length : Int)) := fun e => hM (List.eq_nil_of_length_eq_zero (by omega))
      have HM := Lib.hid hM
      obtain ⟨n, hn⟩ : ∃ n, M.length = n := ⟨_, rfl⟩
      rw [hn] at hne ⊢
      have hne2 : ¬ (0 = n) := by omega
      clear h2 hM hn
      go_enter Tryz.func19, Tryz.ntmps19
      go_wp2
      go_ret
      exact ⟨false, rfl, ⟨fun h => (by cases h), fun h => (HM.out h.symm).elim⟩, 0, rfl⟩
  | succ d ih =>
    intro S T D2 v1 v2 L M w h1 h2 hm hw1 hw2
    obtain ⟨a1, c1, rfl⟩ := h1.size
    obtain ⟨a2, c2, rfl⟩ := h2.size
    have H1 := Lib.hid h1
    have H2 := Lib.hid h2
    have HIH := Lib.hid ih
    have HM := Lib.hid hm
    have HW1 := Lib.hid hw1
    have HW2 := Lib.hid hw2
    obtain ⟨n, hn⟩ : ∃ n, L.length = n := ⟨_, rfl⟩
    have HN := Lib.hid hn
    have hll : n ≤ 1000000000 := by have := len_cnt L; omega
    by_cases hlm : L.length = M.length
    · have HX := Lib.hid (items_ext hlm)
      have HLM : Hid (M.length = n) := Lib.hid (by omega)
      rw [← hlm, hn]
      clear h1 h2 ih hm hn hw1 hw2 hlm
      go_enter Tryz.func19, Tryz.ntmps19
      go_wp2
      go_loopw [5] (fun v5 wr => ∃ i : Nat, i ≤ n ∧ v5 = .int .i64 (i : Int) ∧ (∃ q, wr = w.drewN q) ∧ ∀ j, j < i → L.getD j default = M.getD j default) (fun v5 _ => n - (intOf v5).toNat)
      case atStart => exact ⟨0, Nat.zero_le _, rfl, ⟨0, rfl⟩, fun j hj => by omega⟩
      case round =>
        obtain ⟨i, hi, rfl, ⟨q, rfl⟩, hall⟩ := hrel
        have HALL := Lib.hid hall
        clear hall
        by_cases hin : i < n
        · obtain ⟨d1, hd1, b1, o1, wv1, kv1, rfl, s1, e0, e1, e2, e3, e4, e5, w1, k1⟩ := H1.out.at i (by rw [HN.out]; exact hin)
          obtain ⟨d2, hd2, b2, o2, wv2, kv2, rfl, s2, f0, f1, f2, f3, f4, f5, w2, k2⟩ := H2.out.at i (by rw [HLM.out]; exact hin)
          obtain rfl : d = d1 := by omega
          have hck := cntK_mono L (i := i + 1) (j := n) (by omega)
          rw [← HN.out, cntK_all, cntK] at hck
          have hm := HM.out
          have hwi := HW1.out.at i (by rw [HN.out]; exact hin)
          have hwi2 := HW2.out.at i (by rw [HLM.out]; exact hin)
          have HC1 : Hid (∀ W, W.heap = w.heap → Calls Tryz.prog 34 #[wv1, wv2] W (GivesS ((L.getD i default).words = (M.getD i default).words) W)) := Lib.hid (fun W hW =>
            swords_dec S T wv1 wv2 _ _ W (w1.keep (fun _ h => h) (fun b hb => by rw [hW])) (w2.keep (fun _ h => h) (fun b hb => by rw [hW])) hwi.1)
          have HC2 : Hid (∀ W, W.heap = w.heap → Calls Tryz.prog 19 #[kv1, kv2] W (GivesS ((L.getD i default).kids = (M.getD i default).kids) W)) := Lib.hid (fun W hW =>
            HIH.out S T d2 kv1 kv2 _ _ W (k1.keep (fun _ h => h) (fun b hb => by rw [hW])) (k2.keep (fun _ h => h) (fun b hb => by rw [hW])) (by omega) hwi.2 hwi2.2)
          obtain ⟨⟨nm, wd, bk, kd, pa, pb⟩, hp⟩ : ∃ p, L.getD i default = p := ⟨_, rfl⟩
          obtain ⟨⟨nm', wd', bk', kd', pa', pb'⟩, hp'⟩ : ∃ p, M.getD i default = p := ⟨_, rfl⟩
          have HP := Lib.hid hp
          have HP' := Lib.hid hp'
          have HIN : Hid (i < L.length) := Lib.hid (by rw [HN.out]; exact hin)
          rw [hp] at e0 e2 e4 e5 HC1 HC2
          rw [hp'] at f0 f2 f4 f5 HC1 HC2
          simp only [It.name, It.block, It.a, It.b, It.words, It.kids] at e0 e2 e4 e5 f0 f2 f4 f5 HC1 HC2
          have e6 : IntKind.i64.wrap ((i : Int) + 1) = ((i + 1 : Nat) : Int) := by rw [IntKind.wrap_i64]; omega
          have HNO : Hid (¬ (nm = nm' ∧ bk = bk' ∧ pa = pa' ∧ pb = pb' ∧ wd = wd' ∧ kd = kd') → ¬ L = M) := Lib.hid (fun h e => by
            have := HX.out.mp e i HIN.out
            rw [HP.out, HP'.out] at this
            injection this with g1 g2 g3 g4 g5 g6
            exact h ⟨g1, g3, g5, g6, g2, g4⟩)
          clear s1 s2 hck hm hwi hwi2 hp hp' w1 w2 k1 k2 hd1 hd2
          by_cases q1 : nm = nm'
          · subst q1
            by_cases q2 : bk = bk'
            · subst q2
              by_cases q3 : pa = pa' ∧ pb = pb'
              · obtain ⟨rfl, rfl⟩ := q3
                by_cases q4 : wd = wd'
                · by_cases q5 : kd = kd'
                  · have HQ4 := Lib.hid q4
                    have HQ5 := Lib.hid q5
                    clear q4 q5
                    go_wp2
                    go_quiet (first
                      | (go_at_call 34; exact quiet_more (GivesS.yes (HC1.out _ rfl) HQ4.out))
                      | (go_at_call 19; exact quiet_more (GivesS.yes (HC2.out _ rfl) HQ5.out)))
                    go_wp2
                    go_roundw
                    case rel => exact ⟨i + 1, by omega, by go_num, ⟨_, rfl⟩, fun j hj => by
                      rcases Nat.lt_or_ge j i with hx | hx
                      · exact HALL.out j hx
                      · obtain rfl : j = i := by omega
                        rw [HP.out, HP'.out, HQ4.out, HQ5.out]⟩
                    case measure => simp [intOf]; omega
                  · have HQ4 := Lib.hid q4
                    have HQ5 := Lib.hid q5
                    have HF : Hid (¬ L = M) := Lib.hid (HNO.out (fun h => q5 h.2.2.2.2.2))
                    clear q4 q5
                    go_wp2
                    go_quiet (first
                      | (go_at_call 34; exact quiet_more (GivesS.yes (HC1.out _ rfl) HQ4.out))
                      | (go_at_call 19; exact quiet_more (GivesS.no (HC2.out _ rfl) HQ5.out)))
                    go_wp2
                    go_ret
                    exact ⟨false, rfl, ⟨fun h => (by cases h), fun h => (HF.out h).elim⟩, _, World.drewN_drewN _ _ _⟩
                · have HQ4 := Lib.hid q4
                  have HF : Hid (¬ L = M) := Lib.hid (HNO.out (fun h => q4 h.2.2.2.2.1))
                  clear q4
                  go_wp2
                  go_quiet (first
                    | (go_at_call 34; exact quiet_more (GivesS.no (HC1.out _ rfl) HQ4.out)))
                  go_wp2
                  go_ret
                  exact ⟨false, rfl, ⟨fun h => (by cases h), fun h => (HF.out h).elim⟩, _, World.drewN_drewN _ _ _⟩
              · have HF : Hid (¬ L = M) := Lib.hid (HNO.out (fun h => q3 ⟨h.2.2.1, h.2.2.2.1⟩))
                go_wp2
                refine wp_region_quiet_lit (by kernel_rfl) (by kernel_rfl) ?_
                iterate 35 (first | go_big_quiet_step (fail) | quiet_step (fail))
                refine wpQuiet_step (fun K hK => ?_)
                go_simp
                refine ⟨.bool true, fun a => ?_, hK _ ?_⟩
                · by_cases q6 : pa = pa'
                  · rw [if_pos q6, if_neg (fun q7 => q3 ⟨q6, q7⟩)]; exact ⟨rfl, rfl⟩
                  · rw [if_neg q6]; exact ⟨rfl, rfl⟩
                clear hK K q3
                repeat (first | go_big_quiet_step (fail) | quiet_step (fail))
                refine wpQuiet_nil ?_
                intro _ hw'
                obtain ⟨nq, hw''⟩ := hw'
                subst hw''
                go_wp2
                go_ret
                exact ⟨false, rfl, ⟨fun h => (by cases h), fun h => (HF.out h).elim⟩, _, World.drewN_drewN _ _ _⟩
            · have HF : Hid (¬ L = M) := Lib.hid (HNO.out (fun h => q2 h.2.1))
              cases bk with
              | true =>
                cases bk' with
                | true => exact (q2 rfl).elim
                | false =>
                  clear q2
                  go_wp2
                  go_quiet (fail)
                  go_wp2
                  go_ret
                  exact ⟨false, rfl, ⟨fun h => (by cases h), fun h => (HF.out h).elim⟩, _, World.drewN_drewN _ _ _⟩
              | false =>
                cases bk' with
                | false => exact (q2 rfl).elim
                | true =>
                  clear q2
                  go_wp2
                  go_quiet (fail)
                  go_wp2
                  go_ret
                  exact ⟨false, rfl, ⟨fun h => (by cases h), fun h => (HF.out h).elim⟩, _, World.drewN_drewN _ _ _⟩
          · have HF : Hid (¬ L = M) := Lib.hid (HNO.out (fun h => q1 h.1))
            have hb : ¬ nm.toList = nm'.toList := fun e => q1 (toList_inj e)
            go_wp2
            refine wp_region_quiet_lit (by kernel_rfl) (by kernel_rfl) ?_
            simp only [List.append_eq, List.cons_append, List.nil_append]
            iterate 10 (go_big_quiet_step (fail))
            refine wpQuiet_step (fun K hK => ?_)
            go_simp
            have hz : ∀ b : Bool, b = false → (!b) = true := fun b h => by rw [h]; rfl
            rw [hz _ ?side]
            case side => simpa using hb
            refine hK _ ?_
            clear hK K hb
            repeat (go_big_quiet_step (fail))
            refine wpQuiet_nil ?_
            intro _ hw'
            obtain ⟨nq, hw''⟩ := hw'
            subst hw''
            go_wp2
            go_ret
            exact ⟨false, rfl, ⟨fun h => (by cases h), fun h => (HF.out h).elim⟩, _, World.drewN_drewN _ _ _⟩
        · have en : n = i := by omega
          subst en
          go_wp2
          go_ret
          exact ⟨true, rfl, ⟨fun _ => HX.out.mpr (fun j hj => HALL.out j (by rw [← HN.out]; exact hj)), fun _ => rfl⟩, q, rfl⟩
    · have HK : Hid (¬ L = M) := Lib.hid (fun e => hlm (by rw [e]))
      have hne : ¬ ((L.length : Int) = (M.length : Int)) := by omega
      obtain ⟨r2, hr2⟩ : ∃ m, M.length = m := ⟨_, rfl⟩
      rw [hn, hr2] at hne ⊢
      clear h1 h2 hn hlm hr2 ih hm hw1 hw2
      go_enter Tryz.func19, Tryz.ntmps19
      go_wp2
      go_ret
      exact ⟨false, rfl, ⟨fun h => (by cases h), fun h => (HK.out h).elim⟩, 0, rfl⟩

end Go.Proofs.YtmgimkokmlcllaaGreatDoor
