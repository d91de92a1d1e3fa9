/-
  The document's Count, Depth and Same, of trees in memory.
-/
import Derived.Test.YtmgimkokmlcllaaGreatDoorPkTrem
namespace Go.Proofs.YtmgimkokmlcllaaGreatDoor
open Go.RowKit

set_option maxRecDepth 100000 in
set_option maxHeartbeats 8000000 in
theorem scount_any : ∀ (d : Nat) (S : Nat → Prop) (v : Value) (L : List It) (w : World), ItemsIs d w S v L → (∀ b, S b → b < w.heap.size) → cntL L ≤ 1000000000 → Calls Tryz.prog 16 #[v] w fun e w' => e = .returned (.int .i64 (cntL L : Int)) ∧ Below w.heap.size w w' := by
  intro d
  induction d with
  | zero =>
    intro S v L w h _ _
    obtain ⟨rfl, a, cap, rfl⟩ := h
    have hz : cntL [] = 0 := by simp [cntL]
    rw [hz]
    go_enter Tryz.func16, Tryz.ntmps16
    go_wp2
    go_loopw [3, 4] (fun v3 v4 wr => v3 = .int .i64 0 ∧ v4 = .int .i64 0 ∧ Below w.heap.size w wr) (fun _ _ _ => 0)
    case atStart => exact ⟨rfl, rfl, Below.refl _ _⟩
    case round =>
      obtain ⟨rfl, rfl, hb⟩ := hrel
      go_wp2
      go_ret
      exact ⟨rfl, hb⟩
  | succ d ih =>
    intro S v L w h hS hm
    obtain ⟨a, cap, rfl⟩ := h.size
    have HH := Lib.hid h
    have HS := Lib.hid hS
    have HIH := Lib.hid ih
    have HM := Lib.hid hm
    obtain ⟨n, hn⟩ : ∃ n, L.length = n := ⟨_, rfl⟩
    have HN := Lib.hid hn
    have HLn : n ≤ 1000000000 := by
      have : ∀ M : List It, M.length ≤ cntL M := fun M => by
        induction M with
        | nil => simp
        | cons x M ih => obtain ⟨n, w, k, kids, a, b⟩ := x; simp only [List.length_cons, cntL]; omega
      have := this L
      omega
    rw [hn]
    clear h hS ih hm hn
    go_enter Tryz.func16, Tryz.ntmps16
    go_wp2
    go_loopw [3, 4] (fun v3 v4 wr => ∃ i : Nat, i ≤ n ∧ v3 = .int .i64 (cntK L i : Int) ∧ v4 = .int .i64 (i : Int) ∧ Below w.heap.size w wr) (fun _ v4 _ => n - (intOf v4).toNat)
    case atStart => exact ⟨0, Nat.zero_le _, rfl, rfl, Below.refl _ _⟩
    case round =>
      rename_i wr
      obtain ⟨i, hi, rfl, rfl, hb⟩ := hrel
      have HB := Lib.hid hb
      clear hb
      by_cases hin : i < n
      · obtain ⟨d', hd', b, off, wv, kv, rfl, hsb, _, _, _, x3, _, _, _, hk⟩ := HH.out.at i (by rw [HN.out]; exact hin)
        obtain rfl : d = d' := by omega
        have hlt := HS.out b hsb
        have y3 := (HB.out.cell (p := ⟨b, off + i * 6 + 3, none⟩) hlt).trans x3
        have hmk := cntK_mono L (i := i + 1) (j := n) (by omega)
        rw [← HN.out, cntK_all] at hmk
        have hm := HM.out
        have hmk2 : cntK L i + 1 + cntL (L.getD i default).kids ≤ 1000000000 := by rw [cntK] at hmk; omega
        have HC : Hid (∀ W, Below w.heap.size w W → Calls Tryz.prog 16 #[kv] W fun e w' => e = .returned (.int .i64 (cntL (L.getD i default).kids : Int)) ∧ Below W.heap.size W w') := Lib.hid (fun W hW =>
          HIH.out S kv _ W (hk.keep (fun _ h => h) (fun b hb => hW.block b (HS.out b hb))) (fun b hb => Nat.lt_of_lt_of_le (HS.out b hb) hW.size) (by omega))
        have HK : Hid (cntK L (i + 1) = cntK L i + 1 + cntL (L.getD i default).kids) := Lib.hid rfl
        obtain ⟨c, hc⟩ : ∃ c, cntK L i = c := ⟨_, rfl⟩
        obtain ⟨k, hkk⟩ : ∃ c, cntL (L.getD i default).kids = c := ⟨_, rfl⟩
        rw [hkk] at HC HK hmk2
        rw [hc] at HK hmk2
        rw [hc]
        have e1 : IntKind.i64.wrap ((c : Int) + 1) = ((c + 1 : Nat) : Int) := by rw [IntKind.wrap_i64]; omega
        have e2 : IntKind.i64.wrap (((c + 1 : Nat) : Int) + (k : Int)) = ((c + 1 + k : Nat) : Int) := by rw [IntKind.wrap_i64]; omega
        have e3 : IntKind.i64.wrap ((i : Int) + 1) = ((i + 1 : Nat) : Int) := by rw [IntKind.wrap_i64]; omega
        have HBD : Hid (c + 1 + k ≤ 1000000000) := Lib.hid hmk2
        clear x3 hmk hm hmk2 hc hkk hk hd'
        go_wp2_with (go_at_call 16; (with_reducible refine (HC.out _ HB.out).mono ?_); rintro e w1 ⟨rfl, g1⟩; have G1 := Lib.hid (below_step HB.out g1); clear g1)
        go_roundw
        case rel => exact ⟨i + 1, by omega, by rw [HK.out]; have := HBD.out; exact congrArg (Value.int .i64) (by unfold wrap64; omega), by go_num, G1.out⟩
        case measure => simp [intOf]; omega
      · have en : n = i := by omega
        subst en
        have HZ : Hid (cntK L n = cntL L) := Lib.hid (by rw [← HN.out]; exact cntK_all L)
        go_wp2
        go_ret
        exact ⟨by rw [← HZ.out]; rfl, HB.out⟩

set_option maxRecDepth 100000 in
set_option maxHeartbeats 8000000 in
theorem sdepth_any : ∀ (d : Nat) (S : Nat → Prop) (v : Value) (L : List It) (w : World), ItemsIs d w S v L → (∀ b, S b → b < w.heap.size) → L.length ≤ 1000000000 → depL L ≤ 1000000000 → cntL L ≤ 1000000000 → Calls Tryz.prog 18 #[v] w fun e w' => e = .returned (.int .i64 (depL L : Int)) ∧ Below w.heap.size w w' := by
  intro d
  induction d with
  | zero =>
    intro S v L w h _ _ _ _
    obtain ⟨rfl, a, cap, rfl⟩ := h
    have hz : depL [] = 0 := by simp [depL]
    rw [hz]
    go_enter Tryz.func18, Tryz.ntmps18
    go_wp2
    go_loopw [3, 4] (fun v3 v4 wr => v3 = .int .i64 0 ∧ v4 = .int .i64 0 ∧ Below w.heap.size w wr) (fun _ _ _ => 0)
    case atStart => exact ⟨rfl, rfl, Below.refl _ _⟩
    case round =>
      obtain ⟨rfl, rfl, hb⟩ := hrel
      go_wp2
      go_ret
      exact ⟨rfl, hb⟩
  | succ d ih =>
    intro S v L w h hS hll hm hcn
    obtain ⟨a, cap, rfl⟩ := h.size
    have HH := Lib.hid h
    have HS := Lib.hid hS
    have HIH := Lib.hid ih
    have HM := Lib.hid hm
    have HCN := Lib.hid hcn
    obtain ⟨n, hn⟩ : ∃ n, L.length = n := ⟨_, rfl⟩
    have HN := Lib.hid hn
    rw [hn] at hll ⊢
    clear h hS ih hm hn hcn
    go_enter Tryz.func18, Tryz.ntmps18
    go_wp2
    go_loopw [3, 4] (fun v3 v4 wr => ∃ i : Nat, i ≤ n ∧ v3 = .int .i64 (depK L i : Int) ∧ v4 = .int .i64 (i : Int) ∧ Below w.heap.size w wr) (fun _ v4 _ => n - (intOf v4).toNat)
    case atStart => exact ⟨0, Nat.zero_le _, rfl, rfl, Below.refl _ _⟩
    case round =>
      rename_i wr
      obtain ⟨i, hi, rfl, rfl, hb⟩ := hrel
      have HB := Lib.hid hb
      clear hb
      by_cases hin : i < n
      · obtain ⟨d', hd', b, off, wv, kv, rfl, hsb, _, _, _, x3, _, _, _, hk⟩ := HH.out.at i (by rw [HN.out]; exact hin)
        obtain rfl : d = d' := by omega
        have hlt := HS.out b hsb
        have y3 := (HB.out.cell (p := ⟨b, off + i * 6 + 3, none⟩) hlt).trans x3
        have hmk := depK_mono L (i := i + 1) (j := n) (by omega)
        rw [← HN.out, depK_all] at hmk
        have hck := cntK_mono L (i := i + 1) (j := n) (by omega)
        rw [← HN.out, cntK_all, cntK] at hck
        have hm := HM.out
        have hcn := HCN.out
        have hmk2 : depK L i ≤ 1000000000 ∧ 1 + depL (L.getD i default).kids ≤ 1000000000 := by rw [depK] at hmk; omega
        have hlk : ∀ M : List It, M.length ≤ cntL M := fun M => by
          induction M with
          | nil => simp
          | cons x M ih => obtain ⟨n, w, k, kids, a, b⟩ := x; simp only [List.length_cons, cntL]; omega
        have hlk2 := hlk (L.getD i default).kids
        have HC : Hid (∀ W, Below w.heap.size w W → Calls Tryz.prog 18 #[kv] W fun e w' => e = .returned (.int .i64 (depL (L.getD i default).kids : Int)) ∧ Below W.heap.size W w') := Lib.hid (fun W hW =>
          HIH.out S kv _ W (hk.keep (fun _ h => h) (fun b hb => hW.block b (HS.out b hb))) (fun b hb => Nat.lt_of_lt_of_le (HS.out b hb) hW.size) (by omega) (by omega) (by omega))
        have HK : Hid (depK L (i + 1) = max (depK L i) (1 + depL (L.getD i default).kids)) := Lib.hid rfl
        obtain ⟨c, hc⟩ : ∃ c, depK L i = c := ⟨_, rfl⟩
        obtain ⟨k, hkk⟩ : ∃ c, depL (L.getD i default).kids = c := ⟨_, rfl⟩
        rw [hkk] at HC HK hmk2
        rw [hc] at HK hmk2
        rw [hc]
        obtain ⟨k1, hk1⟩ : ∃ c, 1 + k = c := ⟨_, rfl⟩
        rw [hk1] at HK hmk2
        have e1 : IntKind.i64.wrap (1 + (k : Int)) = (k1 : Int) := by rw [IntKind.wrap_i64]; omega
        have e3 : IntKind.i64.wrap ((i : Int) + 1) = ((i + 1 : Nat) : Int) := by rw [IntKind.wrap_i64]; omega
        clear x3 hmk hm hmk2 hc hkk hk hd' hck hcn hlk hlk2 hk1
        by_cases hg : c < k1
        · have hg2 : (c : Int) < (k1 : Int) := by omega
          have HK2 : Hid (depK L (i + 1) = k1) := Lib.hid (by rw [HK.out]; omega)
          go_wp2_with (go_at_call 18; (with_reducible refine (HC.out _ HB.out).mono ?_); rintro e w1 ⟨rfl, g1⟩; have G1 := Lib.hid (below_step HB.out g1); clear g1)
          go_roundw
          case rel => exact ⟨i + 1, by omega, by rw [HK2.out], by go_num, G1.out⟩
          case measure => simp [intOf]; omega
        · have hg2 : ¬ (c : Int) < (k1 : Int) := by omega
          have HK2 : Hid (depK L (i + 1) = c) := Lib.hid (by rw [HK.out]; omega)
          go_wp2_with (go_at_call 18; (with_reducible refine (HC.out _ HB.out).mono ?_); rintro e w1 ⟨rfl, g1⟩; have G1 := Lib.hid (below_step HB.out g1); clear g1)
          go_roundw
          case rel => exact ⟨i + 1, by omega, by rw [HK2.out], by go_num, G1.out⟩
          case measure => simp [intOf]; omega
      · have en : n = i := by omega
        subst en
        have HZ : Hid (depK L n = depL L) := Lib.hid (by rw [← HN.out]; exact depK_all L)
        go_wp2
        go_ret
        exact ⟨by rw [← HZ.out]; rfl, HB.out⟩

end Go.Proofs.YtmgimkokmlcllaaGreatDoor

/-
  The document's Same, of words and of trees in memory that are the same: it only reads.
-/
namespace Go.Proofs.YtmgimkokmlcllaaGreatDoor
open Go.RowKit

end Go.Proofs.YtmgimkokmlcllaaGreatDoor
