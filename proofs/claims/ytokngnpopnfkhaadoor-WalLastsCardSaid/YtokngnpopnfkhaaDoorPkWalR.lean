/-
  The document's own functions of layer 10, walked: On, Used, Text, With, Read.
-/
import Derived.Test.YtokngnpopnfkhaaDoorPkBase
import Derived.Test.YtokngnpopnfkhaaDoorPkCrc
import Derived.RegionTactic
import Derived.StillTailTactics
import Derived.Laws.OwnMore
namespace Go.Proofs.YtokngnpopnfkhaaDoor
open Go.RowKit

theorem rw_str_ext (l : List Int) (hb : ∀ z ∈ l, 0 ≤ z ∧ z ≤ 255) (i j : Nat) : (strOfNums l).extract i j = strOfNums ((l.drop i).take (j - i)) := by
  have h1 : nums ((strOfNums l).extract i j) = ((nums (strOfNums l)).drop i).take (j - i) := by
    simp only [nums, ByteArray.data_extract, Array.toList_extract, List.extract_eq_take_drop, List.map_take, List.map_drop]
  rw [nums_strOfNums l hb] at h1
  rw [← h1, strOfNums_nums]
theorem rw_str_len (l : List Int) : (strOfNums l).size = l.length := by rw [← nums_length]; simp [nums, strOfNums]

set_option maxRecDepth 100000 in
set_option maxHeartbeats 4000000 in
theorem ron_any (n : Nat) (from_ k : Int) (w : World) (hn : n ≤ 1000000) (f0 : -9223372036854775808 ≤ from_) (f1 : from_ ≤ 9223372036854775807) (_k0 : -9223372036854775808 ≤ k) (_k1 : k ≤ 9223372036854775807) :
    Calls Tryd.prog 11 #[.int .i64 (n : Int), .int .i64 from_, .int .i64 k] w fun e w' => e = .returned (.bool (decide (0 ≤ from_ ∧ 1 ≤ k ∧ from_ < (n : Int) ∧ k ≤ (n : Int) - from_))) ∧ w' = w := by
  by_cases h1 : 0 ≤ from_
  case neg =>
    rw [show decide (0 ≤ from_ ∧ 1 ≤ k ∧ from_ < (n : Int) ∧ k ≤ (n : Int) - from_) = false from by simp [h1]]
    go_enter Tryd.func11, Tryd.ntmps11
    go_wp2
    go_ret
    exact ⟨rfl, rfl⟩
  case pos =>
  by_cases h2 : 1 ≤ k
  case neg =>
    rw [show decide (0 ≤ from_ ∧ 1 ≤ k ∧ from_ < (n : Int) ∧ k ≤ (n : Int) - from_) = false from by simp [h2]]
    go_enter Tryd.func11, Tryd.ntmps11
    go_wp2
    go_ret
    exact ⟨rfl, rfl⟩
  case pos =>
  by_cases h3 : from_ < (n : Int)
  case neg =>
    rw [show decide (0 ≤ from_ ∧ 1 ≤ k ∧ from_ < (n : Int) ∧ k ≤ (n : Int) - from_) = false from by simp [h3]]
    go_enter Tryd.func11, Tryd.ntmps11
    go_wp2
    go_ret
    exact ⟨rfl, rfl⟩
  case pos =>
  have hw : IntKind.i64.wrap ((n : Int) - from_) = (n : Int) - from_ := by rw [IntKind.wrap_i64]; omega
  by_cases h4 : k ≤ (n : Int) - from_
  case neg =>
    rw [show decide (0 ≤ from_ ∧ 1 ≤ k ∧ from_ < (n : Int) ∧ k ≤ (n : Int) - from_) = false from by simp [h4]]
    go_enter Tryd.func11, Tryd.ntmps11
    go_wp2
    go_ret
    exact ⟨rfl, rfl⟩
  case pos =>
    rw [show decide (0 ≤ from_ ∧ 1 ≤ k ∧ from_ < (n : Int) ∧ k ≤ (n : Int) - from_) = true from by simp [h1, h2, h3, h4]]
    go_enter Tryd.func11, Tryd.ntmps11
    go_wp2
    go_ret
    exact ⟨rfl, rfl⟩

set_option maxRecDepth 100000 in
set_option maxHeartbeats 4000000 in
theorem rused_any (base : Nat) (F : Foot) (m : Nat) (L : List (List Int)) (all : Nat) (w : World) (h : RLog w base F m L all) (hU : usedL L ≤ 1000000) :
    Calls Tryd.prog 18 #[.pointer (some ⟨m, 0, none⟩)] w fun e w' => e = .returned (.int .i64 (usedL L : Int)) ∧ w' = w := by
  obtain ⟨⟨v, c0, hl⟩, _, _, _, _, _⟩ := h
  obtain ⟨a, cap, rfl⟩ := hl.size
  have HA := Lib.hid hl.argLL
  obtain ⟨N, hN⟩ : ∃ N, L.length = N := ⟨_, rfl⟩
  have HT := Lib.hid (fun k (hk : k < N) => used_take L k (by rw [hN]; exact hk))
  have HLE := Lib.hid (fun k => used_take_le L k)
  have HEND : Hid (usedL (L.take N) = usedL L) := by unfold Hid; rw [← hN, List.take_length]
  rw [hN] at c0
  have HC : Hid (∀ i, i < N → ∃ b off cap' vi, Value.slice a N cap = .slice (some ⟨b, off, none⟩) N cap' ∧ w.cell? ⟨b, off + i, none⟩ = some vi ∧ ArgB w vi (L.getD i [])) := fun i hi => by
    obtain ⟨b, off, cap', vs, e, hc⟩ := HA.out.at (by omega)
    rw [hN] at e hc
    exact ⟨b, off, cap', vs i, e, (hc i hi).1, (hc i hi).2⟩
  have HU := Lib.hid hU
  have hNN : N ≤ 100000 := by have := used_many L; omega
  clear hl hN HA hU
  go_enter Tryd.func18, Tryd.ntmps18
  go_wp2
  go_loop [3, 4] (fun v3 v4 => ∃ k : Nat, v4 = .int .i64 (k : Int) ∧ k ≤ N ∧ v3 = .int .i64 (usedL (L.take k) : Nat)) (fun _ v4 => N - (intOf v4).toNat)
  case atStart => exact ⟨0, rfl, Nat.zero_le _, by simp [usedL]⟩
  case round =>
    obtain ⟨k, rfl, hk, rfl⟩ := hrel
    by_cases hlt : k < N
    · obtain ⟨b, off, cap', vi, e, hcell, hai⟩ := HC.out k hlt
      simp only [Value.slice.injEq, true_and] at e
      obtain ⟨rfl, rfl⟩ := e
      have hnx := HT.out k hlt
      have hle := HLE.out (k + 1)
      have hu := HU.out
      obtain ⟨U, hUk⟩ : ∃ U, usedL (L.take k) = U := ⟨_, rfl⟩
      obtain ⟨x, hx⟩ : ∃ x, L.getD k [] = x := ⟨_, rfl⟩
      rw [hUk, hx] at hnx
      rw [hx] at hai
      obtain ⟨xa, xc, rfl⟩ := hai.size
      have hw1 : IntKind.i64.wrap ((U : Int) + (x.length : Int)) = (U : Int) + (x.length : Int) := by rw [IntKind.wrap_i64]; omega
      have hw2 : IntKind.i64.wrap ((U : Int) + (x.length : Int) + 10) = (U : Int) + (x.length : Int) + 10 := by rw [IntKind.wrap_i64]; omega
      have HNX := Lib.hid hnx
      have HW2 := Lib.hid hw2
      have hin : (k : Int) < (N : Int) := by omega
      rw [hUk]
      clear hnx hle hu hai hUk hx
      go_wp2
      go_round
      case rel => exact ⟨k + 1, by go_num, hlt, by rw [HNX.out]; go_num⟩
      case measure => simp [intOf]; omega
    · obtain rfl : k = N := by omega
      go_wp2
      go_ret
      rw [HEND.out]
      exact ⟨rfl, rfl⟩

set_option maxRecDepth 100000 in
set_option maxHeartbeats 4000000 in
theorem rtext_any (base : Nat) (F : Foot) (m : Nat) (L : List (List Int)) (all : Nat) (w : World) (h : RLog w base F m L all) (hU : usedL L ≤ all) (hall : all ≤ 400000) (hb : ∀ b ∈ L, ∀ z ∈ b, 0 ≤ z ∧ z ≤ 255) :
    Calls Tryd.prog 21 #[.pointer (some ⟨m, 0, none⟩)] w fun e w' => e = .returned (.string (strOfNums (textL L all))) ∧ Below w.heap.size w w' := by
  have HR := Lib.hid h
  obtain ⟨⟨v, c0, hl⟩, c1, _, hms, _, _⟩ := h
  obtain ⟨a, cap, rfl⟩ := hl.size
  have HA := Lib.hid hl.argLL
  obtain ⟨N, hN⟩ : ∃ N, L.length = N := ⟨_, rfl⟩
  have HT := Lib.hid (fun k (hk : k < N) => used_take L k (by rw [hN]; exact hk))
  have HFT := Lib.hid (fun k (hk : k < N) => frames_take L k (by rw [hN]; exact hk))
  have HLE := Lib.hid (fun k => used_take_le L k)
  have HBY := Lib.hid (fun k (hk : k < N) => hb (L.getD k []) (by rw [List.getD_eq_getElem?_getD, List.getElem?_eq_getElem (by omega)]; exact List.getElem_mem _))
  have HEND : Hid (L.take N = L) := by unfold Hid; rw [← hN, List.take_length]
  rw [hN] at c0
  have HC : Hid (∀ i, i < N → ∃ b off cap' vi, Value.slice a N cap = .slice (some ⟨b, off, none⟩) N cap' ∧ w.cell? ⟨b, off + i, none⟩ = some vi ∧ ArgB w vi (L.getD i [])) := fun i hi => by
    obtain ⟨b, off, cap', vs, e, hc⟩ := HA.out.at (by omega)
    rw [hN] at e hc
    exact ⟨b, off, cap', vs i, e, (hc i hi).1, (hc i hi).2⟩
  have HU := Lib.hid (And.intro hU hall)
  have HC0 := Lib.hid c0
  have HC1 := Lib.hid c1
  have hNN : N ≤ 100000 := by have := used_many L; omega
  clear hl hN HA hU hall c0 c1 hb
  go_enter Tryd.func21, Tryd.ntmps21
  go_wp2
  go_loopw [3, 4] (fun v3 v4 wr => ∃ k : Nat, v4 = .int .i64 (k : Int) ∧ k ≤ N ∧ v3 = .string (strOfNums (framesL (L.take k))) ∧ Below w.heap.size w wr) (fun _ v4 _ => N - (intOf v4).toNat)
  case atStart => exact ⟨0, rfl, Nat.zero_le _, rfl, Below.refl _ _⟩
  case round =>
    obtain ⟨k, rfl, hk, rfl, hB⟩ := hrel
    have c0 := (hB.cell (p := ⟨m, 0, none⟩) hms).trans HC0.out
    have c1 := (hB.cell (p := ⟨m, 1, none⟩) hms).trans HC1.out
    have HB := Lib.hid hB
    by_cases hlt : k < N
    · obtain ⟨b, off, cap', vi, e, hcell, hai⟩ := HC.out k hlt
      simp only [Value.slice.injEq, true_and] at e
      obtain ⟨rfl, rfl⟩ := e
      have hcr := (hB.cell (World.block_lt_of_cell? _ _ hcell)).trans hcell
      have hnx := HFT.out k hlt
      have hut := HT.out k hlt
      have hle := HLE.out (k + 1)
      have hu := HU.out
      have hby := HBY.out k hlt
      have har := hai.below hB
      obtain ⟨x, hx⟩ : ∃ x, L.getD k [] = x := ⟨_, rfl⟩
      obtain ⟨T, hT⟩ : ∃ T, framesL (L.take k) = T := ⟨_, rfl⟩
      have hTl : T.length = usedL (L.take k) := by rw [← hT, frames_len]
      rw [hx] at hnx hut har hby
      rw [hT] at hnx
      have HFR := Lib.hid (rcframe_any vi x wr har hby (by omega))
      have HNX := Lib.hid hnx
      have HFB := Lib.hid (frameL_byte hby)
      have hsz : Hid ((strOfNums T).size + (strOfNums (frameL x)).size ≤ 1000000) := by unfold Hid; rw [rw_str_len, rw_str_len, frameL_len]; omega
      have hn1 : ¬ (9223372036854775807 < (strOfNums T).size + (strOfNums (frameL x)).size) := by have := hsz.out; omega
      have hin : (k : Int) < (N : Int) := by omega
      rw [hT]
      clear hnx hut hle hu hby har hai hcell hB hTl hx hT
      go_wp2_with (go_at_call 41; (with_reducible refine (HFR.out).mono ?_); rintro e w2 ⟨xg, xcap, rfl, a2, g2⟩; have HB2 := Lib.hid (below_step HB.out g2); have hcv := conv_arg a2.argB HFB.out; clear g2 a2)
      go_roundw
      case rel => exact ⟨k + 1, by go_num, hlt, by rw [HNX.out, strOfNums_append], HB2.out⟩
      case measure => simp [intOf]; omega
    · obtain rfl : k = N := by omega
      have hu := HU.out
      obtain ⟨T, hT⟩ : ∃ T, framesL L = T := ⟨_, rfl⟩
      have hTl : T.length = usedL L := by rw [← hT, frames_len]
      have hfin : Hid (textL L all = T ++ List.replicate (all - T.length) 0) := by unfold Hid textL; rw [hT, hTl]
      rw [HEND.out, hT]
      obtain ⟨Z, hZ⟩ : ∃ Z, all - T.length = Z := ⟨_, rfl⟩
      rw [hZ] at hfin
      have hszT : (strOfNums T).size = T.length := rw_str_len T
      have hsub : IntKind.i64.wrap ((all : Int) - ((strOfNums T).size : Int)) = (Z : Int) := by rw [hszT, IntKind.wrap_i64]; omega
      obtain ⟨i0, hi, hz0, hz1, hz2⟩ := info_parts info_byte
      obtain ⟨w1, hr, hO, hg⟩ := run_make_full (P := Tryd.prog) wr wr.heap.size 38 5 i0 (.int .u8 0) 1 Tryd.underlying38 hi hz0 hz1 .i64 .i64 Z (by rw [hz2]; omega) (by unfold maxLen; omega) (Nat.le_refl _)
      have hcell : ∀ i, i < Z → w1.cell? ⟨wr.heap.size, i, none⟩ = some (.int .u8 ((List.replicate Z (0 : Int)).getD i 0)) := fun i hi => by
        have h1 := hO.cells (g := wr.heap.size) rfl i (.int .u8 0) (by rw [Nat.mul_one]; show (madeCells #[Value.int .u8 0] Z).toList[i]? = _; rw [toList_madeCells_one, List.getElem?_replicate, if_pos hi])
        rw [List.getD_eq_getElem?_getD, List.getElem?_replicate, if_pos hi]
        rcases i with _ | i <;> simpa [Addr.add] using h1
      have hA : ArgB w1 (.slice (some ⟨wr.heap.size, 0, none⟩) Z Z) (List.replicate Z 0) := by
        refine Or.inr ⟨⟨wr.heap.size, 0, none⟩, Z, by rw [List.length_replicate], by rw [List.length_replicate]; exact Nat.le_refl _, fun i hi => ?_⟩
        rw [List.length_replicate] at hi
        have e : (⟨wr.heap.size, 0, none⟩ : Addr).add i = ⟨wr.heap.size, i, none⟩ := by unfold Addr.add; split <;> simp_all
        rw [e]; exact hcell i hi
      have hcv := conv_arg hA (fun z hz => by obtain ⟨_, rfl⟩ := List.mem_replicate.mp hz; omega)
      have HB1 : Hid (Below w.heap.size w w1) := below_step HB.out ((Below.refl _ _).grown hg (Nat.le_refl _) (fun b hk => by cases hk))
      have hsz : (strOfNums T).size + (strOfNums (List.replicate Z (0 : Int))).size ≤ 1000000 := by rw [rw_str_len, rw_str_len, List.length_replicate]; omega
      have hn1 : ¬ (9223372036854775807 < (strOfNums T).size + (strOfNums (List.replicate Z (0 : Int))).size) := by omega
      clear hA hcell hO hg hi hz0 hz1 hz2 hsz hszT hu hT hTl hZ hB
      obtain ⟨X, hX⟩ : ∃ X, strOfNums (List.replicate Z (0 : Int)) = X := ⟨_, rfl⟩
      have HX := Lib.hid hX
      rw [hX] at hcv hn1
      clear hX
      go_wp2
      go_ret
      rw [hfin.out, ← strOfNums_append, HX.out]
      exact ⟨rfl, HB1.out⟩

set_option maxRecDepth 100000 in
set_option maxHeartbeats 4000000 in
theorem rwith_any (base : Nat) (F : Foot) (v yv : Value) (L : List (List Int)) (y : List Int) (w : World) (h : LLF w base F v L) (hy : ArgB w yv y) (hyb : y ≠ [] → ∀ b, yv.ownBlock = some b → F b ∨ b < base) (hF : ∀ i, F i → base ≤ i ∧ i < w.heap.size) (hbase : base ≤ w.heap.size) (hl : L.length ≤ 1000000) :
    Calls Tryd.prog 23 #[v, yv] w fun e w' => ∃ v', e = .returned v' ∧ LLF w' base (fun i => F i ∨ (w.heap.size ≤ i ∧ i < w'.heap.size)) v' (L ++ [y]) ∧ Below w.heap.size w w' := by
  obtain ⟨a, cap, rfl⟩ := h.size
  obtain ⟨ya, yc, rfl⟩ := hy.size
  have HA := Lib.hid h.argLL
  have HH := Lib.hid h
  have HY := Lib.hid hy
  have HYB := Lib.hid hyb
  have HFF := Lib.hid hF
  have HBS := Lib.hid hbase
  obtain ⟨N, hN⟩ : ∃ N, L.length = N := ⟨_, rfl⟩
  have HN := Lib.hid hN
  have HC : Hid (∀ i, i < N → ∃ b off cap' vi, Value.slice a N cap = .slice (some ⟨b, off, none⟩) N cap' ∧ w.cell? ⟨b, off + i, none⟩ = some vi ∧ ArgB w vi (L.getD i []) ∧ (L.getD i [] ≠ [] → ∀ b, vi.ownBlock = some b → (F b ∨ b < base) ∧ b < w.heap.size)) := fun i hi => by
    obtain ⟨vs, h1, h2, h3, h4⟩ := HH.out
    rcases h1.cases with ⟨e, e2⟩ | h1
    · subst e2; simp at h2; omega
    · obtain ⟨g, c, e, _⟩ := h1.form
      rw [e] at h1
      refine ⟨g, 0, c, vs.getD i undef, ?_, by rw [Nat.zero_add]; exact h1.at i (by omega), (h4 i (by omega)).1, fun hn b hb => ⟨((h4 i (by omega)).2 hn b hb).2, (h4 i (by omega)).1.lt hn hb⟩⟩
      rw [← hN, e, h2]
  have HTK : Hid (∀ k, k < N → L.take (k + 1) = L.take k ++ [L.getD k []]) := fun k hk => by rw [List.take_succ_eq_append_getElem (by omega), List.getD_eq_getElem?_getD, List.getElem?_eq_getElem (by omega)]; rfl
  have HEND : Hid (L.take N = L) := by unfold Hid; rw [← hN, List.take_length]
  rw [hN] at hl
  rw [show (Value.slice a L.length cap) = .slice a N cap by rw [hN]]
  clear hN h hy hyb hF HA
  go_enter Tryd.func23, Tryd.ntmps23
  go_wp2
  go_loopw [5, 6] (fun v5 v6 wr => ∃ k : Nat, v6 = .int .i64 (k : Int) ∧ k ≤ N ∧ LLF wr base (fun i => F i ∨ (w.heap.size ≤ i ∧ i < wr.heap.size)) v5 (L.take k) ∧ Below w.heap.size w wr ∧ ∀ b, v5.ownBlock = some b → w.heap.size ≤ b) (fun _ v6 _ => N - (intOf v6).toNat)
  case atStart =>
    refine ⟨0, rfl, Nat.zero_le _, ⟨[], (OwnRow.fresh 38 w base _ rfl hbase).rowN, rfl, fun b hb => ?_, fun i hi => by cases hi⟩, (Below.refl _ _).alloc (Nat.le_refl _) _, fun b hb => by cases hb; exact Nat.le_refl _⟩
    cases hb
    exact Or.inr ⟨Nat.le_refl _, by simp⟩
  case round =>
    obtain ⟨k, rfl, hk, hLr, hB, hO⟩ := hrel
    obtain ⟨T, hTT⟩ : ∃ T, L.take k = T := ⟨_, rfl⟩
    have HTT := Lib.hid hTT
    have hTl : T.length = k := by rw [← hTT, List.length_take, HN.out]; omega
    rw [hTT] at hLr
    clear hTT
    obtain ⟨a5, c5, rfl⟩ := hLr.size
    have hTl2 := Lib.hid hTl
    clear hTl
    have HL := Lib.hid hLr
    have HB := Lib.hid hB
    have HO := Lib.hid hO
    clear hO
    by_cases hlt : k < N
    · obtain ⟨b, off, cap', vi, e, hcell, hai, hbl⟩ := HC.out k hlt
      simp only [Value.slice.injEq, true_and] at e
      obtain ⟨rfl, rfl⟩ := e
      have hcr := (hB.cell (World.block_lt_of_cell? _ _ hcell)).trans hcell
      have har := hai.below hB
      obtain ⟨x, hx⟩ : ∃ x, L.getD k [] = x := ⟨_, rfl⟩
      have htk := HTK.out k hlt
      rw [hx] at har hbl htk
      rw [HTT.out] at htk
      have HTK1 := Lib.hid htk
      obtain ⟨xa, xc, rfl⟩ := har.size
      have HG := Lib.hid ((Below.refl wr.heap.size wr).alloc (Nat.le_refl _) (.cells #[.slice xa x.length xc] 38))
      have hl4 := HL.out.after HG.out
      have HL4 := Lib.hid hl4
      clear hl4
      have HAR := Lib.hid (har.below HG.out)
      have HC4 : Hid ((wr.alloc (.cells #[.slice xa x.length xc] 38)).cell? ⟨wr.heap.size, 0, none⟩ = some (.slice xa x.length xc)) := by unfold Hid; rw [World.cell?_alloc_new]; rfl
      have hin : (k : Int) < (N : Int) := by omega
      have HNE : Hid (x ≠ [] → ∀ b, (Value.slice xa x.length xc).ownBlock = some b → (Value.slice a5 T.length c5).ownBlock ≠ some b ∧ ((F b ∨ (w.heap.size ≤ b ∧ b < wr.heap.size)) ∨ b < base)) := fun hn b hb => by
        obtain ⟨q1, q2⟩ := hbl hn b hb
        refine ⟨fun e => ?_, ?_⟩
        · have := HO.out b e; omega
        · rcases q1 with q1 | q1
          · exact Or.inl (Or.inl q1)
          · exact Or.inr q1
      have HLEN : Hid (T.length ≤ 1000000) := by have := hTl2.out; unfold Hid; omega
      have HB4 : Hid (base ≤ (wr.alloc (.cells #[.slice xa x.length xc] 38)).heap.size) := by have := hB.size; have := HBS.out; unfold Hid; simp; omega
      clear hai hbl hx har htk hcell hB hLr
      go_wp2_with (at_builtin; (refine wp_moreF rfl _ _ rfl base _ _ T rfl HL4.out wr.heap.size _ x rfl HC4.out HAR.out HNE.out HLEN.out HB4.out ?_))
      intro v' w' k1 k2 k3
      have K1 := Lib.hid k1
      have K2 := Lib.hid k2
      have K3 := Lib.hid k3
      clear k1 k2 k3
      go_wp2
      go_roundw
      case rel =>
        refine ⟨k + 1, by go_num, hlt, ?_, ?_, fun b hb => ?_⟩
        · rw [HTK1.out]
          have s1 := K2.out.size
          have s2 := HG.out.size
          refine K1.out.weak (fun i hi => ?_)
          rcases hi with (hi | hi) | hi
          · exact Or.inl hi
          · exact Or.inr ⟨hi.1, by omega⟩
          · have := HB.out.size
            exact Or.inr ⟨by omega, hi.2⟩
        · have b2 : Below w.heap.size w (wr.alloc (.cells #[.slice xa x.length xc] 38)) := below_step HB.out HG.out
          have hk2 := K2.out
          refine ⟨hk2.bel.os.trans b2.os, hk2.bel.tape.trans b2.tape, hk2.bel.output.trans b2.output, Nat.le_trans b2.size hk2.size, fun i hi => ?_⟩
          have hlt2 : i < (wr.alloc (.cells #[.slice xa x.length xc] 38)).heap.size := Nat.lt_of_lt_of_le hi b2.size
          exact (hk2.keep i hlt2 (fun e => by have := HO.out i e.symm; omega)).trans (b2.block i hi)
        · have s2 := HG.out.size
          have := HB.out.size
          rcases K3.out b hb with e | e
          · exact HO.out b e
          · omega
      case measure => simp [intOf]; omega
    · obtain rfl : k = N := by omega
      have HG := Lib.hid ((Below.refl wr.heap.size wr).alloc (Nat.le_refl _) (.cells #[.slice ya y.length yc] 38))
      have hl4 := HL.out.after HG.out
      have HL4 := Lib.hid hl4
      clear hl4
      have hyr := HY.out.below hB
      have HAR := Lib.hid (hyr.below HG.out)
      have HC4 : Hid ((wr.alloc (.cells #[.slice ya y.length yc] 38)).cell? ⟨wr.heap.size, 0, none⟩ = some (.slice ya y.length yc)) := by unfold Hid; rw [World.cell?_alloc_new]; rfl
      have HNE : Hid (y ≠ [] → ∀ b, (Value.slice ya y.length yc).ownBlock = some b → (Value.slice a5 T.length c5).ownBlock ≠ some b ∧ ((F b ∨ (w.heap.size ≤ b ∧ b < wr.heap.size)) ∨ b < base)) := fun hn b hb => by
        have q1 := HYB.out hn b hb
        have q2 := HY.out.lt hn hb
        refine ⟨fun e => ?_, ?_⟩
        · have := HO.out b e; omega
        · rcases q1 with q1 | q1
          · exact Or.inl (Or.inl q1)
          · exact Or.inr q1
      have HLEN : Hid (T.length ≤ 1000000) := by have := hTl2.out; unfold Hid; omega
      have HB4 : Hid (base ≤ (wr.alloc (.cells #[.slice ya y.length yc] 38)).heap.size) := by have := hB.size; have := HBS.out; unfold Hid; simp; omega
      clear hyr hB hLr
      go_wp2_with (at_builtin; (refine wp_moreF rfl _ _ rfl base _ _ T rfl HL4.out wr.heap.size _ y rfl HC4.out HAR.out HNE.out HLEN.out HB4.out ?_))
      intro v' w' k1 k2 k3
      have K1 := Lib.hid k1
      have K2 := Lib.hid k2
      clear k1 k2 k3
      go_wp2
      go_ret
      refine ⟨_, rfl, ?_, ?_⟩
      · have h1 := K1.out
        rw [← HTT.out, HEND.out] at h1
        have s1 := K2.out.size
        have s2 := HG.out.size
        refine h1.weak (fun i hi => ?_)
        rcases hi with (hi | hi) | hi
        · exact Or.inl hi
        · exact Or.inr ⟨hi.1, by omega⟩
        · have := HB.out.size
          exact Or.inr ⟨by omega, hi.2⟩
      · have b2 : Below w.heap.size w (wr.alloc (.cells #[.slice ya y.length yc] 38)) := below_step HB.out HG.out
        have hk2 := K2.out
        refine ⟨hk2.bel.os.trans b2.os, hk2.bel.tape.trans b2.tape, hk2.bel.output.trans b2.output, Nat.le_trans b2.size hk2.size, fun i hi => ?_⟩
        have hlt2 : i < (wr.alloc (.cells #[.slice ya y.length yc] 38)).heap.size := Nat.lt_of_lt_of_le hi b2.size
        exact (hk2.keep i hlt2 (fun e => by have := HO.out i e.symm; omega)).trans (b2.block i hi)

end Go.Proofs.YtokngnpopnfkhaaDoor
