/-
  The document's own Get of layer 7, walked.
-/
import Derived.Test.YtejelednnacnaaaGreatDoorPkBase
import Derived.Deep.QuietTactic
import Derived.BigQuiet
import Derived.StillTailTactics
import Derived.RegionTactic
namespace Go.Proofs.YtejelednnacnaaaGreatDoor
open Go.RowKit

set_option maxRecDepth 100000 in
set_option maxHeartbeats 4000000 in
theorem rwget_end (v : Value) (B : List Int) (at_ : Nat) (kind most : Int) (w : World) (hv : Ints .u8 w v B) (ha : B.length ≤ at_) (_ha9 : (at_ : Int) ≤ 1000000) :
    Calls Tryz.prog 31 #[v, .int .i64 at_, .agg #[.int .i64 kind, .int .i64 most]] w (GivesGet B (takeT kind most (B.drop at_)) w) := by
  obtain ⟨g, o, cap, rfl, hcap, hg, hcell⟩ := hv
  go_enter Tryz.func31, Tryz.ntmps31
  go_wp2
  have M := GtM.start w kind most
  obtain ⟨r0, r1, r2, r3, _, _, _, _, _⟩ := M.r
  refine bodyPost_ret (v := .tuple #[.agg #[.int .u64 0, .int .i64 0, .string ⟨#[]⟩, .bool false], .int .i64 0, .bool false]) (by simp [results, Tryz.results31, go_sem, r0, r1, r2, r3]) rfl (GivesGet.none (by rw [List.drop_eq_nil_of_le ha]; rfl) ?_)
  exact M.bel

set_option maxRecDepth 100000 in
set_option maxHeartbeats 4000000 in
theorem rwget_flag (v : Value) (B : List Int) (at_ : Nat) (most : Int) (w : World) (hv : Ints .u8 w v B) (hb : ∀ z ∈ B, 0 ≤ z ∧ z ≤ 255) (ha : at_ < B.length) (hB : B.length ≤ 1000000) :
    Calls Tryz.prog 31 #[v, .int .i64 at_, .agg #[.int .i64 3, .int .i64 most]] w (GivesGet B (takeT 3 most (B.drop at_)) w) := by
  obtain ⟨g, o, cap, rfl, hcap, hg, hcell⟩ := hv
  have M := GtM.start w 3 most
  have hc := old3 hg (hcell at_ ha)
  have hk := hb (B.getD at_ 0) (by rw [List.getD_eq_getElem?_getD, List.getElem?_eq_getElem ha]; exact List.getElem_mem _)
  have hd := drop_cons ha
  obtain ⟨k, hkk⟩ : ∃ k, B.getD at_ 0 = k := ⟨_, rfl⟩
  rw [hkk] at hc hk hd
  obtain ⟨d1, d2, d3⟩ := drop_back B (at_ + 1) (by omega)
  have hT : Hid (takeT 3 most (B.drop at_) = if k < 2 then some ({ f := decide (k = 1) }, B.drop (at_ + 1)) else none) := by unfold Hid; rw [hd]; rfl
  rw [hT.out]
  replace M := Lib.hid M
  obtain ⟨b0, b1, _, _, _⟩ := M.out.b
  obtain ⟨r0, r1, r2, r3, t0, t1, t2, t3, s0⟩ := M.out.r
  have hca : (at_ : Int) < (B.length : Int) := by omega
  have ha0 : ¬ (at_ : Int) ≥ (B.length : Int) := by omega
  replace d1 := Lib.hid d1
  replace d2 := Lib.hid d2
  replace d3 := Lib.hid d3
  clear hcell hd hkk hb
  obtain ⟨k0, k9⟩ := hk
  by_cases h2 : k < 2
  · rw [if_pos h2]
    have hk01 : k = 0 ∨ k = 1 := by omega
    clear h2
    have hgne : ¬ w.heap.size + 1 = g := by omega
    have hgne2 : ¬ g = w.heap.size + 1 := by omega
    rcases hk01 with rfl | rfl
    · go_enter Tryz.func31, Tryz.ntmps31
      go_wp2
      go_region
      go_wp2
      refine bodyPost_ret (v := .tuple #[.agg #[.int .u64 0, .int .i64 0, .string ⟨#[]⟩, .bool false], .int .i64 ((at_ : Int) + 1), .bool true]) (by simp [results, Tryz.results31, go_sem, r0, r1, r2, r3]) rfl (GivesGet.some rfl d1.out d2.out (by rw [d3.out]; omega) rfl ?_)
      exact (below3 w _ _ _).drew
    · go_enter Tryz.func31, Tryz.ntmps31
      go_wp2
      go_region
      go_wp2
      refine bodyPost_ret (v := .tuple #[.agg #[.int .u64 0, .int .i64 0, .string ⟨#[]⟩, .bool true], .int .i64 ((at_ : Int) + 1), .bool true]) (by simp [results, Tryz.results31, go_sem]) rfl (GivesGet.some rfl d1.out d2.out (by rw [d3.out]; omega) rfl ?_)
      exact (below3 w _ _ _).drew
  · rw [if_neg h2]
    have hgne : ¬ w.heap.size + 1 = g := by omega
    have hgne2 : ¬ g = w.heap.size + 1 := by omega
    have hk1 : (k == 1) = false := by simp; omega
    have hk2 : decide (k < 2) = false := by simpa using h2
    clear h2
    go_enter Tryz.func31, Tryz.ntmps31
    go_wp2
    go_region
    go_wp2
    refine bodyPost_ret (v := .tuple #[.agg #[.int .u64 0, .int .i64 0, .string ⟨#[]⟩, .bool false], .int .i64 ((at_ : Int) + 1), .bool false]) (by simp [results, Tryz.results31, go_sem, r0, r1, r2, r3]) rfl (GivesGet.none rfl ?_)
    exact (below3 w _ _ _).drew

-- GET
set_option maxRecDepth 100000 in
set_option maxHeartbeats 4000000 in
theorem rwget_num (v : Value) (B : List Int) (at_ K : Nat) (most : Int) (w : World) (hv : Ints .u8 w v B) (hb : ∀ z ∈ B, 0 ≤ z ∧ z ≤ 255) (ha : at_ < B.length) (hB : B.length ≤ 1000000) (hK : B.getD at_ 0 = (K : Int)) :
    Calls Tryz.prog 31 #[v, .int .i64 at_, .agg #[.int .i64 0, .int .i64 most]] w (GivesGet B (takeT 0 most (B.drop at_)) w) := by
  obtain ⟨g, o, cap, rfl, hcap, hg, hcell⟩ := hv
  have hc := old3 hg (hcell at_ ha)
  rw [hK] at hc
  have hk := hb (B.getD at_ 0) (by rw [List.getD_eq_getElem?_getD, List.getElem?_eq_getElem ha]; exact List.getElem_mem _)
  rw [hK] at hk
  obtain ⟨k0, k9⟩ := hk
  have hrb : ∀ z ∈ B.drop (at_ + 1), 0 ≤ z ∧ z ≤ 255 := fun z hz => hb z (List.mem_of_mem_drop hz)
  have hd := drop_cons ha
  rw [hK] at hd
  rw [hd]
  have hrl : (B.drop (at_ + 1)).length = B.length - (at_ + 1) := List.length_drop
  have hat : ∀ j, j < (B.drop (at_ + 1)).length → ∀ x y z, (((w.alloc x).alloc y).alloc z).cell? ⟨g, o + (at_ + 1 + j), none⟩ = some (.int .u8 ((B.drop (at_ + 1)).getD j 0)) := fun j hj => by
    have h := old3 hg (hcell (at_ + 1 + j) (by rw [hrl] at hj; omega))
    rw [List.getD_eq_getElem?_getD, List.getElem?_drop, ← List.getD_eq_getElem?_getD]
    exact h
  obtain ⟨R, hR⟩ : ∃ R, B.drop (at_ + 1) = R := ⟨_, rfl⟩
  rw [hR] at hrb hrl hat ⊢
  replace hrb := Lib.hid hrb
  replace hat := Lib.hid hat
  replace hR := Lib.hid hR
  replace hb := Lib.hid hb
  replace hcell := Lib.hid hcell
  clear hd hK
  have M := GtM.start w 0 most
  obtain ⟨b0, b1, _, _, _⟩ := M.b
  obtain ⟨r0, r1, r2, r3, _, _, _, _, _⟩ := M.r
  obtain ⟨z0c, z1c, z2c, z3c, _, _, _, _, _⟩ := M.z
  clear M
  have ha0 : ¬ (B.length : Int) ≤ (at_ : Int) := by omega
  obtain ⟨j1, hj1⟩ : ∃ j1 : Nat, (at_ : Int) + 1 = (j1 : Int) := ⟨at_ + 1, by omega⟩
  have hgne : ¬ w.heap.size + 1 = g := by omega
  have hgne2 : ¬ g = w.heap.size + 1 := by omega
  have hT : Hid (takeT 0 most ((K : Int) :: R) = match takeK K R with | none => none | some (n, q) => some ({ n := n }, q)) := rfl
  rw [hT.out]
  by_cases h8 : 8 < K
  · have hN : Hid (takeK K R = none) := by unfold Hid takeK; rw [if_pos (Or.inl (by omega))]
    have h8i : (8 : Int) < K := by omega
    rw [hN.out]
    go_enter Tryz.func31, Tryz.ntmps31
    go_wp2
    refine bodyPost_ret (v := .tuple #[.agg #[.int .u64 0, .int .i64 0, .string ⟨#[]⟩, .bool false], .int .i64 0, .bool false]) (by simp [results, Tryz.results31, go_sem, r0, r1, r2, r3]) rfl (GivesGet.none rfl ?_)
    exact below3 w _ _ _
  · have h8i : ¬ (8 : Int) < K := by omega
    by_cases hr : R.length < K
    · have hN : Hid (takeK K R = none) := by unfold Hid takeK; rw [if_pos (Or.inr (Or.inl (by omega)))]
      have hri : (B.length : Int) - (at_ : Int) - 1 < K := by omega
      rw [hN.out]
      go_enter Tryz.func31, Tryz.ntmps31
      go_wp2
      refine bodyPost_ret (v := .tuple #[.agg #[.int .u64 0, .int .i64 0, .string ⟨#[]⟩, .bool false], .int .i64 0, .bool false]) (by simp [results, Tryz.results31, go_sem, r0, r1, r2, r3]) rfl (GivesGet.none rfl ?_)
      exact below3 w _ _ _
    · have hri : ¬ (B.length : Int) - (at_ : Int) - 1 < K := by omega
      by_cases hz : 0 < K ∧ R.getD 0 0 = 0
      · obtain ⟨hk1, hz0⟩ := hz
        have hN : Hid (takeK K R = none) := by unfold Hid takeK; rw [if_pos (Or.inr (Or.inr ⟨by omega, hz0⟩))]
        have hk1i : (0 : Int) < K := by omega
        have hc1 := hat.out 0 (by omega)
        rw [hz0] at hc1
        rw [Nat.add_zero, show at_ + 1 = j1 by omega] at hc1
        have hj1b : (j1 : Int) < (B.length : Int) := by omega
        rw [hN.out]
        go_enter Tryz.func31, Tryz.ntmps31
        go_wp2
        refine bodyPost_ret (v := .tuple #[.agg #[.int .u64 0, .int .i64 0, .string ⟨#[]⟩, .bool false], .int .i64 0, .bool false]) (by simp [results, Tryz.results31, go_sem, r0, r1, r2, r3]) rfl (GivesGet.none rfl ?_)
        exact below3 w _ _ _
      · have hY : Hid (takeK K R = some (valB (R.take K), R.drop K)) := by
          unfold Hid takeK
          rw [if_neg (fun h => by rcases h with h | h | h <;> omega), Int.toNat_natCast]
        rw [hY.out]
        simp only []
        obtain ⟨hdl1, hdl2, hdl3⟩ := drop_rest hR.out (by omega) (show K ≤ R.length by omega)
        have hnext : Hid ((j1 : Int) + (K : Int) = ((B.length - (R.drop K).length : Nat) : Int)) := by unfold Hid; rw [hdl3]; omega
        replace hdl1 := Lib.hid hdl1
        replace hdl2 := Lib.hid hdl2
        clear hdl3
        have hvb : valB (R.take K) < 256 ^ 8 := Nat.lt_of_lt_of_le (valB_lt R hrb.out K (by omega)) (Nat.pow_le_pow_right (by decide) (by omega))
        obtain ⟨N, hN⟩ : ∃ N, valB (R.take K) = N := ⟨_, rfl⟩
        rw [hN] at hvb ⊢
        replace hN := Lib.hid hN
        have hN18 : (N : Int) ≤ 18446744073709551615 := by omega
        clear hvb
        by_cases hk1 : 0 < K
        · have hk1i : (0 : Int) < K := by omega
          have hz1 : ¬ R.getD 0 0 = 0 := fun h => hz ⟨hk1, h⟩
          have hc1 := hat.out 0 (by omega)
          obtain ⟨y, hy⟩ : ∃ y, R.getD 0 0 = y := ⟨_, rfl⟩
          rw [hy] at hc1 hz1
          have hyz : (y == 0) = false := by simpa using hz1
          rw [Nat.add_zero, show at_ + 1 = j1 by omega] at hc1
          have hi1b : (j1 : Int) < (B.length : Int) := by omega
          clear hy
          go_enter Tryz.func31, Tryz.ntmps31
          go_wp2
          go_loop [12, 13] (fun v12 v13 => ∃ j : Nat, j ≤ K ∧ v13 = .int .i64 j ∧ v12 = .int .u64 (valB (R.take j))) (fun _ v13 => 100 - (intOf v13).toNat)
          case atStart => exact ⟨0, Nat.zero_le _, rfl, by rw [List.take_zero]; rfl⟩
          case round =>
            obtain ⟨j, hj, rfl, rfl⟩ := hrel
            by_cases hjk : j < K
            · have hlt := valB_lt R hrb.out j (by omega)
              have hlt7 : valB (R.take j) < 256 ^ 7 := Nat.lt_of_lt_of_le hlt (Nat.pow_le_pow_right (by decide) (by omega))
              have hstep := Lib.hid (valB_step R j (by omega))
              obtain ⟨L, hL⟩ : ∃ L, valB (R.take j) = L := ⟨_, rfl⟩
              rw [hL] at hlt7 hstep ⊢
              have hzb := hrb.out (R.getD j 0) (by rw [List.getD_eq_getElem?_getD, List.getElem?_eq_getElem (by omega)]; exact List.getElem_mem _)
              have hcj := hat.out j (by omega)
              obtain ⟨z, hzz⟩ : ∃ z, R.getD j 0 = z := ⟨_, rfl⟩
              rw [hzz] at hcj hstep hzb
              obtain ⟨zb0, zb1⟩ := hzb
              obtain ⟨j2, hj2⟩ : ∃ j2 : Nat, (j1 : Int) + (j : Int) = (j2 : Int) := ⟨j1 + j, by omega⟩
              rw [show at_ + 1 + j = j2 by omega] at hcj
              have hjb : (j2 : Int) < (B.length : Int) := by omega
              have hji : (j : Int) < (K : Int) := by omega
              clear hlt hL hzz
              go_wp2
              go_round
              case rel => exact ⟨j + 1, by omega, by go_num, by rw [hstep.out]; exact congrArg (Value.int IntKind.u64) (by omega)⟩
              case measure => simp [intOf]; omega
            · obtain rfl : j = K := by omega
              have hji : ¬ (j : Int) < (j : Int) := by omega
              rw [hN.out]
              go_wp2
              refine bodyPost_ret (v := .tuple #[.agg #[.int .u64 N, .int .i64 0, .string ⟨#[]⟩, .bool false], .int .i64 ((j1 : Int) + (j : Int)), .bool true]) (by simp [results, Tryz.results31, go_sem]) rfl (GivesGet.some rfl hdl1.out hdl2.out hnext.out rfl ?_)
              exact below3 w _ _ _
        · have hk1i : ¬ (0 : Int) < K := by omega
          go_enter Tryz.func31, Tryz.ntmps31
          go_wp2
          go_loop [12, 13] (fun v12 v13 => ∃ j : Nat, j ≤ K ∧ v13 = .int .i64 j ∧ v12 = .int .u64 (valB (R.take j))) (fun _ v13 => 100 - (intOf v13).toNat)
          case atStart => exact ⟨0, Nat.zero_le _, rfl, by rw [List.take_zero]; rfl⟩
          case round =>
            obtain ⟨j, hj, rfl, rfl⟩ := hrel
            by_cases hjk : j < K
            · have hlt := valB_lt R hrb.out j (by omega)
              have hlt7 : valB (R.take j) < 256 ^ 7 := Nat.lt_of_lt_of_le hlt (Nat.pow_le_pow_right (by decide) (by omega))
              have hstep := Lib.hid (valB_step R j (by omega))
              obtain ⟨L, hL⟩ : ∃ L, valB (R.take j) = L := ⟨_, rfl⟩
              rw [hL] at hlt7 hstep ⊢
              have hzb := hrb.out (R.getD j 0) (by rw [List.getD_eq_getElem?_getD, List.getElem?_eq_getElem (by omega)]; exact List.getElem_mem _)
              have hcj := hat.out j (by omega)
              obtain ⟨z, hzz⟩ : ∃ z, R.getD j 0 = z := ⟨_, rfl⟩
              rw [hzz] at hcj hstep hzb
              obtain ⟨zb0, zb1⟩ := hzb
              obtain ⟨j2, hj2⟩ : ∃ j2 : Nat, (j1 : Int) + (j : Int) = (j2 : Int) := ⟨j1 + j, by omega⟩
              rw [show at_ + 1 + j = j2 by omega] at hcj
              have hjb : (j2 : Int) < (B.length : Int) := by omega
              have hji : (j : Int) < (K : Int) := by omega
              clear hlt hL hzz
              go_wp2
              go_round
              case rel => exact ⟨j + 1, by omega, by go_num, by rw [hstep.out]; exact congrArg (Value.int IntKind.u64) (by omega)⟩
              case measure => simp [intOf]; omega
            · obtain rfl : j = K := by omega
              have hji : ¬ (j : Int) < (j : Int) := by omega
              rw [hN.out]
              go_wp2
              refine bodyPost_ret (v := .tuple #[.agg #[.int .u64 N, .int .i64 0, .string ⟨#[]⟩, .bool false], .int .i64 ((j1 : Int) + (j : Int)), .bool true]) (by simp [results, Tryz.results31, go_sem]) rfl (GivesGet.some rfl hdl1.out hdl2.out hnext.out rfl ?_)
              exact below3 w _ _ _
set_option maxRecDepth 100000 in
set_option maxHeartbeats 4000000 in
theorem rwget_neg (v : Value) (B : List Int) (at_ K : Nat) (most : Int) (w : World) (hv : Ints .u8 w v B) (hb : ∀ z ∈ B, 0 ≤ z ∧ z ≤ 255) (ha : at_ < B.length) (hB : B.length ≤ 1000000) (hK : B.getD at_ 0 = ((K : Int) + 16)) (hneg : ((K : Int) + 16) / 16 % 2 = 1) :
    Calls Tryz.prog 31 #[v, .int .i64 at_, .agg #[.int .i64 1, .int .i64 most]] w (GivesGet B (takeT 1 most (B.drop at_)) w) := by
  obtain ⟨g, o, cap, rfl, hcap, hg, hcell⟩ := hv
  have hc := old3 hg (hcell at_ ha)
  rw [hK] at hc
  have hk := hb (B.getD at_ 0) (by rw [List.getD_eq_getElem?_getD, List.getElem?_eq_getElem ha]; exact List.getElem_mem _)
  rw [hK] at hk
  obtain ⟨k0, k9⟩ := hk
  have hrb : ∀ z ∈ B.drop (at_ + 1), 0 ≤ z ∧ z ≤ 255 := fun z hz => hb z (List.mem_of_mem_drop hz)
  have hd := drop_cons ha
  rw [hK] at hd
  rw [hd]
  have hrl : (B.drop (at_ + 1)).length = B.length - (at_ + 1) := List.length_drop
  have hat : ∀ j, j < (B.drop (at_ + 1)).length → ∀ x y z, (((w.alloc x).alloc y).alloc z).cell? ⟨g, o + (at_ + 1 + j), none⟩ = some (.int .u8 ((B.drop (at_ + 1)).getD j 0)) := fun j hj => by
    have h := old3 hg (hcell (at_ + 1 + j) (by rw [hrl] at hj; omega))
    rw [List.getD_eq_getElem?_getD, List.getElem?_drop, ← List.getD_eq_getElem?_getD]
    exact h
  obtain ⟨R, hR⟩ : ∃ R, B.drop (at_ + 1) = R := ⟨_, rfl⟩
  rw [hR] at hrb hrl hat ⊢
  replace hrb := Lib.hid hrb
  replace hat := Lib.hid hat
  replace hR := Lib.hid hR
  replace hb := Lib.hid hb
  replace hcell := Lib.hid hcell
  clear hd hK
  have M := GtM.start w 1 most
  obtain ⟨b0, b1, _, _, _⟩ := M.b
  obtain ⟨r0, r1, r2, r3, _, _, _, _, _⟩ := M.r
  obtain ⟨z0c, z1c, z2c, z3c, _, _, _, _, _⟩ := M.z
  clear M
  have ha0 : ¬ (B.length : Int) ≤ (at_ : Int) := by omega
  obtain ⟨j1, hj1⟩ : ∃ j1 : Nat, (at_ : Int) + 1 = (j1 : Int) := ⟨at_ + 1, by omega⟩
  have hgne : ¬ w.heap.size + 1 = g := by omega
  have hgne2 : ¬ g = w.heap.size + 1 := by omega
  have hT : Hid (takeT 1 most (((K : Int) + 16) :: R) = match takeK K R with | none => none | some (n, q) => if 0 < n ∧ n ≤ 9223372036854775808 then some ({ i := -(n : Int) }, q) else none) := by
    unfold Hid
    (rw [takeT, if_neg (show ¬ (1 : Int) = 3 by decide), if_pos (show (1 : Int) = 1 from rfl), if_pos hneg, show (K : Int) + 16 - 16 = K by omega]) <;> rfl
  have hq0 : ((K : Int) + 16).tdiv 16 = (K : Int) / 16 + 1 := by rw [Int.tdiv_eq_ediv_of_nonneg (by omega)]; omega
  have hq1 : IntKind.i64.wrap ((K : Int) / 16 + 1) = (K : Int) / 16 + 1 := by rw [IntKind.wrap_i64]; omega
  have hq2 : ((K : Int) / 16 + 1).tmod 2 = 1 := by rw [Int.tmod_eq_emod_of_nonneg (by omega)]; omega
  have hq3 : (K : Int) + 16 - 16 = (K : Int) := by omega
  rw [hT.out]
  clear hneg
  by_cases h8 : 8 < K
  · have hN : Hid (takeK K R = none) := by unfold Hid takeK; rw [if_pos (Or.inl (by omega))]
    have h8i : (8 : Int) < K := by omega
    rw [hN.out]
    go_enter Tryz.func31, Tryz.ntmps31
    go_wp2
    refine bodyPost_ret (v := .tuple #[.agg #[.int .u64 0, .int .i64 0, .string ⟨#[]⟩, .bool false], .int .i64 0, .bool false]) (by simp [results, Tryz.results31, go_sem, r0, r1, r2, r3]) rfl (GivesGet.none rfl ?_)
    exact below3 w _ _ _
  · have h8i : ¬ (8 : Int) < K := by omega
    by_cases hr : R.length < K
    · have hN : Hid (takeK K R = none) := by unfold Hid takeK; rw [if_pos (Or.inr (Or.inl (by omega)))]
      have hri : (B.length : Int) - (at_ : Int) - 1 < K := by omega
      rw [hN.out]
      go_enter Tryz.func31, Tryz.ntmps31
      go_wp2
      refine bodyPost_ret (v := .tuple #[.agg #[.int .u64 0, .int .i64 0, .string ⟨#[]⟩, .bool false], .int .i64 0, .bool false]) (by simp [results, Tryz.results31, go_sem, r0, r1, r2, r3]) rfl (GivesGet.none rfl ?_)
      exact below3 w _ _ _
    · have hri : ¬ (B.length : Int) - (at_ : Int) - 1 < K := by omega
      by_cases hz : 0 < K ∧ R.getD 0 0 = 0
      · obtain ⟨hk1, hz0⟩ := hz
        have hN : Hid (takeK K R = none) := by unfold Hid takeK; rw [if_pos (Or.inr (Or.inr ⟨by omega, hz0⟩))]
        have hk1i : (0 : Int) < K := by omega
        have hc1 := hat.out 0 (by omega)
        rw [hz0] at hc1
        rw [Nat.add_zero, show at_ + 1 = j1 by omega] at hc1
        have hj1b : (j1 : Int) < (B.length : Int) := by omega
        rw [hN.out]
        go_enter Tryz.func31, Tryz.ntmps31
        go_wp2
        refine bodyPost_ret (v := .tuple #[.agg #[.int .u64 0, .int .i64 0, .string ⟨#[]⟩, .bool false], .int .i64 0, .bool false]) (by simp [results, Tryz.results31, go_sem, r0, r1, r2, r3]) rfl (GivesGet.none rfl ?_)
        exact below3 w _ _ _
      · have hY : Hid (takeK K R = some (valB (R.take K), R.drop K)) := by
          unfold Hid takeK
          rw [if_neg (fun h => by rcases h with h | h | h <;> omega), Int.toNat_natCast]
        rw [hY.out]
        simp only []
        obtain ⟨hdl1, hdl2, hdl3⟩ := drop_rest hR.out (by omega) (show K ≤ R.length by omega)
        have hnext : Hid ((j1 : Int) + (K : Int) = ((B.length - (R.drop K).length : Nat) : Int)) := by unfold Hid; rw [hdl3]; omega
        replace hdl1 := Lib.hid hdl1
        replace hdl2 := Lib.hid hdl2
        clear hdl3
        have hvb : valB (R.take K) < 256 ^ 8 := Nat.lt_of_lt_of_le (valB_lt R hrb.out K (by omega)) (Nat.pow_le_pow_right (by decide) (by omega))
        obtain ⟨N, hN⟩ : ∃ N, valB (R.take K) = N := ⟨_, rfl⟩
        rw [hN] at hvb ⊢
        replace hN := Lib.hid hN
        have hN18 : (N : Int) ≤ 18446744073709551615 := by omega
        clear hvb
        by_cases hn0 : N = 0
        · subst hn0
          rw [if_neg (by omega)]
          by_cases hk1 : 0 < K
          · have hk1i : (0 : Int) < K := by omega
            have hz1 : ¬ R.getD 0 0 = 0 := fun h => hz ⟨hk1, h⟩
            have hc1 := hat.out 0 (by omega)
            obtain ⟨y, hy⟩ : ∃ y, R.getD 0 0 = y := ⟨_, rfl⟩
            rw [hy] at hc1 hz1
            have hyz : (y == 0) = false := by simpa using hz1
            rw [Nat.add_zero, show at_ + 1 = j1 by omega] at hc1
            have hi1b : (j1 : Int) < (B.length : Int) := by omega
            clear hy
            go_enter Tryz.func31, Tryz.ntmps31
            go_wp2
            go_loop [12, 13] (fun v12 v13 => ∃ j : Nat, j ≤ K ∧ v13 = .int .i64 j ∧ v12 = .int .u64 (valB (R.take j))) (fun _ v13 => 100 - (intOf v13).toNat)
            case atStart => exact ⟨0, Nat.zero_le _, rfl, by rw [List.take_zero]; rfl⟩
            case round =>
              obtain ⟨j, hj, rfl, rfl⟩ := hrel
              by_cases hjk : j < K
              · have hlt := valB_lt R hrb.out j (by omega)
                have hlt7 : valB (R.take j) < 256 ^ 7 := Nat.lt_of_lt_of_le hlt (Nat.pow_le_pow_right (by decide) (by omega))
                have hstep := Lib.hid (valB_step R j (by omega))
                obtain ⟨L, hL⟩ : ∃ L, valB (R.take j) = L := ⟨_, rfl⟩
                rw [hL] at hlt7 hstep ⊢
                have hzb := hrb.out (R.getD j 0) (by rw [List.getD_eq_getElem?_getD, List.getElem?_eq_getElem (by omega)]; exact List.getElem_mem _)
                have hcj := hat.out j (by omega)
                obtain ⟨z, hzz⟩ : ∃ z, R.getD j 0 = z := ⟨_, rfl⟩
                rw [hzz] at hcj hstep hzb
                obtain ⟨zb0, zb1⟩ := hzb
                obtain ⟨j2, hj2⟩ : ∃ j2 : Nat, (j1 : Int) + (j : Int) = (j2 : Int) := ⟨j1 + j, by omega⟩
                rw [show at_ + 1 + j = j2 by omega] at hcj
                have hjb : (j2 : Int) < (B.length : Int) := by omega
                have hji : (j : Int) < (K : Int) := by omega
                clear hlt hL hzz
                go_wp2
                go_round
                case rel => exact ⟨j + 1, by omega, by go_num, by rw [hstep.out]; exact congrArg (Value.int IntKind.u64) (by omega)⟩
                case measure => simp [intOf]; omega
              · obtain rfl : j = K := by omega
                have hji : ¬ (j : Int) < (j : Int) := by omega
                rw [hN.out]
                go_wp2
                refine bodyPost_ret (v := .tuple #[.agg #[.int .u64 0, .int .i64 0, .string ⟨#[]⟩, .bool false], .int .i64 ((j1 : Int) + (j : Int)), .bool false]) (by simp [results, Tryz.results31, go_sem, r0, r1, r2, r3]) rfl (GivesGet.none rfl ?_)
                exact below3 w _ _ _
          · have hk1i : ¬ (0 : Int) < K := by omega
            go_enter Tryz.func31, Tryz.ntmps31
            go_wp2
            go_loop [12, 13] (fun v12 v13 => ∃ j : Nat, j ≤ K ∧ v13 = .int .i64 j ∧ v12 = .int .u64 (valB (R.take j))) (fun _ v13 => 100 - (intOf v13).toNat)
            case atStart => exact ⟨0, Nat.zero_le _, rfl, by rw [List.take_zero]; rfl⟩
            case round =>
              obtain ⟨j, hj, rfl, rfl⟩ := hrel
              by_cases hjk : j < K
              · have hlt := valB_lt R hrb.out j (by omega)
                have hlt7 : valB (R.take j) < 256 ^ 7 := Nat.lt_of_lt_of_le hlt (Nat.pow_le_pow_right (by decide) (by omega))
                have hstep := Lib.hid (valB_step R j (by omega))
                obtain ⟨L, hL⟩ : ∃ L, valB (R.take j) = L := ⟨_, rfl⟩
                rw [hL] at hlt7 hstep ⊢
                have hzb := hrb.out (R.getD j 0) (by rw [List.getD_eq_getElem?_getD, List.getElem?_eq_getElem (by omega)]; exact List.getElem_mem _)
                have hcj := hat.out j (by omega)
                obtain ⟨z, hzz⟩ : ∃ z, R.getD j 0 = z := ⟨_, rfl⟩
                rw [hzz] at hcj hstep hzb
                obtain ⟨zb0, zb1⟩ := hzb
                obtain ⟨j2, hj2⟩ : ∃ j2 : Nat, (j1 : Int) + (j : Int) = (j2 : Int) := ⟨j1 + j, by omega⟩
                rw [show at_ + 1 + j = j2 by omega] at hcj
                have hjb : (j2 : Int) < (B.length : Int) := by omega
                have hji : (j : Int) < (K : Int) := by omega
                clear hlt hL hzz
                go_wp2
                go_round
                case rel => exact ⟨j + 1, by omega, by go_num, by rw [hstep.out]; exact congrArg (Value.int IntKind.u64) (by omega)⟩
                case measure => simp [intOf]; omega
              · obtain rfl : j = K := by omega
                have hji : ¬ (j : Int) < (j : Int) := by omega
                rw [hN.out]
                go_wp2
                refine bodyPost_ret (v := .tuple #[.agg #[.int .u64 0, .int .i64 0, .string ⟨#[]⟩, .bool false], .int .i64 ((j1 : Int) + (j : Int)), .bool false]) (by simp [results, Tryz.results31, go_sem, r0, r1, r2, r3]) rfl (GivesGet.none rfl ?_)
                exact below3 w _ _ _
        · have hn0i : (0 : Int) < N := by omega
          have hw0 : IntKind.u64.wrap (-(N : Int)) = 18446744073709551616 - (N : Int) := by rw [IntKind.wrap_u64]; omega
          by_cases hn : N ≤ 9223372036854775808
          · rw [if_pos ⟨by omega, hn⟩]
            have hw : IntKind.i64.wrap (18446744073709551616 - (N : Int)) = -(N : Int) := by rw [IntKind.wrap_i64]; omega
            have hni : (N : Int) ≤ 9223372036854775808 := by omega
            by_cases hk1 : 0 < K
            · have hk1i : (0 : Int) < K := by omega
              have hz1 : ¬ R.getD 0 0 = 0 := fun h => hz ⟨hk1, h⟩
              have hc1 := hat.out 0 (by omega)
              obtain ⟨y, hy⟩ : ∃ y, R.getD 0 0 = y := ⟨_, rfl⟩
              rw [hy] at hc1 hz1
              have hyz : (y == 0) = false := by simpa using hz1
              rw [Nat.add_zero, show at_ + 1 = j1 by omega] at hc1
              have hi1b : (j1 : Int) < (B.length : Int) := by omega
              clear hy
              go_enter Tryz.func31, Tryz.ntmps31
              go_wp2
              go_loop [12, 13] (fun v12 v13 => ∃ j : Nat, j ≤ K ∧ v13 = .int .i64 j ∧ v12 = .int .u64 (valB (R.take j))) (fun _ v13 => 100 - (intOf v13).toNat)
              case atStart => exact ⟨0, Nat.zero_le _, rfl, by rw [List.take_zero]; rfl⟩
              case round =>
                obtain ⟨j, hj, rfl, rfl⟩ := hrel
                by_cases hjk : j < K
                · have hlt := valB_lt R hrb.out j (by omega)
                  have hlt7 : valB (R.take j) < 256 ^ 7 := Nat.lt_of_lt_of_le hlt (Nat.pow_le_pow_right (by decide) (by omega))
                  have hstep := Lib.hid (valB_step R j (by omega))
                  obtain ⟨L, hL⟩ : ∃ L, valB (R.take j) = L := ⟨_, rfl⟩
                  rw [hL] at hlt7 hstep ⊢
                  have hzb := hrb.out (R.getD j 0) (by rw [List.getD_eq_getElem?_getD, List.getElem?_eq_getElem (by omega)]; exact List.getElem_mem _)
                  have hcj := hat.out j (by omega)
                  obtain ⟨z, hzz⟩ : ∃ z, R.getD j 0 = z := ⟨_, rfl⟩
                  rw [hzz] at hcj hstep hzb
                  obtain ⟨zb0, zb1⟩ := hzb
                  obtain ⟨j2, hj2⟩ : ∃ j2 : Nat, (j1 : Int) + (j : Int) = (j2 : Int) := ⟨j1 + j, by omega⟩
                  rw [show at_ + 1 + j = j2 by omega] at hcj
                  have hjb : (j2 : Int) < (B.length : Int) := by omega
                  have hji : (j : Int) < (K : Int) := by omega
                  clear hlt hL hzz
                  go_wp2
                  go_round
                  case rel => exact ⟨j + 1, by omega, by go_num, by rw [hstep.out]; exact congrArg (Value.int IntKind.u64) (by omega)⟩
                  case measure => simp [intOf]; omega
                · obtain rfl : j = K := by omega
                  have hji : ¬ (j : Int) < (j : Int) := by omega
                  rw [hN.out]
                  go_wp2
                  refine bodyPost_ret (v := .tuple #[.agg #[.int .u64 0, .int .i64 (-(N : Int)), .string ⟨#[]⟩, .bool false], .int .i64 ((j1 : Int) + (j : Int)), .bool true]) (by simp [results, Tryz.results31, go_sem]) rfl (GivesGet.some rfl hdl1.out hdl2.out hnext.out rfl ?_)
                  exact below3 w _ _ _
            · have hk1i : ¬ (0 : Int) < K := by omega
              go_enter Tryz.func31, Tryz.ntmps31
              go_wp2
              go_loop [12, 13] (fun v12 v13 => ∃ j : Nat, j ≤ K ∧ v13 = .int .i64 j ∧ v12 = .int .u64 (valB (R.take j))) (fun _ v13 => 100 - (intOf v13).toNat)
              case atStart => exact ⟨0, Nat.zero_le _, rfl, by rw [List.take_zero]; rfl⟩
              case round =>
                obtain ⟨j, hj, rfl, rfl⟩ := hrel
                by_cases hjk : j < K
                · have hlt := valB_lt R hrb.out j (by omega)
                  have hlt7 : valB (R.take j) < 256 ^ 7 := Nat.lt_of_lt_of_le hlt (Nat.pow_le_pow_right (by decide) (by omega))
                  have hstep := Lib.hid (valB_step R j (by omega))
                  obtain ⟨L, hL⟩ : ∃ L, valB (R.take j) = L := ⟨_, rfl⟩
                  rw [hL] at hlt7 hstep ⊢
                  have hzb := hrb.out (R.getD j 0) (by rw [List.getD_eq_getElem?_getD, List.getElem?_eq_getElem (by omega)]; exact List.getElem_mem _)
                  have hcj := hat.out j (by omega)
                  obtain ⟨z, hzz⟩ : ∃ z, R.getD j 0 = z := ⟨_, rfl⟩
                  rw [hzz] at hcj hstep hzb
                  obtain ⟨zb0, zb1⟩ := hzb
                  obtain ⟨j2, hj2⟩ : ∃ j2 : Nat, (j1 : Int) + (j : Int) = (j2 : Int) := ⟨j1 + j, by omega⟩
                  rw [show at_ + 1 + j = j2 by omega] at hcj
                  have hjb : (j2 : Int) < (B.length : Int) := by omega
                  have hji : (j : Int) < (K : Int) := by omega
                  clear hlt hL hzz
                  go_wp2
                  go_round
                  case rel => exact ⟨j + 1, by omega, by go_num, by rw [hstep.out]; exact congrArg (Value.int IntKind.u64) (by omega)⟩
                  case measure => simp [intOf]; omega
                · obtain rfl : j = K := by omega
                  have hji : ¬ (j : Int) < (j : Int) := by omega
                  rw [hN.out]
                  go_wp2
                  refine bodyPost_ret (v := .tuple #[.agg #[.int .u64 0, .int .i64 (-(N : Int)), .string ⟨#[]⟩, .bool false], .int .i64 ((j1 : Int) + (j : Int)), .bool true]) (by simp [results, Tryz.results31, go_sem]) rfl (GivesGet.some rfl hdl1.out hdl2.out hnext.out rfl ?_)
                  exact below3 w _ _ _
          · rw [if_neg (fun h => hn h.2)]
            have hni : ¬ (N : Int) ≤ 9223372036854775808 := by omega
            have hnd : decide ((N : Int) ≤ 9223372036854775808) = false := by simp; omega
            obtain ⟨J, hJ⟩ : ∃ J, IntKind.i64.wrap (18446744073709551616 - (N : Int)) = J := ⟨_, rfl⟩
            by_cases hk1 : 0 < K
            · have hk1i : (0 : Int) < K := by omega
              have hz1 : ¬ R.getD 0 0 = 0 := fun h => hz ⟨hk1, h⟩
              have hc1 := hat.out 0 (by omega)
              obtain ⟨y, hy⟩ : ∃ y, R.getD 0 0 = y := ⟨_, rfl⟩
              rw [hy] at hc1 hz1
              have hyz : (y == 0) = false := by simpa using hz1
              rw [Nat.add_zero, show at_ + 1 = j1 by omega] at hc1
              have hi1b : (j1 : Int) < (B.length : Int) := by omega
              clear hy
              go_enter Tryz.func31, Tryz.ntmps31
              go_wp2
              go_loop [12, 13] (fun v12 v13 => ∃ j : Nat, j ≤ K ∧ v13 = .int .i64 j ∧ v12 = .int .u64 (valB (R.take j))) (fun _ v13 => 100 - (intOf v13).toNat)
              case atStart => exact ⟨0, Nat.zero_le _, rfl, by rw [List.take_zero]; rfl⟩
              case round =>
                obtain ⟨j, hj, rfl, rfl⟩ := hrel
                by_cases hjk : j < K
                · have hlt := valB_lt R hrb.out j (by omega)
                  have hlt7 : valB (R.take j) < 256 ^ 7 := Nat.lt_of_lt_of_le hlt (Nat.pow_le_pow_right (by decide) (by omega))
                  have hstep := Lib.hid (valB_step R j (by omega))
                  obtain ⟨L, hL⟩ : ∃ L, valB (R.take j) = L := ⟨_, rfl⟩
                  rw [hL] at hlt7 hstep ⊢
                  have hzb := hrb.out (R.getD j 0) (by rw [List.getD_eq_getElem?_getD, List.getElem?_eq_getElem (by omega)]; exact List.getElem_mem _)
                  have hcj := hat.out j (by omega)
                  obtain ⟨z, hzz⟩ : ∃ z, R.getD j 0 = z := ⟨_, rfl⟩
                  rw [hzz] at hcj hstep hzb
                  obtain ⟨zb0, zb1⟩ := hzb
                  obtain ⟨j2, hj2⟩ : ∃ j2 : Nat, (j1 : Int) + (j : Int) = (j2 : Int) := ⟨j1 + j, by omega⟩
                  rw [show at_ + 1 + j = j2 by omega] at hcj
                  have hjb : (j2 : Int) < (B.length : Int) := by omega
                  have hji : (j : Int) < (K : Int) := by omega
                  clear hlt hL hzz
                  go_wp2
                  go_round
                  case rel => exact ⟨j + 1, by omega, by go_num, by rw [hstep.out]; exact congrArg (Value.int IntKind.u64) (by omega)⟩
                  case measure => simp [intOf]; omega
                · obtain rfl : j = K := by omega
                  have hji : ¬ (j : Int) < (j : Int) := by omega
                  rw [hN.out]
                  go_wp2
                  refine bodyPost_ret (v := .tuple #[.agg #[.int .u64 0, .int .i64 J, .string ⟨#[]⟩, .bool false], .int .i64 ((j1 : Int) + (j : Int)), .bool false]) (by simp [results, Tryz.results31, go_sem]) rfl (GivesGet.none rfl ?_)
                  exact below3 w _ _ _
            · have hk1i : ¬ (0 : Int) < K := by omega
              go_enter Tryz.func31, Tryz.ntmps31
              go_wp2
              go_loop [12, 13] (fun v12 v13 => ∃ j : Nat, j ≤ K ∧ v13 = .int .i64 j ∧ v12 = .int .u64 (valB (R.take j))) (fun _ v13 => 100 - (intOf v13).toNat)
              case atStart => exact ⟨0, Nat.zero_le _, rfl, by rw [List.take_zero]; rfl⟩
              case round =>
                obtain ⟨j, hj, rfl, rfl⟩ := hrel
                by_cases hjk : j < K
                · have hlt := valB_lt R hrb.out j (by omega)
                  have hlt7 : valB (R.take j) < 256 ^ 7 := Nat.lt_of_lt_of_le hlt (Nat.pow_le_pow_right (by decide) (by omega))
                  have hstep := Lib.hid (valB_step R j (by omega))
                  obtain ⟨L, hL⟩ : ∃ L, valB (R.take j) = L := ⟨_, rfl⟩
                  rw [hL] at hlt7 hstep ⊢
                  have hzb := hrb.out (R.getD j 0) (by rw [List.getD_eq_getElem?_getD, List.getElem?_eq_getElem (by omega)]; exact List.getElem_mem _)
                  have hcj := hat.out j (by omega)
                  obtain ⟨z, hzz⟩ : ∃ z, R.getD j 0 = z := ⟨_, rfl⟩
                  rw [hzz] at hcj hstep hzb
                  obtain ⟨zb0, zb1⟩ := hzb
                  obtain ⟨j2, hj2⟩ : ∃ j2 : Nat, (j1 : Int) + (j : Int) = (j2 : Int) := ⟨j1 + j, by omega⟩
                  rw [show at_ + 1 + j = j2 by omega] at hcj
                  have hjb : (j2 : Int) < (B.length : Int) := by omega
                  have hji : (j : Int) < (K : Int) := by omega
                  clear hlt hL hzz
                  go_wp2
                  go_round
                  case rel => exact ⟨j + 1, by omega, by go_num, by rw [hstep.out]; exact congrArg (Value.int IntKind.u64) (by omega)⟩
                  case measure => simp [intOf]; omega
                · obtain rfl : j = K := by omega
                  have hji : ¬ (j : Int) < (j : Int) := by omega
                  rw [hN.out]
                  go_wp2
                  refine bodyPost_ret (v := .tuple #[.agg #[.int .u64 0, .int .i64 J, .string ⟨#[]⟩, .bool false], .int .i64 ((j1 : Int) + (j : Int)), .bool false]) (by simp [results, Tryz.results31, go_sem]) rfl (GivesGet.none rfl ?_)
                  exact below3 w _ _ _
set_option maxRecDepth 100000 in
set_option maxHeartbeats 4000000 in
theorem rwget_pos (v : Value) (B : List Int) (at_ K : Nat) (most : Int) (w : World) (hv : Ints .u8 w v B) (hb : ∀ z ∈ B, 0 ≤ z ∧ z ≤ 255) (ha : at_ < B.length) (hB : B.length ≤ 1000000) (hK : B.getD at_ 0 = (K : Int)) (hpos : ¬ (K : Int) / 16 % 2 = 1) :
    Calls Tryz.prog 31 #[v, .int .i64 at_, .agg #[.int .i64 1, .int .i64 most]] w (GivesGet B (takeT 1 most (B.drop at_)) w) := by
  obtain ⟨g, o, cap, rfl, hcap, hg, hcell⟩ := hv
  have hc := old3 hg (hcell at_ ha)
  rw [hK] at hc
  have hk := hb (B.getD at_ 0) (by rw [List.getD_eq_getElem?_getD, List.getElem?_eq_getElem ha]; exact List.getElem_mem _)
  rw [hK] at hk
  obtain ⟨k0, k9⟩ := hk
  have hrb : ∀ z ∈ B.drop (at_ + 1), 0 ≤ z ∧ z ≤ 255 := fun z hz => hb z (List.mem_of_mem_drop hz)
  have hd := drop_cons ha
  rw [hK] at hd
  rw [hd]
  have hrl : (B.drop (at_ + 1)).length = B.length - (at_ + 1) := List.length_drop
  have hat : ∀ j, j < (B.drop (at_ + 1)).length → ∀ x y z, (((w.alloc x).alloc y).alloc z).cell? ⟨g, o + (at_ + 1 + j), none⟩ = some (.int .u8 ((B.drop (at_ + 1)).getD j 0)) := fun j hj => by
    have h := old3 hg (hcell (at_ + 1 + j) (by rw [hrl] at hj; omega))
    rw [List.getD_eq_getElem?_getD, List.getElem?_drop, ← List.getD_eq_getElem?_getD]
    exact h
  obtain ⟨R, hR⟩ : ∃ R, B.drop (at_ + 1) = R := ⟨_, rfl⟩
  rw [hR] at hrb hrl hat ⊢
  replace hrb := Lib.hid hrb
  replace hat := Lib.hid hat
  replace hR := Lib.hid hR
  replace hb := Lib.hid hb
  replace hcell := Lib.hid hcell
  clear hd hK
  have M := GtM.start w 1 most
  obtain ⟨b0, b1, _, _, _⟩ := M.b
  obtain ⟨r0, r1, r2, r3, _, _, _, _, _⟩ := M.r
  obtain ⟨z0c, z1c, z2c, z3c, _, _, _, _, _⟩ := M.z
  clear M
  have ha0 : ¬ (B.length : Int) ≤ (at_ : Int) := by omega
  obtain ⟨j1, hj1⟩ : ∃ j1 : Nat, (at_ : Int) + 1 = (j1 : Int) := ⟨at_ + 1, by omega⟩
  have hgne : ¬ w.heap.size + 1 = g := by omega
  have hgne2 : ¬ g = w.heap.size + 1 := by omega
  have hT : Hid (takeT 1 most ((K : Int) :: R) = match takeK K R with | none => none | some (n, q) => if n ≤ 9223372036854775807 then some ({ i := n }, q) else none) := by
    unfold Hid
    (rw [takeT, if_neg (show ¬ (1 : Int) = 3 by decide), if_pos (show (1 : Int) = 1 from rfl), if_neg hpos]) <;> rfl
  obtain ⟨Q, hQ⟩ : ∃ Q, (K : Int) / 16 = Q := ⟨_, rfl⟩
  have hq0 : (K : Int).tdiv 16 = Q := by rw [Int.tdiv_eq_ediv_of_nonneg (by omega)]; exact hQ
  have hq1 : IntKind.i64.wrap Q = Q := by rw [IntKind.wrap_i64]; omega
  have hq2 : (Q.tmod 2 == 1) = false := by rw [Int.tmod_eq_emod_of_nonneg (by omega)]; simp; omega
  clear hQ
  rw [hT.out]
  clear hpos
  by_cases h8 : 8 < K
  · have hN : Hid (takeK K R = none) := by unfold Hid takeK; rw [if_pos (Or.inl (by omega))]
    have h8i : (8 : Int) < K := by omega
    rw [hN.out]
    go_enter Tryz.func31, Tryz.ntmps31
    go_wp2
    refine bodyPost_ret (v := .tuple #[.agg #[.int .u64 0, .int .i64 0, .string ⟨#[]⟩, .bool false], .int .i64 0, .bool false]) (by simp [results, Tryz.results31, go_sem, r0, r1, r2, r3]) rfl (GivesGet.none rfl ?_)
    exact below3 w _ _ _
  · have h8i : ¬ (8 : Int) < K := by omega
    by_cases hr : R.length < K
    · have hN : Hid (takeK K R = none) := by unfold Hid takeK; rw [if_pos (Or.inr (Or.inl (by omega)))]
      have hri : (B.length : Int) - (at_ : Int) - 1 < K := by omega
      rw [hN.out]
      go_enter Tryz.func31, Tryz.ntmps31
      go_wp2
      refine bodyPost_ret (v := .tuple #[.agg #[.int .u64 0, .int .i64 0, .string ⟨#[]⟩, .bool false], .int .i64 0, .bool false]) (by simp [results, Tryz.results31, go_sem, r0, r1, r2, r3]) rfl (GivesGet.none rfl ?_)
      exact below3 w _ _ _
    · have hri : ¬ (B.length : Int) - (at_ : Int) - 1 < K := by omega
      by_cases hz : 0 < K ∧ R.getD 0 0 = 0
      · obtain ⟨hk1, hz0⟩ := hz
        have hN : Hid (takeK K R = none) := by unfold Hid takeK; rw [if_pos (Or.inr (Or.inr ⟨by omega, hz0⟩))]
        have hk1i : (0 : Int) < K := by omega
        have hc1 := hat.out 0 (by omega)
        rw [hz0] at hc1
        rw [Nat.add_zero, show at_ + 1 = j1 by omega] at hc1
        have hj1b : (j1 : Int) < (B.length : Int) := by omega
        rw [hN.out]
        go_enter Tryz.func31, Tryz.ntmps31
        go_wp2
        refine bodyPost_ret (v := .tuple #[.agg #[.int .u64 0, .int .i64 0, .string ⟨#[]⟩, .bool false], .int .i64 0, .bool false]) (by simp [results, Tryz.results31, go_sem, r0, r1, r2, r3]) rfl (GivesGet.none rfl ?_)
        exact below3 w _ _ _
      · have hY : Hid (takeK K R = some (valB (R.take K), R.drop K)) := by
          unfold Hid takeK
          rw [if_neg (fun h => by rcases h with h | h | h <;> omega), Int.toNat_natCast]
        rw [hY.out]
        simp only []
        obtain ⟨hdl1, hdl2, hdl3⟩ := drop_rest hR.out (by omega) (show K ≤ R.length by omega)
        have hnext : Hid ((j1 : Int) + (K : Int) = ((B.length - (R.drop K).length : Nat) : Int)) := by unfold Hid; rw [hdl3]; omega
        replace hdl1 := Lib.hid hdl1
        replace hdl2 := Lib.hid hdl2
        clear hdl3
        have hvb : valB (R.take K) < 256 ^ 8 := Nat.lt_of_lt_of_le (valB_lt R hrb.out K (by omega)) (Nat.pow_le_pow_right (by decide) (by omega))
        obtain ⟨N, hN⟩ : ∃ N, valB (R.take K) = N := ⟨_, rfl⟩
        rw [hN] at hvb ⊢
        replace hN := Lib.hid hN
        have hN18 : (N : Int) ≤ 18446744073709551615 := by omega
        clear hvb
        by_cases hn : N ≤ 9223372036854775807
        · rw [if_pos hn]
          have hw : IntKind.i64.wrap (N : Int) = (N : Int) := by rw [IntKind.wrap_i64]; omega
          have hni : (N : Int) ≤ 9223372036854775807 := by omega
          by_cases hk1 : 0 < K
          · have hk1i : (0 : Int) < K := by omega
            have hz1 : ¬ R.getD 0 0 = 0 := fun h => hz ⟨hk1, h⟩
            have hc1 := hat.out 0 (by omega)
            obtain ⟨y, hy⟩ : ∃ y, R.getD 0 0 = y := ⟨_, rfl⟩
            rw [hy] at hc1 hz1
            have hyz : (y == 0) = false := by simpa using hz1
            rw [Nat.add_zero, show at_ + 1 = j1 by omega] at hc1
            have hi1b : (j1 : Int) < (B.length : Int) := by omega
            clear hy
            go_enter Tryz.func31, Tryz.ntmps31
            go_wp2
            go_loop [12, 13] (fun v12 v13 => ∃ j : Nat, j ≤ K ∧ v13 = .int .i64 j ∧ v12 = .int .u64 (valB (R.take j))) (fun _ v13 => 100 - (intOf v13).toNat)
            case atStart => exact ⟨0, Nat.zero_le _, rfl, by rw [List.take_zero]; rfl⟩
            case round =>
              obtain ⟨j, hj, rfl, rfl⟩ := hrel
              by_cases hjk : j < K
              · have hlt := valB_lt R hrb.out j (by omega)
                have hlt7 : valB (R.take j) < 256 ^ 7 := Nat.lt_of_lt_of_le hlt (Nat.pow_le_pow_right (by decide) (by omega))
                have hstep := Lib.hid (valB_step R j (by omega))
                obtain ⟨L, hL⟩ : ∃ L, valB (R.take j) = L := ⟨_, rfl⟩
                rw [hL] at hlt7 hstep ⊢
                have hzb := hrb.out (R.getD j 0) (by rw [List.getD_eq_getElem?_getD, List.getElem?_eq_getElem (by omega)]; exact List.getElem_mem _)
                have hcj := hat.out j (by omega)
                obtain ⟨z, hzz⟩ : ∃ z, R.getD j 0 = z := ⟨_, rfl⟩
                rw [hzz] at hcj hstep hzb
                obtain ⟨zb0, zb1⟩ := hzb
                obtain ⟨j2, hj2⟩ : ∃ j2 : Nat, (j1 : Int) + (j : Int) = (j2 : Int) := ⟨j1 + j, by omega⟩
                rw [show at_ + 1 + j = j2 by omega] at hcj
                have hjb : (j2 : Int) < (B.length : Int) := by omega
                have hji : (j : Int) < (K : Int) := by omega
                clear hlt hL hzz
                go_wp2
                go_round
                case rel => exact ⟨j + 1, by omega, by go_num, by rw [hstep.out]; exact congrArg (Value.int IntKind.u64) (by omega)⟩
                case measure => simp [intOf]; omega
              · obtain rfl : j = K := by omega
                have hji : ¬ (j : Int) < (j : Int) := by omega
                rw [hN.out]
                go_wp2
                refine bodyPost_ret (v := .tuple #[.agg #[.int .u64 0, .int .i64 N, .string ⟨#[]⟩, .bool false], .int .i64 ((j1 : Int) + (j : Int)), .bool true]) (by simp [results, Tryz.results31, go_sem]) rfl (GivesGet.some rfl hdl1.out hdl2.out hnext.out rfl ?_)
                exact below3 w _ _ _
          · have hk1i : ¬ (0 : Int) < K := by omega
            go_enter Tryz.func31, Tryz.ntmps31
            go_wp2
            go_loop [12, 13] (fun v12 v13 => ∃ j : Nat, j ≤ K ∧ v13 = .int .i64 j ∧ v12 = .int .u64 (valB (R.take j))) (fun _ v13 => 100 - (intOf v13).toNat)
            case atStart => exact ⟨0, Nat.zero_le _, rfl, by rw [List.take_zero]; rfl⟩
            case round =>
              obtain ⟨j, hj, rfl, rfl⟩ := hrel
              by_cases hjk : j < K
              · have hlt := valB_lt R hrb.out j (by omega)
                have hlt7 : valB (R.take j) < 256 ^ 7 := Nat.lt_of_lt_of_le hlt (Nat.pow_le_pow_right (by decide) (by omega))
                have hstep := Lib.hid (valB_step R j (by omega))
                obtain ⟨L, hL⟩ : ∃ L, valB (R.take j) = L := ⟨_, rfl⟩
                rw [hL] at hlt7 hstep ⊢
                have hzb := hrb.out (R.getD j 0) (by rw [List.getD_eq_getElem?_getD, List.getElem?_eq_getElem (by omega)]; exact List.getElem_mem _)
                have hcj := hat.out j (by omega)
                obtain ⟨z, hzz⟩ : ∃ z, R.getD j 0 = z := ⟨_, rfl⟩
                rw [hzz] at hcj hstep hzb
                obtain ⟨zb0, zb1⟩ := hzb
                obtain ⟨j2, hj2⟩ : ∃ j2 : Nat, (j1 : Int) + (j : Int) = (j2 : Int) := ⟨j1 + j, by omega⟩
                rw [show at_ + 1 + j = j2 by omega] at hcj
                have hjb : (j2 : Int) < (B.length : Int) := by omega
                have hji : (j : Int) < (K : Int) := by omega
                clear hlt hL hzz
                go_wp2
                go_round
                case rel => exact ⟨j + 1, by omega, by go_num, by rw [hstep.out]; exact congrArg (Value.int IntKind.u64) (by omega)⟩
                case measure => simp [intOf]; omega
              · obtain rfl : j = K := by omega
                have hji : ¬ (j : Int) < (j : Int) := by omega
                rw [hN.out]
                go_wp2
                refine bodyPost_ret (v := .tuple #[.agg #[.int .u64 0, .int .i64 N, .string ⟨#[]⟩, .bool false], .int .i64 ((j1 : Int) + (j : Int)), .bool true]) (by simp [results, Tryz.results31, go_sem]) rfl (GivesGet.some rfl hdl1.out hdl2.out hnext.out rfl ?_)
                exact below3 w _ _ _
        · rw [if_neg hn]
          have hni : ¬ (N : Int) ≤ 9223372036854775807 := by omega
          have hnd : decide ((N : Int) ≤ 9223372036854775807) = false := by simp; omega
          obtain ⟨J, hJ⟩ : ∃ J, IntKind.i64.wrap (N : Int) = J := ⟨_, rfl⟩
          by_cases hk1 : 0 < K
          · have hk1i : (0 : Int) < K := by omega
            have hz1 : ¬ R.getD 0 0 = 0 := fun h => hz ⟨hk1, h⟩
            have hc1 := hat.out 0 (by omega)
            obtain ⟨y, hy⟩ : ∃ y, R.getD 0 0 = y := ⟨_, rfl⟩
            rw [hy] at hc1 hz1
            have hyz : (y == 0) = false := by simpa using hz1
            rw [Nat.add_zero, show at_ + 1 = j1 by omega] at hc1
            have hi1b : (j1 : Int) < (B.length : Int) := by omega
            clear hy
            go_enter Tryz.func31, Tryz.ntmps31
            go_wp2
            go_loop [12, 13] (fun v12 v13 => ∃ j : Nat, j ≤ K ∧ v13 = .int .i64 j ∧ v12 = .int .u64 (valB (R.take j))) (fun _ v13 => 100 - (intOf v13).toNat)
            case atStart => exact ⟨0, Nat.zero_le _, rfl, by rw [List.take_zero]; rfl⟩
            case round =>
              obtain ⟨j, hj, rfl, rfl⟩ := hrel
              by_cases hjk : j < K
              · have hlt := valB_lt R hrb.out j (by omega)
                have hlt7 : valB (R.take j) < 256 ^ 7 := Nat.lt_of_lt_of_le hlt (Nat.pow_le_pow_right (by decide) (by omega))
                have hstep := Lib.hid (valB_step R j (by omega))
                obtain ⟨L, hL⟩ : ∃ L, valB (R.take j) = L := ⟨_, rfl⟩
                rw [hL] at hlt7 hstep ⊢
                have hzb := hrb.out (R.getD j 0) (by rw [List.getD_eq_getElem?_getD, List.getElem?_eq_getElem (by omega)]; exact List.getElem_mem _)
                have hcj := hat.out j (by omega)
                obtain ⟨z, hzz⟩ : ∃ z, R.getD j 0 = z := ⟨_, rfl⟩
                rw [hzz] at hcj hstep hzb
                obtain ⟨zb0, zb1⟩ := hzb
                obtain ⟨j2, hj2⟩ : ∃ j2 : Nat, (j1 : Int) + (j : Int) = (j2 : Int) := ⟨j1 + j, by omega⟩
                rw [show at_ + 1 + j = j2 by omega] at hcj
                have hjb : (j2 : Int) < (B.length : Int) := by omega
                have hji : (j : Int) < (K : Int) := by omega
                clear hlt hL hzz
                go_wp2
                go_round
                case rel => exact ⟨j + 1, by omega, by go_num, by rw [hstep.out]; exact congrArg (Value.int IntKind.u64) (by omega)⟩
                case measure => simp [intOf]; omega
              · obtain rfl : j = K := by omega
                have hji : ¬ (j : Int) < (j : Int) := by omega
                rw [hN.out]
                go_wp2
                refine bodyPost_ret (v := .tuple #[.agg #[.int .u64 0, .int .i64 J, .string ⟨#[]⟩, .bool false], .int .i64 ((j1 : Int) + (j : Int)), .bool false]) (by simp [results, Tryz.results31, go_sem]) rfl (GivesGet.none rfl ?_)
                exact below3 w _ _ _
          · have hk1i : ¬ (0 : Int) < K := by omega
            go_enter Tryz.func31, Tryz.ntmps31
            go_wp2
            go_loop [12, 13] (fun v12 v13 => ∃ j : Nat, j ≤ K ∧ v13 = .int .i64 j ∧ v12 = .int .u64 (valB (R.take j))) (fun _ v13 => 100 - (intOf v13).toNat)
            case atStart => exact ⟨0, Nat.zero_le _, rfl, by rw [List.take_zero]; rfl⟩
            case round =>
              obtain ⟨j, hj, rfl, rfl⟩ := hrel
              by_cases hjk : j < K
              · have hlt := valB_lt R hrb.out j (by omega)
                have hlt7 : valB (R.take j) < 256 ^ 7 := Nat.lt_of_lt_of_le hlt (Nat.pow_le_pow_right (by decide) (by omega))
                have hstep := Lib.hid (valB_step R j (by omega))
                obtain ⟨L, hL⟩ : ∃ L, valB (R.take j) = L := ⟨_, rfl⟩
                rw [hL] at hlt7 hstep ⊢
                have hzb := hrb.out (R.getD j 0) (by rw [List.getD_eq_getElem?_getD, List.getElem?_eq_getElem (by omega)]; exact List.getElem_mem _)
                have hcj := hat.out j (by omega)
                obtain ⟨z, hzz⟩ : ∃ z, R.getD j 0 = z := ⟨_, rfl⟩
                rw [hzz] at hcj hstep hzb
                obtain ⟨zb0, zb1⟩ := hzb
                obtain ⟨j2, hj2⟩ : ∃ j2 : Nat, (j1 : Int) + (j : Int) = (j2 : Int) := ⟨j1 + j, by omega⟩
                rw [show at_ + 1 + j = j2 by omega] at hcj
                have hjb : (j2 : Int) < (B.length : Int) := by omega
                have hji : (j : Int) < (K : Int) := by omega
                clear hlt hL hzz
                go_wp2
                go_round
                case rel => exact ⟨j + 1, by omega, by go_num, by rw [hstep.out]; exact congrArg (Value.int IntKind.u64) (by omega)⟩
                case measure => simp [intOf]; omega
              · obtain rfl : j = K := by omega
                have hji : ¬ (j : Int) < (j : Int) := by omega
                rw [hN.out]
                go_wp2
                refine bodyPost_ret (v := .tuple #[.agg #[.int .u64 0, .int .i64 J, .string ⟨#[]⟩, .bool false], .int .i64 ((j1 : Int) + (j : Int)), .bool false]) (by simp [results, Tryz.results31, go_sem]) rfl (GivesGet.none rfl ?_)
                exact below3 w _ _ _
set_option maxRecDepth 100000 in
set_option maxHeartbeats 4000000 in
theorem rwget_count (v : Value) (B : List Int) (at_ K : Nat) (most : Int) (w : World) (hv : Ints .u8 w v B) (hb : ∀ z ∈ B, 0 ≤ z ∧ z ≤ 255) (ha : at_ < B.length) (hB : B.length ≤ 1000000) (hK : B.getD at_ 0 = (K : Int)) (_hm0 : -9223372036854775808 ≤ most) (hm1 : most ≤ 9223372036854775807) :
    Calls Tryz.prog 31 #[v, .int .i64 at_, .agg #[.int .i64 4, .int .i64 most]] w (GivesGet B (takeT 4 most (B.drop at_)) w) := by
  obtain ⟨g, o, cap, rfl, hcap, hg, hcell⟩ := hv
  have hc := old3 hg (hcell at_ ha)
  rw [hK] at hc
  have hk := hb (B.getD at_ 0) (by rw [List.getD_eq_getElem?_getD, List.getElem?_eq_getElem ha]; exact List.getElem_mem _)
  rw [hK] at hk
  obtain ⟨k0, k9⟩ := hk
  have hrb : ∀ z ∈ B.drop (at_ + 1), 0 ≤ z ∧ z ≤ 255 := fun z hz => hb z (List.mem_of_mem_drop hz)
  have hd := drop_cons ha
  rw [hK] at hd
  rw [hd]
  have hrl : (B.drop (at_ + 1)).length = B.length - (at_ + 1) := List.length_drop
  have hat : ∀ j, j < (B.drop (at_ + 1)).length → ∀ x y z, (((w.alloc x).alloc y).alloc z).cell? ⟨g, o + (at_ + 1 + j), none⟩ = some (.int .u8 ((B.drop (at_ + 1)).getD j 0)) := fun j hj => by
    have h := old3 hg (hcell (at_ + 1 + j) (by rw [hrl] at hj; omega))
    rw [List.getD_eq_getElem?_getD, List.getElem?_drop, ← List.getD_eq_getElem?_getD]
    exact h
  obtain ⟨R, hR⟩ : ∃ R, B.drop (at_ + 1) = R := ⟨_, rfl⟩
  rw [hR] at hrb hrl hat ⊢
  replace hrb := Lib.hid hrb
  replace hat := Lib.hid hat
  replace hR := Lib.hid hR
  replace hb := Lib.hid hb
  replace hcell := Lib.hid hcell
  clear hd hK
  have M := GtM.start w 4 most
  obtain ⟨b0, b1, _, _, _⟩ := M.b
  obtain ⟨r0, r1, r2, r3, _, _, _, _, _⟩ := M.r
  obtain ⟨z0c, z1c, z2c, z3c, _, _, _, _, _⟩ := M.z
  clear M
  have ha0 : ¬ (B.length : Int) ≤ (at_ : Int) := by omega
  obtain ⟨j1, hj1⟩ : ∃ j1 : Nat, (at_ : Int) + 1 = (j1 : Int) := ⟨at_ + 1, by omega⟩
  have hgne : ¬ w.heap.size + 1 = g := by omega
  have hgne2 : ¬ g = w.heap.size + 1 := by omega
  have hT : Hid (takeT 4 most ((K : Int) :: R) = match takeK K R with | none => none | some (n, q) => if most < 0 ∨ most < n then none else some ({ n := n }, q)) := rfl
  rw [hT.out]
  by_cases h8 : 8 < K
  · have hN : Hid (takeK K R = none) := by unfold Hid takeK; rw [if_pos (Or.inl (by omega))]
    have h8i : (8 : Int) < K := by omega
    rw [hN.out]
    go_enter Tryz.func31, Tryz.ntmps31
    go_wp2
    refine bodyPost_ret (v := .tuple #[.agg #[.int .u64 0, .int .i64 0, .string ⟨#[]⟩, .bool false], .int .i64 0, .bool false]) (by simp [results, Tryz.results31, go_sem, r0, r1, r2, r3]) rfl (GivesGet.none rfl ?_)
    exact below3 w _ _ _
  · have h8i : ¬ (8 : Int) < K := by omega
    by_cases hr : R.length < K
    · have hN : Hid (takeK K R = none) := by unfold Hid takeK; rw [if_pos (Or.inr (Or.inl (by omega)))]
      have hri : (B.length : Int) - (at_ : Int) - 1 < K := by omega
      rw [hN.out]
      go_enter Tryz.func31, Tryz.ntmps31
      go_wp2
      refine bodyPost_ret (v := .tuple #[.agg #[.int .u64 0, .int .i64 0, .string ⟨#[]⟩, .bool false], .int .i64 0, .bool false]) (by simp [results, Tryz.results31, go_sem, r0, r1, r2, r3]) rfl (GivesGet.none rfl ?_)
      exact below3 w _ _ _
    · have hri : ¬ (B.length : Int) - (at_ : Int) - 1 < K := by omega
      by_cases hz : 0 < K ∧ R.getD 0 0 = 0
      · obtain ⟨hk1, hz0⟩ := hz
        have hN : Hid (takeK K R = none) := by unfold Hid takeK; rw [if_pos (Or.inr (Or.inr ⟨by omega, hz0⟩))]
        have hk1i : (0 : Int) < K := by omega
        have hc1 := hat.out 0 (by omega)
        rw [hz0] at hc1
        rw [Nat.add_zero, show at_ + 1 = j1 by omega] at hc1
        have hj1b : (j1 : Int) < (B.length : Int) := by omega
        rw [hN.out]
        go_enter Tryz.func31, Tryz.ntmps31
        go_wp2
        refine bodyPost_ret (v := .tuple #[.agg #[.int .u64 0, .int .i64 0, .string ⟨#[]⟩, .bool false], .int .i64 0, .bool false]) (by simp [results, Tryz.results31, go_sem, r0, r1, r2, r3]) rfl (GivesGet.none rfl ?_)
        exact below3 w _ _ _
      · have hY : Hid (takeK K R = some (valB (R.take K), R.drop K)) := by
          unfold Hid takeK
          rw [if_neg (fun h => by rcases h with h | h | h <;> omega), Int.toNat_natCast]
        rw [hY.out]
        simp only []
        obtain ⟨hdl1, hdl2, hdl3⟩ := drop_rest hR.out (by omega) (show K ≤ R.length by omega)
        have hnext : Hid ((j1 : Int) + (K : Int) = ((B.length - (R.drop K).length : Nat) : Int)) := by unfold Hid; rw [hdl3]; omega
        replace hdl1 := Lib.hid hdl1
        replace hdl2 := Lib.hid hdl2
        clear hdl3
        have hvb : valB (R.take K) < 256 ^ 8 := Nat.lt_of_lt_of_le (valB_lt R hrb.out K (by omega)) (Nat.pow_le_pow_right (by decide) (by omega))
        obtain ⟨N, hN⟩ : ∃ N, valB (R.take K) = N := ⟨_, rfl⟩
        rw [hN] at hvb ⊢
        replace hN := Lib.hid hN
        have hN18 : (N : Int) ≤ 18446744073709551615 := by omega
        clear hvb
        by_cases hm : most < 0
        · rw [if_pos (Or.inl hm)]
          by_cases hk1 : 0 < K
          · have hk1i : (0 : Int) < K := by omega
            have hz1 : ¬ R.getD 0 0 = 0 := fun h => hz ⟨hk1, h⟩
            have hc1 := hat.out 0 (by omega)
            obtain ⟨y, hy⟩ : ∃ y, R.getD 0 0 = y := ⟨_, rfl⟩
            rw [hy] at hc1 hz1
            have hyz : (y == 0) = false := by simpa using hz1
            rw [Nat.add_zero, show at_ + 1 = j1 by omega] at hc1
            have hi1b : (j1 : Int) < (B.length : Int) := by omega
            clear hy
            go_enter Tryz.func31, Tryz.ntmps31
            go_wp2
            go_loop [12, 13] (fun v12 v13 => ∃ j : Nat, j ≤ K ∧ v13 = .int .i64 j ∧ v12 = .int .u64 (valB (R.take j))) (fun _ v13 => 100 - (intOf v13).toNat)
            case atStart => exact ⟨0, Nat.zero_le _, rfl, by rw [List.take_zero]; rfl⟩
            case round =>
              obtain ⟨j, hj, rfl, rfl⟩ := hrel
              by_cases hjk : j < K
              · have hlt := valB_lt R hrb.out j (by omega)
                have hlt7 : valB (R.take j) < 256 ^ 7 := Nat.lt_of_lt_of_le hlt (Nat.pow_le_pow_right (by decide) (by omega))
                have hstep := Lib.hid (valB_step R j (by omega))
                obtain ⟨L, hL⟩ : ∃ L, valB (R.take j) = L := ⟨_, rfl⟩
                rw [hL] at hlt7 hstep ⊢
                have hzb := hrb.out (R.getD j 0) (by rw [List.getD_eq_getElem?_getD, List.getElem?_eq_getElem (by omega)]; exact List.getElem_mem _)
                have hcj := hat.out j (by omega)
                obtain ⟨z, hzz⟩ : ∃ z, R.getD j 0 = z := ⟨_, rfl⟩
                rw [hzz] at hcj hstep hzb
                obtain ⟨zb0, zb1⟩ := hzb
                obtain ⟨j2, hj2⟩ : ∃ j2 : Nat, (j1 : Int) + (j : Int) = (j2 : Int) := ⟨j1 + j, by omega⟩
                rw [show at_ + 1 + j = j2 by omega] at hcj
                have hjb : (j2 : Int) < (B.length : Int) := by omega
                have hji : (j : Int) < (K : Int) := by omega
                clear hlt hL hzz
                go_wp2
                go_round
                case rel => exact ⟨j + 1, by omega, by go_num, by rw [hstep.out]; exact congrArg (Value.int IntKind.u64) (by omega)⟩
                case measure => simp [intOf]; omega
              · obtain rfl : j = K := by omega
                have hji : ¬ (j : Int) < (j : Int) := by omega
                rw [hN.out]
                go_wp2
                refine bodyPost_ret (v := .tuple #[.agg #[.int .u64 0, .int .i64 0, .string ⟨#[]⟩, .bool false], .int .i64 0, .bool false]) (by simp [results, Tryz.results31, go_sem, r0, r1, r2, r3]) rfl (GivesGet.none rfl ?_)
                exact below3 w _ _ _
          · have hk1i : ¬ (0 : Int) < K := by omega
            go_enter Tryz.func31, Tryz.ntmps31
            go_wp2
            go_loop [12, 13] (fun v12 v13 => ∃ j : Nat, j ≤ K ∧ v13 = .int .i64 j ∧ v12 = .int .u64 (valB (R.take j))) (fun _ v13 => 100 - (intOf v13).toNat)
            case atStart => exact ⟨0, Nat.zero_le _, rfl, by rw [List.take_zero]; rfl⟩
            case round =>
              obtain ⟨j, hj, rfl, rfl⟩ := hrel
              by_cases hjk : j < K
              · have hlt := valB_lt R hrb.out j (by omega)
                have hlt7 : valB (R.take j) < 256 ^ 7 := Nat.lt_of_lt_of_le hlt (Nat.pow_le_pow_right (by decide) (by omega))
                have hstep := Lib.hid (valB_step R j (by omega))
                obtain ⟨L, hL⟩ : ∃ L, valB (R.take j) = L := ⟨_, rfl⟩
                rw [hL] at hlt7 hstep ⊢
                have hzb := hrb.out (R.getD j 0) (by rw [List.getD_eq_getElem?_getD, List.getElem?_eq_getElem (by omega)]; exact List.getElem_mem _)
                have hcj := hat.out j (by omega)
                obtain ⟨z, hzz⟩ : ∃ z, R.getD j 0 = z := ⟨_, rfl⟩
                rw [hzz] at hcj hstep hzb
                obtain ⟨zb0, zb1⟩ := hzb
                obtain ⟨j2, hj2⟩ : ∃ j2 : Nat, (j1 : Int) + (j : Int) = (j2 : Int) := ⟨j1 + j, by omega⟩
                rw [show at_ + 1 + j = j2 by omega] at hcj
                have hjb : (j2 : Int) < (B.length : Int) := by omega
                have hji : (j : Int) < (K : Int) := by omega
                clear hlt hL hzz
                go_wp2
                go_round
                case rel => exact ⟨j + 1, by omega, by go_num, by rw [hstep.out]; exact congrArg (Value.int IntKind.u64) (by omega)⟩
                case measure => simp [intOf]; omega
              · obtain rfl : j = K := by omega
                have hji : ¬ (j : Int) < (j : Int) := by omega
                rw [hN.out]
                go_wp2
                refine bodyPost_ret (v := .tuple #[.agg #[.int .u64 0, .int .i64 0, .string ⟨#[]⟩, .bool false], .int .i64 0, .bool false]) (by simp [results, Tryz.results31, go_sem, r0, r1, r2, r3]) rfl (GivesGet.none rfl ?_)
                exact below3 w _ _ _
        · have hmw : IntKind.u64.wrap most = most := by rw [IntKind.wrap_u64]; omega
          by_cases hmn : most < (N : Int)
          · rw [if_pos (Or.inr hmn)]
            by_cases hk1 : 0 < K
            · have hk1i : (0 : Int) < K := by omega
              have hz1 : ¬ R.getD 0 0 = 0 := fun h => hz ⟨hk1, h⟩
              have hc1 := hat.out 0 (by omega)
              obtain ⟨y, hy⟩ : ∃ y, R.getD 0 0 = y := ⟨_, rfl⟩
              rw [hy] at hc1 hz1
              have hyz : (y == 0) = false := by simpa using hz1
              rw [Nat.add_zero, show at_ + 1 = j1 by omega] at hc1
              have hi1b : (j1 : Int) < (B.length : Int) := by omega
              clear hy
              go_enter Tryz.func31, Tryz.ntmps31
              go_wp2
              go_loop [12, 13] (fun v12 v13 => ∃ j : Nat, j ≤ K ∧ v13 = .int .i64 j ∧ v12 = .int .u64 (valB (R.take j))) (fun _ v13 => 100 - (intOf v13).toNat)
              case atStart => exact ⟨0, Nat.zero_le _, rfl, by rw [List.take_zero]; rfl⟩
              case round =>
                obtain ⟨j, hj, rfl, rfl⟩ := hrel
                by_cases hjk : j < K
                · have hlt := valB_lt R hrb.out j (by omega)
                  have hlt7 : valB (R.take j) < 256 ^ 7 := Nat.lt_of_lt_of_le hlt (Nat.pow_le_pow_right (by decide) (by omega))
                  have hstep := Lib.hid (valB_step R j (by omega))
                  obtain ⟨L, hL⟩ : ∃ L, valB (R.take j) = L := ⟨_, rfl⟩
                  rw [hL] at hlt7 hstep ⊢
                  have hzb := hrb.out (R.getD j 0) (by rw [List.getD_eq_getElem?_getD, List.getElem?_eq_getElem (by omega)]; exact List.getElem_mem _)
                  have hcj := hat.out j (by omega)
                  obtain ⟨z, hzz⟩ : ∃ z, R.getD j 0 = z := ⟨_, rfl⟩
                  rw [hzz] at hcj hstep hzb
                  obtain ⟨zb0, zb1⟩ := hzb
                  obtain ⟨j2, hj2⟩ : ∃ j2 : Nat, (j1 : Int) + (j : Int) = (j2 : Int) := ⟨j1 + j, by omega⟩
                  rw [show at_ + 1 + j = j2 by omega] at hcj
                  have hjb : (j2 : Int) < (B.length : Int) := by omega
                  have hji : (j : Int) < (K : Int) := by omega
                  clear hlt hL hzz
                  go_wp2
                  go_round
                  case rel => exact ⟨j + 1, by omega, by go_num, by rw [hstep.out]; exact congrArg (Value.int IntKind.u64) (by omega)⟩
                  case measure => simp [intOf]; omega
                · obtain rfl : j = K := by omega
                  have hji : ¬ (j : Int) < (j : Int) := by omega
                  rw [hN.out]
                  go_wp2
                  refine bodyPost_ret (v := .tuple #[.agg #[.int .u64 0, .int .i64 0, .string ⟨#[]⟩, .bool false], .int .i64 0, .bool false]) (by simp [results, Tryz.results31, go_sem, r0, r1, r2, r3]) rfl (GivesGet.none rfl ?_)
                  exact below3 w _ _ _
            · have hk1i : ¬ (0 : Int) < K := by omega
              go_enter Tryz.func31, Tryz.ntmps31
              go_wp2
              go_loop [12, 13] (fun v12 v13 => ∃ j : Nat, j ≤ K ∧ v13 = .int .i64 j ∧ v12 = .int .u64 (valB (R.take j))) (fun _ v13 => 100 - (intOf v13).toNat)
              case atStart => exact ⟨0, Nat.zero_le _, rfl, by rw [List.take_zero]; rfl⟩
              case round =>
                obtain ⟨j, hj, rfl, rfl⟩ := hrel
                by_cases hjk : j < K
                · have hlt := valB_lt R hrb.out j (by omega)
                  have hlt7 : valB (R.take j) < 256 ^ 7 := Nat.lt_of_lt_of_le hlt (Nat.pow_le_pow_right (by decide) (by omega))
                  have hstep := Lib.hid (valB_step R j (by omega))
                  obtain ⟨L, hL⟩ : ∃ L, valB (R.take j) = L := ⟨_, rfl⟩
                  rw [hL] at hlt7 hstep ⊢
                  have hzb := hrb.out (R.getD j 0) (by rw [List.getD_eq_getElem?_getD, List.getElem?_eq_getElem (by omega)]; exact List.getElem_mem _)
                  have hcj := hat.out j (by omega)
                  obtain ⟨z, hzz⟩ : ∃ z, R.getD j 0 = z := ⟨_, rfl⟩
                  rw [hzz] at hcj hstep hzb
                  obtain ⟨zb0, zb1⟩ := hzb
                  obtain ⟨j2, hj2⟩ : ∃ j2 : Nat, (j1 : Int) + (j : Int) = (j2 : Int) := ⟨j1 + j, by omega⟩
                  rw [show at_ + 1 + j = j2 by omega] at hcj
                  have hjb : (j2 : Int) < (B.length : Int) := by omega
                  have hji : (j : Int) < (K : Int) := by omega
                  clear hlt hL hzz
                  go_wp2
                  go_round
                  case rel => exact ⟨j + 1, by omega, by go_num, by rw [hstep.out]; exact congrArg (Value.int IntKind.u64) (by omega)⟩
                  case measure => simp [intOf]; omega
                · obtain rfl : j = K := by omega
                  have hji : ¬ (j : Int) < (j : Int) := by omega
                  rw [hN.out]
                  go_wp2
                  refine bodyPost_ret (v := .tuple #[.agg #[.int .u64 0, .int .i64 0, .string ⟨#[]⟩, .bool false], .int .i64 0, .bool false]) (by simp [results, Tryz.results31, go_sem, r0, r1, r2, r3]) rfl (GivesGet.none rfl ?_)
                  exact below3 w _ _ _
          · rw [if_neg (fun h => by omega)]
            by_cases hk1 : 0 < K
            · have hk1i : (0 : Int) < K := by omega
              have hz1 : ¬ R.getD 0 0 = 0 := fun h => hz ⟨hk1, h⟩
              have hc1 := hat.out 0 (by omega)
              obtain ⟨y, hy⟩ : ∃ y, R.getD 0 0 = y := ⟨_, rfl⟩
              rw [hy] at hc1 hz1
              have hyz : (y == 0) = false := by simpa using hz1
              rw [Nat.add_zero, show at_ + 1 = j1 by omega] at hc1
              have hi1b : (j1 : Int) < (B.length : Int) := by omega
              clear hy
              go_enter Tryz.func31, Tryz.ntmps31
              go_wp2
              go_loop [12, 13] (fun v12 v13 => ∃ j : Nat, j ≤ K ∧ v13 = .int .i64 j ∧ v12 = .int .u64 (valB (R.take j))) (fun _ v13 => 100 - (intOf v13).toNat)
              case atStart => exact ⟨0, Nat.zero_le _, rfl, by rw [List.take_zero]; rfl⟩
              case round =>
                obtain ⟨j, hj, rfl, rfl⟩ := hrel
                by_cases hjk : j < K
                · have hlt := valB_lt R hrb.out j (by omega)
                  have hlt7 : valB (R.take j) < 256 ^ 7 := Nat.lt_of_lt_of_le hlt (Nat.pow_le_pow_right (by decide) (by omega))
                  have hstep := Lib.hid (valB_step R j (by omega))
                  obtain ⟨L, hL⟩ : ∃ L, valB (R.take j) = L := ⟨_, rfl⟩
                  rw [hL] at hlt7 hstep ⊢
                  have hzb := hrb.out (R.getD j 0) (by rw [List.getD_eq_getElem?_getD, List.getElem?_eq_getElem (by omega)]; exact List.getElem_mem _)
                  have hcj := hat.out j (by omega)
                  obtain ⟨z, hzz⟩ : ∃ z, R.getD j 0 = z := ⟨_, rfl⟩
                  rw [hzz] at hcj hstep hzb
                  obtain ⟨zb0, zb1⟩ := hzb
                  obtain ⟨j2, hj2⟩ : ∃ j2 : Nat, (j1 : Int) + (j : Int) = (j2 : Int) := ⟨j1 + j, by omega⟩
                  rw [show at_ + 1 + j = j2 by omega] at hcj
                  have hjb : (j2 : Int) < (B.length : Int) := by omega
                  have hji : (j : Int) < (K : Int) := by omega
                  clear hlt hL hzz
                  go_wp2
                  go_round
                  case rel => exact ⟨j + 1, by omega, by go_num, by rw [hstep.out]; exact congrArg (Value.int IntKind.u64) (by omega)⟩
                  case measure => simp [intOf]; omega
                · obtain rfl : j = K := by omega
                  have hji : ¬ (j : Int) < (j : Int) := by omega
                  rw [hN.out]
                  go_wp2
                  refine bodyPost_ret (v := .tuple #[.agg #[.int .u64 N, .int .i64 0, .string ⟨#[]⟩, .bool false], .int .i64 ((j1 : Int) + (j : Int)), .bool true]) (by simp [results, Tryz.results31, go_sem]) rfl (GivesGet.some rfl hdl1.out hdl2.out hnext.out rfl ?_)
                  exact below3 w _ _ _
            · have hk1i : ¬ (0 : Int) < K := by omega
              go_enter Tryz.func31, Tryz.ntmps31
              go_wp2
              go_loop [12, 13] (fun v12 v13 => ∃ j : Nat, j ≤ K ∧ v13 = .int .i64 j ∧ v12 = .int .u64 (valB (R.take j))) (fun _ v13 => 100 - (intOf v13).toNat)
              case atStart => exact ⟨0, Nat.zero_le _, rfl, by rw [List.take_zero]; rfl⟩
              case round =>
                obtain ⟨j, hj, rfl, rfl⟩ := hrel
                by_cases hjk : j < K
                · have hlt := valB_lt R hrb.out j (by omega)
                  have hlt7 : valB (R.take j) < 256 ^ 7 := Nat.lt_of_lt_of_le hlt (Nat.pow_le_pow_right (by decide) (by omega))
                  have hstep := Lib.hid (valB_step R j (by omega))
                  obtain ⟨L, hL⟩ : ∃ L, valB (R.take j) = L := ⟨_, rfl⟩
                  rw [hL] at hlt7 hstep ⊢
                  have hzb := hrb.out (R.getD j 0) (by rw [List.getD_eq_getElem?_getD, List.getElem?_eq_getElem (by omega)]; exact List.getElem_mem _)
                  have hcj := hat.out j (by omega)
                  obtain ⟨z, hzz⟩ : ∃ z, R.getD j 0 = z := ⟨_, rfl⟩
                  rw [hzz] at hcj hstep hzb
                  obtain ⟨zb0, zb1⟩ := hzb
                  obtain ⟨j2, hj2⟩ : ∃ j2 : Nat, (j1 : Int) + (j : Int) = (j2 : Int) := ⟨j1 + j, by omega⟩
                  rw [show at_ + 1 + j = j2 by omega] at hcj
                  have hjb : (j2 : Int) < (B.length : Int) := by omega
                  have hji : (j : Int) < (K : Int) := by omega
                  clear hlt hL hzz
                  go_wp2
                  go_round
                  case rel => exact ⟨j + 1, by omega, by go_num, by rw [hstep.out]; exact congrArg (Value.int IntKind.u64) (by omega)⟩
                  case measure => simp [intOf]; omega
                · obtain rfl : j = K := by omega
                  have hji : ¬ (j : Int) < (j : Int) := by omega
                  rw [hN.out]
                  go_wp2
                  refine bodyPost_ret (v := .tuple #[.agg #[.int .u64 N, .int .i64 0, .string ⟨#[]⟩, .bool false], .int .i64 ((j1 : Int) + (j : Int)), .bool true]) (by simp [results, Tryz.results31, go_sem]) rfl (GivesGet.some rfl hdl1.out hdl2.out hnext.out rfl ?_)
                  exact below3 w _ _ _
set_option maxRecDepth 100000 in
set_option maxHeartbeats 4000000 in
theorem rwget_text (v : Value) (B : List Int) (at_ K : Nat) (kind : Int) (most : Int) (w : World) (hv : Ints .u8 w v B) (hb : ∀ z ∈ B, 0 ≤ z ∧ z ≤ 255) (ha : at_ < B.length) (hB : B.length ≤ 1000000) (hK : B.getD at_ 0 = (K : Int)) (_hm0 : -9223372036854775808 ≤ most) (hm1 : most ≤ 9223372036854775807) (n0 : kind ≠ 0) (n1 : kind ≠ 1) (n3 : kind ≠ 3) (n4 : kind ≠ 4) :
    Calls Tryz.prog 31 #[v, .int .i64 at_, .agg #[.int .i64 kind, .int .i64 most]] w (GivesGet B (takeT kind most (B.drop at_)) w) := by
  obtain ⟨g, o, cap, rfl, hcap, hg, hcell⟩ := hv
  have hc := old3 hg (hcell at_ ha)
  rw [hK] at hc
  have hk := hb (B.getD at_ 0) (by rw [List.getD_eq_getElem?_getD, List.getElem?_eq_getElem ha]; exact List.getElem_mem _)
  rw [hK] at hk
  obtain ⟨k0, k9⟩ := hk
  have hrb : ∀ z ∈ B.drop (at_ + 1), 0 ≤ z ∧ z ≤ 255 := fun z hz => hb z (List.mem_of_mem_drop hz)
  have hd := drop_cons ha
  rw [hK] at hd
  rw [hd]
  have hrl : (B.drop (at_ + 1)).length = B.length - (at_ + 1) := List.length_drop
  have hat : ∀ j, j < (B.drop (at_ + 1)).length → ∀ x y z, (((w.alloc x).alloc y).alloc z).cell? ⟨g, o + (at_ + 1 + j), none⟩ = some (.int .u8 ((B.drop (at_ + 1)).getD j 0)) := fun j hj => by
    have h := old3 hg (hcell (at_ + 1 + j) (by rw [hrl] at hj; omega))
    rw [List.getD_eq_getElem?_getD, List.getElem?_drop, ← List.getD_eq_getElem?_getD]
    exact h
  obtain ⟨R, hR⟩ : ∃ R, B.drop (at_ + 1) = R := ⟨_, rfl⟩
  rw [hR] at hrb hrl hat ⊢
  replace hrb := Lib.hid hrb
  replace hat := Lib.hid hat
  replace hR := Lib.hid hR
  replace hb := Lib.hid hb
  replace hcell := Lib.hid hcell
  clear hd hK
  have M := GtM.start w kind most
  obtain ⟨b0, b1, _, _, _⟩ := M.b
  obtain ⟨r0, r1, r2, r3, _, _, _, _, _⟩ := M.r
  obtain ⟨z0c, z1c, z2c, z3c, _, _, _, _, _⟩ := M.z
  clear M
  have ha0 : ¬ (B.length : Int) ≤ (at_ : Int) := by omega
  obtain ⟨j1, hj1⟩ : ∃ j1 : Nat, (at_ : Int) + 1 = (j1 : Int) := ⟨at_ + 1, by omega⟩
  have hgne : ¬ w.heap.size + 1 = g := by omega
  have hgne2 : ¬ g = w.heap.size + 1 := by omega
  have e0 : (kind == 0) = false := by simpa using n0
  have e1 : (kind == 1) = false := by simpa using n1
  have e3 : (kind == 3) = false := by simpa using n3
  have e4 : (kind == 4) = false := by simpa using n4
  have hT : Hid (takeT kind most ((K : Int) :: R) = match takeK K R with | none => none | some (n, q) => if most < 0 ∨ most < n then none else if q.length < n then none else some ({ s := strOfNums (q.take n) }, q.drop n)) := by
    unfold Hid
    rw [takeT, if_neg n3, if_neg n1]
    simp only [if_neg n0, if_neg n4]
    rfl
  rw [hT.out]
  by_cases h8 : 8 < K
  · have hN : Hid (takeK K R = none) := by unfold Hid takeK; rw [if_pos (Or.inl (by omega))]
    have h8i : (8 : Int) < K := by omega
    rw [hN.out]
    go_enter Tryz.func31, Tryz.ntmps31
    go_wp2
    refine bodyPost_ret (v := .tuple #[.agg #[.int .u64 0, .int .i64 0, .string ⟨#[]⟩, .bool false], .int .i64 0, .bool false]) (by simp [results, Tryz.results31, go_sem, r0, r1, r2, r3]) rfl (GivesGet.none rfl ?_)
    exact below3 w _ _ _
  · have h8i : ¬ (8 : Int) < K := by omega
    by_cases hr : R.length < K
    · have hN : Hid (takeK K R = none) := by unfold Hid takeK; rw [if_pos (Or.inr (Or.inl (by omega)))]
      have hri : (B.length : Int) - (at_ : Int) - 1 < K := by omega
      rw [hN.out]
      go_enter Tryz.func31, Tryz.ntmps31
      go_wp2
      refine bodyPost_ret (v := .tuple #[.agg #[.int .u64 0, .int .i64 0, .string ⟨#[]⟩, .bool false], .int .i64 0, .bool false]) (by simp [results, Tryz.results31, go_sem, r0, r1, r2, r3]) rfl (GivesGet.none rfl ?_)
      exact below3 w _ _ _
    · have hri : ¬ (B.length : Int) - (at_ : Int) - 1 < K := by omega
      by_cases hz : 0 < K ∧ R.getD 0 0 = 0
      · obtain ⟨hk1, hz0⟩ := hz
        have hN : Hid (takeK K R = none) := by unfold Hid takeK; rw [if_pos (Or.inr (Or.inr ⟨by omega, hz0⟩))]
        have hk1i : (0 : Int) < K := by omega
        have hc1 := hat.out 0 (by omega)
        rw [hz0] at hc1
        rw [Nat.add_zero, show at_ + 1 = j1 by omega] at hc1
        have hj1b : (j1 : Int) < (B.length : Int) := by omega
        rw [hN.out]
        go_enter Tryz.func31, Tryz.ntmps31
        go_wp2
        refine bodyPost_ret (v := .tuple #[.agg #[.int .u64 0, .int .i64 0, .string ⟨#[]⟩, .bool false], .int .i64 0, .bool false]) (by simp [results, Tryz.results31, go_sem, r0, r1, r2, r3]) rfl (GivesGet.none rfl ?_)
        exact below3 w _ _ _
      · have hY : Hid (takeK K R = some (valB (R.take K), R.drop K)) := by
          unfold Hid takeK
          rw [if_neg (fun h => by rcases h with h | h | h <;> omega), Int.toNat_natCast]
        rw [hY.out]
        simp only []
        obtain ⟨hdl1, hdl2, hdl3⟩ := drop_rest hR.out (by omega) (show K ≤ R.length by omega)
        have hnext : Hid ((j1 : Int) + (K : Int) = ((B.length - (R.drop K).length : Nat) : Int)) := by unfold Hid; rw [hdl3]; omega
        replace hdl1 := Lib.hid hdl1
        replace hdl2 := Lib.hid hdl2
        clear hdl3
        have hvb : valB (R.take K) < 256 ^ 8 := Nat.lt_of_lt_of_le (valB_lt R hrb.out K (by omega)) (Nat.pow_le_pow_right (by decide) (by omega))
        obtain ⟨N, hN⟩ : ∃ N, valB (R.take K) = N := ⟨_, rfl⟩
        rw [hN] at hvb ⊢
        replace hN := Lib.hid hN
        have hN18 : (N : Int) ≤ 18446744073709551615 := by omega
        clear hvb
        by_cases hm : most < 0
        · rw [if_pos (Or.inl hm)]
          by_cases hk1 : 0 < K
          · have hk1i : (0 : Int) < K := by omega
            have hz1 : ¬ R.getD 0 0 = 0 := fun h => hz ⟨hk1, h⟩
            have hc1 := hat.out 0 (by omega)
            obtain ⟨y, hy⟩ : ∃ y, R.getD 0 0 = y := ⟨_, rfl⟩
            rw [hy] at hc1 hz1
            have hyz : (y == 0) = false := by simpa using hz1
            rw [Nat.add_zero, show at_ + 1 = j1 by omega] at hc1
            have hi1b : (j1 : Int) < (B.length : Int) := by omega
            clear hy
            go_enter Tryz.func31, Tryz.ntmps31
            go_wp2
            go_loop [12, 13] (fun v12 v13 => ∃ j : Nat, j ≤ K ∧ v13 = .int .i64 j ∧ v12 = .int .u64 (valB (R.take j))) (fun _ v13 => 100 - (intOf v13).toNat)
            case atStart => exact ⟨0, Nat.zero_le _, rfl, by rw [List.take_zero]; rfl⟩
            case round =>
              obtain ⟨j, hj, rfl, rfl⟩ := hrel
              by_cases hjk : j < K
              · have hlt := valB_lt R hrb.out j (by omega)
                have hlt7 : valB (R.take j) < 256 ^ 7 := Nat.lt_of_lt_of_le hlt (Nat.pow_le_pow_right (by decide) (by omega))
                have hstep := Lib.hid (valB_step R j (by omega))
                obtain ⟨L, hL⟩ : ∃ L, valB (R.take j) = L := ⟨_, rfl⟩
                rw [hL] at hlt7 hstep ⊢
                have hzb := hrb.out (R.getD j 0) (by rw [List.getD_eq_getElem?_getD, List.getElem?_eq_getElem (by omega)]; exact List.getElem_mem _)
                have hcj := hat.out j (by omega)
                obtain ⟨z, hzz⟩ : ∃ z, R.getD j 0 = z := ⟨_, rfl⟩
                rw [hzz] at hcj hstep hzb
                obtain ⟨zb0, zb1⟩ := hzb
                obtain ⟨j2, hj2⟩ : ∃ j2 : Nat, (j1 : Int) + (j : Int) = (j2 : Int) := ⟨j1 + j, by omega⟩
                rw [show at_ + 1 + j = j2 by omega] at hcj
                have hjb : (j2 : Int) < (B.length : Int) := by omega
                have hji : (j : Int) < (K : Int) := by omega
                clear hlt hL hzz
                go_wp2
                go_round
                case rel => exact ⟨j + 1, by omega, by go_num, by rw [hstep.out]; exact congrArg (Value.int IntKind.u64) (by omega)⟩
                case measure => simp [intOf]; omega
              · obtain rfl : j = K := by omega
                have hji : ¬ (j : Int) < (j : Int) := by omega
                rw [hN.out]
                go_wp2
                refine bodyPost_ret (v := .tuple #[.agg #[.int .u64 0, .int .i64 0, .string ⟨#[]⟩, .bool false], .int .i64 0, .bool false]) (by simp [results, Tryz.results31, go_sem, r0, r1, r2, r3]) rfl (GivesGet.none rfl ?_)
                exact below3 w _ _ _
          · have hk1i : ¬ (0 : Int) < K := by omega
            go_enter Tryz.func31, Tryz.ntmps31
            go_wp2
            go_loop [12, 13] (fun v12 v13 => ∃ j : Nat, j ≤ K ∧ v13 = .int .i64 j ∧ v12 = .int .u64 (valB (R.take j))) (fun _ v13 => 100 - (intOf v13).toNat)
            case atStart => exact ⟨0, Nat.zero_le _, rfl, by rw [List.take_zero]; rfl⟩
            case round =>
              obtain ⟨j, hj, rfl, rfl⟩ := hrel
              by_cases hjk : j < K
              · have hlt := valB_lt R hrb.out j (by omega)
                have hlt7 : valB (R.take j) < 256 ^ 7 := Nat.lt_of_lt_of_le hlt (Nat.pow_le_pow_right (by decide) (by omega))
                have hstep := Lib.hid (valB_step R j (by omega))
                obtain ⟨L, hL⟩ : ∃ L, valB (R.take j) = L := ⟨_, rfl⟩
                rw [hL] at hlt7 hstep ⊢
                have hzb := hrb.out (R.getD j 0) (by rw [List.getD_eq_getElem?_getD, List.getElem?_eq_getElem (by omega)]; exact List.getElem_mem _)
                have hcj := hat.out j (by omega)
                obtain ⟨z, hzz⟩ : ∃ z, R.getD j 0 = z := ⟨_, rfl⟩
                rw [hzz] at hcj hstep hzb
                obtain ⟨zb0, zb1⟩ := hzb
                obtain ⟨j2, hj2⟩ : ∃ j2 : Nat, (j1 : Int) + (j : Int) = (j2 : Int) := ⟨j1 + j, by omega⟩
                rw [show at_ + 1 + j = j2 by omega] at hcj
                have hjb : (j2 : Int) < (B.length : Int) := by omega
                have hji : (j : Int) < (K : Int) := by omega
                clear hlt hL hzz
                go_wp2
                go_round
                case rel => exact ⟨j + 1, by omega, by go_num, by rw [hstep.out]; exact congrArg (Value.int IntKind.u64) (by omega)⟩
                case measure => simp [intOf]; omega
              · obtain rfl : j = K := by omega
                have hji : ¬ (j : Int) < (j : Int) := by omega
                rw [hN.out]
                go_wp2
                refine bodyPost_ret (v := .tuple #[.agg #[.int .u64 0, .int .i64 0, .string ⟨#[]⟩, .bool false], .int .i64 0, .bool false]) (by simp [results, Tryz.results31, go_sem, r0, r1, r2, r3]) rfl (GivesGet.none rfl ?_)
                exact below3 w _ _ _
        · have hmw : IntKind.u64.wrap most = most := by rw [IntKind.wrap_u64]; omega
          by_cases hmn : most < (N : Int)
          · rw [if_pos (Or.inr hmn)]
            by_cases hk1 : 0 < K
            · have hk1i : (0 : Int) < K := by omega
              have hz1 : ¬ R.getD 0 0 = 0 := fun h => hz ⟨hk1, h⟩
              have hc1 := hat.out 0 (by omega)
              obtain ⟨y, hy⟩ : ∃ y, R.getD 0 0 = y := ⟨_, rfl⟩
              rw [hy] at hc1 hz1
              have hyz : (y == 0) = false := by simpa using hz1
              rw [Nat.add_zero, show at_ + 1 = j1 by omega] at hc1
              have hi1b : (j1 : Int) < (B.length : Int) := by omega
              clear hy
              go_enter Tryz.func31, Tryz.ntmps31
              go_wp2
              go_loop [12, 13] (fun v12 v13 => ∃ j : Nat, j ≤ K ∧ v13 = .int .i64 j ∧ v12 = .int .u64 (valB (R.take j))) (fun _ v13 => 100 - (intOf v13).toNat)
              case atStart => exact ⟨0, Nat.zero_le _, rfl, by rw [List.take_zero]; rfl⟩
              case round =>
                obtain ⟨j, hj, rfl, rfl⟩ := hrel
                by_cases hjk : j < K
                · have hlt := valB_lt R hrb.out j (by omega)
                  have hlt7 : valB (R.take j) < 256 ^ 7 := Nat.lt_of_lt_of_le hlt (Nat.pow_le_pow_right (by decide) (by omega))
                  have hstep := Lib.hid (valB_step R j (by omega))
                  obtain ⟨L, hL⟩ : ∃ L, valB (R.take j) = L := ⟨_, rfl⟩
                  rw [hL] at hlt7 hstep ⊢
                  have hzb := hrb.out (R.getD j 0) (by rw [List.getD_eq_getElem?_getD, List.getElem?_eq_getElem (by omega)]; exact List.getElem_mem _)
                  have hcj := hat.out j (by omega)
                  obtain ⟨z, hzz⟩ : ∃ z, R.getD j 0 = z := ⟨_, rfl⟩
                  rw [hzz] at hcj hstep hzb
                  obtain ⟨zb0, zb1⟩ := hzb
                  obtain ⟨j2, hj2⟩ : ∃ j2 : Nat, (j1 : Int) + (j : Int) = (j2 : Int) := ⟨j1 + j, by omega⟩
                  rw [show at_ + 1 + j = j2 by omega] at hcj
                  have hjb : (j2 : Int) < (B.length : Int) := by omega
                  have hji : (j : Int) < (K : Int) := by omega
                  clear hlt hL hzz
                  go_wp2
                  go_round
                  case rel => exact ⟨j + 1, by omega, by go_num, by rw [hstep.out]; exact congrArg (Value.int IntKind.u64) (by omega)⟩
                  case measure => simp [intOf]; omega
                · obtain rfl : j = K := by omega
                  have hji : ¬ (j : Int) < (j : Int) := by omega
                  rw [hN.out]
                  go_wp2
                  refine bodyPost_ret (v := .tuple #[.agg #[.int .u64 0, .int .i64 0, .string ⟨#[]⟩, .bool false], .int .i64 0, .bool false]) (by simp [results, Tryz.results31, go_sem, r0, r1, r2, r3]) rfl (GivesGet.none rfl ?_)
                  exact below3 w _ _ _
            · have hk1i : ¬ (0 : Int) < K := by omega
              go_enter Tryz.func31, Tryz.ntmps31
              go_wp2
              go_loop [12, 13] (fun v12 v13 => ∃ j : Nat, j ≤ K ∧ v13 = .int .i64 j ∧ v12 = .int .u64 (valB (R.take j))) (fun _ v13 => 100 - (intOf v13).toNat)
              case atStart => exact ⟨0, Nat.zero_le _, rfl, by rw [List.take_zero]; rfl⟩
              case round =>
                obtain ⟨j, hj, rfl, rfl⟩ := hrel
                by_cases hjk : j < K
                · have hlt := valB_lt R hrb.out j (by omega)
                  have hlt7 : valB (R.take j) < 256 ^ 7 := Nat.lt_of_lt_of_le hlt (Nat.pow_le_pow_right (by decide) (by omega))
                  have hstep := Lib.hid (valB_step R j (by omega))
                  obtain ⟨L, hL⟩ : ∃ L, valB (R.take j) = L := ⟨_, rfl⟩
                  rw [hL] at hlt7 hstep ⊢
                  have hzb := hrb.out (R.getD j 0) (by rw [List.getD_eq_getElem?_getD, List.getElem?_eq_getElem (by omega)]; exact List.getElem_mem _)
                  have hcj := hat.out j (by omega)
                  obtain ⟨z, hzz⟩ : ∃ z, R.getD j 0 = z := ⟨_, rfl⟩
                  rw [hzz] at hcj hstep hzb
                  obtain ⟨zb0, zb1⟩ := hzb
                  obtain ⟨j2, hj2⟩ : ∃ j2 : Nat, (j1 : Int) + (j : Int) = (j2 : Int) := ⟨j1 + j, by omega⟩
                  rw [show at_ + 1 + j = j2 by omega] at hcj
                  have hjb : (j2 : Int) < (B.length : Int) := by omega
                  have hji : (j : Int) < (K : Int) := by omega
                  clear hlt hL hzz
                  go_wp2
                  go_round
                  case rel => exact ⟨j + 1, by omega, by go_num, by rw [hstep.out]; exact congrArg (Value.int IntKind.u64) (by omega)⟩
                  case measure => simp [intOf]; omega
                · obtain rfl : j = K := by omega
                  have hji : ¬ (j : Int) < (j : Int) := by omega
                  rw [hN.out]
                  go_wp2
                  refine bodyPost_ret (v := .tuple #[.agg #[.int .u64 0, .int .i64 0, .string ⟨#[]⟩, .bool false], .int .i64 0, .bool false]) (by simp [results, Tryz.results31, go_sem, r0, r1, r2, r3]) rfl (GivesGet.none rfl ?_)
                  exact below3 w _ _ _
          · rw [if_neg (fun h => by omega)]
            have hrest : (R.drop K).length = R.length - K := List.length_drop
            rw [hrest]
            have hsub : (B.length : Int) - ((j1 : Int) + (K : Int)) = ((R.length - K : Nat) : Int) := by omega
            obtain ⟨D, hD⟩ : ∃ D : Nat, R.length - K = D := ⟨_, rfl⟩
            rw [hD] at hsub ⊢
            have hsw : IntKind.u64.wrap (D : Int) = (D : Int) := by rw [IntKind.wrap_u64]; omega
            by_cases hlen : D < N
            · rw [if_pos hlen]
              have hli : (D : Int) < (N : Int) := by omega
              by_cases hk1 : 0 < K
              · have hk1i : (0 : Int) < K := by omega
                have hz1 : ¬ R.getD 0 0 = 0 := fun h => hz ⟨hk1, h⟩
                have hc1 := hat.out 0 (by omega)
                obtain ⟨y, hy⟩ : ∃ y, R.getD 0 0 = y := ⟨_, rfl⟩
                rw [hy] at hc1 hz1
                have hyz : (y == 0) = false := by simpa using hz1
                rw [Nat.add_zero, show at_ + 1 = j1 by omega] at hc1
                have hi1b : (j1 : Int) < (B.length : Int) := by omega
                clear hy
                go_enter Tryz.func31, Tryz.ntmps31
                go_wp2
                go_loop [12, 13] (fun v12 v13 => ∃ j : Nat, j ≤ K ∧ v13 = .int .i64 j ∧ v12 = .int .u64 (valB (R.take j))) (fun _ v13 => 100 - (intOf v13).toNat)
                case atStart => exact ⟨0, Nat.zero_le _, rfl, by rw [List.take_zero]; rfl⟩
                case round =>
                  obtain ⟨j, hj, rfl, rfl⟩ := hrel
                  by_cases hjk : j < K
                  · have hlt := valB_lt R hrb.out j (by omega)
                    have hlt7 : valB (R.take j) < 256 ^ 7 := Nat.lt_of_lt_of_le hlt (Nat.pow_le_pow_right (by decide) (by omega))
                    have hstep := Lib.hid (valB_step R j (by omega))
                    obtain ⟨L, hL⟩ : ∃ L, valB (R.take j) = L := ⟨_, rfl⟩
                    rw [hL] at hlt7 hstep ⊢
                    have hzb := hrb.out (R.getD j 0) (by rw [List.getD_eq_getElem?_getD, List.getElem?_eq_getElem (by omega)]; exact List.getElem_mem _)
                    have hcj := hat.out j (by omega)
                    obtain ⟨z, hzz⟩ : ∃ z, R.getD j 0 = z := ⟨_, rfl⟩
                    rw [hzz] at hcj hstep hzb
                    obtain ⟨zb0, zb1⟩ := hzb
                    obtain ⟨j2, hj2⟩ : ∃ j2 : Nat, (j1 : Int) + (j : Int) = (j2 : Int) := ⟨j1 + j, by omega⟩
                    rw [show at_ + 1 + j = j2 by omega] at hcj
                    have hjb : (j2 : Int) < (B.length : Int) := by omega
                    have hji : (j : Int) < (K : Int) := by omega
                    clear hlt hL hzz
                    go_wp2
                    go_round
                    case rel => exact ⟨j + 1, by omega, by go_num, by rw [hstep.out]; exact congrArg (Value.int IntKind.u64) (by omega)⟩
                    case measure => simp [intOf]; omega
                  · obtain rfl : j = K := by omega
                    have hji : ¬ (j : Int) < (j : Int) := by omega
                    rw [hN.out]
                    go_wp2
                    refine bodyPost_ret (v := .tuple #[.agg #[.int .u64 0, .int .i64 0, .string ⟨#[]⟩, .bool false], .int .i64 0, .bool false]) (by simp [results, Tryz.results31, go_sem, r0, r1, r2, r3]) rfl (GivesGet.none rfl ?_)
                    exact below3 w _ _ _
              · have hk1i : ¬ (0 : Int) < K := by omega
                go_enter Tryz.func31, Tryz.ntmps31
                go_wp2
                go_loop [12, 13] (fun v12 v13 => ∃ j : Nat, j ≤ K ∧ v13 = .int .i64 j ∧ v12 = .int .u64 (valB (R.take j))) (fun _ v13 => 100 - (intOf v13).toNat)
                case atStart => exact ⟨0, Nat.zero_le _, rfl, by rw [List.take_zero]; rfl⟩
                case round =>
                  obtain ⟨j, hj, rfl, rfl⟩ := hrel
                  by_cases hjk : j < K
                  · have hlt := valB_lt R hrb.out j (by omega)
                    have hlt7 : valB (R.take j) < 256 ^ 7 := Nat.lt_of_lt_of_le hlt (Nat.pow_le_pow_right (by decide) (by omega))
                    have hstep := Lib.hid (valB_step R j (by omega))
                    obtain ⟨L, hL⟩ : ∃ L, valB (R.take j) = L := ⟨_, rfl⟩
                    rw [hL] at hlt7 hstep ⊢
                    have hzb := hrb.out (R.getD j 0) (by rw [List.getD_eq_getElem?_getD, List.getElem?_eq_getElem (by omega)]; exact List.getElem_mem _)
                    have hcj := hat.out j (by omega)
                    obtain ⟨z, hzz⟩ : ∃ z, R.getD j 0 = z := ⟨_, rfl⟩
                    rw [hzz] at hcj hstep hzb
                    obtain ⟨zb0, zb1⟩ := hzb
                    obtain ⟨j2, hj2⟩ : ∃ j2 : Nat, (j1 : Int) + (j : Int) = (j2 : Int) := ⟨j1 + j, by omega⟩
                    rw [show at_ + 1 + j = j2 by omega] at hcj
                    have hjb : (j2 : Int) < (B.length : Int) := by omega
                    have hji : (j : Int) < (K : Int) := by omega
                    clear hlt hL hzz
                    go_wp2
                    go_round
                    case rel => exact ⟨j + 1, by omega, by go_num, by rw [hstep.out]; exact congrArg (Value.int IntKind.u64) (by omega)⟩
                    case measure => simp [intOf]; omega
                  · obtain rfl : j = K := by omega
                    have hji : ¬ (j : Int) < (j : Int) := by omega
                    rw [hN.out]
                    go_wp2
                    refine bodyPost_ret (v := .tuple #[.agg #[.int .u64 0, .int .i64 0, .string ⟨#[]⟩, .bool false], .int .i64 0, .bool false]) (by simp [results, Tryz.results31, go_sem, r0, r1, r2, r3]) rfl (GivesGet.none rfl ?_)
                    exact below3 w _ _ _
            · rw [if_neg hlen]
              have hli : ¬ (D : Int) < (N : Int) := by omega
              have hw : IntKind.i64.wrap (N : Int) = (N : Int) := by rw [IntKind.wrap_i64]; omega
              obtain ⟨j3, hj3⟩ : ∃ j3 : Nat, (j1 : Int) + (K : Int) = (j3 : Int) := ⟨j1 + K, by omega⟩
              obtain ⟨j4, hj4⟩ : ∃ j4 : Nat, (j3 : Int) + (N : Int) = (j4 : Int) := ⟨j3 + N, by omega⟩
              rw [hj3] at hsub
              obtain ⟨o2, c2, hsl, ho2⟩ := slice_mid g o B.length cap j3 j4 (by omega) (by omega)
              have hcv := text_of g o2 c2 ((R.drop K).take N) (j4 - j3) (by rw [List.length_take]; omega) (fun i hi x y z => by
                have h := hat.out (K + i) (by omega) x y z
                rw [ho2 (by omega), List.getD_eq_getElem?_getD, List.getElem?_take, if_pos (by omega), List.getElem?_drop, ← List.getD_eq_getElem?_getD, show o + j3 + i = o + (at_ + 1 + (K + i)) by omega]
                exact h)
              rw [List.drop_drop]
              have hfin : ((R.drop (K + N)).length ≤ B.length ∧ B.drop (B.length - (R.drop (K + N)).length) = R.drop (K + N) ∧ (j4 : Int) = ((B.length - (R.drop (K + N)).length : Nat) : Int)) := by
                obtain ⟨h1, h2, h3⟩ := drop_rest hR.out (by omega) (show K + N ≤ R.length by omega)
                exact ⟨h1, h2, by rw [h3]; omega⟩
              replace hfin := Lib.hid hfin
              by_cases hk1 : 0 < K
              · have hk1i : (0 : Int) < K := by omega
                have hz1 : ¬ R.getD 0 0 = 0 := fun h => hz ⟨hk1, h⟩
                have hc1 := hat.out 0 (by omega)
                obtain ⟨y, hy⟩ : ∃ y, R.getD 0 0 = y := ⟨_, rfl⟩
                rw [hy] at hc1 hz1
                have hyz : (y == 0) = false := by simpa using hz1
                rw [Nat.add_zero, show at_ + 1 = j1 by omega] at hc1
                have hi1b : (j1 : Int) < (B.length : Int) := by omega
                clear hy
                go_enter Tryz.func31, Tryz.ntmps31
                go_wp2
                go_loop [12, 13] (fun v12 v13 => ∃ j : Nat, j ≤ K ∧ v13 = .int .i64 j ∧ v12 = .int .u64 (valB (R.take j))) (fun _ v13 => 100 - (intOf v13).toNat)
                case atStart => exact ⟨0, Nat.zero_le _, rfl, by rw [List.take_zero]; rfl⟩
                case round =>
                  obtain ⟨j, hj, rfl, rfl⟩ := hrel
                  by_cases hjk : j < K
                  · have hlt := valB_lt R hrb.out j (by omega)
                    have hlt7 : valB (R.take j) < 256 ^ 7 := Nat.lt_of_lt_of_le hlt (Nat.pow_le_pow_right (by decide) (by omega))
                    have hstep := Lib.hid (valB_step R j (by omega))
                    obtain ⟨L, hL⟩ : ∃ L, valB (R.take j) = L := ⟨_, rfl⟩
                    rw [hL] at hlt7 hstep ⊢
                    have hzb := hrb.out (R.getD j 0) (by rw [List.getD_eq_getElem?_getD, List.getElem?_eq_getElem (by omega)]; exact List.getElem_mem _)
                    have hcj := hat.out j (by omega)
                    obtain ⟨z, hzz⟩ : ∃ z, R.getD j 0 = z := ⟨_, rfl⟩
                    rw [hzz] at hcj hstep hzb
                    obtain ⟨zb0, zb1⟩ := hzb
                    obtain ⟨j2, hj2⟩ : ∃ j2 : Nat, (j1 : Int) + (j : Int) = (j2 : Int) := ⟨j1 + j, by omega⟩
                    rw [show at_ + 1 + j = j2 by omega] at hcj
                    have hjb : (j2 : Int) < (B.length : Int) := by omega
                    have hji : (j : Int) < (K : Int) := by omega
                    clear hlt hL hzz
                    go_wp2
                    go_round
                    case rel => exact ⟨j + 1, by omega, by go_num, by rw [hstep.out]; exact congrArg (Value.int IntKind.u64) (by omega)⟩
                    case measure => simp [intOf]; omega
                  · obtain rfl : j = K := by omega
                    have hji : ¬ (j : Int) < (j : Int) := by omega
                    rw [hN.out]
                    go_wp2
                    refine bodyPost_ret (v := .tuple #[.agg #[.int .u64 0, .int .i64 0, .string (strOfNums ((R.drop j).take N)), .bool false], .int .i64 (j4 : Int), .bool true]) (by simp [results, Tryz.results31, go_sem]) rfl (GivesGet.some rfl hfin.out.1 hfin.out.2.1 hfin.out.2.2 rfl ?_)
                    exact below3 w _ _ _
              · have hk1i : ¬ (0 : Int) < K := by omega
                go_enter Tryz.func31, Tryz.ntmps31
                go_wp2
                go_loop [12, 13] (fun v12 v13 => ∃ j : Nat, j ≤ K ∧ v13 = .int .i64 j ∧ v12 = .int .u64 (valB (R.take j))) (fun _ v13 => 100 - (intOf v13).toNat)
                case atStart => exact ⟨0, Nat.zero_le _, rfl, by rw [List.take_zero]; rfl⟩
                case round =>
                  obtain ⟨j, hj, rfl, rfl⟩ := hrel
                  by_cases hjk : j < K
                  · have hlt := valB_lt R hrb.out j (by omega)
                    have hlt7 : valB (R.take j) < 256 ^ 7 := Nat.lt_of_lt_of_le hlt (Nat.pow_le_pow_right (by decide) (by omega))
                    have hstep := Lib.hid (valB_step R j (by omega))
                    obtain ⟨L, hL⟩ : ∃ L, valB (R.take j) = L := ⟨_, rfl⟩
                    rw [hL] at hlt7 hstep ⊢
                    have hzb := hrb.out (R.getD j 0) (by rw [List.getD_eq_getElem?_getD, List.getElem?_eq_getElem (by omega)]; exact List.getElem_mem _)
                    have hcj := hat.out j (by omega)
                    obtain ⟨z, hzz⟩ : ∃ z, R.getD j 0 = z := ⟨_, rfl⟩
                    rw [hzz] at hcj hstep hzb
                    obtain ⟨zb0, zb1⟩ := hzb
                    obtain ⟨j2, hj2⟩ : ∃ j2 : Nat, (j1 : Int) + (j : Int) = (j2 : Int) := ⟨j1 + j, by omega⟩
                    rw [show at_ + 1 + j = j2 by omega] at hcj
                    have hjb : (j2 : Int) < (B.length : Int) := by omega
                    have hji : (j : Int) < (K : Int) := by omega
                    clear hlt hL hzz
                    go_wp2
                    go_round
                    case rel => exact ⟨j + 1, by omega, by go_num, by rw [hstep.out]; exact congrArg (Value.int IntKind.u64) (by omega)⟩
                    case measure => simp [intOf]; omega
                  · obtain rfl : j = K := by omega
                    have hji : ¬ (j : Int) < (j : Int) := by omega
                    rw [hN.out]
                    go_wp2
                    refine bodyPost_ret (v := .tuple #[.agg #[.int .u64 0, .int .i64 0, .string (strOfNums ((R.drop j).take N)), .bool false], .int .i64 (j4 : Int), .bool true]) (by simp [results, Tryz.results31, go_sem]) rfl (GivesGet.some rfl hfin.out.1 hfin.out.2.1 hfin.out.2.2 rfl ?_)
                    exact below3 w _ _ _

theorem rwget_any (v : Value) (B : List Int) (at_ : Nat) (kind most : Int) (w : World) (hv : Ints .u8 w v B) (hb : ∀ z ∈ B, 0 ≤ z ∧ z ≤ 255) (ha : (at_ : Int) ≤ 1000000) (hB : B.length ≤ 1000000) (hm0 : -9223372036854775808 ≤ most) (hm1 : most ≤ 9223372036854775807) :
    Calls Tryz.prog 31 #[v, .int .i64 at_, .agg #[.int .i64 kind, .int .i64 most]] w (GivesGet B (takeT kind most (B.drop at_)) w) := by
  by_cases hl : at_ < B.length
  · have hk := hb (B.getD at_ 0) (by rw [List.getD_eq_getElem?_getD, List.getElem?_eq_getElem hl]; exact List.getElem_mem _)
    obtain ⟨K, hK⟩ : ∃ K : Nat, B.getD at_ 0 = (K : Int) := ⟨(B.getD at_ 0).toNat, by omega⟩
    by_cases n3 : kind = 3
    · subst n3; exact rwget_flag v B at_ most w hv hb hl hB
    · by_cases n1 : kind = 1
      · subst n1
        by_cases hs : (K : Int) / 16 % 2 = 1
        · obtain ⟨J, hJ⟩ : ∃ J : Nat, (K : Int) = ((J : Int) + 16) := ⟨K - 16, by omega⟩
          rw [hJ] at hK hs
          exact rwget_neg v B at_ J most w hv hb hl hB hK hs
        · exact rwget_pos v B at_ K most w hv hb hl hB hK hs
      · by_cases n0 : kind = 0
        · subst n0; exact rwget_num v B at_ K most w hv hb hl hB hK
        · by_cases n4 : kind = 4
          · subst n4; exact rwget_count v B at_ K most w hv hb hl hB hK hm0 hm1
          · exact rwget_text v B at_ K kind most w hv hb hl hB hK hm0 hm1 n0 n1 n3 n4
  · exact rwget_end v B at_ kind most w hv (by omega) ha

end Go.Proofs.YtejelednnacnaaaGreatDoor
