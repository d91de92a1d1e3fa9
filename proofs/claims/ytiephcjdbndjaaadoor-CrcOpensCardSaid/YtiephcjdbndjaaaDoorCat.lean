/-
  slices.Grow of nothing, and slices.Concat of slices of bytes: walked.
-/
import Derived.Test.YtiephcjdbndjaaaDoorLists
import Derived.Lib.AppendZerosOnto
namespace Go.Proofs.YtiephcjdbndjaaaDoor
open Go.RowKit

set_option maxRecDepth 100000 in
set_option maxHeartbeats 4000000 in
theorem grow_any (n : Nat) (w : World) (n0 : 0 < n) (hn : n ≤ 100000000) :
    Calls Tryd.prog 23 #[.slice none 0 0, .int .i64 (n : Int)] w fun e w' => ∃ v, e = .returned v ∧ OwnInts 5 .u8 w' w.heap.size v [] ∧ Below w.heap.size w w' := by
  obtain ⟨i0, hi, hz0, hz1, hz2⟩ := info_parts info_byte
  have hold : (Builtin.firstCells i0.size 0 (.slice none 0 0)).run Tryd.prog w.drew = .ok #[] w.drew := run_firstCells_none w.drew i0.size 0 0 0
  have hr := fun ty => Lib.run_append_grow_zeros (P := Tryd.prog) w 22 3 ty 5 i0 (.int .u8 0) .i64 .i64 Tryd.underlying22 Tryd.underlying3 hi hz0 none 0 0 [] hold n n0 (by rw [hz1]; decide) (by omega) (by omega) (by rw [hz2]; omega) (growslice_fits (by omega) (by rw [hz2]; omega))
  have hge := grownCap_ge w (0 + n) 0 5
  have hcm2 : grownCap w (0 + n) 0 5 ≤ maxLen := grownCap_le_maxLen w (0 + n) 0 5 (by unfold maxLen; omega)
  have hw : IntKind.i64.wrap (n : Int) = (n : Int) := by rw [IntKind.wrap_i64]; omega
  have hn0 : ¬ (n : Int) < 0 := by omega
  have hnp : (0 : Int) < (n : Int) := by omega
  rw [Nat.zero_add] at hge hcm2
  simp only [Nat.zero_add] at hr
  obtain ⟨G, hG⟩ : ∃ G, grownCap w n 0 5 = G := ⟨_, rfl⟩
  rw [hG] at hge hcm2
  simp only [hG] at hr
  unfold maxLen at hcm2
  have HZ : Hid (∃ cur : Array Value, cur.size = G ∧ ∀ ty, (Builtin.append_ #[22, 3] ty #[.slice none 0 0, .int .i64 (n : Int)]).run Tryd.prog w = .ok (.slice (some ⟨w.heap.size, 0, none⟩) n G) (w.drew.alloc (.cells cur 5))) := by
    refine ⟨_, ?_, fun ty => hr ty⟩
    simp [size_zeroCells]
    show n * 1 + (G - n) * 1 = G
    omega
  clear hr hold hG
  obtain ⟨cur, hcur, hrun⟩ := HZ.out
  clear HZ
  have HR := Lib.hid hrun
  have HC := Lib.hid hcur
  clear hrun hcur
  go_enter Tryd.func23, Tryd.ntmps23
  go_wp2_with (at_builtin; refine Lib.wpList_append_run _ rfl _ _ _ _ rfl _ _ rfl rfl _ _ (HR.out _) ?_)
  all_goals (go_ret; refine ⟨_, rfl, ⟨⟨rfl, Or.inr ⟨w.heap.size, G, cur, rfl, Nat.le_refl _, heap_alloc_new w.drew _, Nat.zero_le _, hcm2, by rw [HC.out]; omega, rfl⟩⟩, by simp⟩, ((Below.refl _ _).drew).alloc (Nat.le_refl _) _⟩)

theorem flat_step (L : List (List Int)) (k : Nat) (h : k < L.length) : (L.take (k + 1)).flatten = (L.take k).flatten ++ L.getD k [] := by
  rw [List.take_succ_eq_append_getElem h, List.flatten_append, List.getD_eq_getElem?_getD, List.getElem?_eq_getElem h]; simp
theorem flat_le (L : List (List Int)) (k : Nat) : (L.take k).flatten.length ≤ L.flatten.length := by
  conv => rhs; rw [← List.take_append_drop k L, List.flatten_append, List.length_append]
  omega

set_option maxRecDepth 100000 in
set_option maxHeartbeats 4000000 in
theorem concat_any (v : Value) (L : List (List Int)) (w : World) (hv : ArgLL w v L) (h0 : 0 < L.flatten.length) (hl : L.flatten.length ≤ 4000000) (hn : L.length ≤ 1000000) :
    Calls Tryd.prog 18 #[v] w fun e w' => ∃ u, e = .returned u ∧ OwnInts 5 .u8 w' w.heap.size u L.flatten ∧ Below w.heap.size w w' := by
  have hL0 : 0 < L.length := by
    cases L with
    | nil => simp at h0
    | cons a b => simp
  obtain ⟨b, off, cap, vs, rfl, hk⟩ := hv.at hL0
  have HK := Lib.hid hk
  obtain ⟨N, hN⟩ : ∃ N, L.flatten.length = N := ⟨_, rfl⟩
  have HN := Lib.hid hN
  rw [hN] at h0 hl
  clear hv hk hN
  go_enter Tryd.func18, Tryd.ntmps18
  go_wp2
  go_loop [3, 11] (fun v3 v11 => ∃ k : Nat, v11 = .int .i64 (k : Int) ∧ k ≤ L.length ∧ v3 = .int .i64 ((L.take k).flatten.length : Nat)) (fun _ v11 => L.length - (intOf v11).toNat)
  case atStart => exact ⟨0, rfl, Nat.zero_le _, rfl⟩
  case round =>
    obtain ⟨k, rfl, hkl, rfl⟩ := hrel
    by_cases hlt : k < L.length
    · obtain ⟨c0, ha⟩ := HK.out k hlt
      obtain ⟨x, hx⟩ : ∃ x, L.getD k [] = x := ⟨_, rfl⟩
      rw [hx] at ha
      obtain ⟨xa, xc, hxe⟩ := ha.size
      rw [hxe] at c0
      have hst := flat_step L k hlt
      rw [hx] at hst
      have hle := flat_le L (k + 1)
      rw [HN.out, hst, List.length_append] at hle
      have HST := Lib.hid (congrArg List.length hst)
      rw [List.length_append] at HST
      obtain ⟨m, hm⟩ : ∃ m, (L.take k).flatten.length = m := ⟨_, rfl⟩
      rw [hm] at hle HST ⊢
      have hadd : IntKind.i64.wrap ((m : Int) + (x.length : Int)) = ((m + x.length : Nat) : Int) := by rw [IntKind.wrap_i64]; omega
      have hnn : ¬ ((m + x.length : Nat) : Int) < 0 := by omega
      clear hst ha hx hxe hm
      go_wp2
      go_round
      case rel => exact ⟨k + 1, by go_num, by omega, by rw [HST.out]; go_num⟩
      case measure => simp [intOf]; omega
    · obtain rfl : k = L.length := by omega
      have hfin : (L.take L.length).flatten.length = N := by rw [List.take_length]; exact HN.out
      rw [hfin]
      clear hfin hlt
      go_wp2_with (go_at_call 23; (with_reducible refine (grow_any N _ h0 (by omega)).mono ?_); rintro e w1 ⟨u, rfl, hO, hB⟩; have HO := Lib.hid hO; have HB := Lib.hid hB; clear hO hB)
      obtain ⟨base, hbd⟩ : ∃ b, w.heap.size = b := ⟨_, rfl⟩
      have HBd := Lib.hid hbd
      rw [hbd] at HO HB
      clear hbd
      go_loopw [6, 27] (fun v6 v27 wr => ∃ k : Nat, v27 = .int .i64 (k : Int) ∧ k ≤ L.length ∧ OwnInts 5 .u8 wr base v6 ((L.take k).flatten) ∧ Below base w wr ∧ base ≤ wr.heap.size) (fun _ v27 _ => L.length - (intOf v27).toNat)
      case atStart => exact ⟨0, rfl, Nat.zero_le _, HO.out, HB.out, by have := HB.out.size; have := HBd.out; omega⟩
      case round =>
        obtain ⟨k, rfl, hkl, hO, hB, hS⟩ := hrel
        have HO2 := Lib.hid hO
        have HB2 := Lib.hid hB
        have HS2 := Lib.hid hS
        clear hO hB hS
        by_cases hlt : k < L.length
        · obtain ⟨c0, ha⟩ := HK.out k hlt
          have hfr : Below w.heap.size w wr := HBd.out.symm ▸ HB2.out
          have c1 := (hfr.cell (p := ⟨b, off + k, none⟩) (World.block_lt_of_cell? _ _ c0)).trans c0
          have ha1 := ha.below hfr
          obtain ⟨x, hx⟩ : ∃ x, L.getD k [] = x := ⟨_, rfl⟩
          rw [hx] at ha1
          obtain ⟨xa, xc, hxe⟩ := ha1.size
          rw [hxe] at c1 ha1
          have hst := flat_step L k hlt
          rw [hx] at hst
          have hle := flat_le L (k + 1)
          rw [HN.out, hst, List.length_append] at hle
          have HST := Lib.hid hst
          have HA := Lib.hid ha1
          obtain ⟨y, hy⟩ : ∃ y, (L.take k).flatten = y := ⟨_, rfl⟩
          rw [hy] at HO2 HST hle
          have HLe : Hid (y.length + x.length ≤ 100000000) := (by omega : y.length + x.length ≤ 100000000)
          clear hfr c0 ha hx hxe hst hy ha1 hle
          go_wp2_with (at_builtin; refine wp_join rfl _ _ rfl base _ y rfl HO2.out _ x rfl HA.out HLe.out HS2.out ?_)
          intro v' w2 hown hb2 _ hs2
          have HB3 := Lib.hid (HB2.out.trans hb2)
          have HO3 := Lib.hid hown
          have HS3 := Lib.hid hs2
          clear hown hb2 hs2
          go_wp2
          go_roundw
          case rel => exact ⟨k + 1, by go_num, by omega, by rw [HST.out]; exact HO3.out, HB3.out, HS3.out⟩
          case measure => simp [intOf]; omega
        · obtain rfl : k = L.length := by omega
          go_wp2
          go_ret
          have := HO2.out
          rw [List.take_length, ← HBd.out] at this
          exact ⟨_, rfl, this, HBd.out.symm ▸ HB2.out⟩

end Go.Proofs.YtiephcjdbndjaaaDoor
