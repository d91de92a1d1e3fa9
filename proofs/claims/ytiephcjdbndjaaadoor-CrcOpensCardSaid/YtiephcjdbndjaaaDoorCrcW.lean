/-
  The laws of layer 8, walked over the contracts: that it is awake, CrcSums.
-/
import Derived.Test.YtiephcjdbndjaaaDoorCrcC
import Derived.Lib.QuietBelow
import Derived.Deep.DrawnRows
namespace Go.Proofs.YtiephcjdbndjaaaDoor
open Go.RowKit

/-- The first bytes of a slice. -/
theorem slice_to {w : World} {v : Value} {B : List Int} (h : ArgB w v B) (k : Nat) (hk : k ≤ B.length) :
    ∃ sv, (∀ W, (Instr.slice 22 v none (some (.int .i64 (k : Int))) none).run Tryd.prog W = .ok sv W) ∧ ArgB w sv (B.take k) := by
  have hs : ∀ W : World, (sizeOf (Tryd.prog.elem 22)).run Tryd.prog W = .ok 1 W := fun W => by kernel_rfl
  rcases h with ⟨rfl, rfl⟩ | ⟨x, cap, rfl, hc, hcell⟩
  · obtain rfl : k = 0 := by simpa using hk
    refine ⟨.slice none 0 0, fun W => ?_, Or.inl ⟨rfl, rfl⟩⟩
    have := run_slice_h (P := Tryd.prog) W 22 none 0 0 (by kernel_rfl) .i64 ((0 : Nat) : Int) (by decide) (by decide)
    rw [this, hs]; rfl
  · have hl : (B.take k).length = k := by rw [List.length_take]; omega
    refine ⟨.slice (if cap = 0 then some x else (some x).map (·.add (0 * 1))) k cap, fun W => ?_, ?_⟩
    · have := run_slice_h (P := Tryd.prog) W 22 (some x) B.length cap (by kernel_rfl) .i64 (k : Int) (by omega) (by omega)
      rw [this, hs]
      simp only [Result.andThen, Int.toNat_natCast, sliced, Nat.sub_zero]
    · have ex : (if cap = 0 then some x else (some x).map (·.add (0 * 1))) = some x := by
        split
        · rfl
        · simp [Addr.add]
      rw [ex]
      refine Or.inr ⟨x, cap, by rw [hl], by omega, fun i hi => ?_⟩
      rw [hl] at hi
      rw [hcell i (by omega), List.getD_eq_getElem?_getD, List.getD_eq_getElem?_getD, List.getElem?_take_of_lt hi]

theorem sum_nine : sumL [49, 50, 51, 52, 53, 54, 55, 56, 57] = 3808858755 := by decide +kernel
theorem ArgB.made (w : World) (g : Nat) (l : List Int) (fr : Nat × Nat) (hg : g = w.heap.size) : ArgB (w.alloc (.cells (l.map (Value.int .u8)).toArray 5 fr)) (.slice (some ⟨g, 0, none⟩) l.length l.length) l := by
  subst hg
  refine Or.inr ⟨⟨w.heap.size, 0, none⟩, l.length, rfl, Nat.le_refl _, fun i hi => ?_⟩
  have e : (⟨w.heap.size, 0, none⟩ : Addr).add i = ⟨w.heap.size, i, none⟩ := by unfold Addr.add; split <;> simp_all
  rw [e, World.cell?_alloc_mark, List.getD_eq_getElem?_getD, List.getElem?_eq_getElem hi]
  simp [hi]
theorem crc_awake (w : World) (env : Env w) : Calls Tryd.prog 6 #[] w fun e w' => e = .returned (.bool true) ∧ Below w.heap.size w w' := by
  have hcv : (convert 22 22 (.slice (some ⟨w.heap.size, 0, none⟩) 9 9)).run Tryd.prog (w.alloc (.cells #[.int .u8 49, .int .u8 50, .int .u8 51, .int .u8 52, .int .u8 53, .int .u8 54, .int .u8 55, .int .u8 56, .int .u8 57] 5)) = .ok (.slice (some ⟨w.heap.size, 0, none⟩) 9 9) (w.alloc (.cells #[.int .u8 49, .int .u8 50, .int .u8 51, .int .u8 52, .int .u8 53, .int .u8 54, .int .u8 55, .int .u8 56, .int .u8 57] 5 (9, 10))) :=
    Go.Joins.run_convert_bytes_const_at (P := Tryd.prog) w 22 5 #[.int .u8 49, .int .u8 50, .int .u8 51, .int .u8 52, .int .u8 53, .int .u8 54, .int .u8 55, .int .u8 56, .int .u8 57] 9 9 w.heap.size rfl Tryd.underlying22 Tryd.underlying5
  have HO : Hid (ArgB (w.alloc (.cells #[.int .u8 49, .int .u8 50, .int .u8 51, .int .u8 52, .int .u8 53, .int .u8 54, .int .u8 55, .int .u8 56, .int .u8 57] 5 (9, 10))) (.slice (some ⟨w.heap.size, 0, none⟩) 9 9) [49, 50, 51, 52, 53, 54, 55, 56, 57]) := ArgB.made w w.heap.size [49, 50, 51, 52, 53, 54, 55, 56, 57] (9, 10) rfl
  have HB := Lib.hid (fun o => (Below.refl w.heap.size w).alloc (Nat.le_refl _) o)
  have HC := Lib.hid (cof_any (.slice (some ⟨w.heap.size, 0, none⟩) 9 9) [49, 50, 51, 52, 53, 54, 55, 56, 57] _ (env.step (HB.out _)) HO.out (by decide) (by decide))
  rw [sum_nine] at HC
  clear env
  go_enter Tryd.func6, Tryd.ntmps6
  go_wp2_with (go_at_call 7; (with_reducible refine HC.out.mono ?_); rintro e w1 ⟨rfl, g⟩; have G := Lib.hid (below_step (HB.out _) g); clear g)
  go_ret
  exact ⟨rfl, G.out⟩

set_option maxRecDepth 100000 in
set_option maxHeartbeats 4000000 in
theorem crcsums_walk (v : Value) (at_ : Int) (l : List Int) (w : World) (env : Env w) (hv : ArgB w v l) (hb : ∀ z ∈ l, 0 ≤ z ∧ z ≤ 255) (_a0 : -9223372036854775808 ≤ at_) (_a1 : at_ ≤ 9223372036854775807) :
    Calls Tryd.prog 3 #[v, .int .i64 at_] w fun e w' => e = .returned (.bool true) ∧ Below w.heap.size w w' := by
  have HW := Lib.hid (crc_awake w env)
  by_cases h2 : 2000 < l.length
  · obtain ⟨a, cap, rfl⟩ := hv.size
    have hgt : (2000 : Int) < (l.length : Int) := by omega
    clear hv hb env h2
    go_enter Tryd.func3, Tryd.ntmps3
    go_wp2_with (go_at_call 6; (with_reducible refine HW.out.mono ?_); rintro e w1 ⟨rfl, g⟩; have G := Lib.hid g; clear g)
    go_ret
    exact ⟨rfl, G.out⟩
  · have hgt : ¬ (2000 : Int) < (l.length : Int) := by omega
    have HV := Lib.hid hv
    have HE := Lib.hid env
    have HBy := Lib.hid hb
    have hl : Hid (l.length ≤ 1000000) := (by omega : l.length ≤ 1000000)
    obtain ⟨u, hu⟩ : ∃ u : Nat, IntKind.u64.wrap at_ = (u : Int) := ⟨(IntKind.u64.wrap at_).toNat, by rw [IntKind.wrap_u64]; omega⟩
    obtain ⟨k, hk⟩ : ∃ k : Nat, u % (l.length + 1) = k := ⟨_, rfl⟩
    have hkl : k ≤ l.length := by have := Nat.mod_lt u (show 0 < l.length + 1 by omega); omega
    have e2 : (u : Int) % ((l.length : Int) + 1) = (k : Int) := by rw [← hk]; simp
    have e1 : (u : Int).tmod ((l.length : Int) + 1) = (k : Int) := by rw [Int.tmod_eq_emod_of_nonneg (by omega)]; exact e2
    have w1 : IntKind.u64.wrap ((l.length : Int) + 1) = (l.length : Int) + 1 := by rw [IntKind.wrap_u64]; omega
    have w2 : IntKind.i64.wrap (k : Int) = (k : Int) := by rw [IntKind.wrap_i64]; omega
    have z1 : ((l.length : Int) + 1 == 0) = false := by simp; omega
    have e0 : wrap64 ((IntKind.u64.wrap at_).tmod ((l.length : Int) + 1)) = (k : Int) := by rw [hu, e1]; unfold wrap64; omega
    clear e1 e2 w2
    obtain ⟨s1, hs1, A1⟩ := slice_to hv k hkl
    obtain ⟨s2, hs2, A2⟩ := slice_from hv k hkl
    have HA1 := Lib.hid A1
    have HA2 := Lib.hid A2
    have H1b : Hid (∀ z ∈ l.take k, 0 ≤ z ∧ z ≤ 255) := fun z hz => HBy.out z (List.mem_of_mem_take hz)
    have H2b : Hid (∀ z ∈ l.drop k, 0 ≤ z ∧ z ≤ 255) := fun z hz => HBy.out z (List.mem_of_mem_drop hz)
    have H1l : Hid ((l.take k).length ≤ 1000000) := by have := hl.out; unfold Hid; rw [List.length_take]; omega
    have H2l : Hid ((l.drop k).length ≤ 1000000) := by have := hl.out; unfold Hid; rw [List.length_drop]; omega
    have CS := Lib.hid (fun W (g : Below w.heap.size w W) => cof_any v l W (HE.out.step g) (HV.out.below g) HBy.out hl.out)
    have RS := Lib.hid (fun W (g : Below w.heap.size w W) => rcof_arg v l W (HV.out.below g) HBy.out hl.out)
    have C1 := Lib.hid (fun W (g : Below w.heap.size w W) => cof_any s1 (l.take k) W (HE.out.step g) (HA1.out.below g) H1b.out H1l.out)
    have C2 := Lib.hid (fun W (g : Below w.heap.size w W) => con_any (sumL (l.take k)) s2 (l.drop k) W (HE.out.step g) (sumL_lt _) (HA2.out.below g) H2b.out H2l.out)
    rw [on_sum, List.take_append_drop] at C2
    obtain ⟨S, hS⟩ : ∃ S : Int, (sumL l : Int) = S := ⟨_, rfl⟩
    obtain ⟨T, hT⟩ : ∃ T : Int, (sumL (l.take k) : Int) = T := ⟨_, rfl⟩
    rw [hS] at CS RS C2
    rw [hT] at C1 C2
    obtain ⟨a, cap, rfl⟩ := hv.size
    clear hv hb env h2 A1 A2 hk hS hT hu
    go_enter Tryd.func3, Tryd.ntmps3
    go_wp2_with (first
      | (go_at_call 6; (with_reducible refine HW.out.mono ?_); rintro e w1 ⟨rfl, g⟩; have G := Lib.hid g; clear g)
      | (go_at_call 7; (with_reducible refine (CS.out _ G.out).mono ?_); rintro e w3 ⟨rfl, g⟩; have G3 := Lib.hid (below_step G.out g); clear g))
    refine wp_region_quiet_below (by kernel_rfl) (by kernel_rfl) ?_
    repeat (quiet_step (first
      | (go_at_call 8; exact Calls.regrown_of ((RS.out _ (below_step G3.out (below_regrown _ _ _))).mono fun _ _ ⟨h, g⟩ => ⟨h, g ▸ Below.refl _ _⟩))
      | (go_at_call 7; exact Calls.regrown_of (C1.out _ (below_step G3.out (below_regrown _ _ _))))
      | (go_at_call 9; exact Calls.regrown_of (C2.out _ (below_step G3.out (below_regrown _ _ _))))))
    refine wpQuiet_nil ?_
    intro _ hw'
    obtain ⟨⟨dq, osq⟩, hw''⟩ := hw'
    subst hw''
    have D3 := Lib.hid (below_step G3.out (below_regrown w3 dq osq))
    generalize Go.Sort.grow (redrawn w3 dq) osq = W3 at D3 ⊢
    go_wp2
    go_ret
    exact ⟨rfl, D3.out⟩

end Go.Proofs.YtiephcjdbndjaaaDoor
