/-
  ExactSums is proved: of any numbers of 64 bits (up to 100 are looked at) exact.Sum tells all of them, or that they are beyond 64 bits; of any two pieces of the list, too; no condition.
-/
import Derived.Test.YtnonecjjlmlbaaaRows
import Derived.WalkKit
import Derived.ProofKit
import Derived.OpenShut
import Derived.ShutString
import Derived.ChangeOld
import Derived.Below
import Derived.Test.YtnonecjjlmlbaaaAwake
import Derived.Test.YtnonecjjlmlbaaaRefC
import Derived.Test.YtnonecjjlmlbaaaOf
import Derived.Test.YtnonecjjlmlbaaaSum
namespace Go.Proofs.Ytnonecjjlmlbaaa
open Go.ChangeShapes Go.WideShapes Go.ChangeAt Go.RowKit
open Go.ChangeMaps (open_string shut_string)
set_option linter.unusedVariables false

theorem sums_own : ownKnob Try.prog.godebug = none := by kernel_rfl
theorem sums_laidOut : laidOutB Try.prog = true := by kernel_rfl

/-- A slice of integers that came in. -/
def sums_IsRow (k : IntKind) (w : World) (a : Option Addr) (len cap : Nat) (zs : List Int) : Prop :=
  (a = none ∧ len = 0 ∧ cap = 0 ∧ zs = []) ∨
  ∃ x, a = some x ∧ len ≤ cap ∧ cap ≤ maxLen ∧ zs.length = cap ∧ (∀ i, i < zs.length → w.cell? (x.add i) = some (.int k (zs.getD i 0))) ∧ ∀ n ∈ zs, (Lit.int k n).wf = true

set_option maxRecDepth 100000 in
theorem sums_walk_long (a : Option Addr) (n cap : Nat) (x : Int) (w : World) (hn : 100 < n) (hm : n ≤ 9223372036854775807) :
    Calls Try.prog 6 #[.slice a n cap, .int .i64 x] w fun e w' => e = .returned (.bool true) ∧ Below w.heap.size w w' := by
  go_enter Try.func6, Try.ntmps6
  go_wp2_with (go_at_call 8; refine (awake_any _).mono ?_; rintro e w1 ⟨rfl, g1⟩)
  go_ret
  exact ⟨rfl, g1⟩

theorem sums_high {p q T : Int} {N : Nat} (h : IsW p q (capN N)) (hW : W128 N) (hv : (N : Int) = T) (hm : ¬ T ≤ 18446744073709551615) : 0 < p := by
  rw [capN_in hW] at h
  obtain ⟨_, _, _, _, e⟩ := h
  omega
theorem sums_low {p q T : Int} {N : Nat} (h : IsW p q (capN N)) (hW : W128 N) (hv : (N : Int) = T) (h0 : 0 ≤ T) (hm : T ≤ 18446744073709551615) : p = 0 ∧ q = T := by
  rw [capN_in hW] at h
  obtain ⟨_, _, _, _, e⟩ := h
  omega
theorem two_nums (W : World) (A B : Int) (g : Nat) (hg : g = W.heap.size) : Nums (W.alloc (.cells #[.int .u64 A, .int .u64 B] 22)) (.slice (some ⟨g, 0, none⟩) 2 2) [A, B] := by
  subst hg
  refine ⟨_, 2, rfl, fun i hi => ⟨W.heap.size, 0, rfl, ?_⟩⟩
  rcases i with _ | _ | i
  · simp
  · simp
  · simp at hi; omega
theorem two_words {A B : Int} (a0 : 0 ≤ A) (a1 : A ≤ 18446744073709551615) (b0 : 0 ≤ B) (b1 : B ≤ 18446744073709551615) : Words [A, B] := by
  intro z hz
  simp at hz
  rcases hz with rfl | rfl <;> omega
theorem piece (x : Int) (n : Nat) (hn : n ≤ 100) : ∃ K : Nat, K ≤ n ∧ IntKind.u64.wrap x % ((n : Int) + 1) = (K : Int) := by
  have h1 := Int.emod_nonneg (IntKind.u64.wrap x) (by omega : (n : Int) + 1 ≠ 0)
  have h2 := Int.emod_lt_of_pos (IntKind.u64.wrap x) (by omega : 0 < (n : Int) + 1)
  obtain ⟨K, hK⟩ := Int.eq_ofNat_of_zero_le h1
  exact ⟨K, by omega, hK⟩
/-- What is known at the head of a round. -/
structure SumsAt (zs : List Int) (l : List Bool) (k : Nat) : Prop where
  len : l.length ≤ 128 + k
  num : (val l : Int) = tot (zs.take k)

set_option maxRecDepth 100000 in
set_option maxHeartbeats 1000000 in
theorem sums_walk_short (a : Option Addr) (cap : Nat) (zs : List Int) (x : Int) (w : World) (hn : zs.length ≤ 100) (hcap : zs.length ≤ cap) (hx0 : -9223372036854775808 ≤ x) (hx1 : x ≤ 9223372036854775807) (hc : CellsOf w a zs) (hz : Words zs) :
    Calls Try.prog 6 #[.slice a zs.length cap, .int .i64 x] w fun e w' => e = .returned (.bool true) ∧ Below w.heap.size w w' := by
  obtain ⟨T, hT⟩ : ∃ T, tot zs = T := ⟨_, rfl⟩
  have hT0 : 0 ≤ T := by rw [← hT]; exact tot_nonneg hz
  have hT1 : T ≤ 100 * 18446744073709551616 := by have := tot_le hz; omega
  replace hz := Lib.hid hz
  replace hT := Lib.hid hT
  replace hc := Lib.hid hc
  go_enter Try.func6, Try.ntmps6
  go_wp2_with (go_at_call 8; refine (awake_any _).mono ?_; rintro e w1 ⟨rfl, g1⟩)
  have hs1 := g1.size
  have hc1 := Lib.hid (hc.out.below g1)
  go_loopw [5, 6] (fun v i wr => ∃ (k : Nat) (l : List Bool), k ≤ zs.length ∧ i = .int .i64 k ∧ Bools wr v l ∧ SumsAt zs l k ∧ Below w1.heap.size w1 wr) (fun _ i _ => zs.length - (intOf i).toNat)
  case atStart => exact ⟨0, [], Nat.zero_le _, rfl, (OwnBits.fresh _ 0 _ rfl (Nat.zero_le _)).bools, ⟨Nat.zero_le _, rfl⟩, (Below.refl _ _).alloc (Nat.le_refl _) _⟩
  case round =>
    obtain ⟨k, l, hk, rfl, hv, hS, hbel⟩ := hrel
    replace hv := Lib.hid hv
    replace hS := Lib.hid hS
    by_cases h1 : k < zs.length
    · obtain ⟨b, off, rfl, hcell⟩ := (hc1.out.below hbel) k h1
      obtain ⟨z0, z1⟩ := hz.out.at h1
      have hst := Lib.hid (tot_step zs k h1)
      obtain ⟨z, hzk⟩ : ∃ z, z = zs.getD k 0 := ⟨_, rfl⟩
      rw [← hzk] at hcell z0 z1 hst
      clear hzk
      go_wp2_with (first | (go_at_call 9; refine (bits_small z _ z0 z1).mono ?_; rintro e w2 ⟨vz, lz, rfl, kz, ⟨nz, ez⟩, gz⟩; replace ez := Lib.hid ez; replace nz := Lib.hid nz) | (go_at_call 17; refine (plus_any _ _ l lz _ ((hv.out.below gz).orNil) kz.orNil (by have := hS.out.len; omega) (by have := nz.out; omega)).mono ?_; rintro e w3 ⟨v3, l3, rfl, k3, ⟨n3, e3⟩, g3⟩; replace e3 := Lib.hid e3; replace n3 := Lib.hid n3))
      have hS3 : SumsAt zs l3 (k + 1) := ⟨by have := n3.out; have := nz.out; have := hS.out.len; omega, by rw [hst.out, ← hS.out.num, e3.out, ez.out]; omega⟩
      have hb3 := (hbel.trans (gz.mono hbel.size)).trans (g3.mono (Nat.le_trans hbel.size gz.size))
      clear kz gz g3 hbel hcell
      go_roundw
      case rel => exact ⟨k + 1, l3, by omega, by go_num, k3, hS3, hb3⟩
      case measure => simp [intOf]; omega
    · obtain rfl : k = zs.length := by omega
      have hval := Lib.hid (show (val l : Int) = T by rw [hS.out.num, List.take_length, hT.out])
      have hW : Hid (W128 (val l)) := by have := hval.out; unfold Hid W128; omega
      have hlen := hS.out.len
      by_cases hmax : T ≤ 18446744073709551615
      · obtain ⟨K, hK, eK⟩ := piece x zs.length hn
        have hwx : 0 ≤ IntKind.u64.wrap x := by rw [IntKind.wrap_u64]; omega
        obtain ⟨a2, c2, hfr, hcf⟩ := slice_from a zs.length cap K zs rfl hK hcap
        have hto := slice_to a zs.length cap K (by omega)
        obtain ⟨A, hA⟩ : ∃ A, tot (zs.take K) = A := ⟨_, rfl⟩
        obtain ⟨B, hB⟩ : ∃ B, tot (zs.drop K) = B := ⟨_, rfl⟩
        have hAB : Hid (A + B = T) := by rw [← hA, ← hB, ← hT.out]; exact (tot_split zs K).symm
        have hA0 : 0 ≤ A := by rw [← hA]; exact tot_nonneg (hz.out.take K)
        have hB0 : 0 ≤ B := by rw [← hB]; exact tot_nonneg (hz.out.drop K)
        have hA1 : A ≤ 18446744073709551615 := by have := hAB.out; omega
        have hB1 : B ≤ 18446744073709551615 := by have := hAB.out; omega
        have two_len : [A, B].length ≤ 9223372036854775807 := by simp
        have hsum := Lib.hid (show tot [A, B] = T by rw [← hAB.out]; simp [tot])
        replace hA := Lib.hid hA
        replace hB := Lib.hid hB
        replace hcf := Lib.hid hcf
        have hlt := Lib.hid (show K = (zs.take K).length by rw [List.length_take]; omega)
        have hld := Lib.hid (show zs.length - K = (zs.drop K).length by rw [List.length_drop])
        go_wp2_with (first | (go_at_call 23; refine (of_any _ l _ hv.out (by omega)).mono ?_; rintro e w2 ⟨p, q, ok, rfl, hWp, hok, g2⟩; obtain rfl := hok.mpr hW.out; obtain ⟨rfl, rfl⟩ := sums_low hWp hW.out hval.out hT0 hmax; clear hok hWp; have hc2 := Lib.hid ((hc1.out.below hbel).below g2); have hc3 := Lib.hid (hc2.out.below ((Below.refl _ _).alloc (Nat.le_refl _) (.cells #[.int .u64 0, .int .u64 q] 24)))) | (go_at_call 25; (with_reducible refine (sum_is (.slice a zs.length cap) zs q _ (hc3.out.nums _ _ rfl) hz.out (by omega) hT.out hmax).mono ?_); rintro e w3 ⟨rfl, rfl⟩) | (go_at_call 25; (with_reducible refine (sum_is (.slice a K cap) (zs.take K) A _ ((hc3.out.take K).nums _ _ hlt.out) (hz.out.take K) (by have := hlt.out; omega) hA.out hA1).mono ?_); rintro e w3 ⟨rfl, rfl⟩) | (go_at_call 25; (with_reducible refine (sum_is (.slice a2 (zs.length - K) c2) (zs.drop K) B _ ((hcf.out _ hc3.out).nums _ _ hld.out) (hz.out.drop K) (by have := hld.out; omega) hB.out hB1).mono ?_); rintro e w3 ⟨rfl, rfl⟩) | (go_at_call 25; (with_reducible refine (sum_is (.slice (some ⟨w2.heap.size + 1, 0, none⟩) 2 2) [A, B] q _ (two_nums (w2.alloc (.cells #[.int .u64 0, .int .u64 q] 24)) A B _ (by simp)) (two_words hA0 hA1 hB0 hB1) two_len hsum.out hmax).mono ?_); rintro e w3 ⟨rfl, rfl⟩))
        go_ret
        exact ⟨rfl, (((g1.trans (hbel.mono hs1)).trans (g2.mono (Nat.le_trans hs1 hbel.size))).alloc (Nat.le_trans hs1 (Nat.le_trans hbel.size g2.size)) _).alloc (by have := Nat.le_trans hs1 (Nat.le_trans hbel.size g2.size); simp; omega) _⟩
      · have hov := Lib.hid (show ¬ tot zs ≤ 18446744073709551615 by rw [hT.out]; exact hmax)
        go_wp2_with (first | (go_at_call 23; refine (of_any _ l _ hv.out (by omega)).mono ?_; rintro e w2 ⟨p, q, ok, rfl, hWp, hok, g2⟩; obtain rfl := hok.mpr hW.out; have hp := sums_high (hWp) hW.out hval.out hmax; clear hok hWp) | (go_at_call 25; refine (sum_over _ zs _ (((hc1.out.below hbel).below g2).below ((Below.refl _ _).alloc (Nat.le_refl _) _) |>.nums _ _ rfl) hz.out (by omega) (by have := hov.out; omega)).mono ?_; rintro e w3 ⟨rfl, rfl⟩))
        go_ret
        exact ⟨rfl, (((g1.trans (hbel.mono hs1)).trans (g2.mono (Nat.le_trans hs1 hbel.size))).alloc (Nat.le_trans hs1 (Nat.le_trans hbel.size g2.size)) _)⟩

theorem sums_walk (a0 : Option Addr) (len0 cap0 : Nat) (z0 : List Int) (a1 : Int) (w : World) (w0 : sums_IsRow .u64 w a0 len0 cap0 z0) (w1 : (Lit.int .i64 a1).wf = true) :
    Calls Try.prog 6 #[.slice a0 len0 cap0, .int .i64 a1] w fun e w' => e = .returned (.bool true) ∧ Below w.heap.size w w' := by
  have hx := bounds_i64 w1
  have hlc : len0 ≤ cap0 ∧ cap0 ≤ maxLen ∧ z0.length = cap0 := by
    rcases w0 with ⟨_, rfl, rfl, rfl⟩ | ⟨_, _, h1, h2, h3, _⟩
    · exact ⟨Nat.le_refl _, Nat.zero_le _, rfl⟩
    · exact ⟨h1, h2, h3⟩
  obtain ⟨hl, hm, hz⟩ := hlc
  unfold maxLen at hm
  by_cases h : 100 < len0
  · exact sums_walk_long a0 len0 cap0 a1 w h (by omega)
  · have hlen : (z0.take len0).length = len0 := by rw [List.length_take]; omega
    have hw : Words (z0.take len0) := by
      intro z hzm
      rcases w0 with ⟨_, _, _, rfl⟩ | ⟨_, _, _, _, _, _, h4⟩
      · simp at hzm
      · have := bounds_u64 (h4 z (List.mem_of_mem_take hzm)); omega
    have hc : CellsOf w a0 (z0.take len0) := by
      intro i hi
      rw [hlen] at hi
      rcases w0 with ⟨_, rfl, _, _⟩ | ⟨y, rfl, _, _, h3, h4, _⟩
      · omega
      · obtain ⟨b, off, rfl, hcell⟩ := ints_at h4 (by omega)
        refine ⟨b, off, rfl, ?_⟩
        rw [hcell i (by omega), List.getD_eq_getElem?_getD, List.getD_eq_getElem?_getD, List.getElem?_take_of_lt hi]
    have := sums_walk_short a0 cap0 (z0.take len0) a1 w (by omega) (by omega) hx.1 hx.2 hc hw
    rw [hlen] at this
    exact this

set_option maxRecDepth 100000 in
theorem sums_lifted (os : Os) (started : os.Started) (H : Type) (enc : TypeId × Value → H) :
    ReturnsInHanded {} Try.checked os 6 .any (Rows.exactSumsSpec.pre6 enc Try.prog Try.f6 Rows.exactSumsRow.domain false) (Rows.exactSumsSpec.post enc Try.prog Try.f6 false true false false) := by
  refine returnsInHanded_of_change (C := Try.checked) sums_own started (by kernel_rfl) Try.func6
    (ChangeSpec.witness6 (enc := enc) (C := Try.checked) false ⟨#[], #[.slice none 0 0, .int .i64 0], []⟩ 8 (by kernel_rfl) (by kernel_rfl) (by kernel_rfl) (by kernel_rfl)) ?_
  intro W base args ds gs before hval0 hW hcnd _
  have hval : ∀ (j : Nat) t v, Try.f6.params[j]? = some t → args[j]? = some v → Value.okWide Try.prog W .any base t v := hval0
  have hW' := hW
  obtain ⟨p, q, hA0, hV, rfl, hfz, hnd⟩ := hW
  have hA : DataW.TrodAll enc Try.prog W 0 (fun _ => true) true Try.f6.params.toList args.toList ds p := hA0
  rw [Try.params6] at hA hval
  obtain ⟨v0, vs0, d0, ds0, p0, q0, hargs, rfl, rfl, h0, r0⟩ := trodAll_cons hA
  obtain ⟨v1, vs1, d1, ds1, p1, q1, rfl, rfl, rfl, h1, r1⟩ := trodAll_cons r0
  obtain ⟨rfl, rfl, rfl⟩ := trodAll_nil r1
  obtain rfl : args = #[v0, v1] := by cases args; simp_all
  obtain ⟨rfl, rfl⟩ := trodVars_none hV
  obtain ⟨a0, len0, cap0, rfl⟩ := okWide_slice Try.underlying48 (hval 0 48 v0 rfl rfl)
  have k0 := h0
  have lt0 : ∀ x ∈ p0, x.block < W.heap.size := by obtain ⟨m, hm⟩ := k0; exact DataW.trod_lt m _ _ _ hm
  obtain ⟨z0, w0⟩ : ∃ zs, sums_IsRow .u64 W a0 len0 cap0 zs := by
    obtain ⟨fuel, hf⟩ := h0
    rcases open_ints Try.underlying48 Try.underlying22 (by kernel_rfl) hf with ⟨hcs, _⟩ | ⟨x, l, c, zs, hcs, _, hl, hm, hz, _, hcell, hwz⟩
    · simp [Value.cells] at hcs
      obtain ⟨rfl, rfl, rfl⟩ := hcs
      exact ⟨[], .inl ⟨rfl, rfl, rfl, rfl⟩⟩
    · simp [Value.cells] at hcs
      obtain ⟨rfl, rfl, rfl⟩ := hcs
      exact ⟨zs, .inr ⟨_, rfl, hl, hm, by simpa using hz, hcell, hwz⟩⟩
  obtain ⟨a1, rfl, rfl, rfl, w1⟩ := open_int Try.underlying3 (hval 1 3 v1 rfl rfl) h1
  clear hA0 hval0
  refine (sums_walk a0 len0 cap0 z0 a1 W w0 w1).mono fun e W' ⟨he, bel⟩ => ?_
  subst he
  exact ⟨_, rfl, _, _, _, [], _, [], hW', trodAll_mk1 (shut_bool Try.underlying4 _), (trodAll_cons_mk (Below.trod sums_laidOut (by kernel_rfl) (of_decide_eq_true (by kernel_rfl)) k0 bel lt0) (trodAll_cons_mk (shut_int Try.underlying3 w1) trodAll_mk0)), rfl, bel.frame _, fun h => by cases h⟩

theorem sums_over : Rows.exactSumsRow.holds Try.pinned (OpenSpec.ofChange Rows.exactSumsSpec) :=
  OpenClaim.holds_of_wide 6 Try.f6 rfl rfl rfl rfl rfl rfl rfl ⟨rfl, rfl, rfl, rfl, rfl⟩ rfl rfl rfl rfl rfl (by kernel_rfl) Try.func6 (by kernel_rfl)
    (of_decide_eq_true (by kernel_rfl)) (by unfold Func.isWrapper; first | (rw [if_pos (by decide +kernel)]; kernel_rfl) | (rw [if_neg (by decide +kernel)]; exact ⟨rfl, rfl⟩))
    (fun os started H enc _ => sums_lifted os started H enc)

/-- The statement. -/
theorem exact_sums_proved : Rows.ExactSumsSaid := sums_over
end Go.Proofs.Ytnonecjjlmlbaaa
