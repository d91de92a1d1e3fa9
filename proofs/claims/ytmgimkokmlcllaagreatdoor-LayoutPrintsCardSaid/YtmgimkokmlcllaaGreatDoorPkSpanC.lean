/-
  Package span's calls, walked: each by what a text tells, and what a number's print is.
-/
import Derived.Test.YtmgimkokmlcllaaGreatDoorPkSpanD
import Derived.Test.YtmgimkokmlcllaaGreatDoorPkEnvs
import Derived.Lib.MinMax
namespace Go.Proofs.YtmgimkokmlcllaaGreatDoor
open Go.RowKit

theorem spright_yes (n : Int) (w : World) (h0 : 0 ≤ n) (h1 : n ≤ 253402300799) : Calls Tryz.prog 102 #[.int .i64 n] w fun e w' => e = .returned (.bool true) ∧ w = w' := by
  go_enter Tryz.func102, Tryz.ntmps102
  go_wp2
  go_ret
  exact ⟨rfl, rfl⟩
theorem spright_no (n : Int) (w : World) (h : n < 0 ∨ 253402300799 < n) : Calls Tryz.prog 102 #[.int .i64 n] w fun e w' => e = .returned (.bool false) ∧ w = w' := by
  by_cases h0 : n < 0
  · clear h
    go_enter Tryz.func102, Tryz.ntmps102
    go_wp2
    go_ret
    exact ⟨rfl, rfl⟩
  · have h1 : decide (n ≤ 253402300799) = false := by simp; omega
    clear h
    go_enter Tryz.func102, Tryz.ntmps102
    go_wp2
    go_ret
    exact ⟨rfl, rfl⟩

theorem spunit_any (r : Int) (w : World) : Calls Tryz.prog 103 #[.int .i32 r] w fun e w' => e = .returned (.int .i64 (unitOf r)) ∧ Below w.heap.size w w' := by
  by_cases c119 : r = 119
  · subst c119
    go_enter Tryz.func103, Tryz.ntmps103
    go_wp2
    go_ret
    exact ⟨rfl, Below.refl _ _⟩
  by_cases c100 : r = 100
  · subst c100
    clear c119
    go_enter Tryz.func103, Tryz.ntmps103
    go_wp2
    go_ret
    exact ⟨rfl, Below.refl _ _⟩
  by_cases c104 : r = 104
  · subst c104
    clear c119
    clear c100
    go_enter Tryz.func103, Tryz.ntmps103
    go_wp2
    go_ret
    exact ⟨rfl, Below.refl _ _⟩
  by_cases c109 : r = 109
  · subst c109
    clear c119
    clear c100
    clear c104
    go_enter Tryz.func103, Tryz.ntmps103
    go_wp2
    go_ret
    exact ⟨rfl, Below.refl _ _⟩
  by_cases c115 : r = 115
  · subst c115
    clear c119
    clear c100
    clear c104
    clear c109
    go_enter Tryz.func103, Tryz.ntmps103
    go_wp2
    go_ret
    exact ⟨rfl, Below.refl _ _⟩
  have hz : Hid (unitOf r = 0) := by
    unfold Hid unitOf
    rw [if_neg c119, if_neg c100, if_neg c104, if_neg c109, if_neg c115]
  have d119 : (r == 119) = false := by simpa using c119
  have d100 : (r == 100) = false := by simpa using c100
  have d104 : (r == 104) = false := by simpa using c104
  have d109 : (r == 109) = false := by simpa using c109
  have d115 : (r == 115) = false := by simpa using c115
  go_enter Tryz.func103, Tryz.ntmps103
  go_wp2
  go_ret
  exact ⟨by rw [hz.out]; rfl, Below.refl _ _⟩

theorem spbounded_any (a n b p : Int) (w : World) (hp : a * n = p) (p0 : 0 ≤ p) (p1 : p ≤ 153257711523840000) (b0 : 0 ≤ b) (b1 : b ≤ 253402300800) :
    Calls Tryz.prog 162 #[.int .i64 a, .int .i64 n, .int .i64 b] w fun e w' => e = .returned (.int .i64 (min (p + b) 253402300800)) ∧ w = w' := by
  go_enter Tryz.func162, Tryz.ntmps162
  go_wp2
  go_ret
  exact ⟨rfl, rfl⟩

structure SPMem (w wr : World) (s : ByteArray) (pos : Nat) : Prop where
  it : wr.heap[w.heap.size]? = some (.stringIter s pos)
  bel : Below w.heap.size w wr
  s1 : w.heap.size < wr.heap.size
theorem SPMem.start (w : World) (s : ByteArray) : SPMem w (w.iter s 0) s 0 := ⟨World.iter_heap w s 0, (Below.refl _ _).alloc (Nat.le_refl _) _, by simp [World.iter]⟩
theorem SPMem.after {w wr w2 : World} {s : ByteArray} {pos : Nat} (h : SPMem w wr s pos) (hb : Below wr.heap.size wr w2) : SPMem w w2 s pos := by
  obtain ⟨it, bel, s1⟩ := h
  have := hb.size
  exact ⟨(hb.block _ s1).trans it, bel.trans (hb.mono bel.size), by omega⟩
theorem SPMem.next {w wr : World} {s : ByteArray} {pos : Nat} (h : SPMem w wr s pos) (p : Nat) : SPMem w (wr.iterAt w.heap.size s p) s p := by
  obtain ⟨it, bel, s1⟩ := h
  exact ⟨Lib.iterAt_heap wr _ s pos p it, Lib.below_iterAt bel (Nat.le_refl _) s p, by rw [Lib.iterAt_size]; exact s1⟩
set_option maxRecDepth 100000 in
set_option maxHeartbeats 4000000 in
theorem spprint_any (n : Int) (w : World) (h0 : 0 ≤ n) (h1 : n ≤ 253402300799) (hT : Tab w) :
    Calls Tryz.prog 67 #[.int .i64 n] w fun e w' => e = .returned (.string (strOfNums (spn n.toNat))) ∧ Below w.heap.size w w' := by
  obtain ⟨N, rfl⟩ : ∃ N : Nat, n = N := ⟨n.toNat, by omega⟩
  rw [Int.toNat_natCast]
  by_cases hz : N = 0
  · subst hz
    go_enter Tryz.func67, Tryz.ntmps67
    go_wp2_with (go_at_call 102; (with_reducible refine (spright_yes _ _ (by decide) (by decide)).mono ?_); rintro e w1 ⟨rfl, rfl⟩)
    go_ret
    exact ⟨rfl, Below.refl _ _⟩
  · have hsp : Hid (spn N = sp units N) := by unfold Hid spn; rw [if_neg hz]
    have hz1 : ((N : Int) == 0) = false := by simp; omega
    have hz2 : ¬ (N : Int) = 0 := by omega
    clear hz
    go_enter Tryz.func67, Tryz.ntmps67
    go_wp2_with (go_at_call 102; (with_reducible refine (spright_yes _ _ h0 h1).mono ?_); rintro e w1 ⟨rfl, rfl⟩)
    go_loopw [0, 3] (fun v0 v3 wr => ∃ (k m : Nat) (xs : List Int), k ≤ 5 ∧ v0 = .int .i64 m ∧ v3 = .string (strOfNums xs) ∧ SpAt N k m xs ∧ SPMem w wr ⟨#[119, 100, 104, 109, 115]⟩ k) (fun _ _ wr => 5 - wr.iterPos w.heap.size)
    case atStart => exact ⟨0, N, [], by omega, rfl, rfl, SpAt.start N (by omega), SPMem.start _ _⟩
    case round =>
      obtain ⟨k, m, xs, hk, rfl, rfl, hS, hM⟩ := hrel
      have HS := Lib.hid hS
      have hm9 : (m : Int) ≤ 253402300799 := by have := hS.le; omega
      have hlx : (strOfNums xs).size ≤ 200 := by rw [strOfNums_size]; have := hS.len; omega
      have hM0 := Lib.hid hM.it
      clear hS
      have hk6 : k = 0 ∨ k = 1 ∨ k = 2 ∨ k = 3 ∨ k = 4 ∨ k = 5 := by omega
      rcases hk6 with rfl | rfl | rfl | rfl | rfl | rfl
      · have hnx : ∀ ty, (Instr.next (.pointer (some ⟨w.heap.size, 0, none⟩)) true ty).run Tryz.prog wr = .ok (.tuple #[.bool true, .int .i64 0, .int .i32 119]) (wr.iterAt w.heap.size ⟨#[119, 100, 104, 109, 115]⟩ 1) := fun ty => Lib.run_next_ascii_at wr w.heap.size ⟨#[119, 100, 104, 109, 115]⟩ 0 ty hM.it (by decide) (by decide)
        have M1 := Lib.hid (hM.next 1)
        have hbel := Lib.hid hM.bel
        clear hM
        have HU : Hid (unitOf 119 = 604800) := rfl
        have henc : Utf8.encode 119 = ⟨#[119]⟩ := rfl
        by_cases hc : 604800 ≤ m
        · have hnext := Lib.hid (HS.out.yes (c := 119) (r := [100, 104, 109, 115]) rfl rfl (by rw [HU.out]; exact hc))
          obtain ⟨q, hq⟩ : ∃ q : Nat, (m : Int) / 604800 = (q : Int) := ⟨m / 604800, by omega⟩
          obtain ⟨y, hy⟩ : ∃ y : Nat, (m : Int) % 604800 = (y : Int) := ⟨m % 604800, by omega⟩
          have hqn : Hid (q = m / unitOf 119) := by unfold Hid; rw [HU.out]; omega
          have hyn : Hid (y = m % unitOf 119) := by unfold Hid; rw [HU.out]; omega
          have hq9 : (q : Int) ≤ 253402300799 := by omega
          have hlq : (strOfNums (dec q)).size ≤ 39 := by rw [strOfNums_size]; exact dec_len (by unfold W128; omega)
          have hqt : (m : Int).tdiv 604800 = (q : Int) := by rw [Int.tdiv_eq_ediv_of_nonneg (by omega)]; exact hq
          have hyt : (m : Int).tmod 604800 = (y : Int) := by rw [Int.tmod_eq_emod_of_nonneg (by omega)]; exact hy
          have hqw : IntKind.i64.wrap (q : Int) = (q : Int) := by rw [IntKind.wrap_i64]; omega
          have hci : (604800 : Int) ≤ m := by omega
          have hs1n : ¬ 9223372036854775807 < (strOfNums (dec q)).size + 1 := by omega
          have hs2n : ¬ 9223372036854775807 < (strOfNums xs).size + ((strOfNums (dec q)).size + 1) := by omega
          have hstr : Hid (strOfNums xs ++ (strOfNums (dec q) ++ ⟨#[119]⟩) = strOfNums (xs ++ (dec (m / unitOf 119) ++ [119]))) := by unfold Hid; rw [show (⟨#[119]⟩ : ByteArray) = strOfNums [119] from rfl, strOfNums_append, strOfNums_append, hqn.out]
          clear hc
          go_wp2_with (first
            | (go_at_call 103; (with_reducible refine (spunit_any 119 _).mono ?_); rintro e w1 ⟨rfl, g1⟩; rw [HU.out]; have M2 := Lib.hid (M1.out.after g1))
            | (go_at_call 104; (with_reducible refine (fmt_any (q : Int) _ (by omega) (by omega) (hT.step M2.out.bel)).mono ?_); rintro e w2 ⟨rfl, g2⟩; rw [Int.toNat_natCast]; have M3 := Lib.hid (M2.out.after g2)))
          go_roundw
          case rel => exact ⟨1, y, _, by omega, by first | rfl | rw [hyt] | exact congrArg (Value.int IntKind.i64) (by omega), by rw [hstr.out], by rw [hyn.out]; exact hnext.out, M3.out⟩
          case measure => rw [iterPos_of M3.out.it, iterPos_of hM0.out]; omega
        · have hnext := Lib.hid (HS.out.no (c := 119) (r := [100, 104, 109, 115]) rfl rfl (by rw [HU.out]; exact hc))
          have hcd : decide ((m : Int) ≥ 604800) = false := by simp; omega
          have hyt : (m : Int).tmod 604800 = (m : Int) := by rw [Int.tmod_eq_emod_of_nonneg (by omega)]; omega
          clear hc
          go_wp2_with (go_at_call 103; (with_reducible refine (spunit_any 119 _).mono ?_); rintro e w1 ⟨rfl, g1⟩; rw [HU.out]; have M2 := Lib.hid (M1.out.after g1))
          go_roundw
          case rel => exact ⟨1, m, xs, by omega, by first | rfl | rw [hyt] | exact congrArg (Value.int IntKind.i64) (by omega), rfl, hnext.out, M2.out⟩
          case measure => rw [iterPos_of M2.out.it, iterPos_of hM0.out]; omega
      · have hnx : ∀ ty, (Instr.next (.pointer (some ⟨w.heap.size, 0, none⟩)) true ty).run Tryz.prog wr = .ok (.tuple #[.bool true, .int .i64 1, .int .i32 100]) (wr.iterAt w.heap.size ⟨#[119, 100, 104, 109, 115]⟩ 2) := fun ty => Lib.run_next_ascii_at wr w.heap.size ⟨#[119, 100, 104, 109, 115]⟩ 1 ty hM.it (by decide) (by decide)
        have M1 := Lib.hid (hM.next 2)
        have hbel := Lib.hid hM.bel
        clear hM
        have HU : Hid (unitOf 100 = 86400) := rfl
        have henc : Utf8.encode 100 = ⟨#[100]⟩ := rfl
        by_cases hc : 86400 ≤ m
        · have hnext := Lib.hid (HS.out.yes (c := 100) (r := [104, 109, 115]) rfl rfl (by rw [HU.out]; exact hc))
          obtain ⟨q, hq⟩ : ∃ q : Nat, (m : Int) / 86400 = (q : Int) := ⟨m / 86400, by omega⟩
          obtain ⟨y, hy⟩ : ∃ y : Nat, (m : Int) % 86400 = (y : Int) := ⟨m % 86400, by omega⟩
          have hqn : Hid (q = m / unitOf 100) := by unfold Hid; rw [HU.out]; omega
          have hyn : Hid (y = m % unitOf 100) := by unfold Hid; rw [HU.out]; omega
          have hq9 : (q : Int) ≤ 253402300799 := by omega
          have hlq : (strOfNums (dec q)).size ≤ 39 := by rw [strOfNums_size]; exact dec_len (by unfold W128; omega)
          have hqt : (m : Int).tdiv 86400 = (q : Int) := by rw [Int.tdiv_eq_ediv_of_nonneg (by omega)]; exact hq
          have hyt : (m : Int).tmod 86400 = (y : Int) := by rw [Int.tmod_eq_emod_of_nonneg (by omega)]; exact hy
          have hqw : IntKind.i64.wrap (q : Int) = (q : Int) := by rw [IntKind.wrap_i64]; omega
          have hci : (86400 : Int) ≤ m := by omega
          have hs1n : ¬ 9223372036854775807 < (strOfNums (dec q)).size + 1 := by omega
          have hs2n : ¬ 9223372036854775807 < (strOfNums xs).size + ((strOfNums (dec q)).size + 1) := by omega
          have hstr : Hid (strOfNums xs ++ (strOfNums (dec q) ++ ⟨#[100]⟩) = strOfNums (xs ++ (dec (m / unitOf 100) ++ [100]))) := by unfold Hid; rw [show (⟨#[100]⟩ : ByteArray) = strOfNums [100] from rfl, strOfNums_append, strOfNums_append, hqn.out]
          clear hc
          go_wp2_with (first
            | (go_at_call 103; (with_reducible refine (spunit_any 100 _).mono ?_); rintro e w1 ⟨rfl, g1⟩; rw [HU.out]; have M2 := Lib.hid (M1.out.after g1))
            | (go_at_call 104; (with_reducible refine (fmt_any (q : Int) _ (by omega) (by omega) (hT.step M2.out.bel)).mono ?_); rintro e w2 ⟨rfl, g2⟩; rw [Int.toNat_natCast]; have M3 := Lib.hid (M2.out.after g2)))
          go_roundw
          case rel => exact ⟨2, y, _, by omega, by first | rfl | rw [hyt] | exact congrArg (Value.int IntKind.i64) (by omega), by rw [hstr.out], by rw [hyn.out]; exact hnext.out, M3.out⟩
          case measure => rw [iterPos_of M3.out.it, iterPos_of hM0.out]; omega
        · have hnext := Lib.hid (HS.out.no (c := 100) (r := [104, 109, 115]) rfl rfl (by rw [HU.out]; exact hc))
          have hcd : decide ((m : Int) ≥ 86400) = false := by simp; omega
          have hyt : (m : Int).tmod 86400 = (m : Int) := by rw [Int.tmod_eq_emod_of_nonneg (by omega)]; omega
          clear hc
          go_wp2_with (go_at_call 103; (with_reducible refine (spunit_any 100 _).mono ?_); rintro e w1 ⟨rfl, g1⟩; rw [HU.out]; have M2 := Lib.hid (M1.out.after g1))
          go_roundw
          case rel => exact ⟨2, m, xs, by omega, by first | rfl | rw [hyt] | exact congrArg (Value.int IntKind.i64) (by omega), rfl, hnext.out, M2.out⟩
          case measure => rw [iterPos_of M2.out.it, iterPos_of hM0.out]; omega
      · have hnx : ∀ ty, (Instr.next (.pointer (some ⟨w.heap.size, 0, none⟩)) true ty).run Tryz.prog wr = .ok (.tuple #[.bool true, .int .i64 2, .int .i32 104]) (wr.iterAt w.heap.size ⟨#[119, 100, 104, 109, 115]⟩ 3) := fun ty => Lib.run_next_ascii_at wr w.heap.size ⟨#[119, 100, 104, 109, 115]⟩ 2 ty hM.it (by decide) (by decide)
        have M1 := Lib.hid (hM.next 3)
        have hbel := Lib.hid hM.bel
        clear hM
        have HU : Hid (unitOf 104 = 3600) := rfl
        have henc : Utf8.encode 104 = ⟨#[104]⟩ := rfl
        by_cases hc : 3600 ≤ m
        · have hnext := Lib.hid (HS.out.yes (c := 104) (r := [109, 115]) rfl rfl (by rw [HU.out]; exact hc))
          obtain ⟨q, hq⟩ : ∃ q : Nat, (m : Int) / 3600 = (q : Int) := ⟨m / 3600, by omega⟩
          obtain ⟨y, hy⟩ : ∃ y : Nat, (m : Int) % 3600 = (y : Int) := ⟨m % 3600, by omega⟩
          have hqn : Hid (q = m / unitOf 104) := by unfold Hid; rw [HU.out]; omega
          have hyn : Hid (y = m % unitOf 104) := by unfold Hid; rw [HU.out]; omega
          have hq9 : (q : Int) ≤ 253402300799 := by omega
          have hlq : (strOfNums (dec q)).size ≤ 39 := by rw [strOfNums_size]; exact dec_len (by unfold W128; omega)
          have hqt : (m : Int).tdiv 3600 = (q : Int) := by rw [Int.tdiv_eq_ediv_of_nonneg (by omega)]; exact hq
          have hyt : (m : Int).tmod 3600 = (y : Int) := by rw [Int.tmod_eq_emod_of_nonneg (by omega)]; exact hy
          have hqw : IntKind.i64.wrap (q : Int) = (q : Int) := by rw [IntKind.wrap_i64]; omega
          have hci : (3600 : Int) ≤ m := by omega
          have hs1n : ¬ 9223372036854775807 < (strOfNums (dec q)).size + 1 := by omega
          have hs2n : ¬ 9223372036854775807 < (strOfNums xs).size + ((strOfNums (dec q)).size + 1) := by omega
          have hstr : Hid (strOfNums xs ++ (strOfNums (dec q) ++ ⟨#[104]⟩) = strOfNums (xs ++ (dec (m / unitOf 104) ++ [104]))) := by unfold Hid; rw [show (⟨#[104]⟩ : ByteArray) = strOfNums [104] from rfl, strOfNums_append, strOfNums_append, hqn.out]
          clear hc
          go_wp2_with (first
            | (go_at_call 103; (with_reducible refine (spunit_any 104 _).mono ?_); rintro e w1 ⟨rfl, g1⟩; rw [HU.out]; have M2 := Lib.hid (M1.out.after g1))
            | (go_at_call 104; (with_reducible refine (fmt_any (q : Int) _ (by omega) (by omega) (hT.step M2.out.bel)).mono ?_); rintro e w2 ⟨rfl, g2⟩; rw [Int.toNat_natCast]; have M3 := Lib.hid (M2.out.after g2)))
          go_roundw
          case rel => exact ⟨3, y, _, by omega, by first | rfl | rw [hyt] | exact congrArg (Value.int IntKind.i64) (by omega), by rw [hstr.out], by rw [hyn.out]; exact hnext.out, M3.out⟩
          case measure => rw [iterPos_of M3.out.it, iterPos_of hM0.out]; omega
        · have hnext := Lib.hid (HS.out.no (c := 104) (r := [109, 115]) rfl rfl (by rw [HU.out]; exact hc))
          have hcd : decide ((m : Int) ≥ 3600) = false := by simp; omega
          have hyt : (m : Int).tmod 3600 = (m : Int) := by rw [Int.tmod_eq_emod_of_nonneg (by omega)]; omega
          clear hc
          go_wp2_with (go_at_call 103; (with_reducible refine (spunit_any 104 _).mono ?_); rintro e w1 ⟨rfl, g1⟩; rw [HU.out]; have M2 := Lib.hid (M1.out.after g1))
          go_roundw
          case rel => exact ⟨3, m, xs, by omega, by first | rfl | rw [hyt] | exact congrArg (Value.int IntKind.i64) (by omega), rfl, hnext.out, M2.out⟩
          case measure => rw [iterPos_of M2.out.it, iterPos_of hM0.out]; omega
      · have hnx : ∀ ty, (Instr.next (.pointer (some ⟨w.heap.size, 0, none⟩)) true ty).run Tryz.prog wr = .ok (.tuple #[.bool true, .int .i64 3, .int .i32 109]) (wr.iterAt w.heap.size ⟨#[119, 100, 104, 109, 115]⟩ 4) := fun ty => Lib.run_next_ascii_at wr w.heap.size ⟨#[119, 100, 104, 109, 115]⟩ 3 ty hM.it (by decide) (by decide)
        have M1 := Lib.hid (hM.next 4)
        have hbel := Lib.hid hM.bel
        clear hM
        have HU : Hid (unitOf 109 = 60) := rfl
        have henc : Utf8.encode 109 = ⟨#[109]⟩ := rfl
        by_cases hc : 60 ≤ m
        · have hnext := Lib.hid (HS.out.yes (c := 109) (r := [115]) rfl rfl (by rw [HU.out]; exact hc))
          obtain ⟨q, hq⟩ : ∃ q : Nat, (m : Int) / 60 = (q : Int) := ⟨m / 60, by omega⟩
          obtain ⟨y, hy⟩ : ∃ y : Nat, (m : Int) % 60 = (y : Int) := ⟨m % 60, by omega⟩
          have hqn : Hid (q = m / unitOf 109) := by unfold Hid; rw [HU.out]; omega
          have hyn : Hid (y = m % unitOf 109) := by unfold Hid; rw [HU.out]; omega
          have hq9 : (q : Int) ≤ 253402300799 := by omega
          have hlq : (strOfNums (dec q)).size ≤ 39 := by rw [strOfNums_size]; exact dec_len (by unfold W128; omega)
          have hqt : (m : Int).tdiv 60 = (q : Int) := by rw [Int.tdiv_eq_ediv_of_nonneg (by omega)]; exact hq
          have hyt : (m : Int).tmod 60 = (y : Int) := by rw [Int.tmod_eq_emod_of_nonneg (by omega)]; exact hy
          have hqw : IntKind.i64.wrap (q : Int) = (q : Int) := by rw [IntKind.wrap_i64]; omega
          have hci : (60 : Int) ≤ m := by omega
          have hs1n : ¬ 9223372036854775807 < (strOfNums (dec q)).size + 1 := by omega
          have hs2n : ¬ 9223372036854775807 < (strOfNums xs).size + ((strOfNums (dec q)).size + 1) := by omega
          have hstr : Hid (strOfNums xs ++ (strOfNums (dec q) ++ ⟨#[109]⟩) = strOfNums (xs ++ (dec (m / unitOf 109) ++ [109]))) := by unfold Hid; rw [show (⟨#[109]⟩ : ByteArray) = strOfNums [109] from rfl, strOfNums_append, strOfNums_append, hqn.out]
          clear hc
          go_wp2_with (first
            | (go_at_call 103; (with_reducible refine (spunit_any 109 _).mono ?_); rintro e w1 ⟨rfl, g1⟩; rw [HU.out]; have M2 := Lib.hid (M1.out.after g1))
            | (go_at_call 104; (with_reducible refine (fmt_any (q : Int) _ (by omega) (by omega) (hT.step M2.out.bel)).mono ?_); rintro e w2 ⟨rfl, g2⟩; rw [Int.toNat_natCast]; have M3 := Lib.hid (M2.out.after g2)))
          go_roundw
          case rel => exact ⟨4, y, _, by omega, by first | rfl | rw [hyt] | exact congrArg (Value.int IntKind.i64) (by omega), by rw [hstr.out], by rw [hyn.out]; exact hnext.out, M3.out⟩
          case measure => rw [iterPos_of M3.out.it, iterPos_of hM0.out]; omega
        · have hnext := Lib.hid (HS.out.no (c := 109) (r := [115]) rfl rfl (by rw [HU.out]; exact hc))
          have hcd : decide ((m : Int) ≥ 60) = false := by simp; omega
          have hyt : (m : Int).tmod 60 = (m : Int) := by rw [Int.tmod_eq_emod_of_nonneg (by omega)]; omega
          clear hc
          go_wp2_with (go_at_call 103; (with_reducible refine (spunit_any 109 _).mono ?_); rintro e w1 ⟨rfl, g1⟩; rw [HU.out]; have M2 := Lib.hid (M1.out.after g1))
          go_roundw
          case rel => exact ⟨4, m, xs, by omega, by first | rfl | rw [hyt] | exact congrArg (Value.int IntKind.i64) (by omega), rfl, hnext.out, M2.out⟩
          case measure => rw [iterPos_of M2.out.it, iterPos_of hM0.out]; omega
      · have hnx : ∀ ty, (Instr.next (.pointer (some ⟨w.heap.size, 0, none⟩)) true ty).run Tryz.prog wr = .ok (.tuple #[.bool true, .int .i64 4, .int .i32 115]) (wr.iterAt w.heap.size ⟨#[119, 100, 104, 109, 115]⟩ 5) := fun ty => Lib.run_next_ascii_at wr w.heap.size ⟨#[119, 100, 104, 109, 115]⟩ 4 ty hM.it (by decide) (by decide)
        have M1 := Lib.hid (hM.next 5)
        have hbel := Lib.hid hM.bel
        clear hM
        have HU : Hid (unitOf 115 = 1) := rfl
        have henc : Utf8.encode 115 = ⟨#[115]⟩ := rfl
        by_cases hc : 1 ≤ m
        · have hnext := Lib.hid (HS.out.yes (c := 115) (r := []) rfl rfl (by rw [HU.out]; exact hc))
          obtain ⟨q, hq⟩ : ∃ q : Nat, (m : Int) / 1 = (q : Int) := ⟨m / 1, by omega⟩
          obtain ⟨y, hy⟩ : ∃ y : Nat, (m : Int) % 1 = (y : Int) := ⟨m % 1, by omega⟩
          have hqn : Hid (q = m / unitOf 115) := by unfold Hid; rw [HU.out]; omega
          have hyn : Hid (y = m % unitOf 115) := by unfold Hid; rw [HU.out]; omega
          have hq9 : (q : Int) ≤ 253402300799 := by omega
          have hlq : (strOfNums (dec q)).size ≤ 39 := by rw [strOfNums_size]; exact dec_len (by unfold W128; omega)
          have hqt : (m : Int).tdiv 1 = (q : Int) := by rw [Int.tdiv_eq_ediv_of_nonneg (by omega)]; exact hq
          have hyt : (m : Int).tmod 1 = (y : Int) := by rw [Int.tmod_eq_emod_of_nonneg (by omega)]; exact hy
          have hqw : IntKind.i64.wrap (q : Int) = (q : Int) := by rw [IntKind.wrap_i64]; omega
          have hci : (1 : Int) ≤ m := by omega
          have hs1n : ¬ 9223372036854775807 < (strOfNums (dec q)).size + 1 := by omega
          have hs2n : ¬ 9223372036854775807 < (strOfNums xs).size + ((strOfNums (dec q)).size + 1) := by omega
          have hstr : Hid (strOfNums xs ++ (strOfNums (dec q) ++ ⟨#[115]⟩) = strOfNums (xs ++ (dec (m / unitOf 115) ++ [115]))) := by unfold Hid; rw [show (⟨#[115]⟩ : ByteArray) = strOfNums [115] from rfl, strOfNums_append, strOfNums_append, hqn.out]
          clear hc
          go_wp2_with (first
            | (go_at_call 103; (with_reducible refine (spunit_any 115 _).mono ?_); rintro e w1 ⟨rfl, g1⟩; rw [HU.out]; have M2 := Lib.hid (M1.out.after g1))
            | (go_at_call 104; (with_reducible refine (fmt_any (q : Int) _ (by omega) (by omega) (hT.step M2.out.bel)).mono ?_); rintro e w2 ⟨rfl, g2⟩; rw [Int.toNat_natCast]; have M3 := Lib.hid (M2.out.after g2)))
          go_roundw
          case rel => exact ⟨5, y, _, by omega, by first | rfl | rw [hyt] | exact congrArg (Value.int IntKind.i64) (by omega), by rw [hstr.out], by rw [hyn.out]; exact hnext.out, M3.out⟩
          case measure => rw [iterPos_of M3.out.it, iterPos_of hM0.out]; omega
        · have hnext := Lib.hid (HS.out.no (c := 115) (r := []) rfl rfl (by rw [HU.out]; exact hc))
          have hcd : decide ((m : Int) ≥ 1) = false := by simp; omega
          have hyt : (m : Int).tmod 1 = (m : Int) := by rw [Int.tmod_eq_emod_of_nonneg (by omega)]; omega
          clear hc
          go_wp2_with (go_at_call 103; (with_reducible refine (spunit_any 115 _).mono ?_); rintro e w1 ⟨rfl, g1⟩; rw [HU.out]; have M2 := Lib.hid (M1.out.after g1))
          go_roundw
          case rel => exact ⟨5, m, xs, by omega, by first | rfl | rw [hyt] | exact congrArg (Value.int IntKind.i64) (by omega), rfl, hnext.out, M2.out⟩
          case measure => rw [iterPos_of M2.out.it, iterPos_of hM0.out]; omega
      · have hnx : ∀ ty, (Instr.next (.pointer (some ⟨w.heap.size, 0, none⟩)) true ty).run Tryz.prog wr = _ := fun ty => Lib.run_next_end_at wr w.heap.size ⟨#[119, 100, 104, 109, 115]⟩ 5 ty hM.it (by decide)
        have hbel := Lib.hid hM.bel
        have hfin := Lib.hid HS.out.fin
        clear hM
        go_wp2
        go_ret
        exact ⟨by rw [hsp.out, hfin.out]; rfl, hbel.out⟩

theorem span_rune (w : World) (k : Nat) (s : ByteArray) (pos : Nat) (hk : w.heap[k]? = some (.stringIter s pos)) (h : pos < s.size) :
    ∃ (z : Int) (p : Nat), (∀ ty, (Instr.next (.pointer (some ⟨k, 0, none⟩)) true ty).run Tryz.prog w = .ok (.tuple #[.bool true, .int .i64 pos, .int .i32 z]) (w.iterAt k s p)) ∧ 0 ≤ z ∧ z ≤ 2147483647 ∧
      ((48 ≤ z ∧ z ≤ 57) ∨ unitOf z ≠ 0 → p = pos + 1 ∧ (nums s).getD pos 0 = z) ∧ (¬ (48 ≤ z ∧ z ≤ 57) → ¬ (48 ≤ (nums s).getD pos 0 ∧ (nums s).getD pos 0 ≤ 57)) ∧ unitOf ((nums s).getD pos 0) = unitOf z := by
  rw [nums_at s pos h]
  by_cases ha : s[pos].toNat < 128
  · exact ⟨(s[pos].toNat : Int), pos + 1, fun ty => Lib.run_next_ascii_at w k s pos ty hk h ha, by omega, by omega, fun _ => ⟨rfl, rfl⟩, fun hn => hn, rfl⟩
  · have hd := decode_high s pos h (by omega)
    have hl := decode_le s pos
    have hu : unitOf (((Utf8.decode s pos).1 : Nat) : Int) = 0 := unitOf_high (by omega)
    refine ⟨_, _, fun ty => Lib.run_next_any_at w k s pos ty hk h, by omega, by omega, fun hc => ?_, fun _ hc => by omega, ?_⟩
    · rcases hc with hc | hc
      · omega
      · exact (hc hu).elim
    · rw [hu]; exact unitOf_high (by omega)

structure LS (zs : List Int) (pos acc lastN N : Nat) (digits : Bool) (sum number last : Int) : Prop where
  run : runs St0 (zs.take pos) = some ⟨acc, lastN, if digits = true then some N else none⟩
  zero : digits = false → N = 0
  esum : sum = min (acc : Int) 253402300800
  enum : number = min (N : Int) 253402300800
  elast : (last = (lastN : Int) ∧ lastN ≤ 604800) ∨ (last = 253402300800 ∧ lastN = 1000000)
theorem LS.start (zs : List Int) : LS zs 0 0 1000000 0 false 0 0 253402300800 := ⟨rfl, fun _ => rfl, rfl, rfl, Or.inr ⟨rfl, rfl⟩⟩
theorem LS.bounds {zs : List Int} {pos acc lastN N : Nat} {digits : Bool} {sum number last : Int} (h : LS zs pos acc lastN N digits sum number last) :
    0 ≤ sum ∧ sum ≤ 253402300800 ∧ 0 ≤ number ∧ number ≤ 253402300800 ∧ 0 ≤ last ∧ last ≤ 253402300800 := by
  have h1 := h.esum
  have h2 := h.enum
  have h3 := h.elast
  omega
theorem LS.digit {zs : List Int} {pos acc lastN N : Nat} {digits : Bool} {sum number last z : Int} (h : LS zs pos acc lastN N digits sum number last) (hp : pos < zs.length) (hz : zs.getD pos 0 = z) (z0 : 48 ≤ z) (z1 : z ≤ 57) :
    LS zs (pos + 1) acc lastN (10 * N + (z - 48).toNat) true sum (min (number * 10 + (z - 48)) 253402300800) last := by
  obtain ⟨h1, h2, h3, h4, h5⟩ := h
  refine ⟨?_, (fun e => by cases e), h3, by omega, h5⟩
  rw [runs_next hp h1, hz, stp_digit ⟨z0, z1⟩, if_pos rfl]
  cases digits with
  | true => rfl
  | false => rw [h2 rfl]; rfl
theorem span_prod {N U : Nat} {number p : Int} (hU : 1 ≤ U) (hU9 : U ≤ 604800) (h4 : number = min (N : Int) 253402300800) (hp : number * (U : Int) = p) :
    0 ≤ p ∧ p ≤ 153257711523840000 ∧ ((p = ((N * U : Nat) : Int)) ∨ (253402300800 ≤ p ∧ 253402300800 ≤ ((N * U : Nat) : Int))) := by
  have hn0 : 0 ≤ number := by omega
  have hn1 : number ≤ 253402300800 := by omega
  have a1 : number * 1 ≤ number * (U : Int) := Int.mul_le_mul_of_nonneg_left (by omega) hn0
  have a2 : number * (U : Int) ≤ 253402300800 * (U : Int) := Int.mul_le_mul_of_nonneg_right hn1 (by omega)
  have a3 : (N : Int) * 1 ≤ (N : Int) * (U : Int) := Int.mul_le_mul_of_nonneg_left (by omega) (by omega)
  have e : ((N * U : Nat) : Int) = (N : Int) * (U : Int) := Int.natCast_mul _ _
  refine ⟨by omega, by omega, ?_⟩
  by_cases hb : (N : Int) ≤ 253402300800
  · left
    have : number = (N : Int) := by omega
    rw [e, ← hp, this]
  · right
    omega
theorem LS.unit {zs : List Int} {pos acc lastN N : Nat} {sum number last z p : Int} (h : LS zs pos acc lastN N true sum number last) (hl : pos < zs.length) (hz : zs.getD pos 0 = z) {U : Nat} (hu : unitOf z = U) (hU : U ≠ 0) (hlt : ¬ last ≤ (U : Int)) (hp : number * (U : Int) = p) :
    LS zs (pos + 1) (acc + N * U) U 0 false (min (p + sum) 253402300800) 0 (U : Int) := by
  obtain ⟨h1, h2, h3, h4, h5⟩ := h
  have hU9 : U ≤ 604800 := by rw [← hu]; exact unitOf_le z
  have hpp := span_prod (N := N) (by omega) hU9 h4 hp
  have e : ((acc + N * U : Nat) : Int) = (acc : Int) + ((N * U : Nat) : Int) := Int.natCast_add _ _
  have hlN : U < lastN := by omega
  refine ⟨?_, fun _ => rfl, by omega, rfl, Or.inl ⟨rfl, hU9⟩⟩
  rw [runs_next hl h1, hz, if_pos rfl, stp_unit (by omega) (by rw [hu]; exact hlN), hu]
  rfl
theorem LS.dead {zs : List Int} {pos acc lastN N : Nat} {digits : Bool} {sum number last b : Int} (h : LS zs pos acc lastN N digits sum number last) (hl : pos < zs.length) (hb : zs.getD pos 0 = b) (hd : ¬ (48 ≤ b ∧ b ≤ 57)) (hc : unitOf b = 0 ∨ last ≤ (unitOf b : Int) ∨ digits = false) : ∀ M, ¬ Tells zs M := by
  obtain ⟨h1, h2, h3, h4, h5⟩ := h
  refine Tells.of_none (runs_dead hl h1 ?_)
  rw [hb]
  cases digits with
  | false => exact stp_bare hd
  | true =>
    rw [if_pos rfl]
    refine stp_none hd ?_
    have := unitOf_le b
    rcases hc with hc | hc | hc
    · exact Or.inl hc
    · right; omega
    · cases hc
theorem LS.open {zs : List Int} {acc lastN N : Nat} {sum number last : Int} (h : LS zs zs.length acc lastN N true sum number last) : ∀ M, ¬ Tells zs M := by
  intro M g
  have hr := h.run
  rw [List.take_length] at hr
  obtain ⟨_, l, g⟩ := g
  rw [hr] at g
  simp at g
theorem LS.tells {zs : List Int} {acc lastN N : Nat} {sum number last : Int} (h : LS zs zs.length acc lastN N false sum number last) (hne : zs ≠ []) : Tells zs acc := by
  have hr := h.run
  rw [List.take_length] at hr
  exact ⟨hne, _, hr⟩

set_option maxRecDepth 100000 in
set_option maxHeartbeats 4000000 in
theorem spread_any (s : ByteArray) (w : World) (_hm : s.size ≤ 9223372036854775807) : Calls Tryz.prog 137 #[.string s] w (GivesSpan (nums s) w) := by
  have hlen : Hid ((nums s).length = s.size) := nums_length s
  go_enter Tryz.func137, Tryz.ntmps137
  go_wp2
  go_loopw [4, 5, 6, 7] (fun v4 v5 v6 v7 wr => ∃ (pos acc lastN N : Nat) (digits : Bool) (sum number last : Int), pos ≤ s.size ∧ v4 = .int .i64 sum ∧ v5 = .int .i64 number ∧ v6 = .bool digits ∧ v7 = .int .i64 last ∧ LS (nums s) pos acc lastN N digits sum number last ∧ SPMem w wr s pos) (fun _ _ _ _ wr => s.size - wr.iterPos w.heap.size)
  case atStart => exact ⟨0, 0, 1000000, 0, false, 0, 0, 253402300800, Nat.zero_le _, rfl, rfl, rfl, rfl, LS.start _, SPMem.start _ _⟩
  case round =>
    obtain ⟨pos, acc, lastN, N, digits, sum, number, last, hp, rfl, rfl, rfl, rfl, hL, hM⟩ := hrel
    have HL := Lib.hid hL
    obtain ⟨s0, s1, n0, n1, l0, l1⟩ := hL.bounds
    have hM0 := Lib.hid hM.it
    clear hL
    by_cases h1 : pos < s.size
    · obtain ⟨z, p, hnx, z0, z1, hyes, hno, hub⟩ := span_rune wr w.heap.size s pos hM.it h1
      have hl : Hid (pos < (nums s).length) := by unfold Hid; rw [hlen.out]; exact h1
      have M1 := Lib.hid (hM.next p)
      have hbel := Lib.hid hM.bel
      clear hM
      obtain ⟨b, hb0⟩ : ∃ b, (nums s).getD pos 0 = b := ⟨_, rfl⟩
      rw [hb0] at hyes hno hub
      have hb := Lib.hid hb0
      clear hb0
      replace hyes := Lib.hid hyes
      replace hno := Lib.hid hno
      replace hub := Lib.hid hub
      by_cases z48 : z < 48
      · have hnd := Lib.hid (hno.out (by omega))
        obtain ⟨U, hU0⟩ : ∃ U, unitOf z = U := ⟨_, rfl⟩
        have hU := Lib.hid hU0
        have hU9 : (U : Int) ≤ 604800 := by have := unitOf_le z; omega
        clear hU0
        have hg : decide (z ≥ 48) = false := by simp; omega
        by_cases u0 : U = 0
        · have hbad := Lib.hid (HL.out.dead hl.out hb.out hnd.out (Or.inl (by rw [hub.out, hU.out]; exact u0)))
          subst u0
          go_wp2_with (go_at_call 103; (with_reducible refine (spunit_any z _).mono ?_); rintro e w1 ⟨rfl, g1⟩; rw [hU.out]; have M2 := Lib.hid (M1.out.after g1))
          go_ret2
          exact GivesSpan.word hbad.out M2.out.bel
        · have hub0 : ((U : Int) == 0) = false := by simp; omega
          have hub1 : ¬ (U : Int) = 0 := by omega
          by_cases hlu : last ≤ (U : Int)
          · have hbad := Lib.hid (HL.out.dead hl.out hb.out hnd.out (Or.inr (Or.inl (by rw [hub.out, hU.out]; exact hlu))))
            clear u0
            go_wp2_with (go_at_call 103; (with_reducible refine (spunit_any z _).mono ?_); rintro e w1 ⟨rfl, g1⟩; rw [hU.out]; have M2 := Lib.hid (M1.out.after g1))
            go_ret2
            exact GivesSpan.word hbad.out M2.out.bel
          · have hlb : decide ((U : Int) ≥ last) = false := by simp; omega
            have hlt := Lib.hid hlu
            clear hlu
            cases digits with
            | false =>
              have hbad := Lib.hid (HL.out.dead hl.out hb.out hnd.out (Or.inr (Or.inr rfl)))
              clear u0
              go_wp2_with (go_at_call 103; (with_reducible refine (spunit_any z _).mono ?_); rintro e w1 ⟨rfl, g1⟩; rw [hU.out]; have M2 := Lib.hid (M1.out.after g1))
              go_ret2
              exact GivesSpan.word hbad.out M2.out.bel
            | true =>
              obtain ⟨rfl, rfl⟩ := hyes.out (Or.inr (by rw [hU.out]; exact u0))
              obtain ⟨q, hq⟩ : ∃ q, number * (U : Int) = q := ⟨_, rfl⟩
              have hnext := Lib.hid (HL.out.unit hl.out hb.out hU.out u0 hlt.out hq)
              obtain ⟨q0, q1, _⟩ := span_prod (by omega) (by omega) HL.out.enum hq
              clear u0
              go_wp2_with (first
                | (go_at_call 103; (with_reducible refine (spunit_any b _).mono ?_); rintro e w1 ⟨rfl, g1⟩; rw [hU.out]; have M2 := Lib.hid (M1.out.after g1))
                | (go_at_call 162; (with_reducible refine (spbounded_any number (U : Int) sum q _ hq q0 q1 s0 s1).mono ?_); rintro e w2 ⟨rfl, rfl⟩))
              go_roundw
              case rel => exact ⟨pos + 1, _, U, 0, false, _, 0, (U : Int), by omega, rfl, rfl, rfl, rfl, hnext.out, M2.out⟩
              case measure => rw [iterPos_of M2.out.it, iterPos_of hM0.out]; omega
      · by_cases z57 : 57 < z
        · have hnd := Lib.hid (hno.out (by omega))
          obtain ⟨U, hU0⟩ : ∃ U, unitOf z = U := ⟨_, rfl⟩
          have hU := Lib.hid hU0
          have hU9 : (U : Int) ≤ 604800 := by have := unitOf_le z; omega
          clear hU0
          have hg : decide (z ≤ 57) = false := by simp; omega
          by_cases u0 : U = 0
          · have hbad := Lib.hid (HL.out.dead hl.out hb.out hnd.out (Or.inl (by rw [hub.out, hU.out]; exact u0)))
            subst u0
            go_wp2_with (go_at_call 103; (with_reducible refine (spunit_any z _).mono ?_); rintro e w1 ⟨rfl, g1⟩; rw [hU.out]; have M2 := Lib.hid (M1.out.after g1))
            go_ret2
            exact GivesSpan.word hbad.out M2.out.bel
          · have hub0 : ((U : Int) == 0) = false := by simp; omega
            have hub1 : ¬ (U : Int) = 0 := by omega
            by_cases hlu : last ≤ (U : Int)
            · have hbad := Lib.hid (HL.out.dead hl.out hb.out hnd.out (Or.inr (Or.inl (by rw [hub.out, hU.out]; exact hlu))))
              clear u0
              go_wp2_with (go_at_call 103; (with_reducible refine (spunit_any z _).mono ?_); rintro e w1 ⟨rfl, g1⟩; rw [hU.out]; have M2 := Lib.hid (M1.out.after g1))
              go_ret2
              exact GivesSpan.word hbad.out M2.out.bel
            · have hlb : decide ((U : Int) ≥ last) = false := by simp; omega
              have hlt := Lib.hid hlu
              clear hlu
              cases digits with
              | false =>
                have hbad := Lib.hid (HL.out.dead hl.out hb.out hnd.out (Or.inr (Or.inr rfl)))
                clear u0
                go_wp2_with (go_at_call 103; (with_reducible refine (spunit_any z _).mono ?_); rintro e w1 ⟨rfl, g1⟩; rw [hU.out]; have M2 := Lib.hid (M1.out.after g1))
                go_ret2
                exact GivesSpan.word hbad.out M2.out.bel
              | true =>
                obtain ⟨rfl, rfl⟩ := hyes.out (Or.inr (by rw [hU.out]; exact u0))
                obtain ⟨q, hq⟩ : ∃ q, number * (U : Int) = q := ⟨_, rfl⟩
                have hnext := Lib.hid (HL.out.unit hl.out hb.out hU.out u0 hlt.out hq)
                obtain ⟨q0, q1, _⟩ := span_prod (by omega) (by omega) HL.out.enum hq
                clear u0
                go_wp2_with (first
                  | (go_at_call 103; (with_reducible refine (spunit_any b _).mono ?_); rintro e w1 ⟨rfl, g1⟩; rw [hU.out]; have M2 := Lib.hid (M1.out.after g1))
                  | (go_at_call 162; (with_reducible refine (spbounded_any number (U : Int) sum q _ hq q0 q1 s0 s1).mono ?_); rintro e w2 ⟨rfl, rfl⟩))
                go_roundw
                case rel => exact ⟨pos + 1, _, U, 0, false, _, 0, (U : Int), by omega, rfl, rfl, rfl, rfl, hnext.out, M2.out⟩
                case measure => rw [iterPos_of M2.out.it, iterPos_of hM0.out]; omega
        · obtain ⟨rfl, rfl⟩ := hyes.out (Or.inl ⟨by omega, by omega⟩)
          have hnext := Lib.hid (HL.out.digit hl.out hb.out (by omega) (by omega))
          have zw : IntKind.i32.wrap (b - 48) = b - 48 := by rw [IntKind.wrap_i32]; omega
          have zw2 : IntKind.i64.wrap (b - 48) = b - 48 := by rw [IntKind.wrap_i64]; omega
          go_wp2_with (go_at_call 162; (with_reducible refine (spbounded_any number 10 (b - 48) _ _ rfl (by omega) (by omega) (by omega) (by omega)).mono ?_); rintro e w2 ⟨rfl, rfl⟩)
          go_roundw
          case rel => exact ⟨pos + 1, acc, lastN, _, true, sum, _, last, by omega, rfl, rfl, rfl, rfl, hnext.out, M1.out⟩
          case measure => rw [iterPos_of M1.out.it, iterPos_of hM0.out]; omega
    · obtain rfl : pos = s.size := by omega
      have hnx : ∀ ty, (Instr.next (.pointer (some ⟨w.heap.size, 0, none⟩)) true ty).run Tryz.prog wr = _ := fun ty => Lib.run_next_end_at wr w.heap.size s s.size ty hM.it (Nat.lt_irrefl _)
      have hbel := Lib.hid hM.bel
      clear hM
      have HL2 : Hid (LS (nums s) (nums s).length acc lastN N digits sum number last) := by unfold Hid; rw [hlen.out]; exact HL.out
      by_cases hs0 : s.size = 0
      · have he : s.toList = [] ∧ s.toList.isEmpty = true := by
          have e : s.toList = [] := by
            rw [ByteArray.toList_eq]
            apply List.eq_nil_of_length_eq_zero
            simpa using hs0
          exact ⟨e, by rw [e]; rfl⟩
        obtain ⟨e1, e2⟩ := he
        have hbad : Hid (∀ N, ¬ Tells (nums s) N) := fun N g => g.1 (List.eq_nil_of_length_eq_zero (by rw [hlen.out]; exact hs0))
        clear hs0
        go_wp2
        go_ret2
        exact GivesSpan.word hbad.out hbel.out
      · have he : ¬ s.toList = [] ∧ s.toList.isEmpty = false := by
          rw [ByteArray.toList_eq]
          have hl : s.data.toList.length = s.size := by simp
          cases hd : s.data.toList with
          | nil => rw [hd] at hl; simp at hl; omega
          | cons a l => simp
        obtain ⟨e1, e2⟩ := he
        cases digits with
        | true =>
          have hbad := Lib.hid HL2.out.open
          clear hs0
          go_wp2
          go_ret2
          exact GivesSpan.word hbad.out hbel.out
        | false =>
          have hT : Hid (Tells (nums s) acc) := HL2.out.tells (fun e => by have h6 := hlen.out; rw [e] at h6; simp at h6; omega)
          have hes := Lib.hid HL.out.esum
          clear hs0
          by_cases hr : 253402300799 < sum
          · have hN : Hid (253402300799 < acc) := by have := hes.out; unfold Hid; omega
            go_wp2_with (go_at_call 102; (with_reducible refine (spright_no sum _ (Or.inr hr)).mono ?_); rintro e w1 ⟨rfl, rfl⟩)
            go_ret2
            exact GivesSpan.far hT.out hN.out hbel.out
          · have hN : Hid (acc ≤ 253402300799 ∧ sum = (acc : Int)) := by have := hes.out; unfold Hid; omega
            have hr2 : sum ≤ 253402300799 := by omega
            clear hr
            go_wp2_with (go_at_call 102; (with_reducible refine (spright_yes sum _ s0 hr2).mono ?_); rintro e w1 ⟨rfl, rfl⟩)
            go_ret2
            exact GivesSpan.fine hT.out hN.out.1 hN.out.2 hbel.out

end Go.Proofs.YtmgimkokmlcllaaGreatDoor
