/-
  Package text's calls, walked: Good, Count, Cut, Fold.
-/
import Derived.Test.YtkhmaiggcihneaaDoorTxtL
import Derived.Test.YtkhmaiggcihneaaDoorTxtP
import Derived.Test.YtkhmaiggcihneaaDoorEnv
import Derived.Laws.IdiomStrings
namespace Go.Proofs.YtkhmaiggcihneaaDoor
open Go.RowKit

theorem tgood_any (s : ByteArray) (w : World) (env : Env w) (_hm : s.size ≤ 4294967296) : Calls Tryd.prog 10 #[.string s] w (GivesQ (GoodL (runesOf (nums s))) w) := by
  have R := Lib.hid (Tryd.utf8_ValidString s w (by omega) env.utf)
  have V := Lib.hid (valid_good s)
  generalize Lib.validD s.data.toList = q at R V
  go_enter Tryd.func10, Tryd.ntmps10
  go_wp2_with (go_at_call 23; (with_reducible refine R.out.mono ?_); rintro e w1 ⟨rfl, hb⟩; have HB := Lib.hid hb; clear hb)
  go_ret
  exact ⟨q, rfl, V.out, HB.out⟩
theorem tgood_yes {s : ByteArray} {w : World} (env : Env w) (hm : s.size ≤ 4294967296) (h : GoodL (runesOf (nums s))) : Calls Tryd.prog 10 #[.string s] w fun e w' => e = .returned (.bool true) ∧ Below w.heap.size w w' := by
  refine (tgood_any s w env hm).mono ?_
  rintro e w' ⟨q, rfl, hq, hb⟩
  rw [hq.mpr h]
  exact ⟨rfl, hb⟩
theorem tgood_no {s : ByteArray} {w : World} (env : Env w) (hm : s.size ≤ 4294967296) (h : ¬ GoodL (runesOf (nums s))) : Calls Tryd.prog 10 #[.string s] w fun e w' => e = .returned (.bool false) ∧ Below w.heap.size w w' := by
  refine (tgood_any s w env hm).mono ?_
  rintro e w' ⟨q, rfl, hq, hb⟩
  cases q with
  | false => exact ⟨rfl, hb⟩
  | true => exact (h (hq.mp rfl)).elim

theorem tcount_big (s : ByteArray) (w : World) (_hm : s.size ≤ 1099511627776) : Calls Tryd.prog 9 #[.string s] w fun e w' => e = .returned (.int .i64 (runesOf (nums s)).length) ∧ Below w.heap.size w w' := by
  have R := Lib.hid (Tryd.utf8_RuneCountInString s w (by omega))
  rw [count_runes] at R
  generalize (runesOf (nums s)).length = n at R ⊢
  go_enter Tryd.func9, Tryd.ntmps9
  go_wp2_with (go_at_call 22; (with_reducible refine R.out.mono ?_); rintro e w1 ⟨rfl, p, hb⟩; have HB := Lib.hid hb; clear hb)
  go_ret
  refine ⟨rfl, ?_⟩
  rw [HB.out]
  exact (Below.refl _ _).alloc (Nat.le_refl _) _

theorem tcount_any (s : ByteArray) (w : World) (_env : Env w) (hm : s.size ≤ 4294967296) : Calls Tryd.prog 9 #[.string s] w fun e w' => e = .returned (.int .i64 (runesOf (nums s)).length) ∧ Below w.heap.size w w' := tcount_big s w (by omega)

theorem ext_take (s : ByteArray) (k : Nat) : s.extract 0 k = strOfNums ((nums s).take k) := by
  have : nums (s.extract 0 k) = (nums s).take k := by simp [nums, List.map_take]
  rw [← this, strOfNums_nums]
theorem pos_stop {zs : List Int} {k : Nat} (h : ¬ posOf zs k < zs.length) (d : Nat) : posOf zs (k + d) = posOf zs k := by
  induction d with
  | zero => rfl
  | succ d ih =>
    rw [← Nat.add_assoc]
    simp only [posOf]
    rw [ih, if_neg h]
set_option maxRecDepth 100000 in
set_option maxHeartbeats 4000000 in
theorem tcut_any (s : ByteArray) (n : Int) (w : World) (_env : Env w) (_hm : s.size ≤ 4294967296) (_n0 : -9223372036854775808 ≤ n) (_n1 : n ≤ 9223372036854775807) :
    Calls Tryd.prog 12 #[.string s, .int .i64 n] w fun e w' => e = .returned (.string (strOfNums ((nums s).take (posOf (nums s) n.toNat)))) ∧ Below w.heap.size w w' := by
  have hlen : Hid ((nums s).length = s.size) := nums_length s
  obtain ⟨R, hR⟩ : ∃ R, strOfNums ((nums s).take (posOf (nums s) n.toNat)) = R := ⟨_, rfl⟩
  rw [hR]
  have HR := Lib.hid hR
  clear hR
  go_enter Tryd.func12, Tryd.ntmps12
  go_wp2
  obtain ⟨I, hI⟩ : ∃ I, w.heap.size = I := ⟨_, rfl⟩
  rw [hI]
  have HI := Lib.hid hI
  have hit0 : (w.iter s 0).heap[I]? = some (.stringIter s 0) := by rw [← hI]; exact World.iter_heap w s 0
  have hb0 : Below I w (w.iter s 0) := by rw [← hI]; exact (Below.refl _ _).alloc (Nat.le_refl _) _
  generalize w.iter s 0 = w0 at hit0 hb0 ⊢
  clear hI
  replace hit0 := Lib.hid hit0
  replace hb0 := Lib.hid hb0
  go_loopw [1] (fun v1 wr => ∃ k : Nat, v1 = .int .i64 (n - k) ∧ k ≤ n.toNat ∧ wr.heap[I]? = some (.stringIter s (posOf (nums s) k)) ∧ Below I w wr) (fun _ wr => s.size - wr.iterPos I)
  case atStart => exact ⟨0, by simp, by omega, hit0.out, hb0.out⟩
  case round =>
    obtain ⟨k, rfl, hkn, hk, hb⟩ := hrel
    have HB0 := Lib.hid hb
    clear hb
    have hple := pos_le (nums s) k
    rw [hlen.out] at hple
    obtain ⟨pos, hpos⟩ : ∃ p, posOf (nums s) k = p := ⟨_, rfl⟩
    rw [hpos] at hk hple
    have HP := Lib.hid hpos
    clear hpos
    have hk0 := Lib.hid hk
    have hkn0 := Lib.hid hkn
    by_cases h1 : pos < s.size
    · obtain ⟨y, hnx, y0, y1, _⟩ := txt_rune wr I s pos hk h1
      have hw := Lib.hid (widA_pos (nums s) pos)
      have hwin := Lib.hid (widA_in (zs := nums s) (i := pos) (by rw [hlen.out]; exact h1))
      have HB := Lib.hid (Lib.below_iterAt HB0.out (Nat.le_refl I) s (pos + widA (nums s) pos))
      have hk2 := Lib.hid (Lib.iterAt_heap wr I s pos (pos + widA (nums s) pos) hk)
      clear hk
      obtain ⟨p2, hp2⟩ : ∃ p, pos + widA (nums s) pos = p := ⟨_, rfl⟩
      rw [hp2] at hnx HB hk2 hwin
      have HP2 := Lib.hid hp2
      clear hp2
      generalize wr.iterAt I s p2 = W1 at hnx HB hk2
      by_cases hn : n - (k : Int) < 1
      · have e := Lib.hid (show n.toNat = k by omega)
        have e1 : (pos : Int) ≤ (s.size : Int) := by omega
        clear hkn
        go_wp2
        go_ret
        refine ⟨?_, HI.out ▸ HB.out⟩
        have : ((pos : Int)).toNat = pos := by omega
        rw [← HR.out, e.out, HP.out, ← ext_take]; rfl
      · have hn2 : 1 ≤ n - (k : Int) := by omega
        have hwr : IntKind.i64.wrap (n - (k : Int) - 1) = n - (k : Int) - 1 := by rw [IntKind.wrap_i64]; omega
        clear hkn
        go_wp2
        go_roundw
        case rel =>
          refine ⟨k + 1, ?_, by have := hkn0.out; omega, ?_, HB.out⟩
          · congr 1; omega
          · rw [hk2.out]
            congr 2
            show p2 = posOf (nums s) (k + 1)
            simp only [posOf]
            rw [HP.out, if_pos (by rw [hlen.out]; exact h1), HP2.out]
        case measure => rw [iterPos_of hk2.out, iterPos_of hk0.out]; have := hw.out; have := HP2.out; omega
    · have hnx := fun ty => Lib.run_next_end_at (P := Tryd.prog) wr I s pos ty hk h1
      clear hk hkn
      go_wp2
      go_ret
      refine ⟨?_, HI.out ▸ HB0.out⟩
      have hd : posOf (nums s) n.toNat = pos := by
        have := pos_stop (zs := nums s) (k := k) (by rw [HP.out, hlen.out]; exact h1) (n.toNat - k)
        rw [show k + (n.toNat - k) = n.toNat by have := hkn0.out; omega, HP.out] at this
        exact this
      rw [← HR.out, hd, List.take_of_length_le (by rw [hlen.out]; omega), strOfNums_nums]; rfl

/-- The bytes of a text in the call's own memory, the first ones folded. -/
structure FoM (w wr : World) (zs : List Int) (b i : Nat) : Prop where
  new : w.heap.size ≤ b
  bel : Below w.heap.size w wr
  lo : ∀ j, j < zs.length → j < i → wr.cell? ⟨b, j, none⟩ = some (.int .u8 (foldB (zs.getD j 0)))
  hi : ∀ j, j < zs.length → i ≤ j → wr.cell? ⟨b, j, none⟩ = some (.int .u8 (zs.getD j 0))
  free : ∀ j, j < zs.length → wr.frozen? ⟨b, j, none⟩ = false
theorem bytesRow_nums (s : ByteArray) (cap j : Nat) (h : j < s.size) : (bytesRow s cap)[j]? = some (.int .u8 ((nums s).getD j 0)) := by
  rw [nums_at s j h]
  unfold bytesRow
  rw [Array.getElem?_append_left (by simpa using h)]
  simp [h]
  rfl
theorem FoM.start (w : World) (s : ByteArray) (cap : Nat) : FoM w (w.drew.alloc (.cells (bytesRow s cap) 5 ((bytesRow s cap).size, (bytesRow s cap).size + 1))) (nums s) w.heap.size 0 := by
  have hsz : s.size ≤ (bytesRow s cap).size := by simp [bytesRow]
  refine ⟨Nat.le_refl _, ((Below.refl _ _).drew).alloc (Nat.le_refl _) _, fun j _ h => by omega, fun j hj _ => ?_, fun j hj => ?_⟩
  · rw [nums_length] at hj
    have : (w.drew.alloc (.cells (bytesRow s cap) 5 ((bytesRow s cap).size, (bytesRow s cap).size + 1))).cell? ⟨w.drew.heap.size, j, none⟩ = _ := World.cell?_alloc_mark _ _ _ _ _
    refine Eq.trans this ?_
    rw [bytesRow_nums s cap j hj]
  · rw [nums_length] at hj
    have : (w.drew.alloc (.cells (bytesRow s cap) 5 ((bytesRow s cap).size, (bytesRow s cap).size + 1))).frozen? ⟨w.drew.heap.size, j, none⟩ = _ := World.frozen?_alloc_mark _ _ _ _ _ _
    refine Eq.trans this ?_
    simp; omega
theorem FoM.put {w wr : World} {zs : List Int} {b i : Nat} (h : FoM w wr zs b i) (hi : i < zs.length) (z : Int) (hz : foldB (zs.getD i 0) = z) : FoM w (wr.setCell ⟨b, i, none⟩ (.int .u8 z)) zs b (i + 1) := by
  refine ⟨h.new, h.bel.setCell h.new _, fun j hj hji => ?_, fun j hj hji => ?_, fun j hj => ?_⟩
  · by_cases e : j = i
    · subst e
      rw [World.cell?_setCell_same _ _ _ (h.hi j hj (Nat.le_refl _)), hz]
    · rw [World.cell?_setCell_other _ _ _ _ (by intro e2; injection e2 with _ e3; omega)]
      exact h.lo j hj (by omega)
  · rw [World.cell?_setCell_other _ _ _ _ (by intro e; injection e with _ e2; omega)]
    exact h.hi j hj (by omega)
  · rw [World.frozen?_setCell]
    exact h.free j hj
theorem FoM.pass {w wr : World} {zs : List Int} {b i : Nat} (h : FoM w wr zs b i) (hi : i < zs.length) (hz : foldB (zs.getD i 0) = zs.getD i 0) : FoM w wr zs b (i + 1) := by
  refine ⟨h.new, h.bel, fun j hj hji => ?_, fun j hj hji => h.hi j hj (by omega), h.free⟩
  by_cases e : j = i
  · subst e; rw [hz]; exact h.hi j hj (Nat.le_refl _)
  · exact h.lo j hj (by omega)

set_option maxRecDepth 100000 in
set_option maxHeartbeats 4000000 in
theorem tfold_any (s : ByteArray) (w : World) (_env : Env w) (_hm : s.size ≤ 4294967296) : Calls Tryd.prog 13 #[.string s] w fun e w' => e = .returned (.string (strOfNums ((nums s).map foldB))) ∧ Below w.heap.size w w' := by
  have hlen : Hid ((nums s).length = s.size) := nums_length s
  obtain ⟨cap, hcap⟩ : ∃ cap, grownCap w s.size 0 5 = cap := ⟨_, rfl⟩
  have hconv := run_bytes_of_string (P := Tryd.prog) w 9 35 5 s Tryd.underlying9 Tryd.underlying35 Tryd.underlying5
  rw [hcap] at hconv
  clear hcap
  have M0 := FoM.start w s cap
  generalize w.drew.alloc (.cells (bytesRow s cap) 5 ((bytesRow s cap).size, (bytesRow s cap).size + 1)) = w1 at hconv M0
  obtain ⟨b, hb⟩ : ∃ b, w.heap.size = b := ⟨_, rfl⟩
  have HM := Lib.hid M0
  clear M0
  go_enter Tryd.func13, Tryd.ntmps13
  go_wp2
  rw [hb] at HM
  clear hconv
  go_loopw [10] (fun v10 wr => ∃ i : Nat, i ≤ s.size ∧ v10 = .int .i64 (i : Int) ∧ FoM w wr (nums s) b i) (fun v10 _ => s.size - (intOf v10).toNat)
  case atStart => exact ⟨0, Nat.zero_le _, rfl, HM.out⟩
  case round =>
    obtain ⟨i, hi, rfl, hM⟩ := hrel
    have HM1 := Lib.hid hM
    clear hM
    by_cases h1 : i < s.size
    · have hl : Hid (i < (nums s).length) := by unfold Hid; rw [hlen.out]; exact h1
      have hc := HM1.out.hi i hl.out (Nat.le_refl _)
      have hf := HM1.out.free i hl.out
      have hz := nums_byte s ((nums s).getD i 0) (by rw [List.getD_eq_getElem?_getD, List.getElem?_eq_getElem hl.out]; exact List.getElem_mem hl.out)
      obtain ⟨z, hzz⟩ : ∃ z, (nums s).getD i 0 = z := ⟨_, rfl⟩
      rw [hzz] at hc hz
      obtain ⟨z0, z1⟩ := hz
      have HZ := Lib.hid hzz
      clear hzz
      by_cases c1 : 65 ≤ z
      · by_cases c2 : z ≤ 90
        · have hfold : Hid (foldB ((nums s).getD i 0) = z - 65 + 97) := by unfold Hid foldB; rw [HZ.out, if_pos ⟨c1, c2⟩]; omega
          have hw1 : IntKind.u8.wrap (z - 65) = z - 65 := by rw [IntKind.wrap_u8]; omega
          have hw2 : IntKind.u8.wrap (z - 65 + 97) = z - 65 + 97 := by rw [IntKind.wrap_u8]; omega
          go_wp2
          go_roundw
          case rel => exact ⟨i + 1, by omega, by go_num, HM1.out.put hl.out _ hfold.out⟩
          case measure => simp [intOf]; omega
        · have hfold : Hid (foldB ((nums s).getD i 0) = (nums s).getD i 0) := by unfold Hid foldB; rw [HZ.out, if_neg (by omega)]
          have d2 : decide (z ≤ 90) = false := by simp; omega
          go_wp2
          go_roundw
          case rel => exact ⟨i + 1, by omega, by go_num, HM1.out.pass hl.out hfold.out⟩
          case measure => simp [intOf]; omega
      · have hfold : Hid (foldB ((nums s).getD i 0) = (nums s).getD i 0) := by unfold Hid foldB; rw [HZ.out, if_neg (by omega)]
        have d2 : decide (z ≥ 65) = false := by simp; omega
        go_wp2
        go_roundw
        case rel => exact ⟨i + 1, by omega, by go_num, HM1.out.pass hl.out hfold.out⟩
        case measure => simp [intOf]; omega
    · obtain rfl : i = s.size := by omega
      have hback := run_convert_bytes_back (P := Tryd.prog) wr 35 9 5 ⟨b, 0, none⟩ cap (((nums s).map foldB).map fun z => UInt8.ofNat z.toNat) Tryd.underlying35 Tryd.underlying5 Tryd.underlying9 (fun j hj => by
        have hj2 : j < (nums s).length := by simpa using hj
        have ha : (⟨b, 0, none⟩ : Addr).add j = ⟨b, j, none⟩ := by unfold Addr.add; split <;> simp_all
        have hz := nums_byte s (nums s)[j] (List.getElem_mem hj2)
        rw [ha, HM1.out.lo j hj2 (by rw [hlen.out] at hj2; exact hj2)]
        rw [List.getD_eq_getElem?_getD, List.getElem?_eq_getElem hj2, Option.getD_some]
        have : 0 ≤ foldB (nums s)[j] ∧ foldB (nums s)[j] ≤ 255 := by unfold foldB; split <;> omega
        congr 2
        simp only [List.getElem_map, UInt8.toNat_ofNat']
        omega)
      rw [List.length_map, List.length_map, hlen.out] at hback
      have hback2 : (convert 35 9 (.slice (some ⟨b, 0, none⟩) s.size cap)).run Tryd.prog wr = .ok (.string (strOfNums ((nums s).map foldB))) wr := hback
      clear hback
      obtain ⟨R, hR⟩ : ∃ R, strOfNums ((nums s).map foldB) = R := ⟨_, rfl⟩
      rw [hR] at hback2
      have HR := Lib.hid hR
      clear hR
      go_wp2
      go_ret
      exact ⟨by rw [HR.out]; rfl, HM1.out.bel⟩

end Go.Proofs.YtkhmaiggcihneaaDoor
