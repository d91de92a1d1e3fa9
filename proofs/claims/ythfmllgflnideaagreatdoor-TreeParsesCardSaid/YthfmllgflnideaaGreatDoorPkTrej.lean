/-
  The document's Same, of words and of trees in memory that are the same: it only reads.
-/
import Derived.Test.YthfmllgflnideaaGreatDoorPkTrem
import Derived.Test.YthfmllgflnideaaGreatDoorPkPlain
import Derived.Test.YthfmllgflnideaaGreatDoorPkTrea
import Derived.Test.YthfmllgflnideaaGreatDoorPkScnR
namespace Go.Proofs.YthfmllgflnideaaGreatDoor
open Go.RowKit

set_option maxRecDepth 100000 in
set_option maxHeartbeats 8000000 in
theorem swords_same (S T : Nat → Prop) (v1 v2 : Value) (l : List Tk3) (w : World) (h1 : WordsIs w S v1 l) (h2 : WordsIs w T v2 l) (hl : l.length ≤ 1000000000) :
    Calls Tryz.prog 14 #[v1, v2] w fun e w' => e = .returned (.bool true) ∧ ∃ m, w' = w.drewN m := by
  obtain ⟨n, hn⟩ : ∃ n, l.length = n := ⟨_, rfl⟩
  obtain ⟨a1, c1, rfl, k1, hc1⟩ := h1
  obtain ⟨a2, c2, rfl, k2, hc2⟩ := h2
  have H1 := Lib.hid hc1
  have H2 := Lib.hid hc2
  have HN := Lib.hid hn
  rw [hn] at hl k1 k2 ⊢
  clear hc1 hc2 hn
  go_enter Tryz.func14, Tryz.ntmps14
  go_wp2
  go_loopw [5] (fun v5 wr => ∃ i : Nat, i ≤ n ∧ v5 = .int .i64 (i : Int) ∧ ∃ q, wr = w.drewN q) (fun v5 _ => n - (intOf v5).toNat)
  case atStart => exact ⟨0, Nat.zero_le _, rfl, 0, rfl⟩
  case round =>
    obtain ⟨i, hi, rfl, q, rfl⟩ := hrel
    by_cases hin : i < n
    · obtain ⟨b1, o1, rfl, s1, e0, e1, e2, e3, e4⟩ := H1.out i (by rw [HN.out]; exact hin)
      obtain ⟨b2, o2, rfl, s2, f0, f1, f2, f3, f4⟩ := H2.out i (by rw [HN.out]; exact hin)
      have hi1 : IntKind.i64.wrap ((i : Int) + 1) = ((i + 1 : Nat) : Int) := by rw [IntKind.wrap_i64]; omega
      obtain ⟨⟨k, s, m, x, y⟩, hp⟩ : ∃ p, l.getD i {} = p := ⟨_, rfl⟩
      rw [hp] at e0 e1 e2 e3 e4 f0 f1 f2 f3 f4
      simp only at e0 e1 e2 e3 e4 f0 f1 f2 f3 f4
      clear hp s1 s2
      go_wp2
      go_quiet (fail)
      go_wp2
      go_roundw
      case rel => exact ⟨i + 1, by omega, by go_num, _, rfl⟩
      case measure => simp [intOf]; omega
    · have en : n = i := by omega
      subst en
      go_wp2
      go_ret
      exact ⟨rfl, q, rfl⟩

/-- A callee that only reads, within a drawn statement that stands behind others. -/
theorem quiet_more {P : Program} {f : FuncId} {args : Array Value} {w : World} {q n : Nat} {v : Value} (h : Calls P f args (w.drewN (q + n)) fun e w' => e = .returned v ∧ ∃ m, w' = (w.drewN (q + n)).drewN m) :
    Calls P f args (w.drewN (q + n)) fun e w'' => e = .returned v ∧ ∃ m, w'' = w.drewN (q + m) :=
  h.mono fun _ _ ⟨he, m, hm⟩ => ⟨he, n + m, by rw [hm, World.drewN_drewN, Nat.add_assoc]⟩
set_option maxRecDepth 100000 in
set_option maxHeartbeats 16000000 in
theorem stree_same : ∀ (d : Nat) (S T : Nat → Prop) (v1 v2 : Value) (L : List It) (w : World), ItemsIs d w S v1 L → ItemsIs d w T v2 L → cntL L ≤ 1000000000 → AllW L →
    Calls Tryz.prog 8 #[v1, v2] w fun e w' => e = .returned (.bool true) ∧ ∃ m, w' = w.drewN m := by
  intro d
  induction d with
  | zero =>
    intro S T v1 v2 L w h1 h2 _ _
    obtain ⟨rfl, a1, c1, rfl⟩ := h1
    obtain ⟨_, a2, c2, rfl⟩ := h2
    go_enter Tryz.func8, Tryz.ntmps8
    go_wp2
    go_loopw [5] (fun v5 wr => v5 = .int .i64 0 ∧ wr = w) (fun _ _ => 0)
    case atStart => exact ⟨rfl, rfl⟩
    case round =>
      obtain ⟨rfl, rfl⟩ := hrel
      go_wp2
      go_ret
      exact ⟨rfl, 0, rfl⟩
  | succ d ih =>
    intro S T v1 v2 L w h1 h2 hm hw
    obtain ⟨a1, c1, rfl⟩ := h1.size
    obtain ⟨a2, c2, rfl⟩ := h2.size
    have H1 := Lib.hid h1
    have H2 := Lib.hid h2
    have HIH := Lib.hid ih
    have HM := Lib.hid hm
    have HW := Lib.hid hw
    obtain ⟨n, hn⟩ : ∃ n, L.length = n := ⟨_, rfl⟩
    have HN := Lib.hid hn
    have hll : n ≤ 1000000000 := by have := len_cnt L; omega
    rw [hn]
    clear h1 h2 ih hm hn hw
    go_enter Tryz.func8, Tryz.ntmps8
    go_wp2
    go_loopw [5] (fun v5 wr => ∃ i : Nat, i ≤ n ∧ v5 = .int .i64 (i : Int) ∧ ∃ q, wr = w.drewN q) (fun v5 _ => n - (intOf v5).toNat)
    case atStart => exact ⟨0, Nat.zero_le _, rfl, 0, rfl⟩
    case round =>
      obtain ⟨i, hi, rfl, q, rfl⟩ := hrel
      by_cases hin : i < n
      · obtain ⟨d1, hd1, b1, o1, wv1, kv1, rfl, s1, e0, e1, e2, e3, e4, e5, w1, k1⟩ := H1.out.at i (by rw [HN.out]; exact hin)
        obtain ⟨d2, hd2, b2, o2, wv2, kv2, rfl, s2, f0, f1, f2, f3, f4, f5, w2, k2⟩ := H2.out.at i (by rw [HN.out]; exact hin)
        obtain rfl : d = d1 := by omega
        obtain rfl : d = d2 := by omega
        have hck := cntK_mono L (i := i + 1) (j := n) (by omega)
        rw [← HN.out, cntK_all, cntK] at hck
        have hm := HM.out
        have hwi := HW.out.at i (by rw [HN.out]; exact hin)
        have HC1 : Hid (∀ W, W.heap = w.heap → Calls Tryz.prog 14 #[wv1, wv2] W fun e w' => e = .returned (.bool true) ∧ ∃ m, w' = W.drewN m) := Lib.hid (fun W hW =>
          swords_same S T wv1 wv2 _ W (w1.keep (fun _ h => h) (fun b hb => by rw [hW])) (w2.keep (fun _ h => h) (fun b hb => by rw [hW])) hwi.1)
        have HC2 : Hid (∀ W, W.heap = w.heap → Calls Tryz.prog 8 #[kv1, kv2] W fun e w' => e = .returned (.bool true) ∧ ∃ m, w' = W.drewN m) := Lib.hid (fun W hW =>
          HIH.out S T kv1 kv2 _ W (k1.keep (fun _ h => h) (fun b hb => by rw [hW])) (k2.keep (fun _ h => h) (fun b hb => by rw [hW])) (by omega) hwi.2)
        obtain ⟨⟨nm, wd, bk, kd, pa, pb⟩, hp⟩ : ∃ p, L.getD i default = p := ⟨_, rfl⟩
        rw [hp] at e0 e2 e4 e5 f0 f2 f4 f5
        simp only [It.name, It.block, It.a, It.b] at e0 e2 e4 e5 f0 f2 f4 f5
        have e6 : IntKind.i64.wrap ((i : Int) + 1) = ((i + 1 : Nat) : Int) := by rw [IntKind.wrap_i64]; omega
        clear s1 s2 hck hm hwi hp w1 w2 k1 k2 hd1 hd2
        go_wp2
        go_quiet (first
          | (go_at_call 14; exact quiet_more (HC1.out _ rfl))
          | (go_at_call 8; exact quiet_more (HC2.out _ rfl)))
        go_wp2
        go_roundw
        case rel => exact ⟨i + 1, by omega, by go_num, _, rfl⟩
        case measure => simp [intOf]; omega
      · have en : n = i := by omega
        subst en
        go_wp2
        go_ret
        exact ⟨rfl, q, rfl⟩

end Go.Proofs.YthfmllgflnideaaGreatDoor

/-
  Runes of texts one behind the other, with a line feed between: plain.
-/
namespace Go.Proofs.YthfmllgflnideaaGreatDoor

theorem nl_get (za zb : List Int) {j : Nat} (h : j < za.length) : (za ++ 10 :: zb).getD j 0 = za.getD j 0 := by
  rw [List.getD_eq_getElem?_getD, List.getD_eq_getElem?_getD, List.getElem?_append_left h]
theorem nl_cont (za zb : List Int) {j : Nat} (h : j ≤ za.length) : contB (za ++ 10 :: zb) j = contB za j := by
  by_cases hj : j < za.length
  · unfold contB
    rw [nl_get za zb hj]
    have h1 : decide (j < (za ++ 10 :: zb).length) = true := by simp; omega
    have h2 : decide (j < za.length) = true := by simpa using hj
    rw [h1, h2]
  · have e : j = za.length := by omega
    subst e
    unfold contB
    have : (za ++ 10 :: zb).getD za.length 0 = 10 := by simp [List.getD_eq_getElem?_getD]
    rw [this]
    simp
theorem nl_all (za zb : List Int) {i : Nat} (h : i < za.length) : ∀ k, allB (za ++ 10 :: zb) i k = allB za i k
  | 0 => rfl
  | k + 1 => by
    have ih := nl_all za zb h k
    simp only [allB]
    rw [ih]
    by_cases hk : i + (k + 1) ≤ za.length
    · rw [nl_cont za zb hk]
    · cases ha : allB za i k with
      | false => rfl
      | true =>
        have := allB_in ha (j := za.length - i) (by omega) (by omega)
        rw [contB_iff] at this
        omega
theorem nl_cAt (za zb : List Int) {i : Nat} : ∀ k, i + k < za.length → cAt (za ++ 10 :: zb) i k = cAt za i k
  | 0, h => by simp only [cAt]; rw [nl_get za zb (by omega)]
  | k + 1, h => by
    simp only [cAt]
    rw [nl_cAt za zb k (by omega), nl_get za zb (by omega)]
theorem nl_whole (za zb : List Int) {i : Nat} (h : i < za.length) : wholeB (za ++ 10 :: zb) i = wholeB za i := by
  unfold wholeB
  rw [nl_get za zb h, nl_all za zb h]
  obtain ⟨k, hk⟩ : ∃ k, clsN (za.getD i 0) = k := ⟨_, rfl⟩
  rw [hk]
  by_cases h0 : 0 < k
  · cases ha : allB za i k with
    | false => simp
    | true =>
      have := allB_in ha (j := k) h0 (Nat.le_refl _)
      rw [contB_iff] at this
      rw [nl_cAt za zb k this.1]
  · simp [h0]
theorem nl_runeA (za zb : List Int) {i : Nat} (h : i < za.length) : runeA (za ++ 10 :: zb) i = runeA za i ∧ widA (za ++ 10 :: zb) i = widA za i := by
  unfold runeA widA
  rw [nl_get za zb h, nl_whole za zb h]
  refine ⟨?_, rfl⟩
  split
  · rfl
  split
  · rename_i hw
    have := wholeB_end hw
    rw [nl_cAt za zb _ this]
  · rfl
theorem rfrom_tail (p zs : List Int) : ∀ (n j : Nat), zs.length - j ≤ n → rfrom (p ++ zs) (p.length + j) = rfrom zs j
  | n, j, hn => by
    have hg : ∀ i, (p ++ zs).getD (p.length + i) 0 = zs.getD i 0 := fun i => by
      rw [List.getD_eq_getElem?_getD, List.getD_eq_getElem?_getD, List.getElem?_append_right (by omega)]
      congr 2; omega
    have hcb : ∀ i, contB (p ++ zs) (p.length + i) = contB zs i := fun i => by
      unfold contB
      rw [hg]
      have : decide (p.length + i < (p ++ zs).length) = decide (i < zs.length) := by simp
      rw [this]
    have hal : ∀ i k, allB (p ++ zs) (p.length + i) k = allB zs i k := fun i k => by
      induction k with
      | zero => rfl
      | succ k ih => simp only [allB]; rw [ih, Nat.add_assoc, hcb]
    have hca : ∀ i k, cAt (p ++ zs) (p.length + i) k = cAt zs i k := fun i k => by
      induction k with
      | zero => simp only [cAt]; rw [hg]
      | succ k ih => simp only [cAt]; rw [ih, Nat.add_assoc, hg]
    have hwh : ∀ i, wholeB (p ++ zs) (p.length + i) = wholeB zs i := fun i => by unfold wholeB; rw [hg, hal, hca]
    by_cases hj : j < zs.length
    · match n, hn with
      | 0, hn => omega
      | n + 1, hn =>
        rw [rfrom_in (zs := p ++ zs) (by simp; omega), rfrom_in hj]
        have e1 : runeA (p ++ zs) (p.length + j) = runeA zs j := by unfold runeA; rw [hg, hwh, hca]
        have e2 : widA (p ++ zs) (p.length + j) = widA zs j := by unfold widA; rw [hg, hwh]
        have hp := widA_pos zs j
        rw [e1, e2, Nat.add_assoc, rfrom_tail p zs n _ (by omega)]
    · rw [rfrom_out (by simp; omega), rfrom_out hj]
theorem rfrom_nl (za zb : List Int) : ∀ (n i : Nat), za.length - i ≤ n → i ≤ za.length → rfrom (za ++ 10 :: zb) i = rfrom za i ++ 10 :: runesOf zb
  | n, i, hn, hi => by
    by_cases hil : i < za.length
    · match n, hn with
      | 0, hn => omega
      | n + 1, hn =>
        obtain ⟨e1, e2⟩ := nl_runeA za zb hil
        have hp := widA_pos za i
        have hw := widA_in hil
        rw [rfrom_in (by simp; omega), rfrom_in hil, e1, e2, rfrom_nl za zb n _ (by omega) (by omega)]
        rfl
    · have e : i = za.length := by omega
      subst e
      have h10 : (za ++ 10 :: zb).getD za.length 0 = 10 := by simp [List.getD_eq_getElem?_getD]
      obtain ⟨e1, e2⟩ := runeA_low (zs := za ++ 10 :: zb) (i := za.length) (by rw [h10]; decide)
      rw [rfrom_in (zs := za ++ 10 :: zb) (by simp), rfrom_out (zs := za) (by omega), e1, e2, h10, List.nil_append]
      have := rfrom_tail (za ++ [10]) zb zb.length 0 (by omega)
      have e3 : za ++ [10] ++ zb = za ++ 10 :: zb := by simp
      have e4 : (za ++ [10]).length = za.length + 1 := by simp
      rw [e3, e4, Nat.add_zero] at this
      rw [this]; rfl
/-- Two texts, with a line feed between. -/
theorem runes_nl (za zb : List Int) : runesOf (za ++ 10 :: zb) = runesOf za ++ 10 :: runesOf zb := rfrom_nl za zb za.length 0 (by omega) (Nat.zero_le _)

end Go.Proofs.YthfmllgflnideaaGreatDoor

/-
  Trees of texts by their bytes: one behind the other, one within the other: plain.
-/
namespace Go.Proofs.YthfmllgflnideaaGreatDoor

/-- The items of a text. -/
noncomputable def treT (s : ByteArray) : Except (Int × Int × Int) (List It) := treF (runesOf (nums s))
theorem runes_nest (za : List Int) : runesOf ([97, 32, 123] ++ (za ++ [10, 125])) = [97, 32, 123] ++ (runesOf za ++ [10, 125]) := by
  rw [runes_ascii [97, 32, 123] (by decide), runes_nl za [125], runes_of_ascii (zs := [125]) (by decide)]
theorem treT_join {a b s : ByteArray} (hs : nums s = nums a ++ 10 :: nums b) {I J : List It} (ha : treT a = .ok I) (hb : treT b = .ok J) :
    (cntL I + cntL J ≤ 300 ∧ ∃ K, treT s = .ok K ∧ bareL K = bareL I ++ bareL J) ∨ (300 < cntL I + cntL J ∧ ∃ x y, treT s = .error (9, x, y)) := by
  have e : treT s = treF (runesOf (nums a) ++ 10 :: runesOf (nums b)) := by unfold treT; rw [hs, runes_nl]
  rw [e]
  exact tre_join ha hb
theorem treT_nest {a s : ByteArray} (hs : nums s = [97, 32, 123] ++ (nums a ++ [10, 125])) {I : List It} (ha : treT a = .ok I) :
    (cntL I < 300 ∧ depL I ≤ 3 ∧ ∃ x, treT s = .ok [x] ∧ x.name = strOfNums [97] ∧ x.block = true ∧ x.words = [] ∧ bareL x.kids = bareL I) ∨
    (300 ≤ cntL I ∧ ∃ x y, treT s = .error (9, x, y)) ∨ (3 < depL I ∧ ∃ x y, treT s = .error (19, x, y)) := by
  have e : treT s = treF ([97, 32, 123] ++ (runesOf (nums a) ++ [10, 125])) := by unfold treT; rw [hs, runes_nest]
  rw [e]
  exact tre_nest ha

end Go.Proofs.YthfmllgflnideaaGreatDoor
