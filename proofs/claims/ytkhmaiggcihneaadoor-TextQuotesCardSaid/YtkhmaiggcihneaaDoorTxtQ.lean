/-
  The document's own Quote, walked.
-/
import Derived.Test.YtkhmaiggcihneaaDoorTxtG
import Derived.Test.YtkhmaiggcihneaaDoorTxtB
import Derived.Deep.RegionHeld3
namespace Go.Proofs.YtkhmaiggcihneaaDoor
open Go.RowKit

theorem rbytes_is {r : Int} {t : List Int} (h : encL r = t) (w : World) (h0 : 0 ≤ r) (h1 : r ≤ 1114111) : Calls Tryd.prog 31 #[.int .i32 r] w fun e w' => e = .returned (.string (strOfNums t)) ∧ Below w.heap.size w w' := by
  subst h; exact rbytes_any r w h0 h1
theorem rhex_is {r : Int} {t : List Int} (h : hexL r.toNat = t) (w : World) (h0 : 0 ≤ r) (h1 : r ≤ 1114111) : Calls Tryd.prog 30 #[.int .i32 r] w fun e w' => e = .returned (.string (strOfNums t)) ∧ Below w.heap.size w w' := by
  subst h
  have := rhex_any r.toNat w (by omega)
  rwa [Int.toNat_of_nonneg h0] at this
theorem quoteB_len {l : List Int} (h : ∀ z ∈ l, -1 ≤ z ∧ z ≤ 1114111) : (quoteB l).length ≤ 9 * l.length := by
  induction l with
  | nil => simp [quoteB]
  | cons z l ih =>
    have h1 := quoteR_len (h z List.mem_cons_self).2
    have h2 := ih (fun x hx => h x (List.mem_cons_of_mem _ hx))
    unfold quoteB at *
    rw [List.flatMap_cons, List.length_append, List.length_cons]
    omega

set_option maxRecDepth 100000 in
set_option maxHeartbeats 4000000 in
theorem rquote_any (s : ByteArray) (w : World) (hm : s.size ≤ 4294967296) (hg : GoodL (runesOf (nums s))) :
    Calls Tryd.prog 20 #[.string s] w fun e w' => e = .returned (.string (strOfNums (quoteL (runesOf (nums s))))) ∧ Below w.heap.size w w' := by
  have hll := runes_len (nums s)
  rw [nums_length] at hll
  have hbd := runes_bd (nums s) (nums_byte s)
  obtain ⟨l, hl⟩ : ∃ l, runesOf (nums s) = l := ⟨_, rfl⟩
  have R := Lib.hid (fun w => rrunes_any s w hm)
  rw [hl] at R hll hbd hg ⊢
  clear hl
  have HG := Lib.hid hg
  have HBD := Lib.hid hbd
  clear hg hbd
  go_enter Tryd.func20, Tryd.ntmps20
  go_wp2_with (go_at_call 8; (with_reducible refine (R.out _).mono ?_); rintro e w1 ⟨v, rfl, ⟨b, off, cap, rfl, hcap, hb, hcell⟩, g, _⟩; have G := Lib.hid g; clear g; have HC := Lib.hid hcell; clear hcell)
  go_loopw [3, 5] (fun v3 v5 wr => ∃ i : Nat, i ≤ l.length ∧ v3 = .string (strOfNums ([34] ++ quoteB (l.take i))) ∧ v5 = .int .i64 i ∧ Below w1.heap.size w1 wr) (fun _ v5 _ => l.length - (intOf v5).toNat)
  case atStart => exact ⟨0, Nat.zero_le _, rfl, rfl, Below.refl _ _⟩
  case round =>
    obtain ⟨i, hi, rfl, rfl, hbel⟩ := hrel
    have HB := Lib.hid hbel
    clear hbel
    obtain ⟨xs, hxs⟩ : ∃ xs, [34] ++ quoteB (l.take i) = xs := ⟨_, rfl⟩
    have hlx : (strOfNums xs).size ≤ 1 + 9 * i := by
      rw [strOfNums_size, ← hxs, List.length_append]
      have h5 := quoteB_len (l := l.take i) (fun z hz => HBD.out z (List.mem_of_mem_take hz))
      rw [List.length_take] at h5
      simp only [List.length_cons, List.length_nil]
      omega
    rw [hxs]
    have HX := Lib.hid hxs
    clear hxs
    by_cases h1 : i < l.length
    · have hx : wr.cell? ⟨b, off + i, none⟩ = some (.int .i32 (l.getD i 0)) := (HB.out.cell (p := ⟨b, off + i, none⟩) hb).trans (HC.out i h1)
      have z0 := HG.out i h1
      have z1 := (getD_bd HBD.out h1).2
      obtain ⟨z, hz⟩ : ∃ z, l.getD i 0 = z := ⟨_, rfl⟩
      rw [hz] at hx z0 z1
      have hst : Hid (∀ t, quoteR z = t → strOfNums xs ++ strOfNums t = strOfNums ([34] ++ quoteB (l.take (i + 1)))) := fun t ht => by
        rw [take_snoc h1, quoteB_snoc, hz, ht, ← List.append_assoc, HX.out, strOfNums_append]
      clear hz
      by_cases k34 : z = 34
      · subst k34
        have hs := Lib.hid (hst.out [92, 34] rfl)
        have hsz : ¬ 9223372036854775807 < (strOfNums xs).size + 2 := by omega
        go_wp2
        go_roundw
        case rel => exact ⟨i + 1, by omega, by rw [← hs.out]; rfl, by go_num, HB.out⟩
        case measure => simp [intOf]; omega
      have n34 : (z == 34) = false := by simpa using k34
      by_cases k92 : z = 92
      · subst k92
        have hs := Lib.hid (hst.out [92, 92] rfl)
        have hsz : ¬ 9223372036854775807 < (strOfNums xs).size + 2 := by omega
        go_wp2
        go_roundw
        case rel => exact ⟨i + 1, by omega, by rw [← hs.out]; rfl, by go_num, HB.out⟩
        case measure => simp [intOf]; omega
      have n92 : (z == 92) = false := by simpa using k92
      by_cases k10 : z = 10
      · subst k10
        have hs := Lib.hid (hst.out [92, 110] rfl)
        have hsz : ¬ 9223372036854775807 < (strOfNums xs).size + 2 := by omega
        go_wp2
        go_roundw
        case rel => exact ⟨i + 1, by omega, by rw [← hs.out]; rfl, by go_num, HB.out⟩
        case measure => simp [intOf]; omega
      have n10 : (z == 10) = false := by simpa using k10
      by_cases k9 : z = 9
      · subst k9
        have hs := Lib.hid (hst.out [92, 116] rfl)
        have hsz : ¬ 9223372036854775807 < (strOfNums xs).size + 2 := by omega
        go_wp2
        go_roundw
        case rel => exact ⟨i + 1, by omega, by rw [← hs.out]; rfl, by go_num, HB.out⟩
        case measure => simp [intOf]; omega
      have n9 : (z == 9) = false := by simpa using k9
      have hnq : Hid (quoteR z = if z < 32 ∨ z = 127 then [92, 117, 123] ++ hexL z.toNat ++ [125] else encL z) := by unfold Hid quoteR; rw [if_neg k34, if_neg k92, if_neg k10, if_neg k9]
      obtain ⟨t, ht⟩ : ∃ t, hexL z.toNat = t := ⟨_, rfl⟩
      have HH := Lib.hid (fun w => rhex_is ht w z0 z1)
      by_cases k32 : z < 32
      · have g9 : z < 32 := k32
        have hs : Hid (strOfNums xs ++ ⟨#[92, 117, 123]⟩ ++ strOfNums t ++ ⟨#[125]⟩ = strOfNums ([34] ++ quoteB (l.take (i + 1)))) := by
          unfold Hid
          rw [← hst.out ([92, 117, 123] ++ t ++ [125]) (by rw [hnq.out, if_pos (by omega), ht]), ← strOfNums_append, ← strOfNums_append, ByteArray.append_assoc, ByteArray.append_assoc, ByteArray.append_assoc]
          rfl
        have hlt : (strOfNums t).size ≤ 2 := by rw [strOfNums_size, ← ht]; exact hexL_len _ 1 (by omega)
        have s1 : ¬ 9223372036854775807 < (strOfNums xs).size + 3 := by omega
        have s2 : ¬ 9223372036854775807 < (strOfNums xs).size + 3 + (strOfNums t).size := by omega
        have s3 : ¬ 9223372036854775807 < (strOfNums xs).size + 3 + (strOfNums t).size + 1 := by omega
        clear ht
        go_wp2_with (go_at_call 30; (with_reducible refine (HH.out _).mono ?_); rintro e w2 ⟨rfl, g⟩; have B2 := Lib.hid (below_step HB.out g); clear g)
        go_roundw
        case rel => exact ⟨i + 1, by omega, by rw [← hs.out], by go_num, B2.out⟩
        case measure => simp [intOf]; omega
      by_cases k127 : z = 127
      · subst k127
        have hs : Hid (strOfNums xs ++ ⟨#[92, 117, 123]⟩ ++ strOfNums t ++ ⟨#[125]⟩ = strOfNums ([34] ++ quoteB (l.take (i + 1)))) := by
          unfold Hid
          rw [← hst.out ([92, 117, 123] ++ t ++ [125]) (by rw [hnq.out, if_pos (by omega), ht]), ← strOfNums_append, ← strOfNums_append, ByteArray.append_assoc, ByteArray.append_assoc, ByteArray.append_assoc]
          rfl
        have hlt : (strOfNums t).size ≤ 2 := by rw [strOfNums_size, ← ht]; exact hexL_len _ 1 (by omega)
        have s1 : ¬ 9223372036854775807 < (strOfNums xs).size + 3 := by omega
        have s2 : ¬ 9223372036854775807 < (strOfNums xs).size + 3 + (strOfNums t).size := by omega
        have s3 : ¬ 9223372036854775807 < (strOfNums xs).size + 3 + (strOfNums t).size + 1 := by omega
        clear ht
        go_wp2_with (go_at_call 30; (with_reducible refine (HH.out _).mono ?_); rintro e w2 ⟨rfl, g⟩; have B2 := Lib.hid (below_step HB.out g); clear g)
        go_roundw
        case rel => exact ⟨i + 1, by omega, by rw [← hs.out], by go_num, B2.out⟩
        case measure => simp [intOf]; omega
      have n127 : (z == 127) = false := by simpa using k127
      obtain ⟨u, hu⟩ : ∃ u, encL z = u := ⟨_, rfl⟩
      have HU := Lib.hid (fun w => rbytes_is hu w z0 z1)
      have hs := Lib.hid (hst.out u (by rw [hnq.out, if_neg (by omega), hu]))
      have hlu : (strOfNums u).size ≤ 4 := by rw [strOfNums_size, ← hu]; exact encL_len z
      have s1 : ¬ 9223372036854775807 < (strOfNums xs).size + (strOfNums u).size := by omega
      clear ht hu
      go_wp2_with (go_at_call 31; (with_reducible refine (HU.out _).mono ?_); rintro e w2 ⟨rfl, g⟩; have B2 := Lib.hid (below_step HB.out g); clear g)
      go_roundw
      case rel => exact ⟨i + 1, by omega, by rw [← hs.out], by go_num, B2.out⟩
      case measure => simp [intOf]; omega
    · have hfin : Hid (strOfNums xs ++ ⟨#[34]⟩ = strOfNums (quoteL l)) := by
        have e : i = l.length := by omega
        unfold Hid quoteL
        rw [← HX.out, e, List.take_length, show (⟨#[34]⟩ : ByteArray) = strOfNums [34] from rfl, strOfNums_append]
      have s1 : ¬ 9223372036854775807 < (strOfNums xs).size + 1 := by omega
      go_wp2
      go_ret
      exact ⟨by rw [← hfin.out]; rfl, below_step G.out HB.out⟩

end Go.Proofs.YtkhmaiggcihneaaDoor
