/-
  The statements of layer 9, walked over the contracts of package block's calls: all blocks of a disk, as one text.
-/
import Derived.Test.YtnndpainnoebgaaBlkF
namespace Go.Proofs.Ytnndpainnoebgaa
open Go.RowKit

theorem str_join (a b : List Int) : strOfNums (a ++ b) = strOfNums a ++ strOfNums b := (strOfNums_append a b).symm
theorem str_len (l : List Int) : (strOfNums l).size = l.length := by rw [← nums_length]; simp [nums, strOfNums]
theorem take_more (l : List Int) (i s : Nat) : l.take ((i + 1) * s) = l.take (i * s) ++ (l.drop (i * s)).take s := by
  rw [Nat.succ_mul, List.take_add]

set_option maxRecDepth 100000 in
set_option maxHeartbeats 4000000 in
theorem blkall_any (base : Nat) (O : Foot) (r : Nat) (E : Dsk) (w : World) (h : DskIs w base O r E) (hd : E.dark = false) (hde : E.deeds ≤ 1000000) :
    Calls Try.prog 23 #[.pointer (some ⟨r, 0, none⟩)] w fun e w' => e = .returned (.string (strOfNums E.seen)) ∧ Below w.heap.size w w' := by
  have HO := Lib.hid h
  have HK := Lib.hid h.ok
  have hn := h.ok.n1
  obtain ⟨sl, sb⟩ := h.ok.seen
  have hmost := h.ok.most
  have hs0 := h.ok.s0
  obtain ⟨N, hN⟩ : ∃ N, E.n = N := ⟨_, rfl⟩
  obtain ⟨S, hS⟩ : ∃ S, E.size = S := ⟨_, rfl⟩
  obtain ⟨L, hL⟩ : ∃ L, E.seen = L := ⟨_, rfl⟩
  have HR : Hid (∀ i : Nat, i < N → E.read (i : Int) = ((L.drop (i * S)).take S, 0)) := fun i hi => by
    unfold Dsk.read
    rw [if_neg (by rw [hd]; simp), if_neg (by omega), hL, hS, Int.toNat_natCast]
  have HB : Hid (∀ w' O', DskIs w' base O' r E → Calls Try.prog 20 #[.pointer (some ⟨r, 0, none⟩)] w' fun e w2 => e = .returned (.int .i64 (N : Int)) ∧ Below w'.heap.size w' w2) := fun w' O' h => by rw [← hN]; exact bblocks_any _ _ _ _ _ h
  have HRD := Lib.hid (fun (i : Nat) (hi : i < N) w' O' (h : DskIs w' base O' r E) => bread_any base O' r E (i : Int) w' h hde (by omega) (by omega))
  rw [hL, hN, hS] at sl
  rw [hL] at sb
  rw [hN] at hn
  rw [hN, hS] at hmost
  rw [hL]
  have HSL := Lib.hid sl
  have HSB := Lib.hid sb
  have HM := Lib.hid hmost
  clear h hd hN hS hL sl sb hmost
  go_enter Try.func23, Try.ntmps23
  go_wp2
  go_loopw [3, 4] (fun v3 v4 wr => ∃ (i : Nat), v4 = .int .i64 (i : Int) ∧ i ≤ N ∧ v3 = .string (strOfNums (L.take (i * S))) ∧ DskIs wr base O r E ∧ Below w.heap.size w wr) (fun _ v4 _ => N - (intOf v4).toNat)
  case atStart => exact ⟨0, rfl, Nat.zero_le _, by rw [Nat.zero_mul]; rfl, HO.out, Below.refl _ _⟩
  case round =>
    obtain ⟨i, rfl, hi, rfl, hD, hG⟩ := hrel
    have HD := Lib.hid hD
    have HG := Lib.hid hG
    clear hD hG
    obtain ⟨T, hT⟩ : ∃ T, L.take (i * S) = T := ⟨_, rfl⟩
    rw [hT]
    by_cases hlt : i < N
    · have hli : (i : Int) < (N : Int) := by omega
      have hbyte : Hid (∀ z ∈ (L.drop (i * S)).take S, 0 ≤ z ∧ z ≤ 255) := fun z hz => HSB.out z (List.mem_of_mem_drop (List.mem_of_mem_take hz))
      have hnx : Hid (L.take ((i + 1) * S) = T ++ (L.drop (i * S)).take S) := by unfold Hid; rw [take_more, hT]
      have hsz : T.length + ((L.drop (i * S)).take S).length ≤ 204800 := by
        have := congrArg List.length hnx.out
        rw [List.length_append] at this
        have h2 := List.length_take_le ((i + 1) * S) L
        have h3 : (L.take ((i + 1) * S)).length ≤ L.length := by rw [List.length_take]; omega
        have := HSL.out
        have := HM.out
        omega
      have HRi := Lib.hid (fun w' O' h => HRD.out i hlt w' O' h)
      have hri := HR.out i hlt
      obtain ⟨X, hX⟩ : ∃ X, (L.drop (i * S)).take S = X := ⟨_, rfl⟩
      rw [hX] at hbyte hnx hsz hri
      have HX := Lib.hid hri
      have hts : (strOfNums T).size + (strOfNums X).size ≤ 204800 := by rw [str_len, str_len]; exact hsz
      have hts2 : ¬ (9223372036854775807 < (strOfNums T).size + (strOfNums X).size) := by omega
      clear hri hX hT
      go_wp2_with (first
        | (go_at_call 20; (with_reducible refine (HB.out _ _ HD.out).mono ?_); rintro e wz ⟨rfl, g⟩; have HD := Lib.hid (HD.out.after g); have HG2 := Lib.hid (below_step HG.out g); clear g)
        | (go_at_call 22; (with_reducible refine (HRi.out _ _ HD.out).mono ?_); rintro e wy ⟨v, rfl, a, g⟩; rw [HX.out] at a; have HD3 := Lib.hid (HD.out.after g); have HG3 := Lib.hid (below_step HG2.out g); have hcv := conv_arg a hbyte.out; obtain ⟨xa, xc, rfl⟩ := a.size; rw [HX.out]; clear g a))
      go_roundw
      case rel => exact ⟨i + 1, by go_num, hlt, by rw [hnx.out, str_join], HD3.out, HG3.out⟩
      case measure => simp [intOf]; omega
    · obtain rfl : i = N := by omega
      have hfin : Hid (T = L) := by unfold Hid; rw [← hT, List.take_of_length_le (by rw [HSL.out]; exact Nat.le_refl _)]
      have hli : ¬ (i : Int) < (i : Int) := by omega
      go_wp2_with (go_at_call 20; (with_reducible refine (HB.out _ _ HD.out).mono ?_); rintro e wz ⟨rfl, g⟩; have HD := Lib.hid (HD.out.after g); have HG2 := Lib.hid (below_step HG.out g); clear g)
      go_ret
      rw [hfin.out]
      exact ⟨rfl, HG2.out⟩

end Go.Proofs.Ytnndpainnoebgaa
