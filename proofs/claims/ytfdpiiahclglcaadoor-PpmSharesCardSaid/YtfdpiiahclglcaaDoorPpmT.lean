/-
  The document's own answers for shares, walked: Read of a text that ends with %.
-/
import Derived.Test.YtfdpiiahclglcaaDoorPpmS
namespace Go.Proofs.YtfdpiiahclglcaaDoor
open Go.RowKit

theorem dot_end {s : ByteArray} {A B : List Int} {d : Bool} {a : Nat} (h : Lets s A B d) (ha : A.length = a) : dotI a s.size (s.size - 1) = (a : Int) := by
  have hs := h.size
  unfold dotI
  split
  · cases d <;> simp at hs <;> omega
  · rfl
theorem dot_low {a n k : Nat} (h : k ≤ a) : dotI a n k = (n : Int) - 1 := if_pos h
theorem dot_high {a n k : Nat} (h : ¬ k ≤ a) : dotI a n k = (a : Int) := if_neg h
theorem num_room {A B : List Int} {d : Bool} {a : Nat} (g : Written A B d) (ha : A.length = a) (h3 : a ≤ 3) (k : Nat) (hk : k ≤ a) : numOf (A.take k) ≤ 999 := by
  have h1 := numOf_lt g.dg.all k (by omega)
  have h2 : 10 ^ k ≤ 10 ^ 3 := Nat.pow_le_pow_right (by decide) (by omega)
  omega
theorem num_step {s : ByteArray} {A B : List Int} {d : Bool} {a : Nat} (h : Lets s A B d) (g : Written A B d) (ha : A.length = a) (k : Nat) (hk : k < a) :
    ∃ (z : Int), ((s[k]'(by have := h.size; split at this <;> omega)).toNat : Int) = z ∧ 48 ≤ z ∧ z ≤ 57 ∧ numOf (A.take (k + 1)) = 10 * numOf (A.take k) + (z - 48).toNat := by
  have h1 := g.dg.all k (by omega)
  refine ⟨A.getD k 0, ?_, h1.1, h1.2, numOf_step A k (by omega)⟩
  rw [letter_at, (h.ahead k (by omega)).1]
theorem vv_room {s : ByteArray} {A B : List Int} {d : Bool} {a : Nat} (h : Lets s A B d) (g : Written A B d) (ha : A.length = a) (h3 : a ≤ 3) (j : Nat) (hj : j ≤ 4) : vv A B j ≤ 9999999 := by
  have h1 := vv_lt g.dg.all (g.digB h.nil) (by omega) j
  have h2 : 10 ^ (3 + j) ≤ 10 ^ 7 := Nat.pow_le_pow_right (by decide) (by omega)
  omega
theorem vv_less {s : ByteArray} {A B : List Int} {d : Bool} {a : Nat} (h : Lets s A B d) (g : Written A B d) (ha : A.length = a) (h3 : a ≤ 3) (j : Nat) (hj : j < 4) : vv A B j ≤ 999999 := by
  have h1 := vv_lt g.dg.all (g.digB h.nil) (by omega) j
  have h2 : 10 ^ (3 + j) ≤ 10 ^ 6 := Nat.pow_le_pow_right (by decide) (by omega)
  omega
theorem vv_step (A B : List Int) (j : Nat) : vv A B (j + 1) = 10 * vv A B j + dB B j := rfl
theorem behind_in {s : ByteArray} {A B : List Int} {d : Bool} {a : Nat} (h : Lets s A B d) (ha : A.length = a) (j : Nat) (hj : j < B.length) : (a : Int) + 1 + j < (s.size : Int) - 1 := by
  have hs := h.size
  cases d with
  | false => rw [h.nil rfl] at hj; simp at hj
  | true => simp at hs; omega
theorem behind_out {s : ByteArray} {A B : List Int} {d : Bool} {a : Nat} (h : Lets s A B d) (ha : A.length = a) (j : Nat) (hj : ¬ j < B.length) : ¬ (a : Int) + 1 + j < (s.size : Int) - 1 := by
  have hs := h.size
  cases d with
  | false => simp at hs; omega
  | true => simp at hs; omega
theorem behind_step {s : ByteArray} {A B : List Int} {d : Bool} {a : Nat} (h : Lets s A B d) (g : Written A B d) (ha : A.length = a) (j : Nat) (hj : j < B.length) :
    ∃ (z : Int), ((s[a + 1 + j]'(by have := behind_in h ha j hj; omega)).toNat : Int) = z ∧ 48 ≤ z ∧ z ≤ 57 ∧ dB B j = (z - 48).toNat := by
  have h1 := g.digB h.nil j hj
  refine ⟨B.getD j 0, ?_, h1.1, h1.2, dB_at hj⟩
  rw [letter_at, ← ha, h.behind j hj]
theorem int_eq {k : IntKind} {x y : Int} (h : x = y) : Value.int k x = Value.int k y := by rw [h]

set_option maxRecDepth 100000 in
set_option maxHeartbeats 4000000 in
theorem rread_all (s : ByteArray) (A B : List Int) (d : Bool) (w : World) (hm : s.size ≤ 9223372036854775807) (hL : Lets s A B d) :
    Calls Tryd.prog 9 #[.string s] w (GivesRd A B d w) := by
  have HL := Lib.hid hL
  obtain ⟨a, ha⟩ : ∃ a, A.length = a := ⟨_, rfl⟩
  have Ha := Lib.hid ha
  by_cases h2 : s.size < 2
  · have hbad := Lib.hid (fun g : Written A B d => (by have h1 := (hL.tests g).1; have h2 := hL.size; split at h2 <;> omega : False))
    clear ha hL
    go_enter Tryd.func9, Tryd.ntmps9
    go_wp2
    go_ret2
    exact GivesRd.no hbad.out
  · have hx := letter_at s (s.size - 1) (by omega)
    rw [hL.last] at hx
    clear ha hL
    have c1 : 0 ≤ (s.size : Int) - 1 := by omega
    have c2 : (s.size : Int) - 1 < s.size := by omega
    go_enter Tryd.func9, Tryd.ntmps9
    go_wp2
    go_loop [5, 6] (fun v5 v6 => ∃ (k : Nat) (D : Int), k ≤ s.size - 1 ∧ v6 = .int .i64 k ∧ v5 = .int .i64 D ∧ Hid (D = dotI a s.size k) ∧ DigTo s a k) (fun _ v6 => s.size - (intOf v6).toNat)
    case atStart => exact ⟨0, _, Nat.zero_le _, rfl, rfl, Lib.hid (dot_low (Nat.zero_le _)).symm, DigTo.zero _ _⟩
    case round =>
      obtain ⟨k, D, hk, rfl, rfl, hD, hdig⟩ := hrel
      replace hdig := Lib.hid (show DigTo s A.length k by rw [Ha.out]; exact hdig)
      by_cases h1 : k < s.size - 1
      · have h1i : (k : Int) < (s.size : Int) - 1 := by omega
        by_cases hka : k = a
        · subst hka
          have hDn : D = (s.size : Int) - 1 := by rw [hD.out, dot_low (Nat.le_refl _)]
          subst hDn
          clear hD
          have hd : d = true := by have := HL.out.size; rw [Ha.out] at this; cases d; (simp at this; omega); rfl
          have hz : ((s[k]'(by omega)).toNat : Int) = 46 := (letter_at s k (by omega)).trans (by have h5 := HL.out.point hd; rw [Ha.out] at h5; exact h5)
          have hnext := Lib.hid (show DigTo s k (k + 1) by have := hdig.out.skip Ha.out.symm; rw [Ha.out] at this; exact this)
          go_wp2
          go_round
          case rel => exact ⟨k + 1, k, by omega, by go_num, rfl, Lib.hid (dot_high (by omega)).symm, hnext.out⟩
          case measure => simp [intOf]; omega
        · obtain ⟨z, hzz, hz⟩ : ∃ z, Hid ((nums s).getD k 0 = z) ∧ ((s[k]'(by omega)).toNat : Int) = z := ⟨_, Lib.hid rfl, letter_at s k (by omega)⟩
          by_cases hlt : k < a
          · have hDn : D = (s.size : Int) - 1 := by rw [hD.out, dot_low (by omega)]
            subst hDn
            clear hD
            have hz46 : (z == 46) = false := by have := (HL.out.ahead k (by rw [Ha.out]; exact hlt)).2; rw [← (HL.out.ahead k (by rw [Ha.out]; exact hlt)).1, hzz.out] at this; simpa using this
            by_cases hd48 : z < 48
            · have hbad := Lib.hid (HL.out.bad h1 (by have h2 := Ha.out; omega) (fun h : isD _ => by rw [hzz.out] at h; have := h.1; omega))
              go_wp2 <;> (go_ret2; exact GivesRd.no hbad.out)
            · by_cases hd57 : 57 < z
              · have hbad := Lib.hid (HL.out.bad h1 (by have h2 := Ha.out; omega) (fun h : isD _ => by rw [hzz.out] at h; have := h.2; omega))
                go_wp2 <;> (go_ret2; exact GivesRd.no hbad.out)
              · have hnext := Lib.hid (show DigTo s a (k + 1) by have h5 := hdig.out.next (show isD _ by rw [hzz.out]; exact ⟨by omega, by omega⟩); rw [Ha.out] at h5; exact h5)
                go_wp2
                go_round
                case rel => exact ⟨k + 1, _, by omega, by go_num, rfl, Lib.hid ((dot_low (by omega)).symm), hnext.out⟩
                case measure => simp [intOf]; omega
          · have hDn : D = (a : Int) := by rw [hD.out, dot_high (by omega)]
            subst hDn
            clear hD
            have hDb : ((a : Int) == (s.size : Int) - 1) = false := by simp; omega
            by_cases hz4 : z = 46
            · have hbad := Lib.hid (HL.out.bad h1 (by have h2 := Ha.out; omega) (fun h : isD _ => by rw [hzz.out] at h; have := h.1; omega))
              subst hz4
              go_wp2 <;> (go_ret2; exact GivesRd.no hbad.out)
            · have hz46 : (z == 46) = false := by simpa using hz4
              clear hz4
              by_cases hd48 : z < 48
              · have hbad := Lib.hid (HL.out.bad h1 (by have h2 := Ha.out; omega) (fun h : isD _ => by rw [hzz.out] at h; have := h.1; omega))
                go_wp2 <;> (go_ret2; exact GivesRd.no hbad.out)
              · by_cases hd57 : 57 < z
                · have hbad := Lib.hid (HL.out.bad h1 (by have h2 := Ha.out; omega) (fun h : isD _ => by rw [hzz.out] at h; have := h.2; omega))
                  go_wp2 <;> (go_ret2; exact GivesRd.no hbad.out)
                · have hnext := Lib.hid (show DigTo s a (k + 1) by have h5 := hdig.out.next (show isD _ by rw [hzz.out]; exact ⟨by omega, by omega⟩); rw [Ha.out] at h5; exact h5)
                  go_wp2
                  go_round
                  case rel => exact ⟨k + 1, _, by omega, by go_num, rfl, Lib.hid ((dot_high (by omega)).symm), hnext.out⟩
                  case measure => simp [intOf]; omega
      · have hke : k = s.size - 1 := by omega
        have hki : ¬ (k : Int) < (s.size : Int) - 1 := by omega
        have hDa : D = (a : Int) := by rw [hD.out, hke]; exact dot_end HL.out Ha.out
        subst hDa
        replace hdig := Lib.hid (show DigTo s A.length (s.size - 1) by rw [← hke]; exact hdig.out)
        clear hD h1 hke
        obtain ⟨x0, hx0, e0⟩ : ∃ x, Hid ((nums s).getD 0 0 = x) ∧ ((s[0]'(by omega)).toNat : Int) = x := ⟨_, Lib.hid rfl, letter_at s 0 (by omega)⟩
        obtain ⟨x2, hx2, e2⟩ : ∃ x, Hid ((nums s).getD (s.size - 2) 0 = x) ∧ ((s[s.size - 2]'(by omega)).toNat : Int) = x := ⟨_, Lib.hid rfl, letter_at s (s.size - 2) (by omega)⟩
        obtain ⟨bh, hbh⟩ : ∃ bh, (s.size : Int) - 2 - a = bh := ⟨_, rfl⟩
        have hsz := HL.out.size
        rw [Ha.out] at hsz
        cases d with
        | false =>
          simp only [Bool.false_eq_true, if_false] at hsz
          have hda : ¬ (a : Int) < (s.size : Int) - 1 := by omega
          clear hsz
          by_cases ha0 : a = 0
          · have hbad := Lib.hid (fun g : Written A B false => (by have h1 := (HL.out.tests g).1; have h2 := Ha.out; omega : False))
            have hab : ((a : Int) == 0) = true := by simp; omega
            go_wp2 <;> (go_ret2; exact GivesRd.no hbad.out)
          · have hab : ((a : Int) == 0) = false := by simp; omega
            by_cases hz0 : x0 = 48
            · have hxb : (x0 == 48) = true := by simpa using hz0
              by_cases ha1 : 1 < a
              · have hbad := Lib.hid (fun g : Written A B false => (by have h1 := (HL.out.tests g).2.1 (hx0.out.trans hz0); have h2 := Ha.out; omega : False))
                clear hz0
                go_wp2 <;> (go_ret2; exact GivesRd.no hbad.out)
              · have hfs := Lib.hid (show (nums s).getD 0 0 = 48 → A.length = 1 by intro _; have h2 := Ha.out; omega)
                clear hz0
                have HW := Lib.hid (HL.out.good hdig.out (by have h1 := Ha.out; omega) (by have h1 := Ha.out; intro e; exact hfs.out e) (fun e => by cases e))
                by_cases h3 : 3 < a
                · have hbig := Lib.hid (HW.out.wide (by have h1 := Ha.out; omega))
                  go_wp2 <;> (go_ret2; exact GivesRd.big HW.out hbig.out)
                · go_wp2
                  go_loop [8, 9] (fun v8 v9 => ∃ k : Nat, k ≤ a ∧ v9 = .int .i64 k ∧ v8 = .int .u32 (numOf (A.take k) : Nat)) (fun _ v9 => a - (intOf v9).toNat)
                  case atStart => exact ⟨0, Nat.zero_le _, rfl, rfl⟩
                  case round =>
                    obtain ⟨k, hk, rfl, rfl⟩ := hrel
                    obtain ⟨V, hV⟩ : ∃ V, numOf (A.take k) = V := ⟨_, rfl⟩
                    have hV9 := num_room HW.out Ha.out (by omega) k hk
                    rw [hV] at hV9
                    by_cases hlt : k < a
                    · obtain ⟨z, hz, z0, z1, hst⟩ := num_step HL.out HW.out Ha.out k hlt
                      have hks : (k : Int) < (s.size : Int) := by have h8 := HL.out.size; have h9 := Ha.out; split at h8 <;> omega
                      rw [hV] at hst
                      replace hst := Lib.hid hst
                      replace hV := Lib.hid hV
                      rw [hV.out]
                      go_wp2
                      go_round
                      case rel => exact ⟨k + 1, by omega, by go_num, by rw [hst.out]; exact int_eq (by omega)⟩
                      case measure => simp [intOf]; omega
                    · obtain rfl : k = a := by omega
                      have hall : Hid (V = vv A B 0) := by unfold Hid; rw [← hV, ← Ha.out, List.take_length]; rfl
                      rw [hV]
                      clear hV
                      go_wp2
                      go_loop [8, 10] (fun v8 v10 => ∃ j : Nat, j ≤ 4 ∧ v10 = .int .i64 j ∧ v8 = .int .u32 (vv A B j : Nat)) (fun _ v10 => 4 - (intOf v10).toNat)
                      case atStart => exact ⟨0, by omega, rfl, by rw [← hall.out]⟩
                      case round =>
                        obtain ⟨j, hj, rfl, rfl⟩ := hrel
                        clear hall hV9
                        obtain ⟨U, hU⟩ : ∃ U, vv A B j = U := ⟨_, rfl⟩
                        have hU9 := vv_room HL.out HW.out Ha.out (by omega) j hj
                        rw [hU] at hU9
                        by_cases h4 : j < 4
                        · have hU8 := vv_less HL.out HW.out Ha.out (by omega) j h4
                          rw [hU] at hU8
                          have hst := vv_step A B j
                          rw [hU] at hst
                          by_cases hb : j < B.length
                          · obtain ⟨z, hz, z0, z1, hdB⟩ := behind_step HL.out HW.out Ha.out j hb
                            rw [hdB] at hst
                            have hin := behind_in HL.out Ha.out j hb
                            replace hst := Lib.hid hst
                            replace hU := Lib.hid hU
                            rw [hU.out]
                            go_wp2
                            all_goals
                              go_round
                              case rel => exact ⟨j + 1, by omega, by go_num, by rw [hst.out]; exact int_eq (by omega)⟩
                              case measure => simp [intOf]; omega
                          · have hout := behind_out HL.out Ha.out j hb
                            rw [dB_none hb] at hst
                            replace hst := Lib.hid hst
                            replace hU := Lib.hid hU
                            rw [hU.out]
                            go_wp2
                            all_goals
                              go_round
                              case rel => exact ⟨j + 1, by omega, by go_num, by rw [hst.out]; exact int_eq (by omega)⟩
                              case measure => simp [intOf]; omega
                        · obtain rfl : j = 4 := by omega
                          rw [vv_four] at hU
                          rw [show vv A B 4 = U by rw [vv_four]; exact hU]
                          by_cases hp : 1000000 < U
                          · have hfin : Hid (1000000 < parts A B) := by unfold Hid; rw [hU]; exact hp
                            replace hU := Lib.hid hU
                            have hpi : (1000000 : Int) < U := by omega
                            go_wp2
                            go_ret2
                            exact GivesRd.big HW.out hfin.out
                          · have hfin : Hid (parts A B ≤ 1000000) := by unfold Hid; rw [hU]; omega
                            replace hU := Lib.hid hU
                            have hpi : (U : Int) ≤ 1000000 := by omega
                            clear hp
                            go_wp2
                            go_ret2
                            exact GivesRd.fine HW.out hfin.out (by rw [hU.out])
            · have hxb : (x0 == 48) = false := by simpa using hz0
              have hfs := Lib.hid (show (nums s).getD 0 0 = 48 → A.length = 1 from fun e => (hz0 (hx0.out.symm.trans e)).elim)
              clear hz0
              have HW := Lib.hid (HL.out.good hdig.out (by have h1 := Ha.out; omega) (by have h1 := Ha.out; intro e; exact hfs.out e) (fun e => by cases e))
              by_cases h3 : 3 < a
              · have hbig := Lib.hid (HW.out.wide (by have h1 := Ha.out; omega))
                go_wp2 <;> (go_ret2; exact GivesRd.big HW.out hbig.out)
              · go_wp2
                go_loop [8, 9] (fun v8 v9 => ∃ k : Nat, k ≤ a ∧ v9 = .int .i64 k ∧ v8 = .int .u32 (numOf (A.take k) : Nat)) (fun _ v9 => a - (intOf v9).toNat)
                case atStart => exact ⟨0, Nat.zero_le _, rfl, rfl⟩
                case round =>
                  obtain ⟨k, hk, rfl, rfl⟩ := hrel
                  obtain ⟨V, hV⟩ : ∃ V, numOf (A.take k) = V := ⟨_, rfl⟩
                  have hV9 := num_room HW.out Ha.out (by omega) k hk
                  rw [hV] at hV9
                  by_cases hlt : k < a
                  · obtain ⟨z, hz, z0, z1, hst⟩ := num_step HL.out HW.out Ha.out k hlt
                    have hks : (k : Int) < (s.size : Int) := by have h8 := HL.out.size; have h9 := Ha.out; split at h8 <;> omega
                    rw [hV] at hst
                    replace hst := Lib.hid hst
                    replace hV := Lib.hid hV
                    rw [hV.out]
                    go_wp2
                    go_round
                    case rel => exact ⟨k + 1, by omega, by go_num, by rw [hst.out]; exact int_eq (by omega)⟩
                    case measure => simp [intOf]; omega
                  · obtain rfl : k = a := by omega
                    have hall : Hid (V = vv A B 0) := by unfold Hid; rw [← hV, ← Ha.out, List.take_length]; rfl
                    rw [hV]
                    clear hV
                    go_wp2
                    go_loop [8, 10] (fun v8 v10 => ∃ j : Nat, j ≤ 4 ∧ v10 = .int .i64 j ∧ v8 = .int .u32 (vv A B j : Nat)) (fun _ v10 => 4 - (intOf v10).toNat)
                    case atStart => exact ⟨0, by omega, rfl, by rw [← hall.out]⟩
                    case round =>
                      obtain ⟨j, hj, rfl, rfl⟩ := hrel
                      clear hall hV9
                      obtain ⟨U, hU⟩ : ∃ U, vv A B j = U := ⟨_, rfl⟩
                      have hU9 := vv_room HL.out HW.out Ha.out (by omega) j hj
                      rw [hU] at hU9
                      by_cases h4 : j < 4
                      · have hU8 := vv_less HL.out HW.out Ha.out (by omega) j h4
                        rw [hU] at hU8
                        have hst := vv_step A B j
                        rw [hU] at hst
                        by_cases hb : j < B.length
                        · obtain ⟨z, hz, z0, z1, hdB⟩ := behind_step HL.out HW.out Ha.out j hb
                          rw [hdB] at hst
                          have hin := behind_in HL.out Ha.out j hb
                          replace hst := Lib.hid hst
                          replace hU := Lib.hid hU
                          rw [hU.out]
                          go_wp2
                          all_goals
                            go_round
                            case rel => exact ⟨j + 1, by omega, by go_num, by rw [hst.out]; exact int_eq (by omega)⟩
                            case measure => simp [intOf]; omega
                        · have hout := behind_out HL.out Ha.out j hb
                          rw [dB_none hb] at hst
                          replace hst := Lib.hid hst
                          replace hU := Lib.hid hU
                          rw [hU.out]
                          go_wp2
                          all_goals
                            go_round
                            case rel => exact ⟨j + 1, by omega, by go_num, by rw [hst.out]; exact int_eq (by omega)⟩
                            case measure => simp [intOf]; omega
                      · obtain rfl : j = 4 := by omega
                        rw [vv_four] at hU
                        rw [show vv A B 4 = U by rw [vv_four]; exact hU]
                        by_cases hp : 1000000 < U
                        · have hfin : Hid (1000000 < parts A B) := by unfold Hid; rw [hU]; exact hp
                          replace hU := Lib.hid hU
                          have hpi : (1000000 : Int) < U := by omega
                          go_wp2
                          go_ret2
                          exact GivesRd.big HW.out hfin.out
                        · have hfin : Hid (parts A B ≤ 1000000) := by unfold Hid; rw [hU]; omega
                          replace hU := Lib.hid hU
                          have hpi : (U : Int) ≤ 1000000 := by omega
                          clear hp
                          go_wp2
                          go_ret2
                          exact GivesRd.fine HW.out hfin.out (by rw [hU.out])
        | true =>
          simp only [if_true] at hsz
          have hda : (a : Int) < (s.size : Int) - 1 := by omega
          have hbl : Hid (bh = (B.length : Int)) := by unfold Hid; omega
          clear hsz
          by_cases hb1 : bh < 1
          · have hbad := Lib.hid (fun g : Written A B true => (by have h1 := ((HL.out.tests g).2.2 rfl).1; have h2 := hbl.out; omega : False))
            go_wp2 <;> (go_ret2; exact GivesRd.no hbad.out)
          · by_cases hb4 : 4 < bh
            · have hbad := Lib.hid (fun g : Written A B true => (by have h1 := ((HL.out.tests g).2.2 rfl).2.1; have h2 := hbl.out; omega : False))
              go_wp2 <;> (go_ret2; exact GivesRd.no hbad.out)
            · by_cases hb8 : x2 = 48
              · have hbad := Lib.hid (fun g : Written A B true => ((HL.out.tests g).2.2 rfl).2.2 (hx2.out.trans hb8))
                have hxb2 : (x2 == 48) = true := by simpa using hb8
                clear hb8
                go_wp2 <;> (go_ret2; exact GivesRd.no hbad.out)
              · have hfr := Lib.hid (show 1 ≤ B.length ∧ B.length ≤ 4 ∧ (nums s).getD (s.size - 2) 0 ≠ 48 from ⟨by have h2 := hbl.out; omega, by have h2 := hbl.out; omega, fun e => hb8 (hx2.out.symm.trans e)⟩)
                have hxb2 : (x2 == 48) = false := by simpa using hb8
                clear hb8
                by_cases ha0 : a = 0
                · have hbad := Lib.hid (fun g : Written A B true => (by have h1 := (HL.out.tests g).1; have h2 := Ha.out; omega : False))
                  have hab : ((a : Int) == 0) = true := by simp; omega
                  go_wp2 <;> (go_ret2; exact GivesRd.no hbad.out)
                · have hab : ((a : Int) == 0) = false := by simp; omega
                  by_cases hz0 : x0 = 48
                  · have hxb : (x0 == 48) = true := by simpa using hz0
                    by_cases ha1 : 1 < a
                    · have hbad := Lib.hid (fun g : Written A B true => (by have h1 := (HL.out.tests g).2.1 (hx0.out.trans hz0); have h2 := Ha.out; omega : False))
                      clear hz0
                      go_wp2 <;> (go_ret2; exact GivesRd.no hbad.out)
                    · have hfs := Lib.hid (show (nums s).getD 0 0 = 48 → A.length = 1 by intro _; have h2 := Ha.out; omega)
                      clear hz0
                      have HW := Lib.hid (HL.out.good hdig.out (by have h1 := Ha.out; omega) (by have h1 := Ha.out; intro e; exact hfs.out e) (fun _ => hfr.out))
                      by_cases h3 : 3 < a
                      · have hbig := Lib.hid (HW.out.wide (by have h1 := Ha.out; omega))
                        go_wp2 <;> (go_ret2; exact GivesRd.big HW.out hbig.out)
                      · go_wp2
                        go_loop [8, 9] (fun v8 v9 => ∃ k : Nat, k ≤ a ∧ v9 = .int .i64 k ∧ v8 = .int .u32 (numOf (A.take k) : Nat)) (fun _ v9 => a - (intOf v9).toNat)
                        case atStart => exact ⟨0, Nat.zero_le _, rfl, rfl⟩
                        case round =>
                          obtain ⟨k, hk, rfl, rfl⟩ := hrel
                          obtain ⟨V, hV⟩ : ∃ V, numOf (A.take k) = V := ⟨_, rfl⟩
                          have hV9 := num_room HW.out Ha.out (by omega) k hk
                          rw [hV] at hV9
                          by_cases hlt : k < a
                          · obtain ⟨z, hz, z0, z1, hst⟩ := num_step HL.out HW.out Ha.out k hlt
                            have hks : (k : Int) < (s.size : Int) := by have h8 := HL.out.size; have h9 := Ha.out; split at h8 <;> omega
                            rw [hV] at hst
                            replace hst := Lib.hid hst
                            replace hV := Lib.hid hV
                            rw [hV.out]
                            go_wp2
                            go_round
                            case rel => exact ⟨k + 1, by omega, by go_num, by rw [hst.out]; exact int_eq (by omega)⟩
                            case measure => simp [intOf]; omega
                          · obtain rfl : k = a := by omega
                            have hall : Hid (V = vv A B 0) := by unfold Hid; rw [← hV, ← Ha.out, List.take_length]; rfl
                            rw [hV]
                            clear hV
                            go_wp2
                            go_loop [8, 10] (fun v8 v10 => ∃ j : Nat, j ≤ 4 ∧ v10 = .int .i64 j ∧ v8 = .int .u32 (vv A B j : Nat)) (fun _ v10 => 4 - (intOf v10).toNat)
                            case atStart => exact ⟨0, by omega, rfl, by rw [← hall.out]⟩
                            case round =>
                              obtain ⟨j, hj, rfl, rfl⟩ := hrel
                              clear hall hV9
                              obtain ⟨U, hU⟩ : ∃ U, vv A B j = U := ⟨_, rfl⟩
                              have hU9 := vv_room HL.out HW.out Ha.out (by omega) j hj
                              rw [hU] at hU9
                              by_cases h4 : j < 4
                              · have hU8 := vv_less HL.out HW.out Ha.out (by omega) j h4
                                rw [hU] at hU8
                                have hst := vv_step A B j
                                rw [hU] at hst
                                by_cases hb : j < B.length
                                · obtain ⟨z, hz, z0, z1, hdB⟩ := behind_step HL.out HW.out Ha.out j hb
                                  rw [hdB] at hst
                                  have hin := behind_in HL.out Ha.out j hb
                                  replace hst := Lib.hid hst
                                  replace hU := Lib.hid hU
                                  rw [hU.out]
                                  go_wp2
                                  all_goals
                                    go_round
                                    case rel => exact ⟨j + 1, by omega, by go_num, by rw [hst.out]; exact int_eq (by omega)⟩
                                    case measure => simp [intOf]; omega
                                · have hout := behind_out HL.out Ha.out j hb
                                  rw [dB_none hb] at hst
                                  replace hst := Lib.hid hst
                                  replace hU := Lib.hid hU
                                  rw [hU.out]
                                  go_wp2
                                  all_goals
                                    go_round
                                    case rel => exact ⟨j + 1, by omega, by go_num, by rw [hst.out]; exact int_eq (by omega)⟩
                                    case measure => simp [intOf]; omega
                              · obtain rfl : j = 4 := by omega
                                rw [vv_four] at hU
                                rw [show vv A B 4 = U by rw [vv_four]; exact hU]
                                by_cases hp : 1000000 < U
                                · have hfin : Hid (1000000 < parts A B) := by unfold Hid; rw [hU]; exact hp
                                  replace hU := Lib.hid hU
                                  have hpi : (1000000 : Int) < U := by omega
                                  go_wp2
                                  go_ret2
                                  exact GivesRd.big HW.out hfin.out
                                · have hfin : Hid (parts A B ≤ 1000000) := by unfold Hid; rw [hU]; omega
                                  replace hU := Lib.hid hU
                                  have hpi : (U : Int) ≤ 1000000 := by omega
                                  clear hp
                                  go_wp2
                                  go_ret2
                                  exact GivesRd.fine HW.out hfin.out (by rw [hU.out])
                  · have hxb : (x0 == 48) = false := by simpa using hz0
                    have hfs := Lib.hid (show (nums s).getD 0 0 = 48 → A.length = 1 from fun e => (hz0 (hx0.out.symm.trans e)).elim)
                    clear hz0
                    have HW := Lib.hid (HL.out.good hdig.out (by have h1 := Ha.out; omega) (by have h1 := Ha.out; intro e; exact hfs.out e) (fun _ => hfr.out))
                    by_cases h3 : 3 < a
                    · have hbig := Lib.hid (HW.out.wide (by have h1 := Ha.out; omega))
                      go_wp2 <;> (go_ret2; exact GivesRd.big HW.out hbig.out)
                    · go_wp2
                      go_loop [8, 9] (fun v8 v9 => ∃ k : Nat, k ≤ a ∧ v9 = .int .i64 k ∧ v8 = .int .u32 (numOf (A.take k) : Nat)) (fun _ v9 => a - (intOf v9).toNat)
                      case atStart => exact ⟨0, Nat.zero_le _, rfl, rfl⟩
                      case round =>
                        obtain ⟨k, hk, rfl, rfl⟩ := hrel
                        obtain ⟨V, hV⟩ : ∃ V, numOf (A.take k) = V := ⟨_, rfl⟩
                        have hV9 := num_room HW.out Ha.out (by omega) k hk
                        rw [hV] at hV9
                        by_cases hlt : k < a
                        · obtain ⟨z, hz, z0, z1, hst⟩ := num_step HL.out HW.out Ha.out k hlt
                          have hks : (k : Int) < (s.size : Int) := by have h8 := HL.out.size; have h9 := Ha.out; split at h8 <;> omega
                          rw [hV] at hst
                          replace hst := Lib.hid hst
                          replace hV := Lib.hid hV
                          rw [hV.out]
                          go_wp2
                          go_round
                          case rel => exact ⟨k + 1, by omega, by go_num, by rw [hst.out]; exact int_eq (by omega)⟩
                          case measure => simp [intOf]; omega
                        · obtain rfl : k = a := by omega
                          have hall : Hid (V = vv A B 0) := by unfold Hid; rw [← hV, ← Ha.out, List.take_length]; rfl
                          rw [hV]
                          clear hV
                          go_wp2
                          go_loop [8, 10] (fun v8 v10 => ∃ j : Nat, j ≤ 4 ∧ v10 = .int .i64 j ∧ v8 = .int .u32 (vv A B j : Nat)) (fun _ v10 => 4 - (intOf v10).toNat)
                          case atStart => exact ⟨0, by omega, rfl, by rw [← hall.out]⟩
                          case round =>
                            obtain ⟨j, hj, rfl, rfl⟩ := hrel
                            clear hall hV9
                            obtain ⟨U, hU⟩ : ∃ U, vv A B j = U := ⟨_, rfl⟩
                            have hU9 := vv_room HL.out HW.out Ha.out (by omega) j hj
                            rw [hU] at hU9
                            by_cases h4 : j < 4
                            · have hU8 := vv_less HL.out HW.out Ha.out (by omega) j h4
                              rw [hU] at hU8
                              have hst := vv_step A B j
                              rw [hU] at hst
                              by_cases hb : j < B.length
                              · obtain ⟨z, hz, z0, z1, hdB⟩ := behind_step HL.out HW.out Ha.out j hb
                                rw [hdB] at hst
                                have hin := behind_in HL.out Ha.out j hb
                                replace hst := Lib.hid hst
                                replace hU := Lib.hid hU
                                rw [hU.out]
                                go_wp2
                                all_goals
                                  go_round
                                  case rel => exact ⟨j + 1, by omega, by go_num, by rw [hst.out]; exact int_eq (by omega)⟩
                                  case measure => simp [intOf]; omega
                              · have hout := behind_out HL.out Ha.out j hb
                                rw [dB_none hb] at hst
                                replace hst := Lib.hid hst
                                replace hU := Lib.hid hU
                                rw [hU.out]
                                go_wp2
                                all_goals
                                  go_round
                                  case rel => exact ⟨j + 1, by omega, by go_num, by rw [hst.out]; exact int_eq (by omega)⟩
                                  case measure => simp [intOf]; omega
                            · obtain rfl : j = 4 := by omega
                              rw [vv_four] at hU
                              rw [show vv A B 4 = U by rw [vv_four]; exact hU]
                              by_cases hp : 1000000 < U
                              · have hfin : Hid (1000000 < parts A B) := by unfold Hid; rw [hU]; exact hp
                                replace hU := Lib.hid hU
                                have hpi : (1000000 : Int) < U := by omega
                                go_wp2
                                go_ret2
                                exact GivesRd.big HW.out hfin.out
                              · have hfin : Hid (parts A B ≤ 1000000) := by unfold Hid; rw [hU]; omega
                                replace hU := Lib.hid hU
                                have hpi : (U : Int) ≤ 1000000 := by omega
                                clear hp
                                go_wp2
                                go_ret2
                                exact GivesRd.fine HW.out hfin.out (by rw [hU.out])

end Go.Proofs.YtfdpiiahclglcaaDoor
