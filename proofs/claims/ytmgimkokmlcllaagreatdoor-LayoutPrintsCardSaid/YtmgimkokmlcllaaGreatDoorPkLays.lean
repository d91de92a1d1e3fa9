/-
  LayoutTells, walked.
-/
import Derived.Test.YtmgimkokmlcllaaGreatDoorPkLayt
import Derived.Test.YtmgimkokmlcllaaGreatDoorPkLayd
import Derived.Test.YtmgimkokmlcllaaGreatDoorPkLayn
import Derived.Test.YtmgimkokmlcllaaGreatDoorPkLayp
import Derived.Test.YtmgimkokmlcllaaGreatDoorPkLayx
import Derived.Test.YtmgimkokmlcllaaGreatDoorPkTrej
import Derived.Test.YtmgimkokmlcllaaGreatDoorPkItemsOpen
import Derived.Test.YtmgimkokmlcllaaGreatDoorPkLayz
import Derived.Test.YtmgimkokmlcllaaGreatDoorPkTrev
namespace Go.Proofs.YtmgimkokmlcllaaGreatDoor
open Go.RowKit Go.Shelf

theorem LightL.all : ∀ {L : List It}, LightL L → AllW L
  | [], _ => by simp [AllW]
  | .mk n w k kids a b :: L, h => by
    rw [LightL] at h
    rw [AllW]
    have h1 : w.length ≤ 20 := h.1.2.1
    exact ⟨by omega, LightL.all h.2.1, LightL.all h.2.2⟩
def Thin (L : List It) : Prop := cntL L ≤ 400 ∧ depL L ≤ 40 ∧ SlimL L

end Go.Proofs.YtmgimkokmlcllaaGreatDoor

/-
  LayoutPrints, walked.
-/
namespace Go.Proofs.YtmgimkokmlcllaaGreatDoor
open Go.RowKit Go.Shelf

set_option maxRecDepth 100000 in
set_option maxHeartbeats 16000000 in
theorem layprints_walk (v0 : Value) (L : List It) (w : World) (env : EnvQ w) (h1 : TreeIs w v0 L) (n1 : NumsR L) :
    Calls Tryz.prog 3 #[v0] w fun e w' => e = .returned (.bool true) ∧ Below w.heap.size w w' := by
  obtain ⟨D1, h1⟩ := h1
  have HA := Lib.hid (lay_awake w env)
  have HT1 : Hid (∀ W, Below w.heap.size w W → ItemsIs D1 W (fun b => b < w.heap.size) v0 L) := Lib.hid (fun W hW => h1.belowS (fun b h => h) hW)
  have HIN : Hid (∀ W, Below w.heap.size w W → ∀ b, b < w.heap.size → b < W.heap.size) := Lib.hid (fun W hW b hb => Nat.lt_of_lt_of_le hb hW.size)
  have HV1 : Hid (∀ W, Below w.heap.size w W → Calls Tryz.prog 7 #[v0] W fun e w' => ∃ q : Bool, e = .returned (.bool q) ∧ (q = false → Thin L) ∧ Below W.heap.size W w') := Lib.hid (fun W hW => sheavy_any D1 _ v0 L W (HT1.out W hW) (HIN.out W hW))
  have HN1 := Lib.hid n1
  obtain ⟨a1, c1, hv0⟩ := h1.size
  obtain ⟨l1, hl1⟩ : ∃ l, L.length = l := ⟨_, rfl⟩
  rw [hl1] at hv0
  subst hv0
  have HE : Hid (∀ W, Below w.heap.size w W → EnvQ W) := Lib.hid (fun W hW => env.step hW)
  clear env h1 n1 hl1
  go_enter Tryz.func3, Tryz.ntmps3
  go_wp2_with (first
    | (go_at_call 6; (with_reducible refine (HA.out).mono ?_); rintro e w1 ⟨rfl, g1⟩; have G1 := Lib.hid g1; clear g1)
    | (go_at_call 7; (with_reducible refine (HV1.out _ G1.out).mono ?_); rintro e w2 ⟨q, rfl, hq, g2⟩; have G2 := Lib.hid (below_step G1.out g2); clear g2; cases q))
  · obtain ⟨x1, x2, x3⟩ := hq (by trivial)
    have z1 := x3.light HN1.out
    clear hq
    have HRP : Hid (∀ W, Below w.heap.size w W → Calls Tryz.prog 9 #[.slice a1 l1 c1] W (GivesQ (RightL L) W)) := Lib.hid (fun W hW => lright_any D1 _ _ L W (HE.out W hW).lo (HT1.out W hW) (HIN.out W hW) (by omega) (by omega) z1)
    have HRR : Hid (∀ W, Below w.heap.size w W → Calls Tryz.prog 10 #[.slice a1 l1 c1] W (GivesQ (RightL L) W)) := Lib.hid (fun W hW => stright_any D1 _ _ L W (HT1.out W hW) (HIN.out W hW) (by omega) (by omega) z1)
    by_cases hR : RightL L
    · have HR := Lib.hid hR
      obtain ⟨t, ht⟩ : ∃ t, strOfNums (prtL 1 L) = t := ⟨_, rfl⟩
      have hnt : nums t = prtL 1 L := by rw [← ht]; exact nums_strOfNums _ (prtL_bytes L 1 hR.each HN1.out)
      have HPP : Hid (∀ W, Below w.heap.size w W → Calls Tryz.prog 8 #[.slice a1 l1 c1] W fun e w' => e = .returned (.tuple #[.string t, .int .i64 0]) ∧ Below W.heap.size W w') := Lib.hid (fun W hW => by
        rw [← ht]
        exact lprint_yes D1 _ _ L W (HE.out W hW) (HT1.out W hW) (HIN.out W hW) (by omega) (by omega) z1 HN1.out hR)
      have HPR : Hid (∀ W, Below w.heap.size w W → Calls Tryz.prog 11 #[.slice a1 l1 c1, .string ⟨#[]⟩] W fun e w' => e = .returned (.string t) ∧ Below W.heap.size W w') := Lib.hid (fun W hW =>
        (sprint_tree D1 _ _ L W 1 ⟨#[]⟩ (HT1.out W hW) (HIN.out W hW) hR.each HN1.out z1 hR.many (Nat.le_refl _) (by omega) rfl).mono (by
          rintro e w' ⟨r, rfl, hr, hb⟩
          have : r = t := by rw [← strOfNums_nums r, hr, ht]
          subst this
          exact ⟨rfl, hb⟩))
      by_cases hsz : t.size ≤ 40000
      · have k2 : ¬ (40000 : Int) < (t.size : Int) := by omega
        obtain ⟨M, hM, hMI⟩ := prt_treT hR HN1.out hnt
        have hRM : RightL M := right_alike hMI hR
        have hrM : treR t = .ok M := by
          have e : treR t = treF (runesOf (nums t)) := if_pos hsz
          rw [e]; exact hM
        have HP : Hid (∀ W, Below w.heap.size w W → Calls Tryz.prog 12 #[.string t] W fun e w' => ∃ v, e = .returned (.tuple #[v, .agg #[.int .i64 0, .int .i64 0, .int .i64 0]]) ∧ ItemsIs 5 w' (fun b => W.heap.size ≤ b ∧ b < w'.heap.size) v M ∧ Below W.heap.size W w') := Lib.hid (fun W hW => (parse_any t W (HE.out W hW).lo).mono (by
          rintro e w' ⟨hb, h | h⟩
          · obtain ⟨c2, a2, b2, h2, _⟩ := h
            rw [hrM] at h2; cases h2
          · obtain ⟨L2, v, h2, rfl, hi⟩ := h
            rw [hrM] at h2
            injection h2 with h2
            subst h2
            exact ⟨v, rfl, hi, hb⟩))
        have HSM : Hid (∀ W T v2, Below w.heap.size w W → ItemsIs 5 W T v2 M → (∀ b, T b → b < W.heap.size) → Calls Tryz.prog 13 #[.slice a1 l1 c1, v2] W fun e w' => e = .returned (.bool true) ∧ Below W.heap.size W w') := Lib.hid (fun W T v2 hW h2 hT =>
          (lsame_any D1 _ T 5 _ v2 L M W (HT1.out W hW) h2 (HIN.out W hW) hT (by omega) (by have := hRM.many; omega) z1.all (treF_fewW hM).all).mono (by
            rintro e w' ⟨q, rfl, hq, hb⟩
            obtain rfl : q = true := hq.mpr hMI.symm
            exact ⟨rfl, hb⟩))
        clear hR ht hnt hsz hM hMI hRM hrM x1 x2 x3 z1
        go_wp2_with (first
          | (go_at_call 8; (with_reducible refine (HPP.out _ G2.out).mono ?_); rintro e w3 ⟨rfl, g3⟩; have G3 := Lib.hid (below_step G2.out g3); clear g3)
          | (go_at_call 9; (with_reducible refine (HRP.out _ G3.out).mono ?_); rintro e w4 ⟨q, rfl, hq, g4⟩; obtain rfl : q = true := hq.mpr HR.out; have G4 := Lib.hid (below_step G3.out g4); clear g4 hq)
          | (go_at_call 10; (with_reducible refine (HRR.out _ G4.out).mono ?_); rintro e w5 ⟨q, rfl, hq, g5⟩; obtain rfl : q = true := hq.mpr HR.out; have G5 := Lib.hid (below_step G4.out g5); clear g5 hq)
          | (go_at_call 10; (with_reducible refine (HRR.out _ G5.out).mono ?_); rintro e w6 ⟨q, rfl, hq, g6⟩; obtain rfl : q = true := hq.mpr HR.out; have G6 := Lib.hid (below_step G5.out g6); clear g6 hq)
          | (go_at_call 11; (with_reducible refine (HPR.out _ G6.out).mono ?_); rintro e w7 ⟨rfl, g7⟩; have G7 := Lib.hid (below_step G6.out g7); clear g7)
          | (go_at_call 12; (with_reducible refine (HP.out _ G7.out).mono ?_); rintro e w8 ⟨v8, rfl, hi8, g8⟩; obtain ⟨a8, n8, rfl⟩ := hi8.size; have G8 := Lib.hid (below_step G7.out g8); obtain ⟨f2, U2, U3, fm2⟩ := fault_var w8 0 0 0; have hf2 := fm2.g0; have ha2 := fm2.a2; have hs2 := fm2.s3; have c0 := fm2.v2.c0; have c1' := fm2.v2.c1; have c2 := fm2.v2.c2; have q0 := fm2.v2.q0; have q1 := fm2.v2.q1; have q2 := fm2.v2.q2; have d0 := fm2.v3.c0; have d1 := fm2.v3.c1; have d2 := fm2.v3.c2; have G9 := Lib.hid (below_step G8.out fm2.bel); have HI9 := Lib.hid (ItemsIs.keep (w' := U3) hi8 (fun _ h => h) (fun b hb => fm2.bel.block b hb.2)); have HI9S : Hid (∀ b, (w7.heap.size ≤ b ∧ b < w8.heap.size) → b < U3.heap.size) := Lib.hid (fun b hb => Nat.lt_of_lt_of_le hb.2 fm2.bel.size); clear g8 fm2 hi8)
          | (go_at_call 13; (with_reducible refine (HSM.out _ _ _ G9.out HI9.out HI9S.out).mono ?_); rintro e w10 ⟨rfl, g10⟩; have G10 := Lib.hid (below_step G9.out g10); clear g10))
        go_ret
        exact ⟨rfl, G10.out⟩
      · have k2 : (40000 : Int) < (t.size : Int) := by omega
        have hrM : treR t = .error (9, 1, 1) := if_neg hsz
        have HP : Hid (∀ W, Below w.heap.size w W → Calls Tryz.prog 12 #[.string t] W fun e w' => e = .returned (.tuple #[.slice none 0 0, .agg #[.int .i64 9, .int .i64 1, .int .i64 1]]) ∧ Below W.heap.size W w') := Lib.hid (fun W hW => (parse_any t W (HE.out W hW).lo).mono (by
          rintro e w' ⟨hb, h | h⟩
          · obtain ⟨c2, a2, b2, h2, rfl⟩ := h
            rw [hrM] at h2
            injection h2 with h2
            injection h2 with h3 h4
            injection h4 with h4 h5
            subst h3 h4 h5
            exact ⟨rfl, hb⟩
          · obtain ⟨L2, v, h2, _⟩ := h
            rw [hrM] at h2; cases h2))
        clear hR ht hnt hsz hrM x1 x2 x3 z1
        go_wp2_with (first
          | (go_at_call 8; (with_reducible refine (HPP.out _ G2.out).mono ?_); rintro e w3 ⟨rfl, g3⟩; have G3 := Lib.hid (below_step G2.out g3); clear g3)
          | (go_at_call 9; (with_reducible refine (HRP.out _ G3.out).mono ?_); rintro e w4 ⟨q, rfl, hq, g4⟩; obtain rfl : q = true := hq.mpr HR.out; have G4 := Lib.hid (below_step G3.out g4); clear g4 hq)
          | (go_at_call 10; (with_reducible refine (HRR.out _ G4.out).mono ?_); rintro e w5 ⟨q, rfl, hq, g5⟩; obtain rfl : q = true := hq.mpr HR.out; have G5 := Lib.hid (below_step G4.out g5); clear g5 hq)
          | (go_at_call 10; (with_reducible refine (HRR.out _ G5.out).mono ?_); rintro e w6 ⟨q, rfl, hq, g6⟩; obtain rfl : q = true := hq.mpr HR.out; have G6 := Lib.hid (below_step G5.out g6); clear g6 hq)
          | (go_at_call 11; (with_reducible refine (HPR.out _ G6.out).mono ?_); rintro e w7 ⟨rfl, g7⟩; have G7 := Lib.hid (below_step G6.out g7); clear g7)
          | (go_at_call 12; (with_reducible refine (HP.out _ G7.out).mono ?_); rintro e w8 ⟨rfl, g8⟩; have G8 := Lib.hid (below_step G7.out g8); obtain ⟨f2, U2, U3, fm2⟩ := fault_var w8 9 1 1; have hf2 := fm2.g0; have ha2 := fm2.a2; have hs2 := fm2.s3; have c0 := fm2.v2.c0; have c1' := fm2.v2.c1; have c2 := fm2.v2.c2; have q0 := fm2.v2.q0; have q1 := fm2.v2.q1; have q2 := fm2.v2.q2; have d0 := fm2.v3.c0; have d1 := fm2.v3.c1; have d2 := fm2.v3.c2; have G9 := Lib.hid (below_step G8.out fm2.bel); clear g8 fm2))
        go_ret
        exact ⟨rfl, G9.out⟩
    · have HR := Lib.hid hR
      have HPP : Hid (∀ W, Below w.heap.size w W → Calls Tryz.prog 8 #[.slice a1 l1 c1] W fun e w' => e = .returned (.tuple #[.string ⟨#[]⟩, .int .i64 6]) ∧ Below W.heap.size W w') := Lib.hid (fun W hW => lprint_no D1 _ _ L W (HE.out W hW).lo (HT1.out W hW) (HIN.out W hW) (by omega) (by omega) z1 hR)
      clear hR x1 x2 x3 z1
      go_wp2_with (first
        | (go_at_call 8; (with_reducible refine (HPP.out _ G2.out).mono ?_); rintro e w3 ⟨rfl, g3⟩; have G3 := Lib.hid (below_step G2.out g3); clear g3)
        | (go_at_call 9; (with_reducible refine (HRP.out _ G3.out).mono ?_); rintro e w4 ⟨q, rfl, hq, g4⟩; obtain rfl : q = false := (by cases q with | false => rfl | true => exact (HR.out (hq.mp rfl)).elim); have G4 := Lib.hid (below_step G3.out g4); clear g4 hq)
        | (go_at_call 10; (with_reducible refine (HRR.out _ G4.out).mono ?_); rintro e w5 ⟨q, rfl, hq, g5⟩; obtain rfl : q = false := (by cases q with | false => rfl | true => exact (HR.out (hq.mp rfl)).elim); have G5 := Lib.hid (below_step G4.out g5); clear g5 hq)
        | (go_at_call 10; (with_reducible refine (HRR.out _ G5.out).mono ?_); rintro e w6 ⟨q, rfl, hq, g6⟩; obtain rfl : q = false := (by cases q with | false => rfl | true => exact (HR.out (hq.mp rfl)).elim); have G6 := Lib.hid (below_step G5.out g6); clear g6 hq))
      go_ret
      exact ⟨rfl, G6.out⟩
  · clear hq
    go_wp2
    go_ret
    exact ⟨rfl, G2.out⟩

end Go.Proofs.YtmgimkokmlcllaaGreatDoor
