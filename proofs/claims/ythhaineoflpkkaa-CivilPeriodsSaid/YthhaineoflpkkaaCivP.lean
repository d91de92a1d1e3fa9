/-
  The document's own calendar, walked: Period.
-/
import Derived.Test.YthhaineoflpkkaaCivT
namespace Go.Proofs.Ythhaineoflpkkaa
open Go.RowKit

/-- The first month of so many months' period, and its days. -/
def qmI (size m : Int) : Int := size * ((m - 1) / size) + 1
def dsum (y q : Int) : Nat → Int
  | 0 => 0
  | k + 1 => dsum y q k + daysI y (q + (k : Int))
theorem dsum_bd (y q : Int) (k : Nat) : 0 ≤ dsum y q k ∧ dsum y q k ≤ 31 * (k : Int) := by
  induction k with
  | zero => simp [dsum]
  | succ k ih => have := daysI_bd y (q + (k : Int)); simp only [dsum]; omega
theorem RightD.tick_bd {y m d : Int} (h : RightD y m d) : 0 ≤ tickI y m d ∧ tickI y m d ≤ 253402214400 := by
  obtain ⟨h1, h2⟩ := dayI_room h
  have h3 := dby_mono ((y - 1970).toNat + 1) (8030 - ((y - 1970).toNat + 1))
  have := h.y0; have := h.y1
  rw [show (y - 1970).toNat + 1 + (8030 - ((y - 1970).toNat + 1)) = 8030 by omega, dby_all] at h3
  have h4 := dby_bd (y - 1970).toNat
  unfold tickI
  omega
theorem RightD.first {y m d : Int} (h : RightD y m d) {q : Int} (q0 : 1 ≤ q) (q1 : q ≤ 12) : RightD y q 1 := ⟨h.y0, h.y1, q0, q1, by decide, by have := daysI_in y q0 q1; omega⟩
/-- What Period hands back. -/
def GivesPeriod (t : Int) (size : Nat) (w : World) (e : Ending) (w' : World) : Prop := ∃ y m d : Int, RightD y m d ∧ tickI y m d = t / 86400 * 86400 ∧
  e = .returned (.tuple #[.int .i64 (tickI y (qmI size m) 1), .int .i64 (tickI y (qmI size m) 1 + 86400 * dsum y (qmI size m) size)]) ∧ Below w.heap.size w w'

set_option maxRecDepth 100000 in
set_option maxHeartbeats 4000000 in
theorem rperiod_any (t : Int) (size : Nat) (w : World) (t0 : 0 ≤ t) (t1 : t ≤ 253402300799) (hs : size = 1 ∨ size = 3) :
    Calls Try.prog 19 #[.int .i64 t, .int .i64 size] w (GivesPeriod t size w) := by
  have z0 : 1 ≤ (size : Int) := by omega
  have z1 : (size : Int) ≤ 3 := by omega
  have HS := Lib.hid hs
  clear hs
  go_enter Try.func19, Try.ntmps19
  go_wp2_with (go_at_call 9; (with_reducible refine (rat_any t _ t0 t1).mono ?_); rintro e w1 ⟨y, m, d, rfl, hD, ht, g1⟩; have HD := Lib.hid hD; have HT := Lib.hid ht; clear hD ht)
  have M := Var3.fresh w1 (.int .i64 y) (.int .i64 m) (.int .i64 d) 24 _ rfl
  have DD : Below w.heap.size w (w1.alloc (.cells #[.int .i64 y, .int .i64 m, .int .i64 d] 24)) := below_more g1 _
  generalize hW : w1.alloc (.cells #[.int .i64 y, .int .i64 m, .int .i64 d] 24) = W0 at M DD ⊢
  clear hW
  obtain ⟨p, hp⟩ : ∃ p, w1.heap.size = p := ⟨_, rfl⟩
  rw [hp] at M ⊢
  clear hp g1
  have KM := Lib.hid M
  obtain ⟨c0, c1, c2, _, _, _, _⟩ := M
  have m0 := HD.out.m0
  have m1 := HD.out.m1
  go_loop [7] (fun v7 => ∃ i : Nat, (size : Int) * i + 1 ≤ m ∧ v7 = .int .i64 ((size : Int) * i + 1)) (fun v7 => 100 - (intOf v7).toNat)
  case atStart => exact ⟨0, by omega, rfl⟩
  case round =>
    obtain ⟨i, hi, rfl⟩ := hrel
    obtain ⟨x, hx⟩ : ∃ x, (size : Int) * i + 1 = x := ⟨_, rfl⟩
    rw [hx] at hi
    have x0 : 1 ≤ x := by rw [← hx]; have : 0 ≤ (size : Int) * i := Int.mul_nonneg (by omega) (by omega); omega
    have HX := Lib.hid hx
    rw [hx]
    clear hx
    by_cases hle : x + (size : Int) ≤ m
    · go_wp2
      go_round
      case rel => exact ⟨i + 1, by rw [Int.natCast_succ, Int.mul_add]; have := HX.out; omega, congrArg (Value.int IntKind.i64) (by rw [Int.natCast_succ, Int.mul_add]; have := HX.out; omega)⟩
      case measure => simp [intOf]; omega
    · have hq : Hid (x = qmI size m) := by
        have h5 := HX.out
        unfold Hid qmI
        rcases HS.out with rfl | rfl
        · simp at *; omega
        · simp at *; omega
      have x1 : x ≤ 12 := by omega
      have HF := Lib.hid (HD.out.first x0 x1)
      have hgt : ¬ x + (size : Int) ≤ m := hle
      obtain ⟨T, hT⟩ : ∃ T, tickI y x 1 = T := ⟨_, rfl⟩
      have HTT := Lib.hid hT
      have tb := HF.out.tick_bd
      rw [hT] at tb
      obtain ⟨tb0, tb1⟩ := tb
      have HK := Lib.hid (fun w => rtick_any y x 1 w HF.out)
      rw [hT] at HK
      clear hT hle
      go_wp2_with (go_at_call 16; (with_reducible refine (HK.out _).mono ?_); rintro e w2 ⟨rfl, g⟩; have KM2 := Lib.hid (KM.out.after g); have DD2 := below_step DD g; clear g)
      go_loopw [9, 10] (fun v9 v10 wr => ∃ k : Nat, k ≤ size ∧ v10 = .int .i64 k ∧ v9 = .int .i64 (T + 86400 * dsum y x k) ∧ Below w2.heap.size w2 wr) (fun _ v10 _ => 100 - (intOf v10).toNat)
      case atStart => exact ⟨0, Nat.zero_le _, rfl, by rw [show dsum y x 0 = 0 from rfl]; simp, Below.refl _ _⟩
      case round =>
        obtain ⟨k, hk, rfl, rfl, hbel⟩ := hrel
        have hsb := dsum_bd y x k
        obtain ⟨S, hS⟩ : ∃ S, dsum y x k = S := ⟨_, rfl⟩
        rw [hS] at hsb
        obtain ⟨s0, s1⟩ := hsb
        have s2 : S ≤ 100 := by omega
        clear s1
        have KM3 := Lib.hid (KM2.out.after hbel)
        have c0 := KM3.out.c0
        have c1 := KM3.out.c1
        by_cases hlt : k < size
        · have hlti : (k : Int) < (size : Int) := by omega
          have hdb := daysI_bd y (x + (k : Int))
          obtain ⟨z, hz⟩ : ∃ z, daysI y (x + (k : Int)) = z := ⟨_, rfl⟩
          have HZ := Lib.hid (fun w => rdays_any y (x + (k : Int)) w)
          rw [hz] at HZ hdb
          obtain ⟨zz0, zz1⟩ := hdb
          have hst : Hid (dsum y x (k + 1) = S + z) := by unfold Hid; rw [dsum, hS, hz]
          replace hS := Lib.hid hS
          clear hz
          rw [hS.out]
          go_wp2_with (go_at_call 14; (with_reducible refine (HZ.out _).mono ?_); rintro e w3 ⟨rfl, g⟩; have hbel := below_step hbel g; clear g)
          go_roundw
          case rel => exact ⟨k + 1, by omega, by go_num, by rw [hst.out]; exact congrArg (Value.int IntKind.i64) (by omega), hbel⟩
          case measure => simp [intOf]; omega
        · have hke : Hid (k = size) := by unfold Hid; omega
          have hlti : ¬ (k : Int) < (size : Int) := by omega
          have HSS := Lib.hid hS
          rw [hS]
          clear hS
          go_wp2
          go_ret2
          exact ⟨y, m, d, HD.out, HT.out, by rw [← hq.out, HTT.out, ← hke.out, HSS.out]; rfl, below_step DD2 hbel⟩

end Go.Proofs.Ythhaineoflpkkaa
