/-
  Package civil's calls, walked: Print.
-/
import Derived.Test.YthhaineoflpkkaaDoorCivF
import Derived.Test.YthhaineoflpkkaaDoorCivQ
import Derived.Test.YthhaineoflpkkaaDoorShelf
import Derived.Lib.Join
namespace Go.Proofs.YthhaineoflpkkaaDoor
open Go.RowKit

theorem itoa_any (n : Int) (w : World) (h0 : 0 ≤ n) (h1 : n ≤ 9223372036854775807) (hT : Tab w) :
    Calls Tryd.prog 13 #[.int .i64 n] w fun e w' => e = .returned (.string (strOfNums (dec n.toNat))) ∧ Below w.heap.size w w' := by
  refine (Tryd.strconv_Itoa n (by omega) h1 w hT.here).mono ?_
  rintro e w' ⟨rfl, k, os, rfl⟩
  refine ⟨?_, Lib.below_grow _ w (Nat.le_refl _) k os⟩
  obtain ⟨N, rfl⟩ : ∃ N : Nat, n = N := ⟨n.toNat, by omega⟩
  rw [Lib.itoa_nonneg, Int.toNat_natCast, dec_digits]
theorem rep_any (x : Int) (c : Nat) (w : World) (hx : x = (c : Int)) (hc : c ≤ 4) :
    Calls Tryd.prog 14 #[.string ⟨#[48]⟩, .int .i64 x] w fun e w' => e = .returned (.string (strOfNums (List.replicate c 48))) ∧ Below w.heap.size w w' := by
  subst hx
  refine (Tryd.strings_Repeat ⟨#[48]⟩ c w (by omega) (by show 1 * c ≤ _; omega)).mono ?_
  rintro e w' ⟨rfl, g⟩
  refine ⟨?_, g⟩
  have : c = 0 ∨ c = 1 ∨ c = 2 ∨ c = 3 ∨ c = 4 := by omega
  rcases this with rfl | rfl | rfl | rfl | rfl <;> rfl
theorem join_any (b : Nat) (A B C : ByteArray) (w : World) (hA : w.cell? ⟨b, 0, none⟩ = some (.string A)) (hB : w.cell? ⟨b, 1, none⟩ = some (.string B)) (hC : w.cell? ⟨b, 2, none⟩ = some (.string C)) (hb : b < w.heap.size)
    (sA : A.size = 4) (sB : B.size = 2) (sC : C.size = 2) :
    Calls Tryd.prog 15 #[.slice (some ⟨b, 0, none⟩) 3 3, .string ⟨#[45]⟩] w fun e w' => e = .returned (.string (A ++ ⟨#[45]⟩ ++ B ++ ⟨#[45]⟩ ++ C)) ∧ Below w.heap.size w w' := by
  have hj : Lib.join ([A, B, C].map (·.data.toList)) (⟨#[45]⟩ : ByteArray).data.toList = A.data.toList ++ [45] ++ B.data.toList ++ [45] ++ C.data.toList := by
    simp [Lib.join_cons, Lib.joinTail]
  refine (Tryd.strings_Join b 0 3 [A, B, C] ⟨#[45]⟩ w (fun j x hx => ?_) hb (by simp) (Nat.le_refl 3) ?_).mono ?_
  · match j, hx with
    | 0, hx => obtain rfl := Option.some.inj hx; exact hA
    | 1, hx => obtain rfl := Option.some.inj hx; exact hB
    | 2, hx => obtain rfl := Option.some.inj hx; exact hC
  · rw [hj]
    simp only [List.length_append, ← Lib.size_eq, sA, sB, sC]
    decide
  · rintro e w' ⟨rfl, g⟩
    refine ⟨?_, g⟩
    rw [hj]
    congr 2

theorem dec_one {n : Nat} (h : n < 10) : dec n = [48 + (n : Int)] := dec_small h
theorem dec_two {n : Nat} (h0 : 10 ≤ n) (h1 : n < 100) : dec n = twoD (n : Int) := by
  rw [dec_big (by omega), dec_small (by omega)]
  unfold twoD
  simp only [List.cons_append, List.nil_append]
  rw [show ((n / 10 : Nat) : Int) = (n : Int) / 10 by omega, show ((n % 10 : Nat) : Int) = (n : Int) % 10 by omega]
theorem dec_four {n : Nat} (h0 : 1000 ≤ n) (h1 : n < 10000) : dec n = twoD ((n : Int) / 100) ++ twoD ((n : Int) % 100) := by
  rw [dec_big (by omega), dec_big (by omega), dec_two (by omega) (by omega)]
  unfold twoD
  simp only [List.cons_append, List.nil_append]
  rw [show ((n / 10 / 10 : Nat) : Int) = (n : Int) / 100 by omega, show ((n / 10 % 10 : Nat) : Int) = (n : Int) % 100 / 10 by omega, show ((n % 10 : Nat) : Int) = (n : Int) % 100 % 10 by omega]
/-- A part's digits, and the noughts ahead of them. -/
structure Padded (p width : Int) (c : Nat) (ds : List Int) : Prop where
  c4 : c ≤ 4
  w0 : width - (dec p.toNat).length = (c : Int)
  le : (dec p.toNat).length ≤ 4
  is : List.replicate c 48 ++ dec p.toNat = ds
theorem padded_two {p : Int} (h0 : 0 ≤ p) (h1 : p ≤ 99) : ∃ c, Padded p 2 c (twoD p) := by
  obtain ⟨n, rfl⟩ : ∃ n : Nat, p = n := ⟨p.toNat, by omega⟩
  by_cases h : n < 10
  · refine ⟨1, by decide, ?_, ?_, ?_⟩ <;> rw [Int.toNat_natCast, dec_one h]
    · rfl
    · simp
    · unfold twoD
      rw [show (n : Int) / 10 = 0 by omega, show (n : Int) % 10 = n by omega]; rfl
  · refine ⟨0, by decide, ?_, ?_, ?_⟩ <;> rw [Int.toNat_natCast, dec_two (by omega) (by omega)]
    · rfl
    · simp [twoD]
    · rfl
theorem padded_four {p : Int} (h0 : 1000 ≤ p) (h1 : p ≤ 9999) : Padded p 4 0 (twoD (p / 100) ++ twoD (p % 100)) := by
  obtain ⟨n, rfl⟩ : ∃ n : Nat, p = n := ⟨p.toNat, by omega⟩
  refine ⟨by decide, ?_, ?_, ?_⟩ <;> rw [Int.toNat_natCast, dec_four (by omega) (by omega)]
  · rfl
  · simp [twoD]
  · rfl

theorem dpr_three {y m d : Int} : strOfNums (twoD (y / 100) ++ twoD (y % 100)) ++ ⟨#[45]⟩ ++ strOfNums (twoD m) ++ ⟨#[45]⟩ ++ strOfNums (twoD d) = strOfNums (dpr y m d) := by
  unfold dpr
  rw [show (⟨#[45]⟩ : ByteArray) = strOfNums [45] from rfl, strOfNums_append, strOfNums_append, strOfNums_append, strOfNums_append]

set_option maxRecDepth 100000 in
set_option maxHeartbeats 2000000 in
theorem cprint_no (y m d : Int) (w : World) (_env : Env w) (_bd : DateBd y m d) (h : ¬ RightD y m d) : Calls Tryd.prog 5 #[.agg #[.int .i64 y, .int .i64 m, .int .i64 d]] w fun e w' => e = .returned (.string ⟨#[63]⟩) ∧ Below w.heap.size w w' := by
  replace h := Lib.hid h
  have DD : Below w.heap.size w (w.alloc (.cells #[.int .i64 y, .int .i64 m, .int .i64 d] 23)) := (Below.refl _ _).alloc (Nat.le_refl _) _
  go_enter Tryd.func5, Tryd.ntmps5
  go_wp2_with (go_at_call 12; (with_reducible refine (cright_no y m d _ (_env.step DD) _bd h.out).mono ?_); rintro e w1 ⟨rfl, g⟩; have DD := below_step DD g; clear g)
  go_ret
  exact ⟨rfl, DD⟩

/-- The texts of the parts so far. -/
def TextsAt (A B C : ByteArray) (wr : World) (P : Nat) : Nat → Prop
  | 0 => Var3 wr P (.string ⟨#[]⟩) (.string ⟨#[]⟩) (.string ⟨#[]⟩)
  | 1 => Var3 wr P (.string A) (.string ⟨#[]⟩) (.string ⟨#[]⟩)
  | 2 => Var3 wr P (.string A) (.string B) (.string ⟨#[]⟩)
  | _ => Var3 wr P (.string A) (.string B) (.string C)
/-- What a round does: a part's digits with noughts ahead of them. -/
structure Part (p width : Int) (ds : List Int) (T : ByteArray) : Prop where
  ex : ∃ c, Padded p width c ds
  is : strOfNums ds = T
  p0 : 0 ≤ p
  p1 : p ≤ 9999
set_option maxRecDepth 100000 in
set_option maxHeartbeats 4000000 in
theorem cprint_yes (y m d : Int) (w : World) (env : Env w) (h : RightD y m d) : Calls Tryd.prog 5 #[.agg #[.int .i64 y, .int .i64 m, .int .i64 d]] w fun e w' => e = .returned (.string (strOfNums (dpr y m d))) ∧ Below w.heap.size w w' := by
  have DD : Below w.heap.size w (w.alloc (.cells #[.int .i64 y, .int .i64 m, .int .i64 d] 23)) := (Below.refl _ _).alloc (Nat.le_refl _) _
  have KM := Lib.hid (Var3.fresh w (.int .i64 y) (.int .i64 m) (.int .i64 d) 23 _ rfl)
  obtain ⟨A, hA⟩ : ∃ A, strOfNums (twoD (y / 100) ++ twoD (y % 100)) = A := ⟨_, rfl⟩
  obtain ⟨B, hB⟩ : ∃ B, strOfNums (twoD m) = B := ⟨_, rfl⟩
  obtain ⟨C, hC⟩ : ∃ C, strOfNums (twoD d) = C := ⟨_, rfl⟩
  have d31 : d ≤ 31 := by have := h.d1; have := daysI_bd y m; omega
  have PA := Lib.hid (show Part y 4 _ A from ⟨⟨_, padded_four (by have := h.y0; omega) h.y1⟩, hA, by have := h.y0; omega, by have := h.y1; omega⟩)
  have PB := Lib.hid (show Part m 2 _ B from ⟨padded_two (by have := h.m0; omega) (by have := h.m1; omega), hB, by have := h.m0; omega, by have := h.m1; omega⟩)
  have PC := Lib.hid (show Part d 2 _ C from ⟨padded_two (by have := h.d0; omega) (by omega), hC, by have := h.d0; omega, by omega⟩)
  have sA : Hid (A.size = 4) := by unfold Hid; rw [← hA]; rfl
  have sB : Hid (B.size = 2) := by unfold Hid; rw [← hB]; rfl
  have sC : Hid (C.size = 2) := by unfold Hid; rw [← hC]; rfl
  have hfin : Hid (A ++ ⟨#[45]⟩ ++ B ++ ⟨#[45]⟩ ++ C = strOfNums (dpr y m d)) := by unfold Hid; rw [← dpr_three, hA, hB, hC]
  replace h := Lib.hid h
  clear hA hB hC d31
  go_enter Tryd.func5, Tryd.ntmps5
  go_wp2_with (go_at_call 12; (with_reducible refine (cright_yes y m d _ (env.step DD) h.out).mono ?_); rintro e w1 ⟨rfl, g⟩; have KM := Lib.hid (KM.out.after g); obtain ⟨c0, c1, c2, _, _, _, _⟩ := KM.out; have DD := below_step DD g; clear g)
  -- PRINT
  have KT := Lib.hid (Var3.fresh w1 (.string ⟨#[]⟩) (.string ⟨#[]⟩) (.string ⟨#[]⟩) 33 _ rfl)
  have DD := below_more DD (.cells #[.string ⟨#[]⟩, .string ⟨#[]⟩, .string ⟨#[]⟩] 33)
  have hPs : w.heap.size < w1.heap.size := by assumption
  generalize w1.alloc (.cells #[.string ⟨#[]⟩, .string ⟨#[]⟩, .string ⟨#[]⟩] 33) = W0 at KT DD ⊢
  obtain ⟨P, hP⟩ : ∃ P, w1.heap.size = P := ⟨_, rfl⟩
  rw [hP] at KT hPs ⊢
  clear hP KM c0 c1 c2
  have hPle : w.heap.size ≤ P := Nat.le_of_lt hPs
  go_loopw [17] (fun v17 wr => ∃ k : Nat, k ≤ 3 ∧ v17 = .int .i64 k ∧ TextsAt A B C wr P k ∧ Below w.heap.size w wr) (fun v17 _ => 10 - (intOf v17).toNat)
  case atStart => exact ⟨0, by decide, rfl, KT.out, DD⟩
  case round =>
    obtain ⟨k, hk, rfl, hT, hbel⟩ := hrel
    have hk4 : k = 0 ∨ k = 1 ∨ k = 2 ∨ k = 3 := by omega
    clear hk
    rcases hk4 with rfl | rfl | rfl | rfl
    · rw [show ((0 : Nat) : Int) = 0 from rfl]
      have hix : ∀ W, (Instr.index 34 (.agg #[.int .i64 y, .int .i64 m, .int .i64 d]) (.int .i64 0)).run Tryd.prog W = .ok (.int .i64 y) W := fun _ => by kernel_rfl
      replace hT : Var3 wr P (.string ⟨#[]⟩) (.string ⟨#[]⟩) (.string ⟨#[]⟩) := hT
      have KT := Lib.hid hT
      obtain ⟨⟨c, hc⟩, hTT, p0, p1⟩ := PA.out
      obtain ⟨D, hD⟩ : ∃ D, strOfNums (dec (y).toNat) = D := ⟨_, rfl⟩
      obtain ⟨Z, hZ⟩ : ∃ Z, strOfNums (List.replicate c 48) = Z := ⟨_, rfl⟩
      have hcat : Hid (Z ++ D = A) := by unfold Hid; rw [← hZ, ← hD, strOfNums_append, hc.is, hTT]
      have sD : D.size ≤ 4 := by rw [← hD, strOfNums_size]; exact hc.le
      have sZ : Z.size ≤ 4 := by rw [← hZ, strOfNums_size, List.length_replicate]; exact hc.c4
      have hsub : Hid ((4 : Int) - (D.size : Int) = (c : Int)) := by unfold Hid; rw [← hD, strOfNums_size]; exact hc.w0
      have IT := Lib.hid (fun w (e : Tab w) => itoa_any y w p0 (by omega) e)
      have RP := Lib.hid (fun x w (e : x = (c : Int)) => rep_any x c w e hc.c4)
      rw [hD] at IT
      rw [hZ] at RP
      clear hc hTT hD hZ hT
      have hDD := Lib.hid hbel
      obtain ⟨g0, g1, g2⟩ := (env.step hbel).wid.cells
      obtain ⟨c0, c1, c2, q0, q1, q2, s0⟩ := KT.out
      go_wp2_with (first
        | (go_at_call 13; (with_reducible refine (IT.out _ (env.step hDD.out).tab).mono ?_); rintro e w3 ⟨rfl, g⟩; have K2 := Lib.hid (KT.out.after g); have D2 := Lib.hid (below_step hDD.out g); clear g g0 g1 g2 c0 c1 c2 q0 q1 q2 s0; obtain ⟨g0, g1, g2⟩ := (env.step D2.out).wid.cells)
        | (go_at_call 14; (with_reducible refine (RP.out _ _ hsub.out).mono ?_); rintro e w4 ⟨rfl, g⟩; have K3 := Lib.hid (K2.out.after g); have D3 := Lib.hid (below_step D2.out g); clear g g0 g1 g2; obtain ⟨c0, c1, c2, q0, q1, q2, s0⟩ := K3.out))
      go_roundw
      case rel => exact ⟨1, by decide, rfl, (show Var3 _ P (.string A) (.string ⟨#[]⟩) (.string ⟨#[]⟩) by rw [← hcat.out]; exact K3.out.put0 _), D3.out.setCell hPle _⟩
      case measure => simp [intOf]
    · rw [show ((1 : Nat) : Int) = 1 from rfl]
      have hix : ∀ W, (Instr.index 34 (.agg #[.int .i64 y, .int .i64 m, .int .i64 d]) (.int .i64 1)).run Tryd.prog W = .ok (.int .i64 m) W := fun _ => by kernel_rfl
      replace hT : Var3 wr P (.string A) (.string ⟨#[]⟩) (.string ⟨#[]⟩) := hT
      have KT := Lib.hid hT
      obtain ⟨⟨c, hc⟩, hTT, p0, p1⟩ := PB.out
      obtain ⟨D, hD⟩ : ∃ D, strOfNums (dec (m).toNat) = D := ⟨_, rfl⟩
      obtain ⟨Z, hZ⟩ : ∃ Z, strOfNums (List.replicate c 48) = Z := ⟨_, rfl⟩
      have hcat : Hid (Z ++ D = B) := by unfold Hid; rw [← hZ, ← hD, strOfNums_append, hc.is, hTT]
      have sD : D.size ≤ 4 := by rw [← hD, strOfNums_size]; exact hc.le
      have sZ : Z.size ≤ 4 := by rw [← hZ, strOfNums_size, List.length_replicate]; exact hc.c4
      have hsub : Hid ((2 : Int) - (D.size : Int) = (c : Int)) := by unfold Hid; rw [← hD, strOfNums_size]; exact hc.w0
      have IT := Lib.hid (fun w (e : Tab w) => itoa_any m w p0 (by omega) e)
      have RP := Lib.hid (fun x w (e : x = (c : Int)) => rep_any x c w e hc.c4)
      rw [hD] at IT
      rw [hZ] at RP
      clear hc hTT hD hZ hT
      have hDD := Lib.hid hbel
      obtain ⟨g0, g1, g2⟩ := (env.step hbel).wid.cells
      obtain ⟨c0, c1, c2, q0, q1, q2, s0⟩ := KT.out
      go_wp2_with (first
        | (go_at_call 13; (with_reducible refine (IT.out _ (env.step hDD.out).tab).mono ?_); rintro e w3 ⟨rfl, g⟩; have K2 := Lib.hid (KT.out.after g); have D2 := Lib.hid (below_step hDD.out g); clear g g0 g1 g2 c0 c1 c2 q0 q1 q2 s0; obtain ⟨g0, g1, g2⟩ := (env.step D2.out).wid.cells)
        | (go_at_call 14; (with_reducible refine (RP.out _ _ hsub.out).mono ?_); rintro e w4 ⟨rfl, g⟩; have K3 := Lib.hid (K2.out.after g); have D3 := Lib.hid (below_step D2.out g); clear g g0 g1 g2; obtain ⟨c0, c1, c2, q0, q1, q2, s0⟩ := K3.out))
      go_roundw
      case rel => exact ⟨2, by decide, rfl, (show Var3 _ P (.string A) (.string B) (.string ⟨#[]⟩) by rw [← hcat.out]; exact K3.out.put1 _), D3.out.setCell hPle _⟩
      case measure => simp [intOf]
    · rw [show ((2 : Nat) : Int) = 2 from rfl]
      have hix : ∀ W, (Instr.index 34 (.agg #[.int .i64 y, .int .i64 m, .int .i64 d]) (.int .i64 2)).run Tryd.prog W = .ok (.int .i64 d) W := fun _ => by kernel_rfl
      replace hT : Var3 wr P (.string A) (.string B) (.string ⟨#[]⟩) := hT
      have KT := Lib.hid hT
      obtain ⟨⟨c, hc⟩, hTT, p0, p1⟩ := PC.out
      obtain ⟨D, hD⟩ : ∃ D, strOfNums (dec (d).toNat) = D := ⟨_, rfl⟩
      obtain ⟨Z, hZ⟩ : ∃ Z, strOfNums (List.replicate c 48) = Z := ⟨_, rfl⟩
      have hcat : Hid (Z ++ D = C) := by unfold Hid; rw [← hZ, ← hD, strOfNums_append, hc.is, hTT]
      have sD : D.size ≤ 4 := by rw [← hD, strOfNums_size]; exact hc.le
      have sZ : Z.size ≤ 4 := by rw [← hZ, strOfNums_size, List.length_replicate]; exact hc.c4
      have hsub : Hid ((2 : Int) - (D.size : Int) = (c : Int)) := by unfold Hid; rw [← hD, strOfNums_size]; exact hc.w0
      have IT := Lib.hid (fun w (e : Tab w) => itoa_any d w p0 (by omega) e)
      have RP := Lib.hid (fun x w (e : x = (c : Int)) => rep_any x c w e hc.c4)
      rw [hD] at IT
      rw [hZ] at RP
      clear hc hTT hD hZ hT
      have hDD := Lib.hid hbel
      obtain ⟨g0, g1, g2⟩ := (env.step hbel).wid.cells
      obtain ⟨c0, c1, c2, q0, q1, q2, s0⟩ := KT.out
      go_wp2_with (first
        | (go_at_call 13; (with_reducible refine (IT.out _ (env.step hDD.out).tab).mono ?_); rintro e w3 ⟨rfl, g⟩; have K2 := Lib.hid (KT.out.after g); have D2 := Lib.hid (below_step hDD.out g); clear g g0 g1 g2 c0 c1 c2 q0 q1 q2 s0; obtain ⟨g0, g1, g2⟩ := (env.step D2.out).wid.cells)
        | (go_at_call 14; (with_reducible refine (RP.out _ _ hsub.out).mono ?_); rintro e w4 ⟨rfl, g⟩; have K3 := Lib.hid (K2.out.after g); have D3 := Lib.hid (below_step D2.out g); clear g g0 g1 g2; obtain ⟨c0, c1, c2, q0, q1, q2, s0⟩ := K3.out))
      go_roundw
      case rel => exact ⟨3, by decide, rfl, (show Var3 _ P (.string A) (.string B) (.string C) by rw [← hcat.out]; exact K3.out.put2 _), D3.out.setCell hPle _⟩
      case measure => simp [intOf]
    · rw [show ((3 : Nat) : Int) = 3 from rfl]
      replace hT : Var3 wr P (.string A) (.string B) (.string C) := hT
      have JN := Lib.hid (fun w (k : Var3 w P (.string A) (.string B) (.string C)) => join_any P A B C w k.c0 k.c1 k.c2 k.s sA.out sB.out sC.out)
      have KT := Lib.hid hT
      obtain ⟨c0, c1, c2, q0, q1, q2, s0⟩ := hT
      go_wp2_with (go_at_call 15; (with_reducible refine (JN.out _ KT.out).mono ?_); rintro e w3 ⟨rfl, g⟩; have D2 := below_step hbel g; clear g)
      go_ret
      exact ⟨by rw [← hfin.out]; rfl, D2⟩

end Go.Proofs.YthhaineoflpkkaaDoor
