/-
  The document's own calendar, walked: two digits, Print.
-/
import Derived.Test.YthhaineoflpkkaaDoorCivT
import Derived.Test.YthhaineoflpkkaaDoorRead
import Derived.Deep.RegionHeld3
namespace Go.Proofs.YthhaineoflpkkaaDoor
open Go.RowKit

theorem two_letters (W : World) (x y : Int) (g : Nat) (hg : g = W.heap.size) :
    (convert 47 9 (.slice (some ⟨g, 0, none⟩) 2 2)).run Tryd.prog (W.alloc (.cells #[.int .u8 x, .int .u8 y] 5)) = .ok (.string (strOfNums [x, y])) (W.alloc (.cells #[.int .u8 x, .int .u8 y] 5)) := by
  subst hg
  exact run_convert_bytes_arg (W.alloc (.cells #[.int .u8 x, .int .u8 y] 5)) 47 5 Tryd.underlying47 Tryd.underlying5 _ _ 2 2 [x, y] rfl (fun i hi => by
    have : i = 0 ∨ i = 1 := by omega
    rcases this with rfl | rfl <;> simp) 9 Tryd.underlying9
/-- Two digits. -/
def twoD (n : Int) : List Int := [48 + n / 10, 48 + n % 10]
set_option maxRecDepth 100000 in
theorem rtwo_any (n : Int) (w : World) (h0 : 0 ≤ n) (h1 : n ≤ 99) : Calls Tryd.prog 16 #[.int .i64 n] w fun e w' => e = .returned (.string (strOfNums (twoD n))) ∧ Below w.heap.size w w' := by
  obtain ⟨a, ha⟩ : ∃ a, n / 10 = a := ⟨_, rfl⟩
  obtain ⟨b, hb⟩ : ∃ b, n % 10 = b := ⟨_, rfl⟩
  have a0 : 0 ≤ a := by omega
  have a1 : a ≤ 9 := by omega
  have b0 : 0 ≤ b := by omega
  have b1 : b ≤ 9 := by omega
  have ha2 : a % 10 = a := by omega
  have hfin : Hid (strOfNums (twoD n) = strOfNums [48 + a, 48 + b]) := by unfold Hid twoD; rw [ha, hb]
  have hcv := two_letters w (48 + a) (48 + b) w.heap.size rfl
  have DD : Below w.heap.size w (w.alloc (.cells #[.int .u8 (48 + a), .int .u8 (48 + b)] 5)) := (Below.refl _ _).alloc (Nat.le_refl _) _
  go_enter Tryd.func16, Tryd.ntmps16
  go_wp2
  go_ret
  exact ⟨by rw [hfin.out]; rfl, DD⟩

/-- The letters of a date's print. -/
def dpr (y m d : Int) : List Int := twoD (y / 100) ++ twoD (y % 100) ++ [45] ++ twoD m ++ [45] ++ twoD d
set_option maxRecDepth 100000 in
theorem rdprint_none (y m d : Int) (w : World) (h : ¬ RightD y m d) :
    Calls Tryd.prog 8 #[.agg #[.int .i64 y, .int .i64 m, .int .i64 d]] w fun e w' => e = .returned (.string ⟨#[63]⟩) ∧ Below w.heap.size w w' := by
  have H := Lib.hid (fun w => rright_no y m d w h)
  clear h
  go_enter Tryd.func8, Tryd.ntmps8
  go_wp2_with (go_at_call 9; (with_reducible refine (H.out _).mono ?_); rintro e w1 ⟨rfl, g⟩)
  go_ret
  exact ⟨rfl, below_step (below_more (Below.refl _ _) _) g⟩
set_option maxRecDepth 100000 in
set_option maxHeartbeats 4000000 in
theorem rdprint_any (y m d : Int) (w : World) (h : RightD y m d) :
    Calls Tryd.prog 8 #[.agg #[.int .i64 y, .int .i64 m, .int .i64 d]] w fun e w' => e = .returned (.string (strOfNums (dpr y m d))) ∧ Below w.heap.size w w' := by
  have y0 := h.y0
  have y1 := h.y1
  have m0 := h.m0
  have m1 := h.m1
  have d0 := h.d0
  have d1 : d ≤ 31 := by have := h.d1; have := daysI_bd y m; omega
  obtain ⟨a, ha⟩ : ∃ a, y / 100 = a := ⟨_, rfl⟩
  obtain ⟨b, hb⟩ : ∃ b, y % 100 = b := ⟨_, rfl⟩
  have a0 : 0 ≤ a := by omega
  have a1 : a ≤ 99 := by omega
  have b0 : 0 ≤ b := by omega
  have b1 : b ≤ 99 := by omega
  have at1 : y.tdiv 100 = a := by rw [Int.tdiv_eq_ediv_of_nonneg (by omega)]; exact ha
  have bt1 : y.tmod 100 = b := by rw [Int.tmod_eq_emod_of_nonneg (by omega)]; exact hb
  have aw : IntKind.i64.wrap a = a := by rw [IntKind.wrap_i64]; omega
  have HA := Lib.hid (fun w => rtwo_any a w a0 a1)
  have HB := Lib.hid (fun w => rtwo_any b w b0 b1)
  have HC := Lib.hid (fun w => rtwo_any m w (by omega) (by omega))
  have HD := Lib.hid (fun w => rtwo_any d w (by omega) (by omega))
  have HF : Hid (strOfNums (dpr y m d) = strOfNums (twoD a) ++ strOfNums (twoD b) ++ ⟨#[45]⟩ ++ strOfNums (twoD m) ++ ⟨#[45]⟩ ++ strOfNums (twoD d)) := by
    unfold Hid dpr
    rw [ha, hb, show (⟨#[45]⟩ : ByteArray) = strOfNums [45] from rfl, strOfNums_append, strOfNums_append, strOfNums_append, strOfNums_append, strOfNums_append]
  obtain ⟨A, hA⟩ : ∃ A, strOfNums (twoD a) = A := ⟨_, rfl⟩
  obtain ⟨B, hB⟩ : ∃ B, strOfNums (twoD b) = B := ⟨_, rfl⟩
  obtain ⟨C, hC⟩ : ∃ C, strOfNums (twoD m) = C := ⟨_, rfl⟩
  obtain ⟨D, hD⟩ : ∃ D, strOfNums (twoD d) = D := ⟨_, rfl⟩
  have sA : A.size = 2 := by rw [← hA]; rfl
  have sB : B.size = 2 := by rw [← hB]; rfl
  have sC : C.size = 2 := by rw [← hC]; rfl
  have sD : D.size = 2 := by rw [← hD]; rfl
  rw [hA] at HA HF
  rw [hB] at HB HF
  rw [hC] at HC HF
  rw [hD] at HD HF
  have HR := Lib.hid (fun w => rright_yes y m d w h)
  clear h ha hb hA hB hC hD
  go_enter Tryd.func8, Tryd.ntmps8
  have M := Var3.fresh w (.int .i64 y) (.int .i64 m) (.int .i64 d) 23 _ rfl
  have DD : Below w.heap.size w (w.alloc (.cells #[.int .i64 y, .int .i64 m, .int .i64 d] 23)) := (Below.refl _ _).alloc (Nat.le_refl _) _
  go_wp2_with (go_at_call 9; (with_reducible refine (HR.out _).mono ?_); rintro e w1 ⟨rfl, g⟩; have K0 := Lib.hid (M.after g); have D0 := below_step DD g; clear g)
  have K1 := Lib.hid K0.out.drew
  have D1 := D0.drew
  go_region_held3 (fun W => W.cell? ⟨w.heap.size, 0, none⟩ = some (.int .i64 y) ∧ W.cell? ⟨w.heap.size, 1, none⟩ = some (.int .i64 m) ∧ W.cell? ⟨w.heap.size, 2, none⟩ = some (.int .i64 d)) (first | exact ⟨K5.out.c0, K5.out.c1, K5.out.c2⟩ | exact ⟨K4.out.c0, K4.out.c1, K4.out.c2⟩ | exact ⟨K3.out.c0, K3.out.c1, K3.out.c2⟩ | exact ⟨K2.out.c0, K2.out.c1, K2.out.c2⟩ | exact ⟨K1.out.c0, K1.out.c1, K1.out.c2⟩ | go_keep)
    (first
      | (go_at_call 16; (with_reducible refine (HA.out _).mono ?_); rintro e w2 ⟨rfl, g⟩; have K2 := Lib.hid (K1.out.after g); have D2 := below_step D1 g; clear g)
      | (go_at_call 16; (with_reducible refine (HB.out _).mono ?_); rintro e w3 ⟨rfl, g⟩; have K3 := Lib.hid (K2.out.after g); have D3 := below_step D2 g; clear g)
      | (go_at_call 16; (with_reducible refine (HC.out _).mono ?_); rintro e w4 ⟨rfl, g⟩; have K4 := Lib.hid (K3.out.after g); have D4 := below_step D3 g; clear g)
      | (go_at_call 16; (with_reducible refine (HD.out _).mono ?_); rintro e w5 ⟨rfl, g⟩; have K5 := Lib.hid (K4.out.after g); have D5 := below_step D4 g; clear g))
  all_goals
    go_wp2
    go_ret
    exact ⟨by rw [HF.out]; rfl, D5⟩

end Go.Proofs.YthhaineoflpkkaaDoor
