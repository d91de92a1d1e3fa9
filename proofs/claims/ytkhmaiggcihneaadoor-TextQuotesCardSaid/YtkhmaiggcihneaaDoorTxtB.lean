/-
  The document's own Bytes of a rune, and digits of sixteen, walked.
-/
import Derived.Test.YtkhmaiggcihneaaDoorTxtS
import Derived.Test.YtkhmaiggcihneaaDoorBoxes
import Derived.WalkKit
import Derived.WalkSpells
import Derived.WalkLawsBesides
import Derived.WalkSmall
import Derived.Laws.BytesArg
import Derived.Lib.Hide
namespace Go.Proofs.YtkhmaiggcihneaaDoor
open Go.RowKit

theorem bytes_one (W : World) (x : Int) (g : Nat) (hg : g = W.heap.size) :
    (convert 35 9 (.slice (some ⟨g, 0, none⟩) 1 1)).run Tryd.prog (W.alloc (.cells #[.int .u8 x] 5)) = .ok (.string (strOfNums [x])) (W.alloc (.cells #[.int .u8 x] 5)) := by
  subst hg
  exact run_convert_bytes_arg (W.alloc (.cells #[.int .u8 x] 5)) 35 5 Tryd.underlying35 Tryd.underlying5 _ _ 1 1 [x] rfl (fun i hi => by
    have : i = 0 ∨ i = 0 := by omega
    rcases this with rfl | rfl <;> simp) 9 Tryd.underlying9
theorem bytes_two (W : World) (x y : Int) (g : Nat) (hg : g = W.heap.size) :
    (convert 35 9 (.slice (some ⟨g, 0, none⟩) 2 2)).run Tryd.prog (W.alloc (.cells #[.int .u8 x, .int .u8 y] 5)) = .ok (.string (strOfNums [x, y])) (W.alloc (.cells #[.int .u8 x, .int .u8 y] 5)) := by
  subst hg
  exact run_convert_bytes_arg (W.alloc (.cells #[.int .u8 x, .int .u8 y] 5)) 35 5 Tryd.underlying35 Tryd.underlying5 _ _ 2 2 [x, y] rfl (fun i hi => by
    have : i = 0 ∨ i = 1 := by omega
    rcases this with rfl | rfl <;> simp) 9 Tryd.underlying9
theorem bytes_three (W : World) (x y z : Int) (g : Nat) (hg : g = W.heap.size) :
    (convert 35 9 (.slice (some ⟨g, 0, none⟩) 3 3)).run Tryd.prog (W.alloc (.cells #[.int .u8 x, .int .u8 y, .int .u8 z] 5)) = .ok (.string (strOfNums [x, y, z])) (W.alloc (.cells #[.int .u8 x, .int .u8 y, .int .u8 z] 5)) := by
  subst hg
  exact run_convert_bytes_arg (W.alloc (.cells #[.int .u8 x, .int .u8 y, .int .u8 z] 5)) 35 5 Tryd.underlying35 Tryd.underlying5 _ _ 3 3 [x, y, z] rfl (fun i hi => by
    have : i = 0 ∨ i = 1 ∨ i = 2 := by omega
    rcases this with rfl | rfl | rfl <;> simp) 9 Tryd.underlying9
theorem bytes_four (W : World) (x y z u : Int) (g : Nat) (hg : g = W.heap.size) :
    (convert 35 9 (.slice (some ⟨g, 0, none⟩) 4 4)).run Tryd.prog (W.alloc (.cells #[.int .u8 x, .int .u8 y, .int .u8 z, .int .u8 u] 5)) = .ok (.string (strOfNums [x, y, z, u])) (W.alloc (.cells #[.int .u8 x, .int .u8 y, .int .u8 z, .int .u8 u] 5)) := by
  subst hg
  exact run_convert_bytes_arg (W.alloc (.cells #[.int .u8 x, .int .u8 y, .int .u8 z, .int .u8 u] 5)) 35 5 Tryd.underlying35 Tryd.underlying5 _ _ 4 4 [x, y, z, u] rfl (fun i hi => by
    have : i = 0 ∨ i = 1 ∨ i = 2 ∨ i = 3 := by omega
    rcases this with rfl | rfl | rfl | rfl <;> simp) 9 Tryd.underlying9

set_option maxRecDepth 100000 in
set_option maxHeartbeats 1000000 in
theorem rbytes_any (r : Int) (w : World) (h0 : 0 ≤ r) (h1 : r ≤ 1114111) : Calls Tryd.prog 31 #[.int .i32 r] w fun e w' => e = .returned (.string (strOfNums (encL r))) ∧ Below w.heap.size w w' := by
  have DD := Lib.hid (fun o => (Below.refl w.heap.size w).alloc (Nat.le_refl _) o)
  by_cases k1 : r < 128
  · have cw : IntKind.u8.wrap r = r := by rw [IntKind.wrap_u8]; omega
    have hfin : Hid (strOfNums (encL r) = strOfNums [r]) := by unfold Hid encL; rw [if_pos (by omega)]; all_goals first | rfl | (congr 1; simp only [List.cons.injEq, and_true]; omega)
    have hcv := bytes_one w (r) w.heap.size rfl
    go_enter Tryd.func31, Tryd.ntmps31
    go_wp2
    go_ret
    exact ⟨by rw [hfin.out]; rfl, DD.out _⟩
  · by_cases k2 : r < 2048
    · obtain ⟨a, ha⟩ : ∃ a, r / 64 = a := ⟨_, rfl⟩
      obtain ⟨b, hb⟩ : ∃ b, r % 64 = b := ⟨_, rfl⟩
      have ta : r.tdiv 64 = a := by rw [Int.tdiv_eq_ediv_of_nonneg h0]; exact ha
      have tb : r.tmod 64 = b := by rw [Int.tmod_eq_emod_of_nonneg h0]; exact hb
      have a0 : 0 ≤ a := by omega
      have a1 : a ≤ 31 := by omega
      have b0 : 0 ≤ b := by omega
      have b1 : b ≤ 63 := by omega
      have wa : IntKind.i32.wrap a = a := by rw [IntKind.wrap_i32]; omega
      have wb : IntKind.i32.wrap b = b := by rw [IntKind.wrap_i32]; omega
      have wa2 : IntKind.i32.wrap (192 + a) = 192 + a := by rw [IntKind.wrap_i32]; omega
      have wb2 : IntKind.i32.wrap (128 + b) = 128 + b := by rw [IntKind.wrap_i32]; omega
      have ua : IntKind.u8.wrap (192 + a) = 192 + a := by rw [IntKind.wrap_u8]; omega
      have ub : IntKind.u8.wrap (128 + b) = 128 + b := by rw [IntKind.wrap_u8]; omega
      have hfin : Hid (strOfNums (encL r) = strOfNums [192 + a, 128 + b]) := by unfold Hid encL; rw [if_neg (by omega)]; rw [if_pos (by omega)]; all_goals first | rfl | (congr 1; simp only [List.cons.injEq, and_true]; omega)
      have hcv := bytes_two w (192 + a) (128 + b) w.heap.size rfl
      go_enter Tryd.func31, Tryd.ntmps31
      go_wp2
      go_ret
      exact ⟨by rw [hfin.out]; rfl, DD.out _⟩
    · by_cases k3 : r < 65536
      · have k9 : 0 ≤ r := h0
        obtain ⟨a, ha⟩ : ∃ a, r / 4096 = a := ⟨_, rfl⟩
        obtain ⟨c, hc⟩ : ∃ c, r % 64 = c := ⟨_, rfl⟩
        obtain ⟨q, hq⟩ : ∃ q, r / 64 = q := ⟨_, rfl⟩
        obtain ⟨b, hb⟩ : ∃ b, q % 64 = b := ⟨_, rfl⟩
        have q0 : 0 ≤ q := by omega
        have q1 : q ≤ 20000 := by omega
        have ta : r.tdiv 4096 = a := by rw [Int.tdiv_eq_ediv_of_nonneg h0]; exact ha
        have tq : r.tdiv 64 = q := by rw [Int.tdiv_eq_ediv_of_nonneg h0]; exact hq
        have tb : q.tmod 64 = b := by rw [Int.tmod_eq_emod_of_nonneg q0]; exact hb
        have tc : r.tmod 64 = c := by rw [Int.tmod_eq_emod_of_nonneg h0]; exact hc
        have wq : IntKind.i32.wrap q = q := by rw [IntKind.wrap_i32]; omega
        have a0 : 0 ≤ a := by omega
        have a1 : a ≤ 15 := by omega
        have wa : IntKind.i32.wrap a = a := by rw [IntKind.wrap_i32]; omega
        have xa : IntKind.i32.wrap (224 + a) = 224 + a := by rw [IntKind.wrap_i32]; omega
        have ua : IntKind.u8.wrap (224 + a) = 224 + a := by rw [IntKind.wrap_u8]; omega
        have b0 : 0 ≤ b := by omega
        have b1 : b ≤ 63 := by omega
        have wb : IntKind.i32.wrap b = b := by rw [IntKind.wrap_i32]; omega
        have xb : IntKind.i32.wrap (128 + b) = 128 + b := by rw [IntKind.wrap_i32]; omega
        have ub : IntKind.u8.wrap (128 + b) = 128 + b := by rw [IntKind.wrap_u8]; omega
        have c0 : 0 ≤ c := by omega
        have c1 : c ≤ 63 := by omega
        have wc : IntKind.i32.wrap c = c := by rw [IntKind.wrap_i32]; omega
        have xc : IntKind.i32.wrap (128 + c) = 128 + c := by rw [IntKind.wrap_i32]; omega
        have uc : IntKind.u8.wrap (128 + c) = 128 + c := by rw [IntKind.wrap_u8]; omega
        have hfin : Hid (strOfNums (encL r) = strOfNums [224 + a, 128 + b, 128 + c]) := by unfold Hid encL; rw [if_neg (by omega)]; rw [if_neg (by omega)]; rw [if_pos (by omega)]; all_goals first | rfl | (congr 1; simp only [List.cons.injEq, and_true]; omega)
        have hcv := bytes_three w (224 + a) (128 + b) (128 + c) w.heap.size rfl
        go_enter Tryd.func31, Tryd.ntmps31
        go_wp2
        go_ret
        exact ⟨by rw [hfin.out]; rfl, DD.out _⟩
      · have k9 : 0 ≤ r := h0
        obtain ⟨a, ha⟩ : ∃ a, r / 262144 = a := ⟨_, rfl⟩
        obtain ⟨c, hc⟩ : ∃ c, r % 64 = c := ⟨_, rfl⟩
        obtain ⟨q, hq⟩ : ∃ q, r / 64 = q := ⟨_, rfl⟩
        obtain ⟨b, hb⟩ : ∃ b, q % 64 = b := ⟨_, rfl⟩
        obtain ⟨p, hp⟩ : ∃ p, r / 4096 = p := ⟨_, rfl⟩
        obtain ⟨d, hd⟩ : ∃ d, p % 64 = d := ⟨_, rfl⟩
        have p0 : 0 ≤ p := by omega
        have p1 : p ≤ 300 := by omega
        have tp : r.tdiv 4096 = p := by rw [Int.tdiv_eq_ediv_of_nonneg h0]; exact hp
        have td : p.tmod 64 = d := by rw [Int.tmod_eq_emod_of_nonneg p0]; exact hd
        have wp : IntKind.i32.wrap p = p := by rw [IntKind.wrap_i32]; omega
        have q0 : 0 ≤ q := by omega
        have q1 : q ≤ 20000 := by omega
        have ta : r.tdiv 262144 = a := by rw [Int.tdiv_eq_ediv_of_nonneg h0]; exact ha
        have tq : r.tdiv 64 = q := by rw [Int.tdiv_eq_ediv_of_nonneg h0]; exact hq
        have tb : q.tmod 64 = b := by rw [Int.tmod_eq_emod_of_nonneg q0]; exact hb
        have tc : r.tmod 64 = c := by rw [Int.tmod_eq_emod_of_nonneg h0]; exact hc
        have wq : IntKind.i32.wrap q = q := by rw [IntKind.wrap_i32]; omega
        have a0 : 0 ≤ a := by omega
        have a1 : a ≤ 4 := by omega
        have wa : IntKind.i32.wrap a = a := by rw [IntKind.wrap_i32]; omega
        have xa : IntKind.i32.wrap (240 + a) = 240 + a := by rw [IntKind.wrap_i32]; omega
        have ua : IntKind.u8.wrap (240 + a) = 240 + a := by rw [IntKind.wrap_u8]; omega
        have d0 : 0 ≤ d := by omega
        have d1 : d ≤ 63 := by omega
        have wd : IntKind.i32.wrap d = d := by rw [IntKind.wrap_i32]; omega
        have xd : IntKind.i32.wrap (128 + d) = 128 + d := by rw [IntKind.wrap_i32]; omega
        have ud : IntKind.u8.wrap (128 + d) = 128 + d := by rw [IntKind.wrap_u8]; omega
        have b0 : 0 ≤ b := by omega
        have b1 : b ≤ 63 := by omega
        have wb : IntKind.i32.wrap b = b := by rw [IntKind.wrap_i32]; omega
        have xb : IntKind.i32.wrap (128 + b) = 128 + b := by rw [IntKind.wrap_i32]; omega
        have ub : IntKind.u8.wrap (128 + b) = 128 + b := by rw [IntKind.wrap_u8]; omega
        have c0 : 0 ≤ c := by omega
        have c1 : c ≤ 63 := by omega
        have wc : IntKind.i32.wrap c = c := by rw [IntKind.wrap_i32]; omega
        have xc : IntKind.i32.wrap (128 + c) = 128 + c := by rw [IntKind.wrap_i32]; omega
        have uc : IntKind.u8.wrap (128 + c) = 128 + c := by rw [IntKind.wrap_u8]; omega
        have hfin : Hid (strOfNums (encL r) = strOfNums [240 + a, 128 + d, 128 + b, 128 + c]) := by unfold Hid encL; rw [if_neg (by omega)]; rw [if_neg (by omega)]; rw [if_neg (by omega)]; all_goals first | rfl | (congr 1; simp only [List.cons.injEq, and_true]; omega)
        have hcv := bytes_four w (240 + a) (128 + d) (128 + b) (128 + c) w.heap.size rfl
        go_enter Tryd.func31, Tryd.ntmps31
        go_wp2
        go_ret
        exact ⟨by rw [hfin.out]; rfl, DD.out _⟩

theorem hex_slice (k : Nat) (h : k < 16) (wx : World) : (Instr.slice 9 (.string ⟨#[48, 49, 50, 51, 52, 53, 54, 55, 56, 57, 97, 98, 99, 100, 101, 102]⟩) (some (.int .i32 (k : Int))) (some (.int .i32 ((k : Int) + 1))) none).run Tryd.prog wx = .ok (.string (strOfNums [hexD k])) wx := by
  have : k = 0 ∨ k = 1 ∨ k = 2 ∨ k = 3 ∨ k = 4 ∨ k = 5 ∨ k = 6 ∨ k = 7 ∨ k = 8 ∨ k = 9 ∨ k = 10 ∨ k = 11 ∨ k = 12 ∨ k = 13 ∨ k = 14 ∨ k = 15 := by omega
  rcases this with rfl | rfl | rfl | rfl | rfl | rfl | rfl | rfl | rfl | rfl | rfl | rfl | rfl | rfl | rfl | rfl <;> (show _ = _; kernel_rfl)

set_option maxRecDepth 100000 in
set_option maxHeartbeats 1000000 in
theorem rhex_any (n : Nat) : ∀ w : World, n ≤ 1114111 → Calls Tryd.prog 30 #[.int .i32 n] w fun e w' => e = .returned (.string (strOfNums (hexL n))) ∧ Below w.heap.size w w' := by
  induction n using Nat.strongRecOn with
  | _ n ih =>
    intro w h1
    obtain ⟨k, hk⟩ : ∃ k : Nat, n % 16 = k := ⟨_, rfl⟩
    have k9 : k < 16 := by omega
    have tk : (n : Int).tmod 16 = (k : Int) := by rw [Int.tmod_eq_emod_of_nonneg (by omega)]; omega
    have wk : IntKind.i32.wrap (k : Int) = (k : Int) := by rw [IntKind.wrap_i32]; omega
    have wk2 : IntKind.i32.wrap ((k : Int) + 1) = (k : Int) + 1 := by rw [IntKind.wrap_i32]; omega
    have hsl := fun wx => hex_slice k k9 wx
    by_cases h : n < 16
    · have hfin : Hid (strOfNums (hexL n) = strOfNums [hexD k]) := by unfold Hid; rw [hexL_small h, ← hk, Nat.mod_eq_of_lt h]
      have hi : ¬ (n : Int) ≥ 16 := by omega
      clear ih
      go_enter Tryd.func30, Tryd.ntmps30
      go_wp2
      go_ret
      exact ⟨by rw [hfin.out]; rfl, Below.refl _ _⟩
    · obtain ⟨q, hq⟩ : ∃ q : Nat, n / 16 = q := ⟨_, rfl⟩
      have IH := Lib.hid (fun w => ih q (by omega) w (by omega))
      have tq : (n : Int).tdiv 16 = (q : Int) := by rw [Int.tdiv_eq_ediv_of_nonneg (by omega)]; omega
      have wq : IntKind.i32.wrap (q : Int) = (q : Int) := by rw [IntKind.wrap_i32]; omega
      have h16 : (16 : Nat) ^ (5 + 1) = 16777216 := by decide
      have hlq : (strOfNums (hexL q)).size ≤ 6 := by rw [strOfNums_size]; exact hexL_len q 5 (by omega)
      have hl1 : (strOfNums [hexD k]).size = 1 := by rw [strOfNums_size]; rfl
      have hs : ¬ 9223372036854775807 < (strOfNums (hexL q)).size + (strOfNums [hexD k]).size := by omega
      have hfin : Hid (strOfNums (hexL n) = strOfNums (hexL q) ++ strOfNums [hexD k]) := by unfold Hid; rw [hexL_big h, hk, hq, strOfNums_append]
      have hi : (16 : Int) ≤ n := by omega
      clear ih h hl1
      go_enter Tryd.func30, Tryd.ntmps30
      go_wp2_with (go_at_call 30; (with_reducible refine (IH.out _).mono ?_); rintro e w1 ⟨rfl, g⟩)
      go_ret
      exact ⟨by rw [hfin.out]; rfl, g⟩

end Go.Proofs.YtkhmaiggcihneaaDoor
