/-
  The document's own Bytes of a rune, and digits of sixteen, walked.
-/
import Derived.Test.YtmgimkokmlcllaaGreatDoorPkPlain
import Derived.Test.YtmgimkokmlcllaaGreatDoorPkVrs
import Derived.WalkKit
import Derived.WalkSpells
import Derived.WalkLawsBesides
import Derived.WalkSmall
import Derived.Laws.BytesArg
import Derived.Lib.Hide
import Derived.Test.YtmgimkokmlcllaaGreatDoorPkTxtR
import Derived.Deep.QuietTactic
import Derived.BigQuiet
import Derived.Deep.RegionHeld3
namespace Go.Proofs.YtmgimkokmlcllaaGreatDoor
open Go.RowKit

theorem bytes_one (W : World) (x : Int) (g : Nat) (hg : g = W.heap.size) :
    (convert 41 9 (.slice (some ⟨g, 0, none⟩) 1 1)).run Tryz.prog (W.alloc (.cells #[.int .u8 x] 5)) = .ok (.string (strOfNums [x])) (W.alloc (.cells #[.int .u8 x] 5)) := by
  subst hg
  exact run_convert_bytes_arg (W.alloc (.cells #[.int .u8 x] 5)) 41 5 Tryz.underlying41 Tryz.underlying5 _ _ 1 1 [x] rfl (fun i hi => by
    have : i = 0 ∨ i = 0 := by omega
    rcases this with rfl | rfl <;> simp) 9 Tryz.underlying9
theorem bytes_two (W : World) (x y : Int) (g : Nat) (hg : g = W.heap.size) :
    (convert 41 9 (.slice (some ⟨g, 0, none⟩) 2 2)).run Tryz.prog (W.alloc (.cells #[.int .u8 x, .int .u8 y] 5)) = .ok (.string (strOfNums [x, y])) (W.alloc (.cells #[.int .u8 x, .int .u8 y] 5)) := by
  subst hg
  exact run_convert_bytes_arg (W.alloc (.cells #[.int .u8 x, .int .u8 y] 5)) 41 5 Tryz.underlying41 Tryz.underlying5 _ _ 2 2 [x, y] rfl (fun i hi => by
    have : i = 0 ∨ i = 1 := by omega
    rcases this with rfl | rfl <;> simp) 9 Tryz.underlying9
theorem bytes_three (W : World) (x y z : Int) (g : Nat) (hg : g = W.heap.size) :
    (convert 41 9 (.slice (some ⟨g, 0, none⟩) 3 3)).run Tryz.prog (W.alloc (.cells #[.int .u8 x, .int .u8 y, .int .u8 z] 5)) = .ok (.string (strOfNums [x, y, z])) (W.alloc (.cells #[.int .u8 x, .int .u8 y, .int .u8 z] 5)) := by
  subst hg
  exact run_convert_bytes_arg (W.alloc (.cells #[.int .u8 x, .int .u8 y, .int .u8 z] 5)) 41 5 Tryz.underlying41 Tryz.underlying5 _ _ 3 3 [x, y, z] rfl (fun i hi => by
    have : i = 0 ∨ i = 1 ∨ i = 2 := by omega
    rcases this with rfl | rfl | rfl <;> simp) 9 Tryz.underlying9
theorem bytes_four (W : World) (x y z u : Int) (g : Nat) (hg : g = W.heap.size) :
    (convert 41 9 (.slice (some ⟨g, 0, none⟩) 4 4)).run Tryz.prog (W.alloc (.cells #[.int .u8 x, .int .u8 y, .int .u8 z, .int .u8 u] 5)) = .ok (.string (strOfNums [x, y, z, u])) (W.alloc (.cells #[.int .u8 x, .int .u8 y, .int .u8 z, .int .u8 u] 5)) := by
  subst hg
  exact run_convert_bytes_arg (W.alloc (.cells #[.int .u8 x, .int .u8 y, .int .u8 z, .int .u8 u] 5)) 41 5 Tryz.underlying41 Tryz.underlying5 _ _ 4 4 [x, y, z, u] rfl (fun i hi => by
    have : i = 0 ∨ i = 1 ∨ i = 2 ∨ i = 3 := by omega
    rcases this with rfl | rfl | rfl | rfl <;> simp) 9 Tryz.underlying9

set_option maxRecDepth 100000 in
set_option maxHeartbeats 1000000 in
theorem rbytes_any (r : Int) (w : World) (h0 : 0 ≤ r) (h1 : r ≤ 1114111) : Calls Tryz.prog 75 #[.int .i32 r] w fun e w' => e = .returned (.string (strOfNums (encL r))) ∧ Below w.heap.size w w' := by
  have DD := Lib.hid (fun o => (Below.refl w.heap.size w).alloc (Nat.le_refl _) o)
  by_cases k1 : r < 128
  · have cw : IntKind.u8.wrap r = r := by rw [IntKind.wrap_u8]; omega
    have hfin : Hid (strOfNums (encL r) = strOfNums [r]) := by unfold Hid encL; rw [if_pos (by omega)]; all_goals first | rfl | (congr 1; simp only [List.cons.injEq, and_true]; omega)
    have hcv := bytes_one w (r) w.heap.size rfl
    go_enter Tryz.func75, Tryz.ntmps75
    go_wp2
    go_ret
    exact ⟨by rw [hfin.out]; rfl, DD.out _⟩
  · by_cases k2 : r < 2048
    · obtain ⟨a, ha⟩ : ∃ a, r / 64 = a := ⟨_, rfl⟩
      obtain ⟨b, hb⟩ : ∃ b, r % 64 = b := ⟨_, rfl⟩
      have ta : r.tdiv 64 = a := by rw [Int.tdiv_eq_ediv_of_nonneg h0]; exact ha
      have tb : r.tmod 64 = b := by rw [Int.tmod_eq_emod_of_nonneg h0]; exact hb
      have a0 : 0 ≤ a := by omega
      have a1 : a ≤ 31 := by omega
      have b0 : 0 ≤ b := by omega
      have b1 : b ≤ 63 := by omega
      have wa : IntKind.i32.wrap a = a := by rw [IntKind.wrap_i32]; omega
      have wb : IntKind.i32.wrap b = b := by rw [IntKind.wrap_i32]; omega
      have wa2 : IntKind.i32.wrap (192 + a) = 192 + a := by rw [IntKind.wrap_i32]; omega
      have wb2 : IntKind.i32.wrap (128 + b) = 128 + b := by rw [IntKind.wrap_i32]; omega
      have ua : IntKind.u8.wrap (192 + a) = 192 + a := by rw [IntKind.wrap_u8]; omega
      have ub : IntKind.u8.wrap (128 + b) = 128 + b := by rw [IntKind.wrap_u8]; omega
      have hfin : Hid (strOfNums (encL r) = strOfNums [192 + a, 128 + b]) := by unfold Hid encL; rw [if_neg (by omega)]; rw [if_pos (by omega)]; all_goals first | rfl | (congr 1; simp only [List.cons.injEq, and_true]; omega)
      have hcv := bytes_two w (192 + a) (128 + b) w.heap.size rfl
      go_enter Tryz.func75, Tryz.ntmps75
      go_wp2
      go_ret
      exact ⟨by rw [hfin.out]; rfl, DD.out _⟩
    · by_cases k3 : r < 65536
      · have k9 : 0 ≤ r := h0
        obtain ⟨a, ha⟩ : ∃ a, r / 4096 = a := ⟨_, rfl⟩
        obtain ⟨c, hc⟩ : ∃ c, r % 64 = c := ⟨_, rfl⟩
        obtain ⟨q, hq⟩ : ∃ q, r / 64 = q := ⟨_, rfl⟩
        obtain ⟨b, hb⟩ : ∃ b, q % 64 = b := ⟨_, rfl⟩
        have q0 : 0 ≤ q := by omega
        have q1 : q ≤ 20000 := by omega
        have ta : r.tdiv 4096 = a := by rw [Int.tdiv_eq_ediv_of_nonneg h0]; exact ha
        have tq : r.tdiv 64 = q := by rw [Int.tdiv_eq_ediv_of_nonneg h0]; exact hq
        have tb : q.tmod 64 = b := by rw [Int.tmod_eq_emod_of_nonneg q0]; exact hb
        have tc : r.tmod 64 = c := by rw [Int.tmod_eq_emod_of_nonneg h0]; exact hc
        have wq : IntKind.i32.wrap q = q := by rw [IntKind.wrap_i32]; omega
        have a0 : 0 ≤ a := by omega
        have a1 : a ≤ 15 := by omega
        have wa : IntKind.i32.wrap a = a := by rw [IntKind.wrap_i32]; omega
        have xa : IntKind.i32.wrap (224 + a) = 224 + a := by rw [IntKind.wrap_i32]; omega
        have ua : IntKind.u8.wrap (224 + a) = 224 + a := by rw [IntKind.wrap_u8]; omega
        have b0 : 0 ≤ b := by omega
        have b1 : b ≤ 63 := by omega
        have wb : IntKind.i32.wrap b = b := by rw [IntKind.wrap_i32]; omega
        have xb : IntKind.i32.wrap (128 + b) = 128 + b := by rw [IntKind.wrap_i32]; omega
        have ub : IntKind.u8.wrap (128 + b) = 128 + b := by rw [IntKind.wrap_u8]; omega
        have c0 : 0 ≤ c := by omega
        have c1 : c ≤ 63 := by omega
        have wc : IntKind.i32.wrap c = c := by rw [IntKind.wrap_i32]; omega
        have xc : IntKind.i32.wrap (128 + c) = 128 + c := by rw [IntKind.wrap_i32]; omega
        have uc : IntKind.u8.wrap (128 + c) = 128 + c := by rw [IntKind.wrap_u8]; omega
        have hfin : Hid (strOfNums (encL r) = strOfNums [224 + a, 128 + b, 128 + c]) := by unfold Hid encL; rw [if_neg (by omega)]; rw [if_neg (by omega)]; rw [if_pos (by omega)]; all_goals first | rfl | (congr 1; simp only [List.cons.injEq, and_true]; omega)
        have hcv := bytes_three w (224 + a) (128 + b) (128 + c) w.heap.size rfl
        go_enter Tryz.func75, Tryz.ntmps75
        go_wp2
        go_ret
        exact ⟨by rw [hfin.out]; rfl, DD.out _⟩
      · have k9 : 0 ≤ r := h0
        obtain ⟨a, ha⟩ : ∃ a, r / 262144 = a := ⟨_, rfl⟩
        obtain ⟨c, hc⟩ : ∃ c, r % 64 = c := ⟨_, rfl⟩
        obtain ⟨q, hq⟩ : ∃ q, r / 64 = q := ⟨_, rfl⟩
        obtain ⟨b, hb⟩ : ∃ b, q % 64 = b := ⟨_, rfl⟩
        obtain ⟨p, hp⟩ : ∃ p, r / 4096 = p := ⟨_, rfl⟩
        obtain ⟨d, hd⟩ : ∃ d, p % 64 = d := ⟨_, rfl⟩
        have p0 : 0 ≤ p := by omega
        have p1 : p ≤ 300 := by omega
        have tp : r.tdiv 4096 = p := by rw [Int.tdiv_eq_ediv_of_nonneg h0]; exact hp
        have td : p.tmod 64 = d := by rw [Int.tmod_eq_emod_of_nonneg p0]; exact hd
        have wp : IntKind.i32.wrap p = p := by rw [IntKind.wrap_i32]; omega
        have q0 : 0 ≤ q := by omega
        have q1 : q ≤ 20000 := by omega
        have ta : r.tdiv 262144 = a := by rw [Int.tdiv_eq_ediv_of_nonneg h0]; exact ha
        have tq : r.tdiv 64 = q := by rw [Int.tdiv_eq_ediv_of_nonneg h0]; exact hq
        have tb : q.tmod 64 = b := by rw [Int.tmod_eq_emod_of_nonneg q0]; exact hb
        have tc : r.tmod 64 = c := by rw [Int.tmod_eq_emod_of_nonneg h0]; exact hc
        have wq : IntKind.i32.wrap q = q := by rw [IntKind.wrap_i32]; omega
        have a0 : 0 ≤ a := by omega
        have a1 : a ≤ 4 := by omega
        have wa : IntKind.i32.wrap a = a := by rw [IntKind.wrap_i32]; omega
        have xa : IntKind.i32.wrap (240 + a) = 240 + a := by rw [IntKind.wrap_i32]; omega
        have ua : IntKind.u8.wrap (240 + a) = 240 + a := by rw [IntKind.wrap_u8]; omega
        have d0 : 0 ≤ d := by omega
        have d1 : d ≤ 63 := by omega
        have wd : IntKind.i32.wrap d = d := by rw [IntKind.wrap_i32]; omega
        have xd : IntKind.i32.wrap (128 + d) = 128 + d := by rw [IntKind.wrap_i32]; omega
        have ud : IntKind.u8.wrap (128 + d) = 128 + d := by rw [IntKind.wrap_u8]; omega
        have b0 : 0 ≤ b := by omega
        have b1 : b ≤ 63 := by omega
        have wb : IntKind.i32.wrap b = b := by rw [IntKind.wrap_i32]; omega
        have xb : IntKind.i32.wrap (128 + b) = 128 + b := by rw [IntKind.wrap_i32]; omega
        have ub : IntKind.u8.wrap (128 + b) = 128 + b := by rw [IntKind.wrap_u8]; omega
        have c0 : 0 ≤ c := by omega
        have c1 : c ≤ 63 := by omega
        have wc : IntKind.i32.wrap c = c := by rw [IntKind.wrap_i32]; omega
        have xc : IntKind.i32.wrap (128 + c) = 128 + c := by rw [IntKind.wrap_i32]; omega
        have uc : IntKind.u8.wrap (128 + c) = 128 + c := by rw [IntKind.wrap_u8]; omega
        have hfin : Hid (strOfNums (encL r) = strOfNums [240 + a, 128 + d, 128 + b, 128 + c]) := by unfold Hid encL; rw [if_neg (by omega)]; rw [if_neg (by omega)]; rw [if_neg (by omega)]; all_goals first | rfl | (congr 1; simp only [List.cons.injEq, and_true]; omega)
        have hcv := bytes_four w (240 + a) (128 + d) (128 + b) (128 + c) w.heap.size rfl
        go_enter Tryz.func75, Tryz.ntmps75
        go_wp2
        go_ret
        exact ⟨by rw [hfin.out]; rfl, DD.out _⟩

theorem hex_slice (k : Nat) (h : k < 16) (wx : World) : (Instr.slice 9 (.string ⟨#[48, 49, 50, 51, 52, 53, 54, 55, 56, 57, 97, 98, 99, 100, 101, 102]⟩) (some (.int .i32 (k : Int))) (some (.int .i32 ((k : Int) + 1))) none).run Tryz.prog wx = .ok (.string (strOfNums [hexD k])) wx := by
  have : k = 0 ∨ k = 1 ∨ k = 2 ∨ k = 3 ∨ k = 4 ∨ k = 5 ∨ k = 6 ∨ k = 7 ∨ k = 8 ∨ k = 9 ∨ k = 10 ∨ k = 11 ∨ k = 12 ∨ k = 13 ∨ k = 14 ∨ k = 15 := by omega
  rcases this with rfl | rfl | rfl | rfl | rfl | rfl | rfl | rfl | rfl | rfl | rfl | rfl | rfl | rfl | rfl | rfl <;> (show _ = _; kernel_rfl)

set_option maxRecDepth 100000 in
set_option maxHeartbeats 1000000 in
theorem rhex_any (n : Nat) : ∀ w : World, n ≤ 1114111 → Calls Tryz.prog 74 #[.int .i32 n] w fun e w' => e = .returned (.string (strOfNums (hexL n))) ∧ Below w.heap.size w w' := by
  induction n using Nat.strongRecOn with
  | _ n ih =>
    intro w h1
    obtain ⟨k, hk⟩ : ∃ k : Nat, n % 16 = k := ⟨_, rfl⟩
    have k9 : k < 16 := by omega
    have tk : (n : Int).tmod 16 = (k : Int) := by rw [Int.tmod_eq_emod_of_nonneg (by omega)]; omega
    have wk : IntKind.i32.wrap (k : Int) = (k : Int) := by rw [IntKind.wrap_i32]; omega
    have wk2 : IntKind.i32.wrap ((k : Int) + 1) = (k : Int) + 1 := by rw [IntKind.wrap_i32]; omega
    have hsl := fun wx => hex_slice k k9 wx
    by_cases h : n < 16
    · have hfin : Hid (strOfNums (hexL n) = strOfNums [hexD k]) := by unfold Hid; rw [hexL_small h, ← hk, Nat.mod_eq_of_lt h]
      have hi : ¬ (n : Int) ≥ 16 := by omega
      clear ih
      go_enter Tryz.func74, Tryz.ntmps74
      go_wp2
      go_ret
      exact ⟨by rw [hfin.out]; rfl, Below.refl _ _⟩
    · obtain ⟨q, hq⟩ : ∃ q : Nat, n / 16 = q := ⟨_, rfl⟩
      have IH := Lib.hid (fun w => ih q (by omega) w (by omega))
      have tq : (n : Int).tdiv 16 = (q : Int) := by rw [Int.tdiv_eq_ediv_of_nonneg (by omega)]; omega
      have wq : IntKind.i32.wrap (q : Int) = (q : Int) := by rw [IntKind.wrap_i32]; omega
      have h16 : (16 : Nat) ^ (5 + 1) = 16777216 := by decide
      have hlq : (strOfNums (hexL q)).size ≤ 6 := by rw [strOfNums_size]; exact hexL_len q 5 (by omega)
      have hl1 : (strOfNums [hexD k]).size = 1 := by rw [strOfNums_size]; rfl
      have hs : ¬ 9223372036854775807 < (strOfNums (hexL q)).size + (strOfNums [hexD k]).size := by omega
      have hfin : Hid (strOfNums (hexL n) = strOfNums (hexL q) ++ strOfNums [hexD k]) := by unfold Hid; rw [hexL_big h, hk, hq, strOfNums_append]
      have hi : (16 : Int) ≤ n := by omega
      clear ih h hl1
      go_enter Tryz.func74, Tryz.ntmps74
      go_wp2_with (go_at_call 74; (with_reducible refine (IH.out _).mono ?_); rintro e w1 ⟨rfl, g⟩)
      go_ret
      exact ⟨by rw [hfin.out]; rfl, g⟩

end Go.Proofs.YtmgimkokmlcllaaGreatDoor

/-
  The document's own Good, Letter, Name, Bytes, hex, digit, walked.
-/
namespace Go.Proofs.YtmgimkokmlcllaaGreatDoor
open Go.RowKit

theorem runes_len (zs : List Int) : (runesOf zs).length ≤ zs.length := by
  have key : ∀ n i, zs.length - i ≤ n → (rfrom zs i).length ≤ zs.length - i := by
    intro n
    induction n with
    | zero => intro i hi; rw [rfrom_out (by omega)]; simp
    | succ n ih =>
      intro i hi
      by_cases h : i < zs.length
      · rw [rfrom_in h, List.length_cons]
        have h1 := widA_pos zs i
        have h2 := ih (i + widA zs i) (by omega)
        omega
      · rw [rfrom_out h]; simp
  have := key zs.length 0 (by omega)
  unfold runesOf; omega
theorem runes_bd (zs : List Int) (hz : ∀ z ∈ zs, 0 ≤ z ∧ z ≤ 255) : ∀ z ∈ runesOf zs, -1 ≤ z ∧ z ≤ 1114111 := by
  have key : ∀ n i, zs.length - i ≤ n → ∀ z ∈ rfrom zs i, -1 ≤ z ∧ z ≤ 1114111 := by
    intro n
    induction n with
    | zero => intro i hi z hm; rw [rfrom_out (by omega)] at hm; cases hm
    | succ n ih =>
      intro i hi z hm
      by_cases h : i < zs.length
      · rw [rfrom_in h, List.mem_cons] at hm
        rcases hm with rfl | hm
        · refine runeA_le zs i ?_
          rw [List.getD_eq_getElem?_getD, List.getElem?_eq_getElem h]
          exact (hz _ (List.getElem_mem h)).1
        · have h1 := widA_pos zs i
          exact ih (i + widA zs i) (by omega) z hm
      · rw [rfrom_out h] at hm; cases hm
  exact key zs.length 0 (by omega)
theorem getD_bd {l : List Int} (h : ∀ z ∈ l, -1 ≤ z ∧ z ≤ 1114111) {i : Nat} (hi : i < l.length) : -1 ≤ l.getD i 0 ∧ l.getD i 0 ≤ 1114111 := by
  rw [List.getD_eq_getElem?_getD, List.getElem?_eq_getElem hi]
  exact h _ (List.getElem_mem hi)

def GivesQ (A : Prop) (w : World) (e : Ending) (w' : World) : Prop := ∃ q : Bool, e = .returned (.bool q) ∧ (q = true ↔ A) ∧ Below w.heap.size w w'
theorem GivesQ.yes {A : Prop} {w w' : World} (h : A) (hb : Below w.heap.size w w') : GivesQ A w (.returned (.bool true)) w' := ⟨true, rfl, ⟨fun _ => h, fun _ => rfl⟩, hb⟩
theorem GivesQ.no {A : Prop} {w w' : World} (h : ¬ A) (hb : Below w.heap.size w w') : GivesQ A w (.returned (.bool false)) w' := ⟨false, rfl, ⟨fun e => Bool.noConfusion e, fun e => (h e).elim⟩, hb⟩

theorem rletter_any (r : Int) (w : World) : Calls Tryz.prog 72 #[.int .i32 r] w fun e w' => e = .returned (.bool (letterB r)) ∧ w = w' := by
  obtain ⟨q, hq⟩ : ∃ q, letterB r = q := ⟨_, rfl⟩
  rw [hq]
  have HQ := Lib.hid hq
  clear hq
  by_cases h1 : 97 ≤ r
  · by_cases h2 : r ≤ 122
    · obtain rfl : q = true := by rw [← HQ.out]; unfold letterB; simp [h1, h2]
      go_enter Tryz.func72, Tryz.ntmps72
      go_wp2
      go_ret
      exact ⟨rfl, rfl⟩
    · by_cases h3 : r < 192
      · obtain rfl : q = false := by rw [← HQ.out]; unfold letterB; simp; omega
        have g1 : ¬ r ≤ 90 := by omega
        have g2 : ¬ 880 ≤ r := by omega
        have g3 : ¬ 192 ≤ r := by omega
        go_enter Tryz.func72, Tryz.ntmps72
        go_wp2
        go_ret
        exact ⟨rfl, rfl⟩
      · have g1 : ¬ r ≤ 90 := by omega
        have g3 : 192 ≤ r := by omega
        by_cases h4 : r ≤ 591
        · by_cases h5 : r = 215
          · subst h5
            obtain rfl : q = false := by rw [← HQ.out]; decide
            go_enter Tryz.func72, Tryz.ntmps72
            go_wp2
            go_ret
            exact ⟨rfl, rfl⟩
          · by_cases h6 : r = 247
            · subst h6
              obtain rfl : q = false := by rw [← HQ.out]; decide
              go_enter Tryz.func72, Tryz.ntmps72
              go_wp2
              go_ret
              exact ⟨rfl, rfl⟩
            · obtain rfl : q = true := by rw [← HQ.out]; unfold letterB; simp; omega
              have d1 : (r == 215) = false := by simpa using h5
              have d2 : (r == 247) = false := by simpa using h6
              have d3 : (r != 215) = true := by simpa using h5
              have d4 : (r != 247) = true := by simpa using h6
              go_enter Tryz.func72, Tryz.ntmps72
              go_wp2
              go_ret
              exact ⟨rfl, rfl⟩
        · by_cases h5 : 880 ≤ r
          · by_cases h6 : r ≤ 1279
            · obtain rfl : q = true := by rw [← HQ.out]; unfold letterB; simp; omega
              go_enter Tryz.func72, Tryz.ntmps72
              go_wp2
              go_ret
              exact ⟨rfl, rfl⟩
            · obtain rfl : q = false := by rw [← HQ.out]; unfold letterB; simp; omega
              have d1 : decide (r ≤ 1279) = false := by simp; omega
              go_enter Tryz.func72, Tryz.ntmps72
              go_wp2
              go_ret
              exact ⟨rfl, rfl⟩
          · obtain rfl : q = false := by rw [← HQ.out]; unfold letterB; simp; omega
            have d1 : decide (r ≥ 880) = false := by simp; omega
            go_enter Tryz.func72, Tryz.ntmps72
            go_wp2
            go_ret
            exact ⟨rfl, rfl⟩
  · by_cases h2 : 65 ≤ r
    · by_cases h3 : r ≤ 90
      · obtain rfl : q = true := by rw [← HQ.out]; unfold letterB; simp [h2, h3]
        go_enter Tryz.func72, Tryz.ntmps72
        go_wp2
        go_ret
        exact ⟨rfl, rfl⟩
      · obtain rfl : q = false := by rw [← HQ.out]; unfold letterB; simp; omega
        have g2 : ¬ 880 ≤ r := by omega
        have g3 : ¬ 192 ≤ r := by omega
        go_enter Tryz.func72, Tryz.ntmps72
        go_wp2
        go_ret
        exact ⟨rfl, rfl⟩
    · obtain rfl : q = false := by rw [← HQ.out]; unfold letterB; simp; omega
      have g2 : ¬ 880 ≤ r := by omega
      have g3 : ¬ 192 ≤ r := by omega
      go_enter Tryz.func72, Tryz.ntmps72
      go_wp2
      go_ret
      exact ⟨rfl, rfl⟩

set_option maxRecDepth 100000 in
set_option maxHeartbeats 1000000 in
theorem rgood_any (s : ByteArray) (w : World) (hm : s.size ≤ 4294967296) : Calls Tryz.prog 73 #[.string s] w (GivesQ (GoodL (runesOf (nums s))) w) := by
  have hll := runes_len (nums s)
  rw [nums_length] at hll
  obtain ⟨l, hl⟩ : ∃ l, runesOf (nums s) = l := ⟨_, rfl⟩
  have R := Lib.hid (fun w => rrunes_any s w hm)
  rw [hl] at R hll ⊢
  clear hl
  go_enter Tryz.func73, Tryz.ntmps73
  go_wp2_with (go_at_call 71; (with_reducible refine (R.out _).mono ?_); rintro e w1 ⟨v, rfl, ⟨b, off, cap, rfl, hcap, hb, hcell⟩, g, _⟩; have G := Lib.hid g; clear g)
  have HC := Lib.hid hcell
  clear hcell
  go_loop [4] (fun v4 => ∃ i : Nat, i ≤ l.length ∧ v4 = .int .i64 i ∧ Hid (∀ j, j < i → 0 ≤ l.getD j 0)) (fun v4 => l.length - (intOf v4).toNat)
  case atStart => exact ⟨0, Nat.zero_le _, rfl, Lib.hid (fun j hj => by omega)⟩
  case round =>
    obtain ⟨i, hi, rfl, hall⟩ := hrel
    by_cases h1 : i < l.length
    · have hx := HC.out i h1
      obtain ⟨z, hz⟩ : ∃ z, l.getD i 0 = z := ⟨_, rfl⟩
      rw [hz] at hx
      have HZ := Lib.hid hz
      clear hz
      by_cases h2 : z < 0
      · have hbad := Lib.hid (GoodL.of_not h1 (by rw [HZ.out]; exact h2))
        go_wp2
        go_ret
        exact GivesQ.no hbad.out G.out
      · have hall' : Hid (∀ j, j < i + 1 → 0 ≤ l.getD j 0) := fun j hj => by
          by_cases e : j = i
          · rw [e, HZ.out]; omega
          · exact hall.out j (by omega)
        go_wp2
        go_round
        case rel => exact ⟨i + 1, by omega, by go_num, hall'⟩
        case measure => simp [intOf]; omega
    · have hfin : Hid (GoodL l) := fun j hj => hall.out j (by omega)
      go_wp2
      go_ret
      exact GivesQ.yes hfin.out G.out

end Go.Proofs.YtmgimkokmlcllaaGreatDoor

/-
  The document's own Name and Quote, walked.
-/
namespace Go.Proofs.YtmgimkokmlcllaaGreatDoor
open Go.RowKit

theorem rletter_is {r : Int} {q : Bool} (h : letterB r = q) (w : World) : Calls Tryz.prog 72 #[.int .i32 r] w fun e w' => e = .returned (.bool q) ∧ w = w' := by
  subst h; exact rletter_any r w
theorem letter_high {r : Int} (h : letterB r = true) : 57 < r := by
  unfold letterB at h
  simp at h
  omega
theorem NameL.bad {l : List Int} {i : Nat} (hi : i < l.length) (h : nameOk l i = false) : ¬ NameL l := fun g => by have := g.2.2.2 i hi; rw [h] at this; cases this

set_option maxRecDepth 100000 in
set_option maxHeartbeats 4000000 in
theorem rname_any (s : ByteArray) (w : World) (hm : s.size ≤ 4294967296) : Calls Tryz.prog 43 #[.string s] w (GivesQ (NameL (runesOf (nums s))) w) := by
  have hll := runes_len (nums s)
  rw [nums_length] at hll
  obtain ⟨l, hl⟩ : ∃ l, runesOf (nums s) = l := ⟨_, rfl⟩
  have R := Lib.hid (fun w => rrunes_any s w hm)
  rw [hl] at R hll ⊢
  clear hl
  by_cases h0 : l.length = 0
  · have hbad : Hid (¬ NameL l) := fun g => by have h5 : 1 ≤ l.length := g.1; omega
    have hz : ((l.length : Int) == 0) = true := by rw [h0]; rfl
    clear h0
    go_enter Tryz.func43, Tryz.ntmps43
    go_wp2_with (go_at_call 71; (with_reducible refine (R.out _).mono ?_); rintro e w1 ⟨v, rfl, ⟨b, off, cap, rfl, hcap, hb, hcell⟩, g, _⟩; have G := Lib.hid g; clear g)
    go_ret
    exact GivesQ.no hbad.out G.out
  · have hz : ((l.length : Int) == 0) = false := beq_eq_false_iff_ne.mpr (by omega)
    have hz2 : ¬ (l.length : Int) = 0 := by omega
    have hpos : 0 < l.length := by omega
    by_cases h24 : 24 < l.length
    · have hbad : Hid (¬ NameL l) := fun g => by have h5 : l.length ≤ 24 := g.2.1; omega
      clear h0
      go_enter Tryz.func43, Tryz.ntmps43
      go_wp2_with (go_at_call 71; (with_reducible refine (R.out _).mono ?_); rintro e w1 ⟨v, rfl, ⟨b, off, cap, rfl, hcap, hb, hcell⟩, g, _⟩; have G := Lib.hid g; clear g)
      go_ret
      exact GivesQ.no hbad.out G.out
    · have hl24 : l.length ≤ 24 := by omega
      clear h24 h0
      obtain ⟨z0, hz0⟩ : ∃ z, l.getD 0 0 = z := ⟨_, rfl⟩
      have HZ0 := Lib.hid hz0
      clear hz0
      obtain ⟨q0, hq0⟩ : ∃ q, letterB z0 = q := ⟨_, rfl⟩
      have RL := Lib.hid (fun w => rletter_is hq0 w)
      have HQ0 := Lib.hid hq0
      clear hq0
      cases q0 with
      | false =>
        have hbad : Hid (¬ NameL l) := fun g => by have h5 := g.2.2.1; rw [HZ0.out, HQ0.out] at h5; cases h5
        go_enter Tryz.func43, Tryz.ntmps43
        go_wp2_with (first
          | (go_at_call 71; (with_reducible refine (R.out _).mono ?_); rintro e w1 ⟨v, rfl, ⟨b, off, cap, rfl, hcap, hb, hcell⟩, g, _⟩; have G := Lib.hid g; clear g; have hc0 := hcell 0 hpos; rw [HZ0.out, Nat.add_zero] at hc0; clear hcell)
          | (go_at_call 72; (with_reducible refine (RL.out _).mono ?_); rintro e w2 ⟨rfl, rfl⟩))
        go_ret
        exact GivesQ.no hbad.out G.out
      | true =>
        go_enter Tryz.func43, Tryz.ntmps43
        go_wp2_with (first
          | (go_at_call 71; (with_reducible refine (R.out _).mono ?_); rintro e w1 ⟨v, rfl, ⟨b, off, cap, rfl, hcap, hb, hcell⟩, g, _⟩; have G := Lib.hid g; clear g; have HC := Lib.hid hcell; have hc0 := hcell 0 hpos; rw [HZ0.out, Nat.add_zero] at hc0; clear hcell)
          | (go_at_call 72; (with_reducible refine (RL.out _).mono ?_); rintro e w2 ⟨rfl, rfl⟩))
        go_loop [4] (fun v4 => ∃ i : Nat, i ≤ l.length ∧ v4 = .int .i64 i ∧ Hid (∀ j, j < i → nameOk l j = true)) (fun v4 => l.length - (intOf v4).toNat)
        case atStart => exact ⟨0, Nat.zero_le _, rfl, Lib.hid (fun j hj => by omega)⟩
        case round =>
          clear hc0
          obtain ⟨i, hi, rfl, hall⟩ := hrel
          by_cases h1 : i < l.length
          · have hx := HC.out i h1
            obtain ⟨z, hz⟩ : ∃ z, l.getD i 0 = z := ⟨_, rfl⟩
            rw [hz] at hx
            have HZ := Lib.hid hz
            clear hz
            obtain ⟨q, hq⟩ : ∃ q, letterB z = q := ⟨_, rfl⟩
            have RL := Lib.hid (fun w => rletter_is hq w)
            have HQ := Lib.hid hq
            clear hq
            have hok : Hid (nameOk l i = (q || digitB z || (decide (i + 1 ≠ l.length) && (decide (z = 95) || decide (z = 45))))) := by unfold Hid nameOk; rw [HZ.out, HQ.out]
            have hnext := Lib.hid (fun h : nameOk l i = true => fun (j : Nat) (hj : j < i + 1) => show nameOk l j = true from by
              by_cases e : j = i
              · rw [e]; exact h
              · exact hall.out j (by omega))
            cases q with
            | true =>
              have hh := letter_high HQ.out
              have hn := Lib.hid (hnext.out (by rw [hok.out]; rfl))
              go_wp2_with (go_at_call 72; (with_reducible refine (RL.out _).mono ?_); rintro e w2 ⟨rfl, rfl⟩)
              go_round
              case rel => exact ⟨i + 1, by omega, by go_num, hn⟩
              case measure => simp [intOf]; omega
            | false =>
              by_cases d1 : z < 48
              · have g1 : decide (z ≥ 48) = false := by simp; omega
                have e2 : (z == 95) = false := by simp; omega
                have e3 : (z != 95) = true := by simp; omega
                by_cases hend : i + 1 = l.length
                · have e1 : ((i : Int) == (l.length : Int) - 1) = true := by simp; omega
                  have hb2 := Lib.hid (NameL.bad h1 (by rw [hok.out]; unfold digitB; simp; omega))
                  go_wp2_with (go_at_call 72; (with_reducible refine (RL.out _).mono ?_); rintro e w2 ⟨rfl, rfl⟩)
                  go_ret
                  exact GivesQ.no hb2.out G.out
                · have e1 : ((i : Int) == (l.length : Int) - 1) = false := by simp; omega
                  by_cases hch : z = 45
                  · subst hch
                    have hn := Lib.hid (hnext.out (by rw [hok.out]; unfold digitB; simp; omega))
                    go_wp2_with (go_at_call 72; (with_reducible refine (RL.out _).mono ?_); rintro e w2 ⟨rfl, rfl⟩)
                    go_round
                    case rel => exact ⟨i + 1, by omega, by go_num, hn⟩
                    case measure => simp [intOf]; omega
                  · have e4 : (z == 45) = false := by simpa using hch
                    have e5 : (z != 45) = true := by simpa using hch
                    have hb2 := Lib.hid (NameL.bad h1 (by rw [hok.out]; unfold digitB; simp; omega))
                    go_wp2_with (go_at_call 72; (with_reducible refine (RL.out _).mono ?_); rintro e w2 ⟨rfl, rfl⟩)
                    go_ret
                    exact GivesQ.no hb2.out G.out
              · by_cases d2 : 57 < z
                · have g1 : decide (z ≤ 57) = false := by simp; omega
                  have e2 : (z == 45) = false := by simp; omega
                  have e3 : (z != 45) = true := by simp; omega
                  by_cases hend : i + 1 = l.length
                  · have e1 : ((i : Int) == (l.length : Int) - 1) = true := by simp; omega
                    have hb2 := Lib.hid (NameL.bad h1 (by rw [hok.out]; unfold digitB; simp; omega))
                    go_wp2_with (go_at_call 72; (with_reducible refine (RL.out _).mono ?_); rintro e w2 ⟨rfl, rfl⟩)
                    go_ret
                    exact GivesQ.no hb2.out G.out
                  · have e1 : ((i : Int) == (l.length : Int) - 1) = false := by simp; omega
                    by_cases hch : z = 95
                    · subst hch
                      have hn := Lib.hid (hnext.out (by rw [hok.out]; unfold digitB; simp; omega))
                      go_wp2_with (go_at_call 72; (with_reducible refine (RL.out _).mono ?_); rintro e w2 ⟨rfl, rfl⟩)
                      go_round
                      case rel => exact ⟨i + 1, by omega, by go_num, hn⟩
                      case measure => simp [intOf]; omega
                    · have e4 : (z == 95) = false := by simpa using hch
                      have e5 : (z != 95) = true := by simpa using hch
                      have hb2 := Lib.hid (NameL.bad h1 (by rw [hok.out]; unfold digitB; simp; omega))
                      go_wp2_with (go_at_call 72; (with_reducible refine (RL.out _).mono ?_); rintro e w2 ⟨rfl, rfl⟩)
                      go_ret
                      exact GivesQ.no hb2.out G.out
                · have d3 : z ≤ 57 := by omega
                  have hn := Lib.hid (hnext.out (by rw [hok.out]; unfold digitB; simp; omega))
                  go_wp2_with (go_at_call 72; (with_reducible refine (RL.out _).mono ?_); rintro e w2 ⟨rfl, rfl⟩)
                  go_round
                  case rel => exact ⟨i + 1, by omega, by go_num, hn⟩
                  case measure => simp [intOf]; omega
          · have hfin : Hid (NameL l) := ⟨hpos, hl24, by rw [HZ0.out]; exact HQ0.out, fun j hj => hall.out j (by omega)⟩
            go_wp2
            go_ret
            exact GivesQ.yes hfin.out G.out

end Go.Proofs.YtmgimkokmlcllaaGreatDoor

/-
  The document's own Quote, walked.
-/
namespace Go.Proofs.YtmgimkokmlcllaaGreatDoor
open Go.RowKit

theorem rbytes_is {r : Int} {t : List Int} (h : encL r = t) (w : World) (h0 : 0 ≤ r) (h1 : r ≤ 1114111) : Calls Tryz.prog 75 #[.int .i32 r] w fun e w' => e = .returned (.string (strOfNums t)) ∧ Below w.heap.size w w' := by
  subst h; exact rbytes_any r w h0 h1
theorem rhex_is {r : Int} {t : List Int} (h : hexL r.toNat = t) (w : World) (h0 : 0 ≤ r) (h1 : r ≤ 1114111) : Calls Tryz.prog 74 #[.int .i32 r] w fun e w' => e = .returned (.string (strOfNums t)) ∧ Below w.heap.size w w' := by
  subst h
  have := rhex_any r.toNat w (by omega)
  rwa [Int.toNat_of_nonneg h0] at this
theorem quoteB_len {l : List Int} (h : ∀ z ∈ l, -1 ≤ z ∧ z ≤ 1114111) : (quoteB l).length ≤ 9 * l.length := by
  induction l with
  | nil => simp [quoteB]
  | cons z l ih =>
    have h1 := quoteR_len (h z List.mem_cons_self).2
    have h2 := ih (fun x hx => h x (List.mem_cons_of_mem _ hx))
    unfold quoteB at *
    rw [List.flatMap_cons, List.length_append, List.length_cons]
    omega

set_option maxRecDepth 100000 in
set_option maxHeartbeats 4000000 in
theorem rquote_any (s : ByteArray) (w : World) (hm : s.size ≤ 4294967296) (hg : GoodL (runesOf (nums s))) :
    Calls Tryz.prog 45 #[.string s] w fun e w' => e = .returned (.string (strOfNums (quoteL (runesOf (nums s))))) ∧ Below w.heap.size w w' := by
  have hll := runes_len (nums s)
  rw [nums_length] at hll
  have hbd := runes_bd (nums s) (nums_byte s)
  obtain ⟨l, hl⟩ : ∃ l, runesOf (nums s) = l := ⟨_, rfl⟩
  have R := Lib.hid (fun w => rrunes_any s w hm)
  rw [hl] at R hll hbd hg ⊢
  clear hl
  have HG := Lib.hid hg
  have HBD := Lib.hid hbd
  clear hg hbd
  go_enter Tryz.func45, Tryz.ntmps45
  go_wp2_with (go_at_call 71; (with_reducible refine (R.out _).mono ?_); rintro e w1 ⟨v, rfl, ⟨b, off, cap, rfl, hcap, hb, hcell⟩, g, _⟩; have G := Lib.hid g; clear g; have HC := Lib.hid hcell; clear hcell)
  go_loopw [3, 5] (fun v3 v5 wr => ∃ i : Nat, i ≤ l.length ∧ v3 = .string (strOfNums ([34] ++ quoteB (l.take i))) ∧ v5 = .int .i64 i ∧ Below w1.heap.size w1 wr) (fun _ v5 _ => l.length - (intOf v5).toNat)
  case atStart => exact ⟨0, Nat.zero_le _, rfl, rfl, Below.refl _ _⟩
  case round =>
    obtain ⟨i, hi, rfl, rfl, hbel⟩ := hrel
    have HB := Lib.hid hbel
    clear hbel
    obtain ⟨xs, hxs⟩ : ∃ xs, [34] ++ quoteB (l.take i) = xs := ⟨_, rfl⟩
    have hlx : (strOfNums xs).size ≤ 1 + 9 * i := by
      rw [strOfNums_size, ← hxs, List.length_append]
      have h5 := quoteB_len (l := l.take i) (fun z hz => HBD.out z (List.mem_of_mem_take hz))
      rw [List.length_take] at h5
      simp only [List.length_cons, List.length_nil]
      omega
    rw [hxs]
    have HX := Lib.hid hxs
    clear hxs
    by_cases h1 : i < l.length
    · have hx : wr.cell? ⟨b, off + i, none⟩ = some (.int .i32 (l.getD i 0)) := (HB.out.cell (p := ⟨b, off + i, none⟩) hb).trans (HC.out i h1)
      have z0 := HG.out i h1
      have z1 := (getD_bd HBD.out h1).2
      obtain ⟨z, hz⟩ : ∃ z, l.getD i 0 = z := ⟨_, rfl⟩
      rw [hz] at hx z0 z1
      have hst : Hid (∀ t, quoteR z = t → strOfNums xs ++ strOfNums t = strOfNums ([34] ++ quoteB (l.take (i + 1)))) := fun t ht => by
        rw [take_snoc h1, quoteB_snoc, hz, ht, ← List.append_assoc, HX.out, strOfNums_append]
      clear hz
      by_cases k34 : z = 34
      · subst k34
        have hs := Lib.hid (hst.out [92, 34] rfl)
        have hsz : ¬ 9223372036854775807 < (strOfNums xs).size + 2 := by omega
        go_wp2
        go_roundw
        case rel => exact ⟨i + 1, by omega, by rw [← hs.out]; rfl, by go_num, HB.out⟩
        case measure => simp [intOf]; omega
      have n34 : (z == 34) = false := by simpa using k34
      by_cases k92 : z = 92
      · subst k92
        have hs := Lib.hid (hst.out [92, 92] rfl)
        have hsz : ¬ 9223372036854775807 < (strOfNums xs).size + 2 := by omega
        go_wp2
        go_roundw
        case rel => exact ⟨i + 1, by omega, by rw [← hs.out]; rfl, by go_num, HB.out⟩
        case measure => simp [intOf]; omega
      have n92 : (z == 92) = false := by simpa using k92
      by_cases k10 : z = 10
      · subst k10
        have hs := Lib.hid (hst.out [92, 110] rfl)
        have hsz : ¬ 9223372036854775807 < (strOfNums xs).size + 2 := by omega
        go_wp2
        go_roundw
        case rel => exact ⟨i + 1, by omega, by rw [← hs.out]; rfl, by go_num, HB.out⟩
        case measure => simp [intOf]; omega
      have n10 : (z == 10) = false := by simpa using k10
      by_cases k9 : z = 9
      · subst k9
        have hs := Lib.hid (hst.out [92, 116] rfl)
        have hsz : ¬ 9223372036854775807 < (strOfNums xs).size + 2 := by omega
        go_wp2
        go_roundw
        case rel => exact ⟨i + 1, by omega, by rw [← hs.out]; rfl, by go_num, HB.out⟩
        case measure => simp [intOf]; omega
      have n9 : (z == 9) = false := by simpa using k9
      have hnq : Hid (quoteR z = if z < 32 ∨ z = 127 then [92, 117, 123] ++ hexL z.toNat ++ [125] else encL z) := by unfold Hid quoteR; rw [if_neg k34, if_neg k92, if_neg k10, if_neg k9]
      obtain ⟨t, ht⟩ : ∃ t, hexL z.toNat = t := ⟨_, rfl⟩
      have HH := Lib.hid (fun w => rhex_is ht w z0 z1)
      by_cases k32 : z < 32
      · have g9 : z < 32 := k32
        have hs : Hid (strOfNums xs ++ ⟨#[92, 117, 123]⟩ ++ strOfNums t ++ ⟨#[125]⟩ = strOfNums ([34] ++ quoteB (l.take (i + 1)))) := by
          unfold Hid
          rw [← hst.out ([92, 117, 123] ++ t ++ [125]) (by rw [hnq.out, if_pos (by omega), ht]), ← strOfNums_append, ← strOfNums_append, ByteArray.append_assoc, ByteArray.append_assoc, ByteArray.append_assoc]
          rfl
        have hlt : (strOfNums t).size ≤ 2 := by rw [strOfNums_size, ← ht]; exact hexL_len _ 1 (by omega)
        have s1 : ¬ 9223372036854775807 < (strOfNums xs).size + 3 := by omega
        have s2 : ¬ 9223372036854775807 < (strOfNums xs).size + 3 + (strOfNums t).size := by omega
        have s3 : ¬ 9223372036854775807 < (strOfNums xs).size + 3 + (strOfNums t).size + 1 := by omega
        clear ht
        go_wp2_with (go_at_call 74; (with_reducible refine (HH.out _).mono ?_); rintro e w2 ⟨rfl, g⟩; have B2 := Lib.hid (below_step HB.out g); clear g)
        go_roundw
        case rel => exact ⟨i + 1, by omega, by rw [← hs.out], by go_num, B2.out⟩
        case measure => simp [intOf]; omega
      by_cases k127 : z = 127
      · subst k127
        have hs : Hid (strOfNums xs ++ ⟨#[92, 117, 123]⟩ ++ strOfNums t ++ ⟨#[125]⟩ = strOfNums ([34] ++ quoteB (l.take (i + 1)))) := by
          unfold Hid
          rw [← hst.out ([92, 117, 123] ++ t ++ [125]) (by rw [hnq.out, if_pos (by omega), ht]), ← strOfNums_append, ← strOfNums_append, ByteArray.append_assoc, ByteArray.append_assoc, ByteArray.append_assoc]
          rfl
        have hlt : (strOfNums t).size ≤ 2 := by rw [strOfNums_size, ← ht]; exact hexL_len _ 1 (by omega)
        have s1 : ¬ 9223372036854775807 < (strOfNums xs).size + 3 := by omega
        have s2 : ¬ 9223372036854775807 < (strOfNums xs).size + 3 + (strOfNums t).size := by omega
        have s3 : ¬ 9223372036854775807 < (strOfNums xs).size + 3 + (strOfNums t).size + 1 := by omega
        clear ht
        go_wp2_with (go_at_call 74; (with_reducible refine (HH.out _).mono ?_); rintro e w2 ⟨rfl, g⟩; have B2 := Lib.hid (below_step HB.out g); clear g)
        go_roundw
        case rel => exact ⟨i + 1, by omega, by rw [← hs.out], by go_num, B2.out⟩
        case measure => simp [intOf]; omega
      have n127 : (z == 127) = false := by simpa using k127
      obtain ⟨u, hu⟩ : ∃ u, encL z = u := ⟨_, rfl⟩
      have HU := Lib.hid (fun w => rbytes_is hu w z0 z1)
      have hs := Lib.hid (hst.out u (by rw [hnq.out, if_neg (by omega), hu]))
      have hlu : (strOfNums u).size ≤ 4 := by rw [strOfNums_size, ← hu]; exact encL_len z
      have s1 : ¬ 9223372036854775807 < (strOfNums xs).size + (strOfNums u).size := by omega
      clear ht hu
      go_wp2_with (go_at_call 75; (with_reducible refine (HU.out _).mono ?_); rintro e w2 ⟨rfl, g⟩; have B2 := Lib.hid (below_step HB.out g); clear g)
      go_roundw
      case rel => exact ⟨i + 1, by omega, by rw [← hs.out], by go_num, B2.out⟩
      case measure => simp [intOf]; omega
    · have hfin : Hid (strOfNums xs ++ ⟨#[34]⟩ = strOfNums (quoteL l)) := by
        have e : i = l.length := by omega
        unfold Hid quoteL
        rw [← HX.out, e, List.take_length, show (⟨#[34]⟩ : ByteArray) = strOfNums [34] from rfl, strOfNums_append]
      have s1 : ¬ 9223372036854775807 < (strOfNums xs).size + 1 := by omega
      go_wp2
      go_ret
      exact ⟨by rw [← hfin.out]; rfl, below_step G.out HB.out⟩

end Go.Proofs.YtmgimkokmlcllaaGreatDoor
