/-
  Package text's reader of quoted texts, rune by rune: its calls, walked.
-/
import Derived.Test.YtkhmaiggcihneaaDoorTxtF
import Derived.Test.YtkhmaiggcihneaaDoorTxtK
namespace Go.Proofs.YtkhmaiggcihneaaDoor
open Go.RowKit

theorem encs_len (xs : List Int) : (xs.flatMap encL).length ≤ 4 * xs.length := by
  induction xs with
  | nil => simp
  | cons x xs ih =>
    have := encL_len x
    simp only [List.flatMap_cons, List.length_append, List.length_cons]
    omega
theorem encs_snoc (xs : List Int) (r : Int) : (xs ++ [r]).flatMap encL = xs.flatMap encL ++ encL r := by simp
theorem encs_byte {xs : List Int} (h : ∀ r ∈ xs, RuneOk r) : ∀ z ∈ xs.flatMap encL, 0 ≤ z ∧ z ≤ 255 := by
  intro z hz
  obtain ⟨r, hr, hz⟩ := List.mem_flatMap.mp hz
  exact encL_byte (h r hr).1 (h r hr).2.1 z hz

theorem ustep_norm (xs : List Int) (r : Int) : ustep (.norm xs) r = if r = 34 then .done xs else if r < 32 ∨ r = 127 then .dead else if r = 92 then .esc xs else .norm (xs ++ [r]) := rfl
theorem ustep_esc (xs : List Int) (r : Int) : ustep (.esc xs) r = if r = 34 ∨ r = 92 then .norm (xs ++ [r]) else if r = 110 then .norm (xs ++ [10]) else if r = 116 then .norm (xs ++ [9]) else if r = 117 then .uni xs else .dead := rfl

set_option maxRecDepth 100000 in
theorem rwrite_any (B b : Nat) (a n d : Int) (zs : List Int) (r : Int) (hr : RuneOk r) (w : World) (h : RdF B b a n d zs w) (hlen : zs.length + 4 ≤ 140737488355328) (hBw : B ≤ w.heap.size) :
    Calls Tryd.prog 43 #[.pointer (some ⟨b, 0, none⟩), .int .i32 r] w fun e w' => e = .returned (.tuple #[]) ∧ RdF B b 1 n d (zs ++ encL r) w' ∧ KF B b w w' := by
  have hB := Lib.hid h.hB
  have HW := Lib.hid (wruner_any B b a n d zs r hr w h hlen hBw)
  clear h hr
  go_enter Tryd.func43, Tryd.ntmps43
  go_wp2_with (go_at_call 42; (with_reducible refine HW.out.mono ?_); rintro e w1 ⟨⟨k, rfl⟩, h1, k1⟩; have H1 := Lib.hid h1; have K1 := Lib.hid k1; have hc := h1.cells; clear h1 k1; obtain ⟨c0, c3, c4, hf⟩ := hc; have f0 := hf 0; clear hf)
  go_end0
  exact ⟨rfl, H1.out.put0 1, K1.out.put hB.out _ _⟩

set_option maxRecDepth 100000 in
theorem radd_any (B b : Nat) (a n d : Int) (zs : List Int) (g : Int) (n0 : 0 ≤ n) (n1 : n ≤ 1048575) (g0 : 0 ≤ g) (g1 : g ≤ 15) (d0 : 0 ≤ d) (d1 : d ≤ 5) (w : World) (h : RdF B b a n d zs w) :
    Calls Tryd.prog 45 #[.pointer (some ⟨b, 0, none⟩), .int .i32 g] w fun e w' => e = .returned (.tuple #[]) ∧ RdF B b a (n * 16 + g) (d + 1) zs w' ∧ KF B b w w' := by
  have hB := Lib.hid h.hB
  have hw1 : IntKind.i32.wrap (n * 16) = n * 16 := by rw [IntKind.wrap_i32]; omega
  have hw2 : IntKind.i32.wrap (n * 16 + g) = n * 16 + g := by rw [IntKind.wrap_i32]; omega
  have hw3 : IntKind.i64.wrap (d + 1) = d + 1 := by rw [IntKind.wrap_i64]; omega
  have H1 := Lib.hid h
  have hc := h.cells
  clear h
  obtain ⟨c0, c3, c4, hf⟩ := hc
  have f3 := hf 3
  have f4 := hf 4
  have e4 : (w.setCell ⟨b, 3, none⟩ (.int .i32 (n * 16 + g))).cell? ⟨b, 4, none⟩ = some (.int .i64 d) := ((H1.out.put3 (n * 16 + g)).cells).2.2.1
  clear hf
  go_enter Tryd.func45, Tryd.ntmps45
  go_wp2
  go_end0
  exact ⟨rfl, (H1.out.put3 _).put4 _, ((KF.refl _ _ _).put hB.out _ _).put hB.out _ _⟩

/-- What a reader holds behind some runes. -/
def qxs : Qs → List Int
  | .start => [] | .norm xs => xs | .esc xs => xs | .uni xs => xs | .hex xs _ _ => xs | .done xs => xs | .dead => []
def qat : Qs → Int
  | .start => 0 | .norm _ => 1 | .esc _ => 2 | .uni _ => 3 | .hex _ _ _ => 4 | .done _ => 5 | .dead => 6
def qnum : Qs → Int → Int → Prop
  | .uni _, n, d => n = 0 ∧ d = 0
  | .hex _ k x, n, d => n = x ∧ d = k ∧ k ≤ 6 ∧ 0 ≤ x ∧ x < ((16 ^ k : Nat) : Int)
  | _, _, _ => True
structure RS (B b m : Nat) (u : Qs) (w : World) : Prop where
  ok : ∀ r ∈ qxs u, RuneOk r
  len : (qxs u).length ≤ m
  rd : ∃ n d, RdF B b (qat u) n d ((qxs u).flatMap encL) w ∧ qnum u n d
/-- What comes of a rune. -/
def TK (B b m : Nat) (u : Qs) (r : Int) (w : World) (e : Ending) (w' : World) : Prop :=
  KF B b w w' ∧ ((e = .returned (.bool true) ∧ ustep u r ≠ .dead ∧ RS B b (m + 1) (ustep u r) w') ∨ (e = .returned (.bool false) ∧ ustep u r = .dead))
theorem TK.no {B b m : Nat} {u : Qs} {r : Int} {w w' : World} (h : ustep u r = .dead) (k : KF B b w w') : TK B b m u r w (.returned (.bool false)) w' := ⟨k, Or.inr ⟨rfl, h⟩⟩
theorem TK.yes {B b m : Nat} {u v : Qs} {r : Int} {w w' : World} (h : ustep u r = v) (hv : v ≠ .dead) (g : RS B b (m + 1) v w') (k : KF B b w w') : TK B b m u r w (.returned (.bool true)) w' := ⟨k, Or.inl ⟨rfl, by rw [h]; exact hv, by rw [h]; exact g⟩⟩
theorem ok_snoc {xs : List Int} {r : Int} (h : ∀ r ∈ xs, RuneOk r) (hr : RuneOk r) : ∀ y ∈ xs ++ [r], RuneOk y := by
  intro y hy
  rcases List.mem_append.mp hy with hy | hy
  · exact h y hy
  · obtain rfl : y = r := by simpa using hy
    exact hr

set_option maxRecDepth 100000 in
set_option maxHeartbeats 2000000 in
theorem tbetween_any (B b m : Nat) (xs : List Int) (r : Int) (hr : RuneOk r) (w : World) (h : RS B b m (.norm xs) w) (hm : m ≤ 4294967296) (hBw : B ≤ w.heap.size) :
    Calls Tryd.prog 37 #[.pointer (some ⟨b, 0, none⟩), .int .i32 r] w (TK B b m (.norm xs) r w) := by
  obtain ⟨hok, hlen, n, d, hrd, _⟩ := h
  have HO := Lib.hid hok
  have HL := Lib.hid hlen
  have HR := Lib.hid hrd
  have hB := Lib.hid hrd.hB
  have hc := hrd.cells
  obtain ⟨c0, c3, c4, hf⟩ := hc
  have f0 := hf 0
  clear hok hlen hrd hf
  by_cases h34 : r = 34
  · subst h34
    go_enter Tryd.func37, Tryd.ntmps37
    go_wp2
    go_ret
    exact TK.yes (v := .done xs) (by rw [ustep_norm, if_pos rfl]) (by intro e; cases e) ⟨HO.out, Nat.le_succ_of_le HL.out, n, d, HR.out.put0 5, trivial⟩ ((KF.refl _ _ _).put hB.out _ _)
  · by_cases h92 : r = 92
    · subst h92
      go_enter Tryd.func37, Tryd.ntmps37
      go_wp2
      go_ret
      exact TK.yes (v := .esc xs) (by rw [ustep_norm, if_neg (by decide), if_neg (by decide), if_pos rfl]) (by intro e; cases e) ⟨HO.out, Nat.le_succ_of_le HL.out, n, d, HR.out.put0 2, trivial⟩ ((KF.refl _ _ _).put hB.out _ _)
    · have e34 : (r == 34) = false := by simpa using h34
      have e92 : (r == 92) = false := by simpa using h92
      by_cases hp : 32 ≤ r ∧ r ≠ 127
      · have hpl : plainB r = true := by unfold plainB; simp [hp.1, hp.2, h34, h92]
        have RP := Lib.hid (fun w => tplain_is hpl w)
        have hu : Hid (ustep (.norm xs) r = .norm (xs ++ [r])) := by unfold Hid; rw [ustep_norm, if_neg h34, if_neg (by omega), if_neg h92]
        have HW := Lib.hid (wruner_any B b 1 n d _ r hr w HR.out (by have := encs_len xs; have := HL.out; have e : (qxs (.norm xs)) = xs := rfl; rw [e] at this ⊢; omega) hBw)
        have HRr := Lib.hid hr
        clear hp hpl hr h34 h92
        go_enter Tryd.func37, Tryd.ntmps37
        go_wp2_with (first
          | (go_at_call 35; (with_reducible refine (RP.out _).mono ?_); rintro e w1 ⟨rfl, rfl⟩)
          | (go_at_call 42; (with_reducible refine HW.out.mono ?_); rintro e w1 ⟨⟨k, rfl⟩, h1, k1⟩; have H1 := Lib.hid h1; have K1 := Lib.hid k1; clear h1 k1))
        go_ret
        refine TK.yes hu.out (by intro e; cases e) ⟨ok_snoc HO.out HRr.out, ?_, n, d, ?_, trivial⟩ K1.out
        · have := HL.out
          show (xs ++ [r]).length ≤ m + 1
          rw [List.length_append]
          exact Nat.succ_le_succ this
        · show RdF B b 1 n d ((xs ++ [r]).flatMap encL) w1
          rw [encs_snoc]; exact H1.out
      · have hpl : plainB r = false := by
          unfold plainB
          simp only [Bool.and_eq_false_iff, decide_eq_false_iff_not]
          by_cases q : 32 ≤ r
          · exact Or.inl (Or.inl (Or.inr (fun e => hp ⟨q, e⟩)))
          · exact Or.inl (Or.inl (Or.inl q))
        have RP := Lib.hid (fun w => tplain_is hpl w)
        have hu : Hid (ustep (.norm xs) r = .dead) := by unfold Hid; rw [ustep_norm, if_neg h34, if_pos (by omega)]
        clear hp hpl hr h34 h92
        go_enter Tryd.func37, Tryd.ntmps37
        go_wp2_with (go_at_call 35; (with_reducible refine (RP.out _).mono ?_); rintro e w1 ⟨rfl, rfl⟩)
        go_ret
        exact TK.no hu.out (KF.refl _ _ _)

/-- A rune is written, and the reader is between the marks again. -/
theorem RS.wrote {B b m : Nat} {xs : List Int} {r n d : Int} {w : World} (ho : ∀ r ∈ xs, RuneOk r) (hl : xs.length ≤ m) (hr : RuneOk r) (h : RdF B b 1 n d (xs.flatMap encL ++ encL r) w) : RS B b (m + 1) (.norm (xs ++ [r])) w := by
  refine ⟨ok_snoc ho hr, ?_, n, d, ?_, trivial⟩
  · show (xs ++ [r]).length ≤ m + 1
    rw [List.length_append]
    exact Nat.succ_le_succ hl
  · show RdF B b 1 n d ((xs ++ [r]).flatMap encL) w
    rw [encs_snoc]; exact h
theorem ok_low {r : Int} (h0 : 0 ≤ r) (h1 : r ≤ 127) : RuneOk r := ⟨h0, by omega, by omega⟩

set_option maxRecDepth 100000 in
set_option maxHeartbeats 2000000 in
theorem tescaped_any (B b m : Nat) (xs : List Int) (r : Int) (hr : RuneOk r) (w : World) (h : RS B b m (.esc xs) w) (hm : m ≤ 4294967296) (hBw : B ≤ w.heap.size) :
    Calls Tryd.prog 38 #[.pointer (some ⟨b, 0, none⟩), .int .i32 r] w (TK B b m (.esc xs) r w) := by
  obtain ⟨hok, hlen, n, d, hrd, _⟩ := h
  have hlen2 : xs.length ≤ m := hlen
  have HO := Lib.hid hok
  have HL := Lib.hid hlen2
  have HR := Lib.hid hrd
  have hB := Lib.hid hrd.hB
  have HW := Lib.hid (fun r hr => rwrite_any B b 2 n d (xs.flatMap encL) r hr w hrd (by have := encs_len xs; omega) hBw)
  clear hok hlen hlen2 hrd
  by_cases h34 : r = 34
  · subst h34
    go_enter Tryd.func38, Tryd.ntmps38
    go_wp2_with (go_at_call 43; (with_reducible refine (HW.out _ hr).mono ?_); rintro e w1 ⟨rfl, h1, k1⟩; have H1 := Lib.hid h1; have K1 := Lib.hid k1; clear h1 k1)
    go_ret
    exact TK.yes (v := .norm (xs ++ [34])) (by rw [ustep_esc, if_pos (Or.inl rfl)]) (by intro e; cases e) (RS.wrote HO.out HL.out hr H1.out) K1.out
  by_cases h92 : r = 92
  · subst h92
    go_enter Tryd.func38, Tryd.ntmps38
    go_wp2_with (go_at_call 43; (with_reducible refine (HW.out _ hr).mono ?_); rintro e w1 ⟨rfl, h1, k1⟩; have H1 := Lib.hid h1; have K1 := Lib.hid k1; clear h1 k1)
    go_ret
    exact TK.yes (v := .norm (xs ++ [92])) (by rw [ustep_esc, if_pos (Or.inr rfl)]) (by intro e; cases e) (RS.wrote HO.out HL.out hr H1.out) K1.out
  by_cases h110 : r = 110
  · subst h110
    have h10 := Lib.hid (ok_low (r := 10) (by decide) (by decide))
    go_enter Tryd.func38, Tryd.ntmps38
    go_wp2_with (go_at_call 43; (with_reducible refine (HW.out _ h10.out).mono ?_); rintro e w1 ⟨rfl, h1, k1⟩; have H1 := Lib.hid h1; have K1 := Lib.hid k1; clear h1 k1)
    go_ret
    exact TK.yes (v := .norm (xs ++ [10])) (by rw [ustep_esc, if_neg (by decide), if_pos rfl]) (by intro e; cases e) (RS.wrote HO.out HL.out h10.out H1.out) K1.out
  by_cases h116 : r = 116
  · subst h116
    have h9 := Lib.hid (ok_low (r := 9) (by decide) (by decide))
    go_enter Tryd.func38, Tryd.ntmps38
    go_wp2_with (go_at_call 43; (with_reducible refine (HW.out _ h9.out).mono ?_); rintro e w1 ⟨rfl, h1, k1⟩; have H1 := Lib.hid h1; have K1 := Lib.hid k1; clear h1 k1)
    go_ret
    exact TK.yes (v := .norm (xs ++ [9])) (by rw [ustep_esc, if_neg (by decide), if_neg (by decide), if_pos rfl]) (by intro e; cases e) (RS.wrote HO.out HL.out h9.out H1.out) K1.out
  by_cases h117 : r = 117
  · subst h117
    have g1 := HR.out.put0 3
    have g2 := g1.put3 0
    have g3 := Lib.hid (g2.put4 0)
    obtain ⟨c0, c3, c4, hf⟩ := HR.out.cells
    have f0 := hf 0
    have f3 := hf 3
    have f4 := hf 4
    have d3 := g1.cells.2.1
    have d4 := g2.cells.2.2.1
    clear g1 g2 hf HW
    go_enter Tryd.func38, Tryd.ntmps38
    go_wp2
    go_ret
    exact TK.yes (v := .uni xs) (by rw [ustep_esc, if_neg (by decide), if_neg (by decide), if_neg (by decide), if_pos rfl]) (by intro e; cases e) ⟨HO.out, Nat.le_succ_of_le HL.out, 0, 0, g3.out, ⟨rfl, rfl⟩⟩ ((((KF.refl _ _ _).put hB.out _ _).put hB.out _ _).put hB.out _ _)
  · have e1 : (r == 34) = false := by simpa using h34
    have e2 : (r == 92) = false := by simpa using h92
    have e3 : (r == 110) = false := by simpa using h110
    have e4 : (r == 116) = false := by simpa using h116
    have e5 : (r == 117) = false := by simpa using h117
    have hu : Hid (ustep (.esc xs) r = .dead) := by unfold Hid; rw [ustep_esc, if_neg (by omega), if_neg h110, if_neg h116, if_neg h117]
    clear h34 h92 h110 h116 h117 HW
    go_enter Tryd.func38, Tryd.ntmps38
    go_wp2
    go_ret
    exact TK.no hu.out (KF.refl _ _ _)

theorem pow16 {k : Nat} (h : k < 6) : ((16 ^ k : Nat) : Int) ≤ 1048576 := by
  have : k = 0 ∨ k = 1 ∨ k = 2 ∨ k = 3 ∨ k = 4 ∨ k = 5 := by omega
  rcases this with rfl | rfl | rfl | rfl | rfl | rfl <;> decide
theorem pow16_le {k : Nat} (h : k ≤ 6) : ((16 ^ k : Nat) : Int) ≤ 16777216 := by
  have : k = 0 ∨ k = 1 ∨ k = 2 ∨ k = 3 ∨ k = 4 ∨ k = 5 ∨ k = 6 := by omega
  rcases this with rfl | rfl | rfl | rfl | rfl | rfl | rfl <;> decide
theorem hexV_low {r : Int} (h : 48 ≤ r) (h2 : r ≤ 57) : hexV r = r - 48 := if_pos ⟨h, h2⟩
theorem hexV_let {r : Int} (h : 97 ≤ r) (h2 : r ≤ 102) : hexV r = r - 87 := by unfold hexV; rw [if_neg (by omega), if_pos ⟨h, h2⟩]
theorem hexV_no {r : Int} (h : ¬ (48 ≤ r ∧ r ≤ 57)) (h2 : ¬ (97 ≤ r ∧ r ≤ 102)) : hexV r = -1 := by unfold hexV; rw [if_neg h, if_neg h2]
/-- A digit more. -/
theorem RS.digit {B b m : Nat} {xs : List Int} {k : Nat} {x g : Int} {w : World} (ho : ∀ r ∈ xs, RuneOk r) (hl : xs.length ≤ m) (hk : k < 6) (x0 : 0 ≤ x) (x1 : x < ((16 ^ k : Nat) : Int)) (g0 : 0 ≤ g) (g1 : g ≤ 15) (h : RdF B b 4 (x * 16 + g) ((k : Int) + 1) (xs.flatMap encL) w) : RS B b (m + 1) (.hex xs (k + 1) (16 * x + g)) w := by
  refine ⟨ho, Nat.le_succ_of_le hl, x * 16 + g, (k : Int) + 1, h, by omega, by omega, by omega, by omega, ?_⟩
  rw [Nat.pow_succ]
  omega

set_option maxRecDepth 100000 in
set_option maxHeartbeats 4000000 in
theorem tnumber_any (B b m : Nat) (xs : List Int) (k : Nat) (x r : Int) (w : World) (h : RS B b m (.hex xs k x) w) (hm : m ≤ 4294967296) (hBw : B ≤ w.heap.size) :
    Calls Tryd.prog 39 #[.pointer (some ⟨b, 0, none⟩), .int .i32 r] w (TK B b m (.hex xs k x) r w) := by
  obtain ⟨hok, hlen, n, d, hrd, hn, hd, k6, x0, x1⟩ := h
  subst hn
  subst hd
  have hlen2 : xs.length ≤ m := hlen
  have HO := Lib.hid hok
  have HL := Lib.hid hlen2
  have HR := Lib.hid hrd
  have hB := Lib.hid hrd.hB
  have HX := Lib.hid x1
  have hle := pow16_le k6
  have xle : n ≤ 16777215 := by omega
  obtain ⟨c0, c3, c4, hf⟩ := hrd.cells
  clear hok hlen hlen2 hrd hf x1 hle
  have HV := Lib.hid (Tryd.utf8_ValidRune n w)
  by_cases h125 : r = 125
  · subst h125
    by_cases hk0 : k = 0
    · subst hk0
      have hu : Hid (ustep (.hex xs 0 n) 125 = .dead) := by
        show (if 0 ≤ hexV 125 ∧ 0 < 6 then Qs.hex xs (0 + 1) (16 * n + hexV 125) else if 125 = 125 ∧ (0 : Nat) ≠ 0 ∧ n ≤ 1114111 ∧ ¬ (55296 ≤ n ∧ n < 57344) then .norm (xs ++ [n]) else .dead) = .dead
        rw [if_neg (by decide), if_neg (by omega)]
      clear HV
      go_enter Tryd.func39, Tryd.ntmps39
      go_wp2
      go_ret
      exact TK.no hu.out (KF.refl _ _ _)
    · have kpos : (0 : Int) < (k : Int) := by omega
      have khid := Lib.hid hk0
      clear hk0
      by_cases hv : n ≤ 1114111 ∧ ¬ (55296 ≤ n ∧ n < 57344)
      · have hval : Lib.validRune n = true := by unfold Lib.validRune; simp; omega
        rw [hval] at HV
        have hr := Lib.hid (show RuneOk n from ⟨x0, hv.1, hv.2⟩)
        have hu : Hid (ustep (.hex xs k n) 125 = .norm (xs ++ [n])) := by
          show (if 0 ≤ hexV 125 ∧ k < 6 then Qs.hex xs (k + 1) (16 * n + hexV 125) else if 125 = 125 ∧ k ≠ 0 ∧ n ≤ 1114111 ∧ ¬ (55296 ≤ n ∧ n < 57344) then .norm (xs ++ [n]) else .dead) = _
          rw [if_neg (fun e => absurd e.1 (by decide)), if_pos ⟨rfl, khid.out, hv.1, hv.2⟩]
        have HW := Lib.hid (rwrite_any B b 4 n k (xs.flatMap encL) n hr.out w HR.out (by have := encs_len xs; have := HL.out; omega) hBw)
        clear hv hval
        go_enter Tryd.func39, Tryd.ntmps39
        go_wp2_with (first
          | (go_at_call 44; (with_reducible refine HV.out.mono ?_); rintro e w1 ⟨rfl, rfl⟩)
          | (go_at_call 43; (with_reducible refine HW.out.mono ?_); rintro e w1 ⟨rfl, h1, k1⟩; have H1 := Lib.hid h1; have K1 := Lib.hid k1; clear h1 k1))
        go_ret
        exact TK.yes hu.out (by intro e; cases e) (RS.wrote HO.out HL.out hr.out H1.out) K1.out
      · have hval : Lib.validRune n = false := by unfold Lib.validRune; simp; omega
        rw [hval] at HV
        have hu : Hid (ustep (.hex xs k n) 125 = .dead) := by
          show (if 0 ≤ hexV 125 ∧ k < 6 then Qs.hex xs (k + 1) (16 * n + hexV 125) else if 125 = 125 ∧ k ≠ 0 ∧ n ≤ 1114111 ∧ ¬ (55296 ≤ n ∧ n < 57344) then .norm (xs ++ [n]) else .dead) = _
          rw [if_neg (fun e => absurd e.1 (by decide)), if_neg (fun e => hv e.2.2)]
        clear hv hval
        by_cases k66 : k = 6
        · subst k66
          go_enter Tryd.func39, Tryd.ntmps39
          go_wp2_with (go_at_call 44; (with_reducible refine HV.out.mono ?_); rintro e w1 ⟨rfl, rfl⟩)
          go_ret
          exact TK.no hu.out (KF.refl _ _ _)
        · have e6 : ((k : Int) == 6) = false := by simp; omega
          clear k66
          go_enter Tryd.func39, Tryd.ntmps39
          go_wp2_with (go_at_call 44; (with_reducible refine HV.out.mono ?_); rintro e w1 ⟨rfl, rfl⟩)
          go_ret
          exact TK.no hu.out (KF.refl _ _ _)
  · have e125 : (r == 125) = false := by simpa using h125
    clear HV
    by_cases k66 : k = 6
    · subst k66
      have hu : Hid (ustep (.hex xs 6 n) r = .dead) := by
        show (if 0 ≤ hexV r ∧ 6 < 6 then Qs.hex xs (6 + 1) (16 * n + hexV r) else if r = 125 ∧ (6 : Nat) ≠ 0 ∧ n ≤ 1114111 ∧ ¬ (55296 ≤ n ∧ n < 57344) then .norm (xs ++ [n]) else .dead) = _
        rw [if_neg (fun e => absurd e.2 (by decide)), if_neg (fun e => h125 e.1)]
      clear h125
      go_enter Tryd.func39, Tryd.ntmps39
      go_wp2
      go_ret
      exact TK.no hu.out (KF.refl _ _ _)
    · have hk : k < 6 := by omega
      have e6 : ((k : Int) == 6) = false := by simp; omega
      have n1 : n ≤ 1048575 := by have := pow16 hk; have := HX.out; omega
      have HK := Lib.hid hk
      have HN := Lib.hid x0
      have HA := Lib.hid (fun g g0 g1 => radd_any B b 4 n k (xs.flatMap encL) g x0 n1 g0 g1 (by omega) (by omega) w HR.out)
      clear k66 hk
      by_cases hd : 48 ≤ r ∧ r ≤ 57
      · obtain ⟨r0, r1⟩ := hd
        have hu : Hid (ustep (.hex xs k n) r = .hex xs (k + 1) (16 * n + (r - 48))) := by
          show (if 0 ≤ hexV r ∧ k < 6 then Qs.hex xs (k + 1) (16 * n + hexV r) else _) = _
          rw [hexV_low r0 r1, if_pos ⟨by omega, HK.out⟩]
        have hw : IntKind.i32.wrap (r - 48) = r - 48 := by rw [IntKind.wrap_i32]; omega
        have g0 : Hid (0 ≤ r - 48) := (by omega : 0 ≤ r - 48)
        have g1 : Hid (r - 48 ≤ 15) := (by omega : r - 48 ≤ 15)
        clear h125
        go_enter Tryd.func39, Tryd.ntmps39
        go_wp2_with (go_at_call 45; (with_reducible refine (HA.out _ g0.out g1.out).mono ?_); rintro e w1 ⟨rfl, h1, k1⟩; have H1 := Lib.hid h1; have K1 := Lib.hid k1; clear h1 k1)
        go_ret
        exact TK.yes hu.out (by intro e; cases e) (RS.digit HO.out HL.out HK.out HN.out HX.out g0.out g1.out H1.out) K1.out
      · by_cases ha : 97 ≤ r ∧ r ≤ 102
        · obtain ⟨r0, r1⟩ := ha
          have hu : Hid (ustep (.hex xs k n) r = .hex xs (k + 1) (16 * n + (r - 97 + 10))) := by
            show (if 0 ≤ hexV r ∧ k < 6 then Qs.hex xs (k + 1) (16 * n + hexV r) else _) = _
            rw [hexV_let r0 r1, if_pos ⟨by omega, HK.out⟩]
            congr 1; omega
          have hw : IntKind.i32.wrap (r - 97) = r - 97 := by rw [IntKind.wrap_i32]; omega
          have hw2 : IntKind.i32.wrap (r - 97 + 10) = r - 97 + 10 := by rw [IntKind.wrap_i32]; omega
          have d57 : decide (r ≤ 57) = false := by simp; omega
          have g0 : Hid (0 ≤ r - 97 + 10) := (by omega : 0 ≤ r - 97 + 10)
          have g1 : Hid (r - 97 + 10 ≤ 15) := (by omega : r - 97 + 10 ≤ 15)
          clear h125 hd
          go_enter Tryd.func39, Tryd.ntmps39
          go_wp2_with (go_at_call 45; (with_reducible refine (HA.out _ g0.out g1.out).mono ?_); rintro e w1 ⟨rfl, h1, k1⟩; have H1 := Lib.hid h1; have K1 := Lib.hid k1; clear h1 k1)
          go_ret
          exact TK.yes hu.out (by intro e; cases e) (RS.digit HO.out HL.out HK.out HN.out HX.out g0.out g1.out H1.out) K1.out
        · have hu : Hid (ustep (.hex xs k n) r = .dead) := by
            show (if 0 ≤ hexV r ∧ k < 6 then Qs.hex xs (k + 1) (16 * n + hexV r) else if r = 125 ∧ k ≠ 0 ∧ n ≤ 1114111 ∧ ¬ (55296 ≤ n ∧ n < 57344) then .norm (xs ++ [n]) else .dead) = _
            rw [hexV_no hd ha, if_neg (fun e => absurd e.1 (by decide)), if_neg (fun e => h125 e.1)]
          clear HA h125
          have hcs : r < 48 ∨ (57 < r ∧ r < 97) ∨ 102 < r := by omega
          clear hd ha
          rcases hcs with q | ⟨q, q2⟩ | q
          · have d1 : decide (r ≥ 48) = false := by simp; omega
            have d2 : decide (r ≥ 97) = false := by simp; omega
            clear q
            go_enter Tryd.func39, Tryd.ntmps39
            go_wp2
            go_ret
            exact TK.no hu.out (KF.refl _ _ _)
          · have d0 : decide (r ≥ 48) = true := by simp; omega
            have d1 : decide (r ≤ 57) = false := by simp; omega
            have d2 : decide (r ≥ 97) = false := by simp; omega
            clear q q2
            go_enter Tryd.func39, Tryd.ntmps39
            go_wp2
            go_ret
            exact TK.no hu.out (KF.refl _ _ _)
          · have d0 : decide (r ≥ 48) = true := by simp; omega
            have d1 : decide (r ≤ 57) = false := by simp; omega
            have d2 : decide (r ≥ 97) = true := by simp; omega
            have d3 : decide (r ≤ 102) = false := by simp; omega
            clear q
            go_enter Tryd.func39, Tryd.ntmps39
            go_wp2
            go_ret
            exact TK.no hu.out (KF.refl _ _ _)

end Go.Proofs.YtkhmaiggcihneaaDoor
