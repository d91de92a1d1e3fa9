/-
  Package ppm, walked: Read: a text of percents as parts, or why it is none.
-/
import Derived.Test.YtfdpiiahclglcaaDoorPpmB
namespace Go.Proofs.YtfdpiiahclglcaaDoor
open Go.RowKit

/-- A text that is written as Print writes, but for its size: of so many parts. -/
def Shape (s : ByteArray) (p : Nat) : Prop := ∃ ys A B d, nums s = ys ++ [37] ∧ Halves ys A B d ∧ Written A B d ∧ parts A B = p
/-- If there is a point, what stands behind it is right. -/
def WhenFr (d : Bool) (B : List Int) : Prop := d = true → Fr B
theorem Shape.back {s : ByteArray} {p : Nat} (h : Shape s p) : strOfNums (pct p) = s := by
  obtain ⟨ys, A, B, d, h1, h2, h3, rfl⟩ := h
  rw [h3.back h2, ← h1, strOfNums_nums]
theorem Shape.of_pct (p : Nat) : Shape (strOfNums (pct p)) p := by
  obtain ⟨ys, A, B, d, h1, h2, h3, h4⟩ := pct_halves p
  exact ⟨ys, A, B, d, by rw [nums_strOfNums _ (pct_byte p), h1], h2, h3, h4⟩

set_option maxRecDepth 100000 in
theorem pread_noend (s t a b : ByteArray) (d : Bool) (w : World) (hbs : b.size ≤ 9223372036854775807)
    (hsuf : ∀ w, Calls Tryd.prog 24 #[.string s, .string ⟨#[37]⟩] w fun x w' => x = .returned (.tuple #[.string t, .bool false]) ∧ w = w')
    (hcut : ∀ w, Calls Tryd.prog 25 #[.string t, .string ⟨#[46]⟩] w fun x w' => x = .returned (.tuple #[.string a, .string b, .bool d]) ∧ Below w.heap.size w w')
    (N : Nat) (c : Int) (hread : ∀ w, Calls Tryd.prog 26 #[.string a] w (GivesWC N c w))  :
    Calls Tryd.prog 8 #[.string s] w (GivesPC 0 5 w) := by
  have HS := Lib.hid hsuf
  have HC := Lib.hid hcut
  have HR := Lib.hid hread
  have HB := Lib.hid (fun w => behind_any b w hbs)
  clear hsuf hcut hread
  cases d
  all_goals
    go_enter Tryd.func8, Tryd.ntmps8
    go_wp2_with (first | (go_at_call 24; (with_reducible refine (HS.out _).mono ?_); rintro e w0 ⟨rfl, rfl⟩) | (go_at_call 25; (with_reducible refine (HC.out _).mono ?_); rintro e w1 ⟨rfl, g1⟩) | (go_at_call 26; (with_reducible refine (HR.out _).mono ?_); rintro e w2 ⟨wh, wl, rfl, hW, g2⟩; clear hW; have DD := below_more (below_step g1 g2) (.cells #[.int .u64 wh, .int .u64 wl] 33); have KK := Lib.hid (Box.fresh w2 wh wl _ rfl); obtain ⟨_, _, _⟩ := KK.out) | (go_at_call 27; (with_reducible refine (HB.out _).mono ?_); rintro e w3 ⟨x, y, rfl, hy, hx, g3⟩; clear hy hx; have DD := below_step DD g3; have KK := Lib.hid (KK.out.after g3); obtain ⟨_, _, _⟩ := KK.out))
    go_ret2
    exact ⟨0, rfl, by decide, by decide, rfl, DD⟩

set_option maxRecDepth 100000 in
theorem pread_unwritten (s t a b : ByteArray) (d : Bool) (w : World) (hbs : b.size ≤ 9223372036854775807)
    (hsuf : ∀ w, Calls Tryd.prog 24 #[.string s, .string ⟨#[37]⟩] w fun x w' => x = .returned (.tuple #[.string t, .bool true]) ∧ w = w')
    (hcut : ∀ w, Calls Tryd.prog 25 #[.string t, .string ⟨#[46]⟩] w fun x w' => x = .returned (.tuple #[.string a, .string b, .bool d]) ∧ Below w.heap.size w w')
    (N : Nat) (c : Int) (hread : ∀ w, Calls Tryd.prog 26 #[.string a] w (GivesWC N c w)) (hd : d = true) (hf : ¬ Fr (nums b)) :
    Calls Tryd.prog 8 #[.string s] w (GivesPC 0 5 w) := by
  have HS := Lib.hid hsuf
  have HC := Lib.hid hcut
  have HR := Lib.hid hread
  have HB := Lib.hid (fun w => behind_any b w hbs)
  clear hsuf hcut hread
  have hfr := Lib.hid hf
  clear hf
  subst hd
  go_enter Tryd.func8, Tryd.ntmps8
  go_wp2_with (first | (go_at_call 24; (with_reducible refine (HS.out _).mono ?_); rintro e w0 ⟨rfl, rfl⟩) | (go_at_call 25; (with_reducible refine (HC.out _).mono ?_); rintro e w1 ⟨rfl, g1⟩) | (go_at_call 26; (with_reducible refine (HR.out _).mono ?_); rintro e w2 ⟨wh, wl, rfl, hW, g2⟩; clear hW; have DD := below_more (below_step g1 g2) (.cells #[.int .u64 wh, .int .u64 wl] 33); have KK := Lib.hid (Box.fresh w2 wh wl _ rfl); obtain ⟨_, _, _⟩ := KK.out) | (go_at_call 27; (with_reducible refine (HB.out _).mono ?_); rintro e w3 ⟨x, y, rfl, hy, hx, g3⟩; obtain rfl : y = false := (by cases y; rfl; exact (hfr.out (hy.mp rfl)).elim); clear hy hx; have DD := below_step DD g3; have KK := Lib.hid (KK.out.after g3); obtain ⟨_, _, _⟩ := KK.out))
  go_ret2
  exact ⟨0, rfl, by decide, by decide, rfl, DD⟩

set_option maxRecDepth 100000 in
theorem pread_ahead (s t a b : ByteArray) (d : Bool) (w : World) (hbs : b.size ≤ 9223372036854775807)
    (hsuf : ∀ w, Calls Tryd.prog 24 #[.string s, .string ⟨#[37]⟩] w fun x w' => x = .returned (.tuple #[.string t, .bool true]) ∧ w = w')
    (hcut : ∀ w, Calls Tryd.prog 25 #[.string t, .string ⟨#[46]⟩] w fun x w' => x = .returned (.tuple #[.string a, .string b, .bool d]) ∧ Below w.heap.size w w')
    (N : Nat) (hread : ∀ w, Calls Tryd.prog 26 #[.string a] w (GivesWC N 5 w)) (hf : WhenFr d (nums b)) :
    Calls Tryd.prog 8 #[.string s] w (GivesPC 0 5 w) := by
  have HS := Lib.hid hsuf
  have HC := Lib.hid hcut
  have HR := Lib.hid hread
  have HB := Lib.hid (fun w => behind_any b w hbs)
  clear hsuf hcut hread
  have hfr := Lib.hid hf
  clear hf
  cases d
  all_goals
    go_enter Tryd.func8, Tryd.ntmps8
    go_wp2_with (first | (go_at_call 24; (with_reducible refine (HS.out _).mono ?_); rintro e w0 ⟨rfl, rfl⟩) | (go_at_call 25; (with_reducible refine (HC.out _).mono ?_); rintro e w1 ⟨rfl, g1⟩) | (go_at_call 26; (with_reducible refine (HR.out _).mono ?_); rintro e w2 ⟨wh, wl, rfl, hW, g2⟩; clear hW; have DD := below_more (below_step g1 g2) (.cells #[.int .u64 wh, .int .u64 wl] 33); have KK := Lib.hid (Box.fresh w2 wh wl _ rfl); obtain ⟨_, _, _⟩ := KK.out) | (go_at_call 27; (with_reducible refine (HB.out _).mono ?_); rintro e w3 ⟨x, y, rfl, hy, hx, g3⟩; obtain rfl := hy.mpr (hfr.out rfl); clear hy; replace hx := Lib.hid (hx rfl); have DD := below_step DD g3; have KK := Lib.hid (KK.out.after g3); obtain ⟨_, _, _⟩ := KK.out))
    go_ret2
    exact ⟨0, rfl, by decide, by decide, rfl, DD⟩

set_option maxRecDepth 100000 in
theorem pread_over (s t a b : ByteArray) (d : Bool) (w : World) (hbs : b.size ≤ 9223372036854775807)
    (hsuf : ∀ w, Calls Tryd.prog 24 #[.string s, .string ⟨#[37]⟩] w fun x w' => x = .returned (.tuple #[.string t, .bool true]) ∧ w = w')
    (hcut : ∀ w, Calls Tryd.prog 25 #[.string t, .string ⟨#[46]⟩] w fun x w' => x = .returned (.tuple #[.string a, .string b, .bool d]) ∧ Below w.heap.size w w')
    (N : Nat) (hread : ∀ w, Calls Tryd.prog 26 #[.string a] w (GivesWC N 3 w)) (hf : WhenFr d (nums b)) :
    Calls Tryd.prog 8 #[.string s] w (GivesPC 0 8 w) := by
  have HS := Lib.hid hsuf
  have HC := Lib.hid hcut
  have HR := Lib.hid hread
  have HB := Lib.hid (fun w => behind_any b w hbs)
  clear hsuf hcut hread
  have hfr := Lib.hid hf
  clear hf
  cases d
  all_goals
    go_enter Tryd.func8, Tryd.ntmps8
    go_wp2_with (first | (go_at_call 24; (with_reducible refine (HS.out _).mono ?_); rintro e w0 ⟨rfl, rfl⟩) | (go_at_call 25; (with_reducible refine (HC.out _).mono ?_); rintro e w1 ⟨rfl, g1⟩) | (go_at_call 26; (with_reducible refine (HR.out _).mono ?_); rintro e w2 ⟨wh, wl, rfl, hW, g2⟩; clear hW; have DD := below_more (below_step g1 g2) (.cells #[.int .u64 wh, .int .u64 wl] 33); have KK := Lib.hid (Box.fresh w2 wh wl _ rfl); obtain ⟨_, _, _⟩ := KK.out) | (go_at_call 27; (with_reducible refine (HB.out _).mono ?_); rintro e w3 ⟨x, y, rfl, hy, hx, g3⟩; obtain rfl := hy.mpr (hfr.out rfl); clear hy; replace hx := Lib.hid (hx rfl); have DD := below_step DD g3; have KK := Lib.hid (KK.out.after g3); obtain ⟨_, _, _⟩ := KK.out))
    go_ret2
    exact ⟨0, rfl, by decide, by decide, rfl, DD⟩

theorem cmp100 (k wh wl : Int) (N : Nat) (w : World) (hW : IsW wh wl N) (hk : cmpI N 100 = k) :
    Calls Tryd.prog 28 #[.agg #[.int .u64 wh, .int .u64 wl], .agg #[.int .u64 0, .int .u64 100]] w fun e w' => e = .returned (.int .i64 k) ∧ Below w.heap.size w w' := by
  rw [← hk]; exact ecompare_any wh wl 0 100 N 100 w hW ⟨by decide, by decide, by decide, by decide, by decide⟩
set_option maxRecDepth 100000 in
theorem pread_hundred (s t a b : ByteArray) (d : Bool) (w : World) (hbs : b.size ≤ 9223372036854775807)
    (hsuf : ∀ w, Calls Tryd.prog 24 #[.string s, .string ⟨#[37]⟩] w fun x w' => x = .returned (.tuple #[.string t, .bool true]) ∧ w = w')
    (hcut : ∀ w, Calls Tryd.prog 25 #[.string t, .string ⟨#[46]⟩] w fun x w' => x = .returned (.tuple #[.string a, .string b, .bool d]) ∧ Below w.heap.size w w')
    (N : Nat) (hread : ∀ w, Calls Tryd.prog 26 #[.string a] w (GivesWC N 0 w)) (hf : WhenFr d (nums b)) (hN : 100 < N) :
    Calls Tryd.prog 8 #[.string s] w (GivesPC 0 8 w) := by
  have HS := Lib.hid hsuf
  have HC := Lib.hid hcut
  have HR := Lib.hid hread
  have HB := Lib.hid (fun w => behind_any b w hbs)
  clear hsuf hcut hread
  have hfr := Lib.hid hf
  clear hf
  obtain ⟨k, hk⟩ : ∃ k, cmpI N 100 = k := ⟨_, rfl⟩
  have hkb : decide (k > 0) = true := by rw [← hk]; rw [cmpI_gt hN]; rfl
  replace hk := Lib.hid hk
  cases d
  all_goals
    go_enter Tryd.func8, Tryd.ntmps8
    go_wp2_with (first | (go_at_call 24; (with_reducible refine (HS.out _).mono ?_); rintro e w0 ⟨rfl, rfl⟩) | (go_at_call 25; (with_reducible refine (HC.out _).mono ?_); rintro e w1 ⟨rfl, g1⟩) | (go_at_call 26; (with_reducible refine (HR.out _).mono ?_); rintro e w2 ⟨wh, wl, rfl, hW, g2⟩; have DD := below_more (below_step g1 g2) (.cells #[.int .u64 wh, .int .u64 wl] 33); have KK := Lib.hid (Box.fresh w2 wh wl _ rfl); obtain ⟨_, _, _⟩ := KK.out) | (go_at_call 27; (with_reducible refine (HB.out _).mono ?_); rintro e w3 ⟨x, y, rfl, hy, hx, g3⟩; obtain rfl := hy.mpr (hfr.out rfl); clear hy; replace hx := Lib.hid (hx rfl); have DD := below_step DD g3; have KK := Lib.hid (KK.out.after g3); obtain ⟨_, _, _⟩ := KK.out) | (go_at_call 28; (with_reducible refine (cmp100 k wh wl N _ hW hk.out).mono ?_); rintro e w4 ⟨rfl, g4⟩; have DD := below_step DD g4; have KK := Lib.hid (KK.out.after g4); obtain ⟨_, _, _⟩ := KK.out))
    go_ret2
    exact ⟨0, rfl, by decide, by decide, rfl, DD⟩

theorem low100 {h l : Int} {N : Nat} (k : IsW h l N) (hN : N ≤ 100) : h = 0 ∧ 0 ≤ l ∧ l ≤ 100 ∧ Hid (l = (N : Int)) := by
  obtain ⟨a, b, c, d, e⟩ := k
  unfold Hid; omega
theorem pv_word {B : List Int} {x : Int} (f : Fr B) (h : x = (pv B 4 : Int)) : 0 ≤ x ∧ x ≤ 9999 ∧ Hid (x = (pv B 4 : Int)) := by
  have := pv_lt f.all
  exact ⟨by omega, by omega, h⟩
set_option maxRecDepth 100000 in
theorem pread_above (s t a b : ByteArray) (d : Bool) (w : World) (hbs : b.size ≤ 9223372036854775807)
    (hsuf : ∀ w, Calls Tryd.prog 24 #[.string s, .string ⟨#[37]⟩] w fun x w' => x = .returned (.tuple #[.string t, .bool true]) ∧ w = w')
    (hcut : ∀ w, Calls Tryd.prog 25 #[.string t, .string ⟨#[46]⟩] w fun x w' => x = .returned (.tuple #[.string a, .string b, .bool d]) ∧ Below w.heap.size w w')
    (N : Nat) (hread : ∀ w, Calls Tryd.prog 26 #[.string a] w (GivesWC N 0 w)) (hf : WhenFr d (nums b)) (hb0 : d = false → nums b = []) (hN : N ≤ 100) (hp : 1000000 < N * 10000 + pv (nums b) 4) :
    Calls Tryd.prog 8 #[.string s] w (GivesPC 0 8 w) := by
  have HS := Lib.hid hsuf
  have HC := Lib.hid hcut
  have HR := Lib.hid hread
  have HB := Lib.hid (fun w => behind_any b w hbs)
  clear hsuf hcut hread
  have hfr := Lib.hid hf
  have HN := Lib.hid hN
  have HP := Lib.hid hp
  clear hf hp hN
  obtain ⟨k, hk⟩ : ∃ k, cmpI N 100 = k := ⟨_, rfl⟩
  have hkb : decide (k > 0) = false := by rw [← hk]; have hN := HN.out; rcases Nat.lt_or_ge N 100 with h | h; (rw [cmpI_lt h]; rfl); (rw [cmpI_eq (by omega)]; rfl)
  replace hk := Lib.hid hk
  cases d
  · have hz := Lib.hid (hb0 rfl)
    clear hb0
    go_enter Tryd.func8, Tryd.ntmps8
    go_wp2_with (first | (go_at_call 24; (with_reducible refine (HS.out _).mono ?_); rintro e w0 ⟨rfl, rfl⟩) | (go_at_call 25; (with_reducible refine (HC.out _).mono ?_); rintro e w1 ⟨rfl, g1⟩) | (go_at_call 26; (with_reducible refine (HR.out _).mono ?_); rintro e w2 ⟨wh, wl, rfl, hW, g2⟩; obtain ⟨rfl, wl0, wl1, wln⟩ := low100 hW HN.out; have DD := below_more (below_step g1 g2) (.cells #[.int .u64 0, .int .u64 wl] 33); have KK := Lib.hid (Box.fresh w2 0 wl _ rfl); obtain ⟨_, _, _⟩ := KK.out) | (go_at_call 27; (with_reducible refine (HB.out _).mono ?_); rintro e w3 ⟨x, y, rfl, hy, hx, g3⟩; obtain rfl := hy.mpr (hfr.out rfl); clear hy; obtain ⟨x0, x1, hxx⟩ := pv_word (hfr.out rfl) (hx rfl); clear hx; have DD := below_step DD g3; have KK := Lib.hid (KK.out.after g3); obtain ⟨_, _, _⟩ := KK.out) | (go_at_call 28; (with_reducible refine (cmp100 k 0 wl N _ hW hk.out).mono ?_); rintro e w4 ⟨rfl, g4⟩; have DD := below_step DD g4; have KK := Lib.hid (KK.out.after g4); obtain ⟨_, _, _⟩ := KK.out) | (go_at_call 11; (with_reducible refine (right_no (wl * 10000) _ (by have h1 := HP.out; have h2 := wln.out; rw [hz.out, pv_nil] at h1; omega)).mono ?_); rintro e w5 ⟨rfl, rfl⟩))
    go_ret2
    exact ⟨0, rfl, by decide, by decide, rfl, DD⟩
  · clear hb0
    go_enter Tryd.func8, Tryd.ntmps8
    go_wp2_with (first | (go_at_call 24; (with_reducible refine (HS.out _).mono ?_); rintro e w0 ⟨rfl, rfl⟩) | (go_at_call 25; (with_reducible refine (HC.out _).mono ?_); rintro e w1 ⟨rfl, g1⟩) | (go_at_call 26; (with_reducible refine (HR.out _).mono ?_); rintro e w2 ⟨wh, wl, rfl, hW, g2⟩; obtain ⟨rfl, wl0, wl1, wln⟩ := low100 hW HN.out; have DD := below_more (below_step g1 g2) (.cells #[.int .u64 0, .int .u64 wl] 33); have KK := Lib.hid (Box.fresh w2 0 wl _ rfl); obtain ⟨_, _, _⟩ := KK.out) | (go_at_call 27; (with_reducible refine (HB.out _).mono ?_); rintro e w3 ⟨x, y, rfl, hy, hx, g3⟩; obtain rfl := hy.mpr (hfr.out rfl); clear hy; obtain ⟨x0, x1, hxx⟩ := pv_word (hfr.out rfl) (hx rfl); clear hx; have DD := below_step DD g3; have KK := Lib.hid (KK.out.after g3); obtain ⟨_, _, _⟩ := KK.out) | (go_at_call 28; (with_reducible refine (cmp100 k 0 wl N _ hW hk.out).mono ?_); rintro e w4 ⟨rfl, g4⟩; have DD := below_step DD g4; have KK := Lib.hid (KK.out.after g4); obtain ⟨_, _, _⟩ := KK.out) | (go_at_call 11; (with_reducible refine (right_no (wl * 10000 + x) _ (by have h1 := HP.out; have h2 := wln.out; have h3 := hxx.out; omega)).mono ?_); rintro e w5 ⟨rfl, rfl⟩))
    go_ret2
    exact ⟨0, rfl, by decide, by decide, rfl, DD⟩
set_option maxRecDepth 100000 in
theorem pread_fine (s t a b : ByteArray) (d : Bool) (w : World) (hbs : b.size ≤ 9223372036854775807)
    (hsuf : ∀ w, Calls Tryd.prog 24 #[.string s, .string ⟨#[37]⟩] w fun x w' => x = .returned (.tuple #[.string t, .bool true]) ∧ w = w')
    (hcut : ∀ w, Calls Tryd.prog 25 #[.string t, .string ⟨#[46]⟩] w fun x w' => x = .returned (.tuple #[.string a, .string b, .bool d]) ∧ Below w.heap.size w w')
    (N : Nat) (hread : ∀ w, Calls Tryd.prog 26 #[.string a] w (GivesWC N 0 w)) (hf : WhenFr d (nums b)) (hb0 : d = false → nums b = []) (hN : N ≤ 100) (hp : N * 10000 + pv (nums b) 4 ≤ 1000000) :
    Calls Tryd.prog 8 #[.string s] w (GivesPC (N * 10000 + pv (nums b) 4) 0 w) := by
  have HS := Lib.hid hsuf
  have HC := Lib.hid hcut
  have HR := Lib.hid hread
  have HB := Lib.hid (fun w => behind_any b w hbs)
  clear hsuf hcut hread
  have hfr := Lib.hid hf
  have HN := Lib.hid hN
  have HP := Lib.hid hp
  clear hf hp hN
  obtain ⟨k, hk⟩ : ∃ k, cmpI N 100 = k := ⟨_, rfl⟩
  have hkb : decide (k > 0) = false := by rw [← hk]; have hN := HN.out; rcases Nat.lt_or_ge N 100 with h | h; (rw [cmpI_lt h]; rfl); (rw [cmpI_eq (by omega)]; rfl)
  replace hk := Lib.hid hk
  cases d
  · have hz := Lib.hid (hb0 rfl)
    clear hb0
    go_enter Tryd.func8, Tryd.ntmps8
    go_wp2_with (first | (go_at_call 24; (with_reducible refine (HS.out _).mono ?_); rintro e w0 ⟨rfl, rfl⟩) | (go_at_call 25; (with_reducible refine (HC.out _).mono ?_); rintro e w1 ⟨rfl, g1⟩) | (go_at_call 26; (with_reducible refine (HR.out _).mono ?_); rintro e w2 ⟨wh, wl, rfl, hW, g2⟩; obtain ⟨rfl, wl0, wl1, wln⟩ := low100 hW HN.out; have DD := below_more (below_step g1 g2) (.cells #[.int .u64 0, .int .u64 wl] 33); have KK := Lib.hid (Box.fresh w2 0 wl _ rfl); obtain ⟨_, _, _⟩ := KK.out) | (go_at_call 27; (with_reducible refine (HB.out _).mono ?_); rintro e w3 ⟨x, y, rfl, hy, hx, g3⟩; obtain rfl := hy.mpr (hfr.out rfl); clear hy; obtain ⟨x0, x1, hxx⟩ := pv_word (hfr.out rfl) (hx rfl); clear hx; have DD := below_step DD g3; have KK := Lib.hid (KK.out.after g3); obtain ⟨_, _, _⟩ := KK.out) | (go_at_call 28; (with_reducible refine (cmp100 k 0 wl N _ hW hk.out).mono ?_); rintro e w4 ⟨rfl, g4⟩; have DD := below_step DD g4; have KK := Lib.hid (KK.out.after g4); obtain ⟨_, _, _⟩ := KK.out) | (go_at_call 11; (with_reducible refine (right_yes (wl * 10000) _ (by have h1 := HP.out; have h2 := wln.out; rw [hz.out, pv_nil] at h1; omega)).mono ?_); rintro e w5 ⟨rfl, rfl⟩))
    go_ret2
    exact ⟨wl * 10000, rfl, by omega, by omega, by have h2 := wln.out; rw [hz.out, pv_nil]; omega, DD⟩
  · clear hb0
    go_enter Tryd.func8, Tryd.ntmps8
    go_wp2_with (first | (go_at_call 24; (with_reducible refine (HS.out _).mono ?_); rintro e w0 ⟨rfl, rfl⟩) | (go_at_call 25; (with_reducible refine (HC.out _).mono ?_); rintro e w1 ⟨rfl, g1⟩) | (go_at_call 26; (with_reducible refine (HR.out _).mono ?_); rintro e w2 ⟨wh, wl, rfl, hW, g2⟩; obtain ⟨rfl, wl0, wl1, wln⟩ := low100 hW HN.out; have DD := below_more (below_step g1 g2) (.cells #[.int .u64 0, .int .u64 wl] 33); have KK := Lib.hid (Box.fresh w2 0 wl _ rfl); obtain ⟨_, _, _⟩ := KK.out) | (go_at_call 27; (with_reducible refine (HB.out _).mono ?_); rintro e w3 ⟨x, y, rfl, hy, hx, g3⟩; obtain rfl := hy.mpr (hfr.out rfl); clear hy; obtain ⟨x0, x1, hxx⟩ := pv_word (hfr.out rfl) (hx rfl); clear hx; have DD := below_step DD g3; have KK := Lib.hid (KK.out.after g3); obtain ⟨_, _, _⟩ := KK.out) | (go_at_call 28; (with_reducible refine (cmp100 k 0 wl N _ hW hk.out).mono ?_); rintro e w4 ⟨rfl, g4⟩; have DD := below_step DD g4; have KK := Lib.hid (KK.out.after g4); obtain ⟨_, _, _⟩ := KK.out) | (go_at_call 11; (with_reducible refine (right_yes (wl * 10000 + x) _ (by have h1 := HP.out; have h2 := wln.out; have h3 := hxx.out; omega)).mono ?_); rintro e w5 ⟨rfl, rfl⟩))
    go_ret2
    exact ⟨wl * 10000 + x, rfl, by omega, by omega, by have h2 := wln.out; have h3 := hxx.out; omega, DD⟩

end Go.Proofs.YtfdpiiahclglcaaDoor
