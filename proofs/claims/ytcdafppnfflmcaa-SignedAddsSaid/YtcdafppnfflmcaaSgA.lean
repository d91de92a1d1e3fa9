/-
  Package signed, walked: Right, mended, Neg, Of: each by what its number is.
-/
import Derived.Test.YtcdafppnfflmcaaExactB
import Derived.Test.YtcdafppnfflmcaaVars
namespace Go.Proofs.Ytcdafppnfflmcaa
open Go.RowKit

theorem IsW.nought {h l : Int} (w : IsW h l 0) : h = 0 ∧ l = 0 := w.unique IsW.zero
theorem IsW.some {h l : Int} {N : Nat} (w : IsW h l N) (hn : ¬ N = 0) (hh : h = 0) : ¬ l = 0 := by
  obtain ⟨_, _, _, _, e⟩ := w
  omega

/-- Is it one? -/
def rightB (b : Bool) (N : Nat) : Bool := !(b && decide (N = 0))
/-- Below 0, if it is one. -/
def downB (b : Bool) (N : Nat) : Bool := b && !decide (N = 0)

set_option maxHeartbeats 400000 in
theorem right_any (b : Bool) (h l : Int) (N : Nat) (w : World) (hW : IsW h l N) :
    Calls Try.prog 42 #[.agg #[.bool b, .int .u64 h, .int .u64 l]] w fun e w' => e = .returned (.bool (rightB b N)) ∧ Below w.heap.size w w' := by
  cases b
  · go_enter Try.func42, Try.ntmps42
    go_wp2
    go_ret
    exact ⟨rfl, (Below.refl _ _).alloc (Nat.le_refl _) _⟩
  · by_cases hn : N = 0
    · subst hn
      obtain ⟨rfl, rfl⟩ := hW.nought
      go_enter Try.func42, Try.ntmps42
      go_wp2
      go_ret
      exact ⟨rfl, (Below.refl _ _).alloc (Nat.le_refl _) _⟩
    · have hx := hW.some hn
      have hr := Lib.hid (show rightB true N = true by simp [rightB, hn])
      clear hn
      by_cases hh : h = 0
      · subst hh
        replace hx := hx rfl
        go_enter Try.func42, Try.ntmps42
        go_wp2
        go_ret
        exact ⟨by rw [hr.out]; rfl, (Below.refl _ _).alloc (Nat.le_refl _) _⟩
      · clear hx
        go_enter Try.func42, Try.ntmps42
        go_wp2
        go_ret
        exact ⟨by rw [hr.out]; rfl, (Below.refl _ _).alloc (Nat.le_refl _) _⟩

theorem rightB_yes {b : Bool} {N : Nat} (h : rightB b N = true) : downB b N = b := by
  cases b <;> simp_all [rightB, downB]
theorem rightB_no {b : Bool} {N : Nat} (h : rightB b N = false) : b = true ∧ N = 0 := by
  simpa [rightB] using h
set_option maxHeartbeats 400000 in
theorem mended_any (b : Bool) (h l : Int) (N : Nat) (w : World) (hW : IsW h l N) :
    Calls Try.prog 57 #[.agg #[.bool b, .int .u64 h, .int .u64 l]] w fun e w' => e = .returned (.agg #[.bool (downB b N), .int .u64 h, .int .u64 l]) ∧ Below w.heap.size w w' := by
  have HW := Lib.hid hW
  by_cases hr : rightB b N = true
  · have hd := Lib.hid (rightB_yes hr)
    have hr := Lib.hid hr
    go_enter Try.func57, Try.ntmps57
    go_wp2_with (go_at_call 42; (with_reducible refine (right_any b h l N _ HW.out).mono ?_); rintro e w1 ⟨rfl, g1⟩; rw [hr.out]; obtain ⟨_, _, _, _, _, _, _⟩ := ((Var3.fresh w (.bool b) (.int .u64 h) (.int .u64 l) 58 _ rfl).alloc (.cells #[.bool false, .int .u64 0, .int .u64 0] 58)).after g1; obtain ⟨_, _, _, _, _, _, _⟩ := (Var3.fresh (w.alloc (.cells #[.bool b, .int .u64 h, .int .u64 l] 58)) (.bool false) (.int .u64 0) (.int .u64 0) 58 (w.heap.size + 1) (by simp)).after g1; have D1 := below_step (below_more (below_more (Below.refl _ _) _) _) g1)
    refine bodyPost_ret (v := .agg #[.bool b, .int .u64 h, .int .u64 l]) (by simp [results, Try.results57, go_sem, *]) rfl ⟨by rw [hd.out], ?_⟩
    exact ((D1.setCell (by simp) _).setCell (by simp) _).setCell (by simp) _
  · obtain ⟨rfl, rfl⟩ := rightB_no (Bool.eq_false_iff.mpr hr)
    obtain ⟨rfl, rfl⟩ := hW.nought
    have hr : rightB true 0 = false := rfl
    go_enter Try.func57, Try.ntmps57
    go_wp2_with (go_at_call 42; (with_reducible refine (right_any true 0 0 0 _ HW.out).mono ?_); rintro e w1 ⟨rfl, g1⟩; rw [hr]; obtain ⟨_, _, _, _, _, _, _⟩ := ((Var3.fresh w (.bool true) (.int .u64 0) (.int .u64 0) 58 _ rfl).alloc (.cells #[.bool false, .int .u64 0, .int .u64 0] 58)).after g1; obtain ⟨_, _, _, _, _, _, _⟩ := (Var3.fresh (w.alloc (.cells #[.bool true, .int .u64 0, .int .u64 0] 58)) (.bool false) (.int .u64 0) (.int .u64 0) 58 (w.heap.size + 1) (by simp)).after g1; have D1 := below_step (below_more (below_more (Below.refl _ _) _) _) g1)
    refine bodyPost_ret (v := .agg #[.bool false, .int .u64 0, .int .u64 0]) (by simp [results, Try.results57, go_sem, *]) rfl ⟨rfl, ?_⟩
    exact ((D1.setCell (by simp) _).setCell (by simp) _).setCell (by simp) _

theorem neg_any (b : Bool) (h l : Int) (N : Nat) (w : World) (hW : IsW h l N) :
    Calls Try.prog 39 #[.agg #[.bool b, .int .u64 h, .int .u64 l]] w fun e w' => e = .returned (.agg #[.bool (downB (!b) N), .int .u64 h, .int .u64 l]) ∧ Below w.heap.size w w' := by
  have HW := Lib.hid hW
  go_enter Try.func39, Try.ntmps39
  go_wp2_with (go_at_call 57; (with_reducible refine (mended_any (!b) h l N _ HW.out).mono ?_); rintro e w1 ⟨rfl, g1⟩; obtain ⟨_, _, _, _, _, _, _⟩ := (Var3.fresh (w.alloc (.cells #[.bool b, .int .u64 h, .int .u64 l] 58)) (.bool false) (.int .u64 0) (.int .u64 0) 58 (w.heap.size + 1) (by simp)).after g1; have D1 := below_step (below_more (below_more (Below.refl _ _) _) _) g1)
  refine bodyPost_ret (v := .agg #[.bool (downB (!b) N), .int .u64 h, .int .u64 l]) (by simp [results, Try.results39, go_sem, *]) rfl ⟨rfl, ?_⟩
  exact ((D1.setCell (by simp) _).setCell (by simp) _).setCell (by simp) _

/-- A number with its sign, in two halves: the sign only below 0. -/
structure IsZ (b : Bool) (h l : Int) (z : Int) : Prop where
  b : b = decide (z < 0)
  w : IsW h l z.natAbs
theorem IsZ.unique {b b' : Bool} {h l h' l' z : Int} (w : IsZ b h l z) (w' : IsZ b' h' l' z) : b = b' ∧ h = h' ∧ l = l' :=
  ⟨w.b.trans w'.b.symm, w.w.unique w'.w⟩
def GivesZ (z : Int) (w : World) (e : Ending) (w' : World) : Prop := ∃ (b : Bool) (h l : Int), e = .returned (.agg #[.bool b, .int .u64 h, .int .u64 l]) ∧ IsZ b h l z ∧ Below w.heap.size w w'
def GivesZC (z c : Int) (w : World) (e : Ending) (w' : World) : Prop := ∃ (b : Bool) (h l : Int), e = .returned (.tuple #[.agg #[.bool b, .int .u64 h, .int .u64 l], .int .i64 c]) ∧ IsZ b h l z ∧ Below w.heap.size w w'

theorem of_pos {n : Int} (h : 0 ≤ n) (h' : n ≤ 9223372036854775807) : IsZ false 0 n n := ⟨by simp; omega, ⟨by decide, by decide, by omega, by omega, by omega⟩⟩
theorem of_neg {n : Int} (h : n < 0) (h' : -9223372036854775808 ≤ n) : IsZ true 0 (-n) n := ⟨by simp; omega, ⟨by decide, by decide, by omega, by omega, by omega⟩⟩
theorem sof_any (n : Int) (w : World) (hn : -9223372036854775808 ≤ n) (hn' : n ≤ 9223372036854775807) : Calls Try.prog 43 #[.int .i64 n] w (GivesZ n w) := by
  by_cases h : 0 ≤ n
  · go_enter Try.func43, Try.ntmps43
    go_wp2
    refine bodyPost_ret (v := .agg #[.bool false, .int .u64 0, .int .u64 n]) (by simp [results, Try.results43, go_sem, *]) rfl ⟨_, _, _, rfl, of_pos h hn', ?_⟩
    exact (Below.refl _ _).alloc (Nat.le_refl _) _
  · have hv : n < 0 := by omega
    go_enter Try.func43, Try.ntmps43
    go_wp2
    refine bodyPost_ret (v := .agg #[.bool true, .int .u64 0, .int .u64 (-n)]) (by simp [results, Try.results43, go_sem, *]; omega) rfl ⟨_, _, _, rfl, of_neg hv hn, ?_⟩
    exact (Below.refl _ _).alloc (Nat.le_refl _) _

/-- What lies between two sizes. -/
def gapN (A B : Nat) : Nat := A - B + (B - A)
theorem between_z {A B : Nat} {h l : Int} (w : IsW h l (gapN A B)) : IsZ (decide (A < B)) h l ((A : Int) - B) := by
  refine ⟨by simp; omega, ?_⟩
  have e : ((A : Int) - B).natAbs = gapN A B := by unfold gapN; omega
  rw [e]; exact w
set_option maxRecDepth 100000 in
set_option maxHeartbeats 1000000 in
theorem between_any (ah al bh bl : Int) (A B : Nat) (w : World) (ha : IsW ah al A) (hb : IsW bh bl B) :
    Calls Try.prog 45 #[.agg #[.int .u64 ah, .int .u64 al], .agg #[.int .u64 bh, .int .u64 bl]] w (GivesZ ((A : Int) - B) w) := by
  have HA := Lib.hid ha
  have HB := Lib.hid hb
  by_cases hle : B ≤ A
  · have h1 : lessC A B = 0 := by rw [lessC, if_pos hle]
    have h2 : Hid (lessN A B = gapN A B) := by rw [lessN, if_pos hle]; unfold gapN Hid; omega
    have h3 : decide (A < B) = false := by simp; omega
    go_enter Try.func45, Try.ntmps45
    go_wp2_with (go_at_call 16; (with_reducible refine (eless_any ah al bh bl A B _ HA.out HB.out).mono ?_); rintro e w1 ⟨h, l, rfl, hW, g1⟩; rw [h1]; rw [h2.out] at hW; obtain ⟨_, _, _, _, _, _, _⟩ := (Var3.fresh ((w.alloc (.cells #[.int .u64 ah, .int .u64 al] 24)).alloc (.cells #[.int .u64 bh, .int .u64 bl] 24)) (.bool false) (.int .u64 0) (.int .u64 0) 58 (w.heap.size + 2) (by simp)).after g1; have D1 := below_step (below_more (below_more (below_more (Below.refl _ _) _) _) _) g1)
    refine bodyPost_ret (v := .agg #[.bool false, .int .u64 h, .int .u64 l]) (by simp [results, Try.results45, go_sem, *]) rfl ⟨false, h, l, rfl, ?_, ?_⟩
    · have := between_z hW; rw [h3] at this; exact this
    · exact below_more (((D1.setCell (by simp <;> omega) _).setCell (by simp <;> omega) _).setCell (by simp <;> omega) _) _
  · have h1 : lessC A B = 3 := by rw [lessC, if_neg hle]
    have h2 : Hid (lessN B A = gapN A B) := by rw [lessN, if_pos (by omega)]; unfold gapN Hid; omega
    have h3 : decide (A < B) = true := by simp; omega
    go_enter Try.func45, Try.ntmps45
    go_wp2_with (first
      | (go_at_call 16; (with_reducible refine (eless_any ah al bh bl A B _ HA.out HB.out).mono ?_); rintro e w1 ⟨h, l, rfl, hW, g1⟩; rw [h1]; have K1 := Lib.hid (((Var2.fresh w (.int .u64 ah) (.int .u64 al) 24 _ rfl).alloc (.cells #[.int .u64 bh, .int .u64 bl] 24)).alloc (.cells #[.bool false, .int .u64 0, .int .u64 0] 58) |>.after g1); have K2 := Lib.hid (((Var2.fresh (w.alloc (.cells #[.int .u64 ah, .int .u64 al] 24)) (.int .u64 bh) (.int .u64 bl) 24 (w.heap.size + 1) (by simp)).alloc (.cells #[.bool false, .int .u64 0, .int .u64 0] 58)).after g1); have K3 := Lib.hid ((Var3.fresh ((w.alloc (.cells #[.int .u64 ah, .int .u64 al] 24)).alloc (.cells #[.int .u64 bh, .int .u64 bl] 24)) (.bool false) (.int .u64 0) (.int .u64 0) 58 (w.heap.size + 2) (by simp)).after g1); obtain ⟨_, _, _, _, _⟩ := K1.out;  obtain ⟨_, _, _, _, _⟩ := K2.out; obtain ⟨_, _, _, _, _, _, _⟩ := K3.out; have D1 := below_step (below_more (below_more (below_more (Below.refl _ _) _) _) _) g1)
      | (go_at_call 16; (with_reducible refine (eless_any bh bl ah al B A _ HB.out HA.out).mono ?_); rintro e w2 ⟨h', l', rfl, hW', g2⟩; rw [h2.out] at hW'; have K4 := Lib.hid ((K3.out.alloc _).after g2); obtain ⟨_, _, _, _, _, _, _⟩ := K4.out; obtain ⟨_, _, _, _, _⟩ := (Var2.fresh w1 (.int .u64 h) (.int .u64 l) 24 _ rfl).after g2; have D2 := below_step (below_more D1 _) g2))
    refine bodyPost_ret (v := .agg #[.bool true, .int .u64 h', .int .u64 l']) (by simp [results, Try.results45, go_sem, *]) rfl ⟨true, h', l', rfl, ?_, ?_⟩
    · have := between_z hW'; rw [h3] at this; exact this
    · have := g1.size
      simp at this
      exact ((((D2.setCell (by simp <;> omega) _).setCell (by simp <;> omega) _).setCell (by simp <;> omega) _).setCell (by simp <;> omega) _).setCell (by simp <;> omega) _

end Go.Proofs.Ytcdafppnfflmcaa
