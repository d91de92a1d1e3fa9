/-
  The program's calls of package crc, walked: On, Of, Size.
-/
import Derived.Test.YtiephcjdbndjaaaDoorCrcU
import Derived.Test.YtiephcjdbndjaaaDoorEnv
namespace Go.Proofs.YtiephcjdbndjaaaDoor
open Go.RowKit

theorem shs_lt {c : Nat} (h : c < 4294967296) (k : Nat) : shsC c k < 4294967296 := by
  induction k with
  | zero => exact h
  | succ k ih =>
    simp only [shsC]
    unfold shC
    split
    · omega
    · exact xor_lt32 (by omega) (by decide)
/-- Four bits fall out, by the table. -/
def nibC (c : Nat) : Nat := (c / 16) ^^^ shsC (c % 16) 4
theorem nibC_lt {c : Nat} (h : c < 4294967296) : nibC c < 4294967296 := xor_lt32 (by omega) (shs_lt (by omega) 4)
theorem byte_nibs {c x : Nat} (hx : x < 256) : byteC c x = nibC (nibC (c ^^^ x)) := by
  have e : ∀ d, shsC d 4 = nibC d := fun d => by rw [shs_four, Nat.xor_comm]; rfl
  rw [byte_shs hx, show (8 : Nat) = 4 + 4 by rfl, shs_add, e, e]

theorem and15 {d k : Nat} (h : d < 4294967296) (hk : d % 16 = k) : bits .and .u32 (d : Int) 15 = (k : Int) := by
  rw [show (15 : Int) = ((15 : Nat) : Int) by rfl, u32_and_nat d 15 h (by decide), ← hk]
  congr 1
  exact Nat.and_two_pow_sub_one_eq_mod d 4
/-- All bits turned. -/
theorem not32 {s : Nat} (h : s < 4294967296) : s ^^^ 4294967295 = 4294967295 - s := by
  have e : s ^^^ (2 ^ 32 - 1) = 2 ^ 32 - (s + 1) := Nat.eq_of_testBit_eq fun i => by
    rw [Nat.testBit_two_pow_sub_succ h, Nat.testBit_xor, Nat.testBit_two_pow_sub_one]
    by_cases hi : i < 32
    · simp [hi]
    · simp [hi]
      exact Nat.testBit_lt_two_pow (Nat.lt_of_lt_of_le (m := 2 ^ 32) h (Nat.pow_le_pow_right (n := 2) (by decide) (by omega : 32 ≤ i)))
  have e2 : s ^^^ 4294967295 = 2 ^ 32 - (s + 1) := e
  rw [e2]
  omega
set_option maxRecDepth 100000 in
set_option maxHeartbeats 4000000 in
theorem con_same (s : Nat) (v : Value) (l : List Int) (w : World) (env : Env w) (hs : s < 4294967296) (hv : ArgB w v l) (hb : ∀ z ∈ l, 0 ≤ z ∧ z ≤ 255) (hl : l.length ≤ 1000000) :
    Calls Tryd.prog 9 #[.int .u32 s, v] w fun e w' => e = .returned (.int .u32 (onL s l)) ∧ w' = w := by
  obtain ⟨a, cap, rfl, hcap, hcell⟩ := hv.bytesIs
  have HC := Lib.hid hcell
  have HB := Lib.hid hb
  have HT := Lib.hid env.turns
  clear hcell hb env hv
  have hns : bits .xor .u32 (4294967295 : Int) (s : Int) = ((4294967295 - s : Nat) : Int) := by
    rw [show (4294967295 : Int) = ((4294967295 : Nat) : Int) by rfl, u32_xor_nat _ _ (by decide) hs]
    congr 1
    rw [Nat.xor_comm]
    exact not32 hs
  have hmx : IntKind.u32.max = (4294967295 : Int) := rfl
  obtain ⟨c0, hc0⟩ : ∃ c, 4294967295 - s = c := ⟨_, rfl⟩
  have HC0 := Lib.hid hc0
  have hc02 : c0 < 4294967296 := by omega
  rw [hc0] at hns
  clear hc0
  go_enter Tryd.func9, Tryd.ntmps9
  go_wp2
  go_loop [5, 12] (fun v5 v12 => ∃ (i c : Nat), i ≤ l.length ∧ v12 = .int .i64 (i : Int) ∧ v5 = .int .u32 (c : Int) ∧ c < 4294967296 ∧ regL c0 (l.take i) = c) (fun _ v12 => l.length - (intOf v12).toNat)
  case atStart => exact ⟨0, c0, Nat.zero_le _, rfl, rfl, hc02, rfl⟩
  case round =>
    obtain ⟨i, c, hi, rfl, rfl, hc, hr⟩ := hrel
    have HR := Lib.hid hr
    clear hr
    by_cases h1 : i < l.length
    · obtain ⟨b, off, ha, hx⟩ := HC.out i h1
      subst ha
      have hz := HB.out (l.getD i 0) (by rw [List.getD_eq_getElem?_getD, List.getElem?_eq_getElem h1]; exact List.getElem_mem h1)
      obtain ⟨x, hxx⟩ : ∃ x : Nat, l.getD i 0 = (x : Int) := ⟨(l.getD i 0).toNat, by omega⟩
      rw [hxx] at hx hz
      have HX := Lib.hid hxx
      have hx256 : x ≤ 255 := by omega
      clear hxx hz
      obtain ⟨d, hd⟩ : ∃ d, c ^^^ x = d := ⟨_, rfl⟩
      have hd2 : d < 4294967296 := by rw [← hd]; exact xor_lt32 hc (by omega)
      have hwx : IntKind.u32.wrap (x : Int) = (x : Int) := by rw [IntKind.wrap_u32]; omega
      have hxr : bits .xor .u32 (c : Int) (x : Int) = (d : Int) := by rw [u32_xor_nat c x hc (by omega), hd]
      obtain ⟨f, hf⟩ : ∃ f, nibC d = f := ⟨_, rfl⟩
      have hf2 : f < 4294967296 := by rw [← hf]; exact nibC_lt hd2
      obtain ⟨g, hg⟩ : ∃ g, nibC f = g := ⟨_, rfl⟩
      have hg2 : g < 4294967296 := by rw [← hg]; exact nibC_lt hf2
      obtain ⟨k, hk⟩ : ∃ k, d % 16 = k := ⟨_, rfl⟩
      obtain ⟨k2, hk2⟩ : ∃ k, f % 16 = k := ⟨_, rfl⟩
      obtain ⟨q, hq⟩ : ∃ k, d / 16 = k := ⟨_, rfl⟩
      obtain ⟨q2, hq2⟩ : ∃ k, f / 16 = k := ⟨_, rfl⟩
      obtain ⟨t1, ht1⟩ : ∃ y, shsC k 4 = y := ⟨_, rfl⟩
      obtain ⟨t2, ht2⟩ : ∃ y, shsC k2 4 = y := ⟨_, rfl⟩
      have hcd := HT.out.cell k (by omega)
      have hcf := HT.out.cell k2 (by omega)
      have xd : bits .xor .u32 (q : Int) (t1 : Int) = (f : Int) := by rw [← ht1, ← hk, u32_xor_nat _ _ (by omega) (shs_lt (by omega) 4), ← hf, ← hq]; rfl
      have xf : bits .xor .u32 (q2 : Int) (t2 : Int) = (g : Int) := by rw [← ht2, ← hk2, u32_xor_nat _ _ (by omega) (shs_lt (by omega) 4), ← hg, ← hq2]; rfl
      rw [ht1] at hcd
      rw [ht2] at hcf
      have ed : bits .and .u32 (d : Int) 15 = (k : Int) := and15 hd2 hk
      have ef : bits .and .u32 (f : Int) 15 = (k2 : Int) := and15 hf2 hk2
      have qd : (d : Int) / 16 = (q : Int) := by omega
      have qf : (f : Int) / 16 = (q2 : Int) := by omega
      have b1 : (k : Int) < 16 := by omega
      have b2 : (k2 : Int) < 16 := by omega
      have hnx : Hid (regL c0 (l.take (i + 1)) = g) := by
        unfold Hid
        rw [take_snocI h1, regL_snoc, HR.out, HX.out, Int.toNat_natCast, byte_nibs (by omega), hd, hf, hg]
      clear hk hk2 hq hq2 ht1 ht2 hd hf hg
      go_wp2
      go_round
      case rel => exact ⟨i + 1, g, by omega, by go_num, rfl, hg2, hnx.out⟩
      case measure => simp [intOf]; omega
    · obtain rfl : i = l.length := by omega
      have hfin : Hid (onL s l = 4294967295 - c) := by
        have := HR.out
        rw [List.take_length] at this
        unfold Hid onL
        rw [HC0.out, this]
      have hns2 : bits .xor .u32 (4294967295 : Int) (c : Int) = ((4294967295 - c : Nat) : Int) := by
        rw [show (4294967295 : Int) = ((4294967295 : Nat) : Int) by rfl, u32_xor_nat _ _ (by decide) hc]
        congr 1
        rw [Nat.xor_comm]
        exact not32 hc
      obtain ⟨c9, hc9⟩ : ∃ z, 4294967295 - c = z := ⟨_, rfl⟩
      rw [hc9] at hns2 hfin
      clear hc9
      go_wp2
      go_ret
      exact ⟨by rw [hfin.out]; rfl, rfl⟩
theorem con_any (s : Nat) (v : Value) (l : List Int) (w : World) (env : Env w) (hs : s < 4294967296) (hv : ArgB w v l) (hb : ∀ z ∈ l, 0 ≤ z ∧ z ≤ 255) (hl : l.length ≤ 1000000) :
    Calls Tryd.prog 9 #[.int .u32 s, v] w fun e w' => e = .returned (.int .u32 (onL s l)) ∧ Below w.heap.size w w' :=
  (con_same s v l w env hs hv hb hl).mono fun _ _ ⟨h1, h2⟩ => ⟨h1, by rw [h2]; exact Below.refl _ _⟩

theorem cof_same (v : Value) (l : List Int) (w : World) (env : Env w) (hv : ArgB w v l) (hb : ∀ z ∈ l, 0 ≤ z ∧ z ≤ 255) (hl : l.length ≤ 1000000) :
    Calls Tryd.prog 7 #[v] w fun e w' => e = .returned (.int .u32 (sumL l)) ∧ w' = w := by
  have HC : Hid (Calls Tryd.prog 9 #[.int .u32 0, v] w fun e w' => e = .returned (.int .u32 (sumL l)) ∧ w' = w) := con_same 0 v l w env (by decide) hv hb hl
  clear hv hb env
  go_enter Tryd.func7, Tryd.ntmps7
  go_wp2_with (go_at_call 9; (with_reducible refine HC.out.mono ?_); rintro e w1 ⟨rfl, rfl⟩)
  go_ret
  exact ⟨rfl, rfl⟩
theorem cof_any (v : Value) (l : List Int) (w : World) (env : Env w) (hv : ArgB w v l) (hb : ∀ z ∈ l, 0 ≤ z ∧ z ≤ 255) (hl : l.length ≤ 1000000) :
    Calls Tryd.prog 7 #[v] w fun e w' => e = .returned (.int .u32 (sumL l)) ∧ Below w.heap.size w w' :=
  (cof_same v l w env hv hb hl).mono fun _ _ ⟨h1, h2⟩ => ⟨h1, by rw [h2]; exact Below.refl _ _⟩

theorem csize_any (n : Int) (w : World) (_env : Env w) (n0 : -9223372036854775808 ≤ n) (n1 : n ≤ 9223372036854775807) :
    Calls Tryd.prog 13 #[.int .i64 n] w fun e w' => e = .returned (.int .i64 (if 0 ≤ n ∧ n ≤ 1073741824 then n + 10 else 0)) ∧ Below w.heap.size w w' := by
  by_cases h0 : n < 0
  · have hno : Hid ((if 0 ≤ n ∧ n ≤ 1073741824 then n + 10 else 0) = 0) := if_neg (by omega)
    go_enter Tryd.func13, Tryd.ntmps13
    go_wp2
    go_ret
    first
      | exact ⟨rfl, Below.refl _ _⟩
      | exact ⟨by rw [hno.out]; rfl, Below.refl _ _⟩
  · by_cases h1 : 1073741824 < n
    · have hno : Hid ((if 0 ≤ n ∧ n ≤ 1073741824 then n + 10 else 0) = 0) := if_neg (by omega)
      go_enter Tryd.func13, Tryd.ntmps13
      go_wp2
      go_ret
      first
      | exact ⟨rfl, Below.refl _ _⟩
      | exact ⟨by rw [hno.out]; rfl, Below.refl _ _⟩
    · have hno : Hid ((if 0 ≤ n ∧ n ≤ 1073741824 then n + 10 else 0) = n + 10) := if_pos (by omega)
      have hw : IntKind.i64.wrap (n + 10) = n + 10 := by rw [IntKind.wrap_i64]; omega
      go_enter Tryd.func13, Tryd.ntmps13
      go_wp2
      go_ret
      first
      | exact ⟨rfl, Below.refl _ _⟩
      | exact ⟨by rw [hno.out]; rfl, Below.refl _ _⟩

end Go.Proofs.YtiephcjdbndjaaaDoor
