/-
  Package exact, walked: Sum: all of a list of numbers, or it is beyond 64 bits.
-/
import Derived.WalkKit
import Derived.WalkSpells
import Derived.WalkLawsBesides
import Derived.WalkSmall
import Derived.Lib.Hide
import Derived.KernelRfl
import Derived.Test.YtnonecjjlmlbaaaProg
namespace Go.Proofs.Ytnonecjjlmlbaaa
open Go.RowKit

/-- The slice reads as these numbers. -/
def Nums (w : World) (v : Value) (zs : List Int) : Prop :=
  ∃ a cap, v = .slice a zs.length cap ∧ ∀ i, i < zs.length → ∃ b off, a = some ⟨b, off, none⟩ ∧ w.cell? ⟨b, off + i, none⟩ = some (.int .u64 (zs.getD i 0))
/-- Each is a number of 64 bits. -/
def Words (zs : List Int) : Prop := ∀ z ∈ zs, 0 ≤ z ∧ z ≤ 18446744073709551615
def tot : List Int → Int
  | [] => 0
  | z :: zs => z + tot zs
def sumN (t : Int) : Int := if t ≤ 18446744073709551615 then t else 0
def sumC (t : Int) : Int := if t ≤ 18446744073709551615 then 0 else 3
theorem tot_append (xs ys : List Int) : tot (xs ++ ys) = tot xs + tot ys := by
  induction xs with
  | nil => simp [tot]
  | cons x xs ih => simp only [List.cons_append, tot, ih]; omega
theorem tot_nonneg {zs : List Int} (h : Words zs) : 0 ≤ tot zs := by
  induction zs with
  | nil => simp [tot]
  | cons z zs ih =>
    have h1 := h z (by simp)
    have h2 := ih (fun x hx => h x (by simp [hx]))
    simp only [tot]; omega
theorem Words.take {zs : List Int} (h : Words zs) (k : Nat) : Words (zs.take k) := fun z hz => h z (List.mem_of_mem_take hz)
theorem Words.drop {zs : List Int} (h : Words zs) (k : Nat) : Words (zs.drop k) := fun z hz => h z (List.mem_of_mem_drop hz)
theorem Words.at {zs : List Int} (h : Words zs) {k : Nat} (hk : k < zs.length) : 0 ≤ zs.getD k 0 ∧ zs.getD k 0 ≤ 18446744073709551615 := by
  rw [List.getD_eq_getElem?_getD, List.getElem?_eq_getElem hk]
  exact h _ (List.getElem_mem hk)
theorem tot_step (zs : List Int) (k : Nat) (hk : k < zs.length) : tot (zs.take (k + 1)) = tot (zs.take k) + zs.getD k 0 := by
  rw [List.take_succ_eq_append_getElem hk, tot_append, List.getD_eq_getElem?_getD, List.getElem?_eq_getElem hk]
  simp [tot]
theorem tot_split (zs : List Int) (k : Nat) : tot zs = tot (zs.take k) + tot (zs.drop k) := by
  conv => lhs; rw [← List.take_append_drop k zs]
  exact tot_append _ _
theorem tot_beyond {zs : List Int} (h : Words zs) (k : Nat) (hk : k < zs.length) (hb : 18446744073709551615 < tot (zs.take k) + zs.getD k 0) : ¬ tot zs ≤ 18446744073709551615 := by
  rw [← tot_step zs k hk] at hb
  have := tot_split zs (k + 1)
  have := tot_nonneg (h.drop (k + 1))
  omega

set_option maxRecDepth 100000 in
theorem sum_any (v : Value) (zs : List Int) (w : World) (hv : Nums w v zs) (hz : Words zs) (hm : zs.length ≤ 9223372036854775807) :
    Calls Try.prog 25 #[v] w fun e w' => e = .returned (.tuple #[.int .u64 (sumN (tot zs)), .int .i64 (sumC (tot zs))]) ∧ w = w' := by
  obtain ⟨a, cap, rfl, hcell⟩ := hv
  replace hz := Lib.hid hz
  replace hcell := Lib.hid hcell
  go_enter Try.func25, Try.ntmps25
  go_wp2
  go_loop [4, 9, 6] (fun s i _ => ∃ (k : Nat) (t : Int), k ≤ zs.length ∧ i = .int .i64 k ∧ s = .int .u64 t ∧ 0 ≤ t ∧ t ≤ 18446744073709551615 ∧ Hid (t = tot (zs.take k))) (fun _ i _ => zs.length - (intOf i).toNat)
  case atStart => exact ⟨0, 0, Nat.zero_le _, rfl, rfl, by omega, by omega, Lib.hid (by simp [tot])⟩
  case round =>
    obtain ⟨k, t, hk, rfl, rfl, ht0, ht1, ht⟩ := hrel
    by_cases h1 : k < zs.length
    · obtain ⟨b, off, rfl, hc⟩ := hcell.out k h1
      obtain ⟨z0, z1⟩ := hz.out.at h1
      have hst := Lib.hid (tot_step zs k h1)
      have hby := Lib.hid (tot_beyond hz.out k h1)
      obtain ⟨z, hzk⟩ : ∃ z, z = zs.getD k 0 := ⟨_, rfl⟩
      rw [← hzk] at hc z0 z1 hst hby
      clear hzk
      by_cases h2 : 18446744073709551615 - t < z
      · have hres := Lib.hid (hby.out (by rw [← ht.out]; omega))
        go_wp2
        go_ret2
        exact ⟨by have h9 := hres.out; rw [sumN, sumC, if_neg (by omega), if_neg (by omega)]; rfl, rfl⟩
      · go_wp2
        go_round
        case rel => exact ⟨k + 1, t + z, by omega, by go_num, rfl, by omega, by omega, Lib.hid (by rw [hst.out, ← ht.out])⟩
        case measure => simp [intOf]; omega
    · obtain rfl : k = zs.length := by omega
      have hres := Lib.hid (show t = tot zs by rw [ht.out, List.take_length])
      clear ht
      go_wp2
      go_ret2
      exact ⟨by rw [← hres.out, sumN, sumC, if_pos ht1, if_pos ht1]; rfl, rfl⟩

/-- The cells are these numbers. -/
def CellsOf (w : World) (a : Option Addr) (zs : List Int) : Prop := ∀ i, i < zs.length → ∃ b off, a = some ⟨b, off, none⟩ ∧ w.cell? ⟨b, off + i, none⟩ = some (.int .u64 (zs.getD i 0))
theorem CellsOf.below {w w' : World} {a : Option Addr} {zs : List Int} (h : CellsOf w a zs) (hb : Below w.heap.size w w') : CellsOf w' a zs := by
  intro i hi
  obtain ⟨b, off, rfl, hc⟩ := h i hi
  exact ⟨b, off, rfl, (hb.cell (p := ⟨b, off + i, none⟩) (World.block_lt_of_cell? _ _ hc)).trans hc⟩
theorem CellsOf.nums {w : World} {a : Option Addr} {zs : List Int} (h : CellsOf w a zs) (n cap : Nat) (hn : n = zs.length) : Nums w (.slice a n cap) zs := by
  subst hn; exact ⟨a, cap, rfl, h⟩
theorem CellsOf.take {w : World} {a : Option Addr} {zs : List Int} (h : CellsOf w a zs) (k : Nat) : CellsOf w a (zs.take k) := by
  intro i hi
  rw [List.length_take] at hi
  obtain ⟨b, off, ha, hc⟩ := h i (by omega)
  refine ⟨b, off, ha, ?_⟩
  rw [hc, List.getD_eq_getElem?_getD, List.getD_eq_getElem?_getD, List.getElem?_take_of_lt (by omega)]
theorem elem_words (W : World) : (sizeOf (Try.prog.elem 48)).run Try.prog W = .ok 1 W := by kernel_rfl
theorem under_words : Try.prog.underlying 48 = some (.slice (Try.prog.elem 48)) := by kernel_rfl
/-- The first so many of a slice. -/
theorem slice_to (a : Option Addr) (n cap K : Nat) (hK : K ≤ cap) (W : World) :
    (Instr.slice 48 (.slice a n cap) none (some (.int .i64 K)) none).run Try.prog W = .ok (.slice a K cap) W := by
  rw [run_slice_h W 48 a n cap under_words .i64 K (by omega) (by omega), elem_words]
  simp only [Result.andThen, sliced, Int.toNat_natCast, Nat.sub_zero, Nat.zero_mul]
  cases a <;> simp [Addr.add]
/-- All from a place on. -/
theorem slice_from (a : Option Addr) (n cap K : Nat) (zs : List Int) (hn : zs.length = n) (hK : K ≤ n) (hc : n ≤ cap) :
    ∃ a2 c2, (∀ W, (Instr.slice 48 (.slice a n cap) (some (.int .i64 K)) none none).run Try.prog W = .ok (.slice a2 (n - K) c2) W) ∧ ∀ W, CellsOf W a zs → CellsOf W a2 (zs.drop K) := by
  refine ⟨if cap = K then a else a.map (·.add (K * 1)), cap - K, fun W => ?_, fun W h => ?_⟩
  · rw [run_slice_l W 48 a n cap under_words .i64 K (by omega) (by omega), elem_words]
    simp only [Result.andThen, sliced, Int.toNat_natCast]
  · intro i hi
    rw [List.length_drop] at hi
    obtain ⟨b, off, ha, hcell⟩ := h (K + i) (by omega)
    rw [if_neg (by omega), ha]
    refine ⟨b, off + K, ?_, ?_⟩
    · rcases K with _ | K <;> simp [Addr.add]
    · rw [Nat.add_assoc, hcell, List.getD_eq_getElem?_getD, List.getD_eq_getElem?_getD, List.getElem?_drop]
/-- A list whose sum has room, and one whose sum has none. -/
theorem sum_is (v : Value) (zs : List Int) (T : Int) (w : World) (hv : Nums w v zs) (hz : Words zs) (hm : zs.length ≤ 9223372036854775807) (hT : tot zs = T) (hl : T ≤ 18446744073709551615) :
    Calls Try.prog 25 #[v] w fun e w' => e = .returned (.tuple #[.int .u64 T, .int .i64 0]) ∧ w = w' := by
  refine (sum_any v zs w hv hz hm).mono ?_
  rintro e w' ⟨rfl, rfl⟩
  exact ⟨by rw [hT, sumN, sumC, if_pos hl, if_pos hl], rfl⟩
theorem sum_over (v : Value) (zs : List Int) (w : World) (hv : Nums w v zs) (hz : Words zs) (hm : zs.length ≤ 9223372036854775807) (hl : ¬ tot zs ≤ 18446744073709551615) :
    Calls Try.prog 25 #[v] w fun e w' => e = .returned (.tuple #[.int .u64 0, .int .i64 3]) ∧ w = w' := by
  refine (sum_any v zs w hv hz hm).mono ?_
  rintro e w' ⟨rfl, rfl⟩
  exact ⟨by rw [sumN, sumC, if_neg hl, if_neg hl], rfl⟩
theorem tot_le {zs : List Int} (h : Words zs) : tot zs ≤ zs.length * 18446744073709551615 := by
  induction zs with
  | nil => simp [tot]
  | cons z zs ih =>
    have h1 := h z (by simp)
    have h2 := ih (fun x hx => h x (by simp [hx]))
    simp only [tot, List.length_cons]; omega
end Go.Proofs.Ytnonecjjlmlbaaa
