/-
  The program's disk, walked: New.
-/
import Derived.Test.YtnndpainnoebgaaBlkG
namespace Go.Proofs.Ytnndpainnoebgaa
open Go.RowKit

set_option maxRecDepth 100000 in
set_option maxHeartbeats 4000000 in
theorem bnew_not (n size : Int) (w : World) (h : ¬ (1 ≤ n ∧ n ≤ 400 ∧ 32 ≤ size ∧ size ≤ 512)) :
    Calls Try.prog 8 #[.int .i64 n, .int .i64 size] w (GivesN n size w) := by
  have HN := Lib.hid h
  have hc : n < 1 ∨ (¬ n < 1 ∧ 400 < n) ∨ (¬ n < 1 ∧ ¬ 400 < n ∧ size < 32) ∨ (¬ n < 1 ∧ ¬ 400 < n ∧ ¬ size < 32 ∧ 512 < size) := by omega
  clear h
  rcases hc with h1 | ⟨h1, h2⟩ | ⟨h1, h2, h3⟩ | ⟨h1, h2, h3, h4⟩
  all_goals
    go_enter Try.func8, Try.ntmps8
    go_wp2
    go_ret2
    exact ⟨Below.refl _ _, Or.inl ⟨HN.out, rfl⟩⟩

set_option maxRecDepth 100000 in
set_option maxHeartbeats 8000000 in
theorem bnew_done (n size : Nat) (w : World) (n0 : 1 ≤ n) (n1 : n ≤ 400) (s0 : 32 ≤ size) (s1 : size ≤ 512) :
    Calls Try.prog 8 #[.int .i64 (n : Int), .int .i64 (size : Int)] w fun e w' => Below w.heap.size w w' ∧ ∃ r O, e = .returned (.tuple #[.pointer (some ⟨r, 0, none⟩), .int .i64 0]) ∧ DskIs w' w.heap.size O r (Dsk.new n size) := by
  have h1 : ¬ (n : Int) < 1 := by omega
  have h2 : ¬ (400 : Int) < (n : Int) := by omega
  have h3 : ¬ (size : Int) < 32 := by omega
  have h4 : ¬ (512 : Int) < (size : Int) := by omega
  have hmost : n * size ≤ 204800 := Nat.mul_le_mul n1 s1
  have HNEW := Lib.hid (fun w2 gl gs r => new_is n size n0 n1 s0 s1 w w2 gl gs r)
  obtain ⟨M, hM⟩ : ∃ M, n * size = M := ⟨_, rfl⟩
  have hmul : IntKind.i64.wrap ((n : Int) * (size : Int)) = (M : Int) := by
    have e : (n : Int) * (size : Int) = (M : Int) := by rw [← hM]; simp
    rw [e, IntKind.wrap_i64]; omega
  rw [hM] at HNEW
  obtain ⟨mk, hmk⟩ : ∃ f : World → World, ∀ W : World, (Instr.makeSlice 30 (.int .i64 (M : Int)) (.int .i64 (M : Int))).run Try.prog W = .ok (.slice (some ⟨W.heap.size, 0, none⟩) M M) (f W) ∧ RowB (f W) W.heap.size (List.replicate M 0) ∧ Below W.heap.size W (f W) :=
    ⟨fun W => Classical.choose (made_row W M (by omega)), fun W => Classical.choose_spec (made_row W M (by omega))⟩
  have hm1 := fun W => (hmk W).1
  have HMK := Lib.hid (fun W => (hmk W).2)
  clear hmk hM hmost n0 n1 s0 s1
  go_enter Try.func8, Try.ntmps8
  go_wp2
  go_region
  all_goals
    go_wp2
    go_ret2
    have A1 := HMK.out w.drew
    have A2 := HMK.out (mk w.drew)
    have e0 : w.drew.heap.size = w.heap.size := rfl
    rw [e0] at A1
    have b1 : Below w.heap.size w (mk w.drew) := ((Below.refl _ _).drew).trans A1.2
    have b2 : Below w.heap.size w (mk (mk w.drew)) := b1.trans (A2.2.mono b1.size)
    have l1 := A1.1.lt
    have r1 : RowB (mk (mk w.drew)) w.heap.size (List.replicate M 0) := A1.1.kept (A2.2.block _ l1)
    refine ⟨b2.trans ((Below.refl _ _).alloc b2.size _), ?_⟩
    first
      | exact ⟨_, _, rfl, HNEW.out _ w.heap.size (mk w.drew).heap.size _ r1 A2.1 b2 (Nat.le_refl _) b1.size (Nat.ne_of_lt l1) rfl⟩
      | exact ⟨_, _, rfl, HNEW.out _ (mk w.drew).heap.size w.heap.size _ A2.1 r1 b2 b1.size (Nat.le_refl _) (Ne.symm (Nat.ne_of_lt l1)) rfl⟩
theorem bnew_any (n size : Int) (w : World) (_n0 : -9223372036854775808 ≤ n) (_n1 : n ≤ 9223372036854775807) (_s0 : -9223372036854775808 ≤ size) (_s1 : size ≤ 9223372036854775807) :
    Calls Try.prog 8 #[.int .i64 n, .int .i64 size] w (GivesN n size w) := by
  by_cases h : 1 ≤ n ∧ n ≤ 400 ∧ 32 ≤ size ∧ size ≤ 512
  · obtain ⟨h1, h2, h3, h4⟩ := h
    obtain ⟨N, rfl⟩ : ∃ N : Nat, n = (N : Int) := ⟨n.toNat, by omega⟩
    obtain ⟨S, rfl⟩ : ∃ S : Nat, size = (S : Int) := ⟨size.toNat, by omega⟩
    exact (bnew_done N S w (by omega) (by omega) (by omega) (by omega)).mono (fun e w' ⟨hb, r, O, he, hd⟩ => ⟨hb, Or.inr ⟨h1, h2, h3, h4, r, O, he, by rw [Int.toNat_natCast, Int.toNat_natCast]; exact hd⟩⟩)
  · exact bnew_not n size w h

end Go.Proofs.Ytnndpainnoebgaa
