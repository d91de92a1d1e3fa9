/-
  Package exact, walked: Read: the number whose print a text is, or why there is none.
-/
import Derived.Test.YtfdpiiahclglcaaDoorReadA
namespace Go.Proofs.YtfdpiiahclglcaaDoor
open Go.RowKit

/-- What stands in the call's own memory: the reader of the text, the number so far, and the place of the result. -/
structure RMem (w w1 wr : World) (s : ByteArray) (pos : Nat) (ah al : Int) : Prop where
  it : wr.heap[w1.heap.size + 1]? = some (.stringIter s pos)
  a0 : wr.cell? ⟨w1.heap.size, 0, none⟩ = some (.int .u64 ah)
  a1 : wr.cell? ⟨w1.heap.size, 1, none⟩ = some (.int .u64 al)
  f0 : wr.frozen? ⟨w1.heap.size, 0, none⟩ = false
  f1 : wr.frozen? ⟨w1.heap.size, 1, none⟩ = false
  r0 : wr.cell? ⟨w.heap.size, 0, none⟩ = some (.int .u64 0)
  r1 : wr.cell? ⟨w.heap.size, 1, none⟩ = some (.int .u64 0)
  q0 : wr.frozen? ⟨w.heap.size, 0, none⟩ = false
  q1 : wr.frozen? ⟨w.heap.size, 1, none⟩ = false
  bel : Below w.heap.size w wr
  lt0 : w.heap.size < w1.heap.size
  s0 : w.heap.size < wr.heap.size
  s1 : w1.heap.size < wr.heap.size
  s2 : w1.heap.size + 1 < wr.heap.size
theorem RMem.after {w w1 wr w2 : World} {s : ByteArray} {pos : Nat} {ah al : Int} (h : RMem w w1 wr s pos ah al) (hb : Below wr.heap.size wr w2) : RMem w w1 w2 s pos ah al := by
  obtain ⟨it, a0, a1, f0, f1, r0, r1, q0, q1, bel, lt0, s0, s1, s2⟩ := h
  have hc : ∀ b o, b < wr.heap.size → w2.cell? ⟨b, o, none⟩ = wr.cell? ⟨b, o, none⟩ := fun b o h => hb.cell (p := ⟨b, o, none⟩) h
  have hf : ∀ b o, b < wr.heap.size → w2.frozen? ⟨b, o, none⟩ = wr.frozen? ⟨b, o, none⟩ := fun b o h => hb.frozen (p := ⟨b, o, none⟩) h
  have := hb.size
  exact ⟨(hb.block _ s2).trans it, by rw [hc _ _ s1, a0], by rw [hc _ _ s1, a1], by rw [hf _ _ s1, f0], by rw [hf _ _ s1, f1], by rw [hc _ _ s0, r0], by rw [hc _ _ s0, r1], by rw [hf _ _ s0, q0], by rw [hf _ _ s0, q1], bel.trans (hb.mono bel.size), lt0, by omega, by omega, by omega⟩
theorem RMem.next {w w1 wr : World} {s : ByteArray} {pos : Nat} {ah al : Int} (h : RMem w w1 wr s pos ah al) (p : Nat) : RMem w w1 (wr.iterAt (w1.heap.size + 1) s p) s p ah al := by
  obtain ⟨it, a0, a1, f0, f1, r0, r1, q0, q1, bel, lt0, s0, s1, s2⟩ := h
  have hk : ∀ k, k ≠ w1.heap.size + 1 → (wr.iterAt (w1.heap.size + 1) s p).heap[k]? = wr.heap[k]? := fun k hk => Lib.iterAt_other wr _ k s p hk
  have hz := Lib.iterAt_size wr (w1.heap.size + 1) s p
  have c1 : ∀ o, (wr.iterAt (w1.heap.size + 1) s p).cell? ⟨w1.heap.size, o, none⟩ = wr.cell? ⟨w1.heap.size, o, none⟩ := fun o => World.cell?_of_block (hk _ (by simp))
  have c0 : ∀ o, (wr.iterAt (w1.heap.size + 1) s p).cell? ⟨w.heap.size, o, none⟩ = wr.cell? ⟨w.heap.size, o, none⟩ := fun o => World.cell?_of_block (hk _ (by simp; omega))
  have g1 : ∀ o, (wr.iterAt (w1.heap.size + 1) s p).frozen? ⟨w1.heap.size, o, none⟩ = wr.frozen? ⟨w1.heap.size, o, none⟩ := fun o => World.frozen?_of_block (hk _ (by simp))
  have g0 : ∀ o, (wr.iterAt (w1.heap.size + 1) s p).frozen? ⟨w.heap.size, o, none⟩ = wr.frozen? ⟨w.heap.size, o, none⟩ := fun o => World.frozen?_of_block (hk _ (by simp; omega))
  exact ⟨Lib.iterAt_heap wr _ s pos p it, by rw [c1, a0], by rw [c1, a1], by rw [g1, f0], by rw [g1, f1], by rw [c0, r0], by rw [c0, r1], by rw [g0, q0], by rw [g0, q1], Lib.below_iterAt bel (by omega) s p, lt0, by omega, by omega, by omega⟩
theorem RMem.put {w w1 wr : World} {s : ByteArray} {pos : Nat} {ah al : Int} (h : RMem w w1 wr s pos ah al) (x y : Int) :
    RMem w w1 ((wr.setCell ⟨w1.heap.size, 0, none⟩ (.int .u64 x)).setCell ⟨w1.heap.size, 1, none⟩ (.int .u64 y)) s pos x y := by
  obtain ⟨it, a0, a1, f0, f1, r0, r1, q0, q1, bel, lt0, s0, s1, s2⟩ := h
  refine ⟨?_, ?_, World.cell?_setCell_same _ _ _ (by rw [World.cell?_setCell_other _ _ _ _ (by simp)]; exact a1), by rw [World.frozen?_setCell, World.frozen?_setCell]; exact f0, by rw [World.frozen?_setCell, World.frozen?_setCell]; exact f1, ?_, ?_,
    by rw [World.frozen?_setCell, World.frozen?_setCell]; exact q0, by rw [World.frozen?_setCell, World.frozen?_setCell]; exact q1, (bel.setCell (by simp; omega) _).setCell (by simp; omega) _, lt0, by simpa using s0, by simpa using s1, by simpa using s2⟩
  · rw [Below.heap_setCell _ _ _ _ (by simp), Below.heap_setCell _ _ _ _ (by simp)]; exact it
  · rw [World.cell?_setCell_other _ _ _ _ (by simp)]; exact World.cell?_setCell_same _ _ _ a0
  · rw [World.cell?_setCell_other _ _ _ _ (by first | (simp; done) | (simp; omega)), World.cell?_setCell_other _ _ _ _ (by first | (simp; done) | (simp; omega))]; exact r0
  · rw [World.cell?_setCell_other _ _ _ _ (by first | (simp; done) | (simp; omega)), World.cell?_setCell_other _ _ _ _ (by first | (simp; done) | (simp; omega))]; exact r1

theorem read_over {zs : List Int} {k : Nat} (hk : k < zs.length) (h : ¬ W128 (numOf (zs.take k) * 10)) : ¬ W128 (numOf zs) := by
  have h1 := numOf_step zs k hk
  have h2 := numOf_take zs (k + 1) (by omega)
  unfold W128 at *; omega
theorem read_over2 {zs : List Int} {k : Nat} (hk : k < zs.length) (h : ¬ W128 (numOf (zs.take (k + 1)))) : ¬ W128 (numOf zs) := by
  have h2 := numOf_take zs (k + 1) (by omega)
  unfold W128 at *; omega

/-- The place of the result stays. -/
theorem res_kept {w w1 : World} (hb : Below (w.alloc (.cells #[.int .u64 0, .int .u64 0] 33)).heap.size (w.alloc (.cells #[.int .u64 0, .int .u64 0] 33)) w1) :
    w1.cell? ⟨w.heap.size, 0, none⟩ = some (.int .u64 0) ∧ w1.cell? ⟨w.heap.size, 1, none⟩ = some (.int .u64 0) ∧ w1.frozen? ⟨w.heap.size, 0, none⟩ = false ∧ w1.frozen? ⟨w.heap.size, 1, none⟩ = false ∧ w.heap.size < w1.heap.size ∧ Below w.heap.size w w1 := by
  have hs := hb.size
  simp at hs
  exact ⟨(hb.cell (p := ⟨w.heap.size, 0, none⟩) (by simp)).trans (by simp), (hb.cell (p := ⟨w.heap.size, 1, none⟩) (by simp)).trans (by simp),
    (hb.frozen (p := ⟨w.heap.size, 0, none⟩) (by simp)).trans (by simp), (hb.frozen (p := ⟨w.heap.size, 1, none⟩) (by simp)).trans (by simp), by omega, ((Below.refl _ _).alloc (Nat.le_refl _) _).trans (hb.mono (by simp))⟩

set_option maxRecDepth 100000 in
set_option maxHeartbeats 1000000 in
theorem eread_no (s : ByteArray) (w : World) (hm : s.size ≤ 9223372036854775807) (hd : ¬ Dg (nums s)) :
    Calls Tryd.prog 26 #[.string s] w (GivesWC 0 5 w) := by
  replace hd := Lib.hid hd
  go_enter Tryd.func26, Tryd.ntmps26
  go_wp2_with (go_at_call 41; refine (printed_any s _ hm).mono ?_; rintro e w1 ⟨b, rfl, hb, g1⟩; obtain rfl : b = false := (by cases b; rfl; exact (hd.out (hb.mp rfl)).elim); clear hb; obtain ⟨r0, r1, q0, q1, s0, bel⟩ := res_kept g1)
  refine bodyPost_ret (v := .tuple #[.agg #[.int .u64 0, .int .u64 0], .int .i64 5]) (by simp [results, Tryd.results26, go_sem, r0, r1]) rfl ⟨0, 0, rfl, IsW.zero, ?_⟩
  exact (bel.setCell (by simp) _).setCell (by simp) _

theorem more_ten (ah al : Int) (N : Nat) (w : World) (hA : IsW ah al N) :
    Calls Tryd.prog 42 #[.agg #[.int .u64 ah, .int .u64 al], .int .u64 10] w (GivesWC (capN (N * 10)) (capC (N * 10)) w) := more_any ah al 10 N w hA (by decide) (by decide)
theorem RMem.start {w w1 : World} {s : ByteArray} (r0 : w1.cell? ⟨w.heap.size, 0, none⟩ = some (.int .u64 0)) (r1 : w1.cell? ⟨w.heap.size, 1, none⟩ = some (.int .u64 0))
    (q0 : w1.frozen? ⟨w.heap.size, 0, none⟩ = false) (q1 : w1.frozen? ⟨w.heap.size, 1, none⟩ = false) (bel : Below w.heap.size w w1) (s0 : w.heap.size < w1.heap.size) :
    RMem w w1 ((w1.alloc (.cells #[.int .u64 0, .int .u64 0] 33)).iter s 0) s 0 0 0 := by
  have hz : (w1.alloc (.cells #[.int .u64 0, .int .u64 0] 33)).heap.size = w1.heap.size + 1 := by simp
  have b2 := iter_below (w1.alloc (.cells #[.int .u64 0, .int .u64 0] 33)) s 0
  have b1 : Below w1.heap.size w1 ((w1.alloc (.cells #[.int .u64 0, .int .u64 0] 33)).iter s 0) := ((Below.refl _ _).alloc (Nat.le_refl _) _).trans (b2.mono (by simp))
  have hi := World.iter_heap (w1.alloc (.cells #[.int .u64 0, .int .u64 0] 33)) s 0
  have hs : ((w1.alloc (.cells #[.int .u64 0, .int .u64 0] 33)).iter s 0).heap.size = w1.heap.size + 2 := by simp [World.iter]
  rw [hz] at hi
  refine ⟨hi, ?_, ?_, ?_, ?_, ?_, ?_, ?_, ?_, bel.trans (b1.mono bel.size), s0, by omega, by omega, by omega⟩
  · exact (b2.cell (p := ⟨w1.heap.size, 0, none⟩) (by simp)).trans (by simp)
  · exact (b2.cell (p := ⟨w1.heap.size, 1, none⟩) (by simp)).trans (by simp)
  · exact (b2.frozen (p := ⟨w1.heap.size, 0, none⟩) (by simp)).trans (by simp)
  · exact (b2.frozen (p := ⟨w1.heap.size, 1, none⟩) (by simp)).trans (by simp)
  · exact (b1.cell (p := ⟨w.heap.size, 0, none⟩) s0).trans r0
  · exact (b1.cell (p := ⟨w.heap.size, 1, none⟩) s0).trans r1
  · exact (b1.frozen (p := ⟨w.heap.size, 0, none⟩) s0).trans q0
  · exact (b1.frozen (p := ⟨w.heap.size, 1, none⟩) s0).trans q1

set_option maxRecDepth 100000 in
set_option maxHeartbeats 2000000 in
theorem eread_yes (s : ByteArray) (w : World) (hm : s.size ≤ 9223372036854775807) (hd : Dg (nums s)) :
    Calls Tryd.prog 26 #[.string s] w (GivesWC (capN (numOf (nums s))) (capC (numOf (nums s))) w) := by
  replace hd := Lib.hid hd
  go_enter Tryd.func26, Tryd.ntmps26
  go_wp2_with (go_at_call 41; refine (printed_any s _ hm).mono ?_; rintro e w1 ⟨b, rfl, hb, g1⟩; obtain rfl := hb.mpr hd.out; clear hb; obtain ⟨r0, r1, q0, q1, s0, bel⟩ := res_kept g1)
  go_loopw [6, 7, 8] (fun _ _ _ wr => ∃ (pos : Nat) (ah al : Int), pos ≤ s.size ∧ IsW ah al (numOf ((nums s).take pos)) ∧ RMem w w1 wr s pos ah al) (fun _ _ _ wr => s.size - wr.iterPos (w1.heap.size + 1))
  case atStart =>
    exact ⟨0, 0, 0, Nat.zero_le _, IsW.zero, RMem.start r0 r1 q0 q1 bel s0⟩
  case round =>
    obtain ⟨pos, ah, al, hp, hW, hM⟩ := hrel
    clear r0 r1 q0 q1 bel
    by_cases h1 : pos < s.size
    · obtain ⟨z, p, hnx, z0, z1, hyes, hno⟩ := next_rune wr (w1.heap.size + 1) s pos hM.it h1
      have hl : pos < (nums s).length := by rw [nums_length]; exact h1
      have hdg := hd.out.all pos hl
      have hz : 48 ≤ z ∧ z ≤ 57 := by
        by_cases hz : 48 ≤ z ∧ z ≤ 57
        · exact hz
        · exact (hno hz hdg).elim
      obtain ⟨rfl, hzz⟩ := hyes hz
      clear hyes hno hdg
      obtain ⟨hz1, hz2⟩ := hz
      obtain ⟨N, hN⟩ : ∃ N, N = numOf ((nums s).take pos) := ⟨_, rfl⟩
      have hst : numOf ((nums s).take (pos + 1)) = N * 10 + (z - 48).toNat := by rw [numOf_step _ _ hl, hzz, ← hN]; omega
      have ho1 := read_over hl
      have ho2 := read_over2 hl
      rw [← hN] at hW ho1
      rw [hst] at ho2
      replace ho1 := Lib.hid ho1
      replace ho2 := Lib.hid ho2
      replace hst := Lib.hid hst
      have M2 := Lib.hid (hM.next (pos + 1))
      have hM0 := Lib.hid hM.it
      clear hM hzz hN
      obtain ⟨_, a0, a1, f0, f1, r0, r1, q0, q1, bel, _, s0, s1, s2⟩ := M2.out
      by_cases o1 : W128 (N * 10)
      · have hc1 : capC (N * 10) = 0 := capC_in o1
        by_cases o2 : W128 (N * 10 + (z - 48).toNat)
        · have hc2 : capC (N * 10 + (z - 48).toNat) = 0 := capC_in o2
          replace o1 := Lib.hid o1
          replace o2 := Lib.hid o2
          go_wp2_with (first | (go_at_call 42; refine (more_ten ah al N _ hW).mono ?_; rintro e w3 ⟨th, tl, rfl, hW3, g3⟩; rw [capN_in o1.out] at hW3; have M3 := Lib.hid ((M2.out.after g3).after ((Below.refl _ _).alloc (Nat.le_refl _) (.cells #[.int .u64 th, .int .u64 tl] 33)))) | (go_at_call 43; refine (eadd_any th tl 0 (z - 48) _ _ _ hW3 (IsW.small (by omega) (by omega))).mono ?_; rintro e w4 ⟨sh, sl, rfl, hW4, g4⟩; rw [capN_in o2.out] at hW4; have M4 := Lib.hid (M3.out.after g4); obtain ⟨_, a0, a1, f0, f1, r0, r1, q0, q1, bel, _, s0, s1, s2⟩ := M4.out))
          have M5 := M4.out.put sh sl
          have hit := M5.it
          go_roundw
          case rel => exact ⟨pos + 1, sh, sl, by omega, by rw [hst.out]; exact hW4, M5⟩
          case measure => rw [iterPos_of hit, iterPos_of hM0.out]; omega
        · have hc2 : capC (N * 10 + (z - 48).toNat) = 3 := capC_out o2
          have hall := Lib.hid (ho2.out o2)
          replace o1 := Lib.hid o1
          replace o2 := Lib.hid o2
          go_wp2_with (first | (go_at_call 42; refine (more_ten ah al N _ hW).mono ?_; rintro e w3 ⟨th, tl, rfl, hW3, g3⟩; rw [capN_in o1.out] at hW3; have M3 := Lib.hid ((M2.out.after g3).after ((Below.refl _ _).alloc (Nat.le_refl _) (.cells #[.int .u64 th, .int .u64 tl] 33)))) | (go_at_call 43; refine (eadd_any th tl 0 (z - 48) _ _ _ hW3 (IsW.small (by omega) (by omega))).mono ?_; rintro e w4 ⟨sh, sl, rfl, hW4, g4⟩; have M4 := Lib.hid (M3.out.after g4); obtain ⟨_, a0, a1, f0, f1, r0, r1, q0, q1, bel, _, s0, s1, s2⟩ := M4.out; have s3 : w.heap.size ≠ w1.heap.size := (by omega)))
          have M5 := M4.out.put sh sl
          refine bodyPost_ret (v := .tuple #[.agg #[.int .u64 0, .int .u64 0], .int .i64 3]) (by simp [results, Tryd.results26, go_sem, M5.r0, M5.r1]) rfl ⟨0, 0, by rw [capC_out hall.out], by rw [capN_out hall.out]; exact IsW.zero, ?_⟩
          exact (M5.bel.setCell (by simp) _).setCell (by simp) _
      · have hc1 : capC (N * 10) = 3 := capC_out o1
        have hall := Lib.hid (ho1.out o1)
        replace o1 := Lib.hid o1
        go_wp2_with (go_at_call 42; refine (more_ten ah al N _ hW).mono ?_; rintro e w3 ⟨th, tl, rfl, hW3, g3⟩; have M3 := Lib.hid (M2.out.after g3); obtain ⟨_, a0, a1, f0, f1, r0, r1, q0, q1, bel, _, s0, s1, s2⟩ := M3.out)
        refine bodyPost_ret (v := .tuple #[.agg #[.int .u64 0, .int .u64 0], .int .i64 3]) (by simp [results, Tryd.results26, go_sem, r0, r1, s0]) rfl ⟨0, 0, by rw [capC_out hall.out], by rw [capN_out hall.out]; exact IsW.zero, ?_⟩
        exact ((bel.setCell (by simp) _).setCell (by simp) _).alloc (by simp; omega) _
    · obtain rfl : pos = s.size := by omega
      have hnx : ∀ ty, (Instr.next (.pointer (some ⟨w1.heap.size + 1, 0, none⟩)) true ty).run Tryd.prog wr = _ := fun ty => Lib.run_next_end_at wr (w1.heap.size + 1) s s.size ty hM.it (Nat.lt_irrefl _)
      have hN : (nums s).take s.size = nums s := by rw [← nums_length, List.take_length]
      rw [hN] at hW
      have hW2 := Lib.hid hW
      replace hN := Lib.hid hN
      obtain ⟨_, a0, a1, f0, f1, r0, r1, q0, q1, bel, _, s0, s1, s2⟩ := hM
      clear hW
      go_wp2
      refine bodyPost_ret (v := .tuple #[.agg #[.int .u64 ah, .int .u64 al], .int .i64 0]) (by simp [results, Tryd.results26, go_sem, r0, r1]) rfl ⟨ah, al, by rw [capC_in hW2.out.lt], by rw [capN_in hW2.out.lt]; exact hW2.out, ?_⟩
      exact (bel.setCell (by simp) _).setCell (by simp) _
end Go.Proofs.YtfdpiiahclglcaaDoor
