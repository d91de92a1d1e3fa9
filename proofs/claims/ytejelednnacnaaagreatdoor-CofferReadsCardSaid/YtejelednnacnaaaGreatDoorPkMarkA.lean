/-
  Disks without a fuse; calls that are handed in; the statements' own Long and Marked (layer 10), walked.
-/
import Derived.Test.YtejelednnacnaaaGreatDoorPkPlain
import Derived.Test.YtejelednnacnaaaGreatDoorPkActs
import Derived.Test.YtejelednnacnaaaGreatDoorPkBase
namespace Go.Proofs.YtejelednnacnaaaGreatDoor
open Go.RowKit

/-- A disk without a fuse. -/
structure NFd (n size : Nat) (D : Dsk) : Prop where
  n : D.n = n
  size : D.size = size
  fuse : D.fuse = -1
  dark : D.dark = false
theorem NFd.new (n size : Nat) : NFd n size (Dsk.new n size) := ⟨rfl, rfl, rfl, rfl⟩
theorem NFd.write {n size : Nat} {D : Dsk} (h : NFd n size D) (i : Int) (b : List Int) (i0 : 0 ≤ i) (i1 : i < (n : Int)) (hb : b.length ≤ size) : (D.write i b).1 = 0 ∧ NFd n size (D.write i b).2 ∧ (D.write i b).2.deeds = D.deeds + 1 := by
  obtain ⟨h1, h2, h3, h4⟩ := h
  have hf : ¬ D.fuse = 0 := by rw [h3]; decide
  unfold Dsk.write
  rw [if_neg (by rw [h4]; simp), if_neg (by omega)]
  unfold Dsk.deed
  rw [if_neg hf]
  refine ⟨rfl, ⟨h1, h2, ?_, h4⟩, rfl⟩
  show (if 0 < D.fuse then D.fuse - 1 else D.fuse) = -1
  rw [h3]; rfl
theorem NFd.sync {n size : Nat} {D : Dsk} (h : NFd n size D) : D.sync.1 = 0 ∧ NFd n size D.sync.2 ∧ D.sync.2.waits = [] ∧ D.sync.2.deeds = D.deeds + 1 ∧ D.sync.2.last = D.seen := by
  obtain ⟨h1, h2, h3, h4⟩ := h
  have hf : ¬ D.fuse = 0 := by rw [h3]; decide
  unfold Dsk.sync
  rw [if_neg (by rw [h4]; simp)]
  unfold Dsk.deed
  rw [if_neg hf]
  refine ⟨rfl, ⟨h1, h2, ?_, h4⟩, rfl, rfl, rfl⟩
  show (if 0 < D.fuse then D.fuse - 1 else D.fuse) = -1
  rw [h3]; rfl
theorem NFd.crash (D : Dsk) (n size : Nat) (h1 : D.n = n) (h2 : D.size = size) (k t : Int) : NFd n size (D.crash k t) := ⟨h1, h2, rfl, rfl⟩
theorem NFd.step {n size : Nat} {D D' : Dsk} (h : NFd n size D) (s : StepD D D') (hd : D'.dark = false) : NFd n size D' := ⟨s.n.trans h.n, s.size.trans h.size, s.fuse h.fuse, hd⟩
/-- A call that is handed in. -/
structure ActW where
  kind : Int := 0
  b : List Int := []
structure ActW.Ok (x : ActW) : Prop where
  b0 : ∀ z ∈ x.b, 0 ≤ z ∧ z ≤ 255
  b1 : (x.b.length : Int) ≤ 9223372036854775807
/-- A slice of them. -/
def ActsW (W : World) (v : Value) (l : List ActW) : Prop :=
  ∃ a cap, v = .slice a l.length cap ∧ l.length ≤ cap ∧ ∀ i, i < l.length → ∃ b off bv, a = some ⟨b, off, none⟩ ∧ W.cell? ⟨b, off + i * 2, none⟩ = some (.int .i64 (l.getD i {}).kind) ∧ W.cell? ⟨b, off + i * 2 + 1, none⟩ = some bv ∧ ArgB W bv (l.getD i {}).b
theorem ActsW.size {w : World} {v : Value} {l : List ActW} (h : ActsW w v l) : ∃ a cap, v = .slice a l.length cap := by
  obtain ⟨a, cap, rfl, _⟩ := h
  exact ⟨a, cap, rfl⟩
/-- The i-th of them, in any later world. -/
theorem ActsW.one {w : World} {a : Option Addr} {n cap : Nat} {l : List ActW} (h : ActsW w (.slice a n cap) l) {i : Nat} (hi : i < l.length) : ∃ b off bv, a = some ⟨b, off, none⟩ ∧ b < w.heap.size ∧ (∀ w' base, base = w.heap.size → Below base w w' → w'.cell? ⟨b, off + i * 2, none⟩ = some (.int .i64 (l.getD i {}).kind) ∧ w'.cell? ⟨b, off + i * 2 + 1, none⟩ = some bv ∧ ArgB w' bv (l.getD i {}).b) ∧
    ((l.getD i {}).b ≠ [] → ∀ k, bv.ownBlock = some k → k < w.heap.size) := by
  obtain ⟨a', cap', e, hc, hcell⟩ := h
  simp only [Value.slice.injEq] at e
  obtain ⟨rfl, rfl, rfl⟩ := e
  obtain ⟨b, off, bv, rfl, h0, h1, h2⟩ := hcell i hi
  have hlt := World.block_lt_of_cell? _ _ h0
  refine ⟨b, off, bv, rfl, hlt, fun w' base e hb => ?_, fun hn k hk => h2.lt hn hk⟩
  subst e
  exact ⟨(hb.cell (p := ⟨b, off + i * 2, none⟩) hlt).trans h0, (hb.cell (p := ⟨b, off + i * 2 + 1, none⟩) hlt).trans h1, h2.below hb⟩
/-- Are they more than are played? -/
def longL (l : List ActW) : Prop := 60 < l.length ∨ ∃ i, i < l.length ∧ 2000 < (l.getD i {}).b.length
/-- What Long tells. -/
def GivesLong (l : List ActW) (w : World) (e : Ending) (w' : World) : Prop := ∃ b, e = .returned (.bool b) ∧ (b = true ↔ longL l) ∧ w' = w
theorem mark_arg (a : Int) (W : World) : ArgB (W.alloc (.cells #[.int .u8 a, .int .u8 245] 5)) (.slice (some ⟨W.heap.size, 0, none⟩) 2 2) [a, 245] := by
  refine Or.inr ⟨⟨W.heap.size, 0, none⟩, 2, rfl, Nat.le_refl _, fun i hi => ?_⟩
  have e : (⟨W.heap.size, 0, none⟩ : Addr).add i = ⟨W.heap.size, i, none⟩ := by unfold Addr.add; split <;> simp_all
  rw [e, World.cell?_alloc_new]
  match i, hi with
  | 0, _ => rfl
  | 1, _ => rfl
theorem mark_byte {i : Nat} (h : i ≤ 200) : ∀ z ∈ [(i : Int) + 1, 245], 0 ≤ z ∧ z ≤ 255 := fun z hz => by
  rcases List.mem_cons.mp hz with rfl | hz
  · omega
  · rw [List.mem_singleton.mp hz]; omega
theorem mark_bel (a : Int) (W : World) : Below W.heap.size W (W.alloc (.cells #[.int .u8 a, .int .u8 245] 5)) := (Below.refl _ _).alloc (Nat.le_refl _) _
set_option maxRecDepth 100000 in
set_option maxHeartbeats 4000000 in
theorem marked_any (n size : Nat) (w : World) (n0 : 1 ≤ n) (n1 : n ≤ 200) (s0 : 32 ≤ size) (s1 : size ≤ 512) :
    Calls Tryz.prog 5 #[.int .i64 (n : Int), .int .i64 (size : Int)] w fun e w' => ∃ r O D, e = .returned (.pointer (some ⟨r, 0, none⟩)) ∧ DskIs w' w.heap.size O r D ∧ NFd n size D ∧ D.waits = [] ∧ D.deeds ≤ 1000 ∧ Below w.heap.size w w' := by
  have HNEW := Lib.hid (fun w => bnew_6 n size w n0 (by omega) s0 s1)
  have HS := Lib.hid (And.intro s0 s1)
  clear s0 s1
  go_enter Tryz.func5, Tryz.ntmps5
  go_wp2_with (go_at_call 18; (with_reducible refine (HNEW.out _).mono ?_); rintro e w1 ⟨r, O1, rfl, d1, g1⟩; have H1 := Lib.hid d1; have G1 := Lib.hid g1; clear d1 g1)
  go_loopw [7] (fun v7 wr => ∃ (i : Nat) (O : Foot) (D : Dsk), v7 = .int .i64 (i : Int) ∧ i ≤ n ∧ DskIs wr w.heap.size O r D ∧ NFd n size D ∧ D.deeds ≤ i ∧ Below w.heap.size w wr) (fun v7 _ => n - (intOf v7).toNat)
  case atStart => exact ⟨0, O1, Dsk.new n size, rfl, Nat.zero_le _, H1.out, NFd.new n size, Nat.le_refl _, G1.out⟩
  case round =>
    obtain ⟨i, O, D, rfl, hi, hD, hnf, hde, hB⟩ := hrel
    have HD := Lib.hid hD
    have HB := Lib.hid hB
    have HNF := Lib.hid hnf
    have HDE := Lib.hid hde
    clear hD hB hnf hde
    by_cases hlt : i < n
    · have hin : (i : Int) < (n : Int) := by omega
      have hwr : IntKind.u8.wrap ((i : Int) + 1) = (i : Int) + 1 := by
        show ((i : Int) + 1) % 256 = (i : Int) + 1
        omega
      obtain ⟨wn, hwn⟩ : ∃ x, wr.heap.size = x := ⟨_, rfl⟩
      obtain ⟨wA, hwA⟩ : ∃ y, wr.alloc (.cells #[.int .u8 ((i : Int) + 1), .int .u8 245] 5) = y := ⟨_, rfl⟩
      have hA := mark_arg ((i : Int) + 1) wr
      have hb := mark_bel ((i : Int) + 1) wr
      rw [hwA, hwn] at hA
      rw [hwA] at hb
      have HDA := Lib.hid (HD.out.after hb)
      have HBA := Lib.hid (below_step HB.out hb)
      have hdd : D.deeds ≤ 1000000 := by have := HDE.out; omega
      have HW := Lib.hid (bwrite_any w.heap.size O r D (i : Int) _ [(i : Int) + 1, 245] wA HDA.out hdd (by omega) (by omega) hA (mark_byte (by omega)) (by show (2 : Int) ≤ _; decide))
      obtain ⟨q1, q2, q3⟩ := HNF.out.write (i : Int) [(i : Int) + 1, 245] (by omega) hin (by have := HS.out; show 2 ≤ size; omega)
      have Q2 := Lib.hid q2
      have Q3 := Lib.hid q3
      obtain ⟨D2, hD2⟩ : ∃ D2, (D.write (i : Int) [(i : Int) + 1, 245]).2 = D2 := ⟨_, rfl⟩
      obtain ⟨c2, hc2⟩ : ∃ c2, (D.write (i : Int) [(i : Int) + 1, 245]).1 = c2 := ⟨_, rfl⟩
      rw [hD2] at HW Q2 Q3
      rw [hc2] at HW
      clear hA hb q1 q2 q3 hD2 hc2 hdd
      go_wp2_with (go_at_call 24; (with_reducible refine (HW.out).mono ?_); rintro e w2 ⟨rfl, O2, d2, g2, k2⟩; have H2 := Lib.hid d2; have G2 := Lib.hid (HBA.out.trans g2.bel); clear d2 g2 k2)
      go_roundw
      case rel => exact ⟨i + 1, O2, D2, by go_num, hlt, H2.out, Q2.out, by have := Q3.out; have := HDE.out; omega, G2.out⟩
      case measure => simp [intOf]; omega
    · obtain rfl : i = n := by omega
      have hin : ¬ (i : Int) < (i : Int) := by omega
      have hdd : D.deeds ≤ 1000000 := by have := HDE.out; omega
      have HSY := Lib.hid (bsync_any w.heap.size O r D wr HD.out hdd)
      obtain ⟨q1, q2, q3, q4, _⟩ := HNF.out.sync
      have Q2 := Lib.hid q2
      have Q3 := Lib.hid q3
      have Q4 := Lib.hid q4
      obtain ⟨D2, hD2⟩ : ∃ D2, D.sync.2 = D2 := ⟨_, rfl⟩
      obtain ⟨c2, hc2⟩ : ∃ c2, D.sync.1 = c2 := ⟨_, rfl⟩
      rw [hD2] at HSY Q2 Q3 Q4
      rw [hc2] at HSY
      clear q1 q2 q3 q4 hD2 hc2 hdd
      go_wp2_with (go_at_call 7; (with_reducible refine (HSY.out).mono ?_); rintro e w2 ⟨rfl, O2, d2, g2, k2⟩; have H2 := Lib.hid d2; have G2 := Lib.hid (HB.out.trans g2.bel); clear d2 g2 k2)
      go_ret
      exact ⟨r, O2, D2, rfl, H2.out, Q2.out, Q3.out, by have := Q4.out; have := HDE.out; omega, G2.out⟩
theorem ActsW.below {w w' : World} {v : Value} {l : List ActW} (h : ActsW w v l) (hb : Below w.heap.size w w') : ActsW w' v l := by
  obtain ⟨a, cap, rfl, hc, hcell⟩ := h
  refine ⟨a, cap, rfl, hc, fun i hi => ?_⟩
  obtain ⟨b, off, bv, rfl, h0, h1, h2⟩ := hcell i hi
  have hlt := World.block_lt_of_cell? _ _ h0
  exact ⟨b, off, bv, rfl, (hb.cell (p := ⟨b, off + i * 2, none⟩) hlt).trans h0, (hb.cell (p := ⟨b, off + i * 2 + 1, none⟩) hlt).trans h1, h2.below hb⟩

end Go.Proofs.YtejelednnacnaaaGreatDoor
