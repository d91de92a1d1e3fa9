/-
  The document's own disk of layer 9, walked: Write, where it is done: the drawn statement with its append, operation by operation.
-/
import Derived.Test.YtnndpainnoebgaaBlkT
import Derived.Test.YtnndpainnoebgaaMixP
namespace Go.Proofs.Ytnndpainnoebgaa
open Go.RowKit

/-- What each operation of the statement has made. -/
def TW (r I S M N Lz bl b1 : Nat) (va xa : Option Addr) (vcap xc : Nat) (B Z : ByteArray) (xs : List Value) (base : Nat) : Nat → Value → World → Prop
  | 0, v, _ => v = .pointer (some ⟨r, 0, none⟩)
  | 1, v, _ => v = .pointer (some ⟨r, 0, none⟩)
  | 2, v, _ => v = .pointer (some ⟨r, 0, none⟩)
  | 3, v, _ => v = .pointer (some ⟨r, 3, none⟩)
  | 4, v, _ => v = .slice va N vcap
  | 5, v, _ => v = .int .i64 (I : Int)
  | 6, v, _ => v = .pointer (some ⟨r, 0, none⟩)
  | 7, v, _ => v = .pointer (some ⟨r, 0, none⟩)
  | 8, v, _ => v = .pointer (some ⟨r, 1, none⟩)
  | 9, v, _ => v = .int .i64 (S : Int)
  | 10, v, _ => v = .int .i64 (M : Int)
  | 11, v, _ => v = .slice xa bl xc
  | 12, v, _ => v = .string B
  | 13, v, _ => v = .pointer (some ⟨r, 0, none⟩)
  | 14, v, _ => v = .pointer (some ⟨r, 0, none⟩)
  | 15, v, _ => v = .pointer (some ⟨r, 1, none⟩)
  | 16, v, _ => v = .int .i64 (S : Int)
  | 17, v, _ => v = .slice xa bl xc
  | 18, v, _ => v = .int .i64 (bl : Int)
  | 19, v, _ => v = .int .i64 (Lz : Int)
  | 20, v, _ => v = .string Z
  | 21, v, _ => v = .string (B ++ Z)
  | 22, v, _ => v = .agg #[.int .i64 (M : Int), .string (B ++ Z)]
  | 23, v, w => ∃ g, v = .slice (some ⟨g, 0, none⟩) 1 1 ∧ b1 ≤ g ∧ g < w.heap.size ∧ w.cell? ⟨g, 0, none⟩ = some (.int .i64 (M : Int)) ∧ w.cell? ⟨g, 1, none⟩ = some (.string (B ++ Z))
  | 24, v, w => ∃ g cap, v = .slice (some ⟨g, 0, none⟩) (N + 1) cap ∧ w.ownsRow base 60 2 v (N + 1) (xs ++ [.int .i64 (M : Int), .string (B ++ Z)]) ∧ ((Value.slice va N vcap).ownBlock = some g ∨ b1 ≤ g) ∧ g < w.heap.size
  | _, _, _ => True
theorem TW.keep {r I S M N Lz bl b1 : Nat} {va xa : Option Addr} {vcap xc : Nat} {B Z : ByteArray} {xs : List Value} {base : Nat} (i : Nat) (v : Value) (w w' : World) (h : TW r I S M N Lz bl b1 va xa vcap xc B Z xs base i v w) (hb : Below w.heap.size w w') : TW r I S M N Lz bl b1 va xa vcap xc B Z xs base i v w' := by
  match i, h with
  | 0, h => exact h
  | 1, h => exact h
  | 2, h => exact h
  | 3, h => exact h
  | 4, h => exact h
  | 5, h => exact h
  | 6, h => exact h
  | 7, h => exact h
  | 8, h => exact h
  | 9, h => exact h
  | 10, h => exact h
  | 11, h => exact h
  | 12, h => exact h
  | 13, h => exact h
  | 14, h => exact h
  | 15, h => exact h
  | 16, h => exact h
  | 17, h => exact h
  | 18, h => exact h
  | 19, h => exact h
  | 20, h => exact h
  | 21, h => exact h
  | 22, h => exact h
  | 23, h =>
    obtain ⟨g, e, h1, h2, h3, h4⟩ := h
    exact ⟨g, e, h1, Nat.lt_of_lt_of_le h2 hb.size, (hb.cell (p := ⟨g, 0, none⟩) h2).trans h3, (hb.cell (p := ⟨g, 1, none⟩) h2).trans h4⟩
  | 24, h =>
    obtain ⟨g, cap, e, h1, h2, h3⟩ := h
    exact ⟨g, cap, e, row_kept h1 (fun g' hg => hb.block g' (h1.lt g' hg).2), h2, Nat.lt_of_lt_of_le h3 hb.size⟩
  | n + 25, _ => exact trivial
/-- What the append does to what is old. -/
def GW (b1 : Nat) (va : Option Addr) (N vcap : Nat) (w w' : World) : Prop := (∀ g, (Value.slice va N vcap).ownBlock = some g → g < b1) ∧ w.grownBy w' (Value.slice va N vcap).ownBlock
theorem TW.grow {r I S M N Lz bl b1 : Nat} {va xa : Option Addr} {vcap xc : Nat} {B Z : ByteArray} {xs : List Value} {base : Nat} (i : Nat) (v : Value) (w w' : World) (hne : i ≠ 24) (h : TW r I S M N Lz bl b1 va xa vcap xc B Z xs base i v w) (hg : GW b1 va N vcap w w') : TW r I S M N Lz bl b1 va xa vcap xc B Z xs base i v w' := by
  match i, h with
  | 0, h => exact h
  | 1, h => exact h
  | 2, h => exact h
  | 3, h => exact h
  | 4, h => exact h
  | 5, h => exact h
  | 6, h => exact h
  | 7, h => exact h
  | 8, h => exact h
  | 9, h => exact h
  | 10, h => exact h
  | 11, h => exact h
  | 12, h => exact h
  | 13, h => exact h
  | 14, h => exact h
  | 15, h => exact h
  | 16, h => exact h
  | 17, h => exact h
  | 18, h => exact h
  | 19, h => exact h
  | 20, h => exact h
  | 21, h => exact h
  | 22, h => exact h
  | 23, h =>
    obtain ⟨g, e, h1, h2, h3, h4⟩ := h
    have hb := hg.2.block g h2 (fun e => by have := hg.1 g e.symm; omega)
    exact ⟨g, e, h1, Nat.lt_of_lt_of_le h2 hg.2.size, (World.cell?_of_block hb).trans h3, (World.cell?_of_block hb).trans h4⟩
  | 24, _ => exact (hne rfl).elim
  | n + 25, _ => exact trivial
/-- Where the statement stands: ahead of the append nothing old has changed, behind it only the row. -/
def JW (base : Nat) (va : Option Addr) (N vcap : Nat) (w1 : World) (b : Bool) (w : World) : Prop := OnlyO base (fun i => b = true ∧ some i = (Value.slice va N vcap).ownBlock) w1 w
theorem JW.keep {base : Nat} {va : Option Addr} {N vcap : Nat} {w1 : World} (hb1 : base ≤ w1.heap.size) (b : Bool) (w w' : World) (h : JW base va N vcap w1 b w) (hb : Below w.heap.size w w') : JW base va N vcap w1 b w' :=
  ⟨(OnlyO.bel h).trans (hb.mono (Nat.le_trans hb1 (OnlyO.size h))), fun i hi hne => (hb.block i (Nat.lt_of_lt_of_le hi (OnlyO.size h))).trans (OnlyO.keep h i hi hne)⟩
theorem JW.block {base : Nat} {va : Option Addr} {N vcap : Nat} {w1 w : World} {b : Bool} (h : JW base va N vcap w1 b w) {i : Nat} (hi : i < w1.heap.size) (hne : ∀ g, (Value.slice va N vcap).ownBlock = some g → g ≠ i) : w.heap[i]? = w1.heap[i]? := OnlyO.keep h i hi (fun ⟨_, e⟩ => hne i e.symm rfl)
theorem JW.row {base : Nat} {va : Option Addr} {N vcap : Nat} {w1 w : World} (h : JW base va N vcap w1 false w) {xs : List Value} {t : TypeId} {k n : Nat} {v : Value} (hr : w1.ownsRow base t k v n xs) : w.ownsRow base t k v n xs := row_kept hr (fun g hg => OnlyO.keep h g (hr.lt g hg).2 (fun ⟨e, _⟩ => by cases e))

set_option maxRecDepth 100000 in
set_option maxHeartbeats 8000000 in
theorem brwrite_done (base : Nat) (O : Foot) (r : Nat) (D : Dsk) (i : Int) (x : Value) (b : List Int) (w : World) (h : RefIs w base O r D) (hd : D.deeds ≤ 1000000) (hv : ArgB w x b) (hkeep : ∀ w', Below base w w' → ArgB w' x b) (hby : ∀ z ∈ b, 0 ≤ z ∧ z ≤ 255)
    (hdk : D.dark = false) (i0 : 0 ≤ i) (i1 : i < (D.n : Int)) (hb : b.length ≤ D.size) (hq : D.deed.1 = true) :
    Calls Try.prog 11 #[.pointer (some ⟨r, 0, none⟩), .int .i64 i, x] w fun e w' => e = .returned (.int .i64 (D.write i b).1) ∧ RefTo base O r (D.write i b).2 w w' := by
  have HDE := Lib.hid (bdeed_any base O r D w h hd)
  rw [hq] at HDE
  have HWO := Lib.hid (h.ok.write i hby)
  have hs1 := h.ok.s1
  have hn1 := h.ok.n1
  obtain ⟨_, hw2, hl2, hn2, hs2, hd6, hd7⟩ := h.ok.deed
  have hNw : D.waits.length ≤ 1000000 := by have := h.ok.wd; omega
  obtain ⟨a, cap, hD, _⟩ := h.waits
  obtain ⟨I, rfl⟩ : ∃ I : Nat, i = (I : Int) := ⟨i.toNat, by omega⟩
  have c0 := hD.c0
  have c1 := hD.c1
  have c5 := hD.c5
  rw [hdk] at c5
  have hfin : Hid (D.write (I : Int) b = (0, { D.deed.2 with waits := D.waits ++ [(I * D.size, b ++ List.replicate (D.size - b.length) 0)] })) := by unfold Hid Dsk.write; rw [if_neg (by rw [hdk]; simp), if_neg (by omega), if_pos hq, Int.toNat_natCast]
  have h1 : ¬ (I : Int) < 0 := by omega
  have h2 : ¬ (D.n : Int) ≤ (I : Int) := by omega
  have h3 : ¬ (D.size : Int) < (b.length : Int) := by omega
  obtain ⟨M, hM⟩ : ∃ M, I * D.size = M := ⟨_, rfl⟩
  obtain ⟨Lz, hLz⟩ : ∃ Lz, D.size - b.length = Lz := ⟨_, rfl⟩
  have hMl : M ≤ 204800 := by rw [← hM]; exact Nat.mul_le_mul (show I ≤ 400 by omega) hs1
  have hmul : IntKind.i64.wrap ((I : Int) * (D.size : Int)) = (M : Int) := by
    have e : (I : Int) * (D.size : Int) = (M : Int) := by rw [← hM]; simp
    rw [e, IntKind.wrap_i64]; omega
  have hsub : IntKind.i64.wrap ((D.size : Int) - (b.length : Int)) = (Lz : Int) := by rw [IntKind.wrap_i64]; omega
  have HZ := Lib.hid (fun w => bzeros_any Lz w (by omega))
  rw [hM, hLz] at hfin
  have hfin2 : Hid (strOfNums (b ++ List.replicate Lz 0) = strOfNums b ++ strOfNums (List.replicate Lz 0)) := (strOfNums_append _ _).symm
  have hz1 : (strOfNums b).size + (strOfNums (List.replicate Lz 0)).size ≤ 2000000 := by rw [size_of, size_of, List.length_replicate]; omega
  obtain ⟨B, hB⟩ : ∃ B, strOfNums b = B := ⟨_, rfl⟩
  obtain ⟨Z, hZ⟩ : ∃ Z, strOfNums (List.replicate Lz 0) = Z := ⟨_, rfl⟩
  rw [hZ] at HZ
  rw [hB, hZ] at hfin2 hz1
  have n1 : ¬ (9223372036854775807 < B.size + Z.size) := by omega
  obtain ⟨E, hE⟩ : ∃ E, D.deed.2 = E := ⟨_, rfl⟩
  rw [hE] at hw2 hl2 hn2 hs2 hd6 hd7 HDE hfin
  have HW2 := Lib.hid hw2
  have HS2 := Lib.hid hs2
  have HCV := Lib.hid (fun w' (hbb : Below base w w') => conv_arg (hkeep w' hbb) hby)
  rw [hB] at HCV
  obtain ⟨xa, xc, rfl⟩ := hv.size
  obtain ⟨N, hN⟩ : ∃ N, D.waits.length = N := ⟨_, rfl⟩
  have HN := Lib.hid hN
  have hNw2 : N ≤ 1000000 := by omega
  have HREF := Lib.hid h
  clear hD hv hkeep hE hZ hB hw2 hl2 hn2 hd6 hd7 hz1 hs2 h hNw hN
  have H1w : Hid (∀ w1, RefIs w1 base O r E → ∃ a cap, DiskAt w1 r E.n D.size (strOfNums E.last) (.slice a N cap) E.fuse E.dark E.deeds ∧ w1.ownsRow base 60 2 (.slice a N cap) N (wcells D.waits) ∧ (∀ g, (Value.slice a N cap).ownBlock = some g → O g ∧ g ≠ r)) := fun w1 h => by
    obtain ⟨_, _, _, v, k1, k2, k3⟩ := h
    rw [HW2.out, HN.out] at k2
    rw [HS2.out] at k1
    rcases k2.2 with ⟨rfl, h0⟩ | ⟨g, cap, cur, rfl, _⟩
    · exact ⟨none, 0, by rw [h0]; exact k1, by rw [h0] at k2 ⊢; exact k2, fun g hg => by cases hg⟩
    · exact ⟨some ⟨g, 0, none⟩, cap, k1, k2, k3⟩
  go_enter Try.func11, Try.ntmps11
  go_wp2_with (go_at_call 29; (with_reducible refine (HDE.out).mono ?_); rintro e w1 ⟨rfl, h1', g1⟩; have H1 := Lib.hid h1'; have G1 := Lib.hid g1; obtain ⟨va, vcap, hd1, hrow1, hvb1⟩ := H1w.out w1 h1'; have HD1 := Lib.hid hd1; have HR1 := Lib.hid hrow1; have HV1 := Lib.hid hvb1; have d1 := hd1.c1; have d3 := hd1.c3; have q3 := hd1.q 3; have cv1 := HCV.out w1 g1.bel; have cv1d := HCV.out w1.drew g1.bel.drew; clear hd1 hrow1 hvb1 h1' g1)
  obtain ⟨i0, hi, hz0, hz1, hz2⟩ := info_parts info_write
  have HNmax : Hid (N + 1 ≤ maxLen) := by unfold Hid maxLen; omega
  have HNb : Hid ((N + 1) * 24 ≤ 140737488355328) := by unfold Hid; omega
  have hbase := (HREF.out.own r HREF.out.mem).1
  have hrs := HD1.out.s
  have hb1 : base ≤ w1.heap.size := by omega
  have HCell : Hid (∀ q W, JW base va N vcap w1 q W → W.cell? ⟨r, 1, none⟩ = some (.int .i64 (D.size : Int)) ∧ W.cell? ⟨r, 3, none⟩ = some (.slice va N vcap)) := fun q W hj => by
    have e := hj.block hrs (fun g hg => (HV1.out g hg).2)
    exact ⟨(World.cell?_of_block e).trans d1, (World.cell?_of_block e).trans d3⟩
  have HConv : Hid (∀ q W, JW base va N vcap w1 q W → (convert 30 9 (.slice xa b.length xc)).run Try.prog W = .ok (.string B) W) := fun q W hj => HCV.out W (G1.out.bel.trans (OnlyO.bel hj))
  clear d1 d3 q3 cv1 cv1d
  refine wp_region_mixp 25 24 (TW r I D.size M N Lz b.length w1.heap.size va xa vcap xc B Z (wcells D.waits) base) (JW base va N vcap w1) (GW w1.heap.size va N vcap) (by kernel_rfl) (by kernel_rfl) (by decide) TW.keep TW.grow (JW.keep hb1) ⟨(Below.refl _ _).drew, fun _ _ _ => rfl⟩ ?_ ?_
  · refine ⟨?_, ?_, ?_, ?_, ?_, ?_, ?_, ?_, ?_, ?_, ?_, ?_, ?_, ?_, ?_, ?_, ?_, ?_, ?_, ?_, ?_, ?_, ?_, ?_, ?_, ?_, ?_, ?_, ?_, ?_, ?_, ?_, ?_, ?_, ?_, ?_, ?_, ?_, ?_, ?_, ?_, ?_, ?_, ?_, ?_, ?_, ?_, ?_, ?_, ?_, trivial⟩
    · intro _ u W q hj hd
      simp only [List.take_succ_cons, List.take_zero, putAll, Act.put, List.setIfInBounds_toArray, List.set_cons_succ, List.set_cons_zero, Nat.zero_add, Nat.reduceAdd]
      go_wp2
      first | exact ⟨rfl, Below.refl _ _⟩ | exact ⟨_, rfl, rfl, Below.refl _ _⟩
    · exact fun hk => absurd hk (by decide)
    · intro _ u W q hj hd
      simp only [List.take_succ_cons, List.take_zero, putAll, Act.put, List.setIfInBounds_toArray, List.set_cons_succ, List.set_cons_zero, Nat.zero_add, Nat.reduceAdd]
      go_wp2
      first | exact ⟨rfl, Below.refl _ _⟩ | exact ⟨_, rfl, rfl, Below.refl _ _⟩
    · exact fun hk => absurd hk (by decide)
    · intro _ u W q hj hd
      obtain ⟨hd0, _⟩ := hd
      have e0 : u 1 = _ := hd0 rfl (by decide)
      simp only [List.take_succ_cons, List.take_zero, putAll, Act.put, List.setIfInBounds_toArray, List.set_cons_succ, List.set_cons_zero, Nat.zero_add, Nat.reduceAdd]
      rw [e0]
      go_wp2
      first | exact ⟨rfl, Below.refl _ _⟩ | exact ⟨_, rfl, rfl, Below.refl _ _⟩
    · exact fun hk => absurd hk (by decide)
    · intro _ u W q hj hd
      obtain ⟨hd0, _⟩ := hd
      have e0 : u 2 = _ := hd0 rfl (by decide)
      simp only [List.take_succ_cons, List.take_zero, putAll, Act.put, List.setIfInBounds_toArray, List.set_cons_succ, List.set_cons_zero, Nat.zero_add, Nat.reduceAdd]
      rw [e0]
      go_wp2
      first | exact ⟨rfl, Below.refl _ _⟩ | exact ⟨_, rfl, rfl, Below.refl _ _⟩
    · exact fun hk => absurd hk (by decide)
    · intro _ u W q hj hd
      obtain ⟨hd0, _⟩ := hd
      have e0 : u 3 = _ := hd0 rfl (by decide)
      obtain ⟨k1, k3⟩ := HCell.out q W hj
      simp only [List.take_succ_cons, List.take_zero, putAll, Act.put, List.setIfInBounds_toArray, List.set_cons_succ, List.set_cons_zero, Nat.zero_add, Nat.reduceAdd]
      rw [e0]
      go_wp2
      first | exact ⟨rfl, Below.refl _ _⟩ | exact ⟨_, rfl, rfl, Below.refl _ _⟩
    · exact fun hk => absurd hk (by decide)
    · intro _ u W q hj hd
      simp only [List.take_succ_cons, List.take_zero, putAll, Act.put, List.setIfInBounds_toArray, List.set_cons_succ, List.set_cons_zero, Nat.zero_add, Nat.reduceAdd]
      go_wp2
      first | exact ⟨rfl, Below.refl _ _⟩ | exact ⟨_, rfl, rfl, Below.refl _ _⟩
    · exact fun hk => absurd hk (by decide)
    · intro _ u W q hj hd
      simp only [List.take_succ_cons, List.take_zero, putAll, Act.put, List.setIfInBounds_toArray, List.set_cons_succ, List.set_cons_zero, Nat.zero_add, Nat.reduceAdd]
      go_wp2
      first | exact ⟨rfl, Below.refl _ _⟩ | exact ⟨_, rfl, rfl, Below.refl _ _⟩
    · exact fun hk => absurd hk (by decide)
    · intro _ u W q hj hd
      obtain ⟨hd0, _⟩ := hd
      have e0 : u 6 = _ := hd0 rfl (by decide)
      simp only [List.take_succ_cons, List.take_zero, putAll, Act.put, List.setIfInBounds_toArray, List.set_cons_succ, List.set_cons_zero, Nat.zero_add, Nat.reduceAdd]
      rw [e0]
      go_wp2
      first | exact ⟨rfl, Below.refl _ _⟩ | exact ⟨_, rfl, rfl, Below.refl _ _⟩
    · exact fun hk => absurd hk (by decide)
    · intro _ u W q hj hd
      obtain ⟨hd0, _⟩ := hd
      have e0 : u 7 = _ := hd0 rfl (by decide)
      simp only [List.take_succ_cons, List.take_zero, putAll, Act.put, List.setIfInBounds_toArray, List.set_cons_succ, List.set_cons_zero, Nat.zero_add, Nat.reduceAdd]
      rw [e0]
      go_wp2
      first | exact ⟨rfl, Below.refl _ _⟩ | exact ⟨_, rfl, rfl, Below.refl _ _⟩
    · exact fun hk => absurd hk (by decide)
    · intro _ u W q hj hd
      obtain ⟨hd0, _⟩ := hd
      have e0 : u 8 = _ := hd0 rfl (by decide)
      obtain ⟨k1, k3⟩ := HCell.out q W hj
      simp only [List.take_succ_cons, List.take_zero, putAll, Act.put, List.setIfInBounds_toArray, List.set_cons_succ, List.set_cons_zero, Nat.zero_add, Nat.reduceAdd]
      rw [e0]
      go_wp2
      first | exact ⟨rfl, Below.refl _ _⟩ | exact ⟨_, rfl, rfl, Below.refl _ _⟩
    · exact fun hk => absurd hk (by decide)
    · intro _ u W q hj hd
      obtain ⟨hd0, hd1, _⟩ := hd
      have e0 : u 5 = _ := hd0 rfl (by decide)
      have e1 : u 9 = _ := hd1 rfl (by decide)
      simp only [List.take_succ_cons, List.take_zero, putAll, Act.put, List.setIfInBounds_toArray, List.set_cons_succ, List.set_cons_zero, Nat.zero_add, Nat.reduceAdd]
      rw [e0, e1]
      go_wp2
      first | exact ⟨rfl, Below.refl _ _⟩ | exact ⟨_, rfl, rfl, Below.refl _ _⟩
    · exact fun hk => absurd hk (by decide)
    · intro _ u W q hj hd
      simp only [List.take_succ_cons, List.take_zero, putAll, Act.put, List.setIfInBounds_toArray, List.set_cons_succ, List.set_cons_zero, Nat.zero_add, Nat.reduceAdd]
      go_wp2
      first | exact ⟨rfl, Below.refl _ _⟩ | exact ⟨_, rfl, rfl, Below.refl _ _⟩
    · exact fun hk => absurd hk (by decide)
    · intro _ u W q hj hd
      obtain ⟨hd0, _⟩ := hd
      have e0 : u 11 = _ := hd0 rfl (by decide)
      have kc := HConv.out q W hj
      simp only [List.take_succ_cons, List.take_zero, putAll, Act.put, List.setIfInBounds_toArray, List.set_cons_succ, List.set_cons_zero, Nat.zero_add, Nat.reduceAdd]
      rw [e0]
      go_wp2
      first | exact ⟨rfl, Below.refl _ _⟩ | exact ⟨_, rfl, rfl, Below.refl _ _⟩
    · exact fun hk => absurd hk (by decide)
    · intro _ u W q hj hd
      simp only [List.take_succ_cons, List.take_zero, putAll, Act.put, List.setIfInBounds_toArray, List.set_cons_succ, List.set_cons_zero, Nat.zero_add, Nat.reduceAdd]
      go_wp2
      first | exact ⟨rfl, Below.refl _ _⟩ | exact ⟨_, rfl, rfl, Below.refl _ _⟩
    · exact fun hk => absurd hk (by decide)
    · intro _ u W q hj hd
      obtain ⟨hd0, _⟩ := hd
      have e0 : u 13 = _ := hd0 rfl (by decide)
      simp only [List.take_succ_cons, List.take_zero, putAll, Act.put, List.setIfInBounds_toArray, List.set_cons_succ, List.set_cons_zero, Nat.zero_add, Nat.reduceAdd]
      rw [e0]
      go_wp2
      first | exact ⟨rfl, Below.refl _ _⟩ | exact ⟨_, rfl, rfl, Below.refl _ _⟩
    · exact fun hk => absurd hk (by decide)
    · intro _ u W q hj hd
      obtain ⟨hd0, _⟩ := hd
      have e0 : u 14 = _ := hd0 rfl (by decide)
      simp only [List.take_succ_cons, List.take_zero, putAll, Act.put, List.setIfInBounds_toArray, List.set_cons_succ, List.set_cons_zero, Nat.zero_add, Nat.reduceAdd]
      rw [e0]
      go_wp2
      first | exact ⟨rfl, Below.refl _ _⟩ | exact ⟨_, rfl, rfl, Below.refl _ _⟩
    · exact fun hk => absurd hk (by decide)
    · intro _ u W q hj hd
      obtain ⟨hd0, _⟩ := hd
      have e0 : u 15 = _ := hd0 rfl (by decide)
      obtain ⟨k1, k3⟩ := HCell.out q W hj
      simp only [List.take_succ_cons, List.take_zero, putAll, Act.put, List.setIfInBounds_toArray, List.set_cons_succ, List.set_cons_zero, Nat.zero_add, Nat.reduceAdd]
      rw [e0]
      go_wp2
      first | exact ⟨rfl, Below.refl _ _⟩ | exact ⟨_, rfl, rfl, Below.refl _ _⟩
    · exact fun hk => absurd hk (by decide)
    · intro _ u W q hj hd
      simp only [List.take_succ_cons, List.take_zero, putAll, Act.put, List.setIfInBounds_toArray, List.set_cons_succ, List.set_cons_zero, Nat.zero_add, Nat.reduceAdd]
      go_wp2
      first | exact ⟨rfl, Below.refl _ _⟩ | exact ⟨_, rfl, rfl, Below.refl _ _⟩
    · exact fun hk => absurd hk (by decide)
    · intro _ u W q hj hd
      obtain ⟨hd0, _⟩ := hd
      have e0 : u 17 = _ := hd0 rfl (by decide)
      simp only [List.take_succ_cons, List.take_zero, putAll, Act.put, List.setIfInBounds_toArray, List.set_cons_succ, List.set_cons_zero, Nat.zero_add, Nat.reduceAdd]
      rw [e0]
      go_wp2
      first | exact ⟨rfl, Below.refl _ _⟩ | exact ⟨_, rfl, rfl, Below.refl _ _⟩
    · exact fun hk => absurd hk (by decide)
    · intro _ u W q hj hd
      obtain ⟨hd0, hd1, _⟩ := hd
      have e0 : u 16 = _ := hd0 rfl (by decide)
      have e1 : u 18 = _ := hd1 rfl (by decide)
      simp only [List.take_succ_cons, List.take_zero, putAll, Act.put, List.setIfInBounds_toArray, List.set_cons_succ, List.set_cons_zero, Nat.zero_add, Nat.reduceAdd]
      rw [e0, e1]
      go_wp2
      first | exact ⟨rfl, Below.refl _ _⟩ | exact ⟨_, rfl, rfl, Below.refl _ _⟩
    · exact fun hk => absurd hk (by decide)
    · intro _ u W q hj hd
      obtain ⟨hd0, _⟩ := hd
      have e0 : u 19 = _ := hd0 rfl (by decide)
      simp only [List.take_succ_cons, List.take_zero, putAll, Act.put, List.setIfInBounds_toArray, List.set_cons_succ, List.set_cons_zero, Nat.zero_add, Nat.reduceAdd]
      rw [e0]
      go_wp2_with (go_at_call 25; (with_reducible refine (HZ.out _).mono ?_); rintro e W1 ⟨rfl, g⟩)
      exact ⟨_, rfl, rfl, g⟩
    · exact fun hk => absurd hk (by decide)
    · intro _ u W q hj hd
      obtain ⟨hd0, hd1, _⟩ := hd
      have e0 : u 12 = _ := hd0 rfl (by decide)
      have e1 : u 20 = _ := hd1 rfl (by decide)
      simp only [List.take_succ_cons, List.take_zero, putAll, Act.put, List.setIfInBounds_toArray, List.set_cons_succ, List.set_cons_zero, Nat.zero_add, Nat.reduceAdd]
      rw [e0, e1]
      go_wp2
      first | exact ⟨rfl, Below.refl _ _⟩ | exact ⟨_, rfl, rfl, Below.refl _ _⟩
    · exact fun hk => absurd hk (by decide)
    · intro _ u W q hj hd
      obtain ⟨hd0, hd1, _⟩ := hd
      have e0 : u 10 = _ := hd0 rfl (by decide)
      have e1 : u 21 = _ := hd1 rfl (by decide)
      simp only [List.take_succ_cons, List.take_zero, putAll, Act.put, List.setIfInBounds_toArray, List.set_cons_succ, List.set_cons_zero, Nat.zero_add, Nat.reduceAdd]
      rw [e0, e1]
      go_wp2
      first | exact ⟨rfl, Below.refl _ _⟩ | exact ⟨_, rfl, rfl, Below.refl _ _⟩
    · exact fun hk => absurd hk (by decide)
    · intro _ u W q hj hd
      obtain ⟨hd0, _⟩ := hd
      have e0 : u 22 = _ := hd0 rfl (by decide)
      simp only [List.take_succ_cons, List.take_zero, putAll, Act.put, List.setIfInBounds_toArray, List.set_cons_succ, List.set_cons_zero, Nat.zero_add, Nat.reduceAdd]
      rw [e0]
      go_wp2
      exact ⟨⟨W.heap.size, rfl, (OnlyO.size hj), by simp, by rw [World.cell?_alloc_new]; rfl, by rw [World.cell?_alloc_new]; rfl⟩, (Below.refl _ _).alloc (Nat.le_refl _) _⟩
    · exact fun hk => absurd hk (by decide)
    · exact fun hk => absurd hk (by decide)
    · intro _ u W hj hd
      obtain ⟨hd0, hd1, _, _⟩ := hd
      have e0 : u 4 = _ := hd0 rfl (by decide)
      obtain ⟨g, e1, hg1, hg2, hg3, hg4⟩ := hd1 rfl (by decide)
      simp only [List.take_succ_cons, List.take_zero, putAll, Act.put, List.setIfInBounds_toArray, List.set_cons_succ, List.set_cons_zero, Nat.zero_add, Nat.reduceAdd]
      rw [e0, e1]
      have hrow := hj.row HR1.out
      have hsz := (OnlyO.size hj)
      have news : ∀ j u', ([.int .i64 (M : Int), .string (B ++ Z)] : List Value)[j]? = some u' → W.cell? ((⟨g, 0, none⟩ : Addr).add j) = some u' := fun j u' hj' => by
        have e : (⟨g, 0, none⟩ : Addr).add j = ⟨g, j, none⟩ := by unfold Addr.add; split <;> simp_all
        rw [e]
        match j, hj' with
        | 0, hj' => cases hj'; exact hg3
        | 1, hj' => cases hj'; exact hg4
        | j + 2, hj' => simp at hj'
      have ones : ∀ u' ∈ ([.int .i64 (M : Int), .string (B ++ Z)] : List Value), u'.oneCell' = true := fun u' hu => by
        rcases List.mem_cons.mp hu with rfl | hu
        · rfl
        · rw [List.mem_singleton.mp hu]; rfl
      go_wp2_with (at_builtin; go_loud (refine wpList_append_lies W rfl _ _ 36 rfl base 60 i0 (.agg #[.int .i64 0, .string ⟨#[]⟩]) 2 24 Try.underlying36 hi hz0 hz1 hz2 rfl (by decide) _ N (wcells D.waits) rfl hrow ⟨g, 0, none⟩ 1 1 [.int .i64 (M : Int), .string (B ++ Z)] rfl rfl news ones (by decide) HNmax.out HNb.out (Nat.le_trans hb1 hsz) _ rfl ?_))
      intro g2 cap2 w2 k1 k2 k3 k4
      go_wp2
      exact ⟨_, rfl, ⟨g2, cap2, rfl, k1, k3.imp id (fun e => by omega), k4⟩, ⟨fun g' hg => (HR1.out.lt g' hg).2, k2⟩, (OnlyO.bel hj).grown k2 (Nat.le_trans hb1 hsz) (fun b' hk => (hrow.lt b' hk).1), fun i hi hne => (k2.block i (Nat.lt_of_lt_of_le hi hsz) (fun e => hne ⟨rfl, e⟩)).trans (OnlyO.keep hj i hi (fun ⟨e, _⟩ => by cases e))⟩
  · intro u W hj hT
    have e0 : u 0 = .pointer (some ⟨r, 0, none⟩) := hT 0 (by decide)
    obtain ⟨g2, cap2, e24, k1, k2, k3⟩ := hT 24 (by decide)
    have er := (OnlyO.keep hj r hrs (fun ⟨_, e⟩ => (HV1.out r e.symm).2 rfl))
    have dW := HD1.out.kept er (OnlyO.size hj)
    have hg2r : g2 ≠ r := by
      rcases k2 with k2 | k2
      · exact (HV1.out g2 k2).2
      · omega
    have c3 := dW.c3
    have f3 := dW.q 3
    have DW := Lib.hid dW
    rw [e24] at k1
    have K1 := Lib.hid k1
    have HJ := Lib.hid hj
    have HK := Lib.hid (And.intro k2 (And.intro k3 hg2r))
    clear dW er k1 hj hT k2 k3 hg2r
    simp only [List.take_succ_cons, List.take_zero, List.drop_succ_cons, List.drop_zero, putAll, Act.put, List.setIfInBounds_toArray, List.set_cons_succ, List.set_cons_zero, Nat.zero_add, Nat.reduceAdd]
    rw [e0, e24]
    go_wp2
    go_ret
    obtain ⟨k2, k3, hg2r⟩ := HK.out
    have hs1 := G1.out.size
    have hsW := OnlyO.size HJ.out
    have hset := DW.out.set.2.1 (.slice (some ⟨g2, 0, none⟩) (N + 1) cap2)
    rw [hfin.out]
    refine ⟨rfl, fun i => O i ∨ i = g2, ?_, ?_, ?_⟩
    · refine ⟨by have := HWO.out; rw [hfin.out] at this; exact this, fun i hi => ?_, Or.inl HREF.out.mem, .slice (some ⟨g2, 0, none⟩) (N + 1) cap2, ?_, ?_, ?_⟩
      · have hsz : (W.setCell ⟨r, 3, none⟩ (.slice (some ⟨g2, 0, none⟩) (N + 1) cap2)).heap.size = W.heap.size := by simp
        rw [hsz]
        rcases hi with hi | rfl
        · have := HREF.out.own i hi
          exact ⟨this.1, by omega⟩
        · exact ⟨(K1.out.lt i rfl).1, k3⟩
      · show DiskAt _ r E.n E.size _ _ E.fuse E.dark E.deeds
        rw [HS2.out]
        exact hset
      · show World.ownsRow _ base _ 2 _ (D.waits ++ [(M, b ++ List.replicate Lz 0)]).length (wcells (D.waits ++ [(M, b ++ List.replicate Lz 0)]))
        rw [wcells_more, hfin2.out, List.length_append, HN.out]
        exact row_kept K1.out (fun g hg => by cases hg; exact set_other W r 3 _ g2 k3 hg2r)
      · intro g hg
        cases hg
        exact ⟨Or.inr rfl, hg2r⟩
    · have h2 : OnlyO base O w W := G1.out.trans HJ.out (fun i ⟨_, e⟩ => Or.inl (HV1.out i e.symm).1)
      exact h2.set HREF.out.mem hbase 3 _
    · intro i hi
      rcases hi with hi | rfl
      · exact Or.inl hi
      · rcases k2 with k2 | k2
        · exact Or.inl (HV1.out i k2).1
        · exact Or.inr (by omega)

set_option maxRecDepth 100000 in
set_option maxHeartbeats 400000 in
theorem brwrite_any (base : Nat) (O : Foot) (r : Nat) (D : Dsk) (i : Int) (x : Value) (b : List Int) (w : World) (h : RefIs w base O r D) (hd : D.deeds ≤ 1000000) (hv : ArgB w x b) (hkeep : ∀ w', Below base w w' → ArgB w' x b) (hby : ∀ z ∈ b, 0 ≤ z ∧ z ≤ 255) :
    Calls Try.prog 11 #[.pointer (some ⟨r, 0, none⟩), .int .i64 i, x] w fun e w' => e = .returned (.int .i64 (D.write i b).1) ∧ RefTo base O r (D.write i b).2 w w' := by
  have wk : ∀ (e : Ending) (w' : World), (e = .returned (.int .i64 (D.write i b).1) ∧ RefIs w' base O r (D.write i b).2 ∧ OnlyO base O w w') → e = .returned (.int .i64 (D.write i b).1) ∧ RefTo base O r (D.write i b).2 w w' := fun e w' ⟨h1, h2, h3⟩ => ⟨h1, O, h2, h3, Grown.refl _ _⟩
  by_cases hdk : D.dark = true
  · exact (brwrite_refused base O r D i x b w h hv (Or.inl hdk)).mono wk
  · have hdk' : D.dark = false := by simpa using hdk
    by_cases hc : i < 0 ∨ (D.n : Int) ≤ i ∨ D.size < b.length
    · exact (brwrite_refused base O r D i x b w h hv (Or.inr ⟨hdk', hc⟩)).mono wk
    · by_cases hq : D.deed.1 = true
      · exact brwrite_done base O r D i x b w h hd hv hkeep hby hdk' (by omega) (by omega) (by omega) hq
      · exact (brwrite_dim base O r D i x b w h hd hv hdk' (by omega) (by omega) (by omega) (by simpa using hq)).mono wk

end Go.Proofs.Ytnndpainnoebgaa
