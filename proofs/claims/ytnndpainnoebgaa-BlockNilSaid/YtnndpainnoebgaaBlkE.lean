/-
  The program's disk, walked: has, of, burn, settle.
-/
import Derived.Test.YtnndpainnoebgaaBlkD
import Derived.Test.YtnndpainnoebgaaMixP
import Derived.Deep.QuietTactic
import Derived.BigQuiet
namespace Go.Proofs.Ytnndpainnoebgaa
open Go.RowKit

/-- A slice of what waits, up to a place. -/
theorem waits_to (a : Option Addr) (N cap k : Nat) (ha : a = none ∨ ∃ g, a = some ⟨g, 0, none⟩) (hk : k ≤ cap) : ∀ W : World, (Instr.slice 51 (.slice a N cap) none (some (.int .i64 (k : Int))) none).run Try.prog W = .ok (.slice a k cap) W := fun W => by
  have hs : ∀ W : World, (sizeOf (Try.prog.elem 51)).run Try.prog W = .ok 2 W := fun W => by kernel_rfl
  have := run_slice_h (P := Try.prog) W 51 a N cap (by kernel_rfl) .i64 (k : Int) (by omega) (by omega)
  rw [this, hs]
  simp only [Result.andThen, Int.toNat_natCast, sliced]
  rcases ha with rfl | ⟨g, rfl⟩
  · simp
  · simp [Addr.add]

set_option maxRecDepth 100000 in
set_option maxHeartbeats 4000000 in
theorem bhas_any (r n : Nat) (i : Int) (w : World) (c0 : w.cell? ⟨r, 0, none⟩ = some (.int .i64 (n : Int))) :
    Calls Try.prog 26 #[.pointer (some ⟨r, 0, none⟩), .int .i64 i] w fun e w' => e = .returned (.bool (decide (0 ≤ i ∧ i < (n : Int)))) ∧ w' = w := by
  by_cases h0 : 0 ≤ i
  · have hn : ¬ i < 0 := by omega
    by_cases h1 : i < (n : Int)
    · rw [show decide (0 ≤ i ∧ i < (n : Int)) = true from by simp [h0, h1]]
      go_enter Try.func26, Try.ntmps26
      go_wp2
      go_ret
      exact ⟨rfl, rfl⟩
    · rw [show decide (0 ≤ i ∧ i < (n : Int)) = false from by simp [h1]]
      go_enter Try.func26, Try.ntmps26
      go_wp2
      go_ret
      exact ⟨rfl, rfl⟩
  · rw [show decide (0 ≤ i ∧ i < (n : Int)) = false from by simp [h0]]
    have hn : i < 0 := by omega
    go_enter Try.func26, Try.ntmps26
    go_wp2
    go_ret
    exact ⟨rfl, rfl⟩

set_option maxRecDepth 100000 in
set_option maxHeartbeats 4000000 in
theorem bof_any (r g n size M i : Nat) (w : World) (c1 : w.cell? ⟨r, 1, none⟩ = some (.int .i64 (size : Int))) (hM : n * size = M) (hi : i < n) (hn : n ≤ 400) (hs : size ≤ 512) (hs0 : 32 ≤ size) :
    Calls Try.prog 28 #[.pointer (some ⟨r, 0, none⟩), .slice (some ⟨g, 0, none⟩) M M, .int .i64 (i : Int)] w fun e w' => e = .returned (.slice (some ⟨g, i * size, none⟩) size (M - i * size)) ∧ Below w.heap.size w w' := by
  have hfit := fit (size := size) hi
  have hmost : n * size ≤ 204800 := Nat.mul_le_mul hn hs
  rw [hM] at hfit hmost
  obtain ⟨A, hA⟩ : ∃ A, i * size = A := ⟨_, rfl⟩
  rw [hA] at hfit ⊢
  obtain ⟨B, hB⟩ : ∃ B, A + size = B := ⟨_, rfl⟩
  have hw1 : IntKind.i64.wrap ((i : Int) * (size : Int)) = (A : Int) := by
    have e : (i : Int) * (size : Int) = (A : Int) := by rw [← hA]; simp
    rw [e, IntKind.wrap_i64]; omega
  have hw2 : IntKind.i64.wrap ((i : Int) + 1) = (i : Int) + 1 := by rw [IntKind.wrap_i64]; omega
  have hw3 : IntKind.i64.wrap (((i : Int) + 1) * (size : Int)) = (B : Int) := by
    have e : ((i : Int) + 1) * (size : Int) = (B : Int) := by rw [← hB, ← hA, Int.add_mul]; simp
    rw [e, IntKind.wrap_i64]; omega
  have hsl : ∀ W : World, (Instr.slice 30 (.slice (some ⟨g, 0, none⟩) M M) (some (.int .i64 (A : Int))) (some (.int .i64 (B : Int))) none).run Try.prog W = .ok (.slice (some ⟨g, A, none⟩) size (M - A)) W := fun W => by
    have hz : ∀ W : World, (sizeOf (Try.prog.elem 30)).run Try.prog W = .ok 1 W := fun W => by kernel_rfl
    have := run_slice_lh (P := Try.prog) W 30 (some ⟨g, 0, none⟩) M M (by kernel_rfl) .i64 .i64 (A : Int) (B : Int) (by omega) (by omega) (by omega)
    rw [this, hz]
    have e3 : ∀ j : Nat, (⟨g, 0, none⟩ : Addr).add j = ⟨g, j, none⟩ := fun j => by unfold Addr.add; split <;> simp_all
    simp only [Result.andThen, Int.toNat_natCast, sliced]
    rw [if_neg (by omega)]
    simp only [Option.map_some, Nat.mul_one, e3]
    rw [show B - A = size by omega]
  clear hM hA hB hfit hmost
  go_enter Try.func28, Try.ntmps28
  go_wp2
  go_quiet (fail)
  have HB2 := Lib.hid (below_drewN (Below.refl w.heap.size w) nq)
  generalize w.drewN nq = w2 at HB2 ⊢
  go_wp2
  go_ret
  exact ⟨rfl, HB2.out⟩

/-- Bytes stay while a cell that is none of them is set. -/
theorem ArgB.set {w : World} {v : Value} {l : List Int} (h : ArgB w v l) {r j : Nat} {y : Value} (hc : w.cell? ⟨r, j, none⟩ = some y) (hy : ∀ z, y ≠ .int .u8 z) (x : Value) : ArgB (w.setCell ⟨r, j, none⟩ x) v l := by
  rcases h with h | ⟨a, cap, rfl, hc2, hcell⟩
  · exact Or.inl h
  · refine Or.inr ⟨a, cap, rfl, hc2, fun i hi => ?_⟩
    rw [World.cell?_setCell_other _ _ _ _ (fun e => by rw [e, hcell i hi] at hc; exact hy _ (Option.some.inj hc).symm)]
    exact hcell i hi

set_option maxRecDepth 100000 in
set_option maxHeartbeats 4000000 in
theorem bburn_arg (base : Nat) (O : Foot) (r : Nat) (D : Dsk) (w : World) (h : DskIs w base O r D) (hd : D.deeds ≤ 1000000) :
    Calls Try.prog 27 #[.pointer (some ⟨r, 0, none⟩)] w fun e w' => e = .returned (.bool D.deed.1) ∧ DskIs w' base O r D.deed.2 ∧ OnlyO base O w w' ∧ ∀ v l, ArgB w v l → ArgB w' v l := by
  obtain ⟨hown, hmem, hok, gl, gs, v, B, L, hp, hf, l0, l1⟩ := h
  have HP := Lib.hid hp
  have HOK := Lib.hid hok
  have HOK2 := Lib.hid hok.deed.1
  have HOWN := Lib.hid hown
  have hbr := (hown r hmem).1
  have hdk := hp.dk
  have HDK := Lib.hid hdk
  obtain ⟨c0, c1, c2, c3, c4, c5, c6, c7, c8, q, sl⟩ := hdk
  have q5 := q 5
  have q7 := q 7
  have q8 := q 8
  obtain ⟨dd, hdd⟩ : ∃ k, D.deeds = k := ⟨_, rfl⟩
  rw [hdd] at c5 hd
  have hwd : IntKind.i64.wrap ((dd : Int) + 1) = (dd : Int) + 1 := by rw [IntKind.wrap_i64]; omega
  have HDD := Lib.hid hdd
  have HF := Lib.hid hf
  clear hp hok hown c0 c1 c2 c3 c4 q hdd hf
  have hsame : ∀ (j : Nat) (x : Value) (i : Nat), i ≠ r → (w.setCell ⟨r, j, none⟩ x).heap[i]? = w.heap[i]? := fun j x i hne => set_else w r j x i hne
  have HSAME := Lib.hid hsame
  clear hsame
  rcases HF.out with ⟨rfl, hfu, hL0⟩ | ⟨rfl, hfu⟩
  · by_cases h0 : L = 0
    · have hfin : Hid (D.deed = (false, { D with dark := true })) := by unfold Hid Dsk.deed; rw [if_pos (by rw [hfu]; exact h0)]
      have HFU := Lib.hid hfu
      subst h0
      clear hfu
      go_enter Try.func27, Try.ntmps27
      go_wp2
      go_ret
      have h2 := HOK2.out
      rw [hfin.out] at h2 ⊢
      exact ⟨rfl, ⟨fun i hi => by simpa using HOWN.out i hi, hmem, h2, gl, gs, v, true, 0, HP.out.cells (HDK.out.set.2.2.2.2 true) (HSAME.out 8 _) (by simp), HF.out, l0, l1⟩, (OnlyO.refl _ _ _).set hmem hbr _ _, fun v l hA => hA.set HDK.out.c8 (fun z e => by cases e) _⟩
    · have h0b : (L == 0) = false := by simpa using h0
      have hw1 : IntKind.i64.wrap (L - 1) = L - 1 := by rw [IntKind.wrap_i64]; omega
      have hfin : Hid (D.deed = (true, { D with fuse := L - 1, deeds := dd + 1 })) := by unfold Hid Dsk.deed; rw [if_neg (by rw [hfu]; exact h0), hfu, if_pos (by omega), HDD.out]
      have e5 : (w.setCell ⟨r, 7, none⟩ (.int .i64 (L - 1))).cell? ⟨r, 5, none⟩ = some (.int .i64 (dd : Int)) := by rw [← HDD.out]; exact (HDK.out.set.2.2.2.1 (L - 1)).c5
      have HL := Lib.hid (And.intro hL0 (And.intro l0 (And.intro l1 h0)))
      clear hfu hL0 l0 l1
      go_enter Try.func27, Try.ntmps27
      go_wp2
      go_ret
      have h2 := HOK2.out
      obtain ⟨hL0, l0, l1, hne⟩ := HL.out
      rw [hfin.out] at h2 ⊢
      exact ⟨rfl, ⟨fun i hi => by simpa using HOWN.out i hi, hmem, h2, gl, gs, v, true, L - 1, HP.out.cells ((HDK.out.set.2.2.2.1 (L - 1)).set.2.1 ((dd : Int) + 1)) (fun i hne => (set_else _ r 5 _ i hne).trans (HSAME.out 7 _ i hne)) (by simp), Or.inl ⟨rfl, rfl, by omega⟩, by omega, by omega⟩, ((OnlyO.refl _ _ _).set hmem hbr _ _).set hmem hbr _ _, fun v l hA => (hA.set HDK.out.c7 (fun z e => by cases e) _).set (HDK.out.set.2.2.2.1 (L - 1)).c5 (fun z e => by cases e) _⟩
  · have hfin : Hid (D.deed = (true, { D with fuse := -1, deeds := dd + 1 })) := by unfold Hid Dsk.deed; rw [if_neg (by rw [hfu]; decide), hfu, if_neg (by decide), HDD.out]
    have HL := Lib.hid (And.intro l0 l1)
    clear hfu l0 l1
    go_enter Try.func27, Try.ntmps27
    go_wp2
    go_ret
    have h2 := HOK2.out
    obtain ⟨l0, l1⟩ := HL.out
    rw [hfin.out] at h2 ⊢
    exact ⟨rfl, ⟨fun i hi => by simpa using HOWN.out i hi, hmem, h2, gl, gs, v, false, L, HP.out.cells (HDK.out.set.2.1 ((dd : Int) + 1)) (HSAME.out 5 _) (by simp), Or.inr ⟨rfl, rfl⟩, l0, l1⟩, (OnlyO.refl _ _ _).set hmem hbr _ _, fun v l hA => hA.set HDK.out.c5 (fun z e => by cases e) _⟩
theorem bburn_any (base : Nat) (O : Foot) (r : Nat) (D : Dsk) (w : World) (h : DskIs w base O r D) (hd : D.deeds ≤ 1000000) :
    Calls Try.prog 27 #[.pointer (some ⟨r, 0, none⟩)] w fun e w' => e = .returned (.bool D.deed.1) ∧ DskIs w' base O r D.deed.2 ∧ OnlyO base O w w' :=
  (bburn_arg base O r D w h hd).mono fun _ _ ⟨h1, h2, h3, _⟩ => ⟨h1, h2, h3⟩

/-- What each operation of a drawn statement has made: a value that is known. -/
def TV (vals : List Value) (k : Nat) (v : Value) (_ : World) : Prop := v = vals.getD k undef
/-- Where a statement with a copy stands: ahead of it nothing old has changed, behind it the row. -/
def JL (base g : Nat) (l : List Int) (w1 : World) (b : Bool) (w : World) : Prop := OnlyO base (fun i => b = true ∧ i = g) w1 w ∧ (b = true → RowB w g l)
theorem JL.keep {base g : Nat} {l : List Int} {w1 : World} (hb1 : base ≤ w1.heap.size) (b : Bool) (w w' : World) (h : JL base g l w1 b w) (hb : Below w.heap.size w w') : JL base g l w1 b w' :=
  ⟨⟨h.1.bel.trans (hb.mono (Nat.le_trans hb1 h.1.size)), fun i hi hne => (hb.block i (Nat.lt_of_lt_of_le hi h.1.size)).trans (h.1.keep i hi hne)⟩, fun e => (h.2 e).kept (hb.block g (h.2 e).lt)⟩
theorem JL.start {base g : Nat} {l : List Int} {w1 : World} : JL base g l w1 false w1.drew := ⟨⟨(Below.refl _ _).drew, fun _ _ _ => rfl⟩, fun e => by cases e⟩
theorem JL.only {base g : Nat} {l : List Int} {w1 w : World} {b : Bool} (h : JL base g l w1 b w) : OnlyO base (fun i => i = g) w1 w := h.1.weak (fun _ hi => hi.2)
theorem JL.blk {base g : Nat} {l : List Int} {w1 w : World} {b : Bool} (h : JL base g l w1 b w) {i : Nat} (hi : i < w1.heap.size) (hne : i ≠ g) : w.heap[i]? = w1.heap[i]? := h.1.keep i hi (fun hh => hne hh.2)
theorem JL.blk0 {base g : Nat} {l : List Int} {w1 w : World} (h : JL base g l w1 false w) {i : Nat} (hi : i < w1.heap.size) : w.heap[i]? = w1.heap[i]? := h.1.keep i hi (fun hh => by cases hh.1)
theorem JL.laid {base g : Nat} {l : List Int} {w1 w w' : World} (h : JL base g l w1 false w) (hr : RowB w' g l) (ho : OnlyO base (fun i => i = g) w w') : JL base g l w1 true w' :=
  ⟨⟨h.1.bel.trans ho.bel, fun i hi hne => (ho.keep i (Nat.lt_of_lt_of_le hi h.1.size) (fun e => hne ⟨rfl, e⟩)).trans (h.1.keep i hi (fun hh => by cases hh.1))⟩, fun _ => hr⟩

set_option maxRecDepth 100000 in
set_option maxHeartbeats 8000000 in
theorem bsettle_any (base : Nat) (O : Foot) (r gl gs : Nat) (v : Value) (n size : Nat) (la se : List Int) (ws : List (Nat × List Int)) (deeds : Int) (B : Bool) (L : Int) (dark : Bool) (k : Nat) (w : World) (h : Parts w base O r gl gs v n size la se ws deeds B L dark) (hk : k ≤ ws.length) (hws : ws.length ≤ 2000000) :
    Calls Try.prog 30 #[.pointer (some ⟨r, 0, none⟩), .int .i64 (k : Int)] w fun e w' => e = .returned (.tuple #[]) ∧ Parts w' base O r gl gs v n size (seenAt la ws k) se ws deeds B L dark ∧ OnlyO base O w w' := by
  have HP := Lib.hid h
  obtain ⟨a, cap, hv⟩ := h.ww.size
  subst hv
  have hacap : (a = none ∨ ∃ g, a = some ⟨g, 0, none⟩) ∧ ws.length ≤ cap := by
    obtain ⟨xs, _, h2, _⟩ := h.ww
    rcases h2.2 with ⟨e, h0⟩ | ⟨g, cap', cur, e, _, _, hc, _⟩
    · simp only [Value.slice.injEq] at e
      exact ⟨Or.inl e.1, by omega⟩
    · simp only [Value.slice.injEq] at e
      exact ⟨Or.inr ⟨g, e.1⟩, by omega⟩
  obtain ⟨N, hN⟩ : ∃ N, ws.length = N := ⟨_, rfl⟩
  have HN := Lib.hid hN
  have hsl := waits_to a N cap k hacap.1 (by omega)
  have c4 := h.dk.c4
  rw [hN] at c4 hk hws
  have hbase := (h.own r h.mr).1
  have HM := Lib.hid (And.intro h.mr h.ml)
  clear h hacap hN
  go_enter Try.func30, Try.ntmps30
  go_wp2
  go_loopw [13] (fun v13 wr => ∃ j : Nat, v13 = .int .i64 (j : Int) ∧ j ≤ k ∧ Parts wr base O r gl gs (.slice a ws.length cap) n size (seenAt la ws j) se ws deeds B L dark ∧ OnlyO base O w wr) (fun v13 _ => k - (intOf v13).toNat)
  case atStart => exact ⟨0, rfl, Nat.zero_le _, HP.out, OnlyO.refl _ _ _⟩
  case round =>
    obtain ⟨j, rfl, hj, hPr, hG⟩ := hrel
    have HPr := Lib.hid hPr
    have HG := Lib.hid hG
    clear hG
    by_cases hlt : j < k
    case neg =>
      obtain rfl : j = k := by omega
      clear hPr
      go_wp2
      go_end0
      exact ⟨rfl, HPr.out, HG.out⟩
    case pos =>
    obtain ⟨g, cap', x, e, hcap', q0, q1, _, hpg, hone⟩ := hPr.ww.one (k := j) (by rw [HN.out]; omega)
    simp only [Value.slice.injEq, true_and] at e
    obtain ⟨rfl, rfl⟩ := e
    have hnext := seenAt_next la ws j (by rw [HN.out]; omega)
    obtain ⟨p, hp⟩ : ∃ p, ws.getD j (0, []) = p := ⟨_, rfl⟩
    rw [hp] at hone hnext
    obtain ⟨La, hLa⟩ : ∃ La, seenAt la ws j = La := ⟨_, rfl⟩
    rw [hLa] at HPr hPr hnext
    obtain ⟨M, hM⟩ : ∃ M, n * size = M := ⟨_, rfl⟩
    have hfit := fit (size := size) hone.lt
    have hdk := hPr.dk
    have hrs := hdk.s
    have hxlt := hone.row.lt
    obtain ⟨pv, hpv⟩ : ∃ x, wr.heap.size = x := ⟨_, rfl⟩
    have HPV := Lib.hid hpv
    obtain ⟨wA, hwA⟩ : ∃ y, wr.alloc (.cells #[.int .i64 (x.1 : Int), .slice (some ⟨x.2, 0, none⟩) size size] 57) = y := ⟨_, rfl⟩
    have hbA : Below wr.heap.size wr wA := by rw [← hwA]; exact (Below.refl _ _).alloc (Nat.le_refl _) _
    have hvA : Var2 wA pv (.int .i64 (x.1 : Int)) (.slice (some ⟨x.2, 0, none⟩) size size) := by rw [← hwA]; exact Var2.fresh wr _ _ _ pv hpv.symm
    have HA := Lib.hid hwA
    have hszA := hbA.size
    have hbaseA : base ≤ wA.heap.size := by omega
    have hglr := hPr.ne.1
    have hbg := (hPr.own gl hPr.ml).1
    have hpvgl : pv ≠ gl := by have := (hPr.own gl hPr.ml).2; omega
    have hpgl : x.2 ≠ gl := hone.ap.1.2.1
    have HCell : Hid (∀ q W, JL base gl (layL La p) wA q W → W.cell? ⟨pv, 0, none⟩ = some (.int .i64 (x.1 : Int)) ∧ W.cell? ⟨pv, 1, none⟩ = some (.slice (some ⟨x.2, 0, none⟩) size size) ∧ W.cell? ⟨r, 1, none⟩ = some (.int .i64 (size : Int)) ∧ W.cell? ⟨r, 2, none⟩ = some (.slice (some ⟨gl, 0, none⟩) M M)) := fun q W hj => by
      have e1 := hj.blk (i := pv) hvA.s hpvgl
      have e2 := (hj.blk (i := r) (by omega) (Ne.symm hglr)).trans (hbA.block r hrs)
      refine ⟨(World.cell?_of_block e1).trans hvA.c0, (World.cell?_of_block e1).trans hvA.c1, (World.cell?_of_block e2).trans hdk.c1, ?_⟩
      rw [← hM]; exact (World.cell?_of_block e2).trans hdk.c2
    have HOF : Hid (∀ q W, JL base gl (layL La p) wA q W → Calls Try.prog 28 #[.pointer (some ⟨r, 0, none⟩), .slice (some ⟨gl, 0, none⟩) M M, .int .i64 (x.1 : Int)] W fun e w' => e = .returned (.slice (some ⟨gl, x.1 * size, none⟩) size (M - x.1 * size)) ∧ Below W.heap.size W w') := fun q W hj =>
      bof_any r gl n size M x.1 W (HCell.out q W hj).2.2.1 hM hone.lt hPr.n1 hPr.s1 hPr.s0
    have HROW : Hid (∀ W, JL base gl (layL La p) wA false W → ArgB W (.slice (some ⟨x.2, 0, none⟩) p.2.length size) p.2 ∧ RowB W gl La) := fun W hj =>
      ⟨(hone.row.kept ((hj.blk0 (i := x.2) (by omega)).trans (hbA.block _ hxlt))).whole _ _ rfl (by rw [hone.len]; exact Nat.le_refl _), hPr.rl.kept ((hj.blk0 (i := gl) (by have := hPr.rl.lt; omega)).trans (hbA.block _ hPr.rl.lt))⟩
    have HLEN : Hid (p.2.length = size) := hone.len
    rw [HLEN.out] at HROW
    have HFIT : Hid (x.1 * size + p.2.length ≤ La.length) := by unfold Hid; rw [hone.len, hPr.ll]; exact hfit
    have HBG := Lib.hid hbg
    have HEND : Hid (∀ W, JL base gl (layL La p) wA true W → Parts W base O r gl gs (.slice (some ⟨g, 0, none⟩) ws.length cap) n size (seenAt la ws (j + 1)) se ws deeds B L dark ∧ OnlyO base O w W) := fun W hj => by
      have hA := HPr.out.after hbA
      refine ⟨?_, (HG.out.trans (OnlyO.of hbA (by omega)) (Grown.refl _ _)).trans (hj.only.weak (fun i e => by rw [e]; exact HM.out.2)) (Grown.refl _ _)⟩
      rw [hnext]
      refine hA.last (hj.2 rfl) hj.only ?_
      have e := hone.at_
      rw [layL_len (by rw [e]; exact HFIT.out), hPr.ll]
    have hpe : p = (x.1 * size, p.2) := by rw [← hone.at_]
    have HPE := Lib.hid hpe
    have hin : (j : Int) < (k : Int) := by omega
    have hgN : j < ws.length := by rw [HN.out]; omega
    clear hPr hone hnext hp hLa hM hfit hdk hrs hxlt hvA hszA hglr hbg hpvgl hpgl hbA hpg hpe hsl c4 HP
    go_wp2
    refine wp_region_mixp 11 10 (TV [.pointer (some ⟨r, 0, none⟩), .pointer (some ⟨r, 0, none⟩), .pointer (some ⟨r, 0, none⟩), .pointer (some ⟨r, 2, none⟩), .slice (some ⟨gl, 0, none⟩) M M, .pointer (some ⟨pv, 0, none⟩), .int .i64 (x.1 : Int), .slice (some ⟨gl, x.1 * size, none⟩) size (M - x.1 * size), .pointer (some ⟨pv, 1, none⟩), .slice (some ⟨x.2, 0, none⟩) size size, .int .i64 (size : Int)]) (JL base gl (layL La p) wA) (fun _ _ => True) (by kernel_rfl) (by kernel_rfl) (by decide) (fun _ _ _ _ h _ => h) (fun _ _ _ _ _ h _ => h) (JL.keep hbaseA) JL.start ?_ ?_
    · refine ⟨?_, ?_, ?_, ?_, ?_, ?_, ?_, ?_, ?_, ?_, ?_, ?_, ?_, ?_, ?_, ?_, ?_, ?_, ?_, ?_, ?_, ?_, trivial⟩
      · intro _ u W q hj hd
        simp only [List.take_succ_cons, List.take_zero, putAll, Act.put, List.setIfInBounds_toArray, List.set_cons_succ, List.set_cons_zero, Nat.zero_add, Nat.reduceAdd]
        go_wp2
        first | exact ⟨rfl, Below.refl _ _⟩ | exact ⟨_, rfl, rfl, Below.refl _ _⟩
      · exact fun hk => absurd hk (by decide)
      · intro _ u W q hj hd
        simp only [List.take_succ_cons, List.take_zero, putAll, Act.put, List.setIfInBounds_toArray, List.set_cons_succ, List.set_cons_zero, Nat.zero_add, Nat.reduceAdd]
        go_wp2
        first | exact ⟨rfl, Below.refl _ _⟩ | exact ⟨_, rfl, rfl, Below.refl _ _⟩
      · exact fun hk => absurd hk (by decide)
      · intro _ u W q hj hd
        obtain ⟨hd0, _⟩ := hd
        have e0 : u 1 = .pointer (some ⟨r, 0, none⟩) := hd0 rfl (by decide)
        simp only [List.take_succ_cons, List.take_zero, putAll, Act.put, List.setIfInBounds_toArray, List.set_cons_succ, List.set_cons_zero, Nat.zero_add, Nat.reduceAdd]
        rw [e0]
        go_wp2
        first | exact ⟨rfl, Below.refl _ _⟩ | exact ⟨_, rfl, rfl, Below.refl _ _⟩
      · exact fun hk => absurd hk (by decide)
      · intro _ u W q hj hd
        obtain ⟨hd0, _⟩ := hd
        have e0 : u 2 = .pointer (some ⟨r, 0, none⟩) := hd0 rfl (by decide)
        simp only [List.take_succ_cons, List.take_zero, putAll, Act.put, List.setIfInBounds_toArray, List.set_cons_succ, List.set_cons_zero, Nat.zero_add, Nat.reduceAdd]
        rw [e0]
        go_wp2
        first | exact ⟨rfl, Below.refl _ _⟩ | exact ⟨_, rfl, rfl, Below.refl _ _⟩
      · exact fun hk => absurd hk (by decide)
      · intro _ u W q hj hd
        obtain ⟨hd0, _⟩ := hd
        have e0 : u 3 = .pointer (some ⟨r, 2, none⟩) := hd0 rfl (by decide)
        obtain ⟨k1, k2, k3, k4⟩ := HCell.out q W hj
        simp only [List.take_succ_cons, List.take_zero, putAll, Act.put, List.setIfInBounds_toArray, List.set_cons_succ, List.set_cons_zero, Nat.zero_add, Nat.reduceAdd]
        rw [e0]
        go_wp2
        first | exact ⟨rfl, Below.refl _ _⟩ | exact ⟨_, rfl, rfl, Below.refl _ _⟩
      · exact fun hk => absurd hk (by decide)
      · intro _ u W q hj hd
        simp only [List.take_succ_cons, List.take_zero, putAll, Act.put, List.setIfInBounds_toArray, List.set_cons_succ, List.set_cons_zero, Nat.zero_add, Nat.reduceAdd]
        go_wp2
        first | exact ⟨rfl, Below.refl _ _⟩ | exact ⟨_, rfl, rfl, Below.refl _ _⟩
      · exact fun hk => absurd hk (by decide)
      · intro _ u W q hj hd
        obtain ⟨hd0, _⟩ := hd
        have e0 : u 5 = .pointer (some ⟨pv, 0, none⟩) := hd0 rfl (by decide)
        obtain ⟨k1, k2, k3, k4⟩ := HCell.out q W hj
        simp only [List.take_succ_cons, List.take_zero, putAll, Act.put, List.setIfInBounds_toArray, List.set_cons_succ, List.set_cons_zero, Nat.zero_add, Nat.reduceAdd]
        rw [e0]
        go_wp2
        first | exact ⟨rfl, Below.refl _ _⟩ | exact ⟨_, rfl, rfl, Below.refl _ _⟩
      · exact fun hk => absurd hk (by decide)
      · intro _ u W q hj hd
        obtain ⟨hd0, hd1, hd2, _⟩ := hd
        have e0 : u 0 = .pointer (some ⟨r, 0, none⟩) := hd0 rfl (by decide)
        have e1 : u 4 = .slice (some ⟨gl, 0, none⟩) M M := hd1 rfl (by decide)
        have e2 : u 6 = .int .i64 (x.1 : Int) := hd2 rfl (by decide)
        simp only [List.take_succ_cons, List.take_zero, putAll, Act.put, List.setIfInBounds_toArray, List.set_cons_succ, List.set_cons_zero, Nat.zero_add, Nat.reduceAdd]
        rw [e0, e1, e2]
        go_wp2_with (go_at_call 28; (with_reducible refine (HOF.out q W hj).mono ?_); rintro e W1 ⟨rfl, g⟩)
        exact ⟨_, rfl, rfl, g⟩
      · exact fun hk => absurd hk (by decide)
      · intro _ u W q hj hd
        simp only [List.take_succ_cons, List.take_zero, putAll, Act.put, List.setIfInBounds_toArray, List.set_cons_succ, List.set_cons_zero, Nat.zero_add, Nat.reduceAdd]
        go_wp2
        first | exact ⟨rfl, Below.refl _ _⟩ | exact ⟨_, rfl, rfl, Below.refl _ _⟩
      · exact fun hk => absurd hk (by decide)
      · intro _ u W q hj hd
        obtain ⟨hd0, _⟩ := hd
        have e0 : u 8 = .pointer (some ⟨pv, 1, none⟩) := hd0 rfl (by decide)
        obtain ⟨k1, k2, k3, k4⟩ := HCell.out q W hj
        simp only [List.take_succ_cons, List.take_zero, putAll, Act.put, List.setIfInBounds_toArray, List.set_cons_succ, List.set_cons_zero, Nat.zero_add, Nat.reduceAdd]
        rw [e0]
        go_wp2
        first | exact ⟨rfl, Below.refl _ _⟩ | exact ⟨_, rfl, rfl, Below.refl _ _⟩
      · exact fun hk => absurd hk (by decide)
      · exact fun hk => absurd hk (by decide)
      · intro _ u W hj hd
        obtain ⟨hd0, hd1, _, _⟩ := hd
        have e0 : u 7 = .slice (some ⟨gl, x.1 * size, none⟩) size (M - x.1 * size) := hd0 rfl (by decide)
        have e1 : u 9 = .slice (some ⟨x.2, 0, none⟩) size size := hd1 rfl (by decide)
        simp only [List.take_succ_cons, List.take_zero, putAll, Act.put, List.setIfInBounds_toArray, List.set_cons_succ, List.set_cons_zero, Nat.zero_add, Nat.reduceAdd]
        rw [e0, e1]
        refine wp_lay rfl _ _ rfl gl (x.1 * size) size (M - x.1 * size) rfl _ rfl p.2 ((HROW.out W hj).1) La ((HROW.out W hj).2) (by rw [HLEN.out]; exact Nat.le_refl _) HFIT.out base HBG.out ?_
        intro W2 h1 h2
        rw [HLEN.out]
        rw [← HPE.out] at h1
        go_wp2
        first | exact hj.laid h1 h2 | exact ⟨rfl, hj.laid h1 h2⟩ | exact ⟨_, rfl, rfl, trivial, hj.laid h1 h2⟩
    · intro u W hj hT
      have HJ := Lib.hid hj
      clear hj hT
      simp only [List.take_succ_cons, List.take_zero, List.drop_succ_cons, List.drop_zero, putAll, Act.put, List.setIfInBounds_toArray, List.set_cons_succ, List.set_cons_zero, Nat.zero_add, Nat.reduceAdd]
      go_wp2
      go_roundw
      case rel => exact ⟨j + 1, by go_num, by omega, HEND.out W HJ.out⟩
      case measure => simp [intOf]; omega

end Go.Proofs.Ytnndpainnoebgaa
