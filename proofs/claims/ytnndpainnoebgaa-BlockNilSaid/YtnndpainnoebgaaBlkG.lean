/-
  The program's disk, walked: what only looks, Sync, Fuse, Read, New; a disk that isn't there.
-/
import Derived.Test.YtnndpainnoebgaaBlkE
namespace Go.Proofs.Ytnndpainnoebgaa
open Go.RowKit

theorem lay_whole {Z X : List Int} (h : Z.length = X.length) : layL Z (0, X) = X := by
  unfold layL
  rw [List.take_zero, List.nil_append, Nat.zero_add]
  show X ++ Z.drop X.length = X
  rw [List.drop_eq_nil_of_le (by omega), List.append_nil]
theorem deed_same {D : Dsk} (h : D.Ok) : D.deed.2.seen = D.seen := by
  obtain ⟨_, h2, h3, _⟩ := h.deed
  unfold Dsk.seen
  rw [h2, h3]

set_option maxRecDepth 100000 in
set_option maxHeartbeats 4000000 in
theorem bdark_any (base : Nat) (O : Foot) (r : Nat) (D : Dsk) (w : World) (h : DskIs w base O r D) : Calls Try.prog 17 #[.pointer (some ⟨r, 0, none⟩)] w fun e w' => e = .returned (.bool D.dark) ∧ Below w.heap.size w w' := by
  obtain ⟨_, _, _, gl, gs, v, B, L, hp, _⟩ := h
  have c8 := hp.dk.c8
  clear hp
  go_enter Try.func17, Try.ntmps17
  go_wp2
  go_ret
  exact ⟨rfl, Below.refl _ _⟩
set_option maxRecDepth 100000 in
set_option maxHeartbeats 4000000 in
theorem bdark_nil (w : World) : Calls Try.prog 17 #[.pointer none] w fun e w' => e = .returned (.bool false) ∧ Below w.heap.size w w' := by
  go_enter Try.func17, Try.ntmps17
  go_wp2
  go_ret
  exact ⟨rfl, Below.refl _ _⟩
set_option maxRecDepth 100000 in
set_option maxHeartbeats 4000000 in
theorem bblocks_any (base : Nat) (O : Foot) (r : Nat) (D : Dsk) (w : World) (h : DskIs w base O r D) : Calls Try.prog 20 #[.pointer (some ⟨r, 0, none⟩)] w fun e w' => e = .returned (.int .i64 (D.n : Int)) ∧ Below w.heap.size w w' := by
  obtain ⟨_, _, _, gl, gs, v, B, L, hp, _⟩ := h
  have c0 := hp.dk.c0
  clear hp
  go_enter Try.func20, Try.ntmps20
  go_wp2
  go_ret
  exact ⟨rfl, Below.refl _ _⟩
set_option maxRecDepth 100000 in
set_option maxHeartbeats 4000000 in
theorem bblocks_nil (w : World) : Calls Try.prog 20 #[.pointer none] w fun e w' => e = .returned (.int .i64 0) ∧ Below w.heap.size w w' := by
  go_enter Try.func20, Try.ntmps20
  go_wp2
  go_ret
  exact ⟨rfl, Below.refl _ _⟩
set_option maxRecDepth 100000 in
set_option maxHeartbeats 4000000 in
theorem bsize_any (base : Nat) (O : Foot) (r : Nat) (D : Dsk) (w : World) (h : DskIs w base O r D) : Calls Try.prog 21 #[.pointer (some ⟨r, 0, none⟩)] w fun e w' => e = .returned (.int .i64 (D.size : Int)) ∧ Below w.heap.size w w' := by
  obtain ⟨_, _, _, gl, gs, v, B, L, hp, _⟩ := h
  have c1 := hp.dk.c1
  clear hp
  go_enter Try.func21, Try.ntmps21
  go_wp2
  go_ret
  exact ⟨rfl, Below.refl _ _⟩
set_option maxRecDepth 100000 in
set_option maxHeartbeats 4000000 in
theorem bsize_nil (w : World) : Calls Try.prog 21 #[.pointer none] w fun e w' => e = .returned (.int .i64 0) ∧ Below w.heap.size w w' := by
  go_enter Try.func21, Try.ntmps21
  go_wp2
  go_ret
  exact ⟨rfl, Below.refl _ _⟩
set_option maxRecDepth 100000 in
set_option maxHeartbeats 4000000 in
theorem bdeeds_any (base : Nat) (O : Foot) (r : Nat) (D : Dsk) (w : World) (h : DskIs w base O r D) (_hd : D.deeds ≤ 1000000) : Calls Try.prog 18 #[.pointer (some ⟨r, 0, none⟩)] w fun e w' => e = .returned (.int .i64 (D.deeds : Int)) ∧ Below w.heap.size w w' := by
  obtain ⟨_, _, _, gl, gs, v, B, L, hp, _⟩ := h
  have c5 := hp.dk.c5
  clear hp
  go_enter Try.func18, Try.ntmps18
  go_wp2
  go_ret
  exact ⟨rfl, Below.refl _ _⟩
set_option maxRecDepth 100000 in
set_option maxHeartbeats 4000000 in
theorem bdeeds_nil (w : World) : Calls Try.prog 18 #[.pointer none] w fun e w' => e = .returned (.int .i64 0) ∧ Below w.heap.size w w' := by
  go_enter Try.func18, Try.ntmps18
  go_wp2
  go_ret
  exact ⟨rfl, Below.refl _ _⟩
set_option maxRecDepth 100000 in
set_option maxHeartbeats 4000000 in
theorem bwaits_any (base : Nat) (O : Foot) (r : Nat) (D : Dsk) (w : World) (h : DskIs w base O r D) (_hd : D.deeds ≤ 1000000) : Calls Try.prog 19 #[.pointer (some ⟨r, 0, none⟩)] w fun e w' => e = .returned (.int .i64 (D.waits.length : Int)) ∧ Below w.heap.size w w' := by
  obtain ⟨_, _, _, gl, gs, v, B, L, hp, _⟩ := h
  obtain ⟨a, cap, rfl⟩ := hp.ww.size
  have c4 := hp.dk.c4
  clear hp
  obtain ⟨N, hN⟩ : ∃ N, D.waits.length = N := ⟨_, rfl⟩
  rw [hN] at c4 ⊢
  clear hN
  go_enter Try.func19, Try.ntmps19
  go_wp2
  go_ret
  exact ⟨rfl, Below.refl _ _⟩
set_option maxRecDepth 100000 in
set_option maxHeartbeats 4000000 in
theorem bwaits_nil (w : World) : Calls Try.prog 19 #[.pointer none] w fun e w' => e = .returned (.int .i64 0) ∧ Below w.heap.size w w' := by
  go_enter Try.func19, Try.ntmps19
  go_wp2
  go_ret
  exact ⟨rfl, Below.refl _ _⟩
set_option maxRecDepth 100000 in
set_option maxHeartbeats 4000000 in
theorem bwrite_nil (i : Int) (w : World) (_i0 : -9223372036854775808 ≤ i) (_i1 : i ≤ 9223372036854775807) : Calls Try.prog 10 #[.pointer none, .int .i64 i, .slice none 0 0] w fun e w' => e = .returned (.int .i64 1) ∧ Below w.heap.size w w' := by
  go_enter Try.func10, Try.ntmps10
  go_wp2
  go_ret
  exact ⟨rfl, Below.refl _ _⟩
set_option maxRecDepth 100000 in
set_option maxHeartbeats 4000000 in
theorem bsync_nil (w : World) : Calls Try.prog 12 #[.pointer none] w fun e w' => e = .returned (.int .i64 1) ∧ Below w.heap.size w w' := by
  go_enter Try.func12, Try.ntmps12
  go_wp2
  go_ret
  exact ⟨rfl, Below.refl _ _⟩
set_option maxRecDepth 100000 in
set_option maxHeartbeats 4000000 in
theorem bfuse_nil (n : Int) (w : World) (_n0 : -9223372036854775808 ≤ n) (_n1 : n ≤ 9223372036854775807) : Calls Try.prog 14 #[.pointer none, .int .i64 n] w fun e w' => e = .returned (.tuple #[]) ∧ Below w.heap.size w w' := by
  go_enter Try.func14, Try.ntmps14
  go_wp2
  first | go_end0 | ((try simp only [Exit.inBlock, Exit.then]); refine bodyPost_ret (results_none rfl _ _ _) rfl ?_)
  exact ⟨rfl, Below.refl _ _⟩
set_option maxRecDepth 100000 in
set_option maxHeartbeats 4000000 in
theorem bcrash_nil (k t : Int) (w : World) (_k0 : -9223372036854775808 ≤ k) (_k1 : k ≤ 9223372036854775807) (_t0 : -9223372036854775808 ≤ t) (_t1 : t ≤ 9223372036854775807) : Calls Try.prog 15 #[.pointer none, .int .i64 k, .int .i64 t] w fun e w' => e = .returned (.tuple #[]) ∧ Below w.heap.size w w' := by
  go_enter Try.func15, Try.ntmps15
  go_wp2
  first | go_end0 | ((try simp only [Exit.inBlock, Exit.then]); refine bodyPost_ret (results_none rfl _ _ _) rfl ?_)
  exact ⟨rfl, Below.refl _ _⟩
set_option maxRecDepth 100000 in
set_option maxHeartbeats 4000000 in
theorem bread_nil (i : Int) (w : World) (_i0 : -9223372036854775808 ≤ i) (_i1 : i ≤ 9223372036854775807) : Calls Try.prog 22 #[.pointer none, .int .i64 i] w fun e w' => ∃ a c, e = .returned (.tuple #[.slice a 0 c, .int .i64 1]) ∧ Below w.heap.size w w' := by
  go_enter Try.func22, Try.ntmps22
  go_wp2
  go_ret2
  exact ⟨none, 0, rfl, Below.refl _ _⟩

set_option maxRecDepth 100000 in
set_option maxHeartbeats 4000000 in
theorem bsync_any (base : Nat) (O : Foot) (r : Nat) (D : Dsk) (w : World) (h : DskIs w base O r D) (hd : D.deeds ≤ 1000000) :
    Calls Try.prog 12 #[.pointer (some ⟨r, 0, none⟩)] w fun e w' => e = .returned (.int .i64 D.sync.1) ∧ DskTo base O r D.sync.2 w w' := by
  have HR := Lib.hid h
  have HSO := Lib.hid h.ok.sync
  have HOK := Lib.hid h.ok
  have hbr := (h.own r h.mem).1
  have hmem := h.mem
  have c8 : w.cell? ⟨r, 8, none⟩ = some (.bool D.dark) := by
    obtain ⟨_, _, _, gl, gs, v, B, L, hp, _⟩ := h
    exact hp.dk.c8
  clear h
  cases hdk : D.dark with
  | true =>
    rw [hdk] at c8
    have hfin : Hid (D.sync = (12, D)) := by unfold Hid Dsk.sync; rw [if_pos hdk]
    go_enter Try.func12, Try.ntmps12
    go_wp2
    go_ret
    rw [hfin.out]
    exact ⟨rfl, O, HR.out, OnlyO.refl _ _ _, Grown.refl _ _⟩
  | false =>
    rw [hdk] at c8
    have HBU := Lib.hid (bburn_any base O r D w HR.out hd)
    obtain ⟨_, hw2, hl2, hn2, hs2, hd6, hd7⟩ := HOK.out.deed
    cases hq : D.deed.1 with
    | false =>
      rw [hq] at HBU
      have hfin : Hid (D.sync = (12, D.deed.2)) := by unfold Hid Dsk.sync; rw [if_neg (by rw [hdk]; simp), if_neg (by rw [hq]; simp)]
      clear hw2 hl2 hn2 hs2 hd6 hd7
      go_enter Try.func12, Try.ntmps12
      go_wp2_with (go_at_call 27; (with_reducible refine (HBU.out).mono ?_); rintro e w1 ⟨rfl, h1, g1⟩; have H1 := Lib.hid h1; have G1 := Lib.hid g1; clear h1 g1)
      go_ret
      rw [hfin.out]
      exact ⟨rfl, O, H1.out, G1.out, Grown.refl _ _⟩
    | true =>
      rw [hq] at HBU
      have hfin : Hid (D.sync = (0, { D.deed.2 with last := D.seen, waits := [] })) := by unfold Hid Dsk.sync; rw [if_neg (by rw [hdk]; simp), if_pos hq]
      have hdd : D.deed.2.deeds ≤ 2000000 := by have := (hd6 hq).1; omega
      have HSE : Hid (D.deed.2.seen = D.seen) := deed_same HOK.out
      obtain ⟨E, hE⟩ : ∃ E, D.deed.2 = E := ⟨_, rfl⟩
      rw [hE] at HBU hfin hdd HSE
      rw [hfin.out] at HSO
      have HDD := Lib.hid hdd
      clear hw2 hl2 hn2 hs2 hd6 hd7 hE hdd
      go_enter Try.func12, Try.ntmps12
      go_wp2_with (first
        | (go_at_call 27; (with_reducible refine (HBU.out).mono ?_); rintro e w1 ⟨rfl, h1, g1⟩; have G1 := Lib.hid g1; have HW := Lib.hid h1.own; have hwd := h1.ok.wd; obtain ⟨_, _, _, gl, gs, v, B, L, hp, hf, l0, l1⟩ := h1; obtain ⟨a, cap, rfl⟩ := hp.ww.size; have HP := Lib.hid hp; have HF := Lib.hid (And.intro hf (And.intro l0 l1)); have c4 := hp.dk.c4; have hNN : E.waits.length ≤ 2000000 := (Nat.le_trans hwd HDD.out); have HSET := Lib.hid (bsettle_any base O r gl gs _ E.n E.size E.last E.seen E.waits _ B L E.dark E.waits.length w1 hp (Nat.le_refl _) hNN); obtain ⟨N, hN⟩ : ∃ N, E.waits.length = N := ⟨_, rfl⟩; have HN := Lib.hid hN; rw [hN] at c4 HSET HP; clear hp hf l0 l1 hwd hNN hN g1)
        | (go_at_call 30; (with_reducible refine (HSET.out).mono ?_); rintro e w2 ⟨rfl, hp2, g2⟩; have HP2 := Lib.hid hp2; have G2 := Lib.hid g2; have d4 := hp2.dk.c4; have q4 := hp2.dk.q 4; clear hp2 g2 c4))
      go_ret
      rw [hfin.out]
      have hz := HP2.out.clear (HP2.out.dk.set.1 (.slice none 0 0)) (fun i hne => set_else _ r 4 _ i hne) (by simp)
      have e1 : seenAt E.last E.waits N = D.seen := by rw [← HN.out, seenAt_all, ← HSE.out]; rfl
      rw [e1, HSE.out] at hz
      have g12 := G1.out.trans G2.out (Grown.refl _ _)
      refine ⟨rfl, O, ⟨fun i hi => ⟨(HW.out i hi).1, ?_⟩, hmem, HSO.out, gl, gs, _, B, L, hz, HF.out⟩, g12.set hmem hbr 4 _, Grown.refl _ _⟩
      have := (hz.own i hi).2
      simpa using this

set_option maxRecDepth 100000 in
set_option maxHeartbeats 4000000 in
theorem bfuse_any (base : Nat) (O : Foot) (r : Nat) (D : Dsk) (n : Int) (w : World) (h : DskIs w base O r D) (n0 : -9223372036854775808 ≤ n) (n1 : n ≤ 9223372036854775807) :
    Calls Try.prog 14 #[.pointer (some ⟨r, 0, none⟩), .int .i64 n] w fun e w' => e = .returned (.tuple #[]) ∧ DskTo base O r (D.light n) w w' := by
  have HOK := Lib.hid (h.ok.light n1)
  have HOWN := Lib.hid h.own
  have hbr := (h.own r h.mem).1
  have hmem := h.mem
  obtain ⟨_, _, _, gl, gs, v, B, L, hp, hf, l0, l1⟩ := h
  have HP := Lib.hid hp
  have HDK := Lib.hid hp.dk
  have c6 := hp.dk.c6
  have c7 := hp.dk.c7
  have q6 := hp.dk.q 6
  have q7 := hp.dk.q 7
  clear hp hf l0 l1
  by_cases hn : 0 ≤ n
  · have hn2 : ¬ n < 0 := by omega
    go_enter Try.func14, Try.ntmps14
    go_wp2
    go_end0
    refine ⟨rfl, O, ⟨fun i hi => by simpa using HOWN.out i hi, hmem, HOK.out, gl, gs, v, true, n, ?_, ?_, n0, n1⟩, ((OnlyO.refl _ _ _).set hmem hbr _ _).set hmem hbr _ _, Grown.refl _ _⟩
    · exact HP.out.cells ((HDK.out.set.2.2.1 true).set.2.2.2.1 n) (fun i hne => (set_else _ r 7 _ i hne).trans (set_else _ r 6 _ i hne)) (by simp)
    · exact Or.inl ⟨rfl, by unfold Dsk.light; exact if_neg (by omega), hn⟩
  · have hn2 : n < 0 := by omega
    go_enter Try.func14, Try.ntmps14
    go_wp2
    go_end0
    refine ⟨rfl, O, ⟨fun i hi => by simpa using HOWN.out i hi, hmem, HOK.out, gl, gs, v, false, n, ?_, ?_, n0, n1⟩, ((OnlyO.refl _ _ _).set hmem hbr _ _).set hmem hbr _ _, Grown.refl _ _⟩
    · exact HP.out.cells ((HDK.out.set.2.2.1 false).set.2.2.2.1 n) (fun i hne => (set_else _ r 7 _ i hne).trans (set_else _ r 6 _ i hne)) (by simp)
    · exact Or.inr ⟨rfl, by unfold Dsk.light; exact if_pos hn2⟩

set_option maxRecDepth 100000 in
set_option maxHeartbeats 4000000 in
theorem bread_any (base : Nat) (O : Foot) (r : Nat) (D : Dsk) (i : Int) (w : World) (h : DskIs w base O r D) (_hd : D.deeds ≤ 1000000) (_i0 : -9223372036854775808 ≤ i) (_i1 : i ≤ 9223372036854775807) :
    Calls Try.prog 22 #[.pointer (some ⟨r, 0, none⟩), .int .i64 i] w fun e w' => ∃ v, e = .returned (.tuple #[v, .int .i64 (D.read i).2]) ∧ ArgB w' v (D.read i).1 ∧ Below w.heap.size w w' := by
  obtain ⟨_, _, _, gl, gs, v, B, L, hp, _⟩ := h
  have HP := Lib.hid hp
  have c0 := hp.dk.c0
  have c1 := hp.dk.c1
  have c3 := hp.dk.c3
  have c8 := hp.dk.c8
  clear hp
  cases hdk : D.dark with
  | true =>
    rw [hdk] at c8
    have hfin : Hid (D.read i = ([], 12)) := by unfold Hid Dsk.read; rw [if_pos hdk]
    clear hdk
    go_enter Try.func22, Try.ntmps22
    go_wp2
    go_ret2
    rw [hfin.out]
    exact ⟨_, rfl, ArgB.nil _, Below.refl _ _⟩
  | false =>
    rw [hdk] at c8
    have HHAS := Lib.hid (bhas_any r D.n i w c0)
    by_cases hc : 0 ≤ i ∧ i < (D.n : Int)
    case neg =>
      have hfin : Hid (D.read i = ([], 2)) := by unfold Hid Dsk.read; rw [if_neg (by rw [hdk]; simp), if_pos (by omega)]
      rw [show decide (0 ≤ i ∧ i < (D.n : Int)) = false from by simpa using hc] at HHAS
      clear hc hdk
      go_enter Try.func22, Try.ntmps22
      go_wp2_with (go_at_call 26; (with_reducible refine (HHAS.out).mono ?_); rintro e w1 ⟨rfl, rfl⟩)
      go_ret2
      rw [hfin.out]
      exact ⟨_, rfl, ArgB.nil _, Below.refl _ _⟩
    case pos =>
      obtain ⟨I, rfl⟩ : ∃ I : Nat, i = (I : Int) := ⟨i.toNat, by omega⟩
      have hI : I < D.n := by omega
      have hfin : Hid (D.read (I : Int) = ((D.seen.drop (I * D.size)).take D.size, 0)) := by unfold Hid Dsk.read; rw [if_neg (by rw [hdk]; simp), if_neg (by omega), Int.toNat_natCast]
      rw [show decide (0 ≤ (I : Int) ∧ (I : Int) < (D.n : Int)) = true from by simp [hc]] at HHAS
      obtain ⟨M, hM⟩ : ∃ M, D.n * D.size = M := ⟨_, rfl⟩
      rw [hM] at c3
      have hs1 := HP.out.s1
      have hfit := fit (size := D.size) hI
      obtain ⟨w2, hmk, hrow, hb2⟩ := made_row w D.size (by omega)
      have HB2 := Lib.hid hb2
      have HROW := Lib.hid hrow
      have hp2 := HP.out.after hb2
      have d3 := hp2.dk.c3
      rw [hM] at d3
      have HOF := Lib.hid (bof_any r gs D.n D.size M I w2 hp2.dk.c1 hM hI hp2.n1 hp2.s1 hp2.s0)
      have HP2 := Lib.hid hp2
      obtain ⟨S, hS⟩ : ∃ S, D.size = S := ⟨_, rfl⟩
      obtain ⟨wb, hwb⟩ : ∃ x, w.heap.size = x := ⟨_, rfl⟩
      rw [hwb] at hmk HROW
      have HWB := Lib.hid hwb
      have HS := Lib.hid hS
      have HLAY : Hid (∀ W, Below w2.heap.size w2 W → ∃ W', (Builtin.copy_ #[30, 30] 3 #[.slice (some ⟨wb, 0, none⟩) S S, .slice (some ⟨gs, I * S, none⟩) S (M - I * S)]).run Try.prog W = .ok (.int .i64 (S : Int)) W' ∧ ArgB W' (.slice (some ⟨wb, 0, none⟩) S S) ((D.seen.drop (I * S)).take S) ∧ Below wb w W') := fun W hW => by
        rw [hS] at hfit
        have hlen : D.seen.length = D.n * S := by rw [HP2.out.ls, hS]
        have hl : ((D.seen.drop (I * S)).take S).length = S := by rw [List.length_take, List.length_drop]; omega
        have hg := (HP2.out.rs.kept (hW.block gs HP2.out.rs.lt)).arg (I * S) S (M - I * S) (by omega) (by rw [← hM, hS]; omega)
        have hr := HROW.out.kept (hW.block wb HROW.out.lt)
        obtain ⟨W', k1, k2, k3⟩ := run_lay W wb 0 S S _ _ hg _ hr (by rw [hl]; exact Nat.le_refl _) (by rw [hl, List.length_replicate, hS]; omega) wb (Nat.le_refl _) 3
        rw [hl] at k1
        refine ⟨W', k1, ?_, ?_⟩
        · have h3 := k2.whole S S (by rw [layL_len (by simp only [hl, List.length_replicate]; omega), List.length_replicate, hS]) (Nat.le_refl _)
          have e : layL (List.replicate D.size (0 : Int)) (0, (D.seen.drop (I * S)).take S) = (D.seen.drop (I * S)).take S := by
            exact lay_whole (by rw [List.length_replicate, hl, hS])
          rw [e] at h3
          exact h3
        · have := k3.bel
          rw [← HWB.out] at this ⊢
          exact (HB2.out.trans (hW.mono HB2.out.size)).trans this
      rw [hS] at hmk c1 hfin HOF
      clear hfit hp2 hrow hb2 hwb hM hI hs1 hS hdk hc
      go_enter Try.func22, Try.ntmps22
      go_wp2_with (first
        | (go_at_call 26; (with_reducible refine (HHAS.out).mono ?_); rintro e w1 ⟨rfl, rfl⟩)
        | (go_at_call 28; (with_reducible refine (HOF.out).mono ?_); rintro e w3 ⟨rfl, g3⟩; obtain ⟨w4, k1, k2, k3⟩ := HLAY.out w3 g3; have K2 := Lib.hid k2; have K3 := Lib.hid k3; clear k2 k3 g3))
      go_ret2
      rw [hfin.out]
      have := K3.out
      rw [← HWB.out] at this
      exact ⟨_, rfl, K2.out, this⟩

/-- What New hands back. -/
def GivesN (n size : Int) (w : World) (e : Ending) (w' : World) : Prop :=
  Below w.heap.size w w' ∧ ((¬ (1 ≤ n ∧ n ≤ 400 ∧ 32 ≤ size ∧ size ≤ 512) ∧ e = .returned (.tuple #[.pointer none, .int .i64 2])) ∨
    (1 ≤ n ∧ n ≤ 400 ∧ 32 ≤ size ∧ size ≤ 512 ∧ ∃ r O, e = .returned (.tuple #[.pointer (some ⟨r, 0, none⟩), .int .i64 0]) ∧ DskIs w' w.heap.size O r (Dsk.new n.toNat size.toNat)))
/-- The blocks of a new one. -/
theorem new_is (n size : Nat) (n0 : 1 ≤ n) (n1 : n ≤ 400) (s0 : 32 ≤ size) (s1 : size ≤ 512) (w w2 : World) (gl gs r : Nat) (hl : RowB w2 gl (List.replicate (n * size) 0)) (hs : RowB w2 gs (List.replicate (n * size) 0)) (hb : Below w.heap.size w w2) (hgl : w.heap.size ≤ gl) (hgs : w.heap.size ≤ gs) (hne : gl ≠ gs) (hr : r = w2.heap.size) :
    DskIs (w2.alloc (.cells #[.int .i64 (n : Int), .int .i64 (size : Int), .slice (some ⟨gl, 0, none⟩) (n * size) (n * size), .slice (some ⟨gs, 0, none⟩) (n * size) (n * size), .slice none 0 0, .int .i64 0, .bool false, .int .i64 0, .bool false] 53)) w.heap.size (fun i => i = r ∨ i = gl ∨ i = gs) r (Dsk.new n size) := by
  subst hr
  have hb3 := below_more (Below.refl w2.heap.size w2) (.cells #[.int .i64 (n : Int), .int .i64 (size : Int), .slice (some ⟨gl, 0, none⟩) (n * size) (n * size), .slice (some ⟨gs, 0, none⟩) (n * size) (n * size), .slice none 0 0, .int .i64 0, .bool false, .int .i64 0, .bool false] 53)
  have hlt := hl.lt
  have hst := hs.lt
  have hw := hb.size
  have hown : ∀ i, (i = w2.heap.size ∨ i = gl ∨ i = gs) → w.heap.size ≤ i ∧ i < (w2.alloc (.cells #[.int .i64 (n : Int), .int .i64 (size : Int), .slice (some ⟨gl, 0, none⟩) (n * size) (n * size), .slice (some ⟨gs, 0, none⟩) (n * size) (n * size), .slice none 0 0, .int .i64 0, .bool false, .int .i64 0, .bool false] 53)).heap.size := fun i hi => by
    simp
    omega
  refine ⟨hown, Or.inl rfl, Dsk.new_ok n0 n1 s0 s1, gl, gs, .slice none 0 0, false, 0, ⟨hown, ?_, hl.kept (hb3.block gl hlt), hs.kept (hb3.block gs hst), Or.inl rfl, Or.inr (Or.inl rfl), Or.inr (Or.inr rfl), ⟨by omega, by omega, hne⟩, ?_, ?_, n1, s0, s1, ⟨[], rfl, World.ownsRow_nil _ _ _ _, fun g hg => (by cases hg), fun k hk => by cases hk⟩⟩, Or.inr ⟨rfl, rfl⟩, by decide, by decide⟩
  · exact ⟨by simp; rfl, by simp; rfl, by simp; rfl, by simp; rfl, by simp, by simp; rfl, by simp, by simp, by simp; rfl, fun i => by simp [go_sem], by simp⟩
  · show (List.replicate (n * size) (0 : Int)).length = n * size
    rw [List.length_replicate]
  · show (List.replicate (n * size) (0 : Int)).length = n * size
    rw [List.length_replicate]

end Go.Proofs.Ytnndpainnoebgaa
