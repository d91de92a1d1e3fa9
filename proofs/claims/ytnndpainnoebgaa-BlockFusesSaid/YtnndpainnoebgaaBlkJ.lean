/-
  The program's disk, walked: Write.
-/
import Derived.Test.YtnndpainnoebgaaBlkI
namespace Go.Proofs.Ytnndpainnoebgaa
open Go.RowKit

theorem info_wait : (Try.prog.info? 57).map (fun i => (i.zero, i.size, i.bytes)) = some (some (.agg #[.int .i64 0, .slice none 0 0]), 2, 32) := by kernel_rfl
/-- One more waits. -/
theorem Parts.more {w1 W' : World} {base : Nat} {O : Foot} {r gl gs : Nat} {va : Option Addr} {N vcap n size : Nat} {la se se' : List Int} {ws : List (Nat × List Int)} {deeds : Int} {B : Bool} {L : Int} {dark : Bool} (h : Parts w1 base O r gl gs (.slice va N vcap) n size la se ws deeds B L dark)
    (xs : List (Nat × Nat)) (hx : xs.length = ws.length) (h3 : ∀ g, (Value.slice va N vcap).ownBlock = some g → O g ∧ (g ≠ r ∧ g ≠ gl ∧ g ≠ gs)) (h4 : ∀ k, k < N → OneW w1 O (fun i => (i ≠ r ∧ i ≠ gl ∧ i ≠ gs) ∧ (Value.slice va N vcap).ownBlock ≠ some i) n size (xs.getD k (0, 0)) (ws.getD k (0, [])))
    (hN : ws.length = N) (I wb g2 cap2 : Nat) (b : List Int) (hI : I < n) (hb : b.length = size) (hrow : W'.ownsRow base 57 2 (.slice (some ⟨g2, 0, none⟩) (N + 1) cap2) (N + 1) (bcells size xs ++ [.int .i64 (I : Int), .slice (some ⟨wb, 0, none⟩) size size]))
    (hwb : RowB W' wb b) (hwn : w1.heap.size ≤ wb) (hg2 : (Value.slice va N vcap).ownBlock = some g2 ∨ wb < g2) (hg3 : g2 < W'.heap.size) (hk : ∀ i, i < w1.heap.size → some i ≠ (Value.slice va N vcap).ownBlock → i ≠ r → i ≠ gs → W'.heap[i]? = w1.heap[i]?)
    (hd : DkAt W' r n size gl gs (.slice (some ⟨g2, 0, none⟩) (N + 1) cap2) deeds B L dark) (hse : RowB W' gs se') (ls : se'.length = n * size) :
    Parts W' base (fun i => O i ∨ i = wb ∨ i = g2) r gl gs (.slice (some ⟨g2, 0, none⟩) (N + 1) cap2) n size la se' (ws ++ [(I * size, b)]) deeds B L dark := by
  have hr := h.own r h.mr
  have hgl := h.own gl h.ml
  have hgs := h.own gs h.ms
  have hwl := hwb.lt
  have hne := h.ne
  have hP2 : g2 ≠ r ∧ g2 ≠ gl ∧ g2 ≠ gs := by
    rcases hg2 with e | e
    · exact (h3 g2 e).2
    · exact ⟨by omega, by omega, by omega⟩
  have hw2 : wb ≠ g2 := by
    rcases hg2 with e | e
    · have := (h.own g2 (h3 g2 e).1).2; omega
    · omega
  refine ⟨fun i hi => ?_, hd, h.rl.kept (hk gl hgl.2 (fun e => (h3 gl e.symm).2.2.1 rfl) hne.1 hne.2.2), hse, Or.inl h.mr, Or.inl h.ml, Or.inl h.ms, hne, h.ll, ls, h.n1, h.s0, h.s1, xs ++ [(I, wb)], ?_, ?_, ?_, ?_⟩
  · rcases hi with hi | rfl | rfl
    · have := h.own i hi; omega
    · omega
    · exact ⟨(hrow.lt i rfl).1, hg3⟩
  · rw [List.length_append, List.length_append, hx]; rfl
  · rw [List.length_append, bcells_more, hN]; exact hrow
  · intro g hg
    cases hg
    exact ⟨Or.inr (Or.inr rfl), hP2⟩
  · intro k hkl
    rw [List.length_append, List.length_singleton] at hkl
    by_cases hkN : k < ws.length
    · have e1 : (xs ++ [(I, wb)]).getD k (0, 0) = xs.getD k (0, 0) := by rw [List.getD_eq_getElem?_getD, List.getElem?_append_left (by omega), List.getD_eq_getElem?_getD]
      have e2 : (ws ++ [(I * size, b)]).getD k (0, []) = ws.getD k (0, []) := by rw [List.getD_eq_getElem?_getD, List.getElem?_append_left hkN, List.getD_eq_getElem?_getD]
      rw [e1, e2]
      obtain ⟨a1, a2, a3, a4, a5, a6⟩ := h4 k (by omega)
      have hxl := a3.lt
      refine ⟨a1, a2, a3.kept (hk _ hxl (fun e => a6.2 e.symm) a6.1.1 a6.1.2.2), a4, Or.inl a5, a6.1, fun e => ?_⟩
      have e0 : g2 = (xs.getD k (0, 0)).2 := Option.some.inj e
      rcases hg2 with e' | e'
      · exact a6.2 (e'.trans e)
      · omega
    · obtain rfl : k = ws.length := by omega
      have e1 : (xs ++ [(I, wb)]).getD ws.length (0, 0) = (I, wb) := by rw [List.getD_eq_getElem?_getD, ← hx, List.getElem?_append_right (Nat.le_refl _), Nat.sub_self]; rfl
      have e2 : (ws ++ [(I * size, b)]).getD ws.length (0, []) = (I * size, b) := by rw [List.getD_eq_getElem?_getD, List.getElem?_append_right (Nat.le_refl _), Nat.sub_self]; rfl
      rw [e1, e2]
      exact ⟨rfl, hI, hwb, hb, Or.inr (Or.inl rfl), ⟨by show wb ≠ r; omega, by show wb ≠ gl; omega, by show wb ≠ gs; omega⟩, fun e => hw2 (Option.some.inj e).symm⟩

/-- What stands ahead of the append. -/
structure PutA (base r gl gs wb wn N vcap n S I : Nat) (va : Option Addr) (xs : List (Nat × Nat)) (se whole : List Int) (w1 w3 w4 : World) : Prop where
  d4 : w3.cell? ⟨r, 4, none⟩ = some (.slice va N vcap)
  e4 : w3.alloc (.cells #[.int .i64 (I : Int), .slice (some ⟨wb, 0, none⟩) S S] 57) = w4
  en : w3.heap.size = wn
  row : w4.ownsRow base 57 2 (.slice va N vcap) N (bcells S xs)
  news : ∀ j u, ([.int .i64 (I : Int), .slice (some ⟨wb, 0, none⟩) S S] : List Value)[j]? = some u → w4.cell? ((⟨wn, 0, none⟩ : Addr).add j) = some u
  b14 : Below w1.heap.size w1 w4
  rb : RowB w4 wb whole
  lt : w1.heap.size = wb ∧ wb < wn ∧ wn < w4.heap.size
theorem put_ones (I wb S : Nat) : ∀ u ∈ ([.int .i64 (I : Int), .slice (some ⟨wb, 0, none⟩) S S] : List Value), u.oneCell' = true := fun u hu => by
  rcases List.mem_cons.mp hu with rfl | hu
  · rfl
  · rw [List.mem_singleton.mp hu]; rfl
theorem put_a {w1 : World} {base : Nat} {O : Foot} {r gl gs : Nat} {va : Option Addr} {N vcap n S : Nat} {la se : List Int} {ws : List (Nat × List Int)} {deeds : Int} {B : Bool} {L : Int} {dark : Bool} (h : Parts w1 base O r gl gs (.slice va N vcap) n S la se ws deeds B L dark)
    (xs : List (Nat × Nat)) (hrow : w1.ownsRow base 57 2 (.slice va N vcap) N (bcells S xs)) (xa : Option Addr) (xc : Nat) (b : List Int) (hA : ArgB w1 (.slice xa b.length xc) b) (hbl : b.length ≤ S) (I : Nat) :
    ∃ wb wn w2 w3 w4, (Instr.makeSlice 30 (.int .i64 (S : Int)) (.int .i64 (S : Int))).run Try.prog w1 = .ok (.slice (some ⟨wb, 0, none⟩) S S) w2 ∧
      (Builtin.copy_ #[30, 30] 3 #[.slice (some ⟨wb, 0, none⟩) S S, .slice xa b.length xc]).run Try.prog w2 = .ok (.int .i64 (b.length : Int)) w3 ∧ PutA base r gl gs wb wn N vcap n S I va xs se (b ++ List.replicate (S - b.length) 0) w1 w3 w4 := by
  have hs1 := h.s1
  obtain ⟨w2, hmk, hr2, hb2⟩ := made_row w1 S (by omega)
  obtain ⟨w3, hcp, hr3, ho3⟩ := run_lay w2 w1.heap.size 0 S S _ b (hA.below hb2) _ hr2 hbl (by rw [List.length_replicate]; omega) w1.heap.size (Nat.le_refl _) 3
  have hb3 : Below w1.heap.size w1 w3 := hb2.trans ho3.bel
  have hb4 : Below w1.heap.size w1 (w3.alloc (.cells #[.int .i64 (I : Int), .slice (some ⟨w1.heap.size, 0, none⟩) S S] 57)) := hb3.trans ((Below.refl _ _).alloc hb3.size _)
  have hl3 := hr3.lt
  have e : layL (List.replicate S (0 : Int)) (0, b) = b ++ List.replicate (S - b.length) 0 := by
    unfold layL
    rw [List.take_zero, List.nil_append, Nat.zero_add]
    show b ++ (List.replicate S (0 : Int)).drop b.length = _
    rw [List.drop_replicate]
  rw [e] at hr3
  refine ⟨w1.heap.size, w3.heap.size, w2, w3, _, hmk, hcp, (h.dk.kept (hb3.block r h.dk.s) hb3.size).c4, rfl, rfl, row_same hrow (fun g hg => hb4.block g (hrow.lt g hg).2), ?_, hb4, hr3.kept (((Below.refl w3.heap.size w3).alloc (Nat.le_refl _) _).block _ hl3), rfl, hl3, by simp⟩
  intro j u hj
  have e : (⟨w3.heap.size, 0, none⟩ : Addr).add j = ⟨w3.heap.size, j, none⟩ := by unfold Addr.add; split <;> simp_all
  rw [e, World.cell?_alloc_new]
  match j, hj with
  | 0, hj => exact hj
  | 1, hj => exact hj
  | j + 2, hj => simp at hj
/-- What stands behind it. -/
structure PutB (r gs wb g2 cap2 N n S : Nat) (va : Option Addr) (vcap : Nat) (w5 w6 : World) : Prop where
  d5 : w5.cell? ⟨r, 4, none⟩ = some (.slice va N vcap)
  q5 : w5.frozen? ⟨r, 4, none⟩ = false
  e6 : w5.setCell ⟨r, 4, none⟩ (.slice (some ⟨g2, 0, none⟩) (N + 1) cap2) = w6
  c1 : w6.cell? ⟨r, 1, none⟩ = some (.int .i64 (S : Int))
  c3 : w6.cell? ⟨r, 3, none⟩ = some (.slice (some ⟨gs, 0, none⟩) (n * S) (n * S))
theorem PutA.keep {base r gl gs : Nat} {va : Option Addr} {wb wn N vcap n S I : Nat} {se : List Int} {xs : List (Nat × Nat)} {whole : List Int} {w1 w3 w4 w5 : World} (h : PutA base r gl gs wb wn N vcap n S I va xs se whole w1 w3 w4) (k2 : w4.grownBy w5 (Value.slice va N vcap).ownBlock) {i : Nat} (hi : i < w1.heap.size) (hne : some i ≠ (Value.slice va N vcap).ownBlock) : w5.heap[i]? = w1.heap[i]? := by
  have := h.lt
  exact (k2.block i (by omega) hne).trans (h.b14.block i hi)
theorem put_b {base : Nat} {O : Foot} {r gl gs : Nat} {va : Option Addr} {wb wn N vcap n S I : Nat} {la se : List Int} {ws : List (Nat × List Int)} {deeds : Int} {B : Bool} {L : Int} {dark : Bool} {xs : List (Nat × Nat)} {whole : List Int} {w1 w3 w4 w5 : World} (h : PutA base r gl gs wb wn N vcap n S I va xs se whole w1 w3 w4) (hp : Parts w1 base O r gl gs (.slice va N vcap) n S la se ws deeds B L dark)
    (h3 : ∀ g, (Value.slice va N vcap).ownBlock = some g → O g ∧ (g ≠ r ∧ g ≠ gl ∧ g ≠ gs)) (k2 : w4.grownBy w5 (Value.slice va N vcap).ownBlock) (g2 cap2 : Nat) : ∃ w6, PutB r gs wb g2 cap2 N n S va vcap w5 w6 := by
  have hl := h.lt
  have hdk := hp.dk.kept (h.keep k2 hp.dk.s (fun e => (h3 r e.symm).2.1 rfl)) (by have := k2.size; omega)
  have hset := hdk.set.1 (.slice (some ⟨g2, 0, none⟩) (N + 1) cap2)
  exact ⟨_, hdk.c4, hdk.q 4, rfl, hset.c1, hset.c3⟩
/-- The rest: what is seen. -/
theorem put_c {base : Nat} {O : Foot} {r gl gs : Nat} {va : Option Addr} {wb wn N vcap n S I : Nat} {la se : List Int} {ws : List (Nat × List Int)} {deeds : Int} {B : Bool} {L : Int} {dark : Bool} {xs : List (Nat × Nat)} {whole : List Int} {w1 w3 w4 w5 w6 w7 : World} {g2 cap2 : Nat} (h : PutA base r gl gs wb wn N vcap n S I va xs se whole w1 w3 w4) (hp : Parts w1 base O r gl gs (.slice va N vcap) n S la se ws deeds B L dark)
    (hx : xs.length = ws.length) (h3 : ∀ g, (Value.slice va N vcap).ownBlock = some g → O g ∧ (g ≠ r ∧ g ≠ gl ∧ g ≠ gs)) (h4 : ∀ k, k < N → OneW w1 O (fun i => (i ≠ r ∧ i ≠ gl ∧ i ≠ gs) ∧ (Value.slice va N vcap).ownBlock ≠ some i) n S (xs.getD k (0, 0)) (ws.getD k (0, []))) (hN : ws.length = N)
    (k1 : w5.ownsRow base 57 2 (.slice (some ⟨g2, 0, none⟩) (N + 1) cap2) (N + 1) (bcells S xs ++ [.int .i64 (I : Int), .slice (some ⟨wb, 0, none⟩) S S])) (k2 : w4.grownBy w5 (Value.slice va N vcap).ownBlock) (k3 : (Value.slice va N vcap).ownBlock = some g2 ∨ g2 = w4.heap.size) (k4 : g2 < w5.heap.size)
    (hb : PutB r gs wb g2 cap2 N n S va vcap w5 w6) (g7 : Below w6.heap.size w6 w7) (hI : I < n) (hw : whole.length = S) (M : Nat) (hM : n * S = M) :
    ∃ w8, (Builtin.copy_ #[30, 30] 3 #[.slice (some ⟨gs, I * S, none⟩) S (M - I * S), .slice (some ⟨wb, 0, none⟩) S S]).run Try.prog w7 = .ok (.int .i64 (S : Int)) w8 ∧
      Parts w8 base (fun i => O i ∨ i = wb ∨ i = g2) r gl gs (.slice (some ⟨g2, 0, none⟩) (N + 1) cap2) n S la (layL se (I * S, whole)) (ws ++ [(I * S, whole)]) deeds B L dark ∧ OnlyO base O w1 w8 ∧ Grown O (fun i => O i ∨ i = wb ∨ i = g2) w1.heap.size := by
  obtain ⟨l1, l2, l3⟩ := h.lt
  have hs2 := k2.size
  have hr := hp.own r hp.mr
  have hgs := hp.own gs hp.ms
  have hne := hp.ne
  have hog : some gs ≠ (Value.slice va N vcap).ownBlock := fun e => (h3 gs e.symm).2.2.2 rfl
  have hor : some r ≠ (Value.slice va N vcap).ownBlock := fun e => (h3 r e.symm).2.1 rfl
  have how : some wb ≠ (Value.slice va N vcap).ownBlock := fun e => by have := (hp.own wb (h3 wb e.symm).1).2; omega
  have e6 : ∀ i, i ≠ r → w6.heap[i]? = w5.heap[i]? := fun i hi => by rw [← hb.e6]; exact set_else _ r 4 _ i hi
  have s6 : w6.heap.size = w5.heap.size := by rw [← hb.e6]; simp
  have hg2r : g2 ≠ r := by
    rcases k3 with e | e
    · exact (h3 g2 e).2.1
    · omega
  have hg2s : g2 ≠ gs := by
    rcases k3 with e | e
    · exact (h3 g2 e).2.2.2
    · omega
  have hg2w : g2 ≠ wb := by
    rcases k3 with e | e
    · have := (hp.own g2 (h3 g2 e).1).2; omega
    · omega
  have r7 : RowB w7 wb whole := ((h.rb.kept (k2.block wb (by omega) how)).kept (e6 wb (by omega))).kept (g7.block wb (by omega))
  have q7 : RowB w7 gs se := ((hp.rs.kept (h.keep k2 hgs.2 hog)).kept (e6 gs hne.2.1)).kept (g7.block gs (by omega))
  have hfit := fit (size := S) hI
  have hse := hp.ls
  obtain ⟨w8, hcp, hr8, ho8⟩ := run_lay w7 gs (I * S) S (M - I * S) (.slice (some ⟨wb, 0, none⟩) S S) whole (r7.whole S S hw.symm (Nat.le_refl _)) se q7 (by omega) (by omega) base hgs.1 3
  rw [hw] at hcp
  have s8 := ho8.size
  have s7 := g7.size
  have hd6 : DkAt w6 r n S gl gs (.slice (some ⟨g2, 0, none⟩) (N + 1) cap2) deeds B L dark := by
    rw [← hb.e6]
    exact (hp.dk.kept (h.keep k2 hp.dk.s hor) (by omega)).set.1 _
  have hd8 : DkAt w8 r n S gl gs (.slice (some ⟨g2, 0, none⟩) (N + 1) cap2) deeds B L dark := (hd6.kept (g7.block r (by omega)) s7).kept (ho8.keep r (by omega) (Ne.symm hne.2.1)) s8
  have hk8 : ∀ i, i < w6.heap.size → i ≠ gs → i ≠ r → w8.heap[i]? = w5.heap[i]? := fun i hi h1 h2 => ((ho8.keep i (by omega) h1).trans (g7.block i hi)).trans (e6 i h2)
  have hk : ∀ i, i < w1.heap.size → some i ≠ (Value.slice va N vcap).ownBlock → i ≠ r → i ≠ gs → w8.heap[i]? = w1.heap[i]? := fun i hi h1 h2 h3' => (hk8 i (by omega) h3' h2).trans (h.keep k2 hi h1)
  refine ⟨w8, hcp, hp.more xs hx h3 h4 hN I wb g2 cap2 whole hI hw (row_same k1 (fun g hg => by cases hg; exact hk8 g2 (by omega) hg2s hg2r)) (r7.kept (ho8.keep wb r7.lt (by omega))) (by omega) (k3.imp id (fun e => by omega)) (by omega) hk hd8 hr8 (by rw [layL_len (by simp only [hw]; omega), hse]), ?_, ?_⟩
  · have b5 : Below base w1 w5 := (h.b14.mono (by omega)).grown k2 (by omega) (fun b hb' => (hp.own b (h3 b hb').1).1)
    have b6 : Below base w1 w6 := by rw [← hb.e6]; exact b5.setCell hr.1 _
    refine ⟨(b6.trans (g7.mono (by omega))).trans ho8.bel, fun i hi hn => hk i hi (fun e => hn (h3 i e.symm).1) (fun e => hn (by rw [e]; exact hp.mr)) (fun e => hn (by rw [e]; exact hp.ms))⟩
  · intro i hi
    rcases hi with hi | rfl | rfl
    · exact Or.inl hi
    · exact Or.inr (by omega)
    · rcases k3 with e | e
      · exact Or.inl (h3 i e).1
      · exact Or.inr (by omega)

set_option maxRecDepth 100000 in
set_option maxHeartbeats 4000000 in
theorem bwrite_refused (base : Nat) (O : Foot) (r : Nat) (D : Dsk) (i : Int) (v : Value) (b : List Int) (w : World) (h : DskIs w base O r D) (hv : ArgB w v b) (hno : D.dark = true ∨ (D.dark = false ∧ (i < 0 ∨ (D.n : Int) ≤ i ∨ D.size < b.length))) :
    Calls Try.prog 10 #[.pointer (some ⟨r, 0, none⟩), .int .i64 i, v] w fun e w' => e = .returned (.int .i64 (D.write i b).1) ∧ DskTo base O r (D.write i b).2 w w' := by
  have HR := Lib.hid h
  have c8 : w.cell? ⟨r, 8, none⟩ = some (.bool D.dark) := by
    obtain ⟨_, _, _, gl, gs, v, B, L, hp, _⟩ := h
    exact hp.dk.c8
  have c0 : w.cell? ⟨r, 0, none⟩ = some (.int .i64 (D.n : Int)) := by
    obtain ⟨_, _, _, gl, gs, v, B, L, hp, _⟩ := h
    exact hp.dk.c0
  have c1 : w.cell? ⟨r, 1, none⟩ = some (.int .i64 (D.size : Int)) := by
    obtain ⟨_, _, _, gl, gs, v, B, L, hp, _⟩ := h
    exact hp.dk.c1
  obtain ⟨xa, xc, rfl⟩ := hv.size
  clear hv
  have HHAS := Lib.hid (bhas_any r D.n i w c0)
  have HEND : Hid (DskTo base O r D w w) := ⟨O, HR.out, OnlyO.refl _ _ _, Grown.refl _ _⟩
  clear h
  rcases hno with hdk | ⟨hdk, hc⟩
  · rw [hdk] at c8
    have hfin : Hid (D.write i b = (12, D)) := by unfold Hid Dsk.write; rw [if_pos hdk]
    go_enter Try.func10, Try.ntmps10
    go_wp2
    go_ret
    rw [hfin.out]
    exact ⟨rfl, HEND.out⟩
  · rw [hdk] at c8
    have hfin : Hid (D.write i b = (2, D)) := by unfold Hid Dsk.write; rw [if_neg (by rw [hdk]; simp), if_pos hc]
    by_cases hh : 0 ≤ i ∧ i < (D.n : Int)
    · rw [show decide (0 ≤ i ∧ i < (D.n : Int)) = true from by simp [hh]] at HHAS
      have hlen : (D.size : Int) < (b.length : Int) := by omega
      clear hh hc hdk
      go_enter Try.func10, Try.ntmps10
      go_wp2_with (go_at_call 26; (with_reducible refine (HHAS.out).mono ?_); rintro e w1 ⟨rfl, rfl⟩)
      go_ret
      rw [hfin.out]
      exact ⟨rfl, HEND.out⟩
    · rw [show decide (0 ≤ i ∧ i < (D.n : Int)) = false from by simpa using hh] at HHAS
      clear hh hc hdk
      go_enter Try.func10, Try.ntmps10
      go_wp2_with (go_at_call 26; (with_reducible refine (HHAS.out).mono ?_); rintro e w1 ⟨rfl, rfl⟩)
      go_ret
      rw [hfin.out]
      exact ⟨rfl, HEND.out⟩

set_option maxRecDepth 100000 in
set_option maxHeartbeats 4000000 in
theorem bwrite_dim (base : Nat) (O : Foot) (r : Nat) (D : Dsk) (i : Int) (v : Value) (b : List Int) (w : World) (h : DskIs w base O r D) (hd : D.deeds ≤ 1000000) (hv : ArgB w v b) (hdk : D.dark = false) (i0 : 0 ≤ i) (i1 : i < (D.n : Int)) (hb : b.length ≤ D.size) (hq : D.deed.1 = false) :
    Calls Try.prog 10 #[.pointer (some ⟨r, 0, none⟩), .int .i64 i, v] w fun e w' => e = .returned (.int .i64 (D.write i b).1) ∧ DskTo base O r (D.write i b).2 w w' := by
  have HR := Lib.hid h
  have c8 : w.cell? ⟨r, 8, none⟩ = some (.bool D.dark) := by
    obtain ⟨_, _, _, gl, gs, v, B, L, hp, _⟩ := h
    exact hp.dk.c8
  have c0 : w.cell? ⟨r, 0, none⟩ = some (.int .i64 (D.n : Int)) := by
    obtain ⟨_, _, _, gl, gs, v, B, L, hp, _⟩ := h
    exact hp.dk.c0
  have c1 : w.cell? ⟨r, 1, none⟩ = some (.int .i64 (D.size : Int)) := by
    obtain ⟨_, _, _, gl, gs, v, B, L, hp, _⟩ := h
    exact hp.dk.c1
  obtain ⟨I, rfl⟩ : ∃ I : Nat, i = (I : Int) := ⟨i.toNat, by omega⟩
  have HHAS := Lib.hid (bhas_any r D.n (I : Int) w c0)
  rw [show decide (0 ≤ (I : Int) ∧ (I : Int) < (D.n : Int)) = true from by simp [i1]] at HHAS
  have HBU := Lib.hid (bburn_arg base O r D w h hd)
  rw [hq] at HBU
  rw [hdk] at c8
  have hlen : ¬ (D.size : Int) < (b.length : Int) := by omega
  have hfin : Hid (D.write (I : Int) b = (12, D.deed.2)) := by unfold Hid Dsk.write; rw [if_neg (by rw [hdk]; simp), if_neg (by omega), if_neg (by rw [hq]; simp)]
  obtain ⟨xa, xc, rfl⟩ := hv.size
  clear hv h hdk i0 i1 hb hq
  go_enter Try.func10, Try.ntmps10
  go_wp2_with (first
    | (go_at_call 26; (with_reducible refine (HHAS.out).mono ?_); rintro e w1 ⟨rfl, rfl⟩)
    | (go_at_call 27; (with_reducible refine (HBU.out).mono ?_); rintro e w2 ⟨rfl, h1, g1, _⟩; have H1 := Lib.hid h1; have G1 := Lib.hid g1; clear h1 g1))
  go_ret
  rw [hfin.out]
  exact ⟨rfl, O, H1.out, G1.out, Grown.refl _ _⟩

set_option maxRecDepth 100000 in
set_option maxHeartbeats 8000000 in
theorem bwrite_done (base : Nat) (O : Foot) (r : Nat) (D : Dsk) (i : Int) (v : Value) (b : List Int) (w : World) (h : DskIs w base O r D) (hd : D.deeds ≤ 1000000) (hv : ArgB w v b) (hby : ∀ z ∈ b, 0 ≤ z ∧ z ≤ 255) (hdk : D.dark = false) (i0 : 0 ≤ i) (i1 : i < (D.n : Int)) (hb : b.length ≤ D.size) (hq : D.deed.1 = true) :
    Calls Try.prog 10 #[.pointer (some ⟨r, 0, none⟩), .int .i64 i, v] w fun e w' => e = .returned (.int .i64 (D.write i b).1) ∧ DskTo base O r (D.write i b).2 w w' := by
  have HWO := Lib.hid (h.ok.write i hby)
  have HR := Lib.hid h
  have c8 : w.cell? ⟨r, 8, none⟩ = some (.bool D.dark) := by
    obtain ⟨_, _, _, gl, gs, v, B, L, hp, _⟩ := h
    exact hp.dk.c8
  have c0 : w.cell? ⟨r, 0, none⟩ = some (.int .i64 (D.n : Int)) := by
    obtain ⟨_, _, _, gl, gs, v, B, L, hp, _⟩ := h
    exact hp.dk.c0
  have c1 : w.cell? ⟨r, 1, none⟩ = some (.int .i64 (D.size : Int)) := by
    obtain ⟨_, _, _, gl, gs, v, B, L, hp, _⟩ := h
    exact hp.dk.c1
  obtain ⟨I, rfl⟩ : ∃ I : Nat, i = (I : Int) := ⟨i.toNat, by omega⟩
  have HHAS := Lib.hid (bhas_any r D.n (I : Int) w c0)
  rw [show decide (0 ≤ (I : Int) ∧ (I : Int) < (D.n : Int)) = true from by simp [i1]] at HHAS
  have HBU := Lib.hid (bburn_arg base O r D w h hd)
  rw [hq] at HBU
  rw [hdk] at c8
  have hlen : ¬ (D.size : Int) < (b.length : Int) := by omega
  have hfin : Hid (D.write (I : Int) b = (0, { D.deed.2 with waits := D.waits ++ [(I * D.size, b ++ List.replicate (D.size - b.length) 0)] })) := by unfold Hid Dsk.write; rw [if_neg (by rw [hdk]; simp), if_neg (by omega), if_pos hq, Int.toNat_natCast]
  obtain ⟨_, hw2, hl2, hn2, hs2, hd6, hd7⟩ := h.ok.deed
  have hdd : D.deed.2.deeds ≤ 2000000 := by have := (hd6 hq).1; omega
  have hmem := h.mem
  have HSE : Hid (D.deed.2.seen = D.seen) := deed_same h.ok
  obtain ⟨E, hE⟩ : ∃ E, D.deed.2 = E := ⟨_, rfl⟩
  rw [hE] at HBU hfin hw2 hl2 hn2 hs2 hdd HSE
  rw [← hw2, ← hs2] at hfin
  rw [hfin.out] at HWO
  obtain ⟨xa, xc, rfl⟩ := hv.size
  have HV := Lib.hid hv
  have hIE : I < E.n := by omega
  have hbE : b.length ≤ E.size := by omega
  have HIE := Lib.hid (And.intro hIE (And.intro hbE hdd))
  rw [← hs2] at hlen c1
  obtain ⟨i0', hi, hz0, hz1, hz2⟩ := info_parts info_wait
  clear hv h hdk i0 i1 hb hq hw2 hl2 hn2 hs2 hd6 hd7 hdd hE hIE hbE hby
  go_enter Try.func10, Try.ntmps10
  go_wp2_with (first
    | (go_at_call 26; (with_reducible refine (HHAS.out).mono ?_); rintro e w0 ⟨rfl, rfl⟩)
    | (go_at_call 27; (with_reducible refine (HBU.out).mono ?_); rintro e w1 ⟨rfl, h1, g1, ga⟩; have G1 := Lib.hid g1; have A1 := ga _ _ HV.out; have hwd := h1.ok.wd; have HOK1 := Lib.hid h1.ok; obtain ⟨_, _, _, gl, gs, v, B, L, hp, hf, l0, l1⟩ := h1; have HF := Lib.hid (And.intro hf (And.intro l0 l1)); obtain ⟨va, vcap, rfl⟩ := hp.ww.size; obtain ⟨xs, x1, x2, x3, x4⟩ := hp.ww; obtain ⟨wb, wn, w2, w3, w4, hmk, hcp, hpa⟩ := put_a hp xs x2 xa xc b A1 HIE.out.2.1 I; have HP := Lib.hid hp; have X1 := Lib.hid x1; have X3 := Lib.hid x3; have X4 := Lib.hid x4; have HPA := Lib.hid hpa; have d1 := hp.dk.c1; have hnw : E.waits.length ≤ 2000000 := (Nat.le_trans hwd HIE.out.2.2); obtain ⟨N, hN⟩ : ∃ N, E.waits.length = N := ⟨_, rfl⟩; have HN := Lib.hid hN; rw [hN] at HPA HP X3 X4 hnw; have d4 := HPA.out.d4; have e4 := HPA.out.e4; have en := HPA.out.en; have HROW4 := Lib.hid HPA.out.row; have HNmax : Hid (N + 1 ≤ maxLen) := (by unfold Hid maxLen; omega); have HNb : Hid ((N + 1) * 32 ≤ 140737488355328) := (by unfold Hid; omega); have hbase4 : Hid (base ≤ w4.heap.size) := (by have q1 := HP.out.own r HP.out.mr; have q2 := HPA.out.b14.size; unfold Hid; omega); clear hp hf l0 l1 x1 x2 x3 x4 hpa hN hwd hnw A1 ga g1)
    | (at_builtin; go_loud (refine wpList_append_lies w4 rfl _ _ 51 rfl base 57 i0' (.agg #[.int .i64 0, .slice none 0 0]) 2 32 Try.underlying51 hi hz0 hz1 hz2 rfl (by decide) _ N (bcells E.size xs) rfl HROW4.out ⟨wn, 0, none⟩ 1 1 [.int .i64 (I : Int), .slice (some ⟨wb, 0, none⟩) E.size E.size] rfl rfl HPA.out.news (put_ones I wb E.size) (by decide) HNmax.out HNb.out hbase4.out _ rfl ?_); intro g2 cap2 w5 k1 k2 k3 k4; have K1 := Lib.hid k1; have K2 : Hid (w4.grownBy w5 (Value.slice va N vcap).ownBlock) := k2; have K3 : Hid ((Value.slice va N vcap).ownBlock = some g2 ∨ g2 = w4.heap.size) := k3; have K4 := Lib.hid k4; obtain ⟨w6, hpb⟩ := put_b HPA.out HP.out X3.out k2 g2 cap2; have HPB := Lib.hid hpb; have d5 := hpb.d5; have q5 := hpb.q5; have e6 := hpb.e6; have f3 := hpb.c3; obtain ⟨M, hM⟩ : ∃ M, E.n * E.size = M := ⟨_, rfl⟩; have HM := Lib.hid hM; rw [hM] at f3; have HOF := Lib.hid (bof_any r gs E.n E.size M I w6 hpb.c1 hM HIE.out.1 HP.out.n1 HP.out.s1 HP.out.s0); have HWL : Hid ((b ++ List.replicate (E.size - b.length) (0 : Int)).length = E.size) := (by have q1 := HIE.out.2.1; unfold Hid; rw [List.length_append, List.length_replicate]; omega); clear k1 k2 k3 k4 hpb hM d4 e4 en)
    | (go_at_call 28; (with_reducible refine (HOF.out).mono ?_); rintro e w7 ⟨rfl, g7⟩; obtain ⟨w8, hcp8, hp8, ho8, hg8⟩ := put_c HPA.out HP.out X1.out X3.out X4.out HN.out K1.out K2.out K3.out K4.out HPB.out g7 HIE.out.1 HWL.out M HM.out; have HP8 := Lib.hid hp8; have HO8 := Lib.hid ho8; have HG8 := Lib.hid hg8; clear hp8 ho8 hg8 g7))
  go_ret
  rw [hfin.out]
  have hz := HP8.out
  refine ⟨rfl, _, ⟨hz.own, Or.inl hmem, HWO.out, gl, gs, .slice (some ⟨g2, 0, none⟩) (N + 1) cap2, B, L, ?_, HF.out⟩, G1.out.trans HO8.out (Grown.refl _ _), (Grown.refl O _).trans HG8.out G1.out.size⟩
  have e1 : ({ E with waits := E.waits ++ [(I * E.size, b ++ List.replicate (E.size - b.length) 0)] } : Dsk).seen = layL E.seen (I * E.size, b ++ List.replicate (E.size - b.length) 0) := by
    show (E.waits ++ [_]).foldl layL E.last = _
    rw [List.foldl_append]; rfl
  rw [e1]
  exact hz

theorem bwrite_any (base : Nat) (O : Foot) (r : Nat) (D : Dsk) (i : Int) (v : Value) (b : List Int) (w : World) (h : DskIs w base O r D) (hd : D.deeds ≤ 1000000) (_i0 : -9223372036854775808 ≤ i) (_i1 : i ≤ 9223372036854775807)
    (hv : ArgB w v b) (hb : ∀ z ∈ b, 0 ≤ z ∧ z ≤ 255) (_hl : (b.length : Int) ≤ 9223372036854775807) :
    Calls Try.prog 10 #[.pointer (some ⟨r, 0, none⟩), .int .i64 i, v] w fun e w' => e = .returned (.int .i64 (D.write i b).1) ∧ DskTo base O r (D.write i b).2 w w' := by
  by_cases hdk : D.dark = true
  · exact bwrite_refused base O r D i v b w h hv (Or.inl hdk)
  · have hdk' : D.dark = false := by simpa using hdk
    by_cases hc : i < 0 ∨ (D.n : Int) ≤ i ∨ D.size < b.length
    · exact bwrite_refused base O r D i v b w h hv (Or.inr ⟨hdk', hc⟩)
    · by_cases hq : D.deed.1 = true
      · exact bwrite_done base O r D i v b w h hd hv hb hdk' (by omega) (by omega) (by omega) hq
      · exact bwrite_dim base O r D i v b w h hd hv hdk' (by omega) (by omega) (by omega) (by simpa using hq)

end Go.Proofs.Ytnndpainnoebgaa
