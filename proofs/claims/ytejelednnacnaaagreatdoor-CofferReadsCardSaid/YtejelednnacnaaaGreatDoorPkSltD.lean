/-
  Package slots as it landed: the pieces of some bytes, by a function, and blocks written with them: walked.
-/
import Derived.Test.YtejelednnacnaaaGreatDoorPkSltB
import Derived.Test.YtejelednnacnaaaGreatDoorPkRngF
import Derived.Test.YtejelednnacnaaaGreatDoorPkWal
import Derived.Shelf.Abstract
import Derived.Shelf.RegionOpen
import Derived.WalkKit
import Derived.OwnWalkIn
import Derived.TacticsInMore
import Derived.LoopNIn
import Derived.LoopIn
namespace Go.Proofs.YtejelednnacnaaaGreatDoor
open Go.RowKit Go.Shelf

/-- The pieces. -/
def pieceV (bb off L cap S k : Nat) : Value := .slice (some ⟨bb, off + k * S, none⟩) (min ((k + 1) * S) L - k * S) (cap - k * S)
theorem piece_run (bb off L cap S k : Nat) (hk : k * S < L) (hc : L ≤ cap) (W : World) :
    (Instr.slice 22 (.slice (some ⟨bb, off, none⟩) L cap) (some (.int .i64 ((k * S : Nat) : Int))) (some (.int .i64 ((min ((k + 1) * S) L : Nat) : Int))) none).run Tryz.prog W = .ok (pieceV bb off L cap S k) W := by
  have hs : ∀ W : World, (sizeOf (Tryz.prog.elem 22)).run Tryz.prog W = .ok 1 W := fun W => by kernel_rfl
  have hle : k * S ≤ min ((k + 1) * S) L := by rw [Nat.succ_mul]; omega
  have := run_slice_lh (P := Tryz.prog) W 22 (some ⟨bb, off, none⟩) L cap (by kernel_rfl) .i64 .i64 ((k * S : Nat) : Int) ((min ((k + 1) * S) L : Nat) : Int) (by omega) (by omega) (by omega)
  rw [this, hs]
  have e3 : ∀ j : Nat, (⟨bb, off, none⟩ : Addr).add j = ⟨bb, off + j, none⟩ := fun j => by unfold Addr.add; split <;> simp_all
  simp only [Result.andThen, Int.toNat_natCast, sliced]
  rw [if_neg (by omega)]
  simp only [Option.map_some, Nat.mul_one, e3]
  rfl
theorem piece_arg {W : World} {bb off cap S k : Nat} {b : List Int} (h : ArgB W (.slice (some ⟨bb, off, none⟩) b.length cap) b) (hk : k * S < b.length) : ArgB W (pieceV bb off b.length cap S k) ((b.drop (k * S)).take S) := by
  have hle : k * S ≤ min ((k + 1) * S) b.length := by rw [Nat.succ_mul]; omega
  obtain ⟨sv, h1, h2⟩ := slice_in h (k * S) (min ((k + 1) * S) b.length) _ _ rfl rfl hle hk (by omega)
  have hc : b.length ≤ cap := by
    rcases h with ⟨h, _⟩ | ⟨x, c, h, hc, _⟩
    · cases h
    · cases h; exact hc
  have e : sv = pieceV bb off b.length cap S k := by
    have q1 := h1 W
    rw [piece_run bb off b.length cap S k hk hc W] at q1
    cases q1
    rfl
  subst e
  have hpart : (b.drop (k * S)).take (min ((k + 1) * S) b.length - k * S) = (b.drop (k * S)).take S := by
    have e1 : (b.drop (k * S)).length = b.length - k * S := List.length_drop ..
    rw [List.take_eq_take_iff, e1, Nat.succ_mul]
    omega
  rw [← hpart]
  exact h2

set_option maxRecDepth 100000 in
set_option maxHeartbeats 4000000 in
theorem spieces_same (a : Option Addr) (L c : Nat) (n : Int) (w : World) :
    Calls Tryz.prog 83 #[.slice a L c, .int .i64 n] w fun e w' => e = .returned (.func (.func 96) #[] #[.pointer (some ⟨w.heap.size + 1, 0, none⟩), .pointer (some ⟨w.heap.size, 0, none⟩)]) ∧ w' = (w.alloc (.cells #[.slice a L c] 22)).alloc (.cells #[.int .i64 n] 3) := by
  go_enter Tryz.func83, Tryz.ntmps83
  go_wp2
  go_ret
  exact ⟨rfl, rfl⟩

section
attribute [local go_sem] Oper.semAt_some
set_option maxRecDepth 100000 in
set_option maxHeartbeats 8000000 in
theorem spieces_range (bb off cap L S B1 B2 m n : Nat) (hS : 1 ≤ S) (hS2 : S ≤ 512) (hL : L ≤ 1000000) (hc : L ≤ cap) (hm : ∀ k, k < m ↔ k * S < L) (hn : 1 ≤ n) :
    Ranges Fence.wide n Tryz.prog 96 #[.pointer (some ⟨B1, 0, none⟩), .pointer (some ⟨B2, 0, none⟩)] (fun k => #[.int .i64 (k : Int), pieceV bb off L cap S k]) m
      (fun V => V.cell? ⟨B1, 0, none⟩ = some (.int .i64 (S : Int)) ∧ V.cell? ⟨B2, 0, none⟩ = some (.slice (some ⟨bb, off, none⟩) L cap)) := by
  intro l J Jx W hK hY h0
  refine callsIn_of_wp Tryz.func96 rfl trivial ?_ rfl
  simp only [Tryz.ntmps96, List.size_toArray, List.length_cons, List.length_nil, Nat.reduceAdd, Nat.reduceSub, Array.replicate_succ, Array.replicate_zero, List.push_toArray, List.append_toArray, List.nil_append, List.cons_append]
  gi_wp2
  gi_loopw [4] (fun i wr => ∃ k : Nat, k ≤ m ∧ i = .int .i64 (k : Int) ∧ J k wr) (fun i _ => m - (intOf i).toNat)
  case atStart => exact ⟨0, Nat.zero_le _, rfl, h0⟩
  case round =>
    obtain ⟨k, hk, rfl, hJs⟩ := hrel
    obtain ⟨k1, k2⟩ := hK k wr hJs
    have hkL : k ≤ 1000000 := by
      rcases Nat.lt_or_ge 0 k with q | q
      · have q2 := (hm (k - 1)).mp (by omega)
        have q3 : (k - 1) * 1 ≤ (k - 1) * S := Nat.mul_le_mul_left _ hS
        omega
      · omega
    have hpb : k * S ≤ 1000000 * 512 := Nat.mul_le_mul hkL hS2
    obtain ⟨p, hp⟩ : ∃ p, k * S = p := ⟨_, rfl⟩
    have hw8 : (k : Int) * (S : Int) = (p : Int) := by rw [← hp]; simp
    by_cases hlt : k < m
    · obtain ⟨fn, tmps, assign, body, hy, hR⟩ := hY k wr hJs hlt
      have hkS := (hm k).mp hlt
      obtain ⟨k1', hk1⟩ : ∃ x, k + 1 = x := ⟨_, rfl⟩
      obtain ⟨q, hq⟩ : ∃ q, k1' * S = q := ⟨_, rfl⟩
      have hpq : q = p + S := by rw [← hq, ← hp, ← hk1, Nat.succ_mul]
      rw [hp] at hkS hpb
      obtain ⟨hi, hhi⟩ : ∃ h, min q L = h := ⟨_, rfl⟩
      have hpv : pieceV bb off L cap S k = .slice (some ⟨bb, off + p, none⟩) (hi - p) (cap - p) := by
        unfold pieceV
        rw [hk1, hq, hp, hhi]
      rw [hpv] at hy
      have hw10 : (k : Int) + 1 = (k1' : Int) := by omega
      have hw12 : (k1' : Int) * (S : Int) = (q : Int) := by rw [← hq]; simp
      have hw15 : min (q : Int) (L : Int) = (hi : Int) := by omega
      have hb1 : p ≤ hi := by omega
      have hb2 : hi ≤ cap := by omega
      have hb3 : q ≤ 512001000 := by omega
      have HK1 := Lib.hid hk1
      clear hpv hp hq hk1 hm hpq hhi
      gi_wp2
      refine hR.mono ?_
      rintro e W3 (⟨rfl, hJ3⟩ | ⟨rfl, hJx3⟩)
      · gi_wp2
        go_roundw
        case rel => exact ⟨k + 1, hlt, by have := HK1.out; rw [← this], hJ3⟩
        case measure => simp [intOf]; omega
      · gi_wp2
        refine bodyPost_ret (results_none rfl _ _ _) rfl ?_
        exact ⟨⟨_, rfl⟩, .inr hJx3⟩
    · have hge : L ≤ p := by
        rcases Nat.lt_or_ge p L with q | q
        · exact (hlt ((hm k).mpr (by omega))).elim
        · exact q
      obtain rfl : k = m := by omega
      rw [hp] at hpb
      clear hp hm
      gi_wp2
      go_end0
      exact ⟨⟨_, rfl⟩, .inl hJs⟩

/-- On the way, between two rounds: so many blocks are written. -/
structure OnRng (base : Nat) (O : Foot) (r : Nat) (D : Dsk) (T : List Int) (f k : Nat) (V0 V : World) : Prop where
  ex : ∃ E O', DskIs V base O' r E ∧ Grown O O' (V0.heap.size + 2) ∧ Way D E T f k ∧ E.dark = false
  only : OnlyO base O V0 V
  lo : V0.heap.size + 2 ≤ V.heap.size
/-- It has gone dark, or all is put: what is told stands in the result's cell. -/
structure OffRng (base : Nat) (O : Foot) (r : Nat) (D : Dsk) (T : List Int) (f m R : Nat) (w0 V0 V : World) : Prop where
  ex : ∃ E O' c, DskIs V base O' r E ∧ Grown O O' (V0.heap.size + 2) ∧ PutOut D T f m c E ∧ V.cell? ⟨R, 0, none⟩ = some (.int .i64 c) ∧ E.deeds ≤ D.deeds + 401
  only : OnlyO base O w0 V
  lo : V0.heap.size + 2 ≤ V.heap.size
theorem putObj_else (V : World) (l : Nat) (o : Obj) {i : Nat} (h : i ≠ l) : (V.putObj l o).heap[i]? = V.heap[i]? := World.putObj_heap_other h
theorem OnlyO.putObj {base : Nat} {O : Foot} {w V : World} (h : OnlyO base O w V) (l : Nat) (o : Obj) (hl : w.heap.size ≤ l) (hb : base ≤ l) : OnlyO base O w (V.putObj l o) := by
  refine ⟨⟨h.bel.os, h.bel.tape, h.bel.output, by rw [World.putObj_size]; exact h.bel.size, fun k hk => ?_⟩, fun i hi hn => ?_⟩
  · exact (putObj_else V l o (by omega)).trans (h.bel.block k hk)
  · exact (putObj_else V l o (by omega)).trans (h.keep i hi hn)
theorem DskIs.putObj {V : World} {base : Nat} {O' : Foot} {r : Nat} {E : Dsk} (h : DskIs V base O' r E) (l : Nat) (o : Obj) (hl : ¬ O' l) : DskIs (V.putObj l o) base O' r E :=
  h.kept (fun i hi => putObj_else V l o (fun e => hl (e ▸ hi))) (by rw [World.putObj_size]; exact Nat.le_refl _)
theorem grown_not {O O' : Foot} {a l : Nat} (hO : ∀ i, O i → i < a) (hg : Grown O O' (a + 2)) (h1 : a ≤ l) (h2 : l < a + 2) : ¬ O' l := fun h => by
  rcases hg l h with q | q
  · have := hO l q; omega
  · omega
theorem OnRng.putObj {base : Nat} {O : Foot} {r : Nat} {D : Dsk} {T : List Int} {f k : Nat} {V0 V : World} (h : OnRng base O r D T f k V0 V) (hO : ∀ i, O i → i < V0.heap.size) (hb : base ≤ V0.heap.size) (o : Obj) : OnRng base O r D T f k V0 (V.putObj (V0.heap.size + 1) o) := by
  obtain ⟨⟨E, O', h1, h2, h3, h4⟩, h5, h6⟩ := h
  exact ⟨⟨E, O', h1.putObj _ _ (grown_not hO h2 (by omega) (by omega)), h2, h3, h4⟩, h5.putObj _ _ (by omega) (by omega), by rw [World.putObj_size]; exact h6⟩
theorem OffRng.putObj {base : Nat} {O : Foot} {r : Nat} {D : Dsk} {T : List Int} {f m R : Nat} {w0 V0 V : World} (h : OffRng base O r D T f m R w0 V0 V) (hO : ∀ i, O i → i < V0.heap.size) (h0 : w0.heap.size ≤ V0.heap.size) (hb : base ≤ V0.heap.size) (hR : R < V0.heap.size) (j : Nat) (hj : j < 2) (o : Obj) : OffRng base O r D T f m R w0 V0 (V.putObj (V0.heap.size + j) o) := by
  obtain ⟨⟨E, O', c, h1, h2, h3, h4, h7⟩, h5, h6⟩ := h
  exact ⟨⟨E, O', c, h1.putObj _ _ (grown_not hO h2 (by omega) (by omega)), h2, h3, (World.cell?_of_block (putObj_else V _ o (show R ≠ V0.heap.size + j by omega))).trans h4, h7⟩, h5.putObj _ _ (by omega) (by omega), by rw [World.putObj_size]; exact h6⟩
theorem OnlyO.setNew {base : Nat} {O : Foot} {w V : World} (h : OnlyO base O w V) (l i : Nat) (x : Value) (hl : w.heap.size ≤ l) (hb : base ≤ l) : OnlyO base O w (V.setCell ⟨l, i, none⟩ x) :=
  ⟨h.bel.setCell hb x, fun j hj hn => (set_else V l i x j (by omega)).trans (h.keep j hj hn)⟩

/-- What write hands back. -/
def GivesWr (base : Nat) (O : Foot) (r : Nat) (D : Dsk) (f k : Nat) (b : List Int) (w : World) (e : Ending) (w' : World) : Prop :=
  ∃ c D' T i0 m, e = .returned (.int .i64 c) ∧ Laid D f k 0 b T i0 m ∧ PutOut D T i0 m c D' ∧ DskTo base O r D' w w' ∧ D'.deeds ≤ D.deeds + 401
theorem rng_step {base r : Nat} {O O' : Foot} {E' : Dsk} {V0 V W : World} (ho : OnlyO base O V0 V) (hG : Grown O O' (V0.heap.size + 2)) (hlo : V0.heap.size + 2 ≤ V.heap.size) (t : DskTo base O' r E' V W) :
    (∃ O2, DskIs W base O2 r E' ∧ Grown O O2 (V0.heap.size + 2)) ∧ OnlyO base O V0 W ∧ V0.heap.size + 2 ≤ W.heap.size ∧ (∀ j, j < V.heap.size → ¬ O' j → W.heap[j]? = V.heap[j]?) := by
  obtain ⟨O2, d2, o2, g2⟩ := t
  exact ⟨⟨O2, d2, hG.trans g2 hlo⟩, ho.trans o2 (fun i hi => (hG i hi).imp id (fun q => by omega)), Nat.le_trans hlo o2.size, fun j h1 h2 => o2.keep j h1 h2⟩
theorem wrt_fin {base : Nat} {O : Foot} {r : Nat} {D : Dsk} {T : List Int} {f m R : Nat} {w0 V0 V : World} (h : OffRng base O r D T f m R w0 V0 V) (hO : ∀ i, O i → i < V0.heap.size) (h0 : w0.heap.size ≤ V0.heap.size) (hb : base ≤ V0.heap.size) (hR : R < V0.heap.size) :
    ∃ c E, (V.putObj V0.heap.size (.deferred none)).cell? ⟨R, 0, none⟩ = some (.int .i64 c) ∧ PutOut D T f m c E ∧ DskTo base O r E w0 (V.putObj V0.heap.size (.deferred none)) ∧ E.deeds ≤ D.deeds + 401 := by
  obtain ⟨⟨E, O', c, h1, h2, h3, h4, h7⟩, h5, h6⟩ := h.putObj hO h0 hb hR 0 (by decide) (.deferred none)
  exact ⟨c, E, h4, h3, ⟨O', h1, h5, fun i hi => (h2 i hi).imp id (fun q => by omega)⟩, h7⟩
set_option maxRecDepth 100000 in
set_option maxHeartbeats 8000000 in
theorem swrite_any (base : Nat) (O : Foot) (r : Nat) (D : Dsk) (f k : Nat) (x y : Int) (v : Value) (b : List Int) (w : World) (h : DskIs w base O r D) (on : f + k ≤ D.n) (dk : D.dark = false) (ws : D.waits = []) (hd : D.deeds ≤ 950000) (hu : b.length ≤ k * D.size) (hb0 : 0 < b.length)
    (hv : ArgB w v b) (hvO : ∀ j, v.ownBlock = some j → ¬ O j) (hbb : ∀ z ∈ b, 0 ≤ z ∧ z ≤ 255) :
    Calls Tryz.prog 71 #[.agg #[.pointer (some ⟨r, 0, none⟩), .int .i64 x, .int .i64 y], .int .i64 (f : Int), v] w (GivesWr base O r D f k b w) := by
  obtain ⟨X, T, i0, m, hp⟩ := put_is (u := 0) h.ok on (by omega) hb0
  have hX : X = b := by rw [hp.x, Nat.zero_mod, List.take_zero, List.nil_append]
  have hi : i0 = f := by rw [hp.i, Nat.zero_div, Nat.add_zero]
  subst hX hi
  have HP := Lib.hid hp
  rcases hv with ⟨rfl, rfl⟩ | ⟨xa, cap, rfl, hc, hcell⟩
  · simp at hb0
  obtain ⟨bb, off, rfl, _⟩ := arg_addr hcell hb0
  have HV : Hid (ArgB w (.slice (some ⟨bb, off, none⟩) X.length cap) X) := Or.inr ⟨_, cap, rfl, hc, hcell⟩
  have hbO : ¬ O bb := hvO bb rfl
  have hmost := h.ok.most
  have n1 := h.ok.n1
  have s1 := h.ok.s1
  have s0 := h.ok.s0
  have HD := Lib.hid h
  have hXl : X.length ≤ 1000000 := by
    have : k * D.size ≤ D.n * D.size := Nat.mul_le_mul_right _ (by omega)
    omega
  have hm : ∀ j, j < m ↔ j * D.size < X.length := fun j => ⟨hp.lo j, fun q => by
    rcases Nat.lt_or_ge j m with q2 | q2
    · exact q2
    · have q3 : m * D.size ≤ j * D.size := Nat.mul_le_mul_right _ q2
      have := hp.hi
      omega⟩
  have HSZ := Lib.hid (fun W (g : Below w.heap.size w W) => bsize_same base O r D W (h.after g))
  obtain ⟨L, hL⟩ : ∃ L, X.length = L := ⟨_, rfl⟩
  obtain ⟨S, hS⟩ : ∃ S, D.size = S := ⟨_, rfl⟩
  have HL := Lib.hid hL
  have HS := Lib.hid hS
  rw [hS] at HSZ hm s0 s1
  rw [hL] at HV hm hXl hc
  rw [hL]
  have hbase : Hid (base ≤ w.heap.size) := by have := h.own r h.mem; unfold Hid; omega
  have HDK := Lib.hid (And.intro dk (And.intro ws hd))
  have HBO := Lib.hid hbO
  have HBB := Lib.hid hbb
  clear hcell hp h hvO hb0 hu hmost hbO dk ws hd hbb hL hS
  obtain ⟨V0, hV0⟩ : ∃ V, ((((w.alloc (.cells #[.pointer (some ⟨r, 0, none⟩), .int .i64 x, .int .i64 y] 108)).alloc (.cells #[.int .i64 (i0 : Int)] 3)).alloc (.cells #[.int .i64 0] 29)).alloc (.cells #[.slice (some ⟨bb, off, none⟩) L cap] 22)).alloc (.cells #[.int .i64 (S : Int)] 3) = V := ⟨_, rfl⟩
  have G5 : Hid (Below w.heap.size w V0) := by
    rw [← hV0]
    exact below_more (below_more (below_more (below_more (below_more (Below.refl w.heap.size w) _) _) _) _) _
  have hs5 : V0.heap.size = w.heap.size + 5 := by rw [← hV0]; simp
  have a0 : V0.cell? ⟨w.heap.size, 0, none⟩ = some (.pointer (some ⟨r, 0, none⟩)) := by rw [← hV0]; simp [go_sem]
  have a1 : V0.cell? ⟨w.heap.size + 1, 0, none⟩ = some (.int .i64 (i0 : Int)) := by rw [← hV0]; simp [go_sem]
  have a2 : V0.cell? ⟨w.heap.size + 1 + 1, 0, none⟩ = some (.int .i64 0) := by rw [← hV0]; simp [go_sem]
  have a3 : V0.cell? ⟨w.heap.size + 1 + 1 + 1, 0, none⟩ = some (.slice (some ⟨bb, off, none⟩) L cap) := by rw [← hV0]; simp [go_sem]
  have a4 : V0.cell? ⟨w.heap.size + 1 + 1 + 1 + 1, 0, none⟩ = some (.int .i64 (S : Int)) := by rw [← hV0]; simp [go_sem]
  have q0 : V0.frozen? ⟨w.heap.size, 0, none⟩ = false := by rw [← hV0]; simp [go_sem]
  have q2 : V0.frozen? ⟨w.heap.size + 1 + 1, 0, none⟩ = false := by rw [← hV0]; simp [go_sem]
  have hOw : ∀ i, O i → i < w.heap.size := fun i hi => (HD.out.own i hi).2
  have G3 := Lib.hid (below_more (below_more (below_more (Below.refl w.heap.size w) (.cells #[.pointer (some ⟨r, 0, none⟩), .int .i64 x, .int .i64 y] 108)) (.cells #[.int .i64 (i0 : Int)] 3)) (.cells #[.int .i64 0] 29))
  refine (callsIn_wide (n := 3)).1 ?_
  refine callsIn_of_wp_marks Tryz.func71 rfl trivial ?_ rfl
  simp only [Tryz.ntmps71, List.size_toArray, List.length_cons, List.length_nil, Nat.reduceAdd, Nat.reduceSub, Array.replicate_succ, Array.replicate_zero, List.push_toArray, List.append_toArray, List.nil_append, List.cons_append]
  gi_wp2_with (first
    | (refine ⟨trivial, ?_⟩; gi_at_call 25; refine (callsIn_wide.2 (HSZ.out _ G3.out)).mono ?_; rintro e w1 ⟨rfl, rfl⟩)
    | (refine ⟨trivial, ?_⟩; gi_at_call 83; refine (callsIn_wide.2 (spieces_same _ _ _ _ _)).mono ?_; rintro e w1 ⟨rfl, rfl⟩))
  try rw [hV0]
  clear hV0
  refine wp_range (n := 3) (F := Fence.wide) rfl (by decide) (gf := 96) (lb := #[.pointer (some ⟨w.heap.size + 1 + 1 + 1 + 1, 0, none⟩), .pointer (some ⟨w.heap.size + 1 + 1 + 1, 0, none⟩)]) rfl trivial (enters_of Tryz.func96 (by kernel_rfl) rfl) (encs := fun k => #[.int .i64 (k : Int), pieceV bb off L cap S k]) (fun _ => rfl) (m := m)
    (spieces_range bb off cap L S (w.heap.size + 1 + 1 + 1 + 1) (w.heap.size + 1 + 1 + 1) m (3 - 1) (by omega) s1 hXl hc hm (by decide))
    (fun k V => OnRng base O r D T i0 k V0 V) (fun V => OffRng base O r D T i0 m (w.heap.size + 1 + 1) w V0 V) ?ik
    (fun k V o h => h.putObj (fun i hi => by have := hOw i hi; omega) (by have := hbase.out; omega) o) (fun V o h => h.putObj (fun i hi => by have := hOw i hi; omega) (by omega) (by have := hbase.out; omega) (by omega) 1 (by decide) o) ?h0
    (fun k => { tmps := #[.agg #[.pointer (some ⟨r, 0, none⟩), .int .i64 x, .int .i64 y], .int .i64 (i0 : Int), .slice (some ⟨bb, off, none⟩) L cap, .pointer (some ⟨w.heap.size, 0, none⟩), .pointer (some ⟨w.heap.size + 1, 0, none⟩), undef, .pointer (some ⟨w.heap.size + 1 + 1, 0, none⟩), .int .i64 (k : Int), pieceV bb off L cap S k, undef,
          .slice (some ⟨bb, off, none⟩) L cap, .pointer (some ⟨w.heap.size, 0, none⟩), .pointer (some ⟨r, 0, none⟩), .int .i64 (S : Int), .func (.func 96) #[] #[.pointer (some ⟨w.heap.size + 1 + 1 + 1 + 1, 0, none⟩), .pointer (some ⟨w.heap.size + 1 + 1 + 1, 0, none⟩)],
          .int .i64 (k : Int), pieceV bb off L cap S k, undef, undef, undef, undef, undef, undef, undef, undef, undef, undef, undef, undef, undef], defers := [] }) ?assign ?body ?done ?stop
  case ik =>
    intro k V h
    exact ⟨(h.only.cell (by omega) (fun ho => by have := hOw _ ho; omega)).trans a4, (h.only.cell (by omega) (fun ho => by have := hOw _ ho; omega)).trans a3⟩
  case h0 =>
    intro o1 o2
    have hb : Below V0.heap.size V0 ((V0.alloc o1).alloc o2) := below_more (below_more (Below.refl _ _) o1) o2
    exact ⟨⟨D, O, HD.out.after (below_step G5.out hb), Grown.refl _ _, Way.refl HDK.out.2.1 T i0, HDK.out.1⟩, OnlyO.of hb (by have := hbase.out; omega), by simp⟩
  case assign =>
    intro k V K hK
    gi_wp2
    exact hK
  case body =>
    intro k V hi hk
    obtain ⟨⟨E, O', hE, hG, hw, hdk⟩, ho, hlo⟩ := hi
    have HE := Lib.hid hE
    have HG := Lib.hid hG
    have HO := Lib.hid ho
    have hEb := Lib.hid (show E.deeds ≤ 1000000 by have := hw.deeds; have := HDK.out.2.2; have := HP.out.mn; omega)
    have hout := Lib.hid (HP.out.write hw hdk hk)
    rw [HS.out] at hout
    have hXA := HV.out.below G5.out
    rw [← HL.out] at hXA
    have hpa := piece_arg (W := V) (S := S) (k := k) (hXA.only ho (fun _ j hj => by cases hj; exact HBO.out)) (by rw [HL.out]; exact (hm k).mp hk)
    rw [HL.out] at hpa
    have hpb : ∀ z ∈ (X.drop (k * S)).take S, 0 ≤ z ∧ z ≤ 255 := fun z hz => HBB.out z (List.mem_of_mem_drop (List.mem_of_mem_take hz))
    have hpl : ((X.drop (k * S)).take S).length ≤ 512 := by rw [List.length_take]; omega
    have hkb : k ≤ 400 := by have := HP.out.mn; omega
    have hib : i0 ≤ 400 := by have := HP.out.mn; omega
    have HWR := Lib.hid (bwrite_any base O' r E ((i0 : Int) + (k : Int)) (pieceV bb off L cap S k) ((X.drop (k * S)).take S) V hE hEb.out (by omega) (by omega) hpa hpb (by omega))
    obtain ⟨c', hc'⟩ : ∃ c, (E.write ((i0 : Int) + (k : Int)) ((X.drop (k * S)).take S)).1 = c := ⟨_, rfl⟩
    obtain ⟨E', hE'⟩ : ∃ y, (E.write ((i0 : Int) + (k : Int)) ((X.drop (k * S)).take S)).2 = y := ⟨_, rfl⟩
    rw [hc', hE'] at HWR hout
    obtain ⟨pv, hpv⟩ : ∃ pv, pieceV bb off L cap S k = pv := ⟨_, rfl⟩
    rw [hpv] at HWR ⊢
    have hw4 : IntKind.i64.wrap ((i0 : Int) + (k : Int)) = (i0 : Int) + (k : Int) := by rw [IntKind.wrap_i64]; omega
    have e0 := (ho.cell (o := 0) (b := w.heap.size) (by omega) (fun q => by have := hOw _ q; omega)).trans a0
    have e1 := (ho.cell (o := 0) (b := w.heap.size + 1) (by omega) (fun q => by have := hOw _ q; omega)).trans a1
    clear hpv hc' hE' hE hG hXA hpa hpb hpl
    have hD0 : Hid (∀ j, j < V0.heap.size + 2 → w.heap.size ≤ j → ¬ O' j) := fun j h1 h2 q => by
      rcases HG.out j q with q | q
      · have := hOw _ q; omega
      · omega
    clear a0 a1 a3 a4 q0 ho hw hdk
    have hn2 : 1 ≤ 3 - 1 - 1 := by decide
    have hkeep := Lib.hid (fun W (t6 : DskTo base O' r E' V W) => rng_step (base := base) (O := O) (r := r) (V0 := V0) HO.out HG.out hlo t6)
    have hcR := Lib.hid (fun W (ho : OnlyO base O V0 W) => And.intro ((ho.cell (o := 0) (b := w.heap.size + 1 + 1) (by omega) (fun q => by have := hOw _ q; omega)).trans a2) ((ho.frozen (o := 0) (b := w.heap.size + 1 + 1) (by omega) (fun q => by have := hOw _ q; omega)).trans q2))
    gi_wp2_with (refine ⟨trivial, ?_⟩; gi_at_call 24; refine (CallsIn.inRound (V0.heap.size + 1) (callsIn_wide.2 HWR.out)).mono ?_; rintro e w6 ⟨rfl, t6⟩; have T6 := Lib.hid (hkeep.out _ t6); obtain ⟨y1, y2⟩ := hcR.out _ T6.out.2.1; clear t6; rcases hout.out with ⟨h0, h1, h2⟩ | ⟨h0, h1, h2, h3⟩ <;> (rw [h0]; clear h0; have H1 := Lib.hid h1; have H2 := Lib.hid h2; clear h1 h2))
    · obtain ⟨⟨O2, d6, g6⟩, o6, l6, k6⟩ := T6.out
      exact ⟨⟨⟨E', O2, d6, g6, H2.out, H1.out⟩, o6, l6⟩, k6 _ (by omega) (hD0.out _ (by omega) (by omega)), k6 _ (by omega) (hD0.out _ (by omega) (by omega))⟩
    · obtain ⟨⟨O2, d6, g6⟩, o6, l6, k6⟩ := T6.out
      have hR : ¬ O2 (w.heap.size + 1 + 1) := fun q => by
        rcases g6 _ q with q | q
        · have := hOw _ q; omega
        · omega
      have hset : ∀ j, j ≠ w.heap.size + 1 + 1 → (w6.setCell ⟨w.heap.size + 1 + 1, 0, none⟩ (.int .i64 12)).heap[j]? = w6.heap[j]? := fun j hj => set_else _ _ 0 _ j hj
      have hpo : PutOut D T i0 m 12 E' := ⟨h3.step (by have := HP.out.mn; omega), Or.inr ⟨rfl, H1.out, H2.out, k, by omega, h3⟩⟩
      refine ⟨⟨⟨E', O2, 12, d6.kept (fun i hi => hset i (fun e => hR (e ▸ hi))) (by simp), g6, hpo, World.cell?_setCell_same' _ _ _ (by rw [y1]; rfl), by have := h3.deeds; have := HP.out.mn; omega⟩, ((OnlyO.of G5.out hbase.out).trans o6 (Grown.refl _ _)).setNew _ _ _ (by omega) (by have := hbase.out; omega), by simp; omega⟩, ?_, ?_⟩
      · exact (hset _ (by omega)).trans (k6 _ (by omega) (hD0.out _ (by omega) (by omega)))
      · exact (hset _ (by omega)).trans (k6 _ (by omega) (hD0.out _ (by omega) (by omega)))
  case done =>
    intro V hi hK
    obtain ⟨⟨E, O', hE, hG, hw, hdk⟩, ho, hlo⟩ := hi
    have hll := HD.out.ok.ll
    have hfit : (i0 + m) * D.size ≤ D.last.length := by rw [hll]; exact Nat.mul_le_mul_right _ HP.out.mn
    have hout := hw.sync hdk hfit HP.out.ahead (by rw [HP.out.tl, hll]) HP.out.behind
    have hEb : E.deeds ≤ 1000000 := by have := hw.deeds; have := HDK.out.2.2; have := HP.out.mn; omega
    have HSY := Lib.hid (bsync_any base O' r E V hE hEb)
    obtain ⟨c', hc'⟩ : ∃ c, E.sync.1 = c := ⟨_, rfl⟩
    obtain ⟨E', hE'⟩ : ∃ x, E.sync.2 = x := ⟨_, rfl⟩
    rw [hc', hE'] at HSY hout
    have HPO : Hid (PutOut D T i0 m c' E') := by
      have hm4 : m ≤ 400 := by have := HP.out.mn; omega
      rcases hout with ⟨h1, h2, h3, h4, h5, h6, h7, h8, h9⟩ | ⟨h1, h2, h3, h4⟩
      · exact ⟨⟨h5, h6, h7, by omega, h9⟩, Or.inl ⟨h1, h2, h3, h4⟩⟩
      · exact ⟨h4.step (by omega), Or.inr ⟨h1, h2, h3, m, Nat.le_refl _, h4⟩⟩
    have HDD : Hid (E'.deeds ≤ D.deeds + 401) := by
      have hm4 : m ≤ 400 := by have := HP.out.mn; omega
      unfold Hid
      rcases hout with ⟨h1, h2, h3, h4, h5, h6, h7, h8, h9⟩ | ⟨h1, h2, h3, h4⟩
      · omega
      · have := h4.deeds; omega
    have e0 := (ho.cell (o := 0) (b := w.heap.size) (by omega) (fun q => by have := hOw _ q; omega)).trans a0
    have hD0 : Hid (∀ j, j < V0.heap.size + 2 → w.heap.size ≤ j → ¬ O' j) := fun j h1 h2 q => by
      rcases hG j q with q | q
      · have := hOw _ q; omega
      · omega
    have hkeep := Lib.hid (fun W (t6 : DskTo base O' r E' V W) => rng_step (base := base) (O := O) (r := r) (V0 := V0) ho hG hlo t6)
    have hcR := Lib.hid (fun W (ho : OnlyO base O V0 W) => And.intro ((ho.cell (o := 0) (b := w.heap.size + 1 + 1) (by omega) (fun q => by have := hOw _ q; omega)).trans a2) ((ho.frozen (o := 0) (b := w.heap.size + 1 + 1) (by omega) (fun q => by have := hOw _ q; omega)).trans q2))
    have HK := Lib.hid hK
    clear hout hc' hE' hll hfit a0 a1 a3 a4 q0 hE hG hw hdk hEb hK
    gi_wp2_with (refine ⟨trivial, ?_⟩; gi_at_call 7; refine (callsIn_wide.2 HSY.out).mono ?_; rintro e w6 ⟨rfl, t6⟩; have T6 := Lib.hid (hkeep.out _ t6); obtain ⟨y1, y2⟩ := hcR.out _ T6.out.2.1; clear t6)
    obtain ⟨⟨O2, d6, g6⟩, o6, l6, k6⟩ := T6.out
    have hR : ¬ O2 (w.heap.size + 1 + 1) := fun q => by
      rcases g6 _ q with q | q
      · have := hOw _ q; omega
      · omega
    have hset : ∀ j, j ≠ w.heap.size + 1 + 1 → (w6.setCell ⟨w.heap.size + 1 + 1, 0, none⟩ (.int .i64 c')).heap[j]? = w6.heap[j]? := fun j hj => set_else _ _ 0 _ j hj
    have hoff : OffRng base O r D T i0 m (w.heap.size + 1 + 1) w V0 (w6.setCell ⟨w.heap.size + 1 + 1, 0, none⟩ (.int .i64 c')) :=
      ⟨⟨E', O2, c', d6.kept (fun i hi => hset i (fun e => hR (e ▸ hi))) (by simp), g6, HPO.out, World.cell?_setCell_same' _ _ _ (by rw [y1]; rfl), HDD.out⟩, ((OnlyO.of G5.out hbase.out).trans o6 (Grown.refl _ _)).setNew _ _ _ (by omega) (by have := hbase.out; omega), by simp; omega⟩
    have hK6 := (hset V0.heap.size (by omega)).trans ((k6 _ (by omega) (hD0.out _ (by omega) (by omega))).trans HK.out)
    obtain ⟨c, E2, hc5, hpo, hto, hdd⟩ := wrt_fin hoff (fun i hi => by have := hOw i hi; omega) (by omega) (by have := hbase.out; omega) (by omega)
    rw [hs5] at hK6 hc5 hto
    refine ⟨by simp, .inl ⟨_, _, rfl, run_takeDeferred hK6, ?_⟩⟩
    refine ⟨.int .i64 c, ?_, c, E2, T, i0, m, rfl, HP.out.laid, hpo, hto, hdd⟩
    simp [results, Tryz.f71, go_sem, hc5]
  case stop =>
    intro V hi hK
    gi_wp2
    obtain ⟨c, E2, hc5, hpo, hto, hdd⟩ := wrt_fin hi (fun i hi => by have := hOw i hi; omega) (by omega) (by have := hbase.out; omega) (by omega)
    refine ⟨by simp, .inl ⟨_, _, rfl, run_takeDeferred hK, ?_⟩⟩
    refine ⟨.int .i64 c, ?_, c, E2, T, i0, m, rfl, HP.out.laid, hpo, hto, hdd⟩
    simp [results, Tryz.f71, go_sem, hc5]
end

end Go.Proofs.YtejelednnacnaaaGreatDoor
