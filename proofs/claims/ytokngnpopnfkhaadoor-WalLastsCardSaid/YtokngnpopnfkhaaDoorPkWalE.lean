/-
  The statements of layer 10, walked over the contracts of package wal's calls: what they come to where no fuse burns; Long, Marked, awake.
-/
import Derived.Test.YtokngnpopnfkhaaDoorPkWal
import Derived.Test.YtokngnpopnfkhaaDoorPkActs
namespace Go.Proofs.YtokngnpopnfkhaaDoor
open Go.RowKit

/-- A disk without a fuse. -/
structure NFd (n size : Nat) (D : Dsk) : Prop where
  n : D.n = n
  size : D.size = size
  fuse : D.fuse = -1
  dark : D.dark = false
theorem NFd.new (n size : Nat) : NFd n size (Dsk.new n size) := ⟨rfl, rfl, rfl, rfl⟩
theorem NFd.write {n size : Nat} {D : Dsk} (h : NFd n size D) (i : Int) (b : List Int) (i0 : 0 ≤ i) (i1 : i < (n : Int)) (hb : b.length ≤ size) : (D.write i b).1 = 0 ∧ NFd n size (D.write i b).2 ∧ (D.write i b).2.deeds = D.deeds + 1 := by
  obtain ⟨h1, h2, h3, h4⟩ := h
  have hf : ¬ D.fuse = 0 := by rw [h3]; decide
  unfold Dsk.write
  rw [if_neg (by rw [h4]; simp), if_neg (by omega)]
  unfold Dsk.deed
  rw [if_neg hf]
  refine ⟨rfl, ⟨h1, h2, ?_, h4⟩, rfl⟩
  show (if 0 < D.fuse then D.fuse - 1 else D.fuse) = -1
  rw [h3]; rfl
theorem NFd.sync {n size : Nat} {D : Dsk} (h : NFd n size D) : D.sync.1 = 0 ∧ NFd n size D.sync.2 ∧ D.sync.2.waits = [] ∧ D.sync.2.deeds = D.deeds + 1 ∧ D.sync.2.last = D.seen := by
  obtain ⟨h1, h2, h3, h4⟩ := h
  have hf : ¬ D.fuse = 0 := by rw [h3]; decide
  unfold Dsk.sync
  rw [if_neg (by rw [h4]; simp)]
  unfold Dsk.deed
  rw [if_neg hf]
  refine ⟨rfl, ⟨h1, h2, ?_, h4⟩, rfl, rfl, rfl⟩
  show (if 0 < D.fuse then D.fuse - 1 else D.fuse) = -1
  rw [h3]; rfl
theorem NFd.crash (D : Dsk) (n size : Nat) (h1 : D.n = n) (h2 : D.size = size) (k t : Int) : NFd n size (D.crash k t) := ⟨h1, h2, rfl, rfl⟩
theorem NFd.step {n size : Nat} {D D' : Dsk} (h : NFd n size D) (s : StepD D D') (hd : D'.dark = false) : NFd n size D' := ⟨s.n.trans h.n, s.size.trans h.size, s.fuse h.fuse, hd⟩

/-- Format, where no fuse burns. -/
theorem wformat_nf (base : Nat) (O : Foot) (r n size : Nat) (D : Dsk) (f k : Nat) (zf zk : Int) (ef : zf = (f : Int)) (ek : zk = (k : Int)) (w : World) (env : Env w) (h : DskIs w base O r D) (hn : NFd n size D) (k1 : 1 ≤ k) (on : f + k ≤ n) (hw : D.waits = []) (hd : D.deeds ≤ 900000) :
    Calls Tryd.prog 10 #[.pointer (some ⟨r, 0, none⟩), .int .i64 zf, .int .i64 zk] w fun e w' => ∃ D', e = .returned (.int .i64 0) ∧ NFd n size D' ∧ D'.waits = [] ∧ D'.deeds ≤ D.deeds + 1000 ∧ D'.last = layL D.last (f * size, List.replicate (k * size) 0) ∧ DskTo base O r D' w w' := by
  subst ef ek
  refine (wformat_any base O r D f k w env h k1 (by rw [hn.n]; exact on) hn.dark hw hd).mono ?_
  rintro e w' ⟨c, D', rfl, ⟨hs, ⟨rfl, hdn⟩ | ⟨_, hdk⟩⟩, ht⟩
  · have hl := hdn.last
    rw [hn.size] at hl
    exact ⟨D', rfl, hn.step hs hdn.dark, hdn.waits, hs.hi, hl, ht⟩
  · exact (hdk.fuse hn.fuse).elim
/-- Open of a region that is clean, where no fuse burns. -/
def GivesOn (base : Nat) (O : Foot) (r size : Nat) (D : Dsk) (f k : Nat) (rs : List (List Int)) (w : World) (e : Ending) (w' : World) : Prop :=
  ∃ O' gb OG OR rv, e = .returned (.tuple #[.pointer (some ⟨gb, 0, none⟩), rv, .int .i64 0]) ∧ DskIs w' base O' r D ∧ OnlyO base O w w' ∧ Grown O O' w.heap.size ∧ LogIs w' w.heap.size OG gb r ⟨f, k, size, usedL rs, false⟩ ∧ LLF w' base OR rv rs ∧ (∀ i, OR i → w.heap.size ≤ i ∧ i < w'.heap.size ∧ ¬ O' i ∧ ¬ OG i) ∧ ∀ i, OG i → ¬ O' i
theorem wopen_nf (base : Nat) (O : Foot) (r n size : Nat) (D : Dsk) (f k : Nat) (zf zk : Int) (ef : zf = (f : Int)) (ek : zk = (k : Int)) (rs : List (List Int)) (w : World) (env : Env w) (h : DskIs w base O r D) (hn : NFd n size D) (k1 : 1 ≤ k) (on : f + k ≤ n) (hw : D.waits = []) (hd : D.deeds ≤ 900000)
    (hok : RecOk rs (k * size)) (hr : regnL (f * size) (k * size) D.last = textL rs (k * size)) :
    Calls Tryd.prog 12 #[.pointer (some ⟨r, 0, none⟩), .int .i64 zf, .int .i64 zk] w (GivesOn base O r size D f k rs w) := by
  subst ef ek
  have hM : k * size ≤ 1000000 := by
    have q1 := h.ok.n1
    have q2 := h.ok.s1
    have q3 : k * size ≤ 400 * 512 := Nat.mul_le_mul (by have := hn.n; omega) (by have := hn.size; omega)
    omega
  have e1 : (allL (regnL (f * D.size) (k * D.size) D.last)).1 = rs := by rw [hn.size, hr]; exact hok.all hM
  have hc := wopen_any base O r D f k w env h k1 (by rw [hn.n]; exact on) hn.dark hw hd
  rw [e1] at hc
  refine hc.mono ?_
  rintro e w' ⟨c, D', O', ⟨hs, hcase⟩, hd', ho, hg, ⟨rfl, hx⟩ | ⟨rfl, gb, OG, OR, rv, rfl, hl, hll, hd1, hd2⟩⟩
  · rcases hcase with ⟨h0, _⟩ | ⟨_, hdk⟩
    · cases h0
    · exact (hdk.fuse hn.fuse).elim
  · rcases hcase with ⟨_, _, hcl⟩ | ⟨h0, _⟩
    · have hD := hcl (by rw [hn.size]; exact hr)
      subst hD
      rw [hn.size] at hl
      exact ⟨O', gb, OG, OR, rv, rfl, hd', ho, hg, hl, hll, hd1, hd2⟩
    · cases h0
/-- Append, where no fuse burns. -/
def GivesAn (base : Nat) (O OG : Foot) (r gb n size : Nat) (D : Dsk) (G : Lg) (rs : List (List Int)) (b : List Int) (w : World) (e : Ending) (w' : World) : Prop :=
  ∃ D' O' OG', e = .returned (.int .i64 0) ∧ NFd n size D' ∧ D'.deeds ≤ D.deeds + 1000 ∧ DskIs w' base O' r D' ∧ LogIs w' base OG' gb r { G with used := G.used + b.length + 10 } ∧ LogOn D' { G with used := G.used + b.length + 10 } (rs ++ [b]) ∧ Beside (G.from_ * G.size) (G.n * G.size) D.last D'.last ∧ (∀ i, O' i → ¬ OG' i) ∧
    OnlyO base (fun i => O i ∨ OG i) w w' ∧ Grown (fun i => O i ∨ OG i) (fun i => O' i ∨ OG' i) w.heap.size
theorem logon_more {D D' : Dsk} {G : Lg} {rs : List (List Int)} {b : List Int} (h : LogOn D G rs) (hok : D.Ok) (hs : StepD D D') (hdn : DoneD D D' (G.from_ * G.size) (textL (rs ++ [b]) (G.n * G.size))) (hb : ∀ z ∈ b, 0 ≤ z ∧ z ≤ 255) (hf : G.used + b.length + 10 ≤ G.n * G.size) :
    LogOn D' { G with used := G.used + b.length + 10 } (rs ++ [b]) ∧ Beside (G.from_ * G.size) (G.n * G.size) D.last D'.last := by
  have hu := h.us
  have hrec := h.ok.more hb (by omega)
  have htl : (textL (rs ++ [b]) (G.n * G.size)).length = G.n * G.size := text_len hrec.used
  have hfit : G.from_ * G.size + (textL (rs ++ [b]) (G.n * G.size)).length ≤ D.last.length := by
    rw [htl, hok.ll, ← Nat.add_mul, ← h.sz]
    exact Nat.mul_le_mul_right _ h.on
  have r1 := regn_laid hfit
  have r2 := beside_laid hfit
  rw [htl] at r1 r2
  refine ⟨⟨h.n1, by rw [hs.n]; exact h.on, by rw [hs.size]; exact h.sz, by show G.used + b.length + 10 = _; rw [used_more, hu], h.up, hrec, by rw [hdn.last]; exact r1, hdn.dark, hdn.waits⟩, by rw [hdn.last]; exact r2⟩
theorem wappend_nf (base : Nat) (O OG : Foot) (r gb n size : Nat) (D : Dsk) (G : Lg) (rs : List (List Int)) (v : Value) (b : List Int) (w : World) (env : Env w) (h : DskIs w base O r D) (hg : LogIs w base OG gb r G) (hd : ∀ i, O i → ¬ OG i) (on : LogOn D G rs) (dd : D.deeds ≤ 900000) (hn : NFd n size D)
    (hv : ArgB w v b) (hb : ∀ z ∈ b, 0 ≤ z ∧ z ≤ 255) (hy : b ≠ [] → ∀ k, v.ownBlock = some k → ¬ O k ∧ ¬ OG k) (hf : G.used + b.length + 10 ≤ G.n * G.size) :
    Calls Tryd.prog 13 #[.pointer (some ⟨gb, 0, none⟩), v] w (GivesAn base O OG r gb n size D G rs b w) := by
  refine (wappend_any base O OG r gb D G rs v b w env h hg hd on dd hv hb hy hf).mono ?_
  rintro e w' ⟨c, D', O', OG', rfl, ⟨hs, ⟨rfl, hdn⟩ | ⟨_, hdk⟩⟩, hd', hl, hdis, ho, hgr⟩
  · obtain ⟨k1, k2⟩ := logon_more on h.ok hs hdn hb hf
    have hup := on.up
    have e1 : ({ G with used := if (0 : Int) = 0 then G.used + b.length + 10 else G.used, down := decide ((0 : Int) = 12) } : Lg) = { G with used := G.used + b.length + 10 } := by
      rw [if_pos rfl, show decide ((0 : Int) = 12) = false from rfl, ← hup]
    rw [e1] at hl
    exact ⟨D', O', OG', rfl, hn.step hs hdn.dark, hs.hi, hd', hl, k1, k2, hdis, ho, hgr⟩
  · exact (hdk.fuse hn.fuse).elim

/-- A call that is handed in. -/
structure ActW where
  kind : Int := 0
  b : List Int := []
structure ActW.Ok (x : ActW) : Prop where
  b0 : ∀ z ∈ x.b, 0 ≤ z ∧ z ≤ 255
  b1 : (x.b.length : Int) ≤ 9223372036854775807
/-- A slice of them. -/
def ActsW (W : World) (v : Value) (l : List ActW) : Prop :=
  ∃ a cap, v = .slice a l.length cap ∧ l.length ≤ cap ∧ ∀ i, i < l.length → ∃ b off bv, a = some ⟨b, off, none⟩ ∧ W.cell? ⟨b, off + i * 2, none⟩ = some (.int .i64 (l.getD i {}).kind) ∧ W.cell? ⟨b, off + i * 2 + 1, none⟩ = some bv ∧ ArgB W bv (l.getD i {}).b
theorem ActsW.size {w : World} {v : Value} {l : List ActW} (h : ActsW w v l) : ∃ a cap, v = .slice a l.length cap := by
  obtain ⟨a, cap, rfl, _⟩ := h
  exact ⟨a, cap, rfl⟩
/-- The i-th of them, in any later world. -/
theorem ActsW.one {w : World} {a : Option Addr} {n cap : Nat} {l : List ActW} (h : ActsW w (.slice a n cap) l) {i : Nat} (hi : i < l.length) : ∃ b off bv, a = some ⟨b, off, none⟩ ∧ b < w.heap.size ∧ (∀ w' base, base = w.heap.size → Below base w w' → w'.cell? ⟨b, off + i * 2, none⟩ = some (.int .i64 (l.getD i {}).kind) ∧ w'.cell? ⟨b, off + i * 2 + 1, none⟩ = some bv ∧ ArgB w' bv (l.getD i {}).b) ∧
    ((l.getD i {}).b ≠ [] → ∀ k, bv.ownBlock = some k → k < w.heap.size) := by
  obtain ⟨a', cap', e, hc, hcell⟩ := h
  simp only [Value.slice.injEq] at e
  obtain ⟨rfl, rfl, rfl⟩ := e
  obtain ⟨b, off, bv, rfl, h0, h1, h2⟩ := hcell i hi
  have hlt := World.block_lt_of_cell? _ _ h0
  refine ⟨b, off, bv, rfl, hlt, fun w' base e hb => ?_, fun hn k hk => h2.lt hn hk⟩
  subst e
  exact ⟨(hb.cell (p := ⟨b, off + i * 2, none⟩) hlt).trans h0, (hb.cell (p := ⟨b, off + i * 2 + 1, none⟩) hlt).trans h1, h2.below hb⟩
/-- Are they more than are played? -/
def longL (l : List ActW) : Prop := 60 < l.length ∨ ∃ i, i < l.length ∧ 2000 < (l.getD i {}).b.length

/-- What Long tells. -/
def GivesLong (l : List ActW) (w : World) (e : Ending) (w' : World) : Prop := ∃ b, e = .returned (.bool b) ∧ (b = true ↔ longL l) ∧ w' = w
set_option maxRecDepth 100000 in
set_option maxHeartbeats 4000000 in
theorem long_any (v : Value) (l : List ActW) (w : World) (h : ActsW w v l) :
    Calls Tryd.prog 7 #[v] w (GivesLong l w) := by
  obtain ⟨a, cap, rfl⟩ := h.size
  obtain ⟨N, hN⟩ : ∃ N, l.length = N := ⟨_, rfl⟩
  have HC : Hid (∀ i, i < N → ∃ b off bv, a = some ⟨b, off, none⟩ ∧ w.cell? ⟨b, off + i * 2, none⟩ = some (.int .i64 (l.getD i {}).kind) ∧ w.cell? ⟨b, off + i * 2 + 1, none⟩ = some bv ∧ ArgB w bv (l.getD i {}).b) := fun i hi => by
    obtain ⟨b, off, bv, e, _, hx, _⟩ := h.one (i := i) (by omega)
    exact ⟨b, off, bv, e, hx w _ rfl (Below.refl _ _)⟩
  have HN := Lib.hid hN
  rw [hN]
  clear hN h
  by_cases h60 : 60 < N
  · have h60' : (60 : Int) < (N : Int) := by omega
    go_enter Tryd.func7, Tryd.ntmps7
    go_wp2
    go_ret
    exact ⟨_, rfl, ⟨fun _ => Or.inl (by rw [HN.out]; exact h60), fun _ => rfl⟩, rfl⟩
  · have h60' : ¬ (60 : Int) < (N : Int) := by omega
    go_enter Tryd.func7, Tryd.ntmps7
    go_wp2
    go_loop [3] (fun v3 => ∃ i : Nat, v3 = .int .i64 (i : Int) ∧ i ≤ N ∧ ∀ j, j < i → (l.getD j {}).b.length ≤ 2000) (fun v3 => N - (intOf v3).toNat)
    case atStart => exact ⟨0, rfl, Nat.zero_le _, fun j hj => by omega⟩
    case round =>
      obtain ⟨i, rfl, hi, hall⟩ := hrel
      have HALL := Lib.hid hall
      clear hall
      by_cases hlt : i < N
      · obtain ⟨b, off, bv, rfl, k0, k1, ka⟩ := HC.out i hlt
        obtain ⟨x, hx⟩ : ∃ x, (l.getD i {}).b = x := ⟨_, rfl⟩
        rw [hx] at ka
        obtain ⟨xa, xc, rfl⟩ := ka.size
        have HX := Lib.hid hx
        have hin : (i : Int) < (N : Int) := by omega
        clear k0 ka hx
        by_cases hbig : 2000 < x.length
        · have hb2 : (2000 : Int) < (x.length : Int) := by omega
          go_wp2
          go_ret
          exact ⟨_, rfl, ⟨fun _ => Or.inr ⟨i, by rw [HN.out]; exact hlt, by rw [HX.out]; exact hbig⟩, fun _ => rfl⟩, rfl⟩
        · have hb2 : ¬ (2000 : Int) < (x.length : Int) := by omega
          go_wp2
          go_round
          case rel =>
            refine ⟨i + 1, by go_num, hlt, fun j hj => ?_⟩
            by_cases hji : j < i
            · exact HALL.out j hji
            · obtain rfl : j = i := by omega
              rw [HX.out]; omega
          case measure => simp [intOf]; omega
      · obtain rfl : i = N := by omega
        have hin : ¬ (i : Int) < (i : Int) := by omega
        go_wp2
        go_ret
        refine ⟨_, rfl, ⟨fun e => (by cases e), fun hl => ?_⟩, rfl⟩
        rcases hl with hl | ⟨j, hj, hj2⟩
        · rw [HN.out] at hl; omega
        · have := HALL.out j (by rw [HN.out] at hj; exact hj)
          omega

theorem mark_arg (a : Int) (W : World) : ArgB (W.alloc (.cells #[.int .u8 a, .int .u8 245] 5)) (.slice (some ⟨W.heap.size, 0, none⟩) 2 2) [a, 245] := by
  refine Or.inr ⟨⟨W.heap.size, 0, none⟩, 2, rfl, Nat.le_refl _, fun i hi => ?_⟩
  have e : (⟨W.heap.size, 0, none⟩ : Addr).add i = ⟨W.heap.size, i, none⟩ := by unfold Addr.add; split <;> simp_all
  rw [e, World.cell?_alloc_new]
  match i, hi with
  | 0, _ => rfl
  | 1, _ => rfl
theorem mark_byte {i : Nat} (h : i ≤ 200) : ∀ z ∈ [(i : Int) + 1, 245], 0 ≤ z ∧ z ≤ 255 := fun z hz => by
  rcases List.mem_cons.mp hz with rfl | hz
  · omega
  · rw [List.mem_singleton.mp hz]; omega
theorem mark_bel (a : Int) (W : World) : Below W.heap.size W (W.alloc (.cells #[.int .u8 a, .int .u8 245] 5)) := (Below.refl _ _).alloc (Nat.le_refl _) _
set_option maxRecDepth 100000 in
set_option maxHeartbeats 4000000 in
theorem marked_any (n size : Nat) (w : World) (n0 : 1 ≤ n) (n1 : n ≤ 200) (s0 : 32 ≤ size) (s1 : size ≤ 512) :
    Calls Tryd.prog 8 #[.int .i64 (n : Int), .int .i64 (size : Int)] w fun e w' => ∃ r O D, e = .returned (.pointer (some ⟨r, 0, none⟩)) ∧ DskIs w' w.heap.size O r D ∧ NFd n size D ∧ D.waits = [] ∧ D.deeds ≤ 1000 ∧ Below w.heap.size w w' := by
  have HNEW := Lib.hid (fun w => bnew_6 n size w n0 (by omega) s0 s1)
  have HS := Lib.hid (And.intro s0 s1)
  clear s0 s1
  go_enter Tryd.func8, Tryd.ntmps8
  go_wp2_with (go_at_call 28; (with_reducible refine (HNEW.out _).mono ?_); rintro e w1 ⟨r, O1, rfl, d1, g1⟩; have H1 := Lib.hid d1; have G1 := Lib.hid g1; clear d1 g1)
  go_loopw [7] (fun v7 wr => ∃ (i : Nat) (O : Foot) (D : Dsk), v7 = .int .i64 (i : Int) ∧ i ≤ n ∧ DskIs wr w.heap.size O r D ∧ NFd n size D ∧ D.deeds ≤ i ∧ Below w.heap.size w wr) (fun v7 _ => n - (intOf v7).toNat)
  case atStart => exact ⟨0, O1, Dsk.new n size, rfl, Nat.zero_le _, H1.out, NFd.new n size, Nat.le_refl _, G1.out⟩
  case round =>
    obtain ⟨i, O, D, rfl, hi, hD, hnf, hde, hB⟩ := hrel
    have HD := Lib.hid hD
    have HB := Lib.hid hB
    have HNF := Lib.hid hnf
    have HDE := Lib.hid hde
    clear hD hB hnf hde
    by_cases hlt : i < n
    · have hin : (i : Int) < (n : Int) := by omega
      have hwr : IntKind.u8.wrap ((i : Int) + 1) = (i : Int) + 1 := by
        show ((i : Int) + 1) % 256 = (i : Int) + 1
        omega
      obtain ⟨wn, hwn⟩ : ∃ x, wr.heap.size = x := ⟨_, rfl⟩
      obtain ⟨wA, hwA⟩ : ∃ y, wr.alloc (.cells #[.int .u8 ((i : Int) + 1), .int .u8 245] 5) = y := ⟨_, rfl⟩
      have hA := mark_arg ((i : Int) + 1) wr
      have hb := mark_bel ((i : Int) + 1) wr
      rw [hwA, hwn] at hA
      rw [hwA] at hb
      have HDA := Lib.hid (HD.out.after hb)
      have HBA := Lib.hid (below_step HB.out hb)
      have hdd : D.deeds ≤ 1000000 := by have := HDE.out; omega
      have HW := Lib.hid (bwrite_any w.heap.size O r D (i : Int) _ [(i : Int) + 1, 245] wA HDA.out hdd (by omega) (by omega) hA (mark_byte (by omega)) (by show (2 : Int) ≤ _; decide))
      obtain ⟨q1, q2, q3⟩ := HNF.out.write (i : Int) [(i : Int) + 1, 245] (by omega) hin (by have := HS.out; show 2 ≤ size; omega)
      have Q2 := Lib.hid q2
      have Q3 := Lib.hid q3
      obtain ⟨D2, hD2⟩ : ∃ D2, (D.write (i : Int) [(i : Int) + 1, 245]).2 = D2 := ⟨_, rfl⟩
      obtain ⟨c2, hc2⟩ : ∃ c2, (D.write (i : Int) [(i : Int) + 1, 245]).1 = c2 := ⟨_, rfl⟩
      rw [hD2] at HW Q2 Q3
      rw [hc2] at HW
      clear hA hb q1 q2 q3 hD2 hc2 hdd
      go_wp2_with (go_at_call 25; (with_reducible refine (HW.out).mono ?_); rintro e w2 ⟨rfl, O2, d2, g2, k2⟩; have H2 := Lib.hid d2; have G2 := Lib.hid (HBA.out.trans g2.bel); clear d2 g2 k2)
      go_roundw
      case rel => exact ⟨i + 1, O2, D2, by go_num, hlt, H2.out, Q2.out, by have := Q3.out; have := HDE.out; omega, G2.out⟩
      case measure => simp [intOf]; omega
    · obtain rfl : i = n := by omega
      have hin : ¬ (i : Int) < (i : Int) := by omega
      have hdd : D.deeds ≤ 1000000 := by have := HDE.out; omega
      have HSY := Lib.hid (bsync_any w.heap.size O r D wr HD.out hdd)
      obtain ⟨q1, q2, q3, q4, _⟩ := HNF.out.sync
      have Q2 := Lib.hid q2
      have Q3 := Lib.hid q3
      have Q4 := Lib.hid q4
      obtain ⟨D2, hD2⟩ : ∃ D2, D.sync.2 = D2 := ⟨_, rfl⟩
      obtain ⟨c2, hc2⟩ : ∃ c2, D.sync.1 = c2 := ⟨_, rfl⟩
      rw [hD2] at HSY Q2 Q3 Q4
      rw [hc2] at HSY
      clear q1 q2 q3 q4 hD2 hc2 hdd
      go_wp2_with (go_at_call 26; (with_reducible refine (HSY.out).mono ?_); rintro e w2 ⟨rfl, O2, d2, g2, k2⟩; have H2 := Lib.hid d2; have G2 := Lib.hid (HB.out.trans g2.bel); clear d2 g2 k2)
      go_ret
      exact ⟨r, O2, D2, rfl, H2.out, Q2.out, Q3.out, by have := Q4.out; have := HDE.out; omega, G2.out⟩

theorem aw_last {D : Dsk} (hl : D.last = layL (Dsk.new 3 32).last (1 * 32, List.replicate (2 * 32) 0)) : regnL (1 * 32) (2 * 32) D.last = textL [] (2 * 32) := by
  rw [hl, text_nil]
  have h := regn_laid (lo := 1 * 32) (s := (Dsk.new 3 32).last) (x := List.replicate (2 * 32) 0) (by simp [Dsk.new])
  rw [List.length_replicate] at h
  exact h
theorem aw_on {D : Dsk} (hn : NFd 3 32 D) (hw : D.waits = []) (hl : D.last = layL (Dsk.new 3 32).last (1 * 32, List.replicate (2 * 32) 0)) : LogOn D ⟨1, 2, 32, 0, false⟩ [] :=
  ⟨by show 1 ≤ 2; decide, by rw [hn.n]; exact Nat.le_refl _, hn.size.symm, rfl, rfl, RecOk.nil _, aw_last hl, hn.dark, hw⟩
set_option maxRecDepth 100000 in
set_option maxHeartbeats 8000000 in
theorem wal_awake (w : World) (env : Env w) : Calls Tryd.prog 6 #[] w fun e w' => e = .returned (.bool true) ∧ Below w.heap.size w w' := by
  have HENV := Lib.hid env
  have HN : Hid (∀ w, Calls Tryd.prog 28 #[.int .i64 3, .int .i64 32] w fun e w' => ∃ r O, e = .returned (.tuple #[.pointer (some ⟨r, 0, none⟩), .int .i64 0]) ∧ DskIs w' w.heap.size O r (Dsk.new 3 32) ∧ Below w.heap.size w w') := fun w => bnew_6 3 32 w (by decide) (by decide) (by decide) (by decide)
  clear env
  go_enter Tryd.func6, Tryd.ntmps6
  go_wp2_with (first
    | (go_at_call 28; (with_reducible refine (HN.out _).mono ?_); rintro e w1 ⟨r, O1, rfl, d1, g1⟩; have H1 := Lib.hid (wformat_nf w.heap.size O1 r 3 32 (Dsk.new 3 32) 1 2 1 2 rfl rfl w1 (HENV.out.step g1) d1 (NFd.new 3 32) (by decide) (by decide) rfl (by decide)); have G1 := Lib.hid g1; clear d1 g1)
    | (go_at_call 10; (with_reducible refine (H1.out).mono ?_); rintro e w2 ⟨D1, rfl, n1, ws1, de1, la1, O2, d2, o2, gr2⟩; have G2 := Lib.hid (G1.out.trans o2.bel); have HON := Lib.hid (aw_on n1 ws1 la1); have HNF := Lib.hid n1; have HDE := Lib.hid de1; have H2 := Lib.hid (wopen_nf w.heap.size O2 r 3 32 D1 1 2 1 2 rfl rfl [] w2 (HENV.out.step G2.out) d2 n1 (by decide) (by decide) ws1 (Nat.le_trans de1 (by decide)) (RecOk.nil _) (aw_last la1)); clear d2 o2 gr2 n1 ws1 de1 la1)
    | (go_at_call 12; (with_reducible refine (H2.out).mono ?_); rintro e w3 ⟨O3, gb, OG, OR, rv, rfl, d3, o3, gr3, lg3, ll3, ds3, ds4⟩; have HS2 := Lib.hid G2.out.size; have G3 := Lib.hid (G2.out.trans o3.bel); have D3 := Lib.hid d3; have L3 : Hid (LogIs w3 w.heap.size OG gb r ⟨1, 2, 32, 0, false⟩) := lg3.base G2.out.size; have DS := Lib.hid ds4; obtain ⟨ra, rc, rfl⟩ := ll3.size; have HR3 := Lib.hid (wroom_any w.heap.size O3 OG gb r D1 _ w3 d3 L3.out HNF.out.size.symm (Nat.zero_le _) (by rw [HNF.out.n]; exact Nat.le_refl _)); clear d3 o3 gr3 lg3 ll3 ds3 ds4)
    | (go_at_call 19; (with_reducible refine (HR3.out).mono ?_); rintro e w4 ⟨rfl, g4⟩; have G4 := Lib.hid (below_step G3.out g4); have HC4 := const3 97 98 99 w4; have HA4 := Lib.hid (arg3 97 98 99 w4); have HB4 := Lib.hid (bel3 97 98 99 w4); have HD4 := Lib.hid ((D3.out.after g4).after HB4.out); have HL4 := Lib.hid ((L3.out.after g4).after HB4.out); have G5 := Lib.hid (below_step G4.out HB4.out); have HSZ := Lib.hid (And.intro (D3.out.after g4).own (L3.out.after g4).own); clear g4 HR3)
    | (go_at_call 13; have H6 := (wappend_nf w.heap.size O3 OG r gb 3 32 D1 _ [] _ [97, 98, 99] _ (HENV.out.step G5.out) HD4.out HL4.out (fun i hi hg => DS.out i hg hi) HON.out (Nat.le_trans HDE.out (by decide)) HNF.out HA4.out (by decide) (fun _ k hk => by cases hk; exact ⟨fun ho => Nat.lt_irrefl _ (HSZ.out.1 _ ho).2, fun ho => Nat.lt_irrefl _ (HSZ.out.2 _ ho).2⟩) (by decide)); (with_reducible refine H6.mono ?_); rintro e w6 ⟨D2, O6, OG6, rfl, n6, de6, d6, lg6, on6, bs6, ds6, o6, gr6⟩; have G6 := Lib.hid (G5.out.trans o6.bel); have D6 := Lib.hid d6; have L6 := Lib.hid lg6; have N6 := Lib.hid n6; have ON6 := Lib.hid on6; clear d6 lg6 n6 on6 bs6 ds6 o6 gr6 de6 HC4)
    | (go_at_call 17; (with_reducible refine (wused_any _ _ _ r _ _ L6.out).mono ?_); rintro e w7 ⟨rfl, g7⟩; have G7 := Lib.hid (below_step G6.out g7); have D7 := Lib.hid (D6.out.after g7); have L7 := Lib.hid (L6.out.after g7); clear g7)
    | (go_at_call 19; (with_reducible refine (wroom_any _ _ _ _ r _ _ _ D7.out L7.out ON6.out.sz (by rw [ON6.out.us]; exact ON6.out.ok.used) ON6.out.on).mono ?_); rintro e w8 ⟨rfl, g8⟩; have G8 := Lib.hid (below_step G7.out g8); clear g8))
  go_ret
  exact ⟨rfl, G8.out⟩

end Go.Proofs.YtokngnpopnfkhaaDoor
