/-
  The program's disk, walked: Crash.
-/
import Derived.Test.YtnndpainnoebgaaBlkH
import Derived.Lib.MinMax
namespace Go.Proofs.Ytnndpainnoebgaa
open Go.RowKit

/-- What a crash leaves, by how many are kept and how much of the next one. -/
theorem left_all {la : List Int} {ws : List (Nat × List Int)} {D : Dsk} (hl : D.last = la) (hw : D.waits = ws) (keep torn : Int) (h : ws.length ≤ keep.toNat) : D.left keep torn = seenAt la ws ws.length := by
  unfold Dsk.left
  rw [hw, List.getElem?_eq_none h, seenAt_all, hl]
theorem left_some {D : Dsk} (keep torn : Int) (T : Nat) (h : keep.toNat < D.waits.length) (hT : (D.waits.getD keep.toNat (0, [])).2.take torn.toNat = (D.waits.getD keep.toNat (0, [])).2.take T) :
    D.left keep torn = layL (seenAt D.last D.waits keep.toNat) ((D.waits.getD keep.toNat (0, [])).1, (D.waits.getD keep.toNat (0, [])).2.take T) := by
  unfold Dsk.left
  rw [← hT, List.getElem?_eq_getElem h, List.getD_eq_getElem?_getD, List.getElem?_eq_getElem h]
  rfl
/-- A slice of bytes, up to a place. -/
theorem bytes_to (g N cap k : Nat) (hk : k ≤ cap) : ∀ W : World, (Instr.slice 30 (.slice (some ⟨g, 0, none⟩) N cap) none (some (.int .i64 (k : Int))) none).run Try.prog W = .ok (.slice (some ⟨g, 0, none⟩) k cap) W := fun W => by
  have hs : ∀ W : World, (sizeOf (Try.prog.elem 30)).run Try.prog W = .ok 1 W := fun W => by kernel_rfl
  have := run_slice_h (P := Try.prog) W 30 (some ⟨g, 0, none⟩) N cap (by kernel_rfl) .i64 (k : Int) (by omega) (by omega)
  rw [this, hs]
  simp only [Result.andThen, Int.toNat_natCast, sliced]
  simp [Addr.add]

set_option maxRecDepth 100000 in
set_option maxHeartbeats 8000000 in
theorem bcrash_parts (base : Nat) (O : Foot) (r gl gs : Nat) (a : Option Addr) (N cap n size : Nat) (la se : List Int) (ws : List (Nat × List Int)) (deeds : Int) (B : Bool) (L : Int) (dark : Bool) (keep torn KK TT : Int) (K T : Nat) (w : World) (hN : ws.length = N) (hNw : N ≤ 2000000)
    (h : Parts w base O r gl gs (.slice a N cap) n size la se ws deeds B L dark) (hk1 : max keep 0 = KK) (hk2 : min KK (N : Int) = (K : Int)) (ht1 : max torn 0 = TT) (ht2 : min TT (size : Int) = (T : Int)) (hK : K ≤ N) (hT : T ≤ size)
    (la2 : List Int) (hla : la2 = if K < N then layL (seenAt la ws K) ((ws.getD K (0, [])).1, (ws.getD K (0, [])).2.take T) else seenAt la ws N) (Q : World → Prop)
    (hend : ∀ W, Parts W base O r gl gs (.slice a N cap) n size la2 la2 ws deeds B L dark → OnlyO base O w W → Q ((((W.setCell ⟨r, 4, none⟩ (.slice none 0 0)).setCell ⟨r, 6, none⟩ (.bool false)).setCell ⟨r, 7, none⟩ (.int .i64 0)).setCell ⟨r, 8, none⟩ (.bool false))) :
    Calls Try.prog 15 #[.pointer (some ⟨r, 0, none⟩), .int .i64 keep, .int .i64 torn] w fun e w' => e = .returned (.tuple #[]) ∧ Q w' := by
  have HEND := Lib.hid hend
  have c1 := h.dk.c1
  have c4 := h.dk.c4
  have HSET := Lib.hid (bsettle_any base O r gl gs _ n size la se ws deeds B L dark K w h (by omega) (by omega))
  have HN := Lib.hid hN
  obtain ⟨M, hM⟩ : ∃ M, n * size = M := ⟨_, rfl⟩
  have HM := Lib.hid hM
  have HB0 := Lib.hid (h.own r h.mr)
  have HMR := Lib.hid h.mr
  clear hend h hN hM
  by_cases hKN : K < N
  case neg =>
    have hKN2 : ¬ (K : Int) < (N : Int) := by omega
    obtain rfl : N = K := by omega
    rw [if_neg hKN] at hla
    rw [← hla] at HSET
    clear hla
    go_enter Try.func15, Try.ntmps15
    go_wp2_with (go_at_call 30; (with_reducible refine (HSET.out).mono ?_); rintro e wB ⟨rfl, hp2, g2⟩; have HPB := Lib.hid hp2; have GB := Lib.hid g2; have d4 := hp2.dk.c4; clear hp2 g2 c4 c1)
    have HC7 : Hid (∀ q W, JL base gs la2 wB q W → W.cell? ⟨r, 2, none⟩ = some (.slice (some ⟨gl, 0, none⟩) M M) ∧ W.cell? ⟨r, 3, none⟩ = some (.slice (some ⟨gs, 0, none⟩) M M)) := fun q W hj => by
      have e2 := hj.blk (i := r) HPB.out.dk.s (Ne.symm HPB.out.ne.2.1)
      rw [← HM.out]
      exact ⟨(World.cell?_of_block e2).trans HPB.out.dk.c2, (World.cell?_of_block e2).trans HPB.out.dk.c3⟩
    have HR7 : Hid (∀ W, JL base gs la2 wB false W → ArgB W (.slice (some ⟨gl, 0, none⟩) M M) la2 ∧ RowB W gs se) := fun W hj =>
      ⟨(HPB.out.rl.kept (hj.blk0 HPB.out.rl.lt)).whole _ _ (by rw [HPB.out.ll, HM.out]) (Nat.le_refl _), HPB.out.rs.kept (hj.blk0 HPB.out.rs.lt)⟩
    have HLL : Hid (la2.length = M) := by unfold Hid; rw [HPB.out.ll, HM.out]
    have HLS : Hid (se.length = M) := by unfold Hid; rw [HPB.out.ls, HM.out]
    have HBS : Hid (base ≤ gs) := (HPB.out.own gs HPB.out.ms).1
    have HLAY : Hid (layL se (0, la2) = la2) := lay_whole (by rw [HLL.out, HLS.out])
    have hbaseB : base ≤ wB.heap.size := by have := HPB.out.own gs HPB.out.ms; omega
    have HFIN7 : Hid (∀ W, JL base gs la2 wB true W → Parts W base O r gl gs (.slice a N cap) n size la2 la2 ws deeds B L dark ∧ OnlyO base O w W) := fun W hj =>
      ⟨HPB.out.view (hj.2 rfl) hj.only HPB.out.ll, GB.out.trans (hj.only.weak (fun i e => by rw [e]; exact HPB.out.ms)) (Grown.refl _ _)⟩
    refine wp_region_mixp 9 8 (TV [.pointer (some ⟨r, 0, none⟩), .pointer (some ⟨r, 0, none⟩), .pointer (some ⟨r, 3, none⟩), .slice (some ⟨gs, 0, none⟩) M M, .pointer (some ⟨r, 0, none⟩), .pointer (some ⟨r, 0, none⟩), .pointer (some ⟨r, 2, none⟩), .slice (some ⟨gl, 0, none⟩) M M, .int .i64 (M : Int)]) (JL base gs la2 wB) (fun _ _ => True) (by kernel_rfl) (by kernel_rfl) (by decide) (fun _ _ _ _ h _ => h) (fun _ _ _ _ _ h _ => h) (JL.keep hbaseB) JL.start ?_ ?_
    · refine ⟨?_, ?_, ?_, ?_, ?_, ?_, ?_, ?_, ?_, ?_, ?_, ?_, ?_, ?_, ?_, ?_, ?_, ?_, trivial⟩
      · intro _ u W q hj hd
        simp only [List.take_succ_cons, List.take_zero, putAll, Act.put, List.setIfInBounds_toArray, List.set_cons_succ, List.set_cons_zero, Nat.zero_add, Nat.reduceAdd]
        go_wp2
        first | exact ⟨rfl, Below.refl _ _⟩ | exact ⟨_, rfl, rfl, Below.refl _ _⟩
      · exact fun hk => absurd hk (by decide)
      · intro _ u W q hj hd
        obtain ⟨hd0, _⟩ := hd
        have e0 : u 0 = .pointer (some ⟨r, 0, none⟩) := hd0 rfl (by decide)
        simp only [List.take_succ_cons, List.take_zero, putAll, Act.put, List.setIfInBounds_toArray, List.set_cons_succ, List.set_cons_zero, Nat.zero_add, Nat.reduceAdd]
        rw [e0]
        go_wp2
        first | exact ⟨rfl, Below.refl _ _⟩ | exact ⟨_, rfl, rfl, Below.refl _ _⟩
      · exact fun hk => absurd hk (by decide)
      · intro _ u W q hj hd
        obtain ⟨hd0, _⟩ := hd
        have e0 : u 1 = .pointer (some ⟨r, 0, none⟩) := hd0 rfl (by decide)
        simp only [List.take_succ_cons, List.take_zero, putAll, Act.put, List.setIfInBounds_toArray, List.set_cons_succ, List.set_cons_zero, Nat.zero_add, Nat.reduceAdd]
        rw [e0]
        go_wp2
        first | exact ⟨rfl, Below.refl _ _⟩ | exact ⟨_, rfl, rfl, Below.refl _ _⟩
      · exact fun hk => absurd hk (by decide)
      · intro _ u W q hj hd
        obtain ⟨hd0, _⟩ := hd
        have e0 : u 2 = .pointer (some ⟨r, 3, none⟩) := hd0 rfl (by decide)
        obtain ⟨k2, k3⟩ := HC7.out q W hj
        simp only [List.take_succ_cons, List.take_zero, putAll, Act.put, List.setIfInBounds_toArray, List.set_cons_succ, List.set_cons_zero, Nat.zero_add, Nat.reduceAdd]
        rw [e0]
        go_wp2
        first | exact ⟨rfl, Below.refl _ _⟩ | exact ⟨_, rfl, rfl, Below.refl _ _⟩
      · exact fun hk => absurd hk (by decide)
      · intro _ u W q hj hd
        simp only [List.take_succ_cons, List.take_zero, putAll, Act.put, List.setIfInBounds_toArray, List.set_cons_succ, List.set_cons_zero, Nat.zero_add, Nat.reduceAdd]
        go_wp2
        first | exact ⟨rfl, Below.refl _ _⟩ | exact ⟨_, rfl, rfl, Below.refl _ _⟩
      · exact fun hk => absurd hk (by decide)
      · intro _ u W q hj hd
        obtain ⟨hd0, _⟩ := hd
        have e0 : u 4 = .pointer (some ⟨r, 0, none⟩) := hd0 rfl (by decide)
        simp only [List.take_succ_cons, List.take_zero, putAll, Act.put, List.setIfInBounds_toArray, List.set_cons_succ, List.set_cons_zero, Nat.zero_add, Nat.reduceAdd]
        rw [e0]
        go_wp2
        first | exact ⟨rfl, Below.refl _ _⟩ | exact ⟨_, rfl, rfl, Below.refl _ _⟩
      · exact fun hk => absurd hk (by decide)
      · intro _ u W q hj hd
        obtain ⟨hd0, _⟩ := hd
        have e0 : u 5 = .pointer (some ⟨r, 0, none⟩) := hd0 rfl (by decide)
        simp only [List.take_succ_cons, List.take_zero, putAll, Act.put, List.setIfInBounds_toArray, List.set_cons_succ, List.set_cons_zero, Nat.zero_add, Nat.reduceAdd]
        rw [e0]
        go_wp2
        first | exact ⟨rfl, Below.refl _ _⟩ | exact ⟨_, rfl, rfl, Below.refl _ _⟩
      · exact fun hk => absurd hk (by decide)
      · intro _ u W q hj hd
        obtain ⟨hd0, _⟩ := hd
        have e0 : u 6 = .pointer (some ⟨r, 2, none⟩) := hd0 rfl (by decide)
        obtain ⟨k2, k3⟩ := HC7.out q W hj
        simp only [List.take_succ_cons, List.take_zero, putAll, Act.put, List.setIfInBounds_toArray, List.set_cons_succ, List.set_cons_zero, Nat.zero_add, Nat.reduceAdd]
        rw [e0]
        go_wp2
        first | exact ⟨rfl, Below.refl _ _⟩ | exact ⟨_, rfl, rfl, Below.refl _ _⟩
      · exact fun hk => absurd hk (by decide)
      · exact fun hk => absurd hk (by decide)
      · intro _ u W hj hd
        obtain ⟨hd0, hd1, _⟩ := hd
        have e0 : u 3 = .slice (some ⟨gs, 0, none⟩) M M := hd0 rfl (by decide)
        have e1 : u 7 = .slice (some ⟨gl, 0, none⟩) M M := hd1 rfl (by decide)
        simp only [List.take_succ_cons, List.take_zero, putAll, Act.put, List.setIfInBounds_toArray, List.set_cons_succ, List.set_cons_zero, Nat.zero_add, Nat.reduceAdd]
        rw [e0, e1]
        refine wp_lay rfl _ _ rfl gs 0 M M rfl _ rfl la2 ((HR7.out W hj).1) se ((HR7.out W hj).2) (by rw [HLL.out]; exact Nat.le_refl _) (by rw [HLL.out, HLS.out, Nat.zero_add]; exact Nat.le_refl _) base HBS.out ?_
        intro W2 h1 h2
        rw [HLL.out]
        rw [HLAY.out] at h1
        go_wp2
        first | exact hj.laid h1 h2 | exact ⟨rfl, hj.laid h1 h2⟩ | exact ⟨_, rfl, rfl, trivial, hj.laid h1 h2⟩
    · intro u W hj hT
      have e0 : u 0 = .pointer (some ⟨r, 0, none⟩) := hT 0 (by decide)
      obtain ⟨hp7, g7⟩ := HFIN7.out W hj
      have HP7 := Lib.hid hp7
      have G7 := Lib.hid g7
      have hdk := hp7.dk
      have d4 := hdk.c4
      have d6 := hdk.c6
      have d7 := hdk.c7
      have d8 := hdk.c8
      have q4 := hdk.q 4
      have q6 := hdk.q 6
      have q7 := hdk.q 7
      have q8 := hdk.q 8
      clear hj hT hp7 g7 hdk
      simp only [List.take_succ_cons, List.take_zero, List.drop_succ_cons, List.drop_zero, putAll, Act.put, List.setIfInBounds_toArray, List.set_cons_succ, List.set_cons_zero, Nat.zero_add, Nat.reduceAdd]
      go_wp2
      go_end0
      exact ⟨rfl, HEND.out W HP7.out G7.out⟩
  case pos =>
    have hKN2 : (K : Int) < (N : Int) := by omega
    rw [if_pos hKN] at hla
    have hk0 : (0 : Int) ≤ (K : Int) := by omega
    go_enter Try.func15, Try.ntmps15
    go_wp2_with (go_at_call 30; (with_reducible refine (HSET.out).mono ?_); rintro e wr ⟨rfl, hPr, hG⟩; have HPr := Lib.hid hPr; have HG := Lib.hid hG; have d4 := hPr.dk.c4; obtain ⟨g, cap', x, e, hcap', q0, q1, _, hpg, hone⟩ := hPr.ww.one (k := K) (by rw [HN.out]; exact hKN); simp only [Value.slice.injEq] at e; obtain ⟨rfl, e2, rfl⟩ := e; clear e2; obtain ⟨p, hp⟩ : ∃ p, ws.getD K (0, []) = p := ⟨_, rfl⟩; rw [hp] at hone hla; obtain ⟨La, hLa⟩ : ∃ La, seenAt la ws K = La := ⟨_, rfl⟩; rw [hLa] at HPr hPr hla; have hfit := fit (size := size) hone.lt; have hdk := hPr.dk; have hrs := hdk.s; have hxlt := hone.row.lt; have HONE := Lib.hid hone; have HPG := Lib.hid hpg; have HLA := Lib.hid hla; have HFI := Lib.hid hfit; have HRS := Lib.hid hrs; have HXL := Lib.hid hxlt; obtain ⟨pv, hpv⟩ : ∃ y, wr.heap.size = y := ⟨_, rfl⟩; have HPV := Lib.hid hpv; obtain ⟨wA, hwA⟩ : ∃ y, wr.alloc (.cells #[.int .i64 (x.1 : Int), .slice (some ⟨x.2, 0, none⟩) size size] 57) = y := ⟨_, rfl⟩; have HA := Lib.hid hwA; clear hG hPr hone hla hfit hdk hrs hxlt hpg hp hLa c4 c1)
    have hbA : Below wr.heap.size wr wA := by rw [← HA.out]; exact (Below.refl _ _).alloc (Nat.le_refl _) _
    have hvA : Var2 wA pv (.int .i64 (x.1 : Int)) (.slice (some ⟨x.2, 0, none⟩) size size) := by rw [← HA.out]; exact Var2.fresh wr _ _ _ pv HPV.out.symm
    have hrs := HRS.out
    have hpl := HPV.out
    have hszA := hbA.size
    have hbaseA : base ≤ wA.heap.size := by have h0 := HB0.out; omega
    have hglr := HPr.out.ne.1
    have hpvgl : pv ≠ gl := by have := (HPr.out.own gl HPr.out.ml).2; omega
    have hxlt := HXL.out
    obtain ⟨pt, hpt⟩ : ∃ y, p.2.take T = y := ⟨_, rfl⟩
    have hptl : pt.length = T := by rw [← hpt, List.length_take, HONE.out.len]; omega
    have HBT : Hid (∀ W : World, (Instr.slice 30 (.slice (some ⟨x.2, 0, none⟩) size size) none (some (.int .i64 (T : Int))) none).run Try.prog W = .ok (.slice (some ⟨x.2, 0, none⟩) T size) W) := bytes_to x.2 size size T hT
    have hlay : la2 = layL La (x.1 * size, pt) := by rw [HLA.out, HONE.out.at_, hpt]
    have HCell : Hid (∀ q W, JL base gl la2 wA q W → W.cell? ⟨pv, 0, none⟩ = some (.int .i64 (x.1 : Int)) ∧ W.cell? ⟨pv, 1, none⟩ = some (.slice (some ⟨x.2, 0, none⟩) size size) ∧ W.cell? ⟨r, 1, none⟩ = some (.int .i64 (size : Int)) ∧ W.cell? ⟨r, 2, none⟩ = some (.slice (some ⟨gl, 0, none⟩) M M)) := fun q W hj => by
      have e1 := hj.blk (i := pv) hvA.s hpvgl
      have e2 := (hj.blk (i := r) (by omega) (Ne.symm hglr)).trans (hbA.block r hrs)
      refine ⟨(World.cell?_of_block e1).trans hvA.c0, (World.cell?_of_block e1).trans hvA.c1, (World.cell?_of_block e2).trans HPr.out.dk.c1, ?_⟩
      rw [← HM.out]; exact (World.cell?_of_block e2).trans HPr.out.dk.c2
    have HOF : Hid (∀ q W, JL base gl la2 wA q W → Calls Try.prog 28 #[.pointer (some ⟨r, 0, none⟩), .slice (some ⟨gl, 0, none⟩) M M, .int .i64 (x.1 : Int)] W fun e w' => e = .returned (.slice (some ⟨gl, x.1 * size, none⟩) size (M - x.1 * size)) ∧ Below W.heap.size W w') := fun q W hj =>
      bof_any r gl n size M x.1 W (HCell.out q W hj).2.2.1 HM.out HONE.out.lt HPr.out.n1 HPr.out.s1 HPr.out.s0
    have HROW : Hid (∀ W, JL base gl la2 wA false W → ArgB W (.slice (some ⟨x.2, 0, none⟩) T size) pt ∧ RowB W gl La) := fun W hj => by
      have h1 := (HONE.out.row.kept ((hj.blk0 (i := x.2) (by omega)).trans (hbA.block _ hxlt))).arg 0 T size (by rw [HONE.out.len]; omega) hT
      rw [List.drop_zero, hpt] at h1
      exact ⟨h1, HPr.out.rl.kept ((hj.blk0 (i := gl) (by have := HPr.out.rl.lt; omega)).trans (hbA.block _ HPr.out.rl.lt))⟩
    have HLEN : Hid (pt.length = T) := hptl
    have HLE : Hid (pt.length ≤ size) := by unfold Hid; omega
    have HFIT : Hid (x.1 * size + pt.length ≤ La.length) := by unfold Hid; rw [HPr.out.ll]; have := HFI.out; omega
    have HBG : Hid (base ≤ gl) := (HPr.out.own gl HPr.out.ml).1
    have HLAY6 := Lib.hid hlay
    have HMID : Hid (∀ W, JL base gl la2 wA true W → Parts W base O r gl gs (.slice (some ⟨g, 0, none⟩) N cap) n size la2 se ws deeds B L dark ∧ OnlyO base O w W) := fun W hj => by
      have hA := HPr.out.after hbA
      refine ⟨hA.last (hj.2 rfl) hj.only ?_, (HG.out.trans (OnlyO.of hbA (by have h0 := HB0.out.1; omega)) (Grown.refl _ _)).trans (hj.only.weak (fun i e => by rw [e]; exact HPr.out.ml)) (Grown.refl _ _)⟩
      rw [hlay, layL_len HFIT.out, HPr.out.ll]
    clear hbA hvA hrs hpl hszA hglr hpvgl hxlt hpt hptl hlay HPV
    refine wp_region_mixp 13 12 (TV [.pointer (some ⟨r, 0, none⟩), .pointer (some ⟨r, 0, none⟩), .pointer (some ⟨r, 0, none⟩), .pointer (some ⟨r, 2, none⟩), .slice (some ⟨gl, 0, none⟩) M M, .pointer (some ⟨pv, 0, none⟩), .int .i64 (x.1 : Int), .slice (some ⟨gl, x.1 * size, none⟩) size (M - x.1 * size), .pointer (some ⟨pv, 1, none⟩), .slice (some ⟨x.2, 0, none⟩) size size, .int .i64 (T : Int), .slice (some ⟨x.2, 0, none⟩) T size, .int .i64 (T : Int)]) (JL base gl la2 wA) (fun _ _ => True) (by kernel_rfl) (by kernel_rfl) (by decide) (fun _ _ _ _ h _ => h) (fun _ _ _ _ _ h _ => h) (JL.keep hbaseA) JL.start ?_ ?_
    · refine ⟨?_, ?_, ?_, ?_, ?_, ?_, ?_, ?_, ?_, ?_, ?_, ?_, ?_, ?_, ?_, ?_, ?_, ?_, ?_, ?_, ?_, ?_, ?_, ?_, ?_, ?_, trivial⟩
      · intro _ u W q hj hd
        simp only [List.take_succ_cons, List.take_zero, putAll, Act.put, List.setIfInBounds_toArray, List.set_cons_succ, List.set_cons_zero, Nat.zero_add, Nat.reduceAdd]
        go_wp2
        first | exact ⟨rfl, Below.refl _ _⟩ | exact ⟨_, rfl, rfl, Below.refl _ _⟩
      · exact fun hk => absurd hk (by decide)
      · intro _ u W q hj hd
        simp only [List.take_succ_cons, List.take_zero, putAll, Act.put, List.setIfInBounds_toArray, List.set_cons_succ, List.set_cons_zero, Nat.zero_add, Nat.reduceAdd]
        go_wp2
        first | exact ⟨rfl, Below.refl _ _⟩ | exact ⟨_, rfl, rfl, Below.refl _ _⟩
      · exact fun hk => absurd hk (by decide)
      · intro _ u W q hj hd
        obtain ⟨hd0, _⟩ := hd
        have e0 : u 1 = .pointer (some ⟨r, 0, none⟩) := hd0 rfl (by decide)
        simp only [List.take_succ_cons, List.take_zero, putAll, Act.put, List.setIfInBounds_toArray, List.set_cons_succ, List.set_cons_zero, Nat.zero_add, Nat.reduceAdd]
        rw [e0]
        go_wp2
        first | exact ⟨rfl, Below.refl _ _⟩ | exact ⟨_, rfl, rfl, Below.refl _ _⟩
      · exact fun hk => absurd hk (by decide)
      · intro _ u W q hj hd
        obtain ⟨hd0, _⟩ := hd
        have e0 : u 2 = .pointer (some ⟨r, 0, none⟩) := hd0 rfl (by decide)
        simp only [List.take_succ_cons, List.take_zero, putAll, Act.put, List.setIfInBounds_toArray, List.set_cons_succ, List.set_cons_zero, Nat.zero_add, Nat.reduceAdd]
        rw [e0]
        go_wp2
        first | exact ⟨rfl, Below.refl _ _⟩ | exact ⟨_, rfl, rfl, Below.refl _ _⟩
      · exact fun hk => absurd hk (by decide)
      · intro _ u W q hj hd
        obtain ⟨hd0, _⟩ := hd
        have e0 : u 3 = .pointer (some ⟨r, 2, none⟩) := hd0 rfl (by decide)
        obtain ⟨k1, k2, k3, k4⟩ := HCell.out q W hj
        simp only [List.take_succ_cons, List.take_zero, putAll, Act.put, List.setIfInBounds_toArray, List.set_cons_succ, List.set_cons_zero, Nat.zero_add, Nat.reduceAdd]
        rw [e0]
        go_wp2
        first | exact ⟨rfl, Below.refl _ _⟩ | exact ⟨_, rfl, rfl, Below.refl _ _⟩
      · exact fun hk => absurd hk (by decide)
      · intro _ u W q hj hd
        simp only [List.take_succ_cons, List.take_zero, putAll, Act.put, List.setIfInBounds_toArray, List.set_cons_succ, List.set_cons_zero, Nat.zero_add, Nat.reduceAdd]
        go_wp2
        first | exact ⟨rfl, Below.refl _ _⟩ | exact ⟨_, rfl, rfl, Below.refl _ _⟩
      · exact fun hk => absurd hk (by decide)
      · intro _ u W q hj hd
        obtain ⟨hd0, _⟩ := hd
        have e0 : u 5 = .pointer (some ⟨pv, 0, none⟩) := hd0 rfl (by decide)
        obtain ⟨k1, k2, k3, k4⟩ := HCell.out q W hj
        simp only [List.take_succ_cons, List.take_zero, putAll, Act.put, List.setIfInBounds_toArray, List.set_cons_succ, List.set_cons_zero, Nat.zero_add, Nat.reduceAdd]
        rw [e0]
        go_wp2
        first | exact ⟨rfl, Below.refl _ _⟩ | exact ⟨_, rfl, rfl, Below.refl _ _⟩
      · exact fun hk => absurd hk (by decide)
      · intro _ u W q hj hd
        obtain ⟨hd0, hd1, hd2, _⟩ := hd
        have e0 : u 0 = .pointer (some ⟨r, 0, none⟩) := hd0 rfl (by decide)
        have e1 : u 4 = .slice (some ⟨gl, 0, none⟩) M M := hd1 rfl (by decide)
        have e2 : u 6 = .int .i64 (x.1 : Int) := hd2 rfl (by decide)
        simp only [List.take_succ_cons, List.take_zero, putAll, Act.put, List.setIfInBounds_toArray, List.set_cons_succ, List.set_cons_zero, Nat.zero_add, Nat.reduceAdd]
        rw [e0, e1, e2]
        go_wp2_with (go_at_call 28; (with_reducible refine (HOF.out q W hj).mono ?_); rintro e W1 ⟨rfl, g⟩)
        exact ⟨_, rfl, rfl, g⟩
      · exact fun hk => absurd hk (by decide)
      · intro _ u W q hj hd
        simp only [List.take_succ_cons, List.take_zero, putAll, Act.put, List.setIfInBounds_toArray, List.set_cons_succ, List.set_cons_zero, Nat.zero_add, Nat.reduceAdd]
        go_wp2
        first | exact ⟨rfl, Below.refl _ _⟩ | exact ⟨_, rfl, rfl, Below.refl _ _⟩
      · exact fun hk => absurd hk (by decide)
      · intro _ u W q hj hd
        obtain ⟨hd0, _⟩ := hd
        have e0 : u 8 = .pointer (some ⟨pv, 1, none⟩) := hd0 rfl (by decide)
        obtain ⟨k1, k2, k3, k4⟩ := HCell.out q W hj
        simp only [List.take_succ_cons, List.take_zero, putAll, Act.put, List.setIfInBounds_toArray, List.set_cons_succ, List.set_cons_zero, Nat.zero_add, Nat.reduceAdd]
        rw [e0]
        go_wp2
        first | exact ⟨rfl, Below.refl _ _⟩ | exact ⟨_, rfl, rfl, Below.refl _ _⟩
      · exact fun hk => absurd hk (by decide)
      · intro _ u W q hj hd
        simp only [List.take_succ_cons, List.take_zero, putAll, Act.put, List.setIfInBounds_toArray, List.set_cons_succ, List.set_cons_zero, Nat.zero_add, Nat.reduceAdd]
        go_wp2
        first | exact ⟨rfl, Below.refl _ _⟩ | exact ⟨_, rfl, rfl, Below.refl _ _⟩
      · exact fun hk => absurd hk (by decide)
      · intro _ u W q hj hd
        obtain ⟨hd0, hd1, _⟩ := hd
        have e0 : u 9 = .slice (some ⟨x.2, 0, none⟩) size size := hd0 rfl (by decide)
        have e1 : u 10 = .int .i64 (T : Int) := hd1 rfl (by decide)
        have kb := HBT.out
        simp only [List.take_succ_cons, List.take_zero, putAll, Act.put, List.setIfInBounds_toArray, List.set_cons_succ, List.set_cons_zero, Nat.zero_add, Nat.reduceAdd]
        rw [e0, e1]
        go_wp2
        first | exact ⟨rfl, Below.refl _ _⟩ | exact ⟨_, rfl, rfl, Below.refl _ _⟩
      · exact fun hk => absurd hk (by decide)
      · exact fun hk => absurd hk (by decide)
      · intro _ u W hj hd
        obtain ⟨hd0, hd1, _, _⟩ := hd
        have e0 : u 7 = .slice (some ⟨gl, x.1 * size, none⟩) size (M - x.1 * size) := hd0 rfl (by decide)
        have e1 : u 11 = .slice (some ⟨x.2, 0, none⟩) T size := hd1 rfl (by decide)
        simp only [List.take_succ_cons, List.take_zero, putAll, Act.put, List.setIfInBounds_toArray, List.set_cons_succ, List.set_cons_zero, Nat.zero_add, Nat.reduceAdd]
        rw [e0, e1]
        refine wp_lay rfl _ _ rfl gl (x.1 * size) size (M - x.1 * size) rfl _ rfl pt ((HROW.out W hj).1) La ((HROW.out W hj).2) HLE.out HFIT.out base HBG.out ?_
        intro W2 h1 h2
        rw [HLEN.out]
        rw [← HLAY6.out] at h1
        go_wp2
        first | exact hj.laid h1 h2 | exact ⟨rfl, hj.laid h1 h2⟩ | exact ⟨_, rfl, rfl, trivial, hj.laid h1 h2⟩
    · intro u wB hj hT6
      have e0 : u 0 = .pointer (some ⟨r, 0, none⟩) := hT6 0 (by decide)
      obtain ⟨hp6, g6⟩ := HMID.out wB hj
      have HPB := Lib.hid hp6
      have GB := Lib.hid g6
      clear hj hT6 hp6 g6
      simp only [List.take_succ_cons, List.take_zero, List.drop_succ_cons, List.drop_zero, putAll, Act.put, List.setIfInBounds_toArray, List.set_cons_succ, List.set_cons_zero, Nat.zero_add, Nat.reduceAdd]
      rw [e0]
      go_wp2
      have HC7 : Hid (∀ q W, JL base gs la2 wB q W → W.cell? ⟨r, 2, none⟩ = some (.slice (some ⟨gl, 0, none⟩) M M) ∧ W.cell? ⟨r, 3, none⟩ = some (.slice (some ⟨gs, 0, none⟩) M M)) := fun q W hj => by
        have e2 := hj.blk (i := r) HPB.out.dk.s (Ne.symm HPB.out.ne.2.1)
        rw [← HM.out]
        exact ⟨(World.cell?_of_block e2).trans HPB.out.dk.c2, (World.cell?_of_block e2).trans HPB.out.dk.c3⟩
      have HR7 : Hid (∀ W, JL base gs la2 wB false W → ArgB W (.slice (some ⟨gl, 0, none⟩) M M) la2 ∧ RowB W gs se) := fun W hj =>
        ⟨(HPB.out.rl.kept (hj.blk0 HPB.out.rl.lt)).whole _ _ (by rw [HPB.out.ll, HM.out]) (Nat.le_refl _), HPB.out.rs.kept (hj.blk0 HPB.out.rs.lt)⟩
      have HLL : Hid (la2.length = M) := by unfold Hid; rw [HPB.out.ll, HM.out]
      have HLS : Hid (se.length = M) := by unfold Hid; rw [HPB.out.ls, HM.out]
      have HBS : Hid (base ≤ gs) := (HPB.out.own gs HPB.out.ms).1
      have HLAY : Hid (layL se (0, la2) = la2) := lay_whole (by rw [HLL.out, HLS.out])
      have hbaseB : base ≤ wB.heap.size := by have := HPB.out.own gs HPB.out.ms; omega
      have HFIN7 : Hid (∀ W, JL base gs la2 wB true W → Parts W base O r gl gs (.slice (some ⟨g, 0, none⟩) N cap) n size la2 la2 ws deeds B L dark ∧ OnlyO base O w W) := fun W hj =>
        ⟨HPB.out.view (hj.2 rfl) hj.only HPB.out.ll, GB.out.trans (hj.only.weak (fun i e => by rw [e]; exact HPB.out.ms)) (Grown.refl _ _)⟩
      refine wp_region_mixp 9 8 (TV [.pointer (some ⟨r, 0, none⟩), .pointer (some ⟨r, 0, none⟩), .pointer (some ⟨r, 3, none⟩), .slice (some ⟨gs, 0, none⟩) M M, .pointer (some ⟨r, 0, none⟩), .pointer (some ⟨r, 0, none⟩), .pointer (some ⟨r, 2, none⟩), .slice (some ⟨gl, 0, none⟩) M M, .int .i64 (M : Int)]) (JL base gs la2 wB) (fun _ _ => True) (by kernel_rfl) (by kernel_rfl) (by decide) (fun _ _ _ _ h _ => h) (fun _ _ _ _ _ h _ => h) (JL.keep hbaseB) JL.start ?_ ?_
      · refine ⟨?_, ?_, ?_, ?_, ?_, ?_, ?_, ?_, ?_, ?_, ?_, ?_, ?_, ?_, ?_, ?_, ?_, ?_, trivial⟩
        · intro _ u W q hj hd
          simp only [List.take_succ_cons, List.take_zero, putAll, Act.put, List.setIfInBounds_toArray, List.set_cons_succ, List.set_cons_zero, Nat.zero_add, Nat.reduceAdd]
          go_wp2
          first | exact ⟨rfl, Below.refl _ _⟩ | exact ⟨_, rfl, rfl, Below.refl _ _⟩
        · exact fun hk => absurd hk (by decide)
        · intro _ u W q hj hd
          obtain ⟨hd0, _⟩ := hd
          have e0 : u 0 = .pointer (some ⟨r, 0, none⟩) := hd0 rfl (by decide)
          simp only [List.take_succ_cons, List.take_zero, putAll, Act.put, List.setIfInBounds_toArray, List.set_cons_succ, List.set_cons_zero, Nat.zero_add, Nat.reduceAdd]
          rw [e0]
          go_wp2
          first | exact ⟨rfl, Below.refl _ _⟩ | exact ⟨_, rfl, rfl, Below.refl _ _⟩
        · exact fun hk => absurd hk (by decide)
        · intro _ u W q hj hd
          obtain ⟨hd0, _⟩ := hd
          have e0 : u 1 = .pointer (some ⟨r, 0, none⟩) := hd0 rfl (by decide)
          simp only [List.take_succ_cons, List.take_zero, putAll, Act.put, List.setIfInBounds_toArray, List.set_cons_succ, List.set_cons_zero, Nat.zero_add, Nat.reduceAdd]
          rw [e0]
          go_wp2
          first | exact ⟨rfl, Below.refl _ _⟩ | exact ⟨_, rfl, rfl, Below.refl _ _⟩
        · exact fun hk => absurd hk (by decide)
        · intro _ u W q hj hd
          obtain ⟨hd0, _⟩ := hd
          have e0 : u 2 = .pointer (some ⟨r, 3, none⟩) := hd0 rfl (by decide)
          obtain ⟨k2, k3⟩ := HC7.out q W hj
          simp only [List.take_succ_cons, List.take_zero, putAll, Act.put, List.setIfInBounds_toArray, List.set_cons_succ, List.set_cons_zero, Nat.zero_add, Nat.reduceAdd]
          rw [e0]
          go_wp2
          first | exact ⟨rfl, Below.refl _ _⟩ | exact ⟨_, rfl, rfl, Below.refl _ _⟩
        · exact fun hk => absurd hk (by decide)
        · intro _ u W q hj hd
          simp only [List.take_succ_cons, List.take_zero, putAll, Act.put, List.setIfInBounds_toArray, List.set_cons_succ, List.set_cons_zero, Nat.zero_add, Nat.reduceAdd]
          go_wp2
          first | exact ⟨rfl, Below.refl _ _⟩ | exact ⟨_, rfl, rfl, Below.refl _ _⟩
        · exact fun hk => absurd hk (by decide)
        · intro _ u W q hj hd
          obtain ⟨hd0, _⟩ := hd
          have e0 : u 4 = .pointer (some ⟨r, 0, none⟩) := hd0 rfl (by decide)
          simp only [List.take_succ_cons, List.take_zero, putAll, Act.put, List.setIfInBounds_toArray, List.set_cons_succ, List.set_cons_zero, Nat.zero_add, Nat.reduceAdd]
          rw [e0]
          go_wp2
          first | exact ⟨rfl, Below.refl _ _⟩ | exact ⟨_, rfl, rfl, Below.refl _ _⟩
        · exact fun hk => absurd hk (by decide)
        · intro _ u W q hj hd
          obtain ⟨hd0, _⟩ := hd
          have e0 : u 5 = .pointer (some ⟨r, 0, none⟩) := hd0 rfl (by decide)
          simp only [List.take_succ_cons, List.take_zero, putAll, Act.put, List.setIfInBounds_toArray, List.set_cons_succ, List.set_cons_zero, Nat.zero_add, Nat.reduceAdd]
          rw [e0]
          go_wp2
          first | exact ⟨rfl, Below.refl _ _⟩ | exact ⟨_, rfl, rfl, Below.refl _ _⟩
        · exact fun hk => absurd hk (by decide)
        · intro _ u W q hj hd
          obtain ⟨hd0, _⟩ := hd
          have e0 : u 6 = .pointer (some ⟨r, 2, none⟩) := hd0 rfl (by decide)
          obtain ⟨k2, k3⟩ := HC7.out q W hj
          simp only [List.take_succ_cons, List.take_zero, putAll, Act.put, List.setIfInBounds_toArray, List.set_cons_succ, List.set_cons_zero, Nat.zero_add, Nat.reduceAdd]
          rw [e0]
          go_wp2
          first | exact ⟨rfl, Below.refl _ _⟩ | exact ⟨_, rfl, rfl, Below.refl _ _⟩
        · exact fun hk => absurd hk (by decide)
        · exact fun hk => absurd hk (by decide)
        · intro _ u W hj hd
          obtain ⟨hd0, hd1, _⟩ := hd
          have e0 : u 3 = .slice (some ⟨gs, 0, none⟩) M M := hd0 rfl (by decide)
          have e1 : u 7 = .slice (some ⟨gl, 0, none⟩) M M := hd1 rfl (by decide)
          simp only [List.take_succ_cons, List.take_zero, putAll, Act.put, List.setIfInBounds_toArray, List.set_cons_succ, List.set_cons_zero, Nat.zero_add, Nat.reduceAdd]
          rw [e0, e1]
          refine wp_lay rfl _ _ rfl gs 0 M M rfl _ rfl la2 ((HR7.out W hj).1) se ((HR7.out W hj).2) (by rw [HLL.out]; exact Nat.le_refl _) (by rw [HLL.out, HLS.out, Nat.zero_add]; exact Nat.le_refl _) base HBS.out ?_
          intro W2 h1 h2
          rw [HLL.out]
          rw [HLAY.out] at h1
          go_wp2
          first | exact hj.laid h1 h2 | exact ⟨rfl, hj.laid h1 h2⟩ | exact ⟨_, rfl, rfl, trivial, hj.laid h1 h2⟩
      · intro u W hj hT
        have e0 : u 0 = .pointer (some ⟨r, 0, none⟩) := hT 0 (by decide)
        obtain ⟨hp7, g7⟩ := HFIN7.out W hj
        have HP7 := Lib.hid hp7
        have G7 := Lib.hid g7
        have hdk := hp7.dk
        have d4 := hdk.c4
        have d6 := hdk.c6
        have d7 := hdk.c7
        have d8 := hdk.c8
        have q4 := hdk.q 4
        have q6 := hdk.q 6
        have q7 := hdk.q 7
        have q8 := hdk.q 8
        clear hj hT hp7 g7 hdk
        simp only [List.take_succ_cons, List.take_zero, List.drop_succ_cons, List.drop_zero, putAll, Act.put, List.setIfInBounds_toArray, List.set_cons_succ, List.set_cons_zero, Nat.zero_add, Nat.reduceAdd]
        go_wp2
        go_end0
        exact ⟨rfl, HEND.out W HP7.out G7.out⟩

theorem max_nat (z : Int) : max z 0 = (z.toNat : Int) := by omega
theorem bcrash_any (base : Nat) (O : Foot) (r : Nat) (D : Dsk) (k t : Int) (w : World) (h : DskIs w base O r D) (hd : D.deeds ≤ 1000000) (_k0 : -9223372036854775808 ≤ k) (_k1 : k ≤ 9223372036854775807) (_t0 : -9223372036854775808 ≤ t) (_t1 : t ≤ 9223372036854775807) :
    Calls Try.prog 15 #[.pointer (some ⟨r, 0, none⟩), .int .i64 k, .int .i64 t] w fun e w' => e = .returned (.tuple #[]) ∧ DskTo base O r (D.crash k t) w w' := by
  have hok := h.ok
  have hcr := h.ok.crash k t
  have hown := h.own
  have hmem := h.mem
  obtain ⟨_, _, _, gl, gs, v, B, L, hp, hf, l0, l1⟩ := h
  obtain ⟨a, cap, rfl⟩ := hp.ww.size
  have hN2 : D.waits.length ≤ 1000000 := by have := hok.wd; omega
  refine (bcrash_parts base O r gl gs a D.waits.length cap D.n D.size D.last D.seen D.waits _ B L D.dark k t (k.toNat : Int) (t.toNat : Int) (min k.toNat D.waits.length) (min t.toNat D.size) w rfl (by omega) hp (max_nat k) (by omega) (max_nat t) (by omega) (by omega) (by omega) (D.left k t) ?_ (fun w' => DskTo base O r (D.crash k t) w w') ?_).mono (fun e w' h => h)
  · by_cases hk : k.toNat < D.waits.length
    · rw [if_pos (by omega), show min k.toNat D.waits.length = k.toNat by omega]
      refine left_some k t (min t.toNat D.size) hk ?_
      have hl : (D.waits.getD k.toNat (0, [])).2.length = D.size := (hok.w _ (by rw [List.getD_eq_getElem?_getD, List.getElem?_eq_getElem hk]; exact List.getElem_mem _)).2.1
      by_cases ht : t.toNat ≤ D.size
      · rw [show min t.toNat D.size = t.toNat by omega]
      · rw [List.take_of_length_le (by omega), List.take_of_length_le (by omega)]
    · rw [if_neg (by omega)]
      exact left_all rfl rfl k t (by omega)
  · intro W hW hG
    have hbr := (hown r hmem).1
    have hz := hW.clear (W' := (((W.setCell ⟨r, 4, none⟩ (.slice none 0 0)).setCell ⟨r, 6, none⟩ (.bool false)).setCell ⟨r, 7, none⟩ (.int .i64 0)).setCell ⟨r, 8, none⟩ (.bool false)) ((((hW.dk.set.1 (.slice none 0 0)).set.2.2.1 false).set.2.2.2.1 0).set.2.2.2.2 false)
      (fun i hne => (((set_else _ r 8 _ i hne).trans (set_else _ r 7 _ i hne)).trans (set_else _ r 6 _ i hne)).trans (set_else _ r 4 _ i hne)) (by simp)
    exact ⟨O, ⟨hz.own, hmem, hcr, gl, gs, _, false, 0, hz, Or.inr ⟨rfl, rfl⟩, by decide, by decide⟩, (((hG.set hmem hbr 4 _).set hmem hbr 6 _).set hmem hbr 7 _).set hmem hbr 8 _, Grown.refl _ _⟩

end Go.Proofs.Ytnndpainnoebgaa
