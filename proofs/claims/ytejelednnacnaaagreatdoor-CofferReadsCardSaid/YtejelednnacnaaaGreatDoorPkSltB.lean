/-
  Package slots as it landed: what slots are; a pair of slots on a disk: on, length, front, slot, nowhere: walked.
-/
import Derived.Test.YtejelednnacnaaaGreatDoorPkSltA
import Derived.Test.YtejelednnacnaaaGreatDoorPkWal
import Derived.Test.YtejelednnacnaaaGreatDoorPkShelf
import Derived.Lib.QuietBelow
import Derived.OwnWalk
namespace Go.Proofs.YtejelednnacnaaaGreatDoor
open Go.RowKit

/-- Slots in block gs, on the disk in block r, that lean on the blocks OS alone. -/
structure SlIs (W : World) (base : Nat) (OS : Foot) (gs r : Nat) (G : Sl) : Prop where
  own : ∀ i, OS i → base ≤ i ∧ i < W.heap.size
  mem : OS gs
  c0 : W.cell? ⟨gs, 0, none⟩ = some (.pointer (some ⟨r, 0, none⟩))
  c1 : W.cell? ⟨gs, 1, none⟩ = some (.int .i64 (G.from_ : Int))
  c2 : W.cell? ⟨gs, 2, none⟩ = some (.int .i64 (G.n : Int))
  c3 : W.cell? ⟨gs, 3, none⟩ = some (.int .u64 (G.ep : Int))
  c4 : ∃ v, W.cell? ⟨gs, 4, none⟩ = some v ∧ ArgB W v G.b ∧ (G.b ≠ [] → ∀ k, v.ownBlock = some k → OS k ∧ k ≠ gs)
  c5 : W.cell? ⟨gs, 5, none⟩ = some (.bool G.down)
  q : ∀ i, W.frozen? ⟨gs, i, none⟩ = false
  len : G.b.length ≤ 1000000
/-- Bytes whose block stays are there. -/
theorem ArgB.stay {W W' : World} {v : Value} {b : List Int} (h : ArgB W v b) (hk : b ≠ [] → ∀ k, v.ownBlock = some k → W'.heap[k]? = W.heap[k]?) : ArgB W' v b := by
  rcases h with h | ⟨x, cap, rfl, hc, hcell⟩
  · exact Or.inl h
  · refine Or.inr ⟨x, cap, rfl, hc, fun i hi => ?_⟩
    have hne : b ≠ [] := fun e => by rw [e] at hi; cases hi
    obtain ⟨bb, off, rfl, _⟩ := arg_addr hcell (by omega)
    have e := hcell i hi
    have ea : (⟨bb, off, none⟩ : Addr).add i = ⟨bb, off + i, none⟩ := by
      unfold Addr.add
      split
      · rename_i h0
        rw [h0]
        rfl
      · rfl
    rw [ea] at e ⊢
    exact (World.cell?_of_block (hk hne bb rfl)).trans e
theorem SlIs.kept {W W' : World} {base : Nat} {OS : Foot} {gs r : Nat} {G : Sl} (h : SlIs W base OS gs r G) (hk : ∀ i, OS i → W'.heap[i]? = W.heap[i]?) (hs : W.heap.size ≤ W'.heap.size) : SlIs W' base OS gs r G := by
  have e := hk gs h.mem
  obtain ⟨v, h4, ha, ho⟩ := h.c4
  exact ⟨fun i hi => ⟨(h.own i hi).1, Nat.lt_of_lt_of_le (h.own i hi).2 hs⟩, h.mem, (World.cell?_of_block e).trans h.c0, (World.cell?_of_block e).trans h.c1, (World.cell?_of_block e).trans h.c2, (World.cell?_of_block e).trans h.c3, ⟨v, (World.cell?_of_block e).trans h4, ha.stay (fun hne k hkv => hk k (ho hne k hkv).1), ho⟩, (World.cell?_of_block e).trans h.c5, fun i => (World.frozen?_of_block e).trans (h.q i), h.len⟩
theorem SlIs.after {W W' : World} {base : Nat} {OS : Foot} {gs r : Nat} {G : Sl} (h : SlIs W base OS gs r G) (hb : Below W.heap.size W W') : SlIs W' base OS gs r G := h.kept (fun i hi => hb.block i (h.own i hi).2) hb.size
theorem SlIs.base {W : World} {base base' : Nat} {OS : Foot} {gs r : Nat} {G : Sl} (h : SlIs W base OS gs r G) (hb : base' ≤ base) : SlIs W base' OS gs r G := ⟨fun i hi => ⟨Nat.le_trans hb (h.own i hi).1, (h.own i hi).2⟩, h.mem, h.c0, h.c1, h.c2, h.c3, h.c4, h.c5, h.q, h.len⟩

set_option maxRecDepth 100000 in
set_option maxHeartbeats 4000000 in
theorem snowhere_same (base : Nat) (OS : Foot) (gs r : Nat) (G : Sl) (w : World) (hg : SlIs w base OS gs r G) : Calls Tryz.prog 58 #[.pointer (some ⟨gs, 0, none⟩)] w fun e w' => e = .returned (.bool false) ∧ w' = w := by
  have c0 := hg.c0
  clear hg
  go_enter Tryz.func58, Tryz.ntmps58
  go_wp2
  go_ret
  exact ⟨rfl, rfl⟩
set_option maxRecDepth 100000 in
set_option maxHeartbeats 4000000 in
theorem sepoch_any (base : Nat) (OS : Foot) (gs r : Nat) (G : Sl) (w : World) (hg : SlIs w base OS gs r G) : Calls Tryz.prog 45 #[.pointer (some ⟨gs, 0, none⟩)] w fun e w' => e = .returned (.int .u64 (G.ep : Int)) ∧ Below w.heap.size w w' := by
  have HNW := Lib.hid (snowhere_same base OS gs r G w hg)
  have c3 := hg.c3
  clear hg
  go_enter Tryz.func45, Tryz.ntmps45
  go_wp2_with (go_at_call 58; (with_reducible refine (HNW.out).mono ?_); rintro e w1 ⟨rfl, rfl⟩)
  go_ret
  exact ⟨rfl, Below.refl _ _⟩
set_option maxRecDepth 100000 in
set_option maxHeartbeats 4000000 in
theorem sbytes_any (base : Nat) (OS : Foot) (gs r : Nat) (G : Sl) (w : World) (hg : SlIs w base OS gs r G) : Calls Tryz.prog 51 #[.pointer (some ⟨gs, 0, none⟩)] w fun e w' => ∃ v, e = .returned v ∧ ArgB w' v G.b ∧ Below w.heap.size w w' := by
  have HNW := Lib.hid (snowhere_same base OS gs r G w hg)
  obtain ⟨v, c4, ha, _⟩ := hg.c4
  have HCL := Lib.hid (clone_any v G.b w ha hg.len)
  obtain ⟨a, c, rfl⟩ := ha.size
  obtain ⟨n, hn⟩ : ∃ n, G.b.length = n := ⟨_, rfl⟩
  rw [hn] at HCL c4
  clear hg ha hn
  go_enter Tryz.func51, Tryz.ntmps51
  go_wp2_with (first
    | (go_at_call 58; (with_reducible refine (HNW.out).mono ?_); rintro e w1 ⟨rfl, rfl⟩)
    | (go_at_call 70; (with_reducible refine (HCL.out).mono ?_); rintro e w2 ⟨u, rfl, hu, _, g2⟩; have HU := Lib.hid hu; have G2 := Lib.hid g2; clear hu g2))
  go_ret
  exact ⟨_, rfl, HU.out, G2.out⟩

set_option maxRecDepth 100000 in
set_option maxHeartbeats 4000000 in
/-- A pair's length. -/
theorem slength_any (base : Nat) (O : Foot) (r : Nat) (D : Dsk) (f k : Nat) (w : World) (h : DskIs w base O r D) (hk : k ≤ 400) :
    Calls Tryz.prog 59 #[.agg #[.pointer (some ⟨r, 0, none⟩), .int .i64 (f : Int), .int .i64 (k : Int)]] w fun e w' => e = .returned (.int .i64 ((k * D.size : Nat) : Int)) ∧ Below w.heap.size w w' := by
  have g1 := below_more (Below.refl w.heap.size w) (.cells #[.pointer (some ⟨r, 0, none⟩), .int .i64 (f : Int), .int .i64 (k : Int)] 108)
  have HS := Lib.hid (fun W (g : Below w.heap.size w W) => bsize_same base O r D W (h.after g))
  have V1 := Var3.fresh w (.pointer (some ⟨r, 0, none⟩)) (.int .i64 (f : Int)) (.int .i64 (k : Int)) 108 _ rfl
  have s1 := h.ok.s1
  obtain ⟨n, hnn⟩ : ∃ n, D.size = n := ⟨_, rfl⟩
  rw [hnn] at HS s1 ⊢
  have hm : k * n ≤ 400 * 512 := Nat.mul_le_mul hk s1
  have hw : IntKind.i64.wrap ((k : Int) * (n : Int)) = ((k * n : Nat) : Int) := by rw [← Int.natCast_mul, IntKind.wrap_i64]; omega
  have G1 := Lib.hid g1
  have d0 := V1.c0
  have d2 := V1.c2
  clear h hnn hm g1 V1
  go_enter Tryz.func59, Tryz.ntmps59
  go_wp2
  go_quiet (first | (go_at_call 25; exact Calls.quiet_of_same (HS.out _ (below_step G1.out (below_drewN (Below.refl _ _) _)))))
  have D3 := Lib.hid (below_step G1.out (below_drewN (Below.refl _ _) nq))
  generalize (w.alloc _).drewN nq = W3 at D3 ⊢
  go_wp2
  go_ret
  exact ⟨rfl, D3.out⟩
set_option maxRecDepth 100000 in
set_option maxHeartbeats 4000000 in
/-- A slot's first block. -/
theorem sfront_any (x : Value) (f k s : Nat) (w : World) (hf : f ≤ 1000) (hk : k ≤ 1000) (hs : s ≤ 2) :
    Calls Tryz.prog 76 #[.agg #[x, .int .i64 (f : Int), .int .i64 (k : Int)], .int .i64 (s : Int)] w fun e w' => e = .returned (.int .i64 ((f + s * k : Nat) : Int)) ∧ Below w.heap.size w w' := by
  have G1 := Lib.hid (below_more (Below.refl w.heap.size w) (.cells #[x, .int .i64 (f : Int), .int .i64 (k : Int)] 108))
  have V1 := Var3.fresh w x (.int .i64 (f : Int)) (.int .i64 (k : Int)) 108 _ rfl
  have d1 := V1.c1
  have d2 := V1.c2
  have hm : s * k ≤ 2 * 1000 := Nat.mul_le_mul hs hk
  have hw : IntKind.i64.wrap ((s : Int) * (k : Int)) = ((s * k : Nat) : Int) := by rw [← Int.natCast_mul, IntKind.wrap_i64]; omega
  have hw2 : IntKind.i64.wrap ((f : Int) + ((s * k : Nat) : Int)) = ((f + s * k : Nat) : Int) := by rw [IntKind.wrap_i64]; omega
  clear V1
  go_enter Tryz.func76, Tryz.ntmps76
  go_wp2
  go_ret
  exact ⟨by show Ending.returned (Value.int .i64 ((f : Int) + (s : Int) * (k : Int))) = _; rw [Int.natCast_add, Int.natCast_mul], G1.out⟩
set_option maxRecDepth 100000 in
set_option maxHeartbeats 4000000 in
/-- The slot that a snapshot goes to. -/
theorem sslot_any (e : Nat) (v : Value) (w : World) :
    Calls Tryz.prog 80 #[.agg #[.int .u64 (e : Int), v]] w fun x w' => x = .returned (.int .i64 ((e % 2 : Nat) : Int)) ∧ Below w.heap.size w w' := by
  have G1 := Lib.hid (below_more (Below.refl w.heap.size w) (.cells #[.int .u64 (e : Int), v] 110))
  have d0 : (w.alloc (.cells #[.int .u64 (e : Int), v] 110)).cell? ⟨w.heap.size, 0, none⟩ = some (.int .u64 (e : Int)) := by simp [go_sem]
  have hw : (e : Int).tmod 2 = ((e % 2 : Nat) : Int) := by rw [Int.tmod_eq_emod_of_nonneg (by omega)]; omega
  have hw2 : IntKind.i64.wrap ((e % 2 : Nat) : Int) = ((e % 2 : Nat) : Int) := by rw [IntKind.wrap_i64]; omega
  go_enter Tryz.func80, Tryz.ntmps80
  go_wp2
  go_ret
  exact ⟨by show Ending.returned (Value.int .i64 ((e : Int) % 2)) = _; rw [show ((e % 2 : Nat) : Int) = (e : Int) % 2 by omega], G1.out⟩

set_option maxRecDepth 100000 in
/-- What on hands back. -/
theorem son_results {W : World} {g : Nat} {x y z u : Value} {tmps : Array Value} (h : Var3 W g x y z) (h6 : tmps.getD 6 undef = .pointer (some ⟨g, 0, none⟩)) (h7 : tmps.getD 7 undef = u) : (results Tryz.f62 tmps).run Tryz.prog W = .ok (.tuple #[.agg #[x, y, z], u]) W := by
  rw [results_cell_tmp rfl, h6, h7]
  have e : (asAddr (Value.pointer (some ⟨g, 0, none⟩))).run Tryz.prog W = .ok ⟨g, 0, none⟩ W := rfl
  rw [e]
  show ((loadVar 108 ⟨g, 0, none⟩).run Tryz.prog W).andThen _ = _
  have e2 : (loadVar 108 ⟨g, 0, none⟩).run Tryz.prog W = .ok (.agg #[x, y, z]) W := by
    have c0 := h.c0
    have c1 := h.c1
    have c2 := h.c2
    clear h
    go_simp
  rw [e2]
  rfl
set_option maxRecDepth 100000 in
set_option maxHeartbeats 4000000 in
theorem son_not (base : Nat) (O : Foot) (r : Nat) (D : Dsk) (f k : Int) (w : World) (h : DskIs w base O r D) (hn : ¬ OnSl D.n f k) (f0 : -9223372036854775808 ≤ f) (f1 : f ≤ 9223372036854775807) (k0 : -9223372036854775808 ≤ k) (k1 : k ≤ 9223372036854775807) :
    Calls Tryz.prog 62 #[.pointer (some ⟨r, 0, none⟩), .int .i64 f, .int .i64 k] w fun e w' => e = .returned (.tuple #[.agg #[.pointer none, .int .i64 0, .int .i64 0], .int .i64 2]) ∧ Below w.heap.size w w' := by
  have HN := Lib.hid (bblocks_any base O r D w h)
  have HB := Lib.hid (fun W (g : Below w.heap.size w W) => bblocks_any base O r D W (h.after g))
  have n1 := h.ok.n1
  obtain ⟨n, hnn⟩ : ∃ n, D.n = n := ⟨_, rfl⟩
  rw [hnn] at HB hn n1
  have G1 := Lib.hid (below_more (Below.refl w.heap.size w) (.cells #[.pointer none, .int .i64 0, .int .i64 0] 108))
  clear h hnn HN
  unfold OnSl at hn
  by_cases c1 : f < 0
  · go_enter Tryz.func62, Tryz.ntmps62
    go_wp2
    (try simp only [Exit.inBlock, Exit.then])
    exact bodyPost_ret (son_results (x := .pointer none) (y := .int .i64 0) (z := .int .i64 0) (u := .int .i64 2) (Var3.fresh _ _ _ _ _ _ rfl) rfl rfl) rfl ⟨rfl, G1.out⟩
  · by_cases c2 : k < 1
    · go_enter Tryz.func62, Tryz.ntmps62
      go_wp2
      (try simp only [Exit.inBlock, Exit.then])
      exact bodyPost_ret (son_results (x := .pointer none) (y := .int .i64 0) (z := .int .i64 0) (u := .int .i64 2) (Var3.fresh _ _ _ _ _ _ rfl) rfl rfl) rfl ⟨rfl, G1.out⟩
    · have c3 : ((n : Int) - f).tdiv 2 < k := by
        rcases Int.lt_or_le ((n : Int) - f) 0 with q | q
        · have : ((n : Int) - f).tdiv 2 ≤ 0 := by
            have q2 : (0 : Int) ≤ (f - n).tdiv 2 := Int.tdiv_nonneg (by omega) (by omega)
            rw [show (n : Int) - f = -(f - n) by omega, Int.neg_tdiv]
            omega
          omega
        · rw [Int.tdiv_eq_ediv_of_nonneg q]
          omega
      have hw : IntKind.i64.wrap ((n : Int) - f) = (n : Int) - f := by rw [IntKind.wrap_i64]; omega
      clear hn
      go_enter Tryz.func62, Tryz.ntmps62
      go_wp2_with (go_at_call 28; (with_reducible refine (HB.out _ G1.out).mono ?_); rintro e w1 ⟨rfl, g1⟩; have B1 := Lib.hid g1; have V1 := Lib.hid ((Var3.fresh w (.pointer none) (.int .i64 0) (.int .i64 0) 108 _ rfl).after g1); have d0 := V1.out.c0; have d1 := V1.out.c1; have d2 := V1.out.c2; have q0 := V1.out.q0; have q1 := V1.out.q1; have q2 := V1.out.q2; clear g1)
      (try simp only [Exit.inBlock, Exit.then])
      refine bodyPost_ret (son_results (x := .pointer none) (y := .int .i64 0) (z := .int .i64 0) (u := .int .i64 2) ?_ rfl rfl) rfl ⟨rfl, ?_⟩
      · exact V1.out.put _ _ _
      · exact below_put3 (below_step G1.out B1.out) (Nat.le_refl _) _ _ _

set_option maxRecDepth 100000 in
set_option maxHeartbeats 4000000 in
theorem son_any (base : Nat) (O : Foot) (r : Nat) (D : Dsk) (f k : Nat) (w : World) (h : DskIs w base O r D) (k1 : 1 ≤ k) (on : f + 2 * k ≤ D.n) :
    Calls Tryz.prog 62 #[.pointer (some ⟨r, 0, none⟩), .int .i64 (f : Int), .int .i64 (k : Int)] w (GivesRg r f k w) := by
  have HB := Lib.hid (fun W (g : Below w.heap.size w W) => bblocks_any base O r D W (h.after g))
  have n1 := h.ok.n1
  obtain ⟨n, hnn⟩ : ∃ n, D.n = n := ⟨_, rfl⟩
  rw [hnn] at HB on n1
  have G1 := Lib.hid (below_more (Below.refl w.heap.size w) (.cells #[.pointer none, .int .i64 0, .int .i64 0] 108))
  clear h hnn
  have c1 : ¬ (f : Int) < 0 := by omega
  have c2 : ¬ (k : Int) < 1 := by omega
  have c3 : ¬ ((n : Int) - (f : Int)).tdiv 2 < (k : Int) := by rw [Int.tdiv_eq_ediv_of_nonneg (by omega)]; omega
  have hw : IntKind.i64.wrap ((n : Int) - (f : Int)) = (n : Int) - (f : Int) := by rw [IntKind.wrap_i64]; omega
  go_enter Tryz.func62, Tryz.ntmps62
  go_wp2_with (go_at_call 28; (with_reducible refine (HB.out _ G1.out).mono ?_); rintro e w1 ⟨rfl, g1⟩; have B1 := Lib.hid g1; have V1 := Lib.hid ((Var3.fresh w (.pointer none) (.int .i64 0) (.int .i64 0) 108 _ rfl).after g1); have d0 := V1.out.c0; have d1 := V1.out.c1; have d2 := V1.out.c2; have q0 := V1.out.q0; have q1 := V1.out.q1; have q2 := V1.out.q2; clear g1)
  (try simp only [Exit.inBlock, Exit.then])
  refine bodyPost_ret (son_results (x := .pointer (some ⟨r, 0, none⟩)) (y := .int .i64 (f : Int)) (z := .int .i64 (k : Int)) (u := .int .i64 0) ?_ rfl rfl) rfl ⟨rfl, ?_⟩
  · exact V1.out.put _ _ _
  · exact below_put3 (below_step G1.out B1.out) (Nat.le_refl _) _ _ _
set_option maxRecDepth 100000 in
set_option maxHeartbeats 4000000 in
theorem smost_any (base : Nat) (O OS : Foot) (gs r : Nat) (D : Dsk) (G : Sl) (w : World) (h : DskIs w base O r D) (hg : SlIs w base OS gs r G) (sz : G.size = D.size) (_n1 : 1 ≤ G.n) (on : G.from_ + 2 * G.n ≤ D.n) : Calls Tryz.prog 44 #[.pointer (some ⟨gs, 0, none⟩)] w fun e w' => e = .returned (.int .i64 ((G.n * G.size : Nat) - 19 : Int)) ∧ Below w.heap.size w w' := by
  have n1 := h.ok.n1
  have hmost := h.ok.most
  have hMn : G.n * D.size ≤ D.n * D.size := Nat.mul_le_mul_right _ (by omega)
  have HNW := Lib.hid (snowhere_same base OS gs r G w hg)
  have HLN := Lib.hid (slength_any base O r D G.from_ G.n w h (by omega))
  have c0 := hg.c0
  have c1 := hg.c1
  have c2 := hg.c2
  rw [sz]
  obtain ⟨gf, e1⟩ : ∃ x, G.from_ = x := ⟨_, rfl⟩
  obtain ⟨gn, e2⟩ : ∃ x, G.n = x := ⟨_, rfl⟩
  rw [e1] at c1
  rw [e2] at c2 hMn ⊢
  rw [e1, e2] at HLN
  obtain ⟨M, hM⟩ : ∃ M, gn * D.size = M := ⟨_, rfl⟩
  rw [hM] at HLN hMn ⊢
  have hwr : IntKind.i64.wrap ((M : Int) - 19) = (M : Int) - 19 := by rw [IntKind.wrap_i64]; omega
  have hMb : M ≤ 204800 := by omega
  clear h hg n1 hmost hMn e1 e2 hM sz on
  go_enter Tryz.func44, Tryz.ntmps44
  go_wp2_with (first
    | (go_at_call 58; (with_reducible refine (HNW.out).mono ?_); rintro e w1 ⟨rfl, rfl⟩)
    | (go_at_call 59; (with_reducible refine (HLN.out).mono ?_); rintro e w2 ⟨rfl, g2⟩; have G2 := Lib.hid g2; clear g2))
  go_ret
  exact ⟨rfl, G2.out⟩

end Go.Proofs.YtejelednnacnaaaGreatDoor
