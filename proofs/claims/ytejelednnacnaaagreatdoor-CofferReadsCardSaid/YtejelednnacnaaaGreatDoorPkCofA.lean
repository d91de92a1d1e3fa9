/-
  Package coffer as it landed: what a coffer is; on, slotAt, logAt, nowhere, Epoch, Snapshot, Records, Room, Most: walked.
-/
import Derived.Test.YtejelednnacnaaaGreatDoorPkSltB
import Derived.Test.YtejelednnacnaaaGreatDoorPkWal
import Derived.OwnWalk
namespace Go.Proofs.YtejelednnacnaaaGreatDoor
open Go.RowKit

/-- A coffer: blocks of a slot and of a log, bytes of a block; its epoch, its snapshot, how many records, how many bytes their frames have; whether it, its slots, its log have told Down. -/
structure Cf where
  k : Nat
  m : Nat
  size : Nat
  ep : Nat
  b : List Int
  recs : Nat
  used : Nat
  down : Bool
  sd : Bool
  ld : Bool
/-- The first block of an epoch's log. -/
def logOf (k m ep : Nat) : Nat := 2 * k + ep % 2 * m
/-- The landed struct's seven cells. -/
structure CofAt (W : World) (cb gs r k m gb n : Nat) (dn : Bool) : Prop where
  c0 : W.cell? ⟨cb, 0, none⟩ = some (.pointer (some ⟨gs, 0, none⟩))
  c1 : W.cell? ⟨cb, 1, none⟩ = some (.pointer (some ⟨r, 0, none⟩))
  c2 : W.cell? ⟨cb, 2, none⟩ = some (.int .i64 (k : Int))
  c3 : W.cell? ⟨cb, 3, none⟩ = some (.int .i64 (m : Int))
  c4 : W.cell? ⟨cb, 4, none⟩ = some (.pointer (some ⟨gb, 0, none⟩))
  c5 : W.cell? ⟨cb, 5, none⟩ = some (.int .i64 (n : Int))
  c6 : W.cell? ⟨cb, 6, none⟩ = some (.bool dn)
  q : ∀ i, W.frozen? ⟨cb, i, none⟩ = false
theorem CofAt.kept {W W' : World} {cb gs r k m gb n : Nat} {dn : Bool} (h : CofAt W cb gs r k m gb n dn) (e : W'.heap[cb]? = W.heap[cb]?) : CofAt W' cb gs r k m gb n dn :=
  ⟨(World.cell?_of_block e).trans h.c0, (World.cell?_of_block e).trans h.c1, (World.cell?_of_block e).trans h.c2, (World.cell?_of_block e).trans h.c3, (World.cell?_of_block e).trans h.c4, (World.cell?_of_block e).trans h.c5, (World.cell?_of_block e).trans h.c6, fun i => (World.frozen?_of_block e).trans (h.q i)⟩
theorem CofAt.fresh (W : World) (gs r k m gb n : Nat) (dn : Bool) (t : TypeId) (cb : Nat) (hc : cb = W.heap.size) : CofAt (W.alloc (.cells #[.pointer (some ⟨gs, 0, none⟩), .pointer (some ⟨r, 0, none⟩), .int .i64 (k : Int), .int .i64 (m : Int), .pointer (some ⟨gb, 0, none⟩), .int .i64 (n : Int), .bool dn] t)) cb gs r k m gb n dn := by
  subst hc
  exact ⟨by simp, by simp, by simp, by simp, by simp, by simp, by simp, fun i => by simp [go_sem]⟩
/-- A coffer in block cb, on the disk in block r, that leans on the blocks OC alone. -/
structure CofIs (W : World) (base : Nat) (OC : Foot) (cb r : Nat) (C : Cf) : Prop where
  own : ∀ i, OC i → base ≤ i ∧ i < W.heap.size
  mem : OC cb
  ex : ∃ gs gb OS OG, CofAt W cb gs r C.k C.m gb C.recs C.down ∧ SlIs W base OS gs r ⟨0, C.k, C.size, C.ep, C.b, C.sd⟩ ∧ LogIs W base OG gb r ⟨logOf C.k C.m C.ep, C.m, C.size, C.used, C.ld⟩ ∧ (∀ i, OS i → OC i ∧ i ≠ cb) ∧ ∀ i, OG i → OC i ∧ i ≠ cb ∧ ¬ OS i
theorem CofIs.kept {W W' : World} {base : Nat} {OC : Foot} {cb r : Nat} {C : Cf} (h : CofIs W base OC cb r C) (hk : ∀ i, OC i → W'.heap[i]? = W.heap[i]?) (hs : W.heap.size ≤ W'.heap.size) : CofIs W' base OC cb r C := by
  obtain ⟨h1, h2, gs, gb, OS, OG, h3, h4, h5, h6, h7⟩ := h
  exact ⟨fun i hi => ⟨(h1 i hi).1, Nat.lt_of_lt_of_le (h1 i hi).2 hs⟩, h2, gs, gb, OS, OG, h3.kept (hk cb h2), h4.kept (fun i hi => hk i (h6 i hi).1) hs, h5.kept (fun i hi => hk i (h7 i hi).1) hs, h6, h7⟩
theorem CofIs.after {W W' : World} {base : Nat} {OC : Foot} {cb r : Nat} {C : Cf} (h : CofIs W base OC cb r C) (hb : Below W.heap.size W W') : CofIs W' base OC cb r C := h.kept (fun i hi => hb.block i (h.own i hi).2) hb.size
theorem CofIs.base {W : World} {base base' : Nat} {OC : Foot} {cb r : Nat} {C : Cf} (h : CofIs W base OC cb r C) (hb : base' ≤ base) : CofIs W base' OC cb r C := by
  obtain ⟨h1, h2, gs, gb, OS, OG, h3, h4, h5, h6, h7⟩ := h
  exact ⟨fun i hi => ⟨Nat.le_trans hb (h1 i hi).1, (h1 i hi).2⟩, h2, gs, gb, OS, OG, h3, h4.base hb, h5.base hb, h6, h7⟩

set_option maxRecDepth 100000 in
/-- What on hands back. -/
theorem cfon_results {W : World} {g : Nat} {x y z u : Value} {tmps : Array Value} (h : Var3 W g x y z) (h4 : tmps.getD 4 undef = .pointer (some ⟨g, 0, none⟩)) (h5 : tmps.getD 5 undef = u) : (results Tryz.f33 tmps).run Tryz.prog W = .ok (.tuple #[.agg #[x, y, z], u]) W := by
  rw [results_cell_tmp rfl, h4, h5]
  have e : (asAddr (Value.pointer (some ⟨g, 0, none⟩))).run Tryz.prog W = .ok ⟨g, 0, none⟩ W := rfl
  rw [e]
  show ((loadVar 76 ⟨g, 0, none⟩).run Tryz.prog W).andThen _ = _
  have e2 : (loadVar 76 ⟨g, 0, none⟩).run Tryz.prog W = .ok (.agg #[x, y, z]) W := by
    have c0 := h.c0
    have c1 := h.c1
    have c2 := h.c2
    clear h
    go_simp
  rw [e2]
  rfl
set_option maxRecDepth 100000 in
set_option maxHeartbeats 4000000 in
/-- The place, where there are blocks for all of it. -/
theorem cfon_any (base : Nat) (O : Foot) (r : Nat) (D : Dsk) (k m : Nat) (w : World) (h : DskIs w base O r D) (k1 : 1 ≤ k) (m1 : 1 ≤ m) (on : D.n / 2 = k + m) :
    Calls Tryz.prog 33 #[.pointer (some ⟨r, 0, none⟩), .int .i64 (k : Int)] w (GivesRg r k m w) := by
  have HB := Lib.hid (fun W (g : Below w.heap.size w W) => bblocks_any base O r D W (h.after g))
  have n1 := h.ok.n1
  obtain ⟨n, hnn⟩ : ∃ n, D.n = n := ⟨_, rfl⟩
  rw [hnn] at HB on n1
  have G1 := Lib.hid (below_more (Below.refl w.heap.size w) (.cells #[.pointer none, .int .i64 0, .int .i64 0] 76))
  clear h hnn
  obtain ⟨E, hE⟩ : ∃ E, k + m = E := ⟨_, rfl⟩
  have c2 : ¬ (k : Int) < 1 := by omega
  have c3 : ¬ (E : Int) ≤ (k : Int) := by omega
  have hd : (n : Int).tdiv 2 = (E : Int) := by rw [Int.tdiv_eq_ediv_of_nonneg (by omega)]; omega
  have hd2 : (n : Int) / 2 = (E : Int) := by omega
  have hw : IntKind.i64.wrap ((E : Int) - (k : Int)) = (m : Int) := by rw [IntKind.wrap_i64]; omega
  have hw2 : IntKind.i64.wrap (E : Int) = (E : Int) := by rw [IntKind.wrap_i64]; omega
  have hs : (E : Int) - (k : Int) = (m : Int) := by omega
  go_enter Tryz.func33, Tryz.ntmps33
  go_wp2_with (go_at_call 28; (with_reducible refine (HB.out _ G1.out).mono ?_); rintro e w1 ⟨rfl, g1⟩; have B1 := Lib.hid g1; have V1 := Lib.hid ((Var3.fresh w (.pointer none) (.int .i64 0) (.int .i64 0) 76 _ rfl).after g1); have d0 := V1.out.c0; have d1 := V1.out.c1; have d2 := V1.out.c2; have q0 := V1.out.q0; have q1 := V1.out.q1; have q2 := V1.out.q2; clear g1)
  (try simp only [Exit.inBlock, Exit.then])
  refine bodyPost_ret (cfon_results (x := .pointer (some ⟨r, 0, none⟩)) (y := .int .i64 (k : Int)) (z := .int .i64 (m : Int)) (u := .int .i64 0) ?_ rfl rfl) rfl ⟨rfl, ?_⟩
  · exact V1.out.put _ _ _
  · exact below_put3 (below_step G1.out B1.out) (Nat.le_refl _) _ _ _
set_option maxRecDepth 100000 in
set_option maxHeartbeats 4000000 in
/-- The first block of an epoch's log. -/
theorem cflog_any (x : Value) (k m ep : Nat) (w : World) (hk : k ≤ 1000) (hm : m ≤ 1000) :
    Calls Tryz.prog 50 #[.agg #[x, .int .i64 (k : Int), .int .i64 (m : Int)], .int .u64 (ep : Int)] w fun e w' => e = .returned (.int .i64 ((logOf k m ep : Nat) : Int)) ∧ Below w.heap.size w w' := by
  have G1 := Lib.hid (below_more (Below.refl w.heap.size w) (.cells #[x, .int .i64 (k : Int), .int .i64 (m : Int)] 76))
  have V1 := Var3.fresh w x (.int .i64 (k : Int)) (.int .i64 (m : Int)) 76 _ rfl
  have d1 := V1.c1
  have d2 := V1.c2
  unfold logOf
  obtain ⟨q, hq⟩ : ∃ q, ep % 2 = q := ⟨_, rfl⟩
  rw [hq]
  obtain ⟨p, hp⟩ : ∃ p, q * m = p := ⟨_, rfl⟩
  have hp2 : (q : Int) * (m : Int) = (p : Int) := by rw [← hp, Int.natCast_mul]
  have hpb : p ≤ 1 * 1000 := by rw [← hp]; exact Nat.mul_le_mul (by omega) hm
  rw [hp]
  have hw : (ep : Int).tmod 2 = (q : Int) := by rw [Int.tmod_eq_emod_of_nonneg (by omega)]; omega
  have hw2 : (ep : Int) % 2 = (q : Int) := by omega
  have hw3 : IntKind.i64.wrap (q : Int) = (q : Int) := by rw [IntKind.wrap_i64]; omega
  have hw4 : IntKind.i64.wrap (2 * (k : Int)) = 2 * (k : Int) := by rw [IntKind.wrap_i64]; omega
  have hw5 : IntKind.i64.wrap (p : Int) = (p : Int) := by rw [IntKind.wrap_i64]; omega
  have hw6 : IntKind.i64.wrap (2 * (k : Int) + (p : Int)) = 2 * (k : Int) + (p : Int) := by rw [IntKind.wrap_i64]; omega
  have hfin : Hid (2 * (k : Int) + (p : Int) = ((2 * k + p : Nat) : Int)) := by unfold Hid; omega
  clear V1 hq hp
  go_enter Tryz.func50, Tryz.ntmps50
  go_wp2
  go_ret
  exact ⟨by first | rfl | (rw [← hfin.out]; rfl) | (show Ending.returned (Value.int .i64 (2 * (k : Int) + (p : Int))) = _; rw [hfin.out]), G1.out⟩
set_option maxRecDepth 100000 in
set_option maxHeartbeats 4000000 in
/-- The first block of an epoch's slot. -/
theorem cfslot_any (x : Value) (k m ep : Nat) (w : World) (hk : k ≤ 1000) :
    Calls Tryz.prog 53 #[.agg #[x, .int .i64 (k : Int), .int .i64 (m : Int)], .int .u64 (ep : Int)] w fun e w' => e = .returned (.int .i64 ((ep % 2 * k : Nat) : Int)) ∧ Below w.heap.size w w' := by
  have G1 := Lib.hid (below_more (Below.refl w.heap.size w) (.cells #[x, .int .i64 (k : Int), .int .i64 (m : Int)] 76))
  have V1 := Var3.fresh w x (.int .i64 (k : Int)) (.int .i64 (m : Int)) 76 _ rfl
  have d1 := V1.c1
  obtain ⟨q, hq⟩ : ∃ q, ep % 2 = q := ⟨_, rfl⟩
  rw [hq]
  obtain ⟨p, hp⟩ : ∃ p, q * k = p := ⟨_, rfl⟩
  have hp2 : (q : Int) * (k : Int) = (p : Int) := by rw [← hp, Int.natCast_mul]
  have hpb : p ≤ 1 * 1000 := by rw [← hp]; exact Nat.mul_le_mul (by omega) hk
  rw [hp]
  have hw : (ep : Int).tmod 2 = (q : Int) := by rw [Int.tmod_eq_emod_of_nonneg (by omega)]; omega
  have hw2 : (ep : Int) % 2 = (q : Int) := by omega
  have hw3 : IntKind.i64.wrap (q : Int) = (q : Int) := by rw [IntKind.wrap_i64]; omega
  have hw5 : IntKind.i64.wrap (p : Int) = (p : Int) := by rw [IntKind.wrap_i64]; omega
  clear V1 hq hp
  go_enter Tryz.func53, Tryz.ntmps53
  go_wp2
  go_ret
  exact ⟨rfl, G1.out⟩

set_option maxRecDepth 100000 in
set_option maxHeartbeats 4000000 in
theorem cfnowhere_same (cb gs r k m gb n : Nat) (dn : Bool) (w : World) (h : CofAt w cb gs r k m gb n dn) : Calls Tryz.prog 39 #[.pointer (some ⟨cb, 0, none⟩)] w fun e w' => e = .returned (.bool false) ∧ w' = w := by
  have c1 := h.c1
  clear h
  go_enter Tryz.func39, Tryz.ntmps39
  go_wp2
  go_ret
  exact ⟨rfl, rfl⟩
set_option maxRecDepth 100000 in
set_option maxHeartbeats 4000000 in
theorem cfepoch_any (base : Nat) (OC : Foot) (cb r : Nat) (C : Cf) (w : World) (h : CofIs w base OC cb r C) : Calls Tryz.prog 23 #[.pointer (some ⟨cb, 0, none⟩)] w fun e w' => e = .returned (.int .u64 (C.ep : Int)) ∧ Below w.heap.size w w' := by
  obtain ⟨_, _, gs, gb, OS, OG, ha, hs, _, _, _⟩ := h
  have HNW := Lib.hid (cfnowhere_same cb gs r _ _ gb _ _ w ha)
  have HEP := Lib.hid (show Calls Tryz.prog 45 #[.pointer (some ⟨gs, 0, none⟩)] w fun e w' => e = .returned (.int .u64 (C.ep : Int)) ∧ Below w.heap.size w w' from sepoch_any base OS gs r _ w hs)
  have c0 := ha.c0
  clear ha hs
  go_enter Tryz.func23, Tryz.ntmps23
  go_wp2_with (first
    | (go_at_call 39; (with_reducible refine (HNW.out).mono ?_); rintro e w1 ⟨rfl, rfl⟩)
    | (go_at_call 45; (with_reducible refine (HEP.out).mono ?_); rintro e w2 ⟨rfl, g2⟩; have G2 := Lib.hid g2; clear g2))
  go_ret
  exact ⟨rfl, G2.out⟩
set_option maxRecDepth 100000 in
set_option maxHeartbeats 4000000 in
theorem cfsnap_any (base : Nat) (OC : Foot) (cb r : Nat) (C : Cf) (w : World) (h : CofIs w base OC cb r C) : Calls Tryz.prog 37 #[.pointer (some ⟨cb, 0, none⟩)] w fun e w' => ∃ v, e = .returned v ∧ ArgB w' v C.b ∧ Below w.heap.size w w' := by
  obtain ⟨_, _, gs, gb, OS, OG, ha, hs, _, _, _⟩ := h
  have HNW := Lib.hid (cfnowhere_same cb gs r _ _ gb _ _ w ha)
  have HBY := Lib.hid (show Calls Tryz.prog 51 #[.pointer (some ⟨gs, 0, none⟩)] w fun e w' => ∃ v, e = .returned v ∧ ArgB w' v C.b ∧ Below w.heap.size w w' from sbytes_any base OS gs r _ w hs)
  have c0 := ha.c0
  clear ha hs
  go_enter Tryz.func37, Tryz.ntmps37
  go_wp2_with (first
    | (go_at_call 39; (with_reducible refine (HNW.out).mono ?_); rintro e w1 ⟨rfl, rfl⟩)
    | (go_at_call 51; (with_reducible refine (HBY.out).mono ?_); rintro e w2 ⟨v, rfl, hv, g2⟩; obtain ⟨va, vc, rfl⟩ := hv.size; have G2 := Lib.hid g2; have HV := Lib.hid hv; clear g2 hv))
  go_ret
  exact ⟨_, rfl, HV.out, G2.out⟩
set_option maxRecDepth 100000 in
set_option maxHeartbeats 4000000 in
theorem cfrecs_any (base : Nat) (OC : Foot) (cb r : Nat) (C : Cf) (w : World) (h : CofIs w base OC cb r C) : Calls Tryz.prog 17 #[.pointer (some ⟨cb, 0, none⟩)] w fun e w' => e = .returned (.int .i64 (C.recs : Int)) ∧ w' = w := by
  obtain ⟨_, _, gs, gb, OS, OG, ha, _, _, _, _⟩ := h
  have HNW := Lib.hid (cfnowhere_same cb gs r _ _ gb _ _ w ha)
  have c5 := ha.c5
  clear ha
  go_enter Tryz.func17, Tryz.ntmps17
  go_wp2_with (go_at_call 39; (with_reducible refine (HNW.out).mono ?_); rintro e w1 ⟨rfl, rfl⟩)
  go_ret
  exact ⟨rfl, rfl⟩
set_option maxRecDepth 100000 in
set_option maxHeartbeats 4000000 in
theorem cfroom_any (base : Nat) (O OC : Foot) (cb r : Nat) (D : Dsk) (C : Cf) (w : World) (hd : DskIs w base O r D) (h : CofIs w base OC cb r C) (sz : C.size = D.size) (u : C.used ≤ C.m * C.size) (on : logOf C.k C.m C.ep + C.m ≤ D.n) : Calls Tryz.prog 20 #[.pointer (some ⟨cb, 0, none⟩)] w fun e w' => e = .returned (.int .i64 ((C.m * C.size : Nat) - (C.used : Nat) : Int)) ∧ Below w.heap.size w w' := by
  obtain ⟨_, _, gs, gb, OS, OG, ha, _, hl, _, _⟩ := h
  have HNW := Lib.hid (cfnowhere_same cb gs r _ _ gb _ _ w ha)
  have HRM := Lib.hid (show Calls Tryz.prog 41 #[.pointer (some ⟨gb, 0, none⟩)] w fun e w' => e = .returned (.int .i64 ((C.m * C.size : Nat) - (C.used : Nat) : Int)) ∧ Below w.heap.size w w' from wroom_any base O OG gb r D _ w hd hl sz u on)
  have c4 := ha.c4
  clear ha hl hd sz u on
  go_enter Tryz.func20, Tryz.ntmps20
  go_wp2_with (first
    | (go_at_call 39; (with_reducible refine (HNW.out).mono ?_); rintro e w1 ⟨rfl, rfl⟩)
    | (go_at_call 41; (with_reducible refine (HRM.out).mono ?_); rintro e w2 ⟨rfl, g2⟩; have G2 := Lib.hid g2; clear g2))
  go_ret
  exact ⟨rfl, G2.out⟩
set_option maxRecDepth 100000 in
set_option maxHeartbeats 4000000 in
theorem cfmost_any (base : Nat) (O OC : Foot) (cb r : Nat) (D : Dsk) (C : Cf) (w : World) (hd : DskIs w base O r D) (h : CofIs w base OC cb r C) (sz : C.size = D.size) (k1 : 1 ≤ C.k) (on : 2 * C.k ≤ D.n) : Calls Tryz.prog 22 #[.pointer (some ⟨cb, 0, none⟩)] w fun e w' => e = .returned (.int .i64 ((C.k * C.size : Nat) - 19 : Int)) ∧ Below w.heap.size w w' := by
  obtain ⟨_, _, gs, gb, OS, OG, ha, hs, _, _, _⟩ := h
  have HNW := Lib.hid (cfnowhere_same cb gs r _ _ gb _ _ w ha)
  have HMO := Lib.hid (show Calls Tryz.prog 44 #[.pointer (some ⟨gs, 0, none⟩)] w fun e w' => e = .returned (.int .i64 ((C.k * C.size : Nat) - 19 : Int)) ∧ Below w.heap.size w w' from smost_any base O OS gs r D _ w hd hs sz k1 (by show 0 + 2 * C.k ≤ D.n; omega))
  have c0 := ha.c0
  clear ha hs hd sz k1 on
  go_enter Tryz.func22, Tryz.ntmps22
  go_wp2_with (first
    | (go_at_call 39; (with_reducible refine (HNW.out).mono ?_); rintro e w1 ⟨rfl, rfl⟩)
    | (go_at_call 44; (with_reducible refine (HMO.out).mono ?_); rintro e w2 ⟨rfl, g2⟩; have G2 := Lib.hid g2; clear g2))
  go_ret
  exact ⟨rfl, G2.out⟩

end Go.Proofs.YtejelednnacnaaaGreatDoor
