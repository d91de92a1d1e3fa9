/-
  The statements of layer 12, walked over the contracts of package coffer's calls: awake; a coffer's state, and whether two are the same.
-/
import Derived.Test.YtejelednnacnaaaGreatDoorPkCofD
import Derived.Test.YtejelednnacnaaaGreatDoorPkSltR
import Derived.Test.YtejelednnacnaaaGreatDoorPkActs
import Derived.Test.YtejelednnacnaaaGreatDoorPkWalF
namespace Go.Proofs.YtejelednnacnaaaGreatDoor
open Go.RowKit

set_option maxRecDepth 100000 in
set_option maxHeartbeats 8000000 in
theorem cof_awake (w : World) (env : Env w) : Calls Tryz.prog 4 #[] w fun e w' => e = .returned (.bool true) ∧ Below w.heap.size w w' := by
  have HENV := Lib.hid env
  have HN : Hid (∀ w, Calls Tryz.prog 18 #[.int .i64 8, .int .i64 32] w fun e w' => ∃ r O, e = .returned (.tuple #[.pointer (some ⟨r, 0, none⟩), .int .i64 0]) ∧ DskIs w' w.heap.size O r (Dsk.new 8 32) ∧ Below w.heap.size w w') := fun w => bnew_6 8 32 w (by decide) (by decide) (by decide) (by decide)
  clear env
  go_enter Tryz.func4, Tryz.ntmps4
  go_wp2_with (first
    | (go_at_call 18; (with_reducible refine (HN.out _).mono ?_); rintro e w1 ⟨r, O1, rfl, d1, g1⟩; have H1 := Lib.hid (show Calls Tryz.prog 19 #[.pointer (some ⟨r, 0, none⟩), .int .i64 1] w1 _ from cfcreate_nf w.heap.size O1 r 8 32 (Dsk.new 8 32) 1 3 w1 (fun W g => HENV.out.step (g1.trans g)) d1 (NFd.new 8 32) (by decide) (by decide) (by decide) rfl (by decide)); have G1 := Lib.hid g1; clear d1 g1)
    | (go_at_call 19; (with_reducible refine (H1.out).mono ?_); rintro e w2 ⟨D1, O2, cb, OC, rfl, n1, ws1, de1, wi1, d2, o2, gr2, hC, dis⟩; have G2 := Lib.hid (G1.out.trans o2.bel); have HNF := Lib.hid n1; have HWS := Lib.hid (And.intro ws1 wi1); have HDE := Lib.hid de1; have D2 := Lib.hid d2; have C2 : Hid (CofIs w2 w.heap.size OC cb r ⟨1, 3, 32, 0, [], 0, 0, false, false, false⟩) := hC.base G1.out.size; have DS := Lib.hid dis; have HRM2 := Lib.hid (show Calls Tryz.prog 20 #[.pointer (some ⟨cb, 0, none⟩)] w2 fun e w' => e = .returned (.int .i64 96) ∧ Below w2.heap.size w2 w' from cfroom_any w.heap.size O2 OC cb r D1 _ w2 d2 C2.out n1.size.symm (Nat.zero_le _) (by rw [n1.n]; decide)); clear d2 o2 gr2 n1 ws1 de1 wi1 hC dis)
    | (go_at_call 20; (with_reducible refine (HRM2.out).mono ?_); rintro e w3 ⟨rfl, g3⟩; have G3 := Lib.hid (below_step G2.out g3); have HC4 := const3 97 98 99 w3; have HA4 := Lib.hid (arg3 97 98 99 w3); have HB4 := Lib.hid (bel3 97 98 99 w3); have HD4 := Lib.hid ((D2.out.after g3).after HB4.out); have HK4 := Lib.hid ((C2.out.after g3).after HB4.out); have G5 := Lib.hid (below_step G3.out HB4.out); have HSZ := Lib.hid (And.intro (D2.out.after g3).own (C2.out.after g3).own); have HON : Hid (LogOn D1 ⟨2, 3, 32, 0, false⟩ []) := ⟨by show 1 ≤ 3; decide, by rw [HNF.out.n]; decide, HNF.out.size.symm, rfl, rfl, RecOk.nil _, by rw [text_nil]; exact HWS.out.2.lg, HNF.out.dark, HWS.out.1⟩; clear g3 HRM2)
    | (go_at_call 21; have H6 := (cfappend_nf w.heap.size O2 OC r cb 8 32 D1 ⟨1, 3, 32, 0, [], 0, 0, false, false, false⟩ [] _ [97, 98, 99] _ (fun W g => HENV.out.step (G5.out.trans g)) HD4.out HK4.out rfl rfl DS.out HON.out (Nat.le_trans HDE.out (by decide)) HNF.out (by decide) HA4.out (by decide) (fun _ k hk => by cases hk; exact ⟨fun ho => Nat.lt_irrefl _ (HSZ.out.1 _ ho).2, fun ho => Nat.lt_irrefl _ (HSZ.out.2 _ ho).2⟩) (by decide)); (with_reducible refine H6.mono ?_); rintro e w6 ⟨rfl, D6, O6, OC6, n6, de6, d6, hC6, on6, dis6, o6, gr6⟩; have G6 := Lib.hid (G5.out.trans o6.bel); have C6 : Hid (CofIs w6 w.heap.size OC6 cb r ⟨1, 3, 32, 0, [], 1, 13, false, false, false⟩) := hC6; have D6' := Lib.hid d6; have N6 := Lib.hid n6; have HRM6 := Lib.hid (show Calls Tryz.prog 20 #[.pointer (some ⟨cb, 0, none⟩)] w6 fun e w' => e = .returned (.int .i64 83) ∧ Below w6.heap.size w6 w' from cfroom_any w.heap.size O6 OC6 cb r D6 _ w6 d6 hC6 n6.size.symm (by decide) (by rw [n6.n]; decide)); clear d6 hC6 n6 on6 dis6 o6 gr6 de6 HC4)
    | (go_at_call 20; (with_reducible refine (HRM6.out).mono ?_); rintro e w7 ⟨rfl, g7⟩; have G7 := Lib.hid (below_step G6.out g7); have C7 := Lib.hid (C6.out.after g7); have D7 := Lib.hid (D6'.out.after g7); have HRC := Lib.hid (show Calls Tryz.prog 17 #[.pointer (some ⟨cb, 0, none⟩)] w7 fun e w' => e = .returned (.int .i64 1) ∧ w' = w7 from cfrecs_any w.heap.size OC6 cb r _ w7 C7.out); have HMO := Lib.hid (show Calls Tryz.prog 22 #[.pointer (some ⟨cb, 0, none⟩)] w7 fun e w' => e = .returned (.int .i64 13) ∧ Below w7.heap.size w7 w' from cfmost_any w.heap.size O6 OC6 cb r D6 _ w7 D7.out C7.out N6.out.size.symm (by decide) (by rw [N6.out.n]; decide)); clear g7)
    | (go_at_call 17; (with_reducible refine (HRC.out).mono ?_); rintro e w8 ⟨rfl, rfl⟩)
    | (go_at_call 22; (with_reducible refine (HMO.out).mono ?_); rintro e w9 ⟨rfl, g9⟩; have G9 := Lib.hid (below_step G7.out g9); have HEP := Lib.hid (show Calls Tryz.prog 23 #[.pointer (some ⟨cb, 0, none⟩)] w9 fun e w' => e = .returned (.int .u64 0) ∧ Below w9.heap.size w9 w' from cfepoch_any w.heap.size OC6 cb r _ w9 (C7.out.after g9)); clear g9)
    | (go_at_call 23; (with_reducible refine (HEP.out).mono ?_); rintro e wz ⟨rfl, gz⟩; have GZ := Lib.hid (below_step G9.out gz); clear gz))
  go_ret
  exact ⟨rfl, GZ.out⟩

/-- A state's value: an epoch, a snapshot's bytes, records. -/
def StV (w : World) (x : Value) (m : Nat × List Int) (L : List (List Int)) : Prop :=
  m.1 ≤ 18446744073709551615 ∧ ∃ a c a2 c2, x = .agg #[.int .u64 (m.1 : Int), .slice a m.2.length c, .slice a2 L.length c2] ∧ ArgB w (.slice a m.2.length c) m.2 ∧ ArgLL w (.slice a2 L.length c2) L
theorem StV.below {w w' : World} {x : Value} {m : Nat × List Int} {L : List (List Int)} (h : StV w x m L) (hb : Below w.heap.size w w') : StV w' x m L := by
  obtain ⟨h1, a, c, a2, c2, rfl, h2, h3⟩ := h
  exact ⟨h1, a, c, a2, c2, rfl, h2.below hb, h3.below hb⟩
theorem load_state {W : World} {g : Nat} {x y z : Value} (h : Var3 W g x y z) : (loadVar 39 ⟨g, 0, none⟩).run Tryz.prog W = .ok (.agg #[x, y, z]) W := by
  have c0 := h.c0
  have c1 := h.c1
  have c2 := h.c2
  clear h
  go_simp
set_option maxRecDepth 100000 in
theorem state_results {fn : Func} {p : Tmp} {ty : TypeId} {W : World} {g : Nat} {x y z : Value} {tmps : Array Value} (hty : ty = 39) (hr : fn.results = #[.cell p ty]) (h : Var3 W g x y z) (hp : tmps.getD p undef = .pointer (some ⟨g, 0, none⟩)) : (results fn tmps).run Tryz.prog W = .ok (.agg #[x, y, z]) W := by
  subst hty
  have e : (asAddr (Value.pointer (some ⟨g, 0, none⟩))).run Tryz.prog W = .ok ⟨g, 0, none⟩ W := rfl
  have hp' : tmps[p]?.getD undef = .pointer (some ⟨g, 0, none⟩) := by simpa using hp
  simp only [results, hr]
  simp [Sem.run_bind, Result.andThen, hp', e, load_state h]
set_option maxRecDepth 100000 in
set_option maxHeartbeats 8000000 in
/-- The state of a coffer whose records are these. -/
theorem lstate_any (base : Nat) (OC : Foot) (cb r : Nat) (C : Cf) (lv : Value) (rs : List (List Int)) (w : World) (h : CofIs w base OC cb r C) (hl : ArgLL w lv rs) (he : C.ep ≤ 18446744073709551615) :
    Calls Tryz.prog 15 #[.pointer (some ⟨cb, 0, none⟩), lv] w fun e w' => ∃ x, e = .returned x ∧ StV w' x (C.ep, C.b) rs ∧ Below w.heap.size w w' := by
  have G1 := Lib.hid (below_more (Below.refl w.heap.size w) (.cells #[.int .u64 0, .slice none 0 0, .slice none 0 0] 39))
  have V1 := Lib.hid (Var3.fresh w (.int .u64 0) (.slice none 0 0) (.slice none 0 0) 39 _ rfl)
  have HEP := Lib.hid (fun W (g : Below w.heap.size w W) => cfepoch_any base OC cb r C W (h.after g))
  have HBY := Lib.hid (fun W (g : Below w.heap.size w W) => cfsnap_any base OC cb r C W (h.after g))
  have HE := Lib.hid he
  have HL := Lib.hid hl
  obtain ⟨la, lc, rfl⟩ := hl.size
  clear h he hl
  go_enter Tryz.func15, Tryz.ntmps15
  go_wp2_with (first
    | (go_at_call 23; (with_reducible refine (HEP.out _ G1.out).mono ?_); rintro e w2 ⟨rfl, g2⟩; have G2 := Lib.hid (below_step G1.out g2); have V2 := Lib.hid (V1.out.after g2); clear g2)
    | (go_at_call 37; (with_reducible refine (HBY.out _ G2.out).mono ?_); rintro e w3 ⟨v, rfl, hA, g3⟩; obtain ⟨a, c, hve⟩ := hA.size; subst hve; have HA := Lib.hid hA; have G3 := Lib.hid (below_step G2.out g3); have V3 := Lib.hid (V2.out.after g3); have d0 := V3.out.c0; have d1 := V3.out.c1; have d2 := V3.out.c2; have q0 := V3.out.q0; have q1 := V3.out.q1; have q2 := V3.out.q2; clear g3 hA))
  (try simp only [Exit.inBlock, Exit.then])
  refine bodyPost_ret (state_results (x := .int .u64 (C.ep : Int)) (y := .slice a C.b.length c) (z := .slice la rs.length lc) rfl rfl ?_ rfl) rfl ⟨_, rfl, ?_, ?_⟩
  · exact V3.out.put _ _ _
  · refine ⟨HE.out, a, c, la, lc, rfl, ?_, ?_⟩
    · have h1 := HA.out.set d0 (fun z => by simp) (.int .u64 (C.ep : Int))
      have c1' : (w3.setCell ⟨w.heap.size, 0, none⟩ (.int .u64 (C.ep : Int))).cell? ⟨w.heap.size, 1, none⟩ = some (.slice none 0 0) := by simp [go_sem, d1]
      have h2 := h1.set c1' (fun z => by simp) (.slice a C.b.length c)
      have c2' : ((w3.setCell ⟨w.heap.size, 0, none⟩ (.int .u64 (C.ep : Int))).setCell ⟨w.heap.size, 1, none⟩ (.slice a C.b.length c)).cell? ⟨w.heap.size, 2, none⟩ = some (.slice none 0 0) := by simp [go_sem, d2]
      exact h2.set c2' (fun z => by simp) _
    · have b1 : Below w.heap.size w (put3 w3 w.heap.size (.int .u64 (C.ep : Int)) (.slice a C.b.length c) (.slice la rs.length lc)) := below_put3 G3.out (Nat.le_refl _) _ _ _
      exact HL.out.below b1
  · exact below_put3 G3.out (Nat.le_refl _) _ _ _
set_option maxRecDepth 100000 in
set_option maxHeartbeats 8000000 in
/-- Two states that are the same. -/
theorem rcfsame_yes (x y : Value) (m : Nat × List Int) (L : List (List Int)) (w : World) (h1 : StV w x m L) (h2 : StV w y m L) (hm : ∀ z ∈ m.2, 0 ≤ z ∧ z ≤ 255) (hL : ∀ l ∈ L, ∀ z ∈ l, 0 ≤ z ∧ z ≤ 255) (hll : L.length ≤ 100000000) :
    Calls Tryz.prog 14 #[x, y] w fun e w' => e = .returned (.bool true) ∧ Below w.heap.size w w' := by
  obtain ⟨he, a, c, a2, c2, rfl, p1, p2⟩ := h1
  obtain ⟨_, a', c', a2', c2', rfl, p1', p2'⟩ := h2
  have G2 := below_more (below_more (Below.refl w.heap.size w) (.cells #[.int .u64 (m.1 : Int), .slice a m.2.length c, .slice a2 L.length c2] 39)) (.cells #[.int .u64 (m.1 : Int), .slice a' m.2.length c', .slice a2' L.length c2'] 39)
  have HG := Lib.hid G2
  have HS1 := Lib.hid (show Calls Tryz.prog 35 #[.agg #[.int .u64 (m.1 : Int), .slice a m.2.length c], .agg #[.int .u64 (m.1 : Int), .slice a' m.2.length c']] _ fun e w' => e = .returned (.bool true) ∧ Below _ _ w' from by
    have q := rssame_any (.agg #[.int .u64 (m.1 : Int), .slice a m.2.length c]) (.agg #[.int .u64 (m.1 : Int), .slice a' m.2.length c']) m m _ ⟨he, a, c, rfl, p1.below G2⟩ ⟨he, a', c', rfl, p1'.below G2⟩ hm hm
    rw [decide_eq_true (rfl : m = m)] at q
    exact q)
  have HS2 := Lib.hid (fun W (g : Below w.heap.size w W) => same_yes _ _ L W (p2.below g) (p2'.below g) hL hll)
  obtain ⟨me, hme⟩ : ∃ x, m.1 = x := ⟨_, rfl⟩
  obtain ⟨mn, hmn⟩ : ∃ x, m.2.length = x := ⟨_, rfl⟩
  obtain ⟨ln, hln⟩ : ∃ x, L.length = x := ⟨_, rfl⟩
  rw [hme, hmn, hln] at HS1 HG ⊢
  rw [hln] at HS2
  clear he p1 p2 p1' p2' hm hL hll G2 hme hmn hln
  go_enter Tryz.func14, Tryz.ntmps14
  go_wp2_with (first
    | (go_at_call 35; (with_reducible refine (HS1.out).mono ?_); rintro e w3 ⟨rfl, g3⟩; have G3 := Lib.hid (below_step HG.out g3); have x0 := (((Var3.fresh w (.int .u64 (me : Int)) (.slice a mn c) (.slice a2 ln c2) 39 _ rfl).alloc (.cells #[.int .u64 (me : Int), .slice a' mn c', .slice a2' ln c2'] 39)).after g3).c2; have x1 := ((Var3.fresh (w.alloc (.cells #[.int .u64 (me : Int), .slice a mn c, .slice a2 ln c2] 39)) (.int .u64 (me : Int)) (.slice a' mn c') (.slice a2' ln c2') 39 (w.heap.size + 1) (by simp)).after g3).c2; clear g3)
    | (go_at_call 36; (with_reducible refine (HS2.out _ G3.out).mono ?_); rintro e w4 ⟨rfl, g4⟩; have G4 := Lib.hid (below_step G3.out g4); clear g4))
  go_ret
  exact ⟨rfl, G4.out⟩

end Go.Proofs.YtejelednnacnaaaGreatDoor
