/-
  Package coffer as it landed, where no fuse burns: wipe, Create, Append: walked.
-/
import Derived.Test.YtejelednnacnaaaGreatDoorPkCofC
import Derived.Test.YtejelednnacnaaaGreatDoorPkSltE
import Derived.Test.YtejelednnacnaaaGreatDoorPkWalE
import Derived.Test.YtejelednnacnaaaGreatDoorPkMarkB
import Derived.Test.YtejelednnacnaaaGreatDoorPkMixes
namespace Go.Proofs.YtejelednnacnaaaGreatDoor
open Go.RowKit

theorem disk_step {base : Nat} {O Oc O' : Foot} {w Wc W w' : World} (ho : OnlyO base O w Wc) (hg : Grown O Oc w.heap.size) (hbl : base ≤ w.heap.size) (hb : Below Wc.heap.size Wc W) (o' : OnlyO base Oc W w') (g' : Grown Oc O' W.heap.size) : OnlyO base O w w' ∧ Grown O O' w.heap.size := by
  have s1 := ho.size
  have s2 := hb.size
  exact ⟨ho.trans ((OnlyO.of hb (Nat.le_trans hbl s1) : OnlyO base Oc Wc W).trans o' (Grown.refl _ _)) hg, hg.trans g' (Nat.le_trans s1 s2)⟩
/-- What formatting a region has made. -/
def GivesWf (base : Nat) (O : Foot) (r n size : Nat) (D : Dsk) (f k : Nat) (w : World) (e : Ending) (w' : World) : Prop :=
  ∃ D', e = .returned (.int .i64 0) ∧ NFd n size D' ∧ D'.waits = [] ∧ D'.deeds ≤ D.deeds + 1000 ∧ D'.last = layL D.last (f * size, List.replicate (k * size) 0) ∧ DskTo base O r D' w w'
/-- All 0, as the coffer has it. -/
structure Wiped (k m size : Nat) (D : Dsk) : Prop where
  sl : slotsL 0 (k * size) D.last = (0, [])
  lg : regnL (2 * k * size) (m * size) D.last = List.replicate (m * size) 0
theorem wiped_end {n size k m : Nat} {D1 D2 D3 D4 : Dsk} (ok2 : D1.Ok) (ok4 : D3.Ok) (n1 : NFd n size D1) (n3 : NFd n size D3) (on : 2 * k + 2 * m ≤ n) (l2 : D2.last = layL D1.last (2 * k * size, List.replicate (m * size) 0)) (s3 : slotsL (0 * size) (k * size) D3.last = (0, [])) (b3 : Beside (0 * size) (k * size + k * size) D2.last D3.last) (l4 : D4.last = layL D3.last ((2 * k + m) * size, List.replicate (m * size) 0)) : Wiped k m size D4 := by
  have hM : (2 * k + m) * size = 2 * k * size + m * size := Nat.add_mul _ _ _
  have hN : (2 * k + m + m) * size ≤ n * size := Nat.mul_le_mul_right _ (by omega)
  rw [Nat.add_mul, hM] at hN
  have hK : 2 * k * size = k * size + k * size := by rw [Nat.mul_assoc, Nat.two_mul]
  have q1 := ok2.ll
  have q3 := ok4.ll
  rw [n1.n, n1.size] at q1
  rw [n3.n, n3.size] at q3
  obtain ⟨r2, _⟩ := laid_reg (lo := 2 * k * size) (M := m * size) (by simp) (by omega) l2
  obtain ⟨_, b4⟩ := laid_reg (lo := (2 * k + m) * size) (M := m * size) (by simp) (by omega) l4
  rw [Nat.zero_mul] at s3 b3
  refine ⟨?_, ?_⟩
  · unfold slotsL at s3 ⊢
    rw [beside_ahead (a := 0) (N := k * size) b4 (by omega), beside_ahead (a := 0 + k * size) (N := k * size) b4 (by omega)]
    exact s3
  · rw [beside_ahead (a := 2 * k * size) (N := m * size) b4 (by omega), beside_behind (a := 2 * k * size) (N := m * size) b3 (by omega)]
    exact r2
set_option maxRecDepth 100000 in
set_option maxHeartbeats 8000000 in
theorem cfwipe_nf (base : Nat) (O : Foot) (r n size : Nat) (D : Dsk) (k m : Nat) (w : World) (env : ∀ W, Below base w W → Env W) (h : DskIs w base O r D) (hn : NFd n size D) (k1 : 1 ≤ k) (m1 : 1 ≤ m) (on : 2 * k + 2 * m ≤ n) (hw : D.waits = []) (hd : D.deeds ≤ 800000) :
    Calls Tryz.prog 40 #[.agg #[.pointer (some ⟨r, 0, none⟩), .int .i64 (k : Int), .int .i64 (m : Int)]] w fun e w' => ∃ D', e = .returned (.int .i64 0) ∧ NFd n size D' ∧ D'.waits = [] ∧ D'.deeds ≤ D.deeds + 4000 ∧ Wiped k m size D' ∧ DskTo base O r D' w w' := by
  obtain ⟨ep, hep⟩ : ∃ x, (slotsL (0 * size) (k * size) D.last).1 = x := ⟨_, rfl⟩
  obtain ⟨b, hb⟩ : ∃ x, (slotsL (0 * size) (k * size) D.last).2 = x := ⟨_, rfl⟩
  obtain ⟨q, hq⟩ : ∃ q, ep % 2 = q := ⟨_, rfl⟩
  obtain ⟨el, he1⟩ : ∃ x, 1 - q = x := ⟨_, rfl⟩
  obtain ⟨f0, hf0⟩ : ∃ x, el % 2 * k = x := ⟨_, rfl⟩
  obtain ⟨f1, hf1⟩ : ∃ x, logOf k m 0 = x := ⟨_, rfl⟩
  obtain ⟨f2, hf2⟩ : ∃ x, logOf k m 1 = x := ⟨_, rfl⟩
  have hf0b : f0 + k ≤ n := by
    have : el % 2 * k ≤ 1 * k := Nat.mul_le_mul_right _ (by omega)
    omega
  have hf1e : f1 = 2 * k := by rw [← hf1]; unfold logOf; omega
  have hf2e : f2 = 2 * k + m := by rw [← hf2]; unfold logOf; omega
  have HFE := Lib.hid (And.intro hf1e hf2e)
  have n4 := h.ok.n1
  rw [hn.n] at n4
  have hbase : base ≤ w.heap.size := by have := h.own r h.mem; omega
  have HBA := Lib.hid hbase
  have HOK := Lib.hid h.ok
  have HDD := Lib.hid h
  have HNN := Lib.hid (And.intro hn (And.intro hw (And.intro hd on)))
  have HKM := Lib.hid (And.intro k1 (And.intro m1 hf0b))
  have HSO := Lib.hid (fun W (g : Below w.heap.size w W) => (show Calls Tryz.prog 48 #[.pointer (some ⟨r, 0, none⟩), .int .i64 0, .int .i64 (k : Int)] W fun e w' => ∃ gs OS, e = .returned (.tuple #[.pointer (some ⟨gs, 0, none⟩), .int .i64 0]) ∧ Below W.heap.size W w' ∧ SlIs w' W.heap.size OS gs r ⟨0, k, size, ep, b, false⟩ from sopen_nf base O r n size D 0 k 0 k rfl rfl ep b W (env W (g.mono hbase)) (h.after g) hn k1 (by omega) hw (by omega) (by rw [← hep, ← hb])))
  have HS0 : Hid (∀ W, Calls Tryz.prog 53 #[.agg #[.pointer (some ⟨r, 0, none⟩), .int .i64 (k : Int), .int .i64 (m : Int)], .int .u64 (el : Int)] W fun e w' => e = .returned (.int .i64 (f0 : Int)) ∧ Below W.heap.size W w') := fun W => by
    have x := cfslot_any (.pointer (some ⟨r, 0, none⟩)) k m el W (by omega)
    rw [hf0] at x
    exact x
  have HL0 : Hid (∀ W, Calls Tryz.prog 50 #[.agg #[.pointer (some ⟨r, 0, none⟩), .int .i64 (k : Int), .int .i64 (m : Int)], .int .u64 0] W fun e w' => e = .returned (.int .i64 (f1 : Int)) ∧ Below W.heap.size W w') := fun W => by
    have x := cflog_any (.pointer (some ⟨r, 0, none⟩)) k m 0 W (by omega) (by omega)
    rw [hf1] at x
    exact x
  have HL1 : Hid (∀ W, Calls Tryz.prog 50 #[.agg #[.pointer (some ⟨r, 0, none⟩), .int .i64 (k : Int), .int .i64 (m : Int)], .int .u64 1] W fun e w' => e = .returned (.int .i64 (f2 : Int)) ∧ Below W.heap.size W w') := fun W => by
    have x := cflog_any (.pointer (some ⟨r, 0, none⟩)) k m 1 W (by omega) (by omega)
    rw [hf2] at x
    exact x
  have HWF : Hid (∀ (Oc : Foot) (Dc : Dsk) (f c : Nat) (W : World), DskIs W base Oc r Dc → Below base w W → NFd n size Dc → 1 ≤ c → f + c ≤ n → Dc.waits = [] → Dc.deeds ≤ 900000 → Calls Tryz.prog 52 #[.pointer (some ⟨r, 0, none⟩), .int .i64 (f : Int), .int .i64 (c : Int)] W (GivesWf base Oc r n size Dc f c W)) := fun Oc Dc f c W h1 h2 h3 h4 h5 h6 h7 => wformat_nf base Oc r n size Dc f c f c rfl rfl W (env W h2) h1 h3 h4 h5 h6 h7
  have HSF : Hid (∀ (Oc : Foot) (Dc : Dsk) (W : World), DskIs W base Oc r Dc → Below base w W → NFd n size Dc → Dc.waits = [] → Dc.deeds ≤ 900000 → Calls Tryz.prog 54 #[.pointer (some ⟨r, 0, none⟩), .int .i64 0, .int .i64 (k : Int)] W fun e w' => ∃ D', e = .returned (.int .i64 0) ∧ NFd n size D' ∧ D'.waits = [] ∧ D'.deeds ≤ Dc.deeds + 1000 ∧ slotsL (0 * size) (k * size) D'.last = (0, []) ∧ Beside (0 * size) (k * size + k * size) Dc.last D'.last ∧ DskTo base Oc r D' W w') := fun Oc Dc W h1 h2 h3 h6 h7 => sformat_nf base Oc r n size Dc 0 k 0 k rfl rfl W (env W h2) h1 h3 k1 (by omega) h6 h7
  have i1 : (ep : Int).tmod 2 = (q : Int) := by rw [Int.tmod_eq_emod_of_nonneg (by omega)]; omega
  have i2 : (ep : Int) % 2 = (q : Int) := by omega
  have i3 : IntKind.u64.wrap (1 - (q : Int)) = (el : Int) := by rw [IntKind.wrap_u64]; omega
  have i4 : (1 : Int) - (q : Int) = (el : Int) := by omega
  obtain ⟨pb, hpb⟩ : ∃ x, w.heap.size = x := ⟨_, rfl⟩
  have HPW := Lib.hid hpb
  obtain ⟨wA, hwA⟩ : ∃ y, w.alloc (.cells #[.pointer (some ⟨r, 0, none⟩), .int .i64 (k : Int), .int .i64 (m : Int)] 76) = y := ⟨_, rfl⟩
  have HA : Hid (Below w.heap.size w wA) := by rw [← hwA]; exact below_more (Below.refl _ _) _
  have HSZ : Hid (wA.heap.size = pb + 1) := by unfold Hid; rw [← hwA, ← hpb]; simp
  have VP0 : Var3 wA pb (.pointer (some ⟨r, 0, none⟩)) (.int .i64 (k : Int)) (.int .i64 (m : Int)) := by rw [← hwA]; exact Var3.fresh w _ _ _ _ pb hpb.symm
  have HVA := Lib.hid VP0
  have NP0 : Hid (¬ O pb) := fun x => by have := (h.own pb x).2; omega
  have q0 := VP0.c0
  have q1 := VP0.c1
  have HS1 := Lib.hid (HSO.out wA HA.out)
  clear hep hb hq he1 hf0 hf1 hf2 hf0b hf1e hf2e n4 hbase env h hn k1 m1 on hw hd VP0 HSO
  go_enter Tryz.func40, Tryz.ntmps40
  go_upto_region 5 with (first
    | (go_at_call 48; (with_reducible refine (HS1.out).mono ?_); rintro e w2 ⟨gs, OS, rfl, g2, sl⟩; have HV2 := Lib.hid (HVA.out.after g2); have HS2 := Lib.hid g2.size; have G2 := Lib.hid (below_step HA.out g2); have HEP := Lib.hid (show Calls Tryz.prog 45 #[.pointer (some ⟨gs, 0, none⟩)] w2 fun e w' => e = .returned (.int .u64 (ep : Int)) ∧ Below w2.heap.size w2 w' from sepoch_any _ OS gs r _ w2 sl); clear g2 sl q0 q1)
    | (go_at_call 45; (with_reducible refine (HEP.out).mono ?_); rintro e w3 ⟨rfl, g3⟩; have HV3 := Lib.hid (HV2.out.after g3); have G3 := Lib.hid (below_step G2.out g3); have HS3 : Hid (pb < w3.heap.size) := (by have x1 := HSZ.out; have x2 := HS2.out; have x3 := g3.size; unfold Hid; omega); clear g3))
  refine wp_region_mix 7 (TLst [.pointer (some ⟨pb, 0, none⟩), .pointer (some ⟨r, 0, none⟩), .agg #[.pointer (some ⟨r, 0, none⟩), .int .i64 (k : Int), .int .i64 (m : Int)], .int .u64 (el : Int), .int .i64 (f0 : Int), .pointer (some ⟨pb, 1, none⟩), .int .i64 (k : Int)]) (fun _ => false) (by kernel_rfl) (by kernel_rfl) (fun _ _ _ _ h _ => h) (fun _ _ _ h => by cases h) ?_ ?_
  · simp only [List.take_succ_cons, List.take_zero]
    refine (StepsAll.cons ?_ (StepsAll.cons ?_ (StepsAll.cons ?_ (StepsAll.cons ?_ (StepsAll.cons ?_ (StepsAll.cons ?_ (StepsAll.cons ?_ StepsAll.nil)))))))
    · intro u W hb hd
      simp only [putAll, Act.put, List.setIfInBounds_toArray, List.set_cons_succ, List.set_cons_zero, Nat.zero_add, Nat.reduceAdd]
      go_wp2
      first | exact ⟨rfl, Below.refl _ _⟩ | exact ⟨_, rfl, rfl, Below.refl _ _, fun h => by simp at h⟩ | exact ⟨_, rfl, rfl, Below.refl _ _⟩ | exact ⟨rfl, Below.refl _ _, fun h => by simp at h⟩
    · intro u W hb hd
      have e0 : u 0 = .pointer (some ⟨pb, 0, none⟩) := hd.1 rfl (by decide)
      have vp := HV3.out.after hb
      have q0 := vp.c0
      have q1 := vp.c1
      have q2 := vp.c2
      simp only [putAll, Act.put, List.setIfInBounds_toArray, List.set_cons_succ, List.set_cons_zero, Nat.zero_add, Nat.reduceAdd]
      rw [e0]
      go_wp2
      first | exact ⟨rfl, Below.refl _ _⟩ | exact ⟨_, rfl, rfl, Below.refl _ _, fun h => by simp at h⟩ | exact ⟨_, rfl, rfl, Below.refl _ _⟩ | exact ⟨rfl, Below.refl _ _, fun h => by simp at h⟩
    · intro u W hb hd
      have vp := HV3.out.after hb
      have q0 := vp.c0
      have q1 := vp.c1
      have q2 := vp.c2
      simp only [putAll, Act.put, List.setIfInBounds_toArray, List.set_cons_succ, List.set_cons_zero, Nat.zero_add, Nat.reduceAdd]
      go_wp2
      first | exact ⟨rfl, Below.refl _ _⟩ | exact ⟨_, rfl, rfl, Below.refl _ _, fun h => by simp at h⟩ | exact ⟨_, rfl, rfl, Below.refl _ _⟩ | exact ⟨rfl, Below.refl _ _, fun h => by simp at h⟩
    · intro u W hb hd
      simp only [putAll, Act.put, List.setIfInBounds_toArray, List.set_cons_succ, List.set_cons_zero, Nat.zero_add, Nat.reduceAdd]
      go_wp2
      first | exact ⟨rfl, Below.refl _ _⟩ | exact ⟨_, rfl, rfl, Below.refl _ _, fun h => by simp at h⟩ | exact ⟨_, rfl, rfl, Below.refl _ _⟩ | exact ⟨rfl, Below.refl _ _, fun h => by simp at h⟩
    · intro u W hb hd
      have e0 : u 2 = .agg #[.pointer (some ⟨r, 0, none⟩), .int .i64 (k : Int), .int .i64 (m : Int)] := hd.1 rfl (by decide)
      have e1 : u 3 = .int .u64 (el : Int) := hd.2.1 rfl (by decide)
      simp only [putAll, Act.put, List.setIfInBounds_toArray, List.set_cons_succ, List.set_cons_zero, Nat.zero_add, Nat.reduceAdd]
      rw [e0, e1]
      go_wp2_with (go_at_call 53; (with_reducible refine (HS0.out W).mono ?_); rintro e W1 ⟨rfl, g1⟩)
      first | exact ⟨_, rfl, rfl, g1, fun h => by simp at h⟩ | exact ⟨rfl, g1⟩ | exact ⟨_, rfl, rfl, g1⟩
    · intro u W hb hd
      simp only [putAll, Act.put, List.setIfInBounds_toArray, List.set_cons_succ, List.set_cons_zero, Nat.zero_add, Nat.reduceAdd]
      go_wp2
      first | exact ⟨rfl, Below.refl _ _⟩ | exact ⟨_, rfl, rfl, Below.refl _ _, fun h => by simp at h⟩ | exact ⟨_, rfl, rfl, Below.refl _ _⟩ | exact ⟨rfl, Below.refl _ _, fun h => by simp at h⟩
    · intro u W hb hd
      have e0 : u 5 = .pointer (some ⟨pb, 1, none⟩) := hd.1 rfl (by decide)
      have vp := HV3.out.after hb
      have q0 := vp.c0
      have q1 := vp.c1
      have q2 := vp.c2
      simp only [putAll, Act.put, List.setIfInBounds_toArray, List.set_cons_succ, List.set_cons_zero, Nat.zero_add, Nat.reduceAdd]
      rw [e0]
      go_wp2
      first | exact ⟨rfl, Below.refl _ _⟩ | exact ⟨_, rfl, rfl, Below.refl _ _, fun h => by simp at h⟩ | exact ⟨_, rfl, rfl, Below.refl _ _⟩ | exact ⟨rfl, Below.refl _ _, fun h => by simp at h⟩
  · intro u W hb hT _
    have e0 : u 0 = .pointer (some ⟨pb, 0, none⟩) := hT 0 (by decide)
    have e1 : u 1 = .pointer (some ⟨r, 0, none⟩) := hT 1 (by decide)
    have e2 : u 2 = .agg #[.pointer (some ⟨r, 0, none⟩), .int .i64 (k : Int), .int .i64 (m : Int)] := hT 2 (by decide)
    have e3 : u 3 = .int .u64 (el : Int) := hT 3 (by decide)
    have e4 : u 4 = .int .i64 (f0 : Int) := hT 4 (by decide)
    have e5 : u 5 = .pointer (some ⟨pb, 1, none⟩) := hT 5 (by decide)
    have e6 : u 6 = .int .i64 (k : Int) := hT 6 (by decide)
    have HBW := Lib.hid hb
    clear hb hT
    simp only [List.take_succ_cons, List.take_zero, List.drop_succ_cons, List.drop_zero, putAll, Act.put, List.setIfInBounds_toArray, List.set_cons_succ, List.set_cons_zero, Nat.zero_add, Nat.reduceAdd]
    rw [e0, e1, e2, e3, e4, e5, e6]
    clear e0 e1 e2 e3 e4 e5 e6
    have HB5 := Lib.hid (below_step G3.out HBW.out)
    have HP5 : Hid (pb < W.heap.size) := by have x1 := HS3.out; have x2 := HBW.out.size; unfold Hid; omega
    go_upto_region 8 with (go_at_call 52; (with_reducible refine (HWF.out O D f0 k W (HDD.out.after HB5.out) (HB5.out.mono HBA.out) HNN.out.1 HKM.out.1 HKM.out.2.2 HNN.out.2.1 (by have := HNN.out.2.2.1; omega)).mono ?_); rintro e w5 ⟨D1, rfl, n1, ws1, de1, la1, O1, d1, o1, gr1⟩; have OO1 := Lib.hid (disk_step (OnlyO.refl base O w) (Grown.refl _ _) HBA.out HB5.out o1 gr1); have HN1 := Lib.hid (And.intro n1 (And.intro ws1 de1)); have HD1 := Lib.hid d1; have NP1 : Hid (¬ O1 pb) := (fun x => by rcases gr1 pb x with x | x; exact NP0.out x; have := HP5.out; omega); have HV5 := Lib.hid ((HV3.out.after HBW.out).only o1 NP0.out); have HP1 : Hid (pb < w5.heap.size) := HV5.out.s; clear d1 o1 gr1 n1 ws1 de1 la1)
    refine wp_region_mix 6 (TLst [.pointer (some ⟨pb, 0, none⟩), .pointer (some ⟨r, 0, none⟩), .agg #[.pointer (some ⟨r, 0, none⟩), .int .i64 (k : Int), .int .i64 (m : Int)], .int .i64 (f1 : Int), .pointer (some ⟨pb, 2, none⟩), .int .i64 (m : Int)]) (fun _ => false) (by kernel_rfl) (by kernel_rfl) (fun _ _ _ _ h _ => h) (fun _ _ _ h => by cases h) ?_ ?_
    · simp only [List.take_succ_cons, List.take_zero]
      refine (StepsAll.cons ?_ (StepsAll.cons ?_ (StepsAll.cons ?_ (StepsAll.cons ?_ (StepsAll.cons ?_ (StepsAll.cons ?_ StepsAll.nil))))))
      · intro u W hb hd
        simp only [putAll, Act.put, List.setIfInBounds_toArray, List.set_cons_succ, List.set_cons_zero, Nat.zero_add, Nat.reduceAdd]
        go_wp2
        first | exact ⟨rfl, Below.refl _ _⟩ | exact ⟨_, rfl, rfl, Below.refl _ _, fun h => by simp at h⟩ | exact ⟨_, rfl, rfl, Below.refl _ _⟩ | exact ⟨rfl, Below.refl _ _, fun h => by simp at h⟩
      · intro u W hb hd
        have e0 : u 0 = .pointer (some ⟨pb, 0, none⟩) := hd.1 rfl (by decide)
        have vp := HV5.out.after hb
        have q0 := vp.c0
        have q1 := vp.c1
        have q2 := vp.c2
        simp only [putAll, Act.put, List.setIfInBounds_toArray, List.set_cons_succ, List.set_cons_zero, Nat.zero_add, Nat.reduceAdd]
        rw [e0]
        go_wp2
        first | exact ⟨rfl, Below.refl _ _⟩ | exact ⟨_, rfl, rfl, Below.refl _ _, fun h => by simp at h⟩ | exact ⟨_, rfl, rfl, Below.refl _ _⟩ | exact ⟨rfl, Below.refl _ _, fun h => by simp at h⟩
      · intro u W hb hd
        have vp := HV5.out.after hb
        have q0 := vp.c0
        have q1 := vp.c1
        have q2 := vp.c2
        simp only [putAll, Act.put, List.setIfInBounds_toArray, List.set_cons_succ, List.set_cons_zero, Nat.zero_add, Nat.reduceAdd]
        go_wp2
        first | exact ⟨rfl, Below.refl _ _⟩ | exact ⟨_, rfl, rfl, Below.refl _ _, fun h => by simp at h⟩ | exact ⟨_, rfl, rfl, Below.refl _ _⟩ | exact ⟨rfl, Below.refl _ _, fun h => by simp at h⟩
      · intro u W hb hd
        have e0 : u 2 = .agg #[.pointer (some ⟨r, 0, none⟩), .int .i64 (k : Int), .int .i64 (m : Int)] := hd.1 rfl (by decide)
        simp only [putAll, Act.put, List.setIfInBounds_toArray, List.set_cons_succ, List.set_cons_zero, Nat.zero_add, Nat.reduceAdd]
        rw [e0]
        go_wp2_with (go_at_call 50; (with_reducible refine (HL0.out W).mono ?_); rintro e W1 ⟨rfl, g1⟩)
        first | exact ⟨_, rfl, rfl, g1, fun h => by simp at h⟩ | exact ⟨rfl, g1⟩ | exact ⟨_, rfl, rfl, g1⟩
      · intro u W hb hd
        simp only [putAll, Act.put, List.setIfInBounds_toArray, List.set_cons_succ, List.set_cons_zero, Nat.zero_add, Nat.reduceAdd]
        go_wp2
        first | exact ⟨rfl, Below.refl _ _⟩ | exact ⟨_, rfl, rfl, Below.refl _ _, fun h => by simp at h⟩ | exact ⟨_, rfl, rfl, Below.refl _ _⟩ | exact ⟨rfl, Below.refl _ _, fun h => by simp at h⟩
      · intro u W hb hd
        have e0 : u 4 = .pointer (some ⟨pb, 2, none⟩) := hd.1 rfl (by decide)
        have vp := HV5.out.after hb
        have q0 := vp.c0
        have q1 := vp.c1
        have q2 := vp.c2
        simp only [putAll, Act.put, List.setIfInBounds_toArray, List.set_cons_succ, List.set_cons_zero, Nat.zero_add, Nat.reduceAdd]
        rw [e0]
        go_wp2
        first | exact ⟨rfl, Below.refl _ _⟩ | exact ⟨_, rfl, rfl, Below.refl _ _, fun h => by simp at h⟩ | exact ⟨_, rfl, rfl, Below.refl _ _⟩ | exact ⟨rfl, Below.refl _ _, fun h => by simp at h⟩
    · intro u W hb hT _
      have e0 : u 0 = .pointer (some ⟨pb, 0, none⟩) := hT 0 (by decide)
      have e1 : u 1 = .pointer (some ⟨r, 0, none⟩) := hT 1 (by decide)
      have e2 : u 2 = .agg #[.pointer (some ⟨r, 0, none⟩), .int .i64 (k : Int), .int .i64 (m : Int)] := hT 2 (by decide)
      have e3 : u 3 = .int .i64 (f1 : Int) := hT 3 (by decide)
      have e4 : u 4 = .pointer (some ⟨pb, 2, none⟩) := hT 4 (by decide)
      have e5 : u 5 = .int .i64 (m : Int) := hT 5 (by decide)
      have HBW := Lib.hid hb
      clear hb hT
      simp only [List.take_succ_cons, List.take_zero, List.drop_succ_cons, List.drop_zero, putAll, Act.put, List.setIfInBounds_toArray, List.set_cons_succ, List.set_cons_zero, Nat.zero_add, Nat.reduceAdd]
      rw [e0, e1, e2, e3, e4, e5]
      clear e0 e1 e2 e3 e4 e5
      go_upto_region 14 with (first
        | (go_at_call 52; (with_reducible refine (HWF.out O1 D1 f1 m W (HD1.out.after HBW.out) (OO1.out.1.bel.trans (HBW.out.mono (Nat.le_trans HBA.out OO1.out.1.size))) HN1.out.1 HKM.out.2.1 (by have x1 := HNN.out.2.2.2; have x2 := HFE.out.1; omega) HN1.out.2.1 (by have x1 := HNN.out.2.2.1; have x2 := HN1.out.2.2; omega)).mono ?_); rintro e w7 ⟨D2, rfl, n2, ws2, de2, la2, O2, d2, o2, gr2⟩; have OO2 := Lib.hid (disk_step OO1.out.1 OO1.out.2 HBA.out HBW.out o2 gr2); have HN2 := Lib.hid (And.intro n2 (And.intro ws2 de2)); have HLA2 := Lib.hid la2; have HD2 := Lib.hid d2; have NP2 : Hid (¬ O2 pb) := (fun x => by rcases gr2 pb x with x | x; exact NP1.out x; have x1 := HP1.out; have x2 := HBW.out.size; omega); have HV7 := Lib.hid ((HV5.out.after HBW.out).only o2 NP1.out); have q0 := HV7.out.c0; have q1 := HV7.out.c1; clear d2 o2 gr2 n2 ws2 de2 la2)
        | (go_at_call 54; (with_reducible refine (HSF.out O2 D2 w7 HD2.out OO2.out.1.bel HN2.out.1 HN2.out.2.1 (by have x1 := HNN.out.2.2.1; have x2 := HN1.out.2.2; have x3 := HN2.out.2.2; omega)).mono ?_); rintro e w8 ⟨D3, rfl, n3, ws3, de3, sl3, bs3, O3, d3, o3, gr3⟩; have OO3 := Lib.hid (disk_step OO2.out.1 OO2.out.2 HBA.out (Below.refl _ _) o3 gr3); have HN3 := Lib.hid (And.intro n3 (And.intro ws3 de3)); have HSL3 := Lib.hid (And.intro sl3 bs3); have HD3 := Lib.hid d3; have HV8 := Lib.hid (HV7.out.only o3 NP2.out); clear d3 o3 gr3 n3 ws3 de3 sl3 bs3 q0 q1))
      refine wp_region_mix 6 (TLst [.pointer (some ⟨pb, 0, none⟩), .pointer (some ⟨r, 0, none⟩), .agg #[.pointer (some ⟨r, 0, none⟩), .int .i64 (k : Int), .int .i64 (m : Int)], .int .i64 (f2 : Int), .pointer (some ⟨pb, 2, none⟩), .int .i64 (m : Int)]) (fun _ => false) (by kernel_rfl) (by kernel_rfl) (fun _ _ _ _ h _ => h) (fun _ _ _ h => by cases h) ?_ ?_
      · simp only [List.take_succ_cons, List.take_zero]
        refine (StepsAll.cons ?_ (StepsAll.cons ?_ (StepsAll.cons ?_ (StepsAll.cons ?_ (StepsAll.cons ?_ (StepsAll.cons ?_ StepsAll.nil))))))
        · intro u W hb hd
          simp only [putAll, Act.put, List.setIfInBounds_toArray, List.set_cons_succ, List.set_cons_zero, Nat.zero_add, Nat.reduceAdd]
          go_wp2
          first | exact ⟨rfl, Below.refl _ _⟩ | exact ⟨_, rfl, rfl, Below.refl _ _, fun h => by simp at h⟩ | exact ⟨_, rfl, rfl, Below.refl _ _⟩ | exact ⟨rfl, Below.refl _ _, fun h => by simp at h⟩
        · intro u W hb hd
          have e0 : u 0 = .pointer (some ⟨pb, 0, none⟩) := hd.1 rfl (by decide)
          have vp := HV8.out.after hb
          have q0 := vp.c0
          have q1 := vp.c1
          have q2 := vp.c2
          simp only [putAll, Act.put, List.setIfInBounds_toArray, List.set_cons_succ, List.set_cons_zero, Nat.zero_add, Nat.reduceAdd]
          rw [e0]
          go_wp2
          first | exact ⟨rfl, Below.refl _ _⟩ | exact ⟨_, rfl, rfl, Below.refl _ _, fun h => by simp at h⟩ | exact ⟨_, rfl, rfl, Below.refl _ _⟩ | exact ⟨rfl, Below.refl _ _, fun h => by simp at h⟩
        · intro u W hb hd
          have vp := HV8.out.after hb
          have q0 := vp.c0
          have q1 := vp.c1
          have q2 := vp.c2
          simp only [putAll, Act.put, List.setIfInBounds_toArray, List.set_cons_succ, List.set_cons_zero, Nat.zero_add, Nat.reduceAdd]
          go_wp2
          first | exact ⟨rfl, Below.refl _ _⟩ | exact ⟨_, rfl, rfl, Below.refl _ _, fun h => by simp at h⟩ | exact ⟨_, rfl, rfl, Below.refl _ _⟩ | exact ⟨rfl, Below.refl _ _, fun h => by simp at h⟩
        · intro u W hb hd
          have e0 : u 2 = .agg #[.pointer (some ⟨r, 0, none⟩), .int .i64 (k : Int), .int .i64 (m : Int)] := hd.1 rfl (by decide)
          simp only [putAll, Act.put, List.setIfInBounds_toArray, List.set_cons_succ, List.set_cons_zero, Nat.zero_add, Nat.reduceAdd]
          rw [e0]
          go_wp2_with (go_at_call 50; (with_reducible refine (HL1.out W).mono ?_); rintro e W1 ⟨rfl, g1⟩)
          first | exact ⟨_, rfl, rfl, g1, fun h => by simp at h⟩ | exact ⟨rfl, g1⟩ | exact ⟨_, rfl, rfl, g1⟩
        · intro u W hb hd
          simp only [putAll, Act.put, List.setIfInBounds_toArray, List.set_cons_succ, List.set_cons_zero, Nat.zero_add, Nat.reduceAdd]
          go_wp2
          first | exact ⟨rfl, Below.refl _ _⟩ | exact ⟨_, rfl, rfl, Below.refl _ _, fun h => by simp at h⟩ | exact ⟨_, rfl, rfl, Below.refl _ _⟩ | exact ⟨rfl, Below.refl _ _, fun h => by simp at h⟩
        · intro u W hb hd
          have e0 : u 4 = .pointer (some ⟨pb, 2, none⟩) := hd.1 rfl (by decide)
          have vp := HV8.out.after hb
          have q0 := vp.c0
          have q1 := vp.c1
          have q2 := vp.c2
          simp only [putAll, Act.put, List.setIfInBounds_toArray, List.set_cons_succ, List.set_cons_zero, Nat.zero_add, Nat.reduceAdd]
          rw [e0]
          go_wp2
          first | exact ⟨rfl, Below.refl _ _⟩ | exact ⟨_, rfl, rfl, Below.refl _ _, fun h => by simp at h⟩ | exact ⟨_, rfl, rfl, Below.refl _ _⟩ | exact ⟨rfl, Below.refl _ _, fun h => by simp at h⟩
      · intro u W hb hT _
        have e0 : u 0 = .pointer (some ⟨pb, 0, none⟩) := hT 0 (by decide)
        have e1 : u 1 = .pointer (some ⟨r, 0, none⟩) := hT 1 (by decide)
        have e2 : u 2 = .agg #[.pointer (some ⟨r, 0, none⟩), .int .i64 (k : Int), .int .i64 (m : Int)] := hT 2 (by decide)
        have e3 : u 3 = .int .i64 (f2 : Int) := hT 3 (by decide)
        have e4 : u 4 = .pointer (some ⟨pb, 2, none⟩) := hT 4 (by decide)
        have e5 : u 5 = .int .i64 (m : Int) := hT 5 (by decide)
        have HBW := Lib.hid hb
        clear hb hT
        simp only [List.take_succ_cons, List.take_zero, List.drop_succ_cons, List.drop_zero, putAll, Act.put, List.setIfInBounds_toArray, List.set_cons_succ, List.set_cons_zero, Nat.zero_add, Nat.reduceAdd]
        rw [e0, e1, e2, e3, e4, e5]
        clear e0 e1 e2 e3 e4 e5
        go_wp2_with (go_at_call 52; (with_reducible refine (HWF.out O3 D3 f2 m W (HD3.out.after HBW.out) (OO3.out.1.bel.trans (HBW.out.mono (Nat.le_trans HBA.out OO3.out.1.size))) HN3.out.1 HKM.out.2.1 (by have x1 := HNN.out.2.2.2; have x2 := HFE.out.2; omega) HN3.out.2.1 (by have x1 := HNN.out.2.2.1; have x2 := HN1.out.2.2; have x3 := HN2.out.2.2; have x4 := HN3.out.2.2; omega)).mono ?_); rintro e w9 ⟨D4, rfl, n5, ws5, de5, la5, O4, d5, o5, gr5⟩; have OO4 := Lib.hid (disk_step OO3.out.1 OO3.out.2 HBA.out HBW.out o5 gr5); have HN4 := Lib.hid (And.intro n5 (And.intro ws5 de5)); have HLA4 := Lib.hid la5; have HD4 := Lib.hid d5; clear d5 o5 gr5 n5 ws5 de5 la5)
        go_ret
        refine ⟨D4, rfl, HN4.out.1, HN4.out.2.1, by have x1 := HN1.out.2.2; have x2 := HN2.out.2.2; have x3 := HN3.out.2.2; have x4 := HN4.out.2.2; omega, ?_, O4, HD4.out, OO4.out.1, OO4.out.2⟩
        have l2 := HLA2.out
        have l4 := HLA4.out
        rw [HFE.out.1] at l2
        rw [HFE.out.2] at l4
        exact wiped_end HD1.out.ok HD3.out.ok HN1.out.1 HN3.out.1 HNN.out.2.2.2 l2 HSL3.out.1 HSL3.out.2 l4

/-- Open of what is all 0. -/
def GivesCw (base : Nat) (O : Foot) (r : Nat) (D : Dsk) (k m size : Nat) (w : World) (e : Ending) (w' : World) : Prop :=
  ∃ O' cb OC a c, e = .returned (.tuple #[.pointer (some ⟨cb, 0, none⟩), .slice a 0 c, .int .i64 0]) ∧ DskIs w' base O' r D ∧ OnlyO base O w w' ∧ Grown O O' w.heap.size ∧ CofIs w' w.heap.size OC cb r ⟨k, m, size, 0, [], 0, 0, false, false, false⟩ ∧ ∀ i, OC i → ¬ O' i
theorem cfopen_wiped (base : Nat) (O : Foot) (r n size : Nat) (D : Dsk) (k m : Nat) (w : World) (env : Env w) (h : DskIs w base O r D) (hn : NFd n size D) (k1 : 1 ≤ k) (m1 : 1 ≤ m) (on : n / 2 = k + m) (hw : D.waits = []) (hd : D.deeds ≤ 900000) (wi : Wiped k m size D) :
    Calls Tryz.prog 13 #[.pointer (some ⟨r, 0, none⟩), .int .i64 (k : Int)] w (GivesCw base O r D k m size w) := by
  refine (cfopen_any base O r D k m w env h k1 m1 (by rw [hn.n]; exact on) hn.dark hw hd).mono ?_
  rintro e w' ⟨c, D', O', ep, b, rs, h1, h2, ⟨hs, hcase⟩, hd', ho, hg, hx⟩
  rw [hn.size, wi.sl] at h1
  obtain ⟨rfl, rfl⟩ : ep = 0 ∧ b = [] := by simpa using h1
  have hlo : logOf k m 0 * size = 2 * k * size := by unfold logOf; rw [Nat.zero_mod, Nat.zero_mul, Nat.add_zero]
  have e1 : (allL (textL [] (m * size))).1 = [] := by rw [all_text (fun c hc => by cases hc)]
  have e2 : regnL (logOf k m 0 * size) (m * size) D.last = textL [] (m * size) := by rw [hlo, wi.lg, text_nil]
  rw [hn.size, e2, e1] at h2
  subst h2
  rw [hn.size] at hcase hx
  rcases hcase with ⟨rfl, _, hcl⟩ | ⟨_, hdk⟩
  · have q := hcl e2
    subst q
    rcases hx with ⟨h0, _⟩ | ⟨_, cb, OC, OR, a, c, rfl, hC, _, _, hd2⟩
    · cases h0
    · exact ⟨O', cb, OC, a, c, rfl, hd', ho, hg, hC, hd2⟩
  · exact (hdk.fuse hn.fuse).elim
/-- What Create comes to. -/
def GivesCc (base : Nat) (O : Foot) (r n size : Nat) (D : Dsk) (k m : Nat) (w : World) (e : Ending) (w' : World) : Prop :=
  ∃ D' O' cb OC, e = .returned (.tuple #[.pointer (some ⟨cb, 0, none⟩), .int .i64 0]) ∧ NFd n size D' ∧ D'.waits = [] ∧ D'.deeds ≤ D.deeds + 4000 ∧ Wiped k m size D' ∧ DskIs w' base O' r D' ∧ OnlyO base O w w' ∧ Grown O O' w.heap.size ∧ CofIs w' w.heap.size OC cb r ⟨k, m, size, 0, [], 0, 0, false, false, false⟩ ∧ ∀ i, OC i → ¬ O' i
set_option maxRecDepth 100000 in
set_option maxHeartbeats 8000000 in
theorem cfcreate_nf (base : Nat) (O : Foot) (r n size : Nat) (D : Dsk) (k m : Nat) (w : World) (env : ∀ W, Below base w W → Env W) (h : DskIs w base O r D) (hn : NFd n size D) (k1 : 1 ≤ k) (m1 : 1 ≤ m) (on : n / 2 = k + m) (hw : D.waits = []) (hd : D.deeds ≤ 800000) :
    Calls Tryz.prog 19 #[.pointer (some ⟨r, 0, none⟩), .int .i64 (k : Int)] w (GivesCc base O r n size D k m w) := by
  have hbase : base ≤ w.heap.size := by have := h.own r h.mem; omega
  have HON := Lib.hid (cfon_any base O r D k m w h k1 m1 (by rw [hn.n]; exact on))
  have HWI := Lib.hid (fun W (g : Below w.heap.size w W) => cfwipe_nf base O r n size D k m W (fun W' g' => env W' ((g.mono hbase).trans g')) (h.after g) hn k1 m1 (by omega) hw hd)
  have HOP := Lib.hid (fun (O1 : Foot) (D1 : Dsk) W (g : Below base w W) (h1 : DskIs W base O1 r D1) (n1 : NFd n size D1) (w1 : D1.waits = []) (d1 : D1.deeds ≤ 900000) (wi : Wiped k m size D1) => cfopen_wiped base O1 r n size D1 k m W (env W g) h1 n1 k1 m1 on w1 d1 wi)
  have HBA := Lib.hid hbase
  have HDE := Lib.hid hd
  clear env h hn k1 m1 on hw hd hbase
  unfold GivesRg at HON
  go_enter Tryz.func19, Tryz.ntmps19
  go_wp2_with (first
    | (go_at_call 33; (with_reducible refine (HON.out).mono ?_); rintro e w1 ⟨rfl, g1⟩; have G1 := Lib.hid (below_more g1 (.cells #[.pointer (some ⟨r, 0, none⟩), .int .i64 (k : Int), .int .i64 (m : Int)] 76)); clear g1)
    | (go_at_call 40; (with_reducible refine (HWI.out _ G1.out).mono ?_); rintro e w6 ⟨D1, rfl, n1, ws1, de1, wi1, O1, d1, o1, gr1⟩; have OO1 := Lib.hid (disk_step (OnlyO.refl base O w) (Grown.refl _ _) HBA.out G1.out o1 gr1); have H1 := Lib.hid (And.intro n1 (And.intro ws1 (And.intro de1 wi1))); have HOP6 := Lib.hid (HOP.out O1 D1 w6 OO1.out.1.bel d1 n1 ws1 (by have := HDE.out; omega) wi1); clear d1 o1 gr1 n1 ws1 de1 wi1)
    | (go_at_call 13; (with_reducible refine (HOP6.out).mono ?_); rintro e w7 ⟨O2, cb, OC, a, c, rfl, d2, o2, gr2, hC, dis⟩; have OO2 := Lib.hid (disk_step OO1.out.1 OO1.out.2 HBA.out (Below.refl _ _) o2 gr2); have H2 := Lib.hid (And.intro d2 (And.intro hC dis)); have S6 := Lib.hid OO1.out.1.size; clear d2 o2 gr2 hC dis))
  go_ret2
  exact ⟨D1, O2, cb, OC, rfl, H1.out.1, H1.out.2.1, H1.out.2.2.1, H1.out.2.2.2, H2.out.1, OO2.out.1, OO2.out.2, H2.out.2.1.base S6.out, H2.out.2.2⟩

theorem CofAt.more {W : World} {cb gs r k m gb n : Nat} {dn : Bool} (h : CofAt W cb gs r k m gb n dn) (n' : Nat) : CofAt (W.setCell ⟨cb, 5, none⟩ (.int .i64 (n' : Int))) cb gs r k m gb n' dn := by
  obtain ⟨c0, c1, c2, c3, c4, c5, c6, q⟩ := h
  refine ⟨?_, ?_, ?_, ?_, ?_, ?_, ?_, fun i => ?_⟩ <;> simp [go_sem, *]
theorem CofAt.tell {W : World} {cb gs r k m gb n : Nat} {dn : Bool} (h : CofAt W cb gs r k m gb n dn) (d' : Bool) : CofAt (W.setCell ⟨cb, 6, none⟩ (.bool d')) cb gs r k m gb n d' := by
  obtain ⟨c0, c1, c2, c3, c4, c5, c6, q⟩ := h
  refine ⟨?_, ?_, ?_, ?_, ?_, ?_, ?_, fun i => ?_⟩ <;> simp [go_sem, *]
set_option maxRecDepth 100000 in
set_option maxHeartbeats 8000000 in
theorem cfdark_any (base : Nat) (O : Foot) (cb gs r k m gb n : Nat) (D : Dsk) (w : World) (h : DskIs w base O r D) (ha : CofAt w cb gs r k m gb n false) (dk : D.dark = false) : Calls Tryz.prog 56 #[.pointer (some ⟨cb, 0, none⟩)] w fun e w' => e = .returned (.bool false) ∧ Below w.heap.size w w' := by
  have q := bdark_any base O r D w h
  rw [dk] at q
  have HDK := Lib.hid q
  have c1 := ha.c1
  have c6 := ha.c6
  clear h ha dk q
  go_enter Tryz.func56, Tryz.ntmps56
  go_wp2_with (go_at_call 72; (with_reducible refine (HDK.out).mono ?_); rintro e w1 ⟨rfl, g1⟩; have G1 := Lib.hid g1; clear g1)
  go_ret
  exact ⟨rfl, G1.out⟩
set_option maxRecDepth 100000 in
set_option maxHeartbeats 8000000 in
theorem cftold_zero (cb gs r k m gb n : Nat) (dn : Bool) (w : World) (ha : CofAt w cb gs r k m gb n dn) : Calls Tryz.prog 42 #[.pointer (some ⟨cb, 0, none⟩), .int .i64 0] w fun e w' => e = .returned (.int .i64 0) ∧ w' = w.setCell ⟨cb, 6, none⟩ (.bool false) := by
  have c6 := ha.c6
  have q6 := ha.q 6
  clear ha
  go_enter Tryz.func42, Tryz.ntmps42
  go_wp2
  go_ret
  exact ⟨rfl, rfl⟩
/-- How all stands when a record is there. -/
def AddedC (base : Nat) (O OC : Foot) (r cb n size : Nat) (D : Dsk) (C : Cf) (rs : List (List Int)) (b : List Int) (w w' : World) : Prop :=
  ∃ D' O' OC', NFd n size D' ∧ D'.deeds ≤ D.deeds + 1000 ∧ DskIs w' base O' r D' ∧ CofIs w' base OC' cb r { C with recs := C.recs + 1, used := C.used + b.length + 10 } ∧ LogOn D' ⟨logOf C.k C.m C.ep, C.m, C.size, C.used + b.length + 10, false⟩ (rs ++ [b]) ∧ (∀ i, OC' i → ¬ O' i) ∧ OnlyO base (fun i => O i ∨ OC i) w w' ∧ Grown (fun i => O i ∨ OC i) (fun i => O' i ∨ OC' i) w.heap.size
theorem added_fin {base : Nat} {O OC O' OS OG OG' : Foot} {r cb gs gb n size : Nat} {D D' : Dsk} {C : Cf} {rs : List (List Int)} {b : List Int} {w w1 w2 : World} (_hd : DskIs w base O r D) (hC : CofIs w base OC cb r C) (_hdn : C.down = false) (hld : C.ld = false) (dis : ∀ i, OC i → ¬ O i) (g1 : Below w.heap.size w w1) (ha : CofAt w cb gs r C.k C.m gb C.recs C.down) (hs : SlIs w base OS gs r ⟨0, C.k, C.size, C.ep, C.b, C.sd⟩) (d1 : ∀ i, OS i → OC i ∧ i ≠ cb) (d2 : ∀ i, OG i → OC i ∧ i ≠ cb ∧ ¬ OS i)
    (n2 : NFd n size D') (de2 : D'.deeds ≤ D.deeds + 1000) (h2 : DskIs w2 base O' r D') (l2 : LogIs w2 base OG' gb r ⟨logOf C.k C.m C.ep, C.m, C.size, C.used + b.length + 10, C.ld⟩) (on2 : LogOn D' ⟨logOf C.k C.m C.ep, C.m, C.size, C.used + b.length + 10, C.ld⟩ (rs ++ [b])) (x2 : ∀ i, O' i → ¬ OG' i) (o2 : OnlyO base (fun i => O i ∨ OG i) w1 w2) (gr2 : Grown (fun i => O i ∨ OG i) (fun i => O' i ∨ OG' i) w1.heap.size) :
    AddedC base O OC r cb n size D C rs b w (w2.setCell ⟨cb, 5, none⟩ (.int .i64 ((C.recs + 1 : Nat) : Int))) := by
  have hcs := (hC.own cb hC.mem)
  have s1 := g1.size
  have s2 := o2.size
  have ncb : ¬ (O cb ∨ OG cb) := fun q => by
    rcases q with q | q
    · exact dis cb hC.mem q
    · exact (d2 cb q).2.1 rfl
  have nos : ∀ i, OS i → ¬ (O i ∨ OG i) := fun i hi q => by
    rcases q with q | q
    · exact dis i (d1 i hi).1 q
    · exact (d2 i q).2.2 hi
  have kc : w2.heap[cb]? = w.heap[cb]? := (o2.keep cb (by omega) ncb).trans (g1.block cb hcs.2)
  have old : ∀ i, i < w.heap.size → (O' i ∨ OG' i) → O i ∨ OG i := fun i hi q => by
    rcases gr2 i q with q | q
    · exact q
    · omega
  have hel : ∀ i, i ≠ cb → (w2.setCell ⟨cb, 5, none⟩ (.int .i64 ((C.recs + 1 : Nat) : Int))).heap[i]? = w2.heap[i]? := fun i hi => set_else _ _ _ _ i hi
  have hsz : (w2.setCell ⟨cb, 5, none⟩ (.int .i64 ((C.recs + 1 : Nat) : Int))).heap.size = w2.heap.size := by simp
  have ncb2 : ¬ (O' cb ∨ OG' cb) := fun q => ncb (old cb hcs.2 q)
  have ws : ∀ i, OS i → i < w.heap.size := fun i hi => (hs.own i hi).2
  refine ⟨D', O', fun i => i = cb ∨ OS i ∨ OG' i, n2, de2, h2.kept (fun i hi => hel i (fun e => ncb2 (Or.inl (e ▸ hi)))) (by omega), ⟨fun i hi => ?_, Or.inl rfl, gs, gb, OS, OG', ?_, ?_, l2.kept (fun i hi => hel i (fun e => ncb2 (Or.inr (e ▸ hi)))) (by omega), fun i hi => ⟨Or.inr (Or.inl hi), (d1 i hi).2⟩, fun i hi => ⟨Or.inr (Or.inr hi), fun e => ncb2 (Or.inr (e ▸ hi)), fun q => nos i q (old i (ws i q) (Or.inr hi))⟩⟩, by rw [← hld]; exact on2, fun i hi q => ?_, ?_, fun i hi => ?_⟩
  · rw [hsz]
    rcases hi with rfl | hi | hi
    · exact ⟨hcs.1, by omega⟩
    · exact ⟨(hs.own i hi).1, by have := ws i hi; omega⟩
    · exact l2.own i hi
  · exact (ha.kept kc).more (C.recs + 1)
  · exact hs.kept (fun i hi => (hel i (d1 i hi).2).trans ((o2.keep i (by have := ws i hi; omega) (nos i hi)).trans (g1.block i (ws i hi)))) (by omega)
  · rcases hi with rfl | hi | hi
    · exact ncb2 (Or.inl q)
    · exact nos i hi (old i (ws i hi) (Or.inl q))
    · exact x2 i q hi
  · have o3 : OnlyO base (fun i => O i ∨ OG i) w w2 := (OnlyO.of g1 (by omega) : OnlyO base (fun i => O i ∨ OG i) w w1).trans o2 (Grown.refl _ _)
    exact ⟨o3.bel.setCell hcs.1 _, fun i hi hn => (hel i (fun e => hn (Or.inr (e ▸ hC.mem)))).trans (o3.keep i hi (fun q => hn (q.imp id (fun x => (d2 i x).1))))⟩
  · have key : (O' i ∨ OG' i) → (O i ∨ OC i) ∨ w.heap.size ≤ i := fun q => by
      rcases gr2 i q with q | q
      · exact Or.inl (q.imp id (fun x => (d2 i x).1))
      · exact Or.inr (by omega)
    rcases hi with hi | rfl | hi | hi
    · exact key (Or.inl hi)
    · exact Or.inl (Or.inr hC.mem)
    · exact Or.inl (Or.inr (d1 i hi).1)
    · exact key (Or.inr hi)
theorem AddedC.tell {base : Nat} {O OC : Foot} {r cb n size : Nat} {D : Dsk} {C : Cf} {rs : List (List Int)} {b : List Int} {w w' : World} (h : AddedC base O OC r cb n size D C rs b w w') (hdn : C.down = false) (hm : OC cb) (hb : base ≤ cb) : AddedC base O OC r cb n size D C rs b w (w'.setCell ⟨cb, 6, none⟩ (.bool false)) := by
  obtain ⟨D', O', OC', h1, h2, h3, ⟨c1, c2, gs, gb, OS, OG, ha, hs, hl, d1, d2⟩, h5, h6, h7, h8⟩ := h
  have hel : ∀ i, i ≠ cb → (w'.setCell ⟨cb, 6, none⟩ (.bool false)).heap[i]? = w'.heap[i]? := fun i hi => set_else _ _ _ _ i hi
  have hsz : (w'.setCell ⟨cb, 6, none⟩ (.bool false)).heap.size = w'.heap.size := by simp
  refine ⟨D', O', OC', h1, h2, h3.kept (fun i hi => hel i (fun e => h6 cb c2 (e ▸ hi))) (by omega), ⟨fun i hi => by rw [hsz]; exact c1 i hi, c2, gs, gb, OS, OG, ?_, hs.kept (fun i hi => hel i (d1 i hi).2) (by omega), hl.kept (fun i hi => hel i (d2 i hi).2.1) (by omega), d1, d2⟩, h5, h6, ⟨h7.bel.setCell hb _, fun i hi hn => (hel i (fun e => hn (Or.inr (e ▸ hm)))).trans (h7.keep i hi hn)⟩, h8⟩
  have q := ha.tell false
  have e : ({ C with recs := C.recs + 1, used := C.used + b.length + 10 } : Cf).down = false := hdn
  rw [e]
  exact q
theorem AddedC.at_ {base : Nat} {O OC : Foot} {r cb n size : Nat} {D : Dsk} {C : Cf} {rs : List (List Int)} {b : List Int} {w w' : World} (h : AddedC base O OC r cb n size D C rs b w w') : ∃ gs gb, CofAt w' cb gs r C.k C.m gb (C.recs + 1) C.down := by
  obtain ⟨D', O', OC', h1, h2, h3, ⟨c1, c2, gs, gb, OS, OG, ha, hs, hl, d1, d2⟩, h5, h6, h7, h8⟩ := h
  exact ⟨gs, gb, ha⟩
set_option maxRecDepth 100000 in
set_option maxHeartbeats 8000000 in
theorem cfadd_nf (base : Nat) (O OC : Foot) (r cb n size : Nat) (D : Dsk) (C : Cf) (rs : List (List Int)) (v : Value) (b : List Int) (w : World) (env : ∀ W, Below base w W → Env W) (h : DskIs w base O r D) (hC : CofIs w base OC cb r C) (hdn : C.down = false) (hld : C.ld = false) (dis : ∀ i, OC i → ¬ O i) (on : LogOn D ⟨logOf C.k C.m C.ep, C.m, C.size, C.used, false⟩ rs) (dd : D.deeds ≤ 900000) (hn : NFd n size D) (hr : C.recs ≤ 1000000)
    (hv : ArgB w v b) (hb : ∀ z ∈ b, 0 ≤ z ∧ z ≤ 255) (hy : b ≠ [] → ∀ i, v.ownBlock = some i → ¬ O i ∧ ¬ OC i) (hf : C.used + b.length + 10 ≤ C.m * C.size) :
    Calls Tryz.prog 43 #[.pointer (some ⟨cb, 0, none⟩), v] w fun e w' => e = .returned (.int .i64 0) ∧ AddedC base O OC r cb n size D C rs b w w' := by
  have hC' := hC
  obtain ⟨c1, c2, gs, gb, OS, OG, ha, hs, hl, d1, d2⟩ := hC
  have hbase : base ≤ w.heap.size := by have := h.own r h.mem; omega
  have ha0 := ha
  rw [hdn] at ha0
  have HDK := Lib.hid (cfdark_any base O cb gs r C.k C.m gb C.recs D w h ha0 hn.dark)
  have HAP := Lib.hid (fun W (g : Below w.heap.size w W) => wappend_nf base O OG r gb n size D ⟨logOf C.k C.m C.ep, C.m, C.size, C.used, C.ld⟩ rs v b W (env W (g.mono hbase)) (h.after g) (hl.after g) (fun i hi hg => dis i (d2 i hg).1 hi) (by rw [hld]; exact on) dd hn (hv.below g) hb (fun hne i hi => ⟨(hy hne i hi).1, fun q => (hy hne i hi).2 (d2 i q).1⟩) hf)
  have HFIN := Lib.hid (fun (D' : Dsk) (O' OG' : Foot) (w1 w2 : World) (g1 : Below w.heap.size w w1) n2 de2 h2 l2 on2 x2 o2 gr2 => added_fin (OG' := OG') (O' := O') (D' := D') (n := n) (size := size) (rs := rs) (b := b) (w2 := w2) h hC' hdn hld dis g1 ha hs d1 d2 n2 de2 h2 l2 on2 x2 o2 gr2)
  have hcs := c1 cb c2
  have HKC : Hid (∀ w1 w2, Below w.heap.size w w1 → OnlyO base (fun i => O i ∨ OG i) w1 w2 → CofAt w2 cb gs r C.k C.m gb C.recs C.down) := fun w1 w2 g1 o2 => ha.kept ((o2.keep cb (Nat.lt_of_lt_of_le hcs.2 g1.size) (fun q => by rcases q with q | q; exact dis cb c2 q; exact (d2 cb q).2.1 rfl)).trans (g1.block cb hcs.2))
  obtain ⟨va, vc, rfl⟩ := hv.size
  have c4 := ha.c4
  have HC4 := Lib.hid (fun W (g : Below w.heap.size w W) => (ha.kept (g.block cb hcs.2)).c4)
  obtain ⟨RN, hRN⟩ : ∃ x, C.recs = x := ⟨_, rfl⟩
  obtain ⟨N, hN⟩ : ∃ x, b.length = x := ⟨_, rfl⟩
  rw [hRN] at hr HKC HFIN
  rw [hN] at HAP ⊢
  have hwr : IntKind.i64.wrap ((RN : Int) + 1) = ((RN + 1 : Nat) : Int) := by rw [IntKind.wrap_i64]; omega
  have HWR : Hid ((RN : Int) + 1 = ((RN + 1 : Nat) : Int)) := by unfold Hid; omega
  clear env h hC' hdn hld dis on dd hn hr hv hb hy hf ha hs hl d1 d2 c1 c2 hbase ha0 hcs hRN
  unfold GivesAn at HAP
  go_enter Tryz.func43, Tryz.ntmps43
  go_wp2_with (first
    | (go_at_call 56; (with_reducible refine (HDK.out).mono ?_); rintro e w1 ⟨rfl, g1⟩; have G1 := Lib.hid g1; have x4 := HC4.out w1 g1; clear g1 c4)
    | (go_at_call 57; (with_reducible refine (HAP.out _ G1.out).mono ?_); rintro e w2 ⟨D', O', OG', rfl, n2, de2, h2, l2, on2, bs2, x2, o2, gr2⟩; have HF := Lib.hid (HFIN.out D' O' OG' w1 w2 G1.out n2 de2 h2 l2 on2 x2 o2 gr2); have ka := HKC.out w1 w2 G1.out o2; have x5 := ka.c5; have y5 := ka.q 5; clear n2 de2 h2 l2 on2 bs2 x2 o2 gr2 ka))
  go_ret
  refine ⟨rfl, ?_⟩
  have e := HF.out
  rw [← HWR.out] at e
  exact e

/-- How the world stands by what has come up of 'told(add(b))'. -/
structure JAp (w1 : World) (A : World → Prop) (L : Nat → Bool) (W : World) : Prop where
  a : L 7 = false → Below w1.heap.size w1 W
  b : L 7 = true → A W
  d : L 8 = true → L 7 = true
theorem JAp.light {w1 : World} {A : World → Prop} {L : Nat → Bool} {W : World} (h : JAp w1 A L W) {j : Nat} (hj : j ≠ 7 ∧ j ≠ 8) : JAp w1 A (setL L j) W := by
  obtain ⟨a, b, d⟩ := h
  refine ⟨?_, ?_, ?_⟩
  · rw [setL_ne L (by omega)]; exact a
  · rw [setL_ne L (by omega)]; exact b
  · rw [setL_ne L (by omega), setL_ne L (by omega)]; exact d
theorem JAp.call {w1 : World} {A : World → Prop} {L : Nat → Bool} {W W' : World} (_h : JAp w1 A L W) (_h7 : L 7 = false) (ha : A W') : JAp w1 A (setL L 7) W' := by
  refine ⟨fun q => ?_, fun _ => ha, fun _ => setL_self L 7⟩
  rw [setL_self] at q
  cases q
theorem JAp.end_ {w1 : World} {A : World → Prop} {L : Nat → Bool} {W W' : World} (_h : JAp w1 A L W) (h7 : L 7 = true) (ha : A W') : JAp w1 A (setL L 8) W' := by
  have e : setL L 8 7 = true := by rw [setL_ne L (by omega)]; exact h7
  refine ⟨fun q => ?_, fun _ => ha, fun _ => e⟩
  rw [e] at q
  cases q
set_option maxRecDepth 100000 in
set_option maxHeartbeats 8000000 in
theorem cfappend_nf (base : Nat) (O OC : Foot) (r cb n size : Nat) (D : Dsk) (C : Cf) (rs : List (List Int)) (v : Value) (b : List Int) (w : World) (env : ∀ W, Below base w W → Env W) (h : DskIs w base O r D) (hC : CofIs w base OC cb r C) (hdn : C.down = false) (hld : C.ld = false) (dis : ∀ i, OC i → ¬ O i) (on : LogOn D ⟨logOf C.k C.m C.ep, C.m, C.size, C.used, false⟩ rs) (dd : D.deeds ≤ 900000) (hn : NFd n size D) (hr : C.recs ≤ 1000000)
    (hv : ArgB w v b) (hb : ∀ z ∈ b, 0 ≤ z ∧ z ≤ 255) (hy : b ≠ [] → ∀ i, v.ownBlock = some i → ¬ O i ∧ ¬ OC i) (hf : C.used + b.length + 10 ≤ C.m * C.size) :
    Calls Tryz.prog 21 #[.pointer (some ⟨cb, 0, none⟩), v] w fun e w' => e = .returned (.int .i64 0) ∧ AddedC base O OC r cb n size D C rs b w w' := by
  have hbase : base ≤ w.heap.size := by have := h.own r h.mem; omega
  have HMB : Hid (OC cb ∧ base ≤ cb) := ⟨hC.mem, (hC.own cb hC.mem).1⟩
  have HDN := Lib.hid hdn
  obtain ⟨gs0, gb0, OS0, OG0, ha, _, _, _, _⟩ := hC.ex
  have HNW := Lib.hid (cfnowhere_same cb gs0 r _ _ gb0 _ _ w ha)
  have HAD := Lib.hid (fun W (g : Below w.heap.size w W) => (show Calls Tryz.prog 43 #[.pointer (some ⟨cb, 0, none⟩), v] W fun e w' => e = .returned (.int .i64 0) ∧ AddedC base O OC r cb n size D C rs b w w' from (cfadd_nf base O OC r cb n size D C rs v b W (fun W' g' => env W' ((g.mono hbase).trans g')) (h.after g) (hC.after g) hdn hld dis on dd hn hr (hv.below g) hb hy hf).mono (by
    rintro e w' ⟨rfl, D', O', OC', h1, h2, h3, h4, h5, h6, h7, h8⟩
    exact ⟨rfl, D', O', OC', h1, h2, h3, h4, h5, h6, (OnlyO.of g hbase : OnlyO base (fun i => O i ∨ OC i) w W).trans h7 (Grown.refl _ _), fun i hi => (h8 i hi).imp id (fun q => Nat.le_trans g.size q)⟩)))
  obtain ⟨va, vc, rfl⟩ := hv.size
  obtain ⟨N, hN⟩ : ∃ x, b.length = x := ⟨_, rfl⟩
  rw [hN] at HAD ⊢
  clear env h hC hdn hld dis on dd hn hr hv hb hy hf ha hbase hN
  go_enter Tryz.func21, Tryz.ntmps21
  go_upto_region 3 with (go_at_call 39; (with_reducible refine (HNW.out).mono ?_); rintro e w1 ⟨rfl, rfl⟩)
  refine wp_region_mixj 9 (TLst [.pointer (some ⟨cb, 0, none⟩), .pointer (some ⟨cb, 0, none⟩), .pointer (some ⟨cb, 0, none⟩), .pointer (some ⟨cb, 0, none⟩), .pointer (some ⟨cb, 0, none⟩), .pointer (some ⟨cb, 0, none⟩), .slice va N vc, .int .i64 0, .int .i64 0]) (JAp w1 (AddedC base O OC r cb n size D C rs b w1)) (by kernel_rfl) (by kernel_rfl) ⟨fun _ => (Below.refl _ _).drew, fun q => (by cases q), fun q => (by cases q)⟩ ?_ ?_
  · simp only [List.take_succ_cons, List.take_zero]
    refine (StepsJ.cons ?_ (StepsJ.cons ?_ (StepsJ.cons ?_ (StepsJ.cons ?_ (StepsJ.cons ?_ (StepsJ.cons ?_ (StepsJ.cons ?_ (StepsJ.cons ?_ (StepsJ.cons ?_ StepsJ.nil)))))))))
    · intro u W J hL hJ hd
      simp only [putAll, Act.put, List.setIfInBounds_toArray, List.set_cons_succ, List.set_cons_zero, Nat.zero_add, Nat.reduceAdd]
      have hj1 := hJ.light (j := 0) (by decide)
      go_wp2
      first | exact hj1 | exact rfl | exact ⟨rfl, hj1⟩ | exact ⟨rfl, hj1, fun j v' _ _ h => h⟩ | exact ⟨_, rfl, rfl, hj1, fun j v' _ _ h => h⟩
    · intro u W J hL hJ hd
      have e0 : u 0 = .pointer (some ⟨cb, 0, none⟩) := (hd.1 rfl (by decide)).2
      simp only [putAll, Act.put, List.setIfInBounds_toArray, List.set_cons_succ, List.set_cons_zero, Nat.zero_add, Nat.reduceAdd]
      rw [e0]
      have hj1 := hJ.light (j := 1) (by decide)
      go_wp2
      first | exact hj1 | exact rfl | exact ⟨rfl, hj1⟩ | exact ⟨rfl, hj1, fun j v' _ _ h => h⟩ | exact ⟨_, rfl, rfl, hj1, fun j v' _ _ h => h⟩
    · intro u W J hL hJ hd
      have e0 : u 1 = .pointer (some ⟨cb, 0, none⟩) := (hd.1 rfl (by decide)).2
      simp only [putAll, Act.put, List.setIfInBounds_toArray, List.set_cons_succ, List.set_cons_zero, Nat.zero_add, Nat.reduceAdd]
      rw [e0]
      have hj1 := hJ.light (j := 2) (by decide)
      go_wp2
      first | exact hj1 | exact rfl | exact ⟨rfl, hj1⟩ | exact ⟨rfl, hj1, fun j v' _ _ h => h⟩ | exact ⟨_, rfl, rfl, hj1, fun j v' _ _ h => h⟩
    · intro u W J hL hJ hd
      simp only [putAll, Act.put, List.setIfInBounds_toArray, List.set_cons_succ, List.set_cons_zero, Nat.zero_add, Nat.reduceAdd]
      have hj1 := hJ.light (j := 3) (by decide)
      go_wp2
      first | exact hj1 | exact rfl | exact ⟨rfl, hj1⟩ | exact ⟨rfl, hj1, fun j v' _ _ h => h⟩ | exact ⟨_, rfl, rfl, hj1, fun j v' _ _ h => h⟩
    · intro u W J hL hJ hd
      have e0 : u 3 = .pointer (some ⟨cb, 0, none⟩) := (hd.1 rfl (by decide)).2
      simp only [putAll, Act.put, List.setIfInBounds_toArray, List.set_cons_succ, List.set_cons_zero, Nat.zero_add, Nat.reduceAdd]
      rw [e0]
      have hj1 := hJ.light (j := 4) (by decide)
      go_wp2
      first | exact hj1 | exact rfl | exact ⟨rfl, hj1⟩ | exact ⟨rfl, hj1, fun j v' _ _ h => h⟩ | exact ⟨_, rfl, rfl, hj1, fun j v' _ _ h => h⟩
    · intro u W J hL hJ hd
      have e0 : u 4 = .pointer (some ⟨cb, 0, none⟩) := (hd.1 rfl (by decide)).2
      simp only [putAll, Act.put, List.setIfInBounds_toArray, List.set_cons_succ, List.set_cons_zero, Nat.zero_add, Nat.reduceAdd]
      rw [e0]
      have hj1 := hJ.light (j := 5) (by decide)
      go_wp2
      first | exact hj1 | exact rfl | exact ⟨rfl, hj1⟩ | exact ⟨rfl, hj1, fun j v' _ _ h => h⟩ | exact ⟨_, rfl, rfl, hj1, fun j v' _ _ h => h⟩
    · intro u W J hL hJ hd
      simp only [putAll, Act.put, List.setIfInBounds_toArray, List.set_cons_succ, List.set_cons_zero, Nat.zero_add, Nat.reduceAdd]
      have hj1 := hJ.light (j := 6) (by decide)
      go_wp2
      first | exact hj1 | exact rfl | exact ⟨rfl, hj1⟩ | exact ⟨rfl, hj1, fun j v' _ _ h => h⟩ | exact ⟨_, rfl, rfl, hj1, fun j v' _ _ h => h⟩
    · intro u W J hL hJ hd
      have e0 : u 5 = .pointer (some ⟨cb, 0, none⟩) := (hd.1 rfl (by decide)).2
      have e1 : u 6 = .slice va N vc := (hd.2.1 rfl (by decide)).2
      simp only [putAll, Act.put, List.setIfInBounds_toArray, List.set_cons_succ, List.set_cons_zero, Nat.zero_add, Nat.reduceAdd]
      rw [e0, e1]
      go_wp2_with (go_at_call 43; (with_reducible refine (HAD.out W (hJ.a hL)).mono ?_); rintro e W1 ⟨rfl, hA⟩; have hj1 := hJ.call hL hA)
      first | exact hj1 | exact ⟨rfl, hj1⟩ | exact ⟨rfl, hj1, fun j v' _ _ h => h⟩ | exact ⟨_, rfl, rfl, hj1, fun j v' _ _ h => h⟩
    · intro u W J hL hJ hd
      have e0 : u 2 = .pointer (some ⟨cb, 0, none⟩) := (hd.1 rfl (by decide)).2
      have e1 : u 7 = .int .i64 0 := (hd.2.1 rfl (by decide)).2
      have h7 : J 7 = true := (hd.2.1 rfl (by decide)).1
      have hA := hJ.b h7
      obtain ⟨gs, gb, hat⟩ := hA.at_
      simp only [putAll, Act.put, List.setIfInBounds_toArray, List.set_cons_succ, List.set_cons_zero, Nat.zero_add, Nat.reduceAdd]
      rw [e0, e1]
      go_wp2_with (go_at_call 42; (with_reducible refine (cftold_zero cb gs r _ _ gb _ _ W hat).mono ?_); rintro e W1 ⟨rfl, rfl⟩; have hj1 := hJ.end_ h7 (hA.tell HDN.out HMB.out.1 HMB.out.2))
      first | exact hj1 | exact ⟨rfl, hj1⟩ | exact ⟨rfl, hj1, fun j v' _ _ h => h⟩ | exact ⟨_, rfl, rfl, hj1, fun j v' _ _ h => h⟩
  · intro u W J hall hJ hT
    have hA := Lib.hid (hJ.b (hall 7 (by decide)))
    have e0 : u 0 = .pointer (some ⟨cb, 0, none⟩) := hT 0 (by decide)
    have e1 : u 1 = .pointer (some ⟨cb, 0, none⟩) := hT 1 (by decide)
    have e2 : u 2 = .pointer (some ⟨cb, 0, none⟩) := hT 2 (by decide)
    have e3 : u 3 = .pointer (some ⟨cb, 0, none⟩) := hT 3 (by decide)
    have e4 : u 4 = .pointer (some ⟨cb, 0, none⟩) := hT 4 (by decide)
    have e5 : u 5 = .pointer (some ⟨cb, 0, none⟩) := hT 5 (by decide)
    have e6 : u 6 = .slice va N vc := hT 6 (by decide)
    have e7 : u 7 = .int .i64 0 := hT 7 (by decide)
    have e8 : u 8 = .int .i64 0 := hT 8 (by decide)
    clear hJ hT hall
    simp only [List.take_succ_cons, List.take_zero, List.drop_succ_cons, List.drop_zero, putAll, Act.put, List.setIfInBounds_toArray, List.set_cons_succ, List.set_cons_zero, Nat.zero_add, Nat.reduceAdd]
    rw [e0, e1, e2, e3, e4, e5, e6, e7, e8]
    clear e0 e1 e2 e3 e4 e5 e6 e7 e8
    go_wp2
    go_ret
    exact ⟨rfl, hA.out⟩

end Go.Proofs.YtejelednnacnaaaGreatDoor
