/-
  SignedAdds is proved: of any two numbers with a sign, right or not, what signed.Add, signed.Compare, signed.Neg and signed.Right answer is what the sizes say, or it is beyond; no condition.
-/
import Derived.Test.YtcdafppnfflmcaaRows
import Derived.Test.YtcdafppnfflmcaaSgI
import Derived.Test.YtcdafppnfflmcaaMix
import Derived.Test.YtcdafppnfflmcaaSgAwake
import Derived.Test.YtcdafppnfflmcaaSgOpen
import Derived.Lib.QuietBelow
import Derived.BigQuiet
import Derived.Deep.Cut
import Derived.Deep.CutRange
import Derived.Deep.DeepCutAuto
import Derived.Below
namespace Go.Proofs.Ytcdafppnfflmcaa
open Go.ChangeShapes Go.WideShapes Go.ChangeAt Go.RowKit Go.Joins

/-- What each operation of the first statement yields. -/
def TA (b c : Bool) (ah al bh bl : Int) (Ux Dx Uy Dy q : Nat) : Nat → Value → World → Prop
  | 0, v, _ => v = .agg #[.bool b, .int .u64 ah, .int .u64 al]
  | 1, v, W => ∃ a1 n1 c1 a2 n2 c2, v = .agg #[.slice a1 n1 c1, .slice a2 n2 c2] ∧ PairV v W Ux Dx
  | 2, v, _ => v = .agg #[.bool c, .int .u64 bh, .int .u64 bl]
  | 3, v, W => ∃ a1 n1 c1 a2 n2 c2, v = .agg #[.slice a1 n1 c1, .slice a2 n2 c2] ∧ PairV v W Uy Dy
  | _, v, W => ∃ p, v = .pointer (some ⟨p, 0, none⟩) ∧ q ≤ p ∧ Var2 W p (.slice none 0 0) (.slice none 0 0) ∧ Two2 W p
theorem TA.keep {b c : Bool} {ah al bh bl : Int} {Ux Dx Uy Dy q : Nat} : ∀ i v (w w' : World), TA b c ah al bh bl Ux Dx Uy Dy q i v w → Below w.heap.size w w' → TA b c ah al bh bl Ux Dx Uy Dy q i v w' := by
  intro i v w w' h hb
  unfold TA at *
  split at h <;> first | exact h | (obtain ⟨p, h1, h2, h3, h4⟩ := h; exact ⟨p, h1, h2, h3.after hb, h4.after h3.s hb⟩) | (obtain ⟨a1, n1, c1, a2, n2, c2, e, k⟩ := h; exact ⟨a1, n1, c1, a2, n2, c2, e, k.after hb⟩)
theorem TA.old {b c : Bool} {ah al bh bl : Int} {Ux Dx Uy Dy q : Nat} : ∀ i v (w : World), decide (4 ≤ i) = true → TA b c ah al bh bl Ux Dx Uy Dy q i v w → blk v < w.heap.size := by
  intro i v w hi h
  unfold TA at h
  split at h <;> first | (simp at hi; done) | (obtain ⟨p, rfl, _, h3, _⟩ := h; exact h3.s)

/-- What stands in memory behind the first statement. -/
structure Held2 (w W : World) (b c : Bool) (ah al bh bl : Int) (px py : Nat) (x1 x2 y1 y2 : Value) (Ux Dx Uy Dy : Nat) : Prop where
  ab : Vars2 w W b c ah al bh bl
  x : Var2 W px x1 x2
  y : Var2 W py y1 y2
  vx : PairV (.agg #[x1, x2]) W Ux Dx
  vy : PairV (.agg #[y1, y2]) W Uy Dy
theorem Held2.after {w W W1 : World} {b c : Bool} {ah al bh bl : Int} {px py : Nat} {x1 x2 y1 y2 : Value} {Ux Dx Uy Dy : Nat} (k : Held2 w W b c ah al bh bl px py x1 x2 y1 y2 Ux Dx Uy Dy) (hb : Below W.heap.size W W1) :
    Held2 w W1 b c ah al bh bl px py x1 x2 y1 y2 Ux Dx Uy Dy := ⟨k.ab.after hb, k.x.after hb, k.y.after hb, k.vx.after hb, k.vy.after hb⟩
theorem Held2.alloc {w W : World} {b c : Bool} {ah al bh bl : Int} {px py : Nat} {x1 x2 y1 y2 : Value} {Ux Dx Uy Dy : Nat} (k : Held2 w W b c ah al bh bl px py x1 x2 y1 y2 Ux Dx Uy Dy) (o : Obj) :
    Held2 w (W.alloc o) b c ah al bh bl px py x1 x2 y1 y2 Ux Dx Uy Dy := k.after ((Below.refl _ _).alloc (Nat.le_refl _) o)
theorem Held2.drew {w W : World} {b c : Bool} {ah al bh bl : Int} {px py : Nat} {x1 x2 y1 y2 : Value} {Ux Dx Uy Dy : Nat} (k : Held2 w W b c ah al bh bl px py x1 x2 y1 y2 Ux Dx Uy Dy) :
    Held2 w W.drew b c ah al bh bl px py x1 x2 y1 y2 Ux Dx Uy Dy := k.after (Below.refl _ _).drew

theorem rof_ul (b : Bool) (h l : Int) (A : Nat) (w : World) (hA : IsW h l A) :
    Calls Try.prog 35 #[.agg #[.bool b, .int .u64 h, .int .u64 l]] w fun e w' => ∃ a1 n1 c1 a2 n2 c2, e = .returned (.agg #[.slice a1 n1 c1, .slice a2 n2 c2]) ∧ PairV (.agg #[.slice a1 n1 c1, .slice a2 n2 c2]) w' (upN b A) (dnN b A) ∧ Below w.heap.size w w' := rof_long b h l A w hA
/-- A pair, of some lists. -/
def PairN (v : Value) (W : World) (U D n : Nat) : Prop := ∃ vu vd lu ld, v = .agg #[vu, vd] ∧ PairIs W vu vd lu ld U D n
theorem PairN.after {v : Value} {W W1 : World} {U D n : Nat} (h : PairN v W U D n) (hb : Below W.heap.size W W1) : PairN v W1 U D n := by
  obtain ⟨vu, vd, lu, ld, e, k⟩ := h
  exact ⟨vu, vd, lu, ld, e, k.after hb⟩
theorem PairV.pairN {v : Value} {W : World} {U D : Nat} (h : PairV v W U D) : PairN v W U D 128 := by
  obtain ⟨a1, c1, a2, c2, lu, ld, e, k, _⟩ := h.is
  exact ⟨_, _, lu, ld, e, k⟩
theorem PairV.turned {x1 x2 : Value} {W : World} {U D : Nat} (h : PairV (.agg #[x1, x2]) W U D) : PairN (.agg #[x2, x1]) W D U 128 := by
  obtain ⟨a1, c1, a2, c2, lu, ld, e, k, _⟩ := h.is
  simp only [Value.agg.injEq, Array.mk.injEq, List.cons.injEq, and_true] at e
  obtain ⟨rfl, rfl⟩ := e
  exact ⟨_, _, ld, lu, rfl, k.turn⟩
theorem radd_pv (v v' : Value) (U D U' D' : Nat) (w : World) (h : PairV v w U D) (h' : PairV v' w U' D') :
    Calls Try.prog 38 #[v, v'] w fun e w' => ∃ a1 n1 c1 a2 n2 c2, e = .returned (.agg #[.slice a1 n1 c1, .slice a2 n2 c2]) ∧ PairN (.agg #[.slice a1 n1 c1, .slice a2 n2 c2]) w' (U + U') (D + D') 129 ∧ Below w.heap.size w w' := by
  obtain ⟨vu, vd, lu, ld, rfl, k⟩ := h.pairN
  obtain ⟨vu', vd', lu', ld', rfl, k'⟩ := h'.pairN
  refine (radd_any vu vd vu' vd' lu ld lu' ld' U D U' D' 128 w k k' (by decide)).mono ?_
  rintro e w' ⟨v1, v2, l1, l2, rfl, kk, g⟩
  obtain ⟨a1, c1, rfl⟩ := kk.u.len
  obtain ⟨a2, c2, rfl⟩ := kk.d.len
  exact ⟨_, _, _, _, _, _, rfl, ⟨_, _, l1, l2, rfl, kk⟩, g⟩
theorem rcompare_pv (k : Int) (v v' : Value) (U D U' D' : Nat) (w : World) (h : PairV v w U D) (h' : PairV v' w U' D') (hk : cmpI (U + D') (D + U') = k) :
    Calls Try.prog 41 #[v, v'] w fun e w' => e = .returned (.int .i64 k) ∧ Below w.heap.size w w' := by
  subst hk
  obtain ⟨vu, vd, lu, ld, rfl, k⟩ := h.pairN
  obtain ⟨vu', vd', lu', ld', rfl, k'⟩ := h'.pairN
  exact rcompare_any vu vd vu' vd' lu ld lu' ld' U D U' D' 128 w k k' (by decide)
theorem to_fit (v : Value) (U D n : Nat) (s : Bool) (h l z : Int) (w : World) (hp : PairN v w U D n) (hn : n ≤ 100000) (hz : (U : Int) - D = z) (hw : W128 z.natAbs) (hZ : IsZ s h l z) :
    Calls Try.prog 37 #[v] w fun e w' => e = .returned (.tuple #[.agg #[.bool s, .int .u64 h, .int .u64 l], .bool true]) ∧ Below w.heap.size w w' := by
  obtain ⟨vu, vd, lu, ld, rfl, k⟩ := hp
  refine (to_any vu vd lu ld U D n w k hn).mono ?_
  rintro e w' ⟨s', h', l', ok, rfl, h1, _, g⟩
  rw [gap_abs hz, hz] at h1
  obtain ⟨rfl, hZ'⟩ := h1 hw
  obtain ⟨rfl, rfl, rfl⟩ := hZ'.unique hZ
  exact ⟨rfl, g⟩
theorem to_out (v : Value) (U D n : Nat) (z : Int) (w : World) (hp : PairN v w U D n) (hn : n ≤ 100000) (hz : (U : Int) - D = z) (hw : ¬ W128 z.natAbs) :
    Calls Try.prog 37 #[v] w fun e w' => ∃ (s : Bool) (h l : Int), e = .returned (.tuple #[.agg #[.bool s, .int .u64 h, .int .u64 l], .bool false]) ∧ Below w.heap.size w w' := by
  obtain ⟨vu, vd, lu, ld, rfl, k⟩ := hp
  refine (to_any vu vd lu ld U D n w k hn).mono ?_
  rintro e w' ⟨s', h', l', ok, rfl, _, h2, g⟩
  rw [gap_abs hz] at h2
  obtain rfl := h2 hw
  exact ⟨s', h', l', rfl, g⟩
theorem sadd_fit (b c s : Bool) (ah al bh bl h l : Int) (A B : Nat) (z : Int) (w : World) (ha : IsW ah al A) (hb : IsW bh bl B) (hz : valZ b A + valZ c B = z) (hw : W128 z.natAbs) (hZ : IsZ s h l z) :
    Calls Try.prog 36 #[.agg #[.bool b, .int .u64 ah, .int .u64 al], .agg #[.bool c, .int .u64 bh, .int .u64 bl]] w fun e w' => e = .returned (.tuple #[.agg #[.bool s, .int .u64 h, .int .u64 l], .int .i64 0]) ∧ Below w.heap.size w w' := by
  refine (sadd_any b c ah al bh bl A B w ha hb).mono ?_
  rintro e w' ⟨s', h', l', rfl, hZ', g⟩
  rw [hz, show capZ z = z from if_pos hw] at hZ'
  obtain ⟨rfl, rfl, rfl⟩ := hZ'.unique hZ
  exact ⟨by rw [hz, capC_in hw], g⟩
theorem sadd_out (b c : Bool) (ah al bh bl : Int) (A B : Nat) (z : Int) (w : World) (ha : IsW ah al A) (hb : IsW bh bl B) (hz : valZ b A + valZ c B = z) (hw : ¬ W128 z.natAbs) :
    Calls Try.prog 36 #[.agg #[.bool b, .int .u64 ah, .int .u64 al], .agg #[.bool c, .int .u64 bh, .int .u64 bl]] w fun e w' => e = .returned (.tuple #[.agg #[.bool false, .int .u64 0, .int .u64 0], .int .i64 3]) ∧ Below w.heap.size w w' := by
  refine (sadd_any b c ah al bh bl A B w ha hb).mono ?_
  rintro e w' ⟨s', h', l', rfl, hZ', g⟩
  rw [hz, (z_out rfl hw).1] at hZ'
  obtain ⟨rfl, rfl, rfl⟩ := hZ'.unique IsZ.zero
  exact ⟨by rw [hz, (z_out rfl hw).2], g⟩
theorem neg_z2 (b : Bool) {h l : Int} {A : Nat} (hA : IsW h l A) : IsZ (downB (!b) A) h l (-(valZ b A)) := by
  have e : (-(valZ b A)).natAbs = A := by cases b <;> simp [valZ]
  refine ⟨?_, by rw [e]; exact hA⟩
  cases b <;> by_cases h0 : A = 0 <;> simp [downB, valZ, h0] <;> omega
theorem right_n (b : Bool) (h l : Int) (A : Nat) (w : World) (hA : IsW h l A) :
    Calls Try.prog 42 #[.agg #[.bool (downB b A), .int .u64 h, .int .u64 l]] w fun e w' => e = .returned (.bool true) ∧ Below w.heap.size w w' := by
  have := right_any (downB b A) h l A w hA
  have hr : rightB (downB b A) A = true := by unfold rightB downB; cases b <;> by_cases h0 : A = 0 <;> simp [h0]
  rw [hr] at this; exact this
theorem scompare_is (k : Int) (b c : Bool) (ah al bh bl : Int) (A B : Nat) (w : World) (ha : IsW ah al A) (hb : IsW bh bl B) (hk : cmpZ (valZ b A) (valZ c B) = k) :
    Calls Try.prog 40 #[.agg #[.bool b, .int .u64 ah, .int .u64 al], .agg #[.bool c, .int .u64 bh, .int .u64 bl]] w fun e w' => e = .returned (.int .i64 k) ∧ Below w.heap.size w w' := by
  rw [← hk]; exact scompare_any b c ah al bh bl A B w ha hb
theorem right_b (b r : Bool) (h l : Int) (N : Nat) (w : World) (hW : IsW h l N) (hr : rightB b N = r) :
    Calls Try.prog 42 #[.agg #[.bool b, .int .u64 h, .int .u64 l]] w fun e w' => e = .returned (.bool r) ∧ Below w.heap.size w w' := by
  rw [← hr]; exact right_any b h l N w hW
theorem fits_z {z : Int} (hw : W128 z.natAbs) : ∃ s h l, IsZ s h l z := ⟨decide (z < 0), _, _, rfl, IsW.of_nat hw⟩

set_option maxRecDepth 100000 in
set_option maxHeartbeats 4000000 in
theorem sadds_walk (b c : Bool) (ah al bh bl : Int) (A B : Nat) (w : World) (hA : IsW ah al A) (hB : IsW bh bl B) :
    Calls Try.prog 8 #[.agg #[.bool b, .int .u64 ah, .int .u64 al], .agg #[.bool c, .int .u64 bh, .int .u64 bl]] w fun e w' => e = .returned (.bool true) ∧ Below w.heap.size w w' := by
  have HA := Lib.hid hA
  have HB := Lib.hid hB
  clear hA hB
  have K0 := Lib.hid (Vars2.start w b c ah al bh bl)
  go_enter Try.func8, Try.ntmps8
  go_upto_region 3 with (first | (go_at_call 34; (with_reducible refine (sg_awake _).mono ?_); rintro e w1 ⟨rfl, g1⟩; have K1 := Lib.hid (K0.out.after g1)))
  go_cut [5, 6] from 16 to 19 (fun s5 s6 wx => ∃ px py a1 n1 c1 a2 n2 c2 a3 n3 c3 a4 n4 c4, s5 = .pointer (some ⟨px, 0, none⟩) ∧ s6 = .pointer (some ⟨py, 0, none⟩) ∧
    Held2 w wx b c ah al bh bl px py (.slice a1 n1 c1) (.slice a2 n2 c2) (.slice a3 n3 c3) (.slice a4 n4 c4) (upN b A) (dnN b A) (upN c B) (dnN c B))
  case first =>
    refine wp_region_mix 6 (TA b c ah al bh bl (upN b A) (dnN b A) (upN c B) (dnN c B) w1.heap.size) (fun i => decide (4 ≤ i)) (by kernel_rfl) (by kernel_rfl) TA.keep TA.old ?_ ?_
    · refine ⟨?_, ?_, ?_, ?_, ?_, ?_, trivial⟩
      · intro u W hb _
        obtain ⟨⟨_, _, _, _, _, _, _⟩, ⟨_, _, _, _, _, _, _⟩, _⟩ := K1.out.after hb
        simp only [List.take_succ_cons, List.take_zero, putAll, Act.put, List.setIfInBounds_toArray, List.set_cons_succ, List.set_cons_zero, Nat.zero_add, Nat.reduceAdd]
        go_wp2
        exact ⟨rfl, Below.refl _ _⟩
      · intro u W hb hd
        obtain ⟨hd0, _⟩ := hd
        have e0 : u 0 = _ := hd0 rfl (by decide)
        simp only [List.take_succ_cons, List.take_zero, putAll, Act.put, List.setIfInBounds_toArray, List.set_cons_succ, List.set_cons_zero, Nat.zero_add, Nat.reduceAdd]
        rw [e0]
        go_wp2_with (go_at_call 35; (with_reducible refine (rof_ul b ah al A _ HA.out).mono ?_); rintro e W1 ⟨a1, n1, c1, a2, n2, c2, rfl, hv, g⟩)
        exact ⟨_, rfl, ⟨a1, n1, c1, a2, n2, c2, rfl, hv⟩, g, fun h => by simp at h⟩
      · intro u W hb _
        obtain ⟨⟨_, _, _, _, _, _, _⟩, ⟨_, _, _, _, _, _, _⟩, _⟩ := K1.out.after hb
        simp only [List.take_succ_cons, List.take_zero, putAll, Act.put, List.setIfInBounds_toArray, List.set_cons_succ, List.set_cons_zero, Nat.zero_add, Nat.reduceAdd]
        go_wp2
        exact ⟨rfl, Below.refl _ _⟩
      · intro u W hb hd
        obtain ⟨hd0, _⟩ := hd
        have e0 : u 2 = _ := hd0 rfl (by decide)
        simp only [List.take_succ_cons, List.take_zero, putAll, Act.put, List.setIfInBounds_toArray, List.set_cons_succ, List.set_cons_zero, Nat.zero_add, Nat.reduceAdd]
        rw [e0]
        go_wp2_with (go_at_call 35; (with_reducible refine (rof_ul c bh bl B _ HB.out).mono ?_); rintro e W1 ⟨a1, n1, c1, a2, n2, c2, rfl, hv, g⟩)
        exact ⟨_, rfl, ⟨a1, n1, c1, a2, n2, c2, rfl, hv⟩, g, fun h => by simp at h⟩
      · intro u W hb _
        have hq : w1.heap.size ≤ W.heap.size := hb.size
        simp only [List.take_succ_cons, List.take_zero, putAll, Act.put, List.setIfInBounds_toArray, List.set_cons_succ, List.set_cons_zero, Nat.zero_add, Nat.reduceAdd]
        go_wp2
        exact ⟨⟨W.heap.size, rfl, hq, Var2.fresh _ _ _ 60 _ rfl, Two2.fresh _ _ _ _⟩, (Below.refl _ _).alloc (Nat.le_refl _) _, Nat.le_refl _⟩
      · intro u W hb _
        have hq : w1.heap.size ≤ W.heap.size := hb.size
        simp only [List.take_succ_cons, List.take_zero, putAll, Act.put, List.setIfInBounds_toArray, List.set_cons_succ, List.set_cons_zero, Nat.zero_add, Nat.reduceAdd]
        go_wp2
        exact ⟨⟨W.heap.size, rfl, hq, Var2.fresh _ _ _ 60 _ rfl, Two2.fresh _ _ _ _⟩, (Below.refl _ _).alloc (Nat.le_refl _) _, Nat.le_refl _⟩
    · intro u W hb hT hdj
      obtain ⟨a1, n1, c1, a2, n2, c2, e1, v1⟩ := hT 1 (by decide)
      obtain ⟨a3, n3, c3, a4, n4, c4, e3, v3⟩ := hT 3 (by decide)
      obtain ⟨px, ex, qx, vx, tx⟩ := hT 4 (by decide)
      obtain ⟨py, ey, qy, vy, ty⟩ := hT 5 (by decide)
      have d1 := hdj 4 5 (by decide) (by decide) rfl rfl (by decide)
      rw [ex, ey] at d1
      replace d1 : px ≠ py := d1
      rw [e1] at v1
      rw [e3] at v3
      have HV := Lib.hid (And.intro vx vy)
      have HT := Lib.hid (And.intro tx ty)
      have HP := Lib.hid (And.intro v1 v3)
      have HK := Lib.hid (K1.out.after hb)
      have s1 := K1.out.a.s
      have s2 := K1.out.b.s
      have m1 : ¬ px = py := d1
      have m2 : ¬ py = px := fun e => d1 e.symm
      clear tx ty v1 v3
      obtain ⟨_, _, _, _, _⟩ := vx
      obtain ⟨_, _, _, _, _⟩ := vy
      simp only [List.take_succ_cons, List.take_zero, List.drop_succ_cons, List.drop_zero, putAll, Act.put, List.setIfInBounds_toArray, List.set_cons_succ, List.set_cons_zero, Nat.zero_add, Nat.reduceAdd]
      rw [e1, e3, ex, ey]
      go_wp2_with fail
      go_meet
      refine ⟨px, py, a1, n1, c1, a2, n2, c2, a3, n3, c3, a4, n4, c4, rfl, rfl, ?_⟩
      have hw : ∀ p, w1.heap.size ≤ p → w.heap.size ≤ p ∧ p ≠ w.heap.size ∧ p ≠ w.heap.size + 1 := fun p hp => by omega
      obtain ⟨x0, x1, x2⟩ := hw px qx
      obtain ⟨y0, y1, y2⟩ := hw py qy
      exact ⟨⟨(HK.out.a.else2 x1 _ _).else2 y1 _ _, (HK.out.b.else2 x2 _ _).else2 y2 _ _, below_put2 (below_put2 HK.out.below x0 _ _) y0 _ _⟩,
        (HV.out.1.put _ _).else2 m2 _ _, (HV.out.2.else2 m1 _ _).put _ _, (HP.out.1.store2 HT.out.1 _ _).store2 (HT.out.2.else2 m1 _ _) _ _, (HP.out.2.store2 HT.out.1 _ _).store2 (HT.out.2.else2 m1 _ _) _ _⟩
  case rest =>
    obtain ⟨px, py, a1, n1, c1, a2, n2, c2, a3, n3, c3, a4, n4, c4, rfl, rfl, KH⟩ := hcut
    replace KH := Lib.hid KH
    obtain ⟨z, hz⟩ : ∃ z, valZ b A + valZ c B = z := ⟨_, rfl⟩
    have hps := Lib.hid ((pair_sum b c A B).trans hz)
    have hpt : Hid (((dnN b A : Nat) : Int) - upN b A = -(valZ b A)) := by have := pair_num b A; unfold Hid; omega
    have hpw : Hid (W128 (-(valZ b A)).natAbs) := by have e : (-(valZ b A)).natAbs = A := (by cases b <;> simp [valZ]); unfold Hid; rw [e]; exact HA.out.lt
    have hnz := Lib.hid (neg_z2 b HA.out)
    replace hz := Lib.hid hz
    obtain ⟨⟨⟨_, _, _, _, _, _, _⟩, ⟨_, _, _, _, _, _, _⟩, _⟩, ⟨_, _, _, _, _⟩, ⟨_, _, _, _, _⟩, _, _⟩ := KH.out
    by_cases hw : W128 z.natAbs
    · obtain ⟨s, h, l, hZ⟩ := fits_z hw
      replace hZ := Lib.hid hZ
      replace hw := Lib.hid hw
      go_upto_region 10 with (first
        | (go_at_call 36; (with_reducible refine (sadd_fit b c s ah al bh bl h l A B z _ HA.out HB.out hz.out hw.out hZ.out).mono ?_); rintro e w2 ⟨rfl, g2⟩; have KH2 := Lib.hid (KH.out.after g2); obtain ⟨⟨⟨_, _, _, _, _, _, _⟩, ⟨_, _, _, _, _, _, _⟩, _⟩, ⟨_, _, _, _, _⟩, ⟨_, _, _, _, _⟩, _, _⟩ := KH2.out)
        | (go_at_call 38; (with_reducible refine (radd_pv _ _ _ _ _ _ _ (KH2.out.alloc _).vx (KH2.out.alloc _).vy).mono ?_); rintro e w3 ⟨a5, n5, c5, a6, n6, c6, rfl, hp, g3⟩; have KH3 := Lib.hid ((KH2.out.alloc _).after g3); have S3 := Lib.hid ((Var3.fresh w2 (.bool s) (.int .u64 h) (.int .u64 l) 58 _ rfl).after g3); replace hp := Lib.hid hp)
        | (go_at_call 37; (with_reducible refine (to_fit _ _ _ 129 s h l z _ hp.out (by decide) hps.out hw.out hZ.out).mono ?_); rintro e w4 ⟨rfl, g4⟩; have KH4 := Lib.hid (KH3.out.after g4); obtain ⟨⟨⟨_, _, _, _, _, _, _⟩, ⟨_, _, _, _, _, _, _⟩, _⟩, ⟨_, _, _, _, _⟩, ⟨_, _, _, _, _⟩, _, _⟩ := KH4.out; obtain ⟨_, _, _, _, _, _, _⟩ := S3.out.after g4)
        | (go_at_call 39; (with_reducible refine (neg_any b ah al A _ HA.out).mono ?_); rintro e w5 ⟨rfl, g5⟩; have KH5 := Lib.hid ((KH4.out.alloc _).after g5); obtain ⟨⟨⟨_, _, _, _, _, _, _⟩, ⟨_, _, _, _, _, _, _⟩, _⟩, ⟨_, _, _, _, _⟩, ⟨_, _, _, _, _⟩, _, _⟩ := KH5.out)
        | (go_at_call 37; (with_reducible refine (to_fit _ _ _ 128 (downB (!b) A) ah al (-(valZ b A)) _ (KH5.out.alloc _).vx.turned (by decide) hpt.out hpw.out hnz.out).mono ?_); rintro e w6 ⟨rfl, g6⟩; have KH6 := Lib.hid ((KH5.out.alloc _).after g6); have N6 := Lib.hid ((Var3.fresh w5 (.bool (downB (!b) A)) (.int .u64 ah) (.int .u64 al) 58 _ rfl).after g6)))
      clear hw hZ hp S3 hz hps hpt hpw hnz
      obtain ⟨k, hk⟩ : ∃ k, cmpZ (valZ b A) (valZ c B) = k := ⟨_, rfl⟩
      have hkr := Lib.hid ((pair_cmp b c A B).trans hk)
      replace hk := Lib.hid hk
      cases b
      · have hr := Lib.hid (show rightB false A = true from rfl)
        have KH7 := Lib.hid (KH6.out.alloc (.cells #[.bool (downB (!false) A), .int .u64 ah, .int .u64 al] 58))
        have N7 := Lib.hid (N6.out.alloc (.cells #[.bool (downB (!false) A), .int .u64 ah, .int .u64 al] 58))
        have M7 := Lib.hid (Var3.fresh w6 (.bool (downB (!false) A)) (.int .u64 ah) (.int .u64 al) 58 _ rfl)
        generalize w6.alloc (.cells #[.bool (downB (!false) A), .int .u64 ah, .int .u64 al] 58) = W0 at KH7 N7 M7 ⊢
        have f0 := cell_regrown KH7.out.ab.a.c0
        have f1 := cell_regrown KH7.out.ab.a.c1
        have f2 := cell_regrown KH7.out.ab.a.c2
        have f3 := cell_regrown KH7.out.ab.b.c0
        have f4 := cell_regrown KH7.out.ab.b.c1
        have f5 := cell_regrown KH7.out.ab.b.c2
        have f6 := cell_regrown KH7.out.x.c0
        have f7 := cell_regrown KH7.out.x.c1
        have f8 := cell_regrown KH7.out.y.c0
        have f9 := cell_regrown KH7.out.y.c1
        have f10 := cell_regrown N7.out.c0
        have f11 := cell_regrown N7.out.c1
        have f12 := cell_regrown N7.out.c2
        have f13 := cell_regrown M7.out.c0
        have f14 := cell_regrown M7.out.c1
        have f15 := cell_regrown M7.out.c2
        clear K0 K1 KH KH2 KH3 KH4 KH5 KH6 N6 g2 g3 g4 g5 g6
        refine wp_region_quiet_below (by kernel_rfl) (by kernel_rfl) ?_
        repeat (quiet_step (first
          | (go_at_call 40; exact Calls.regrown_of (scompare_is k false c ah al bh bl A B _ HA.out HB.out hk.out))
          | (go_at_call 41; exact Calls.regrown_of (rcompare_pv k _ _ _ _ _ _ _ (KH7.out.vx.after (below_regrown _ _ _)) (KH7.out.vy.after (below_regrown _ _ _)) hkr.out))
          | (go_at_call 42; exact Calls.regrown_of (right_b false true ah al A _ HA.out hr.out))
          | (go_at_call 42; exact Calls.regrown_of (right_n (!false) ah al A _ HA.out))))
        refine wpQuiet_nil ?_
        intro _ hw'
        obtain ⟨⟨dq, osq⟩, hw''⟩ := hw'
        subst hw''
        go_wp2
        go_ret
        exact ⟨rfl, below_step KH7.out.ab.below (below_regrown W0 dq osq)⟩
      · by_cases h0 : A = 0
        · subst h0
          obtain ⟨rfl, rfl⟩ := HA.out.nought
          have hr := Lib.hid (show rightB true 0 = false from rfl)
          have KH7 := Lib.hid (KH6.out.alloc (.cells #[.bool (downB (!true) 0), .int .u64 0, .int .u64 0] 58))
          have N7 := Lib.hid (N6.out.alloc (.cells #[.bool (downB (!true) 0), .int .u64 0, .int .u64 0] 58))
          have M7 := Lib.hid (Var3.fresh w6 (.bool (downB (!true) 0)) (.int .u64 0) (.int .u64 0) 58 _ rfl)
          generalize w6.alloc (.cells #[.bool (downB (!true) 0), .int .u64 0, .int .u64 0] 58) = W0 at KH7 N7 M7 ⊢
          have f0 := cell_regrown KH7.out.ab.a.c0
          have f1 := cell_regrown KH7.out.ab.a.c1
          have f2 := cell_regrown KH7.out.ab.a.c2
          have f3 := cell_regrown KH7.out.ab.b.c0
          have f4 := cell_regrown KH7.out.ab.b.c1
          have f5 := cell_regrown KH7.out.ab.b.c2
          have f6 := cell_regrown KH7.out.x.c0
          have f7 := cell_regrown KH7.out.x.c1
          have f8 := cell_regrown KH7.out.y.c0
          have f9 := cell_regrown KH7.out.y.c1
          have f10 := cell_regrown N7.out.c0
          have f11 := cell_regrown N7.out.c1
          have f12 := cell_regrown N7.out.c2
          have f13 := cell_regrown M7.out.c0
          have f14 := cell_regrown M7.out.c1
          have f15 := cell_regrown M7.out.c2
          clear K0 K1 KH KH2 KH3 KH4 KH5 KH6 N6 g2 g3 g4 g5 g6
          refine wp_region_quiet_below (by kernel_rfl) (by kernel_rfl) ?_
          repeat (quiet_step (first
            | (go_at_call 40; exact Calls.regrown_of (scompare_is k true c 0 0 bh bl 0 B _ HA.out HB.out hk.out))
            | (go_at_call 41; exact Calls.regrown_of (rcompare_pv k _ _ _ _ _ _ _ (KH7.out.vx.after (below_regrown _ _ _)) (KH7.out.vy.after (below_regrown _ _ _)) hkr.out))
            | (go_at_call 42; exact Calls.regrown_of (right_b true false 0 0 0 _ HA.out hr.out))
            | (go_at_call 42; exact Calls.regrown_of (right_n (!true) 0 0 0 _ HA.out))))
          refine wpQuiet_nil ?_
          intro _ hw'
          obtain ⟨⟨dq, osq⟩, hw''⟩ := hw'
          subst hw''
          go_wp2
          go_ret
          exact ⟨rfl, below_step KH7.out.ab.below (below_regrown W0 dq osq)⟩
        · have hr := Lib.hid (show rightB true A = true by simp [rightB, h0])
          have hx := HA.out.some h0
          clear h0
          by_cases hh : ah = 0
          · replace hx := hx hh
            subst hh
            have KH7 := Lib.hid (KH6.out.alloc (.cells #[.bool (downB (!true) A), .int .u64 0, .int .u64 al] 58))
            have N7 := Lib.hid (N6.out.alloc (.cells #[.bool (downB (!true) A), .int .u64 0, .int .u64 al] 58))
            have M7 := Lib.hid (Var3.fresh w6 (.bool (downB (!true) A)) (.int .u64 0) (.int .u64 al) 58 _ rfl)
            generalize w6.alloc (.cells #[.bool (downB (!true) A), .int .u64 0, .int .u64 al] 58) = W0 at KH7 N7 M7 ⊢
            have f0 := cell_regrown KH7.out.ab.a.c0
            have f1 := cell_regrown KH7.out.ab.a.c1
            have f2 := cell_regrown KH7.out.ab.a.c2
            have f3 := cell_regrown KH7.out.ab.b.c0
            have f4 := cell_regrown KH7.out.ab.b.c1
            have f5 := cell_regrown KH7.out.ab.b.c2
            have f6 := cell_regrown KH7.out.x.c0
            have f7 := cell_regrown KH7.out.x.c1
            have f8 := cell_regrown KH7.out.y.c0
            have f9 := cell_regrown KH7.out.y.c1
            have f10 := cell_regrown N7.out.c0
            have f11 := cell_regrown N7.out.c1
            have f12 := cell_regrown N7.out.c2
            have f13 := cell_regrown M7.out.c0
            have f14 := cell_regrown M7.out.c1
            have f15 := cell_regrown M7.out.c2
            clear K0 K1 KH KH2 KH3 KH4 KH5 KH6 N6 g2 g3 g4 g5 g6
            refine wp_region_quiet_below (by kernel_rfl) (by kernel_rfl) ?_
            repeat (quiet_step (first
              | (go_at_call 40; exact Calls.regrown_of (scompare_is k true c 0 al bh bl A B _ HA.out HB.out hk.out))
              | (go_at_call 41; exact Calls.regrown_of (rcompare_pv k _ _ _ _ _ _ _ (KH7.out.vx.after (below_regrown _ _ _)) (KH7.out.vy.after (below_regrown _ _ _)) hkr.out))
              | (go_at_call 42; exact Calls.regrown_of (right_b true true 0 al A _ HA.out hr.out))
              | (go_at_call 42; exact Calls.regrown_of (right_n (!true) 0 al A _ HA.out))))
            refine wpQuiet_nil ?_
            intro _ hw'
            obtain ⟨⟨dq, osq⟩, hw''⟩ := hw'
            subst hw''
            go_wp2
            go_ret
            exact ⟨rfl, below_step KH7.out.ab.below (below_regrown W0 dq osq)⟩
          · clear hx
            have KH7 := Lib.hid (KH6.out.alloc (.cells #[.bool (downB (!true) A), .int .u64 ah, .int .u64 al] 58))
            have N7 := Lib.hid (N6.out.alloc (.cells #[.bool (downB (!true) A), .int .u64 ah, .int .u64 al] 58))
            have M7 := Lib.hid (Var3.fresh w6 (.bool (downB (!true) A)) (.int .u64 ah) (.int .u64 al) 58 _ rfl)
            generalize w6.alloc (.cells #[.bool (downB (!true) A), .int .u64 ah, .int .u64 al] 58) = W0 at KH7 N7 M7 ⊢
            have f0 := cell_regrown KH7.out.ab.a.c0
            have f1 := cell_regrown KH7.out.ab.a.c1
            have f2 := cell_regrown KH7.out.ab.a.c2
            have f3 := cell_regrown KH7.out.ab.b.c0
            have f4 := cell_regrown KH7.out.ab.b.c1
            have f5 := cell_regrown KH7.out.ab.b.c2
            have f6 := cell_regrown KH7.out.x.c0
            have f7 := cell_regrown KH7.out.x.c1
            have f8 := cell_regrown KH7.out.y.c0
            have f9 := cell_regrown KH7.out.y.c1
            have f10 := cell_regrown N7.out.c0
            have f11 := cell_regrown N7.out.c1
            have f12 := cell_regrown N7.out.c2
            have f13 := cell_regrown M7.out.c0
            have f14 := cell_regrown M7.out.c1
            have f15 := cell_regrown M7.out.c2
            clear K0 K1 KH KH2 KH3 KH4 KH5 KH6 N6 g2 g3 g4 g5 g6
            refine wp_region_quiet_below (by kernel_rfl) (by kernel_rfl) ?_
            repeat (quiet_step (first
              | (go_at_call 40; exact Calls.regrown_of (scompare_is k true c ah al bh bl A B _ HA.out HB.out hk.out))
              | (go_at_call 41; exact Calls.regrown_of (rcompare_pv k _ _ _ _ _ _ _ (KH7.out.vx.after (below_regrown _ _ _)) (KH7.out.vy.after (below_regrown _ _ _)) hkr.out))
              | (go_at_call 42; exact Calls.regrown_of (right_b true true ah al A _ HA.out hr.out))
              | (go_at_call 42; exact Calls.regrown_of (right_n (!true) ah al A _ HA.out))))
            refine wpQuiet_nil ?_
            intro _ hw'
            obtain ⟨⟨dq, osq⟩, hw''⟩ := hw'
            subst hw''
            go_wp2
            go_ret
            exact ⟨rfl, below_step KH7.out.ab.below (below_regrown W0 dq osq)⟩
    · replace hw := Lib.hid hw
      go_upto_region 10 with (first
        | (go_at_call 36; (with_reducible refine (sadd_out b c ah al bh bl A B z _ HA.out HB.out hz.out hw.out).mono ?_); rintro e w2 ⟨rfl, g2⟩; have KH2 := Lib.hid (KH.out.after g2); obtain ⟨⟨⟨_, _, _, _, _, _, _⟩, ⟨_, _, _, _, _, _, _⟩, _⟩, ⟨_, _, _, _, _⟩, ⟨_, _, _, _, _⟩, _, _⟩ := KH2.out)
        | (go_at_call 38; (with_reducible refine (radd_pv _ _ _ _ _ _ _ (KH2.out.alloc _).vx (KH2.out.alloc _).vy).mono ?_); rintro e w3 ⟨a5, n5, c5, a6, n6, c6, rfl, hp, g3⟩; have KH3 := Lib.hid ((KH2.out.alloc _).after g3); have S3 := Lib.hid ((Var3.fresh w2 (.bool false) (.int .u64 0) (.int .u64 0) 58 _ rfl).after g3); replace hp := Lib.hid hp)
        | (go_at_call 37; (with_reducible refine (to_out _ _ _ 129 z _ hp.out (by decide) hps.out hw.out).mono ?_); rintro e w4 ⟨ts, th, tl, rfl, g4⟩; have KH4 := Lib.hid (KH3.out.after g4); obtain ⟨⟨⟨_, _, _, _, _, _, _⟩, ⟨_, _, _, _, _, _, _⟩, _⟩, ⟨_, _, _, _, _⟩, ⟨_, _, _, _, _⟩, _, _⟩ := KH4.out; obtain ⟨_, _, _, _, _, _, _⟩ := S3.out.after g4)
        | (go_at_call 39; (with_reducible refine (neg_any b ah al A _ HA.out).mono ?_); rintro e w5 ⟨rfl, g5⟩; have KH5 := Lib.hid ((KH4.out.alloc _).after g5); obtain ⟨⟨⟨_, _, _, _, _, _, _⟩, ⟨_, _, _, _, _, _, _⟩, _⟩, ⟨_, _, _, _, _⟩, ⟨_, _, _, _, _⟩, _, _⟩ := KH5.out)
        | (go_at_call 37; (with_reducible refine (to_fit _ _ _ 128 (downB (!b) A) ah al (-(valZ b A)) _ (KH5.out.alloc _).vx.turned (by decide) hpt.out hpw.out hnz.out).mono ?_); rintro e w6 ⟨rfl, g6⟩; have KH6 := Lib.hid ((KH5.out.alloc _).after g6); have N6 := Lib.hid ((Var3.fresh w5 (.bool (downB (!b) A)) (.int .u64 ah) (.int .u64 al) 58 _ rfl).after g6)))
      clear hw hp S3 hz hps hpt hpw hnz
      obtain ⟨k, hk⟩ : ∃ k, cmpZ (valZ b A) (valZ c B) = k := ⟨_, rfl⟩
      have hkr := Lib.hid ((pair_cmp b c A B).trans hk)
      replace hk := Lib.hid hk
      cases b
      · have hr := Lib.hid (show rightB false A = true from rfl)
        have KH7 := Lib.hid (KH6.out.alloc (.cells #[.bool (downB (!false) A), .int .u64 ah, .int .u64 al] 58))
        have N7 := Lib.hid (N6.out.alloc (.cells #[.bool (downB (!false) A), .int .u64 ah, .int .u64 al] 58))
        have M7 := Lib.hid (Var3.fresh w6 (.bool (downB (!false) A)) (.int .u64 ah) (.int .u64 al) 58 _ rfl)
        generalize w6.alloc (.cells #[.bool (downB (!false) A), .int .u64 ah, .int .u64 al] 58) = W0 at KH7 N7 M7 ⊢
        have f0 := cell_regrown KH7.out.ab.a.c0
        have f1 := cell_regrown KH7.out.ab.a.c1
        have f2 := cell_regrown KH7.out.ab.a.c2
        have f3 := cell_regrown KH7.out.ab.b.c0
        have f4 := cell_regrown KH7.out.ab.b.c1
        have f5 := cell_regrown KH7.out.ab.b.c2
        have f6 := cell_regrown KH7.out.x.c0
        have f7 := cell_regrown KH7.out.x.c1
        have f8 := cell_regrown KH7.out.y.c0
        have f9 := cell_regrown KH7.out.y.c1
        have f10 := cell_regrown N7.out.c0
        have f11 := cell_regrown N7.out.c1
        have f12 := cell_regrown N7.out.c2
        have f13 := cell_regrown M7.out.c0
        have f14 := cell_regrown M7.out.c1
        have f15 := cell_regrown M7.out.c2
        clear K0 K1 KH KH2 KH3 KH4 KH5 KH6 N6 g2 g3 g4 g5 g6
        refine wp_region_quiet_below (by kernel_rfl) (by kernel_rfl) ?_
        repeat (quiet_step (first
          | (go_at_call 40; exact Calls.regrown_of (scompare_is k false c ah al bh bl A B _ HA.out HB.out hk.out))
          | (go_at_call 41; exact Calls.regrown_of (rcompare_pv k _ _ _ _ _ _ _ (KH7.out.vx.after (below_regrown _ _ _)) (KH7.out.vy.after (below_regrown _ _ _)) hkr.out))
          | (go_at_call 42; exact Calls.regrown_of (right_b false true ah al A _ HA.out hr.out))
          | (go_at_call 42; exact Calls.regrown_of (right_n (!false) ah al A _ HA.out))))
        refine wpQuiet_nil ?_
        intro _ hw'
        obtain ⟨⟨dq, osq⟩, hw''⟩ := hw'
        subst hw''
        go_wp2
        go_ret
        exact ⟨rfl, below_step KH7.out.ab.below (below_regrown W0 dq osq)⟩
      · by_cases h0 : A = 0
        · subst h0
          obtain ⟨rfl, rfl⟩ := HA.out.nought
          have hr := Lib.hid (show rightB true 0 = false from rfl)
          have KH7 := Lib.hid (KH6.out.alloc (.cells #[.bool (downB (!true) 0), .int .u64 0, .int .u64 0] 58))
          have N7 := Lib.hid (N6.out.alloc (.cells #[.bool (downB (!true) 0), .int .u64 0, .int .u64 0] 58))
          have M7 := Lib.hid (Var3.fresh w6 (.bool (downB (!true) 0)) (.int .u64 0) (.int .u64 0) 58 _ rfl)
          generalize w6.alloc (.cells #[.bool (downB (!true) 0), .int .u64 0, .int .u64 0] 58) = W0 at KH7 N7 M7 ⊢
          have f0 := cell_regrown KH7.out.ab.a.c0
          have f1 := cell_regrown KH7.out.ab.a.c1
          have f2 := cell_regrown KH7.out.ab.a.c2
          have f3 := cell_regrown KH7.out.ab.b.c0
          have f4 := cell_regrown KH7.out.ab.b.c1
          have f5 := cell_regrown KH7.out.ab.b.c2
          have f6 := cell_regrown KH7.out.x.c0
          have f7 := cell_regrown KH7.out.x.c1
          have f8 := cell_regrown KH7.out.y.c0
          have f9 := cell_regrown KH7.out.y.c1
          have f10 := cell_regrown N7.out.c0
          have f11 := cell_regrown N7.out.c1
          have f12 := cell_regrown N7.out.c2
          have f13 := cell_regrown M7.out.c0
          have f14 := cell_regrown M7.out.c1
          have f15 := cell_regrown M7.out.c2
          clear K0 K1 KH KH2 KH3 KH4 KH5 KH6 N6 g2 g3 g4 g5 g6
          refine wp_region_quiet_below (by kernel_rfl) (by kernel_rfl) ?_
          repeat (quiet_step (first
            | (go_at_call 40; exact Calls.regrown_of (scompare_is k true c 0 0 bh bl 0 B _ HA.out HB.out hk.out))
            | (go_at_call 41; exact Calls.regrown_of (rcompare_pv k _ _ _ _ _ _ _ (KH7.out.vx.after (below_regrown _ _ _)) (KH7.out.vy.after (below_regrown _ _ _)) hkr.out))
            | (go_at_call 42; exact Calls.regrown_of (right_b true false 0 0 0 _ HA.out hr.out))
            | (go_at_call 42; exact Calls.regrown_of (right_n (!true) 0 0 0 _ HA.out))))
          refine wpQuiet_nil ?_
          intro _ hw'
          obtain ⟨⟨dq, osq⟩, hw''⟩ := hw'
          subst hw''
          go_wp2
          go_ret
          exact ⟨rfl, below_step KH7.out.ab.below (below_regrown W0 dq osq)⟩
        · have hr := Lib.hid (show rightB true A = true by simp [rightB, h0])
          have hx := HA.out.some h0
          clear h0
          by_cases hh : ah = 0
          · replace hx := hx hh
            subst hh
            have KH7 := Lib.hid (KH6.out.alloc (.cells #[.bool (downB (!true) A), .int .u64 0, .int .u64 al] 58))
            have N7 := Lib.hid (N6.out.alloc (.cells #[.bool (downB (!true) A), .int .u64 0, .int .u64 al] 58))
            have M7 := Lib.hid (Var3.fresh w6 (.bool (downB (!true) A)) (.int .u64 0) (.int .u64 al) 58 _ rfl)
            generalize w6.alloc (.cells #[.bool (downB (!true) A), .int .u64 0, .int .u64 al] 58) = W0 at KH7 N7 M7 ⊢
            have f0 := cell_regrown KH7.out.ab.a.c0
            have f1 := cell_regrown KH7.out.ab.a.c1
            have f2 := cell_regrown KH7.out.ab.a.c2
            have f3 := cell_regrown KH7.out.ab.b.c0
            have f4 := cell_regrown KH7.out.ab.b.c1
            have f5 := cell_regrown KH7.out.ab.b.c2
            have f6 := cell_regrown KH7.out.x.c0
            have f7 := cell_regrown KH7.out.x.c1
            have f8 := cell_regrown KH7.out.y.c0
            have f9 := cell_regrown KH7.out.y.c1
            have f10 := cell_regrown N7.out.c0
            have f11 := cell_regrown N7.out.c1
            have f12 := cell_regrown N7.out.c2
            have f13 := cell_regrown M7.out.c0
            have f14 := cell_regrown M7.out.c1
            have f15 := cell_regrown M7.out.c2
            clear K0 K1 KH KH2 KH3 KH4 KH5 KH6 N6 g2 g3 g4 g5 g6
            refine wp_region_quiet_below (by kernel_rfl) (by kernel_rfl) ?_
            repeat (quiet_step (first
              | (go_at_call 40; exact Calls.regrown_of (scompare_is k true c 0 al bh bl A B _ HA.out HB.out hk.out))
              | (go_at_call 41; exact Calls.regrown_of (rcompare_pv k _ _ _ _ _ _ _ (KH7.out.vx.after (below_regrown _ _ _)) (KH7.out.vy.after (below_regrown _ _ _)) hkr.out))
              | (go_at_call 42; exact Calls.regrown_of (right_b true true 0 al A _ HA.out hr.out))
              | (go_at_call 42; exact Calls.regrown_of (right_n (!true) 0 al A _ HA.out))))
            refine wpQuiet_nil ?_
            intro _ hw'
            obtain ⟨⟨dq, osq⟩, hw''⟩ := hw'
            subst hw''
            go_wp2
            go_ret
            exact ⟨rfl, below_step KH7.out.ab.below (below_regrown W0 dq osq)⟩
          · clear hx
            have KH7 := Lib.hid (KH6.out.alloc (.cells #[.bool (downB (!true) A), .int .u64 ah, .int .u64 al] 58))
            have N7 := Lib.hid (N6.out.alloc (.cells #[.bool (downB (!true) A), .int .u64 ah, .int .u64 al] 58))
            have M7 := Lib.hid (Var3.fresh w6 (.bool (downB (!true) A)) (.int .u64 ah) (.int .u64 al) 58 _ rfl)
            generalize w6.alloc (.cells #[.bool (downB (!true) A), .int .u64 ah, .int .u64 al] 58) = W0 at KH7 N7 M7 ⊢
            have f0 := cell_regrown KH7.out.ab.a.c0
            have f1 := cell_regrown KH7.out.ab.a.c1
            have f2 := cell_regrown KH7.out.ab.a.c2
            have f3 := cell_regrown KH7.out.ab.b.c0
            have f4 := cell_regrown KH7.out.ab.b.c1
            have f5 := cell_regrown KH7.out.ab.b.c2
            have f6 := cell_regrown KH7.out.x.c0
            have f7 := cell_regrown KH7.out.x.c1
            have f8 := cell_regrown KH7.out.y.c0
            have f9 := cell_regrown KH7.out.y.c1
            have f10 := cell_regrown N7.out.c0
            have f11 := cell_regrown N7.out.c1
            have f12 := cell_regrown N7.out.c2
            have f13 := cell_regrown M7.out.c0
            have f14 := cell_regrown M7.out.c1
            have f15 := cell_regrown M7.out.c2
            clear K0 K1 KH KH2 KH3 KH4 KH5 KH6 N6 g2 g3 g4 g5 g6
            refine wp_region_quiet_below (by kernel_rfl) (by kernel_rfl) ?_
            repeat (quiet_step (first
              | (go_at_call 40; exact Calls.regrown_of (scompare_is k true c ah al bh bl A B _ HA.out HB.out hk.out))
              | (go_at_call 41; exact Calls.regrown_of (rcompare_pv k _ _ _ _ _ _ _ (KH7.out.vx.after (below_regrown _ _ _)) (KH7.out.vy.after (below_regrown _ _ _)) hkr.out))
              | (go_at_call 42; exact Calls.regrown_of (right_b true true ah al A _ HA.out hr.out))
              | (go_at_call 42; exact Calls.regrown_of (right_n (!true) ah al A _ HA.out))))
            refine wpQuiet_nil ?_
            intro _ hw'
            obtain ⟨⟨dq, osq⟩, hw''⟩ := hw'
            subst hw''
            go_wp2
            go_ret
            exact ⟨rfl, below_step KH7.out.ab.below (below_regrown W0 dq osq)⟩

theorem sadds_own : ownKnob Try.prog.godebug = none := by kernel_rfl

set_option maxRecDepth 100000 in
theorem sadds_lifted (os : Os) (started : os.Started) (H : Type) (enc : TypeId × Value → H) :
    ReturnsInHanded {} Try.checked os 8 .any (Rows.signedAddsSpec.pre6 enc Try.prog Try.f8 Rows.signedAddsRow.domain false) (Rows.signedAddsSpec.post enc Try.prog Try.f8 false true false false) := by
  refine returnsInHanded_of_change (C := Try.checked) sadds_own started (by kernel_rfl) Try.func8
    (ChangeSpec.witness6 (enc := enc) (C := Try.checked) false ⟨#[], #[.agg #[.bool false, .int .u64 0, .int .u64 0], .agg #[.bool false, .int .u64 0, .int .u64 0]], []⟩ 8 (by kernel_rfl) (by kernel_rfl) (by kernel_rfl) (by kernel_rfl)) ?_
  intro W base args ds gs before hval0 hW hcnd _
  have hval : ∀ (j : Nat) t v, Try.f8.params[j]? = some t → args[j]? = some v → Value.okWide Try.prog W .any base t v := hval0
  have hW' := hW
  obtain ⟨p, q, hA0, hV, rfl, hfz, hnd⟩ := hW
  have hA : DataW.TrodAll enc Try.prog W 0 (fun _ => true) true Try.f8.params.toList args.toList ds p := hA0
  rw [Try.params8] at hA hval
  obtain ⟨v0, v1, d0, d1, p0, p1, rfl, rfl, rfl, h0, h1⟩ := trodAll_two hA
  obtain ⟨rfl, rfl⟩ := trodVars_none hV
  obtain ⟨b, h, l, rfl, rfl, rfl, wh, wl⟩ := open_signed (hval 0 58 v0 rfl rfl) h0
  obtain ⟨b', h', l', rfl, rfl, rfl, wh', wl'⟩ := open_signed (hval 1 58 v1 rfl rfl) h1
  clear hA0 hval0
  simp only [List.append_nil] at hW'
  refine (sadds_walk b b' h l h' l' _ _ W (IsW.of (word_wf h wh).1 (word_wf h wh).2 (word_wf l wl).1 (word_wf l wl).2) (IsW.of (word_wf h' wh').1 (word_wf h' wh').2 (word_wf l' wl').1 (word_wf l' wl').2)).mono fun e W' ⟨he, bel⟩ => ?_
  subst he
  exact ⟨_, rfl, _, _, _, [], [], [], hW', trodAll_mk1 (shut_bool Try.underlying4 _), trodAll_mk2 (shut_signed _ _ b h l wh wl) (shut_signed _ _ b' h' l' wh' wl'), rfl, bel.frame _, fun h => by cases h⟩

theorem sadds_over : Rows.signedAddsRow.holds Try.pinned (OpenSpec.ofChange Rows.signedAddsSpec) :=
  OpenClaim.holds_of_wide 8 Try.f8 rfl rfl rfl rfl rfl rfl rfl ⟨rfl, rfl, rfl, rfl, rfl⟩ rfl rfl rfl rfl rfl (by kernel_rfl) Try.func8 (by kernel_rfl)
    (of_decide_eq_true (by kernel_rfl)) (by unfold Func.isWrapper; first | (rw [if_pos (by decide +kernel)]; kernel_rfl) | (rw [if_neg (by decide +kernel)]; exact ⟨rfl, rfl⟩))
    (fun os started H enc _ => sadds_lifted os started H enc)

/-- The statement. -/
theorem signed_adds_proved : Rows.SignedAddsSaid := sadds_over

end Go.Proofs.Ytcdafppnfflmcaa
