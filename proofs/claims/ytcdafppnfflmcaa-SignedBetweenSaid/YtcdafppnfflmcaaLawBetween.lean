/-
  SignedBetween is proved: of any three sizes what is between the first and the second, and between the second and the third, is together what is between the first and the third; no condition.
-/
import Derived.Test.YtcdafppnfflmcaaRows
import Derived.Test.YtcdafppnfflmcaaSgC
import Derived.Test.YtcdafppnfflmcaaSgG
import Derived.Test.YtcdafppnfflmcaaSgH
import Derived.Test.YtcdafppnfflmcaaSgAwake
import Derived.Test.YtcdafppnfflmcaaSgOpen
import Derived.Deep.RegionHeld3
import Derived.Test.YtcdafppnfflmcaaMix
import Derived.Test.YtcdafppnfflmcaaStores
import Derived.Deep.Cut
import Derived.Deep.CutRange
import Derived.Deep.DeepCutAuto
import Derived.Below
namespace Go.Proofs.Ytcdafppnfflmcaa
open Go.ChangeShapes Go.WideShapes Go.ChangeAt Go.RowKit Go.Joins

theorem valZ_num {b : Bool} {h l z : Int} (hZ : IsZ b h l z) : valZ b z.natAbs = z := by
  rw [hZ.b]
  by_cases h0 : z < 0
  · simp only [h0, decide_true, valZ, if_true]; omega
  · simp only [h0, decide_false, valZ]; simp; omega
theorem IsZ.neg {b : Bool} {h l z : Int} (hZ : IsZ b h l z) : IsZ (downB (!b) z.natAbs) h l (-z) := by
  refine ⟨?_, by rw [Int.natAbs_neg]; exact hZ.w⟩
  rw [hZ.b]; unfold downB
  by_cases h0 : z < 0
  · simp [h0]; omega
  · by_cases h1 : z = 0
    · subst h1; rfl
    · simp [h0, h1]; omega
theorem neg_z (b : Bool) (h l z : Int) (w : World) (hZ : IsZ b h l z) :
    Calls Try.prog 39 #[.agg #[.bool b, .int .u64 h, .int .u64 l]] w fun e w' => ∃ b', e = .returned (.agg #[.bool b', .int .u64 h, .int .u64 l]) ∧ IsZ b' h l (-z) ∧ Below w.heap.size w w' := by
  refine (neg_any b h l _ w hZ.w).mono ?_
  rintro e w' ⟨rfl, g⟩
  exact ⟨_, rfl, hZ.neg, g⟩
theorem sadd_z (b c : Bool) (ah al bh bl x y : Int) (w : World) (ha : IsZ b ah al x) (hb : IsZ c bh bl y) :
    Calls Try.prog 36 #[.agg #[.bool b, .int .u64 ah, .int .u64 al], .agg #[.bool c, .int .u64 bh, .int .u64 bl]] w (GivesZC (capZ (x + y)) (capC (x + y).natAbs) w) := by
  have := sadd_any b c ah al bh bl _ _ w ha.w hb.w
  rw [valZ_num ha, valZ_num hb] at this; exact this
theorem capZ_in {z : Int} (h : W128 z.natAbs) : capZ z = z := if_pos h
theorem gap_fits {A B : Nat} (hA : W128 A) (hB : W128 B) : W128 (gapN A B) := by unfold W128 gapN at *; omega

/-- A cell stays while new memory is made. -/
theorem cell_alloc {W : World} {a : Addr} {u : Value} (o : Obj) (h : W.cell? a = some u) : (W.alloc o).cell? a = some u := (Below.cell ((Below.refl W.heap.size W).alloc (Nat.le_refl _) o) (World.block_lt_of_cell? W a h)).trans h
/-- A cell stays while another variable is written. -/
theorem cell_set3 {W : World} {a : Addr} {u x y z : Value} {p : Nat} (h : W.cell? a = some u) (hp : p ≠ a.block) : (((W.setCell ⟨p, 0, none⟩ x).setCell ⟨p, 1, none⟩ y).setCell ⟨p, 2, none⟩ z).cell? a = some u := by
  rw [World.cell?_setCell_far _ _ _ _ hp, World.cell?_setCell_far _ _ _ _ hp, World.cell?_setCell_far _ _ _ _ hp]; exact h
/-- Three sizes in variables. -/
structure Vars3 (W : World) (p : Nat) (ah al bh bl ch cl : Int) : Prop where
  a : Var2 W p (.int .u64 ah) (.int .u64 al)
  b : Var2 W (p + 1) (.int .u64 bh) (.int .u64 bl)
  c : Var2 W (p + 2) (.int .u64 ch) (.int .u64 cl)
theorem Vars3.after {W W1 : World} {p : Nat} {ah al bh bl ch cl : Int} (k : Vars3 W p ah al bh bl ch cl) (hb : Below W.heap.size W W1) : Vars3 W1 p ah al bh bl ch cl := ⟨k.a.after hb, k.b.after hb, k.c.after hb⟩
theorem Vars3.alloc {W : World} {p : Nat} {ah al bh bl ch cl : Int} (k : Vars3 W p ah al bh bl ch cl) (o : Obj) : Vars3 (W.alloc o) p ah al bh bl ch cl := k.after ((Below.refl _ _).alloc (Nat.le_refl _) o)
theorem Vars3.cells {W : World} {p : Nat} {ah al bh bl ch cl : Int} (k : Vars3 W p ah al bh bl ch cl) : W.cell? ⟨p, 0, none⟩ = some (.int .u64 ah) ∧ W.cell? ⟨p, 1, none⟩ = some (.int .u64 al) ∧ W.cell? ⟨p + 1, 0, none⟩ = some (.int .u64 bh) ∧ W.cell? ⟨p + 1, 1, none⟩ = some (.int .u64 bl) ∧
    W.cell? ⟨p + 2, 0, none⟩ = some (.int .u64 ch) ∧ W.cell? ⟨p + 2, 1, none⟩ = some (.int .u64 cl) := ⟨k.a.c0, k.a.c1, k.b.c0, k.b.c1, k.c.c0, k.c.c1⟩


/-- What each operation of the first statement yields. -/
def TX (ah al bh bl ch cl : Int) (xs ys zs : Bool) (xh xl yh yl zh zl : Int) (q : Nat) : Nat → Value → World → Prop
  | 0, v, _ => v = .agg #[.int .u64 ah, .int .u64 al]
  | 1, v, _ => v = .agg #[.int .u64 bh, .int .u64 bl]
  | 2, v, _ => v = .agg #[.bool xs, .int .u64 xh, .int .u64 xl]
  | 3, v, _ => v = .agg #[.int .u64 bh, .int .u64 bl]
  | 4, v, _ => v = .agg #[.int .u64 ch, .int .u64 cl]
  | 5, v, _ => v = .agg #[.bool ys, .int .u64 yh, .int .u64 yl]
  | 6, v, _ => v = .agg #[.int .u64 ah, .int .u64 al]
  | 7, v, _ => v = .agg #[.int .u64 ch, .int .u64 cl]
  | 8, v, _ => v = .agg #[.bool zs, .int .u64 zh, .int .u64 zl]
  | _, v, W => ∃ p, v = .pointer (some ⟨p, 0, none⟩) ∧ q ≤ p ∧ Var3 W p (.bool false) (.int .u64 0) (.int .u64 0)
theorem TX.keep {ah al bh bl ch cl : Int} {xs ys zs : Bool} {xh xl yh yl zh zl : Int} {q : Nat} : ∀ i v (w w' : World), TX ah al bh bl ch cl xs ys zs xh xl yh yl zh zl q i v w → Below w.heap.size w w' → TX ah al bh bl ch cl xs ys zs xh xl yh yl zh zl q i v w' := by
  intro i v w w' h hb
  unfold TX at *
  split at h <;> first | exact h | (obtain ⟨p, h1, h2, h3⟩ := h; exact ⟨p, h1, h2, h3.after hb⟩)
theorem TX.old {ah al bh bl ch cl : Int} {xs ys zs : Bool} {xh xl yh yl zh zl : Int} {q : Nat} : ∀ i v (w : World), decide (9 ≤ i) = true → TX ah al bh bl ch cl xs ys zs xh xl yh yl zh zl q i v w → blk v < w.heap.size := by
  intro i v w hi h
  unfold TX at h
  split at h <;> first | (simp at hi; done) | (obtain ⟨p, rfl, _, h3⟩ := h; exact h3.s)
theorem between_is (ah al bh bl : Int) (A B : Nat) (s : Bool) (h l : Int) (w : World) (ha : IsW ah al A) (hb : IsW bh bl B) (hZ : IsZ s h l ((A : Int) - B)) :
    Calls Try.prog 45 #[.agg #[.int .u64 ah, .int .u64 al], .agg #[.int .u64 bh, .int .u64 bl]] w fun e w' => e = .returned (.agg #[.bool s, .int .u64 h, .int .u64 l]) ∧ Below w.heap.size w w' := by
  refine (between_any ah al bh bl A B w ha hb).mono ?_
  rintro e w' ⟨s', h', l', rfl, hZ', g⟩
  obtain ⟨rfl, rfl, rfl⟩ := hZ'.unique hZ
  exact ⟨rfl, g⟩
theorem between_has {A B : Nat} (hA : W128 A) (hB : W128 B) : ∃ s h l, IsZ s h l ((A : Int) - B) := ⟨_, _, _, between_z (IsW.of_nat (gap_fits hA hB))⟩
/-- What stands in memory behind the first statement. -/
structure AllX (w W : World) (ah al bh bl ch cl : Int) (xs ys zs : Bool) (xh xl yh yl zh zl : Int) (px py pz : Nat) : Prop where
  k : Vars3 W w.heap.size ah al bh bl ch cl
  x : Var3 W px (.bool xs) (.int .u64 xh) (.int .u64 xl)
  y : Var3 W py (.bool ys) (.int .u64 yh) (.int .u64 yl)
  z : Var3 W pz (.bool zs) (.int .u64 zh) (.int .u64 zl)
  b : Below w.heap.size w W

theorem AllX.after {w W W1 : World} {ah al bh bl ch cl : Int} {xs ys zs : Bool} {xh xl yh yl zh zl : Int} {px py pz : Nat} (k : AllX w W ah al bh bl ch cl xs ys zs xh xl yh yl zh zl px py pz) (hb : Below W.heap.size W W1) :
    AllX w W1 ah al bh bl ch cl xs ys zs xh xl yh yl zh zl px py pz := ⟨k.k.after hb, k.x.after hb, k.y.after hb, k.z.after hb, below_step k.b hb⟩
/-- A list of 128 bits of a number. -/
def IsBits (v : Value) (W : World) (A : Nat) : Prop := ∃ b o c l, v = .slice (some ⟨b, o, none⟩) l.length c ∧ Bools W v l ∧ l.length = 128 ∧ val l = A
theorem IsBits.after {v : Value} {W W1 : World} {A : Nat} (h : IsBits v W A) (hb : Below W.heap.size W W1) : IsBits v W1 A := by
  obtain ⟨b, o, c, l, e, k, n, a⟩ := h
  exact ⟨b, o, c, l, e, k.below hb, n, a⟩
theorem bits_is (h l : Int) (A : Nat) (w : World) (hA : IsW h l A) : Calls Try.prog 13 #[.agg #[.int .u64 h, .int .u64 l]] w fun e w' => ∃ b o c, e = .returned (.slice (some ⟨b, o, none⟩) 128 c) ∧ IsBits (.slice (some ⟨b, o, none⟩) 128 c) w' A ∧ Below w.heap.size w w' := by
  refine (bits_any h l w hA.h0 hA.h1 hA.l0 hA.l1).mono ?_
  rintro e w' ⟨v, x, rfl, hb, ⟨hn, hv⟩, g⟩
  have hb0 := hb
  obtain ⟨b, o, c, rfl, _⟩ := hb
  rw [hn] at hb0 ⊢
  exact ⟨b, o, c, rfl, ⟨b, o, c, x, by rw [hn], hb0, hn, by rw [hv, hA.num]⟩, g⟩
/-- Two lists, as a pair. -/
def IsPair (v : Value) (W : World) (U D : Nat) : Prop := ∃ vu vd lu ld, v = .agg #[vu, vd] ∧ PairIs W vu vd lu ld U D 128
theorem IsPair.after {v : Value} {W W1 : World} {U D : Nat} (h : IsPair v W U D) (hb : Below W.heap.size W W1) : IsPair v W1 U D := by
  obtain ⟨vu, vd, lu, ld, e, k⟩ := h
  exact ⟨vu, vd, lu, ld, e, k.after hb⟩
theorem to_is (v : Value) (U D : Nat) (s : Bool) (h l : Int) (w : World) (hp : IsPair v w U D) (hw : W128 (gapN U D)) (hZ : IsZ s h l ((U : Int) - D)) :
    Calls Try.prog 37 #[v] w fun e w' => e = .returned (.tuple #[.agg #[.bool s, .int .u64 h, .int .u64 l], .bool true]) ∧ Below w.heap.size w w' := by
  obtain ⟨vu, vd, lu, ld, rfl, k⟩ := hp
  refine (to_any vu vd lu ld U D 128 w k (by decide)).mono ?_
  rintro e w' ⟨s', h', l', ok, rfl, h1, _, g⟩
  obtain ⟨rfl, hZ'⟩ := h1 hw
  obtain ⟨rfl, rfl, rfl⟩ := hZ'.unique hZ
  exact ⟨rfl, g⟩
theorem AllX.alloc {w W : World} {ah al bh bl ch cl : Int} {xs ys zs : Bool} {xh xl yh yl zh zl : Int} {px py pz : Nat} (k : AllX w W ah al bh bl ch cl xs ys zs xh xl yh yl zh zl px py pz) (o : Obj) :
    AllX w (W.alloc o) ah al bh bl ch cl xs ys zs xh xl yh yl zh zl px py pz := k.after ((Below.refl _ _).alloc (Nat.le_refl _) o)
theorem AllX.drew {w W : World} {ah al bh bl ch cl : Int} {xs ys zs : Bool} {xh xl yh yl zh zl : Int} {px py pz : Nat} (k : AllX w W ah al bh bl ch cl xs ys zs xh xl yh yl zh zl px py pz) :
    AllX w W.drew ah al bh bl ch cl xs ys zs xh xl yh yl zh zl px py pz := k.after (Below.refl _ _).drew
theorem IsBits.alloc {v : Value} {W : World} {A : Nat} (h : IsBits v W A) (o : Obj) : IsBits v (W.alloc o) A := h.after ((Below.refl _ _).alloc (Nat.le_refl _) o)
theorem IsBits.drew {v : Value} {W : World} {A : Nat} (h : IsBits v W A) : IsBits v W.drew A := h.after (Below.refl _ _).drew
theorem to_two (v1 v2 : Value) (U D : Nat) (s : Bool) (h l : Int) (w : World) (h1 : IsBits v1 w U) (h2 : IsBits v2 w D) (hw : W128 (gapN U D)) (hZ : IsZ s h l ((U : Int) - D)) :
    Calls Try.prog 37 #[.agg #[v1, v2]] w fun e w' => e = .returned (.tuple #[.agg #[.bool s, .int .u64 h, .int .u64 l], .bool true]) ∧ Below w.heap.size w w' := by
  obtain ⟨b1, o1, c1, l1, rfl, k1, m1, e1⟩ := h1
  obtain ⟨b2, o2, c2, l2, rfl, k2, m2, e2⟩ := h2
  exact to_is _ U D s h l w ⟨_, _, l1, l2, rfl, k1.orNil, k2.orNil, by omega, by omega, e1, e2⟩ hw hZ

theorem AllX.far {w W0 W : World} {ah al bh bl ch cl : Int} {xs ys zs : Bool} {xh xl yh yl zh zl : Int} {px py pz : Nat} (k : AllX w W0 ah al bh bl ch cl xs ys zs xh xl yh yl zh zl px py pz)
    (h : AllX w W ah al bh bl ch cl xs ys zs xh xl yh yl zh zl px py pz) (x y z : Value) : AllX w (put3 W W0.heap.size x y z) ah al bh bl ch cl xs ys zs xh xl yh yl zh zl px py pz := by
  have s1 := k.k.a.s
  have s2 := k.k.b.s
  have s3 := k.k.c.s
  have s4 := k.x.s
  have s5 := k.y.s
  have s6 := k.z.s
  exact ⟨⟨h.k.a.else3 (by omega) _ _ _, h.k.b.else3 (by omega) _ _ _, h.k.c.else3 (by omega) _ _ _⟩, h.x.else3 (by omega) _ _ _, h.y.else3 (by omega) _ _ _, h.z.else3 (by omega) _ _ _, below_put3 h.b (by omega) _ _ _⟩
theorem neg_is (b b' : Bool) (h l z : Int) (w : World) (hZ : IsZ b h l z) (hN : IsZ b' h l (-z)) :
    Calls Try.prog 39 #[.agg #[.bool b, .int .u64 h, .int .u64 l]] w fun e w' => e = .returned (.agg #[.bool b', .int .u64 h, .int .u64 l]) ∧ Below w.heap.size w w' := by
  refine (neg_z b h l z w hZ).mono ?_
  rintro e w' ⟨b2, rfl, hN2, g⟩
  obtain ⟨rfl, _, _⟩ := hN2.unique hN
  exact ⟨rfl, g⟩
theorem add_is (b c d : Bool) (ah al bh bl ch cl x y z : Int) (w : World) (ha : IsZ b ah al x) (hb : IsZ c bh bl y) (hc : IsZ d ch cl z) (hz : x + y = z) (hf : W128 z.natAbs) :
    Calls Try.prog 36 #[.agg #[.bool b, .int .u64 ah, .int .u64 al], .agg #[.bool c, .int .u64 bh, .int .u64 bl]] w fun e w' => e = .returned (.tuple #[.agg #[.bool d, .int .u64 ch, .int .u64 cl], .int .i64 0]) ∧ Below w.heap.size w w' := by
  refine (sadd_z b c ah al bh bl x y w ha hb).mono ?_
  rintro e w' ⟨s, h, l, rfl, hZ, g⟩
  rw [hz, capZ_in hf] at hZ
  obtain ⟨rfl, rfl, rfl⟩ := hZ.unique hc
  exact ⟨by rw [hz, capC_in hf], g⟩

set_option maxRecDepth 100000 in
set_option maxHeartbeats 4000000 in
theorem between_walk (ah al bh bl ch cl : Int) (A B C : Nat) (w : World) (hA : IsW ah al A) (hB : IsW bh bl B) (hC : IsW ch cl C) :
    Calls Try.prog 10 #[.agg #[.int .u64 ah, .int .u64 al], .agg #[.int .u64 bh, .int .u64 bl], .agg #[.int .u64 ch, .int .u64 cl]] w fun e w' => e = .returned (.bool true) ∧ Below w.heap.size w w' := by
  have HA := Lib.hid hA
  have HB := Lib.hid hB
  have HC := Lib.hid hC
  obtain ⟨xs, xh, xl, hX⟩ := between_has hA.lt hB.lt
  obtain ⟨ys, yh, yl, hY⟩ := between_has hB.lt hC.lt
  obtain ⟨zs, zh, zl, hZ⟩ := between_has hA.lt hC.lt
  replace hX := Lib.hid hX
  replace hY := Lib.hid hY
  replace hZ := Lib.hid hZ
  obtain ⟨a0, a1, a2, a3, _⟩ := hA
  obtain ⟨b0, b1, b2, b3, _⟩ := hB
  clear hC
  have K0 : Hid (Vars3 _ w.heap.size ah al bh bl ch cl) := Lib.hid ⟨((Var2.fresh w (.int .u64 ah) (.int .u64 al) 24 _ rfl).alloc (.cells #[.int .u64 bh, .int .u64 bl] 24)).alloc (.cells #[.int .u64 ch, .int .u64 cl] 24),
    (Var2.fresh (w.alloc (.cells #[.int .u64 ah, .int .u64 al] 24)) (.int .u64 bh) (.int .u64 bl) 24 (w.heap.size + 1) (by simp)).alloc (.cells #[.int .u64 ch, .int .u64 cl] 24),
    Var2.fresh ((w.alloc (.cells #[.int .u64 ah, .int .u64 al] 24)).alloc (.cells #[.int .u64 bh, .int .u64 bl] 24)) (.int .u64 ch) (.int .u64 cl) 24 (w.heap.size + 2) (by simp)⟩
  go_enter Try.func10, Try.ntmps10
  go_upto_region 3 with (first | (go_at_call 34; (with_reducible refine (sg_awake _).mono ?_); rintro e w1 ⟨rfl, g1⟩; have K1 := Lib.hid (K0.out.after g1); have D1 := below_step (below_more (below_more (below_more (Below.refl w.heap.size w) _) _) _) g1))
  go_cut [7, 8, 9] from 16 to 24 (fun s7 s8 s9 wx => ∃ px py pz, s7 = .pointer (some ⟨px, 0, none⟩) ∧ s8 = .pointer (some ⟨py, 0, none⟩) ∧ s9 = .pointer (some ⟨pz, 0, none⟩) ∧ AllX w wx ah al bh bl ch cl xs ys zs xh xl yh yl zh zl px py pz)
  case first =>
    refine wp_region_mix 12 (TX ah al bh bl ch cl xs ys zs xh xl yh yl zh zl w1.heap.size) (fun i => decide (9 ≤ i)) (by kernel_rfl) (by kernel_rfl) TX.keep TX.old ?_ ?_
    · refine ⟨?_, ?_, ?_, ?_, ?_, ?_, ?_, ?_, ?_, ?_, ?_, ?_, trivial⟩
      · intro u W hb _
        obtain ⟨⟨_, _, _, _, _⟩, ⟨_, _, _, _, _⟩, ⟨_, _, _, _, _⟩⟩ := K1.out.after hb
        simp only [List.take_succ_cons, List.take_zero, putAll, Act.put, List.setIfInBounds_toArray, List.set_cons_succ, List.set_cons_zero, Nat.zero_add, Nat.reduceAdd]
        go_wp2
        exact ⟨rfl, Below.refl _ _⟩
      · intro u W hb _
        obtain ⟨⟨_, _, _, _, _⟩, ⟨_, _, _, _, _⟩, ⟨_, _, _, _, _⟩⟩ := K1.out.after hb
        simp only [List.take_succ_cons, List.take_zero, putAll, Act.put, List.setIfInBounds_toArray, List.set_cons_succ, List.set_cons_zero, Nat.zero_add, Nat.reduceAdd]
        go_wp2
        exact ⟨rfl, Below.refl _ _⟩
      · intro u W hb hd
        obtain ⟨hd0, hd1, _⟩ := hd
        have e0 : u 0 = _ := hd0 rfl (by decide)
        have e1 : u 1 = _ := hd1 rfl (by decide)
        simp only [List.take_succ_cons, List.take_zero, putAll, Act.put, List.setIfInBounds_toArray, List.set_cons_succ, List.set_cons_zero, Nat.zero_add, Nat.reduceAdd]
        rw [e0, e1]
        go_wp2_with (go_at_call 45; (with_reducible refine (between_is ah al bh bl A B xs xh xl _ HA.out HB.out hX.out).mono ?_); rintro e W1 ⟨rfl, g⟩)
        exact ⟨_, rfl, rfl, g, fun h => by simp at h⟩
      · intro u W hb _
        obtain ⟨⟨_, _, _, _, _⟩, ⟨_, _, _, _, _⟩, ⟨_, _, _, _, _⟩⟩ := K1.out.after hb
        simp only [List.take_succ_cons, List.take_zero, putAll, Act.put, List.setIfInBounds_toArray, List.set_cons_succ, List.set_cons_zero, Nat.zero_add, Nat.reduceAdd]
        go_wp2
        exact ⟨rfl, Below.refl _ _⟩
      · intro u W hb _
        obtain ⟨⟨_, _, _, _, _⟩, ⟨_, _, _, _, _⟩, ⟨_, _, _, _, _⟩⟩ := K1.out.after hb
        simp only [List.take_succ_cons, List.take_zero, putAll, Act.put, List.setIfInBounds_toArray, List.set_cons_succ, List.set_cons_zero, Nat.zero_add, Nat.reduceAdd]
        go_wp2
        exact ⟨rfl, Below.refl _ _⟩
      · intro u W hb hd
        obtain ⟨hd0, hd1, _⟩ := hd
        have e0 : u 3 = _ := hd0 rfl (by decide)
        have e1 : u 4 = _ := hd1 rfl (by decide)
        simp only [List.take_succ_cons, List.take_zero, putAll, Act.put, List.setIfInBounds_toArray, List.set_cons_succ, List.set_cons_zero, Nat.zero_add, Nat.reduceAdd]
        rw [e0, e1]
        go_wp2_with (go_at_call 45; (with_reducible refine (between_is bh bl ch cl B C ys yh yl _ HB.out HC.out hY.out).mono ?_); rintro e W1 ⟨rfl, g⟩)
        exact ⟨_, rfl, rfl, g, fun h => by simp at h⟩
      · intro u W hb _
        obtain ⟨⟨_, _, _, _, _⟩, ⟨_, _, _, _, _⟩, ⟨_, _, _, _, _⟩⟩ := K1.out.after hb
        simp only [List.take_succ_cons, List.take_zero, putAll, Act.put, List.setIfInBounds_toArray, List.set_cons_succ, List.set_cons_zero, Nat.zero_add, Nat.reduceAdd]
        go_wp2
        exact ⟨rfl, Below.refl _ _⟩
      · intro u W hb _
        obtain ⟨⟨_, _, _, _, _⟩, ⟨_, _, _, _, _⟩, ⟨_, _, _, _, _⟩⟩ := K1.out.after hb
        simp only [List.take_succ_cons, List.take_zero, putAll, Act.put, List.setIfInBounds_toArray, List.set_cons_succ, List.set_cons_zero, Nat.zero_add, Nat.reduceAdd]
        go_wp2
        exact ⟨rfl, Below.refl _ _⟩
      · intro u W hb hd
        obtain ⟨hd0, hd1, _⟩ := hd
        have e0 : u 6 = _ := hd0 rfl (by decide)
        have e1 : u 7 = _ := hd1 rfl (by decide)
        simp only [List.take_succ_cons, List.take_zero, putAll, Act.put, List.setIfInBounds_toArray, List.set_cons_succ, List.set_cons_zero, Nat.zero_add, Nat.reduceAdd]
        rw [e0, e1]
        go_wp2_with (go_at_call 45; (with_reducible refine (between_is ah al ch cl A C zs zh zl _ HA.out HC.out hZ.out).mono ?_); rintro e W1 ⟨rfl, g⟩)
        exact ⟨_, rfl, rfl, g, fun h => by simp at h⟩
      · intro u W hb _
        have hq : w1.heap.size ≤ W.heap.size := hb.size
        simp only [List.take_succ_cons, List.take_zero, putAll, Act.put, List.setIfInBounds_toArray, List.set_cons_succ, List.set_cons_zero, Nat.zero_add, Nat.reduceAdd]
        go_wp2
        exact ⟨⟨W.heap.size, rfl, hq, Var3.fresh _ _ _ _ 58 _ rfl⟩, (Below.refl _ _).alloc (Nat.le_refl _) _, Nat.le_refl _⟩
      · intro u W hb _
        have hq : w1.heap.size ≤ W.heap.size := hb.size
        simp only [List.take_succ_cons, List.take_zero, putAll, Act.put, List.setIfInBounds_toArray, List.set_cons_succ, List.set_cons_zero, Nat.zero_add, Nat.reduceAdd]
        go_wp2
        exact ⟨⟨W.heap.size, rfl, hq, Var3.fresh _ _ _ _ 58 _ rfl⟩, (Below.refl _ _).alloc (Nat.le_refl _) _, Nat.le_refl _⟩
      · intro u W hb _
        have hq : w1.heap.size ≤ W.heap.size := hb.size
        simp only [List.take_succ_cons, List.take_zero, putAll, Act.put, List.setIfInBounds_toArray, List.set_cons_succ, List.set_cons_zero, Nat.zero_add, Nat.reduceAdd]
        go_wp2
        exact ⟨⟨W.heap.size, rfl, hq, Var3.fresh _ _ _ _ 58 _ rfl⟩, (Below.refl _ _).alloc (Nat.le_refl _) _, Nat.le_refl _⟩
    · intro u W hb hT hdj
      have e2 : u 2 = _ := hT 2 (by decide)
      have e5 : u 5 = _ := hT 5 (by decide)
      have e8 : u 8 = _ := hT 8 (by decide)
      obtain ⟨px, ex, qx, vx⟩ := hT 9 (by decide)
      obtain ⟨py, ey, qy, vy⟩ := hT 10 (by decide)
      obtain ⟨pz, ez, qz, vz⟩ := hT 11 (by decide)
      have d1 := hdj 9 10 (by decide) (by decide) rfl rfl (by decide)
      have d2 := hdj 9 11 (by decide) (by decide) rfl rfl (by decide)
      have d3 := hdj 10 11 (by decide) (by decide) rfl rfl (by decide)
      rw [ex, ey] at d1
      rw [ex, ez] at d2
      rw [ey, ez] at d3
      replace d1 : px ≠ py := d1
      replace d2 : px ≠ pz := d2
      replace d3 : py ≠ pz := d3
      have HV := Lib.hid (And.intro vx (And.intro vy vz))
      have HK := Lib.hid (K1.out.after hb)
      have HD := Lib.hid (below_step D1 hb)
      have hs := K1.out.c.s
      have n1 : ¬ px = py := d1
      have n2 : ¬ px = pz := d2
      have n3 : ¬ py = pz := d3
      have n4 : ¬ py = px := fun e => d1 e.symm
      have n5 : ¬ pz = px := fun e => d2 e.symm
      have n6 : ¬ pz = py := fun e => d3 e.symm
      obtain ⟨_, _, _, _, _, _, _⟩ := vx
      obtain ⟨_, _, _, _, _, _, _⟩ := vy
      obtain ⟨_, _, _, _, _, _, _⟩ := vz
      simp only [List.take_succ_cons, List.take_zero, List.drop_succ_cons, List.drop_zero, putAll, Act.put, List.setIfInBounds_toArray, List.set_cons_succ, List.set_cons_zero, Nat.zero_add, Nat.reduceAdd]
      rw [e2, e5, e8, ex, ey, ez]
      go_wp2_with fail
      go_meet
      refine ⟨px, py, pz, rfl, rfl, rfl, ?_⟩
      have hw : ∀ p, w1.heap.size ≤ p → w.heap.size ≤ p ∧ p ≠ w.heap.size ∧ p ≠ w.heap.size + 1 ∧ p ≠ w.heap.size + 2 := fun p hp => by omega
      obtain ⟨x0, x1, x2, x3⟩ := hw px qx
      obtain ⟨y0, y1, y2, y3⟩ := hw py qy
      obtain ⟨z0, z1, z2, z3⟩ := hw pz qz
      exact ⟨⟨((HK.out.a.else3 x1 _ _ _).else3 y1 _ _ _).else3 z1 _ _ _, ((HK.out.b.else3 x2 _ _ _).else3 y2 _ _ _).else3 z2 _ _ _, ((HK.out.c.else3 x3 _ _ _).else3 y3 _ _ _).else3 z3 _ _ _⟩,
        ((HV.out.1.put _ _ _).else3 d1.symm _ _ _).else3 d2.symm _ _ _, ((HV.out.2.1.else3 d1 _ _ _).put _ _ _).else3 d3.symm _ _ _, ((HV.out.2.2.else3 d2 _ _ _).else3 d3 _ _ _).put _ _ _, below_put3 (below_put3 (below_put3 HD.out x0 _ _ _) y0 _ _ _) z0 _ _ _⟩
  case rest =>
    obtain ⟨px, py, pz, rfl, rfl, rfl, KX⟩ := hcut
    replace KX := Lib.hid KX
    have hxw := Lib.hid (gap_fits HA.out.lt HB.out.lt)
    go_upto_region 4 with fail
    go_cut [10, 11] from 25 to 33 (fun s10 s11 wx => ∃ pq, s10 = .pointer (some ⟨pq, 0, none⟩) ∧ s11 = .bool true ∧ Var3 wx pq (.bool xs) (.int .u64 xh) (.int .u64 xl) ∧ AllX w wx ah al bh bl ch cl xs ys zs xh xl yh yl zh zl px py pz)
    case first =>
      have KX1 := Lib.hid KX.out.drew
      have q1 := KX.out.k.a.s
      have q2 := KX.out.k.b.s
      obtain ⟨⟨⟨_, _, _, _, _⟩, ⟨_, _, _, _, _⟩, _⟩, _, _, _, _⟩ := KX1.out
      go_region_held3 (fun W => W.cell? ⟨w.heap.size, 0, none⟩ = some (.int .u64 ah) ∧ W.cell? ⟨w.heap.size, 1, none⟩ = some (.int .u64 al) ∧ W.cell? ⟨w.heap.size + 1, 0, none⟩ = some (.int .u64 bh) ∧ W.cell? ⟨w.heap.size + 1, 1, none⟩ = some (.int .u64 bl))
        (first | (refine ⟨?_, ?_, ?_, ?_⟩ <;> assumption) | (refine ⟨?_, ?_, ?_, ?_⟩ <;> ((repeat apply cell_alloc) <;> assumption)) | (refine ⟨?_, ?_, ?_, ?_⟩ <;> (refine cell_set3 ?_ ?_ <;> first | assumption | (simp; omega))) | go_keep)
        (first
          | (go_at_call 13; (with_reducible refine (bits_is ah al A _ HA.out).mono ?_); rintro e w2 ⟨b1, o1, c1, rfl, hv1, g2⟩; (first | (have V2 := Lib.hid ((Var3.fresh wc (.bool false) (.int .u64 0) (.int .u64 0) 58 _ rfl).drew.after g2); have KX2 := Lib.hid ((KX.out.alloc (.cells #[.bool false, .int .u64 0, .int .u64 0] 58)).drew.after g2)) | (have KX2 := Lib.hid (KX1.out.after g2))); obtain ⟨⟨⟨_, _, _, _, _⟩, ⟨_, _, _, _, _⟩, _⟩, _, _, _, _⟩ := KX2.out)
          | (go_at_call 13; (with_reducible refine (bits_is bh bl B _ HB.out).mono ?_); rintro e w3 ⟨b2, o2, c2, rfl, hv2, g3⟩; (first | (have V3 := Lib.hid ((Var3.fresh w2 (.bool false) (.int .u64 0) (.int .u64 0) 58 _ rfl).after g3); have KX3 := Lib.hid ((KX2.out.alloc _).after g3); have hv3 := Lib.hid ((hv1.alloc _).after g3)) | (have V3 := Lib.hid (V2.out.after g3); have KX3 := Lib.hid (KX2.out.after g3); have hv3 := Lib.hid (hv1.after g3)) | (have KX3 := Lib.hid (KX2.out.after g3); have hv3 := Lib.hid (hv1.after g3))); obtain ⟨⟨⟨_, _, _, _, _⟩, ⟨_, _, _, _, _⟩, _⟩, _, _, _, _⟩ := KX3.out)
          | (go_at_call 37; go_loud (first | (with_reducible refine (to_two (.slice (some ⟨b1, o1, none⟩) 128 c1) (.slice (some ⟨b2, o2, none⟩) 128 c2) A B xs xh xl _ hv3.out hv2 hxw.out hX.out).mono ?_) | (with_reducible refine (to_two (.slice (some ⟨b1, o1, none⟩) 128 c1) (.slice (some ⟨b2, o2, none⟩) 128 c2) A B xs xh xl _ (hv3.out.alloc _) (hv2.alloc _) hxw.out hX.out).mono ?_)); rintro e w4 ⟨rfl, g4⟩; (first | (have V4 := Lib.hid ((Var3.fresh w3 (.bool false) (.int .u64 0) (.int .u64 0) 58 _ rfl).after g4); have KX4 := Lib.hid ((KX3.out.alloc _).after g4)) | (have V4 := Lib.hid (V3.out.after g4); have KX4 := Lib.hid (KX3.out.after g4)) | (have KX4 := Lib.hid (KX3.out.after g4))); obtain ⟨⟨⟨_, _, _, _, _⟩, ⟨_, _, _, _, _⟩, _⟩, _, _, _, _⟩ := KX4.out; try obtain ⟨_, _, _, _, _, _, _⟩ := V4.out))
      all_goals (go_wp2_with fail; go_meet)
      all_goals first
        | exact ⟨_, rfl, rfl, Var3.fresh w4 _ _ _ 58 _ rfl, KX4.out.alloc _⟩
        | exact ⟨_, rfl, rfl, V4.out.put _ _ _, KX3.out.far KX4.out _ _ _⟩
        | exact ⟨_, rfl, rfl, V4.out.put _ _ _, KX2.out.far KX4.out _ _ _⟩
        | exact ⟨_, rfl, rfl, V4.out.put _ _ _, KX.out.far KX4.out _ _ _⟩
    case rest =>
      obtain ⟨pq, rfl, rfl, VQ, KY⟩ := hcut
      replace VQ := Lib.hid VQ
      replace KY := Lib.hid KY
      obtain ⟨nb, hN⟩ : ∃ nb, Hid (IsZ nb xh xl (-((A : Int) - B))) := ⟨_, hX.out.neg⟩
      have hN2 : Hid (IsZ nb xh xl ((B : Int) - A)) := by have := hN.out; rw [show -((A : Int) - B) = (B : Int) - A by omega] at this; exact this
      have hsum : ((A : Int) - B) + ((B : Int) - C) = (A : Int) - C := by omega
      have hfit : Hid (W128 ((A : Int) - C).natAbs) := by have := HA.out.lt; have := HC.out.lt; unfold Hid W128 at *; omega
      clear KX hxw
      go_upto_region 5 with fail
      have VQ1 := Lib.hid VQ.out.drew
      have KY1 := Lib.hid KY.out.drew
      obtain ⟨_, _, _, _, _, _, _⟩ := VQ1.out
      obtain ⟨⟨⟨_, _, _, _, _⟩, ⟨_, _, _, _, _⟩, _⟩, ⟨_, _, _, _, _, _, _⟩, _, _, _⟩ := KY1.out
      go_region_held3 (fun W => W.cell? ⟨w.heap.size, 0, none⟩ = some (.int .u64 ah) ∧ W.cell? ⟨w.heap.size, 1, none⟩ = some (.int .u64 al) ∧ W.cell? ⟨w.heap.size + 1, 0, none⟩ = some (.int .u64 bh) ∧ W.cell? ⟨w.heap.size + 1, 1, none⟩ = some (.int .u64 bl)
          ∧ W.cell? ⟨px, 0, none⟩ = some (.bool xs) ∧ W.cell? ⟨px, 1, none⟩ = some (.int .u64 xh) ∧ W.cell? ⟨px, 2, none⟩ = some (.int .u64 xl) ∧ W.cell? ⟨pq, 0, none⟩ = some (.bool xs) ∧ W.cell? ⟨pq, 1, none⟩ = some (.int .u64 xh) ∧ W.cell? ⟨pq, 2, none⟩ = some (.int .u64 xl))
        (first | (refine ⟨?_, ?_, ?_, ?_, ?_, ?_, ?_, ?_, ?_, ?_⟩ <;> assumption) | go_keep)
        (first
          | (go_at_call 39; (with_reducible refine (neg_is xs nb xh xl _ _ hX.out hN.out).mono ?_); rintro e w5 ⟨rfl, g5⟩; have VQ2 := Lib.hid (VQ1.out.after g5); have KY2 := Lib.hid (KY1.out.after g5); obtain ⟨_, _, _, _, _, _, _⟩ := VQ2.out; obtain ⟨⟨⟨_, _, _, _, _⟩, ⟨_, _, _, _, _⟩, _⟩, ⟨_, _, _, _, _, _, _⟩, _, _, _⟩ := KY2.out)
          | (go_at_call 45; (with_reducible refine (between_is bh bl ah al B A nb xh xl _ HB.out HA.out hN2.out).mono ?_); rintro e w6 ⟨rfl, g6⟩; have VQ3 := Lib.hid (VQ2.out.after g6); have KY3 := Lib.hid (KY2.out.after g6); obtain ⟨_, _, _, _, _, _, _⟩ := VQ3.out; obtain ⟨⟨⟨_, _, _, _, _⟩, ⟨_, _, _, _, _⟩, _⟩, ⟨_, _, _, _, _, _, _⟩, ⟨_, _, _, _, _, _, _⟩, ⟨_, _, _, _, _, _, _⟩, _⟩ := KY3.out))
      go_wp2_with (go_at_call 36; (with_reducible refine (add_is xs ys zs xh xl yh yl zh zl _ _ _ _ hX.out hY.out hZ.out hsum hfit.out).mono ?_); rintro e w7 ⟨rfl, g7⟩; obtain ⟨_, _, _, ⟨_, _, _, _, _, _, _⟩, D7⟩ := KY3.out.after g7)
      go_ret
      exact ⟨rfl, below_more D7 _⟩

theorem between_own : ownKnob Try.prog.godebug = none := by kernel_rfl

set_option maxRecDepth 100000 in
theorem between_lifted (os : Os) (started : os.Started) (H : Type) (enc : TypeId × Value → H) :
    ReturnsInHanded {} Try.checked os 10 .any (Rows.signedBetweenSpec.pre6 enc Try.prog Try.f10 Rows.signedBetweenRow.domain false) (Rows.signedBetweenSpec.post enc Try.prog Try.f10 false true false false) := by
  refine returnsInHanded_of_change (C := Try.checked) between_own started (by kernel_rfl) Try.func10
    (ChangeSpec.witness6 (enc := enc) (C := Try.checked) false ⟨#[], #[.agg #[.int .u64 0, .int .u64 0], .agg #[.int .u64 0, .int .u64 0], .agg #[.int .u64 0, .int .u64 0]], []⟩ 8 (by kernel_rfl) (by kernel_rfl) (by kernel_rfl) (by kernel_rfl)) ?_
  intro W base args ds gs before hval0 hW hcnd _
  have hval : ∀ (j : Nat) t v, Try.f10.params[j]? = some t → args[j]? = some v → Value.okWide Try.prog W .any base t v := hval0
  have hW' := hW
  obtain ⟨p, q, hA0, hV, rfl, hfz, hnd⟩ := hW
  have hA : DataW.TrodAll enc Try.prog W 0 (fun _ => true) true Try.f10.params.toList args.toList ds p := hA0
  rw [Try.params10] at hA hval
  obtain ⟨v0, v1, v2, d0, d1, d2, p0, p1, p2, rfl, rfl, rfl, h0, h1, h2⟩ := trodAll_three hA
  obtain ⟨rfl, rfl⟩ := trodVars_none hV
  obtain ⟨c0, c1, y0, y1, m0, rfl, rfl, rfl, hy0, hy1⟩ := open_agg2 Try.underlying24 (by kernel_rfl) cells_wide (hval 0 24 v0 rfl rfl) h0
  obtain ⟨ah, e0, rfl, wah⟩ := DataW.trod_int Try.underlying22 hy0
  obtain ⟨al, e1, rfl, wal⟩ := DataW.trod_int Try.underlying22 hy1
  obtain ⟨c2, c3, y2, y3, m1, rfl, rfl, rfl, hy2, hy3⟩ := open_agg2 Try.underlying24 (by kernel_rfl) cells_wide (hval 1 24 v1 rfl rfl) h1
  obtain ⟨bh, e2, rfl, wbh⟩ := DataW.trod_int Try.underlying22 hy2
  obtain ⟨bl, e3, rfl, wbl⟩ := DataW.trod_int Try.underlying22 hy3
  obtain ⟨c4, c5, y4, y5, m2, rfl, rfl, rfl, hy4, hy5⟩ := open_agg2 Try.underlying24 (by kernel_rfl) cells_wide (hval 2 24 v2 rfl rfl) h2
  obtain ⟨ch, e4, rfl, wch⟩ := DataW.trod_int Try.underlying22 hy4
  obtain ⟨cl, e5, rfl, wcl⟩ := DataW.trod_int Try.underlying22 hy5
  simp at e0 e1 e2 e3 e4 e5
  subst e0 e1 e2 e3 e4 e5
  clear hA0 hval0
  simp only [List.append_nil] at hW'
  have structReads : ∀ (W' : World) (sp : Nat → Bool) (x y : Int), (Lit.int .u64 x).wf = true → (Lit.int .u64 y).wf = true → DataW.Trod enc Try.prog W' 0 sp true 24 (.agg #[.int .u64 x, .int .u64 y]) (.agg [.lit (.int .u64 x), .lit (.int .u64 y)]) [] := fun W' sp x y wx wy =>
    shut_agg2 (y0 := (.lit (.int .u64 x), [])) (y1 := (.lit (.int .u64 y), [])) Try.underlying24 (by kernel_rfl) cells_wide ⟨1, by simp [DataW.trod, Try.underlying22, wx]⟩ ⟨1, by simp [DataW.trod, Try.underlying22, wy]⟩
  have iw := fun (x y : Int) (wx : (Lit.int .u64 x).wf = true) (wy : (Lit.int .u64 y).wf = true) => IsW.of (word_wf x wx).1 (word_wf x wx).2 (word_wf y wy).1 (word_wf y wy).2
  refine (between_walk ah al bh bl ch cl _ _ _ W (iw ah al wah wal) (iw bh bl wbh wbl) (iw ch cl wch wcl)).mono fun e W' ⟨he, bel⟩ => ?_
  subst he
  exact ⟨_, rfl, _, _, _, [], [], [], hW', trodAll_mk1 (shut_bool Try.underlying4 _), trodAll_mk3 (structReads _ _ ah al wah wal) (structReads _ _ bh bl wbh wbl) (structReads _ _ ch cl wch wcl), rfl, bel.frame _, fun h => by cases h⟩

theorem between_over : Rows.signedBetweenRow.holds Try.pinned (OpenSpec.ofChange Rows.signedBetweenSpec) :=
  OpenClaim.holds_of_wide 10 Try.f10 rfl rfl rfl rfl rfl rfl rfl ⟨rfl, rfl, rfl, rfl, rfl⟩ rfl rfl rfl rfl rfl (by kernel_rfl) Try.func10 (by kernel_rfl)
    (of_decide_eq_true (by kernel_rfl)) (by unfold Func.isWrapper; first | (rw [if_pos (by decide +kernel)]; kernel_rfl) | (rw [if_neg (by decide +kernel)]; exact ⟨rfl, rfl⟩))
    (fun os started H enc _ => between_lifted os started H enc)

/-- The statement. -/
theorem signed_between_proved : Rows.SignedBetweenSaid := between_over

end Go.Proofs.Ytcdafppnfflmcaa
