/-
  The document's own slots of layer 11: Put, Same, Newer, Slot: walked.
-/
import Derived.Test.YtejelednnacnaaaGreatDoorPkWirT
import Derived.Test.YtejelednnacnaaaGreatDoorPkSltA
import Derived.Test.YtejelednnacnaaaGreatDoorPkMarkB
import Derived.Test.YtejelednnacnaaaGreatDoorPkCrc
import Derived.Test.YtejelednnacnaaaGreatDoorPkBase
import Derived.Test.YtejelednnacnaaaGreatDoorPkMixes
import Derived.Deep.QuietTactic
import Derived.BigQuiet
import Derived.RegionTactic
import Derived.StillTailTactics
import Derived.Laws.ResultCell
namespace Go.Proofs.YtejelednnacnaaaGreatDoor
open Go.RowKit

/-- A snapshot's value: an epoch, and bytes. -/
def SnapV (w : World) (x : Value) (m : Nat × List Int) : Prop :=
  m.1 ≤ 18446744073709551615 ∧ ∃ a c, x = .agg #[.int .u64 (m.1 : Int), .slice a m.2.length c] ∧ ArgB w (.slice a m.2.length c) m.2
theorem SnapV.below {w w' : World} {x : Value} {m : Nat × List Int} (h : SnapV w x m) (hb : Below w.heap.size w w') : SnapV w' x m := by
  obtain ⟨h1, a, c, rfl, h2⟩ := h
  exact ⟨h1, a, c, rfl, h2.below hb⟩
theorem SnapV.nil (w : World) : SnapV w (.agg #[.int .u64 0, .slice none 0 0]) (0, []) := ⟨by decide, none, 0, rfl, ArgB.nil w⟩
/-- The next one, or the error. -/
def putM (m : Nat × List Int) (all : Nat) (b : List Int) : (Nat × List Int) × Int := if all < b.length + 19 then (m, 11) else if m.1 = 18446744073709551615 then (m, 3) else ((m.1 + 1, b), 0)
theorem putM_full {m : Nat × List Int} {all : Nat} {b : List Int} (h : all < b.length + 19) : putM m all b = (m, 11) := if_pos h
theorem putM_over {m : Nat × List Int} {all : Nat} {b : List Int} (h : ¬ all < b.length + 19) (h2 : m.1 = 18446744073709551615) : putM m all b = (m, 3) := by unfold putM; rw [if_neg h, if_pos h2]
theorem putM_done {m : Nat × List Int} {all : Nat} {b : List Int} (h : ¬ all < b.length + 19) (h2 : ¬ m.1 = 18446744073709551615) : putM m all b = ((m.1 + 1, b), 0) := by unfold putM; rw [if_neg h, if_neg h2]

set_option maxRecDepth 100000 in
/-- A snapshot's value, from its variable. -/
theorem load_snap {W : World} {g : Nat} {x y : Value} (h : Var2 W g x y) : (loadVar 34 ⟨g, 0, none⟩).run Tryz.prog W = .ok (.agg #[x, y]) W := by
  have c0 := h.c0
  have c1 := h.c1
  clear h
  go_simp
/-- The value of it. -/
def putV (xv bv : Value) (m : Nat × List Int) (all : Nat) (b : List Int) : Value := if all < b.length + 19 then xv else if m.1 = 18446744073709551615 then xv else .agg #[.int .u64 ((m.1 + 1 : Nat) : Int), bv]
/-- What Put hands back: it stays as what was handed in stays. -/
def GivesRp (xv bv : Value) (m : Nat × List Int) (all : Nat) (b : List Int) (w : World) (e : Ending) (w' : World) : Prop :=
  ∃ xv', xv' = putV xv bv m all b ∧ e = .returned (.tuple #[xv', .int .i64 (putM m all b).2]) ∧ (∀ w2, SnapV w2 xv m → ArgB w2 bv b → SnapV w2 xv' (putM m all b).1) ∧ Below w.heap.size w w'
/-- One cell of a function's results. -/
theorem snap_results {fn : Func} {p : Tmp} {ty : TypeId} {W : World} {g : Nat} {x y : Value} {tmps : Array Value} (hty : ty = 34) (hr : fn.results = #[.cell p ty]) (h : Var2 W g x y) (hp : tmps.getD p undef = .pointer (some ⟨g, 0, none⟩)) : (results fn tmps).run Tryz.prog W = .ok (.agg #[x, y]) W := by
  subst hty
  have e : (asAddr (Value.pointer (some ⟨g, 0, none⟩))).run Tryz.prog W = .ok ⟨g, 0, none⟩ W := rfl
  have hp' : tmps[p]?.getD undef = .pointer (some ⟨g, 0, none⟩) := by simpa using hp
  simp only [results, hr]
  simp [Sem.run_bind, Result.andThen, hp', e, load_snap h]
set_option maxRecDepth 100000 in
set_option maxHeartbeats 4000000 in
theorem rssame_any (x1 x2 : Value) (m1 m2 : Nat × List Int) (w : World) (h1 : SnapV w x1 m1) (h2 : SnapV w x2 m2) (b1 : ∀ z ∈ m1.2, 0 ≤ z ∧ z ≤ 255) (b2 : ∀ z ∈ m2.2, 0 ≤ z ∧ z ≤ 255) :
    Calls Tryz.prog 35 #[x1, x2] w fun e w' => e = .returned (.bool (decide (m1 = m2))) ∧ Below w.heap.size w w' := by
  obtain ⟨e1, a1, c1, rfl, hA1⟩ := h1
  obtain ⟨e2, a2, c2, rfl, hA2⟩ := h2
  have G2 := below_more (below_more (Below.refl w.heap.size w) (.cells #[.int .u64 (m1.1 : Int), .slice a1 m1.2.length c1] 34)) (.cells #[.int .u64 (m2.1 : Int), .slice a2 m2.2.length c2] 34)
  have cv1 := conv_arg (hA1.below G2) b1
  have cv2 := conv_arg (hA2.below G2) b2
  have HG := Lib.hid G2
  by_cases he : m1.1 = m2.1
  · have hfin : Hid (decide (m1 = m2) = ((strOfNums m1.2).toList == (strOfNums m2.2).toList)) := by
      unfold Hid
      rw [Bool.eq_iff_iff, decide_eq_true_iff, beq_iff_eq]
      refine ⟨fun h => by rw [h], fun h => ?_⟩
      have := strOfNums_inj b1 b2 (ByteArray.ext (Array.toList_inj.mp (by rw [← ByteArray.toList_eq, ← ByteArray.toList_eq]; exact h)))
      exact Prod.ext he this
    rw [← he] at cv1 cv2 HG ⊢
    obtain ⟨n1, hn1⟩ : ∃ n, m1.2.length = n := ⟨_, rfl⟩
    obtain ⟨n2, hn2⟩ : ∃ n, m2.2.length = n := ⟨_, rfl⟩
    obtain ⟨s1, hs1⟩ : ∃ n, strOfNums m1.2 = n := ⟨_, rfl⟩
    obtain ⟨s2, hs2⟩ : ∃ n, strOfNums m2.2 = n := ⟨_, rfl⟩
    rw [hn1, hs1, hn2] at cv1
    rw [hn1, hs2, hn2] at cv2
    rw [hs1, hs2] at hfin
    rw [hn1, hn2] at HG ⊢
    clear hn1 hn2 hs1 hs2 hA1 hA2 b1 b2 he e1 e2 G2
    go_enter Tryz.func35, Tryz.ntmps35
    go_wp2
    go_ret
    exact ⟨by rw [hfin.out]; rfl, HG.out⟩
  · have hfin : Hid (decide (m1 = m2) = false) := decide_eq_false (fun h => he (by rw [h]))
    have hne : ((m1.1 : Int) == (m2.1 : Int)) = false := by simp; omega
    clear hA1 hA2 b1 b2 he e1 e2 G2 cv1 cv2
    go_enter Tryz.func35, Tryz.ntmps35
    go_wp2
    go_ret
    exact ⟨by rw [hfin.out]; rfl, HG.out⟩
set_option maxRecDepth 100000 in
set_option maxHeartbeats 4000000 in
theorem rsnewer_any (x1 x2 : Value) (m1 m2 : Nat × List Int) (w : World) (h1 : SnapV w x1 m1) (h2 : SnapV w x2 m2) :
    Calls Tryz.prog 9 #[x1, x2] w fun e w' => ∃ xv, e = .returned xv ∧ ((xv = x1 ∧ newerL m1 m2 = m1) ∨ (xv = x2 ∧ newerL m1 m2 = m2)) ∧ Below w.heap.size w w' := by
  obtain ⟨e1, a1, c1, rfl, hA1⟩ := h1
  obtain ⟨e2, a2, c2, rfl, hA2⟩ := h2
  have G2 := below_more (below_more (Below.refl w.heap.size w) (.cells #[.int .u64 (m1.1 : Int), .slice a1 m1.2.length c1] 34)) (.cells #[.int .u64 (m2.1 : Int), .slice a2 m2.2.length c2] 34)
  by_cases he : m1.1 < m2.1
  · have hn : Hid (newerL m1 m2 = m2) := if_pos he
    have hlt : (m1.1 : Int) < (m2.1 : Int) := by omega
    have HG := Lib.hid (below_more G2 (.cells #[.int .u64 (m2.1 : Int), .slice a2 m2.2.length c2] 34))
    clear hA1 hA2 e1 e2 G2 he
    go_enter Tryz.func9, Tryz.ntmps9
    go_wp2
    (try simp only [Exit.inBlock, Exit.then])
    refine bodyPost_ret (snap_results rfl rfl (Var2.fresh _ (.int .u64 (m2.1 : Int)) (.slice a2 m2.2.length c2) _ _ (by simp)) rfl) rfl ⟨_, rfl, Or.inr ⟨rfl, hn.out⟩, HG.out⟩
  · have hn : Hid (newerL m1 m2 = m1) := if_neg he
    have hlt : ¬ (m1.1 : Int) < (m2.1 : Int) := by omega
    have HG := Lib.hid (below_more G2 (.cells #[.int .u64 (m1.1 : Int), .slice a1 m1.2.length c1] 34))
    clear hA1 hA2 e1 e2 G2 he
    go_enter Tryz.func9, Tryz.ntmps9
    go_wp2
    (try simp only [Exit.inBlock, Exit.then])
    refine bodyPost_ret (snap_results rfl rfl (Var2.fresh _ (.int .u64 (m1.1 : Int)) (.slice a1 m1.2.length c1) _ _ (by simp)) rfl) rfl ⟨_, rfl, Or.inl ⟨rfl, hn.out⟩, HG.out⟩

/-- A snapshot's value that leans on the blocks F alone. -/
def SnapF (w : World) (x : Value) (m : Nat × List Int) (F : Foot) : Prop :=
  m.1 ≤ 18446744073709551615 ∧ ∃ a c, x = .agg #[.int .u64 (m.1 : Int), .slice a m.2.length c] ∧ ArgB w (.slice a m.2.length c) m.2 ∧ (m.2 ≠ [] → ∀ b, (Value.slice a m.2.length c).ownBlock = some b → F b)
theorem SnapF.snapV {w : World} {x : Value} {m : Nat × List Int} {F : Foot} (h : SnapF w x m F) : SnapV w x m := by
  obtain ⟨h1, a, c, rfl, h2, _⟩ := h
  exact ⟨h1, a, c, rfl, h2⟩
theorem SnapF.only {w w' : World} {x : Value} {m : Nat × List Int} {F O : Foot} {base : Nat} (h : SnapF w x m F) (ho : OnlyO base O w w') (hd : ∀ i, F i → ¬ O i) : SnapF w' x m F := by
  obtain ⟨h1, a, c, rfl, h2, h3⟩ := h
  exact ⟨h1, a, c, rfl, h2.only ho (fun hn b hb => hd b (h3 hn b hb)), h3⟩
theorem SnapF.below {w w' : World} {x : Value} {m : Nat × List Int} {F : Foot} (h : SnapF w x m F) (hb : Below w.heap.size w w') : SnapF w' x m F := by
  obtain ⟨h1, a, c, rfl, h2, h3⟩ := h
  exact ⟨h1, a, c, rfl, h2.below hb, h3⟩
theorem SnapF.weak {w : World} {x : Value} {m : Nat × List Int} {F F' : Foot} (h : SnapF w x m F) (hF : ∀ i, i < w.heap.size → F i → F' i) : SnapF w x m F' := by
  obtain ⟨h1, a, c, rfl, h2, h3⟩ := h
  exact ⟨h1, a, c, rfl, h2, fun hn b hb => hF b (h2.lt hn hb) (h3 hn b hb)⟩
theorem SnapF.nil (w : World) (F : Foot) : SnapF w (.agg #[.int .u64 0, .slice none 0 0]) (0, []) F := ⟨by decide, none, 0, rfl, ArgB.nil w, fun hn => (hn rfl).elim⟩
/-- What Slot hands back. -/
def GivesRs (m : Nat × List Int) (w : World) (e : Ending) (w' : World) : Prop := ∃ xv, e = .returned xv ∧ SnapF w' xv m (fun b => w.heap.size ≤ b) ∧ Below w.heap.size w w'
theorem snap_zero {n k : Nat} (h : n = 0 ∨ n % 2 ≠ k) {s x q : List Int} {g : GotV} (h1 : openL s = some x) (h2 : takeT 0 0 x = some (g, q)) (hg : g.n = n) : snapL s k = (0, []) := by
  simp only [snapL, h1, h2, hg]
  rw [if_pos h]
theorem snap_yes {k : Nat} {s x q : List Int} {g : GotV} (h1 : openL s = some x) (h2 : takeT 0 0 x = some (g, q)) (h : ¬ (g.n = 0 ∨ g.n % 2 ≠ k)) : snapL s k = (g.n, q) := by
  simp only [snapL, h1, h2]
  rw [if_neg h]
theorem snap_bad {k : Nat} {s x : List Int} (h1 : openL s = some x) (h2 : takeT 0 0 x = none) : snapL s k = (0, []) := by simp only [snapL, h1, h2]
theorem takeT_u64 {x q : List Int} {g : GotV} (hb : ∀ z ∈ x, 0 ≤ z ∧ z ≤ 255) (h : takeT 0 0 x = some (g, q)) : g.n ≤ 18446744073709551615 := by
  cases x with
  | nil => simp [takeT] at h
  | cons k r =>
    simp only [takeT] at h
    rw [if_neg (by decide), if_neg (by decide)] at h
    split at h
    · cases h
    · rename_i n p hk
      simp only [if_true, Option.some.injEq, Prod.mk.injEq] at h
      obtain ⟨rfl, rfl⟩ := h
      unfold takeK at hk
      split at hk
      · cases hk
      · rename_i hc
        simp only [Option.some.injEq, Prod.mk.injEq] at hk
        obtain ⟨rfl, rfl⟩ := hk
        have hk0 := (hb k (by simp)).1
        have h8 : k.toNat ≤ 8 := by omega
        have hlt := valB_lt r (fun z hz => hb z (by simp [hz])) k.toNat (by omega)
        have hp : 256 ^ k.toNat ≤ 256 ^ 8 := Nat.pow_le_pow_right (by decide) h8
        show valB (r.take k.toNat) ≤ _
        have : (256 : Nat) ^ 8 = 18446744073709551616 := by decide
        omega
set_option maxRecDepth 100000 in
set_option maxHeartbeats 4000000 in
theorem rsslot_any (s : List Int) (k : Nat) (w : World) (hb : ∀ z ∈ s, 0 ≤ z ∧ z ≤ 255) (hl : s.length ≤ 1000000) (_hk : k ≤ 1) :
    Calls Tryz.prog 10 #[.string (strOfNums s), .int .u64 (k : Int)] w (GivesRs (snapL s k) w) := by
  have g0 := below_more (Below.refl w.heap.size w) (.cells #[.int .u64 0, .slice none 0 0] 34)
  obtain ⟨cap, w1, hcv, hA, hB, hlt⟩ := text_bytes (strOfNums s) (w.alloc (.cells #[.int .u64 0, .slice none 0 0] 34))
  have V0 := (Var2.fresh w (.int .u64 0) (.slice none 0 0) 34 _ rfl).after hB
  rw [nums_strOfNums s hb] at hA
  have hsz : (strOfNums s).size = s.length := by rw [← nums_length, nums_strOfNums s hb]
  rw [hsz] at hA hcv
  have hsz2 : (w.alloc (.cells #[.int .u64 0, .slice none 0 0] 34)).heap.size = w.heap.size + 1 := by simp
  rw [hsz2] at hA hcv
  have HOP := rcopen_any _ s w1 hA hb hl
  have HG1 := Lib.hid (below_step g0 hB)
  have HV := Lib.hid V0
  have d0 := V0.c0
  have d1 := V0.c1
  have p0 := V0.q0
  have p1 := V0.q1
  cases ho : openL s with
  | none =>
    have hfin : Hid (snapL s k = (0, [])) := snap_none k ho
    have HO2 : Hid (Calls Tryz.prog 30 #[.slice (some ⟨w.heap.size + 1, 0, none⟩) s.length cap] w1 fun e w' => e = .returned (.tuple #[.slice none 0 0, .int .i64 0, .bool false]) ∧ Below w1.heap.size w1 w') := HOP.mono fun e w' ⟨g, h⟩ => by
      rcases h with ⟨_, h⟩ | ⟨x, _, hx, _⟩
      · exact ⟨h, g⟩
      · rw [ho] at hx; cases hx
    clear HOP hA hB V0 ho hb hl
    go_enter Tryz.func10, Tryz.ntmps10
    go_wp2_with (go_at_call 30; (with_reducible refine (HO2.out).mono ?_); rintro e w2 ⟨rfl, g2⟩; have G2 := Lib.hid (below_step HG1.out g2); have V2 := Lib.hid (HV.out.after g2); have d02 := V2.out.c0; have d12 := V2.out.c1; have p02 := V2.out.q0; have p12 := V2.out.q1; clear g2)
    (try simp only [Exit.inBlock, Exit.then])
    refine bodyPost_ret (snap_results (x := .int .u64 0) (y := .slice none 0 0) rfl rfl ?_ rfl) rfl ⟨_, rfl, ?_, ?_⟩
    · exact V2.out.put _ _
    · rw [hfin.out]
      exact SnapF.nil _ _
    · exact below_put2 G2.out (Nat.le_refl _) _ _
  | some x =>
    have hxl := open_len ho
    obtain ⟨ho1, ho2, ho3, hxd, ho5⟩ := open_some ho
    clear ho1 ho2 ho3 ho5
    have hxb : ∀ z ∈ x, 0 ≤ z ∧ z ≤ 255 := fun z hz => by
      rw [hxd] at hz
      exact hb z (List.mem_of_mem_drop (List.mem_of_mem_take hz))
    have HO2 : Hid (Calls Tryz.prog 30 #[.slice (some ⟨w.heap.size + 1, 0, none⟩) s.length cap] w1 fun e w' => ∃ xv, e = .returned (.tuple #[xv, .int .i64 ((x.length + 10 : Nat) : Int), .bool true]) ∧ Below w1.heap.size w1 w' ∧ ∀ w0, ArgB w0 (.slice (some ⟨w.heap.size + 1, 0, none⟩) s.length cap) s → ArgB w0 xv x) := HOP.mono fun e w' ⟨g, h⟩ => by
      rcases h with ⟨hn, _⟩ | ⟨x', xv, hx, h, hxv⟩
      · rw [ho] at hn; cases hn
      · rw [ho] at hx
        cases hx
        exact ⟨xv, h, g, hxv⟩
    have HGG := fun W xv (hx : ArgB W xv x) => (show Calls Tryz.prog 31 #[xv, .int .i64 0, .agg #[.int .i64 0, .int .i64 0]] W (GivesGet x (takeT 0 0 (x.drop 0)) W) from rwget_is xv x 0 0 0 W hx.bytesIs hxb (by decide) (by omega) (by decide) (by decide))
    have HA := Lib.hid hA
    obtain ⟨N, hN⟩ : ∃ n, x.length = n := ⟨_, rfl⟩
    have HX := Lib.hid hN
    have HNb : N ≤ 1000000 := by omega
    rw [hN] at HO2
    have HXb := Lib.hid hxb
    cases hg : takeT 0 0 x with
    | none =>
      have hfin : Hid (snapL s k = (0, [])) := snap_bad ho hg
      have HGET : Hid (∀ W xv, ArgB W xv x → Calls Tryz.prog 31 #[xv, .int .i64 0, .agg #[.int .i64 0, .int .i64 0]] W fun e w' => ∃ (a b : Int) (c : ByteArray) (d : Bool) (n : Int), e = .returned (.tuple #[.agg #[.int .u64 a, .int .i64 b, .string c, .bool d], .int .i64 n, .bool false]) ∧ Below W.heap.size W w') := fun W xv hx => (HGG W xv hx).mono fun e w' ⟨g, h⟩ => by
        rcases h with ⟨_, _, h1, _⟩ | ⟨_, a, b, c, d, n, h⟩
        · rw [List.drop_zero, hg] at h1; cases h1
        · exact ⟨a, b, c, d, n, h, g⟩
      clear HOP hA hB V0 ho hb hl hxd hxb HGG hN hg hxl d0 d1 p0 p1
      go_enter Tryz.func10, Tryz.ntmps10
      go_wp2_with (first
        | (go_at_call 30; (with_reducible refine (HO2.out).mono ?_); rintro e w2 ⟨xv, rfl, g2, hxv⟩; obtain ⟨xa, xc, hxe⟩ := (hxv _ (HA.out.below g2)).size; rw [HX.out] at hxe; subst hxe; have G2 := Lib.hid (below_step HG1.out g2); have V2 := Lib.hid (HV.out.after g2); have HXV := Lib.hid hxv; have HA2 := Lib.hid (hxv _ (HA.out.below g2)); have HGT := Lib.hid (HGET.out w2 _ (hxv _ (HA.out.below g2))); clear g2 hxv)
        | (go_at_call 31; (with_reducible refine (HGT.out).mono ?_); rintro e w3 ⟨ga, gb, gc, gd, gN, rfl, g3⟩; have hg4 := (Below.refl w3.heap.size w3).alloc (Nat.le_refl _) (.cells #[.int .u64 ga, .int .i64 gb, .string gc, .bool gd] 68); have V3 := Lib.hid ((V2.out.after g3).after hg4); have G3 := Lib.hid (below_step (below_step G2.out g3) hg4); have HA3 := Lib.hid ((HA2.out.below g3).below hg4); have d03 := V3.out.c0; have d13 := V3.out.c1; have p03 := V3.out.q0; have p13 := V3.out.q1; clear g3 hg4))
      (try simp only [Exit.inBlock, Exit.then])
      refine bodyPost_ret (snap_results (x := .int .u64 0) (y := .slice none 0 0) rfl rfl ?_ rfl) rfl ⟨_, rfl, ?_, ?_⟩
      · exact V3.out.put _ _
      · rw [hfin.out]
        exact SnapF.nil _ _
      · exact below_put2 G3.out (Nat.le_refl _) _ _
    | some gq =>
      obtain ⟨gg, q⟩ := gq
      have hn64 := takeT_u64 hxb hg
      obtain ⟨gn, gi, gs, gf⟩ := gg
      have HGET : Hid (∀ W xv, ArgB W xv x → Calls Tryz.prog 31 #[xv, .int .i64 0, .agg #[.int .i64 0, .int .i64 0]] W fun e w' => e = .returned (.tuple #[.agg #[.int .u64 (gn : Int), .int .i64 gi, .string gs, .bool gf], .int .i64 ((x.length - q.length : Nat) : Int), .bool true]) ∧ Below W.heap.size W w') := fun W xv hx => (HGG W xv hx).mono fun e w' ⟨g, h⟩ => by
        rcases h with ⟨g', q', h1, _, _, h⟩ | ⟨h1, _⟩
        · rw [List.drop_zero, hg] at h1
          cases h1
          exact ⟨h, g⟩
        · rw [List.drop_zero, hg] at h1; cases h1
      obtain ⟨j0, hj0⟩ := takeT_drop hg
      have hql : q.length ≤ x.length := by rw [hj0, List.length_drop]; omega
      have hqd : x.drop (x.length - q.length) = q := by
        rw [hj0, List.length_drop]
        by_cases hj : j0 ≤ x.length
        · rw [show x.length - (x.length - j0) = j0 by omega]
        · rw [List.drop_eq_nil_of_le (by omega), List.drop_eq_nil_of_le (by omega)]
      obtain ⟨P, hP⟩ : ∃ p, x.length - q.length = p := ⟨_, rfl⟩
      rw [hP] at HGET hqd
      have hPx : Hid (P ≤ x.length) := by unfold Hid; omega
      have hn64' : gn ≤ 18446744073709551615 := hn64
      by_cases h0 : gn = 0
      · have hfin : Hid (snapL s k = (0, [])) := snap_zero (n := gn) (Or.inl h0) ho hg rfl
        subst h0
        have HGET : Hid (∀ W xv, ArgB W xv x → Calls Tryz.prog 31 #[xv, .int .i64 0, .agg #[.int .i64 0, .int .i64 0]] W fun e w' => e = .returned (.tuple #[.agg #[.int .u64 0, .int .i64 gi, .string gs, .bool gf], .int .i64 (P : Int), .bool true]) ∧ Below W.heap.size W w') := HGET.out
        clear HOP hA hB V0 ho hb hl hxd hxb HGG hN hg hxl hn64 hn64' hql hqd hP hj0 d0 d1 p0 p1
        go_enter Tryz.func10, Tryz.ntmps10
        go_wp2_with (first
          | (go_at_call 30; (with_reducible refine (HO2.out).mono ?_); rintro e w2 ⟨xv, rfl, g2, hxv⟩; obtain ⟨xa, xc, hxe⟩ := (hxv _ (HA.out.below g2)).size; rw [HX.out] at hxe; subst hxe; have G2 := Lib.hid (below_step HG1.out g2); have V2 := Lib.hid (HV.out.after g2); have HXV := Lib.hid hxv; have HA2 := Lib.hid (hxv _ (HA.out.below g2)); have HGT := Lib.hid (HGET.out w2 _ (hxv _ (HA.out.below g2))); clear g2 hxv)
          | (go_at_call 31; (with_reducible refine (HGT.out).mono ?_); rintro e w3 ⟨rfl, g3⟩; have hg4 := (Below.refl w3.heap.size w3).alloc (Nat.le_refl _) (.cells #[.int .u64 0, .int .i64 gi, .string gs, .bool gf] 68); have V3 := Lib.hid ((V2.out.after g3).after hg4); have G3 := Lib.hid (below_step (below_step G2.out g3) hg4); have HA3 := Lib.hid ((HA2.out.below g3).below hg4); have d03 := V3.out.c0; have d13 := V3.out.c1; have p03 := V3.out.q0; have p13 := V3.out.q1; clear g3 hg4))
        (try simp only [Exit.inBlock, Exit.then])
        refine bodyPost_ret (snap_results (x := .int .u64 0) (y := .slice none 0 0) rfl rfl ?_ rfl) rfl ⟨_, rfl, ?_, ?_⟩
        · exact V3.out.put _ _
        · rw [hfin.out]
          exact SnapF.nil _ _
        · exact below_put2 G3.out (Nat.le_refl _) _ _
      · have h0' : ((gn : Int) == 0) = false := by simpa using h0
        by_cases h2 : gn % 2 = k
        · have hfin : Hid (snapL s k = (gn, q)) := snap_yes ho hg (by show ¬ (gn = 0 ∨ gn % 2 ≠ k); omega)
          have h2' : ((gn : Int) % 2 != (k : Int)) = false := by simp; omega
          have h2e : (gn : Int) % 2 = (k : Int) := by omega
          obtain ⟨Q, hQ⟩ : ∃ n, q.length = n := ⟨_, rfl⟩
          have HQD := Lib.hid (And.intro hqd hQ)
          have HN64 := Lib.hid hn64'
          clear HOP hA hB V0 ho hb hl hxd hxb HGG hN hg hxl hn64 hql hqd hP hj0 hQ d0 d1 p0 p1
          go_enter Tryz.func10, Tryz.ntmps10
          go_wp2_with (first
            | (go_at_call 30; (with_reducible refine (HO2.out).mono ?_); rintro e w2 ⟨xv, rfl, g2, hxv⟩; obtain ⟨xa, xc, hxe⟩ := (hxv _ (HA.out.below g2)).size; rw [HX.out] at hxe; subst hxe; have G2 := Lib.hid (below_step HG1.out g2); have V2 := Lib.hid (HV.out.after g2); have HXV := Lib.hid hxv; have HA2 := Lib.hid (hxv _ (HA.out.below g2)); have HGT := Lib.hid (HGET.out w2 _ (hxv _ (HA.out.below g2))); clear g2 hxv)
            | (go_at_call 31; (with_reducible refine (HGT.out).mono ?_); rintro e w3 ⟨rfl, g3⟩; have hg4 := (Below.refl w3.heap.size w3).alloc (Nat.le_refl _) (.cells #[.int .u64 (gn : Int), .int .i64 gi, .string gs, .bool gf] 68); have V3 := Lib.hid ((V2.out.after g3).after hg4); have G3 := Lib.hid (below_step (below_step G2.out g3) hg4); have HA3 := Lib.hid ((HA2.out.below g3).below hg4); have d03 := V3.out.c0; have d13 := V3.out.c1; have p03 := V3.out.q0; have p13 := V3.out.q1; clear g3 hg4))
          obtain ⟨sv, hrun, hsv⟩ := slice_from HA3.out P hPx.out
          rw [HQD.out.1] at hsv
          obtain ⟨sa, sc, hse⟩ := hsv.size
          rw [HQD.out.2] at hse
          have hsb := slice_from_block HA3.out P hPx.out hrun
          subst hse
          have HSB : Hid (q ≠ [] → ∀ b, (Value.slice sa Q sc).ownBlock = some b → w.heap.size ≤ b) := fun hn b hb => by
            have hxn : x ≠ [] := fun e => hn (by have := HQD.out.1; rw [e] at this; simpa using this.symm)
            rw [hsb, same_block HXV.out HA.out hxn] at hb
            have e : w.heap.size + 1 = b := Option.some.inj hb
            omega
          have HFIN : Hid (∀ W, ArgB W (.slice sa Q sc) q → W.cell? ⟨w.heap.size, 0, none⟩ = some (.int .u64 0) → W.cell? ⟨w.heap.size, 1, none⟩ = some (.slice none 0 0) → SnapF (put2 W w.heap.size (.int .u64 (gn : Int)) (.slice sa Q sc)) (.agg #[.int .u64 (gn : Int), .slice sa Q sc]) (gn, q) (fun b => w.heap.size ≤ b)) := fun W hA c0 c1 => by
            refine ⟨HN64.out, sa, sc, by rw [HQD.out.2], ?_, by rw [HQD.out.2]; exact HSB.out⟩
            rw [HQD.out.2]
            have h1 := hA.set c0 (fun z => by simp) (.int .u64 (gn : Int))
            have c1' : (W.setCell ⟨w.heap.size, 0, none⟩ (.int .u64 (gn : Int))).cell? ⟨w.heap.size, 1, none⟩ = some (.slice none 0 0) := by simp [go_sem, c1]
            exact h1.set c1' (fun z => by simp) _
          have HA5 := Lib.hid hsv
          have HK := Lib.hid (fun W (hb : Below (w3.alloc (.cells #[.int .u64 (gn : Int), .int .i64 gi, .string gs, .bool gf] 68)).heap.size (w3.alloc (.cells #[.int .u64 (gn : Int), .int .i64 gi, .string gs, .bool gf] 68)) W) => ((Var4.fresh w3 (.int .u64 (gn : Int)) (.int .i64 gi) (.string gs) (.bool gf) 68 _ rfl).after hb).c0)
          clear hsv hsb
          refine wp_region_mix 6 (TLst [.pointer (some ⟨w3.heap.size, 0, none⟩), .int .u64 (gn : Int), .slice xa N xc, .int .i64 (P : Int), .slice sa Q sc, .agg #[.int .u64 (gn : Int), .slice sa Q sc]]) (fun _ => false) (by kernel_rfl) (by kernel_rfl) (fun _ _ _ _ h _ => h) (fun _ _ _ h => by cases h) ?_ ?_
          · simp only [List.take_succ_cons, List.take_zero]
            refine (StepsAll.cons ?_ (StepsAll.cons ?_ (StepsAll.cons ?_ (StepsAll.cons ?_ (StepsAll.cons ?_ (StepsAll.cons ?_ StepsAll.nil))))))
            · intro u W hb hd
              simp only [putAll, Act.put, List.setIfInBounds_toArray, List.set_cons_succ, List.set_cons_zero, Nat.zero_add, Nat.reduceAdd]
              go_wp2
              first | exact ⟨rfl, Below.refl _ _⟩ | exact ⟨_, rfl, rfl, Below.refl _ _, fun h => by simp at h⟩ | exact ⟨_, rfl, rfl, Below.refl _ _⟩ | exact ⟨rfl, Below.refl _ _, fun h => by simp at h⟩
            · intro u W hb hd
              have e0 : u 0 = .pointer (some ⟨w3.heap.size, 0, none⟩) := hd.1 rfl (by decide)
              have k04 := HK.out W hb
              simp only [putAll, Act.put, List.setIfInBounds_toArray, List.set_cons_succ, List.set_cons_zero, Nat.zero_add, Nat.reduceAdd]
              rw [e0]
              go_wp2
              first | exact ⟨rfl, Below.refl _ _⟩ | exact ⟨_, rfl, rfl, Below.refl _ _, fun h => by simp at h⟩ | exact ⟨_, rfl, rfl, Below.refl _ _⟩ | exact ⟨rfl, Below.refl _ _, fun h => by simp at h⟩
            · intro u W hb hd
              simp only [putAll, Act.put, List.setIfInBounds_toArray, List.set_cons_succ, List.set_cons_zero, Nat.zero_add, Nat.reduceAdd]
              go_wp2
              first | exact ⟨rfl, Below.refl _ _⟩ | exact ⟨_, rfl, rfl, Below.refl _ _, fun h => by simp at h⟩ | exact ⟨_, rfl, rfl, Below.refl _ _⟩ | exact ⟨rfl, Below.refl _ _, fun h => by simp at h⟩
            · intro u W hb hd
              simp only [putAll, Act.put, List.setIfInBounds_toArray, List.set_cons_succ, List.set_cons_zero, Nat.zero_add, Nat.reduceAdd]
              go_wp2
              first | exact ⟨rfl, Below.refl _ _⟩ | exact ⟨_, rfl, rfl, Below.refl _ _, fun h => by simp at h⟩ | exact ⟨_, rfl, rfl, Below.refl _ _⟩ | exact ⟨rfl, Below.refl _ _, fun h => by simp at h⟩
            · intro u W hb hd
              have e0 : u 2 = .slice xa N xc := hd.1 rfl (by decide)
              have e1 : u 3 = .int .i64 (P : Int) := hd.2.1 rfl (by decide)
              simp only [putAll, Act.put, List.setIfInBounds_toArray, List.set_cons_succ, List.set_cons_zero, Nat.zero_add, Nat.reduceAdd]
              rw [e0, e1]
              go_wp2
              first | exact ⟨rfl, Below.refl _ _⟩ | exact ⟨_, rfl, rfl, Below.refl _ _, fun h => by simp at h⟩ | exact ⟨_, rfl, rfl, Below.refl _ _⟩ | exact ⟨rfl, Below.refl _ _, fun h => by simp at h⟩
            · intro u W hb hd
              have e0 : u 1 = .int .u64 (gn : Int) := hd.1 rfl (by decide)
              have e1 : u 4 = .slice sa Q sc := hd.2.1 rfl (by decide)
              simp only [putAll, Act.put, List.setIfInBounds_toArray, List.set_cons_succ, List.set_cons_zero, Nat.zero_add, Nat.reduceAdd]
              rw [e0, e1]
              go_wp2
              first | exact ⟨rfl, Below.refl _ _⟩ | exact ⟨_, rfl, rfl, Below.refl _ _, fun h => by simp at h⟩ | exact ⟨_, rfl, rfl, Below.refl _ _⟩ | exact ⟨rfl, Below.refl _ _, fun h => by simp at h⟩
          · intro u W hb hT _
            have e0 : u 0 = .pointer (some ⟨w3.heap.size, 0, none⟩) := hT 0 (by decide)
            have e5 : u 5 = .agg #[.int .u64 (gn : Int), .slice sa Q sc] := hT 5 (by decide)
            have e1 : u 1 = .int .u64 (gn : Int) := hT 1 (by decide)
            have e2 : u 2 = .slice xa N xc := hT 2 (by decide)
            have e3 : u 3 = .int .i64 (P : Int) := hT 3 (by decide)
            have e4 : u 4 = .slice sa Q sc := hT 4 (by decide)
            have V4 := Lib.hid (V3.out.after hb)
            have G4 := Lib.hid (below_step G3.out hb)
            have HA4 := Lib.hid (HA5.out.below hb)
            have d04 := V4.out.c0
            have d14 := V4.out.c1
            have p04 := V4.out.q0
            have p14 := V4.out.q1
            clear hb hT hrun d03 d13 p03 p13
            simp only [List.take_succ_cons, List.take_zero, List.drop_succ_cons, List.drop_zero, putAll, Act.put, List.setIfInBounds_toArray, List.set_cons_succ, List.set_cons_zero, Nat.zero_add, Nat.reduceAdd]
            rw [e0, e1, e2, e3, e4, e5]
            clear e0 e1 e2 e3 e4 e5
            go_wp2
            (try simp only [Exit.inBlock, Exit.then])
            refine bodyPost_ret (snap_results (x := .int .u64 (gn : Int)) (y := .slice sa Q sc) rfl rfl ?_ rfl) rfl ⟨_, rfl, ?_, ?_⟩
            · exact V4.out.put _ _
            · rw [hfin.out]
              exact HFIN.out W HA4.out d04 d14
            · exact below_put2 G4.out (Nat.le_refl _) _ _
        · have hfin : Hid (snapL s k = (0, [])) := snap_zero (n := gn) (Or.inr h2) ho hg rfl
          have h2' : ((gn : Int) % 2 != (k : Int)) = true := by simp; omega
          have h2e : ¬ (gn : Int) % 2 = (k : Int) := by omega
          clear HOP hA hB V0 ho hb hl hxd hxb HGG hN hg hxl hn64 hql hqd hP hj0 d0 d1 p0 p1
          go_enter Tryz.func10, Tryz.ntmps10
          go_wp2_with (first
            | (go_at_call 30; (with_reducible refine (HO2.out).mono ?_); rintro e w2 ⟨xv, rfl, g2, hxv⟩; obtain ⟨xa, xc, hxe⟩ := (hxv _ (HA.out.below g2)).size; rw [HX.out] at hxe; subst hxe; have G2 := Lib.hid (below_step HG1.out g2); have V2 := Lib.hid (HV.out.after g2); have HXV := Lib.hid hxv; have HA2 := Lib.hid (hxv _ (HA.out.below g2)); have HGT := Lib.hid (HGET.out w2 _ (hxv _ (HA.out.below g2))); clear g2 hxv)
            | (go_at_call 31; (with_reducible refine (HGT.out).mono ?_); rintro e w3 ⟨rfl, g3⟩; have hg4 := (Below.refl w3.heap.size w3).alloc (Nat.le_refl _) (.cells #[.int .u64 (gn : Int), .int .i64 gi, .string gs, .bool gf] 68); have V3 := Lib.hid ((V2.out.after g3).after hg4); have G3 := Lib.hid (below_step (below_step G2.out g3) hg4); have HA3 := Lib.hid ((HA2.out.below g3).below hg4); have d03 := V3.out.c0; have d13 := V3.out.c1; have p03 := V3.out.q0; have p13 := V3.out.q1; clear g3 hg4))
          (try simp only [Exit.inBlock, Exit.then])
          refine bodyPost_ret (snap_results (x := .int .u64 0) (y := .slice none 0 0) rfl rfl ?_ rfl) rfl ⟨_, rfl, ?_, ?_⟩
          · exact V3.out.put _ _
          · rw [hfin.out]
            exact SnapF.nil _ _
          · exact below_put2 G3.out (Nat.le_refl _) _ _

end Go.Proofs.YtejelednnacnaaaGreatDoor
