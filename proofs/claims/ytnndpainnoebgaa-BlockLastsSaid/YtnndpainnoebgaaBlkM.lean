/-
  The statements of layer 9, walked over the contracts of package block's calls: BlockLasts, up to the crash.
-/
import Derived.Test.YtnndpainnoebgaaBlkL
import Derived.Test.YtnndpainnoebgaaBlkP
import Derived.Test.YtnndpainnoebgaaRow
import Derived.Deep.CutBlock
import Derived.Lib.QuietBelow
import Derived.Deep.DeepCutAuto
namespace Go.Proofs.Ytnndpainnoebgaa
open Go.RowKit

theorem info_str : (Try.prog.info? 9).map (fun i => (i.zero, i.size, i.bytes)) = some (some (.string ⟨#[]⟩), 1, 16) := by kernel_rfl
theorem info_int : (Try.prog.info? 3).map (fun i => (i.zero, i.size, i.bytes)) = some (some (.int .i64 0), 1, 8) := by kernel_rfl
/-- The texts behind each write. -/
def allV (S : List Int) (ws : List (Nat × List Int)) : List Value := (List.range (ws.length + 1)).map fun k => Value.string (strOfNums (seenAt S ws k))
theorem allV_len (S : List Int) (ws : List (Nat × List Int)) : (allV S ws).length = ws.length + 1 := by simp [allV]
theorem allV_at (S : List Int) (ws : List (Nat × List Int)) (k : Nat) (hk : k ≤ ws.length) : (allV S ws).getD k undef = .string (strOfNums (seenAt S ws k)) := by
  unfold allV
  rw [List.getD_eq_getElem?_getD, List.getElem?_map, List.getElem?_range (by omega)]; rfl
theorem allV_more (S : List Int) (ws : List (Nat × List Int)) (p : Nat × List Int) : allV S (ws ++ [p]) = allV S ws ++ [.string (strOfNums (seenAt S (ws ++ [p]) (ws.length + 1)))] := by
  unfold allV
  rw [List.length_append, List.length_singleton, List.range_succ (n := ws.length + 1), List.map_append]
  congr 1
  apply List.map_congr_left
  intro k hk
  rw [seenAt_more S ws p k (by have := List.mem_range.mp hk; omega)]
/-- What the law has, behind some writes. -/
def LI (w : World) (base r : Nat) (S : List Int) (wx : World) (v12 v13 : Value) (m : Nat) : Prop :=
  ∃ (O : Foot) (E : Dsk) (js : List Int) (gA cA gT cT : Nat), v12 = .slice (some ⟨gA, 0, none⟩) (E.waits.length + 1) cA ∧ v13 = .slice (some ⟨gT, 0, none⟩) E.waits.length cT ∧ OwnRow 9 wx base v12 (allV S E.waits) ∧ OwnRow 3 wx base v13 (js.map (Value.int .i64)) ∧
    js.length = E.waits.length ∧ DskIs wx base O r E ∧ NF E ∧ E.last = S ∧ E.deeds ≤ m ∧ ¬ O gA ∧ ¬ O gT ∧ gA ≠ gT ∧ Below base w wx ∧ ∀ k, k < E.waits.length → 0 ≤ js.getD k 0 ∧ js.getD k 0 < 6 ∧ (E.waits.getD k (0, [])).1 = (js.getD k 0).toNat * 32
theorem sync_nf {E : Dsk} (h : NF E) (base : Nat) (O : Foot) (r : Nat) (w : World) (hD : DskIs w base O r E) (hd : E.deeds ≤ 1000000) :
    Calls Try.prog 12 #[.pointer (some ⟨r, 0, none⟩)] w fun e w' => e = .returned (.int .i64 0) ∧ DskTo base O r E.sync.2 w w' := by
  have := bsync_any base O r E w hD hd
  rw [h.sync.1] at this
  exact this
theorem grow_no {O O' : Foot} {n g : Nat} (h : Grown O O' n) (hg : g < n) (hn : ¬ O g) : ¬ O' g := fun ho => by
  rcases h g ho with h1 | h1
  · exact hn h1
  · omega
theorem js_next {ws : List (Nat × List Int)} {js : List Int} {ai : Int} {c : List Int} (hl : js.length = ws.length) (h : ∀ k, k < ws.length → 0 ≤ js.getD k 0 ∧ js.getD k 0 < 6 ∧ (ws.getD k (0, [])).1 = (js.getD k 0).toNat * 32) (a0 : 0 ≤ ai) (a1 : ai < 6) :
    ∀ k, k < (ws ++ [(ai.toNat * 32, c)]).length → 0 ≤ (js ++ [ai]).getD k 0 ∧ (js ++ [ai]).getD k 0 < 6 ∧ ((ws ++ [(ai.toNat * 32, c)]).getD k (0, [])).1 = ((js ++ [ai]).getD k 0).toNat * 32 := by
  intro k hk
  rw [List.length_append, List.length_singleton] at hk
  by_cases hlt : k < ws.length
  · have h1 : (js ++ [ai]).getD k 0 = js.getD k 0 := by rw [List.getD_eq_getElem?_getD, List.getElem?_append_left (by omega), ← List.getD_eq_getElem?_getD]
    have h2 : (ws ++ [(ai.toNat * 32, c)]).getD k (0, []) = ws.getD k (0, []) := by rw [List.getD_eq_getElem?_getD, List.getElem?_append_left hlt, ← List.getD_eq_getElem?_getD]
    rw [h1, h2]; exact h k hlt
  · obtain rfl : k = ws.length := by omega
    have h1 : (js ++ [ai]).getD ws.length 0 = ai := by rw [List.getD_eq_getElem?_getD, List.getElem?_append_right (by omega), hl]; simp
    have h2 : (ws ++ [(ai.toNat * 32, c)]).getD ws.length (0, []) = (ai.toNat * 32, c) := by rw [List.getD_eq_getElem?_getD, List.getElem?_append_right (by omega)]; simp
    rw [h1, h2]; exact ⟨a0, a1, rfl⟩

theorem cell_first (w : World) (x : Value) (t : TypeId) : (w.alloc (.cells #[x] t)).cell? ⟨w.heap.size, 0, none⟩ = some x := by simp
/-- What stands behind All, and a new row of one. -/
structure AllP (w : World) (base r : Nat) (O : Foot) (E : Dsk) (gA cA gT cT nA nT : Nat) (vsA vsT : List Value) (w6 : World) : Prop where
  disk : DskIs w6 base O r E
  rowA : OwnRow 9 w6 base (.slice (some ⟨gA, 0, none⟩) nA cA) vsA
  rowT : OwnRow 3 w6 base (.slice (some ⟨gT, 0, none⟩) nT cT) vsT
  nA : ¬ O gA
  nT : ¬ O gT
  nAT : gA ≠ gT
  ltA : gA < w6.heap.size
  ltT : gT < w6.heap.size
  size : base ≤ w6.heap.size
  bel : Below base w w6
theorem AllP.alloc {w w6 : World} {base r gA cA gT cT nA nT : Nat} {O : Foot} {E : Dsk} {vsA vsT : List Value} (h : AllP w base r O E gA cA gT cT nA nT vsA vsT w6) (o : Obj) : AllP w base r O E gA cA gT cT nA nT vsA vsT (w6.alloc o) := by
  have g : Below w6.heap.size w6 (w6.alloc o) := (Below.refl _ _).alloc (Nat.le_refl _) o
  have hz := g.size
  obtain ⟨h1, h2, h3, h4, h5, h6, h7, h8, h9, h10⟩ := h
  exact ⟨h1.after g, h2.below g, h3.below g, h4, h5, h6, by omega, by omega, by omega, h10.trans (g.mono h9)⟩
theorem AllP.stepA {w w6 w7 : World} {base r gA cA gT cT nA nT gB nB cB z : Nat} {O : Foot} {E : Dsk} {vsA vsT vsB : List Value} (h : AllP w base r O E gA cA gT cT nA nT vsA vsT w6) (hr : OwnRow 9 w7 base (.slice (some ⟨gB, 0, none⟩) nB cB) vsB)
    (hG : OnlyO base (fun i => some i = (Value.slice (some ⟨gA, 0, none⟩) nA cA).ownBlock) w6 w7) (hg : some gB = (Value.slice (some ⟨gA, 0, none⟩) nA cA).ownBlock ∨ gB = z) (hz : z = w6.heap.size) : AllP w base r O E gB cB gT cT nB nT vsB vsT w7 := by
  obtain ⟨h1, h2, h3, h4, h5, h6, h7, h8, h9, h10⟩ := h
  have hs := hG.size
  have hg2 : gB = gA ∨ gB = w6.heap.size := by
    rcases hg with e | e
    · have : some gB = some gA := e
      exact Or.inl (by simpa using this)
    · exact Or.inr (e.trans hz)
  have hlt := hr.form
  obtain ⟨g', c', e, _, hl⟩ := hlt
  simp only [Value.slice.injEq, Option.some.injEq, Addr.mk.injEq, and_true] at e
  obtain ⟨rfl, _, _⟩ := e
  have hne : ∀ i, some i = (Value.slice (some ⟨gA, 0, none⟩) nA cA).ownBlock → i = gA := fun i e => by
    have : some i = some gA := e
    simpa using this
  refine ⟨h1.kept (fun i hi => hG.keep i (h1.own i hi).2 (fun e => h4 (hne i e ▸ hi))) hs, hr, h3.only hG (fun e => h6 (hne gT e).symm), ?_, h5, ?_, hl, by omega, by omega, h10.trans hG.bel⟩
  · rcases hg2 with e | e
    · rw [e]; exact h4
    · intro ho; have := (h1.own _ ho).2; omega
  · rcases hg2 with e | e
    · rw [e]; exact h6
    · omega
theorem AllP.stepT {w w6 w7 : World} {base r gA cA gT cT nA nT gB nB cB z : Nat} {O : Foot} {E : Dsk} {vsA vsT vsB : List Value} (h : AllP w base r O E gA cA gT cT nA nT vsA vsT w6) (hr : OwnRow 3 w7 base (.slice (some ⟨gB, 0, none⟩) nB cB) vsB)
    (hG : OnlyO base (fun i => some i = (Value.slice (some ⟨gT, 0, none⟩) nT cT).ownBlock) w6 w7) (hg : some gB = (Value.slice (some ⟨gT, 0, none⟩) nT cT).ownBlock ∨ gB = z) (hz : z = w6.heap.size) : AllP w base r O E gA cA gB cB nA nB vsA vsB w7 := by
  obtain ⟨h1, h2, h3, h4, h5, h6, h7, h8, h9, h10⟩ := h
  have hs := hG.size
  have hg2 : gB = gT ∨ gB = w6.heap.size := by
    rcases hg with e | e
    · have : some gB = some gT := e
      exact Or.inl (by simpa using this)
    · exact Or.inr (e.trans hz)
  have hlt := hr.form
  obtain ⟨g', c', e, _, hl⟩ := hlt
  simp only [Value.slice.injEq, Option.some.injEq, Addr.mk.injEq, and_true] at e
  obtain ⟨rfl, _, _⟩ := e
  have hne : ∀ i, some i = (Value.slice (some ⟨gT, 0, none⟩) nT cT).ownBlock → i = gT := fun i e => by
    have : some i = some gT := e
    simpa using this
  refine ⟨h1.kept (fun i hi => hG.keep i (h1.own i hi).2 (fun e => h5 (hne i e ▸ hi))) hs, h2.only hG (fun e => h6 (hne gA e)), hr, h4, ?_, ?_, by omega, hl, by omega, h10.trans hG.bel⟩
  · rcases hg2 with e | e
    · rw [e]; exact h5
    · intro ho; have := (h1.own _ ho).2; omega
  · rcases hg2 with e | e
    · rw [e]; exact h6
    · omega
theorem all_step {w wr wd wy w5 : World} {base r gA cA gT cT nA nT : Nat} {O : Foot} {E : Dsk} {vsA vsT : List Value} (hD : DskIs wy base O r E) (hA : OwnRow 9 wy base (.slice (some ⟨gA, 0, none⟩) nA cA) vsA) (hT : OwnRow 3 wy base (.slice (some ⟨gT, 0, none⟩) nT cT) vsT)
    (h1 : ¬ O gA) (h2 : ¬ O gT) (h3 : gA ≠ gT) (hB : Below base w wy) (hs : wd.heap.size ≤ wy.heap.size) (hsd : wd.heap.size = wr.heap.size) (ltA : gA < wr.heap.size) (ltT : gT < wr.heap.size) (hb : base ≤ wr.heap.size) (g : Below wy.heap.size wy w5) (x : Value) :
    AllP w base r O E gA cA gT cT nA nT vsA vsT (w5.alloc (.cells #[x] 9)) := by
  have g2 : Below wy.heap.size wy (w5.alloc (.cells #[x] 9)) := below_more g _
  have hz := g2.size
  exact ⟨hD.after g2, hA.below g2, hT.below g2, h1, h2, h3, by omega, by omega, by omega, hB.trans (g2.mono (by omega))⟩
/-- At first. -/
theorem LI.start {w w4 : World} {base r m : Nat} {O : Foot} {F : Dsk} (hD : DskIs w4 base O r F) (hF : NF F) (hw : F.waits = []) (hd : F.deeds ≤ m) (hb : Below base w w4) (hbs : base ≤ w4.heap.size) :
    LI w base r F.last ((w4.alloc (.cells #[.string (strOfNums F.last)] 9)).alloc (.cells #[] 3)) (.slice (some ⟨w4.heap.size, 0, none⟩) 1 1) (.slice (some ⟨w4.heap.size + 1, 0, none⟩) 0 0) m := by
  have e1 : (w4.alloc (.cells #[.string (strOfNums F.last)] 9)).heap.size = w4.heap.size + 1 := by simp
  have r1 := OwnRow.made 9 w4 base w4.heap.size (.string (strOfNums F.last)) rfl rfl hbs
  have b1 := hb.alloc hbs (.cells #[.string (strOfNums F.last)] 9)
  have d1 := hD.after ((Below.refl w4.heap.size w4).alloc (Nat.le_refl _) (.cells #[.string (strOfNums F.last)] 9))
  generalize w4.alloc (.cells #[.string (strOfNums F.last)] 9) = w5 at e1 r1 b1 d1 ⊢
  have r2 := OwnRow.fresh 3 w5 base (w4.heap.size + 1) e1.symm (by omega)
  have bb : Below w5.heap.size w5 (w5.alloc (.cells #[] 3)) := (Below.refl _ _).alloc (Nat.le_refl _) _
  have hseen : seenAt F.last F.waits 0 = F.last := by unfold seenAt; rw [List.take_zero]; rfl
  have hall : allV F.last F.waits = [.string (strOfNums F.last)] := by unfold allV; rw [hw]; simp [seenAt]
  refine ⟨O, F, [], w4.heap.size, 1, w4.heap.size + 1, 0, by rw [hw]; rfl, by rw [hw]; rfl, by rw [hall]; exact r1.below bb, r2, by rw [hw]; rfl, d1.after bb, hF, rfl, hd, fun h => ?_, fun h => ?_, by omega, b1.trans (bb.mono (by omega)), fun k hk => by rw [hw] at hk; cases hk⟩
  · have := (hD.own _ h).2; omega
  · have := (hD.own _ h).2; omega

theorem li_more {w wx : World} {base r m n : Nat} {S : List Int} {v u : Value} (h : LI w base r S wx v u m) (hm : m ≤ n) : LI w base r S wx v u n := by
  obtain ⟨O, E, js, gA, cA, gT, cT, h1, h2, h3, h4, h5, h6, h7, h8, h9, h10⟩ := h
  exact ⟨O, E, js, gA, cA, gT, cT, h1, h2, h3, h4, h5, h6, h7, h8, Nat.le_trans h9 hm, h10⟩
set_option maxRecDepth 100000 in
set_option maxHeartbeats 4000000 in
theorem blklasts_walk (va vb : Value) (la lb : List ActV) (keep torn : Int) (w : World) (ha : ActsIs w va la) (hb : ActsIs w vb lb) (hla : ∀ x ∈ la, x.Ok) (hlb : ∀ x ∈ lb, x.Ok) (hk : -9223372036854775808 ≤ keep ∧ keep ≤ 9223372036854775807) (ht : -9223372036854775808 ≤ torn ∧ torn ≤ 9223372036854775807) :
    Calls Try.prog 4 #[va, vb, .int .i64 keep, .int .i64 torn] w fun e w' => e = .returned (.bool true) ∧ Below w.heap.size w w' := by
  obtain ⟨k0, k1⟩ := hk
  obtain ⟨t0, t1⟩ := ht
  have HVA := Lib.hid ha
  have HVB := Lib.hid hb
  have HLA := Lib.hid hla
  have HLB := Lib.hid hlb
  obtain ⟨xa, ca, rfl⟩ := ha.size
  obtain ⟨xb, cb, rfl⟩ := hb.size
  have HN : Hid (∀ w, Calls Try.prog 8 #[.int .i64 6, .int .i64 32] w fun e w' => ∃ r O, e = .returned (.tuple #[.pointer (some ⟨r, 0, none⟩), .int .i64 0]) ∧ DskIs w' w.heap.size O r (Dsk.new 6 32) ∧ Below w.heap.size w w') := fun w => bnew_6 6 32 w (by decide) (by decide) (by decide) (by decide)
  clear ha hb hla hlb
  go_enter Try.func4, Try.ntmps4
  go_upto_block 0 with (first
    | (go_at_call 7; (with_reducible refine (blk_awake _).mono ?_); rintro e w1 ⟨rfl, g⟩; have HB1 := Lib.hid g; clear g)
    | (go_at_call 8; (with_reducible refine (HN.out _).mono ?_); rintro e w2 ⟨r, O2, rfl, d, g⟩; have HD2 := Lib.hid (d.base HB1.out.size); have HB2 := Lib.hid (below_step HB1.out g); clear d g))
  go_cut [11] from 24 to 45 (fun _ wx => ∃ (O : Foot) (E : Dsk), DskIs wx w.heap.size O r E ∧ NF E ∧ E.deeds ≤ 100 ∧ Below w.heap.size w wx)
  case first =>
    go_wp2_with fail
    go_loopw [11] (fun v11 wr => ∃ (i : Nat) (O : Foot) (E : Dsk), v11 = .int .i64 (i : Int) ∧ i ≤ la.length ∧ i ≤ 100 ∧ DskIs wr w.heap.size O r E ∧ NF E ∧ E.deeds ≤ i ∧ Below w.heap.size w wr) (fun v11 _ => 200 - (intOf v11).toNat)
    case atStart => exact ⟨0, O2, _, rfl, Nat.zero_le _, Nat.zero_le _, HD2.out, NF.new, Nat.le_refl _, HB2.out⟩
    case round =>
      obtain ⟨i, O, E, rfl, hil, hi100, hD, hF, hde, hB⟩ := hrel
      have HD := Lib.hid hD
      have HF := Lib.hid hF
      have HB := Lib.hid hB
      clear hD hF hB
      by_cases hlt : i < la.length ∧ i < 100
      case pos =>
        obtain ⟨h1, h2⟩ := hlt
        have h1i : (i : Int) < (la.length : Int) := by omega
        have h2i : (i : Int) < 100 := by omega
        have hx := HLA.out (la.getD i {}) (by rw [List.getD_eq_getElem?_getD, List.getElem?_eq_getElem h1]; exact List.getElem_mem _)
        have hcell : ∃ b off bv, xa = some ⟨b, off, none⟩ ∧ b < w.heap.size ∧ w.cell? ⟨b, off + i * 4 + 1, none⟩ = some (.int .i64 (la.getD i {}).i) ∧ w.cell? ⟨b, off + i * 4 + 3, none⟩ = some bv ∧ ArgB w bv (la.getD i {}).b := by
          obtain ⟨b, off, cap, he, hb, hc⟩ := HVA.out.at (by omega)
          simp only [Value.slice.injEq] at he
          obtain ⟨rfl, _, _⟩ := he
          obtain ⟨bv, _, c1, _, c3, ha⟩ := hc i h1
          exact ⟨b, off, bv, rfl, hb, c1, c3, ha⟩
        obtain ⟨vb, off, bv, rfl, hvb, c1, c3, hab⟩ := hcell
        obtain ⟨⟨kind, ai, ak, ab⟩, hX⟩ : ∃ X, la.getD i {} = X := ⟨_, rfl⟩
        rw [hX] at hx c1 hab
        obtain ⟨_, ⟨i0, i1⟩, _, b0, b1⟩ := hx
        simp only [] at c1 hab i0 i1 b0 b1
        have HAB := Lib.hid hab
        have HB0 := Lib.hid b0
        have HC1 := Lib.hid c1
        have HC3 := Lib.hid c3
        clear hab b0 hX c1 c3
        have d1 : wr.cell? ⟨vb, off + i * 4 + 1, none⟩ = some (.int .i64 ai) := (HB.out.cell (p := ⟨vb, off + i * 4 + 1, none⟩) hvb).trans HC1.out
        have d3 : wr.cell? ⟨vb, off + i * 4 + 3, none⟩ = some bv := (HB.out.cell (p := ⟨vb, off + i * 4 + 3, none⟩) hvb).trans HC3.out
        go_wp2
        go_still_tail 11, (by kernel_rfl)
        change wpList _ _ _ _ _ wr.drew
        have HDd := Lib.hid (HD.out.after (Below.refl _ _).drew)
        have HBd := Lib.hid (HB.out.drew)
        have HAd := Lib.hid (HAB.out.below HBd.out)
        clear d1 d3 HD HB
        generalize wr.drew = wd at HDd HBd HAd ⊢
        go_wp2_with (go_at_call 10; (with_reducible refine (bwrite_any _ _ _ E ai _ ab _ HDd.out (by omega) i0 i1 HAd.out HB0.out b1).mono ?_); rintro e wy ⟨rfl, Oy, d, g, k⟩; have HDy := Lib.hid d; have HBy := Lib.hid (HBd.out.trans g.bel); clear d g k)
        go_roundw
        case rel =>
          obtain ⟨n1, _, n3, _⟩ := HF.out.write ai HB0.out
          exact ⟨i + 1, Oy, _, by go_num, by omega, by omega, HDy.out, n1, by omega, HBy.out⟩
        case measure => simp [intOf]; omega
      case neg =>
        by_cases h1 : i < la.length
        · have h1i : (i : Int) < (la.length : Int) := by omega
          have h2i : ¬ (i : Int) < 100 := by omega
          go_wp2
          go_meet
          exact ⟨O, E, HD.out, HF.out, by omega, HB.out⟩
        · have h1i : ¬ (i : Int) < (la.length : Int) := by omega
          go_wp2
          go_meet
          exact ⟨O, E, HD.out, HF.out, by omega, HB.out⟩
  case rest =>
    obtain ⟨O, E, hD, hF, hde, hB⟩ := hcut
    have HD := Lib.hid hD
    have HF := Lib.hid hF
    have HB := Lib.hid hB
    have hde6 : E.deeds ≤ 1000000 := by omega
    clear hD hF hB
    obtain ⟨F, hFd⟩ : ∃ F, E.sync.2 = F := ⟨_, rfl⟩
    obtain ⟨_, sF, sl, sw, sd⟩ := HF.out.sync
    rw [hFd] at sF sl sw sd
    have HFF := Lib.hid sF
    have hdF : F.deeds ≤ 101 := by omega
    have HSW := Lib.hid sw
    have hseen : Hid (F.seen = F.last) := by unfold Hid Dsk.seen; rw [sw]; rfl
    have HFD := Lib.hid hFd
    clear sF sl sw sd hFd
    go_upto_block 2 with (first
      | (go_at_call 12; (with_reducible refine (sync_nf HF.out _ _ _ _ HD.out hde6).mono ?_); rintro e w3 ⟨rfl, O3, d, g, k⟩; rw [HFD.out] at d; have HD3 := Lib.hid d; have HB3 := Lib.hid (HB.out.trans g.bel); clear d g k HD)
      | (go_at_call 23; (with_reducible refine (blkall_any _ _ _ F _ HD3.out HFF.out.dark (by omega)).mono ?_); rintro e w4 ⟨rfl, g⟩; have HD4 := Lib.hid (HD3.out.after g); have HB4 := Lib.hid (below_step HB3.out g); clear g HD3; rw [hseen.out]))
    have hbs : w.heap.size ≤ w4.heap.size := HB4.out.size
    have HLI0 := Lib.hid (LI.start (m := 101) HD4.out HFF.out HSW.out hdF HB4.out hbs)
    have hS : Hid (F.last.length = 192 ∧ ∀ z ∈ F.last, 0 ≤ z ∧ z ≤ 255) := by
      have h1 := HD4.out.ok.ll
      rw [HFF.out.n, HFF.out.size] at h1
      exact ⟨h1, HD4.out.ok.lb⟩
    clear HD4 HSW HFD hseen hdF HFF
    obtain ⟨S, hSd⟩ : ∃ S, F.last = S := ⟨_, rfl⟩
    rw [hSd] at HLI0 hS ⊢
    clear hSd
    go_cut [12, 13, 14] from 53 to 88 (fun v12 v13 _ wx => LI w w.heap.size r S wx v12 v13 300)
    case first =>
      go_wp2_with fail
      go_loopw [12, 13, 14] (fun v12 v13 v14 wr => ∃ i : Nat, v14 = .int .i64 (i : Int) ∧ i ≤ lb.length ∧ i ≤ 100 ∧ LI w w.heap.size r S wr v12 v13 (101 + i)) (fun _ _ v14 _ => 200 - (intOf v14).toNat)
      case atStart => exact ⟨0, rfl, Nat.zero_le _, Nat.zero_le _, HLI0.out⟩
      case round =>
        obtain ⟨i, rfl, hil, hi100, hLI⟩ := hrel
        by_cases hlt : i < lb.length ∧ i < 100
        case pos =>
          obtain ⟨O, E, js, gA, cA, gT, cT, rfl, rfl, hrA, hrT, hjl, hD, hF, hSl, hde, nA, nT, nAT, hB, hjs⟩ := hLI
          have HD := Lib.hid hD
          have HF := Lib.hid hF
          have HB := Lib.hid hB
          have HRA := Lib.hid hrA
          have HRT := Lib.hid hrT
          have HJS := Lib.hid hjs
          have HSl := Lib.hid hSl
          have HNA := Lib.hid nA
          have HNT := Lib.hid nT
          have HNAT := Lib.hid nAT
          have HJL := Lib.hid hjl
          obtain ⟨N, hN⟩ : ∃ N, E.waits.length = N := ⟨_, rfl⟩
          have hNb : N ≤ 1000 := by have := hD.ok.wd; omega
          have HNw := Lib.hid hN
          have hE6 : E.deeds ≤ 1000000 := by omega
          have hltA : gA < wr.heap.size := by
            obtain ⟨g, c, e, _, h⟩ := hrA.form
            simp only [Value.slice.injEq, Option.some.injEq, Addr.mk.injEq, and_true] at e
            obtain ⟨rfl, _, _⟩ := e
            exact h
          have hltT : gT < wr.heap.size := by
            obtain ⟨g, c, e, _, h⟩ := hrT.form
            simp only [Value.slice.injEq, Option.some.injEq, Addr.mk.injEq, and_true] at e
            obtain ⟨rfl, _, _⟩ := e
            exact h
          have hwr : w.heap.size ≤ wr.heap.size := hB.size
          have HltA := Lib.hid hltA
          have HltT := Lib.hid hltT
          have Hwr := Lib.hid hwr
          rw [hN] at HRA HRT ⊢
          clear hD hF hB hrA hrT hjs hSl nA nT nAT hjl hltA hltT hwr hN
          obtain ⟨h1, h2⟩ := hlt
          have h1i : (i : Int) < (lb.length : Int) := by omega
          have h2i : (i : Int) < 100 := by omega
          have hx := HLB.out (lb.getD i {}) (by rw [List.getD_eq_getElem?_getD, List.getElem?_eq_getElem h1]; exact List.getElem_mem _)
          have hcell : ∃ b off bv, xb = some ⟨b, off, none⟩ ∧ b < w.heap.size ∧ w.cell? ⟨b, off + i * 4 + 1, none⟩ = some (.int .i64 (lb.getD i {}).i) ∧ w.cell? ⟨b, off + i * 4 + 3, none⟩ = some bv ∧ ArgB w bv (lb.getD i {}).b := by
            obtain ⟨b, off, cap, he, hb, hc⟩ := HVB.out.at (by omega)
            simp only [Value.slice.injEq] at he
            obtain ⟨rfl, _, _⟩ := he
            obtain ⟨bv, _, c1, _, c3, ha⟩ := hc i h1
            exact ⟨b, off, bv, rfl, hb, c1, c3, ha⟩
          obtain ⟨vb, off, bv, rfl, hvb, c1, c3, hab⟩ := hcell
          obtain ⟨⟨kind, ai, ak, ab⟩, hX⟩ : ∃ X, lb.getD i {} = X := ⟨_, rfl⟩
          rw [hX] at hx c1 hab
          obtain ⟨_, ⟨i0, i1⟩, _, b0, b1⟩ := hx
          simp only [] at c1 hab i0 i1 b0 b1
          have HAB := Lib.hid hab
          have HB0 := Lib.hid b0
          have HC1 := Lib.hid c1
          have HC3 := Lib.hid c3
          clear hab b0 hX c1 c3
          have d1 : wr.cell? ⟨vb, off + i * 4 + 1, none⟩ = some (.int .i64 ai) := (HB.out.cell (p := ⟨vb, off + i * 4 + 1, none⟩) hvb).trans HC1.out
          have d3 : wr.cell? ⟨vb, off + i * 4 + 3, none⟩ = some bv := (HB.out.cell (p := ⟨vb, off + i * 4 + 3, none⟩) hvb).trans HC3.out
          go_wp2
          go_still_tail 11, (by kernel_rfl)
          change wpList _ _ _ _ _ wr.drew
          have HDd := Lib.hid (HD.out.after (Below.refl _ _).drew)
          have HBd := Lib.hid (HB.out.drew)
          have HAd := Lib.hid (HAB.out.below HBd.out)
          have HRAd := Lib.hid (HRA.out.below (Below.refl _ _).drew)
          have HRTd := Lib.hid (HRT.out.below (Below.refl _ _).drew)
          have Hsd : Hid (wr.drew.heap.size = wr.heap.size) := rfl
          clear d1 d3 HD HB HRA HRT
          generalize wr.drew = wd at HDd HBd HAd HRAd HRTd Hsd ⊢
          obtain ⟨n1, n2, n3, n4⟩ := HF.out.write ai HB0.out
          have HN1 := Lib.hid n1
          have HN2 := Lib.hid n2
          have HW := Lib.hid (fun w' O' h hv => bwrite_any w.heap.size O' r E ai bv ab w' h hE6 i0 i1 hv HB0.out b1)
          rcases n4 with ⟨e1, e2⟩ | ⟨e1, a0, a1, c, hc, hcb, hws⟩
          · rw [e1, e2] at HW
            clear e1 e2 n1 n2
            go_wp2_with (go_at_call 10; (with_reducible refine (HW.out _ _ HDd.out HAd.out).mono ?_); rintro e wy ⟨rfl, Oy, d, g, k⟩; have HDy := Lib.hid d; have HG := Lib.hid g; have HK := Lib.hid k; clear d g k)
            go_roundw
            case rel =>
              refine ⟨i + 1, by go_num, by omega, by omega, Oy, E, js, gA, cA, gT, cT, by rw [HNw.out], by rw [HNw.out], HRAd.out.only HG.out HNA.out, HRTd.out.only HG.out HNT.out, HJL.out, HDy.out, HF.out, HSl.out, by omega, grow_no HK.out (by rw [Hsd.out]; exact HltA.out) HNA.out, grow_no HK.out (by rw [Hsd.out]; exact HltT.out) HNT.out, HNAT.out, HBd.out.trans HG.out.bel, HJS.out⟩
            case measure => simp [intOf]; omega
          · rw [e1] at HW
            have HWS := Lib.hid hws
            clear e1 n1 n2
            obtain ⟨E1, hE1⟩ : ∃ E1, (E.write ai ab).2 = E1 := ⟨_, rfl⟩
            rw [hE1] at HW HN1 HN2 HWS n3
            clear hE1
            have hseen : Hid (E1.seen = seenAt S (E.waits ++ [(ai.toNat * 32, c)]) (N + 1)) := by
              have h2 := seenAt_all S (E.waits ++ [(ai.toNat * 32, c)])
              rw [List.length_append, List.length_singleton, HNw.out] at h2
              unfold Hid Dsk.seen
              rw [h2, HWS.out, HN2.out, HSl.out]
            have hE7 : E1.deeds ≤ 1000000 := by omega
            go_wp2_with (first
              | (go_at_call 10; (with_reducible refine (HW.out _ _ HDd.out HAd.out).mono ?_); rintro e wy ⟨rfl, Oy, d, g, k⟩; have HDy := Lib.hid d; have HBy := Lib.hid (HBd.out.trans g.bel); have HRAy := Lib.hid (HRAd.out.only g HNA.out); have HRTy := Lib.hid (HRTd.out.only g HNT.out); have HNAy := Lib.hid (grow_no k (by rw [Hsd.out]; exact HltA.out) HNA.out); have HNTy := Lib.hid (grow_no k (by rw [Hsd.out]; exact HltT.out) HNT.out); have Hsy := Lib.hid g.size; clear d g k HDd HBd HAd HRAd HRTd)
              | (go_at_call 23; (with_reducible refine (blkall_any _ _ _ E1 _ HDy.out HN1.out.dark hE7).mono ?_); rintro e w5 ⟨rfl, g⟩; rw [hseen.out]; have HP := Lib.hid (all_step HDy.out HRAy.out HRTy.out HNAy.out HNTy.out HNAT.out HBy.out Hsy.out Hsd.out HltA.out HltT.out Hwr.out g (.string (strOfNums (seenAt S (E.waits ++ [(ai.toNat * 32, c)]) (N + 1))))); have HCell := Lib.hid (cell_first w5 (.string (strOfNums (seenAt S (E.waits ++ [(ai.toNat * 32, c)]) (N + 1)))) 9); have hs5 := HP.out.size; clear g HDy HBy HRAy HRTy Hsy)
              | (at_builtin; refine wp_row (T := 46) (t := 9) rfl _ _ rfl Try.underlying46 info_str rfl (by decide) w.heap.size _ (allV S E.waits) rfl HP.out.rowA w5.heap.size (.string (strOfNums (seenAt S (E.waits ++ [(ai.toNat * 32, c)]) (N + 1)))) rfl HCell.out rfl (by rw [allV_len, HNw.out]; omega) hs5 ?_))
            intro gB cB w7 hrB hG hgB
            have HP7 := Lib.hid (HP.out.stepA hrB hG hgB (by simp))
            have d7 : w7.cell? ⟨vb, off + i * 4 + 1, none⟩ = some (.int .i64 ai) := (HP7.out.bel.cell (p := ⟨vb, off + i * 4 + 1, none⟩) hvb).trans HC1.out
            have HP8 := Lib.hid (HP7.out.alloc (.cells #[.int .i64 ai] 3))
            have HCell8 := Lib.hid (cell_first w7 (.int .i64 ai) 3)
            have hs8 := HP8.out.size
            have hlA : (allV S E.waits).length = N + 1 := by rw [allV_len, HNw.out]
            clear hrB hG hgB HP HCell hs5
            go_wp2_with (at_builtin; refine wp_row (T := 47) (t := 3) rfl _ _ rfl Try.underlying47 info_int rfl (by decide) w.heap.size _ (js.map (Value.int .i64)) rfl HP8.out.rowT w7.heap.size (.int .i64 ai) rfl HCell8.out rfl (by rw [List.length_map, HJL.out, HNw.out]; omega) hs8 ?_)
            intro gU cU w9 hrU hG9 hgU
            have HP9 := Lib.hid (HP8.out.stepT hrU hG9 hgU (by simp))
            have hjl2 : (js.map (Value.int .i64)).length = N := by rw [List.length_map, HJL.out, HNw.out]
            clear hrU hG9 hgU HP8 HP7 HCell8 hs8 d7
            go_wp2
            go_roundw
            case rel =>
              have hwl : E1.waits.length = N + 1 := by rw [HWS.out, List.length_append, List.length_singleton, HNw.out]
              refine ⟨i + 1, by go_num, by omega, by omega, Oy, E1, js ++ [ai], gB, cB, gU, cU, by rw [hwl], by rw [hwl, HJL.out, HNw.out], ?_, ?_, by rw [List.length_append, List.length_singleton, hwl, HJL.out, HNw.out], HP9.out.disk, HN1.out, by rw [HN2.out]; exact HSl.out, by omega, HP9.out.nA, HP9.out.nT, HP9.out.nAT, HP9.out.bel, ?_⟩
              · have h9 := HP9.out.rowA
                rw [hlA] at h9
                rw [HWS.out, allV_more, HNw.out]; exact h9
              · have h9 := HP9.out.rowT
                rw [List.map_append]; exact h9
              · rw [HWS.out]; exact js_next HJL.out HJS.out a0 a1
            case measure => simp [intOf]; omega
        case neg =>
          by_cases h1 : i < lb.length
          · have h1i : (i : Int) < (lb.length : Int) := by omega
            have h2i : ¬ (i : Int) < 100 := by omega
            go_wp2
            go_meet
            exact li_more hLI (by omega)
          · have h1i : ¬ (i : Int) < (lb.length : Int) := by omega
            go_wp2
            go_meet
            exact li_more hLI (by omega)
    case rest =>
      obtain ⟨O, E, js, gA, cA, gT, cT, rfl, rfl, hrA, hrT, hjl, hD, hF, hSl, hde, nA, nT, nAT, hB, hjs⟩ := hcut
      obtain ⟨N, hN⟩ : ∃ N, E.waits.length = N := ⟨_, rfl⟩
      obtain ⟨ws, hws⟩ : ∃ ws, E.waits = ws := ⟨_, rfl⟩
      have hNb : N ≤ 1000 := by have := hD.ok.wd; omega
      obtain ⟨K, hK⟩ : ∃ K, keep.toNat = K := ⟨_, rfl⟩
      have HK := Lib.hid hK
      have hE6 : E.deeds ≤ 1000000 := by omega
      have HCR := Lib.hid (fun w' O' h => bcrash_any w.heap.size O' r E keep torn w' h hE6 k0 k1 t0 t1)
      have hwl : ws.length = N := by rw [← hws]; exact hN
      have HW1 : Hid (∀ p ∈ ws, (∃ i, i < 6 ∧ p.1 = i * 32) ∧ p.2.length = 32 ∧ ∀ z ∈ p.2, 0 ≤ z ∧ z ≤ 255) := fun p hp => by
        have := hD.ok.w p (by rw [hws]; exact hp)
        rw [hF.n, hF.size] at this
        exact this
      have HSEEN : Hid ((E.crash keep torn).seen = E.left keep torn ∧ (E.crash keep torn).dark = false ∧ (E.crash keep torn).deeds ≤ 1000000 ∧ (E.crash keep torn).waits = []) := ⟨rfl, rfl, hE6, rfl⟩
      have HLEFT : Hid (E.left keep torn = match ws[K]? with | none => ws.foldl layL S | some p => layL (seenAt S ws K) (p.1, p.2.take torn.toNat)) := by
        unfold Hid Dsk.left
        rw [hK, hws, hSl]
        cases ws[K]? <;> rfl
      rw [hN] at hrA hrT hjl hjs ⊢
      rw [hws] at hrA hjs
      have HD := Lib.hid hD
      have HB := Lib.hid hB
      have HRA := Lib.hid hrA
      have HRT := Lib.hid hrT
      have HJS := Lib.hid hjs
      have HNA := Lib.hid nA
      have HNT := Lib.hid nT
      have HWL := Lib.hid hwl
      have HJL := Lib.hid hjl
      obtain ⟨E2, hE2⟩ : ∃ E2, E.crash keep torn = E2 := ⟨_, rfl⟩
      rw [hE2] at HCR HSEEN
      clear hD hF hSl hB hrA hrT hjs nA nT nAT hws hN hK hwl hjl hE2 hde
      go_upto_if 95 with (go_at_call 15; (with_reducible refine (HCR.out _ _ HD.out).mono ?_); rintro e wz ⟨rfl, Oz, d, g, k⟩; have HDz := Lib.hid d; have HBz := Lib.hid (HB.out.trans g.bel); have HRAz := Lib.hid (HRA.out.only g HNA.out); have HRTz := Lib.hid (HRT.out.only g HNT.out); clear d g k HD HB HRA HRT)
      go_cut [15] from 95 to 95 (fun v15 wx => v15 = .int .i64 (K : Int) ∧ wx = wz)
      case first =>
        by_cases hneg : keep < 0
        · go_wp2
          go_meet
          exact ⟨by rw [← HK.out, show keep.toNat = 0 by omega]; rfl, rfl⟩
        · have hkk : Hid (keep = (K : Int)) := by have := HK.out; unfold Hid; omega
          go_wp2
          go_meet
          exact ⟨by rw [hkk.out], rfl⟩
      case rest =>
        obtain ⟨rfl, hwz⟩ := hcut
        subst hwz
        by_cases hNK : N ≤ K
        · have hNKi : (N : Int) ≤ (K : Int) := by omega
          have hAll : Hid (∀ w', DskIs w' w.heap.size Oz r E2 → Calls Try.prog 23 #[.pointer (some ⟨r, 0, none⟩)] w' fun e w2 => e = .returned (.string (strOfNums (seenAt S ws N))) ∧ Below w'.heap.size w' w2) := fun w' h => by
            have h1 := blkall_any _ _ _ E2 w' h HSEEN.out.2.1 HSEEN.out.2.2.1
            rw [HSEEN.out.1, HLEFT.out, List.getElem?_eq_none (by rw [HWL.out]; exact hNK)] at h1
            rw [← HWL.out, seenAt_all]; exact h1
          have c0 : wc.cell? ⟨gA, N, none⟩ = some (.string (strOfNums (seenAt S ws N))) := by
            have := HRAz.out.at N (by rw [allV_len, HWL.out]; omega)
            rw [allV_at _ _ _ (by rw [HWL.out]; exact Nat.le_refl _)] at this
            exact this
          obtain ⟨X, hX⟩ : ∃ X, strOfNums (seenAt S ws N) = X := ⟨_, rfl⟩
          rw [hX] at c0 hAll
          have f0 := cell_regrown c0
          clear hX
          obtain ⟨M, hM⟩ : ∃ M, N + 1 = M := ⟨_, rfl⟩
          rw [hM]
          have hNM : (N : Int) < (M : Int) := by omega
          clear hM
          go_wp2
          refine wp_region_quiet_below (by kernel_rfl) (by kernel_rfl) ?_
          repeat (quiet_step (first
            | (go_at_call 23; exact Calls.regrown_of (hAll.out _ (HDz.out.after (below_regrown _ _ _))))))
          refine wpQuiet_nil ?_
          intro _ hw'
          obtain ⟨⟨dq, osq⟩, hw''⟩ := hw'
          subst hw''
          have hfin := Lib.hid (below_step HBz.out (below_regrown wc dq osq))
          clear c0 f0
          generalize Go.Sort.grow (redrawn wc dq) osq = W3 at hfin ⊢
          go_wp2
          go_ret
          exact ⟨rfl, hfin.out⟩
        · have hKN : K < N := by omega
          have hKNi : ¬ (N : Int) ≤ (K : Int) := by omega
          obtain ⟨j0, j1, j2⟩ := HJS.out K hKN
          obtain ⟨J, hJ⟩ : ∃ J : Nat, js.getD K 0 = (J : Int) := ⟨(js.getD K 0).toNat, by omega⟩
          rw [hJ, Int.toNat_natCast] at j2
          have hJ6 : J < 6 := by omega
          have hget : ws[K]? = some (ws.getD K (0, [])) := by rw [List.getD_eq_getElem?_getD, List.getElem?_eq_getElem (by rw [HWL.out]; exact hKN)]; rfl
          obtain ⟨⟨p, c⟩, hpc⟩ : ∃ pc, ws.getD K (0, []) = pc := ⟨_, rfl⟩
          rw [hpc] at hget j2
          obtain ⟨_, hc32, hcb⟩ := HW1.out (p, c) (List.mem_of_getElem? hget)
          simp only [] at j2 hc32 hcb
          obtain ⟨a, haa⟩ : ∃ a, seenAt S ws K = a := ⟨_, rfl⟩
          obtain ⟨b, hbb⟩ : ∃ b, seenAt S ws (K + 1) = b := ⟨_, rfl⟩
          have hwA : ∀ q ∈ ws, (∃ i, i < 6 ∧ q.1 = i * 32) ∧ q.2.length = 32 := fun q hq => ⟨(HW1.out q hq).1, (HW1.out q hq).2.1⟩
          have hwB : ∀ q ∈ ws, ∀ z ∈ q.2, 0 ≤ z ∧ z ≤ 255 := fun q hq => (HW1.out q hq).2.2
          have hal : a.length = 192 := by rw [← haa]; exact seenAt_len hS.out.1 hwA K
          have hbl : b.length = 192 := by rw [← hbb]; exact seenAt_len hS.out.1 hwA (K + 1)
          have hab : ∀ z ∈ a, 0 ≤ z ∧ z ≤ 255 := by rw [← haa]; exact seenAt_byte hS.out.2 hwB K
          have hbbt : ∀ z ∈ b, 0 ≤ z ∧ z ≤ 255 := by rw [← hbb]; exact seenAt_byte hS.out.2 hwB (K + 1)
          have hbn : b = layL a (p, c) := by rw [← hbb, ← haa, seenAt_next S ws K (by rw [HWL.out]; exact hKN), hpc]
          obtain ⟨T1, hT1⟩ : ∃ T1, torn.toNat = T1 := ⟨_, rfl⟩
          obtain ⟨T, hT⟩ : ∃ T, min T1 32 = T := ⟨_, rfl⟩
          have hT32 : T ≤ 32 := by omega
          have htt : c.take T1 = c.take T := by
            by_cases h : T1 ≤ 32
            · rw [show T = T1 by omega]
            · rw [List.take_of_length_le (by omega), List.take_of_length_le (by omega)]
          have hlp := left_part (t := T) hal hc32 (by omega : p + 32 ≤ 192) hT32 T1 htt
          rw [← hbn] at hlp
          obtain ⟨A1, hA1⟩ : ∃ A1, strOfNums (a.take p) = A1 := ⟨_, rfl⟩
          obtain ⟨A2, hA2⟩ : ∃ A2, strOfNums ((b.drop p).take T) = A2 := ⟨_, rfl⟩
          obtain ⟨A3, hA3⟩ : ∃ A3, strOfNums (a.drop (p + T)) = A3 := ⟨_, rfl⟩
          have z1 : A1.size ≤ 192 := by rw [← hA1, str_len, List.length_take]; omega
          have z2 : A2.size ≤ 192 := by rw [← hA2, str_len, List.length_take, List.length_drop]; omega
          have z3 : A3.size ≤ 192 := by rw [← hA3, str_len, List.length_drop]; omega
          have hAll : Hid (∀ w', DskIs w' w.heap.size Oz r E2 → Calls Try.prog 23 #[.pointer (some ⟨r, 0, none⟩)] w' fun e w2 => e = .returned (.string (A1 ++ A2 ++ A3)) ∧ Below w'.heap.size w' w2) := fun w' h => by
            have h1 := blkall_any _ _ _ E2 w' h HSEEN.out.2.1 HSEEN.out.2.2.1
            rw [HSEEN.out.1, HLEFT.out, hget] at h1
            simp only [] at h1
            rw [haa, hT1, hlp, str_join, str_join, hA1, hA2, hA3] at h1
            exact h1
          have hWT : Hid (∀ w', DskIs w' w.heap.size Oz r E2 → Calls Try.prog 19 #[.pointer (some ⟨r, 0, none⟩)] w' fun e w2 => e = .returned (.int .i64 0) ∧ Below w'.heap.size w' w2) := fun w' h => by
            have h1 := bwaits_any _ _ _ E2 w' h HSEEN.out.2.2.1
            rw [HSEEN.out.2.2.2] at h1
            exact h1
          have hDK : Hid (∀ w', DskIs w' w.heap.size Oz r E2 → Calls Try.prog 17 #[.pointer (some ⟨r, 0, none⟩)] w' fun e w2 => e = .returned (.bool false) ∧ Below w'.heap.size w' w2) := fun w' h => by
            have h1 := bdark_any _ _ _ E2 w' h
            rw [HSEEN.out.2.1] at h1
            exact h1
          obtain ⟨sa, hsa⟩ : ∃ sa, strOfNums a = sa := ⟨_, rfl⟩
          obtain ⟨sb, hsb⟩ : ∃ sb, strOfNums b = sb := ⟨_, rfl⟩
          have hsaz : sa.size = 192 := by rw [← hsa, str_len]; exact hal
          have hsbz : sb.size = 192 := by rw [← hsb, str_len]; exact hbl
          have sl1 : ∀ (Q : Int), 32 * (J : Int) = Q → ∀ W : World, (Instr.slice 9 (.string sa) none (some (.int .i64 Q)) none).run Try.prog W = .ok (.string A1) W := fun Q hQ W => by
            rw [run_slice_string_to_if W 9 sa .i64 Q Try.underlying9, if_pos (by omega), ← hsa, str_ext a hab, ← hA1, show Q.toNat = p by omega, Nat.sub_zero, List.drop_zero]
          have sl2 : ∀ (Q R : Int), 32 * (J : Int) = Q → Q + (T : Int) = R → ∀ W : World, (Instr.slice 9 (.string sb) (some (.int .i64 Q)) (some (.int .i64 R)) none).run Try.prog W = .ok (.string A2) W := fun Q R hQ hR W => by
            rw [run_slice_string W 9 sb .i64 .i64 Q R Try.underlying9 (by omega) (by omega) (by omega), ← hsb, str_ext b hbbt, ← hA2, show Q.toNat = p by omega, show R.toNat - p = T by omega]
          have sl3 : ∀ (R : Int), 32 * (J : Int) + (T : Int) = R → ∀ W : World, (Instr.slice 9 (.string sa) (some (.int .i64 R)) none none).run Try.prog W = .ok (.string A3) W := fun R hR W => by
            rw [run_slice_string_from_if W 9 sa .i64 R Try.underlying9, if_pos (by omega), ← hsa, str_ext a hab, ← hA3, show R.toNat = p + T by omega, List.take_of_length_le (by rw [List.length_drop, str_len]; omega)]
          have c0 : wc.cell? ⟨gA, K, none⟩ = some (.string sa) := by
            have := HRAz.out.at K (by rw [allV_len, HWL.out]; omega)
            rw [allV_at _ _ _ (by rw [HWL.out]; omega), haa, hsa] at this
            exact this
          have c1 : wc.cell? ⟨gA, K + 1, none⟩ = some (.string sb) := by
            have := HRAz.out.at (K + 1) (by rw [allV_len, HWL.out]; omega)
            rw [allV_at _ _ _ (by rw [HWL.out]; omega), hbb, hsb] at this
            exact this
          have c2 : wc.cell? ⟨gT, K, none⟩ = some (.int .i64 (J : Int)) := by
            have := HRTz.out.at K (by rw [List.length_map, HJL.out]; exact hKN)
            rw [List.getD_eq_getElem?_getD, List.getElem?_map, List.getElem?_eq_getElem (by rw [HJL.out]; exact hKN)] at this
            rw [this]
            have h3 : js.getD K 0 = js[K]'(by rw [HJL.out]; exact hKN) := by rw [List.getD_eq_getElem?_getD, List.getElem?_eq_getElem (by rw [HJL.out]; exact hKN)]; rfl
            rw [← hJ, h3]; rfl
          have HT1 := Lib.hid hT1
          have HT := Lib.hid hT
          have SL1 := Lib.hid sl1
          have SL2 := Lib.hid sl2
          have SL3 := Lib.hid sl3
          have C0 := Lib.hid c0
          have C1 := Lib.hid c1
          have HJ6 := Lib.hid hJ6
          have HT32 := Lib.hid hT32
          clear sl1 sl2 sl3 c0 c1 hA1 hA2 hA3 hlp htt hbn hab hbbt hal hbl hwA hwB hc32 hcb hget hpc hsa hsb hsaz hsbz haa hbb j0 j1 j2 hJ hT1 hT hJ6 hT32
          go_upto_if 110 with fail
          go_cut [16] from 110 to 110 (fun v16 wx => v16 = .int .i64 (T1 : Int) ∧ wx = wc)
          case first =>
            by_cases hneg : torn < 0
            · go_wp2
              go_meet
              exact ⟨by rw [← HT1.out, show torn.toNat = 0 by omega]; rfl, rfl⟩
            · have hkk : Hid (torn = (T1 : Int)) := by have := HT1.out; unfold Hid; omega
              go_wp2
              go_meet
              exact ⟨by rw [hkk.out], rfl⟩
          case rest =>
            obtain ⟨rfl, hw2⟩ := hcut
            subst hw2
            go_upto_if 112 with fail
            go_cut [16] from 112 to 112 (fun v16 wx => v16 = .int .i64 (T : Int) ∧ wx = wc)
            case first =>
              by_cases hbig : (32 : Int) < (T1 : Int)
              · go_wp2
                go_meet
                exact ⟨by rw [← HT.out, show min T1 32 = 32 by omega]; rfl, rfl⟩
              · have hkk : Hid (T1 = T) := by have := HT.out; unfold Hid; omega
                go_wp2
                go_meet
                exact ⟨by rw [hkk.out], rfl⟩
            case rest =>
              obtain ⟨rfl, hw3⟩ := hcut
              subst hw3
              obtain ⟨M, hM⟩ : ∃ M, N + 1 = M := ⟨_, rfl⟩
              rw [hM]
              obtain ⟨Q, hQ⟩ : ∃ Q : Int, 32 * (J : Int) = Q := ⟨_, rfl⟩
              obtain ⟨R, hR⟩ : ∃ R : Int, Q + (T : Int) = R := ⟨_, rfl⟩
              have s1 := SL1.out Q hQ
              have s2 := SL2.out Q R hQ hR
              have s3 := SL3.out R (by rw [hQ]; exact hR)
              have hwQ : IntKind.i64.wrap (32 * (J : Int)) = Q := by have := HJ6.out; rw [IntKind.wrap_i64]; omega
              have hwR : IntKind.i64.wrap (Q + (T : Int)) = R := by have := HJ6.out; have := HT32.out; rw [IntKind.wrap_i64]; omega
              have hKN1 : (K : Int) < (N : Int) := by omega
              have hKM : (K : Int) < (M : Int) := by omega
              obtain ⟨K2, hK2⟩ : ∃ K2, K + 1 = K2 := ⟨_, rfl⟩
              have hKM2 : (K2 : Int) < (M : Int) := by omega
              have hwK : IntKind.i64.wrap ((K : Int) + 1) = (K2 : Int) := by rw [IntKind.wrap_i64]; omega
              rw [hK2] at C1
              have n1 : ¬ (9223372036854775807 < A1.size + A2.size) := by omega
              have n2 : ¬ (9223372036854775807 < A1.size + A2.size + A3.size) := by omega
              have f0 := cell_regrown C0.out
              have f1 := cell_regrown C1.out
              clear hM hQ hR hKN z1 z2 z3 hK2
              go_wp2
              refine wp_region_quiet_below (by kernel_rfl) (by kernel_rfl) ?_
              repeat (quiet_step (first
                | (go_at_call 23; exact Calls.regrown_of (hAll.out _ (HDz.out.after (below_regrown _ _ _))))
                | (go_at_call 19; exact Calls.regrown_of (hWT.out _ (HDz.out.after (below_regrown _ _ _))))
                | (go_at_call 17; exact Calls.regrown_of (hDK.out _ (HDz.out.after (below_regrown _ _ _))))))
              refine wpQuiet_nil ?_
              intro _ hw'
              obtain ⟨⟨dq, osq⟩, hw''⟩ := hw'
              subst hw''
              have hfin := Lib.hid (below_step HBz.out (below_regrown wc dq osq))
              clear f0 f1 c2
              generalize Go.Sort.grow (redrawn wc dq) osq = W3 at hfin ⊢
              go_wp2
              go_ret
              exact ⟨rfl, hfin.out⟩

end Go.Proofs.Ytnndpainnoebgaa
