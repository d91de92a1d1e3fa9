/-
  BlockPlays, walked over the contracts of package block's calls: both disks side by side.
-/
import Derived.Test.YtnndpainnoebgaaBlkL
import Derived.Test.YtnndpainnoebgaaBlkV
import Derived.Test.YtnndpainnoebgaaMixJ
import Derived.Lib.QuietBelow
import Derived.Deep.CutBlock
import Derived.Deep.DeepCutAuto
namespace Go.Proofs.Ytnndpainnoebgaa
open Go.RowKit

/-- Both disks, beside each other. -/
structure PairO (base r r2 : Nat) (O O2 : Foot) (D E : Dsk) (w0 w : World) : Prop where
  d : DskIs w base O r D
  e : RefIs w base O2 r2 E
  dis : ∀ x, O x → ¬ O2 x
  bel : Below base w0 w
theorem row_elder {W : World} {b1 b2 : Nat} {t : TypeId} {k : Nat} {v : Value} {n : Nat} {xs : List Value} (h : W.ownsRow b1 t k v n xs) (hb : b2 ≤ b1) : W.ownsRow b2 t k v n xs := by
  obtain ⟨h1, h2⟩ := h
  refine ⟨h1, ?_⟩
  rcases h2 with hx | ⟨g, cap, cur, e, hbg, rest⟩
  · exact Or.inl hx
  · exact Or.inr ⟨g, cap, cur, e, Nat.le_trans hb hbg, rest⟩
theorem PairO.after {base r r2 : Nat} {O O2 : Foot} {D E : Dsk} {w0 w w' : World} (h : PairO base r r2 O O2 D E w0 w) (hs : base ≤ w.heap.size) (hb : Below w.heap.size w w') : PairO base r r2 O O2 D E w0 w' :=
  ⟨h.d.after hb, h.e.after hb, h.dis, h.bel.trans (hb.mono hs)⟩
theorem PairO.stepD {base r r2 : Nat} {O O2 : Foot} {D E D' : Dsk} {w0 w w' : World} (h : PairO base r r2 O O2 D E w0 w) (t : DskTo base O r D' w w') : ∃ O', PairO base r r2 O' O2 D' E w0 w' ∧ Grown O O' w.heap.size := by
  obtain ⟨O', d, g, k⟩ := t
  refine ⟨O', ⟨d, h.e.kept (fun i hi => g.keep i (h.e.own i hi).2 (fun ho => h.dis i ho hi)) g.size, fun x hx hx2 => ?_, h.bel.trans g.bel⟩, k⟩
  rcases k x hx with hx | hx
  · exact h.dis x hx hx2
  · have := (h.e.own x hx2).2; omega
theorem PairO.stepE {base r r2 : Nat} {O O2 : Foot} {D E E' : Dsk} {w0 w w' : World} (h : PairO base r r2 O O2 D E w0 w) (t : RefTo base O2 r2 E' w w') : ∃ O2', PairO base r r2 O O2' D E' w0 w' ∧ Grown O2 O2' w.heap.size := by
  obtain ⟨O2', d, g, k⟩ := t
  refine ⟨O2', ⟨h.d.kept (fun i hi => g.keep i (h.d.own i hi).2 (fun ho => h.dis i hi ho)) g.size, d, fun x hx hx2 => ?_, h.bel.trans g.bel⟩, k⟩
  rcases k x hx2 with hx2 | hx2
  · exact h.dis x hx hx2
  · have := (h.d.own x hx).2; omega
/-- With a call's variable beside them. -/
structure Both (base r r2 pv : Nat) (X : ActV) (bv : Value) (D E : Dsk) (w0 w : World) : Prop where
  ex : ∃ O O2, PairO base r r2 O O2 D E w0 w ∧ ¬ O pv ∧ ¬ O2 pv
  c0 : w.cell? ⟨pv, 0, none⟩ = some (.int .i64 X.kind)
  c1 : w.cell? ⟨pv, 1, none⟩ = some (.int .i64 X.i)
  c2 : w.cell? ⟨pv, 2, none⟩ = some (.int .i64 X.k)
  c3 : w.cell? ⟨pv, 3, none⟩ = some bv
  lt : pv < w.heap.size
  lo : base ≤ pv
  arg : ∀ w', Below base w0 w' → ArgB w' bv X.b
  ok : X.Ok
theorem Both.bel {base r r2 pv : Nat} {X : ActV} {bv : Value} {D E : Dsk} {w0 w : World} (h : Both base r r2 pv X bv D E w0 w) : Below base w0 w := by
  obtain ⟨_, _, k, _⟩ := h.ex
  exact k.bel
theorem Both.after {base r r2 pv : Nat} {X : ActV} {bv : Value} {D E : Dsk} {w0 w w' : World} (h : Both base r r2 pv X bv D E w0 w) (hb : Below w.heap.size w w') : Both base r r2 pv X bv D E w0 w' := by
  obtain ⟨⟨O, O2, k, n1, n2⟩, c0, c1, c2, c3, lt, lo, arg, ok⟩ := h
  exact ⟨⟨O, O2, k.after (by omega) hb, n1, n2⟩, (hb.cell (p := ⟨pv, 0, none⟩) lt).trans c0, (hb.cell (p := ⟨pv, 1, none⟩) lt).trans c1, (hb.cell (p := ⟨pv, 2, none⟩) lt).trans c2, (hb.cell (p := ⟨pv, 3, none⟩) lt).trans c3, Nat.lt_of_lt_of_le lt hb.size, lo, arg, ok⟩
theorem Both.move {base r r2 pv : Nat} {X : ActV} {bv : Value} {D E D' E' : Dsk} {w0 w w' : World} {O : Foot} (h : Both base r r2 pv X bv D E w0 w) (g : OnlyO base O w w') (hn : ¬ O pv) (hx : ∃ O O2, PairO base r r2 O O2 D' E' w0 w' ∧ ¬ O pv ∧ ¬ O2 pv) : Both base r r2 pv X bv D' E' w0 w' := by
  obtain ⟨_, c0, c1, c2, c3, lt, lo, arg, ok⟩ := h
  exact ⟨hx, (g.cell lt hn).trans c0, (g.cell lt hn).trans c1, (g.cell lt hn).trans c2, (g.cell lt hn).trans c3, Nat.lt_of_lt_of_le lt g.size, lo, arg, ok⟩
/-- A call on the program's disk, and on the document's. -/
theorem Both.callD {base r r2 pv : Nat} {X : ActV} {bv : Value} {D E D' : Dsk} {w0 w : World} {f : FuncId} {args : Array Value} {v : Value} (h : Both base r r2 pv X bv D E w0 w)
    (hc : ∀ O, DskIs w base O r D → Calls Try.prog f args w fun e w' => e = .returned v ∧ DskTo base O r D' w w') : Calls Try.prog f args w fun e w' => e = .returned v ∧ Both base r r2 pv X bv D' E w0 w' := by
  obtain ⟨O, O2, k, n1, n2⟩ := h.ex
  refine (hc O k.d).mono ?_
  rintro e w' ⟨rfl, t⟩
  have hg := t
  obtain ⟨_, _, g, _⟩ := hg
  obtain ⟨O', k', kg⟩ := k.stepD t
  refine ⟨rfl, h.move g n1 ⟨O', O2, k', fun ho => ?_, n2⟩⟩
  rcases kg pv ho with ho | ho
  · exact n1 ho
  · have := h.lt; omega
theorem Both.callE {base r r2 pv : Nat} {X : ActV} {bv : Value} {D E E' : Dsk} {w0 w : World} {f : FuncId} {args : Array Value} {v : Value} (h : Both base r r2 pv X bv D E w0 w)
    (hc : ∀ O, RefIs w base O r2 E → Calls Try.prog f args w fun e w' => e = .returned v ∧ RefTo base O r2 E' w w') : Calls Try.prog f args w fun e w' => e = .returned v ∧ Both base r r2 pv X bv D E' w0 w' := by
  obtain ⟨O, O2, k, n1, n2⟩ := h.ex
  refine (hc O2 k.e).mono ?_
  rintro e w' ⟨rfl, t⟩
  have hg := t
  obtain ⟨_, _, g, _⟩ := hg
  obtain ⟨O2', k', kg⟩ := k.stepE t
  refine ⟨rfl, h.move g n2 ⟨O, O2', k', n1, fun ho => ?_⟩⟩
  rcases kg pv ho with ho | ho
  · exact n2 ho
  · have := h.lt; omega
/-- Its fuse, set by hand. -/
theorem Both.light {base r r2 pv : Nat} {X : ActV} {bv : Value} {D E : Dsk} {w0 w : World} (h : Both base r r2 pv X bv D E w0 w) (z : Int) (hz : E.light z = { E with fuse := z }) (hz1 : z ≤ 9223372036854775807) : Both base r r2 pv X bv D (E.light z) w0 (w.setCell ⟨r2, 4, none⟩ (.int .i64 z)) := by
  obtain ⟨O, O2, k, n1, n2⟩ := h.ex
  have hbr := (k.e.own r2 k.e.mem).1
  have g : OnlyO base O2 w (w.setCell ⟨r2, 4, none⟩ (.int .i64 z)) := (OnlyO.refl base O2 w).set k.e.mem hbr _ _
  obtain ⟨O2', k', kg⟩ := k.stepE (E' := E.light z) ⟨O2, by
    have k0 := k.e
    obtain ⟨_, _, _, v, hda, hrow, hv⟩ := k0
    have hs := hda.set.2.2.1 z
    rw [hz]
    exact k.e.upd (D' := { E with fuse := z }) hs hrow hv (by rw [← hz]; exact k.e.ok.light hz1) (fun j hj hne => set_other _ r2 4 _ j hj hne) (by simp), g, Grown.refl _ _⟩
  refine h.move g n2 ⟨O, O2', k', n1, fun ho => ?_⟩
  rcases kg pv ho with ho | ho
  · exact n2 ho
  · have := h.lt; omega
/-- Set twice. -/
theorem Both.light2 {base r r2 pv : Nat} {X : ActV} {bv : Value} {D E : Dsk} {w0 w : World} (h : Both base r r2 pv X bv D E w0 w) (a z : Int) (hz : E.light z = { E with fuse := z }) (hz1 : z ≤ 9223372036854775807) : Both base r r2 pv X bv D (E.light z) w0 ((w.setCell ⟨r2, 4, none⟩ (.int .i64 a)).setCell ⟨r2, 4, none⟩ (.int .i64 z)) := by
  obtain ⟨O, O2, k, n1, n2⟩ := h.ex
  have hbr := (k.e.own r2 k.e.mem).1
  have g : OnlyO base O2 w ((w.setCell ⟨r2, 4, none⟩ (.int .i64 a)).setCell ⟨r2, 4, none⟩ (.int .i64 z)) := ((OnlyO.refl base O2 w).set k.e.mem hbr _ _).set k.e.mem hbr _ _
  obtain ⟨O2', k', kg⟩ := k.stepE (E' := E.light z) ⟨O2, by
    have k0 := k.e
    obtain ⟨_, _, _, v, hda, hrow, hv⟩ := k0
    have hs := (hda.set.2.2.1 a).set.2.2.1 z
    rw [hz]
    exact k.e.upd (D' := { E with fuse := z }) hs hrow hv (by rw [← hz]; exact k.e.ok.light hz1) (fun j hj hne => (set_other _ r2 4 _ j (by simpa using hj) hne).trans (set_other _ r2 4 _ j hj hne)) (by simp), g, Grown.refl _ _⟩
  refine h.move g n2 ⟨O, O2', k', n1, fun ho => ?_⟩
  rcases kg pv ho with ho | ho
  · exact n2 ho
  · have := h.lt; omega
theorem brsync_to (base : Nat) (O : Foot) (r : Nat) (D : Dsk) (w : World) (h : RefIs w base O r D) (hd : D.deeds ≤ 1000000) :
    Calls Try.prog 13 #[.pointer (some ⟨r, 0, none⟩)] w fun e w' => e = .returned (.int .i64 D.sync.1) ∧ RefTo base O r D.sync.2 w w' :=
  (brsync_any base O r D w h hd).mono fun _ _ ⟨h1, h2, h3⟩ => ⟨h1, O, h2, h3, Grown.refl _ _⟩
theorem Both.fz {base r r2 pv : Nat} {X : ActV} {bv : Value} {D E : Dsk} {w0 w : World} (h : Both base r r2 pv X bv D E w0 w) : w.cell? ⟨r2, 4, none⟩ = some (.int .i64 E.fuse) ∧ w.frozen? ⟨r2, 4, none⟩ = false := by
  obtain ⟨O, O2, k, _⟩ := h.ex
  obtain ⟨_, _, _, v, hda, _⟩ := k.e
  exact ⟨hda.c4, hda.q 4⟩
theorem Both.cells {base r r2 pv : Nat} {X : ActV} {bv : Value} {D E : Dsk} {w0 w : World} (h : Both base r r2 pv X bv D E w0 w) : w.cell? ⟨r2, 5, none⟩ = some (.bool E.dark) ∧ w.cell? ⟨r2, 6, none⟩ = some (.int .i64 (E.deeds : Int)) ∧ ∃ a cap, w.cell? ⟨r2, 3, none⟩ = some (.slice a E.waits.length cap) := by
  obtain ⟨O, O2, k, _⟩ := h.ex
  obtain ⟨a, cap, hda, _⟩ := k.e.waits
  exact ⟨hda.c5, hda.c6, a, cap, hda.c3⟩
theorem light_low (E : Dsk) : E.light (-1) = { E with fuse := -1 } := rfl
theorem light_high (E : Dsk) {z : Int} (h : ¬ z < 0) : E.light z = { E with fuse := z } := by unfold Dsk.light; rw [if_neg h]
theorem light_neg (E : Dsk) {z : Int} (h : z < 0) : E.light z = E.light (-1) := by unfold Dsk.light; rw [if_pos h, if_pos (by decide)]
theorem write_size {D : Dsk} (h : D.Ok) (i : Int) (b : List Int) : (D.write i b).2.n = D.n ∧ (D.write i b).2.size = D.size := (h.step (c := (D.write i b).1) (D' := (D.write i b).2) (Or.inr ⟨i, b, rfl⟩)).2.2.2.2
theorem sync_size {D : Dsk} (h : D.Ok) : D.sync.2.n = D.n ∧ D.sync.2.size = D.size := (h.step (c := D.sync.1) (D' := D.sync.2) (Or.inl rfl)).2.2.2.2

/-- What each operation of the two writes has made. -/
def TP (r r2 pv : Nat) (ai c : Int) (bv : Value) : Nat → Value → World → Prop
  | 0, v, _ => v = .pointer (some ⟨r, 0, none⟩)
  | 1, v, _ => v = .pointer (some ⟨pv, 1, none⟩)
  | 2, v, _ => v = .int .i64 ai
  | 3, v, _ => v = .pointer (some ⟨pv, 3, none⟩)
  | 4, v, _ => v = bv
  | 5, v, _ => v = .int .i64 c
  | 6, v, _ => v = .pointer (some ⟨r2, 0, none⟩)
  | 7, v, _ => v = .pointer (some ⟨pv, 1, none⟩)
  | 8, v, _ => v = .int .i64 ai
  | 9, v, _ => v = .pointer (some ⟨pv, 3, none⟩)
  | 10, v, _ => v = bv
  | 11, v, _ => v = .int .i64 c
  | 12, v, _ => v = .bool false
  | _, _, _ => True
theorem TP.any {r r2 pv : Nat} {ai c : Int} {bv : Value} (i : Nat) (v : Value) (w w' : World) (h : TP r r2 pv ai c bv i v w) : TP r r2 pv ai c bv i v w' := by
  match i, h with
  | 0, h => exact h
  | 1, h => exact h
  | 2, h => exact h
  | 3, h => exact h
  | 4, h => exact h
  | 5, h => exact h
  | 6, h => exact h
  | 7, h => exact h
  | 8, h => exact h
  | 9, h => exact h
  | 10, h => exact h
  | 11, h => exact h
  | 12, h => exact h
  | n + 13, _ => exact trivial
/-- Where it stands. -/
def JP (base r r2 pv : Nat) (X : ActV) (bv : Value) (D E : Dsk) (w0 : World) (L : Nat → Bool) (w : World) : Prop := (L 11 = true → L 5 = true) ∧ Both base r r2 pv X bv (if L 5 then E else D) (if L 11 then E else D) w0 w
theorem JP.light {base r r2 pv : Nat} {X : ActV} {bv : Value} {D E : Dsk} {w0 w : World} {L : Nat → Bool} (h : JP base r r2 pv X bv D E w0 L w) {k : Nat} (h5 : 5 ≠ k) (h11 : 11 ≠ k) : JP base r r2 pv X bv D E w0 (setL L k) w := by
  unfold JP
  rw [setL_ne L h5, setL_ne L h11]
  exact h

set_option maxRecDepth 100000 in
set_option maxHeartbeats 8000000 in
theorem blkplays_walk (nb sz : Int) (v : Value) (l : List ActV) (w : World) (hn : -9223372036854775808 ≤ nb ∧ nb ≤ 9223372036854775807) (hz : -9223372036854775808 ≤ sz ∧ sz ≤ 9223372036854775807) (hv : ActsIs w v l) (hl : ∀ x ∈ l, x.Ok) :
    Calls Try.prog 3 #[.int .i64 nb, .int .i64 sz, v] w fun e w' => e = .returned (.bool true) ∧ Below w.heap.size w w' := by
  obtain ⟨n0, n1⟩ := hn
  obtain ⟨z0, z1⟩ := hz
  have HV := Lib.hid hv
  have HL := Lib.hid hl
  obtain ⟨va, vc, rfl⟩ := hv.size
  clear hv hl
  by_cases hgood : 1 ≤ nb ∧ nb ≤ 400 ∧ 32 ≤ sz ∧ sz ≤ 512
  case neg =>
    have HNW : Hid (∀ w, Calls Try.prog 8 #[.int .i64 nb, .int .i64 sz] w fun e w' => e = .returned (.tuple #[.pointer none, .int .i64 2]) ∧ Below w.heap.size w w') := fun w => (bnew_any nb sz w n0 n1 z0 z1).mono fun e w' ⟨hb, h⟩ => by
      rcases h with ⟨_, h⟩ | ⟨a, b, c, d, _⟩
      · exact ⟨h, hb⟩
      · exact (hgood ⟨a, b, c, d⟩).elim
    have hc : nb < 1 ∨ ¬ nb < 1 ∧ 400 < nb ∨ ¬ nb < 1 ∧ ¬ 400 < nb ∧ sz < 32 ∨ ¬ nb < 1 ∧ ¬ 400 < nb ∧ ¬ sz < 32 ∧ 512 < sz := by omega
    clear hgood n0 n1 z0 z1
    rcases hc with h1 | ⟨h1, h2⟩ | ⟨h1, h2, h3⟩ | ⟨h1, h2, h3, h4⟩
    all_goals
      go_enter Try.func3, Try.ntmps3
      go_wp2_with (first
        | (go_at_call 7; (with_reducible refine (blk_awake _).mono ?_); rintro e w1 ⟨rfl, g⟩; have HB1 := Lib.hid g; clear g)
        | (go_at_call 8; (with_reducible refine (HNW.out _).mono ?_); rintro e w2 ⟨rfl, g⟩; have HB2 := Lib.hid (below_step HB1.out g); clear g))
      go_ret
      exact ⟨rfl, HB2.out⟩
  case pos =>
  obtain ⟨N, rfl⟩ : ∃ N : Nat, nb = (N : Int) := ⟨nb.toNat, by omega⟩
  obtain ⟨Sz, rfl⟩ : ∃ S : Nat, sz = (S : Int) := ⟨sz.toNat, by omega⟩
  obtain ⟨g1, g2, g3, g4⟩ := hgood
  have HNW := Lib.hid (fun w => bnew_6 N Sz w (by omega) (by omega) (by omega) (by omega))
  have HNR := Lib.hid (fun w => brnew_any N Sz w (by omega) (by omega) (by omega) (by omega))
  have k1 : ¬ (N : Int) < 1 := by omega
  have k2 : ¬ 400 < (N : Int) := by omega
  have k3 : ¬ (Sz : Int) < 32 := by omega
  have k4 : ¬ 512 < (Sz : Int) := by omega
  clear g1 g2 g3 g4 n0 n1 z0 z1
  by_cases h12 : 12 < (N : Int)
  · go_enter Try.func3, Try.ntmps3
    go_wp2_with (first
      | (go_at_call 7; (with_reducible refine (blk_awake _).mono ?_); rintro e w1 ⟨rfl, g⟩; have HB1 := Lib.hid g; clear g)
      | (go_at_call 8; (with_reducible refine (HNW.out _).mono ?_); rintro e w2 ⟨r, O, rfl, d, g⟩; have HB2 := Lib.hid (below_step HB1.out g); clear g))
    go_ret
    exact ⟨rfl, HB2.out⟩
  go_enter Try.func3, Try.ntmps3
  go_wp2_with (first
    | (go_at_call 7; (with_reducible refine (blk_awake _).mono ?_); rintro e w1 ⟨rfl, g⟩; have HB1 := Lib.hid g; clear g)
    | (go_at_call 8; (with_reducible refine (HNW.out _).mono ?_); rintro e w2 ⟨r, O, rfl, d, g⟩; have HD2 := Lib.hid (d.base HB1.out.size); have HB2 := Lib.hid (below_step HB1.out g); clear g d)
    | (go_at_call 9; (with_reducible refine (HNR.out _).mono ?_); rintro e w3 ⟨r2, O2, rfl, d, g⟩; have HP3 : Hid (PairO w.heap.size r r2 O O2 (Dsk.new N Sz) (Dsk.new N Sz) w w3) := ⟨HD2.out.after g, ⟨d.ok, fun i hi => ⟨Nat.le_trans HB2.out.size (d.own i hi).1, (d.own i hi).2⟩, d.mem, d.ex.imp fun v ⟨a, b, c⟩ => ⟨a, row_elder b HB2.out.size, c⟩⟩, fun x hx hx2 => (by have := (HD2.out.own x hx).2; have := (d.own x hx2).1; omega), below_step HB2.out g⟩; clear g d))
  go_loopw [10] (fun v10 wr => ∃ (i : Nat) (O O2 : Foot) (E : Dsk), v10 = .int .i64 (i : Int) ∧ i ≤ l.length ∧ i ≤ 100 ∧ PairO w.heap.size r r2 O O2 E E w wr ∧ E.deeds ≤ i ∧ E.n = N ∧ E.size = Sz) (fun v10 _ => 200 - (intOf v10).toNat)
  case atStart => exact ⟨0, O, O2, _, rfl, Nat.zero_le _, Nat.zero_le _, HP3.out, Nat.le_refl _, rfl, rfl⟩
  case round =>
    obtain ⟨i, O, O2, E, rfl, hil, hi100, hP, hde, hEn, hEs⟩ := hrel
    have HP := Lib.hid hP
    have HEn := Lib.hid (And.intro hEn hEs)
    clear hP hEn hEs
    by_cases hlt : i < l.length ∧ i < 100
    case neg =>
      by_cases h1 : i < l.length
      · have h2 : ¬ (i : Int) < 100 := by omega
        have h1i : (i : Int) < (l.length : Int) := by omega
        go_wp2
        go_ret
        exact ⟨rfl, HP.out.bel⟩
      · have h1i : ¬ (i : Int) < (l.length : Int) := by omega
        go_wp2
        go_ret
        exact ⟨rfl, HP.out.bel⟩
    case pos =>
    obtain ⟨h1, h2⟩ := hlt
    have h1i : (i : Int) < (l.length : Int) := by omega
    have h2i : (i : Int) < 100 := by omega
    have hx := HL.out (l.getD i {}) (by rw [List.getD_eq_getElem?_getD, List.getElem?_eq_getElem h1]; exact List.getElem_mem _)
    have hcell : ∃ b off bv, va = some ⟨b, off, none⟩ ∧ b < w.heap.size ∧ w.cell? ⟨b, off + i * 4, none⟩ = some (.int .i64 (l.getD i {}).kind) ∧ w.cell? ⟨b, off + i * 4 + 1, none⟩ = some (.int .i64 (l.getD i {}).i) ∧ w.cell? ⟨b, off + i * 4 + 2, none⟩ = some (.int .i64 (l.getD i {}).k) ∧ w.cell? ⟨b, off + i * 4 + 3, none⟩ = some bv ∧ ArgB w bv (l.getD i {}).b := by
      obtain ⟨b, off, cap, he, hb, hc⟩ := HV.out.at (by omega)
      simp only [Value.slice.injEq] at he
      obtain ⟨rfl, _, _⟩ := he
      obtain ⟨bv, c0, c1, c2, c3, ha⟩ := hc i h1
      exact ⟨b, off, bv, rfl, hb, c0, c1, c2, c3, ha⟩
    obtain ⟨vb, off, bv, rfl, hvb, c0, c1, c2, c3, hab⟩ := hcell
    obtain ⟨X, hX⟩ : ∃ X, l.getD i {} = X := ⟨_, rfl⟩
    rw [hX] at hx c0 c1 c2 hab
    have d0 := (HP.out.bel.cell (p := ⟨vb, off + i * 4, none⟩) hvb).trans c0
    have d1 := (HP.out.bel.cell (p := ⟨vb, off + i * 4 + 1, none⟩) hvb).trans c1
    have d2 := (HP.out.bel.cell (p := ⟨vb, off + i * 4 + 2, none⟩) hvb).trans c2
    have d3 := (HP.out.bel.cell (p := ⟨vb, off + i * 4 + 3, none⟩) hvb).trans c3
    obtain ⟨pv, hpv⟩ : ∃ p, wr.heap.size = p := ⟨_, rfl⟩
    obtain ⟨ba, bc, rfl⟩ := hab.size
    obtain ⟨kind, hk⟩ : ∃ k, X.kind = k := ⟨_, rfl⟩
    obtain ⟨ai, hi⟩ : ∃ k, X.i = k := ⟨_, rfl⟩
    obtain ⟨ak, hkk⟩ : ∃ k, X.k = k := ⟨_, rfl⟩
    have HBO : Hid (Both w.heap.size r r2 pv X (.slice ba X.b.length bc) E E w (wr.alloc (.cells #[.int .i64 kind, .int .i64 ai, .int .i64 ak, .slice ba X.b.length bc] 32))) := by
      subst hpv
      have hb : Below wr.heap.size wr (wr.alloc (.cells #[.int .i64 kind, .int .i64 ai, .int .i64 ak, .slice ba X.b.length bc] 32)) := (Below.refl _ _).alloc (Nat.le_refl _) _
      exact ⟨⟨O, O2, HP.out.after HP.out.bel.size hb, fun ho => by have := (HP.out.d.own _ ho).2; omega, fun ho => by have := (HP.out.e.own _ ho).2; omega⟩, by rw [hk]; simp, by rw [hi]; simp, by rw [hkk]; simp, by simp, by simp, HP.out.bel.size, fun w' h' => hab.below h', hx⟩
    rw [hk] at d0
    rw [hi] at d1
    rw [hkk] at d2
    have HI := Lib.hid hi
    have HK := Lib.hid hkk
    have hi0 := hx.i0
    have hk0 := hx.k0
    have hb0 := Lib.hid hx.b0
    have hb1 := hx.b1
    rw [hi] at hi0
    rw [hkk] at hk0
    obtain ⟨i0, i1⟩ := hi0
    obtain ⟨t0, t1⟩ := hk0
    have HOK : Hid (E.Ok) := HP.out.e.ok
    have hdd : E.deeds ≤ 1000000 := by omega
    have HDD := Lib.hid (And.intro hdd hde)
    have hne : ¬ pv = r2 := fun e => by have := (HP.out.e.own _ HP.out.e.mem).2; omega
    have hne2 : ¬ r2 = pv := fun e => hne e.symm
    clear c0 c1 c2 c3 hab hX hx hk hi hkk HP hde
    go_upto_block 2 with (fail)
    go_cut [73] from 73 to 125 (fun _ wx => ∃ E', Both w.heap.size r r2 pv X (.slice ba X.b.length bc) E' E' w wx ∧ E'.deeds ≤ E.deeds + 1 ∧ E'.n = E.n ∧ E'.size = E.size)
    case first =>
      by_cases q1 : kind = 1
      · subst q1
        clear d0 d1 d2 d3
        go_wp2
        generalize wr.alloc (.cells #[.int .i64 1, .int .i64 ai, .int .i64 ak, .slice ba X.b.length bc] 32) = wa at HBO ⊢
        refine wp_region_mixj 13 (TP r r2 pv ai (E.write ai X.b).1 (.slice ba X.b.length bc)) (JP w.heap.size r r2 pv X (.slice ba X.b.length bc) E (E.write ai X.b).2 w) (by kernel_rfl) (by kernel_rfl) ⟨fun h => h, HBO.out.after (Below.refl _ _).drew⟩ ?_ ?_
        · simp only [List.take_succ_cons, List.take_zero]
          refine (StepsJ.cons ?_ (StepsJ.cons ?_ (StepsJ.cons ?_ (StepsJ.cons ?_ (StepsJ.cons ?_ (StepsJ.cons ?_ (StepsJ.cons ?_ (StepsJ.cons ?_ (StepsJ.cons ?_ (StepsJ.cons ?_ (StepsJ.cons ?_ (StepsJ.cons ?_ (StepsJ.cons ?_ StepsJ.nil)))))))))))))
          · intro u W L hL hJ hd
            simp only [putAll, Act.put, List.setIfInBounds_toArray, List.set_cons_succ, List.set_cons_zero, Nat.zero_add, Nat.reduceAdd]
            have hj1 := hJ.light (k := 0) (by decide) (by decide)
            go_wp2
            first | exact ⟨rfl, hj1⟩ | exact ⟨_, rfl, rfl, hj1, fun j v' _ _ h => h⟩ | exact ⟨rfl, hj1, fun j v' _ _ h => h⟩ | exact rfl
          · intro u W L hL hJ hd
            simp only [putAll, Act.put, List.setIfInBounds_toArray, List.set_cons_succ, List.set_cons_zero, Nat.zero_add, Nat.reduceAdd]
            have hj1 := hJ.light (k := 1) (by decide) (by decide)
            go_wp2
            first | exact ⟨rfl, hj1⟩ | exact ⟨_, rfl, rfl, hj1, fun j v' _ _ h => h⟩ | exact ⟨rfl, hj1, fun j v' _ _ h => h⟩ | exact rfl
          · intro u W L hL hJ hd
            have e0 : u 1 = .pointer (some ⟨pv, 1, none⟩) := (hd.1 rfl (by decide)).2
            have q1 := hJ.2.c1
            rw [HI.out] at q1
            simp only [putAll, Act.put, List.setIfInBounds_toArray, List.set_cons_succ, List.set_cons_zero, Nat.zero_add, Nat.reduceAdd]
            rw [e0]
            have hj1 := hJ.light (k := 2) (by decide) (by decide)
            go_wp2
            first | exact ⟨rfl, hj1⟩ | exact ⟨_, rfl, rfl, hj1, fun j v' _ _ h => h⟩ | exact ⟨rfl, hj1, fun j v' _ _ h => h⟩ | exact rfl
          · intro u W L hL hJ hd
            simp only [putAll, Act.put, List.setIfInBounds_toArray, List.set_cons_succ, List.set_cons_zero, Nat.zero_add, Nat.reduceAdd]
            have hj1 := hJ.light (k := 3) (by decide) (by decide)
            go_wp2
            first | exact ⟨rfl, hj1⟩ | exact ⟨_, rfl, rfl, hj1, fun j v' _ _ h => h⟩ | exact ⟨rfl, hj1, fun j v' _ _ h => h⟩ | exact rfl
          · intro u W L hL hJ hd
            have e0 : u 3 = .pointer (some ⟨pv, 3, none⟩) := (hd.1 rfl (by decide)).2
            have q3 := hJ.2.c3
            simp only [putAll, Act.put, List.setIfInBounds_toArray, List.set_cons_succ, List.set_cons_zero, Nat.zero_add, Nat.reduceAdd]
            rw [e0]
            have hj1 := hJ.light (k := 4) (by decide) (by decide)
            go_wp2
            first | exact ⟨rfl, hj1⟩ | exact ⟨_, rfl, rfl, hj1, fun j v' _ _ h => h⟩ | exact ⟨rfl, hj1, fun j v' _ _ h => h⟩ | exact rfl
          · intro u W L hL hJ hd
            have e0 : u 0 = .pointer (some ⟨r, 0, none⟩) := (hd.1 rfl (by decide)).2
            have e1 : u 2 = .int .i64 ai := (hd.2.1 rfl (by decide)).2
            have e2 : u 4 = .slice ba X.b.length bc := (hd.2.2.1 rfl (by decide)).2
            have hB : Both w.heap.size r r2 pv X (.slice ba X.b.length bc) E E w W := by
              have h := hJ.2
              have h11 : L 11 = false := by
                cases h11 : L 11 with
                | false => rfl
                | true => have := hJ.1 h11; rw [hL] at this; cases this
              rw [hL, h11] at h
              exact h
            have h11 : L 11 = false := by
              cases h11 : L 11 with
              | false => rfl
              | true => have := hJ.1 h11; rw [hL] at this; cases this
            simp only [putAll, Act.put, List.setIfInBounds_toArray, List.set_cons_succ, List.set_cons_zero, Nat.zero_add, Nat.reduceAdd]
            rw [e0, e1, e2]
            go_wp2_with (go_at_call 10; (with_reducible refine (hB.callD (fun O hO => bwrite_any w.heap.size O r E ai (.slice ba X.b.length bc) X.b W hO hdd i0 i1 (hB.arg W hB.bel) hb0.out hb1)).mono ?_); rintro e W1 ⟨rfl, hB1⟩)
            have hj1 : JP w.heap.size r r2 pv X (.slice ba X.b.length bc) E (E.write ai X.b).2 w (setL L 5) W1 := ⟨fun _ => setL_self L 5, by rw [setL_self, setL_ne L (by decide), h11]; exact hB1⟩
            first | exact ⟨_, rfl, rfl, hj1, fun j v' _ _ h => TP.any j v' _ _ h⟩ | exact ⟨rfl, hj1, fun j v' _ _ h => TP.any j v' _ _ h⟩
          · intro u W L hL hJ hd
            simp only [putAll, Act.put, List.setIfInBounds_toArray, List.set_cons_succ, List.set_cons_zero, Nat.zero_add, Nat.reduceAdd]
            have hj1 := hJ.light (k := 6) (by decide) (by decide)
            go_wp2
            first | exact ⟨rfl, hj1⟩ | exact ⟨_, rfl, rfl, hj1, fun j v' _ _ h => h⟩ | exact ⟨rfl, hj1, fun j v' _ _ h => h⟩ | exact rfl
          · intro u W L hL hJ hd
            simp only [putAll, Act.put, List.setIfInBounds_toArray, List.set_cons_succ, List.set_cons_zero, Nat.zero_add, Nat.reduceAdd]
            have hj1 := hJ.light (k := 7) (by decide) (by decide)
            go_wp2
            first | exact ⟨rfl, hj1⟩ | exact ⟨_, rfl, rfl, hj1, fun j v' _ _ h => h⟩ | exact ⟨rfl, hj1, fun j v' _ _ h => h⟩ | exact rfl
          · intro u W L hL hJ hd
            have e0 : u 7 = .pointer (some ⟨pv, 1, none⟩) := (hd.1 rfl (by decide)).2
            have q1 := hJ.2.c1
            rw [HI.out] at q1
            simp only [putAll, Act.put, List.setIfInBounds_toArray, List.set_cons_succ, List.set_cons_zero, Nat.zero_add, Nat.reduceAdd]
            rw [e0]
            have hj1 := hJ.light (k := 8) (by decide) (by decide)
            go_wp2
            first | exact ⟨rfl, hj1⟩ | exact ⟨_, rfl, rfl, hj1, fun j v' _ _ h => h⟩ | exact ⟨rfl, hj1, fun j v' _ _ h => h⟩ | exact rfl
          · intro u W L hL hJ hd
            simp only [putAll, Act.put, List.setIfInBounds_toArray, List.set_cons_succ, List.set_cons_zero, Nat.zero_add, Nat.reduceAdd]
            have hj1 := hJ.light (k := 9) (by decide) (by decide)
            go_wp2
            first | exact ⟨rfl, hj1⟩ | exact ⟨_, rfl, rfl, hj1, fun j v' _ _ h => h⟩ | exact ⟨rfl, hj1, fun j v' _ _ h => h⟩ | exact rfl
          · intro u W L hL hJ hd
            have e0 : u 9 = .pointer (some ⟨pv, 3, none⟩) := (hd.1 rfl (by decide)).2
            have q3 := hJ.2.c3
            simp only [putAll, Act.put, List.setIfInBounds_toArray, List.set_cons_succ, List.set_cons_zero, Nat.zero_add, Nat.reduceAdd]
            rw [e0]
            have hj1 := hJ.light (k := 10) (by decide) (by decide)
            go_wp2
            first | exact ⟨rfl, hj1⟩ | exact ⟨_, rfl, rfl, hj1, fun j v' _ _ h => h⟩ | exact ⟨rfl, hj1, fun j v' _ _ h => h⟩ | exact rfl
          · intro u W L hL hJ hd
            have e0 : u 6 = .pointer (some ⟨r2, 0, none⟩) := (hd.1 rfl (by decide)).2
            have e1 : u 8 = .int .i64 ai := (hd.2.1 rfl (by decide)).2
            have e2 : u 10 = .slice ba X.b.length bc := (hd.2.2.1 rfl (by decide)).2
            have h5 : L 5 = true := (hd.2.2.2.1 rfl (by decide)).1
            have hB : Both w.heap.size r r2 pv X (.slice ba X.b.length bc) (E.write ai X.b).2 E w W := by
              have h := hJ.2
              rw [hL, h5] at h
              exact h
            simp only [putAll, Act.put, List.setIfInBounds_toArray, List.set_cons_succ, List.set_cons_zero, Nat.zero_add, Nat.reduceAdd]
            rw [e0, e1, e2]
            go_wp2_with (go_at_call 11; (with_reducible refine (hB.callE (fun O hO => brwrite_any w.heap.size O r2 E ai (.slice ba X.b.length bc) X.b W hO hdd (hB.arg W hB.bel) (fun w' h' => hB.arg w' (hB.bel.trans h')) hb0.out)).mono ?_); rintro e W1 ⟨rfl, hB1⟩)
            have hj1 : JP w.heap.size r r2 pv X (.slice ba X.b.length bc) E (E.write ai X.b).2 w (setL L 11) W1 := ⟨fun _ => by rw [setL_ne L (by decide)]; exact h5, by rw [setL_self, setL_ne L (by decide), h5]; exact hB1⟩
            first | exact ⟨_, rfl, rfl, hj1, fun j v' _ _ h => TP.any j v' _ _ h⟩ | exact ⟨rfl, hj1, fun j v' _ _ h => TP.any j v' _ _ h⟩
          · intro u W L hL hJ hd
            have e0 : u 5 = .int .i64 (E.write ai X.b).1 := (hd.1 rfl (by decide)).2
            have e1 : u 11 = .int .i64 (E.write ai X.b).1 := (hd.2.1 rfl (by decide)).2
            simp only [putAll, Act.put, List.setIfInBounds_toArray, List.set_cons_succ, List.set_cons_zero, Nat.zero_add, Nat.reduceAdd]
            rw [e0, e1]
            have hj1 := hJ.light (k := 12) (by decide) (by decide)
            go_wp2
            first | exact ⟨rfl, hj1⟩ | exact ⟨_, rfl, rfl, hj1, fun j v' _ _ h => h⟩ | exact ⟨rfl, hj1, fun j v' _ _ h => h⟩ | exact rfl
        · intro u W L hall hJ hT
          have hB : Both w.heap.size r r2 pv X (.slice ba X.b.length bc) (E.write ai X.b).2 (E.write ai X.b).2 w W := by
            have := hJ.2
            rw [hall 5 (by decide), hall 11 (by decide)] at this
            exact this
          have HB := Lib.hid hB
          have e0 : u 0 = .pointer (some ⟨r, 0, none⟩) := hT 0 (by decide)
          have e1 : u 1 = .pointer (some ⟨pv, 1, none⟩) := hT 1 (by decide)
          have e2 : u 2 = .int .i64 ai := hT 2 (by decide)
          have e3 : u 3 = .pointer (some ⟨pv, 3, none⟩) := hT 3 (by decide)
          have e4 : u 4 = .slice ba X.b.length bc := hT 4 (by decide)
          have e5 : u 5 = .int .i64 (E.write ai X.b).1 := hT 5 (by decide)
          have e6 : u 6 = .pointer (some ⟨r2, 0, none⟩) := hT 6 (by decide)
          have e7 : u 7 = .pointer (some ⟨pv, 1, none⟩) := hT 7 (by decide)
          have e8 : u 8 = .int .i64 ai := hT 8 (by decide)
          have e9 : u 9 = .pointer (some ⟨pv, 3, none⟩) := hT 9 (by decide)
          have e10 : u 10 = .slice ba X.b.length bc := hT 10 (by decide)
          have e11 : u 11 = .int .i64 (E.write ai X.b).1 := hT 11 (by decide)
          have e12 : u 12 = .bool false := hT 12 (by decide)
          clear hB hJ hT hall
          simp only [List.take_succ_cons, List.take_zero, List.drop_succ_cons, List.drop_nil, putAll, Act.put, List.setIfInBounds_toArray, List.set_cons_succ, List.set_cons_zero, Nat.zero_add, Nat.reduceAdd]
          rw [e0, e1, e2, e3, e4, e5, e6, e7, e8, e9, e10, e11, e12]
          go_wp2
          go_meet
          exact ⟨_, HB.out, fs_le (HOK.out.step (Or.inr ⟨ai, X.b, rfl⟩)) rfl, write_size HOK.out ai X.b⟩
      by_cases q2 : kind = 2
      · subst q2
        clear d0 d1 d2 d3 q1
        go_wp2_with (first
          | (go_at_call 12; (with_reducible refine (HBO.out.callD (fun O hO => bsync_any w.heap.size O r E _ hO hdd)).mono ?_); rintro e W1 ⟨rfl, hB1⟩; have HB1 := Lib.hid hB1; clear hB1)
          | (go_at_call 13; (with_reducible refine (HB1.out.callE (fun O hO => brsync_to w.heap.size O r2 E _ hO hdd)).mono ?_); rintro e W2 ⟨rfl, hB2⟩; have HB2 := Lib.hid hB2; clear hB2))
        go_meet
        exact ⟨_, HB2.out, fs_le (HOK.out.step (Or.inl rfl)) rfl, sync_size HOK.out⟩
      by_cases q3 : kind = 3
      · subst q3
        clear d0 d1 d2 d3 q1 q2
        by_cases hneg : ai < 0
        · go_wp2_with ((go_at_call 14; (with_reducible refine (HBO.out.callD (fun O hO => bfuse_any w.heap.size O r E ai _ hO i0 i1)).mono ?_); rintro e W1 ⟨rfl, hB1⟩; have HB1 := Lib.hid hB1; have v1 := hB1.c1; rw [HI.out] at v1; obtain ⟨v4, f4⟩ := hB1.fz; clear hB1))
          go_meet
          refine ⟨E.light ai, ?_, Nat.le_succ _, rfl, rfl⟩
          have := HB1.out.light2 ai (-1) (light_low E) (by decide)
          rw [← light_neg E hneg] at this
          exact this
        · go_wp2_with ((go_at_call 14; (with_reducible refine (HBO.out.callD (fun O hO => bfuse_any w.heap.size O r E ai _ hO i0 i1)).mono ?_); rintro e W1 ⟨rfl, hB1⟩; have HB1 := Lib.hid hB1; have v1 := hB1.c1; rw [HI.out] at v1; obtain ⟨v4, f4⟩ := hB1.fz; clear hB1))
          go_meet
          exact ⟨E.light ai, HB1.out.light ai (light_high E (by omega)) i1, Nat.le_succ _, rfl, rfl⟩
      by_cases q4 : kind = 4
      · subst q4
        clear d0 d1 d2 d3 q1 q2 q3
        go_wp2_with (first
          | (go_at_call 15; (with_reducible refine (HBO.out.callD (fun O hO => bcrash_any w.heap.size O r E ai ak _ hO hdd i0 i1 t0 t1)).mono ?_); rintro e W1 ⟨rfl, hB1⟩; have HB1 := Lib.hid hB1; have v1 := hB1.c1; rw [HI.out] at v1; have v2 := hB1.c2; rw [HK.out] at v2; clear hB1)
          | (go_at_call 16; (with_reducible refine (HB1.out.callE (fun O hO => brcrash_any w.heap.size O r2 E ai ak _ hO hdd i1)).mono ?_); rintro e W2 ⟨rfl, hB2⟩; have HB2 := Lib.hid hB2; clear hB2))
        go_meet
        exact ⟨_, HB2.out, Nat.le_succ _, rfl, rfl⟩
      · have p1 : (kind == 1) = false := by simpa using q1
        have p2 : (kind == 2) = false := by simpa using q2
        have p3 : (kind == 3) = false := by simpa using q3
        have p4 : (kind == 4) = false := by simpa using q4
        clear d0 d1 d2 d3 q1 q2 q3 q4
        go_wp2
        go_meet
        exact ⟨E, HBO.out, Nat.le_succ _, rfl, rfl⟩
    case rest =>
      obtain ⟨E', hB, hd1, hn1, hs1⟩ := hcut
      have HB := Lib.hid hB
      obtain ⟨hnn, hss⟩ := HEn.out
      have hde' : E'.deeds ≤ i + 1 := by have := HDD.out.2; omega
      have h1000 : E'.deeds ≤ 1000000 := by omega
      rw [hnn] at hn1
      rw [hss] at hs1
      obtain ⟨y5, y6, aw, cw, y3⟩ := hB.cells
      obtain ⟨dk, hdk⟩ : ∃ k, E'.dark = k := ⟨_, rfl⟩
      obtain ⟨de, hdE⟩ : ∃ k, E'.deeds = k := ⟨_, rfl⟩
      obtain ⟨nw, hnw⟩ : ∃ k, E'.waits.length = k := ⟨_, rfl⟩
      have HDk : Hid (∀ w', Both w.heap.size r r2 pv X (.slice ba X.b.length bc) E' E' w w' → Calls Try.prog 17 #[.pointer (some ⟨r, 0, none⟩)] w' fun e w2 => e = .returned (.bool dk) ∧ Below w'.heap.size w' w2) := fun w' h => by obtain ⟨O, O2, k, _⟩ := h.ex; rw [← hdk]; exact bdark_any _ _ _ _ _ k.d
      have HDe : Hid (∀ w', Both w.heap.size r r2 pv X (.slice ba X.b.length bc) E' E' w w' → Calls Try.prog 18 #[.pointer (some ⟨r, 0, none⟩)] w' fun e w2 => e = .returned (.int .i64 (de : Int)) ∧ Below w'.heap.size w' w2) := fun w' h => by obtain ⟨O, O2, k, _⟩ := h.ex; rw [← hdE]; exact bdeeds_any _ _ _ _ _ k.d h1000
      have HWt : Hid (∀ w', Both w.heap.size r r2 pv X (.slice ba X.b.length bc) E' E' w w' → Calls Try.prog 19 #[.pointer (some ⟨r, 0, none⟩)] w' fun e w2 => e = .returned (.int .i64 (nw : Int)) ∧ Below w'.heap.size w' w2) := fun w' h => by obtain ⟨O, O2, k, _⟩ := h.ex; rw [← hnw]; exact bwaits_any _ _ _ _ _ k.d h1000
      have HBl : Hid (∀ w', Both w.heap.size r r2 pv X (.slice ba X.b.length bc) E' E' w w' → Calls Try.prog 20 #[.pointer (some ⟨r, 0, none⟩)] w' fun e w2 => e = .returned (.int .i64 (N : Int)) ∧ Below w'.heap.size w' w2) := fun w' h => by obtain ⟨O, O2, k, _⟩ := h.ex; rw [← hn1]; exact bblocks_any _ _ _ _ _ k.d
      have HSz : Hid (∀ w', Both w.heap.size r r2 pv X (.slice ba X.b.length bc) E' E' w w' → Calls Try.prog 21 #[.pointer (some ⟨r, 0, none⟩)] w' fun e w2 => e = .returned (.int .i64 (Sz : Int)) ∧ Below w'.heap.size w' w2) := fun w' h => by obtain ⟨O, O2, k, _⟩ := h.ex; rw [← hs1]; exact bsize_any _ _ _ _ _ k.d
      have HRd : Hid (∀ w' (z : Int), -9223372036854775808 ≤ z → z ≤ 9223372036854775807 → (dk = true ∨ z < 0 ∨ (N : Int) ≤ z) → Both w.heap.size r r2 pv X (.slice ba X.b.length bc) E' E' w w' → Calls Try.prog 22 #[.pointer (some ⟨r, 0, none⟩), .int .i64 z] w' fun e w2 => ∃ a c, e = .returned (.tuple #[.slice a 0 c, .int .i64 (if dk = true then 12 else 2)]) ∧ Below w'.heap.size w' w2) := fun w' z z0 z1 hz h => by
        obtain ⟨O, O2, k, _⟩ := h.ex
        refine (bread_any _ _ _ _ z _ k.d h1000 z0 z1).mono ?_
        rintro e w2 ⟨v, rfl, hA, hb⟩
        have hr : E'.read z = ([], if dk = true then 12 else 2) := by
          unfold Dsk.read
          rw [hdk, hn1]
          by_cases hd : dk = true
          · rw [if_pos hd, if_pos hd]
          · rw [if_neg hd, if_neg hd, if_pos (by rcases hz with hz | hz | hz; exact (hd hz).elim; exact Or.inl hz; exact Or.inr hz)]
        rw [hr] at hA ⊢
        obtain ⟨a, c, rfl⟩ := hA.size
        exact ⟨a, c, rfl, hb⟩
      have HAl : Hid (dk = false → ∀ w', Both w.heap.size r r2 pv X (.slice ba X.b.length bc) E' E' w w' → Calls Try.prog 23 #[.pointer (some ⟨r, 0, none⟩)] w' fun e w2 => e = .returned (.string (strOfNums E'.seen)) ∧ Below w'.heap.size w' w2) := fun hf w' h => by obtain ⟨O, O2, k, _⟩ := h.ex; exact blkall_any _ _ _ _ _ k.d (by rw [hdk]; exact hf) h1000
      have HSe : Hid (∀ w', Both w.heap.size r r2 pv X (.slice ba X.b.length bc) E' E' w w' → Calls Try.prog 24 #[.pointer (some ⟨r2, 0, none⟩)] w' fun e w2 => e = .returned (.string (strOfNums E'.seen)) ∧ Below w'.heap.size w' w2) := fun w' h => by obtain ⟨O, O2, k, _⟩ := h.ex; exact bseen_any _ _ _ _ _ k.e (by omega)
      have HNX : Hid (∀ W, Both w.heap.size r r2 pv X (.slice ba X.b.length bc) E' E' w W → ∃ (i' : Nat) (O O2 : Foot) (E : Dsk), Value.int .i64 ((i : Int) + 1) = .int .i64 (i' : Int) ∧ i' ≤ l.length ∧ i' ≤ 100 ∧ PairO w.heap.size r r2 O O2 E E w W ∧ E.deeds ≤ i' ∧ E.n = N ∧ E.size = Sz) := fun W h => by
        obtain ⟨O, O2, k, _⟩ := h.ex
        exact ⟨i + 1, O, O2, E', by go_num, by omega, by omega, k, hde', hn1, hs1⟩
      obtain ⟨SS, hSS⟩ : ∃ s, strOfNums E'.seen = s := ⟨_, rfl⟩
      rw [hSS] at HAl HSe
      have HDK := Lib.hid hdk
      rw [hdk] at y5
      rw [hdE] at y6
      rw [hnw] at y3
      have f5 := cell_regrown y5
      have f6 := cell_regrown y6
      have f3 := cell_regrown y3
      clear d0 d1 d2 d3 hB hd1 hn1 hs1 hdk hdE hnw hSS hnn hss hde' HDD HOK hdd h1000 HBO HI HK hb0 hb1 i0 i1 t0 t1 hne hne2 HEn y5 y6 y3
      go_wp2
      refine wp_region_quiet_below (by kernel_rfl) (by kernel_rfl) ?_
      repeat (quiet_step (first
        | (go_at_call 17; exact Calls.regrown_of (HDk.out _ (HB.out.after (below_regrown _ _ _))))
        | (go_at_call 18; exact Calls.regrown_of (HDe.out _ (HB.out.after (below_regrown _ _ _))))
        | (go_at_call 19; exact Calls.regrown_of (HWt.out _ (HB.out.after (below_regrown _ _ _))))
        | (go_at_call 20; exact Calls.regrown_of (HBl.out _ (HB.out.after (below_regrown _ _ _))))
        | (go_at_call 21; exact Calls.regrown_of (HSz.out _ (HB.out.after (below_regrown _ _ _))))))
      refine wpQuiet_nil ?_
      intro _ hw'
      obtain ⟨⟨dq, osq⟩, hw''⟩ := hw'
      subst hw''
      have HB3 := Lib.hid (HB.out.after (below_regrown wc dq osq))
      clear f5 f6 f3 HB
      generalize Go.Sort.grow (redrawn wc dq) osq = W3 at HB3 ⊢
      have y5 := HB3.out.cells.1
      rw [HDK.out] at y5
      cases dk with
      | true =>
        have HR0 : Hid (∀ w', Both w.heap.size r r2 pv X (.slice ba X.b.length bc) E' E' w w' → Calls Try.prog 22 #[.pointer (some ⟨r, 0, none⟩), .int .i64 0] w' fun e w2 => ∃ a c, e = .returned (.tuple #[.slice a 0 c, .int .i64 12]) ∧ Below w'.heap.size w' w2) := fun w' h => HRd.out w' 0 (by decide) (by decide) (Or.inl rfl) h
        clear HRd HAl
        go_wp2_with (go_at_call 22; (with_reducible refine (HR0.out _ HB3.out).mono ?_); rintro e W4 ⟨ra, rc, rfl, g⟩; have HB4 := Lib.hid (HB3.out.after g); clear g)
        go_roundw
        case rel => exact HNX.out _ HB4.out
        case measure => simp [intOf]; omega
      | false =>
        have HRN : Hid (∀ w', Both w.heap.size r r2 pv X (.slice ba X.b.length bc) E' E' w w' → Calls Try.prog 22 #[.pointer (some ⟨r, 0, none⟩), .int .i64 (N : Int)] w' fun e w2 => ∃ a c, e = .returned (.tuple #[.slice a 0 c, .int .i64 2]) ∧ Below w'.heap.size w' w2) := fun w' h => HRd.out w' (N : Int) (by omega) (by omega) (Or.inr (Or.inr (Int.le_refl _))) h
        have HRM : Hid (∀ w', Both w.heap.size r r2 pv X (.slice ba X.b.length bc) E' E' w w' → Calls Try.prog 22 #[.pointer (some ⟨r, 0, none⟩), .int .i64 (-1)] w' fun e w2 => ∃ a c, e = .returned (.tuple #[.slice a 0 c, .int .i64 2]) ∧ Below w'.heap.size w' w2) := fun w' h => HRd.out w' (-1) (by decide) (by decide) (Or.inr (Or.inl (by decide))) h
        have HA2 : Hid (∀ w', Both w.heap.size r r2 pv X (.slice ba X.b.length bc) E' E' w w' → Calls Try.prog 23 #[.pointer (some ⟨r, 0, none⟩)] w' fun e w2 => e = .returned (.string SS) ∧ Below w'.heap.size w' w2) := fun w' h => HAl.out rfl w' h
        clear HRd HAl
        go_wp2_with (first
          | (go_at_call 22; (with_reducible refine (HRN.out _ HB3.out).mono ?_); rintro e W4 ⟨ra, rc, rfl, g⟩; have HB4 := Lib.hid (HB3.out.after g); clear g)
          | (go_at_call 22; (with_reducible refine (HRM.out _ HB4.out).mono ?_); rintro e W5 ⟨rb, rd, rfl, g⟩; have HB5 := Lib.hid (HB4.out.after g); clear g)
          | (go_at_call 23; (with_reducible refine (HA2.out _ HB5.out).mono ?_); rintro e W6 ⟨rfl, g⟩; have HB6 := Lib.hid (HB5.out.after g); clear g)
          | (go_at_call 24; (with_reducible refine (HSe.out _ HB6.out).mono ?_); rintro e W7 ⟨rfl, g⟩; have HB7 := Lib.hid (HB6.out.after g); clear g))
        go_roundw
        case rel => exact HNX.out _ HB7.out
        case measure => simp [intOf]; omega

end Go.Proofs.Ytnndpainnoebgaa
