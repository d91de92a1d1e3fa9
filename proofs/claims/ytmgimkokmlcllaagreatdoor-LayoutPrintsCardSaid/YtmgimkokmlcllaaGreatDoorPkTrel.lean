/-
  Tokens that are printed, with gaps between: plain; what Tokens gives in one word; the law's own examples, walked.
-/
import Derived.Test.YtmgimkokmlcllaaGreatDoorPkScnY
import Derived.Test.YtmgimkokmlcllaaGreatDoorPkScnR
import Derived.Test.YtmgimkokmlcllaaGreatDoorPkTreq
import Derived.Defers
import Derived.Recover
import Derived.Test.YtmgimkokmlcllaaGreatDoorPkTrea
namespace Go.Proofs.YtmgimkokmlcllaaGreatDoor
open Go.RowKit

theorem drop_len {l : List Int} {i : Nat} {a R : List Int} (h : l.drop i = a ++ R) (ha : 0 < a.length) : i < l.length ∧ l.getD i 0 = a.getD 0 0 ∧ l.drop (i + a.length) = R := by
  have hl := congrArg List.length h
  rw [List.length_drop, List.length_append] at hl
  refine ⟨by omega, ?_, ?_⟩
  · have : l.getD i 0 = (l.drop i).getD 0 0 := by rw [List.getD_eq_getElem?_getD, List.getD_eq_getElem?_getD, List.getElem?_drop]; rfl
    rw [this, h, getD_app R ha]
  · have : l.drop (i + a.length) = (l.drop i).drop a.length := by rw [List.drop_drop]
    rw [this, h]; simp
theorem tokF_reads {l : List Int} {i : Nat} {pr R : List Int} {t : TkV} (h : l.drop i = pr ++ R) (hr : ReadsAs pr t) (hR : EndG R) : tokF l i = (tokF l (i + pr.length)).map (fun L => (t, i) :: L) := by
  obtain ⟨h1, h2, _⟩ := drop_len h hr.some
  have hp : pieceN (l.drop i) = pr.length := by rw [h]; exact hr.piece R hR
  rw [tokF_piece h1 (by rw [h2]; exact hr.gap) (by rw [h2]; exact hr.note), hp, h, List.take_left, hr.tok, if_pos rfl]
theorem tokF_blank {l : List Int} {i : Nat} {z : Int} {R : List Int} (h : l.drop i = z :: R) (hz : gapB z = true) : tokF l i = tokF l (i + 1) := by
  obtain ⟨h1, h2, _⟩ := drop_len (a := [z]) (R := R) h (by simp)
  exact tokF_gap h1 (by rw [h2]; exact hz)
theorem tokF_none {l : List Int} {i : Nat} (h : l.drop i = []) : tokF l i = .ok [] := tokF_end (by
  have := congrArg List.length h
  rw [List.length_drop] at this
  simp at this; omega)
theorem endG_gap {z : Int} {R : List Int} (h : withinB z = false) : EndG (z :: R) := fun r t e => by injection e with e1 _; rw [← e1]; exact h
theorem endG_nil : EndG [] := fun r t e => by cases e
noncomputable def outF (l : List Int) : List (TkV × Nat) × Int × Int × Int := match tokF l 0 with
  | .error (k, c) => ([], c, (spotAt l k).1, (spotAt l k).2)
  | .ok L => (L ++ [(tk0, l.length)], 0, 0, 0)
def GivesRF (l : List Int) (p : List (TkV × Nat) × Int × Int × Int) (w : World) (e : Ending) (w' : World) : Prop :=
  ∃ v, e = .returned (.tuple #[v, .agg #[.int .i64 p.2.1, .int .i64 p.2.2.1, .int .i64 p.2.2.2]]) ∧ RowK 59 5 w' w.heap.size v (toksV l p.1) ∧ Below w.heap.size w w'
def exS : ByteArray := ⟨#[49, 52, 46, 52, 32, 49, 104, 51, 48, 109, 32, 57, 57, 46, 57, 37]⟩
end Go.Proofs.YtmgimkokmlcllaaGreatDoor

/-
  Package tree's Parse: what is caught at the face.
-/
namespace Go.Proofs.YtmgimkokmlcllaaGreatDoor
open Go.RowKit

theorem list_all : ListOK 1 := by
  have l5 : ListOK 5 := list_step 5 (by decide) (by decide) (fun h => absurd h (by decide))
  have i4 : ItemOK 4 := item_step 4 (by decide) (by decide) l5
  have l4 : ListOK 4 := list_step 4 (by decide) (by decide) (fun _ => i4)
  have i3 : ItemOK 3 := item_step 3 (by decide) (by decide) l4
  have l3 : ListOK 3 := list_step 3 (by decide) (by decide) (fun _ => i3)
  have i2 : ItemOK 2 := item_step 2 (by decide) (by decide) l3
  have l2 : ListOK 2 := list_step 2 (by decide) (by decide) (fun _ => i2)
  have i1 : ItemOK 1 := item_step 1 (by decide) (by decide) l2
  exact list_step 1 (by decide) (by decide) (fun _ => i1)
structure Var1 (W : World) (p : Nat) (x : Value) : Prop where
  c : W.cell? ⟨p, 0, none⟩ = some x
  q : W.frozen? ⟨p, 0, none⟩ = false
  s : p < W.heap.size
theorem Var1.stay {W W' : World} {p : Nat} {x : Value} (h : Var1 W p x) (e : W'.heap[p]? = W.heap[p]?) (hs : W.heap.size ≤ W'.heap.size) : Var1 W' p x :=
  ⟨(World.cell?_of_block e).trans h.c, (World.frozen?_of_block e).trans h.q, Nat.lt_of_lt_of_le h.s hs⟩
theorem Var1.set {W : World} {p : Nat} {x : Value} (h : Var1 W p x) (y : Value) : Var1 (W.setCell ⟨p, 0, none⟩ y) p y := by
  obtain ⟨c, q, s⟩ := h
  refine ⟨?_, ?_, ?_⟩ <;> simp [go_sem, *]
theorem Var1.fresh (W : World) (x : Value) (t : TypeId) (p : Nat) (hp : p = W.heap.size) : Var1 (W.alloc (.cells #[x] t)) p x := by
  subst hp; exact ⟨by simp, by simp [go_sem], by simp⟩

set_option maxRecDepth 100000 in
set_option maxHeartbeats 4000000 in
/-- The deferred closure, of a frame that panics with a fault. -/
theorem catch_flies (p q : Nat) (c a b : Int) (x y z u : Value) (older : List PanicEntry) (w : World) (hp : Var1 w p u) (hq : Var3 w q x y z) (hpq : p ≠ q) :
    CallsD Tryz.prog 29 #[.pointer (some ⟨p, 0, none⟩), .pointer (some ⟨q, 0, none⟩)] (.panicking ({ v := .iface 32 (.agg #[.int .i64 c, .int .i64 a, .int .i64 b]), recovered := false } :: older)) w fun e u' w' =>
      e = .returned (.tuple #[]) ∧ u' = .panicking ({ v := .iface 32 (.agg #[.int .i64 c, .int .i64 a, .int .i64 b]), recovered := true } :: older) ∧ w' = (put3 (w.setCell ⟨p, 0, none⟩ (.slice none 0 0)) q (.int .i64 c) (.int .i64 a) (.int .i64 b)).drew := by
  obtain ⟨c0, q0, s0⟩ := hp
  have V := hq.hold (W' := w.setCell ⟨p, 0, none⟩ (.slice none 0 0)) (sset_else _ _ _ _ _ (Ne.symm hpq)) (by simp)
  obtain ⟨k0, k1, k2, r0, r1, r2, s1⟩ := hq
  obtain ⟨j0, j1, j2, t0, t1, t2, _⟩ := V
  have has : ∀ W, (Instr.typeAssert (.iface 32 (.agg #[.int .i64 c, .int .i64 a, .int .i64 b])) 20 32 false).run Tryz.prog W = .ok (.agg #[.int .i64 c, .int .i64 a, .int .i64 b]) W := fun _ => by kernel_rfl
  refine callsD_of_wpS Tryz.func29 rfl fun c₀ cs hu => ?_
  apply wpS_seq
  apply wpS_region
  simp [wpOpsS, go_sem, recoverD, hu, Tryz.ntmps29, Exit.thenS]
  apply wpS_seq
  apply wpS_region
  simp [wpOpsS, go_sem, Exit.thenS]
  refine wpS_cond (t := true) (by simp [Act.eval, Array.replicate]) ?_
  simp only [if_true]
  refine wpS_of_wp ?_
  simp only [Array.replicate_succ, Array.replicate_zero, List.push_toArray, List.append_toArray, List.nil_append, List.cons_append, List.setIfInBounds_toArray, List.set_cons_succ, List.set_cons_zero]
  go_region
  exact ⟨rfl, _, rfl, .tuple #[], by simp [results, Tryz.results29], rfl, rfl, rfl⟩
set_option maxRecDepth 100000 in
set_option maxHeartbeats 4000000 in
/-- The deferred closure, of a frame that returns. -/
theorem catch_none (p q : Addr) (w : World) :
    CallsD Tryz.prog 29 #[.pointer (some p), .pointer (some q)] .returning w fun e u' w' => e = .returned (.tuple #[]) ∧ u' = .returning ∧ w' = w := by
  refine callsD_of_wpS Tryz.func29 rfl fun c₀ cs hu => ?_
  apply wpS_seq
  apply wpS_region
  simp [wpOpsS, go_sem, recoverD, hu, Tryz.ntmps29, Exit.thenS]
  apply wpS_seq
  apply wpS_region
  simp [wpOpsS, go_sem, Exit.thenS]
  refine wpS_cond (t := false) (by simp [Act.eval, Array.replicate]) ?_
  simp only [Bool.false_eq_true, if_false]
  refine wpS_of_wp (wp_skip ?_)
  cases c₀
  simp_all [bodyPostS, results, Tryz.results29]
theorem load_list {W : World} {g : Nat} {x : Value} (h : Var1 W g x) : (loadVar 22 ⟨g, 0, none⟩).run Tryz.prog W = .ok x W := by
  obtain ⟨c, _, _⟩ := h
  go_simp
set_option maxRecDepth 100000 in
theorem parse_results {W : World} {p q : Nat} {u x y z : Value} {tmps : Array Value} (h1 : Var1 W p u) (h3 : Var3 W q x y z) (e1 : tmps.getD 2 undef = .pointer (some ⟨p, 0, none⟩)) (e2 : tmps.getD 3 undef = .pointer (some ⟨q, 0, none⟩)) : (results Tryz.f12 tmps).run Tryz.prog W = .ok (.tuple #[u, .agg #[x, y, z]]) W := by
  have a1 : (asAddr (Value.pointer (some ⟨p, 0, none⟩))).run Tryz.prog W = .ok ⟨p, 0, none⟩ W := rfl
  have a2 : (asAddr (Value.pointer (some ⟨q, 0, none⟩))).run Tryz.prog W = .ok ⟨q, 0, none⟩ W := rfl
  have hr : Tryz.f12.results = #[.cell 2 22, .cell 3 32] := rfl
  have q2 : tmps[2]?.getD undef = .pointer (some ⟨p, 0, none⟩) := by simpa using e1
  have q3 : tmps[3]?.getD undef = .pointer (some ⟨q, 0, none⟩) := by simpa using e2
  simp only [results, hr]
  simp [Sem.run_bind, Result.andThen, q2, q3, a1, a2, load_list h1, load_fault h3]
theorem tokF_err {l : List Int} : ∀ (n i k : Nat) (c : Int), l.length - i ≤ n → tokF l i = .error (k, c) → c ≠ 0
  | n, i, k, c, hn, h => by
    by_cases hi : i < l.length
    · match n, hn with
      | 0, hn => omega
      | n + 1, hn =>
        cases hg : gapB (l.getD i 0) with
        | true =>
          rw [tokF_gap hi hg] at h
          exact tokF_err n (i + 1) k c (by omega) h
        | false =>
          by_cases h35 : l.getD i 0 = 35
          · have h1 := lineEnd_one hi (by omega)
            rw [tokF_note hi h35] at h
            exact tokF_err n (lineEnd l i) k c (by omega) h
          · by_cases hc : (oneF l i).2.2 = 0
            · have hnx := oneF_next hi hc
              rw [tokF_one hi hg h35 hc hnx.1] at h
              cases hr : tokF l (oneF l i).2.1 with
              | error x =>
                obtain ⟨k2, c2⟩ := x
                rw [hr] at h
                have := tokF_err n (oneF l i).2.1 k2 c2 (by omega) hr
                injection h with h
                injection h with h1 h2
                rw [← h2]; exact this
              | ok L2 => rw [hr] at h; cases h
            · rw [tokF_bad hi hg h35 hc] at h
              injection h with h
              injection h with h1 h2
              rw [← h2]; exact hc
    · rw [tokF_end (by omega)] at h; cases h

structure FaultVar (w : World) (g : Nat) (c x y : Int) (W2 W3 : World) : Prop where
  g0 : w.heap.size = g
  a2 : w.alloc (.cells #[.int .i64 0, .int .i64 0, .int .i64 0] 32) = W2
  s3 : ((W2.setCell ⟨g, 0, none⟩ (.int .i64 c)).setCell ⟨g, 1, none⟩ (.int .i64 x)).setCell ⟨g, 2, none⟩ (.int .i64 y) = W3
  v2 : Var3 W2 g (.int .i64 0) (.int .i64 0) (.int .i64 0)
  v3 : Var3 W3 g (.int .i64 c) (.int .i64 x) (.int .i64 y)
  bel : Below w.heap.size w W3
theorem fault_var (w : World) (c x y : Int) : ∃ g W2 W3, FaultVar w g c x y W2 W3 := by
  obtain ⟨g, hg⟩ : ∃ g, w.heap.size = g := ⟨_, rfl⟩
  obtain ⟨W2, hW2⟩ : ∃ W, w.alloc (.cells #[.int .i64 0, .int .i64 0, .int .i64 0] 32) = W := ⟨_, rfl⟩
  have b2 : Below w.heap.size w W2 := by rw [← hW2]; exact (Below.refl _ _).alloc (Nat.le_refl _) _
  have V2 : Var3 W2 g (.int .i64 0) (.int .i64 0) (.int .i64 0) := by rw [← hW2]; exact Var3.fresh _ _ _ _ _ _ hg.symm
  exact ⟨g, W2, _, hg, hW2, rfl, V2, V2.put _ _ _, below_put3 b2 (by omega) _ _ _⟩

structure ParseMade (w : World) (B : Nat) (W0 W1 : World) : Prop where
  b0 : w.heap.size = B
  a0 : w.alloc (.cells #[.slice none 0 0] 22) = W0
  a1 : W0.alloc (.cells #[.int .i64 0, .int .i64 0, .int .i64 0] 32) = W1
  z0 : W0.heap.size = B + 1
  z1 : W1.heap.size = B + 2
  v1 : Var1 W1 B (.slice none 0 0)
  v2 : Var3 W1 (B + 1) (.int .i64 0) (.int .i64 0) (.int .i64 0)
  g1 : Below w.heap.size w W1
theorem parse_made (w : World) : ∃ B W0 W1, ParseMade w B W0 W1 := by
  obtain ⟨B, hB⟩ : ∃ B, w.heap.size = B := ⟨_, rfl⟩
  obtain ⟨W0, hW0⟩ : ∃ W, w.alloc (.cells #[.slice none 0 0] 22) = W := ⟨_, rfl⟩
  have V0 : Var1 W0 B (.slice none 0 0) := by rw [← hW0]; exact Var1.fresh _ _ _ _ hB.symm
  have g0 : Below w.heap.size w W0 := by rw [← hW0]; exact (Below.refl _ _).alloc (Nat.le_refl _) _
  have hs0 : W0.heap.size = B + 1 := by rw [← hW0]; simp [hB]
  obtain ⟨W1, hW1⟩ : ∃ W, W0.alloc (.cells #[.int .i64 0, .int .i64 0, .int .i64 0] 32) = W := ⟨_, rfl⟩
  have b1 : Below W0.heap.size W0 W1 := by rw [← hW1]; exact (Below.refl _ _).alloc (Nat.le_refl _) _
  refine ⟨B, W0, W1, hB, hW0, hW1, hs0, by rw [← hW1]; simp [hs0], V0.stay (b1.block B V0.s) b1.size, by rw [← hW1]; exact Var3.fresh _ _ _ _ _ _ hs0.symm, g0.trans (b1.mono (by omega))⟩
theorem Var1.after {W W' : World} {p : Nat} {x : Value} (h : Var1 W p x) (hb : Below W.heap.size W W') : Var1 W' p x := h.stay (hb.block p h.s) hb.size
theorem caught {w w2 : World} {B : Nat} {u x y z : Value} {c a b : Int} (h1 : Var1 w2 B u) (h3 : Var3 w2 (B + 1) x y z) (hb : Below w.heap.size w w2) (hB : w.heap.size = B) :
    Var1 (put3 (w2.setCell ⟨B, 0, none⟩ (.slice none 0 0)) (B + 1) (.int .i64 c) (.int .i64 a) (.int .i64 b)).drew B (.slice none 0 0) ∧ Var3 (put3 (w2.setCell ⟨B, 0, none⟩ (.slice none 0 0)) (B + 1) (.int .i64 c) (.int .i64 a) (.int .i64 b)).drew (B + 1) (.int .i64 c) (.int .i64 a) (.int .i64 b) ∧
      Below w.heap.size w (put3 (w2.setCell ⟨B, 0, none⟩ (.slice none 0 0)) (B + 1) (.int .i64 c) (.int .i64 a) (.int .i64 b)).drew := by
  have hb1 : Below w.heap.size w (w2.setCell ⟨B, 0, none⟩ (.slice none 0 0)) := hb.setCell (by show w.heap.size ≤ B; omega) _
  have v3 := h3.hold (W' := w2.setCell ⟨B, 0, none⟩ (.slice none 0 0)) (sset_else _ _ _ _ _ (by omega)) (by simp)
  have p3 : ∀ j, j ≠ B + 1 → (put3 (w2.setCell ⟨B, 0, none⟩ (.slice none 0 0)) (B + 1) (.int .i64 c) (.int .i64 a) (.int .i64 b)).heap[j]? = (w2.setCell ⟨B, 0, none⟩ (.slice none 0 0)).heap[j]? := fun j hj => by
    unfold put3
    rw [sset_else _ _ _ _ _ hj, sset_else _ _ _ _ _ hj, sset_else _ _ _ _ _ hj]
  have s3 : (put3 (w2.setCell ⟨B, 0, none⟩ (.slice none 0 0)) (B + 1) (.int .i64 c) (.int .i64 a) (.int .i64 b)).heap.size = (w2.setCell ⟨B, 0, none⟩ (.slice none 0 0)).heap.size := by unfold put3; simp
  exact ⟨((h1.set _).stay (p3 B (by omega)) (Nat.le_of_eq s3.symm)).after (Below.refl _ _).drew, (v3.put _ _ _).after (Below.refl _ _).drew, (below_put3 hb1 (by omega) _ _ _).drew⟩

set_option maxRecDepth 100000 in
set_option maxHeartbeats 8000000 in
/-- A source whose tokens are wrong. -/
theorem parse_bad (s : ByteArray) (w : World) (c x y : Int) (hc : c ≠ 0) (hT : ∀ W, Below w.heap.size w W → Calls Tryz.prog 30 #[.string s] W fun e w' => e = .returned (.tuple #[.slice none 0 0, .agg #[.int .i64 c, .int .i64 x, .int .i64 y]]) ∧ Below W.heap.size W w') :
    Calls Tryz.prog 12 #[.string s] w fun e w' => e = .returned (.tuple #[.slice none 0 0, .agg #[.int .i64 c, .int .i64 x, .int .i64 y]]) ∧ Below w.heap.size w w' := by
  obtain ⟨B, W0, W1, pm⟩ := parse_made w
  have HT := Lib.hid (hT W1 pm.g1)
  have HPM := Lib.hid pm
  have hb0 := pm.b0; have ha0 := pm.a0; have ha1 := pm.a1; have hz0 := pm.z0
  have hcb : (c != 0) = true := by simpa using hc
  have hmf : ∀ (fn : Fn) (first cap : Array Value) (w : World), (Instr.makeFunc fn first cap).run Tryz.prog w = .ok (.func fn first cap) w := fun _ _ _ _ => rfl
  have HB0 := Lib.hid hb0
  clear pm hc hT
  go_enter_defers Tryz.func12, Tryz.ntmps12
  go_wp2_with (go_at_call 30; (with_reducible refine (HT.out).mono ?_); rintro e w2 ⟨rfl, g2⟩; have G2 := Lib.hid g2; obtain ⟨f2, U2, U3, fm2⟩ := fault_var w2 c x y; have hf2 := fm2.g0; have ha2 := fm2.a2; have hs2 := fm2.s3; have c0 := fm2.v2.c0; have c1 := fm2.v2.c1; have c2 := fm2.v2.c2; have q0 := fm2.v2.q0; have q1 := fm2.v2.q1; have q2 := fm2.v2.q2; have d0 := fm2.v3.c0; have d1 := fm2.v3.c1; have d2 := fm2.v3.c2; have HFM := Lib.hid fm2; clear g2 fm2)
  have GV := HPM.out.g1.trans (G2.out.mono (by have := HPM.out.z1; have := HPM.out.b0; omega))
  have GU := GV.trans (HFM.out.bel.mono (by have := GV.size; omega))
  have V1 := (HPM.out.v1.after G2.out).after HFM.out.bel
  have V2 := (HPM.out.v2.after G2.out).after HFM.out.bel
  have HCA := Lib.hid (caught (c := c) (a := x) (b := y) V1 V2 GU HB0.out)
  refine leaves_cons (f := 29) (args := #[.pointer (some ⟨B, 0, none⟩), .pointer (some ⟨B + 1, 0, none⟩)]) (by simp) (by simp [go_sem]) ?_
  refine (catch_flies B (B + 1) c x y _ _ _ _ [] _ V1 V2 (by omega)).mono ?_
  rintro e u' w'' ⟨rfl, rfl, rfl⟩
  exact ⟨_, parse_results HCA.out.1 HCA.out.2.1 rfl rfl, rfl, HCA.out.2.2⟩

set_option maxRecDepth 100000 in
set_option maxHeartbeats 8000000 in
/-- A source whose tokens are right. -/
theorem parse_toks (s : ByteArray) (w : World) (T : List Tk3) (hTE : TEnd T) (hT : ∀ W, Below w.heap.size w W → Calls Tryz.prog 30 #[.string s] W fun e w' => ∃ v, e = .returned (.tuple #[v, .agg #[.int .i64 0, .int .i64 0, .int .i64 0]]) ∧ RowK 59 5 w' W.heap.size v (T.map tkV) ∧ Below W.heap.size W w') :
    Calls Tryz.prog 12 #[.string s] w (GivesTre (trF T [({}, [])] 0 none) w) := by
  obtain ⟨B, W0, W1, pm⟩ := parse_made w
  have HT := Lib.hid (hT W1 pm.g1)
  have HTE := Lib.hid hTE
  have HPM := Lib.hid pm
  have hb0 := pm.b0; have ha0 := pm.a0; have ha1 := pm.a1; have hz0 := pm.z0
  have hmf : ∀ (fn : Fn) (first cap : Array Value) (w : World), (Instr.makeFunc fn first cap).run Tryz.prog w = .ok (.func fn first cap) w := fun _ _ _ _ => rfl
  have HB0 := Lib.hid hb0
  have HLA : Hid (∀ (w : World) (rb : Nat) (T : List Tk3) (n : Nat), RdM w rb T n → TEnd T → n ≤ 300 → Calls Tryz.prog 31 #[.pointer (some ⟨rb, 0, none⟩), .int .i64 1] w (GivesL 1 w rb T n)) := Lib.hid list_all
  clear pm hT hTE
  go_enter_defers Tryz.func12, Tryz.ntmps12
  go_wp2_with (go_at_call 30; (with_reducible refine (HT.out).mono ?_))
  rintro e w2 ⟨v, rfl, r2, g2⟩
  obtain ⟨f2, U2, U3, fm2⟩ := fault_var w2 0 0 0
  have hf2 := fm2.g0; have ha2 := fm2.a2; have hs2 := fm2.s3; have c0 := fm2.v2.c0; have c1 := fm2.v2.c1; have c2 := fm2.v2.c2; have q0 := fm2.v2.q0; have q1 := fm2.v2.q1; have q2 := fm2.v2.q2; have d0 := fm2.v3.c0; have d1 := fm2.v3.c1; have d2 := fm2.v3.c2
  have hz3 : U3.heap.size = f2 + 1 := by rw [← hs2, ← ha2]; simp [hf2]
  obtain ⟨av, cv, rfl⟩ := r2.size
  rw [List.length_map] at *
  obtain ⟨W5, hW5⟩ : ∃ W, U3.alloc (.cells #[.slice none 0 0, .int .i64 0] 63) = W := ⟨_, rfl⟩
  have V5 : Var2 W5 (f2 + 1) (.slice none 0 0) (.int .i64 0) := by rw [← hW5]; exact Var2.fresh _ _ _ _ _ hz3.symm
  have b5 : Below U3.heap.size U3 W5 := by rw [← hW5]; exact (Below.refl _ _).alloc (Nat.le_refl _) _
  obtain ⟨W6, hW6⟩ : ∃ W, put2 W5 (f2 + 1) (.slice av T.length cv) (.int .i64 0) = W := ⟨_, rfl⟩
  have hW6' : (W5.setCell ⟨f2 + 1, 0, none⟩ (.slice av T.length cv)).setCell ⟨f2 + 1, 1, none⟩ (.int .i64 0) = W6 := hW6
  have V6 : Var2 W6 (f2 + 1) (.slice av T.length cv) (.int .i64 0) := by rw [← hW6]; exact V5.put _ _
  have k5 : ∀ i, i < f2 + 1 → W6.heap[i]? = U3.heap[i]? := fun i hi => by rw [← hW6, put2_else _ _ _ _ _ (by omega)]; exact b5.block i (by omega)
  have z6 : W6.heap.size = f2 + 2 := by rw [← hW6, put2_size, ← hW5]; simp [hz3]
  have GV : Below w.heap.size w w2 := HPM.out.g1.trans (g2.mono (by have := HPM.out.z1; have := HPM.out.b0; omega))
  have hle : w.heap.size ≤ f2 := by have := GV.size; omega
  have GU := GV.trans (fm2.bel.mono (by omega))
  have GW : Below w.heap.size w W6 := GU.trans (by
    rw [← hW6]
    exact below_put2 ((Below.refl _ _).trans (b5.mono (by omega))) (by omega) _ _)
  have R3 : RowK 59 5 U3 W1.heap.size (.slice av T.length cv) (T.map tkV) := r2.below fm2.bel
  have HRD : Hid (RdM W6 (f2 + 1) T 0) := Lib.hid ⟨_, V6, RowK.words (R3.kept (fun b hb => k5 b (by have := (R3.lt hb).2; omega))) (fun b hb => by have := (R3.lt hb).2; omega)⟩
  have V1 : Var1 W6 B (.slice none 0 0) := ((HPM.out.v1.after g2).after fm2.bel).stay (k5 B (by have := HPM.out.b0; omega)) (by omega)
  have V2 : Var3 W6 (B + 1) (.int .i64 0) (.int .i64 0) (.int .i64 0) := ((HPM.out.v2.after g2).after fm2.bel).hold (k5 (B + 1) (by have := HPM.out.z1; have := g2.size; omega)) (by omega)
  have HV1 := Lib.hid V1
  have HV2 := Lib.hid V2
  have HGW := Lib.hid GW
  have HBF : Hid (B + 2 ≤ f2) := Lib.hid (by have := HPM.out.z1; have := g2.size; omega)
  have HZ6 := Lib.hid z6
  have x0 := V5.c0; have x1 := V5.c1; have y0 := V5.q0; have y1 := V5.q1
  have HCALL := Lib.hid (HLA.out W6 (f2 + 1) T 0 HRD.out HTE.out (by decide))
  clear r2 g2 fm2 V5 b5 V6 k5 z6 GV hle GU GW R3 V1 V2 hW6
  go_wp2_with (go_at_call 31; (with_reducible refine (HCALL.out).mono ?_))
  intro e w3 hl
  obtain ⟨ho, hl⟩ := hl
  have VV1 := HV1.out.stay (ho.keep B HV1.out.s (fun e => by have := HBF.out; omega)) ho.size
  have VV2 := HV2.out.hold (ho.keep (B + 1) HV2.out.s (fun e => by have := HBF.out; omega)) ho.size
  have hG3 : Below w.heap.size w w3 := HGW.out.trans (ho.bel.mono (by have := HBF.out; have := HB0.out; omega))
  rcases hl with ⟨c, a, b, hbad, rfl⟩ | ⟨L, v, T', n', rfl, hdone, hit, _⟩
  · have HBAD := Lib.hid hbad.all
    have HCA := Lib.hid (caught (c := c) (a := a) (b := b) VV1 VV2 hG3 HB0.out)
    have HVV1 := Lib.hid VV1
    have HVV2 := Lib.hid VV2
    unfold flies
    clear VV1 VV2 hG3 ho hbad
    go_wp2
    refine leaves_cons (f := 29) (args := #[.pointer (some ⟨B, 0, none⟩), .pointer (some ⟨B + 1, 0, none⟩)]) (by simp) (by simp [go_sem]) ?_
    refine (catch_flies B (B + 1) c a b _ _ _ _ [] _ HVV1.out HVV2.out (by omega)).mono ?_
    rintro e u' w'' ⟨rfl, rfl, rfl⟩
    exact ⟨_, parse_results HCA.out.1 HCA.out.2.1 rfl rfl, HCA.out.2.2, Or.inl ⟨c, a, b, HBAD.out, rfl⟩⟩
  · obtain ⟨al, cl, rfl⟩ := hit.size
    have HIT := Lib.hid hit
    have HDO := Lib.hid hdone.all
    obtain ⟨W7, hW7⟩ : ∃ W, w3.setCell ⟨B, 0, none⟩ (.slice al L.length cl) = W := ⟨_, rfl⟩
    have v1 : Var1 W7 B (.slice al L.length cl) := by rw [← hW7]; exact VV1.set _
    have v2 : Var3 W7 (B + 1) (.int .i64 0) (.int .i64 0) (.int .i64 0) := by rw [← hW7]; exact VV2.hold (sset_else _ _ _ _ _ (by omega)) (by simp)
    have hG7 : Below w.heap.size w W7 := by rw [← hW7]; exact hG3.setCell (by show w.heap.size ≤ B; omega) _
    have p3 : ∀ j, j ≠ B + 1 → (put3 W7 (B + 1) (.int .i64 0) (.int .i64 0) (.int .i64 0)).heap[j]? = W7.heap[j]? := fun j hj => by
      unfold put3
      rw [sset_else _ _ _ _ _ hj, sset_else _ _ _ _ _ hj, sset_else _ _ _ _ _ hj]
    have s3 : (put3 W7 (B + 1) (.int .i64 0) (.int .i64 0) (.int .i64 0)).heap.size = w3.heap.size := by unfold put3; rw [← hW7]; simp
    have HF1 := Lib.hid (v1.stay (p3 B (by omega)) (by rw [s3, ← hW7]; simp))
    have HF2 := Lib.hid (v2.put (.int .i64 0) (.int .i64 0) (.int .i64 0))
    have HFB : Hid (Below w.heap.size w (put3 W7 (B + 1) (.int .i64 0) (.int .i64 0) (.int .i64 0))) := Lib.hid (below_put3 hG7 (by omega) _ _ _)
    have HFI : Hid (ItemsIs 5 (put3 W7 (B + 1) (.int .i64 0) (.int .i64 0) (.int .i64 0)) (fun b => w.heap.size ≤ b ∧ b < (put3 W7 (B + 1) (.int .i64 0) (.int .i64 0) (.int .i64 0)).heap.size) (.slice al L.length cl) L) := Lib.hid (by
      have hz := HZ6.out
      have hf := HBF.out
      refine ItemsIs.keep (S := fun b => W6.heap.size ≤ b ∧ b < w3.heap.size) HIT.out (fun b hb => ⟨by omega, by rw [s3]; exact hb.2⟩) (fun b hb => (p3 b (by omega)).trans (by rw [← hW7]; exact sset_else _ _ _ _ _ (by omega)))
    )
    have e0 := VV1.c; have e1 := VV1.q
    have j0 := v2.c0; have j1 := v2.c1; have j2 := v2.c2; have u0 := v2.q0; have u1 := v2.q1; have u2 := v2.q2
    clear VV1 VV2 v1 v2 hG7 hG3 p3 s3 hit hdone ho
    go_wp2
    refine leaves_cons (f := 29) (args := #[.pointer (some ⟨B, 0, none⟩), .pointer (some ⟨B + 1, 0, none⟩)]) (by simp) (by simp [go_sem]) ?_
    refine (catch_none _ _ _).mono ?_
    rintro e u' w'' ⟨rfl, rfl, rfl⟩
    exact ⟨_, parse_results HF1.out HF2.out rfl rfl, HFB.out, Or.inr ⟨L, _, HDO.out, rfl, HFI.out⟩⟩

theorem toks_end {l : List Int} {L : List (TkV × Nat)} (h : tokF l 0 = .ok L) : TEnd (L.map (tk3 l) ++ [tk3 l (tk0, l.length)]) :=
  ⟨_, _, rfl, rfl, fun t ht => by
    obtain ⟨x, hx, rfl⟩ := List.mem_map.mp ht
    exact (tk3_good (tokF_good l _ _ L (Nat.le_refl _) h x hx)).1⟩
theorem toksV_end (l : List Int) (L : List (TkV × Nat)) : toksV l (L ++ [(tk0, l.length)]) = (L.map (tk3 l) ++ [tk3 l (tk0, l.length)]).map tkV := by
  rw [toksV_tk3, List.map_append]; rfl
theorem parse_any (s : ByteArray) (w : World) (env : Env w) : Calls Tryz.prog 12 #[.string s] w (GivesTre (treR s) w) := by
  by_cases h : s.size ≤ 40000
  · have e : treR s = treF (runesOf (nums s)) := if_pos h
    rw [e]
    obtain ⟨l, hl⟩ : ∃ l, runesOf (nums s) = l := ⟨_, rfl⟩
    have hp : ∀ W, Below w.heap.size w W → Calls Tryz.prog 30 #[.string s] W (GivesToks l W) := fun W hW => by rw [← hl]; exact ptoks_any s W (env.step hW) h
    rw [hl]
    cases ht : tokF l 0 with
    | error x =>
      obtain ⟨k, c⟩ := x
      rw [treF_bad ht]
      refine (parse_bad s w c (spotAt l k).1 (spotAt l k).2 (tokF_err l.length 0 k c (by omega) ht) (fun W hW => (hp W hW).mono ?_)).mono ?_
      · rintro e w' ⟨hb, h | h⟩
        · obtain ⟨k2, c2, h2, rfl⟩ := h
          rw [ht] at h2
          injection h2 with h2
          injection h2 with h3 h4
          subst h3 h4
          exact ⟨rfl, hb⟩
        · obtain ⟨L, v, h2, _⟩ := h
          rw [ht] at h2; cases h2
      · rintro e w' ⟨rfl, hb⟩
        exact ⟨hb, Or.inl ⟨_, _, _, rfl, rfl⟩⟩
    | ok L =>
      rw [treF_fine ht]
      refine parse_toks s w _ (toks_end ht) (fun W hW => (hp W hW).mono ?_)
      rintro e w' ⟨hb, h | h⟩
      · obtain ⟨k2, c2, h2, _⟩ := h
        rw [ht] at h2; cases h2
      · obtain ⟨L2, v, h2, rfl, hr⟩ := h
        rw [ht] at h2
        injection h2 with h2
        subst h2
        rw [toksV_end] at hr
        exact ⟨v, rfl, hr, hb⟩
  · have e : treR s = .error (9, 1, 1) := if_neg h
    rw [e]
    refine (parse_bad s w 9 1 1 (by decide) (fun W _ => ptoks_long s W (by omega))).mono ?_
    rintro e w' ⟨rfl, hb⟩
    exact ⟨hb, Or.inl ⟨_, _, _, rfl, rfl⟩⟩

end Go.Proofs.YtmgimkokmlcllaaGreatDoor

/-
  The chapter's example of a tree: plain.
-/
namespace Go.Proofs.YtmgimkokmlcllaaGreatDoor

def exT : ByteArray := ⟨#[114, 117, 108, 101, 32, 97, 32, 112, 97, 103, 101, 32, 123, 32, 102, 111, 114, 32, 50, 109, 59, 32, 125]⟩
theorem ex_2m : spn 120 = [50, 109] := by
  have e2 : dec 2 = [50] := by rw [dec_small (by decide)]; rfl
  unfold spn
  rw [if_neg (by decide)]
  simp [units, sp, unitOf, e2]
theorem reads_plain {zs : List Int} (hb : ∀ z ∈ zs, 0 ≤ z ∧ z ≤ 127) (h : NameL zs) : ReadsAs zs ⟨1, zs, 0⟩ := by
  have e : runesOf zs = zs := runes_of_ascii (by simpa using fun z hz => (by have := hb z hz; omega))
  have := reads_name (zs := zs) (fun z hz => by have := hb z hz; omega) (by rw [e]; exact h)
  rw [e] at this
  exact this
def exToks : List (TkV × Nat) := [(⟨1, [114, 117, 108, 101], 0⟩, 0), (⟨1, [97], 0⟩, 5), (⟨1, [112, 97, 103, 101], 0⟩, 7), (⟨7, [], 0⟩, 12), (⟨1, [102, 111, 114], 0⟩, 14), (⟨6, [], 120⟩, 18), (⟨9, [], 0⟩, 20), (⟨8, [], 0⟩, 22)]
end Go.Proofs.YtmgimkokmlcllaaGreatDoor

/-
  The chapter's example of a tree, walked.
-/
namespace Go.Proofs.YtmgimkokmlcllaaGreatDoor
open Go.RowKit

end Go.Proofs.YtmgimkokmlcllaaGreatDoor
