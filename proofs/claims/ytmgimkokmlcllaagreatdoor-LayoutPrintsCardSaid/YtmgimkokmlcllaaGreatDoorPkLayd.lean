/-
  Package layout as it landed: the items of a tree, each with its depth, by a function: walked. A range over it, whose body changes what is its own.
-/
import Derived.Test.YtmgimkokmlcllaaGreatDoorPkTrem
import Derived.Test.YtmgimkokmlcllaaGreatDoorPkTrep
import Derived.Test.YtmgimkokmlcllaaGreatDoorPkTrev
import Derived.RangeFuncNested
import Derived.RangeFuncLeaves
import Derived.RangeFuncBound
import Derived.Shelf.Abstract
import Derived.Shelf.RegionOpen
import Derived.WalkKit
import Derived.OwnWalkIn
import Derived.TacticsInMore
import Derived.LoopNIn
import Derived.LoopIn
namespace Go.Proofs.YtmgimkokmlcllaaGreatDoor
open Go.RowKit Go.Shelf

def flatL : Nat → List It → List (Nat × It)
  | _, [] => []
  | d, .mk n w k kids a b :: l => (d, .mk n w k kids a b) :: (flatL (d + 1) kids ++ flatL d l)
theorem flatL_len : ∀ (L : List It) (d : Nat), (flatL d L).length = cntL L
  | [], d => by simp [flatL, cntL]
  | .mk n w k kids a b :: l, d => by
    rw [flatL, cntL, List.length_cons, List.length_append, flatL_len kids, flatL_len l]; omega
theorem flatL_app (d : Nat) : ∀ (l m : List It), flatL d (l ++ m) = flatL d l ++ flatL d m
  | [], m => by simp [flatL]
  | .mk n w k kids a b :: l, m => by
    rw [List.cons_append, flatL, flatL, flatL_app d l m]; simp
theorem flatL_one (d : Nat) (x : It) : flatL d [x] = (d, x) :: flatL (d + 1) x.kids := by
  obtain ⟨n, w, k, kids, a, b⟩ := x
  simp [flatL, It.kids]
theorem cntK_take (L : List It) : ∀ i, i ≤ L.length → cntK L i = cntL (L.take i)
  | 0, _ => by simp [cntK, cntL]
  | i + 1, h => by
    have e : ∀ x : It, cntL [x] = 1 + cntL x.kids := fun x => by obtain ⟨n, w, k, kids, a, b⟩ := x; simp [cntL, It.kids]
    rw [cntK, cntK_take L i (by omega), tk_take (by omega), cntL_app, e]; omega
theorem take_split {L : List It} {i : Nat} (hi : i < L.length) : L = L.take i ++ ([L.getD i default] ++ L.drop (i + 1)) := by
  rw [← List.append_assoc, ← tk_take hi, List.take_append_drop]
theorem flatL_at {L : List It} {i d : Nat} (hi : i < L.length) : (flatL d L)[cntK L i]? = some (d, L.getD i default) := by
  have e := congrArg (flatL d) (take_split hi)
  rw [flatL_app, flatL_app, flatL_one] at e
  rw [e, cntK_take L i (by omega), ← flatL_len (L.take i) d, List.getElem?_append_right (Nat.le_refl _), Nat.sub_self]; rfl
theorem flatL_kid {L : List It} {i d : Nat} (hi : i < L.length) (j : Nat) (hj : j < cntL (L.getD i default).kids) : (flatL d L)[cntK L i + 1 + j]? = (flatL (d + 1) (L.getD i default).kids)[j]? := by
  have e := congrArg (flatL d) (take_split hi)
  rw [flatL_app, flatL_app, flatL_one] at e
  rw [e, cntK_take L i (by omega), ← flatL_len (L.take i) d, List.getElem?_append_right (by omega)]
  have h1 : (flatL d (L.take i)).length + 1 + j - (flatL d (L.take i)).length = j + 1 := by omega
  rw [h1, List.cons_append, List.getElem?_cons_succ, List.getElem?_append_left (by rw [flatL_len]; exact hj)]
theorem depK_at {L : List It} {i : Nat} (hi : i < L.length) : 1 + depL (L.getD i default).kids ≤ depL L := by
  have := depK_mono L (i := i + 1) (j := L.length) hi
  rw [depK_all, depK] at this
  omega

structure Keeps (B : Nat) (V V' : World) : Prop where
  size : V.heap.size ≤ V'.heap.size
  same : ∀ i o, B ≤ i → V.heap[i]? = some o → (∀ c fz, o ≠ .cells c 5 fz) → V'.heap[i]? = some o
theorem Keeps.refl (B : Nat) (V : World) : Keeps B V V := ⟨Nat.le_refl _, fun _ _ _ h _ => h⟩
theorem Keeps.trans {B : Nat} {a b c : World} (h : Keeps B a b) (g : Keeps B b c) : Keeps B a c := ⟨Nat.le_trans h.size g.size, fun i o h1 h2 h3 => g.same i o h1 (h.same i o h1 h2 h3) h3⟩
theorem Keeps.of {B : Nat} {V V' : World} (h : Below V.heap.size V V') : Keeps B V V' := ⟨h.size, fun i _ _ hi _ => (h.block i (Array.getElem?_eq_some_iff.1 hi).1).trans hi⟩
theorem Keeps.at {B : Nat} {V V' : World} (hs : V.heap.size ≤ V'.heap.size) (h : ∀ i, B ≤ i → i < V.heap.size → V'.heap[i]? = V.heap[i]?) : Keeps B V V' := ⟨hs, fun i _ h1 h2 _ => (h i h1 (Array.getElem?_eq_some_iff.1 h2).1).trans h2⟩
theorem Keeps.cell {B : Nat} {V V' : World} (h : Keeps B V V') {q : Nat} (hq : B ≤ q) (ht : ∃ c t fz, V.heap[q]? = some (.cells c t fz) ∧ t ≠ 5) : V'.heap[q]? = V.heap[q]? := by
  obtain ⟨c, t, fz, h1, h2⟩ := ht
  rw [h1]
  exact h.same q _ hq h1 (fun c' fz' e => h2 (by cases e; rfl))
theorem put6_obj {W : World} {p : Nat} {c : Array Value} {t : TypeId} {fz : Nat × Nat} (h : W.heap[p]? = some (.cells c t fz)) (y0 y1 y2 y3 y4 y5 : Value) : ∃ c', (put6 W p y0 y1 y2 y3 y4 y5).heap[p]? = some (.cells c' t fz) := by
  unfold put6
  simp [World.setCell, Array.getElem?_modify, h]
structure Fl where
  d : Nat
  x : It
  wv : Value
  kv : Value
def Fl.item (p : Fl) : Value := .agg #[.string p.x.name, p.wv, .bool p.x.block, p.kv, .int .i64 p.x.a, .int .i64 p.x.b]
def Fl.enc (p : Fl) : Array Value := #[.int .i64 (p.d : Int), p.item]
structure FlAt (w : World) (S : Nat → Prop) (F : List (Nat × It)) (k : Nat) (p : Fl) : Prop where
  here : F[k]? = some (p.d, p.x)
  ws : WordsIs w S p.wv p.x.words
  ks : ∃ D, ItemsIs D w S p.kv p.x.kids
def RangesT (F : Fence) (n : Nat) (P : Program) (gf : Nat) (lb : Array Value) (G : Nat → Fl → Prop) (m : Nat) (Kc : World → Prop) : Prop :=
  ∀ (l : Nat) (J : Nat → World → Prop) (Jx : World → Prop) (W : World), (∀ k V, J k V → Kc V) → (∀ k V V', J k V → Below V.heap.size V V' → J k V') →
    (∀ k p V n', J k V → k < m → G k p → YieldAt F n' P l p.enc V fun e V' => (e = .returned (.bool true) ∧ J (k + 1) V' ∧ Keeps W.heap.size V V') ∨ (e = .returned (.bool false) ∧ Jx V')) → J 0 W →
    CallsIn F n P gf (#[.func (.yield l) #[] #[]] ++ lb) W fun e V' => (∃ v, e = .returned v) ∧ (J m V' ∨ Jx V')
def roundEndT (B : Nat) (I Ix : World → Prop) (V : World) : Exit → Act → World → Prop
  | .normal, _, V' => I V' ∧ V'.heap[B]? = V.heap[B]? ∧ V'.heap[B + 1]? = V.heap[B + 1]? ∧ Keeps (B + 2) V V'
  | .ret, _, V' => Ix V' ∧ V'.heap[B]? = V.heap[B]? ∧ V'.heap[B + 1]? = V.heap[B + 1]?
  | _, _, _ => False
theorem wide_depth (k : Nat) : Fence.wide.depth.isSome = true → 1 ≤ k := fun h => by have e : Fence.wide.depth.isSome = false := rfl; rw [e] at h; cases h
theorem anyDepth_room {F : Fence} (hd : F.depth = none) (k : Nat) : F.room k := fun d h => by rw [hd] at h; cases h
theorem keeps_putObj (V : World) (l B : Nat) (o : Obj) (h : l < B) : Keeps B V (V.putObj l o) := Keeps.at (by rw [World.putObj_size]; exact Nat.le_refl _) (fun i hi _ => World.putObj_heap_other (by omega))
theorem wp_rangeT {P : Program} {n : Nat} {g : Operand} {ps : Array Tmp} {assign body : Code} {Q : Exit → Act → World → Prop} {a : Act} {w : World}
    (h1 : 1 ≤ n) {gf : Nat} {lb : Array Value} (hg : a.eval g = .func (.func gf) #[] lb) (eg : ∀ args w, (callFunc gf args).run P w = .ok (.enter gf args) w)
    (hps : ps.size = 2) {G : Nat → Fl → Prop} {m : Nat} {Kc : World → Prop} (hit : RangesT Fence.wide (n - 1) P gf lb G m Kc)
    (I : Nat → World → Prop) (Ix : World → Prop) (hIK : ∀ k V, I k V → Kc V) (hIB : ∀ k V V', I k V → Below V.heap.size V V' → I k V')
    (hI : ∀ k V (o x : Loop), V.heap[w.heap.size + 1]? = some (.loop x) → I k V → I k (V.putObj (w.heap.size + 1) (.loop o))) (hIx : ∀ V (o x : Loop), V.heap[w.heap.size + 1]? = some (.loop x) → Ix V → Ix (V.putObj (w.heap.size + 1) (.loop o))) (h0 : ∀ o1 o2, I 0 ((w.alloc o1).alloc o2)) (a1 : Fl → Nat → Act) (AP : Fl → Nat → World → Prop) (hAP : ∀ p q V o, AP p q V → AP p q (V.putObj (w.heap.size + 1) o))
    (hassign : ∀ k p V (K : Act → World → Prop), G k p → w.heap.size + 2 ≤ V.heap.size → (∀ q V', Below V.heap.size V V' → AP p q V' → K (a1 p q) V') → assign.wpIn (Fence.wide.inRound (w.heap.size + 1)) (n - 1 - 1) P (Exit.then K (fun _ _ _ => False)) { tmps := (ps.zip p.enc).foldl (fun t (p, v) => t.setIfInBounds p v) a.tmps, defers := [] } V)
    (hbody : ∀ k p q V, I k V → k < m → G k p → AP p q V → w.heap.size + 2 ≤ V.heap.size → (∃ x, V.heap[w.heap.size]? = some (.deferred x)) → (∃ x, V.heap[w.heap.size + 1]? = some (.loop x)) → body.wpIn (Fence.wide.inRound (w.heap.size + 1)) (n - 1 - 1) P (roundEndT w.heap.size (I (k + 1)) Ix V) (a1 p q) V)
    (hdone : ∀ V, I m V → V.heap[w.heap.size]? = some (.deferred (some [])) → Q .normal { a with defers := { target := .collected w.heap.size, args := #[] } :: a.defers } V)
    (hstop : ∀ V, Ix V → V.heap[w.heap.size]? = some (.deferred (some [])) → Code.ret.wpIn Fence.wide n P Q { a with defers := { target := .collected w.heap.size, args := #[] } :: a.defers } V) :
    (Code.rangeFunc g ps assign body).wpIn Fence.wide n P Q a w := by
  refine wpIn_rangeFunc ?_
  intro fn hfn
  have hro : Fence.wide.round = none := rfl
  rw [hro]
  obtain ⟨rec, hrec⟩ : ∃ rec : LoopState → Option Code → Loop, rec = fun st pe => { state := st, pending := pe, fn, tmps := a.tmps, params := ps, assign, body, defers := w.heap.size } := ⟨_, rfl⟩
  obtain ⟨W1, hW1⟩ : ∃ W1, (w.alloc (.deferred (some []))).alloc (.loop (rec .ready none)) = W1 := ⟨_, rfl⟩
  have hL1 : W1.heap[w.heap.size + 1]? = some (.loop (rec .ready none)) := by
    rw [← hW1]; have := World.alloc_heap_new (w.alloc (.deferred (some []))) (.loop (rec .ready none)); rwa [World.size_alloc] at this
  have hK1 : W1.heap[w.heap.size]? = some (.deferred (some [])) := by
    rw [← hW1]; exact (Below.heap_alloc _ _ _ (by simp)).trans (World.alloc_heap_new w _)
  have hs1 : W1.heap.size = w.heap.size + 2 := by rw [← hW1]; simp
  have hI1 : I 0 W1 := by rw [← hW1]; exact h0 _ _
  refine ⟨w.heap.size + 1, [{ target := .collected w.heap.size, args := #[] }], W1, { target := .fn (.func gf) lb, args := #[.func (.yield (w.heap.size + 1)) #[] #[]] }, W1, gf,
    #[.func (.yield (w.heap.size + 1)) #[] #[]] ++ lb, W1, ?_, ?_, ?_, ?_, fun _ => h1, ?_⟩
  · rw [← hW1, hrec]; exact run_enterLoop_outer _ _ _ _ _
  · simp only [resolve, hg]
    simp [go_sem]
  · intro f' _; trivial
  · simp [invoke, go_sem, eg]
  · refine (hit (w.heap.size + 1)
      (fun k W => I k W ∧ W.heap[w.heap.size + 1]? = some (.loop (rec .ready none)) ∧ W.heap[w.heap.size]? = some (.deferred (some [])))
      (fun W => Ix W ∧ W.heap[w.heap.size + 1]? = some (.loop (rec .done (some .ret))) ∧ W.heap[w.heap.size]? = some (.deferred (some [])))
      W1 (fun k V h => hIK k V h.1) ?_ ?_ ⟨hI1, hL1, hK1⟩).mono ?_
    · rintro k V V' ⟨hi, hl, hk⟩ hb
      exact ⟨hIB k V V' hi hb, (hb.block _ (Array.getElem?_eq_some_iff.1 hl).1).trans hl, (hb.block _ (Array.getElem?_eq_some_iff.1 hk).1).trans hk⟩
    · rintro k p W n' ⟨hi, hl, hk⟩ hlt hG
      have hsz : w.heap.size + 1 < W.heap.size := (Array.getElem?_eq_some_iff.1 hl).1
      have hy := run_yield (P := P) (args := p.enc) hl (by rw [hrec]; exact hps.symm)
      rw [hrec] at hy
      refine ⟨fn, _, assign, body, hy, ?_⟩
      have hmain : RoundIn Fence.wide (n - 1 - 1) P (w.heap.size + 1) fn ((ps.zip p.enc).foldl (fun t (p, v) => t.setIfInBounds p v) a.tmps) assign body W (fun e V' => (e = .returned (.bool true) ∧ (I (k + 1) V' ∧ V'.heap[w.heap.size + 1]? = some (.loop (rec .ready none)) ∧ V'.heap[w.heap.size]? = some (.deferred (some []))) ∧ Keeps W1.heap.size W V') ∨ (e = .returned (.bool false) ∧ Ix V' ∧ V'.heap[w.heap.size + 1]? = some (.loop (rec .done (some .ret))) ∧ V'.heap[w.heap.size]? = some (.deferred (some [])))) := by
        refine roundIn_of_wpIn hfn (hassign k p W _ hG (by omega) ?_)
        clear hy
        intro q W0 hb0 hap
        have hiW := hIB k W W0 hi hb0
        have hlW := (hb0.block _ hsz).trans hl
        have hkW := (hb0.block _ (by omega)).trans hk
        have hszW : w.heap.size + 1 < W0.heap.size := Nat.lt_of_lt_of_le hsz hb0.size
        have hkeep0 : Keeps W1.heap.size W W0 := Keeps.of hb0
        clear hi hl hk
        refine ⟨_, run_beginRound hlW (by rw [hrec]), ?_⟩
        have hl2 : (W0.putObj (w.heap.size + 1) (.loop { rec .ready none with state := .busy })).heap[w.heap.size + 1]? = some (.loop { rec .ready none with state := .busy }) := World.putObj_heap_same hszW
        have hk2 : (W0.putObj (w.heap.size + 1) (.loop { rec .ready none with state := .busy })).heap[w.heap.size]? = some (.deferred (some [])) := (World.putObj_heap_other (by omega)).trans hkW
        refine wpIn_mono (hbody k p q _ (hI k W0 _ _ hlW hiW) hlt hG (hAP p q W0 _ hap) (by rw [World.putObj_size]; omega) ⟨_, hk2⟩ ⟨_, hl2⟩) ?_
        have fin : ∀ (jump : Option Code) (W3 : World), W3.heap[w.heap.size]? = (W0.putObj (w.heap.size + 1) (.loop { rec .ready none with state := .busy })).heap[w.heap.size]? → W3.heap[w.heap.size + 1]? = (W0.putObj (w.heap.size + 1) (.loop { rec .ready none with state := .busy })).heap[w.heap.size + 1]? →
            (Instr.endRound (w.heap.size + 1) jump).run P W3 = .ok (.bool jump.isNone) (W3.putObj (w.heap.size + 1) (.loop (rec (if jump.isNone then .ready else .done) jump))) ∧
            (W3.putObj (w.heap.size + 1) (.loop (rec (if jump.isNone then .ready else .done) jump))).heap[w.heap.size + 1]? = some (.loop (rec (if jump.isNone then .ready else .done) jump)) ∧
            (W3.putObj (w.heap.size + 1) (.loop (rec (if jump.isNone then .ready else .done) jump))).heap[w.heap.size]? = some (.deferred (some [])) := fun jump W3 h5 h6 => by
          have hl3 := h6.trans hl2
          have := run_endRound (P := P) jump hl3
          rw [hrec] at this ⊢
          exact ⟨this, World.putObj_heap_same (Array.getElem?_eq_some_iff.1 hl3).1, (World.putObj_heap_other (by omega)).trans (h5.trans hk2)⟩
        rintro e a3 W3 hp
        cases e with
        | normal =>
          obtain ⟨hi3, h5, h6, h7⟩ := hp
          obtain ⟨hr, hl4, hk4⟩ := fin none W3 h5 h6
          exact ⟨_, _, hr, .inl ⟨rfl, ⟨hI _ _ _ _ (h6.trans hl2) hi3, hl4, hk4⟩, by
            rw [hs1]
            exact (((by rw [← hs1]; exact hkeep0 : Keeps (w.heap.size + 2) W W0).trans (keeps_putObj W0 _ _ _ (by omega))).trans h7).trans (keeps_putObj W3 _ _ _ (by omega))⟩⟩
        | ret =>
          obtain ⟨hi3, h5, h6⟩ := hp
          obtain ⟨hr, hl4, hk4⟩ := fin (some .ret) W3 h5 h6
          exact ⟨_, _, hr, .inr ⟨rfl, hIx _ _ _ (h6.trans hl2) hi3, hl4, hk4⟩⟩
        | exit id => exact hp.elim
        | goto t => exact hp.elim
        | panic ch => exact hp.elim
        | outgrown => exact hp.elim
      exact ⟨hmain.1, fun c cs _ => hmain.2 c cs (anyDepth_room rfl _)⟩
    · rintro e W2 ⟨⟨v, rfl⟩, (⟨hi, hl, hk⟩ | ⟨hi, hl, hk⟩)⟩
      · exact ⟨none, _, by have := run_endLoop (P := P) hl (by rw [hrec]; simp); rw [hrec] at this; exact this, hdone _ (hI _ _ _ _ hl hi) ((World.putObj_heap_other (by omega)).trans hk)⟩
      · exact ⟨some .ret, _, by have := run_endLoop (P := P) hl (by rw [hrec]; simp); rw [hrec] at this; exact this, hstop _ (hIx _ _ _ hl hi) ((World.putObj_heap_other (by omega)).trans hk)⟩

section
attribute [local go_sem] Oper.semAt_some
set_option maxRecDepth 100000 in
set_option maxHeartbeats 8000000 in
theorem lwalk_any (l B m : Nat) (w : World) (S : Nat → Prop) (F : List (Nat × It)) (J : Nat → World → Prop) (Jx : World → Prop) (hS : ∀ b, S b → b < w.heap.size) (hJK : ∀ k V, J k V → Below w.heap.size w V) (hJB : ∀ k V V', J k V → Below V.heap.size V V' → J k V')
    (hY : ∀ k p V n', J k V → k < m → FlAt w S F k p → YieldAt Fence.wide n' Tryz.prog l p.enc V fun e V' => (e = .returned (.bool true) ∧ J (k + 1) V' ∧ Keeps B V V') ∨ (e = .returned (.bool false) ∧ Jx V')) :
    ∀ (D : Nat) (v : Value) (L : List It) (d k0 n : Nat) (W : World), ItemsIs D w S v L → (∀ j, j < cntL L → F[k0 + j]? = (flatL d L)[j]?) → k0 + cntL L ≤ m → m ≤ 1000000000 → d + depL L ≤ 1000000 → B ≤ W.heap.size → J k0 W →
      CallsIn Fence.wide n Tryz.prog 37 #[v, .int .i64 (d : Int), .func (.yield l) #[] #[]] W fun e V' => (e = .returned (.bool true) ∧ J (k0 + cntL L) V' ∧ Keeps B W V') ∨ (e = .returned (.bool false) ∧ Jx V') := by
  intro D
  induction D with
  | zero =>
    intro v L d k0 n W h _ _ _ _ _ hJ
    obtain ⟨rfl, a, cap, rfl⟩ := h
    have hz : k0 + cntL [] = k0 := by simp [cntL]
    have HZ := Lib.hid hz
    clear hY hJB hJK
    refine callsIn_of_wp Tryz.func37 rfl trivial ?_ rfl
    simp only [Tryz.ntmps37, List.size_toArray, List.length_cons, List.length_nil, Nat.reduceAdd, Nat.reduceSub, Array.replicate_succ, Array.replicate_zero, List.push_toArray, List.append_toArray, List.nil_append, List.cons_append]
    gi_wp2
    gi_loopw [11] (fun i wr => i = .int .i64 0 ∧ wr = W) (fun _ _ => 0)
    case atStart => exact ⟨rfl, rfl⟩
    case round =>
      obtain ⟨rfl, rfl⟩ := hrel
      gi_wp2
      go_ret
      exact .inl ⟨rfl, by rw [HZ.out]; exact hJ, Keeps.refl _ _⟩
  | succ D ih =>
    intro v L d k0 n W h hF hkm hm hd hBW hJ
    obtain ⟨a, cap, rfl⟩ := h.size
    have HH := Lib.hid h
    have HIH := Lib.hid ih
    have HF := Lib.hid hF
    have HY := Lib.hid hY
    have HJB := Lib.hid hJB
    have HJK := Lib.hid hJK
    have HS := Lib.hid hS
    obtain ⟨len, hlen⟩ : ∃ n, L.length = n := ⟨_, rfl⟩
    have HN := Lib.hid hlen
    have HKM := Lib.hid hkm
    have hll : len ≤ 1000000000 := by have := len_cnt L; omega
    rw [hlen]
    clear h ih hF hY hJB hJK hS hlen hkm
    refine callsIn_of_wp Tryz.func37 rfl trivial ?_ rfl
    simp only [Tryz.ntmps37, List.size_toArray, List.length_cons, List.length_nil, Nat.reduceAdd, Nat.reduceSub, Array.replicate_succ, Array.replicate_zero, List.push_toArray, List.append_toArray, List.nil_append, List.cons_append]
    gi_wp2
    gi_loopw [11] (fun v11 wr => ∃ i : Nat, i ≤ len ∧ v11 = .int .i64 (i : Int) ∧ J (k0 + cntK L i) wr ∧ Keeps B W wr) (fun v11 _ => len - (intOf v11).toNat)
    case atStart => exact ⟨0, Nat.zero_le _, rfl, hJ, Keeps.refl _ _⟩
    case round =>
      obtain ⟨i, hi, rfl, hJr, hKr⟩ := hrel
      by_cases hin : i < len
      · obtain ⟨d1, hd1, b1, o1, wv, kv, rfl, s1, e0, e1, e2, e3, e4, e5, hw, hk⟩ := HH.out.at i (by rw [HN.out]; exact hin)
        obtain rfl : D = d1 := by omega
        have hbel := HJK.out _ _ hJr
        have hlt := HS.out b1 s1
        have f0 := (hbel.cell (p := ⟨b1, o1 + i * 6, none⟩) hlt).trans e0
        have f1 := (hbel.cell (p := ⟨b1, o1 + i * 6 + 1, none⟩) hlt).trans e1
        have f2 := (hbel.cell (p := ⟨b1, o1 + i * 6 + 2, none⟩) hlt).trans e2
        have f3 := (hbel.cell (p := ⟨b1, o1 + i * 6 + 3, none⟩) hlt).trans e3
        have f4 := (hbel.cell (p := ⟨b1, o1 + i * 6 + 4, none⟩) hlt).trans e4
        have f5 := (hbel.cell (p := ⟨b1, o1 + i * 6 + 5, none⟩) hlt).trans e5
        have hck := cntK_mono L (i := i + 1) (j := len) (by omega)
        rw [← HN.out, cntK_all, cntK] at hck
        have hkm := HKM.out
        have hdk := depK_at (L := L) (i := i) (by rw [HN.out]; exact hin)
        have hFx := (HF.out (cntK L i) (by omega)).trans (flatL_at (by rw [HN.out]; exact hin))
        have hFk : ∀ j, j < cntL (L.getD i default).kids → F[k0 + cntK L i + 1 + j]? = (flatL (d + 1) (L.getD i default).kids)[j]? := fun j hj => by
          have h1 := HF.out (cntK L i + 1 + j) (by omega)
          rw [flatL_kid (by rw [HN.out]; exact hin) j hj] at h1
          rw [← h1]
          congr 1
          omega
        have HNX : Hid (k0 + cntK L (i + 1) = k0 + cntK L i + 1 + cntL (L.getD i default).kids) := Lib.hid (by rw [cntK]; omega)
        have hkk : k0 + cntK L i + 1 + cntL (L.getD i default).kids ≤ m := by omega
        have hdd : d + 1 + depL (L.getD i default).kids ≤ 1000000 := by omega
        obtain ⟨c, hc⟩ : ∃ c, k0 + cntK L i = c := ⟨_, rfl⟩
        rw [hc] at hJr hFx hFk HNX hkk
        have hfl : FlAt w S F c ⟨d, L.getD i default, wv, kv⟩ := ⟨hFx, hw, D, hk⟩
        obtain ⟨⟨nm, wd, bk, kd, pa, pb⟩, hp⟩ : ∃ p, L.getD i default = p := ⟨_, rfl⟩
        rw [hp] at f0 f2 f4 f5 hfl hk hFk HNX hkk hdd
        simp only [It.name, It.block, It.a, It.b, It.kids] at f0 f2 f4 f5 hk hFk HNX hkk hdd
        have hdw0 : IntKind.i64.wrap ((d : Int) + 1) = ((d + 1 : Nat) : Int) := by rw [IntKind.wrap_i64]; omega
        obtain ⟨d', hd'⟩ : ∃ x, d + 1 = x := ⟨_, rfl⟩
        rw [hd'] at hFk hdd hdw0
        have hdw := hdw0
        clear hdw0 hd'
        have hiw : IntKind.i64.wrap ((i : Int) + 1) = ((i + 1 : Nat) : Int) := by rw [IntKind.wrap_i64]; omega
        have HK := Lib.hid hk
        have HFK := Lib.hid hFk
        have HKK := Lib.hid hkk
        have HDD := Lib.hid hdd
        have HKR := Lib.hid hKr
        have HBW := Lib.hid hBW
        have hwo : wv.oneCell' = true := hw.one
        have hko : kv.oneCell' = true := hk.one
        obtain ⟨wa, wl, wc, rfl⟩ : ∃ a b c, wv = .slice a b c := by obtain ⟨a, c, h⟩ := hw.size; exact ⟨_, _, _, h⟩
        obtain ⟨ka, kl, kc, rfl⟩ : ∃ a b c, kv = .slice a b c := by obtain ⟨a, c, h⟩ := hk.size; exact ⟨_, _, _, h⟩
        obtain ⟨W0, hW0⟩ : ∃ W0, wr.alloc (.cells #[.string ⟨#[]⟩, .slice none 0 0, .bool false, .slice none 0 0, .int .i64 0, .int .i64 0] 51) = W0 := ⟨_, rfl⟩
        obtain ⟨q, hq⟩ : ∃ q, wr.heap.size = q := ⟨_, rfl⟩
        have V0 : Var6 W0 q (.string ⟨#[]⟩) (.slice none 0 0) (.bool false) (.slice none 0 0) (.int .i64 0) (.int .i64 0) := by rw [← hW0]; exact Var6.fresh _ _ _ _ _ _ _ _ _ hq.symm
        have g0 : Below wr.heap.size wr W0 := by rw [← hW0]; exact (Below.refl _ _).alloc (Nat.le_refl _) _
        obtain ⟨W1, hW1⟩ : ∃ W1, put6 W0 q (.string nm) (.slice wa wl wc) (.bool bk) (.slice ka kl kc) (.int .i64 pa) (.int .i64 pb) = W1 := ⟨_, rfl⟩
        have V1 : Var6 W1 q (.string nm) (.slice wa wl wc) (.bool bk) (.slice ka kl kc) (.int .i64 pa) (.int .i64 pb) := by rw [← hW1]; exact V0.put _ _ _ _ _ _
        have g1 : Below wr.heap.size wr W1 := by rw [← hW1]; exact below_put6 g0 (by omega) _ _ _ _ _ _
        have HOB : Hid (∃ c t fz, W1.heap[q]? = some (.cells c t fz) ∧ t ≠ 5) := by
          obtain ⟨c', hc'⟩ := put6_obj (W := W0) (p := q) (by rw [← hW0, ← hq]; exact World.alloc_heap_new wr _) (.string nm) (.slice wa wl wc) (.bool bk) (.slice ka kl kc) (.int .i64 pa) (.int .i64 pb)
          rw [hW1] at hc'
          exact ⟨c', _, _, hc', by decide⟩
        have HV1 := Lib.hid V1
        have HG1 := Lib.hid g1
        have hJ1 := HJB.out _ _ _ hJr g1
        have hBq : B ≤ q := by have := hKr.size; omega
        have hy1 := HY.out c _ W1 (n - 1) hJ1 (by omega) hfl
        obtain ⟨fn, tmps, assign, body, hy, hR⟩ := hy1
        have HR := Lib.hid (hR.mono (R' := fun e V' => (e = .returned (.bool true) ∧ J (c + 1) V' ∧ Keeps B W1 V' ∧ V'.cell? ⟨q, 3, none⟩ = some (.slice ka kl kc)) ∨ (e = .returned (.bool false) ∧ Jx V')) (fun e V' h => h.imp (fun ⟨h1, h2, h3⟩ => ⟨h1, h2, h3, (World.cell?_of_block (a := ⟨q, 3, none⟩) (h3.cell hBq HOB.out)).trans HV1.out.c3⟩) id))
        obtain ⟨x0, x1, x2, x3, x4, x5, xq, xs⟩ := V1
        obtain ⟨y0, y1, y2, y3, y4, y5, yq, ys⟩ := V0
        have z0 := yq 0
        have z1 := yq 1
        have z2 := yq 2
        have z3 := yq 3
        have z4 := yq 4
        have z5 := yq 5
        simp only [Fl.enc, Fl.item, It.name, It.block, It.a, It.b] at hy
        unfold put6 at hW1
        clear hc hp e0 e1 e2 e3 e4 e5 hw hk hFk hkk hdd hck hkm hdk hFx hfl hbel hlt s1 hJr hKr hR hJ1 g0 g1 hd1 yq ys xq xs hJ
        gi_wp2_with (first
          | (refine ⟨wide_depth _, ?_⟩; refine HR.out.mono ?_; rintro e w2 (⟨rfl, hj2, hk2, hc2⟩ | ⟨rfl, hx2⟩))
          | (refine ⟨trivial, wide_depth _, ?_⟩; gi_at_call 37; refine (HIH.out _ kd d' (c + 1) (n - 1) w2 HK.out HFK.out HKK.out hm HDD.out (by have := hk2.size; have := HV1.out.s; have := HBW.out; omega) hj2).mono ?_; rintro e w3 (⟨rfl, hj3, hk3⟩ | ⟨rfl, hx3⟩)))
        · go_roundw
          case rel => exact ⟨i + 1, by omega, by go_num, by rw [HNX.out]; exact hj3, ((HKR.out.trans (Keeps.of HG1.out)).trans hk2).trans hk3⟩
          case measure => simp [intOf]; omega
        · gi_wp2
          go_ret
          exact .inr ⟨rfl, hx3⟩
        · refine ⟨trivial, ?_⟩
          gi_wp2
          go_ret
          exact .inr ⟨rfl, hx2⟩
      · have en : len = i := by omega
        subst en
        have HZ : Hid (k0 + cntK L len = k0 + cntL L) := Lib.hid (by rw [← HN.out, cntK_all])
        have HJR := Lib.hid hJr
        clear hJr
        gi_wp2
        go_ret
        exact .inl ⟨rfl, by rw [← HZ.out]; exact HJR.out, hKr⟩
end

end Go.Proofs.YtmgimkokmlcllaaGreatDoor

/-
  Package layout's Count and Depth: walked.
-/
namespace Go.Proofs.YtmgimkokmlcllaaGreatDoor
open Go.RowKit Go.Shelf

set_option maxRecDepth 100000 in
set_option maxHeartbeats 4000000 in
theorem litems_same (a : Option Addr) (l c : Nat) (w : World) : Calls Tryz.prog 22 #[.slice a l c] w fun e w' => e = .returned (.func (.func 36) #[] #[.pointer (some ⟨w.heap.size, 0, none⟩)]) ∧ w' = w.alloc (.cells #[.slice a l c] 22) := by
  go_enter Tryz.func22, Tryz.ntmps22
  go_wp2
  go_ret
  exact ⟨rfl, rfl⟩

section
attribute [local go_sem] Oper.semAt_some
set_option maxRecDepth 100000 in
set_option maxHeartbeats 4000000 in
theorem litems_range (w : World) (S : Nat → Prop) (D : Nat) (v : Value) (L : List It) (B1 n : Nat) (h : ItemsIs D w S v L) (hS : ∀ b, S b → b < w.heap.size) (hm : cntL L ≤ 1000000000) (hd : depL L ≤ 900000) :
    RangesT Fence.wide n Tryz.prog 36 #[.pointer (some ⟨B1, 0, none⟩)] (FlAt w S (flatL 1 L)) (cntL L) (fun V => Below w.heap.size w V ∧ V.cell? ⟨B1, 0, none⟩ = some v) := by
  intro l J Jx W hK hJB hY h0
  have hc := (hK 0 W h0).2
  have HW := Lib.hid (lwalk_any l W.heap.size (cntL L) w S (flatL 1 L) J Jx hS (fun k V h => (hK k V h).1) hJB hY D v L 1 0 (n - 1) W h (fun j _ => by rw [Nat.zero_add]) (by omega) hm (by omega) (Nat.le_refl _) h0)
  obtain ⟨a, cap, rfl⟩ := h.size
  clear hY hJB hK h hS h0
  refine callsIn_of_wp Tryz.func36 rfl trivial ?_ rfl
  simp only [Tryz.ntmps36, List.size_toArray, List.length_cons, List.length_nil, Nat.reduceAdd, Nat.reduceSub, Array.replicate_succ, Array.replicate_zero, List.push_toArray, List.append_toArray, List.nil_append, List.cons_append]
  gi_wp2_with (refine ⟨trivial, wide_depth _, ?_⟩; gi_at_call 37; refine HW.out.mono ?_; rintro e w1 (⟨rfl, hJ1, _⟩ | ⟨rfl, hx⟩))
  · go_end0
    exact ⟨⟨_, rfl⟩, .inl (by rw [Nat.zero_add] at hJ1; exact hJ1)⟩
  · go_end0
    exact ⟨⟨_, rfl⟩, .inr hx⟩

structure CtI (w0 : World) (q : Nat) (x : Int) (v : Value) (V : World) : Prop where
  bel : Below w0.heap.size w0 V
  val : V.cell? ⟨q, 0, none⟩ = some (.int .i64 x)
  fz : V.frozen? ⟨q, 0, none⟩ = false
  box : V.cell? ⟨q + 1, 0, none⟩ = some v
theorem below_putObj {B : Nat} {w V : World} (h : Below B w V) {l : Nat} (hl : B ≤ l) (o : Obj) : Below B w (V.putObj l o) :=
  ⟨h.os, h.tape, h.output, by rw [World.putObj_size]; exact h.size, fun k hk => (World.putObj_heap_other (by omega)).trans (h.block k hk)⟩
def dmaxF (F : List (Nat × It)) (k : Nat) : Nat := ((F.take k).map (·.1)).foldl max 0
end

end Go.Proofs.YtmgimkokmlcllaaGreatDoor
