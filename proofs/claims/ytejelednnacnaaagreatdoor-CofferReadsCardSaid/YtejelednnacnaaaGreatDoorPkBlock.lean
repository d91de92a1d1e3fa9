/-
  The program's disk of layer 9, as it landed: nine cells, two rows of bytes, and a row of what waits, each with its bytes; that it stays while other things change; bytes laid over a row by copy.
-/
import Derived.Test.YtejelednnacnaaaGreatDoorPkBase
import Derived.Test.YtejelednnacnaaaGreatDoorPkPlain
import Derived.Laws.OwnMore
import Derived.Laws.CopyOwn
import Derived.Deep.AppendLies
import Derived.RegionTactic
import Derived.StillTailTactics
import Derived.Test.YtejelednnacnaaaGreatDoorPkMixes
import Derived.Deep.QuietTactic
import Derived.BigQuiet
import Derived.Lib.MinMax
namespace Go.Proofs.YtejelednnacnaaaGreatDoor
open Go.RowKit

/-- A row of bytes, whole. -/
def RowB (W : World) (g : Nat) (l : List Int) : Prop := W.heap[g]? = some (.cells (l.map (Value.int .u8)).toArray 5 (0, 0))
theorem RowB.kept {W W' : World} {g : Nat} {l : List Int} (h : RowB W g l) (hk : W'.heap[g]? = W.heap[g]?) : RowB W' g l := hk.trans h
theorem RowB.lt {W : World} {g : Nat} {l : List Int} (h : RowB W g l) : g < W.heap.size := (Array.getElem?_eq_some_iff.1 h).1
theorem RowB.at {W : World} {g : Nat} {l : List Int} (h : RowB W g l) (i : Nat) (hi : i < l.length) : W.cell? ⟨g, i, none⟩ = some (.int .u8 (l.getD i 0)) := by
  have h' : W.heap[g]? = some (.cells (l.map (Value.int .u8)).toArray 5 (0, 0)) := h
  simp [World.cell?, h', hi]
theorem RowB.arg {W : World} {g : Nat} {l : List Int} (h : RowB W g l) (p n c : Nat) (hp : p + n ≤ l.length) (hc : n ≤ c) : ArgB W (.slice (some ⟨g, p, none⟩) n c) ((l.drop p).take n) := by
  have := ArgB.part (w := W) (b := g) (off := 0) (l := l) (fun i hi => by rw [Nat.zero_add]; exact h.at i hi) p n c hp hc
  rwa [Nat.zero_add] at this
theorem RowB.whole {W : World} {g : Nat} {l : List Int} (h : RowB W g l) (n c : Nat) (hn : n = l.length) (hc : n ≤ c) : ArgB W (.slice (some ⟨g, 0, none⟩) n c) l := by
  have := h.arg 0 n c (by omega) hc
  rwa [List.drop_zero, List.take_of_length_le (by omega)] at this
/-- What make gives: a row of 0. -/
theorem made_row (w : World) (n : Nat) (hn : n ≤ 1000000) : ∃ w', (Instr.makeSlice 22 (.int .i64 (n : Int)) (.int .i64 (n : Int))).run Tryz.prog w = .ok (.slice (some ⟨w.heap.size, 0, none⟩) n n) w' ∧ RowB w' w.heap.size (List.replicate n 0) ∧ Below w.heap.size w w' := by
  obtain ⟨i0, hi, hz0, hz1, hz2⟩ := info_parts info_byte
  obtain ⟨w1, hr, hO, hg⟩ := run_make_full (P := Tryz.prog) w w.heap.size 22 5 i0 (.int .u8 0) 1 Tryz.underlying22 hi hz0 hz1 .i64 .i64 n (by rw [hz2]; omega) (by unfold maxLen; omega) (Nat.le_refl _)
  refine ⟨w1, hr, ?_, (Below.refl _ _).grown hg (Nat.le_refl _) (fun b hk => by cases hk)⟩
  rcases hO.2 with ⟨e, _⟩ | ⟨g, cap, cur, e, _, hg', h1, h2, h3, h4⟩
  · cases e
  · cases e
    rw [Nat.mul_one] at h3 h4
    have e4 : cur.toList = (List.replicate n (0 : Int)).map (Value.int .u8) := by
      rw [List.take_of_length_le (by rw [Array.length_toList]; omega)] at h4
      rw [h4]
      show (madeCells #[Value.int .u8 0] n).toList = _
      rw [toList_madeCells_one, List.map_replicate]
    show w1.heap[w.heap.size]? = _
    rw [hg', ← e4]

theorem OnlyO.weak {base : Nat} {O O' : Foot} {w w' : World} (h : OnlyO base O w w') (hO : ∀ i, O i → O' i) : OnlyO base O' w w' := ⟨h.bel, fun i hi hne => h.keep i hi (fun ho => hne (hO i ho))⟩
theorem layL_map (L b : List Int) (off : Nat) : (layL L (off, b)).map (Value.int .u8) = splice (L.map (Value.int .u8)) off (b.map (Value.int .u8)) := by
  unfold layL splice
  simp only [List.map_append, List.map_take, List.map_drop, List.append_assoc, List.length_map]
theorem layL_none (L : List Int) (off : Nat) : layL L (off, []) = L := by simp [layL]
/-- Bytes copied over a row: the operation, for a walk. -/
theorem wp_lay {w : World} {ops : Array Oper} {rest : List Oper} {o : Oper} {a : Act} {Q : Exit → Act → World → Prop} (hgd : o.guard = none) (d s : Operand)
    (ho : o.op = .call { callee := .builtin .copy, args := #[d, s], argTypes := #[22, 22] })
    (g off dLen dCap : Nat) (hd : a.eval d = .slice (some ⟨g, off, none⟩) dLen dCap) (sv : Value) (hs : a.eval s = sv) (b : List Int) (hA : ArgB w sv b) (L : List Int) (hL : RowB w g L) (hlen : b.length ≤ dLen) (hfit : off + b.length ≤ L.length) (base : Nat) (hbg : base ≤ g)
    (h : ∀ w', RowB w' g (layL L (off, b)) → OnlyO base (fun i => i = g) w w' → wpList Tryz.prog ops Q rest (a.put o.dst (.int .i64 (b.length : Int))) w') : wpList Tryz.prog ops Q (o :: rest) a w := by
  obtain ⟨i0, hi, hz0, hz1, hz2⟩ := info_parts info_byte
  have hsz : (Tryz.prog.info? 5).map (·.size) = some 1 := by rw [hi]; exact congrArg some hz1
  have hmin : Nat.min b.length dLen = b.length := Nat.min_eq_left hlen
  by_cases h0 : b.length = 0
  · obtain rfl : b = [] := List.eq_nil_of_length_eq_zero h0
    have hh := h w (by rw [layL_none]; exact hL) (OnlyO.refl _ _ _)
    obtain ⟨sa, sc, rfl⟩ := hA.size
    exact wpList_copy_nothing hgd d s 22 22 ho 5 Tryz.underlying22 hsz _ sa dLen dCap _ sc hd hs (by rw [hmin]; rfl) hh
  · rcases hA with ⟨_, rfl⟩ | ⟨x, cap, rfl, hc, hcell⟩
    · exact (h0 rfl).elim
    · refine wpList_copy_own hgd d s 22 22 ho 5 Tryz.underlying22 hsz g off dLen dCap x b.length cap hd hs _ 5 hL (b.map (Value.int .u8)) (by rw [List.length_map, hmin]) ?_ (by simpa using hfit) (ints_one _ _) ?_
      · intro j u hu
        rw [List.getElem?_map] at hu
        obtain ⟨z, hz, rfl⟩ := Option.map_eq_some_iff.mp hu
        have hj : j < b.length := (List.getElem?_eq_some_iff.mp hz).1
        rw [hcell j hj, List.getD_eq_getElem?_getD, hz]; rfl
      · have e : (List.take off (L.map (Value.int .u8)).toArray.toList ++ (b.map (Value.int .u8) ++ List.drop (off + (b.map (Value.int .u8)).length) (L.map (Value.int .u8)).toArray.toList)) = (layL L (off, b)).map (Value.int .u8) := by
          rw [layL_map]; rfl
        rw [e, List.length_map]
        refine h _ (setRow_heap w g _ _ _ _ hL) ⟨below_setRow (Below.refl _ _) hbg _, fun i hi hne => setRow_other w g i _ hne⟩

/-- The same as an equation. -/
theorem run_lay (w : World) (g off dLen dCap : Nat) (sv : Value) (b : List Int) (hA : ArgB w sv b) (L : List Int) (hL : RowB w g L) (hlen : b.length ≤ dLen) (hfit : off + b.length ≤ L.length) (base : Nat) (hbg : base ≤ g) (ty : TypeId) :
    ∃ w', (Builtin.copy_ #[22, 22] ty #[.slice (some ⟨g, off, none⟩) dLen dCap, sv]).run Tryz.prog w = .ok (.int .i64 (b.length : Int)) w' ∧ RowB w' g (layL L (off, b)) ∧ OnlyO base (fun i => i = g) w w' := by
  obtain ⟨i0, hi, hz0, hz1, hz2⟩ := info_parts info_byte
  have hsz : (Tryz.prog.info? 5).map (·.size) = some 1 := by rw [hi]; exact congrArg some hz1
  have hmin : Nat.min b.length dLen = b.length := Nat.min_eq_left hlen
  by_cases h0 : b.length = 0
  · obtain rfl : b = [] := List.eq_nil_of_length_eq_zero h0
    obtain ⟨sa, sc, rfl⟩ := hA.size
    exact ⟨w, run_copy_none (P := Tryz.prog) w 22 22 ty 5 _ sa dLen dCap _ sc Tryz.underlying22 hsz (by rw [hmin]; rfl), by rw [layL_none]; exact hL, OnlyO.refl _ _ _⟩
  · rcases hA with ⟨_, rfl⟩ | ⟨x, cap, rfl, hc, hcell⟩
    · exact (h0 rfl).elim
    · have hrun := run_copy_row (P := Tryz.prog) w 22 22 ty 5 g off dLen dCap x b.length cap _ 5 (b.map (Value.int .u8)) Tryz.underlying22 hsz hL (by rw [List.length_map, hmin]) (fun j u hu => by
          rw [List.getElem?_map] at hu
          obtain ⟨z, hz, rfl⟩ := Option.map_eq_some_iff.mp hu
          have hj : j < b.length := (List.getElem?_eq_some_iff.mp hz).1
          rw [hcell j hj, List.getD_eq_getElem?_getD, hz]; rfl) (by simpa using hfit) (ints_one _ _)
      rw [List.length_map] at hrun
      refine ⟨_, hrun, ?_, ⟨below_setRow (Below.refl _ _) hbg _, fun i hi hne => setRow_other w g i _ hne⟩⟩
      have e : (List.take off (L.map (Value.int .u8)).toArray.toList ++ (b.map (Value.int .u8)) ++ List.drop (off + b.length) (L.map (Value.int .u8)).toArray.toList) = (layL L (off, b)).map (Value.int .u8) := by
        rw [layL_map]; simp [splice]
      rw [e]
      exact setRow_heap w g _ _ _ _ hL

/-- The disk's nine cells. -/
structure DkAt (W : World) (r n size gl gs : Nat) (v : Value) (deeds : Int) (B : Bool) (L : Int) (dark : Bool) : Prop where
  c0 : W.cell? ⟨r, 0, none⟩ = some (.int .i64 (n : Int))
  c1 : W.cell? ⟨r, 1, none⟩ = some (.int .i64 (size : Int))
  c2 : W.cell? ⟨r, 2, none⟩ = some (.slice (some ⟨gl, 0, none⟩) (n * size) (n * size))
  c3 : W.cell? ⟨r, 3, none⟩ = some (.slice (some ⟨gs, 0, none⟩) (n * size) (n * size))
  c4 : W.cell? ⟨r, 4, none⟩ = some v
  c5 : W.cell? ⟨r, 5, none⟩ = some (.int .i64 deeds)
  c6 : W.cell? ⟨r, 6, none⟩ = some (.bool B)
  c7 : W.cell? ⟨r, 7, none⟩ = some (.int .i64 L)
  c8 : W.cell? ⟨r, 8, none⟩ = some (.bool dark)
  q : ∀ i, W.frozen? ⟨r, i, none⟩ = false
  s : r < W.heap.size
theorem DkAt.kept {W W' : World} {r n size gl gs : Nat} {v : Value} {deeds : Int} {B : Bool} {L : Int} {dark : Bool} (h : DkAt W r n size gl gs v deeds B L dark) (hk : W'.heap[r]? = W.heap[r]?) (hs : W.heap.size ≤ W'.heap.size) : DkAt W' r n size gl gs v deeds B L dark := by
  obtain ⟨c0, c1, c2, c3, c4, c5, c6, c7, c8, q, s⟩ := h
  refine ⟨?_, ?_, ?_, ?_, ?_, ?_, ?_, ?_, ?_, fun i => ?_, Nat.lt_of_lt_of_le s hs⟩
  all_goals first | (rw [World.cell?_of_block hk]; assumption) | (rw [World.frozen?_of_block hk]; exact q i)
/-- A cell of it set. -/
theorem DkAt.set {W : World} {r n size gl gs : Nat} {v : Value} {deeds : Int} {B : Bool} {L : Int} {dark : Bool} (h : DkAt W r n size gl gs v deeds B L dark) :
    (∀ x, DkAt (W.setCell ⟨r, 4, none⟩ x) r n size gl gs x deeds B L dark) ∧ (∀ x : Int, DkAt (W.setCell ⟨r, 5, none⟩ (.int .i64 x)) r n size gl gs v x B L dark) ∧ (∀ x, DkAt (W.setCell ⟨r, 6, none⟩ (.bool x)) r n size gl gs v deeds x L dark) ∧
    (∀ x : Int, DkAt (W.setCell ⟨r, 7, none⟩ (.int .i64 x)) r n size gl gs v deeds B x dark) ∧ (∀ x, DkAt (W.setCell ⟨r, 8, none⟩ (.bool x)) r n size gl gs v deeds B L x) := by
  obtain ⟨c0, c1, c2, c3, c4, c5, c6, c7, c8, q, s⟩ := h
  have hq : ∀ j (x : Value) i, (W.setCell ⟨r, j, none⟩ x).frozen? ⟨r, i, none⟩ = false := fun j x i => by rw [World.frozen?_setCell]; exact q i
  refine ⟨fun x => ?_, fun x => ?_, fun x => ?_, fun x => ?_, fun x => ?_⟩
  all_goals (refine ⟨?_, ?_, ?_, ?_, ?_, ?_, ?_, ?_, ?_, hq _ _, by simpa using s⟩ <;> simp [go_sem, *])
theorem set_else (W : World) (r i : Nat) (x : Value) (j : Nat) (hne : j ≠ r) : (W.setCell ⟨r, i, none⟩ x).heap[j]? = W.heap[j]? := Below.heap_setCell W ⟨r, i, none⟩ x j hne

/-- The cells of what waits: a block's number, and where its bytes lie. -/
def bcells (size : Nat) (xs : List (Nat × Nat)) : List Value := xs.flatMap fun p => [.int .i64 (p.1 : Int), .slice (some ⟨p.2, 0, none⟩) size size]
theorem bcells_len (size : Nat) (xs : List (Nat × Nat)) : (bcells size xs).length = xs.length * 2 := by
  induction xs with
  | nil => rfl
  | cons p xs ih => simp only [bcells, List.flatMap_cons, List.length_append, List.length_cons, List.length_nil] at ih ⊢; omega
theorem bcells_more (size : Nat) (xs : List (Nat × Nat)) (p : Nat × Nat) : bcells size (xs ++ [p]) = bcells size xs ++ [.int .i64 (p.1 : Int), .slice (some ⟨p.2, 0, none⟩) size size] := by
  unfold bcells
  rw [List.flatMap_append]; rfl
theorem bcells_at (size : Nat) : ∀ (xs : List (Nat × Nat)) (k : Nat), k < xs.length → (bcells size xs)[k * 2]? = some (.int .i64 ((xs.getD k (0, 0)).1 : Int)) ∧ (bcells size xs)[k * 2 + 1]? = some (.slice (some ⟨(xs.getD k (0, 0)).2, 0, none⟩) size size)
  | [], k, hk => by cases hk
  | p :: xs, 0, _ => ⟨rfl, rfl⟩
  | p :: xs, k + 1, hk => by
    obtain ⟨h1, h2⟩ := bcells_at size xs k (by simpa using hk)
    have e : bcells size (p :: xs) = .int .i64 (p.1 : Int) :: .slice (some ⟨p.2, 0, none⟩) size size :: bcells size xs := rfl
    rw [e, show (k + 1) * 2 = k * 2 + 1 + 1 by omega, List.getElem?_cons_succ, List.getElem?_cons_succ, List.getElem?_cons_succ, List.getElem?_cons_succ]
    exact ⟨h1, h2⟩

/-- One that waits. -/
structure OneW (W : World) (O : Foot) (P : Nat → Prop) (n size : Nat) (x : Nat × Nat) (p : Nat × List Int) : Prop where
  at_ : p.1 = x.1 * size
  lt : x.1 < n
  row : RowB W x.2 p.2
  len : p.2.length = size
  mem : O x.2
  ap : P x.2
/-- All that waits. -/
def WaitsAt (W : World) (base : Nat) (O : Foot) (P : Nat → Prop) (v : Value) (n size : Nat) (ws : List (Nat × List Int)) : Prop :=
  ∃ xs : List (Nat × Nat), xs.length = ws.length ∧ W.ownsRow base 91 2 v ws.length (bcells size xs) ∧ (∀ g, v.ownBlock = some g → O g ∧ P g) ∧
    ∀ k, k < ws.length → OneW W O (fun i => P i ∧ v.ownBlock ≠ some i) n size (xs.getD k (0, 0)) (ws.getD k (0, []))
theorem row_same {W W' : World} {base : Nat} {t : TypeId} {k : Nat} {v : Value} {n : Nat} {xs : List Value} (h : W.ownsRow base t k v n xs) (hk : ∀ g, v.ownBlock = some g → W'.heap[g]? = W.heap[g]?) : W'.ownsRow base t k v n xs := by
  obtain ⟨h1, h2⟩ := h
  refine ⟨h1, ?_⟩
  rcases h2 with hx | ⟨g, cap, cur, rfl, hbg, hg, rest⟩
  · exact Or.inl hx
  · exact Or.inr ⟨g, cap, cur, rfl, hbg, (hk g rfl).trans hg, rest⟩
theorem WaitsAt.kept {W W' : World} {base : Nat} {O : Foot} {P : Nat → Prop} {v : Value} {n size : Nat} {ws : List (Nat × List Int)} (h : WaitsAt W base O P v n size ws) (hk : ∀ i, O i → P i → W'.heap[i]? = W.heap[i]?) : WaitsAt W' base O P v n size ws := by
  obtain ⟨xs, h1, h2, h3, h4⟩ := h
  refine ⟨xs, h1, row_same h2 (fun g hg => hk g (h3 g hg).1 (h3 g hg).2), h3, fun k hkl => ?_⟩
  obtain ⟨a, b, c, d, e, f⟩ := h4 k hkl
  exact ⟨a, b, c.kept (hk _ e f.1), d, e, f⟩
theorem WaitsAt.size {W : World} {base : Nat} {O : Foot} {P : Nat → Prop} {v : Value} {n size : Nat} {ws : List (Nat × List Int)} (h : WaitsAt W base O P v n size ws) : ∃ a cap, v = .slice a ws.length cap := by
  obtain ⟨xs, h1, h2, h3, h4⟩ := h
  rcases h2.2 with ⟨rfl, h0⟩ | ⟨g, cap, cur, rfl, _⟩
  · exact ⟨none, 0, by rw [h0]⟩
  · exact ⟨some ⟨g, 0, none⟩, cap, rfl⟩
/-- The k-th of them. -/
theorem WaitsAt.one {W : World} {base : Nat} {O : Foot} {P : Nat → Prop} {v : Value} {n size : Nat} {ws : List (Nat × List Int)} (h : WaitsAt W base O P v n size ws) {k : Nat} (hk : k < ws.length) :
    ∃ g cap x, v = .slice (some ⟨g, 0, none⟩) ws.length cap ∧ ws.length ≤ cap ∧ W.cell? ⟨g, k * 2, none⟩ = some (.int .i64 (x.1 : Int)) ∧ W.cell? ⟨g, k * 2 + 1, none⟩ = some (.slice (some ⟨x.2, 0, none⟩) size size) ∧ O g ∧ P g ∧ OneW W O (fun i => P i ∧ i ≠ g) n size x (ws.getD k (0, [])) := by
  obtain ⟨xs, h1, h2, h3, h4⟩ := h
  obtain ⟨q1, q2⟩ := bcells_at size xs k (by omega)
  obtain ⟨a, b, c, d, e, f⟩ := h4 k hk
  rcases h2.2 with ⟨rfl, h0⟩ | ⟨g, cap, cur, rfl, _, _, hcap, _⟩
  · omega
  · have hcs := @World.ownsRow.cells _ _ _ _ _ _ _ h2
    have k0 := hcs (g := g) rfl (k * 2) _ q1
    have k1 := hcs (g := g) rfl (k * 2 + 1) _ q2
    have ad : ∀ i, (⟨g, 0, none⟩ : Addr).add i = ⟨g, i, none⟩ := fun i => by unfold Addr.add; split <;> simp_all
    rw [ad] at k0 k1
    exact ⟨g, cap, xs.getD k (0, 0), rfl, hcap, k0, k1, (h3 g rfl).1, (h3 g rfl).2, a, b, c, d, e, f.1, fun hh => f.2 (by rw [hh]; rfl)⟩

/-- The disk by its parts. -/
structure Parts (W : World) (base : Nat) (O : Foot) (r gl gs : Nat) (v : Value) (n size : Nat) (la se : List Int) (ws : List (Nat × List Int)) (deeds : Int) (B : Bool) (L : Int) (dark : Bool) : Prop where
  own : ∀ i, O i → base ≤ i ∧ i < W.heap.size
  dk : DkAt W r n size gl gs v deeds B L dark
  rl : RowB W gl la
  rs : RowB W gs se
  mr : O r
  ml : O gl
  ms : O gs
  ne : gl ≠ r ∧ gs ≠ r ∧ gl ≠ gs
  ll : la.length = n * size
  ls : se.length = n * size
  n1 : n ≤ 400
  s0 : 32 ≤ size
  s1 : size ≤ 512
  ww : WaitsAt W base O (fun i => i ≠ r ∧ i ≠ gl ∧ i ≠ gs) v n size ws
theorem Parts.step {W W' : World} {base : Nat} {O : Foot} {r gl gs : Nat} {v : Value} {n size : Nat} {la se la' se' : List Int} {ws : List (Nat × List Int)} {deeds deeds' : Int} {B B' : Bool} {L L' : Int} {dark dark' : Bool} (h : Parts W base O r gl gs v n size la se ws deeds B L dark)
    (hk : ∀ i, O i → i ≠ r → i ≠ gl → i ≠ gs → W'.heap[i]? = W.heap[i]?) (hs : W.heap.size ≤ W'.heap.size) (hd : DkAt W' r n size gl gs v deeds' B' L' dark') (hl : RowB W' gl la') (hse : RowB W' gs se') (ll : la'.length = n * size) (ls : se'.length = n * size) : Parts W' base O r gl gs v n size la' se' ws deeds' B' L' dark' :=
  ⟨fun i hi => ⟨(h.own i hi).1, Nat.lt_of_lt_of_le (h.own i hi).2 hs⟩, hd, hl, hse, h.mr, h.ml, h.ms, h.ne, ll, ls, h.n1, h.s0, h.s1, h.ww.kept (fun i hi ⟨h1, h2, h3⟩ => hk i hi h1 h2 h3)⟩
theorem Parts.kept {W W' : World} {base : Nat} {O : Foot} {r gl gs : Nat} {v : Value} {n size : Nat} {la se : List Int} {ws : List (Nat × List Int)} {deeds : Int} {B : Bool} {L : Int} {dark : Bool} (h : Parts W base O r gl gs v n size la se ws deeds B L dark)
    (hk : ∀ i, O i → W'.heap[i]? = W.heap[i]?) (hs : W.heap.size ≤ W'.heap.size) : Parts W' base O r gl gs v n size la se ws deeds B L dark :=
  h.step (fun i hi _ _ _ => hk i hi) hs (h.dk.kept (hk r h.mr) hs) (h.rl.kept (hk gl h.ml)) (h.rs.kept (hk gs h.ms)) h.ll h.ls
theorem Parts.after {W W' : World} {base : Nat} {O : Foot} {r gl gs : Nat} {v : Value} {n size : Nat} {la se : List Int} {ws : List (Nat × List Int)} {deeds : Int} {B : Bool} {L : Int} {dark : Bool} (h : Parts W base O r gl gs v n size la se ws deeds B L dark)
    (hb : Below W.heap.size W W') : Parts W' base O r gl gs v n size la se ws deeds B L dark := h.kept (fun i hi => hb.block i (h.own i hi).2) hb.size
/-- Cells of it set. -/
theorem Parts.cells {W W' : World} {base : Nat} {O : Foot} {r gl gs : Nat} {v : Value} {n size : Nat} {la se : List Int} {ws : List (Nat × List Int)} {deeds deeds' : Int} {B B' : Bool} {L L' : Int} {dark dark' : Bool} (h : Parts W base O r gl gs v n size la se ws deeds B L dark)
    (hd : DkAt W' r n size gl gs v deeds' B' L' dark') (hk : ∀ i, i ≠ r → W'.heap[i]? = W.heap[i]?) (hs : W.heap.size ≤ W'.heap.size) : Parts W' base O r gl gs v n size la se ws deeds' B' L' dark' :=
  h.step (fun i _ h1 _ _ => hk i h1) hs hd (h.rl.kept (hk gl h.ne.1)) (h.rs.kept (hk gs h.ne.2.1)) h.ll h.ls
/-- Nothing waits any more. -/
theorem Parts.clear {W W' : World} {base : Nat} {O : Foot} {r gl gs : Nat} {v : Value} {n size : Nat} {la se : List Int} {ws : List (Nat × List Int)} {deeds deeds' : Int} {B B' : Bool} {L L' : Int} {dark dark' : Bool} (h : Parts W base O r gl gs v n size la se ws deeds B L dark)
    (hd : DkAt W' r n size gl gs (.slice none 0 0) deeds' B' L' dark') (hk : ∀ i, i ≠ r → W'.heap[i]? = W.heap[i]?) (hs : W.heap.size ≤ W'.heap.size) : Parts W' base O r gl gs (.slice none 0 0) n size la se [] deeds' B' L' dark' :=
  ⟨fun i hi => ⟨(h.own i hi).1, Nat.lt_of_lt_of_le (h.own i hi).2 hs⟩, hd, h.rl.kept (hk gl h.ne.1), h.rs.kept (hk gs h.ne.2.1), h.mr, h.ml, h.ms, h.ne, h.ll, h.ls, h.n1, h.s0, h.s1, ⟨[], rfl, World.ownsRow_nil _ _ _ _, fun g hg => (by cases hg), fun k hk => by cases hk⟩⟩
/-- Bytes laid over what lasts. -/
theorem Parts.last {W W' : World} {base : Nat} {O : Foot} {r gl gs : Nat} {v : Value} {n size : Nat} {la se la' : List Int} {ws : List (Nat × List Int)} {deeds : Int} {B : Bool} {L : Int} {dark : Bool} (h : Parts W base O r gl gs v n size la se ws deeds B L dark)
    (hl : RowB W' gl la') (ho : OnlyO base (fun i => i = gl) W W') (ll : la'.length = n * size) : Parts W' base O r gl gs v n size la' se ws deeds B L dark :=
  h.step (fun i hi _ h2 _ => ho.keep i (h.own i hi).2 h2) ho.size (h.dk.kept (ho.keep r h.dk.s (fun e => h.ne.1 e.symm)) ho.size) hl (h.rs.kept (ho.keep gs h.rs.lt (fun e => h.ne.2.2 e.symm))) ll h.ls
/-- Bytes laid over what is seen. -/
theorem Parts.view {W W' : World} {base : Nat} {O : Foot} {r gl gs : Nat} {v : Value} {n size : Nat} {la se se' : List Int} {ws : List (Nat × List Int)} {deeds : Int} {B : Bool} {L : Int} {dark : Bool} (h : Parts W base O r gl gs v n size la se ws deeds B L dark)
    (hl : RowB W' gs se') (ho : OnlyO base (fun i => i = gs) W W') (ls : se'.length = n * size) : Parts W' base O r gl gs v n size la se' ws deeds B L dark :=
  h.step (fun i hi _ _ h3 => ho.keep i (h.own i hi).2 h3) ho.size (h.dk.kept (ho.keep r h.dk.s (fun e => h.ne.2.1 e.symm)) ho.size) (h.rl.kept (ho.keep gl h.rl.lt (fun e => h.ne.2.2 e))) hl h.ll ls

/-- What the fuse's cells say. -/
def FuseIs (B : Bool) (L fuse : Int) : Prop := (B = true ∧ fuse = L ∧ 0 ≤ L) ∨ (B = false ∧ fuse = -1)
/-- A disk in block r, that leans on the blocks O alone, all of them from base on. -/
structure DskIs (W : World) (base : Nat) (O : Foot) (r : Nat) (D : Dsk) : Prop where
  own : ∀ i, O i → base ≤ i ∧ i < W.heap.size
  mem : O r
  ok : D.Ok
  ex : ∃ gl gs v B L, Parts W base O r gl gs v D.n D.size D.last D.seen D.waits (D.deeds : Int) B L D.dark ∧ FuseIs B L D.fuse ∧ -9223372036854775808 ≤ L ∧ L ≤ 9223372036854775807
theorem DskIs.kept {W W' : World} {base : Nat} {O : Foot} {r : Nat} {D : Dsk} (h : DskIs W base O r D) (hk : ∀ i, O i → W'.heap[i]? = W.heap[i]?) (hs : W.heap.size ≤ W'.heap.size) : DskIs W' base O r D := by
  obtain ⟨h1, h2, h3, gl, gs, v, B, L, h4, h5⟩ := h
  exact ⟨fun i hi => ⟨(h1 i hi).1, Nat.lt_of_lt_of_le (h1 i hi).2 hs⟩, h2, h3, gl, gs, v, B, L, h4.kept hk hs, h5⟩
theorem DskIs.after {W W' : World} {base : Nat} {O : Foot} {r : Nat} {D : Dsk} (h : DskIs W base O r D) (hb : Below W.heap.size W W') : DskIs W' base O r D := h.kept (fun i hi => hb.block i (h.own i hi).2) hb.size
theorem ownsRow_base {W : World} {base base' : Nat} {t : TypeId} {k : Nat} {v : Value} {n : Nat} {xs : List Value} (h : W.ownsRow base t k v n xs) (hb : base' ≤ base) : W.ownsRow base' t k v n xs := by
  obtain ⟨h1, h2⟩ := h
  refine ⟨h1, ?_⟩
  rcases h2 with hx | ⟨g, cap, cur, rfl, hbg, rest⟩
  · exact Or.inl hx
  · exact Or.inr ⟨g, cap, cur, rfl, Nat.le_trans hb hbg, rest⟩
theorem DskIs.base {W : World} {base base' : Nat} {O : Foot} {r : Nat} {D : Dsk} (h : DskIs W base O r D) (hb : base' ≤ base) : DskIs W base' O r D := by
  obtain ⟨h1, h2, h3, gl, gs, v, B, L, h4, h5⟩ := h
  refine ⟨fun i hi => ⟨Nat.le_trans hb (h1 i hi).1, (h1 i hi).2⟩, h2, h3, gl, gs, v, B, L, ?_, h5⟩
  obtain ⟨a1, a2, a3, a4, a5, a6, a7, a8, a9, a10, a11, a12, a13, xs, b1, b2, b3, b4⟩ := h4
  exact ⟨fun i hi => ⟨Nat.le_trans hb (a1 i hi).1, (a1 i hi).2⟩, a2, a3, a4, a5, a6, a7, a8, a9, a10, a11, a12, a13, xs, b1, ownsRow_base b2 hb, b3, b4⟩
/-- What a call makes of a disk. -/
def DskTo (base : Nat) (O : Foot) (r : Nat) (D' : Dsk) (w w' : World) : Prop := ∃ O', DskIs w' base O' r D' ∧ OnlyO base O w w' ∧ Grown O O' w.heap.size

end Go.Proofs.YtejelednnacnaaaGreatDoor

/-
  The program's disk, walked: has, of, burn, settle.
-/
namespace Go.Proofs.YtejelednnacnaaaGreatDoor
open Go.RowKit

/-- A slice of what waits, up to a place. -/
theorem waits_to (a : Option Addr) (N cap k : Nat) (ha : a = none ∨ ∃ g, a = some ⟨g, 0, none⟩) (hk : k ≤ cap) : ∀ W : World, (Instr.slice 60 (.slice a N cap) none (some (.int .i64 (k : Int))) none).run Tryz.prog W = .ok (.slice a k cap) W := fun W => by
  have hs : ∀ W : World, (sizeOf (Tryz.prog.elem 60)).run Tryz.prog W = .ok 2 W := fun W => by kernel_rfl
  have := run_slice_h (P := Tryz.prog) W 60 a N cap (by kernel_rfl) .i64 (k : Int) (by omega) (by omega)
  rw [this, hs]
  simp only [Result.andThen, Int.toNat_natCast, sliced]
  rcases ha with rfl | ⟨g, rfl⟩
  · simp
  · simp [Addr.add]

set_option maxRecDepth 100000 in
set_option maxHeartbeats 4000000 in
theorem bhas_any (r n : Nat) (i : Int) (w : World) (c0 : w.cell? ⟨r, 0, none⟩ = some (.int .i64 (n : Int))) :
    Calls Tryz.prog 46 #[.pointer (some ⟨r, 0, none⟩), .int .i64 i] w fun e w' => e = .returned (.bool (decide (0 ≤ i ∧ i < (n : Int)))) ∧ w' = w := by
  by_cases h0 : 0 ≤ i
  · have hn : ¬ i < 0 := by omega
    by_cases h1 : i < (n : Int)
    · rw [show decide (0 ≤ i ∧ i < (n : Int)) = true from by simp [h0, h1]]
      go_enter Tryz.func46, Tryz.ntmps46
      go_wp2
      go_ret
      exact ⟨rfl, rfl⟩
    · rw [show decide (0 ≤ i ∧ i < (n : Int)) = false from by simp [h1]]
      go_enter Tryz.func46, Tryz.ntmps46
      go_wp2
      go_ret
      exact ⟨rfl, rfl⟩
  · rw [show decide (0 ≤ i ∧ i < (n : Int)) = false from by simp [h0]]
    have hn : i < 0 := by omega
    go_enter Tryz.func46, Tryz.ntmps46
    go_wp2
    go_ret
    exact ⟨rfl, rfl⟩

set_option maxRecDepth 100000 in
set_option maxHeartbeats 4000000 in
theorem bof_any (r g n size M i : Nat) (w : World) (c1 : w.cell? ⟨r, 1, none⟩ = some (.int .i64 (size : Int))) (hM : n * size = M) (hi : i < n) (hn : n ≤ 400) (hs : size ≤ 512) (hs0 : 32 ≤ size) :
    Calls Tryz.prog 38 #[.pointer (some ⟨r, 0, none⟩), .slice (some ⟨g, 0, none⟩) M M, .int .i64 (i : Int)] w fun e w' => e = .returned (.slice (some ⟨g, i * size, none⟩) size (M - i * size)) ∧ Below w.heap.size w w' := by
  have hfit := fit (size := size) hi
  have hmost : n * size ≤ 204800 := Nat.mul_le_mul hn hs
  rw [hM] at hfit hmost
  obtain ⟨A, hA⟩ : ∃ A, i * size = A := ⟨_, rfl⟩
  rw [hA] at hfit ⊢
  obtain ⟨B, hB⟩ : ∃ B, A + size = B := ⟨_, rfl⟩
  have hw1 : IntKind.i64.wrap ((i : Int) * (size : Int)) = (A : Int) := by
    have e : (i : Int) * (size : Int) = (A : Int) := by rw [← hA]; simp
    rw [e, IntKind.wrap_i64]; omega
  have hw2 : IntKind.i64.wrap ((i : Int) + 1) = (i : Int) + 1 := by rw [IntKind.wrap_i64]; omega
  have hw3 : IntKind.i64.wrap (((i : Int) + 1) * (size : Int)) = (B : Int) := by
    have e : ((i : Int) + 1) * (size : Int) = (B : Int) := by rw [← hB, ← hA, Int.add_mul]; simp
    rw [e, IntKind.wrap_i64]; omega
  have hsl : ∀ W : World, (Instr.slice 22 (.slice (some ⟨g, 0, none⟩) M M) (some (.int .i64 (A : Int))) (some (.int .i64 (B : Int))) none).run Tryz.prog W = .ok (.slice (some ⟨g, A, none⟩) size (M - A)) W := fun W => by
    have hz : ∀ W : World, (sizeOf (Tryz.prog.elem 22)).run Tryz.prog W = .ok 1 W := fun W => by kernel_rfl
    have := run_slice_lh (P := Tryz.prog) W 22 (some ⟨g, 0, none⟩) M M (by kernel_rfl) .i64 .i64 (A : Int) (B : Int) (by omega) (by omega) (by omega)
    rw [this, hz]
    have e3 : ∀ j : Nat, (⟨g, 0, none⟩ : Addr).add j = ⟨g, j, none⟩ := fun j => by unfold Addr.add; split <;> simp_all
    simp only [Result.andThen, Int.toNat_natCast, sliced]
    rw [if_neg (by omega)]
    simp only [Option.map_some, Nat.mul_one, e3]
    rw [show B - A = size by omega]
  clear hM hA hB hfit hmost
  go_enter Tryz.func38, Tryz.ntmps38
  go_wp2
  go_quiet (fail)
  have HB2 := Lib.hid (below_drewN (Below.refl w.heap.size w) nq)
  generalize w.drewN nq = w2 at HB2 ⊢
  go_wp2
  go_ret
  exact ⟨rfl, HB2.out⟩

/-- Bytes stay while a cell that is none of them is set. -/
theorem ArgB.set {w : World} {v : Value} {l : List Int} (h : ArgB w v l) {r j : Nat} {y : Value} (hc : w.cell? ⟨r, j, none⟩ = some y) (hy : ∀ z, y ≠ .int .u8 z) (x : Value) : ArgB (w.setCell ⟨r, j, none⟩ x) v l := by
  rcases h with h | ⟨a, cap, rfl, hc2, hcell⟩
  · exact Or.inl h
  · refine Or.inr ⟨a, cap, rfl, hc2, fun i hi => ?_⟩
    rw [World.cell?_setCell_other _ _ _ _ (fun e => by rw [e, hcell i hi] at hc; exact hy _ (Option.some.inj hc).symm)]
    exact hcell i hi

set_option maxRecDepth 100000 in
set_option maxHeartbeats 4000000 in
theorem bburn_arg (base : Nat) (O : Foot) (r : Nat) (D : Dsk) (w : World) (h : DskIs w base O r D) (hd : D.deeds ≤ 1000000) :
    Calls Tryz.prog 26 #[.pointer (some ⟨r, 0, none⟩)] w fun e w' => e = .returned (.bool D.deed.1) ∧ DskIs w' base O r D.deed.2 ∧ OnlyO base O w w' ∧ ∀ v l, ArgB w v l → ArgB w' v l := by
  obtain ⟨hown, hmem, hok, gl, gs, v, B, L, hp, hf, l0, l1⟩ := h
  have HP := Lib.hid hp
  have HOK := Lib.hid hok
  have HOK2 := Lib.hid hok.deed.1
  have HOWN := Lib.hid hown
  have hbr := (hown r hmem).1
  have hdk := hp.dk
  have HDK := Lib.hid hdk
  obtain ⟨c0, c1, c2, c3, c4, c5, c6, c7, c8, q, sl⟩ := hdk
  have q5 := q 5
  have q7 := q 7
  have q8 := q 8
  obtain ⟨dd, hdd⟩ : ∃ k, D.deeds = k := ⟨_, rfl⟩
  rw [hdd] at c5 hd
  have hwd : IntKind.i64.wrap ((dd : Int) + 1) = (dd : Int) + 1 := by rw [IntKind.wrap_i64]; omega
  have HDD := Lib.hid hdd
  have HF := Lib.hid hf
  clear hp hok hown c0 c1 c2 c3 c4 q hdd hf
  have hsame : ∀ (j : Nat) (x : Value) (i : Nat), i ≠ r → (w.setCell ⟨r, j, none⟩ x).heap[i]? = w.heap[i]? := fun j x i hne => set_else w r j x i hne
  have HSAME := Lib.hid hsame
  clear hsame
  rcases HF.out with ⟨rfl, hfu, hL0⟩ | ⟨rfl, hfu⟩
  · by_cases h0 : L = 0
    · have hfin : Hid (D.deed = (false, { D with dark := true })) := by unfold Hid Dsk.deed; rw [if_pos (by rw [hfu]; exact h0)]
      have HFU := Lib.hid hfu
      subst h0
      clear hfu
      go_enter Tryz.func26, Tryz.ntmps26
      go_wp2
      go_ret
      have h2 := HOK2.out
      rw [hfin.out] at h2 ⊢
      exact ⟨rfl, ⟨fun i hi => by simpa using HOWN.out i hi, hmem, h2, gl, gs, v, true, 0, HP.out.cells (HDK.out.set.2.2.2.2 true) (HSAME.out 8 _) (by simp), HF.out, l0, l1⟩, (OnlyO.refl _ _ _).set hmem hbr _ _, fun v l hA => hA.set HDK.out.c8 (fun z e => by cases e) _⟩
    · have h0b : (L == 0) = false := by simpa using h0
      have hw1 : IntKind.i64.wrap (L - 1) = L - 1 := by rw [IntKind.wrap_i64]; omega
      have hfin : Hid (D.deed = (true, { D with fuse := L - 1, deeds := dd + 1 })) := by unfold Hid Dsk.deed; rw [if_neg (by rw [hfu]; exact h0), hfu, if_pos (by omega), HDD.out]
      have e5 : (w.setCell ⟨r, 7, none⟩ (.int .i64 (L - 1))).cell? ⟨r, 5, none⟩ = some (.int .i64 (dd : Int)) := by rw [← HDD.out]; exact (HDK.out.set.2.2.2.1 (L - 1)).c5
      have HL := Lib.hid (And.intro hL0 (And.intro l0 (And.intro l1 h0)))
      clear hfu hL0 l0 l1
      go_enter Tryz.func26, Tryz.ntmps26
      go_wp2
      go_ret
      have h2 := HOK2.out
      obtain ⟨hL0, l0, l1, hne⟩ := HL.out
      rw [hfin.out] at h2 ⊢
      exact ⟨rfl, ⟨fun i hi => by simpa using HOWN.out i hi, hmem, h2, gl, gs, v, true, L - 1, HP.out.cells ((HDK.out.set.2.2.2.1 (L - 1)).set.2.1 ((dd : Int) + 1)) (fun i hne => (set_else _ r 5 _ i hne).trans (HSAME.out 7 _ i hne)) (by simp), Or.inl ⟨rfl, rfl, by omega⟩, by omega, by omega⟩, ((OnlyO.refl _ _ _).set hmem hbr _ _).set hmem hbr _ _, fun v l hA => (hA.set HDK.out.c7 (fun z e => by cases e) _).set (HDK.out.set.2.2.2.1 (L - 1)).c5 (fun z e => by cases e) _⟩
  · have hfin : Hid (D.deed = (true, { D with fuse := -1, deeds := dd + 1 })) := by unfold Hid Dsk.deed; rw [if_neg (by rw [hfu]; decide), hfu, if_neg (by decide), HDD.out]
    have HL := Lib.hid (And.intro l0 l1)
    clear hfu l0 l1
    go_enter Tryz.func26, Tryz.ntmps26
    go_wp2
    go_ret
    have h2 := HOK2.out
    obtain ⟨l0, l1⟩ := HL.out
    rw [hfin.out] at h2 ⊢
    exact ⟨rfl, ⟨fun i hi => by simpa using HOWN.out i hi, hmem, h2, gl, gs, v, false, L, HP.out.cells (HDK.out.set.2.1 ((dd : Int) + 1)) (HSAME.out 5 _) (by simp), Or.inr ⟨rfl, rfl⟩, l0, l1⟩, (OnlyO.refl _ _ _).set hmem hbr _ _, fun v l hA => hA.set HDK.out.c5 (fun z e => by cases e) _⟩
theorem bburn_any (base : Nat) (O : Foot) (r : Nat) (D : Dsk) (w : World) (h : DskIs w base O r D) (hd : D.deeds ≤ 1000000) :
    Calls Tryz.prog 26 #[.pointer (some ⟨r, 0, none⟩)] w fun e w' => e = .returned (.bool D.deed.1) ∧ DskIs w' base O r D.deed.2 ∧ OnlyO base O w w' :=
  (bburn_arg base O r D w h hd).mono fun _ _ ⟨h1, h2, h3, _⟩ => ⟨h1, h2, h3⟩

/-- What each operation of a drawn statement has made: a value that is known. -/
def TV (vals : List Value) (k : Nat) (v : Value) (_ : World) : Prop := v = vals.getD k undef
/-- Where a statement with a copy stands: ahead of it nothing old has changed, behind it the row. -/
def JL (base g : Nat) (l : List Int) (w1 : World) (b : Bool) (w : World) : Prop := OnlyO base (fun i => b = true ∧ i = g) w1 w ∧ (b = true → RowB w g l)
theorem JL.keep {base g : Nat} {l : List Int} {w1 : World} (hb1 : base ≤ w1.heap.size) (b : Bool) (w w' : World) (h : JL base g l w1 b w) (hb : Below w.heap.size w w') : JL base g l w1 b w' :=
  ⟨⟨h.1.bel.trans (hb.mono (Nat.le_trans hb1 h.1.size)), fun i hi hne => (hb.block i (Nat.lt_of_lt_of_le hi h.1.size)).trans (h.1.keep i hi hne)⟩, fun e => (h.2 e).kept (hb.block g (h.2 e).lt)⟩
theorem JL.start {base g : Nat} {l : List Int} {w1 : World} : JL base g l w1 false w1.drew := ⟨⟨(Below.refl _ _).drew, fun _ _ _ => rfl⟩, fun e => by cases e⟩
theorem JL.only {base g : Nat} {l : List Int} {w1 w : World} {b : Bool} (h : JL base g l w1 b w) : OnlyO base (fun i => i = g) w1 w := h.1.weak (fun _ hi => hi.2)
theorem JL.blk {base g : Nat} {l : List Int} {w1 w : World} {b : Bool} (h : JL base g l w1 b w) {i : Nat} (hi : i < w1.heap.size) (hne : i ≠ g) : w.heap[i]? = w1.heap[i]? := h.1.keep i hi (fun hh => hne hh.2)
theorem JL.blk0 {base g : Nat} {l : List Int} {w1 w : World} (h : JL base g l w1 false w) {i : Nat} (hi : i < w1.heap.size) : w.heap[i]? = w1.heap[i]? := h.1.keep i hi (fun hh => by cases hh.1)
theorem JL.laid {base g : Nat} {l : List Int} {w1 w w' : World} (h : JL base g l w1 false w) (hr : RowB w' g l) (ho : OnlyO base (fun i => i = g) w w') : JL base g l w1 true w' :=
  ⟨⟨h.1.bel.trans ho.bel, fun i hi hne => (ho.keep i (Nat.lt_of_lt_of_le hi h.1.size) (fun e => hne ⟨rfl, e⟩)).trans (h.1.keep i hi (fun hh => by cases hh.1))⟩, fun _ => hr⟩

set_option maxRecDepth 100000 in
set_option maxHeartbeats 8000000 in
theorem bsettle_any (base : Nat) (O : Foot) (r gl gs : Nat) (v : Value) (n size : Nat) (la se : List Int) (ws : List (Nat × List Int)) (deeds : Int) (B : Bool) (L : Int) (dark : Bool) (k : Nat) (w : World) (h : Parts w base O r gl gs v n size la se ws deeds B L dark) (hk : k ≤ ws.length) (hws : ws.length ≤ 2000000) :
    Calls Tryz.prog 27 #[.pointer (some ⟨r, 0, none⟩), .int .i64 (k : Int)] w fun e w' => e = .returned (.tuple #[]) ∧ Parts w' base O r gl gs v n size (seenAt la ws k) se ws deeds B L dark ∧ OnlyO base O w w' := by
  have HP := Lib.hid h
  obtain ⟨a, cap, hv⟩ := h.ww.size
  subst hv
  have hacap : (a = none ∨ ∃ g, a = some ⟨g, 0, none⟩) ∧ ws.length ≤ cap := by
    obtain ⟨xs, _, h2, _⟩ := h.ww
    rcases h2.2 with ⟨e, h0⟩ | ⟨g, cap', cur, e, _, _, hc, _⟩
    · simp only [Value.slice.injEq] at e
      exact ⟨Or.inl e.1, by omega⟩
    · simp only [Value.slice.injEq] at e
      exact ⟨Or.inr ⟨g, e.1⟩, by omega⟩
  obtain ⟨N, hN⟩ : ∃ N, ws.length = N := ⟨_, rfl⟩
  have HN := Lib.hid hN
  have hsl := waits_to a N cap k hacap.1 (by omega)
  have c4 := h.dk.c4
  rw [hN] at c4 hk hws
  have hbase := (h.own r h.mr).1
  have HM := Lib.hid (And.intro h.mr h.ml)
  clear h hacap hN
  go_enter Tryz.func27, Tryz.ntmps27
  go_wp2
  go_loopw [13] (fun v13 wr => ∃ j : Nat, v13 = .int .i64 (j : Int) ∧ j ≤ k ∧ Parts wr base O r gl gs (.slice a ws.length cap) n size (seenAt la ws j) se ws deeds B L dark ∧ OnlyO base O w wr) (fun v13 _ => k - (intOf v13).toNat)
  case atStart => exact ⟨0, rfl, Nat.zero_le _, HP.out, OnlyO.refl _ _ _⟩
  case round =>
    obtain ⟨j, rfl, hj, hPr, hG⟩ := hrel
    have HPr := Lib.hid hPr
    have HG := Lib.hid hG
    clear hG
    by_cases hlt : j < k
    case neg =>
      obtain rfl : j = k := by omega
      clear hPr
      go_wp2
      go_end0
      exact ⟨rfl, HPr.out, HG.out⟩
    case pos =>
    obtain ⟨g, cap', x, e, hcap', q0, q1, _, hpg, hone⟩ := hPr.ww.one (k := j) (by rw [HN.out]; omega)
    simp only [Value.slice.injEq, true_and] at e
    obtain ⟨rfl, rfl⟩ := e
    have hnext := seenAt_next la ws j (by rw [HN.out]; omega)
    obtain ⟨p, hp⟩ : ∃ p, ws.getD j (0, []) = p := ⟨_, rfl⟩
    rw [hp] at hone hnext
    obtain ⟨La, hLa⟩ : ∃ La, seenAt la ws j = La := ⟨_, rfl⟩
    rw [hLa] at HPr hPr hnext
    obtain ⟨M, hM⟩ : ∃ M, n * size = M := ⟨_, rfl⟩
    have hfit := fit (size := size) hone.lt
    have hdk := hPr.dk
    have hrs := hdk.s
    have hxlt := hone.row.lt
    obtain ⟨pv, hpv⟩ : ∃ x, wr.heap.size = x := ⟨_, rfl⟩
    have HPV := Lib.hid hpv
    obtain ⟨wA, hwA⟩ : ∃ y, wr.alloc (.cells #[.int .i64 (x.1 : Int), .slice (some ⟨x.2, 0, none⟩) size size] 91) = y := ⟨_, rfl⟩
    have hbA : Below wr.heap.size wr wA := by rw [← hwA]; exact (Below.refl _ _).alloc (Nat.le_refl _) _
    have hvA : Var2 wA pv (.int .i64 (x.1 : Int)) (.slice (some ⟨x.2, 0, none⟩) size size) := by rw [← hwA]; exact Var2.fresh wr _ _ _ pv hpv.symm
    have HA := Lib.hid hwA
    have hszA := hbA.size
    have hbaseA : base ≤ wA.heap.size := by omega
    have hglr := hPr.ne.1
    have hbg := (hPr.own gl hPr.ml).1
    have hpvgl : pv ≠ gl := by have := (hPr.own gl hPr.ml).2; omega
    have hpgl : x.2 ≠ gl := hone.ap.1.2.1
    have HCell : Hid (∀ q W, JL base gl (layL La p) wA q W → W.cell? ⟨pv, 0, none⟩ = some (.int .i64 (x.1 : Int)) ∧ W.cell? ⟨pv, 1, none⟩ = some (.slice (some ⟨x.2, 0, none⟩) size size) ∧ W.cell? ⟨r, 1, none⟩ = some (.int .i64 (size : Int)) ∧ W.cell? ⟨r, 2, none⟩ = some (.slice (some ⟨gl, 0, none⟩) M M)) := fun q W hj => by
      have e1 := hj.blk (i := pv) hvA.s hpvgl
      have e2 := (hj.blk (i := r) (by omega) (Ne.symm hglr)).trans (hbA.block r hrs)
      refine ⟨(World.cell?_of_block e1).trans hvA.c0, (World.cell?_of_block e1).trans hvA.c1, (World.cell?_of_block e2).trans hdk.c1, ?_⟩
      rw [← hM]; exact (World.cell?_of_block e2).trans hdk.c2
    have HOF : Hid (∀ q W, JL base gl (layL La p) wA q W → Calls Tryz.prog 38 #[.pointer (some ⟨r, 0, none⟩), .slice (some ⟨gl, 0, none⟩) M M, .int .i64 (x.1 : Int)] W fun e w' => e = .returned (.slice (some ⟨gl, x.1 * size, none⟩) size (M - x.1 * size)) ∧ Below W.heap.size W w') := fun q W hj =>
      bof_any r gl n size M x.1 W (HCell.out q W hj).2.2.1 hM hone.lt hPr.n1 hPr.s1 hPr.s0
    have HROW : Hid (∀ W, JL base gl (layL La p) wA false W → ArgB W (.slice (some ⟨x.2, 0, none⟩) p.2.length size) p.2 ∧ RowB W gl La) := fun W hj =>
      ⟨(hone.row.kept ((hj.blk0 (i := x.2) (by omega)).trans (hbA.block _ hxlt))).whole _ _ rfl (by rw [hone.len]; exact Nat.le_refl _), hPr.rl.kept ((hj.blk0 (i := gl) (by have := hPr.rl.lt; omega)).trans (hbA.block _ hPr.rl.lt))⟩
    have HLEN : Hid (p.2.length = size) := hone.len
    rw [HLEN.out] at HROW
    have HFIT : Hid (x.1 * size + p.2.length ≤ La.length) := by unfold Hid; rw [hone.len, hPr.ll]; exact hfit
    have HBG := Lib.hid hbg
    have HEND : Hid (∀ W, JL base gl (layL La p) wA true W → Parts W base O r gl gs (.slice (some ⟨g, 0, none⟩) ws.length cap) n size (seenAt la ws (j + 1)) se ws deeds B L dark ∧ OnlyO base O w W) := fun W hj => by
      have hA := HPr.out.after hbA
      refine ⟨?_, (HG.out.trans (OnlyO.of hbA (by omega)) (Grown.refl _ _)).trans (hj.only.weak (fun i e => by rw [e]; exact HM.out.2)) (Grown.refl _ _)⟩
      rw [hnext]
      refine hA.last (hj.2 rfl) hj.only ?_
      have e := hone.at_
      rw [layL_len (by rw [e]; exact HFIT.out), hPr.ll]
    have hpe : p = (x.1 * size, p.2) := by rw [← hone.at_]
    have HPE := Lib.hid hpe
    have hin : (j : Int) < (k : Int) := by omega
    have hgN : j < ws.length := by rw [HN.out]; omega
    clear hPr hone hnext hp hLa hM hfit hdk hrs hxlt hvA hszA hglr hbg hpvgl hpgl hbA hpg hpe hsl c4 HP
    go_wp2
    refine wp_region_mixp 11 10 (TV [.pointer (some ⟨r, 0, none⟩), .pointer (some ⟨r, 0, none⟩), .pointer (some ⟨r, 0, none⟩), .pointer (some ⟨r, 2, none⟩), .slice (some ⟨gl, 0, none⟩) M M, .pointer (some ⟨pv, 0, none⟩), .int .i64 (x.1 : Int), .slice (some ⟨gl, x.1 * size, none⟩) size (M - x.1 * size), .pointer (some ⟨pv, 1, none⟩), .slice (some ⟨x.2, 0, none⟩) size size, .int .i64 (size : Int)]) (JL base gl (layL La p) wA) (fun _ _ => True) (by kernel_rfl) (by kernel_rfl) (by decide) (fun _ _ _ _ h _ => h) (fun _ _ _ _ _ h _ => h) (JL.keep hbaseA) JL.start ?_ ?_
    · refine ⟨?_, ?_, ?_, ?_, ?_, ?_, ?_, ?_, ?_, ?_, ?_, ?_, ?_, ?_, ?_, ?_, ?_, ?_, ?_, ?_, ?_, ?_, trivial⟩
      · intro _ u W q hj hd
        simp only [List.take_succ_cons, List.take_zero, putAll, Act.put, List.setIfInBounds_toArray, List.set_cons_succ, List.set_cons_zero, Nat.zero_add, Nat.reduceAdd]
        go_wp2
        first | exact ⟨rfl, Below.refl _ _⟩ | exact ⟨_, rfl, rfl, Below.refl _ _⟩
      · exact fun hk => absurd hk (by decide)
      · intro _ u W q hj hd
        simp only [List.take_succ_cons, List.take_zero, putAll, Act.put, List.setIfInBounds_toArray, List.set_cons_succ, List.set_cons_zero, Nat.zero_add, Nat.reduceAdd]
        go_wp2
        first | exact ⟨rfl, Below.refl _ _⟩ | exact ⟨_, rfl, rfl, Below.refl _ _⟩
      · exact fun hk => absurd hk (by decide)
      · intro _ u W q hj hd
        obtain ⟨hd0, _⟩ := hd
        have e0 : u 1 = .pointer (some ⟨r, 0, none⟩) := hd0 rfl (by decide)
        simp only [List.take_succ_cons, List.take_zero, putAll, Act.put, List.setIfInBounds_toArray, List.set_cons_succ, List.set_cons_zero, Nat.zero_add, Nat.reduceAdd]
        rw [e0]
        go_wp2
        first | exact ⟨rfl, Below.refl _ _⟩ | exact ⟨_, rfl, rfl, Below.refl _ _⟩
      · exact fun hk => absurd hk (by decide)
      · intro _ u W q hj hd
        obtain ⟨hd0, _⟩ := hd
        have e0 : u 2 = .pointer (some ⟨r, 0, none⟩) := hd0 rfl (by decide)
        simp only [List.take_succ_cons, List.take_zero, putAll, Act.put, List.setIfInBounds_toArray, List.set_cons_succ, List.set_cons_zero, Nat.zero_add, Nat.reduceAdd]
        rw [e0]
        go_wp2
        first | exact ⟨rfl, Below.refl _ _⟩ | exact ⟨_, rfl, rfl, Below.refl _ _⟩
      · exact fun hk => absurd hk (by decide)
      · intro _ u W q hj hd
        obtain ⟨hd0, _⟩ := hd
        have e0 : u 3 = .pointer (some ⟨r, 2, none⟩) := hd0 rfl (by decide)
        obtain ⟨k1, k2, k3, k4⟩ := HCell.out q W hj
        simp only [List.take_succ_cons, List.take_zero, putAll, Act.put, List.setIfInBounds_toArray, List.set_cons_succ, List.set_cons_zero, Nat.zero_add, Nat.reduceAdd]
        rw [e0]
        go_wp2
        first | exact ⟨rfl, Below.refl _ _⟩ | exact ⟨_, rfl, rfl, Below.refl _ _⟩
      · exact fun hk => absurd hk (by decide)
      · intro _ u W q hj hd
        simp only [List.take_succ_cons, List.take_zero, putAll, Act.put, List.setIfInBounds_toArray, List.set_cons_succ, List.set_cons_zero, Nat.zero_add, Nat.reduceAdd]
        go_wp2
        first | exact ⟨rfl, Below.refl _ _⟩ | exact ⟨_, rfl, rfl, Below.refl _ _⟩
      · exact fun hk => absurd hk (by decide)
      · intro _ u W q hj hd
        obtain ⟨hd0, _⟩ := hd
        have e0 : u 5 = .pointer (some ⟨pv, 0, none⟩) := hd0 rfl (by decide)
        obtain ⟨k1, k2, k3, k4⟩ := HCell.out q W hj
        simp only [List.take_succ_cons, List.take_zero, putAll, Act.put, List.setIfInBounds_toArray, List.set_cons_succ, List.set_cons_zero, Nat.zero_add, Nat.reduceAdd]
        rw [e0]
        go_wp2
        first | exact ⟨rfl, Below.refl _ _⟩ | exact ⟨_, rfl, rfl, Below.refl _ _⟩
      · exact fun hk => absurd hk (by decide)
      · intro _ u W q hj hd
        obtain ⟨hd0, hd1, hd2, _⟩ := hd
        have e0 : u 0 = .pointer (some ⟨r, 0, none⟩) := hd0 rfl (by decide)
        have e1 : u 4 = .slice (some ⟨gl, 0, none⟩) M M := hd1 rfl (by decide)
        have e2 : u 6 = .int .i64 (x.1 : Int) := hd2 rfl (by decide)
        simp only [List.take_succ_cons, List.take_zero, putAll, Act.put, List.setIfInBounds_toArray, List.set_cons_succ, List.set_cons_zero, Nat.zero_add, Nat.reduceAdd]
        rw [e0, e1, e2]
        go_wp2_with (go_at_call 38; (with_reducible refine (HOF.out q W hj).mono ?_); rintro e W1 ⟨rfl, g⟩)
        exact ⟨_, rfl, rfl, g⟩
      · exact fun hk => absurd hk (by decide)
      · intro _ u W q hj hd
        simp only [List.take_succ_cons, List.take_zero, putAll, Act.put, List.setIfInBounds_toArray, List.set_cons_succ, List.set_cons_zero, Nat.zero_add, Nat.reduceAdd]
        go_wp2
        first | exact ⟨rfl, Below.refl _ _⟩ | exact ⟨_, rfl, rfl, Below.refl _ _⟩
      · exact fun hk => absurd hk (by decide)
      · intro _ u W q hj hd
        obtain ⟨hd0, _⟩ := hd
        have e0 : u 8 = .pointer (some ⟨pv, 1, none⟩) := hd0 rfl (by decide)
        obtain ⟨k1, k2, k3, k4⟩ := HCell.out q W hj
        simp only [List.take_succ_cons, List.take_zero, putAll, Act.put, List.setIfInBounds_toArray, List.set_cons_succ, List.set_cons_zero, Nat.zero_add, Nat.reduceAdd]
        rw [e0]
        go_wp2
        first | exact ⟨rfl, Below.refl _ _⟩ | exact ⟨_, rfl, rfl, Below.refl _ _⟩
      · exact fun hk => absurd hk (by decide)
      · exact fun hk => absurd hk (by decide)
      · intro _ u W hj hd
        obtain ⟨hd0, hd1, _, _⟩ := hd
        have e0 : u 7 = .slice (some ⟨gl, x.1 * size, none⟩) size (M - x.1 * size) := hd0 rfl (by decide)
        have e1 : u 9 = .slice (some ⟨x.2, 0, none⟩) size size := hd1 rfl (by decide)
        simp only [List.take_succ_cons, List.take_zero, putAll, Act.put, List.setIfInBounds_toArray, List.set_cons_succ, List.set_cons_zero, Nat.zero_add, Nat.reduceAdd]
        rw [e0, e1]
        refine wp_lay rfl _ _ rfl gl (x.1 * size) size (M - x.1 * size) rfl _ rfl p.2 ((HROW.out W hj).1) La ((HROW.out W hj).2) (by rw [HLEN.out]; exact Nat.le_refl _) HFIT.out base HBG.out ?_
        intro W2 h1 h2
        rw [HLEN.out]
        rw [← HPE.out] at h1
        go_wp2
        first | exact hj.laid h1 h2 | exact ⟨rfl, hj.laid h1 h2⟩ | exact ⟨_, rfl, rfl, trivial, hj.laid h1 h2⟩
    · intro u W hj hT
      have HJ := Lib.hid hj
      clear hj hT
      simp only [List.take_succ_cons, List.take_zero, List.drop_succ_cons, List.drop_zero, putAll, Act.put, List.setIfInBounds_toArray, List.set_cons_succ, List.set_cons_zero, Nat.zero_add, Nat.reduceAdd]
      go_wp2
      go_roundw
      case rel => exact ⟨j + 1, by go_num, by omega, HEND.out W HJ.out⟩
      case measure => simp [intOf]; omega

end Go.Proofs.YtejelednnacnaaaGreatDoor

/-
  The program's disk, walked: what only looks, Sync, Fuse, Read, New; a disk that isn't there.
-/
namespace Go.Proofs.YtejelednnacnaaaGreatDoor
open Go.RowKit

theorem lay_whole {Z X : List Int} (h : Z.length = X.length) : layL Z (0, X) = X := by
  unfold layL
  rw [List.take_zero, List.nil_append, Nat.zero_add]
  show X ++ Z.drop X.length = X
  rw [List.drop_eq_nil_of_le (by omega), List.append_nil]
theorem deed_same {D : Dsk} (h : D.Ok) : D.deed.2.seen = D.seen := by
  obtain ⟨_, h2, h3, _⟩ := h.deed
  unfold Dsk.seen
  rw [h2, h3]

set_option maxRecDepth 100000 in
set_option maxHeartbeats 4000000 in
theorem bdark_any (base : Nat) (O : Foot) (r : Nat) (D : Dsk) (w : World) (h : DskIs w base O r D) : Calls Tryz.prog 72 #[.pointer (some ⟨r, 0, none⟩)] w fun e w' => e = .returned (.bool D.dark) ∧ Below w.heap.size w w' := by
  obtain ⟨_, _, _, gl, gs, v, B, L, hp, _⟩ := h
  have c8 := hp.dk.c8
  clear hp
  go_enter Tryz.func72, Tryz.ntmps72
  go_wp2
  go_ret
  exact ⟨rfl, Below.refl _ _⟩
set_option maxRecDepth 100000 in
set_option maxHeartbeats 4000000 in
theorem bdark_nil (w : World) : Calls Tryz.prog 72 #[.pointer none] w fun e w' => e = .returned (.bool false) ∧ Below w.heap.size w w' := by
  go_enter Tryz.func72, Tryz.ntmps72
  go_wp2
  go_ret
  exact ⟨rfl, Below.refl _ _⟩
set_option maxRecDepth 100000 in
set_option maxHeartbeats 4000000 in
theorem bblocks_any (base : Nat) (O : Foot) (r : Nat) (D : Dsk) (w : World) (h : DskIs w base O r D) : Calls Tryz.prog 28 #[.pointer (some ⟨r, 0, none⟩)] w fun e w' => e = .returned (.int .i64 (D.n : Int)) ∧ Below w.heap.size w w' := by
  obtain ⟨_, _, _, gl, gs, v, B, L, hp, _⟩ := h
  have c0 := hp.dk.c0
  clear hp
  go_enter Tryz.func28, Tryz.ntmps28
  go_wp2
  go_ret
  exact ⟨rfl, Below.refl _ _⟩
set_option maxRecDepth 100000 in
set_option maxHeartbeats 4000000 in
theorem bblocks_nil (w : World) : Calls Tryz.prog 28 #[.pointer none] w fun e w' => e = .returned (.int .i64 0) ∧ Below w.heap.size w w' := by
  go_enter Tryz.func28, Tryz.ntmps28
  go_wp2
  go_ret
  exact ⟨rfl, Below.refl _ _⟩
set_option maxRecDepth 100000 in
set_option maxHeartbeats 4000000 in
theorem bsize_any (base : Nat) (O : Foot) (r : Nat) (D : Dsk) (w : World) (h : DskIs w base O r D) : Calls Tryz.prog 25 #[.pointer (some ⟨r, 0, none⟩)] w fun e w' => e = .returned (.int .i64 (D.size : Int)) ∧ Below w.heap.size w w' := by
  obtain ⟨_, _, _, gl, gs, v, B, L, hp, _⟩ := h
  have c1 := hp.dk.c1
  clear hp
  go_enter Tryz.func25, Tryz.ntmps25
  go_wp2
  go_ret
  exact ⟨rfl, Below.refl _ _⟩
set_option maxRecDepth 100000 in
set_option maxHeartbeats 4000000 in
theorem bsize_nil (w : World) : Calls Tryz.prog 25 #[.pointer none] w fun e w' => e = .returned (.int .i64 0) ∧ Below w.heap.size w w' := by
  go_enter Tryz.func25, Tryz.ntmps25
  go_wp2
  go_ret
  exact ⟨rfl, Below.refl _ _⟩
set_option maxRecDepth 100000 in
set_option maxHeartbeats 4000000 in
theorem bwrite_nil (i : Int) (w : World) (_i0 : -9223372036854775808 ≤ i) (_i1 : i ≤ 9223372036854775807) : Calls Tryz.prog 24 #[.pointer none, .int .i64 i, .slice none 0 0] w fun e w' => e = .returned (.int .i64 1) ∧ Below w.heap.size w w' := by
  go_enter Tryz.func24, Tryz.ntmps24
  go_wp2
  go_ret
  exact ⟨rfl, Below.refl _ _⟩
set_option maxRecDepth 100000 in
set_option maxHeartbeats 4000000 in
theorem bsync_nil (w : World) : Calls Tryz.prog 7 #[.pointer none] w fun e w' => e = .returned (.int .i64 1) ∧ Below w.heap.size w w' := by
  go_enter Tryz.func7, Tryz.ntmps7
  go_wp2
  go_ret
  exact ⟨rfl, Below.refl _ _⟩
set_option maxRecDepth 100000 in
set_option maxHeartbeats 4000000 in
theorem bfuse_nil (n : Int) (w : World) (_n0 : -9223372036854775808 ≤ n) (_n1 : n ≤ 9223372036854775807) : Calls Tryz.prog 12 #[.pointer none, .int .i64 n] w fun e w' => e = .returned (.tuple #[]) ∧ Below w.heap.size w w' := by
  go_enter Tryz.func12, Tryz.ntmps12
  go_wp2
  first | go_end0 | ((try simp only [Exit.inBlock, Exit.then]); refine bodyPost_ret (results_none rfl _ _ _) rfl ?_)
  exact ⟨rfl, Below.refl _ _⟩
set_option maxRecDepth 100000 in
set_option maxHeartbeats 4000000 in
theorem bcrash_nil (k t : Int) (w : World) (_k0 : -9223372036854775808 ≤ k) (_k1 : k ≤ 9223372036854775807) (_t0 : -9223372036854775808 ≤ t) (_t1 : t ≤ 9223372036854775807) : Calls Tryz.prog 16 #[.pointer none, .int .i64 k, .int .i64 t] w fun e w' => e = .returned (.tuple #[]) ∧ Below w.heap.size w w' := by
  go_enter Tryz.func16, Tryz.ntmps16
  go_wp2
  first | go_end0 | ((try simp only [Exit.inBlock, Exit.then]); refine bodyPost_ret (results_none rfl _ _ _) rfl ?_)
  exact ⟨rfl, Below.refl _ _⟩
set_option maxRecDepth 100000 in
set_option maxHeartbeats 4000000 in
theorem bread_nil (i : Int) (w : World) (_i0 : -9223372036854775808 ≤ i) (_i1 : i ≤ 9223372036854775807) : Calls Tryz.prog 29 #[.pointer none, .int .i64 i] w fun e w' => ∃ a c, e = .returned (.tuple #[.slice a 0 c, .int .i64 1]) ∧ Below w.heap.size w w' := by
  go_enter Tryz.func29, Tryz.ntmps29
  go_wp2
  go_ret2
  exact ⟨none, 0, rfl, Below.refl _ _⟩

set_option maxRecDepth 100000 in
set_option maxHeartbeats 4000000 in
theorem bsync_any (base : Nat) (O : Foot) (r : Nat) (D : Dsk) (w : World) (h : DskIs w base O r D) (hd : D.deeds ≤ 1000000) :
    Calls Tryz.prog 7 #[.pointer (some ⟨r, 0, none⟩)] w fun e w' => e = .returned (.int .i64 D.sync.1) ∧ DskTo base O r D.sync.2 w w' := by
  have HR := Lib.hid h
  have HSO := Lib.hid h.ok.sync
  have HOK := Lib.hid h.ok
  have hbr := (h.own r h.mem).1
  have hmem := h.mem
  have c8 : w.cell? ⟨r, 8, none⟩ = some (.bool D.dark) := by
    obtain ⟨_, _, _, gl, gs, v, B, L, hp, _⟩ := h
    exact hp.dk.c8
  clear h
  cases hdk : D.dark with
  | true =>
    rw [hdk] at c8
    have hfin : Hid (D.sync = (12, D)) := by unfold Hid Dsk.sync; rw [if_pos hdk]
    go_enter Tryz.func7, Tryz.ntmps7
    go_wp2
    go_ret
    rw [hfin.out]
    exact ⟨rfl, O, HR.out, OnlyO.refl _ _ _, Grown.refl _ _⟩
  | false =>
    rw [hdk] at c8
    have HBU := Lib.hid (bburn_any base O r D w HR.out hd)
    obtain ⟨_, hw2, hl2, hn2, hs2, hd6, hd7⟩ := HOK.out.deed
    cases hq : D.deed.1 with
    | false =>
      rw [hq] at HBU
      have hfin : Hid (D.sync = (12, D.deed.2)) := by unfold Hid Dsk.sync; rw [if_neg (by rw [hdk]; simp), if_neg (by rw [hq]; simp)]
      clear hw2 hl2 hn2 hs2 hd6 hd7
      go_enter Tryz.func7, Tryz.ntmps7
      go_wp2_with (go_at_call 26; (with_reducible refine (HBU.out).mono ?_); rintro e w1 ⟨rfl, h1, g1⟩; have H1 := Lib.hid h1; have G1 := Lib.hid g1; clear h1 g1)
      go_ret
      rw [hfin.out]
      exact ⟨rfl, O, H1.out, G1.out, Grown.refl _ _⟩
    | true =>
      rw [hq] at HBU
      have hfin : Hid (D.sync = (0, { D.deed.2 with last := D.seen, waits := [] })) := by unfold Hid Dsk.sync; rw [if_neg (by rw [hdk]; simp), if_pos hq]
      have hdd : D.deed.2.deeds ≤ 2000000 := by have := (hd6 hq).1; omega
      have HSE : Hid (D.deed.2.seen = D.seen) := deed_same HOK.out
      obtain ⟨E, hE⟩ : ∃ E, D.deed.2 = E := ⟨_, rfl⟩
      rw [hE] at HBU hfin hdd HSE
      rw [hfin.out] at HSO
      have HDD := Lib.hid hdd
      clear hw2 hl2 hn2 hs2 hd6 hd7 hE hdd
      go_enter Tryz.func7, Tryz.ntmps7
      go_wp2_with (first
        | (go_at_call 26; (with_reducible refine (HBU.out).mono ?_); rintro e w1 ⟨rfl, h1, g1⟩; have G1 := Lib.hid g1; have HW := Lib.hid h1.own; have hwd := h1.ok.wd; obtain ⟨_, _, _, gl, gs, v, B, L, hp, hf, l0, l1⟩ := h1; obtain ⟨a, cap, rfl⟩ := hp.ww.size; have HP := Lib.hid hp; have HF := Lib.hid (And.intro hf (And.intro l0 l1)); have c4 := hp.dk.c4; have hNN : E.waits.length ≤ 2000000 := (Nat.le_trans hwd HDD.out); have HSET := Lib.hid (bsettle_any base O r gl gs _ E.n E.size E.last E.seen E.waits _ B L E.dark E.waits.length w1 hp (Nat.le_refl _) hNN); obtain ⟨N, hN⟩ : ∃ N, E.waits.length = N := ⟨_, rfl⟩; have HN := Lib.hid hN; rw [hN] at c4 HSET HP; clear hp hf l0 l1 hwd hNN hN g1)
        | (go_at_call 27; (with_reducible refine (HSET.out).mono ?_); rintro e w2 ⟨rfl, hp2, g2⟩; have HP2 := Lib.hid hp2; have G2 := Lib.hid g2; have d4 := hp2.dk.c4; have q4 := hp2.dk.q 4; clear hp2 g2 c4))
      go_ret
      rw [hfin.out]
      have hz := HP2.out.clear (HP2.out.dk.set.1 (.slice none 0 0)) (fun i hne => set_else _ r 4 _ i hne) (by simp)
      have e1 : seenAt E.last E.waits N = D.seen := by rw [← HN.out, seenAt_all, ← HSE.out]; rfl
      rw [e1, HSE.out] at hz
      have g12 := G1.out.trans G2.out (Grown.refl _ _)
      refine ⟨rfl, O, ⟨fun i hi => ⟨(HW.out i hi).1, ?_⟩, hmem, HSO.out, gl, gs, _, B, L, hz, HF.out⟩, g12.set hmem hbr 4 _, Grown.refl _ _⟩
      have := (hz.own i hi).2
      simpa using this

set_option maxRecDepth 100000 in
set_option maxHeartbeats 4000000 in
theorem bfuse_any (base : Nat) (O : Foot) (r : Nat) (D : Dsk) (n : Int) (w : World) (h : DskIs w base O r D) (n0 : -9223372036854775808 ≤ n) (n1 : n ≤ 9223372036854775807) :
    Calls Tryz.prog 12 #[.pointer (some ⟨r, 0, none⟩), .int .i64 n] w fun e w' => e = .returned (.tuple #[]) ∧ DskTo base O r (D.light n) w w' := by
  have HOK := Lib.hid (h.ok.light n1)
  have HOWN := Lib.hid h.own
  have hbr := (h.own r h.mem).1
  have hmem := h.mem
  obtain ⟨_, _, _, gl, gs, v, B, L, hp, hf, l0, l1⟩ := h
  have HP := Lib.hid hp
  have HDK := Lib.hid hp.dk
  have c6 := hp.dk.c6
  have c7 := hp.dk.c7
  have q6 := hp.dk.q 6
  have q7 := hp.dk.q 7
  clear hp hf l0 l1
  by_cases hn : 0 ≤ n
  · have hn2 : ¬ n < 0 := by omega
    go_enter Tryz.func12, Tryz.ntmps12
    go_wp2
    go_end0
    refine ⟨rfl, O, ⟨fun i hi => by simpa using HOWN.out i hi, hmem, HOK.out, gl, gs, v, true, n, ?_, ?_, n0, n1⟩, ((OnlyO.refl _ _ _).set hmem hbr _ _).set hmem hbr _ _, Grown.refl _ _⟩
    · exact HP.out.cells ((HDK.out.set.2.2.1 true).set.2.2.2.1 n) (fun i hne => (set_else _ r 7 _ i hne).trans (set_else _ r 6 _ i hne)) (by simp)
    · exact Or.inl ⟨rfl, by unfold Dsk.light; exact if_neg (by omega), hn⟩
  · have hn2 : n < 0 := by omega
    go_enter Tryz.func12, Tryz.ntmps12
    go_wp2
    go_end0
    refine ⟨rfl, O, ⟨fun i hi => by simpa using HOWN.out i hi, hmem, HOK.out, gl, gs, v, false, n, ?_, ?_, n0, n1⟩, ((OnlyO.refl _ _ _).set hmem hbr _ _).set hmem hbr _ _, Grown.refl _ _⟩
    · exact HP.out.cells ((HDK.out.set.2.2.1 false).set.2.2.2.1 n) (fun i hne => (set_else _ r 7 _ i hne).trans (set_else _ r 6 _ i hne)) (by simp)
    · exact Or.inr ⟨rfl, by unfold Dsk.light; exact if_pos hn2⟩

set_option maxRecDepth 100000 in
set_option maxHeartbeats 4000000 in
theorem bread_any (base : Nat) (O : Foot) (r : Nat) (D : Dsk) (i : Int) (w : World) (h : DskIs w base O r D) (_hd : D.deeds ≤ 1000000) (_i0 : -9223372036854775808 ≤ i) (_i1 : i ≤ 9223372036854775807) :
    Calls Tryz.prog 29 #[.pointer (some ⟨r, 0, none⟩), .int .i64 i] w fun e w' => ∃ v, e = .returned (.tuple #[v, .int .i64 (D.read i).2]) ∧ ArgB w' v (D.read i).1 ∧ Below w.heap.size w w' := by
  obtain ⟨_, _, _, gl, gs, v, B, L, hp, _⟩ := h
  have HP := Lib.hid hp
  have c0 := hp.dk.c0
  have c1 := hp.dk.c1
  have c3 := hp.dk.c3
  have c8 := hp.dk.c8
  clear hp
  cases hdk : D.dark with
  | true =>
    rw [hdk] at c8
    have hfin : Hid (D.read i = ([], 12)) := by unfold Hid Dsk.read; rw [if_pos hdk]
    clear hdk
    go_enter Tryz.func29, Tryz.ntmps29
    go_wp2
    go_ret2
    rw [hfin.out]
    exact ⟨_, rfl, ArgB.nil _, Below.refl _ _⟩
  | false =>
    rw [hdk] at c8
    have HHAS := Lib.hid (bhas_any r D.n i w c0)
    by_cases hc : 0 ≤ i ∧ i < (D.n : Int)
    case neg =>
      have hfin : Hid (D.read i = ([], 2)) := by unfold Hid Dsk.read; rw [if_neg (by rw [hdk]; simp), if_pos (by omega)]
      rw [show decide (0 ≤ i ∧ i < (D.n : Int)) = false from by simpa using hc] at HHAS
      clear hc hdk
      go_enter Tryz.func29, Tryz.ntmps29
      go_wp2_with (go_at_call 46; (with_reducible refine (HHAS.out).mono ?_); rintro e w1 ⟨rfl, rfl⟩)
      go_ret2
      rw [hfin.out]
      exact ⟨_, rfl, ArgB.nil _, Below.refl _ _⟩
    case pos =>
      obtain ⟨I, rfl⟩ : ∃ I : Nat, i = (I : Int) := ⟨i.toNat, by omega⟩
      have hI : I < D.n := by omega
      have hfin : Hid (D.read (I : Int) = ((D.seen.drop (I * D.size)).take D.size, 0)) := by unfold Hid Dsk.read; rw [if_neg (by rw [hdk]; simp), if_neg (by omega), Int.toNat_natCast]
      rw [show decide (0 ≤ (I : Int) ∧ (I : Int) < (D.n : Int)) = true from by simp [hc]] at HHAS
      obtain ⟨M, hM⟩ : ∃ M, D.n * D.size = M := ⟨_, rfl⟩
      rw [hM] at c3
      have hs1 := HP.out.s1
      have hfit := fit (size := D.size) hI
      obtain ⟨w2, hmk, hrow, hb2⟩ := made_row w D.size (by omega)
      have HB2 := Lib.hid hb2
      have HROW := Lib.hid hrow
      have hp2 := HP.out.after hb2
      have d3 := hp2.dk.c3
      rw [hM] at d3
      have HOF := Lib.hid (bof_any r gs D.n D.size M I w2 hp2.dk.c1 hM hI hp2.n1 hp2.s1 hp2.s0)
      have HP2 := Lib.hid hp2
      obtain ⟨S, hS⟩ : ∃ S, D.size = S := ⟨_, rfl⟩
      obtain ⟨wb, hwb⟩ : ∃ x, w.heap.size = x := ⟨_, rfl⟩
      rw [hwb] at hmk HROW
      have HWB := Lib.hid hwb
      have HS := Lib.hid hS
      have HLAY : Hid (∀ W, Below w2.heap.size w2 W → ∃ W', (Builtin.copy_ #[22, 22] 3 #[.slice (some ⟨wb, 0, none⟩) S S, .slice (some ⟨gs, I * S, none⟩) S (M - I * S)]).run Tryz.prog W = .ok (.int .i64 (S : Int)) W' ∧ ArgB W' (.slice (some ⟨wb, 0, none⟩) S S) ((D.seen.drop (I * S)).take S) ∧ Below wb w W') := fun W hW => by
        rw [hS] at hfit
        have hlen : D.seen.length = D.n * S := by rw [HP2.out.ls, hS]
        have hl : ((D.seen.drop (I * S)).take S).length = S := by rw [List.length_take, List.length_drop]; omega
        have hg := (HP2.out.rs.kept (hW.block gs HP2.out.rs.lt)).arg (I * S) S (M - I * S) (by omega) (by rw [← hM, hS]; omega)
        have hr := HROW.out.kept (hW.block wb HROW.out.lt)
        obtain ⟨W', k1, k2, k3⟩ := run_lay W wb 0 S S _ _ hg _ hr (by rw [hl]; exact Nat.le_refl _) (by rw [hl, List.length_replicate, hS]; omega) wb (Nat.le_refl _) 3
        rw [hl] at k1
        refine ⟨W', k1, ?_, ?_⟩
        · have h3 := k2.whole S S (by rw [layL_len (by simp only [hl, List.length_replicate]; omega), List.length_replicate, hS]) (Nat.le_refl _)
          have e : layL (List.replicate D.size (0 : Int)) (0, (D.seen.drop (I * S)).take S) = (D.seen.drop (I * S)).take S := by
            exact lay_whole (by rw [List.length_replicate, hl, hS])
          rw [e] at h3
          exact h3
        · have := k3.bel
          rw [← HWB.out] at this ⊢
          exact (HB2.out.trans (hW.mono HB2.out.size)).trans this
      rw [hS] at hmk c1 hfin HOF
      clear hfit hp2 hrow hb2 hwb hM hI hs1 hS hdk hc
      go_enter Tryz.func29, Tryz.ntmps29
      go_wp2_with (first
        | (go_at_call 46; (with_reducible refine (HHAS.out).mono ?_); rintro e w1 ⟨rfl, rfl⟩)
        | (go_at_call 38; (with_reducible refine (HOF.out).mono ?_); rintro e w3 ⟨rfl, g3⟩; obtain ⟨w4, k1, k2, k3⟩ := HLAY.out w3 g3; have K2 := Lib.hid k2; have K3 := Lib.hid k3; clear k2 k3 g3))
      go_ret2
      rw [hfin.out]
      have := K3.out
      rw [← HWB.out] at this
      exact ⟨_, rfl, K2.out, this⟩

/-- What New hands back. -/
def GivesN (n size : Int) (w : World) (e : Ending) (w' : World) : Prop :=
  Below w.heap.size w w' ∧ ((¬ (1 ≤ n ∧ n ≤ 400 ∧ 32 ≤ size ∧ size ≤ 512) ∧ e = .returned (.tuple #[.pointer none, .int .i64 2])) ∨
    (1 ≤ n ∧ n ≤ 400 ∧ 32 ≤ size ∧ size ≤ 512 ∧ ∃ r O, e = .returned (.tuple #[.pointer (some ⟨r, 0, none⟩), .int .i64 0]) ∧ DskIs w' w.heap.size O r (Dsk.new n.toNat size.toNat)))
/-- The blocks of a new one. -/
theorem new_is (n size : Nat) (n0 : 1 ≤ n) (n1 : n ≤ 400) (s0 : 32 ≤ size) (s1 : size ≤ 512) (w w2 : World) (gl gs r : Nat) (hl : RowB w2 gl (List.replicate (n * size) 0)) (hs : RowB w2 gs (List.replicate (n * size) 0)) (hb : Below w.heap.size w w2) (hgl : w.heap.size ≤ gl) (hgs : w.heap.size ≤ gs) (hne : gl ≠ gs) (hr : r = w2.heap.size) :
    DskIs (w2.alloc (.cells #[.int .i64 (n : Int), .int .i64 (size : Int), .slice (some ⟨gl, 0, none⟩) (n * size) (n * size), .slice (some ⟨gs, 0, none⟩) (n * size) (n * size), .slice none 0 0, .int .i64 0, .bool false, .int .i64 0, .bool false] 62)) w.heap.size (fun i => i = r ∨ i = gl ∨ i = gs) r (Dsk.new n size) := by
  subst hr
  have hb3 := below_more (Below.refl w2.heap.size w2) (.cells #[.int .i64 (n : Int), .int .i64 (size : Int), .slice (some ⟨gl, 0, none⟩) (n * size) (n * size), .slice (some ⟨gs, 0, none⟩) (n * size) (n * size), .slice none 0 0, .int .i64 0, .bool false, .int .i64 0, .bool false] 62)
  have hlt := hl.lt
  have hst := hs.lt
  have hw := hb.size
  have hown : ∀ i, (i = w2.heap.size ∨ i = gl ∨ i = gs) → w.heap.size ≤ i ∧ i < (w2.alloc (.cells #[.int .i64 (n : Int), .int .i64 (size : Int), .slice (some ⟨gl, 0, none⟩) (n * size) (n * size), .slice (some ⟨gs, 0, none⟩) (n * size) (n * size), .slice none 0 0, .int .i64 0, .bool false, .int .i64 0, .bool false] 62)).heap.size := fun i hi => by
    simp
    omega
  refine ⟨hown, Or.inl rfl, Dsk.new_ok n0 n1 s0 s1, gl, gs, .slice none 0 0, false, 0, ⟨hown, ?_, hl.kept (hb3.block gl hlt), hs.kept (hb3.block gs hst), Or.inl rfl, Or.inr (Or.inl rfl), Or.inr (Or.inr rfl), ⟨by omega, by omega, hne⟩, ?_, ?_, n1, s0, s1, ⟨[], rfl, World.ownsRow_nil _ _ _ _, fun g hg => (by cases hg), fun k hk => by cases hk⟩⟩, Or.inr ⟨rfl, rfl⟩, by decide, by decide⟩
  · exact ⟨by simp; rfl, by simp; rfl, by simp; rfl, by simp; rfl, by simp, by simp; rfl, by simp, by simp, by simp; rfl, fun i => by simp [go_sem], by simp⟩
  · show (List.replicate (n * size) (0 : Int)).length = n * size
    rw [List.length_replicate]
  · show (List.replicate (n * size) (0 : Int)).length = n * size
    rw [List.length_replicate]

end Go.Proofs.YtejelednnacnaaaGreatDoor

/-
  The program's disk, walked: New.
-/
namespace Go.Proofs.YtejelednnacnaaaGreatDoor
open Go.RowKit

set_option maxRecDepth 100000 in
set_option maxHeartbeats 4000000 in
theorem bnew_not (n size : Int) (w : World) (h : ¬ (1 ≤ n ∧ n ≤ 400 ∧ 32 ≤ size ∧ size ≤ 512)) :
    Calls Tryz.prog 18 #[.int .i64 n, .int .i64 size] w (GivesN n size w) := by
  have HN := Lib.hid h
  have hc : n < 1 ∨ (¬ n < 1 ∧ 400 < n) ∨ (¬ n < 1 ∧ ¬ 400 < n ∧ size < 32) ∨ (¬ n < 1 ∧ ¬ 400 < n ∧ ¬ size < 32 ∧ 512 < size) := by omega
  clear h
  rcases hc with h1 | ⟨h1, h2⟩ | ⟨h1, h2, h3⟩ | ⟨h1, h2, h3, h4⟩
  all_goals
    go_enter Tryz.func18, Tryz.ntmps18
    go_wp2
    go_ret2
    exact ⟨Below.refl _ _, Or.inl ⟨HN.out, rfl⟩⟩

set_option maxRecDepth 100000 in
set_option maxHeartbeats 8000000 in
theorem bnew_done (n size : Nat) (w : World) (n0 : 1 ≤ n) (n1 : n ≤ 400) (s0 : 32 ≤ size) (s1 : size ≤ 512) :
    Calls Tryz.prog 18 #[.int .i64 (n : Int), .int .i64 (size : Int)] w fun e w' => Below w.heap.size w w' ∧ ∃ r O, e = .returned (.tuple #[.pointer (some ⟨r, 0, none⟩), .int .i64 0]) ∧ DskIs w' w.heap.size O r (Dsk.new n size) := by
  have h1 : ¬ (n : Int) < 1 := by omega
  have h2 : ¬ (400 : Int) < (n : Int) := by omega
  have h3 : ¬ (size : Int) < 32 := by omega
  have h4 : ¬ (512 : Int) < (size : Int) := by omega
  have hmost : n * size ≤ 204800 := Nat.mul_le_mul n1 s1
  have HNEW := Lib.hid (fun w2 gl gs r => new_is n size n0 n1 s0 s1 w w2 gl gs r)
  obtain ⟨M, hM⟩ : ∃ M, n * size = M := ⟨_, rfl⟩
  have hmul : IntKind.i64.wrap ((n : Int) * (size : Int)) = (M : Int) := by
    have e : (n : Int) * (size : Int) = (M : Int) := by rw [← hM]; simp
    rw [e, IntKind.wrap_i64]; omega
  rw [hM] at HNEW
  obtain ⟨mk, hmk⟩ : ∃ f : World → World, ∀ W : World, (Instr.makeSlice 22 (.int .i64 (M : Int)) (.int .i64 (M : Int))).run Tryz.prog W = .ok (.slice (some ⟨W.heap.size, 0, none⟩) M M) (f W) ∧ RowB (f W) W.heap.size (List.replicate M 0) ∧ Below W.heap.size W (f W) :=
    ⟨fun W => Classical.choose (made_row W M (by omega)), fun W => Classical.choose_spec (made_row W M (by omega))⟩
  have hm1 := fun W => (hmk W).1
  have HMK := Lib.hid (fun W => (hmk W).2)
  clear hmk hM hmost n0 n1 s0 s1
  go_enter Tryz.func18, Tryz.ntmps18
  go_wp2
  go_region
  all_goals
    go_wp2
    go_ret2
    have A1 := HMK.out w.drew
    have A2 := HMK.out (mk w.drew)
    have e0 : w.drew.heap.size = w.heap.size := rfl
    rw [e0] at A1
    have b1 : Below w.heap.size w (mk w.drew) := ((Below.refl _ _).drew).trans A1.2
    have b2 : Below w.heap.size w (mk (mk w.drew)) := b1.trans (A2.2.mono b1.size)
    have l1 := A1.1.lt
    have r1 : RowB (mk (mk w.drew)) w.heap.size (List.replicate M 0) := A1.1.kept (A2.2.block _ l1)
    refine ⟨b2.trans ((Below.refl _ _).alloc b2.size _), ?_⟩
    first
      | exact ⟨_, _, rfl, HNEW.out _ w.heap.size (mk w.drew).heap.size _ r1 A2.1 b2 (Nat.le_refl _) b1.size (Nat.ne_of_lt l1) rfl⟩
      | exact ⟨_, _, rfl, HNEW.out _ (mk w.drew).heap.size w.heap.size _ A2.1 r1 b2 b1.size (Nat.le_refl _) (Ne.symm (Nat.ne_of_lt l1)) rfl⟩
theorem bnew_any (n size : Int) (w : World) (_n0 : -9223372036854775808 ≤ n) (_n1 : n ≤ 9223372036854775807) (_s0 : -9223372036854775808 ≤ size) (_s1 : size ≤ 9223372036854775807) :
    Calls Tryz.prog 18 #[.int .i64 n, .int .i64 size] w (GivesN n size w) := by
  by_cases h : 1 ≤ n ∧ n ≤ 400 ∧ 32 ≤ size ∧ size ≤ 512
  · obtain ⟨h1, h2, h3, h4⟩ := h
    obtain ⟨N, rfl⟩ : ∃ N : Nat, n = (N : Int) := ⟨n.toNat, by omega⟩
    obtain ⟨S, rfl⟩ : ∃ S : Nat, size = (S : Int) := ⟨size.toNat, by omega⟩
    exact (bnew_done N S w (by omega) (by omega) (by omega) (by omega)).mono (fun e w' ⟨hb, r, O, he, hd⟩ => ⟨hb, Or.inr ⟨h1, h2, h3, h4, r, O, he, by rw [Int.toNat_natCast, Int.toNat_natCast]; exact hd⟩⟩)
  · exact bnew_not n size w h

end Go.Proofs.YtejelednnacnaaaGreatDoor

/-
  The program's disk, walked: Crash.
-/
namespace Go.Proofs.YtejelednnacnaaaGreatDoor
open Go.RowKit

/-- What a crash leaves, by how many are kept and how much of the next one. -/
theorem left_all {la : List Int} {ws : List (Nat × List Int)} {D : Dsk} (hl : D.last = la) (hw : D.waits = ws) (keep torn : Int) (h : ws.length ≤ keep.toNat) : D.left keep torn = seenAt la ws ws.length := by
  unfold Dsk.left
  rw [hw, List.getElem?_eq_none h, seenAt_all, hl]
theorem left_some {D : Dsk} (keep torn : Int) (T : Nat) (h : keep.toNat < D.waits.length) (hT : (D.waits.getD keep.toNat (0, [])).2.take torn.toNat = (D.waits.getD keep.toNat (0, [])).2.take T) :
    D.left keep torn = layL (seenAt D.last D.waits keep.toNat) ((D.waits.getD keep.toNat (0, [])).1, (D.waits.getD keep.toNat (0, [])).2.take T) := by
  unfold Dsk.left
  rw [← hT, List.getElem?_eq_getElem h, List.getD_eq_getElem?_getD, List.getElem?_eq_getElem h]
  rfl
/-- A slice of bytes, up to a place. -/
theorem bytes_to (g N cap k : Nat) (hk : k ≤ cap) : ∀ W : World, (Instr.slice 22 (.slice (some ⟨g, 0, none⟩) N cap) none (some (.int .i64 (k : Int))) none).run Tryz.prog W = .ok (.slice (some ⟨g, 0, none⟩) k cap) W := fun W => by
  have hs : ∀ W : World, (sizeOf (Tryz.prog.elem 22)).run Tryz.prog W = .ok 1 W := fun W => by kernel_rfl
  have := run_slice_h (P := Tryz.prog) W 22 (some ⟨g, 0, none⟩) N cap (by kernel_rfl) .i64 (k : Int) (by omega) (by omega)
  rw [this, hs]
  simp only [Result.andThen, Int.toNat_natCast, sliced]
  simp [Addr.add]

set_option maxRecDepth 100000 in
set_option maxHeartbeats 8000000 in
theorem bcrash_parts (base : Nat) (O : Foot) (r gl gs : Nat) (a : Option Addr) (N cap n size : Nat) (la se : List Int) (ws : List (Nat × List Int)) (deeds : Int) (B : Bool) (L : Int) (dark : Bool) (keep torn KK TT : Int) (K T : Nat) (w : World) (hN : ws.length = N) (hNw : N ≤ 2000000)
    (h : Parts w base O r gl gs (.slice a N cap) n size la se ws deeds B L dark) (hk1 : max keep 0 = KK) (hk2 : min KK (N : Int) = (K : Int)) (ht1 : max torn 0 = TT) (ht2 : min TT (size : Int) = (T : Int)) (hK : K ≤ N) (hT : T ≤ size)
    (la2 : List Int) (hla : la2 = if K < N then layL (seenAt la ws K) ((ws.getD K (0, [])).1, (ws.getD K (0, [])).2.take T) else seenAt la ws N) (Q : World → Prop)
    (hend : ∀ W, Parts W base O r gl gs (.slice a N cap) n size la2 la2 ws deeds B L dark → OnlyO base O w W → Q ((((W.setCell ⟨r, 4, none⟩ (.slice none 0 0)).setCell ⟨r, 6, none⟩ (.bool false)).setCell ⟨r, 7, none⟩ (.int .i64 0)).setCell ⟨r, 8, none⟩ (.bool false))) :
    Calls Tryz.prog 16 #[.pointer (some ⟨r, 0, none⟩), .int .i64 keep, .int .i64 torn] w fun e w' => e = .returned (.tuple #[]) ∧ Q w' := by
  have HEND := Lib.hid hend
  have c1 := h.dk.c1
  have c4 := h.dk.c4
  have HSET := Lib.hid (bsettle_any base O r gl gs _ n size la se ws deeds B L dark K w h (by omega) (by omega))
  have HN := Lib.hid hN
  obtain ⟨M, hM⟩ : ∃ M, n * size = M := ⟨_, rfl⟩
  have HM := Lib.hid hM
  have HB0 := Lib.hid (h.own r h.mr)
  have HMR := Lib.hid h.mr
  clear hend h hN hM
  by_cases hKN : K < N
  case neg =>
    have hKN2 : ¬ (K : Int) < (N : Int) := by omega
    obtain rfl : N = K := by omega
    rw [if_neg hKN] at hla
    rw [← hla] at HSET
    clear hla
    go_enter Tryz.func16, Tryz.ntmps16
    go_wp2_with (go_at_call 27; (with_reducible refine (HSET.out).mono ?_); rintro e wB ⟨rfl, hp2, g2⟩; have HPB := Lib.hid hp2; have GB := Lib.hid g2; have d4 := hp2.dk.c4; clear hp2 g2 c4 c1)
    have HC7 : Hid (∀ q W, JL base gs la2 wB q W → W.cell? ⟨r, 2, none⟩ = some (.slice (some ⟨gl, 0, none⟩) M M) ∧ W.cell? ⟨r, 3, none⟩ = some (.slice (some ⟨gs, 0, none⟩) M M)) := fun q W hj => by
      have e2 := hj.blk (i := r) HPB.out.dk.s (Ne.symm HPB.out.ne.2.1)
      rw [← HM.out]
      exact ⟨(World.cell?_of_block e2).trans HPB.out.dk.c2, (World.cell?_of_block e2).trans HPB.out.dk.c3⟩
    have HR7 : Hid (∀ W, JL base gs la2 wB false W → ArgB W (.slice (some ⟨gl, 0, none⟩) M M) la2 ∧ RowB W gs se) := fun W hj =>
      ⟨(HPB.out.rl.kept (hj.blk0 HPB.out.rl.lt)).whole _ _ (by rw [HPB.out.ll, HM.out]) (Nat.le_refl _), HPB.out.rs.kept (hj.blk0 HPB.out.rs.lt)⟩
    have HLL : Hid (la2.length = M) := by unfold Hid; rw [HPB.out.ll, HM.out]
    have HLS : Hid (se.length = M) := by unfold Hid; rw [HPB.out.ls, HM.out]
    have HBS : Hid (base ≤ gs) := (HPB.out.own gs HPB.out.ms).1
    have HLAY : Hid (layL se (0, la2) = la2) := lay_whole (by rw [HLL.out, HLS.out])
    have hbaseB : base ≤ wB.heap.size := by have := HPB.out.own gs HPB.out.ms; omega
    have HFIN7 : Hid (∀ W, JL base gs la2 wB true W → Parts W base O r gl gs (.slice a N cap) n size la2 la2 ws deeds B L dark ∧ OnlyO base O w W) := fun W hj =>
      ⟨HPB.out.view (hj.2 rfl) hj.only HPB.out.ll, GB.out.trans (hj.only.weak (fun i e => by rw [e]; exact HPB.out.ms)) (Grown.refl _ _)⟩
    refine wp_region_mixp 9 8 (TV [.pointer (some ⟨r, 0, none⟩), .pointer (some ⟨r, 0, none⟩), .pointer (some ⟨r, 3, none⟩), .slice (some ⟨gs, 0, none⟩) M M, .pointer (some ⟨r, 0, none⟩), .pointer (some ⟨r, 0, none⟩), .pointer (some ⟨r, 2, none⟩), .slice (some ⟨gl, 0, none⟩) M M, .int .i64 (M : Int)]) (JL base gs la2 wB) (fun _ _ => True) (by kernel_rfl) (by kernel_rfl) (by decide) (fun _ _ _ _ h _ => h) (fun _ _ _ _ _ h _ => h) (JL.keep hbaseB) JL.start ?_ ?_
    · refine ⟨?_, ?_, ?_, ?_, ?_, ?_, ?_, ?_, ?_, ?_, ?_, ?_, ?_, ?_, ?_, ?_, ?_, ?_, trivial⟩
      · intro _ u W q hj hd
        simp only [List.take_succ_cons, List.take_zero, putAll, Act.put, List.setIfInBounds_toArray, List.set_cons_succ, List.set_cons_zero, Nat.zero_add, Nat.reduceAdd]
        go_wp2
        first | exact ⟨rfl, Below.refl _ _⟩ | exact ⟨_, rfl, rfl, Below.refl _ _⟩
      · exact fun hk => absurd hk (by decide)
      · intro _ u W q hj hd
        obtain ⟨hd0, _⟩ := hd
        have e0 : u 0 = .pointer (some ⟨r, 0, none⟩) := hd0 rfl (by decide)
        simp only [List.take_succ_cons, List.take_zero, putAll, Act.put, List.setIfInBounds_toArray, List.set_cons_succ, List.set_cons_zero, Nat.zero_add, Nat.reduceAdd]
        rw [e0]
        go_wp2
        first | exact ⟨rfl, Below.refl _ _⟩ | exact ⟨_, rfl, rfl, Below.refl _ _⟩
      · exact fun hk => absurd hk (by decide)
      · intro _ u W q hj hd
        obtain ⟨hd0, _⟩ := hd
        have e0 : u 1 = .pointer (some ⟨r, 0, none⟩) := hd0 rfl (by decide)
        simp only [List.take_succ_cons, List.take_zero, putAll, Act.put, List.setIfInBounds_toArray, List.set_cons_succ, List.set_cons_zero, Nat.zero_add, Nat.reduceAdd]
        rw [e0]
        go_wp2
        first | exact ⟨rfl, Below.refl _ _⟩ | exact ⟨_, rfl, rfl, Below.refl _ _⟩
      · exact fun hk => absurd hk (by decide)
      · intro _ u W q hj hd
        obtain ⟨hd0, _⟩ := hd
        have e0 : u 2 = .pointer (some ⟨r, 3, none⟩) := hd0 rfl (by decide)
        obtain ⟨k2, k3⟩ := HC7.out q W hj
        simp only [List.take_succ_cons, List.take_zero, putAll, Act.put, List.setIfInBounds_toArray, List.set_cons_succ, List.set_cons_zero, Nat.zero_add, Nat.reduceAdd]
        rw [e0]
        go_wp2
        first | exact ⟨rfl, Below.refl _ _⟩ | exact ⟨_, rfl, rfl, Below.refl _ _⟩
      · exact fun hk => absurd hk (by decide)
      · intro _ u W q hj hd
        simp only [List.take_succ_cons, List.take_zero, putAll, Act.put, List.setIfInBounds_toArray, List.set_cons_succ, List.set_cons_zero, Nat.zero_add, Nat.reduceAdd]
        go_wp2
        first | exact ⟨rfl, Below.refl _ _⟩ | exact ⟨_, rfl, rfl, Below.refl _ _⟩
      · exact fun hk => absurd hk (by decide)
      · intro _ u W q hj hd
        obtain ⟨hd0, _⟩ := hd
        have e0 : u 4 = .pointer (some ⟨r, 0, none⟩) := hd0 rfl (by decide)
        simp only [List.take_succ_cons, List.take_zero, putAll, Act.put, List.setIfInBounds_toArray, List.set_cons_succ, List.set_cons_zero, Nat.zero_add, Nat.reduceAdd]
        rw [e0]
        go_wp2
        first | exact ⟨rfl, Below.refl _ _⟩ | exact ⟨_, rfl, rfl, Below.refl _ _⟩
      · exact fun hk => absurd hk (by decide)
      · intro _ u W q hj hd
        obtain ⟨hd0, _⟩ := hd
        have e0 : u 5 = .pointer (some ⟨r, 0, none⟩) := hd0 rfl (by decide)
        simp only [List.take_succ_cons, List.take_zero, putAll, Act.put, List.setIfInBounds_toArray, List.set_cons_succ, List.set_cons_zero, Nat.zero_add, Nat.reduceAdd]
        rw [e0]
        go_wp2
        first | exact ⟨rfl, Below.refl _ _⟩ | exact ⟨_, rfl, rfl, Below.refl _ _⟩
      · exact fun hk => absurd hk (by decide)
      · intro _ u W q hj hd
        obtain ⟨hd0, _⟩ := hd
        have e0 : u 6 = .pointer (some ⟨r, 2, none⟩) := hd0 rfl (by decide)
        obtain ⟨k2, k3⟩ := HC7.out q W hj
        simp only [List.take_succ_cons, List.take_zero, putAll, Act.put, List.setIfInBounds_toArray, List.set_cons_succ, List.set_cons_zero, Nat.zero_add, Nat.reduceAdd]
        rw [e0]
        go_wp2
        first | exact ⟨rfl, Below.refl _ _⟩ | exact ⟨_, rfl, rfl, Below.refl _ _⟩
      · exact fun hk => absurd hk (by decide)
      · exact fun hk => absurd hk (by decide)
      · intro _ u W hj hd
        obtain ⟨hd0, hd1, _⟩ := hd
        have e0 : u 3 = .slice (some ⟨gs, 0, none⟩) M M := hd0 rfl (by decide)
        have e1 : u 7 = .slice (some ⟨gl, 0, none⟩) M M := hd1 rfl (by decide)
        simp only [List.take_succ_cons, List.take_zero, putAll, Act.put, List.setIfInBounds_toArray, List.set_cons_succ, List.set_cons_zero, Nat.zero_add, Nat.reduceAdd]
        rw [e0, e1]
        refine wp_lay rfl _ _ rfl gs 0 M M rfl _ rfl la2 ((HR7.out W hj).1) se ((HR7.out W hj).2) (by rw [HLL.out]; exact Nat.le_refl _) (by rw [HLL.out, HLS.out, Nat.zero_add]; exact Nat.le_refl _) base HBS.out ?_
        intro W2 h1 h2
        rw [HLL.out]
        rw [HLAY.out] at h1
        go_wp2
        first | exact hj.laid h1 h2 | exact ⟨rfl, hj.laid h1 h2⟩ | exact ⟨_, rfl, rfl, trivial, hj.laid h1 h2⟩
    · intro u W hj hT
      have e0 : u 0 = .pointer (some ⟨r, 0, none⟩) := hT 0 (by decide)
      obtain ⟨hp7, g7⟩ := HFIN7.out W hj
      have HP7 := Lib.hid hp7
      have G7 := Lib.hid g7
      have hdk := hp7.dk
      have d4 := hdk.c4
      have d6 := hdk.c6
      have d7 := hdk.c7
      have d8 := hdk.c8
      have q4 := hdk.q 4
      have q6 := hdk.q 6
      have q7 := hdk.q 7
      have q8 := hdk.q 8
      clear hj hT hp7 g7 hdk
      simp only [List.take_succ_cons, List.take_zero, List.drop_succ_cons, List.drop_zero, putAll, Act.put, List.setIfInBounds_toArray, List.set_cons_succ, List.set_cons_zero, Nat.zero_add, Nat.reduceAdd]
      go_wp2
      go_end0
      exact ⟨rfl, HEND.out W HP7.out G7.out⟩
  case pos =>
    have hKN2 : (K : Int) < (N : Int) := by omega
    rw [if_pos hKN] at hla
    have hk0 : (0 : Int) ≤ (K : Int) := by omega
    go_enter Tryz.func16, Tryz.ntmps16
    go_wp2_with (go_at_call 27; (with_reducible refine (HSET.out).mono ?_); rintro e wr ⟨rfl, hPr, hG⟩; have HPr := Lib.hid hPr; have HG := Lib.hid hG; have d4 := hPr.dk.c4; obtain ⟨g, cap', x, e, hcap', q0, q1, _, hpg, hone⟩ := hPr.ww.one (k := K) (by rw [HN.out]; exact hKN); simp only [Value.slice.injEq] at e; obtain ⟨rfl, e2, rfl⟩ := e; clear e2; obtain ⟨p, hp⟩ : ∃ p, ws.getD K (0, []) = p := ⟨_, rfl⟩; rw [hp] at hone hla; obtain ⟨La, hLa⟩ : ∃ La, seenAt la ws K = La := ⟨_, rfl⟩; rw [hLa] at HPr hPr hla; have hfit := fit (size := size) hone.lt; have hdk := hPr.dk; have hrs := hdk.s; have hxlt := hone.row.lt; have HONE := Lib.hid hone; have HPG := Lib.hid hpg; have HLA := Lib.hid hla; have HFI := Lib.hid hfit; have HRS := Lib.hid hrs; have HXL := Lib.hid hxlt; obtain ⟨pv, hpv⟩ : ∃ y, wr.heap.size = y := ⟨_, rfl⟩; have HPV := Lib.hid hpv; obtain ⟨wA, hwA⟩ : ∃ y, wr.alloc (.cells #[.int .i64 (x.1 : Int), .slice (some ⟨x.2, 0, none⟩) size size] 91) = y := ⟨_, rfl⟩; have HA := Lib.hid hwA; clear hG hPr hone hla hfit hdk hrs hxlt hpg hp hLa c4 c1)
    have hbA : Below wr.heap.size wr wA := by rw [← HA.out]; exact (Below.refl _ _).alloc (Nat.le_refl _) _
    have hvA : Var2 wA pv (.int .i64 (x.1 : Int)) (.slice (some ⟨x.2, 0, none⟩) size size) := by rw [← HA.out]; exact Var2.fresh wr _ _ _ pv HPV.out.symm
    have hrs := HRS.out
    have hpl := HPV.out
    have hszA := hbA.size
    have hbaseA : base ≤ wA.heap.size := by have h0 := HB0.out; omega
    have hglr := HPr.out.ne.1
    have hpvgl : pv ≠ gl := by have := (HPr.out.own gl HPr.out.ml).2; omega
    have hxlt := HXL.out
    obtain ⟨pt, hpt⟩ : ∃ y, p.2.take T = y := ⟨_, rfl⟩
    have hptl : pt.length = T := by rw [← hpt, List.length_take, HONE.out.len]; omega
    have HBT : Hid (∀ W : World, (Instr.slice 22 (.slice (some ⟨x.2, 0, none⟩) size size) none (some (.int .i64 (T : Int))) none).run Tryz.prog W = .ok (.slice (some ⟨x.2, 0, none⟩) T size) W) := bytes_to x.2 size size T hT
    have hlay : la2 = layL La (x.1 * size, pt) := by rw [HLA.out, HONE.out.at_, hpt]
    have HCell : Hid (∀ q W, JL base gl la2 wA q W → W.cell? ⟨pv, 0, none⟩ = some (.int .i64 (x.1 : Int)) ∧ W.cell? ⟨pv, 1, none⟩ = some (.slice (some ⟨x.2, 0, none⟩) size size) ∧ W.cell? ⟨r, 1, none⟩ = some (.int .i64 (size : Int)) ∧ W.cell? ⟨r, 2, none⟩ = some (.slice (some ⟨gl, 0, none⟩) M M)) := fun q W hj => by
      have e1 := hj.blk (i := pv) hvA.s hpvgl
      have e2 := (hj.blk (i := r) (by omega) (Ne.symm hglr)).trans (hbA.block r hrs)
      refine ⟨(World.cell?_of_block e1).trans hvA.c0, (World.cell?_of_block e1).trans hvA.c1, (World.cell?_of_block e2).trans HPr.out.dk.c1, ?_⟩
      rw [← HM.out]; exact (World.cell?_of_block e2).trans HPr.out.dk.c2
    have HOF : Hid (∀ q W, JL base gl la2 wA q W → Calls Tryz.prog 38 #[.pointer (some ⟨r, 0, none⟩), .slice (some ⟨gl, 0, none⟩) M M, .int .i64 (x.1 : Int)] W fun e w' => e = .returned (.slice (some ⟨gl, x.1 * size, none⟩) size (M - x.1 * size)) ∧ Below W.heap.size W w') := fun q W hj =>
      bof_any r gl n size M x.1 W (HCell.out q W hj).2.2.1 HM.out HONE.out.lt HPr.out.n1 HPr.out.s1 HPr.out.s0
    have HROW : Hid (∀ W, JL base gl la2 wA false W → ArgB W (.slice (some ⟨x.2, 0, none⟩) T size) pt ∧ RowB W gl La) := fun W hj => by
      have h1 := (HONE.out.row.kept ((hj.blk0 (i := x.2) (by omega)).trans (hbA.block _ hxlt))).arg 0 T size (by rw [HONE.out.len]; omega) hT
      rw [List.drop_zero, hpt] at h1
      exact ⟨h1, HPr.out.rl.kept ((hj.blk0 (i := gl) (by have := HPr.out.rl.lt; omega)).trans (hbA.block _ HPr.out.rl.lt))⟩
    have HLEN : Hid (pt.length = T) := hptl
    have HLE : Hid (pt.length ≤ size) := by unfold Hid; omega
    have HFIT : Hid (x.1 * size + pt.length ≤ La.length) := by unfold Hid; rw [HPr.out.ll]; have := HFI.out; omega
    have HBG : Hid (base ≤ gl) := (HPr.out.own gl HPr.out.ml).1
    have HLAY6 := Lib.hid hlay
    have HMID : Hid (∀ W, JL base gl la2 wA true W → Parts W base O r gl gs (.slice (some ⟨g, 0, none⟩) N cap) n size la2 se ws deeds B L dark ∧ OnlyO base O w W) := fun W hj => by
      have hA := HPr.out.after hbA
      refine ⟨hA.last (hj.2 rfl) hj.only ?_, (HG.out.trans (OnlyO.of hbA (by have h0 := HB0.out.1; omega)) (Grown.refl _ _)).trans (hj.only.weak (fun i e => by rw [e]; exact HPr.out.ml)) (Grown.refl _ _)⟩
      rw [hlay, layL_len HFIT.out, HPr.out.ll]
    clear hbA hvA hrs hpl hszA hglr hpvgl hxlt hpt hptl hlay HPV
    refine wp_region_mixp 13 12 (TV [.pointer (some ⟨r, 0, none⟩), .pointer (some ⟨r, 0, none⟩), .pointer (some ⟨r, 0, none⟩), .pointer (some ⟨r, 2, none⟩), .slice (some ⟨gl, 0, none⟩) M M, .pointer (some ⟨pv, 0, none⟩), .int .i64 (x.1 : Int), .slice (some ⟨gl, x.1 * size, none⟩) size (M - x.1 * size), .pointer (some ⟨pv, 1, none⟩), .slice (some ⟨x.2, 0, none⟩) size size, .int .i64 (T : Int), .slice (some ⟨x.2, 0, none⟩) T size, .int .i64 (T : Int)]) (JL base gl la2 wA) (fun _ _ => True) (by kernel_rfl) (by kernel_rfl) (by decide) (fun _ _ _ _ h _ => h) (fun _ _ _ _ _ h _ => h) (JL.keep hbaseA) JL.start ?_ ?_
    · refine ⟨?_, ?_, ?_, ?_, ?_, ?_, ?_, ?_, ?_, ?_, ?_, ?_, ?_, ?_, ?_, ?_, ?_, ?_, ?_, ?_, ?_, ?_, ?_, ?_, ?_, ?_, trivial⟩
      · intro _ u W q hj hd
        simp only [List.take_succ_cons, List.take_zero, putAll, Act.put, List.setIfInBounds_toArray, List.set_cons_succ, List.set_cons_zero, Nat.zero_add, Nat.reduceAdd]
        go_wp2
        first | exact ⟨rfl, Below.refl _ _⟩ | exact ⟨_, rfl, rfl, Below.refl _ _⟩
      · exact fun hk => absurd hk (by decide)
      · intro _ u W q hj hd
        simp only [List.take_succ_cons, List.take_zero, putAll, Act.put, List.setIfInBounds_toArray, List.set_cons_succ, List.set_cons_zero, Nat.zero_add, Nat.reduceAdd]
        go_wp2
        first | exact ⟨rfl, Below.refl _ _⟩ | exact ⟨_, rfl, rfl, Below.refl _ _⟩
      · exact fun hk => absurd hk (by decide)
      · intro _ u W q hj hd
        obtain ⟨hd0, _⟩ := hd
        have e0 : u 1 = .pointer (some ⟨r, 0, none⟩) := hd0 rfl (by decide)
        simp only [List.take_succ_cons, List.take_zero, putAll, Act.put, List.setIfInBounds_toArray, List.set_cons_succ, List.set_cons_zero, Nat.zero_add, Nat.reduceAdd]
        rw [e0]
        go_wp2
        first | exact ⟨rfl, Below.refl _ _⟩ | exact ⟨_, rfl, rfl, Below.refl _ _⟩
      · exact fun hk => absurd hk (by decide)
      · intro _ u W q hj hd
        obtain ⟨hd0, _⟩ := hd
        have e0 : u 2 = .pointer (some ⟨r, 0, none⟩) := hd0 rfl (by decide)
        simp only [List.take_succ_cons, List.take_zero, putAll, Act.put, List.setIfInBounds_toArray, List.set_cons_succ, List.set_cons_zero, Nat.zero_add, Nat.reduceAdd]
        rw [e0]
        go_wp2
        first | exact ⟨rfl, Below.refl _ _⟩ | exact ⟨_, rfl, rfl, Below.refl _ _⟩
      · exact fun hk => absurd hk (by decide)
      · intro _ u W q hj hd
        obtain ⟨hd0, _⟩ := hd
        have e0 : u 3 = .pointer (some ⟨r, 2, none⟩) := hd0 rfl (by decide)
        obtain ⟨k1, k2, k3, k4⟩ := HCell.out q W hj
        simp only [List.take_succ_cons, List.take_zero, putAll, Act.put, List.setIfInBounds_toArray, List.set_cons_succ, List.set_cons_zero, Nat.zero_add, Nat.reduceAdd]
        rw [e0]
        go_wp2
        first | exact ⟨rfl, Below.refl _ _⟩ | exact ⟨_, rfl, rfl, Below.refl _ _⟩
      · exact fun hk => absurd hk (by decide)
      · intro _ u W q hj hd
        simp only [List.take_succ_cons, List.take_zero, putAll, Act.put, List.setIfInBounds_toArray, List.set_cons_succ, List.set_cons_zero, Nat.zero_add, Nat.reduceAdd]
        go_wp2
        first | exact ⟨rfl, Below.refl _ _⟩ | exact ⟨_, rfl, rfl, Below.refl _ _⟩
      · exact fun hk => absurd hk (by decide)
      · intro _ u W q hj hd
        obtain ⟨hd0, _⟩ := hd
        have e0 : u 5 = .pointer (some ⟨pv, 0, none⟩) := hd0 rfl (by decide)
        obtain ⟨k1, k2, k3, k4⟩ := HCell.out q W hj
        simp only [List.take_succ_cons, List.take_zero, putAll, Act.put, List.setIfInBounds_toArray, List.set_cons_succ, List.set_cons_zero, Nat.zero_add, Nat.reduceAdd]
        rw [e0]
        go_wp2
        first | exact ⟨rfl, Below.refl _ _⟩ | exact ⟨_, rfl, rfl, Below.refl _ _⟩
      · exact fun hk => absurd hk (by decide)
      · intro _ u W q hj hd
        obtain ⟨hd0, hd1, hd2, _⟩ := hd
        have e0 : u 0 = .pointer (some ⟨r, 0, none⟩) := hd0 rfl (by decide)
        have e1 : u 4 = .slice (some ⟨gl, 0, none⟩) M M := hd1 rfl (by decide)
        have e2 : u 6 = .int .i64 (x.1 : Int) := hd2 rfl (by decide)
        simp only [List.take_succ_cons, List.take_zero, putAll, Act.put, List.setIfInBounds_toArray, List.set_cons_succ, List.set_cons_zero, Nat.zero_add, Nat.reduceAdd]
        rw [e0, e1, e2]
        go_wp2_with (go_at_call 38; (with_reducible refine (HOF.out q W hj).mono ?_); rintro e W1 ⟨rfl, g⟩)
        exact ⟨_, rfl, rfl, g⟩
      · exact fun hk => absurd hk (by decide)
      · intro _ u W q hj hd
        simp only [List.take_succ_cons, List.take_zero, putAll, Act.put, List.setIfInBounds_toArray, List.set_cons_succ, List.set_cons_zero, Nat.zero_add, Nat.reduceAdd]
        go_wp2
        first | exact ⟨rfl, Below.refl _ _⟩ | exact ⟨_, rfl, rfl, Below.refl _ _⟩
      · exact fun hk => absurd hk (by decide)
      · intro _ u W q hj hd
        obtain ⟨hd0, _⟩ := hd
        have e0 : u 8 = .pointer (some ⟨pv, 1, none⟩) := hd0 rfl (by decide)
        obtain ⟨k1, k2, k3, k4⟩ := HCell.out q W hj
        simp only [List.take_succ_cons, List.take_zero, putAll, Act.put, List.setIfInBounds_toArray, List.set_cons_succ, List.set_cons_zero, Nat.zero_add, Nat.reduceAdd]
        rw [e0]
        go_wp2
        first | exact ⟨rfl, Below.refl _ _⟩ | exact ⟨_, rfl, rfl, Below.refl _ _⟩
      · exact fun hk => absurd hk (by decide)
      · intro _ u W q hj hd
        simp only [List.take_succ_cons, List.take_zero, putAll, Act.put, List.setIfInBounds_toArray, List.set_cons_succ, List.set_cons_zero, Nat.zero_add, Nat.reduceAdd]
        go_wp2
        first | exact ⟨rfl, Below.refl _ _⟩ | exact ⟨_, rfl, rfl, Below.refl _ _⟩
      · exact fun hk => absurd hk (by decide)
      · intro _ u W q hj hd
        obtain ⟨hd0, hd1, _⟩ := hd
        have e0 : u 9 = .slice (some ⟨x.2, 0, none⟩) size size := hd0 rfl (by decide)
        have e1 : u 10 = .int .i64 (T : Int) := hd1 rfl (by decide)
        have kb := HBT.out
        simp only [List.take_succ_cons, List.take_zero, putAll, Act.put, List.setIfInBounds_toArray, List.set_cons_succ, List.set_cons_zero, Nat.zero_add, Nat.reduceAdd]
        rw [e0, e1]
        go_wp2
        first | exact ⟨rfl, Below.refl _ _⟩ | exact ⟨_, rfl, rfl, Below.refl _ _⟩
      · exact fun hk => absurd hk (by decide)
      · exact fun hk => absurd hk (by decide)
      · intro _ u W hj hd
        obtain ⟨hd0, hd1, _, _⟩ := hd
        have e0 : u 7 = .slice (some ⟨gl, x.1 * size, none⟩) size (M - x.1 * size) := hd0 rfl (by decide)
        have e1 : u 11 = .slice (some ⟨x.2, 0, none⟩) T size := hd1 rfl (by decide)
        simp only [List.take_succ_cons, List.take_zero, putAll, Act.put, List.setIfInBounds_toArray, List.set_cons_succ, List.set_cons_zero, Nat.zero_add, Nat.reduceAdd]
        rw [e0, e1]
        refine wp_lay rfl _ _ rfl gl (x.1 * size) size (M - x.1 * size) rfl _ rfl pt ((HROW.out W hj).1) La ((HROW.out W hj).2) HLE.out HFIT.out base HBG.out ?_
        intro W2 h1 h2
        rw [HLEN.out]
        rw [← HLAY6.out] at h1
        go_wp2
        first | exact hj.laid h1 h2 | exact ⟨rfl, hj.laid h1 h2⟩ | exact ⟨_, rfl, rfl, trivial, hj.laid h1 h2⟩
    · intro u wB hj hT6
      have e0 : u 0 = .pointer (some ⟨r, 0, none⟩) := hT6 0 (by decide)
      obtain ⟨hp6, g6⟩ := HMID.out wB hj
      have HPB := Lib.hid hp6
      have GB := Lib.hid g6
      clear hj hT6 hp6 g6
      simp only [List.take_succ_cons, List.take_zero, List.drop_succ_cons, List.drop_zero, putAll, Act.put, List.setIfInBounds_toArray, List.set_cons_succ, List.set_cons_zero, Nat.zero_add, Nat.reduceAdd]
      rw [e0]
      go_wp2
      have HC7 : Hid (∀ q W, JL base gs la2 wB q W → W.cell? ⟨r, 2, none⟩ = some (.slice (some ⟨gl, 0, none⟩) M M) ∧ W.cell? ⟨r, 3, none⟩ = some (.slice (some ⟨gs, 0, none⟩) M M)) := fun q W hj => by
        have e2 := hj.blk (i := r) HPB.out.dk.s (Ne.symm HPB.out.ne.2.1)
        rw [← HM.out]
        exact ⟨(World.cell?_of_block e2).trans HPB.out.dk.c2, (World.cell?_of_block e2).trans HPB.out.dk.c3⟩
      have HR7 : Hid (∀ W, JL base gs la2 wB false W → ArgB W (.slice (some ⟨gl, 0, none⟩) M M) la2 ∧ RowB W gs se) := fun W hj =>
        ⟨(HPB.out.rl.kept (hj.blk0 HPB.out.rl.lt)).whole _ _ (by rw [HPB.out.ll, HM.out]) (Nat.le_refl _), HPB.out.rs.kept (hj.blk0 HPB.out.rs.lt)⟩
      have HLL : Hid (la2.length = M) := by unfold Hid; rw [HPB.out.ll, HM.out]
      have HLS : Hid (se.length = M) := by unfold Hid; rw [HPB.out.ls, HM.out]
      have HBS : Hid (base ≤ gs) := (HPB.out.own gs HPB.out.ms).1
      have HLAY : Hid (layL se (0, la2) = la2) := lay_whole (by rw [HLL.out, HLS.out])
      have hbaseB : base ≤ wB.heap.size := by have := HPB.out.own gs HPB.out.ms; omega
      have HFIN7 : Hid (∀ W, JL base gs la2 wB true W → Parts W base O r gl gs (.slice (some ⟨g, 0, none⟩) N cap) n size la2 la2 ws deeds B L dark ∧ OnlyO base O w W) := fun W hj =>
        ⟨HPB.out.view (hj.2 rfl) hj.only HPB.out.ll, GB.out.trans (hj.only.weak (fun i e => by rw [e]; exact HPB.out.ms)) (Grown.refl _ _)⟩
      refine wp_region_mixp 9 8 (TV [.pointer (some ⟨r, 0, none⟩), .pointer (some ⟨r, 0, none⟩), .pointer (some ⟨r, 3, none⟩), .slice (some ⟨gs, 0, none⟩) M M, .pointer (some ⟨r, 0, none⟩), .pointer (some ⟨r, 0, none⟩), .pointer (some ⟨r, 2, none⟩), .slice (some ⟨gl, 0, none⟩) M M, .int .i64 (M : Int)]) (JL base gs la2 wB) (fun _ _ => True) (by kernel_rfl) (by kernel_rfl) (by decide) (fun _ _ _ _ h _ => h) (fun _ _ _ _ _ h _ => h) (JL.keep hbaseB) JL.start ?_ ?_
      · refine ⟨?_, ?_, ?_, ?_, ?_, ?_, ?_, ?_, ?_, ?_, ?_, ?_, ?_, ?_, ?_, ?_, ?_, ?_, trivial⟩
        · intro _ u W q hj hd
          simp only [List.take_succ_cons, List.take_zero, putAll, Act.put, List.setIfInBounds_toArray, List.set_cons_succ, List.set_cons_zero, Nat.zero_add, Nat.reduceAdd]
          go_wp2
          first | exact ⟨rfl, Below.refl _ _⟩ | exact ⟨_, rfl, rfl, Below.refl _ _⟩
        · exact fun hk => absurd hk (by decide)
        · intro _ u W q hj hd
          obtain ⟨hd0, _⟩ := hd
          have e0 : u 0 = .pointer (some ⟨r, 0, none⟩) := hd0 rfl (by decide)
          simp only [List.take_succ_cons, List.take_zero, putAll, Act.put, List.setIfInBounds_toArray, List.set_cons_succ, List.set_cons_zero, Nat.zero_add, Nat.reduceAdd]
          rw [e0]
          go_wp2
          first | exact ⟨rfl, Below.refl _ _⟩ | exact ⟨_, rfl, rfl, Below.refl _ _⟩
        · exact fun hk => absurd hk (by decide)
        · intro _ u W q hj hd
          obtain ⟨hd0, _⟩ := hd
          have e0 : u 1 = .pointer (some ⟨r, 0, none⟩) := hd0 rfl (by decide)
          simp only [List.take_succ_cons, List.take_zero, putAll, Act.put, List.setIfInBounds_toArray, List.set_cons_succ, List.set_cons_zero, Nat.zero_add, Nat.reduceAdd]
          rw [e0]
          go_wp2
          first | exact ⟨rfl, Below.refl _ _⟩ | exact ⟨_, rfl, rfl, Below.refl _ _⟩
        · exact fun hk => absurd hk (by decide)
        · intro _ u W q hj hd
          obtain ⟨hd0, _⟩ := hd
          have e0 : u 2 = .pointer (some ⟨r, 3, none⟩) := hd0 rfl (by decide)
          obtain ⟨k2, k3⟩ := HC7.out q W hj
          simp only [List.take_succ_cons, List.take_zero, putAll, Act.put, List.setIfInBounds_toArray, List.set_cons_succ, List.set_cons_zero, Nat.zero_add, Nat.reduceAdd]
          rw [e0]
          go_wp2
          first | exact ⟨rfl, Below.refl _ _⟩ | exact ⟨_, rfl, rfl, Below.refl _ _⟩
        · exact fun hk => absurd hk (by decide)
        · intro _ u W q hj hd
          simp only [List.take_succ_cons, List.take_zero, putAll, Act.put, List.setIfInBounds_toArray, List.set_cons_succ, List.set_cons_zero, Nat.zero_add, Nat.reduceAdd]
          go_wp2
          first | exact ⟨rfl, Below.refl _ _⟩ | exact ⟨_, rfl, rfl, Below.refl _ _⟩
        · exact fun hk => absurd hk (by decide)
        · intro _ u W q hj hd
          obtain ⟨hd0, _⟩ := hd
          have e0 : u 4 = .pointer (some ⟨r, 0, none⟩) := hd0 rfl (by decide)
          simp only [List.take_succ_cons, List.take_zero, putAll, Act.put, List.setIfInBounds_toArray, List.set_cons_succ, List.set_cons_zero, Nat.zero_add, Nat.reduceAdd]
          rw [e0]
          go_wp2
          first | exact ⟨rfl, Below.refl _ _⟩ | exact ⟨_, rfl, rfl, Below.refl _ _⟩
        · exact fun hk => absurd hk (by decide)
        · intro _ u W q hj hd
          obtain ⟨hd0, _⟩ := hd
          have e0 : u 5 = .pointer (some ⟨r, 0, none⟩) := hd0 rfl (by decide)
          simp only [List.take_succ_cons, List.take_zero, putAll, Act.put, List.setIfInBounds_toArray, List.set_cons_succ, List.set_cons_zero, Nat.zero_add, Nat.reduceAdd]
          rw [e0]
          go_wp2
          first | exact ⟨rfl, Below.refl _ _⟩ | exact ⟨_, rfl, rfl, Below.refl _ _⟩
        · exact fun hk => absurd hk (by decide)
        · intro _ u W q hj hd
          obtain ⟨hd0, _⟩ := hd
          have e0 : u 6 = .pointer (some ⟨r, 2, none⟩) := hd0 rfl (by decide)
          obtain ⟨k2, k3⟩ := HC7.out q W hj
          simp only [List.take_succ_cons, List.take_zero, putAll, Act.put, List.setIfInBounds_toArray, List.set_cons_succ, List.set_cons_zero, Nat.zero_add, Nat.reduceAdd]
          rw [e0]
          go_wp2
          first | exact ⟨rfl, Below.refl _ _⟩ | exact ⟨_, rfl, rfl, Below.refl _ _⟩
        · exact fun hk => absurd hk (by decide)
        · exact fun hk => absurd hk (by decide)
        · intro _ u W hj hd
          obtain ⟨hd0, hd1, _⟩ := hd
          have e0 : u 3 = .slice (some ⟨gs, 0, none⟩) M M := hd0 rfl (by decide)
          have e1 : u 7 = .slice (some ⟨gl, 0, none⟩) M M := hd1 rfl (by decide)
          simp only [List.take_succ_cons, List.take_zero, putAll, Act.put, List.setIfInBounds_toArray, List.set_cons_succ, List.set_cons_zero, Nat.zero_add, Nat.reduceAdd]
          rw [e0, e1]
          refine wp_lay rfl _ _ rfl gs 0 M M rfl _ rfl la2 ((HR7.out W hj).1) se ((HR7.out W hj).2) (by rw [HLL.out]; exact Nat.le_refl _) (by rw [HLL.out, HLS.out, Nat.zero_add]; exact Nat.le_refl _) base HBS.out ?_
          intro W2 h1 h2
          rw [HLL.out]
          rw [HLAY.out] at h1
          go_wp2
          first | exact hj.laid h1 h2 | exact ⟨rfl, hj.laid h1 h2⟩ | exact ⟨_, rfl, rfl, trivial, hj.laid h1 h2⟩
      · intro u W hj hT
        have e0 : u 0 = .pointer (some ⟨r, 0, none⟩) := hT 0 (by decide)
        obtain ⟨hp7, g7⟩ := HFIN7.out W hj
        have HP7 := Lib.hid hp7
        have G7 := Lib.hid g7
        have hdk := hp7.dk
        have d4 := hdk.c4
        have d6 := hdk.c6
        have d7 := hdk.c7
        have d8 := hdk.c8
        have q4 := hdk.q 4
        have q6 := hdk.q 6
        have q7 := hdk.q 7
        have q8 := hdk.q 8
        clear hj hT hp7 g7 hdk
        simp only [List.take_succ_cons, List.take_zero, List.drop_succ_cons, List.drop_zero, putAll, Act.put, List.setIfInBounds_toArray, List.set_cons_succ, List.set_cons_zero, Nat.zero_add, Nat.reduceAdd]
        go_wp2
        go_end0
        exact ⟨rfl, HEND.out W HP7.out G7.out⟩

theorem max_nat (z : Int) : max z 0 = (z.toNat : Int) := by omega
theorem bcrash_any (base : Nat) (O : Foot) (r : Nat) (D : Dsk) (k t : Int) (w : World) (h : DskIs w base O r D) (hd : D.deeds ≤ 1000000) (_k0 : -9223372036854775808 ≤ k) (_k1 : k ≤ 9223372036854775807) (_t0 : -9223372036854775808 ≤ t) (_t1 : t ≤ 9223372036854775807) :
    Calls Tryz.prog 16 #[.pointer (some ⟨r, 0, none⟩), .int .i64 k, .int .i64 t] w fun e w' => e = .returned (.tuple #[]) ∧ DskTo base O r (D.crash k t) w w' := by
  have hok := h.ok
  have hcr := h.ok.crash k t
  have hown := h.own
  have hmem := h.mem
  obtain ⟨_, _, _, gl, gs, v, B, L, hp, hf, l0, l1⟩ := h
  obtain ⟨a, cap, rfl⟩ := hp.ww.size
  have hN2 : D.waits.length ≤ 1000000 := by have := hok.wd; omega
  refine (bcrash_parts base O r gl gs a D.waits.length cap D.n D.size D.last D.seen D.waits _ B L D.dark k t (k.toNat : Int) (t.toNat : Int) (min k.toNat D.waits.length) (min t.toNat D.size) w rfl (by omega) hp (max_nat k) (by omega) (max_nat t) (by omega) (by omega) (by omega) (D.left k t) ?_ (fun w' => DskTo base O r (D.crash k t) w w') ?_).mono (fun e w' h => h)
  · by_cases hk : k.toNat < D.waits.length
    · rw [if_pos (by omega), show min k.toNat D.waits.length = k.toNat by omega]
      refine left_some k t (min t.toNat D.size) hk ?_
      have hl : (D.waits.getD k.toNat (0, [])).2.length = D.size := (hok.w _ (by rw [List.getD_eq_getElem?_getD, List.getElem?_eq_getElem hk]; exact List.getElem_mem _)).2.1
      by_cases ht : t.toNat ≤ D.size
      · rw [show min t.toNat D.size = t.toNat by omega]
      · rw [List.take_of_length_le (by omega), List.take_of_length_le (by omega)]
    · rw [if_neg (by omega)]
      exact left_all rfl rfl k t (by omega)
  · intro W hW hG
    have hbr := (hown r hmem).1
    have hz := hW.clear (W' := (((W.setCell ⟨r, 4, none⟩ (.slice none 0 0)).setCell ⟨r, 6, none⟩ (.bool false)).setCell ⟨r, 7, none⟩ (.int .i64 0)).setCell ⟨r, 8, none⟩ (.bool false)) ((((hW.dk.set.1 (.slice none 0 0)).set.2.2.1 false).set.2.2.2.1 0).set.2.2.2.2 false)
      (fun i hne => (((set_else _ r 8 _ i hne).trans (set_else _ r 7 _ i hne)).trans (set_else _ r 6 _ i hne)).trans (set_else _ r 4 _ i hne)) (by simp)
    exact ⟨O, ⟨hz.own, hmem, hcr, gl, gs, _, false, 0, hz, Or.inr ⟨rfl, rfl⟩, by decide, by decide⟩, (((hG.set hmem hbr 4 _).set hmem hbr 6 _).set hmem hbr 7 _).set hmem hbr 8 _, Grown.refl _ _⟩

end Go.Proofs.YtejelednnacnaaaGreatDoor

/-
  The program's disk, walked: Write.
-/
namespace Go.Proofs.YtejelednnacnaaaGreatDoor
open Go.RowKit

theorem info_wait : (Tryz.prog.info? 91).map (fun i => (i.zero, i.size, i.bytes)) = some (some (.agg #[.int .i64 0, .slice none 0 0]), 2, 32) := by kernel_rfl
/-- One more waits. -/
theorem Parts.more {w1 W' : World} {base : Nat} {O : Foot} {r gl gs : Nat} {va : Option Addr} {N vcap n size : Nat} {la se se' : List Int} {ws : List (Nat × List Int)} {deeds : Int} {B : Bool} {L : Int} {dark : Bool} (h : Parts w1 base O r gl gs (.slice va N vcap) n size la se ws deeds B L dark)
    (xs : List (Nat × Nat)) (hx : xs.length = ws.length) (h3 : ∀ g, (Value.slice va N vcap).ownBlock = some g → O g ∧ (g ≠ r ∧ g ≠ gl ∧ g ≠ gs)) (h4 : ∀ k, k < N → OneW w1 O (fun i => (i ≠ r ∧ i ≠ gl ∧ i ≠ gs) ∧ (Value.slice va N vcap).ownBlock ≠ some i) n size (xs.getD k (0, 0)) (ws.getD k (0, [])))
    (hN : ws.length = N) (I wb g2 cap2 : Nat) (b : List Int) (hI : I < n) (hb : b.length = size) (hrow : W'.ownsRow base 91 2 (.slice (some ⟨g2, 0, none⟩) (N + 1) cap2) (N + 1) (bcells size xs ++ [.int .i64 (I : Int), .slice (some ⟨wb, 0, none⟩) size size]))
    (hwb : RowB W' wb b) (hwn : w1.heap.size ≤ wb) (hg2 : (Value.slice va N vcap).ownBlock = some g2 ∨ wb < g2) (hg3 : g2 < W'.heap.size) (hk : ∀ i, i < w1.heap.size → some i ≠ (Value.slice va N vcap).ownBlock → i ≠ r → i ≠ gs → W'.heap[i]? = w1.heap[i]?)
    (hd : DkAt W' r n size gl gs (.slice (some ⟨g2, 0, none⟩) (N + 1) cap2) deeds B L dark) (hse : RowB W' gs se') (ls : se'.length = n * size) :
    Parts W' base (fun i => O i ∨ i = wb ∨ i = g2) r gl gs (.slice (some ⟨g2, 0, none⟩) (N + 1) cap2) n size la se' (ws ++ [(I * size, b)]) deeds B L dark := by
  have hr := h.own r h.mr
  have hgl := h.own gl h.ml
  have hgs := h.own gs h.ms
  have hwl := hwb.lt
  have hne := h.ne
  have hP2 : g2 ≠ r ∧ g2 ≠ gl ∧ g2 ≠ gs := by
    rcases hg2 with e | e
    · exact (h3 g2 e).2
    · exact ⟨by omega, by omega, by omega⟩
  have hw2 : wb ≠ g2 := by
    rcases hg2 with e | e
    · have := (h.own g2 (h3 g2 e).1).2; omega
    · omega
  refine ⟨fun i hi => ?_, hd, h.rl.kept (hk gl hgl.2 (fun e => (h3 gl e.symm).2.2.1 rfl) hne.1 hne.2.2), hse, Or.inl h.mr, Or.inl h.ml, Or.inl h.ms, hne, h.ll, ls, h.n1, h.s0, h.s1, xs ++ [(I, wb)], ?_, ?_, ?_, ?_⟩
  · rcases hi with hi | rfl | rfl
    · have := h.own i hi; omega
    · omega
    · exact ⟨(hrow.lt i rfl).1, hg3⟩
  · rw [List.length_append, List.length_append, hx]; rfl
  · rw [List.length_append, bcells_more, hN]; exact hrow
  · intro g hg
    cases hg
    exact ⟨Or.inr (Or.inr rfl), hP2⟩
  · intro k hkl
    rw [List.length_append, List.length_singleton] at hkl
    by_cases hkN : k < ws.length
    · have e1 : (xs ++ [(I, wb)]).getD k (0, 0) = xs.getD k (0, 0) := by rw [List.getD_eq_getElem?_getD, List.getElem?_append_left (by omega), List.getD_eq_getElem?_getD]
      have e2 : (ws ++ [(I * size, b)]).getD k (0, []) = ws.getD k (0, []) := by rw [List.getD_eq_getElem?_getD, List.getElem?_append_left hkN, List.getD_eq_getElem?_getD]
      rw [e1, e2]
      obtain ⟨a1, a2, a3, a4, a5, a6⟩ := h4 k (by omega)
      have hxl := a3.lt
      refine ⟨a1, a2, a3.kept (hk _ hxl (fun e => a6.2 e.symm) a6.1.1 a6.1.2.2), a4, Or.inl a5, a6.1, fun e => ?_⟩
      have e0 : g2 = (xs.getD k (0, 0)).2 := Option.some.inj e
      rcases hg2 with e' | e'
      · exact a6.2 (e'.trans e)
      · omega
    · obtain rfl : k = ws.length := by omega
      have e1 : (xs ++ [(I, wb)]).getD ws.length (0, 0) = (I, wb) := by rw [List.getD_eq_getElem?_getD, ← hx, List.getElem?_append_right (Nat.le_refl _), Nat.sub_self]; rfl
      have e2 : (ws ++ [(I * size, b)]).getD ws.length (0, []) = (I * size, b) := by rw [List.getD_eq_getElem?_getD, List.getElem?_append_right (Nat.le_refl _), Nat.sub_self]; rfl
      rw [e1, e2]
      exact ⟨rfl, hI, hwb, hb, Or.inr (Or.inl rfl), ⟨by show wb ≠ r; omega, by show wb ≠ gl; omega, by show wb ≠ gs; omega⟩, fun e => hw2 (Option.some.inj e).symm⟩

/-- What stands ahead of the append. -/
structure PutA (base r gl gs wb wn N vcap n S I : Nat) (va : Option Addr) (xs : List (Nat × Nat)) (se whole : List Int) (w1 w3 w4 : World) : Prop where
  d4 : w3.cell? ⟨r, 4, none⟩ = some (.slice va N vcap)
  e4 : w3.alloc (.cells #[.int .i64 (I : Int), .slice (some ⟨wb, 0, none⟩) S S] 91) = w4
  en : w3.heap.size = wn
  row : w4.ownsRow base 91 2 (.slice va N vcap) N (bcells S xs)
  news : ∀ j u, ([.int .i64 (I : Int), .slice (some ⟨wb, 0, none⟩) S S] : List Value)[j]? = some u → w4.cell? ((⟨wn, 0, none⟩ : Addr).add j) = some u
  b14 : Below w1.heap.size w1 w4
  rb : RowB w4 wb whole
  lt : w1.heap.size = wb ∧ wb < wn ∧ wn < w4.heap.size
theorem put_ones (I wb S : Nat) : ∀ u ∈ ([.int .i64 (I : Int), .slice (some ⟨wb, 0, none⟩) S S] : List Value), u.oneCell' = true := fun u hu => by
  rcases List.mem_cons.mp hu with rfl | hu
  · rfl
  · rw [List.mem_singleton.mp hu]; rfl
theorem put_a {w1 : World} {base : Nat} {O : Foot} {r gl gs : Nat} {va : Option Addr} {N vcap n S : Nat} {la se : List Int} {ws : List (Nat × List Int)} {deeds : Int} {B : Bool} {L : Int} {dark : Bool} (h : Parts w1 base O r gl gs (.slice va N vcap) n S la se ws deeds B L dark)
    (xs : List (Nat × Nat)) (hrow : w1.ownsRow base 91 2 (.slice va N vcap) N (bcells S xs)) (xa : Option Addr) (xc : Nat) (b : List Int) (hA : ArgB w1 (.slice xa b.length xc) b) (hbl : b.length ≤ S) (I : Nat) :
    ∃ wb wn w2 w3 w4, (Instr.makeSlice 22 (.int .i64 (S : Int)) (.int .i64 (S : Int))).run Tryz.prog w1 = .ok (.slice (some ⟨wb, 0, none⟩) S S) w2 ∧
      (Builtin.copy_ #[22, 22] 3 #[.slice (some ⟨wb, 0, none⟩) S S, .slice xa b.length xc]).run Tryz.prog w2 = .ok (.int .i64 (b.length : Int)) w3 ∧ PutA base r gl gs wb wn N vcap n S I va xs se (b ++ List.replicate (S - b.length) 0) w1 w3 w4 := by
  have hs1 := h.s1
  obtain ⟨w2, hmk, hr2, hb2⟩ := made_row w1 S (by omega)
  obtain ⟨w3, hcp, hr3, ho3⟩ := run_lay w2 w1.heap.size 0 S S _ b (hA.below hb2) _ hr2 hbl (by rw [List.length_replicate]; omega) w1.heap.size (Nat.le_refl _) 3
  have hb3 : Below w1.heap.size w1 w3 := hb2.trans ho3.bel
  have hb4 : Below w1.heap.size w1 (w3.alloc (.cells #[.int .i64 (I : Int), .slice (some ⟨w1.heap.size, 0, none⟩) S S] 91)) := hb3.trans ((Below.refl _ _).alloc hb3.size _)
  have hl3 := hr3.lt
  have e : layL (List.replicate S (0 : Int)) (0, b) = b ++ List.replicate (S - b.length) 0 := by
    unfold layL
    rw [List.take_zero, List.nil_append, Nat.zero_add]
    show b ++ (List.replicate S (0 : Int)).drop b.length = _
    rw [List.drop_replicate]
  rw [e] at hr3
  refine ⟨w1.heap.size, w3.heap.size, w2, w3, _, hmk, hcp, (h.dk.kept (hb3.block r h.dk.s) hb3.size).c4, rfl, rfl, row_same hrow (fun g hg => hb4.block g (hrow.lt g hg).2), ?_, hb4, hr3.kept (((Below.refl w3.heap.size w3).alloc (Nat.le_refl _) _).block _ hl3), rfl, hl3, by simp⟩
  intro j u hj
  have e : (⟨w3.heap.size, 0, none⟩ : Addr).add j = ⟨w3.heap.size, j, none⟩ := by unfold Addr.add; split <;> simp_all
  rw [e, World.cell?_alloc_new]
  match j, hj with
  | 0, hj => exact hj
  | 1, hj => exact hj
  | j + 2, hj => simp at hj
/-- What stands behind it. -/
structure PutB (r gs wb g2 cap2 N n S : Nat) (va : Option Addr) (vcap : Nat) (w5 w6 : World) : Prop where
  d5 : w5.cell? ⟨r, 4, none⟩ = some (.slice va N vcap)
  q5 : w5.frozen? ⟨r, 4, none⟩ = false
  e6 : w5.setCell ⟨r, 4, none⟩ (.slice (some ⟨g2, 0, none⟩) (N + 1) cap2) = w6
  c1 : w6.cell? ⟨r, 1, none⟩ = some (.int .i64 (S : Int))
  c3 : w6.cell? ⟨r, 3, none⟩ = some (.slice (some ⟨gs, 0, none⟩) (n * S) (n * S))
theorem PutA.keep {base r gl gs : Nat} {va : Option Addr} {wb wn N vcap n S I : Nat} {se : List Int} {xs : List (Nat × Nat)} {whole : List Int} {w1 w3 w4 w5 : World} (h : PutA base r gl gs wb wn N vcap n S I va xs se whole w1 w3 w4) (k2 : w4.grownBy w5 (Value.slice va N vcap).ownBlock) {i : Nat} (hi : i < w1.heap.size) (hne : some i ≠ (Value.slice va N vcap).ownBlock) : w5.heap[i]? = w1.heap[i]? := by
  have := h.lt
  exact (k2.block i (by omega) hne).trans (h.b14.block i hi)
theorem put_b {base : Nat} {O : Foot} {r gl gs : Nat} {va : Option Addr} {wb wn N vcap n S I : Nat} {la se : List Int} {ws : List (Nat × List Int)} {deeds : Int} {B : Bool} {L : Int} {dark : Bool} {xs : List (Nat × Nat)} {whole : List Int} {w1 w3 w4 w5 : World} (h : PutA base r gl gs wb wn N vcap n S I va xs se whole w1 w3 w4) (hp : Parts w1 base O r gl gs (.slice va N vcap) n S la se ws deeds B L dark)
    (h3 : ∀ g, (Value.slice va N vcap).ownBlock = some g → O g ∧ (g ≠ r ∧ g ≠ gl ∧ g ≠ gs)) (k2 : w4.grownBy w5 (Value.slice va N vcap).ownBlock) (g2 cap2 : Nat) : ∃ w6, PutB r gs wb g2 cap2 N n S va vcap w5 w6 := by
  have hl := h.lt
  have hdk := hp.dk.kept (h.keep k2 hp.dk.s (fun e => (h3 r e.symm).2.1 rfl)) (by have := k2.size; omega)
  have hset := hdk.set.1 (.slice (some ⟨g2, 0, none⟩) (N + 1) cap2)
  exact ⟨_, hdk.c4, hdk.q 4, rfl, hset.c1, hset.c3⟩
/-- The rest: what is seen. -/
theorem put_c {base : Nat} {O : Foot} {r gl gs : Nat} {va : Option Addr} {wb wn N vcap n S I : Nat} {la se : List Int} {ws : List (Nat × List Int)} {deeds : Int} {B : Bool} {L : Int} {dark : Bool} {xs : List (Nat × Nat)} {whole : List Int} {w1 w3 w4 w5 w6 w7 : World} {g2 cap2 : Nat} (h : PutA base r gl gs wb wn N vcap n S I va xs se whole w1 w3 w4) (hp : Parts w1 base O r gl gs (.slice va N vcap) n S la se ws deeds B L dark)
    (hx : xs.length = ws.length) (h3 : ∀ g, (Value.slice va N vcap).ownBlock = some g → O g ∧ (g ≠ r ∧ g ≠ gl ∧ g ≠ gs)) (h4 : ∀ k, k < N → OneW w1 O (fun i => (i ≠ r ∧ i ≠ gl ∧ i ≠ gs) ∧ (Value.slice va N vcap).ownBlock ≠ some i) n S (xs.getD k (0, 0)) (ws.getD k (0, []))) (hN : ws.length = N)
    (k1 : w5.ownsRow base 91 2 (.slice (some ⟨g2, 0, none⟩) (N + 1) cap2) (N + 1) (bcells S xs ++ [.int .i64 (I : Int), .slice (some ⟨wb, 0, none⟩) S S])) (k2 : w4.grownBy w5 (Value.slice va N vcap).ownBlock) (k3 : (Value.slice va N vcap).ownBlock = some g2 ∨ g2 = w4.heap.size) (k4 : g2 < w5.heap.size)
    (hb : PutB r gs wb g2 cap2 N n S va vcap w5 w6) (g7 : Below w6.heap.size w6 w7) (hI : I < n) (hw : whole.length = S) (M : Nat) (hM : n * S = M) :
    ∃ w8, (Builtin.copy_ #[22, 22] 3 #[.slice (some ⟨gs, I * S, none⟩) S (M - I * S), .slice (some ⟨wb, 0, none⟩) S S]).run Tryz.prog w7 = .ok (.int .i64 (S : Int)) w8 ∧
      Parts w8 base (fun i => O i ∨ i = wb ∨ i = g2) r gl gs (.slice (some ⟨g2, 0, none⟩) (N + 1) cap2) n S la (layL se (I * S, whole)) (ws ++ [(I * S, whole)]) deeds B L dark ∧ OnlyO base O w1 w8 ∧ Grown O (fun i => O i ∨ i = wb ∨ i = g2) w1.heap.size := by
  obtain ⟨l1, l2, l3⟩ := h.lt
  have hs2 := k2.size
  have hr := hp.own r hp.mr
  have hgs := hp.own gs hp.ms
  have hne := hp.ne
  have hog : some gs ≠ (Value.slice va N vcap).ownBlock := fun e => (h3 gs e.symm).2.2.2 rfl
  have hor : some r ≠ (Value.slice va N vcap).ownBlock := fun e => (h3 r e.symm).2.1 rfl
  have how : some wb ≠ (Value.slice va N vcap).ownBlock := fun e => by have := (hp.own wb (h3 wb e.symm).1).2; omega
  have e6 : ∀ i, i ≠ r → w6.heap[i]? = w5.heap[i]? := fun i hi => by rw [← hb.e6]; exact set_else _ r 4 _ i hi
  have s6 : w6.heap.size = w5.heap.size := by rw [← hb.e6]; simp
  have hg2r : g2 ≠ r := by
    rcases k3 with e | e
    · exact (h3 g2 e).2.1
    · omega
  have hg2s : g2 ≠ gs := by
    rcases k3 with e | e
    · exact (h3 g2 e).2.2.2
    · omega
  have hg2w : g2 ≠ wb := by
    rcases k3 with e | e
    · have := (hp.own g2 (h3 g2 e).1).2; omega
    · omega
  have r7 : RowB w7 wb whole := ((h.rb.kept (k2.block wb (by omega) how)).kept (e6 wb (by omega))).kept (g7.block wb (by omega))
  have q7 : RowB w7 gs se := ((hp.rs.kept (h.keep k2 hgs.2 hog)).kept (e6 gs hne.2.1)).kept (g7.block gs (by omega))
  have hfit := fit (size := S) hI
  have hse := hp.ls
  obtain ⟨w8, hcp, hr8, ho8⟩ := run_lay w7 gs (I * S) S (M - I * S) (.slice (some ⟨wb, 0, none⟩) S S) whole (r7.whole S S hw.symm (Nat.le_refl _)) se q7 (by omega) (by omega) base hgs.1 3
  rw [hw] at hcp
  have s8 := ho8.size
  have s7 := g7.size
  have hd6 : DkAt w6 r n S gl gs (.slice (some ⟨g2, 0, none⟩) (N + 1) cap2) deeds B L dark := by
    rw [← hb.e6]
    exact (hp.dk.kept (h.keep k2 hp.dk.s hor) (by omega)).set.1 _
  have hd8 : DkAt w8 r n S gl gs (.slice (some ⟨g2, 0, none⟩) (N + 1) cap2) deeds B L dark := (hd6.kept (g7.block r (by omega)) s7).kept (ho8.keep r (by omega) (Ne.symm hne.2.1)) s8
  have hk8 : ∀ i, i < w6.heap.size → i ≠ gs → i ≠ r → w8.heap[i]? = w5.heap[i]? := fun i hi h1 h2 => ((ho8.keep i (by omega) h1).trans (g7.block i hi)).trans (e6 i h2)
  have hk : ∀ i, i < w1.heap.size → some i ≠ (Value.slice va N vcap).ownBlock → i ≠ r → i ≠ gs → w8.heap[i]? = w1.heap[i]? := fun i hi h1 h2 h3' => (hk8 i (by omega) h3' h2).trans (h.keep k2 hi h1)
  refine ⟨w8, hcp, hp.more xs hx h3 h4 hN I wb g2 cap2 whole hI hw (row_same k1 (fun g hg => by cases hg; exact hk8 g2 (by omega) hg2s hg2r)) (r7.kept (ho8.keep wb r7.lt (by omega))) (by omega) (k3.imp id (fun e => by omega)) (by omega) hk hd8 hr8 (by rw [layL_len (by simp only [hw]; omega), hse]), ?_, ?_⟩
  · have b5 : Below base w1 w5 := (h.b14.mono (by omega)).grown k2 (by omega) (fun b hb' => (hp.own b (h3 b hb').1).1)
    have b6 : Below base w1 w6 := by rw [← hb.e6]; exact b5.setCell hr.1 _
    refine ⟨(b6.trans (g7.mono (by omega))).trans ho8.bel, fun i hi hn => hk i hi (fun e => hn (h3 i e.symm).1) (fun e => hn (by rw [e]; exact hp.mr)) (fun e => hn (by rw [e]; exact hp.ms))⟩
  · intro i hi
    rcases hi with hi | rfl | rfl
    · exact Or.inl hi
    · exact Or.inr (by omega)
    · rcases k3 with e | e
      · exact Or.inl (h3 i e).1
      · exact Or.inr (by omega)

set_option maxRecDepth 100000 in
set_option maxHeartbeats 4000000 in
theorem bwrite_refused (base : Nat) (O : Foot) (r : Nat) (D : Dsk) (i : Int) (v : Value) (b : List Int) (w : World) (h : DskIs w base O r D) (hv : ArgB w v b) (hno : D.dark = true ∨ (D.dark = false ∧ (i < 0 ∨ (D.n : Int) ≤ i ∨ D.size < b.length))) :
    Calls Tryz.prog 24 #[.pointer (some ⟨r, 0, none⟩), .int .i64 i, v] w fun e w' => e = .returned (.int .i64 (D.write i b).1) ∧ DskTo base O r (D.write i b).2 w w' := by
  have HR := Lib.hid h
  have c8 : w.cell? ⟨r, 8, none⟩ = some (.bool D.dark) := by
    obtain ⟨_, _, _, gl, gs, v, B, L, hp, _⟩ := h
    exact hp.dk.c8
  have c0 : w.cell? ⟨r, 0, none⟩ = some (.int .i64 (D.n : Int)) := by
    obtain ⟨_, _, _, gl, gs, v, B, L, hp, _⟩ := h
    exact hp.dk.c0
  have c1 : w.cell? ⟨r, 1, none⟩ = some (.int .i64 (D.size : Int)) := by
    obtain ⟨_, _, _, gl, gs, v, B, L, hp, _⟩ := h
    exact hp.dk.c1
  obtain ⟨xa, xc, rfl⟩ := hv.size
  clear hv
  have HHAS := Lib.hid (bhas_any r D.n i w c0)
  have HEND : Hid (DskTo base O r D w w) := ⟨O, HR.out, OnlyO.refl _ _ _, Grown.refl _ _⟩
  clear h
  rcases hno with hdk | ⟨hdk, hc⟩
  · rw [hdk] at c8
    have hfin : Hid (D.write i b = (12, D)) := by unfold Hid Dsk.write; rw [if_pos hdk]
    go_enter Tryz.func24, Tryz.ntmps24
    go_wp2
    go_ret
    rw [hfin.out]
    exact ⟨rfl, HEND.out⟩
  · rw [hdk] at c8
    have hfin : Hid (D.write i b = (2, D)) := by unfold Hid Dsk.write; rw [if_neg (by rw [hdk]; simp), if_pos hc]
    by_cases hh : 0 ≤ i ∧ i < (D.n : Int)
    · rw [show decide (0 ≤ i ∧ i < (D.n : Int)) = true from by simp [hh]] at HHAS
      have hlen : (D.size : Int) < (b.length : Int) := by omega
      clear hh hc hdk
      go_enter Tryz.func24, Tryz.ntmps24
      go_wp2_with (go_at_call 46; (with_reducible refine (HHAS.out).mono ?_); rintro e w1 ⟨rfl, rfl⟩)
      go_ret
      rw [hfin.out]
      exact ⟨rfl, HEND.out⟩
    · rw [show decide (0 ≤ i ∧ i < (D.n : Int)) = false from by simpa using hh] at HHAS
      clear hh hc hdk
      go_enter Tryz.func24, Tryz.ntmps24
      go_wp2_with (go_at_call 46; (with_reducible refine (HHAS.out).mono ?_); rintro e w1 ⟨rfl, rfl⟩)
      go_ret
      rw [hfin.out]
      exact ⟨rfl, HEND.out⟩

set_option maxRecDepth 100000 in
set_option maxHeartbeats 4000000 in
theorem bwrite_dim (base : Nat) (O : Foot) (r : Nat) (D : Dsk) (i : Int) (v : Value) (b : List Int) (w : World) (h : DskIs w base O r D) (hd : D.deeds ≤ 1000000) (hv : ArgB w v b) (hdk : D.dark = false) (i0 : 0 ≤ i) (i1 : i < (D.n : Int)) (hb : b.length ≤ D.size) (hq : D.deed.1 = false) :
    Calls Tryz.prog 24 #[.pointer (some ⟨r, 0, none⟩), .int .i64 i, v] w fun e w' => e = .returned (.int .i64 (D.write i b).1) ∧ DskTo base O r (D.write i b).2 w w' := by
  have HR := Lib.hid h
  have c8 : w.cell? ⟨r, 8, none⟩ = some (.bool D.dark) := by
    obtain ⟨_, _, _, gl, gs, v, B, L, hp, _⟩ := h
    exact hp.dk.c8
  have c0 : w.cell? ⟨r, 0, none⟩ = some (.int .i64 (D.n : Int)) := by
    obtain ⟨_, _, _, gl, gs, v, B, L, hp, _⟩ := h
    exact hp.dk.c0
  have c1 : w.cell? ⟨r, 1, none⟩ = some (.int .i64 (D.size : Int)) := by
    obtain ⟨_, _, _, gl, gs, v, B, L, hp, _⟩ := h
    exact hp.dk.c1
  obtain ⟨I, rfl⟩ : ∃ I : Nat, i = (I : Int) := ⟨i.toNat, by omega⟩
  have HHAS := Lib.hid (bhas_any r D.n (I : Int) w c0)
  rw [show decide (0 ≤ (I : Int) ∧ (I : Int) < (D.n : Int)) = true from by simp [i1]] at HHAS
  have HBU := Lib.hid (bburn_arg base O r D w h hd)
  rw [hq] at HBU
  rw [hdk] at c8
  have hlen : ¬ (D.size : Int) < (b.length : Int) := by omega
  have hfin : Hid (D.write (I : Int) b = (12, D.deed.2)) := by unfold Hid Dsk.write; rw [if_neg (by rw [hdk]; simp), if_neg (by omega), if_neg (by rw [hq]; simp)]
  obtain ⟨xa, xc, rfl⟩ := hv.size
  clear hv h hdk i0 i1 hb hq
  go_enter Tryz.func24, Tryz.ntmps24
  go_wp2_with (first
    | (go_at_call 46; (with_reducible refine (HHAS.out).mono ?_); rintro e w1 ⟨rfl, rfl⟩)
    | (go_at_call 26; (with_reducible refine (HBU.out).mono ?_); rintro e w2 ⟨rfl, h1, g1, _⟩; have H1 := Lib.hid h1; have G1 := Lib.hid g1; clear h1 g1))
  go_ret
  rw [hfin.out]
  exact ⟨rfl, O, H1.out, G1.out, Grown.refl _ _⟩

set_option maxRecDepth 100000 in
set_option maxHeartbeats 8000000 in
theorem bwrite_done (base : Nat) (O : Foot) (r : Nat) (D : Dsk) (i : Int) (v : Value) (b : List Int) (w : World) (h : DskIs w base O r D) (hd : D.deeds ≤ 1000000) (hv : ArgB w v b) (hby : ∀ z ∈ b, 0 ≤ z ∧ z ≤ 255) (hdk : D.dark = false) (i0 : 0 ≤ i) (i1 : i < (D.n : Int)) (hb : b.length ≤ D.size) (hq : D.deed.1 = true) :
    Calls Tryz.prog 24 #[.pointer (some ⟨r, 0, none⟩), .int .i64 i, v] w fun e w' => e = .returned (.int .i64 (D.write i b).1) ∧ DskTo base O r (D.write i b).2 w w' := by
  have HWO := Lib.hid (h.ok.write i hby)
  have HR := Lib.hid h
  have c8 : w.cell? ⟨r, 8, none⟩ = some (.bool D.dark) := by
    obtain ⟨_, _, _, gl, gs, v, B, L, hp, _⟩ := h
    exact hp.dk.c8
  have c0 : w.cell? ⟨r, 0, none⟩ = some (.int .i64 (D.n : Int)) := by
    obtain ⟨_, _, _, gl, gs, v, B, L, hp, _⟩ := h
    exact hp.dk.c0
  have c1 : w.cell? ⟨r, 1, none⟩ = some (.int .i64 (D.size : Int)) := by
    obtain ⟨_, _, _, gl, gs, v, B, L, hp, _⟩ := h
    exact hp.dk.c1
  obtain ⟨I, rfl⟩ : ∃ I : Nat, i = (I : Int) := ⟨i.toNat, by omega⟩
  have HHAS := Lib.hid (bhas_any r D.n (I : Int) w c0)
  rw [show decide (0 ≤ (I : Int) ∧ (I : Int) < (D.n : Int)) = true from by simp [i1]] at HHAS
  have HBU := Lib.hid (bburn_arg base O r D w h hd)
  rw [hq] at HBU
  rw [hdk] at c8
  have hlen : ¬ (D.size : Int) < (b.length : Int) := by omega
  have hfin : Hid (D.write (I : Int) b = (0, { D.deed.2 with waits := D.waits ++ [(I * D.size, b ++ List.replicate (D.size - b.length) 0)] })) := by unfold Hid Dsk.write; rw [if_neg (by rw [hdk]; simp), if_neg (by omega), if_pos hq, Int.toNat_natCast]
  obtain ⟨_, hw2, hl2, hn2, hs2, hd6, hd7⟩ := h.ok.deed
  have hdd : D.deed.2.deeds ≤ 2000000 := by have := (hd6 hq).1; omega
  have hmem := h.mem
  have HSE : Hid (D.deed.2.seen = D.seen) := deed_same h.ok
  obtain ⟨E, hE⟩ : ∃ E, D.deed.2 = E := ⟨_, rfl⟩
  rw [hE] at HBU hfin hw2 hl2 hn2 hs2 hdd HSE
  rw [← hw2, ← hs2] at hfin
  rw [hfin.out] at HWO
  obtain ⟨xa, xc, rfl⟩ := hv.size
  have HV := Lib.hid hv
  have hIE : I < E.n := by omega
  have hbE : b.length ≤ E.size := by omega
  have HIE := Lib.hid (And.intro hIE (And.intro hbE hdd))
  rw [← hs2] at hlen c1
  obtain ⟨i0', hi, hz0, hz1, hz2⟩ := info_parts info_wait
  clear hv h hdk i0 i1 hb hq hw2 hl2 hn2 hs2 hd6 hd7 hdd hE hIE hbE hby
  go_enter Tryz.func24, Tryz.ntmps24
  go_wp2_with (first
    | (go_at_call 46; (with_reducible refine (HHAS.out).mono ?_); rintro e w0 ⟨rfl, rfl⟩)
    | (go_at_call 26; (with_reducible refine (HBU.out).mono ?_); rintro e w1 ⟨rfl, h1, g1, ga⟩; have G1 := Lib.hid g1; have A1 := ga _ _ HV.out; have hwd := h1.ok.wd; have HOK1 := Lib.hid h1.ok; obtain ⟨_, _, _, gl, gs, v, B, L, hp, hf, l0, l1⟩ := h1; have HF := Lib.hid (And.intro hf (And.intro l0 l1)); obtain ⟨va, vcap, rfl⟩ := hp.ww.size; obtain ⟨xs, x1, x2, x3, x4⟩ := hp.ww; obtain ⟨wb, wn, w2, w3, w4, hmk, hcp, hpa⟩ := put_a hp xs x2 xa xc b A1 HIE.out.2.1 I; have HP := Lib.hid hp; have X1 := Lib.hid x1; have X3 := Lib.hid x3; have X4 := Lib.hid x4; have HPA := Lib.hid hpa; have d1 := hp.dk.c1; have hnw : E.waits.length ≤ 2000000 := (Nat.le_trans hwd HIE.out.2.2); obtain ⟨N, hN⟩ : ∃ N, E.waits.length = N := ⟨_, rfl⟩; have HN := Lib.hid hN; rw [hN] at HPA HP X3 X4 hnw; have d4 := HPA.out.d4; have e4 := HPA.out.e4; have en := HPA.out.en; have HROW4 := Lib.hid HPA.out.row; have HNmax : Hid (N + 1 ≤ maxLen) := (by unfold Hid maxLen; omega); have HNb : Hid ((N + 1) * 32 ≤ 140737488355328) := (by unfold Hid; omega); have hbase4 : Hid (base ≤ w4.heap.size) := (by have q1 := HP.out.own r HP.out.mr; have q2 := HPA.out.b14.size; unfold Hid; omega); clear hp hf l0 l1 x1 x2 x3 x4 hpa hN hwd hnw A1 ga g1)
    | (at_builtin; go_loud (refine wpList_append_lies w4 rfl _ _ 60 rfl base 91 i0' (.agg #[.int .i64 0, .slice none 0 0]) 2 32 Tryz.underlying60 hi hz0 hz1 hz2 rfl (by decide) _ N (bcells E.size xs) rfl HROW4.out ⟨wn, 0, none⟩ 1 1 [.int .i64 (I : Int), .slice (some ⟨wb, 0, none⟩) E.size E.size] rfl rfl HPA.out.news (put_ones I wb E.size) (by decide) HNmax.out HNb.out hbase4.out _ rfl ?_); intro g2 cap2 w5 k1 k2 k3 k4; have K1 := Lib.hid k1; have K2 : Hid (w4.grownBy w5 (Value.slice va N vcap).ownBlock) := k2; have K3 : Hid ((Value.slice va N vcap).ownBlock = some g2 ∨ g2 = w4.heap.size) := k3; have K4 := Lib.hid k4; obtain ⟨w6, hpb⟩ := put_b HPA.out HP.out X3.out k2 g2 cap2; have HPB := Lib.hid hpb; have d5 := hpb.d5; have q5 := hpb.q5; have e6 := hpb.e6; have f3 := hpb.c3; obtain ⟨M, hM⟩ : ∃ M, E.n * E.size = M := ⟨_, rfl⟩; have HM := Lib.hid hM; rw [hM] at f3; have HOF := Lib.hid (bof_any r gs E.n E.size M I w6 hpb.c1 hM HIE.out.1 HP.out.n1 HP.out.s1 HP.out.s0); have HWL : Hid ((b ++ List.replicate (E.size - b.length) (0 : Int)).length = E.size) := (by have q1 := HIE.out.2.1; unfold Hid; rw [List.length_append, List.length_replicate]; omega); clear k1 k2 k3 k4 hpb hM d4 e4 en)
    | (go_at_call 38; (with_reducible refine (HOF.out).mono ?_); rintro e w7 ⟨rfl, g7⟩; obtain ⟨w8, hcp8, hp8, ho8, hg8⟩ := put_c HPA.out HP.out X1.out X3.out X4.out HN.out K1.out K2.out K3.out K4.out HPB.out g7 HIE.out.1 HWL.out M HM.out; have HP8 := Lib.hid hp8; have HO8 := Lib.hid ho8; have HG8 := Lib.hid hg8; clear hp8 ho8 hg8 g7))
  go_ret
  rw [hfin.out]
  have hz := HP8.out
  refine ⟨rfl, _, ⟨hz.own, Or.inl hmem, HWO.out, gl, gs, .slice (some ⟨g2, 0, none⟩) (N + 1) cap2, B, L, ?_, HF.out⟩, G1.out.trans HO8.out (Grown.refl _ _), (Grown.refl O _).trans HG8.out G1.out.size⟩
  have e1 : ({ E with waits := E.waits ++ [(I * E.size, b ++ List.replicate (E.size - b.length) 0)] } : Dsk).seen = layL E.seen (I * E.size, b ++ List.replicate (E.size - b.length) 0) := by
    show (E.waits ++ [_]).foldl layL E.last = _
    rw [List.foldl_append]; rfl
  rw [e1]
  exact hz

theorem bwrite_any (base : Nat) (O : Foot) (r : Nat) (D : Dsk) (i : Int) (v : Value) (b : List Int) (w : World) (h : DskIs w base O r D) (hd : D.deeds ≤ 1000000) (_i0 : -9223372036854775808 ≤ i) (_i1 : i ≤ 9223372036854775807)
    (hv : ArgB w v b) (hb : ∀ z ∈ b, 0 ≤ z ∧ z ≤ 255) (_hl : (b.length : Int) ≤ 9223372036854775807) :
    Calls Tryz.prog 24 #[.pointer (some ⟨r, 0, none⟩), .int .i64 i, v] w fun e w' => e = .returned (.int .i64 (D.write i b).1) ∧ DskTo base O r (D.write i b).2 w w' := by
  by_cases hdk : D.dark = true
  · exact bwrite_refused base O r D i v b w h hv (Or.inl hdk)
  · have hdk' : D.dark = false := by simpa using hdk
    by_cases hc : i < 0 ∨ (D.n : Int) ≤ i ∨ D.size < b.length
    · exact bwrite_refused base O r D i v b w h hv (Or.inr ⟨hdk', hc⟩)
    · by_cases hq : D.deed.1 = true
      · exact bwrite_done base O r D i v b w h hd hv hb hdk' (by omega) (by omega) (by omega) hq
      · exact bwrite_dim base O r D i v b w h hd hv hdk' (by omega) (by omega) (by omega) (by simpa using hq)

end Go.Proofs.YtejelednnacnaaaGreatDoor

/-
  Package block as it landed: all contracts of its calls together.
-/
namespace Go.Proofs.YtejelednnacnaaaGreatDoor
theorem blk_contracts : True := trivial
end Go.Proofs.YtejelednnacnaaaGreatDoor
