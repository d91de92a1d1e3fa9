/-
  The program's disk of layer 9, as it landed: nine cells, two rows of bytes, and a row of what waits, each with its bytes; that it stays while other things change; bytes laid over a row by copy.
-/
import Derived.Test.YtnndpainnoebgaaOwn
import Derived.Test.YtnndpainnoebgaaBlkP
import Derived.Test.YtnndpainnoebgaaJoin
import Derived.Laws.OwnMore
import Derived.Laws.CopyOwn
import Derived.Deep.AppendLies
import Derived.RegionTactic
import Derived.StillTailTactics
namespace Go.Proofs.Ytnndpainnoebgaa
open Go.RowKit

/-- A row of bytes, whole. -/
def RowB (W : World) (g : Nat) (l : List Int) : Prop := W.heap[g]? = some (.cells (l.map (Value.int .u8)).toArray 5 (0, 0))
theorem RowB.kept {W W' : World} {g : Nat} {l : List Int} (h : RowB W g l) (hk : W'.heap[g]? = W.heap[g]?) : RowB W' g l := hk.trans h
theorem RowB.lt {W : World} {g : Nat} {l : List Int} (h : RowB W g l) : g < W.heap.size := (Array.getElem?_eq_some_iff.1 h).1
theorem RowB.at {W : World} {g : Nat} {l : List Int} (h : RowB W g l) (i : Nat) (hi : i < l.length) : W.cell? ⟨g, i, none⟩ = some (.int .u8 (l.getD i 0)) := by
  have h' : W.heap[g]? = some (.cells (l.map (Value.int .u8)).toArray 5 (0, 0)) := h
  simp [World.cell?, h', hi]
theorem RowB.arg {W : World} {g : Nat} {l : List Int} (h : RowB W g l) (p n c : Nat) (hp : p + n ≤ l.length) (hc : n ≤ c) : ArgB W (.slice (some ⟨g, p, none⟩) n c) ((l.drop p).take n) := by
  have := ArgB.part (w := W) (b := g) (off := 0) (l := l) (fun i hi => by rw [Nat.zero_add]; exact h.at i hi) p n c hp hc
  rwa [Nat.zero_add] at this
theorem RowB.whole {W : World} {g : Nat} {l : List Int} (h : RowB W g l) (n c : Nat) (hn : n = l.length) (hc : n ≤ c) : ArgB W (.slice (some ⟨g, 0, none⟩) n c) l := by
  have := h.arg 0 n c (by omega) hc
  rwa [List.drop_zero, List.take_of_length_le (by omega)] at this
/-- What make gives: a row of 0. -/
theorem made_row (w : World) (n : Nat) (hn : n ≤ 1000000) : ∃ w', (Instr.makeSlice 30 (.int .i64 (n : Int)) (.int .i64 (n : Int))).run Try.prog w = .ok (.slice (some ⟨w.heap.size, 0, none⟩) n n) w' ∧ RowB w' w.heap.size (List.replicate n 0) ∧ Below w.heap.size w w' := by
  obtain ⟨i0, hi, hz0, hz1, hz2⟩ := info_parts info_byte
  obtain ⟨w1, hr, hO, hg⟩ := run_make_full (P := Try.prog) w w.heap.size 30 5 i0 (.int .u8 0) 1 Try.underlying30 hi hz0 hz1 .i64 .i64 n (by rw [hz2]; omega) (by unfold maxLen; omega) (Nat.le_refl _)
  refine ⟨w1, hr, ?_, (Below.refl _ _).grown hg (Nat.le_refl _) (fun b hk => by cases hk)⟩
  rcases hO.2 with ⟨e, _⟩ | ⟨g, cap, cur, e, _, hg', h1, h2, h3, h4⟩
  · cases e
  · cases e
    rw [Nat.mul_one] at h3 h4
    have e4 : cur.toList = (List.replicate n (0 : Int)).map (Value.int .u8) := by
      rw [List.take_of_length_le (by rw [Array.length_toList]; omega)] at h4
      rw [h4]
      show (madeCells #[Value.int .u8 0] n).toList = _
      rw [toList_madeCells_one, List.map_replicate]
    show w1.heap[w.heap.size]? = _
    rw [hg', ← e4]

theorem OnlyO.weak {base : Nat} {O O' : Foot} {w w' : World} (h : OnlyO base O w w') (hO : ∀ i, O i → O' i) : OnlyO base O' w w' := ⟨h.bel, fun i hi hne => h.keep i hi (fun ho => hne (hO i ho))⟩
theorem layL_map (L b : List Int) (off : Nat) : (layL L (off, b)).map (Value.int .u8) = splice (L.map (Value.int .u8)) off (b.map (Value.int .u8)) := by
  unfold layL splice
  simp only [List.map_append, List.map_take, List.map_drop, List.append_assoc, List.length_map]
theorem layL_none (L : List Int) (off : Nat) : layL L (off, []) = L := by simp [layL]
/-- Bytes copied over a row: the operation, for a walk. -/
theorem wp_lay {w : World} {ops : Array Oper} {rest : List Oper} {o : Oper} {a : Act} {Q : Exit → Act → World → Prop} (hgd : o.guard = none) (d s : Operand)
    (ho : o.op = .call { callee := .builtin .copy, args := #[d, s], argTypes := #[30, 30] })
    (g off dLen dCap : Nat) (hd : a.eval d = .slice (some ⟨g, off, none⟩) dLen dCap) (sv : Value) (hs : a.eval s = sv) (b : List Int) (hA : ArgB w sv b) (L : List Int) (hL : RowB w g L) (hlen : b.length ≤ dLen) (hfit : off + b.length ≤ L.length) (base : Nat) (hbg : base ≤ g)
    (h : ∀ w', RowB w' g (layL L (off, b)) → OnlyO base (fun i => i = g) w w' → wpList Try.prog ops Q rest (a.put o.dst (.int .i64 (b.length : Int))) w') : wpList Try.prog ops Q (o :: rest) a w := by
  obtain ⟨i0, hi, hz0, hz1, hz2⟩ := info_parts info_byte
  have hsz : (Try.prog.info? 5).map (·.size) = some 1 := by rw [hi]; exact congrArg some hz1
  have hmin : Nat.min b.length dLen = b.length := Nat.min_eq_left hlen
  by_cases h0 : b.length = 0
  · obtain rfl : b = [] := List.eq_nil_of_length_eq_zero h0
    have hh := h w (by rw [layL_none]; exact hL) (OnlyO.refl _ _ _)
    obtain ⟨sa, sc, rfl⟩ := hA.size
    exact wpList_copy_nothing hgd d s 30 30 ho 5 Try.underlying30 hsz _ sa dLen dCap _ sc hd hs (by rw [hmin]; rfl) hh
  · rcases hA with ⟨_, rfl⟩ | ⟨x, cap, rfl, hc, hcell⟩
    · exact (h0 rfl).elim
    · refine wpList_copy_own hgd d s 30 30 ho 5 Try.underlying30 hsz g off dLen dCap x b.length cap hd hs _ 5 hL (b.map (Value.int .u8)) (by rw [List.length_map, hmin]) ?_ (by simpa using hfit) (ints_one _ _) ?_
      · intro j u hu
        rw [List.getElem?_map] at hu
        obtain ⟨z, hz, rfl⟩ := Option.map_eq_some_iff.mp hu
        have hj : j < b.length := (List.getElem?_eq_some_iff.mp hz).1
        rw [hcell j hj, List.getD_eq_getElem?_getD, hz]; rfl
      · have e : (List.take off (L.map (Value.int .u8)).toArray.toList ++ (b.map (Value.int .u8) ++ List.drop (off + (b.map (Value.int .u8)).length) (L.map (Value.int .u8)).toArray.toList)) = (layL L (off, b)).map (Value.int .u8) := by
          rw [layL_map]; rfl
        rw [e, List.length_map]
        refine h _ (setRow_heap w g _ _ _ _ hL) ⟨below_setRow (Below.refl _ _) hbg _, fun i hi hne => setRow_other w g i _ hne⟩

/-- The same as an equation. -/
theorem run_lay (w : World) (g off dLen dCap : Nat) (sv : Value) (b : List Int) (hA : ArgB w sv b) (L : List Int) (hL : RowB w g L) (hlen : b.length ≤ dLen) (hfit : off + b.length ≤ L.length) (base : Nat) (hbg : base ≤ g) (ty : TypeId) :
    ∃ w', (Builtin.copy_ #[30, 30] ty #[.slice (some ⟨g, off, none⟩) dLen dCap, sv]).run Try.prog w = .ok (.int .i64 (b.length : Int)) w' ∧ RowB w' g (layL L (off, b)) ∧ OnlyO base (fun i => i = g) w w' := by
  obtain ⟨i0, hi, hz0, hz1, hz2⟩ := info_parts info_byte
  have hsz : (Try.prog.info? 5).map (·.size) = some 1 := by rw [hi]; exact congrArg some hz1
  have hmin : Nat.min b.length dLen = b.length := Nat.min_eq_left hlen
  by_cases h0 : b.length = 0
  · obtain rfl : b = [] := List.eq_nil_of_length_eq_zero h0
    obtain ⟨sa, sc, rfl⟩ := hA.size
    exact ⟨w, run_copy_none (P := Try.prog) w 30 30 ty 5 _ sa dLen dCap _ sc Try.underlying30 hsz (by rw [hmin]; rfl), by rw [layL_none]; exact hL, OnlyO.refl _ _ _⟩
  · rcases hA with ⟨_, rfl⟩ | ⟨x, cap, rfl, hc, hcell⟩
    · exact (h0 rfl).elim
    · have hrun := run_copy_row (P := Try.prog) w 30 30 ty 5 g off dLen dCap x b.length cap _ 5 (b.map (Value.int .u8)) Try.underlying30 hsz hL (by rw [List.length_map, hmin]) (fun j u hu => by
          rw [List.getElem?_map] at hu
          obtain ⟨z, hz, rfl⟩ := Option.map_eq_some_iff.mp hu
          have hj : j < b.length := (List.getElem?_eq_some_iff.mp hz).1
          rw [hcell j hj, List.getD_eq_getElem?_getD, hz]; rfl) (by simpa using hfit) (ints_one _ _)
      rw [List.length_map] at hrun
      refine ⟨_, hrun, ?_, ⟨below_setRow (Below.refl _ _) hbg _, fun i hi hne => setRow_other w g i _ hne⟩⟩
      have e : (List.take off (L.map (Value.int .u8)).toArray.toList ++ (b.map (Value.int .u8)) ++ List.drop (off + b.length) (L.map (Value.int .u8)).toArray.toList) = (layL L (off, b)).map (Value.int .u8) := by
        rw [layL_map]; simp [splice]
      rw [e]
      exact setRow_heap w g _ _ _ _ hL

/-- The disk's nine cells. -/
structure DkAt (W : World) (r n size gl gs : Nat) (v : Value) (deeds : Int) (B : Bool) (L : Int) (dark : Bool) : Prop where
  c0 : W.cell? ⟨r, 0, none⟩ = some (.int .i64 (n : Int))
  c1 : W.cell? ⟨r, 1, none⟩ = some (.int .i64 (size : Int))
  c2 : W.cell? ⟨r, 2, none⟩ = some (.slice (some ⟨gl, 0, none⟩) (n * size) (n * size))
  c3 : W.cell? ⟨r, 3, none⟩ = some (.slice (some ⟨gs, 0, none⟩) (n * size) (n * size))
  c4 : W.cell? ⟨r, 4, none⟩ = some v
  c5 : W.cell? ⟨r, 5, none⟩ = some (.int .i64 deeds)
  c6 : W.cell? ⟨r, 6, none⟩ = some (.bool B)
  c7 : W.cell? ⟨r, 7, none⟩ = some (.int .i64 L)
  c8 : W.cell? ⟨r, 8, none⟩ = some (.bool dark)
  q : ∀ i, W.frozen? ⟨r, i, none⟩ = false
  s : r < W.heap.size
theorem DkAt.kept {W W' : World} {r n size gl gs : Nat} {v : Value} {deeds : Int} {B : Bool} {L : Int} {dark : Bool} (h : DkAt W r n size gl gs v deeds B L dark) (hk : W'.heap[r]? = W.heap[r]?) (hs : W.heap.size ≤ W'.heap.size) : DkAt W' r n size gl gs v deeds B L dark := by
  obtain ⟨c0, c1, c2, c3, c4, c5, c6, c7, c8, q, s⟩ := h
  refine ⟨?_, ?_, ?_, ?_, ?_, ?_, ?_, ?_, ?_, fun i => ?_, Nat.lt_of_lt_of_le s hs⟩
  all_goals first | (rw [World.cell?_of_block hk]; assumption) | (rw [World.frozen?_of_block hk]; exact q i)
/-- A cell of it set. -/
theorem DkAt.set {W : World} {r n size gl gs : Nat} {v : Value} {deeds : Int} {B : Bool} {L : Int} {dark : Bool} (h : DkAt W r n size gl gs v deeds B L dark) :
    (∀ x, DkAt (W.setCell ⟨r, 4, none⟩ x) r n size gl gs x deeds B L dark) ∧ (∀ x : Int, DkAt (W.setCell ⟨r, 5, none⟩ (.int .i64 x)) r n size gl gs v x B L dark) ∧ (∀ x, DkAt (W.setCell ⟨r, 6, none⟩ (.bool x)) r n size gl gs v deeds x L dark) ∧
    (∀ x : Int, DkAt (W.setCell ⟨r, 7, none⟩ (.int .i64 x)) r n size gl gs v deeds B x dark) ∧ (∀ x, DkAt (W.setCell ⟨r, 8, none⟩ (.bool x)) r n size gl gs v deeds B L x) := by
  obtain ⟨c0, c1, c2, c3, c4, c5, c6, c7, c8, q, s⟩ := h
  have hq : ∀ j (x : Value) i, (W.setCell ⟨r, j, none⟩ x).frozen? ⟨r, i, none⟩ = false := fun j x i => by rw [World.frozen?_setCell]; exact q i
  refine ⟨fun x => ?_, fun x => ?_, fun x => ?_, fun x => ?_, fun x => ?_⟩
  all_goals (refine ⟨?_, ?_, ?_, ?_, ?_, ?_, ?_, ?_, ?_, hq _ _, by simpa using s⟩ <;> simp [go_sem, *])
theorem set_else (W : World) (r i : Nat) (x : Value) (j : Nat) (hne : j ≠ r) : (W.setCell ⟨r, i, none⟩ x).heap[j]? = W.heap[j]? := Below.heap_setCell W ⟨r, i, none⟩ x j hne

/-- The cells of what waits: a block's number, and where its bytes lie. -/
def bcells (size : Nat) (xs : List (Nat × Nat)) : List Value := xs.flatMap fun p => [.int .i64 (p.1 : Int), .slice (some ⟨p.2, 0, none⟩) size size]
theorem bcells_len (size : Nat) (xs : List (Nat × Nat)) : (bcells size xs).length = xs.length * 2 := by
  induction xs with
  | nil => rfl
  | cons p xs ih => simp only [bcells, List.flatMap_cons, List.length_append, List.length_cons, List.length_nil] at ih ⊢; omega
theorem bcells_more (size : Nat) (xs : List (Nat × Nat)) (p : Nat × Nat) : bcells size (xs ++ [p]) = bcells size xs ++ [.int .i64 (p.1 : Int), .slice (some ⟨p.2, 0, none⟩) size size] := by
  unfold bcells
  rw [List.flatMap_append]; rfl
theorem bcells_at (size : Nat) : ∀ (xs : List (Nat × Nat)) (k : Nat), k < xs.length → (bcells size xs)[k * 2]? = some (.int .i64 ((xs.getD k (0, 0)).1 : Int)) ∧ (bcells size xs)[k * 2 + 1]? = some (.slice (some ⟨(xs.getD k (0, 0)).2, 0, none⟩) size size)
  | [], k, hk => by cases hk
  | p :: xs, 0, _ => ⟨rfl, rfl⟩
  | p :: xs, k + 1, hk => by
    obtain ⟨h1, h2⟩ := bcells_at size xs k (by simpa using hk)
    have e : bcells size (p :: xs) = .int .i64 (p.1 : Int) :: .slice (some ⟨p.2, 0, none⟩) size size :: bcells size xs := rfl
    rw [e, show (k + 1) * 2 = k * 2 + 1 + 1 by omega, List.getElem?_cons_succ, List.getElem?_cons_succ, List.getElem?_cons_succ, List.getElem?_cons_succ]
    exact ⟨h1, h2⟩

/-- One that waits. -/
structure OneW (W : World) (O : Foot) (P : Nat → Prop) (n size : Nat) (x : Nat × Nat) (p : Nat × List Int) : Prop where
  at_ : p.1 = x.1 * size
  lt : x.1 < n
  row : RowB W x.2 p.2
  len : p.2.length = size
  mem : O x.2
  ap : P x.2
/-- All that waits. -/
def WaitsAt (W : World) (base : Nat) (O : Foot) (P : Nat → Prop) (v : Value) (n size : Nat) (ws : List (Nat × List Int)) : Prop :=
  ∃ xs : List (Nat × Nat), xs.length = ws.length ∧ W.ownsRow base 57 2 v ws.length (bcells size xs) ∧ (∀ g, v.ownBlock = some g → O g ∧ P g) ∧
    ∀ k, k < ws.length → OneW W O (fun i => P i ∧ v.ownBlock ≠ some i) n size (xs.getD k (0, 0)) (ws.getD k (0, []))
theorem row_same {W W' : World} {base : Nat} {t : TypeId} {k : Nat} {v : Value} {n : Nat} {xs : List Value} (h : W.ownsRow base t k v n xs) (hk : ∀ g, v.ownBlock = some g → W'.heap[g]? = W.heap[g]?) : W'.ownsRow base t k v n xs := by
  obtain ⟨h1, h2⟩ := h
  refine ⟨h1, ?_⟩
  rcases h2 with hx | ⟨g, cap, cur, rfl, hbg, hg, rest⟩
  · exact Or.inl hx
  · exact Or.inr ⟨g, cap, cur, rfl, hbg, (hk g rfl).trans hg, rest⟩
theorem WaitsAt.kept {W W' : World} {base : Nat} {O : Foot} {P : Nat → Prop} {v : Value} {n size : Nat} {ws : List (Nat × List Int)} (h : WaitsAt W base O P v n size ws) (hk : ∀ i, O i → P i → W'.heap[i]? = W.heap[i]?) : WaitsAt W' base O P v n size ws := by
  obtain ⟨xs, h1, h2, h3, h4⟩ := h
  refine ⟨xs, h1, row_same h2 (fun g hg => hk g (h3 g hg).1 (h3 g hg).2), h3, fun k hkl => ?_⟩
  obtain ⟨a, b, c, d, e, f⟩ := h4 k hkl
  exact ⟨a, b, c.kept (hk _ e f.1), d, e, f⟩
theorem WaitsAt.size {W : World} {base : Nat} {O : Foot} {P : Nat → Prop} {v : Value} {n size : Nat} {ws : List (Nat × List Int)} (h : WaitsAt W base O P v n size ws) : ∃ a cap, v = .slice a ws.length cap := by
  obtain ⟨xs, h1, h2, h3, h4⟩ := h
  rcases h2.2 with ⟨rfl, h0⟩ | ⟨g, cap, cur, rfl, _⟩
  · exact ⟨none, 0, by rw [h0]⟩
  · exact ⟨some ⟨g, 0, none⟩, cap, rfl⟩
/-- The k-th of them. -/
theorem WaitsAt.one {W : World} {base : Nat} {O : Foot} {P : Nat → Prop} {v : Value} {n size : Nat} {ws : List (Nat × List Int)} (h : WaitsAt W base O P v n size ws) {k : Nat} (hk : k < ws.length) :
    ∃ g cap x, v = .slice (some ⟨g, 0, none⟩) ws.length cap ∧ ws.length ≤ cap ∧ W.cell? ⟨g, k * 2, none⟩ = some (.int .i64 (x.1 : Int)) ∧ W.cell? ⟨g, k * 2 + 1, none⟩ = some (.slice (some ⟨x.2, 0, none⟩) size size) ∧ O g ∧ P g ∧ OneW W O (fun i => P i ∧ i ≠ g) n size x (ws.getD k (0, [])) := by
  obtain ⟨xs, h1, h2, h3, h4⟩ := h
  obtain ⟨q1, q2⟩ := bcells_at size xs k (by omega)
  obtain ⟨a, b, c, d, e, f⟩ := h4 k hk
  rcases h2.2 with ⟨rfl, h0⟩ | ⟨g, cap, cur, rfl, _, _, hcap, _⟩
  · omega
  · have hcs := @World.ownsRow.cells _ _ _ _ _ _ _ h2
    have k0 := hcs (g := g) rfl (k * 2) _ q1
    have k1 := hcs (g := g) rfl (k * 2 + 1) _ q2
    have ad : ∀ i, (⟨g, 0, none⟩ : Addr).add i = ⟨g, i, none⟩ := fun i => by unfold Addr.add; split <;> simp_all
    rw [ad] at k0 k1
    exact ⟨g, cap, xs.getD k (0, 0), rfl, hcap, k0, k1, (h3 g rfl).1, (h3 g rfl).2, a, b, c, d, e, f.1, fun hh => f.2 (by rw [hh]; rfl)⟩

/-- The disk by its parts. -/
structure Parts (W : World) (base : Nat) (O : Foot) (r gl gs : Nat) (v : Value) (n size : Nat) (la se : List Int) (ws : List (Nat × List Int)) (deeds : Int) (B : Bool) (L : Int) (dark : Bool) : Prop where
  own : ∀ i, O i → base ≤ i ∧ i < W.heap.size
  dk : DkAt W r n size gl gs v deeds B L dark
  rl : RowB W gl la
  rs : RowB W gs se
  mr : O r
  ml : O gl
  ms : O gs
  ne : gl ≠ r ∧ gs ≠ r ∧ gl ≠ gs
  ll : la.length = n * size
  ls : se.length = n * size
  n1 : n ≤ 400
  s0 : 32 ≤ size
  s1 : size ≤ 512
  ww : WaitsAt W base O (fun i => i ≠ r ∧ i ≠ gl ∧ i ≠ gs) v n size ws
theorem Parts.step {W W' : World} {base : Nat} {O : Foot} {r gl gs : Nat} {v : Value} {n size : Nat} {la se la' se' : List Int} {ws : List (Nat × List Int)} {deeds deeds' : Int} {B B' : Bool} {L L' : Int} {dark dark' : Bool} (h : Parts W base O r gl gs v n size la se ws deeds B L dark)
    (hk : ∀ i, O i → i ≠ r → i ≠ gl → i ≠ gs → W'.heap[i]? = W.heap[i]?) (hs : W.heap.size ≤ W'.heap.size) (hd : DkAt W' r n size gl gs v deeds' B' L' dark') (hl : RowB W' gl la') (hse : RowB W' gs se') (ll : la'.length = n * size) (ls : se'.length = n * size) : Parts W' base O r gl gs v n size la' se' ws deeds' B' L' dark' :=
  ⟨fun i hi => ⟨(h.own i hi).1, Nat.lt_of_lt_of_le (h.own i hi).2 hs⟩, hd, hl, hse, h.mr, h.ml, h.ms, h.ne, ll, ls, h.n1, h.s0, h.s1, h.ww.kept (fun i hi ⟨h1, h2, h3⟩ => hk i hi h1 h2 h3)⟩
theorem Parts.kept {W W' : World} {base : Nat} {O : Foot} {r gl gs : Nat} {v : Value} {n size : Nat} {la se : List Int} {ws : List (Nat × List Int)} {deeds : Int} {B : Bool} {L : Int} {dark : Bool} (h : Parts W base O r gl gs v n size la se ws deeds B L dark)
    (hk : ∀ i, O i → W'.heap[i]? = W.heap[i]?) (hs : W.heap.size ≤ W'.heap.size) : Parts W' base O r gl gs v n size la se ws deeds B L dark :=
  h.step (fun i hi _ _ _ => hk i hi) hs (h.dk.kept (hk r h.mr) hs) (h.rl.kept (hk gl h.ml)) (h.rs.kept (hk gs h.ms)) h.ll h.ls
theorem Parts.after {W W' : World} {base : Nat} {O : Foot} {r gl gs : Nat} {v : Value} {n size : Nat} {la se : List Int} {ws : List (Nat × List Int)} {deeds : Int} {B : Bool} {L : Int} {dark : Bool} (h : Parts W base O r gl gs v n size la se ws deeds B L dark)
    (hb : Below W.heap.size W W') : Parts W' base O r gl gs v n size la se ws deeds B L dark := h.kept (fun i hi => hb.block i (h.own i hi).2) hb.size
/-- Cells of it set. -/
theorem Parts.cells {W W' : World} {base : Nat} {O : Foot} {r gl gs : Nat} {v : Value} {n size : Nat} {la se : List Int} {ws : List (Nat × List Int)} {deeds deeds' : Int} {B B' : Bool} {L L' : Int} {dark dark' : Bool} (h : Parts W base O r gl gs v n size la se ws deeds B L dark)
    (hd : DkAt W' r n size gl gs v deeds' B' L' dark') (hk : ∀ i, i ≠ r → W'.heap[i]? = W.heap[i]?) (hs : W.heap.size ≤ W'.heap.size) : Parts W' base O r gl gs v n size la se ws deeds' B' L' dark' :=
  h.step (fun i _ h1 _ _ => hk i h1) hs hd (h.rl.kept (hk gl h.ne.1)) (h.rs.kept (hk gs h.ne.2.1)) h.ll h.ls
/-- Nothing waits any more. -/
theorem Parts.clear {W W' : World} {base : Nat} {O : Foot} {r gl gs : Nat} {v : Value} {n size : Nat} {la se : List Int} {ws : List (Nat × List Int)} {deeds deeds' : Int} {B B' : Bool} {L L' : Int} {dark dark' : Bool} (h : Parts W base O r gl gs v n size la se ws deeds B L dark)
    (hd : DkAt W' r n size gl gs (.slice none 0 0) deeds' B' L' dark') (hk : ∀ i, i ≠ r → W'.heap[i]? = W.heap[i]?) (hs : W.heap.size ≤ W'.heap.size) : Parts W' base O r gl gs (.slice none 0 0) n size la se [] deeds' B' L' dark' :=
  ⟨fun i hi => ⟨(h.own i hi).1, Nat.lt_of_lt_of_le (h.own i hi).2 hs⟩, hd, h.rl.kept (hk gl h.ne.1), h.rs.kept (hk gs h.ne.2.1), h.mr, h.ml, h.ms, h.ne, h.ll, h.ls, h.n1, h.s0, h.s1, ⟨[], rfl, World.ownsRow_nil _ _ _ _, fun g hg => (by cases hg), fun k hk => by cases hk⟩⟩
/-- Bytes laid over what lasts. -/
theorem Parts.last {W W' : World} {base : Nat} {O : Foot} {r gl gs : Nat} {v : Value} {n size : Nat} {la se la' : List Int} {ws : List (Nat × List Int)} {deeds : Int} {B : Bool} {L : Int} {dark : Bool} (h : Parts W base O r gl gs v n size la se ws deeds B L dark)
    (hl : RowB W' gl la') (ho : OnlyO base (fun i => i = gl) W W') (ll : la'.length = n * size) : Parts W' base O r gl gs v n size la' se ws deeds B L dark :=
  h.step (fun i hi _ h2 _ => ho.keep i (h.own i hi).2 h2) ho.size (h.dk.kept (ho.keep r h.dk.s (fun e => h.ne.1 e.symm)) ho.size) hl (h.rs.kept (ho.keep gs h.rs.lt (fun e => h.ne.2.2 e.symm))) ll h.ls
/-- Bytes laid over what is seen. -/
theorem Parts.view {W W' : World} {base : Nat} {O : Foot} {r gl gs : Nat} {v : Value} {n size : Nat} {la se se' : List Int} {ws : List (Nat × List Int)} {deeds : Int} {B : Bool} {L : Int} {dark : Bool} (h : Parts W base O r gl gs v n size la se ws deeds B L dark)
    (hl : RowB W' gs se') (ho : OnlyO base (fun i => i = gs) W W') (ls : se'.length = n * size) : Parts W' base O r gl gs v n size la se' ws deeds B L dark :=
  h.step (fun i hi _ _ h3 => ho.keep i (h.own i hi).2 h3) ho.size (h.dk.kept (ho.keep r h.dk.s (fun e => h.ne.2.1 e.symm)) ho.size) (h.rl.kept (ho.keep gl h.rl.lt (fun e => h.ne.2.2 e))) hl h.ll ls

/-- What the fuse's cells say. -/
def FuseIs (B : Bool) (L fuse : Int) : Prop := (B = true ∧ fuse = L ∧ 0 ≤ L) ∨ (B = false ∧ fuse = -1)
/-- A disk in block r, that leans on the blocks O alone, all of them from base on. -/
structure DskIs (W : World) (base : Nat) (O : Foot) (r : Nat) (D : Dsk) : Prop where
  own : ∀ i, O i → base ≤ i ∧ i < W.heap.size
  mem : O r
  ok : D.Ok
  ex : ∃ gl gs v B L, Parts W base O r gl gs v D.n D.size D.last D.seen D.waits (D.deeds : Int) B L D.dark ∧ FuseIs B L D.fuse ∧ -9223372036854775808 ≤ L ∧ L ≤ 9223372036854775807
theorem DskIs.kept {W W' : World} {base : Nat} {O : Foot} {r : Nat} {D : Dsk} (h : DskIs W base O r D) (hk : ∀ i, O i → W'.heap[i]? = W.heap[i]?) (hs : W.heap.size ≤ W'.heap.size) : DskIs W' base O r D := by
  obtain ⟨h1, h2, h3, gl, gs, v, B, L, h4, h5⟩ := h
  exact ⟨fun i hi => ⟨(h1 i hi).1, Nat.lt_of_lt_of_le (h1 i hi).2 hs⟩, h2, h3, gl, gs, v, B, L, h4.kept hk hs, h5⟩
theorem DskIs.after {W W' : World} {base : Nat} {O : Foot} {r : Nat} {D : Dsk} (h : DskIs W base O r D) (hb : Below W.heap.size W W') : DskIs W' base O r D := h.kept (fun i hi => hb.block i (h.own i hi).2) hb.size
theorem ownsRow_base {W : World} {base base' : Nat} {t : TypeId} {k : Nat} {v : Value} {n : Nat} {xs : List Value} (h : W.ownsRow base t k v n xs) (hb : base' ≤ base) : W.ownsRow base' t k v n xs := by
  obtain ⟨h1, h2⟩ := h
  refine ⟨h1, ?_⟩
  rcases h2 with hx | ⟨g, cap, cur, rfl, hbg, rest⟩
  · exact Or.inl hx
  · exact Or.inr ⟨g, cap, cur, rfl, Nat.le_trans hb hbg, rest⟩
theorem DskIs.base {W : World} {base base' : Nat} {O : Foot} {r : Nat} {D : Dsk} (h : DskIs W base O r D) (hb : base' ≤ base) : DskIs W base' O r D := by
  obtain ⟨h1, h2, h3, gl, gs, v, B, L, h4, h5⟩ := h
  refine ⟨fun i hi => ⟨Nat.le_trans hb (h1 i hi).1, (h1 i hi).2⟩, h2, h3, gl, gs, v, B, L, ?_, h5⟩
  obtain ⟨a1, a2, a3, a4, a5, a6, a7, a8, a9, a10, a11, a12, a13, xs, b1, b2, b3, b4⟩ := h4
  exact ⟨fun i hi => ⟨Nat.le_trans hb (a1 i hi).1, (a1 i hi).2⟩, a2, a3, a4, a5, a6, a7, a8, a9, a10, a11, a12, a13, xs, b1, ownsRow_base b2 hb, b3, b4⟩
/-- What a call makes of a disk. -/
def DskTo (base : Nat) (O : Foot) (r : Nat) (D' : Dsk) (w w' : World) : Prop := ∃ O', DskIs w' base O' r D' ∧ OnlyO base O w w' ∧ Grown O O' w.heap.size

end Go.Proofs.Ytnndpainnoebgaa
