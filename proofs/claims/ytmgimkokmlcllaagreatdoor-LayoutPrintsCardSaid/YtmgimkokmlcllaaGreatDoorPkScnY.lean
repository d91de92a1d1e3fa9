/-
  Package scan's Tokens, walked.
-/
import Derived.Test.YtmgimkokmlcllaaGreatDoorPkScnv
import Derived.Test.YtmgimkokmlcllaaGreatDoorPkScnJ
namespace Go.Proofs.YtmgimkokmlcllaaGreatDoor
open Go.RowKit

def lenV : Value → Nat
  | .string s => s.size
  | _ => 0
set_option maxRecDepth 100000 in
theorem ptoks_results {W : World} {g : Nat} {x y z u : Value} {tmps : Array Value} (h : Var3 W g x y z) (h2 : tmps.getD 3 undef = .pointer (some ⟨g, 0, none⟩)) (h3 : tmps.getD 2 undef = u) : (results Tryz.f30 tmps).run Tryz.prog W = .ok (.tuple #[u, .agg #[x, y, z]]) W := by
  have e : (asAddr (Value.pointer (some ⟨g, 0, none⟩))).run Tryz.prog W = .ok ⟨g, 0, none⟩ W := rfl
  have hr : Tryz.f30.results = #[.tmp 2, .cell 3 32] := rfl
  have q2 : tmps[3]?.getD undef = .pointer (some ⟨g, 0, none⟩) := by simpa using h2
  have q3 : tmps[2]?.getD undef = u := by simpa using h3
  simp only [results, hr]
  simp [Sem.run_bind, Result.andThen, q2, q3, e, load_fault h]
theorem Var3.hold {W W' : World} {p : Nat} {x y z : Value} (h : Var3 W p x y z) (e : W'.heap[p]? = W.heap[p]?) (hs : W.heap.size ≤ W'.heap.size) : Var3 W' p x y z :=
  ⟨(World.cell?_of_block e).trans h.c0, (World.cell?_of_block e).trans h.c1, (World.cell?_of_block e).trans h.c2, (World.frozen?_of_block e).trans h.q0, (World.frozen?_of_block e).trans h.q1, (World.frozen?_of_block e).trans h.q2, Nat.lt_of_lt_of_le h.s hs⟩
theorem put2_else (W : World) (r : Nat) (x y : Value) (j : Nat) (h : j ≠ r) : (put2 W r x y).heap[j]? = W.heap[j]? := by
  unfold put2
  rw [sset_else _ _ _ _ _ h, sset_else _ _ _ _ _ h]
theorem put2_size (W : World) (r : Nat) (x y : Value) : (put2 W r x y).heap.size = W.heap.size := by unfold put2; simp
theorem RowK.put2 {t : TypeId} {sz : Nat} {w : World} {base p : Nat} {v : Value} {vs : List (List Value)} (h : RowK t sz w base v vs) (hp : p < base) (x y : Value) : RowK t sz (put2 w p x y) base v vs :=
  h.kept fun b hb => put2_else _ _ _ _ _ (by have := (h.lt hb).1; omega)

structure TkM (w : World) (B : Nat) (l : List Int) (i : Nat) (acc : List (TkV × Nat)) (v : Value) (wr : World) : Prop where
  row : RowK 59 5 wr (B + 2) v (toksV l acc)
  at_ : Var2 wr (B + 1) (.int .i64 (spotAt l i).1) (.int .i64 (spotAt l i).2)
  res : Var3 wr B (.int .i64 0) (.int .i64 0) (.int .i64 0)
  bel : Below B w wr
  size : B + 2 ≤ wr.heap.size
  few : acc.length ≤ i
  ahead : Ahead l i acc
theorem TkM.after {w wr w' : World} {B : Nat} {l : List Int} {i : Nat} {acc : List (TkV × Nat)} {v : Value} (h : TkM w B l i acc v wr) (hb : Below wr.heap.size wr w') : TkM w B l i acc v w' :=
  ⟨h.row.below hb, h.at_.after hb, h.res.after hb, h.bel.trans (hb.mono (by have := h.size; omega)), Nat.le_trans h.size hb.size, h.few, h.ahead⟩
theorem TkM.skip {w wr : World} {B : Nat} {l : List Int} {i k : Nat} {acc : List (TkV × Nat)} {v : Value} (h : TkM w B l i acc v wr) (e : tokF l i = tokF l (i + k)) : TkM w B l (i + k) acc v (put2 wr (B + 1) (.int .i64 (spotAt l (i + k)).1) (.int .i64 (spotAt l (i + k)).2)) :=
  ⟨h.row.put2 (by omega) _ _, h.at_.put _ _, h.res.hold (put2_else _ _ _ _ _ (by omega)) (by rw [put2_size]; exact Nat.le_refl _), below_put2 h.bel (by omega) _ _, by rw [put2_size]; exact h.size, Nat.le_trans h.few (by omega), h.ahead.same e⟩

set_option maxRecDepth 100000 in
set_option maxHeartbeats 8000000 in
theorem ptoks_long (s : ByteArray) (w : World) (hm : 40000 < s.size) :
    Calls Tryz.prog 30 #[.string s] w fun e w' => e = .returned (.tuple #[.slice none 0 0, .agg #[.int .i64 9, .int .i64 1, .int .i64 1]]) ∧ Below w.heap.size w w' := by
  obtain ⟨B, hB⟩ : ∃ B, w.heap.size = B := ⟨_, rfl⟩
  obtain ⟨W0, hW0⟩ : ∃ W, w.alloc (.cells #[.int .i64 0, .int .i64 0, .int .i64 0] 32) = W := ⟨_, rfl⟩
  have V0 : Var3 W0 B (.int .i64 0) (.int .i64 0) (.int .i64 0) := by rw [← hW0]; exact Var3.fresh _ _ _ _ _ _ hB.symm
  have g0 : Below B w W0 := by rw [← hW0, ← hB]; exact (Below.refl _ _).alloc (Nat.le_refl _) _
  have hs0 : W0.heap.size = B + 1 := by rw [← hW0]; simp [hB]
  obtain ⟨W1, hW1⟩ : ∃ W, W0.alloc (.cells #[.int .i64 0, .int .i64 0] 30) = W := ⟨_, rfl⟩
  have V1 : Var3 W1 B (.int .i64 0) (.int .i64 0) (.int .i64 0) := by rw [← hW1]; exact V0.alloc _
  have U1 : Var2 W1 (B + 1) (.int .i64 0) (.int .i64 0) := by rw [← hW1]; exact Var2.fresh _ _ _ _ _ hs0.symm
  have g1 : Below B w W1 := by rw [← hW1]; exact g0.alloc (by omega) _
  obtain ⟨W2, hW2⟩ : ∃ W, put2 W1 (B + 1) (.int .i64 1) (.int .i64 1) = W := ⟨_, rfl⟩
  have U2 : Var2 W2 (B + 1) (.int .i64 1) (.int .i64 1) := by rw [← hW2]; exact U1.put _ _
  have V2 : Var3 W2 B (.int .i64 0) (.int .i64 0) (.int .i64 0) := by rw [← hW2]; exact V1.hold (put2_else _ _ _ _ _ (by omega)) (by rw [put2_size]; exact Nat.le_refl _)
  have g2 : Below B w W2 := by rw [← hW2]; exact below_put2 g1 (by omega) _ _
  have hW2' : (W1.setCell ⟨B + 1, 0, none⟩ (.int .i64 1)).setCell ⟨B + 1, 1, none⟩ (.int .i64 1) = W2 := hW2
  have HV := Lib.hid V2
  have HG := Lib.hid g2
  have HB := Lib.hid hB
  have c0 := U1.c0; have c1 := U1.c1; have q0 := U1.q0; have q1 := U1.q1
  have d0 := U2.c0; have d1 := U2.c1
  have e0 := V2.c0; have e1 := V2.c1; have e2 := V2.c2; have r0 := V2.q0; have r1 := V2.q1; have r2 := V2.q2
  have hm' : (40000 : Int) < (s.size : Int) := by omega
  clear hm V0 g0 V1 U1 g1 U2 V2 g2 hW2
  go_enter Tryz.func30, Tryz.ntmps30
  go_wp2
  go_region
  go_wp2
  refine bodyPost_ret (ptoks_results (x := .int .i64 9) (y := .int .i64 1) (z := .int .i64 1) (u := .slice none 0 0) ((HV.out.put _ _ _).after ((Below.refl _ _).drew)) rfl rfl) rfl ?_
  exact ⟨rfl, HB.out ▸ (below_put3 HG.out (Nat.le_refl _) _ _ _).drew⟩

structure TokMade (w4 : World) (g : Nat) (k : Int) (S : ByteArray) (n X Y : Int) (W5 W6 W7 W8 : World) : Prop where
  g0 : w4.heap.size = g
  a5 : w4.alloc (.cells #[.int .i64 0, .string ⟨#[]⟩, .int .u64 0, .int .i64 0, .int .i64 0] 59) = W5
  s6 : (((((W5.setCell ⟨g, 0, none⟩ (.int .i64 k)).setCell ⟨g, 1, none⟩ (.string S)).setCell ⟨g, 2, none⟩ (.int .u64 n)).setCell ⟨g, 3, none⟩ (.int .i64 0)).setCell ⟨g, 4, none⟩ (.int .i64 0)) = W6
  s7 : ((W6.setCell ⟨g, 3, none⟩ (.int .i64 X)).setCell ⟨g, 4, none⟩ (.int .i64 Y)) = W7
  a8 : W7.alloc (.cells #[.int .i64 k, .string S, .int .u64 n, .int .i64 X, .int .i64 Y] 59) = W8
  f5 : Var5 W5 g (.int .i64 0) (.string ⟨#[]⟩) (.int .u64 0) (.int .i64 0) (.int .i64 0)
  f6 : Var5 W6 g (.int .i64 k) (.string S) (.int .u64 n) (.int .i64 0) (.int .i64 0)
  f7 : Var5 W7 g (.int .i64 k) (.string S) (.int .u64 n) (.int .i64 X) (.int .i64 Y)
  b6 : Below w4.heap.size w4 W6
  b8 : Below w4.heap.size w4 W8
  z7 : W7.heap.size = g + 1
  c8 : ∀ j, j < 5 → W8.cell? ⟨g + 1, j, none⟩ = some (([.int .i64 k, .string S, .int .u64 n, .int .i64 X, .int .i64 Y] : List Value).getD j undef)
theorem tok_made (w4 : World) (k : Int) (S : ByteArray) (n X Y : Int) : ∃ g W5 W6 W7 W8, TokMade w4 g k S n X Y W5 W6 W7 W8 := by
  obtain ⟨g, hg⟩ : ∃ g, w4.heap.size = g := ⟨_, rfl⟩
  obtain ⟨W5, hW5⟩ : ∃ W, w4.alloc (.cells #[.int .i64 0, .string ⟨#[]⟩, .int .u64 0, .int .i64 0, .int .i64 0] 59) = W := ⟨_, rfl⟩
  have h5 : Below w4.heap.size w4 W5 := by rw [← hW5]; exact (Below.refl _ _).alloc (Nat.le_refl _) _
  have F5 : Var5 W5 g (.int .i64 0) (.string ⟨#[]⟩) (.int .u64 0) (.int .i64 0) (.int .i64 0) := by rw [← hW5]; exact Var5.fresh _ _ _ _ _ _ _ _ hg.symm
  obtain ⟨W6, hW6⟩ : ∃ W, (((((W5.setCell ⟨g, 0, none⟩ (.int .i64 k)).setCell ⟨g, 1, none⟩ (.string S)).setCell ⟨g, 2, none⟩ (.int .u64 n)).setCell ⟨g, 3, none⟩ (.int .i64 0)).setCell ⟨g, 4, none⟩ (.int .i64 0)) = W := ⟨_, rfl⟩
  have F6 : Var5 W6 g (.int .i64 k) (.string S) (.int .u64 n) (.int .i64 0) (.int .i64 0) := by rw [← hW6]; exact F5.put _ _ _ _ _
  have h6 : Below w4.heap.size w4 W6 := by rw [← hW6]; exact below_put5 h5 (by omega) _ _ _ _ _
  obtain ⟨W7, hW7⟩ : ∃ W, ((W6.setCell ⟨g, 3, none⟩ (.int .i64 X)).setCell ⟨g, 4, none⟩ (.int .i64 Y)) = W := ⟨_, rfl⟩
  have F7 : Var5 W7 g (.int .i64 k) (.string S) (.int .u64 n) (.int .i64 X) (.int .i64 Y) := by rw [← hW7]; exact F6.put34 _ _
  have h7 : Below w4.heap.size w4 W7 := by rw [← hW7]; exact (h6.setCell (by show w4.heap.size ≤ g; omega) _).setCell (by show w4.heap.size ≤ g; omega) _
  have z7 : W7.heap.size = g + 1 := by rw [← hW7, ← hW6, ← hW5]; simp [hg]
  obtain ⟨W8, hW8⟩ : ∃ W, W7.alloc (.cells #[.int .i64 k, .string S, .int .u64 n, .int .i64 X, .int .i64 Y] 59) = W := ⟨_, rfl⟩
  have h8 : Below w4.heap.size w4 W8 := by rw [← hW8]; exact h7.alloc (by omega) _
  exact ⟨g, W5, W6, W7, W8, hg, hW5, hW6, hW7, hW8, F5, F6, F7, h6, h8, z7, by rw [← z7]; exact tok_cells (by rw [← hW8]; simp) (by rw [← hW8]; simp) (by rw [← hW8]; simp) (by rw [← hW8]; simp) (by rw [← hW8]; simp)⟩
theorem TkM.more {w W8 w' w9 : World} {B : Nat} {l : List Int} {i k : Nat} {acc : List (TkV × Nat)} {v v' : Value} {t : TkV} (h : TkM w B l i acc v W8) (hr : RowK 59 5 w' (B + 2) v' (toksV l (acc ++ [(t, i)]))) (hb : Below (B + 2) W8 w') (h9 : Below w'.heap.size w' w9)
    (hk : 1 ≤ k) (e : tokF l i = (tokF l (i + k)).map (fun L => (t, i) :: L)) : TkM w B l (i + k) (acc ++ [(t, i)]) v' (put2 w9 (B + 1) (.int .i64 (spotAt l (i + k)).1) (.int .i64 (spotAt l (i + k)).2)) := by
  have hs := h.size
  have a1 : Var2 w' (B + 1) (.int .i64 (spotAt l i).1) (.int .i64 (spotAt l i).2) := h.at_.hold (hb.block (B + 1) (by omega)) hb.size
  have r1 : Var3 w' B (.int .i64 0) (.int .i64 0) (.int .i64 0) := h.res.hold (hb.block B (by omega)) hb.size
  have s1 : B + 2 ≤ w'.heap.size := Nat.le_trans hs hb.size
  have b1 : Below B w w' := h.bel.trans (hb.mono (by omega))
  have b9 : Below B w w9 := b1.trans (h9.mono (by omega))
  exact ⟨(hr.below h9).put2 (by omega) _ _, (a1.after h9).put _ _, (r1.after h9).hold (put2_else _ _ _ _ _ (by omega)) (by rw [put2_size]; exact Nat.le_refl _), below_put2 b9 (by omega) _ _, by rw [put2_size]; exact Nat.le_trans s1 h9.size, by rw [List.length_append, List.length_singleton]; have := h.few; omega, h.ahead.more e⟩
theorem size_of_runes {s : ByteArray} : s.size = 0 ↔ runesOf (nums s) = [] := by
  constructor
  · intro h
    have hn : nums s = [] := List.eq_nil_of_length_eq_zero (by rw [nums_length]; exact h)
    rw [hn, runes_nil]
  · intro h
    refine Classical.byContradiction fun hn => ?_
    have := (first_is (nums_ne (s := s) (by omega)) (nums_byte s)).1
    rw [h] at this
    cases this

set_option maxRecDepth 100000 in
set_option maxHeartbeats 16000000 in
theorem ptoks_any (s : ByteArray) (w : World) (env : Env w) (hm : s.size ≤ 40000) : Calls Tryz.prog 30 #[.string s] w (GivesToks (runesOf (nums s)) w) := by
  obtain ⟨B, hB⟩ : ∃ B, w.heap.size = B := ⟨_, rfl⟩
  obtain ⟨W0, hW0⟩ : ∃ W, w.alloc (.cells #[.int .i64 0, .int .i64 0, .int .i64 0] 32) = W := ⟨_, rfl⟩
  have V0 : Var3 W0 B (.int .i64 0) (.int .i64 0) (.int .i64 0) := by rw [← hW0]; exact Var3.fresh _ _ _ _ _ _ hB.symm
  have g0 : Below B w W0 := by rw [← hW0, ← hB]; exact (Below.refl _ _).alloc (Nat.le_refl _) _
  have hs0 : W0.heap.size = B + 1 := by rw [← hW0]; simp [hB]
  obtain ⟨W1, hW1⟩ : ∃ W, W0.alloc (.cells #[.int .i64 0, .int .i64 0] 30) = W := ⟨_, rfl⟩
  have V1 : Var3 W1 B (.int .i64 0) (.int .i64 0) (.int .i64 0) := by rw [← hW1]; exact V0.alloc _
  have U1 : Var2 W1 (B + 1) (.int .i64 0) (.int .i64 0) := by rw [← hW1]; exact Var2.fresh _ _ _ _ _ hs0.symm
  have g1 : Below B w W1 := by rw [← hW1]; exact g0.alloc (by omega) _
  have hs1 : W1.heap.size = B + 2 := by rw [← hW1]; simp [hs0]
  obtain ⟨l, hl⟩ : ∃ l, runesOf (nums s) = l := ⟨_, rfl⟩
  obtain ⟨W2, hW2⟩ : ∃ W, put2 W1 (B + 1) (.int .i64 1) (.int .i64 1) = W := ⟨_, rfl⟩
  have hW2' : (W1.setCell ⟨B + 1, 0, none⟩ (.int .i64 1)).setCell ⟨B + 1, 1, none⟩ (.int .i64 1) = W2 := hW2
  have M2 : TkM w B l 0 [] (.slice none 0 0) W2 := by
    rw [← hW2]
    exact ⟨RowK.nil _ _ _ _, U1.put _ _, V1.hold (put2_else _ _ _ _ _ (by omega)) (by rw [put2_size]; exact Nat.le_refl _), below_put2 g1 (by omega) _ _, by rw [put2_size, hs1]; exact Nat.le_refl _, Nat.le_refl _, Ahead.zero l⟩
  have HM2 := Lib.hid M2
  have HB := Lib.hid hB
  have HENV := Lib.hid env
  have hll := runes_le (nums s)
  rw [nums_length, hl] at hll
  have HLL : Hid (l.length ≤ 40000) := Lib.hid (by omega)
  have HR0 : Hid (runesOf (nums s) = l.drop 0) := Lib.hid (by rw [hl]; rfl)
  have HLB : Hid (∀ z ∈ l, True) := Lib.hid (fun _ _ => trivial)
  have c0 := U1.c0; have c1 := U1.c1; have q0 := U1.q0; have q1 := U1.q1
  have d0 := M2.at_.c0; have d1 := M2.at_.c1
  have hm' : ¬ (40000 : Int) < (s.size : Int) := by omega
  have HM := Lib.hid hm
  rw [hl]
  clear hm V0 g0 V1 U1 g1 M2 hW2 env hll hl
  go_enter Tryz.func30, Tryz.ntmps30
  go_wp2
  clear c0 c1 q0 q1 d0 d1 hW2' hW1 hW0 hs0 hs1 hm' hB
  go_loopw [0, 5] (fun v0 v5 wr => ∃ (i : Nat) (r : ByteArray) (acc : List (TkV × Nat)), v0 = .string r ∧ i ≤ l.length ∧ runesOf (nums r) = l.drop i ∧ r.size ≤ 40000 ∧ TkM w B l i acc v5 wr) (fun v0 _ _ => lenV v0)
  case atStart => exact ⟨0, s, [], rfl, Nat.zero_le _, HR0.out, HM.out, HM2.out⟩
  case round =>
    obtain ⟨i, r, acc, rfl, hi, hr, hrs, hM⟩ := hrel
    have M := Lib.hid hM
    have HR := Lib.hid hr
    have HI := Lib.hid hi
    have HRS := Lib.hid hrs
    have HSP := Lib.hid (spot_bd (l := l) i hi)
    obtain ⟨X, hX⟩ : ∃ X, (spotAt l i).1 = X := ⟨_, rfl⟩
    obtain ⟨Y, hY⟩ : ∃ Y, (spotAt l i).2 = Y := ⟨_, rfl⟩
    have HX := Lib.hid hX
    have HY := Lib.hid hY
    clear hM hr hi hX hY
    by_cases h0 : r.size = 0
    · have hil : Hid (i = l.length) := Lib.hid (by
        have h1 := HR.out
        rw [size_of_runes.mp h0] at h1
        have := congrArg List.length h1
        rw [List.length_drop] at this
        have := HI.out
        simp at *; omega)
      have hre := empty_of h0
      have HF : Hid (tokF l 0 = .ok acc) := Lib.hid (M.out.ahead.fine (tokF_end (by rw [hil.out]; exact Nat.le_refl _)))
      have y0 := M.out.at_.c0
      have y1 := M.out.at_.c1
      rw [HX.out] at y0
      rw [HY.out] at y1
      subst hre
      obtain ⟨g, hg⟩ : ∃ g, wr.heap.size = g := ⟨_, rfl⟩
      obtain ⟨W8, hW8⟩ : ∃ W, wr.alloc (.cells #[.int .i64 0, .string ⟨#[]⟩, .int .u64 0, .int .i64 X, .int .i64 Y] 59) = W := ⟨_, rfl⟩
      have h8 : Below wr.heap.size wr W8 := by rw [← hW8]; exact (Below.refl _ _).alloc (Nat.le_refl _) _
      have CA : Hid (∀ j, j < 5 → W8.cell? ⟨g, j, none⟩ = some ((tkC l (tk0, i)).getD j undef)) := Lib.hid (by rw [← hg]; unfold tkC; rw [HX.out, HY.out]; exact tok_cells (by rw [← hW8]; simp; rfl) (by rw [← hW8]; simp; rfl) (by rw [← hW8]; simp; rfl) (by rw [← hW8]; simp) (by rw [← hW8]; simp))
      have M8 := Lib.hid (M.out.after h8)
      have S8 : Hid (B + 2 ≤ W8.heap.size) := Lib.hid M8.out.size
      have HL6 : Hid ((toksV l acc).length ≤ 1000000) := Lib.hid (by rw [toksV_len]; have := M.out.few; have := HI.out; have := HLL.out; omega)
      clear h8 h0 hrs
      go_wp2_with (at_builtin; (refine wp_rowK (T := 49) (t := 59) (sz := 5) rfl _ _ rfl Tryz.underlying49 info_tok rfl (by decide) (by decide) (B + 2) _ _ rfl M8.out.row g (tkC l (tk0, i)) rfl rfl CA.out (tkC_one _ _) HL6.out S8.out ?_))
      intro v' w' hr' ho' hob
      have R9 : Hid (RowK 59 5 w' (B + 2) v' (toksV l (acc ++ [(tk0, i)]))) := Lib.hid (by rw [toksV_more]; exact hr')
      have V9 := Lib.hid (M8.out.res.hold (ho'.bel.block B (by omega)) ho'.bel.size)
      have G9 : Hid (Below B w w') := Lib.hid (M8.out.bel.trans (ho'.bel.mono (by omega)))
      obtain ⟨c0, c1, c2, q0, q1, q2, s9⟩ := V9.out
      clear hr' ho' hob CA S8
      go_wp2
      refine bodyPost_ret (ptoks_results (x := .int .i64 0) (y := .int .i64 0) (z := .int .i64 0) (u := v') (V9.out.put _ _ _) rfl rfl) rfl ?_
      refine ⟨HB.out ▸ below_put3 G9.out (Nat.le_refl _) _ _ _, Or.inr ⟨acc, v', HF.out, rfl, ?_⟩⟩
      rw [← hil.out, HB.out]
      refine RowK.weaken (R9.out.kept fun k hk => ?_) (Nat.le_add_right B 2)
      have hkn : k ≠ B := fun e => by
        have := (R9.out.lt hk).1
        omega
      rw [sset_else _ _ _ _ _ hkn, sset_else _ _ _ _ _ hkn, sset_else _ _ _ _ _ hkn]
    · have hr0 : 0 < r.size := by omega
      have hil : i < l.length := by
        refine Classical.byContradiction fun hn => h0 (size_of_runes.mpr ?_)
        rw [HR.out, List.drop_of_length_le (by omega)]
      obtain ⟨k, hk⟩ : ∃ k, pieceN (l.drop i) = k := ⟨_, rfl⟩
      have hkb := pieceN_bd (m := l.drop i) (by rw [List.length_drop]; omega)
      rw [hk, List.length_drop] at hkb
      have hfr := front_is (r := r) (k := k) hkb.1 hr0
      obtain ⟨f, hf⟩ : ∃ f, frontS r k = f := ⟨_, rfl⟩
      rw [hf, HR.out] at hfr
      obtain ⟨hf1, hf2, hf3, hf4⟩ := hfr
      have hrest := rest_is r k
      rw [← hf3, HR.out, List.drop_drop] at hrest
      have hp := spiece_any r wr (HENV.out.step (HB.out.symm ▸ M.out.bel)) (by omega) hr0
      unfold GivesFr at hp
      rw [HR.out, hk, hf] at hp
      have hz0 : (runesOf (nums f)).getD 0 0 = l.getD i 0 := by
        rw [hf1, getD_take (by omega), List.getD_eq_getElem?_getD, List.getElem?_drop, List.getD_eq_getElem?_getD]; rfl
      have hsb : (runesOf (nums f)).foldl spotStep (X, Y) = spotAt l (i + k) := by rw [hf1, ← HX.out, ← HY.out]; exact spot_add l i k
      have hb := fun W => sbehind_any f X Y 40001 W (by omega) (by have := HSP.out; rw [HX.out, HY.out] at this; have := HLL.out; omega) (by decide)
      rw [hsb] at hb
      obtain ⟨X2, hX2⟩ : ∃ X, (spotAt l (i + k)).1 = X := ⟨_, rfl⟩
      obtain ⟨Y2, hY2⟩ : ∃ Y, (spotAt l (i + k)).2 = Y := ⟨_, rfl⟩
      rw [hX2, hY2] at hb
      have hgp := fun W => sgap_any f W hf2
      rw [hz0] at hgp
      have hpc := tokF_piece hil
      have hsk := tokF_skip hil
      rw [hk, ← hf1] at hpc
      rw [hk] at hsk
      have hte := toList_empty hr0
      obtain ⟨te1, te2⟩ := hte
      have hFr : (f.size : Int) ≤ (r.size : Int) := by omega
      have HREST := Lib.hid hrest
      have RP := Lib.hid hp
      have RB := Lib.hid hb
      have HX2 := Lib.hid hX2
      have HY2 := Lib.hid hY2
      have HKB := Lib.hid hkb
      have HIL := Lib.hid hil
      have HF2 := Lib.hid hf2
      have HF4 := Lib.hid hf4
      have hv : (runesOf (nums f)).getD 0 0 ≠ 34 → l.getD i 0 ≠ 35 → valG (nums f) = valF (runesOf (nums f)) := fun e34 e35 => by
        have hd0 : (l.drop i).getD 0 0 = l.getD i 0 := by rw [List.getD_eq_getElem?_getD, List.getElem?_drop, List.getD_eq_getElem?_getD]; rfl
        exact piece_val (m := l.drop i) (by rw [List.length_drop]; omega) (by rw [hd0]; exact e35) (by rw [hd0, ← hz0]; exact e34) (nums_byte f) (by rw [hf1, hk])
      have HV := Lib.hid hv
      obtain ⟨z, hz⟩ : ∃ z, l.getD i 0 = z := ⟨_, rfl⟩
      rw [hz] at hgp hpc hsk HV
      obtain ⟨q, hq⟩ : ∃ q, (gapB z || decide (z = 35)) = q := ⟨_, rfl⟩
      rw [hq] at hgp
      have RG := Lib.hid hgp
      clear hk hkb hf hf1 hf3 hrest hp hz0 hsb hb hX2 hY2 hgp hv hz hil hr0 h0 hrs
      cases q with
      | true =>
        have HE : Hid (tokF l i = tokF l (i + k)) := Lib.hid (hsk (by simpa using hq))
        clear hpc hsk hq hf2 hf4
        go_wp2_with (first
          | (go_at_call 49; (with_reducible refine (RP.out).mono ?_); rintro e w1 ⟨rfl, h1⟩; have M1 := Lib.hid (M.out.after h1); clear h1)
          | (go_at_call 50; (with_reducible refine (RG.out _).mono ?_); rintro e w2 ⟨rfl, rfl⟩; have x0 := M1.out.at_.c0; have x1 := M1.out.at_.c1; rw [HX.out] at x0; rw [HY.out] at x1)
          | (go_at_call 52; (with_reducible refine (RB.out _).mono ?_); rintro e w3 ⟨rfl, h3⟩; have M3 := Lib.hid (M1.out.after h3); have y0 := M3.out.at_.c0; have y1 := M3.out.at_.c1; have z0 := M3.out.at_.q0; have z1 := M3.out.at_.q1; clear h3))
        go_roundw
        case rel =>
          refine ⟨i + k, _, acc, rfl, by have := HKB.out; have := HIL.out; omega, HREST.out.1, ?_, ?_⟩
          · have := HREST.out.2
            have := HRS.out
            show (r.extract f.size r.size).size ≤ 40000
            omega
          · have := M3.out.skip HE.out
            rw [HX2.out, HY2.out] at this
            exact this
        case measure =>
          have := HREST.out.2
          have := HF2.out
          have := HF4.out
          show (r.extract f.size r.size).size < r.size
          omega
      | false =>
        have hq2 : gapB z = false ∧ z ≠ 35 := by simpa using hq
        have hpc2 := hpc hq2.1 hq2.2
        obtain ⟨tp, htp⟩ : ∃ p, tokP (runesOf (nums f)) = p := ⟨_, rfl⟩
        obtain ⟨⟨K, T, N⟩, c⟩ := tp
        rw [htp] at hpc2
        have RT : Hid (∀ W, Below w.heap.size w W → Calls Tryz.prog 51 #[.string f] W fun e w' => e = .returned (.tuple #[.agg #[.int .i64 (K : Int), .string (strOfNums T), .int .u64 (N : Int), .int .i64 0, .int .i64 0], .int .i64 c]) ∧ Below W.heap.size W w') := Lib.hid (fun W hbW => by
          have h5 := stoken_any f W (HENV.out.step hbW) (by have := HF4.out; have := HRS.out; omega) HF2.out (fun e34 => HV.out e34 hq2.2)
          rw [htp] at h5
          exact h5)
        obtain ⟨S, hS⟩ : ∃ S, strOfNums T = S := ⟨_, rfl⟩
        rw [hS] at RT
        have HS := Lib.hid hS
        have HPC := Lib.hid hpc2
        clear hpc hsk hq hf2 hf4 hq2 hpc2 htp hS HV
        by_cases hc : c = 0
        · have HE : Hid (tokF l i = (tokF l (i + k)).map (fun L => ((⟨K, T, N⟩ : TkV), i) :: L)) := Lib.hid (by rw [HPC.out]; exact if_pos hc)
          subst hc
          have HL6 : Hid ((toksV l acc).length ≤ 1000000) := Lib.hid (by rw [toksV_len]; have := M.out.few; have := HI.out; have := HLL.out; omega)
          clear HPC
          go_wp2_with (first
            | (go_at_call 49; (with_reducible refine (RP.out).mono ?_); rintro e w1 ⟨rfl, h1⟩; have M1 := Lib.hid (M.out.after h1); clear h1)
            | (go_at_call 50; (with_reducible refine (RG.out _).mono ?_); rintro e w2 ⟨rfl, rfl⟩)
            | (go_at_call 51; (with_reducible refine (RT.out _ (HB.out.symm ▸ M1.out.bel)).mono ?_); rintro e w4 ⟨rfl, h4⟩; have M4 := Lib.hid (M1.out.after h4); clear h4; obtain ⟨g, W5, W6, W7, W8, tm⟩ := tok_made w4 (K : Int) S (N : Int) X Y; have hg0 := tm.g0; have ha5 := tm.a5; have hs6 := tm.s6; have hs7 := tm.s7; have ha8 := tm.a8; have hz7 := tm.z7; have M6 := Lib.hid (M4.out.after tm.b6); have M8 := Lib.hid (M4.out.after tm.b8); have hn1 : ¬ B + 1 = g := (by have := M4.out.size; omega); have hn2 : ¬ g = B + 1 := (fun e => hn1 e.symm); have u0 := M6.out.at_.c0; have u1 := M6.out.at_.c1; rw [HX.out] at u0; rw [HY.out] at u1; have CA : Hid (∀ j, j < 5 → W8.cell? ⟨g + 1, j, none⟩ = some ((tkC l ((⟨K, T, N⟩ : TkV), i)).getD j undef)) := Lib.hid (by unfold tkC; rw [HX.out, HY.out, HS.out]; exact tm.c8); have S8 : Hid (B + 2 ≤ W8.heap.size) := Lib.hid M8.out.size; have d0 := tm.f5.c0; have r0 := tm.f5.q 0; have k0 := tm.f6.c0; have m0 := tm.f6.q 0; have o0 := tm.f7.c0; have p0 := tm.f7.q 0; have d1 := tm.f5.c1; have r1 := tm.f5.q 1; have k1 := tm.f6.c1; have m1 := tm.f6.q 1; have o1 := tm.f7.c1; have p1 := tm.f7.q 1; have d2 := tm.f5.c2; have r2 := tm.f5.q 2; have k2 := tm.f6.c2; have m2 := tm.f6.q 2; have o2 := tm.f7.c2; have p2 := tm.f7.q 2; have d3 := tm.f5.c3; have r3 := tm.f5.q 3; have k3 := tm.f6.c3; have m3 := tm.f6.q 3; have o3 := tm.f7.c3; have p3 := tm.f7.q 3; have d4 := tm.f5.c4; have r4 := tm.f5.q 4; have k4 := tm.f6.c4; have m4 := tm.f6.q 4; have o4 := tm.f7.c4; have p4 := tm.f7.q 4; clear tm)
            | (at_builtin; (refine wp_rowK (T := 49) (t := 59) (sz := 5) rfl _ _ rfl Tryz.underlying49 info_tok rfl (by decide) (by decide) (B + 2) _ _ rfl M8.out.row (g + 1) (tkC l ((⟨K, T, N⟩ : TkV), i)) rfl rfl CA.out (tkC_one _ _) HL6.out S8.out ?_)))
          intro v' w' hr' ho' hob
          have R9 : Hid (RowK 59 5 w' (B + 2) v' (toksV l (acc ++ [((⟨K, T, N⟩ : TkV), i)]))) := Lib.hid (by rw [toksV_more]; exact hr')
          have HO := Lib.hid ho'.bel
          have A9 : Hid (Var2 w' (B + 1) (.int .i64 X) (.int .i64 Y)) := Lib.hid (by have := M8.out.at_.hold (HO.out.block (B + 1) (by omega)) HO.out.size; rw [HX.out, HY.out] at this; exact this)
          have x0 := A9.out.c0
          have x1 := A9.out.c1
          clear hr' ho' hob CA S8 hg0 ha5 hs6 hs7 ha8 hz7 u0 u1 d0 r0 k0 m0 o0 p0 d1 r1 k1 m1 o1 p1 d2 r2 k2 m2 o2 p2 d3 r3 k3 m3 o3 p3 d4 r4 k4 m4 o4 p4
          go_wp2_with (go_at_call 52; (with_reducible refine (RB.out _).mono ?_); rintro e w9 ⟨rfl, h9⟩; have H9 := Lib.hid h9; have A10 := A9.out.after h9; have y0 := A10.c0; have y1 := A10.c1; have z0 := A10.q0; have z1 := A10.q1; clear h9 A10)
          go_roundw
          case rel =>
            refine ⟨i + k, _, acc ++ [((⟨K, T, N⟩ : TkV), i)], rfl, by have := HKB.out; have := HIL.out; omega, HREST.out.1, ?_, ?_⟩
            · have := HREST.out.2
              have := HRS.out
              show (r.extract f.size r.size).size ≤ 40000
              omega
            · have := M8.out.more R9.out HO.out H9.out HKB.out.1 HE.out
              rw [HX2.out, HY2.out] at this
              exact this
          case measure =>
            have := HREST.out.2
            have := HF2.out
            have := HF4.out
            show (r.extract f.size r.size).size < r.size
            omega
        · have HE : Hid (tokF l 0 = .error (i, c)) := Lib.hid (M.out.ahead.bad (by rw [HPC.out]; exact if_neg hc))
          have hcb : (c != 0) = true := by simpa using hc
          clear HPC hc
          go_wp2_with (first
            | (go_at_call 49; (with_reducible refine (RP.out).mono ?_); rintro e w1 ⟨rfl, h1⟩; have M1 := Lib.hid (M.out.after h1); clear h1)
            | (go_at_call 50; (with_reducible refine (RG.out _).mono ?_); rintro e w2 ⟨rfl, rfl⟩)
            | (go_at_call 51; (with_reducible refine (RT.out _ (HB.out.symm ▸ M1.out.bel)).mono ?_); rintro e w4 ⟨rfl, h4⟩; have M4 := Lib.hid (M1.out.after h4); clear h4; obtain ⟨g, W5, W6, W7, W8, tm⟩ := tok_made w4 (K : Int) S (N : Int) X Y; have hg0 := tm.g0; have ha5 := tm.a5; have hs6 := tm.s6; have M6 := Lib.hid (M4.out.after tm.b6); have hn1 : ¬ B + 1 = g := (by have := M4.out.size; omega); have hn2 : ¬ g = B + 1 := (fun e => hn1 e.symm); have u0 := M6.out.at_.c0; have u1 := M6.out.at_.c1; rw [HX.out] at u0; rw [HY.out] at u1; have e0 := M6.out.res.c0; have e1 := M6.out.res.c1; have e2 := M6.out.res.c2; have f0 := M6.out.res.q0; have f1 := M6.out.res.q1; have f2 := M6.out.res.q2; have d0 := tm.f5.c0; have r0 := tm.f5.q 0; have d1 := tm.f5.c1; have r1 := tm.f5.q 1; have d2 := tm.f5.c2; have r2 := tm.f5.q 2; have d3 := tm.f5.c3; have r3 := tm.f5.q 3; have d4 := tm.f5.c4; have r4 := tm.f5.q 4; clear tm))
          clear hg0 ha5 hs6 d0 r0 d1 r1 d2 r2 d3 r3 d4 r4 hn1 hn2
          go_region
          go_wp2
          refine bodyPost_ret (ptoks_results (x := .int .i64 c) (y := .int .i64 X) (z := .int .i64 Y) (u := .slice none 0 0) ((M6.out.res.put _ _ _).after ((Below.refl _ _).drew)) rfl rfl) rfl ?_
          exact ⟨HB.out ▸ (below_put3 M6.out.bel (Nat.le_refl _) _ _ _).drew, Or.inl ⟨i, c, HE.out, by rw [HX.out, HY.out]⟩⟩

end Go.Proofs.YtmgimkokmlcllaaGreatDoor
