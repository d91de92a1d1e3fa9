/-
  The document's Parse, walked.
-/
import Derived.Test.YthfmllgflnideaaGreatDoorPkTrez
import Derived.Deep.QuietTactic
import Derived.BigQuiet
namespace Go.Proofs.YthfmllgflnideaaGreatDoor
open Go.RowKit

theorem RowK.made {t : TypeId} {sz : Nat} (w : World) (base g : Nat) (cs : Array Value) (hs : cs.size = sz) (hg : g = w.heap.size) (hb : base ≤ g) (h1 : ∀ y ∈ cs.toList, y.oneCell' = true) : RowK t sz (w.alloc (.cells cs t)) base (.slice (some ⟨g, 0, none⟩) 1 1) [cs.toList] := by
  subst hg
  refine ⟨?_, fun u hu => ?_, fun u hu => ?_⟩
  · have := World.ownsRow_lit (e := t) (size := sz) w cs 1 hb (by decide) (by omega)
    simpa using this
  · rw [List.mem_singleton.mp hu]; simpa using hs
  · rw [List.mem_singleton.mp hu]; exact h1
set_option maxRecDepth 100000 in
theorem sparse_results {W : World} {g : Nat} {x y z u : Value} {tmps : Array Value} (h : Var3 W g x y z) (h2 : tmps.getD 3 undef = .pointer (some ⟨g, 0, none⟩)) (h3 : tmps.getD 2 undef = u) : (results Tryz.f7 tmps).run Tryz.prog W = .ok (.tuple #[u, .agg #[x, y, z]]) W := by
  have e : (asAddr (Value.pointer (some ⟨g, 0, none⟩))).run Tryz.prog W = .ok ⟨g, 0, none⟩ W := rfl
  have hr : Tryz.f7.results = #[.tmp 2, .cell 3 28] := rfl
  have q2 : tmps[3]?.getD undef = .pointer (some ⟨g, 0, none⟩) := by simpa using h2
  have q3 : tmps[2]?.getD undef = u := by simpa using h3
  simp only [results, hr]
  simp [Sem.run_bind, Result.andThen, q2, q3, e, load_fault h]

set_option maxRecDepth 100000 in
set_option maxHeartbeats 8000000 in
/-- A source whose tokens are wrong. -/
theorem sparse_bad (s : ByteArray) (w : World) (c x y : Int) (hc : c ≠ 0) (hT : ∀ W, Calls Tryz.prog 9 #[.string s] W fun e w' => e = .returned (.tuple #[.slice none 0 0, .agg #[.int .i64 c, .int .i64 x, .int .i64 y]]) ∧ Below W.heap.size W w') :
    Calls Tryz.prog 7 #[.string s] w fun e w' => e = .returned (.tuple #[.slice none 0 0, .agg #[.int .i64 c, .int .i64 x, .int .i64 y]]) ∧ Below w.heap.size w w' := by
  obtain ⟨B, hB⟩ : ∃ B, w.heap.size = B := ⟨_, rfl⟩
  obtain ⟨W0, hW0⟩ : ∃ W, w.alloc (.cells #[.int .i64 0, .int .i64 0, .int .i64 0] 28) = W := ⟨_, rfl⟩
  have V0 : Var3 W0 B (.int .i64 0) (.int .i64 0) (.int .i64 0) := by rw [← hW0]; exact Var3.fresh _ _ _ _ _ _ hB.symm
  have g0 : Below B w W0 := by rw [← hW0, ← hB]; exact (Below.refl _ _).alloc (Nat.le_refl _) _
  have hs0 : W0.heap.size = B + 1 := by rw [← hW0]; simp [hB]
  have HT := Lib.hid (hT W0)
  have HV0 := Lib.hid V0
  have HG0 := Lib.hid g0
  have HB := Lib.hid hB
  have HS0 := Lib.hid hs0
  have hcb : (c != 0) = true := by simpa using hc
  clear hT hc V0 g0 hs0
  go_enter Tryz.func7, Tryz.ntmps7
  go_wp2_with (go_at_call 9; (with_reducible refine (HT.out).mono ?_); rintro e w2 ⟨rfl, g2⟩; have G2 := Lib.hid (HG0.out.trans (g2.mono (by have := HS0.out; omega))); obtain ⟨f2, U2, U3, fm2⟩ := fault_var w2 c x y; have hf2 := fm2.g0; have ha2 := fm2.a2; have hs2 := fm2.s3; have c0 := fm2.v2.c0; have q0 := fm2.v2.q0; have d0 := fm2.v3.c0; have c1 := fm2.v2.c1; have q1 := fm2.v2.q1; have d1 := fm2.v3.c1; have c2 := fm2.v2.c2; have q2 := fm2.v2.q2; have d2 := fm2.v3.c2; have HV3 := Lib.hid ((HV0.out.after g2).after fm2.bel); have r0 := HV3.out.c0; have r1 := HV3.out.c1; have r2 := HV3.out.c2; have rq0 := HV3.out.q0; have rq1 := HV3.out.q1; have rq2 := HV3.out.q2; have HG3 := Lib.hid (G2.out.trans (fm2.bel.mono (by have := HS0.out; have := g2.size; omega))); clear g2 fm2)
  go_region
  go_wp2
  refine bodyPost_ret (sparse_results (x := .int .i64 c) (y := .int .i64 x) (z := .int .i64 y) (u := .slice none 0 0) ((HV3.out.put _ _ _).after ((Below.refl _ _).drew)) rfl rfl) rfl ?_
  exact ⟨rfl, HB.out ▸ (below_put3 HG3.out (Nat.le_refl _) _ _ _).drew⟩

/-- The variables ahead of the loop. -/
structure SMade (w2 : World) (f2 : Nat) (U3 W4 W5 W6 : World) : Prop where
  z3 : U3.heap.size = f2 + 1
  a4 : U3.alloc (.cells #[.string ⟨#[]⟩, .slice none 0 0, .bool false, .slice none 0 0, .int .i64 0, .int .i64 0, .slice none 0 0] 46) = W4
  z4 : W4.heap.size = f2 + 2
  a5 : W4.alloc (.cells #[.string ⟨#[]⟩, .slice none 0 0, .bool false, .slice none 0 0, .int .i64 0, .int .i64 0] 41) = W5
  s6 : ((((((W5.setCell ⟨f2 + 2, 0, none⟩ (.string ⟨#[]⟩)).setCell ⟨f2 + 2, 1, none⟩ (.slice none 0 0)).setCell ⟨f2 + 2, 2, none⟩ (.bool false)).setCell ⟨f2 + 2, 3, none⟩ (.slice none 0 0)).setCell ⟨f2 + 2, 4, none⟩ (.int .i64 0)).setCell ⟨f2 + 2, 5, none⟩ (.int .i64 0)) = W6
  f5 : Var6 W5 (f2 + 2) (.string ⟨#[]⟩) (.slice none 0 0) (.bool false) (.slice none 0 0) (.int .i64 0) (.int .i64 0)
  x6 : Var6 W6 (f2 + 2) (.string ⟨#[]⟩) (.slice none 0 0) (.bool false) (.slice none 0 0) (.int .i64 0) (.int .i64 0)
  z6 : W6.heap.size = f2 + 3
  k6 : Below U3.heap.size U3 W6
  dm : DM (f2 + 1) (fun _ => False) (f2 + 1) 1 [⟨{}, [], .slice none 0 0, .slice none 0 0, false⟩] W6
theorem smade (w2 : World) (f2 : Nat) (U3 : World) (hz : U3.heap.size = f2 + 1) : ∃ W4 W5 W6, SMade w2 f2 U3 W4 W5 W6 := by
  obtain ⟨W4, hW4⟩ : ∃ W, U3.alloc (.cells #[.string ⟨#[]⟩, .slice none 0 0, .bool false, .slice none 0 0, .int .i64 0, .int .i64 0, .slice none 0 0] 46) = W := ⟨_, rfl⟩
  have hz4 : W4.heap.size = f2 + 2 := by rw [← hW4]; simp [hz]
  have R4 : RowK 46 7 W4 (f2 + 1) (.slice (some ⟨f2 + 1, 0, none⟩) 1 1) [[.string ⟨#[]⟩, .slice none 0 0, .bool false, .slice none 0 0, .int .i64 0, .int .i64 0, .slice none 0 0]] := by
    rw [← hW4]
    refine RowK.made U3 (f2 + 1) (f2 + 1) #[.string ⟨#[]⟩, .slice none 0 0, .bool false, .slice none 0 0, .int .i64 0, .int .i64 0, .slice none 0 0] rfl hz.symm (Nat.le_refl _) (fun y hy => ?_)
    simp only [List.mem_cons, List.not_mem_nil, or_false] at hy
    rcases hy with rfl | rfl | rfl | rfl | rfl | rfl | rfl <;> rfl
  have b4 : Below U3.heap.size U3 W4 := by rw [← hW4]; exact (Below.refl _ _).alloc (Nat.le_refl _) _
  obtain ⟨W5, hW5⟩ : ∃ W, W4.alloc (.cells #[.string ⟨#[]⟩, .slice none 0 0, .bool false, .slice none 0 0, .int .i64 0, .int .i64 0] 41) = W := ⟨_, rfl⟩
  have V5 : Var6 W5 (f2 + 2) (.string ⟨#[]⟩) (.slice none 0 0) (.bool false) (.slice none 0 0) (.int .i64 0) (.int .i64 0) := by rw [← hW5]; exact Var6.fresh _ _ _ _ _ _ _ _ _ hz4.symm
  have b5 : Below W4.heap.size W4 W5 := by rw [← hW5]; exact (Below.refl _ _).alloc (Nat.le_refl _) _
  have hz5 : W5.heap.size = f2 + 3 := by rw [← hW5]; simp [hz4]
  have b6 : Below W4.heap.size W4 (put6 W5 (f2 + 2) (.string ⟨#[]⟩) (.slice none 0 0) (.bool false) (.slice none 0 0) (.int .i64 0) (.int .i64 0)) := below_put6 b5 (by omega) _ _ _ _ _ _
  refine ⟨W4, W5, _, hz, hW4, hz4, hW5, rfl, V5, V5.put _ _ _ _ _ _, by rw [← hz5]; exact put6_size W5 _ _ _ _ _ _ _, b4.trans (b6.mono b4.size), ?_⟩
  refine ⟨R4.below b6, by omega, ⟨WordsIs.none' _ _ _ _, ListIs.nil _ _ _ _, fun h => (h rfl).elim, trivial⟩, fun b h => h.elim, ?_, List.pairwise_cons.mpr ⟨(fun x hx => by cases hx), List.Pairwise.nil⟩, ?_⟩
  · intro e he
    rw [List.mem_singleton.mp he]
    intro h; cases h
  · have := put6_size W5 (f2 + 2) (.string ⟨#[]⟩) (.slice none 0 0) (.bool false) (.slice none 0 0) (.int .i64 0) (.int .i64 0)
    show f2 + 1 + 2 ≤ (put6 W5 (f2 + 2) _ _ _ _ _ _).heap.size
    omega

/-- Values by number. -/
def TLz (l : List Value) : Nat → Value → World → Prop := fun k v _ => v = l.getD k undef
def TS (l : List Value) : Nat → Value → World → Prop := fun k v _ => (k < 7 ∨ k = 11 ∨ k = 12) → v = l.getD k undef
/-- What is known at the head of a round. -/
structure SM (T : List Tk3) (g0 : Nat) (wz : World) (S : Nat → Prop) (g cap : Nat) (E : List En) (o : Option Hd) (n i : Nat) (wr : World) : Prop where
  dm : DM g0 S g cap E wr
  xm : XM S (g0 + 1) o wr
  bel : Below g0 wz wr
  run : trF T [({}, [])] 0 none = trF (T.drop i) (E.map En.st) n o
  few : n ≤ 300
  deep : 1 ≤ E.length ∧ E.length ≤ 5 ∧ (o ≠ none → E.length ≤ 4)
  lens : ∀ e ∈ E, e.l.length ≤ i
theorem SM.after {T : List Tk3} {g0 : Nat} {wz : World} {S : Nat → Prop} {g cap : Nat} {E : List En} {o : Option Hd} {n i : Nat} {wr w' : World} (h : SM T g0 wz S g cap E o n i wr) (hb : Below wr.heap.size wr w') : SM T g0 wz S g cap E o n i w' :=
  ⟨h.dm.after hb, h.xm.keep (fun _ h => h) (fun b hb2 => hb.block b (h.dm.sin b hb2).2.1) (hb.block _ h.xm.lt) hb.size, h.bel.trans (hb.mono (by have := h.dm.size; omega)), h.run, h.few, h.deep, h.lens⟩
/-- A place in a new variable. -/
structure AtVar (w : World) (g : Nat) (x y : Int) (W5 W6 : World) : Prop where
  g0 : w.heap.size = g
  a5 : w.alloc (.cells #[.int .i64 0, .int .i64 0] 26) = W5
  s6 : (W5.setCell ⟨g, 0, none⟩ (.int .i64 x)).setCell ⟨g, 1, none⟩ (.int .i64 y) = W6
  f5 : Var2 W5 g (.int .i64 0) (.int .i64 0)
  f6 : Var2 W6 g (.int .i64 x) (.int .i64 y)
  b6 : Below w.heap.size w W6
  z6 : W6.heap.size = g + 1
theorem at_var (w : World) (x y : Int) : ∃ g W5 W6, AtVar w g x y W5 W6 := by
  obtain ⟨g, hg⟩ : ∃ g, w.heap.size = g := ⟨_, rfl⟩
  obtain ⟨W5, hW5⟩ : ∃ W, w.alloc (.cells #[.int .i64 0, .int .i64 0] 26) = W := ⟨_, rfl⟩
  have F5 : Var2 W5 g (.int .i64 0) (.int .i64 0) := by rw [← hW5]; exact Var2.fresh _ _ _ _ _ hg.symm
  have h5 : Below w.heap.size w W5 := by rw [← hW5]; exact (Below.refl _ _).alloc (Nat.le_refl _) _
  exact ⟨g, W5, _, hg, hW5, rfl, F5, F5.put _ _, below_put2 h5 (by omega) _ _, by
    have := put2_size W5 g (.int .i64 x) (.int .i64 y)
    have e : W5.heap.size = g + 1 := by rw [← hW5]; simp [hg]
    rw [← e]; exact this⟩
theorem wrap64_small (r : Nat) (h : r ≤ 5) : wrap64 (r : Int) = (r : Int) := by unfold wrap64; omega
theorem wrapi_small (r : Nat) (h : r ≤ 5) : IntKind.i64.wrap (r : Int) = (r : Int) := by rw [IntKind.wrap_i64]; omega
theorem open_cells (w : World) (e : En) : ∀ j, j < 7 → (w.alloc (.cells #[.string e.h.name, e.wv, .bool e.bk, .slice none 0 0, .int .i64 e.h.a, .int .i64 e.h.b, e.lv] 46)).cell? ⟨w.heap.size, j, none⟩ = some (e.cells.getD j undef) := fun j hj => by
  have : j = 0 ∨ j = 1 ∨ j = 2 ∨ j = 3 ∨ j = 4 ∨ j = 5 ∨ j = 6 := by omega
  rcases this with rfl | rfl | rfl | rfl | rfl | rfl | rfl <;> simp [En.cells]
theorem open_one (e : En) (h1 : e.wv.oneCell' = true) (h2 : e.lv.oneCell' = true) : ∀ u ∈ e.cells, u.oneCell' = true := fun u hu => by
  simp only [En.cells, List.mem_cons, List.not_mem_nil, or_false] at hu
  rcases hu with rfl | rfl | rfl | rfl | rfl | rfl | rfl
  · rfl
  · exact h1
  · rfl
  · rfl
  · rfl
  · rfl
  · exact h2

set_option maxRecDepth 100000 in
set_option maxHeartbeats 32000000 in
/-- A source whose tokens are right. -/
theorem sparse_toks (s : ByteArray) (w : World) (T : List Tk3) (hlen : T.length ≤ 1000000) (hT : ∀ W, Calls Tryz.prog 9 #[.string s] W fun e w' => ∃ v, e = .returned (.tuple #[v, .agg #[.int .i64 0, .int .i64 0, .int .i64 0]]) ∧ RowK 39 5 w' W.heap.size v (T.map tkV) ∧ Below W.heap.size W w') :
    Calls Tryz.prog 7 #[.string s] w (GivesTre (trF T [({}, [])] 0 none) w) := by
  obtain ⟨B, hB⟩ : ∃ B, w.heap.size = B := ⟨_, rfl⟩
  obtain ⟨W0, hW0⟩ : ∃ W, w.alloc (.cells #[.int .i64 0, .int .i64 0, .int .i64 0] 28) = W := ⟨_, rfl⟩
  have V0 : Var3 W0 B (.int .i64 0) (.int .i64 0) (.int .i64 0) := by rw [← hW0]; exact Var3.fresh _ _ _ _ _ _ hB.symm
  have g0 : Below B w W0 := by rw [← hW0, ← hB]; exact (Below.refl _ _).alloc (Nat.le_refl _) _
  have hs0 : W0.heap.size = B + 1 := by rw [← hW0]; simp [hB]
  have HT := Lib.hid (hT W0)
  have HV0 := Lib.hid V0
  have HG0 := Lib.hid g0
  have HB := Lib.hid hB
  have HS0 := Lib.hid hs0
  clear hT V0 g0 hs0
  go_enter Tryz.func7, Tryz.ntmps7
  go_wp2_with (go_at_call 9; (with_reducible refine (HT.out).mono ?_))
  rintro e w2 ⟨v, rfl, r2, g2⟩
  obtain ⟨f2, U2, U3, fm2⟩ := fault_var w2 0 0 0
  have hf2 := fm2.g0; have ha2 := fm2.a2; have hs2 := fm2.s3; have c0 := fm2.v2.c0; have q0 := fm2.v2.q0; have d0 := fm2.v3.c0; have c1 := fm2.v2.c1; have q1 := fm2.v2.q1; have d1 := fm2.v3.c1; have c2 := fm2.v2.c2; have q2 := fm2.v2.q2; have d2 := fm2.v3.c2
  have hz3 : U3.heap.size = f2 + 1 := by rw [← hs2, ← ha2]; simp [hf2]
  obtain ⟨W4, W5, W6, sm⟩ := smade w2 f2 U3 hz3
  have ha4 := sm.a4; have hz4 := sm.z4; have ha5 := sm.a5; have hs6 := sm.s6
  have y0 := sm.f5.c0; have yq0 := sm.f5.q 0; have y1 := sm.f5.c1; have yq1 := sm.f5.q 1; have y2 := sm.f5.c2; have yq2 := sm.f5.q 2; have y3 := sm.f5.c3; have yq3 := sm.f5.q 3; have y4 := sm.f5.c4; have yq4 := sm.f5.q 4; have y5 := sm.f5.c5; have yq5 := sm.f5.q 5
  have HSD := Lib.hid sm
  obtain ⟨av, cv, rfl⟩ := r2.size
  obtain ⟨N, hN⟩ : ∃ N, T.length = N := ⟨_, rfl⟩
  have HN := Lib.hid hN
  have hle : B + 1 ≤ f2 := by have := g2.size; have := HS0.out; omega
  have R6 := (r2.below fm2.bel).below sm.k6
  have HTK : Hid (∀ W, Below (f2 + 1) W6 W → WordsIs W (fun b => b < f2 + 1) (.slice av N cv) T) := Lib.hid (fun W hW => by
    have h1 : RowK 39 5 W6 W0.heap.size (.slice av (T.map tkV).length cv) (T.map tkV) := R6
    rw [List.length_map, hN] at h1
    exact RowK.words (h1.kept (fun b hb => hW.block b (by have := (r2.lt (b := b) (by rw [List.length_map, hN]; exact hb)).2; omega))) (fun b hb => by have := (r2.lt (b := b) (by rw [List.length_map, hN]; exact hb)).2; show b < f2 + 1; omega))
  have GW : Below B w W6 := ((HG0.out.trans (g2.mono (by have := HS0.out; omega))).trans (fm2.bel.mono (by omega))).trans (sm.k6.mono (by omega))
  have HGW := Lib.hid GW
  have HVR : Hid (∀ W, Below (f2 + 1) W6 W → Var3 W B (.int .i64 0) (.int .i64 0) (.int .i64 0)) := Lib.hid (fun W hW => (((HV0.out.after g2).after fm2.bel).after sm.k6).hold (hW.block B (by omega)) hW.size)
  have HRB : Hid (B ≤ B ∧ B + 1 ≤ f2) := Lib.hid ⟨Nat.le_refl _, hle⟩
  rw [List.length_map, hN]
  have hN6 : N ≤ 1000000 := by omega
  clear r2 g2 fm2 sm R6 GW hN hlen hle
  go_wp2
  clear hz3 hf2 ha2 hs2 c0 q0 d0 c1 q1 d1 c2 q2 d2 ha4 hz4 ha5 hs6 y0 yq0 y1 yq1 y2 yq2 y3 yq3 y4 yq4 y5 yq5
  go_loopw [6, 7, 8, 10] (fun v6 v7 v8 v10 wr => ∃ (i n : Nat) (E : List En) (o : Option Hd) (S : Nat → Prop) (g cap : Nat), i ≤ N ∧ v6 = .slice (some ⟨g, 0, none⟩) E.length cap ∧ v7 = .int .i64 (n : Int) ∧ v8 = .bool o.isSome ∧ v10 = .int .i64 (i : Int) ∧ SM T (f2 + 1) W6 S g cap E o n i wr) (fun _ _ _ v10 _ => N - (intOf v10).toNat)
  case atStart => exact ⟨0, 0, [⟨{}, [], .slice none 0 0, .slice none 0 0, false⟩], none, _, f2 + 1, 1, Nat.zero_le _, rfl, rfl, rfl, rfl, ⟨HSD.out.dm, ⟨_, _, _, _, _, _, HSD.out.x6⟩, Below.refl _ _, by simp [En.st], Nat.zero_le _, ⟨by simp, by simp, fun h => (h rfl).elim⟩, fun e he => by rw [List.mem_singleton.mp he]; exact Nat.le_refl _⟩⟩
  case round =>
    obtain ⟨i, n, E, o, S, g, cap, hi, rfl, rfl, rfl, rfl, hs⟩ := hrel
    have HSM := Lib.hid hs
    clear hs
    by_cases hin : i < N
    · obtain ⟨f, R, rfl⟩ : ∃ f R, E = f :: R := by
        cases E with
        | nil => have := HSM.out.deep.1; simp at this
        | cons f R => exact ⟨f, R, rfl⟩
      have htl := (HTK.out wr HSM.out.bel)
      obtain ⟨av', cv', hve, hvc, hvcell⟩ := htl
      simp only [Value.slice.injEq] at hve
      obtain ⟨rfl, hve2, rfl⟩ := hve
      obtain ⟨tb, toff, rfl, htb, e0, e1, e2, e3, e4⟩ := hvcell i (by rw [HN.out]; exact hin)
      obtain ⟨t, ht⟩ : ∃ t, T.getD i {} = t := ⟨_, rfl⟩
      rw [ht] at e0 e1 e2 e3 e4
      have htb' : tb < f2 + 1 := htb
      have HTC : Hid (∀ W, Below (f2 + 1) W6 W → W.cell? ⟨tb, toff + i * 5, none⟩ = some (.int .i64 t.k) ∧ W.cell? ⟨tb, toff + i * 5 + 1, none⟩ = some (.string t.s) ∧ W.cell? ⟨tb, toff + i * 5 + 2, none⟩ = some (.int .u64 t.n) ∧ W.cell? ⟨tb, toff + i * 5 + 3, none⟩ = some (.int .i64 t.a) ∧ W.cell? ⟨tb, toff + i * 5 + 4, none⟩ = some (.int .i64 t.b)) := Lib.hid (fun W hW => by
        have k : W.heap[tb]? = wr.heap[tb]? := (hW.block tb htb').trans (HSM.out.bel.block tb htb').symm
        exact ⟨(World.cell?_of_block (a := ⟨tb, toff + i * 5, none⟩) k).trans e0, (World.cell?_of_block (a := ⟨tb, toff + i * 5 + 1, none⟩) k).trans e1, (World.cell?_of_block (a := ⟨tb, toff + i * 5 + 2, none⟩) k).trans e2, (World.cell?_of_block (a := ⟨tb, toff + i * 5 + 3, none⟩) k).trans e3, (World.cell?_of_block (a := ⟨tb, toff + i * 5 + 4, none⟩) k).trans e4⟩)
      have HDR : Hid (T.drop i = t :: T.drop (i + 1)) := Lib.hid (by
        rw [List.drop_eq_getElem_cons (by rw [HN.out]; exact hin), ← ht, List.getD_eq_getElem?_getD, List.getElem?_eq_getElem (by rw [HN.out]; exact hin)]; rfl)
      obtain ⟨r, hr⟩ : ∃ r, R.length = r := ⟨_, rfl⟩
      have HRL := Lib.hid hr
      have hfl : (f :: R).length = r + 1 := by rw [List.length_cons, hr]
      have htop : IntKind.i64.wrap (((r + 1 : Nat) : Int) - 1) = (r : Int) := by have := HSM.out.deep.2.1; rw [IntKind.wrap_i64]; omega
      have hr5 : r ≤ 5 := by have := HSM.out.deep.2.1; omega
      have htop2 : wrap64 (r : Int) = (r : Int) := wrap64_small r hr5
      have htop3 : IntKind.i64.wrap (r : Int) = (r : Int) := wrapi_small r hr5
      obtain ⟨ab, A5, A6, am⟩ := at_var wr t.a t.b
      have hab := am.g0; have haa := am.a5; have has := am.s6
      have z0 := am.f5.c0; have z1 := am.f5.c1; have zq0 := am.f5.q0; have zq1 := am.f5.q1
      have HSM6 := Lib.hid (HSM.out.after am.b6)
      have HA6 := Lib.hid am.f6
      have HAB := Lib.hid am.b6
      have a0 := am.f6.c0; have a1 := am.f6.c1
      have HR6 := Lib.hid (HVR.out A6 HSM6.out.bel)
      have HW6 := Lib.hid (HGW.out.trans (HSM6.out.bel.mono (by have := HRB.out.2; omega)))
      have r0 := HR6.out.c0; have r1 := HR6.out.c1; have r2 := HR6.out.c2; have rq0 := HR6.out.q0; have rq1 := HR6.out.q1; have rq2 := HR6.out.q2
      obtain ⟨t0, t1, t2, t3, t4⟩ := HTC.out A6 HSM6.out.bel
      rw [hfl]
      have hi2 : IntKind.i64.wrap ((i : Int) + 1) = ((i + 1 : Nat) : Int) := by rw [IntKind.wrap_i64]; omega
      clear am ht hvc hvcell hve2 htb htb' hr hfl
      cases o with
      | some hd =>
        have hsome : (some hd : Option Hd).isSome = true := rfl
        rw [hsome]
        by_cases h9 : t.k = 9
        · have h9b : (t.k == 9) = true := by simpa using h9
          obtain ⟨ax, nx, cx, hvx, hwx⟩ := HSM6.out.xm
          have HRUN : Hid (trF T [({}, [])] 0 none = trF (T.drop (i + 1)) (pushS (hd.it false []) ((f :: R).map En.st)) n none) := Lib.hid (by rw [HSM6.out.run, HDR.out, trF, if_pos h9])
          have HVX : Hid (Var6 A6 (f2 + 2) (.string hd.name) (.slice ax nx cx) (.bool false) (.slice none 0 0) (.int .i64 hd.a) (.int .i64 hd.b)) := Lib.hid hvx
          have HWX := Lib.hid hwx
          have hdm := HSM6.out.dm
          have hlr := hdm.ents.2.1.row
          obtain ⟨al, cl, hlv⟩ := hlr.size
          rw [List.length_map] at hlv
          rw [hlv] at hlr
          have HLV := Lib.hid hlv
          have HRO := Lib.hid hlr
          have HDM := Lib.hid hdm
          have HL6 : Hid ((f.l.map ItV.cells).length ≤ 1000000) := Lib.hid (by rw [List.length_map]; have := HSM6.out.lens f (List.mem_cons_self ..); omega)
          have HZO : Hid (∀ u ∈ zItem, u.oneCell' = true) := Lib.hid (by decide)
          have HZA : Hid (f2 + 1 ≤ A6.heap.size) := Lib.hid (by have := hdm.size; omega)
          have HST : Hid (∀ W, Below A6.heap.size A6 W → W.cell? ⟨g, r * 7 + 6, none⟩ = some (.slice al f.l.length cl)) := Lib.hid (fun W hb => by
            have k := (hdm.row.below hb).at r 6 (by rw [stkV_len, List.length_cons, HRL.out]; exact Nat.lt_succ_self _) (show 6 < 7 by decide)
            rw [← HRL.out, stkV_top] at k
            rw [← HRL.out, ← hlv]; exact k)
          have HIR : Hid ((r : Int) < ((r + 1 : Nat) : Int)) := Lib.hid (by omega)
          have HCP : Hid (0 ≤ (r : Int)) := Lib.hid (by omega)
          clear h9 hvx hwx hdm hlr hlv
          go_wp2
          refine wp_region_mixv 14 (TS [.slice (some ⟨g, 0, none⟩) (r + 1) cap, .int .i64 (r : Int), .pointer (some ⟨g, r * 7, none⟩), .pointer (some ⟨g, r * 7 + 6, none⟩), .slice al f.l.length cl, .agg #[.string hd.name, .slice ax nx cx, .bool false, .slice none 0 0, .int .i64 hd.a, .int .i64 hd.b], .int .i64 (f.l.length : Int), undef, undef, undef, undef, .pointer (some ⟨g, r * 7, none⟩), .pointer (some ⟨g, r * 7 + 6, none⟩), undef]) (JP A6 (f2 + 1) g cap r f R [.string hd.name, .slice ax nx cx, .bool false, .slice none 0 0, .int .i64 hd.a, .int .i64 hd.b]) (by kernel_rfl) (by kernel_rfl) (fun u => JP.start) ?_ ?_
          · simp only [List.take_succ_cons, List.take_zero]
            refine (StepsU.cons ?_ (StepsU.cons ?_ (StepsU.cons ?_ (StepsU.cons ?_ (StepsU.cons ?_ (StepsU.cons ?_ (StepsU.cons ?_ (StepsU.cons ?_ (StepsU.cons ?_ (StepsU.cons ?_ (StepsU.cons ?_ (StepsU.cons ?_ (StepsU.cons ?_ (StepsU.cons ?_ StepsU.nil))))))))))))))
            · intro u W L hL hJ hD
              simp only [putAll, Act.put, List.setIfInBounds_toArray, List.set_cons_succ, List.set_cons_zero, Nat.zero_add, Nat.reduceAdd]
              have hj1 := hJ.light (j := 0) (by decide) (by decide) (by decide) (by decide) (by decide)
              go_wp2
              first | exact fun _ => rfl | exact ⟨fun _ => rfl, hj1 _, fun j v' _ _ h => h⟩ | exact ⟨_, rfl, fun _ => rfl, hj1 _, fun j v' _ _ h => h⟩ | exact ⟨fun _ => rfl, fun j v' _ _ h => h⟩ | exact hj1 _ | exact ⟨fun _ => rfl, hj1 _⟩
            · intro u W L hL hJ hD
              simp only [putAll, Act.put, List.setIfInBounds_toArray, List.set_cons_succ, List.set_cons_zero, Nat.zero_add, Nat.reduceAdd]
              have hj1 := hJ.light (j := 1) (by decide) (by decide) (by decide) (by decide) (by decide)
              go_wp2
              first | exact fun _ => rfl | exact ⟨fun _ => rfl, hj1 _, fun j v' _ _ h => h⟩ | exact ⟨_, rfl, fun _ => rfl, hj1 _, fun j v' _ _ h => h⟩ | exact ⟨fun _ => rfl, fun j v' _ _ h => h⟩ | exact hj1 _ | exact ⟨fun _ => rfl, hj1 _⟩
            · intro u W L hL hJ hD
              have e0 : u 0 = .slice (some ⟨g, 0, none⟩) (r + 1) cap := (hD.1 rfl (by decide)).2 (by decide)
              have e1 : u 1 = .int .i64 (r : Int) := (hD.2.1 rfl (by decide)).2 (by decide)
              have hil := HIR.out
              have hcp := HCP.out
              simp only [putAll, Act.put, List.setIfInBounds_toArray, List.set_cons_succ, List.set_cons_zero, Nat.zero_add, Nat.reduceAdd]
              rw [e0, e1]
              have hj1 := hJ.light (j := 2) (by decide) (by decide) (by decide) (by decide) (by decide)
              go_wp2
              first | exact fun _ => rfl | exact ⟨fun _ => rfl, hj1 _, fun j v' _ _ h => h⟩ | exact ⟨_, rfl, fun _ => rfl, hj1 _, fun j v' _ _ h => h⟩ | exact ⟨fun _ => rfl, fun j v' _ _ h => h⟩ | exact hj1 _ | exact ⟨fun _ => rfl, hj1 _⟩
            · intro u W L hL hJ hD
              have e2 : u 2 = .pointer (some ⟨g, r * 7, none⟩) := (hD.1 rfl (by decide)).2 (by decide)
              simp only [putAll, Act.put, List.setIfInBounds_toArray, List.set_cons_succ, List.set_cons_zero, Nat.zero_add, Nat.reduceAdd]
              rw [e2]
              have hj1 := hJ.light (j := 3) (by decide) (by decide) (by decide) (by decide) (by decide)
              go_wp2
              first | exact fun _ => rfl | exact ⟨fun _ => rfl, hj1 _, fun j v' _ _ h => h⟩ | exact ⟨_, rfl, fun _ => rfl, hj1 _, fun j v' _ _ h => h⟩ | exact ⟨fun _ => rfl, fun j v' _ _ h => h⟩ | exact hj1 _ | exact ⟨fun _ => rfl, hj1 _⟩
            · intro u W L hL hJ hD
              have e3 : u 3 = .pointer (some ⟨g, r * 7 + 6, none⟩) := (hD.1 rfl (by decide)).2 (by decide)
              obtain ⟨q8, hb⟩ := hJ.ahead (by decide : 4 < 8) hL
              have l6 := HST.out W hb
              simp only [putAll, Act.put, List.setIfInBounds_toArray, List.set_cons_succ, List.set_cons_zero, Nat.zero_add, Nat.reduceAdd]
              rw [e3]
              have hj1 := hJ.light (j := 4) (by decide) (by decide) (by decide) (by decide) (by decide)
              go_wp2
              first | exact fun _ => rfl | exact ⟨fun _ => rfl, hj1 _, fun j v' _ _ h => h⟩ | exact ⟨_, rfl, fun _ => rfl, hj1 _, fun j v' _ _ h => h⟩ | exact ⟨fun _ => rfl, fun j v' _ _ h => h⟩ | exact hj1 _ | exact ⟨fun _ => rfl, hj1 _⟩
            · intro u W L hL hJ hD
              obtain ⟨q8, hb⟩ := hJ.ahead (by decide : 5 < 8) hL
              have vx := HVX.out.after hb
              have m0 := vx.c0; have m1 := vx.c1; have m2 := vx.c2; have m3 := vx.c3; have m4 := vx.c4; have m5 := vx.c5
              simp only [putAll, Act.put, List.setIfInBounds_toArray, List.set_cons_succ, List.set_cons_zero, Nat.zero_add, Nat.reduceAdd]
              have hj1 := hJ.light (j := 5) (by decide) (by decide) (by decide) (by decide) (by decide)
              go_wp2
              first | exact fun _ => rfl | exact ⟨fun _ => rfl, hj1 _, fun j v' _ _ h => h⟩ | exact ⟨_, rfl, fun _ => rfl, hj1 _, fun j v' _ _ h => h⟩ | exact ⟨fun _ => rfl, fun j v' _ _ h => h⟩ | exact hj1 _ | exact ⟨fun _ => rfl, hj1 _⟩
            · intro u W L hL hJ hD
              have e4 : u 4 = .slice al f.l.length cl := (hD.1 rfl (by decide)).2 (by decide)
              simp only [putAll, Act.put, List.setIfInBounds_toArray, List.set_cons_succ, List.set_cons_zero, Nat.zero_add, Nat.reduceAdd]
              rw [e4]
              have hj1 := hJ.light (j := 6) (by decide) (by decide) (by decide) (by decide) (by decide)
              go_wp2
              first | exact fun _ => rfl | exact ⟨fun _ => rfl, hj1 _, fun j v' _ _ h => h⟩ | exact ⟨_, rfl, fun _ => rfl, hj1 _, fun j v' _ _ h => h⟩ | exact ⟨fun _ => rfl, fun j v' _ _ h => h⟩ | exact hj1 _ | exact ⟨fun _ => rfl, hj1 _⟩
            · intro u W L hL hJ hD
              have hj1 := hJ.made HZA.out hL
              simp only [putAll, Act.put, List.setIfInBounds_toArray, List.set_cons_succ, List.set_cons_zero, Nat.zero_add, Nat.reduceAdd]
              go_wp2
              first | exact fun q => absurd q (by decide) | exact ⟨fun q => absurd q (by decide), hj1, fun j v' _ _ h => h⟩ | exact ⟨_, rfl, fun q => absurd q (by decide), hj1, fun j v' _ _ h => h⟩ | exact ⟨fun q => absurd q (by decide), fun j v' _ _ h => h⟩ | exact hj1 | exact ⟨fun q => absurd q (by decide), hj1⟩
            · intro u W L hL hJ hD
              have e4 : u 4 = .slice al f.l.length cl := (hD.1 rfl (by decide)).2 (by decide)
              have h7 : L 7 = true := (hD.2.1 rfl (by decide)).1
              have p0 : L 0 = true := (hD.2.2.1 rfl (by decide)).1
              have p1 : L 1 = true := (hD.2.2.2.1 rfl (by decide)).1
              have p2 : L 2 = true := (hD.2.2.2.2.1 rfl (by decide)).1
              have p3 : L 3 = true := (hD.2.2.2.2.2.1 rfl (by decide)).1
              have p4 : L 4 = true := (hD.2.2.2.2.2.2.1 rfl (by decide)).1
              have p5 : L 5 = true := (hD.2.2.2.2.2.2.2.1 rfl (by decide)).1
              have p6 : L 6 = true := (hD.2.2.2.2.2.2.2.2.1 rfl (by decide)).1
              have p7 : L 7 = true := (hD.2.2.2.2.2.2.2.2.2.1 rfl (by decide)).1
              have hall : ∀ i, i < 8 → L i = true := fun i hi => by
                have : i = 0 ∨ i = 1 ∨ i = 2 ∨ i = 3 ∨ i = 4 ∨ i = 5 ∨ i = 6 ∨ i = 7 := by omega
                rcases this with rfl | rfl | rfl | rfl | rfl | rfl | rfl | rfl <;> assumption
              obtain ⟨hb, _, _, _, hz⟩ := hJ.early hL
              obtain ⟨gz, e7, hzc⟩ := hz h7
              have HCL := Lib.hid hzc
              have HRW : Hid (RowK 41 6 W (f2 + 3) (.slice al f.l.length cl) (f.l.map ItV.cells)) := Lib.hid (HRO.out.below hb)
              have HSZ : Hid (f2 + 3 ≤ W.heap.size) := Lib.hid (Nat.le_trans HDM.out.size hb.size)
              clear hzc hz hb p0 p1 p2 p3 p4 p5 p6 p7
              simp only [putAll, Act.put, List.setIfInBounds_toArray, List.set_cons_succ, List.set_cons_zero, Nat.zero_add, Nat.reduceAdd]
              rw [e4, e7]
              go_wp2_with (at_builtin; (refine wp_rowK (T := 23) (t := 41) (sz := 6) rfl _ _ rfl Tryz.underlying23 info_item rfl (by decide) (by decide) (f2 + 3) _ _ rfl HRW.out gz zItem rfl rfl HCL.out HZO.out HL6.out HSZ.out ?_))
              intro v' w' hr' ho' hob'
              have hj1 := hJ.app HDM.out HRL.out hL hall hr' (by rw [HLV.out]; exact ho') (by rw [HLV.out]; exact hob')
              clear hr' ho' hob'
              go_wp2
              first | exact fun q => absurd q (by decide) | exact ⟨fun q => absurd q (by decide), hj1, fun j v' _ _ h => h⟩ | exact ⟨_, rfl, fun q => absurd q (by decide), hj1, fun j v' _ _ h => h⟩ | exact ⟨fun q => absurd q (by decide), fun j v' _ _ h => h⟩ | exact hj1 | exact ⟨fun q => absurd q (by decide), hj1⟩
            · intro u W L hL hJ hD
              have h8 : L 8 = true := (hD.1 rfl (by decide)).1
              have e6 : u 6 = .int .i64 (f.l.length : Int) := (hD.2.1 rfl (by decide)).2 (by decide)
              obtain ⟨_, gl, kl, e8, _, _, f9, r4, r5, _, _⟩ := hJ.late h8
              have hj1 := hJ.ptr h8 e8
              have hil : (f.l.length : Int) < ((f.l.length + 1 : Nat) : Int) := by omega
              have hcp : 0 ≤ (f.l.length : Int) := by omega
              clear r4 r5 f9
              simp only [putAll, Act.put, List.setIfInBounds_toArray, List.set_cons_succ, List.set_cons_zero, Nat.zero_add, Nat.reduceAdd]
              rw [e6, e8]
              go_wp2
              first | exact fun q => absurd q (by decide) | exact ⟨fun q => absurd q (by decide), hj1, fun j v' _ _ h => h⟩ | exact ⟨_, rfl, fun q => absurd q (by decide), hj1, fun j v' _ _ h => h⟩ | exact ⟨fun q => absurd q (by decide), fun j v' _ _ h => h⟩ | exact hj1 | exact ⟨fun q => absurd q (by decide), hj1⟩
            · intro u W L hL hJ hD
              have h9 : L 9 = true := (hD.1 rfl (by decide)).1
              have e5 : u 5 = .agg #[.string hd.name, .slice ax nx cx, .bool false, .slice none 0 0, .int .i64 hd.a, .int .i64 hd.b] := (hD.2.1 rfl (by decide)).2 (by decide)
              have h8 : L 8 = true := (hD.2.2.1 rfl (by decide)).1
              obtain ⟨_, gl, kl, e8, _, _, f9, r4, r5, _, _⟩ := hJ.late h8
              have e9 := f9 h9
              have hj1 := fun v => hJ.item h8 h9 e9 v rfl rfl rfl rfl rfl rfl
              have hlm : (f.l.map ItV.cells).length = f.l.length := List.length_map ..
              have hlt : f.l.length < (f.l.map ItV.cells ++ [if L 10 = true then [.string hd.name, .slice ax nx cx, .bool false, .slice none 0 0, .int .i64 hd.a, .int .i64 hd.b] else zItem]).length := by rw [List.length_append, hlm]; exact Nat.lt_succ_self _
              have y0 : W.cell? ⟨gl, f.l.length * 6, none⟩ = some _ := r4.at f.l.length 0 hlt (show 0 < 6 by decide)
              have y1 : W.cell? ⟨gl, f.l.length * 6 + 1, none⟩ = some _ := r4.at f.l.length 1 hlt (show 1 < 6 by decide)
              have y2 : W.cell? ⟨gl, f.l.length * 6 + 2, none⟩ = some _ := r4.at f.l.length 2 hlt (show 2 < 6 by decide)
              have y3 : W.cell? ⟨gl, f.l.length * 6 + 3, none⟩ = some _ := r4.at f.l.length 3 hlt (show 3 < 6 by decide)
              have y4 : W.cell? ⟨gl, f.l.length * 6 + 4, none⟩ = some _ := r4.at f.l.length 4 hlt (show 4 < 6 by decide)
              have y5 : W.cell? ⟨gl, f.l.length * 6 + 5, none⟩ = some _ := r4.at f.l.length 5 hlt (show 5 < 6 by decide)
              have yq0 : W.frozen? ⟨gl, f.l.length * 6, none⟩ = false := r4.free _
              have yq1 : W.frozen? ⟨gl, f.l.length * 6 + 1, none⟩ = false := r4.free _
              have yq2 : W.frozen? ⟨gl, f.l.length * 6 + 2, none⟩ = false := r4.free _
              have yq3 : W.frozen? ⟨gl, f.l.length * 6 + 3, none⟩ = false := r4.free _
              have yq4 : W.frozen? ⟨gl, f.l.length * 6 + 4, none⟩ = false := r4.free _
              have yq5 : W.frozen? ⟨gl, f.l.length * 6 + 5, none⟩ = false := r4.free _
              clear r4 r5 hlt hlm f9
              simp only [putAll, Act.put, List.setIfInBounds_toArray, List.set_cons_succ, List.set_cons_zero, Nat.zero_add, Nat.reduceAdd]
              rw [e9, e5]
              go_wp2
              first | exact ⟨undef, fun q => absurd q (by decide)⟩ | exact ⟨⟨undef, fun q => absurd q (by decide)⟩, fun j v' _ _ h => h⟩ | exact ⟨undef, fun q => absurd q (by decide), hj1 undef, fun j v' _ _ h => h⟩ | exact ⟨undef, rfl, fun q => absurd q (by decide), hj1 undef, fun j v' _ _ h => h⟩ | exact ⟨undef, fun q => absurd q (by decide), fun j v' _ _ h => h⟩ | exact ⟨undef, fun q => absurd q (by decide), hj1 undef⟩
            · intro u W L hL hJ hD
              have e0 : u 0 = .slice (some ⟨g, 0, none⟩) (r + 1) cap := (hD.1 rfl (by decide)).2 (by decide)
              have e1 : u 1 = .int .i64 (r : Int) := (hD.2.1 rfl (by decide)).2 (by decide)
              have hil := HIR.out
              have hcp := HCP.out
              simp only [putAll, Act.put, List.setIfInBounds_toArray, List.set_cons_succ, List.set_cons_zero, Nat.zero_add, Nat.reduceAdd]
              rw [e0, e1]
              have hj1 := hJ.light (j := 11) (by decide) (by decide) (by decide) (by decide) (by decide)
              go_wp2
              first | exact fun _ => rfl | exact ⟨fun _ => rfl, hj1 _, fun j v' _ _ h => h⟩ | exact ⟨_, rfl, fun _ => rfl, hj1 _, fun j v' _ _ h => h⟩ | exact ⟨fun _ => rfl, fun j v' _ _ h => h⟩ | exact hj1 _ | exact ⟨fun _ => rfl, hj1 _⟩
            · intro u W L hL hJ hD
              have e11 : u 11 = .pointer (some ⟨g, r * 7, none⟩) := (hD.1 rfl (by decide)).2 (by decide)
              simp only [putAll, Act.put, List.setIfInBounds_toArray, List.set_cons_succ, List.set_cons_zero, Nat.zero_add, Nat.reduceAdd]
              rw [e11]
              have hj1 := hJ.light (j := 12) (by decide) (by decide) (by decide) (by decide) (by decide)
              go_wp2
              first | exact fun _ => rfl | exact ⟨fun _ => rfl, hj1 _, fun j v' _ _ h => h⟩ | exact ⟨_, rfl, fun _ => rfl, hj1 _, fun j v' _ _ h => h⟩ | exact ⟨fun _ => rfl, fun j v' _ _ h => h⟩ | exact hj1 _ | exact ⟨fun _ => rfl, hj1 _⟩
            · intro u W L hL hJ hD
              have e12 : u 12 = .pointer (some ⟨g, r * 7 + 6, none⟩) := (hD.1 rfl (by decide)).2 (by decide)
              have h8 : L 8 = true := (hD.2.1 rfl (by decide)).1
              obtain ⟨_, gl, kl, e8, _, _, f9, r4, r5, _, _⟩ := hJ.late h8
              have hj1 := fun v => hJ.stk HRL.out h8 e8 v
              have y0 : W.cell? ⟨g, r * 7 + 6, none⟩ = some _ := r5.at r 6 (by rw [stkV_len, List.length_cons, HRL.out]; exact Nat.lt_succ_self _) (show 6 < 7 by decide)
              have yq0 : W.frozen? ⟨g, r * 7 + 6, none⟩ = false := r5.free _
              clear r4 r5 f9
              simp only [putAll, Act.put, List.setIfInBounds_toArray, List.set_cons_succ, List.set_cons_zero, Nat.zero_add, Nat.reduceAdd]
              rw [e12, e8]
              go_wp2
              first | exact ⟨undef, fun q => absurd q (by decide)⟩ | exact ⟨⟨undef, fun q => absurd q (by decide)⟩, fun j v' _ _ h => h⟩ | exact ⟨undef, fun q => absurd q (by decide), hj1 undef, fun j v' _ _ h => h⟩ | exact ⟨undef, rfl, fun q => absurd q (by decide), hj1 undef, fun j v' _ _ h => h⟩ | exact ⟨undef, fun q => absurd q (by decide), fun j v' _ _ h => h⟩ | exact ⟨undef, fun q => absurd q (by decide), hj1 undef⟩
          · intro u W L hall hJ hT
            obtain ⟨_, gl, kl, e8, q1, _, _, r4, r5, r6, r7⟩ := hJ.late (hall 8 (by decide))
            rw [if_pos (hall 10 (by decide))] at r4
            rw [if_pos (hall 13 (by decide))] at r5
            have HFIN : Hid (SM T (f2 + 1) W6 S g cap ({ f with l := f.l ++ [⟨hd.it false [], .slice ax nx cx, .slice none 0 0⟩], lv := .slice (some ⟨gl, 0, none⟩) (f.l.length + 1) kl } :: R) none n (i + 1) W) := Lib.hid (by
              have hdm := HDM.out
              have hgx := hdm.gx
              refine ⟨hdm.push (p := ⟨hd.it false [], .slice ax nx cx, .slice none 0 0⟩) r4 ?_ r6 r7 ?_ HWX.out (ItemsIs.none' _ _ _ _ _), ?_, HSM6.out.bel.trans hJ.bel, ?_, HSM6.out.few, ⟨HSM6.out.deep.1, HSM6.out.deep.2.1, fun h => (h rfl).elim⟩, ?_⟩
              · rw [HRL.out, stkV_cons]; rw [stkV_cons] at r5; exact r5
              · rcases q1 with q | q
                · exact Or.inl q.symm
                · exact Or.inr ⟨gl, rfl, q⟩
              · exact XM.none' HSM6.out.xm (r6 _ HSM6.out.xm.lt (fun h => hgx h.symm) (fun h => by have := (hdm.ents.lt f (List.mem_cons_self ..) _ h).1; omega)) r7
              · rw [HRUN.out]
                simp only [List.map_cons, En.st, pushS, List.map_append, List.map_nil]
              · intro e he
                rcases List.mem_cons.mp he with rfl | he
                · have := HSM6.out.lens f (List.mem_cons_self ..)
                  simp only [List.length_append, List.length_singleton]; omega
                · exact Nat.le_succ_of_le (HSM6.out.lens e (List.mem_cons_of_mem _ he)))
            clear hT hJ r4 r5 r6 r7 q1
            simp only [List.take_succ_cons, List.take_zero, List.drop_succ_cons, List.drop_zero, putAll, Act.put, List.setIfInBounds_toArray, List.set_cons_succ, List.set_cons_zero, Nat.zero_add, Nat.reduceAdd]
            go_wp2
            go_roundw
            case rel => exact ⟨i + 1, n, _, none, S, g, cap, by omega, by rw [List.length_cons, HRL.out], rfl, rfl, by go_num, HFIN.out⟩
            case measure => simp [intOf]; omega
        · have h9b : (t.k == 9) = false := by simpa using h9
          by_cases h7 : t.k = 7
          · have h7b : (t.k == 7) = true := by simpa using h7
            obtain ⟨ax, nx, cx, hvx, hwx⟩ := HSM6.out.xm
            have HRUN : Hid (trF T [({}, [])] 0 none = trF (T.drop (i + 1)) ((hd, []) :: (f :: R).map En.st) n none) := Lib.hid (by rw [HSM6.out.run, HDR.out, trF, if_neg h9, if_pos h7])
            have pq2 : A6.frozen? ⟨f2 + 2, 2, none⟩ = false := hvx.q 2
            have pc2 : A6.cell? ⟨f2 + 2, 2, none⟩ = some (.bool false) := hvx.c2
            have hdx := HSM6.out.deep.2.2 (by simp)
            rw [List.length_cons, HRL.out] at hdx
            obtain ⟨A7, hA7⟩ : ∃ W, A6.setCell ⟨f2 + 2, 2, none⟩ (.bool true) = W := ⟨_, rfl⟩
            have v7 : Var6 A7 (f2 + 2) (.string hd.name) (.slice ax nx cx) (.bool true) (.slice none 0 0) (.int .i64 hd.a) (.int .i64 hd.b) := by rw [← hA7]; exact hvx.set2 _
            have k7 : ∀ b, b ≠ f2 + 2 → A7.heap[b]? = A6.heap[b]? := fun b hb => by rw [← hA7]; exact sset_else _ _ _ _ _ hb
            have z7 : A7.heap.size = A6.heap.size := by rw [← hA7]; simp
            have b7 : Below (f2 + 1) A6 A7 := by rw [← hA7]; exact (Below.refl _ _).setCell (by show f2 + 1 ≤ f2 + 2; omega) _
            have dm7 : DM (f2 + 1) S g cap (f :: R) A7 := HSM6.out.dm.var (fun b _ hb => k7 b hb) (Nat.le_of_eq z7.symm)
            have w7 : WordsIs A7 S (.slice ax nx cx) hd.words := hwx.keep (fun _ h => h) (fun b hb => k7 b (by have := (HSM6.out.dm.sin b hb).1; omega))
            obtain ⟨e, he⟩ : ∃ e : En, e = ⟨hd, [], .slice ax nx cx, .slice none 0 0, true⟩ := ⟨_, rfl⟩
            obtain ⟨Q, hQ⟩ : ∃ q, A7.heap.size = q := ⟨_, rfl⟩
            obtain ⟨A8, hA8⟩ : ∃ W, A7.alloc (.cells #[.string hd.name, .slice ax nx cx, .bool true, .slice none 0 0, .int .i64 hd.a, .int .i64 hd.b, .slice none 0 0] 46) = W := ⟨_, rfl⟩
            have b8 : Below A7.heap.size A7 A8 := by rw [← hA8]; exact (Below.refl _ _).alloc (Nat.le_refl _) _
            have CA : Hid (∀ j, j < 7 → A8.cell? ⟨Q, j, none⟩ = some (e.cells.getD j undef)) := Lib.hid (by rw [← hA8, ← hQ, he]; exact open_cells A7 ⟨hd, [], .slice ax nx cx, .slice none 0 0, true⟩)
            have HPO : Hid (∀ u ∈ e.cells, u.oneCell' = true) := Lib.hid (by rw [he]; exact open_one _ rfl rfl)
            have HR8 : Hid (RowK 46 7 A8 (f2 + 1) (.slice (some ⟨g, 0, none⟩) (r + 1) cap) (stkV (f :: R))) := Lib.hid (by have h := dm7.row; rw [List.length_cons, HRL.out] at h; exact h.below b8)
            have HL8 : Hid ((stkV (f :: R)).length ≤ 1000000) := Lib.hid (by rw [stkV_len, List.length_cons, HRL.out]; omega)
            have HZ8 : Hid (f2 + 1 ≤ A8.heap.size) := Lib.hid (by have := b8.size; have := HSM6.out.dm.size; omega)
            have HE := Lib.hid he
            have HDM := Lib.hid dm7
            have HW7 := Lib.hid w7
            have HV7 := Lib.hid v7
            have HB7 := Lib.hid b7
            have HB8 := Lib.hid b8
            have HK7 := Lib.hid k7
            have HQ := Lib.hid hQ
            have HDX := Lib.hid hdx
            have p0 := v7.c0; have p1 := v7.c1; have p2 := v7.c2; have p3 := v7.c3; have p4 := v7.c4; have p5 := v7.c5
            clear hvx hwx k7 z7 b7 dm7 w7 b8 v7 he h9 h7 hdx
            go_wp2_with (at_builtin; (refine wp_rowK (T := 47) (t := 46) (sz := 7) rfl _ _ rfl Tryz.underlying47 info_open rfl (by decide) (by decide) (f2 + 1) _ _ rfl HR8.out Q e.cells rfl rfl CA.out HPO.out HL8.out HZ8.out ?_))
            intro v9 w9 hr9 ho9 hob
            obtain ⟨g', cap', rfl, hg'⟩ : ∃ g' c', v9 = .slice (some ⟨g', 0, none⟩) (r + 2) c' ∧ (g' = g ∨ A7.heap.size ≤ g') := by
              have hl : (stkV (f :: R) ++ [e.cells]).length = r + 2 := by rw [List.length_append, stkV_len, List.length_cons, HRL.out]; rfl
              rcases hr9.own.2 with ⟨e1, _⟩ | ⟨g', cap', cur, e1, _⟩
              · rw [e1] at hob
                rcases hob with h | h <;> cases h
              · rw [hl] at e1
                refine ⟨g', cap', e1, ?_⟩
                rw [e1] at hob
                simp only [Value.ownBlock, Option.some.injEq] at hob
                rcases hob with h | h
                · exact Or.inl h
                · exact Or.inr (h ▸ HB8.out.size)
            have HFIN : Hid (SM T (f2 + 1) W6 S g' cap' (e :: f :: R) none n (i + 1) w9) := Lib.hid (by
              have hdm := HDM.out
              have hq := HQ.out
              have hz8 := HB8.out.size
              have hk : ∀ b, b < A7.heap.size → b ≠ g → w9.heap[b]? = A7.heap[b]? := fun b h1 h2 => (ho9.keep b (by omega) (fun h => h2 (by injection h))).trans (HB8.out.block b h1)
              have hz : A7.heap.size ≤ w9.heap.size := Nat.le_trans hz8 ho9.size
              have hrow : RowK 46 7 w9 (f2 + 1) (.slice (some ⟨g', 0, none⟩) ((f :: R).length + 1) cap') (stkV (e :: f :: R)) := by rw [stkV_cons, List.length_cons, HRL.out]; exact hr9
              refine ⟨hdm.open_ (by rw [List.length_cons, HRL.out]; exact HDX.out) (by rw [HE.out]) (by rw [HE.out]) (by rw [HE.out]) (by rw [HE.out]; exact HW7.out) hrow hk hz hg', ?_, ?_, ?_, HSM6.out.few, ?_, ?_⟩
              · exact ⟨_, _, _, _, _, _, HV7.out.stay (hk (f2 + 2) HV7.out.s (fun h => hdm.gx h.symm)) hz⟩
              · exact HSM6.out.bel.trans ((HB7.out.trans (HB8.out.mono (by have := hdm.size; omega))).trans ho9.bel)
              · rw [HRUN.out, HE.out]; rfl
              · exact ⟨by simp, by rw [List.length_cons, List.length_cons, HRL.out]; have := HDX.out; omega, fun h => (h rfl).elim⟩
              · intro x hx
                rcases List.mem_cons.mp hx with rfl | hx
                · rw [HE.out]; exact Nat.zero_le _
                · exact Nat.le_succ_of_le (HSM6.out.lens x hx))
            clear hr9 ho9 hob hg' hA8 hA7
            go_wp2
            go_roundw
            case rel => exact ⟨i + 1, n, e :: f :: R, none, S, g', cap', by omega, by rw [List.length_cons, List.length_cons, HRL.out], rfl, rfl, by go_num, HFIN.out⟩
            case measure => simp [intOf]; omega
          · have h7b : (t.k == 7) = false := by simpa using h7
            by_cases hw : t.k < 1 ∨ 6 < t.k
            · have hkk : t.k < 1 ∨ (¬ t.k < 1 ∧ 6 < t.k) := by omega
              have HTR : Hid (trF (t :: T.drop (i + 1)) ((f :: R).map En.st) n (some hd) = .error (6, t.a, t.b)) := Lib.hid (by rw [trF, if_neg h9, if_neg h7, if_pos (by omega)])
              rcases hkk with hk1 | ⟨hk1, hk2⟩
              · clear hw h9 h7
                go_wp2
                go_region
                go_wp2
                refine bodyPost_ret (sparse_results (x := .int .i64 6) (y := .int .i64 t.a) (z := .int .i64 t.b) (u := .slice none 0 0) ((HR6.out.put _ _ _).after ((Below.refl _ _).drew)) rfl rfl) rfl ?_
                exact ⟨HB.out ▸ (below_put3 HW6.out HRB.out.1 _ _ _).drew, Or.inl ⟨6, t.a, t.b, by rw [HSM6.out.run, HDR.out]; exact HTR.out, rfl⟩⟩
              · clear hw h9 h7
                go_wp2
                go_region
                go_wp2
                refine bodyPost_ret (sparse_results (x := .int .i64 6) (y := .int .i64 t.a) (z := .int .i64 t.b) (u := .slice none 0 0) ((HR6.out.put _ _ _).after ((Below.refl _ _).drew)) rfl rfl) rfl ?_
                exact ⟨HB.out ▸ (below_put3 HW6.out HRB.out.1 _ _ _).drew, Or.inl ⟨6, t.a, t.b, by rw [HSM6.out.run, HDR.out]; exact HTR.out, rfl⟩⟩
            · by_cases hlw : 6 ≤ hd.words.length
              · obtain ⟨ax, nx, cx, hvx, hwx⟩ := HSM6.out.xm
                have hnx : nx = hd.words.length := by obtain ⟨a', c', e⟩ := hwx.size; simp only [Value.slice.injEq] at e; exact e.2.1
                have hl6 : (6 : Int) ≤ (nx : Int) := by omega
                have x1 := hvx.c1
                have hk1 : ¬ t.k < 1 := by omega
                have hk2 : ¬ 6 < t.k := by omega
                have HTR : Hid (trF (t :: T.drop (i + 1)) ((f :: R).map En.st) n (some hd) = .error (9, t.a, t.b)) := Lib.hid (by rw [trF, if_neg h9, if_neg h7, if_neg (by omega), if_pos (by omega)])
                clear hvx hwx hnx hw h9 h7 hlw
                go_wp2
                go_region
                go_wp2
                refine bodyPost_ret (sparse_results (x := .int .i64 9) (y := .int .i64 t.a) (z := .int .i64 t.b) (u := .slice none 0 0) ((HR6.out.put _ _ _).after ((Below.refl _ _).drew)) rfl rfl) rfl ?_
                exact ⟨HB.out ▸ (below_put3 HW6.out HRB.out.1 _ _ _).drew, Or.inl ⟨9, t.a, t.b, by rw [HSM6.out.run, HDR.out]; exact HTR.out, rfl⟩⟩
              · have hk1 : ¬ t.k < 1 := by omega
                have hk2 : ¬ 6 < t.k := by omega
                obtain ⟨ax, nx, cx, hvx, hwx⟩ := HSM6.out.xm
                have hnx : nx = hd.words.length := by obtain ⟨a', c', e⟩ := hwx.size; simp only [Value.slice.injEq] at e; exact e.2.1
                have hl6 : ¬ (6 : Int) ≤ (nx : Int) := by omega
                have x1 := hvx.c1
                obtain ⟨WV, hWV⟩ : ∃ l, hd.words.map tkV = l := ⟨_, rfl⟩
                have HWV := Lib.hid hWV
                have HVX := Lib.hid hvx
                have HWX := Lib.hid hwx
                obtain ⟨Q, hQ⟩ : ∃ q, A6.heap.size = q := ⟨_, rfl⟩
                have HQ := Lib.hid hQ
                obtain ⟨A7, hA7⟩ : ∃ W, A6.alloc (.cells #[] 39) = W := ⟨_, rfl⟩
                have R7 : RowK 39 5 A7 Q (.slice (some ⟨Q, 0, none⟩) 0 0) [] := by rw [← hA7]; exact RowK.fresh _ 5 A6 _ _ hQ.symm (Nat.le_refl _)
                have b7 : Below A6.heap.size A6 A7 := by rw [← hA7]; exact (Below.refl _ _).alloc (Nat.le_refl _) _
                have HR7 := Lib.hid R7
                have HB7 : Hid (Below Q A6 A7) := Lib.hid (hQ ▸ b7)
                have HW7 := Lib.hid (hwx.keep (w' := A7) (fun _ h => h) (fun b hb => b7.block b (HSM6.out.dm.sin b hb).2.1))
                have HC7 : Hid (CellsAt 5 A7 ax WV) := Lib.hid (hWV ▸ (WordsIs.cells HW7.out).2)
                have HL7 : Hid (WV.length ≤ 1000000) := Lib.hid (by rw [← hWV, List.length_map]; omega)
                have HO7 : Hid (∀ u ∈ WV, ∀ x ∈ u, x.oneCell' = true) := Lib.hid (hWV ▸ tkVs_one hd.words)
                have HZ7 : Hid (Q ≤ A7.heap.size) := Lib.hid (by rw [← hQ]; exact b7.size)
                have HNX : Hid (nx = WV.length) := Lib.hid (by rw [← hWV, List.length_map]; exact hnx)
                have v7 := hvx.after b7
                have x17 := v7.c1
                have HRUN : Hid (trF T [({}, [])] 0 none = trF (T.drop (i + 1)) ((f :: R).map En.st) n (some { hd with words := hd.words ++ [t] })) := Lib.hid (by rw [HSM6.out.run, HDR.out, trF, if_neg h9, if_neg h7, if_neg (by omega), if_neg (by omega)])
                have HWL : Hid (hd.words.length < 6) := Lib.hid (by omega)
                clear R7 b7 hvx hwx hnx v7 hw hlw h9 h7 hWV
                go_wp2_with (at_builtin; (refine wp_rowKs (T := 33) (t := 39) (sz := 5) rfl _ _ rfl Tryz.underlying33 info_tok rfl (by decide) (by decide) Q _ _ rfl HR7.out ax nx cx WV rfl HNX.out HC7.out HO7.out (by rw [List.length_nil, Nat.zero_add]; exact HL7.out) HZ7.out ?_))
                intro v8 w8 hr8 ho8 _
                have hr8 : RowK 39 5 w8 Q v8 WV := by simpa using hr8
                have HR8 := Lib.hid hr8
                have HB8 := Lib.hid (HB7.out.trans ho8.bel)
                obtain ⟨s0, s1, s2, s3, s4⟩ := HTC.out w8 (HSM6.out.bel.trans (HB8.out.mono (by have := HSM6.out.dm.size; have := HQ.out; omega)))
                obtain ⟨g9, A9, hg9, hA9, u9, b9, zz9⟩ := tok_box w8 t
                have CA : Hid (∀ j, j < 5 → A9.cell? ⟨g9, j, none⟩ = some ((tkV t).getD j undef)) := Lib.hid (tok_cells u9.c0 u9.c1 u9.c2 u9.c3 u9.c4)
                have HR9 := Lib.hid (hr8.below b9)
                have HB9 := Lib.hid (HB8.out.trans (b9.mono (by have := HB8.out.size; have := HQ.out; omega)))
                have HZ9 : Hid (Q ≤ A9.heap.size) := Lib.hid (by have := HB9.out.size; have := HQ.out; omega)
                obtain ⟨a8, c8, hv8⟩ := hr8.size
                obtain ⟨m8, hm8⟩ : ∃ q, WV.length = q := ⟨_, rfl⟩
                rw [hm8] at hv8
                subst hv8
                have vx := HVX.out.stay (HB9.out.block (f2 + 2) (by have := HVX.out.s; have := HQ.out; omega)) HB9.out.size
                have k1 := vx.c1; have kq := vx.q 1
                clear hr8 ho8 u9 b9 zz9 hm8 vx
                go_wp2_with (at_builtin; (refine wp_rowK (T := 33) (t := 39) (sz := 5) rfl _ _ rfl Tryz.underlying33 info_tok rfl (by decide) (by decide) Q _ _ rfl HR9.out g9 (tkV t) rfl rfl CA.out (tkV_one _) HL7.out HZ9.out ?_))
                intro v10 w10 hr10 ho10 _
                have hm10 : WV ++ [tkV t] = (hd.words ++ [t]).map tkV := by rw [← HWV.out]; simp
                obtain ⟨WT, hWT⟩ : ∃ l, (hd.words ++ [t]).map tkV = l := ⟨_, rfl⟩
                rw [hm10, hWT] at hr10
                obtain ⟨a10, c10, hv10⟩ := hr10.size
                obtain ⟨m10, hm10'⟩ : ∃ q, WT.length = q := ⟨_, rfl⟩
                rw [hm10'] at hv10
                subst hv10
                have HB10 := Lib.hid (HB9.out.trans ho10.bel)
                have vx := HVX.out.stay (HB10.out.block (f2 + 2) (by have := HVX.out.s; have := HQ.out; omega)) HB10.out.size
                have n1 := vx.c1; have nq := vx.q 1
                have HFIN : Hid (SM T (f2 + 1) W6 (fun b => S b ∨ (Q ≤ b ∧ b < w10.heap.size)) g cap (f :: R) (some { hd with words := hd.words ++ [t] }) n (i + 1) (w10.setCell ⟨f2 + 2, 1, none⟩ (.slice a10 m10 c10))) := Lib.hid (by
                  have hq := HQ.out
                  have hdm := HSM6.out.dm
                  have hk : ∀ b, b < A6.heap.size → b ≠ f2 + 2 → (w10.setCell ⟨f2 + 2, 1, none⟩ (.slice a10 m10 c10)).heap[b]? = A6.heap[b]? := fun b h1 h2 => (sset_else _ _ _ _ _ h2).trans (HB10.out.block b (by omega))
                  have hz : (w10.setCell ⟨f2 + 2, 1, none⟩ (.slice a10 m10 c10)).heap.size = w10.heap.size := by simp
                  have hz2 := HB10.out.size
                  have hsx := HVX.out.s
                  refine ⟨(hdm.var hk (by omega)).more (fun b hb => Or.inl hb) (fun b hb => ?_) (fun e he b hb hh => ?_), ?_, HSM6.out.bel.trans ((HB10.out.mono (by have := hdm.size; omega)).setCell (by show f2 + 1 ≤ f2 + 2; omega) _), HRUN.out, HSM6.out.few, ⟨HSM6.out.deep.1, HSM6.out.deep.2.1, fun _ => HSM6.out.deep.2.2 (by simp)⟩, fun e he => Nat.le_succ_of_le (HSM6.out.lens e he)⟩
                  · rcases hb with hb | hb
                    · have := hdm.sin b hb; exact ⟨this.1, by omega, this.2.2⟩
                    · have hg := (hdm.row.lt (b := g) rfl).2
                      exact ⟨by have := hdm.size; omega, by omega, by omega⟩
                  · have hlt := hdm.ents.lt e he b hb
                    rcases hh with hh | hh
                    · exact hlt.2.2 hh
                    · omega
                  · refine ⟨a10, m10, c10, vx.set1 _, RowK.words (l := hd.words ++ [t]) (by rw [hWT]; exact hr10.kept (fun b hb => sset_else _ _ _ _ _ (by have := (hr10.lt hb).1; omega))) (fun b hb => Or.inr (hr10.lt hb))⟩)
                clear hr10 ho10 hm10 hm10' vx hWT
                go_wp2
                go_roundw
                case rel => exact ⟨i + 1, n, f :: R, _, _, g, cap, by omega, by rw [List.length_cons, HRL.out], rfl, rfl, by go_num, HFIN.out⟩
                case measure => simp [intOf]; omega
      | none =>
        have hnone : (none : Option Hd).isSome = false := rfl
        rw [hnone]
        by_cases h8 : t.k = 8
        · by_cases hr0 : r = 0
          · have hrz : ¬ (0 : Int) < (r : Int) := by omega
            have k8b : (t.k == 8) = true := by simpa using (show t.k = 8 by omega)
            have k0b : (t.k == 0) = false := by simpa using (show t.k ≠ 0 by omega)
            have k1b : (t.k != 1) = true := by simpa using (show t.k ≠ 1 by omega)
            have HTR : Hid (trF (t :: T.drop (i + 1)) ((f :: R).map En.st) n none = .error (6, t.a, t.b)) := Lib.hid (by rw [trF, if_neg (fun e => by have e2 := e.2; rw [List.length_map, List.length_cons, HRL.out] at e2; omega), if_neg (fun e => by have e2 := e.2; rw [List.length_map, List.length_cons, HRL.out] at e2; omega), if_pos (by omega)])
            clear h8
            go_wp2
            go_region
            go_wp2
            refine bodyPost_ret (sparse_results (x := .int .i64 6) (y := .int .i64 t.a) (z := .int .i64 t.b) (u := .slice none 0 0) ((HR6.out.put _ _ _).after ((Below.refl _ _).drew)) rfl rfl) rfl ?_
            exact ⟨HB.out ▸ (below_put3 HW6.out HRB.out.1 _ _ _).drew, Or.inl ⟨6, t.a, t.b, by rw [HSM6.out.run, HDR.out]; exact HTR.out, rfl⟩⟩
          · obtain ⟨q, R', rfl⟩ : ∃ q R', R = q :: R' := by
              cases R with
              | nil => exact (hr0 (by rw [← HRL.out]; rfl)).elim
              | cons q R' => exact ⟨q, R', rfl⟩
            obtain ⟨m, hm⟩ : ∃ m, R'.length = m := ⟨_, rfl⟩
            have HML := Lib.hid hm
            have hrm : m + 1 = r := by rw [← HRL.out, ← hm, List.length_cons]
            have HRM := Lib.hid hrm
            have k8b : (t.k == 8) = true := by simpa using h8
            have hrz : (0 : Int) < (r : Int) := by omega
            have HRUN : Hid (trF T [({}, [])] 0 none = trF (T.drop (i + 1)) (popS ((f :: q :: R').map En.st)) n none) := Lib.hid (by rw [HSM6.out.run, HDR.out, trF, if_pos ⟨h8, by simp⟩])
            have hdm := HSM6.out.dm
            have hlen5 : R'.length + 2 ≤ 5 := by have := HSM6.out.deep.2.1; simp only [List.length_cons] at this; omega
            obtain ⟨hdq, hwd, hkd, hbk⟩ := hdm.drop hlen5
            obtain ⟨aw, cw, hwv⟩ := hwd.size
            obtain ⟨nw, hnw⟩ : ∃ x, f.h.words.length = x := ⟨_, rfl⟩
            rw [hnw] at hwv
            obtain ⟨al, cl, hlv⟩ := hdm.ents.2.1.row.size
            rw [List.length_map] at hlv
            have HKC : Hid (∀ j, j < 7 → A6.cell? ⟨g, r * 7 + j, none⟩ = some (f.cells.getD j undef)) := Lib.hid (fun j hj => by
              have k := hdm.row.at r j (by rw [stkV_len, List.length_cons, HRL.out]; exact Nat.lt_succ_self _) hj
              rw [← HRL.out, stkV_top] at k
              rw [← HRL.out]; exact k)
            have k0 : A6.cell? ⟨g, r * 7, none⟩ = some (.string f.h.name) := HKC.out 0 (by decide)
            have k1 : A6.cell? ⟨g, r * 7 + 1, none⟩ = some (.slice aw nw cw) := (HKC.out 1 (by decide)).trans (by rw [← hwv]; rfl)
            have k2 : A6.cell? ⟨g, r * 7 + 2, none⟩ = some (.bool true) := (HKC.out 2 (by decide)).trans (by rw [← hbk]; rfl)
            have k3 : A6.cell? ⟨g, r * 7 + 3, none⟩ = some (.slice none 0 0) := HKC.out 3 (by decide)
            have k4 : A6.cell? ⟨g, r * 7 + 4, none⟩ = some (.int .i64 f.h.a) := HKC.out 4 (by decide)
            have k5 : A6.cell? ⟨g, r * 7 + 5, none⟩ = some (.int .i64 f.h.b) := HKC.out 5 (by decide)
            obtain ⟨gd, hgd⟩ : ∃ x, A6.heap.size = x := ⟨_, rfl⟩
            obtain ⟨A7, hA7⟩ : ∃ W, A6.alloc (.cells #[.string ⟨#[]⟩, .slice none 0 0, .bool false, .slice none 0 0, .int .i64 0, .int .i64 0] 41) = W := ⟨_, rfl⟩
            have f7 : Var6 A7 gd (.string ⟨#[]⟩) (.slice none 0 0) (.bool false) (.slice none 0 0) (.int .i64 0) (.int .i64 0) := by rw [← hA7]; exact Var6.fresh _ _ _ _ _ _ _ _ _ hgd.symm
            have b7 : Below A6.heap.size A6 A7 := by rw [← hA7]; exact (Below.refl _ _).alloc (Nat.le_refl _) _
            obtain ⟨A8, hA8⟩ : ∃ W, (((((A7.setCell ⟨gd, 0, none⟩ (.string f.h.name)).setCell ⟨gd, 1, none⟩ (.slice aw nw cw)).setCell ⟨gd, 2, none⟩ (.bool true)).setCell ⟨gd, 3, none⟩ (.slice none 0 0)).setCell ⟨gd, 4, none⟩ (.int .i64 f.h.a)).setCell ⟨gd, 5, none⟩ (.int .i64 f.h.b) = W := ⟨_, rfl⟩
            have v8 : Var6 A8 gd (.string f.h.name) (.slice aw nw cw) (.bool true) (.slice none 0 0) (.int .i64 f.h.a) (.int .i64 f.h.b) := by rw [← hA8]; exact f7.put _ _ _ _ _ _
            have b8 : Below A6.heap.size A6 A8 := by rw [← hA8]; exact below_put6 b7 (Nat.le_of_eq hgd) _ _ _ _ _ _
            have k6 : A8.cell? ⟨g, r * 7 + 6, none⟩ = some (.slice al f.l.length cl) := (World.cell?_of_block (b8.block g (hdm.row.lt rfl).2)).trans ((HKC.out 6 (by decide)).trans (by rw [← hlv]; rfl))
            obtain ⟨A9, hA9⟩ : ∃ W, A8.setCell ⟨gd, 3, none⟩ (.slice al f.l.length cl) = W := ⟨_, rfl⟩
            have v9 : Var6 A9 gd (.string f.h.name) (.slice aw nw cw) (.bool true) (.slice al f.l.length cl) (.int .i64 f.h.a) (.int .i64 f.h.b) := by rw [← hA9]; exact v8.set3 _
            have b9 : Below A6.heap.size A6 A9 := by rw [← hA9]; exact b8.setCell (Nat.le_of_eq hgd) _
            have g0 := f7.c0; have g1 := f7.c1; have g2 := f7.c2; have g3 := f7.c3; have g4 := f7.c4; have g5 := f7.c5
            have gq0 := f7.q 0; have gq1 := f7.q 1; have gq2 := f7.q 2; have gq3 := f7.q 3; have gq4 := f7.q 4; have gq5 := f7.q 5
            have h3 := v8.c3; have hq3 := v8.q 3
            have hcapn : r + 1 ≤ cap := by
              obtain ⟨_, cap2, e1, _, _, hc⟩ := hdm.row.form (by rw [stkV_len]; exact Nat.succ_pos _)
              rw [stkV_len] at e1 hc
              simp only [Value.slice.injEq] at e1
              rw [e1.2.2]; rw [List.length_cons, HRL.out] at hc; exact hc
            have hsl := stack_to g (r + 1) cap r (by omega)
            have HV9 := Lib.hid v9
            have HB9 := Lib.hid b9
            have HWV := Lib.hid hwv
            have HLV0 := Lib.hid hlv
            have HDQ6 := Lib.hid hdq
            have HWD := Lib.hid hwd
            have HKD := Lib.hid hkd
            have HIR : Hid ((r : Int) < ((r + 1 : Nat) : Int)) := Lib.hid (by omega)
            have hil := HIR.out
            have hcp : 0 ≤ (r : Int) := by omega
            clear hdm hdq hwd hkd hbk hwv hlv f7 b7 v8 b8 v9 b9 hrm hlen5 h8 hnw
            go_upto_region 32 with (fail)
            go_cut [117] from 116 to 117 (fun v117 wx => ∃ b, v117 = .bool b ∧ Below A9.heap.size A9 wx)
            case first =>
              go_region
              all_goals (go_wp2; go_meet; exact ⟨_, rfl, ((Below.refl _ _).alloc (Nat.le_refl _) _).drew⟩)
            case rest =>
              obtain ⟨bb, rfl, hbw⟩ := hcut
              obtain ⟨A10, hA10⟩ : ∃ W, W = wc := ⟨_, rfl⟩
              subst hA10
              have b10 := HB9.out.trans (hbw.mono HB9.out.size)
              have hdq := HDQ6.out.after b10
              have hlq := hdq.ents.2.1.row
              obtain ⟨al2, cl2, hlv2⟩ := hlq.size
              rw [List.length_map] at hlv2
              rw [hlv2] at hlq
              have HLV := Lib.hid hlv2
              have HRO := Lib.hid hlq
              have HDQ := Lib.hid hdq
              have HVD : Hid (Var6 A10 gd (.string f.h.name) (.slice aw nw cw) (.bool true) (.slice al f.l.length cl) (.int .i64 f.h.a) (.int .i64 f.h.b)) := Lib.hid (HV9.out.after hbw)
              have HL6 : Hid ((q.l.map ItV.cells).length ≤ 1000000) := Lib.hid (by rw [List.length_map]; have := HSM6.out.lens q (List.mem_cons_of_mem _ (List.mem_cons_self ..)); omega)
              have HZA : Hid (f2 + 1 ≤ A10.heap.size) := Lib.hid (by have := hdq.size; omega)
              have HST : Hid (∀ W, Below A10.heap.size A10 W → W.cell? ⟨g, m * 7 + 6, none⟩ = some (.slice al2 q.l.length cl2)) := Lib.hid (fun W hb => by
                have k := (hdq.row.below hb).at m 6 (by rw [stkV_len, List.length_cons, HML.out]; exact Nat.lt_succ_self _) (show 6 < 7 by decide)
                rw [← HML.out, stkV_top] at k
                rw [← HML.out, ← hlv2]; exact k)
              have HTM : Hid (IntKind.i64.wrap ((r : Int) - 1) = (m : Int)) := Lib.hid (by rw [IntKind.wrap_i64]; have := HRM.out; omega)
              have HIM : Hid ((m : Int) < (r : Int)) := Lib.hid (by have := HRM.out; omega)
              have HCM : Hid (0 ≤ (m : Int)) := Lib.hid (by omega)
              have HWP : Hid (WordsIs A10 (fun b => S b ∨ f.lv.ownBlock = some b) (.slice aw nw cw) f.h.words) := Lib.hid (by rw [← HWV.out]; exact HWD.out.keep (fun _ h => h) (fun b hb => b10.block b (HDQ6.out.sin b hb).2.1))
              have HKP : Hid (ItemsIs (5 - (m + 1)) A10 (fun b => S b ∨ f.lv.ownBlock = some b) (.slice al f.l.length cl) (f.l.map ItV.x)) := Lib.hid (by rw [← HLV0.out, ← HML.out]; exact ItemsIs.keep HKD.out (fun _ h => h) (fun b hb => b10.block b (HDQ6.out.sin b hb).2.1))
              have HEND : Hid (∀ v' W', DM (f2 + 1) (fun b => S b ∨ f.lv.ownBlock = some b) g cap ({ q with l := q.l ++ [⟨f.h.it true (f.l.map ItV.x), .slice aw nw cw, .slice al f.l.length cl⟩], lv := v' } :: R') W' → W'.heap[f2 + 1 + 1]? = A10.heap[f2 + 1 + 1]? → Below (f2 + 1) A10 W' → SM T (f2 + 1) W6 (fun b => S b ∨ f.lv.ownBlock = some b) g cap ({ q with l := q.l ++ [⟨f.h.it true (f.l.map ItV.x), .slice aw nw cw, .slice al f.l.length cl⟩], lv := v' } :: R') none n (i + 1) W') := Lib.hid (fun v' W' hd2 hx hb2 => by
                refine ⟨hd2, XM.none' HSM6.out.xm (hx.trans (b10.block _ HSM6.out.xm.lt)) (Nat.le_trans b10.size hb2.size), HSM6.out.bel.trans ((b10.mono (by have := HSM6.out.dm.size; omega)).trans hb2), ?_, HSM6.out.few, ⟨by simp, ?_, fun h => (h rfl).elim⟩, ?_⟩
                · rw [HRUN.out]
                  simp only [List.map_cons, En.st, popS, pushS, List.map_append, List.map_nil]
                · have := HSM6.out.deep.2.1
                  simp only [List.length_cons] at this ⊢; omega
                · intro e he
                  rcases List.mem_cons.mp he with rfl | he
                  · have := HSM6.out.lens q (List.mem_cons_of_mem _ (List.mem_cons_self ..))
                    simp only [List.length_append, List.length_singleton]; omega
                  · exact Nat.le_succ_of_le (HSM6.out.lens e (List.mem_cons_of_mem _ (List.mem_cons_of_mem _ he))))
              clear b10 hdq hlq hlv2 hbw k0 k1 k2 k3 k4 k5 k6 g0 g1 g2 g3 g4 g5 gq0 gq1 gq2 gq3 gq4 gq5 h3 hq3 hil
              cases bb with
              | true =>
                go_wp2
                have HYO : Hid (∀ u ∈ (zItem : List Value), u.oneCell' = true) := Lib.hid (by decide)
                refine wp_region_mixv 13 (TQ 11 12 [.slice (some ⟨g, 0, none⟩) r cap, .int .i64 (r : Int), .int .i64 (m : Int), .slice (some ⟨g, 0, none⟩) r cap, .int .i64 (r : Int), .int .i64 (m : Int), .pointer (some ⟨g, m * 7, none⟩), .pointer (some ⟨g, m * 7 + 6, none⟩), .slice al2 q.l.length cl2, .agg #[.string f.h.name, .slice aw nw cw, .bool true, .slice al f.l.length cl, .int .i64 f.h.a, .int .i64 f.h.b], .int .i64 (q.l.length : Int), undef, undef]) (JQ A10 (f2 + 1) g q 11 12 zItem) (by kernel_rfl) (by kernel_rfl) (fun u => JQ.start) ?_ ?_
                · simp only [List.take_succ_cons, List.take_zero]
                  refine (StepsU.cons ?_ (StepsU.cons ?_ (StepsU.cons ?_ (StepsU.cons ?_ (StepsU.cons ?_ (StepsU.cons ?_ (StepsU.cons ?_ (StepsU.cons ?_ (StepsU.cons ?_ (StepsU.cons ?_ (StepsU.cons ?_ (StepsU.cons ?_ (StepsU.cons ?_ StepsU.nil)))))))))))))
                  · intro u W L hL hJ hD
                    simp only [putAll, Act.put, List.setIfInBounds_toArray, List.set_cons_succ, List.set_cons_zero, Nat.zero_add, Nat.reduceAdd]
                    have hj1 := hJ.light (j := 0) (by decide) (by decide)
                    go_wp2
                    first | exact fun _ => rfl | exact ⟨fun _ => rfl, hj1 _, fun j v' _ _ h => h⟩ | exact ⟨_, rfl, fun _ => rfl, hj1 _, fun j v' _ _ h => h⟩ | exact ⟨fun _ => rfl, fun j v' _ _ h => h⟩ | exact hj1 _ | exact ⟨fun _ => rfl, hj1 _⟩
                  · intro u W L hL hJ hD
                    simp only [putAll, Act.put, List.setIfInBounds_toArray, List.set_cons_succ, List.set_cons_zero, Nat.zero_add, Nat.reduceAdd]
                    have hj1 := hJ.light (j := 1) (by decide) (by decide)
                    go_wp2
                    first | exact fun _ => rfl | exact ⟨fun _ => rfl, hj1 _, fun j v' _ _ h => h⟩ | exact ⟨_, rfl, fun _ => rfl, hj1 _, fun j v' _ _ h => h⟩ | exact ⟨fun _ => rfl, fun j v' _ _ h => h⟩ | exact hj1 _ | exact ⟨fun _ => rfl, hj1 _⟩
                  · intro u W L hL hJ hD
                    have e1 : u 1 = .int .i64 (r : Int) := (hD.1 rfl (by decide)).2 ⟨by decide, by decide⟩
                    have htm := HTM.out
                    simp only [putAll, Act.put, List.setIfInBounds_toArray, List.set_cons_succ, List.set_cons_zero, Nat.zero_add, Nat.reduceAdd]
                    rw [e1]
                    have hj1 := hJ.light (j := 2) (by decide) (by decide)
                    go_wp2
                    first | exact fun _ => rfl | exact ⟨fun _ => rfl, hj1 _, fun j v' _ _ h => h⟩ | exact ⟨_, rfl, fun _ => rfl, hj1 _, fun j v' _ _ h => h⟩ | exact ⟨fun _ => rfl, fun j v' _ _ h => h⟩ | exact hj1 _ | exact ⟨fun _ => rfl, hj1 _⟩
                  · intro u W L hL hJ hD
                    simp only [putAll, Act.put, List.setIfInBounds_toArray, List.set_cons_succ, List.set_cons_zero, Nat.zero_add, Nat.reduceAdd]
                    have hj1 := hJ.light (j := 3) (by decide) (by decide)
                    go_wp2
                    first | exact fun _ => rfl | exact ⟨fun _ => rfl, hj1 _, fun j v' _ _ h => h⟩ | exact ⟨_, rfl, fun _ => rfl, hj1 _, fun j v' _ _ h => h⟩ | exact ⟨fun _ => rfl, fun j v' _ _ h => h⟩ | exact hj1 _ | exact ⟨fun _ => rfl, hj1 _⟩
                  · intro u W L hL hJ hD
                    simp only [putAll, Act.put, List.setIfInBounds_toArray, List.set_cons_succ, List.set_cons_zero, Nat.zero_add, Nat.reduceAdd]
                    have hj1 := hJ.light (j := 4) (by decide) (by decide)
                    go_wp2
                    first | exact fun _ => rfl | exact ⟨fun _ => rfl, hj1 _, fun j v' _ _ h => h⟩ | exact ⟨_, rfl, fun _ => rfl, hj1 _, fun j v' _ _ h => h⟩ | exact ⟨fun _ => rfl, fun j v' _ _ h => h⟩ | exact hj1 _ | exact ⟨fun _ => rfl, hj1 _⟩
                  · intro u W L hL hJ hD
                    have e4 : u 4 = .int .i64 (r : Int) := (hD.1 rfl (by decide)).2 ⟨by decide, by decide⟩
                    have htm := HTM.out
                    simp only [putAll, Act.put, List.setIfInBounds_toArray, List.set_cons_succ, List.set_cons_zero, Nat.zero_add, Nat.reduceAdd]
                    rw [e4]
                    have hj1 := hJ.light (j := 5) (by decide) (by decide)
                    go_wp2
                    first | exact fun _ => rfl | exact ⟨fun _ => rfl, hj1 _, fun j v' _ _ h => h⟩ | exact ⟨_, rfl, fun _ => rfl, hj1 _, fun j v' _ _ h => h⟩ | exact ⟨fun _ => rfl, fun j v' _ _ h => h⟩ | exact hj1 _ | exact ⟨fun _ => rfl, hj1 _⟩
                  · intro u W L hL hJ hD
                    have e3 : u 3 = .slice (some ⟨g, 0, none⟩) r cap := (hD.1 rfl (by decide)).2 ⟨by decide, by decide⟩
                    have e5 : u 5 = .int .i64 (m : Int) := (hD.2.1 rfl (by decide)).2 ⟨by decide, by decide⟩
                    have hil := HIM.out
                    have hcp := HCM.out
                    simp only [putAll, Act.put, List.setIfInBounds_toArray, List.set_cons_succ, List.set_cons_zero, Nat.zero_add, Nat.reduceAdd]
                    rw [e3, e5]
                    have hj1 := hJ.light (j := 6) (by decide) (by decide)
                    go_wp2
                    first | exact fun _ => rfl | exact ⟨fun _ => rfl, hj1 _, fun j v' _ _ h => h⟩ | exact ⟨_, rfl, fun _ => rfl, hj1 _, fun j v' _ _ h => h⟩ | exact ⟨fun _ => rfl, fun j v' _ _ h => h⟩ | exact hj1 _ | exact ⟨fun _ => rfl, hj1 _⟩
                  · intro u W L hL hJ hD
                    have e6 : u 6 = .pointer (some ⟨g, m * 7, none⟩) := (hD.1 rfl (by decide)).2 ⟨by decide, by decide⟩
                    simp only [putAll, Act.put, List.setIfInBounds_toArray, List.set_cons_succ, List.set_cons_zero, Nat.zero_add, Nat.reduceAdd]
                    rw [e6]
                    have hj1 := hJ.light (j := 7) (by decide) (by decide)
                    go_wp2
                    first | exact fun _ => rfl | exact ⟨fun _ => rfl, hj1 _, fun j v' _ _ h => h⟩ | exact ⟨_, rfl, fun _ => rfl, hj1 _, fun j v' _ _ h => h⟩ | exact ⟨fun _ => rfl, fun j v' _ _ h => h⟩ | exact hj1 _ | exact ⟨fun _ => rfl, hj1 _⟩
                  · intro u W L hL hJ hD
                    have e7 : u 7 = .pointer (some ⟨g, m * 7 + 6, none⟩) := (hD.1 rfl (by decide)).2 ⟨by decide, by decide⟩
                    obtain ⟨q8, hb⟩ := hJ.ahead (Or.inl rfl) hL
                    have l6 := HST.out W hb
                    simp only [putAll, Act.put, List.setIfInBounds_toArray, List.set_cons_succ, List.set_cons_zero, Nat.zero_add, Nat.reduceAdd]
                    rw [e7]
                    have hj1 := hJ.light (j := 8) (by decide) (by decide)
                    go_wp2
                    first | exact fun _ => rfl | exact ⟨fun _ => rfl, hj1 _, fun j v' _ _ h => h⟩ | exact ⟨_, rfl, fun _ => rfl, hj1 _, fun j v' _ _ h => h⟩ | exact ⟨fun _ => rfl, fun j v' _ _ h => h⟩ | exact hj1 _ | exact ⟨fun _ => rfl, hj1 _⟩
                  · intro u W L hL hJ hD
                    obtain ⟨q8, hb⟩ := hJ.ahead (Or.inr (Or.inl rfl)) hL
                    have vx := HVD.out.after hb
                    have m0 := vx.c0; have m1 := vx.c1; have m2 := vx.c2; have m3 := vx.c3; have m4 := vx.c4; have m5 := vx.c5
                    simp only [putAll, Act.put, List.setIfInBounds_toArray, List.set_cons_succ, List.set_cons_zero, Nat.zero_add, Nat.reduceAdd]
                    have hj1 := hJ.light (j := 9) (by decide) (by decide)
                    go_wp2
                    first | exact fun _ => rfl | exact ⟨fun _ => rfl, hj1 _, fun j v' _ _ h => h⟩ | exact ⟨_, rfl, fun _ => rfl, hj1 _, fun j v' _ _ h => h⟩ | exact ⟨fun _ => rfl, fun j v' _ _ h => h⟩ | exact hj1 _ | exact ⟨fun _ => rfl, hj1 _⟩
                  · intro u W L hL hJ hD
                    have e8 : u 8 = .slice al2 q.l.length cl2 := (hD.1 rfl (by decide)).2 ⟨by decide, by decide⟩
                    simp only [putAll, Act.put, List.setIfInBounds_toArray, List.set_cons_succ, List.set_cons_zero, Nat.zero_add, Nat.reduceAdd]
                    rw [e8]
                    have hj1 := hJ.light (j := 10) (by decide) (by decide)
                    go_wp2
                    first | exact fun _ => rfl | exact ⟨fun _ => rfl, hj1 _, fun j v' _ _ h => h⟩ | exact ⟨_, rfl, fun _ => rfl, hj1 _, fun j v' _ _ h => h⟩ | exact ⟨fun _ => rfl, fun j v' _ _ h => h⟩ | exact hj1 _ | exact ⟨fun _ => rfl, hj1 _⟩
                  · intro u W L hL hJ hD
                    have hj1 := hJ.made HZA.out (by decide) hL (fun e => by cases e)
                    simp only [putAll, Act.put, List.setIfInBounds_toArray, List.set_cons_succ, List.set_cons_zero, Nat.zero_add, Nat.reduceAdd]
                    go_wp2
                    first | exact (fun q => by first | exact absurd rfl q.1 | exact absurd rfl q.2) | exact ⟨(fun q => by first | exact absurd rfl q.1 | exact absurd rfl q.2), hj1, fun j v' _ _ h => h⟩ | exact ⟨_, rfl, (fun q => by first | exact absurd rfl q.1 | exact absurd rfl q.2), hj1, fun j v' _ _ h => h⟩ | exact ⟨(fun q => by first | exact absurd rfl q.1 | exact absurd rfl q.2), fun j v' _ _ h => h⟩ | exact hj1 | exact ⟨(fun q => by first | exact absurd rfl q.1 | exact absurd rfl q.2), hj1⟩
                  · intro u W L hL hJ hD
                    have e8 : u 8 = .slice al2 q.l.length cl2 := (hD.1 rfl (by decide)).2 ⟨by decide, by decide⟩
                    have h11 : L 11 = true := (hD.2.1 rfl (by decide)).1
                    have p8 : L 8 = true := (hD.1 rfl (by decide)).1
                    have pb : L 11 = true := (hD.2.1 rfl (by decide)).1
                    have p9 : L 9 = true := (hD.2.2.2.2.2.2.2.2.2.2.2.1 rfl (by decide)).1
                    obtain ⟨hb, hz⟩ := hJ.early hL
                    obtain ⟨h10, gz, ez, hzc⟩ := hz pb
                    have HCL := Lib.hid hzc
                    have HRW : Hid (RowK 41 6 W (f2 + 3) (.slice al2 q.l.length cl2) (q.l.map ItV.cells)) := Lib.hid (HRO.out.below hb)
                    have HSZ : Hid (f2 + 3 ≤ W.heap.size) := Lib.hid (Nat.le_trans HDQ.out.size hb.size)
                    clear hzc hz hb h10
                    simp only [putAll, Act.put, List.setIfInBounds_toArray, List.set_cons_succ, List.set_cons_zero, Nat.zero_add, Nat.reduceAdd]
                    rw [e8, ez]
                    go_wp2_with (at_builtin; (refine wp_rowK (T := 23) (t := 41) (sz := 6) rfl _ _ rfl Tryz.underlying23 info_item rfl (by decide) (by decide) (f2 + 3) _ _ rfl HRW.out gz zItem rfl rfl HCL.out HYO.out HL6.out HSZ.out ?_))
                    intro v' w' hr' ho' hob'
                    have hj1 := hJ.app HDQ.out hL p8 p9 pb hr' (by rw [HLV.out]; exact ho') (by rw [HLV.out]; exact hob')
                    clear hr' ho' hob'
                    go_wp2
                    first | exact (fun q => by first | exact absurd rfl q.1 | exact absurd rfl q.2) | exact ⟨(fun q => by first | exact absurd rfl q.1 | exact absurd rfl q.2), hj1, fun j v' _ _ h => h⟩ | exact ⟨_, rfl, (fun q => by first | exact absurd rfl q.1 | exact absurd rfl q.2), hj1, fun j v' _ _ h => h⟩ | exact ⟨(fun q => by first | exact absurd rfl q.1 | exact absurd rfl q.2), fun j v' _ _ h => h⟩ | exact hj1 | exact ⟨(fun q => by first | exact absurd rfl q.1 | exact absurd rfl q.2), hj1⟩
                · intro u W L hall hJ hT
                  have e0 : u 0 = .slice (some ⟨g, 0, none⟩) r cap := hT 0 (by decide) ⟨by decide, by decide⟩
                  have e2 : u 2 = .int .i64 (m : Int) := hT 2 (by decide) ⟨by decide, by decide⟩
                  have e9 : u 9 = .agg #[.string f.h.name, .slice aw nw cw, .bool true, .slice al f.l.length cl, .int .i64 f.h.a, .int .i64 f.h.b] := hT 9 (by decide) ⟨by decide, by decide⟩
                  have e10 : u 10 = .int .i64 (q.l.length : Int) := hT 10 (by decide) ⟨by decide, by decide⟩
                  obtain ⟨_, gl, kl, ea, q1, q2, r4, r6, r7⟩ := hJ.late (hall 12 (by decide))
                  have r5 := (HDQ.out.row).kept (w' := W) (fun b hb => by simp only [Value.ownBlock, Option.some.injEq] at hb; subst hb; exact r6 g (HDQ.out.row.lt rfl).2 (HDQ.out.lg q (List.mem_cons_self ..)))
                  rw [List.length_cons, HML.out] at r5
                  have HPU := Lib.hid (HDQ.out.push_z (x := f.h.it true (f.l.map ItV.x)) (wv := .slice aw nw cw) (kv := .slice al f.l.length cl) HML.out hJ.bel q1 q2 r4 r6 r7 HWP.out HKP.out rfl rfl)
                  have s0 : W.cell? ⟨g, m * 7 + 6, none⟩ = some _ := r5.at m 6 (by rw [stkV_len, List.length_cons, HML.out]; exact Nat.lt_succ_self _) (show 6 < 7 by decide)
                  have sq0 : W.frozen? ⟨g, m * 7 + 6, none⟩ = false := r5.free _
                  have hlm : (q.l.map ItV.cells).length = q.l.length := List.length_map ..
                  have hlt : q.l.length < (q.l.map ItV.cells ++ [zItem]).length := by rw [List.length_append, hlm]; exact Nat.lt_succ_self _
                  obtain ⟨W9, hW9⟩ : ∃ X, W.setCell ⟨g, m * 7 + 6, none⟩ (.slice (some ⟨gl, 0, none⟩) (q.l.length + 1) kl) = X := ⟨_, rfl⟩
                  have k4 := r4.kept (w' := W9) (fun b hb => by simp only [Value.ownBlock, Option.some.injEq] at hb; subst hb; rw [← hW9]; exact sset_else _ _ _ _ _ q2)
                  rw [hW9] at HPU
                  have y0 : W9.cell? ⟨gl, q.l.length * 6, none⟩ = some _ := k4.at q.l.length 0 hlt (show 0 < 6 by decide)
                  have y1 : W9.cell? ⟨gl, q.l.length * 6 + 1, none⟩ = some _ := k4.at q.l.length 1 hlt (show 1 < 6 by decide)
                  have y2 : W9.cell? ⟨gl, q.l.length * 6 + 2, none⟩ = some _ := k4.at q.l.length 2 hlt (show 2 < 6 by decide)
                  have y3 : W9.cell? ⟨gl, q.l.length * 6 + 3, none⟩ = some _ := k4.at q.l.length 3 hlt (show 3 < 6 by decide)
                  have y4 : W9.cell? ⟨gl, q.l.length * 6 + 4, none⟩ = some _ := k4.at q.l.length 4 hlt (show 4 < 6 by decide)
                  have y5 : W9.cell? ⟨gl, q.l.length * 6 + 5, none⟩ = some _ := k4.at q.l.length 5 hlt (show 5 < 6 by decide)
                  have yq0 : W9.frozen? ⟨gl, q.l.length * 6, none⟩ = false := k4.free _
                  have yq1 : W9.frozen? ⟨gl, q.l.length * 6 + 1, none⟩ = false := k4.free _
                  have yq2 : W9.frozen? ⟨gl, q.l.length * 6 + 2, none⟩ = false := k4.free _
                  have yq3 : W9.frozen? ⟨gl, q.l.length * 6 + 3, none⟩ = false := k4.free _
                  have yq4 : W9.frozen? ⟨gl, q.l.length * 6 + 4, none⟩ = false := k4.free _
                  have yq5 : W9.frozen? ⟨gl, q.l.length * 6 + 5, none⟩ = false := k4.free _
                  have hqi : (q.l.length : Int) < ((q.l.length + 1 : Nat) : Int) := by omega
                  have hqp : 0 ≤ (q.l.length : Int) := by omega
                  clear hlm hlt k4
                  have hil := HIM.out
                  have hcp := HCM.out
                  clear r4 r5 r6 r7 q1 q2
                  simp only [List.take_succ_cons, List.take_zero, List.drop_succ_cons, List.drop_zero, putAll, Act.put, List.setIfInBounds_toArray, List.set_cons_succ, List.set_cons_zero, Nat.zero_add, Nat.reduceAdd]
                  rw [e0, e2, e9, e10, ea]
                  clear e0 e2 ea hT hJ
                  go_wp2
                  have HF := Lib.hid (HEND.out _ _ HPU.out.1 HPU.out.2.1 HPU.out.2.2)
                  go_roundw
                  case rel => exact ⟨i + 1, n, _, none, _, g, cap, by omega, by rw [List.length_cons, HML.out, HRM.out], rfl, rfl, by go_num, HF.out⟩
                  case measure => simp [intOf]; omega
              | false =>
                go_wp2
                have HYO : Hid (∀ u ∈ ([.string f.h.name, .slice aw nw cw, .bool true, .slice al f.l.length cl, .int .i64 f.h.a, .int .i64 f.h.b] : List Value), u.oneCell' = true) := Lib.hid (itv_one (p := ⟨f.h.it true (f.l.map ItV.x), .slice aw nw cw, .slice al f.l.length cl⟩) rfl rfl)
                refine wp_region_mixv 12 (TQ 10 11 [.slice (some ⟨g, 0, none⟩) r cap, .int .i64 (r : Int), .int .i64 (m : Int), .slice (some ⟨g, 0, none⟩) r cap, .int .i64 (r : Int), .int .i64 (m : Int), .pointer (some ⟨g, m * 7, none⟩), .pointer (some ⟨g, m * 7 + 6, none⟩), .slice al2 q.l.length cl2, .agg #[.string f.h.name, .slice aw nw cw, .bool true, .slice al f.l.length cl, .int .i64 f.h.a, .int .i64 f.h.b], undef, undef]) (JQ A10 (f2 + 1) g q 10 11 [.string f.h.name, .slice aw nw cw, .bool true, .slice al f.l.length cl, .int .i64 f.h.a, .int .i64 f.h.b]) (by kernel_rfl) (by kernel_rfl) (fun u => JQ.start) ?_ ?_
                · simp only [List.take_succ_cons, List.take_zero]
                  refine (StepsU.cons ?_ (StepsU.cons ?_ (StepsU.cons ?_ (StepsU.cons ?_ (StepsU.cons ?_ (StepsU.cons ?_ (StepsU.cons ?_ (StepsU.cons ?_ (StepsU.cons ?_ (StepsU.cons ?_ (StepsU.cons ?_ (StepsU.cons ?_ StepsU.nil))))))))))))
                  · intro u W L hL hJ hD
                    simp only [putAll, Act.put, List.setIfInBounds_toArray, List.set_cons_succ, List.set_cons_zero, Nat.zero_add, Nat.reduceAdd]
                    have hj1 := hJ.light (j := 0) (by decide) (by decide)
                    go_wp2
                    first | exact fun _ => rfl | exact ⟨fun _ => rfl, hj1 _, fun j v' _ _ h => h⟩ | exact ⟨_, rfl, fun _ => rfl, hj1 _, fun j v' _ _ h => h⟩ | exact ⟨fun _ => rfl, fun j v' _ _ h => h⟩ | exact hj1 _ | exact ⟨fun _ => rfl, hj1 _⟩
                  · intro u W L hL hJ hD
                    simp only [putAll, Act.put, List.setIfInBounds_toArray, List.set_cons_succ, List.set_cons_zero, Nat.zero_add, Nat.reduceAdd]
                    have hj1 := hJ.light (j := 1) (by decide) (by decide)
                    go_wp2
                    first | exact fun _ => rfl | exact ⟨fun _ => rfl, hj1 _, fun j v' _ _ h => h⟩ | exact ⟨_, rfl, fun _ => rfl, hj1 _, fun j v' _ _ h => h⟩ | exact ⟨fun _ => rfl, fun j v' _ _ h => h⟩ | exact hj1 _ | exact ⟨fun _ => rfl, hj1 _⟩
                  · intro u W L hL hJ hD
                    have e1 : u 1 = .int .i64 (r : Int) := (hD.1 rfl (by decide)).2 ⟨by decide, by decide⟩
                    have htm := HTM.out
                    simp only [putAll, Act.put, List.setIfInBounds_toArray, List.set_cons_succ, List.set_cons_zero, Nat.zero_add, Nat.reduceAdd]
                    rw [e1]
                    have hj1 := hJ.light (j := 2) (by decide) (by decide)
                    go_wp2
                    first | exact fun _ => rfl | exact ⟨fun _ => rfl, hj1 _, fun j v' _ _ h => h⟩ | exact ⟨_, rfl, fun _ => rfl, hj1 _, fun j v' _ _ h => h⟩ | exact ⟨fun _ => rfl, fun j v' _ _ h => h⟩ | exact hj1 _ | exact ⟨fun _ => rfl, hj1 _⟩
                  · intro u W L hL hJ hD
                    simp only [putAll, Act.put, List.setIfInBounds_toArray, List.set_cons_succ, List.set_cons_zero, Nat.zero_add, Nat.reduceAdd]
                    have hj1 := hJ.light (j := 3) (by decide) (by decide)
                    go_wp2
                    first | exact fun _ => rfl | exact ⟨fun _ => rfl, hj1 _, fun j v' _ _ h => h⟩ | exact ⟨_, rfl, fun _ => rfl, hj1 _, fun j v' _ _ h => h⟩ | exact ⟨fun _ => rfl, fun j v' _ _ h => h⟩ | exact hj1 _ | exact ⟨fun _ => rfl, hj1 _⟩
                  · intro u W L hL hJ hD
                    simp only [putAll, Act.put, List.setIfInBounds_toArray, List.set_cons_succ, List.set_cons_zero, Nat.zero_add, Nat.reduceAdd]
                    have hj1 := hJ.light (j := 4) (by decide) (by decide)
                    go_wp2
                    first | exact fun _ => rfl | exact ⟨fun _ => rfl, hj1 _, fun j v' _ _ h => h⟩ | exact ⟨_, rfl, fun _ => rfl, hj1 _, fun j v' _ _ h => h⟩ | exact ⟨fun _ => rfl, fun j v' _ _ h => h⟩ | exact hj1 _ | exact ⟨fun _ => rfl, hj1 _⟩
                  · intro u W L hL hJ hD
                    have e4 : u 4 = .int .i64 (r : Int) := (hD.1 rfl (by decide)).2 ⟨by decide, by decide⟩
                    have htm := HTM.out
                    simp only [putAll, Act.put, List.setIfInBounds_toArray, List.set_cons_succ, List.set_cons_zero, Nat.zero_add, Nat.reduceAdd]
                    rw [e4]
                    have hj1 := hJ.light (j := 5) (by decide) (by decide)
                    go_wp2
                    first | exact fun _ => rfl | exact ⟨fun _ => rfl, hj1 _, fun j v' _ _ h => h⟩ | exact ⟨_, rfl, fun _ => rfl, hj1 _, fun j v' _ _ h => h⟩ | exact ⟨fun _ => rfl, fun j v' _ _ h => h⟩ | exact hj1 _ | exact ⟨fun _ => rfl, hj1 _⟩
                  · intro u W L hL hJ hD
                    have e3 : u 3 = .slice (some ⟨g, 0, none⟩) r cap := (hD.1 rfl (by decide)).2 ⟨by decide, by decide⟩
                    have e5 : u 5 = .int .i64 (m : Int) := (hD.2.1 rfl (by decide)).2 ⟨by decide, by decide⟩
                    have hil := HIM.out
                    have hcp := HCM.out
                    simp only [putAll, Act.put, List.setIfInBounds_toArray, List.set_cons_succ, List.set_cons_zero, Nat.zero_add, Nat.reduceAdd]
                    rw [e3, e5]
                    have hj1 := hJ.light (j := 6) (by decide) (by decide)
                    go_wp2
                    first | exact fun _ => rfl | exact ⟨fun _ => rfl, hj1 _, fun j v' _ _ h => h⟩ | exact ⟨_, rfl, fun _ => rfl, hj1 _, fun j v' _ _ h => h⟩ | exact ⟨fun _ => rfl, fun j v' _ _ h => h⟩ | exact hj1 _ | exact ⟨fun _ => rfl, hj1 _⟩
                  · intro u W L hL hJ hD
                    have e6 : u 6 = .pointer (some ⟨g, m * 7, none⟩) := (hD.1 rfl (by decide)).2 ⟨by decide, by decide⟩
                    simp only [putAll, Act.put, List.setIfInBounds_toArray, List.set_cons_succ, List.set_cons_zero, Nat.zero_add, Nat.reduceAdd]
                    rw [e6]
                    have hj1 := hJ.light (j := 7) (by decide) (by decide)
                    go_wp2
                    first | exact fun _ => rfl | exact ⟨fun _ => rfl, hj1 _, fun j v' _ _ h => h⟩ | exact ⟨_, rfl, fun _ => rfl, hj1 _, fun j v' _ _ h => h⟩ | exact ⟨fun _ => rfl, fun j v' _ _ h => h⟩ | exact hj1 _ | exact ⟨fun _ => rfl, hj1 _⟩
                  · intro u W L hL hJ hD
                    have e7 : u 7 = .pointer (some ⟨g, m * 7 + 6, none⟩) := (hD.1 rfl (by decide)).2 ⟨by decide, by decide⟩
                    obtain ⟨q8, hb⟩ := hJ.ahead (Or.inl rfl) hL
                    have l6 := HST.out W hb
                    simp only [putAll, Act.put, List.setIfInBounds_toArray, List.set_cons_succ, List.set_cons_zero, Nat.zero_add, Nat.reduceAdd]
                    rw [e7]
                    have hj1 := hJ.light (j := 8) (by decide) (by decide)
                    go_wp2
                    first | exact fun _ => rfl | exact ⟨fun _ => rfl, hj1 _, fun j v' _ _ h => h⟩ | exact ⟨_, rfl, fun _ => rfl, hj1 _, fun j v' _ _ h => h⟩ | exact ⟨fun _ => rfl, fun j v' _ _ h => h⟩ | exact hj1 _ | exact ⟨fun _ => rfl, hj1 _⟩
                  · intro u W L hL hJ hD
                    obtain ⟨q8, hb⟩ := hJ.ahead (Or.inr (Or.inl rfl)) hL
                    have vx := HVD.out.after hb
                    have m0 := vx.c0; have m1 := vx.c1; have m2 := vx.c2; have m3 := vx.c3; have m4 := vx.c4; have m5 := vx.c5
                    simp only [putAll, Act.put, List.setIfInBounds_toArray, List.set_cons_succ, List.set_cons_zero, Nat.zero_add, Nat.reduceAdd]
                    have hj1 := hJ.light (j := 9) (by decide) (by decide)
                    go_wp2
                    first | exact fun _ => rfl | exact ⟨fun _ => rfl, hj1 _, fun j v' _ _ h => h⟩ | exact ⟨_, rfl, fun _ => rfl, hj1 _, fun j v' _ _ h => h⟩ | exact ⟨fun _ => rfl, fun j v' _ _ h => h⟩ | exact hj1 _ | exact ⟨fun _ => rfl, hj1 _⟩
                  · intro u W L hL hJ hD
                    have e9 : u 9 = .agg #[.string f.h.name, .slice aw nw cw, .bool true, .slice al f.l.length cl, .int .i64 f.h.a, .int .i64 f.h.b] := (hD.1 rfl (by decide)).2 ⟨by decide, by decide⟩
                    have hj1 := hJ.made HZA.out (by decide) hL (fun _ => (hD.1 rfl (by decide)).1)
                    simp only [putAll, Act.put, List.setIfInBounds_toArray, List.set_cons_succ, List.set_cons_zero, Nat.zero_add, Nat.reduceAdd]
                    rw [e9]
                    go_wp2
                    first | exact (fun q => by first | exact absurd rfl q.1 | exact absurd rfl q.2) | exact ⟨(fun q => by first | exact absurd rfl q.1 | exact absurd rfl q.2), hj1, fun j v' _ _ h => h⟩ | exact ⟨_, rfl, (fun q => by first | exact absurd rfl q.1 | exact absurd rfl q.2), hj1, fun j v' _ _ h => h⟩ | exact ⟨(fun q => by first | exact absurd rfl q.1 | exact absurd rfl q.2), fun j v' _ _ h => h⟩ | exact hj1 | exact ⟨(fun q => by first | exact absurd rfl q.1 | exact absurd rfl q.2), hj1⟩
                  · intro u W L hL hJ hD
                    have e8 : u 8 = .slice al2 q.l.length cl2 := (hD.1 rfl (by decide)).2 ⟨by decide, by decide⟩
                    have h10 : L 10 = true := (hD.2.1 rfl (by decide)).1
                    have p8 : L 8 = true := (hD.1 rfl (by decide)).1
                    have pb : L 10 = true := (hD.2.1 rfl (by decide)).1
                    obtain ⟨hb, hz⟩ := hJ.early hL
                    obtain ⟨h10, gz, ez, hzc⟩ := hz pb
                    have p9 : L 9 = true := h10 rfl
                    have HCL := Lib.hid hzc
                    have HRW : Hid (RowK 41 6 W (f2 + 3) (.slice al2 q.l.length cl2) (q.l.map ItV.cells)) := Lib.hid (HRO.out.below hb)
                    have HSZ : Hid (f2 + 3 ≤ W.heap.size) := Lib.hid (Nat.le_trans HDQ.out.size hb.size)
                    clear hzc hz hb h10
                    simp only [putAll, Act.put, List.setIfInBounds_toArray, List.set_cons_succ, List.set_cons_zero, Nat.zero_add, Nat.reduceAdd]
                    rw [e8, ez]
                    go_wp2_with (at_builtin; (refine wp_rowK (T := 23) (t := 41) (sz := 6) rfl _ _ rfl Tryz.underlying23 info_item rfl (by decide) (by decide) (f2 + 3) _ _ rfl HRW.out gz [.string f.h.name, .slice aw nw cw, .bool true, .slice al f.l.length cl, .int .i64 f.h.a, .int .i64 f.h.b] rfl rfl HCL.out HYO.out HL6.out HSZ.out ?_))
                    intro v' w' hr' ho' hob'
                    have hj1 := hJ.app HDQ.out hL p8 p9 pb hr' (by rw [HLV.out]; exact ho') (by rw [HLV.out]; exact hob')
                    clear hr' ho' hob'
                    go_wp2
                    first | exact (fun q => by first | exact absurd rfl q.1 | exact absurd rfl q.2) | exact ⟨(fun q => by first | exact absurd rfl q.1 | exact absurd rfl q.2), hj1, fun j v' _ _ h => h⟩ | exact ⟨_, rfl, (fun q => by first | exact absurd rfl q.1 | exact absurd rfl q.2), hj1, fun j v' _ _ h => h⟩ | exact ⟨(fun q => by first | exact absurd rfl q.1 | exact absurd rfl q.2), fun j v' _ _ h => h⟩ | exact hj1 | exact ⟨(fun q => by first | exact absurd rfl q.1 | exact absurd rfl q.2), hj1⟩
                · intro u W L hall hJ hT
                  have e0 : u 0 = .slice (some ⟨g, 0, none⟩) r cap := hT 0 (by decide) ⟨by decide, by decide⟩
                  have e2 : u 2 = .int .i64 (m : Int) := hT 2 (by decide) ⟨by decide, by decide⟩
                  obtain ⟨_, gl, kl, ea, q1, q2, r4, r6, r7⟩ := hJ.late (hall 11 (by decide))
                  have r5 := (HDQ.out.row).kept (w' := W) (fun b hb => by simp only [Value.ownBlock, Option.some.injEq] at hb; subst hb; exact r6 g (HDQ.out.row.lt rfl).2 (HDQ.out.lg q (List.mem_cons_self ..)))
                  rw [List.length_cons, HML.out] at r5
                  have HPU := Lib.hid (HDQ.out.push_q (p := ⟨f.h.it true (f.l.map ItV.x), .slice aw nw cw, .slice al f.l.length cl⟩) HML.out hJ.bel q1 q2 r4 r6 r7 HWP.out HKP.out)
                  have s0 : W.cell? ⟨g, m * 7 + 6, none⟩ = some _ := r5.at m 6 (by rw [stkV_len, List.length_cons, HML.out]; exact Nat.lt_succ_self _) (show 6 < 7 by decide)
                  have sq0 : W.frozen? ⟨g, m * 7 + 6, none⟩ = false := r5.free _
                  have hil := HIM.out
                  have hcp := HCM.out
                  clear r4 r5 r6 r7 q1 q2
                  simp only [List.take_succ_cons, List.take_zero, List.drop_succ_cons, List.drop_zero, putAll, Act.put, List.setIfInBounds_toArray, List.set_cons_succ, List.set_cons_zero, Nat.zero_add, Nat.reduceAdd]
                  rw [e0, e2, ea]
                  clear e0 e2 ea hT hJ
                  go_wp2
                  have HF := Lib.hid (HEND.out _ _ HPU.out.1 HPU.out.2.1 HPU.out.2.2)
                  go_roundw
                  case rel => exact ⟨i + 1, n, _, none, _, g, cap, by omega, by rw [List.length_cons, HML.out, HRM.out], rfl, rfl, by go_num, HF.out⟩
                  case measure => simp [intOf]; omega
        · by_cases h0 : t.k = 0
          · by_cases hr0 : r = 0
            · have hR0 : R = [] := List.eq_nil_of_length_eq_zero (by rw [HRL.out]; exact hr0)
              subst hR0 hr0
              have k8b : (t.k == 8) = false := by simpa using h8
              have k0b : (t.k == 0) = true := by simpa using h0
              have HTR : Hid (trF T [({}, [])] 0 none = .ok (f.l.map ItV.x)) := Lib.hid (by rw [HSM6.out.run, HDR.out, trF, if_neg (fun e => h8 e.1), if_pos ⟨h0, rfl⟩]; rfl)
              have HIT : Hid (ItemsIs 5 A6 (fun b => f2 + 3 ≤ b ∧ b < A6.heap.size) f.lv (f.l.map ItV.x)) := Lib.hid (by
                obtain ⟨_, h2, _, _⟩ := HSM6.out.dm.ents
                exact h2.items (d := 4) (fun b hb => ⟨(HSM6.out.dm.sin b hb).1, (HSM6.out.dm.sin b hb).2.1⟩) (fun b hb => h2.row.lt hb))
              have l6 := HSM6.out.dm.row.at 0 6 (by rw [stkV_len]; exact Nat.one_pos) (by decide)
              have l6' : A6.cell? ⟨g, 6, none⟩ = some f.lv := l6
              have HPK : Hid (∀ b, b ≠ B → (put3 A6 B (.int .i64 0) (.int .i64 0) (.int .i64 0)).heap[b]? = A6.heap[b]?) := Lib.hid (fun b hb => by unfold put3; rw [sset_else _ _ _ _ _ hb, sset_else _ _ _ _ _ hb, sset_else _ _ _ _ _ hb])
              have HPZ : Hid ((put3 A6 B (.int .i64 0) (.int .i64 0) (.int .i64 0)).heap.size = A6.heap.size) := Lib.hid (by unfold put3; simp)
              clear h8 h0 l6
              go_wp2
              refine bodyPost_ret (sparse_results (x := .int .i64 0) (y := .int .i64 0) (z := .int .i64 0) (u := f.lv) (HR6.out.put _ _ _) rfl rfl) rfl ?_
              refine ⟨HB.out ▸ below_put3 HW6.out HRB.out.1 _ _ _, Or.inr ⟨_, _, HTR.out, rfl, ?_⟩⟩
              refine ItemsIs.keep HIT.out (fun b hb => ⟨by have := HRB.out.2; have := HB.out; omega, ?_⟩) (fun b hb => HPK.out b (by have := HRB.out.2; omega))
              show b < (put3 A6 B (.int .i64 0) (.int .i64 0) (.int .i64 0)).heap.size
              rw [HPZ.out]; exact hb.2
            · have hrz : ((r : Int) == 0) = false := by simp; omega
              have k8b : (t.k == 8) = false := by simpa using (show t.k ≠ 8 by omega)
              have k0b : (t.k == 0) = true := by simpa using (show t.k = 0 by omega)
              have k1b : (t.k != 1) = true := by simpa using (show t.k ≠ 1 by omega)
              have HTR : Hid (trF (t :: T.drop (i + 1)) ((f :: R).map En.st) n none = .error (6, t.a, t.b)) := Lib.hid (by rw [trF, if_neg (fun e => by have e2 := e.2; rw [List.length_map, List.length_cons, HRL.out] at e2; omega), if_neg (fun e => by have e2 := e.2; rw [List.length_map, List.length_cons, HRL.out] at e2; omega), if_pos (by omega)])
              clear h8 h0
              go_wp2
              go_region
              go_wp2
              refine bodyPost_ret (sparse_results (x := .int .i64 6) (y := .int .i64 t.a) (z := .int .i64 t.b) (u := .slice none 0 0) ((HR6.out.put _ _ _).after ((Below.refl _ _).drew)) rfl rfl) rfl ?_
              exact ⟨HB.out ▸ (below_put3 HW6.out HRB.out.1 _ _ _).drew, Or.inl ⟨6, t.a, t.b, by rw [HSM6.out.run, HDR.out]; exact HTR.out, rfl⟩⟩
          · have k8b : (t.k == 8) = false := by simpa using h8
            have k0b : (t.k == 0) = false := by simpa using h0
            by_cases h1 : t.k = 1
            · have k1b : (t.k != 1) = false := by simpa using h1
              by_cases hr4 : 4 ≤ r
              · have hrz : (4 : Int) ≤ (r : Int) := by omega
                have HTR : Hid (trF (t :: T.drop (i + 1)) ((f :: R).map En.st) n none = .error (19, t.a, t.b)) := Lib.hid (by rw [trF, if_neg (fun e => h8 e.1), if_neg (fun e => h0 e.1), if_neg (by omega), if_pos (by rw [List.length_map, List.length_cons, HRL.out]; omega)])
                clear h8 h0 h1 hr4
                go_wp2
                go_region
                go_wp2
                refine bodyPost_ret (sparse_results (x := .int .i64 19) (y := .int .i64 t.a) (z := .int .i64 t.b) (u := .slice none 0 0) ((HR6.out.put _ _ _).after ((Below.refl _ _).drew)) rfl rfl) rfl ?_
                exact ⟨HB.out ▸ (below_put3 HW6.out HRB.out.1 _ _ _).drew, Or.inl ⟨19, t.a, t.b, by rw [HSM6.out.run, HDR.out]; exact HTR.out, rfl⟩⟩
              · have hrz : ¬ (4 : Int) ≤ (r : Int) := by omega
                by_cases hn3 : 300 ≤ n
                · have hnz : (300 : Int) ≤ (n : Int) := by omega
                  have HTR : Hid (trF (t :: T.drop (i + 1)) ((f :: R).map En.st) n none = .error (9, t.a, t.b)) := Lib.hid (by rw [trF, if_neg (fun e => h8 e.1), if_neg (fun e => h0 e.1), if_neg (by omega), if_neg (by rw [List.length_map, List.length_cons, HRL.out]; omega), if_pos hn3])
                  clear h8 h0 h1 hr4 hn3
                  go_wp2
                  go_region
                  go_wp2
                  refine bodyPost_ret (sparse_results (x := .int .i64 9) (y := .int .i64 t.a) (z := .int .i64 t.b) (u := .slice none 0 0) ((HR6.out.put _ _ _).after ((Below.refl _ _).drew)) rfl rfl) rfl ?_
                  exact ⟨HB.out ▸ (below_put3 HW6.out HRB.out.1 _ _ _).drew, Or.inl ⟨9, t.a, t.b, by rw [HSM6.out.run, HDR.out]; exact HTR.out, rfl⟩⟩
                · have hnz : ¬ (300 : Int) ≤ (n : Int) := by omega
                  have hn1 : IntKind.i64.wrap ((n : Int) + 1) = ((n + 1 : Nat) : Int) := by rw [IntKind.wrap_i64]; omega
                  obtain ⟨x0, x1, x2, x3, x4, x5, hvx⟩ := HSM6.out.xm
                  have HVX := Lib.hid hvx
                  have HFIN : Hid (∀ W, SM T (f2 + 1) W6 S g cap (f :: R) none n i W → Var6 W (f2 + 2) x0 x1 x2 x3 x4 x5 → SM T (f2 + 1) W6 S g cap (f :: R) (some { name := t.s, a := t.a, b := t.b }) (n + 1) (i + 1) (put6 W (f2 + 2) (.string t.s) (.slice none 0 0) (.bool false) (.slice none 0 0) (.int .i64 t.a) (.int .i64 t.b))) := Lib.hid (fun W hs hv => by
                    have hk : ∀ b, b ≠ f2 + 2 → (put6 W (f2 + 2) (.string t.s) (.slice none 0 0) (.bool false) (.slice none 0 0) (.int .i64 t.a) (.int .i64 t.b)).heap[b]? = W.heap[b]? := fun b hb => put6_else _ _ _ _ _ _ _ _ _ hb
                    have hz := Nat.le_of_eq (put6_size W (f2 + 2) (.string t.s) (.slice none 0 0) (.bool false) (.slice none 0 0) (.int .i64 t.a) (.int .i64 t.b)).symm
                    refine ⟨hs.dm.var (fun b _ hb => hk b hb) hz, ⟨none, 0, 0, hv.put _ _ _ _ _ _, WordsIs.none' _ _ _ _⟩, below_put6 hs.bel (by omega) _ _ _ _ _ _, ?_, by omega, ⟨hs.deep.1, hs.deep.2.1, fun _ => by rw [List.length_cons, HRL.out]; omega⟩, fun e he => by have := hs.lens e he; omega⟩
                    rw [hs.run, HDR.out, trF, if_neg (fun e => h8 e.1), if_neg (fun e => h0 e.1), if_neg (by omega), if_neg (by rw [List.length_map, List.length_cons, HRL.out]; omega), if_neg hn3])
                  clear hvx h8 h0 h1 hr4 hn3
                  go_wp2
                  have HIL : Hid ((i : Int) < (N : Int)) := Lib.hid (by omega)
                  have HCP : Hid (0 ≤ (i : Int)) := Lib.hid (by omega)
                  have HSIZ : Hid (f2 + 1 ≤ A6.heap.size) := Lib.hid (by have := HSM6.out.dm.size; omega)
                  refine wp_region_mix 7 (TLz [.slice (some ⟨tb, toff, none⟩) N cv, .int .i64 (i : Int), .pointer (some ⟨tb, toff + i * 5, none⟩), .pointer (some ⟨tb, toff + i * 5 + 1, none⟩), .string t.s, .agg #[.int .i64 t.a, .int .i64 t.b], .agg #[.string t.s, .slice none 0 0, .bool false, .slice none 0 0, .int .i64 t.a, .int .i64 t.b]]) (fun _ => false) (by kernel_rfl) (by kernel_rfl) (fun _ _ _ _ h _ => h) (fun _ _ _ h => by cases h) ?_ ?_
                  · simp only [List.take_succ_cons, List.take_zero]
                    refine (StepsAll.cons ?_ (StepsAll.cons ?_ (StepsAll.cons ?_ (StepsAll.cons ?_ (StepsAll.cons ?_ (StepsAll.cons ?_ (StepsAll.cons ?_ StepsAll.nil)))))))
                    · intro u W hb hd
                      simp only [putAll, Act.put, List.setIfInBounds_toArray, List.set_cons_succ, List.set_cons_zero, Nat.zero_add, Nat.reduceAdd]
                      go_wp2
                      first | exact ⟨rfl, Below.refl _ _⟩ | exact ⟨_, rfl, rfl, Below.refl _ _, fun h => by simp at h⟩ | exact ⟨_, rfl, rfl, Below.refl _ _⟩ | exact ⟨rfl, Below.refl _ _, fun h => by simp at h⟩
                    · intro u W hb hd
                      simp only [putAll, Act.put, List.setIfInBounds_toArray, List.set_cons_succ, List.set_cons_zero, Nat.zero_add, Nat.reduceAdd]
                      go_wp2
                      first | exact ⟨rfl, Below.refl _ _⟩ | exact ⟨_, rfl, rfl, Below.refl _ _, fun h => by simp at h⟩ | exact ⟨_, rfl, rfl, Below.refl _ _⟩ | exact ⟨rfl, Below.refl _ _, fun h => by simp at h⟩
                    · intro u W hb hd
                      have e0 : u 0 = .slice (some ⟨tb, toff, none⟩) N cv := hd.1 rfl (by decide)
                      have e1 : u 1 = .int .i64 (i : Int) := hd.2.1 rfl (by decide)
                      have hil := HIL.out
                      have hcp := HCP.out
                      simp only [putAll, Act.put, List.setIfInBounds_toArray, List.set_cons_succ, List.set_cons_zero, Nat.zero_add, Nat.reduceAdd]
                      rw [e0, e1]
                      go_wp2
                      first | exact ⟨rfl, Below.refl _ _⟩ | exact ⟨_, rfl, rfl, Below.refl _ _, fun h => by simp at h⟩ | exact ⟨_, rfl, rfl, Below.refl _ _⟩ | exact ⟨rfl, Below.refl _ _, fun h => by simp at h⟩
                    · intro u W hb hd
                      have e0 : u 2 = .pointer (some ⟨tb, toff + i * 5, none⟩) := hd.1 rfl (by decide)
                      simp only [putAll, Act.put, List.setIfInBounds_toArray, List.set_cons_succ, List.set_cons_zero, Nat.zero_add, Nat.reduceAdd]
                      rw [e0]
                      go_wp2
                      first | exact ⟨rfl, Below.refl _ _⟩ | exact ⟨_, rfl, rfl, Below.refl _ _, fun h => by simp at h⟩ | exact ⟨_, rfl, rfl, Below.refl _ _⟩ | exact ⟨rfl, Below.refl _ _, fun h => by simp at h⟩
                    · intro u W hb hd
                      have e0 : u 3 = .pointer (some ⟨tb, toff + i * 5 + 1, none⟩) := hd.1 rfl (by decide)
                      obtain ⟨m0, m1, m2, m3, m4⟩ := HTC.out W (HSM6.out.bel.trans (hb.mono HSIZ.out))
                      simp only [putAll, Act.put, List.setIfInBounds_toArray, List.set_cons_succ, List.set_cons_zero, Nat.zero_add, Nat.reduceAdd]
                      rw [e0]
                      go_wp2
                      first | exact ⟨rfl, Below.refl _ _⟩ | exact ⟨_, rfl, rfl, Below.refl _ _, fun h => by simp at h⟩ | exact ⟨_, rfl, rfl, Below.refl _ _⟩ | exact ⟨rfl, Below.refl _ _, fun h => by simp at h⟩
                    · intro u W hb hd
                      have va := HA6.out.after hb
                      have m0 := va.c0
                      have m1 := va.c1
                      simp only [putAll, Act.put, List.setIfInBounds_toArray, List.set_cons_succ, List.set_cons_zero, Nat.zero_add, Nat.reduceAdd]
                      go_wp2
                      first | exact ⟨rfl, Below.refl _ _⟩ | exact ⟨_, rfl, rfl, Below.refl _ _, fun h => by simp at h⟩ | exact ⟨_, rfl, rfl, Below.refl _ _⟩ | exact ⟨rfl, Below.refl _ _, fun h => by simp at h⟩
                    · intro u W hb hd
                      have e0 : u 4 = .string t.s := hd.1 rfl (by decide)
                      have e1 : u 5 = .agg #[.int .i64 t.a, .int .i64 t.b] := hd.2.1 rfl (by decide)
                      simp only [putAll, Act.put, List.setIfInBounds_toArray, List.set_cons_succ, List.set_cons_zero, Nat.zero_add, Nat.reduceAdd]
                      rw [e0, e1]
                      go_wp2
                      first | exact ⟨rfl, Below.refl _ _⟩ | exact ⟨_, rfl, rfl, Below.refl _ _, fun h => by simp at h⟩ | exact ⟨_, rfl, rfl, Below.refl _ _⟩ | exact ⟨rfl, Below.refl _ _, fun h => by simp at h⟩
                  · intro u W hb hT _
                    have e0 : u 0 = .slice (some ⟨tb, toff, none⟩) N cv := hT 0 (by decide)
                    have e1 : u 1 = .int .i64 (i : Int) := hT 1 (by decide)
                    have e2 : u 2 = .pointer (some ⟨tb, toff + i * 5, none⟩) := hT 2 (by decide)
                    have e3 : u 3 = .pointer (some ⟨tb, toff + i * 5 + 1, none⟩) := hT 3 (by decide)
                    have e4 : u 4 = .string t.s := hT 4 (by decide)
                    have e5 : u 5 = .agg #[.int .i64 t.a, .int .i64 t.b] := hT 5 (by decide)
                    have e6 : u 6 = .agg #[.string t.s, .slice none 0 0, .bool false, .slice none 0 0, .int .i64 t.a, .int .i64 t.b] := hT 6 (by decide)
                    have vx := HVX.out.after hb
                    have p0 := vx.c0; have p1 := vx.c1; have p2 := vx.c2; have p3 := vx.c3; have p4 := vx.c4; have p5 := vx.c5; have pq := vx.q
                    have HVW := Lib.hid vx
                    have HSW := Lib.hid (HSM6.out.after hb)
                    simp only [List.take_succ_cons, List.take_zero, List.drop_succ_cons, List.drop_zero, putAll, Act.put, List.setIfInBounds_toArray, List.set_cons_succ, List.set_cons_zero, Nat.zero_add, Nat.reduceAdd]
                    rw [e0, e1, e2, e3, e4, e5, e6]
                    clear e0 e1 e2 e3 e4 e5 e6 hT hb vx
                    go_wp2
                    go_roundw
                    case rel => exact ⟨i + 1, n + 1, f :: R, _, S, g, cap, by omega, by rw [List.length_cons, HRL.out], by go_num, rfl, by go_num, HFIN.out W HSW.out HVW.out⟩
                    case measure => simp [intOf]; omega
            · have k1b : (t.k != 1) = true := by simpa using h1
              have HTR : Hid (trF (t :: T.drop (i + 1)) ((f :: R).map En.st) n none = .error (6, t.a, t.b)) := Lib.hid (by rw [trF, if_neg (fun e => h8 e.1), if_neg (fun e => h0 e.1), if_pos h1])
              clear h8 h0 h1
              go_wp2
              go_region
              go_wp2
              refine bodyPost_ret (sparse_results (x := .int .i64 6) (y := .int .i64 t.a) (z := .int .i64 t.b) (u := .slice none 0 0) ((HR6.out.put _ _ _).after ((Below.refl _ _).drew)) rfl rfl) rfl ?_
              exact ⟨HB.out ▸ (below_put3 HW6.out HRB.out.1 _ _ _).drew, Or.inl ⟨6, t.a, t.b, by rw [HSM6.out.run, HDR.out]; exact HTR.out, rfl⟩⟩
    · have en : N = i := by omega
      subst en
      have HRW := Lib.hid (HVR.out wr HSM.out.bel)
      have HWW := Lib.hid (HGW.out.trans (HSM.out.bel.mono (by have := HRB.out.2; omega)))
      have r0 := HRW.out.c0; have r1 := HRW.out.c1; have r2 := HRW.out.c2; have rq0 := HRW.out.q0; have rq1 := HRW.out.q1; have rq2 := HRW.out.q2
      have HTR : Hid (trF T [({}, [])] 0 none = .ok []) := Lib.hid (by rw [HSM.out.run, List.drop_of_length_le (by rw [HN.out]; exact Nat.le_refl _), trF])
      go_wp2
      refine bodyPost_ret (sparse_results (x := .int .i64 0) (y := .int .i64 0) (z := .int .i64 0) (u := .slice none 0 0) (HRW.out.put _ _ _) rfl rfl) rfl ?_
      exact ⟨HB.out ▸ below_put3 HWW.out HRB.out.1 _ _ _, Or.inr ⟨[], _, HTR.out, rfl, ItemsIs.none' _ _ _ _ _⟩⟩

end Go.Proofs.YthfmllgflnideaaGreatDoor
