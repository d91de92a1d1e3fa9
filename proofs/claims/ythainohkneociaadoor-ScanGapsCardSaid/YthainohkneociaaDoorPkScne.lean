/-
  The document's tokens: a token's five cells; a word's value, walked.
-/
import Derived.Test.YthainohkneociaaDoorPkScnb
import Derived.Test.YthainohkneociaaDoorPkScnD
import Derived.Test.YthainohkneociaaDoorPkTexts
import Derived.Test.YthainohkneociaaDoorPkPpmr
import Derived.Test.YthainohkneociaaDoorPkSpanr
import Derived.Test.YthainohkneociaaDoorPkVrs
import Derived.Test.YthainohkneociaaDoorPkTxtV
namespace Go.Proofs.YthainohkneociaaDoor
open Go.RowKit

/-- A token's value, at a place. -/
def tkAt (t : TkV) (a b : Int) : Value := .agg #[.int .i64 (t.kind : Int), .string (strOfNums t.text), .int .u64 (t.n : Int), .int .i64 a, .int .i64 b]
/-- Five cells. -/
structure Var5 (W : World) (p : Nat) (x0 x1 x2 x3 x4 : Value) : Prop where
  c0 : W.cell? ⟨p, 0, none⟩ = some x0
  c1 : W.cell? ⟨p, 1, none⟩ = some x1
  c2 : W.cell? ⟨p, 2, none⟩ = some x2
  c3 : W.cell? ⟨p, 3, none⟩ = some x3
  c4 : W.cell? ⟨p, 4, none⟩ = some x4
  q : ∀ i, W.frozen? ⟨p, i, none⟩ = false
  s : p < W.heap.size
theorem Var5.fresh (W : World) (x0 x1 x2 x3 x4 : Value) (t : TypeId) (p : Nat) (hp : p = W.heap.size) : Var5 (W.alloc (.cells #[x0, x1, x2, x3, x4] t)) p x0 x1 x2 x3 x4 := by
  subst hp
  exact ⟨by simp, by simp, by simp, by simp, by simp, fun i => by simp [go_sem], by simp⟩
theorem Var5.stay {W W' : World} {p : Nat} {x0 x1 x2 x3 x4 : Value} (h : Var5 W p x0 x1 x2 x3 x4) (e : W'.heap[p]? = W.heap[p]?) (hs : W.heap.size ≤ W'.heap.size) : Var5 W' p x0 x1 x2 x3 x4 :=
  ⟨(World.cell?_of_block e).trans h.c0, (World.cell?_of_block e).trans h.c1, (World.cell?_of_block e).trans h.c2, (World.cell?_of_block e).trans h.c3, (World.cell?_of_block e).trans h.c4, fun i => (World.frozen?_of_block e).trans (h.q i), Nat.lt_of_lt_of_le h.s hs⟩
theorem Var5.after {W W' : World} {p : Nat} {x0 x1 x2 x3 x4 : Value} (h : Var5 W p x0 x1 x2 x3 x4) (hb : Below W.heap.size W W') : Var5 W' p x0 x1 x2 x3 x4 := h.stay (hb.block p h.s) hb.size
/-- Five cells stored. -/
def put5 (W : World) (p : Nat) (y0 y1 y2 y3 y4 : Value) : World := ((((W.setCell ⟨p, 0, none⟩ y0).setCell ⟨p, 1, none⟩ y1).setCell ⟨p, 2, none⟩ y2).setCell ⟨p, 3, none⟩ y3).setCell ⟨p, 4, none⟩ y4
theorem Var5.put {W : World} {p : Nat} {x0 x1 x2 x3 x4 : Value} (h : Var5 W p x0 x1 x2 x3 x4) (y0 y1 y2 y3 y4 : Value) : Var5 (put5 W p y0 y1 y2 y3 y4) p y0 y1 y2 y3 y4 := by
  obtain ⟨c0, c1, c2, c3, c4, q, s⟩ := h
  unfold put5
  refine ⟨?_, ?_, ?_, ?_, ?_, fun i => ?_, ?_⟩ <;> simp [go_sem, *]
theorem put5_size (W : World) (p : Nat) (y0 y1 y2 y3 y4 : Value) : (put5 W p y0 y1 y2 y3 y4).heap.size = W.heap.size := by
  unfold put5
  simp
theorem below_put5 {B : Nat} {w W : World} (h : Below B w W) {p : Nat} (hp : B ≤ p) (y0 y1 y2 y3 y4 : Value) : Below B w (put5 W p y0 y1 y2 y3 y4) := ((((h.setCell hp _).setCell hp _).setCell hp _).setCell hp _).setCell hp _
theorem load_tok {W : World} {g : Nat} {x0 x1 x2 x3 x4 : Value} (h : Var5 W g x0 x1 x2 x3 x4) : (loadVar 27 ⟨g, 0, none⟩).run Tryd.prog W = .ok (.agg #[x0, x1, x2, x3, x4]) W := by
  obtain ⟨c0, c1, c2, c3, c4, _, _⟩ := h
  go_simp
set_option maxRecDepth 100000 in
theorem svalue_results {W : World} {g : Nat} {x0 x1 x2 x3 x4 u : Value} {tmps : Array Value} (h : Var5 W g x0 x1 x2 x3 x4) (h2 : tmps.getD 2 undef = .pointer (some ⟨g, 0, none⟩)) (h3 : tmps.getD 3 undef = u) : (results Tryd.f9 tmps).run Tryd.prog W = .ok (.tuple #[.agg #[x0, x1, x2, x3, x4], u]) W := by
  have e : (asAddr (Value.pointer (some ⟨g, 0, none⟩))).run Tryd.prog W = .ok ⟨g, 0, none⟩ W := rfl
  have hr : Tryd.f9.results = #[.cell 2 27, .tmp 3] := rfl
  have q2 : tmps[2]?.getD undef = .pointer (some ⟨g, 0, none⟩) := by simpa using h2
  have q3 : tmps[3]?.getD undef = u := by simpa using h3
  simp only [results, hr]
  simp [Sem.run_bind, Result.andThen, q2, q3, e, load_tok h]

/-- What Value gives. -/
def GivesTk (t : TkV) (c : Int) (w : World) (e : Ending) (w' : World) : Prop := e = .returned (.tuple #[tkAt t 0 0, .int .i64 c]) ∧ Below w.heap.size w w'
theorem strNil : strOfNums [] = ⟨#[]⟩ := by rfl

set_option maxRecDepth 100000 in
set_option maxHeartbeats 4000000 in
/-- A word that doesn't begin with a digit. -/
theorem svalue_name (v : Value) (l : List Int) (w : World) (hv : Ints .i32 w v l) (hok : RunesOk l) (hl : l.length ≤ 1000000) (hd : l = [] ∨ digitB (l.getD 0 0) = false) :
    Calls Tryd.prog 9 #[v] w (GivesTk (valF l).1 (valF l).2 w) := by
  have hsz : (strOfNums (textR l)).size ≤ 4000000 := by
    rw [pstr_len]
    have := textR_len l
    omega
  have hnu : nums (strOfNums (textR l)) = textR l := nums_strOfNums _ (textR_byte hok.bd)
  have HNM := Lib.hid (fun W => rname_any (strOfNums (textR l)) W (by omega))
  rw [hnu, runes_text hok] at HNM
  have V0 := Var5.fresh w (.int .i64 0) (.string ⟨#[]⟩) (.int .u64 0) (.int .i64 0) (.int .i64 0) 27 w.heap.size rfl
  have g0 : Below w.heap.size w (w.alloc (.cells #[.int .i64 0, .string ⟨#[]⟩, .int .u64 0, .int .i64 0, .int .i64 0] 27)) := (Below.refl _ _).alloc (Nat.le_refl _) _
  have HTX := Lib.hid (fun W (hb : Below w.heap.size w W) => stext_any v l W (hv.below hb) hok.bd hl)
  have HV0 := Lib.hid (fun W (hb : Below w.heap.size w W) => hv.below hb)
  obtain ⟨S, hS⟩ : ∃ S, strOfNums (textR l) = S := ⟨_, rfl⟩
  have HS := Lib.hid hS
  rw [hS] at HNM HTX hsz
  have HD := Lib.hid (fun r W => sdigit_any r W)
  obtain ⟨b, off, cap, rfl, hcap, hb, hcell⟩ := hv
  have G0 := Lib.hid g0
  have HV := Lib.hid V0
  obtain ⟨W0, hW0⟩ : ∃ W, w.alloc (.cells #[.int .i64 0, .string ⟨#[]⟩, .int .u64 0, .int .i64 0, .int .i64 0] 27) = W := ⟨_, rfl⟩
  rw [hW0] at G0 HV
  have HC := Lib.hid hcell
  have hval : ∀ q : Bool, (q = true ↔ NameL l) → valF l = if q then (⟨1, textR l, 0⟩, 0) else (tk0, 5) := fun q hq => by
    by_cases hn : NameL l
    · rw [valF_name hd hn, if_pos (hq.mpr hn)]
    · rw [valF_none hd hn, if_neg (fun e => hn (hq.mp e))]
  have HVAL := Lib.hid hval
  by_cases h0 : l.length = 0
  · rw [h0] at HTX ⊢
    clear hd g0 V0 hS hnu hok hl hcap hcell hval h0 HV0 HD
    go_enter Tryd.func9, Tryd.ntmps9
    go_wp2_with (first
      | (go_at_call 18; (with_reducible refine (HTX.out _ G0.out).mono ?_); rintro e w1 ⟨rfl, h1⟩; have V1 := Lib.hid (HV.out.after h1); have G1 := Lib.hid (below_step G0.out h1); clear h1)
      | (go_at_call 19; (with_reducible refine (HNM.out _).mono ?_); rintro e w2 ⟨q, rfl, hq, h2⟩; have HQ := Lib.hid hq; have V2 := Lib.hid (V1.out.after h2); have G2 := Lib.hid (below_step G1.out h2); clear hq h2; have c0 := V2.out.c0; have c1 := V2.out.c1; have c2 := V2.out.c2; have c3 := V2.out.c3; have c4 := V2.out.c4; have q0 := V2.out.q 0; have q1 := V2.out.q 1; have q2 := V2.out.q 2; have q3 := V2.out.q 3; have q4 := V2.out.q 4))
    · rename_i hq
      subst hq
      refine bodyPost_ret (svalue_results (x0 := .int .i64 1) (x1 := .string S) (x2 := .int .u64 0) (x3 := .int .i64 0) (x4 := .int .i64 0) (u := .int .i64 0) (V2.out.put _ _ _ _ _) rfl rfl) rfl ?_
      exact ⟨by rw [HVAL.out true HQ.out, ← HS.out]; rfl, below_put5 G2.out (Nat.le_refl _) _ _ _ _ _⟩
    · rename_i hq
      subst hq
      refine bodyPost_ret (svalue_results (x0 := .int .i64 0) (x1 := .string ⟨#[]⟩) (x2 := .int .u64 0) (x3 := .int .i64 0) (x4 := .int .i64 0) (u := .int .i64 5) (V2.out.put _ _ _ _ _) rfl rfl) rfl ?_
      exact ⟨by rw [HVAL.out false HQ.out]; rfl, below_put5 G2.out (Nat.le_refl _) _ _ _ _ _⟩
  · have hd2 : digitB (l.getD 0 0) = false := by
      rcases hd with rfl | h
      · exact (h0 rfl).elim
      · exact h
    have hx := hcell 0 (by omega)
    obtain ⟨z, hz⟩ : ∃ z, l.getD 0 0 = z := ⟨_, rfl⟩
    rw [hz] at hx hd2
    have HX := Lib.hid hx
    have HD2 := Lib.hid (fun W => sdigit_is hd2 W)
    obtain ⟨n, hn⟩ : ∃ n, l.length = n := ⟨_, rfl⟩
    have h0' : ¬ (n : Int) = 0 := by omega
    rw [hn] at HTX hl hcap ⊢
    clear hd g0 V0 hS hnu hok hcell hval HV0 HD hd2 hz hx hn
    go_enter Tryd.func9, Tryd.ntmps9
    go_wp2_with (first
      | (go_at_call 18; (with_reducible refine (HTX.out _ G0.out).mono ?_); rintro e w1 ⟨rfl, h1⟩; have V1 := Lib.hid (HV.out.after h1); have G1 := Lib.hid (below_step G0.out h1); clear h1; have x1 : w1.cell? ⟨b, off, none⟩ = some (.int .i32 z) := (G1.out.cell (p := ⟨b, off, none⟩) hb).trans HX.out)
      | (go_at_call 17; (with_reducible refine (HD2.out _).mono ?_); rintro e w1' ⟨rfl, rfl⟩)
      | (go_at_call 19; (with_reducible refine (HNM.out _).mono ?_); rintro e w2 ⟨q, rfl, hq, h2⟩; have HQ := Lib.hid hq; have V2 := Lib.hid (V1.out.after h2); have G2 := Lib.hid (below_step G1.out h2); clear hq h2; have c0 := V2.out.c0; have c1 := V2.out.c1; have c2 := V2.out.c2; have c3 := V2.out.c3; have c4 := V2.out.c4; have q0 := V2.out.q 0; have q1 := V2.out.q 1; have q2 := V2.out.q 2; have q3 := V2.out.q 3; have q4 := V2.out.q 4))
    · rename_i hq
      subst hq
      refine bodyPost_ret (svalue_results (x0 := .int .i64 1) (x1 := .string S) (x2 := .int .u64 0) (x3 := .int .i64 0) (x4 := .int .i64 0) (u := .int .i64 0) (V2.out.put _ _ _ _ _) rfl rfl) rfl ?_
      exact ⟨by rw [HVAL.out true HQ.out, ← HS.out]; rfl, below_put5 G2.out (Nat.le_refl _) _ _ _ _ _⟩
    · rename_i hq
      subst hq
      refine bodyPost_ret (svalue_results (x0 := .int .i64 0) (x1 := .string ⟨#[]⟩) (x2 := .int .u64 0) (x3 := .int .i64 0) (x4 := .int .i64 0) (u := .int .i64 5) (V2.out.put _ _ _ _ _) rfl rfl) rfl ?_
      exact ⟨by rw [HVAL.out false HQ.out]; rfl, below_put5 G2.out (Nat.le_refl _) _ _ _ _ _⟩

/-- A point among the first? -/
def pointB (Z : List Int) (i : Nat) : Bool := decide (46 ∈ Z.take i)
theorem pointB_step {Z : List Int} {i : Nat} (h : i < Z.length) : pointB Z (i + 1) = (pointB Z i || Z.getD i 0 == 46) := by
  unfold pointB
  rw [take_snoc h]
  by_cases h1 : 46 ∈ Z.take i
  · have : 46 ∈ Z.take i ++ [Z.getD i 0] := List.mem_append_left _ h1
    simp [h1]
  · by_cases h2 : Z.getD i 0 = 46
    · rw [h2]
      simp [h1]
    · have h3 : ¬ 46 ∈ Z.take i ++ [Z.getD i 0] := fun h => by
        rcases List.mem_append.mp h with h | h
        · exact h1 h
        · exact h2 (List.mem_singleton.mp h).symm
      rw [decide_eq_false h3, decide_eq_false h1]
      simp only [Bool.false_or]
      exact (beq_eq_false_iff_ne.mpr h2).symm
theorem pointB_end {Z : List Int} {i : Nat} (h : Z.length ≤ i) : pointB Z i = decide (46 ∈ Z) := by
  unfold pointB
  rw [List.take_of_length_le h]
set_option maxRecDepth 100000 in
set_option maxHeartbeats 8000000 in
/-- A word that begins with a digit. -/
theorem svalue_digit (v : Value) (l : List Int) (w : World) (hv : Ints .i32 w v l) (hok : RunesOk l) (hl : l.length ≤ 1000000) (hd : ¬ (l = [] ∨ digitB (l.getD 0 0) = false)) :
    Calls Tryd.prog 9 #[v] w (GivesTk (valF l).1 (valF l).2 w) := by
  have hzb := textR_byte hok.bd
  have hsz : (strOfNums (textR l)).size ≤ 4000000 := by
    rw [pstr_len]
    have := textR_len l
    omega
  have hnu : nums (strOfNums (textR l)) = textR l := nums_strOfNums _ hzb
  have h0 : l.length ≠ 0 := fun e => hd (Or.inl (List.eq_nil_of_length_eq_zero e))
  have hd2 : digitB (l.getD 0 0) = true := by
    cases e : digitB (l.getD 0 0) with
    | true => rfl
    | false => exact (hd (Or.inr e)).elim
  have hne : 0 < (textR l).length := by
    cases l with
    | nil => exact (h0 rfl).elim
    | cons r l =>
      show 0 < (byteR r ++ textR l).length
      have hr : 48 ≤ r ∧ r ≤ 57 := by unfold digitB at hd2; simpa using hd2
      have e : byteR r = encL r := if_neg (by omega)
      have e2 : encL r = [r] := by unfold encL; rw [if_pos (by omega)]
      rw [e, e2]
      simp
  have HV1 := Lib.hid (@valF_count l hd)
  have HV2 := Lib.hid (@valF_share l hd)
  have HV3 := Lib.hid (@valF_factor l hd)
  have HV4 := Lib.hid (@valF_span l hd)
  have V0 := Var5.fresh w (.int .i64 0) (.string ⟨#[]⟩) (.int .u64 0) (.int .i64 0) (.int .i64 0) 27 w.heap.size rfl
  have g0 : Below w.heap.size w (w.alloc (.cells #[.int .i64 0, .string ⟨#[]⟩, .int .u64 0, .int .i64 0, .int .i64 0] 27)) := (Below.refl _ _).alloc (Nat.le_refl _) _
  have HTX := Lib.hid (fun W (hb : Below w.heap.size w W) => stext_any v l W (hv.below hb) hok.bd hl)
  have HDI := Lib.hid (fun W => sdigits_any (strOfNums (textR l)) W (by omega))
  have HNU := Lib.hid (fun W => snumber_any (strOfNums (textR l)) W (by omega))
  have HSH := Lib.hid (share_out (rread_cases (strOfNums (textR l)) (by omega)))
  have HSP := Lib.hid (fun W => rsread_all (strOfNums (textR l)) W (by omega))
  have HFA : Hid (46 ∈ textR l → ∀ W, Calls Tryd.prog 23 #[.string (strOfNums (textR l))] W fun e w' => e = .returned (.tuple #[.int .u64 ((facF (headP (textR l)) (tailP (textR l))).1 : Int), .int .i64 (facF (headP (textR l)) (tailP (textR l))).2]) ∧ Below W.heap.size W w') := fun h W => by
    obtain ⟨e1, e2⟩ := point_parts h
    have r := sfactor_any (headP (textR l)) (tailP (textR l)) W e2 (by rw [← e1]; exact hzb) (by rw [← e1]; rw [pstr_len] at hsz; omega)
    rw [← e1] at r
    exact r
  have HAT := Lib.hid (fun i (h : i < (strOfNums (textR l)).size) => (by have q := nums_at (strOfNums (textR l)) i h; rw [hnu] at q; exact q : (textR l).getD i 0 = ((strOfNums (textR l))[i].toNat : Int)))
  have hZS : (textR l).length = (strOfNums (textR l)).size := (pstr_len _).symm
  rw [hnu] at HDI HNU HSH HSP
  obtain ⟨Z, hZ⟩ : ∃ Z, textR l = Z := ⟨_, rfl⟩
  rw [hZ] at HV1 HV2 HV3 HV4 HDI HNU HSH HSP HFA HTX HAT hsz hne hZS
  obtain ⟨S, hS⟩ : ∃ S, strOfNums Z = S := ⟨_, rfl⟩
  rw [hS] at HDI HNU HSH HSP HFA HTX hsz hZS
  have HAT : Hid (∀ i (h : i < S.size), Z.getD i 0 = (S[i].toNat : Int)) := by subst hS; exact HAT
  obtain ⟨b, off, cap, rfl, hcap, hb, hcell⟩ := hv
  have G0 := Lib.hid g0
  have HV := Lib.hid V0
  obtain ⟨W0, hW0⟩ : ∃ W, w.alloc (.cells #[.int .i64 0, .string ⟨#[]⟩, .int .u64 0, .int .i64 0, .int .i64 0] 27) = W := ⟨_, rfl⟩
  rw [hW0] at G0 HV
  have hx := hcell 0 (by omega)
  obtain ⟨z, hz⟩ : ∃ z, l.getD 0 0 = z := ⟨_, rfl⟩
  rw [hz] at hx hd2
  have HX := Lib.hid hx
  have HD2 := Lib.hid (fun W => sdigit_is hd2 W)
  obtain ⟨n, hn⟩ : ∃ n, l.length = n := ⟨_, rfl⟩
  have h0' : ¬ (n : Int) = 0 := by omega
  rw [hn] at HTX hl hcap ⊢
  obtain ⟨R, hR⟩ : ∃ R, valF l = R := ⟨_, rfl⟩
  rw [hR] at HV1 HV2 HV3 HV4 ⊢
  clear hd g0 V0 hS hnu hok hcell hd2 hz hx hn hzb hZ hR h0
  go_enter Tryd.func9, Tryd.ntmps9
  go_wp2_with (first
    | (go_at_call 18; (with_reducible refine (HTX.out _ G0.out).mono ?_); rintro e w1 ⟨rfl, h1⟩; have V1 := Lib.hid (HV.out.after h1); have G1 := Lib.hid (below_step G0.out h1); clear h1; have x1 : w1.cell? ⟨b, off, none⟩ = some (.int .i32 z) := (G1.out.cell (p := ⟨b, off, none⟩) hb).trans HX.out)
    | (go_at_call 17; (with_reducible refine (HD2.out _).mono ?_); rintro e w1' ⟨rfl, rfl⟩))
  go_loop [8, 9] (fun v8 v9 => ∃ i : Nat, i ≤ S.size ∧ v8 = .bool (pointB Z i) ∧ v9 = .int .i64 i) (fun _ v9 => S.size - (intOf v9).toNat)
  case atStart => exact ⟨0, Nat.zero_le _, rfl, rfl⟩
  case round =>
    obtain ⟨i, hi, rfl, rfl⟩ := hrel
    by_cases h1 : i < S.size
    · have hst := Lib.hid (pointB_step (Z := Z) (i := i) (by omega))
      have hz0 := HAT.out i h1
      obtain ⟨y, hy⟩ : ∃ y : Int, (S[i].toNat : Int) = y := ⟨_, rfl⟩
      rw [hy] at hz0
      rw [hz0] at hst
      obtain ⟨pb, hpb⟩ : ∃ pb, pointB Z i = pb := ⟨_, rfl⟩
      rw [hpb] at hst ⊢
      clear hz0 hpb
      cases pb with
      | true =>
        go_wp2
        go_round
        case rel => exact ⟨i + 1, by omega, by rw [hst.out]; rfl, by go_num⟩
        case measure => simp [intOf]; omega
      | false =>
        by_cases hy46 : y = 46
        · subst hy46
          go_wp2
          go_round
          case rel => exact ⟨i + 1, by omega, by rw [hst.out]; rfl, by go_num⟩
          case measure => simp [intOf]; omega
        · have hyb : (y == 46) = false := by simpa using hy46
          have hst2 := Lib.hid (by rw [hst.out, hyb]; rfl : pointB Z (i + 1) = false)
          go_wp2
          go_round
          case rel => exact ⟨i + 1, by omega, by rw [hst2.out], by go_num⟩
          case measure => simp [intOf]; omega
    · obtain rfl : i = S.size := by omega
      rw [pointB_end (by omega)]
      by_cases hAD : AllD Z
      · have HAD := Lib.hid hAD
        have HFF := Lib.hid (HV1.out hAD)
        obtain ⟨P, C, hPC⟩ : ∃ P C, numF Z = (P, C) := ⟨_, _, rfl⟩
        rw [hPC] at HFF HNU
        clear hAD hPC
        go_wp2_with (first
          | (go_at_call 20; (with_reducible refine (HDI.out _).mono ?_); rintro e w2 ⟨q, rfl, hq, h2⟩; obtain rfl : q = true := hq.mpr HAD.out; have V2 := Lib.hid (V1.out.after h2); have G2 := Lib.hid (below_step G1.out h2); clear hq h2)
          | (go_at_call 21; (with_reducible refine (HNU.out _).mono ?_); rintro e w3 ⟨rfl, h3⟩; have V3 := Lib.hid (V2.out.after h3); have G3 := Lib.hid (below_step G2.out h3); clear h3; have c0 := V3.out.c0; have c1 := V3.out.c1; have c2 := V3.out.c2; have c3 := V3.out.c3; have c4 := V3.out.c4; have q0 := V3.out.q 0; have q1 := V3.out.q 1; have q2 := V3.out.q 2; have q3 := V3.out.q 3; have q4 := V3.out.q 4))
        · rename_i hc
          have hc2 : ¬ C = 0 := by simpa using hc
          refine bodyPost_ret (svalue_results (x0 := .int .i64 0) (x1 := .string ⟨#[]⟩) (x2 := .int .u64 0) (x3 := .int .i64 0) (x4 := .int .i64 0) (u := .int .i64 C) (V3.out.put _ _ _ _ _) rfl rfl) rfl ?_
          exact ⟨by rw [HFF.out, numT_err hc2]; rfl, below_put5 G3.out (Nat.le_refl _) _ _ _ _ _⟩
        · rename_i hc
          have hc2 : C = 0 := by simpa using hc
          refine bodyPost_ret (svalue_results (x0 := .int .i64 3) (x1 := .string ⟨#[]⟩) (x2 := .int .u64 (P : Int)) (x3 := .int .i64 0) (x4 := .int .i64 0) (u := .int .i64 0) (V3.out.put _ _ _ _ _) rfl rfl) rfl ?_
          exact ⟨by rw [HFF.out, numT_fine hc2]; rfl, below_put5 G3.out (Nat.le_refl _) _ _ _ _ _⟩
      · have HAD := Lib.hid hAD
        obtain ⟨m, hm⟩ : ∃ m, S.size = m + 1 := ⟨S.size - 1, by omega⟩
        have hms : m < S.size := by omega
        have hz0 := HAT.out m hms
        have hml : Z.length - 1 = m := by omega
        rw [hml] at HV2 HV3 HV4
        obtain ⟨y, hy⟩ : ∃ y : Int, (S[m].toNat : Int) = y := ⟨_, rfl⟩
        rw [hy] at hz0
        rw [hz0] at HV2 HV3 HV4
        have hm1 : (S.size : Int) - 1 = (m : Int) := by omega
        by_cases hy37 : y = 37
        · have HFF := Lib.hid (HV2.out hAD hy37)
          subst hy37
          obtain ⟨P, C, hPC⟩ : ∃ P C, shareF Z = (P, C) := ⟨_, _, rfl⟩
          have hbd := share_bd Z
          rw [hPC] at HFF HSH hbd
          have hP : P ≤ 1000000 := hbd
          have hwx : IntKind.u64.wrap (P : Int) = (P : Int) := by rw [IntKind.wrap_u64]; omega
          clear hAD hPC hz0 hml hbd
          go_wp2_with (first
            | (go_at_call 20; (with_reducible refine (HDI.out _).mono ?_); rintro e w2 ⟨q, rfl, hq, h2⟩; obtain rfl : q = false := (by cases q with | false => rfl | true => exact (HAD.out (hq.mp rfl)).elim); have V2 := Lib.hid (V1.out.after h2); have G2 := Lib.hid (below_step G1.out h2); clear hq h2)
            | (go_at_call 22; (with_reducible refine (HSH.out _).mono ?_); rintro e w3 ⟨x, rfl, hx0, hx1, hxN, h3⟩; obtain rfl : x = (P : Int) := (by have q : x.toNat = P := hxN; omega); have V3 := Lib.hid (V2.out.after h3); have G3 := Lib.hid (below_step G2.out h3); clear h3; have c0 := V3.out.c0; have c1 := V3.out.c1; have c2 := V3.out.c2; have c3 := V3.out.c3; have c4 := V3.out.c4; have q0 := V3.out.q 0; have q1 := V3.out.q 1; have q2 := V3.out.q 2; have q3 := V3.out.q 3; have q4 := V3.out.q 4))
          · rename_i hc
            have hc2 : ¬ C = 0 := by simpa using hc
            refine bodyPost_ret (svalue_results (x0 := .int .i64 0) (x1 := .string ⟨#[]⟩) (x2 := .int .u64 0) (x3 := .int .i64 0) (x4 := .int .i64 0) (u := .int .i64 C) (V3.out.put _ _ _ _ _) rfl rfl) rfl ?_
            exact ⟨by rw [HFF.out, numT_err hc2]; rfl, below_put5 G3.out (Nat.le_refl _) _ _ _ _ _⟩
          · rename_i hc
            have hc2 : C = 0 := by simpa using hc
            refine bodyPost_ret (svalue_results (x0 := .int .i64 5) (x1 := .string ⟨#[]⟩) (x2 := .int .u64 (P : Int)) (x3 := .int .i64 0) (x4 := .int .i64 0) (u := .int .i64 0) (V3.out.put _ _ _ _ _) rfl rfl) rfl ?_
            exact ⟨by rw [HFF.out, numT_fine hc2]; rfl, below_put5 G3.out (Nat.le_refl _) _ _ _ _ _⟩
        · have hyb : (y == 37) = false := by simpa using hy37
          by_cases hpt : 46 ∈ Z
          · have HFF := Lib.hid (HV3.out hAD hy37 hpt)
            have HFC := Lib.hid (HFA.out hpt)
            obtain ⟨P, C, hPC⟩ : ∃ P C, facF (headP Z) (tailP Z) = (P, C) := ⟨_, _, rfl⟩
            rw [hPC] at HFF HFC
            have hdc : decide (46 ∈ Z) = true := decide_eq_true hpt
            rw [hdc]
            clear hAD hPC hz0 hml hdc
            go_wp2_with (first
              | (go_at_call 20; (with_reducible refine (HDI.out _).mono ?_); rintro e w2 ⟨q, rfl, hq, h2⟩; obtain rfl : q = false := (by cases q with | false => rfl | true => exact (HAD.out (hq.mp rfl)).elim); have V2 := Lib.hid (V1.out.after h2); have G2 := Lib.hid (below_step G1.out h2); clear hq h2)
              | (go_at_call 23; (with_reducible refine (HFC.out _).mono ?_); rintro e w3 ⟨rfl, h3⟩; have V3 := Lib.hid (V2.out.after h3); have G3 := Lib.hid (below_step G2.out h3); clear h3; have c0 := V3.out.c0; have c1 := V3.out.c1; have c2 := V3.out.c2; have c3 := V3.out.c3; have c4 := V3.out.c4; have q0 := V3.out.q 0; have q1 := V3.out.q 1; have q2 := V3.out.q 2; have q3 := V3.out.q 3; have q4 := V3.out.q 4))
            · rename_i hc
              have hc2 : ¬ C = 0 := by simpa using hc
              refine bodyPost_ret (svalue_results (x0 := .int .i64 0) (x1 := .string ⟨#[]⟩) (x2 := .int .u64 0) (x3 := .int .i64 0) (x4 := .int .i64 0) (u := .int .i64 C) (V3.out.put _ _ _ _ _) rfl rfl) rfl ?_
              exact ⟨by rw [HFF.out, numT_err hc2]; rfl, below_put5 G3.out (Nat.le_refl _) _ _ _ _ _⟩
            · rename_i hc
              have hc2 : C = 0 := by simpa using hc
              refine bodyPost_ret (svalue_results (x0 := .int .i64 4) (x1 := .string ⟨#[]⟩) (x2 := .int .u64 (P : Int)) (x3 := .int .i64 0) (x4 := .int .i64 0) (u := .int .i64 0) (V3.out.put _ _ _ _ _) rfl rfl) rfl ?_
              exact ⟨by rw [HFF.out, numT_fine hc2]; rfl, below_put5 G3.out (Nat.le_refl _) _ _ _ _ _⟩
          · have HFF := Lib.hid (HV4.out hAD hy37 hpt)
            obtain ⟨P, C, hPC⟩ : ∃ P C, spanF Z = (P, C) := ⟨_, _, rfl⟩
            have hbd := span_bd Z
            rw [hPC] at hbd
            have hP : P ≤ 253402300799 := hbd
            have hwx : IntKind.u64.wrap (P : Int) = (P : Int) := by rw [IntKind.wrap_u64]; omega
            have hdc : decide (46 ∈ Z) = false := decide_eq_false hpt
            rw [hPC] at HFF
            rw [hdc]
            have HPC := Lib.hid hPC
            clear hAD hPC hz0 hml hdc hbd
            go_wp2_with (first
              | (go_at_call 20; (with_reducible refine (HDI.out _).mono ?_); rintro e w2 ⟨q, rfl, hq, h2⟩; obtain rfl : q = false := (by cases q with | false => rfl | true => exact (HAD.out (hq.mp rfl)).elim); have V2 := Lib.hid (V1.out.after h2); have G2 := Lib.hid (below_step G1.out h2); clear hq h2)
              | (go_at_call 24; (with_reducible refine (HSP.out _).mono ?_); rintro e w3 ⟨x, c, rfl, hso, h3⟩; have hso2 := span_out hso; rw [HPC.out] at hso2; obtain ⟨rfl, ec⟩ := hso2; have ec := ec.symm; subst ec; clear hso; have V3 := Lib.hid (V2.out.after h3); have G3 := Lib.hid (below_step G2.out h3); clear h3; have c0 := V3.out.c0; have c1 := V3.out.c1; have c2 := V3.out.c2; have c3 := V3.out.c3; have c4 := V3.out.c4; have q0 := V3.out.q 0; have q1 := V3.out.q 1; have q2 := V3.out.q 2; have q3 := V3.out.q 3; have q4 := V3.out.q 4))
            · rename_i hc
              have hc2 : ¬ C = 0 := by simpa using hc
              refine bodyPost_ret (svalue_results (x0 := .int .i64 0) (x1 := .string ⟨#[]⟩) (x2 := .int .u64 0) (x3 := .int .i64 0) (x4 := .int .i64 0) (u := .int .i64 C) (V3.out.put _ _ _ _ _) rfl rfl) rfl ?_
              exact ⟨by rw [HFF.out, numT_err hc2]; rfl, below_put5 G3.out (Nat.le_refl _) _ _ _ _ _⟩
            · rename_i hc
              have hc2 : C = 0 := by simpa using hc
              refine bodyPost_ret (svalue_results (x0 := .int .i64 6) (x1 := .string ⟨#[]⟩) (x2 := .int .u64 (P : Int)) (x3 := .int .i64 0) (x4 := .int .i64 0) (u := .int .i64 0) (V3.out.put _ _ _ _ _) rfl rfl) rfl ?_
              exact ⟨by rw [HFF.out, numT_fine hc2]; rfl, below_put5 G3.out (Nat.le_refl _) _ _ _ _ _⟩
theorem svalue_any (v : Value) (l : List Int) (w : World) (hv : Ints .i32 w v l) (hok : RunesOk l) (hl : l.length ≤ 1000000) :
    Calls Tryd.prog 9 #[v] w (GivesTk (valF l).1 (valF l).2 w) := by
  by_cases hd : l = [] ∨ digitB (l.getD 0 0) = false
  · exact svalue_name v l w hv hok hl hd
  · exact svalue_digit v l w hv hok hl hd

end Go.Proofs.YthainohkneociaaDoor

/-
  Where a quoted text ends, as the document's answer goes through it.
-/
namespace Go.Proofs.YthainohkneociaaDoor
open Go.RowKit

/-- Where the text ends whose letters begin here, at a place; 0: it doesn't. -/
def qF : List Int → Nat → Nat
  | [], _ => 0
  | r :: t, k => if r = 10 then 0 else if r = 34 then k + 1 else if r = 92 then (match t with | [] => 0 | s :: u => if s = 10 then 0 else qF u (k + 2)) else qF t (k + 1)
theorem qF_cons (r : Int) (t : List Int) (k : Nat) : qF (r :: t) k = if r = 10 then 0 else if r = 34 then k + 1 else if r = 92 then (match t with | [] => 0 | s :: u => if s = 10 then 0 else qF u (k + 2)) else qF t (k + 1) := by cases t <;> rfl
theorem sdrop_cons {l : List Int} {i : Nat} (h : i < l.length) : l.drop i = l.getD i 0 :: l.drop (i + 1) := by
  rw [List.drop_eq_getElem_cons h, List.getD_eq_getElem?_getD, List.getElem?_eq_getElem h]
  rfl
theorem qF_end {l : List Int} {i : Nat} (h : l.length ≤ i) (k : Nat) : qF (l.drop i) k = 0 := by rw [List.drop_of_length_le h, qF]
theorem qF_line {l : List Int} {i : Nat} (h : i < l.length) (e : l.getD i 0 = 10) (k : Nat) : qF (l.drop i) k = 0 := by rw [sdrop_cons h, qF_cons, if_pos e]
theorem qF_mark {l : List Int} {i : Nat} (h : i < l.length) (e : l.getD i 0 = 34) (k : Nat) : qF (l.drop i) k = k + 1 := by rw [sdrop_cons h, qF_cons, if_neg (by omega), if_pos e]
theorem qF_back_end {l : List Int} {i : Nat} (h : i < l.length) (e : l.getD i 0 = 92) (h2 : l.length ≤ i + 1) (k : Nat) : qF (l.drop i) k = 0 := by
  rw [sdrop_cons h, qF_cons, if_neg (by omega), if_neg (by omega), if_pos e, List.drop_of_length_le h2]
theorem qF_back_line {l : List Int} {i : Nat} (h : i + 1 < l.length) (e : l.getD i 0 = 92) (e2 : l.getD (i + 1) 0 = 10) (k : Nat) : qF (l.drop i) k = 0 := by
  rw [sdrop_cons (by omega : i < l.length), qF_cons, if_neg (by omega), if_neg (by omega), if_pos e, sdrop_cons h]
  exact if_pos e2
theorem qF_back {l : List Int} {i : Nat} (h : i + 1 < l.length) (e : l.getD i 0 = 92) (e2 : l.getD (i + 1) 0 ≠ 10) (k : Nat) : qF (l.drop i) k = qF (l.drop (i + 2)) (k + 2) := by
  rw [sdrop_cons (by omega : i < l.length), qF_cons, if_neg (by omega), if_neg (by omega), if_pos e, sdrop_cons h]
  exact if_neg e2
theorem qF_else {l : List Int} {i : Nat} (h : i < l.length) (e1 : l.getD i 0 ≠ 10) (e2 : l.getD i 0 ≠ 34) (e3 : l.getD i 0 ≠ 92) (k : Nat) : qF (l.drop i) k = qF (l.drop (i + 1)) (k + 1) := by
  rw [sdrop_cons h, qF_cons, if_neg e1, if_neg e2, if_neg e3]
theorem qF_bd : ∀ (n : Nat) (l : List Int) (k : Nat), l.length ≤ n → qF l k = 0 ∨ (k < qF l k ∧ qF l k ≤ k + l.length)
  | _, [], k, _ => Or.inl (by rw [qF])
  | 0, _ :: _, _, h => absurd h (by simp)
  | n + 1, r :: t, k, h => by
    have hl : t.length ≤ n := by simpa using h
    rw [qF_cons]
    split
    · exact Or.inl rfl
    · split
      · exact Or.inr ⟨by omega, by simp⟩
      · split
        · cases t with
          | nil => exact Or.inl rfl
          | cons s u =>
            show (if s = 10 then 0 else qF u (k + 2)) = 0 ∨ _ < (if s = 10 then 0 else qF u (k + 2)) ∧ (if s = 10 then 0 else qF u (k + 2)) ≤ _
            split
            · exact Or.inl rfl
            · have := qF_bd n u (k + 2) (by simp at hl; omega)
              simp only [List.length_cons] at *
              omega
        · have := qF_bd n t (k + 1) hl
          simp only [List.length_cons]
          omega
end Go.Proofs.YthainohkneociaaDoor

/-
  The places of a source's runes, as the document's answer lists them.
-/
namespace Go.Proofs.YthainohkneociaaDoor
open Go.RowKit

/-- One rune on. -/
def spotStep (p : Int × Int) (z : Int) : Int × Int := if z = 10 then (p.1 + 1, 1) else (p.1, p.2 + 1)
/-- The place of a rune, or of the end. -/
def spotAt (l : List Int) (i : Nat) : Int × Int := (l.take i).foldl spotStep (1, 1)
theorem spot_zero (l : List Int) : spotAt l 0 = (1, 1) := rfl
theorem spot_line {l : List Int} {i : Nat} (h : i < l.length) (e : l.getD i 0 = 10) : spotAt l (i + 1) = ((spotAt l i).1 + 1, 1) := by
  unfold spotAt
  rw [take_snoc h, List.foldl_append]
  exact if_pos e
theorem spot_col {l : List Int} {i : Nat} (h : i < l.length) (e : l.getD i 0 ≠ 10) : spotAt l (i + 1) = ((spotAt l i).1, (spotAt l i).2 + 1) := by
  unfold spotAt
  rw [take_snoc h, List.foldl_append]
  exact if_neg e
theorem spot_bd {l : List Int} : ∀ i, i ≤ l.length → 1 ≤ (spotAt l i).1 ∧ (spotAt l i).1 ≤ i + 1 ∧ 1 ≤ (spotAt l i).2 ∧ (spotAt l i).2 ≤ i + 1
  | 0, _ => by rw [spot_zero]; decide
  | i + 1, h => by
    have ih := spot_bd (l := l) i (by omega)
    by_cases e : l.getD i 0 = 10
    · rw [spot_line (by omega) e]
      simp only
      omega
    · rw [spot_col (by omega) e]
      simp only
      omega
/-- A place's cells. -/
def spotV (p : Int × Int) : List Value := [.int .i64 p.1, .int .i64 p.2]
/-- The places ahead of a rune. -/
def spotsV (l : List Int) (n : Nat) : List (List Value) := (List.range n).map fun i => spotV (spotAt l i)
theorem spotsV_len (l : List Int) (n : Nat) : (spotsV l n).length = n := by unfold spotsV; simp
theorem spotsV_more (l : List Int) (n : Nat) : spotsV l (n + 1) = spotsV l n ++ [spotV (spotAt l n)] := by unfold spotsV; rw [List.range_succ, List.map_append]; rfl
theorem spotsV_at (l : List Int) {n i : Nat} (h : i < n) : (spotsV l n).getD i [] = spotV (spotAt l i) := by
  unfold spotsV
  simp [List.getD_eq_getElem?_getD, h]
theorem info_spot : (Tryd.prog.info? 25).map (fun i => (i.zero, i.size, i.bytes)) = some (some (.agg #[.int .i64 0, .int .i64 0]), 2, 16) := by kernel_rfl
theorem spot_cells {w : World} {p : Nat} {x y : Value} (h0 : w.cell? ⟨p, 0, none⟩ = some x) (h1 : w.cell? ⟨p, 1, none⟩ = some y) : ∀ j, j < 2 → w.cell? ⟨p, j, none⟩ = some (([x, y] : List Value).getD j undef) := fun j hj => by
  have : j = 0 ∨ j = 1 := by omega
  rcases this with rfl | rfl
  · exact h0
  · exact h1
theorem sset_else (W : World) (r i : Nat) (x : Value) (j : Nat) (hne : j ≠ r) : (W.setCell ⟨r, i, none⟩ x).heap[j]? = W.heap[j]? := Below.heap_setCell W ⟨r, i, none⟩ x j hne
theorem Var2.put1 {W : World} {p : Nat} {x y : Value} (k : Var2 W p x y) (y' : Value) : Var2 (W.setCell ⟨p, 1, none⟩ y') p x y' := by
  obtain ⟨c0, c1, q0, q1, s⟩ := k
  refine ⟨?_, ?_, ?_, ?_, ?_⟩ <;> simp [go_sem, *]
theorem spot_one (p : Int × Int) : ∀ u ∈ spotV p, u.oneCell' = true := fun u hu => by
  simp only [spotV, List.mem_cons, List.not_mem_nil, or_false] at hu
  rcases hu with rfl | rfl <;> rfl
theorem Var2.only {base : Nat} {O : Foot} {w w' : World} {p : Nat} {x y : Value} (h : Var2 w p x y) (ho : OnlyO base O w w') (hn : ¬ O p) : Var2 w' p x y :=
  ⟨(ho.cell h.s hn).trans h.c0, (ho.cell h.s hn).trans h.c1, (ho.frozen h.s hn).trans h.q0, (ho.frozen h.s hn).trans h.q1, Nat.lt_of_lt_of_le h.s ho.size⟩

end Go.Proofs.YthainohkneociaaDoor

/-
  The document's answer for the token that begins at a place.
-/
namespace Go.Proofs.YthainohkneociaaDoor
open Go.RowKit

/-- A quoted text's letters, read; the error. -/
def unqF (l : List Int) : List Int × Int := match uf l with
  | .done xs => if 120 < xs.length then ([], 9) else (xs.flatMap encL, 0)
  | _ => ([], 5)
theorem unq_out {l t : List Int} {c : Int} (h : UnqL l t c) : t = (unqF l).1 ∧ c = (unqF l).2 := by
  unfold unqF
  rcases h with ⟨h, rfl, rfl⟩ | ⟨xs, h, h1⟩
  · split
    · rename_i xs e
      exact (h xs e).elim
    · exact ⟨rfl, rfl⟩
  · rw [h]
    rcases h1 with ⟨h1, rfl, rfl⟩ | ⟨h1, rfl, rfl⟩
    · simp only [if_pos h1, and_self]
    · simp only [if_neg (show ¬ 120 < xs.length by omega), and_self]
/-- Where the word ends that begins at a place. -/
def wordEnd (l : List Int) (i : Nat) : Nat := i + ((l.drop i).takeWhile withinB).length
theorem wordEnd_bd {l : List Int} {i : Nat} (h : i ≤ l.length) : i ≤ wordEnd l i ∧ wordEnd l i ≤ l.length := by
  unfold wordEnd
  have := (List.takeWhile_prefix (l := l.drop i) withinB).length_le
  rw [List.length_drop] at this
  omega
theorem wordEnd_in {l : List Int} {i : Nat} : ∀ k, i + k < wordEnd l i → withinB (l.getD (i + k) 0) = true := fun k hk => by
  unfold wordEnd at hk
  have hp := List.takeWhile_prefix (l := l.drop i) withinB
  have hk2 : k < ((l.drop i).takeWhile withinB).length := by omega
  have e := hp.getElem hk2
  have hm : ((l.drop i).takeWhile withinB)[k] ∈ (l.drop i).takeWhile withinB := List.getElem_mem hk2
  have hall := List.all_takeWhile (l := l.drop i) (p := withinB)
  have hw := List.all_eq_true.mp hall _ hm
  rw [e] at hw
  have hlen := hp.length_le
  have hkl : k < (l.drop i).length := by omega
  rw [List.length_drop] at hkl
  rw [List.getElem_drop] at hw
  rw [List.getD_eq_getElem?_getD, List.getElem?_eq_getElem (by omega)]
  exact hw
theorem takeWhile_stop {p : Int → Bool} : ∀ (m : List Int), (m.takeWhile p).length < m.length → p (m.getD (m.takeWhile p).length 0) = false
  | [], h => by cases h
  | z :: m, h => by
    cases hz : p z with
    | true =>
      rw [List.takeWhile_cons_of_pos hz] at h ⊢
      simp only [List.length_cons] at h ⊢
      have := takeWhile_stop (p := p) m (by omega)
      simpa using this
    | false =>
      rw [List.takeWhile_cons_of_neg (by simp [hz])]
      simpa using hz
theorem wordEnd_out {l : List Int} {i : Nat} (h : wordEnd l i < l.length) : withinB (l.getD (wordEnd l i) 0) = false := by
  unfold wordEnd at h ⊢
  have := takeWhile_stop (p := withinB) (l.drop i) (by rw [List.length_drop]; omega)
  rw [List.getD_eq_getElem?_getD, List.getElem?_drop] at this
  rw [List.getD_eq_getElem?_getD]
  exact this
theorem wordEnd_one {l : List Int} {i : Nat} (h : i < l.length) (hw : withinB (l.getD i 0) = true) : i < wordEnd l i := by
  unfold wordEnd
  rw [sdrop_cons h, List.takeWhile_cons_of_pos hw, List.length_cons]
  omega
/-- The token that begins at a place, and where it ends; the error. -/
noncomputable def oneF (l : List Int) (i : Nat) : TkV × Nat × Int :=
  if l.getD i 0 = 123 then (⟨7, [], 0⟩, i + 1, 0)
  else if l.getD i 0 = 125 then (⟨8, [], 0⟩, i + 1, 0)
  else if l.getD i 0 = 59 then (⟨9, [], 0⟩, i + 1, 0)
  else if l.getD i 0 = 34 then
    (if qF (l.drop (i + 1)) (i + 1) = 0 then (tk0, 0, 5)
     else (⟨2, (unqF ((l.take (qF (l.drop (i + 1)) (i + 1))).drop i)).1, 0⟩, qF (l.drop (i + 1)) (i + 1), (unqF ((l.take (qF (l.drop (i + 1)) (i + 1))).drop i)).2))
  else if withinB (l.getD i 0) = false then (tk0, 0, 5)
  else ((valF ((l.take (wordEnd l i)).drop i)).1, wordEnd l i, (valF ((l.take (wordEnd l i)).drop i)).2)
theorem ints_slice {w : World} {b off n cap : Nat} {l : List Int} (hb : b < w.heap.size) (hn : l.length = n) (hcap : n ≤ cap) (hcell : ∀ i, i < l.length → w.cell? ⟨b, off + i, none⟩ = some (.int .i32 (l.getD i 0))) (lo hi : Nat) (hlo : lo < hi) (hhi : hi ≤ n) :
    (∀ W, (Instr.slice 31 (.slice (some ⟨b, off, none⟩) n cap) (some (.int .i64 (lo : Int))) (some (.int .i64 (hi : Int))) none).run Tryd.prog W = .ok (.slice (some ⟨b, off + lo, none⟩) (hi - lo) (cap - lo)) W) ∧ Ints .i32 w (.slice (some ⟨b, off + lo, none⟩) (hi - lo) (cap - lo)) ((l.take hi).drop lo) := by
  have hlen : ((l.take hi).drop lo).length = hi - lo := by rw [List.length_drop, List.length_take]; omega
  refine ⟨fun W => ?_, b, off + lo, cap - lo, by rw [hlen], by omega, hb, fun i h => ?_⟩
  · have hs : ∀ W : World, (sizeOf (Tryd.prog.elem 31)).run Tryd.prog W = .ok 1 W := fun W => by kernel_rfl
    have := run_slice_lh (P := Tryd.prog) W 31 (some ⟨b, off, none⟩) n cap (by kernel_rfl) .i64 .i64 (lo : Int) (hi : Int) (by omega) (by omega) (by omega)
    rw [this, hs]
    have e3 : ∀ j : Nat, (⟨b, off, none⟩ : Addr).add j = ⟨b, off + j, none⟩ := fun j => by unfold Addr.add; split <;> simp_all
    simp only [Result.andThen, Int.toNat_natCast, sliced]
    rw [if_neg (by omega)]
    simp only [Option.map_some, Nat.mul_one, e3]
  · have h1 := hcell (lo + i) (by omega)
    have e : ((l.take hi).drop lo).getD i 0 = l.getD (lo + i) 0 := by
      rw [List.getD_eq_getElem?_getD, List.getElem?_drop, List.getElem?_take_of_lt (by omega), ← List.getD_eq_getElem?_getD]
    rw [e, Nat.add_assoc]
    exact h1
/-- What one gives. -/
def GivesOne (p : TkV × Nat × Int) (w : World) (e : Ending) (w' : World) : Prop := e = .returned (.tuple #[tkAt p.1 0 0, .int .i64 (p.2.1 : Int), .int .i64 p.2.2]) ∧ Below w.heap.size w w'
theorem put5_else (W : World) (p : Nat) (y0 y1 y2 y3 y4 : Value) (j : Nat) (h : j ≠ p) : (put5 W p y0 y1 y2 y3 y4).heap[j]? = W.heap[j]? := by
  unfold put5
  rw [sset_else _ _ _ _ _ h, sset_else _ _ _ _ _ h, sset_else _ _ _ _ _ h, sset_else _ _ _ _ _ h, sset_else _ _ _ _ _ h]
theorem runes_sub {l m : List Int} (h : RunesOk l) (hs : ∀ x ∈ m, x ∈ l) : RunesOk m := fun x hx => h x (hs x hx)
end Go.Proofs.YthainohkneociaaDoor

/-
  Whether a token is right, as the document's answer says it.
-/
namespace Go.Proofs.YthainohkneociaaDoor
open Go.RowKit

/-- Which tokens are right. -/
def RightT (k : Int) (s : ByteArray) (n : Int) : Prop :=
  (k = 1 ∧ NameL (runesOf (nums s)) ∧ n = 0) ∨ (k = 2 ∧ GoodL (runesOf (nums s)) ∧ (runesOf (nums s)).length ≤ 120 ∧ n = 0) ∨ ((k = 3 ∨ k = 4) ∧ s = ⟨#[]⟩) ∨ (k = 5 ∧ s = ⟨#[]⟩ ∧ n ≤ 1000000) ∨ (k = 6 ∧ s = ⟨#[]⟩ ∧ n ≤ 253402300799) ∨ ((k = 0 ∨ k = 7 ∨ k = 8 ∨ k = 9) ∧ s = ⟨#[]⟩ ∧ n = 0)
set_option maxRecDepth 100000 in
set_option maxHeartbeats 8000000 in
theorem sright_any (k : Int) (s : ByteArray) (n a b : Int) (w : World) (hm : s.size ≤ 4294967296) :
    Calls Tryd.prog 11 #[.agg #[.int .i64 k, .string s, .int .u64 n, .int .i64 a, .int .i64 b]] w (GivesQ (RightT k s n) w) := by
  obtain ⟨W0, hW0⟩ : ∃ W, w.alloc (.cells #[.int .i64 k, .string s, .int .u64 n, .int .i64 a, .int .i64 b] 27) = W := ⟨_, rfl⟩
  have V0 : Var5 W0 w.heap.size (.int .i64 k) (.string s) (.int .u64 n) (.int .i64 a) (.int .i64 b) := by rw [← hW0]; exact Var5.fresh _ _ _ _ _ _ _ _ rfl
  have g0 : Below w.heap.size w W0 := by rw [← hW0]; exact (Below.refl _ _).alloc (Nat.le_refl _) _
  have HG := Lib.hid g0
  have HV := Lib.hid V0
  have HNA := Lib.hid (fun W => rname_any s W hm)
  have HGO := Lib.hid (fun W => rgood_any s W hm)
  have HRU := Lib.hid (fun W => rrunes_any s W hm)
  obtain ⟨c0, c1, c2, _, _, _, _⟩ := V0
  clear g0
  by_cases h1 : k = 1
  · subst h1
    have hp : RightT 1 s n ↔ NameL (runesOf (nums s)) ∧ n = 0 := by unfold RightT; simp
    by_cases hN : NameL (runesOf (nums s))
    · have HN := Lib.hid hN
      by_cases hn : n = 0
      · have HP := Lib.hid (hp.mpr ⟨hN, hn⟩)
        subst hn
        clear hN hp
        go_enter Tryd.func11, Tryd.ntmps11
        go_wp2_with (go_at_call 19; (with_reducible refine (HNA.out _).mono ?_); rintro e w2 ⟨q, rfl, hq, h2⟩; obtain rfl : q = true := hq.mpr HN.out; have V2 := HV.out.after h2; have G2 := Lib.hid (below_step HG.out h2); have e2 := V2.c2; clear V2 hq h2)
        go_ret
        exact GivesQ.yes HP.out G2.out
      · have HP := Lib.hid (fun h => hn (hp.mp h).2)
        have hb : (n == 0) = false := by simpa using hn
        clear hN hp
        go_enter Tryd.func11, Tryd.ntmps11
        go_wp2_with (go_at_call 19; (with_reducible refine (HNA.out _).mono ?_); rintro e w2 ⟨q, rfl, hq, h2⟩; obtain rfl : q = true := hq.mpr HN.out; have V2 := HV.out.after h2; have G2 := Lib.hid (below_step HG.out h2); have e2 := V2.c2; clear V2 hq h2)
        go_ret
        exact GivesQ.no HP.out G2.out
    · have HN := Lib.hid hN
      have HP := Lib.hid (fun h => hN (hp.mp h).1)
      clear hN hp
      go_enter Tryd.func11, Tryd.ntmps11
      go_wp2_with (go_at_call 19; (with_reducible refine (HNA.out _).mono ?_); rintro e w2 ⟨q, rfl, hq, h2⟩; obtain rfl : q = false := (by cases q with | false => rfl | true => exact (HN.out (hq.mp rfl)).elim); have V2 := HV.out.after h2; have G2 := Lib.hid (below_step HG.out h2); have e2 := V2.c2; clear V2 hq h2)
      go_ret
      exact GivesQ.no HP.out G2.out
  by_cases h2 : k = 2
  · subst h2
    have hp : RightT 2 s n ↔ GoodL (runesOf (nums s)) ∧ (runesOf (nums s)).length ≤ 120 ∧ n = 0 := by unfold RightT; simp
    by_cases hN : GoodL (runesOf (nums s))
    · have HN := Lib.hid hN
      by_cases hl : (runesOf (nums s)).length ≤ 120
      · have hl' : ((runesOf (nums s)).length : Int) ≤ 120 := by omega
        by_cases hn : n = 0
        · have HP := Lib.hid (hp.mpr ⟨hN, hl, hn⟩)
          subst hn
          clear hN hp
          go_enter Tryd.func11, Tryd.ntmps11
          go_wp2_with (first | (go_at_call 29; (with_reducible refine (HGO.out _).mono ?_); rintro e w2 ⟨q, rfl, hq, h2⟩; obtain rfl : q = true := hq.mpr HN.out; have V2 := Lib.hid (HV.out.after h2); have G2 := Lib.hid (below_step HG.out h2); have e1 := V2.out.c1; have e2 := V2.out.c2; clear hq h2) | (go_at_call 7; (with_reducible refine (HRU.out _).mono ?_); rintro e w3 ⟨v, rfl, hi, h3, _⟩; obtain ⟨b, off, cap, rfl, _, _, _⟩ := hi; have V3 := V2.out.after h3; have G3 := Lib.hid (below_step G2.out h3); have f2 := V3.c2; clear V3 h3))
          go_ret
          exact GivesQ.yes HP.out G3.out
        · have HP := Lib.hid (fun h => hn (hp.mp h).2.2)
          have hb : (n == 0) = false := by simpa using hn
          clear hN hp
          go_enter Tryd.func11, Tryd.ntmps11
          go_wp2_with (first | (go_at_call 29; (with_reducible refine (HGO.out _).mono ?_); rintro e w2 ⟨q, rfl, hq, h2⟩; obtain rfl : q = true := hq.mpr HN.out; have V2 := Lib.hid (HV.out.after h2); have G2 := Lib.hid (below_step HG.out h2); have e1 := V2.out.c1; have e2 := V2.out.c2; clear hq h2) | (go_at_call 7; (with_reducible refine (HRU.out _).mono ?_); rintro e w3 ⟨v, rfl, hi, h3, _⟩; obtain ⟨b, off, cap, rfl, _, _, _⟩ := hi; have V3 := V2.out.after h3; have G3 := Lib.hid (below_step G2.out h3); have f2 := V3.c2; clear V3 h3))
          go_ret
          exact GivesQ.no HP.out G3.out
      · have HP := Lib.hid (fun h => hl (hp.mp h).2.1)
        have hl' : ¬ ((runesOf (nums s)).length : Int) ≤ 120 := by omega
        clear hN hp
        go_enter Tryd.func11, Tryd.ntmps11
        go_wp2_with (first | (go_at_call 29; (with_reducible refine (HGO.out _).mono ?_); rintro e w2 ⟨q, rfl, hq, h2⟩; obtain rfl : q = true := hq.mpr HN.out; have V2 := Lib.hid (HV.out.after h2); have G2 := Lib.hid (below_step HG.out h2); have e1 := V2.out.c1; have e2 := V2.out.c2; clear hq h2) | (go_at_call 7; (with_reducible refine (HRU.out _).mono ?_); rintro e w3 ⟨v, rfl, hi, h3, _⟩; obtain ⟨b, off, cap, rfl, _, _, _⟩ := hi; have V3 := V2.out.after h3; have G3 := Lib.hid (below_step G2.out h3); have f2 := V3.c2; clear V3 h3))
        go_ret
        exact GivesQ.no HP.out G3.out
    · have HN := Lib.hid hN
      have HP := Lib.hid (fun h => hN (hp.mp h).1)
      clear hN hp
      go_enter Tryd.func11, Tryd.ntmps11
      go_wp2_with (go_at_call 29; (with_reducible refine (HGO.out _).mono ?_); rintro e w2 ⟨q, rfl, hq, h2⟩; obtain rfl : q = false := (by cases q with | false => rfl | true => exact (HN.out (hq.mp rfl)).elim); have V2 := Lib.hid (HV.out.after h2); have G2 := Lib.hid (below_step HG.out h2); have e1 := V2.out.c1; have e2 := V2.out.c2; clear hq h2)
      go_ret
      exact GivesQ.no HP.out G2.out
  by_cases h3 : k = 3
  · subst h3
    have hp : RightT 3 s n ↔ s = ⟨#[]⟩ := by unfold RightT; simp
    by_cases hs : s = ⟨#[]⟩
    · subst hs
      have HP := Lib.hid (hp.mpr rfl)
      clear hp
      go_enter Tryd.func11, Tryd.ntmps11
      go_wp2
      go_ret
      exact GivesQ.yes HP.out HG.out
    · have HP := Lib.hid (fun h => hs (hp.mp h))
      obtain ⟨hsb, hsc⟩ := toList_empty (s := s) (Nat.pos_of_ne_zero fun e => hs (ByteArray.ext (Array.eq_empty_of_size_eq_zero e)))
      clear hp
      go_enter Tryd.func11, Tryd.ntmps11
      go_wp2
      go_ret
      exact GivesQ.no HP.out HG.out
  by_cases h4 : k = 4
  · subst h4
    have hp : RightT 4 s n ↔ s = ⟨#[]⟩ := by unfold RightT; simp
    by_cases hs : s = ⟨#[]⟩
    · subst hs
      have HP := Lib.hid (hp.mpr rfl)
      clear hp
      go_enter Tryd.func11, Tryd.ntmps11
      go_wp2
      go_ret
      exact GivesQ.yes HP.out HG.out
    · have HP := Lib.hid (fun h => hs (hp.mp h))
      obtain ⟨hsb, hsc⟩ := toList_empty (s := s) (Nat.pos_of_ne_zero fun e => hs (ByteArray.ext (Array.eq_empty_of_size_eq_zero e)))
      clear hp
      go_enter Tryd.func11, Tryd.ntmps11
      go_wp2
      go_ret
      exact GivesQ.no HP.out HG.out
  by_cases h5 : k = 5
  · subst h5
    have hp : RightT 5 s n ↔ s = ⟨#[]⟩ ∧ n ≤ 1000000 := by unfold RightT; simp
    by_cases hs : s = ⟨#[]⟩
    · subst hs
      by_cases hn : n ≤ 1000000
      · have HP := Lib.hid (hp.mpr ⟨rfl, hn⟩)
        clear hp
        go_enter Tryd.func11, Tryd.ntmps11
        go_wp2
        go_ret
        exact GivesQ.yes HP.out HG.out
      · have HP := Lib.hid (fun h => hn (hp.mp h).2)
        clear hp
        go_enter Tryd.func11, Tryd.ntmps11
        go_wp2
        go_ret
        exact GivesQ.no HP.out HG.out
    · have HP := Lib.hid (fun h => hs (hp.mp h).1)
      obtain ⟨hsb, hsc⟩ := toList_empty (s := s) (Nat.pos_of_ne_zero fun e => hs (ByteArray.ext (Array.eq_empty_of_size_eq_zero e)))
      clear hp
      go_enter Tryd.func11, Tryd.ntmps11
      go_wp2
      go_ret
      exact GivesQ.no HP.out HG.out
  by_cases h6 : k = 6
  · subst h6
    have hp : RightT 6 s n ↔ s = ⟨#[]⟩ ∧ n ≤ 253402300799 := by unfold RightT; simp
    by_cases hs : s = ⟨#[]⟩
    · subst hs
      by_cases hn : n ≤ 253402300799
      · have HP := Lib.hid (hp.mpr ⟨rfl, hn⟩)
        clear hp
        go_enter Tryd.func11, Tryd.ntmps11
        go_wp2
        go_ret
        exact GivesQ.yes HP.out HG.out
      · have HP := Lib.hid (fun h => hn (hp.mp h).2)
        clear hp
        go_enter Tryd.func11, Tryd.ntmps11
        go_wp2
        go_ret
        exact GivesQ.no HP.out HG.out
    · have HP := Lib.hid (fun h => hs (hp.mp h).1)
      obtain ⟨hsb, hsc⟩ := toList_empty (s := s) (Nat.pos_of_ne_zero fun e => hs (ByteArray.ext (Array.eq_empty_of_size_eq_zero e)))
      clear hp
      go_enter Tryd.func11, Tryd.ntmps11
      go_wp2
      go_ret
      exact GivesQ.no HP.out HG.out
  by_cases h0 : k = 0
  · subst h0
    have hp : RightT 0 s n ↔ s = ⟨#[]⟩ ∧ n = 0 := by unfold RightT; simp
    by_cases hs : s = ⟨#[]⟩
    · subst hs
      by_cases hn : n = 0
      · have HP := Lib.hid (hp.mpr ⟨rfl, hn⟩)
        subst hn
        clear hp
        go_enter Tryd.func11, Tryd.ntmps11
        go_wp2
        go_ret
        exact GivesQ.yes HP.out HG.out
      · have HP := Lib.hid (fun h => hn (hp.mp h).2)
        have hb : (n == 0) = false := by simpa using hn
        clear hp
        go_enter Tryd.func11, Tryd.ntmps11
        go_wp2
        go_ret
        exact GivesQ.no HP.out HG.out
    · have HP := Lib.hid (fun h => hs (hp.mp h).1)
      obtain ⟨hsb, hsc⟩ := toList_empty (s := s) (Nat.pos_of_ne_zero fun e => hs (ByteArray.ext (Array.eq_empty_of_size_eq_zero e)))
      clear hp
      go_enter Tryd.func11, Tryd.ntmps11
      go_wp2
      go_ret
      exact GivesQ.no HP.out HG.out
  by_cases h7 : k = 7
  · subst h7
    have hp : RightT 7 s n ↔ s = ⟨#[]⟩ ∧ n = 0 := by unfold RightT; simp
    by_cases hs : s = ⟨#[]⟩
    · subst hs
      by_cases hn : n = 0
      · have HP := Lib.hid (hp.mpr ⟨rfl, hn⟩)
        subst hn
        clear hp
        go_enter Tryd.func11, Tryd.ntmps11
        go_wp2
        go_ret
        exact GivesQ.yes HP.out HG.out
      · have HP := Lib.hid (fun h => hn (hp.mp h).2)
        have hb : (n == 0) = false := by simpa using hn
        clear hp
        go_enter Tryd.func11, Tryd.ntmps11
        go_wp2
        go_ret
        exact GivesQ.no HP.out HG.out
    · have HP := Lib.hid (fun h => hs (hp.mp h).1)
      obtain ⟨hsb, hsc⟩ := toList_empty (s := s) (Nat.pos_of_ne_zero fun e => hs (ByteArray.ext (Array.eq_empty_of_size_eq_zero e)))
      clear hp
      go_enter Tryd.func11, Tryd.ntmps11
      go_wp2
      go_ret
      exact GivesQ.no HP.out HG.out
  by_cases h8 : k = 8
  · subst h8
    have hp : RightT 8 s n ↔ s = ⟨#[]⟩ ∧ n = 0 := by unfold RightT; simp
    by_cases hs : s = ⟨#[]⟩
    · subst hs
      by_cases hn : n = 0
      · have HP := Lib.hid (hp.mpr ⟨rfl, hn⟩)
        subst hn
        clear hp
        go_enter Tryd.func11, Tryd.ntmps11
        go_wp2
        go_ret
        exact GivesQ.yes HP.out HG.out
      · have HP := Lib.hid (fun h => hn (hp.mp h).2)
        have hb : (n == 0) = false := by simpa using hn
        clear hp
        go_enter Tryd.func11, Tryd.ntmps11
        go_wp2
        go_ret
        exact GivesQ.no HP.out HG.out
    · have HP := Lib.hid (fun h => hs (hp.mp h).1)
      obtain ⟨hsb, hsc⟩ := toList_empty (s := s) (Nat.pos_of_ne_zero fun e => hs (ByteArray.ext (Array.eq_empty_of_size_eq_zero e)))
      clear hp
      go_enter Tryd.func11, Tryd.ntmps11
      go_wp2
      go_ret
      exact GivesQ.no HP.out HG.out
  by_cases h9 : k = 9
  · subst h9
    have hp : RightT 9 s n ↔ s = ⟨#[]⟩ ∧ n = 0 := by unfold RightT; simp
    by_cases hs : s = ⟨#[]⟩
    · subst hs
      by_cases hn : n = 0
      · have HP := Lib.hid (hp.mpr ⟨rfl, hn⟩)
        subst hn
        clear hp
        go_enter Tryd.func11, Tryd.ntmps11
        go_wp2
        go_ret
        exact GivesQ.yes HP.out HG.out
      · have HP := Lib.hid (fun h => hn (hp.mp h).2)
        have hb : (n == 0) = false := by simpa using hn
        clear hp
        go_enter Tryd.func11, Tryd.ntmps11
        go_wp2
        go_ret
        exact GivesQ.no HP.out HG.out
    · have HP := Lib.hid (fun h => hs (hp.mp h).1)
      obtain ⟨hsb, hsc⟩ := toList_empty (s := s) (Nat.pos_of_ne_zero fun e => hs (ByteArray.ext (Array.eq_empty_of_size_eq_zero e)))
      clear hp
      go_enter Tryd.func11, Tryd.ntmps11
      go_wp2
      go_ret
      exact GivesQ.no HP.out HG.out
  have HP : Hid (¬ RightT k s n) := Lib.hid (by unfold RightT; omega)
  have b0 : (k == 0) = false := by simpa using h0
  have b1 : (k == 1) = false := by simpa using h1
  have b2 : (k == 2) = false := by simpa using h2
  have b3 : (k == 3) = false := by simpa using h3
  have b4 : (k == 4) = false := by simpa using h4
  have b5 : (k == 5) = false := by simpa using h5
  have b6 : (k == 6) = false := by simpa using h6
  have b7 : (k == 7) = false := by simpa using h7
  have b8 : (k == 8) = false := by simpa using h8
  have b9 : (k == 9) = false := by simpa using h9
  clear h0 h1 h2 h3 h4 h5 h6 h7 h8 h9
  go_enter Tryd.func11, Tryd.ntmps11
  go_wp2
  go_ret
  exact GivesQ.no HP.out HG.out

end Go.Proofs.YthainohkneociaaDoor
