/-
  The document's tokens: a token's five cells; a word's value, walked.
-/
import Derived.Test.YthfmllgflnideaaGreatDoorPkScnb
import Derived.Test.YthfmllgflnideaaGreatDoorPkScnD
import Derived.Test.YthfmllgflnideaaGreatDoorPkTexts
import Derived.Test.YthfmllgflnideaaGreatDoorPkPpmr
import Derived.Test.YthfmllgflnideaaGreatDoorPkSpanr
import Derived.Test.YthfmllgflnideaaGreatDoorPkVrs
import Derived.Test.YthfmllgflnideaaGreatDoorPkTxtV
namespace Go.Proofs.YthfmllgflnideaaGreatDoor
open Go.RowKit

/-- A token's value, at a place. -/
def tkAt (t : TkV) (a b : Int) : Value := .agg #[.int .i64 (t.kind : Int), .string (strOfNums t.text), .int .u64 (t.n : Int), .int .i64 a, .int .i64 b]
/-- Five cells. -/
structure Var5 (W : World) (p : Nat) (x0 x1 x2 x3 x4 : Value) : Prop where
  c0 : W.cell? ⟨p, 0, none⟩ = some x0
  c1 : W.cell? ⟨p, 1, none⟩ = some x1
  c2 : W.cell? ⟨p, 2, none⟩ = some x2
  c3 : W.cell? ⟨p, 3, none⟩ = some x3
  c4 : W.cell? ⟨p, 4, none⟩ = some x4
  q : ∀ i, W.frozen? ⟨p, i, none⟩ = false
  s : p < W.heap.size
theorem Var5.fresh (W : World) (x0 x1 x2 x3 x4 : Value) (t : TypeId) (p : Nat) (hp : p = W.heap.size) : Var5 (W.alloc (.cells #[x0, x1, x2, x3, x4] t)) p x0 x1 x2 x3 x4 := by
  subst hp
  exact ⟨by simp, by simp, by simp, by simp, by simp, fun i => by simp [go_sem], by simp⟩
theorem Var5.stay {W W' : World} {p : Nat} {x0 x1 x2 x3 x4 : Value} (h : Var5 W p x0 x1 x2 x3 x4) (e : W'.heap[p]? = W.heap[p]?) (hs : W.heap.size ≤ W'.heap.size) : Var5 W' p x0 x1 x2 x3 x4 :=
  ⟨(World.cell?_of_block e).trans h.c0, (World.cell?_of_block e).trans h.c1, (World.cell?_of_block e).trans h.c2, (World.cell?_of_block e).trans h.c3, (World.cell?_of_block e).trans h.c4, fun i => (World.frozen?_of_block e).trans (h.q i), Nat.lt_of_lt_of_le h.s hs⟩
theorem Var5.after {W W' : World} {p : Nat} {x0 x1 x2 x3 x4 : Value} (h : Var5 W p x0 x1 x2 x3 x4) (hb : Below W.heap.size W W') : Var5 W' p x0 x1 x2 x3 x4 := h.stay (hb.block p h.s) hb.size
/-- Five cells stored. -/
def put5 (W : World) (p : Nat) (y0 y1 y2 y3 y4 : Value) : World := ((((W.setCell ⟨p, 0, none⟩ y0).setCell ⟨p, 1, none⟩ y1).setCell ⟨p, 2, none⟩ y2).setCell ⟨p, 3, none⟩ y3).setCell ⟨p, 4, none⟩ y4
theorem Var5.put {W : World} {p : Nat} {x0 x1 x2 x3 x4 : Value} (h : Var5 W p x0 x1 x2 x3 x4) (y0 y1 y2 y3 y4 : Value) : Var5 (put5 W p y0 y1 y2 y3 y4) p y0 y1 y2 y3 y4 := by
  obtain ⟨c0, c1, c2, c3, c4, q, s⟩ := h
  unfold put5
  refine ⟨?_, ?_, ?_, ?_, ?_, fun i => ?_, ?_⟩ <;> simp [go_sem, *]
theorem put5_size (W : World) (p : Nat) (y0 y1 y2 y3 y4 : Value) : (put5 W p y0 y1 y2 y3 y4).heap.size = W.heap.size := by
  unfold put5
  simp
theorem below_put5 {B : Nat} {w W : World} (h : Below B w W) {p : Nat} (hp : B ≤ p) (y0 y1 y2 y3 y4 : Value) : Below B w (put5 W p y0 y1 y2 y3 y4) := ((((h.setCell hp _).setCell hp _).setCell hp _).setCell hp _).setCell hp _
theorem load_tok {W : World} {g : Nat} {x0 x1 x2 x3 x4 : Value} (h : Var5 W g x0 x1 x2 x3 x4) : (loadVar 39 ⟨g, 0, none⟩).run Tryz.prog W = .ok (.agg #[x0, x1, x2, x3, x4]) W := by
  obtain ⟨c0, c1, c2, c3, c4, _, _⟩ := h
  go_simp
set_option maxRecDepth 100000 in
theorem svalue_results {W : World} {g : Nat} {x0 x1 x2 x3 x4 u : Value} {tmps : Array Value} (h : Var5 W g x0 x1 x2 x3 x4) (h2 : tmps.getD 2 undef = .pointer (some ⟨g, 0, none⟩)) (h3 : tmps.getD 3 undef = u) : (results Tryz.f29 tmps).run Tryz.prog W = .ok (.tuple #[.agg #[x0, x1, x2, x3, x4], u]) W := by
  have e : (asAddr (Value.pointer (some ⟨g, 0, none⟩))).run Tryz.prog W = .ok ⟨g, 0, none⟩ W := rfl
  have hr : Tryz.f29.results = #[.cell 2 39, .tmp 3] := rfl
  have q2 : tmps[2]?.getD undef = .pointer (some ⟨g, 0, none⟩) := by simpa using h2
  have q3 : tmps[3]?.getD undef = u := by simpa using h3
  simp only [results, hr]
  simp [Sem.run_bind, Result.andThen, q2, q3, e, load_tok h]

/-- What Value gives. -/
def GivesTk (t : TkV) (c : Int) (w : World) (e : Ending) (w' : World) : Prop := e = .returned (.tuple #[tkAt t 0 0, .int .i64 c]) ∧ Below w.heap.size w w'
theorem strNil : strOfNums [] = ⟨#[]⟩ := by rfl

set_option maxRecDepth 100000 in
set_option maxHeartbeats 4000000 in
/-- A word that doesn't begin with a digit. -/
theorem svalue_name (v : Value) (l : List Int) (w : World) (hv : Ints .i32 w v l) (hok : RunesOk l) (hl : l.length ≤ 1000000) (hd : l = [] ∨ digitB (l.getD 0 0) = false) :
    Calls Tryz.prog 29 #[v] w (GivesTk (valF l).1 (valF l).2 w) := by
  have hsz : (strOfNums (textR l)).size ≤ 4000000 := by
    rw [pstr_len]
    have := textR_len l
    omega
  have hnu : nums (strOfNums (textR l)) = textR l := nums_strOfNums _ (textR_byte hok.bd)
  have HNM := Lib.hid (fun W => rname_any (strOfNums (textR l)) W (by omega))
  rw [hnu, runes_text hok] at HNM
  have V0 := Var5.fresh w (.int .i64 0) (.string ⟨#[]⟩) (.int .u64 0) (.int .i64 0) (.int .i64 0) 39 w.heap.size rfl
  have g0 : Below w.heap.size w (w.alloc (.cells #[.int .i64 0, .string ⟨#[]⟩, .int .u64 0, .int .i64 0, .int .i64 0] 39)) := (Below.refl _ _).alloc (Nat.le_refl _) _
  have HTX := Lib.hid (fun W (hb : Below w.heap.size w W) => stext_any v l W (hv.below hb) hok.bd hl)
  have HV0 := Lib.hid (fun W (hb : Below w.heap.size w W) => hv.below hb)
  obtain ⟨S, hS⟩ : ∃ S, strOfNums (textR l) = S := ⟨_, rfl⟩
  have HS := Lib.hid hS
  rw [hS] at HNM HTX hsz
  have HD := Lib.hid (fun r W => sdigit_any r W)
  obtain ⟨b, off, cap, rfl, hcap, hb, hcell⟩ := hv
  have G0 := Lib.hid g0
  have HV := Lib.hid V0
  obtain ⟨W0, hW0⟩ : ∃ W, w.alloc (.cells #[.int .i64 0, .string ⟨#[]⟩, .int .u64 0, .int .i64 0, .int .i64 0] 39) = W := ⟨_, rfl⟩
  rw [hW0] at G0 HV
  have HC := Lib.hid hcell
  have hval : ∀ q : Bool, (q = true ↔ NameL l) → valF l = if q then (⟨1, textR l, 0⟩, 0) else (tk0, 5) := fun q hq => by
    by_cases hn : NameL l
    · rw [valF_name hd hn, if_pos (hq.mpr hn)]
    · rw [valF_none hd hn, if_neg (fun e => hn (hq.mp e))]
  have HVAL := Lib.hid hval
  by_cases h0 : l.length = 0
  · rw [h0] at HTX ⊢
    clear hd g0 V0 hS hnu hok hl hcap hcell hval h0 HV0 HD
    go_enter Tryz.func29, Tryz.ntmps29
    go_wp2_with (first
      | (go_at_call 27; (with_reducible refine (HTX.out _ G0.out).mono ?_); rintro e w1 ⟨rfl, h1⟩; have V1 := Lib.hid (HV.out.after h1); have G1 := Lib.hid (below_step G0.out h1); clear h1)
      | (go_at_call 45; (with_reducible refine (HNM.out _).mono ?_); rintro e w2 ⟨q, rfl, hq, h2⟩; have HQ := Lib.hid hq; have V2 := Lib.hid (V1.out.after h2); have G2 := Lib.hid (below_step G1.out h2); clear hq h2; have c0 := V2.out.c0; have c1 := V2.out.c1; have c2 := V2.out.c2; have c3 := V2.out.c3; have c4 := V2.out.c4; have q0 := V2.out.q 0; have q1 := V2.out.q 1; have q2 := V2.out.q 2; have q3 := V2.out.q 3; have q4 := V2.out.q 4))
    · rename_i hq
      subst hq
      refine bodyPost_ret (svalue_results (x0 := .int .i64 1) (x1 := .string S) (x2 := .int .u64 0) (x3 := .int .i64 0) (x4 := .int .i64 0) (u := .int .i64 0) (V2.out.put _ _ _ _ _) rfl rfl) rfl ?_
      exact ⟨by rw [HVAL.out true HQ.out, ← HS.out]; rfl, below_put5 G2.out (Nat.le_refl _) _ _ _ _ _⟩
    · rename_i hq
      subst hq
      refine bodyPost_ret (svalue_results (x0 := .int .i64 0) (x1 := .string ⟨#[]⟩) (x2 := .int .u64 0) (x3 := .int .i64 0) (x4 := .int .i64 0) (u := .int .i64 5) (V2.out.put _ _ _ _ _) rfl rfl) rfl ?_
      exact ⟨by rw [HVAL.out false HQ.out]; rfl, below_put5 G2.out (Nat.le_refl _) _ _ _ _ _⟩
  · have hd2 : digitB (l.getD 0 0) = false := by
      rcases hd with rfl | h
      · exact (h0 rfl).elim
      · exact h
    have hx := hcell 0 (by omega)
    obtain ⟨z, hz⟩ : ∃ z, l.getD 0 0 = z := ⟨_, rfl⟩
    rw [hz] at hx hd2
    have HX := Lib.hid hx
    have HD2 := Lib.hid (fun W => sdigit_is hd2 W)
    obtain ⟨n, hn⟩ : ∃ n, l.length = n := ⟨_, rfl⟩
    have h0' : ¬ (n : Int) = 0 := by omega
    rw [hn] at HTX hl hcap ⊢
    clear hd g0 V0 hS hnu hok hcell hval HV0 HD hd2 hz hx hn
    go_enter Tryz.func29, Tryz.ntmps29
    go_wp2_with (first
      | (go_at_call 27; (with_reducible refine (HTX.out _ G0.out).mono ?_); rintro e w1 ⟨rfl, h1⟩; have V1 := Lib.hid (HV.out.after h1); have G1 := Lib.hid (below_step G0.out h1); clear h1; have x1 : w1.cell? ⟨b, off, none⟩ = some (.int .i32 z) := (G1.out.cell (p := ⟨b, off, none⟩) hb).trans HX.out)
      | (go_at_call 44; (with_reducible refine (HD2.out _).mono ?_); rintro e w1' ⟨rfl, rfl⟩)
      | (go_at_call 45; (with_reducible refine (HNM.out _).mono ?_); rintro e w2 ⟨q, rfl, hq, h2⟩; have HQ := Lib.hid hq; have V2 := Lib.hid (V1.out.after h2); have G2 := Lib.hid (below_step G1.out h2); clear hq h2; have c0 := V2.out.c0; have c1 := V2.out.c1; have c2 := V2.out.c2; have c3 := V2.out.c3; have c4 := V2.out.c4; have q0 := V2.out.q 0; have q1 := V2.out.q 1; have q2 := V2.out.q 2; have q3 := V2.out.q 3; have q4 := V2.out.q 4))
    · rename_i hq
      subst hq
      refine bodyPost_ret (svalue_results (x0 := .int .i64 1) (x1 := .string S) (x2 := .int .u64 0) (x3 := .int .i64 0) (x4 := .int .i64 0) (u := .int .i64 0) (V2.out.put _ _ _ _ _) rfl rfl) rfl ?_
      exact ⟨by rw [HVAL.out true HQ.out, ← HS.out]; rfl, below_put5 G2.out (Nat.le_refl _) _ _ _ _ _⟩
    · rename_i hq
      subst hq
      refine bodyPost_ret (svalue_results (x0 := .int .i64 0) (x1 := .string ⟨#[]⟩) (x2 := .int .u64 0) (x3 := .int .i64 0) (x4 := .int .i64 0) (u := .int .i64 5) (V2.out.put _ _ _ _ _) rfl rfl) rfl ?_
      exact ⟨by rw [HVAL.out false HQ.out]; rfl, below_put5 G2.out (Nat.le_refl _) _ _ _ _ _⟩

/-- A point among the first? -/
def pointB (Z : List Int) (i : Nat) : Bool := decide (46 ∈ Z.take i)
theorem pointB_step {Z : List Int} {i : Nat} (h : i < Z.length) : pointB Z (i + 1) = (pointB Z i || Z.getD i 0 == 46) := by
  unfold pointB
  rw [take_snoc h]
  by_cases h1 : 46 ∈ Z.take i
  · have : 46 ∈ Z.take i ++ [Z.getD i 0] := List.mem_append_left _ h1
    simp [h1]
  · by_cases h2 : Z.getD i 0 = 46
    · rw [h2]
      simp [h1]
    · have h3 : ¬ 46 ∈ Z.take i ++ [Z.getD i 0] := fun h => by
        rcases List.mem_append.mp h with h | h
        · exact h1 h
        · exact h2 (List.mem_singleton.mp h).symm
      rw [decide_eq_false h3, decide_eq_false h1]
      simp only [Bool.false_or]
      exact (beq_eq_false_iff_ne.mpr h2).symm
theorem pointB_end {Z : List Int} {i : Nat} (h : Z.length ≤ i) : pointB Z i = decide (46 ∈ Z) := by
  unfold pointB
  rw [List.take_of_length_le h]
set_option maxRecDepth 100000 in
set_option maxHeartbeats 8000000 in
/-- A word that begins with a digit. -/
theorem svalue_digit (v : Value) (l : List Int) (w : World) (hv : Ints .i32 w v l) (hok : RunesOk l) (hl : l.length ≤ 1000000) (hd : ¬ (l = [] ∨ digitB (l.getD 0 0) = false)) :
    Calls Tryz.prog 29 #[v] w (GivesTk (valF l).1 (valF l).2 w) := by
  have hzb := textR_byte hok.bd
  have hsz : (strOfNums (textR l)).size ≤ 4000000 := by
    rw [pstr_len]
    have := textR_len l
    omega
  have hnu : nums (strOfNums (textR l)) = textR l := nums_strOfNums _ hzb
  have h0 : l.length ≠ 0 := fun e => hd (Or.inl (List.eq_nil_of_length_eq_zero e))
  have hd2 : digitB (l.getD 0 0) = true := by
    cases e : digitB (l.getD 0 0) with
    | true => rfl
    | false => exact (hd (Or.inr e)).elim
  have hne : 0 < (textR l).length := by
    cases l with
    | nil => exact (h0 rfl).elim
    | cons r l =>
      show 0 < (byteR r ++ textR l).length
      have hr : 48 ≤ r ∧ r ≤ 57 := by unfold digitB at hd2; simpa using hd2
      have e : byteR r = encL r := if_neg (by omega)
      have e2 : encL r = [r] := by unfold encL; rw [if_pos (by omega)]
      rw [e, e2]
      simp
  have HV1 := Lib.hid (@valF_count l hd)
  have HV2 := Lib.hid (@valF_share l hd)
  have HV3 := Lib.hid (@valF_factor l hd)
  have HV4 := Lib.hid (@valF_span l hd)
  have V0 := Var5.fresh w (.int .i64 0) (.string ⟨#[]⟩) (.int .u64 0) (.int .i64 0) (.int .i64 0) 39 w.heap.size rfl
  have g0 : Below w.heap.size w (w.alloc (.cells #[.int .i64 0, .string ⟨#[]⟩, .int .u64 0, .int .i64 0, .int .i64 0] 39)) := (Below.refl _ _).alloc (Nat.le_refl _) _
  have HTX := Lib.hid (fun W (hb : Below w.heap.size w W) => stext_any v l W (hv.below hb) hok.bd hl)
  have HDI := Lib.hid (fun W => sdigits_any (strOfNums (textR l)) W (by omega))
  have HNU := Lib.hid (fun W => snumber_any (strOfNums (textR l)) W (by omega))
  have HSH := Lib.hid (share_out (rread_cases (strOfNums (textR l)) (by omega)))
  have HSP := Lib.hid (fun W => rsread_all (strOfNums (textR l)) W (by omega))
  have HFA : Hid (46 ∈ textR l → ∀ W, Calls Tryz.prog 49 #[.string (strOfNums (textR l))] W fun e w' => e = .returned (.tuple #[.int .u64 ((facF (headP (textR l)) (tailP (textR l))).1 : Int), .int .i64 (facF (headP (textR l)) (tailP (textR l))).2]) ∧ Below W.heap.size W w') := fun h W => by
    obtain ⟨e1, e2⟩ := point_parts h
    have r := sfactor_any (headP (textR l)) (tailP (textR l)) W e2 (by rw [← e1]; exact hzb) (by rw [← e1]; rw [pstr_len] at hsz; omega)
    rw [← e1] at r
    exact r
  have HAT := Lib.hid (fun i (h : i < (strOfNums (textR l)).size) => (by have q := nums_at (strOfNums (textR l)) i h; rw [hnu] at q; exact q : (textR l).getD i 0 = ((strOfNums (textR l))[i].toNat : Int)))
  have hZS : (textR l).length = (strOfNums (textR l)).size := (pstr_len _).symm
  rw [hnu] at HDI HNU HSH HSP
  obtain ⟨Z, hZ⟩ : ∃ Z, textR l = Z := ⟨_, rfl⟩
  rw [hZ] at HV1 HV2 HV3 HV4 HDI HNU HSH HSP HFA HTX HAT hsz hne hZS
  obtain ⟨S, hS⟩ : ∃ S, strOfNums Z = S := ⟨_, rfl⟩
  rw [hS] at HDI HNU HSH HSP HFA HTX hsz hZS
  have HAT : Hid (∀ i (h : i < S.size), Z.getD i 0 = (S[i].toNat : Int)) := by subst hS; exact HAT
  obtain ⟨b, off, cap, rfl, hcap, hb, hcell⟩ := hv
  have G0 := Lib.hid g0
  have HV := Lib.hid V0
  obtain ⟨W0, hW0⟩ : ∃ W, w.alloc (.cells #[.int .i64 0, .string ⟨#[]⟩, .int .u64 0, .int .i64 0, .int .i64 0] 39) = W := ⟨_, rfl⟩
  rw [hW0] at G0 HV
  have hx := hcell 0 (by omega)
  obtain ⟨z, hz⟩ : ∃ z, l.getD 0 0 = z := ⟨_, rfl⟩
  rw [hz] at hx hd2
  have HX := Lib.hid hx
  have HD2 := Lib.hid (fun W => sdigit_is hd2 W)
  obtain ⟨n, hn⟩ : ∃ n, l.length = n := ⟨_, rfl⟩
  have h0' : ¬ (n : Int) = 0 := by omega
  rw [hn] at HTX hl hcap ⊢
  obtain ⟨R, hR⟩ : ∃ R, valF l = R := ⟨_, rfl⟩
  rw [hR] at HV1 HV2 HV3 HV4 ⊢
  clear hd g0 V0 hS hnu hok hcell hd2 hz hx hn hzb hZ hR h0
  go_enter Tryz.func29, Tryz.ntmps29
  go_wp2_with (first
    | (go_at_call 27; (with_reducible refine (HTX.out _ G0.out).mono ?_); rintro e w1 ⟨rfl, h1⟩; have V1 := Lib.hid (HV.out.after h1); have G1 := Lib.hid (below_step G0.out h1); clear h1; have x1 : w1.cell? ⟨b, off, none⟩ = some (.int .i32 z) := (G1.out.cell (p := ⟨b, off, none⟩) hb).trans HX.out)
    | (go_at_call 44; (with_reducible refine (HD2.out _).mono ?_); rintro e w1' ⟨rfl, rfl⟩))
  go_loop [8, 9] (fun v8 v9 => ∃ i : Nat, i ≤ S.size ∧ v8 = .bool (pointB Z i) ∧ v9 = .int .i64 i) (fun _ v9 => S.size - (intOf v9).toNat)
  case atStart => exact ⟨0, Nat.zero_le _, rfl, rfl⟩
  case round =>
    obtain ⟨i, hi, rfl, rfl⟩ := hrel
    by_cases h1 : i < S.size
    · have hst := Lib.hid (pointB_step (Z := Z) (i := i) (by omega))
      have hz0 := HAT.out i h1
      obtain ⟨y, hy⟩ : ∃ y : Int, (S[i].toNat : Int) = y := ⟨_, rfl⟩
      rw [hy] at hz0
      rw [hz0] at hst
      obtain ⟨pb, hpb⟩ : ∃ pb, pointB Z i = pb := ⟨_, rfl⟩
      rw [hpb] at hst ⊢
      clear hz0 hpb
      cases pb with
      | true =>
        go_wp2
        go_round
        case rel => exact ⟨i + 1, by omega, by rw [hst.out]; rfl, by go_num⟩
        case measure => simp [intOf]; omega
      | false =>
        by_cases hy46 : y = 46
        · subst hy46
          go_wp2
          go_round
          case rel => exact ⟨i + 1, by omega, by rw [hst.out]; rfl, by go_num⟩
          case measure => simp [intOf]; omega
        · have hyb : (y == 46) = false := by simpa using hy46
          have hst2 := Lib.hid (by rw [hst.out, hyb]; rfl : pointB Z (i + 1) = false)
          go_wp2
          go_round
          case rel => exact ⟨i + 1, by omega, by rw [hst2.out], by go_num⟩
          case measure => simp [intOf]; omega
    · obtain rfl : i = S.size := by omega
      rw [pointB_end (by omega)]
      by_cases hAD : AllD Z
      · have HAD := Lib.hid hAD
        have HFF := Lib.hid (HV1.out hAD)
        obtain ⟨P, C, hPC⟩ : ∃ P C, numF Z = (P, C) := ⟨_, _, rfl⟩
        rw [hPC] at HFF HNU
        clear hAD hPC
        go_wp2_with (first
          | (go_at_call 46; (with_reducible refine (HDI.out _).mono ?_); rintro e w2 ⟨q, rfl, hq, h2⟩; obtain rfl : q = true := hq.mpr HAD.out; have V2 := Lib.hid (V1.out.after h2); have G2 := Lib.hid (below_step G1.out h2); clear hq h2)
          | (go_at_call 47; (with_reducible refine (HNU.out _).mono ?_); rintro e w3 ⟨rfl, h3⟩; have V3 := Lib.hid (V2.out.after h3); have G3 := Lib.hid (below_step G2.out h3); clear h3; have c0 := V3.out.c0; have c1 := V3.out.c1; have c2 := V3.out.c2; have c3 := V3.out.c3; have c4 := V3.out.c4; have q0 := V3.out.q 0; have q1 := V3.out.q 1; have q2 := V3.out.q 2; have q3 := V3.out.q 3; have q4 := V3.out.q 4))
        · rename_i hc
          have hc2 : ¬ C = 0 := by simpa using hc
          refine bodyPost_ret (svalue_results (x0 := .int .i64 0) (x1 := .string ⟨#[]⟩) (x2 := .int .u64 0) (x3 := .int .i64 0) (x4 := .int .i64 0) (u := .int .i64 C) (V3.out.put _ _ _ _ _) rfl rfl) rfl ?_
          exact ⟨by rw [HFF.out, numT_err hc2]; rfl, below_put5 G3.out (Nat.le_refl _) _ _ _ _ _⟩
        · rename_i hc
          have hc2 : C = 0 := by simpa using hc
          refine bodyPost_ret (svalue_results (x0 := .int .i64 3) (x1 := .string ⟨#[]⟩) (x2 := .int .u64 (P : Int)) (x3 := .int .i64 0) (x4 := .int .i64 0) (u := .int .i64 0) (V3.out.put _ _ _ _ _) rfl rfl) rfl ?_
          exact ⟨by rw [HFF.out, numT_fine hc2]; rfl, below_put5 G3.out (Nat.le_refl _) _ _ _ _ _⟩
      · have HAD := Lib.hid hAD
        obtain ⟨m, hm⟩ : ∃ m, S.size = m + 1 := ⟨S.size - 1, by omega⟩
        have hms : m < S.size := by omega
        have hz0 := HAT.out m hms
        have hml : Z.length - 1 = m := by omega
        rw [hml] at HV2 HV3 HV4
        obtain ⟨y, hy⟩ : ∃ y : Int, (S[m].toNat : Int) = y := ⟨_, rfl⟩
        rw [hy] at hz0
        rw [hz0] at HV2 HV3 HV4
        have hm1 : (S.size : Int) - 1 = (m : Int) := by omega
        by_cases hy37 : y = 37
        · have HFF := Lib.hid (HV2.out hAD hy37)
          subst hy37
          obtain ⟨P, C, hPC⟩ : ∃ P C, shareF Z = (P, C) := ⟨_, _, rfl⟩
          have hbd := share_bd Z
          rw [hPC] at HFF HSH hbd
          have hP : P ≤ 1000000 := hbd
          have hwx : IntKind.u64.wrap (P : Int) = (P : Int) := by rw [IntKind.wrap_u64]; omega
          clear hAD hPC hz0 hml hbd
          go_wp2_with (first
            | (go_at_call 46; (with_reducible refine (HDI.out _).mono ?_); rintro e w2 ⟨q, rfl, hq, h2⟩; obtain rfl : q = false := (by cases q with | false => rfl | true => exact (HAD.out (hq.mp rfl)).elim); have V2 := Lib.hid (V1.out.after h2); have G2 := Lib.hid (below_step G1.out h2); clear hq h2)
            | (go_at_call 48; (with_reducible refine (HSH.out _).mono ?_); rintro e w3 ⟨x, rfl, hx0, hx1, hxN, h3⟩; obtain rfl : x = (P : Int) := (by have q : x.toNat = P := hxN; omega); have V3 := Lib.hid (V2.out.after h3); have G3 := Lib.hid (below_step G2.out h3); clear h3; have c0 := V3.out.c0; have c1 := V3.out.c1; have c2 := V3.out.c2; have c3 := V3.out.c3; have c4 := V3.out.c4; have q0 := V3.out.q 0; have q1 := V3.out.q 1; have q2 := V3.out.q 2; have q3 := V3.out.q 3; have q4 := V3.out.q 4))
          · rename_i hc
            have hc2 : ¬ C = 0 := by simpa using hc
            refine bodyPost_ret (svalue_results (x0 := .int .i64 0) (x1 := .string ⟨#[]⟩) (x2 := .int .u64 0) (x3 := .int .i64 0) (x4 := .int .i64 0) (u := .int .i64 C) (V3.out.put _ _ _ _ _) rfl rfl) rfl ?_
            exact ⟨by rw [HFF.out, numT_err hc2]; rfl, below_put5 G3.out (Nat.le_refl _) _ _ _ _ _⟩
          · rename_i hc
            have hc2 : C = 0 := by simpa using hc
            refine bodyPost_ret (svalue_results (x0 := .int .i64 5) (x1 := .string ⟨#[]⟩) (x2 := .int .u64 (P : Int)) (x3 := .int .i64 0) (x4 := .int .i64 0) (u := .int .i64 0) (V3.out.put _ _ _ _ _) rfl rfl) rfl ?_
            exact ⟨by rw [HFF.out, numT_fine hc2]; rfl, below_put5 G3.out (Nat.le_refl _) _ _ _ _ _⟩
        · have hyb : (y == 37) = false := by simpa using hy37
          by_cases hpt : 46 ∈ Z
          · have HFF := Lib.hid (HV3.out hAD hy37 hpt)
            have HFC := Lib.hid (HFA.out hpt)
            obtain ⟨P, C, hPC⟩ : ∃ P C, facF (headP Z) (tailP Z) = (P, C) := ⟨_, _, rfl⟩
            rw [hPC] at HFF HFC
            have hdc : decide (46 ∈ Z) = true := decide_eq_true hpt
            rw [hdc]
            clear hAD hPC hz0 hml hdc
            go_wp2_with (first
              | (go_at_call 46; (with_reducible refine (HDI.out _).mono ?_); rintro e w2 ⟨q, rfl, hq, h2⟩; obtain rfl : q = false := (by cases q with | false => rfl | true => exact (HAD.out (hq.mp rfl)).elim); have V2 := Lib.hid (V1.out.after h2); have G2 := Lib.hid (below_step G1.out h2); clear hq h2)
              | (go_at_call 49; (with_reducible refine (HFC.out _).mono ?_); rintro e w3 ⟨rfl, h3⟩; have V3 := Lib.hid (V2.out.after h3); have G3 := Lib.hid (below_step G2.out h3); clear h3; have c0 := V3.out.c0; have c1 := V3.out.c1; have c2 := V3.out.c2; have c3 := V3.out.c3; have c4 := V3.out.c4; have q0 := V3.out.q 0; have q1 := V3.out.q 1; have q2 := V3.out.q 2; have q3 := V3.out.q 3; have q4 := V3.out.q 4))
            · rename_i hc
              have hc2 : ¬ C = 0 := by simpa using hc
              refine bodyPost_ret (svalue_results (x0 := .int .i64 0) (x1 := .string ⟨#[]⟩) (x2 := .int .u64 0) (x3 := .int .i64 0) (x4 := .int .i64 0) (u := .int .i64 C) (V3.out.put _ _ _ _ _) rfl rfl) rfl ?_
              exact ⟨by rw [HFF.out, numT_err hc2]; rfl, below_put5 G3.out (Nat.le_refl _) _ _ _ _ _⟩
            · rename_i hc
              have hc2 : C = 0 := by simpa using hc
              refine bodyPost_ret (svalue_results (x0 := .int .i64 4) (x1 := .string ⟨#[]⟩) (x2 := .int .u64 (P : Int)) (x3 := .int .i64 0) (x4 := .int .i64 0) (u := .int .i64 0) (V3.out.put _ _ _ _ _) rfl rfl) rfl ?_
              exact ⟨by rw [HFF.out, numT_fine hc2]; rfl, below_put5 G3.out (Nat.le_refl _) _ _ _ _ _⟩
          · have HFF := Lib.hid (HV4.out hAD hy37 hpt)
            obtain ⟨P, C, hPC⟩ : ∃ P C, spanF Z = (P, C) := ⟨_, _, rfl⟩
            have hbd := span_bd Z
            rw [hPC] at hbd
            have hP : P ≤ 253402300799 := hbd
            have hwx : IntKind.u64.wrap (P : Int) = (P : Int) := by rw [IntKind.wrap_u64]; omega
            have hdc : decide (46 ∈ Z) = false := decide_eq_false hpt
            rw [hPC] at HFF
            rw [hdc]
            have HPC := Lib.hid hPC
            clear hAD hPC hz0 hml hdc hbd
            go_wp2_with (first
              | (go_at_call 46; (with_reducible refine (HDI.out _).mono ?_); rintro e w2 ⟨q, rfl, hq, h2⟩; obtain rfl : q = false := (by cases q with | false => rfl | true => exact (HAD.out (hq.mp rfl)).elim); have V2 := Lib.hid (V1.out.after h2); have G2 := Lib.hid (below_step G1.out h2); clear hq h2)
              | (go_at_call 50; (with_reducible refine (HSP.out _).mono ?_); rintro e w3 ⟨x, c, rfl, hso, h3⟩; have hso2 := span_out hso; rw [HPC.out] at hso2; obtain ⟨rfl, ec⟩ := hso2; have ec := ec.symm; subst ec; clear hso; have V3 := Lib.hid (V2.out.after h3); have G3 := Lib.hid (below_step G2.out h3); clear h3; have c0 := V3.out.c0; have c1 := V3.out.c1; have c2 := V3.out.c2; have c3 := V3.out.c3; have c4 := V3.out.c4; have q0 := V3.out.q 0; have q1 := V3.out.q 1; have q2 := V3.out.q 2; have q3 := V3.out.q 3; have q4 := V3.out.q 4))
            · rename_i hc
              have hc2 : ¬ C = 0 := by simpa using hc
              refine bodyPost_ret (svalue_results (x0 := .int .i64 0) (x1 := .string ⟨#[]⟩) (x2 := .int .u64 0) (x3 := .int .i64 0) (x4 := .int .i64 0) (u := .int .i64 C) (V3.out.put _ _ _ _ _) rfl rfl) rfl ?_
              exact ⟨by rw [HFF.out, numT_err hc2]; rfl, below_put5 G3.out (Nat.le_refl _) _ _ _ _ _⟩
            · rename_i hc
              have hc2 : C = 0 := by simpa using hc
              refine bodyPost_ret (svalue_results (x0 := .int .i64 6) (x1 := .string ⟨#[]⟩) (x2 := .int .u64 (P : Int)) (x3 := .int .i64 0) (x4 := .int .i64 0) (u := .int .i64 0) (V3.out.put _ _ _ _ _) rfl rfl) rfl ?_
              exact ⟨by rw [HFF.out, numT_fine hc2]; rfl, below_put5 G3.out (Nat.le_refl _) _ _ _ _ _⟩
theorem svalue_any (v : Value) (l : List Int) (w : World) (hv : Ints .i32 w v l) (hok : RunesOk l) (hl : l.length ≤ 1000000) :
    Calls Tryz.prog 29 #[v] w (GivesTk (valF l).1 (valF l).2 w) := by
  by_cases hd : l = [] ∨ digitB (l.getD 0 0) = false
  · exact svalue_name v l w hv hok hl hd
  · exact svalue_digit v l w hv hok hl hd

end Go.Proofs.YthfmllgflnideaaGreatDoor

/-
  Where a quoted text ends, as the document's answer goes through it.
-/
namespace Go.Proofs.YthfmllgflnideaaGreatDoor
open Go.RowKit

/-- Where the text ends whose letters begin here, at a place; 0: it doesn't. -/
def qF : List Int → Nat → Nat
  | [], _ => 0
  | r :: t, k => if r = 10 then 0 else if r = 34 then k + 1 else if r = 92 then (match t with | [] => 0 | s :: u => if s = 10 then 0 else qF u (k + 2)) else qF t (k + 1)
theorem qF_cons (r : Int) (t : List Int) (k : Nat) : qF (r :: t) k = if r = 10 then 0 else if r = 34 then k + 1 else if r = 92 then (match t with | [] => 0 | s :: u => if s = 10 then 0 else qF u (k + 2)) else qF t (k + 1) := by cases t <;> rfl
theorem sdrop_cons {l : List Int} {i : Nat} (h : i < l.length) : l.drop i = l.getD i 0 :: l.drop (i + 1) := by
  rw [List.drop_eq_getElem_cons h, List.getD_eq_getElem?_getD, List.getElem?_eq_getElem h]
  rfl
theorem qF_end {l : List Int} {i : Nat} (h : l.length ≤ i) (k : Nat) : qF (l.drop i) k = 0 := by rw [List.drop_of_length_le h, qF]
theorem qF_line {l : List Int} {i : Nat} (h : i < l.length) (e : l.getD i 0 = 10) (k : Nat) : qF (l.drop i) k = 0 := by rw [sdrop_cons h, qF_cons, if_pos e]
theorem qF_mark {l : List Int} {i : Nat} (h : i < l.length) (e : l.getD i 0 = 34) (k : Nat) : qF (l.drop i) k = k + 1 := by rw [sdrop_cons h, qF_cons, if_neg (by omega), if_pos e]
theorem qF_back_end {l : List Int} {i : Nat} (h : i < l.length) (e : l.getD i 0 = 92) (h2 : l.length ≤ i + 1) (k : Nat) : qF (l.drop i) k = 0 := by
  rw [sdrop_cons h, qF_cons, if_neg (by omega), if_neg (by omega), if_pos e, List.drop_of_length_le h2]
theorem qF_back_line {l : List Int} {i : Nat} (h : i + 1 < l.length) (e : l.getD i 0 = 92) (e2 : l.getD (i + 1) 0 = 10) (k : Nat) : qF (l.drop i) k = 0 := by
  rw [sdrop_cons (by omega : i < l.length), qF_cons, if_neg (by omega), if_neg (by omega), if_pos e, sdrop_cons h]
  exact if_pos e2
theorem qF_back {l : List Int} {i : Nat} (h : i + 1 < l.length) (e : l.getD i 0 = 92) (e2 : l.getD (i + 1) 0 ≠ 10) (k : Nat) : qF (l.drop i) k = qF (l.drop (i + 2)) (k + 2) := by
  rw [sdrop_cons (by omega : i < l.length), qF_cons, if_neg (by omega), if_neg (by omega), if_pos e, sdrop_cons h]
  exact if_neg e2
theorem qF_else {l : List Int} {i : Nat} (h : i < l.length) (e1 : l.getD i 0 ≠ 10) (e2 : l.getD i 0 ≠ 34) (e3 : l.getD i 0 ≠ 92) (k : Nat) : qF (l.drop i) k = qF (l.drop (i + 1)) (k + 1) := by
  rw [sdrop_cons h, qF_cons, if_neg e1, if_neg e2, if_neg e3]
theorem qF_bd : ∀ (n : Nat) (l : List Int) (k : Nat), l.length ≤ n → qF l k = 0 ∨ (k < qF l k ∧ qF l k ≤ k + l.length)
  | _, [], k, _ => Or.inl (by rw [qF])
  | 0, _ :: _, _, h => absurd h (by simp)
  | n + 1, r :: t, k, h => by
    have hl : t.length ≤ n := by simpa using h
    rw [qF_cons]
    split
    · exact Or.inl rfl
    · split
      · exact Or.inr ⟨by omega, by simp⟩
      · split
        · cases t with
          | nil => exact Or.inl rfl
          | cons s u =>
            show (if s = 10 then 0 else qF u (k + 2)) = 0 ∨ _ < (if s = 10 then 0 else qF u (k + 2)) ∧ (if s = 10 then 0 else qF u (k + 2)) ≤ _
            split
            · exact Or.inl rfl
            · have := qF_bd n u (k + 2) (by simp at hl; omega)
              simp only [List.length_cons] at *
              omega
        · have := qF_bd n t (k + 1) hl
          simp only [List.length_cons]
          omega
set_option maxRecDepth 100000 in
set_option maxHeartbeats 4000000 in
theorem squoted_any (v : Value) (l : List Int) (j : Nat) (w : World) (hv : Ints .i32 w v l) (hl : l.length ≤ 1000000) (hj : j < l.length) :
    Calls Tryz.prog 25 #[v, .int .i64 (j : Int)] w fun e w' => e = .returned (.int .i64 (qF (l.drop (j + 1)) (j + 1) : Nat)) ∧ w = w' := by
  obtain ⟨b, off, cap, rfl, hcap, hb, hcell⟩ := hv
  have HC := Lib.hid hcell
  obtain ⟨R, hR⟩ : ∃ R, qF (l.drop (j + 1)) (j + 1) = R := ⟨_, rfl⟩
  rw [hR]
  have HR := Lib.hid hR
  have HE := Lib.hid (fun i h => @qF_end l i h i)
  have HQ1 := Lib.hid (fun i h e => @qF_line l i h e i)
  have HQ2 := Lib.hid (fun i h e => @qF_mark l i h e i)
  have HQ3 := Lib.hid (fun i h e h2 => @qF_back_end l i h e h2 i)
  have HQ4 := Lib.hid (fun i h e e2 => @qF_back_line l i h e e2 i)
  have HQ5 := Lib.hid (fun i h e e2 => @qF_back l i h e e2 i)
  have HQ6 := Lib.hid (fun i h e1 e2 e3 => @qF_else l i h e1 e2 e3 i)
  obtain ⟨n, hn⟩ : ∃ n, l.length = n := ⟨_, rfl⟩
  have HN := Lib.hid hn
  rw [hn] at hl hj hcap ⊢
  have hj1 : IntKind.i64.wrap ((j : Int) + 1) = ((j + 1 : Nat) : Int) := by rw [IntKind.wrap_i64]; omega
  clear hcell hR hn
  go_enter Tryz.func25, Tryz.ntmps25
  go_wp2
  go_loop [1] (fun v1 => ∃ i : Nat, i ≤ n + 1 ∧ v1 = .int .i64 (i : Int) ∧ Hid (qF (l.drop i) i = R)) (fun v1 => n + 1 - (intOf v1).toNat)
  case atStart => exact ⟨j + 1, by omega, rfl, HR⟩
  case round =>
    obtain ⟨i, hi, rfl, HI⟩ := hrel
    by_cases h1 : i < n
    · have x0 : w.cell? ⟨b, off + i, none⟩ = some (.int .i32 (l.getD i 0)) := HC.out i (by rw [HN.out]; exact h1)
      have hil : i < l.length := by rw [HN.out]; exact h1
      obtain ⟨z, hz⟩ : ∃ z, l.getD i 0 = z := ⟨_, rfl⟩
      have HZ := Lib.hid hz
      rw [hz] at x0
      clear hz
      have hi1 : IntKind.i64.wrap ((i : Int) + 1) = ((i + 1 : Nat) : Int) := by rw [IntKind.wrap_i64]; omega
      by_cases e10 : z = 10
      · subst e10
        have HF := Lib.hid ((HQ1.out i hil HZ.out).symm.trans HI.out)
        clear hil
        go_wp2
        go_ret
        exact ⟨by rw [← HF.out]; rfl, rfl⟩
      · have b10 : (z != 10) = true := by simpa using e10
        by_cases e34 : z = 34
        · subst e34
          have HF := Lib.hid ((HQ2.out i hil HZ.out).symm.trans HI.out)
          clear hil
          go_wp2
          go_ret
          exact ⟨by rw [← HF.out]; rfl, rfl⟩
        · have b34 : (z == 34) = false := by simpa using e34
          by_cases e92 : z = 92
          · subst e92
            by_cases h2 : i + 1 < n
            · have x1 : w.cell? ⟨b, off + (i + 1), none⟩ = some (.int .i32 (l.getD (i + 1) 0)) := HC.out (i + 1) (by rw [HN.out]; exact h2)
              have hil2 : i + 1 < l.length := by rw [HN.out]; exact h2
              obtain ⟨y, hy⟩ : ∃ y, l.getD (i + 1) 0 = y := ⟨_, rfl⟩
              have HY := Lib.hid hy
              rw [hy] at x1
              clear hy
              by_cases f10 : y = 10
              · subst f10
                have HF := Lib.hid ((HQ4.out i hil2 HZ.out HY.out).symm.trans HI.out)
                clear hil hil2
                go_wp2
                go_ret
                exact ⟨by rw [← HF.out]; rfl, rfl⟩
              · have f10' : (y == 10) = false := by simpa using f10
                have HF := Lib.hid ((HQ5.out i hil2 HZ.out (by rw [HY.out]; exact f10)).symm.trans HI.out)
                have hi2 : IntKind.i64.wrap (((i + 1 : Nat) : Int) + 1) = ((i + 2 : Nat) : Int) := by rw [IntKind.wrap_i64]; omega
                clear hil hil2
                go_wp2
                go_round
                case rel => exact ⟨i + 2, by omega, by go_num, HF⟩
                case measure => simp [intOf]; omega
            · have HF := Lib.hid ((HQ3.out i hil HZ.out (by rw [HN.out]; omega)).symm.trans HI.out)
              have h2' : ¬ ((i + 1 : Nat) : Int) < (n : Int) := by omega
              have hi2 : IntKind.i64.wrap (((i + 1 : Nat) : Int) + 1) = ((i + 2 : Nat) : Int) := by rw [IntKind.wrap_i64]; omega
              have HG : Hid (qF (l.drop (i + 2)) (i + 2) = R) := Lib.hid ((HE.out (i + 2) (by rw [HN.out]; omega)).trans HF.out)
              clear hil
              go_wp2
              go_round
              case rel => exact ⟨i + 2, by omega, by go_num, HG⟩
              case measure => simp [intOf]; omega
          · have b92 : (z == 92) = false := by simpa using e92
            have HF := Lib.hid ((HQ6.out i hil (by rw [HZ.out]; exact e10) (by rw [HZ.out]; exact e34) (by rw [HZ.out]; exact e92)).symm.trans HI.out)
            clear hil
            go_wp2
            go_round
            case rel => exact ⟨i + 1, by omega, by go_num, HF⟩
            case measure => simp [intOf]; omega
    · have HF := Lib.hid ((HE.out i (by rw [HN.out]; omega)).symm.trans HI.out)
      go_wp2
      go_ret
      exact ⟨by rw [← HF.out]; rfl, rfl⟩

end Go.Proofs.YthfmllgflnideaaGreatDoor

/-
  The places of a source's runes, as the document's answer lists them.
-/
namespace Go.Proofs.YthfmllgflnideaaGreatDoor
open Go.RowKit

/-- One rune on. -/
def spotStep (p : Int × Int) (z : Int) : Int × Int := if z = 10 then (p.1 + 1, 1) else (p.1, p.2 + 1)
/-- The place of a rune, or of the end. -/
def spotAt (l : List Int) (i : Nat) : Int × Int := (l.take i).foldl spotStep (1, 1)
theorem spot_zero (l : List Int) : spotAt l 0 = (1, 1) := rfl
theorem spot_line {l : List Int} {i : Nat} (h : i < l.length) (e : l.getD i 0 = 10) : spotAt l (i + 1) = ((spotAt l i).1 + 1, 1) := by
  unfold spotAt
  rw [take_snoc h, List.foldl_append]
  exact if_pos e
theorem spot_col {l : List Int} {i : Nat} (h : i < l.length) (e : l.getD i 0 ≠ 10) : spotAt l (i + 1) = ((spotAt l i).1, (spotAt l i).2 + 1) := by
  unfold spotAt
  rw [take_snoc h, List.foldl_append]
  exact if_neg e
theorem spot_bd {l : List Int} : ∀ i, i ≤ l.length → 1 ≤ (spotAt l i).1 ∧ (spotAt l i).1 ≤ i + 1 ∧ 1 ≤ (spotAt l i).2 ∧ (spotAt l i).2 ≤ i + 1
  | 0, _ => by rw [spot_zero]; decide
  | i + 1, h => by
    have ih := spot_bd (l := l) i (by omega)
    by_cases e : l.getD i 0 = 10
    · rw [spot_line (by omega) e]
      simp only
      omega
    · rw [spot_col (by omega) e]
      simp only
      omega
/-- A place's cells. -/
def spotV (p : Int × Int) : List Value := [.int .i64 p.1, .int .i64 p.2]
/-- The places ahead of a rune. -/
def spotsV (l : List Int) (n : Nat) : List (List Value) := (List.range n).map fun i => spotV (spotAt l i)
theorem spotsV_len (l : List Int) (n : Nat) : (spotsV l n).length = n := by unfold spotsV; simp
theorem spotsV_more (l : List Int) (n : Nat) : spotsV l (n + 1) = spotsV l n ++ [spotV (spotAt l n)] := by unfold spotsV; rw [List.range_succ, List.map_append]; rfl
theorem spotsV_at (l : List Int) {n i : Nat} (h : i < n) : (spotsV l n).getD i [] = spotV (spotAt l i) := by
  unfold spotsV
  simp [List.getD_eq_getElem?_getD, h]
theorem info_spot : (Tryz.prog.info? 26).map (fun i => (i.zero, i.size, i.bytes)) = some (some (.agg #[.int .i64 0, .int .i64 0]), 2, 16) := by kernel_rfl
theorem spot_cells {w : World} {p : Nat} {x y : Value} (h0 : w.cell? ⟨p, 0, none⟩ = some x) (h1 : w.cell? ⟨p, 1, none⟩ = some y) : ∀ j, j < 2 → w.cell? ⟨p, j, none⟩ = some (([x, y] : List Value).getD j undef) := fun j hj => by
  have : j = 0 ∨ j = 1 := by omega
  rcases this with rfl | rfl
  · exact h0
  · exact h1
theorem sset_else (W : World) (r i : Nat) (x : Value) (j : Nat) (hne : j ≠ r) : (W.setCell ⟨r, i, none⟩ x).heap[j]? = W.heap[j]? := Below.heap_setCell W ⟨r, i, none⟩ x j hne
theorem Var2.put1 {W : World} {p : Nat} {x y : Value} (k : Var2 W p x y) (y' : Value) : Var2 (W.setCell ⟨p, 1, none⟩ y') p x y' := by
  obtain ⟨c0, c1, q0, q1, s⟩ := k
  refine ⟨?_, ?_, ?_, ?_, ?_⟩ <;> simp [go_sem, *]
theorem spot_one (p : Int × Int) : ∀ u ∈ spotV p, u.oneCell' = true := fun u hu => by
  simp only [spotV, List.mem_cons, List.not_mem_nil, or_false] at hu
  rcases hu with rfl | rfl <;> rfl
theorem Var2.only {base : Nat} {O : Foot} {w w' : World} {p : Nat} {x y : Value} (h : Var2 w p x y) (ho : OnlyO base O w w') (hn : ¬ O p) : Var2 w' p x y :=
  ⟨(ho.cell h.s hn).trans h.c0, (ho.cell h.s hn).trans h.c1, (ho.frozen h.s hn).trans h.q0, (ho.frozen h.s hn).trans h.q1, Nat.lt_of_lt_of_le h.s ho.size⟩

set_option maxRecDepth 100000 in
set_option maxHeartbeats 8000000 in
theorem splaces_any (v : Value) (l : List Int) (w : World) (hv : Ints .i32 w v l) (hl : l.length ≤ 900000) :
    Calls Tryz.prog 16 #[v] w fun e w' => ∃ r, e = .returned r ∧ RowK 26 2 w' w.heap.size r (spotsV l (l.length + 1)) ∧ Below w.heap.size w w' := by
  obtain ⟨b, off, cap, rfl, hcap, hb, hcell⟩ := hv
  have HC := Lib.hid hcell
  obtain ⟨n, hn⟩ : ∃ n, l.length = n := ⟨_, rfl⟩
  have HN := Lib.hid hn
  rw [hn] at hl hcap ⊢
  obtain ⟨B, hB⟩ : ∃ B, w.heap.size = B := ⟨_, rfl⟩
  obtain ⟨W0, hW0⟩ : ∃ W, w.alloc (.cells #[] 26) = W := ⟨_, rfl⟩
  have R0 : RowK 26 2 W0 B (.slice (some ⟨B, 0, none⟩) 0 0) [] := by rw [← hW0]; exact RowK.fresh _ 2 w B B hB.symm (by omega)
  have g0 : Below w.heap.size w W0 := by rw [← hW0]; exact (Below.refl _ _).alloc (Nat.le_refl _) _
  have hs0 : W0.heap.size = B + 1 := by rw [← hW0]; simp [hB]
  obtain ⟨W1, hW1⟩ : ∃ W, W0.alloc (.cells #[.int .i64 0, .int .i64 0] 26) = W := ⟨_, rfl⟩
  have V1 : Var2 W1 (B + 1) (.int .i64 0) (.int .i64 0) := by rw [← hW1]; exact Var2.fresh W0 _ _ _ _ hs0.symm
  have R1 : RowK 26 2 W1 B (.slice (some ⟨B, 0, none⟩) 0 0) [] := by rw [← hW1]; exact R0.below ((Below.refl _ _).alloc (Nat.le_refl _) _)
  have g1 : Below w.heap.size w W1 := by rw [← hW1]; exact g0.alloc (by omega) _
  have V2 := V1.put (.int .i64 1) (.int .i64 1)
  have R2 : RowK 26 2 (put2 W1 (B + 1) (.int .i64 1) (.int .i64 1)) B (.slice (some ⟨B, 0, none⟩) 0 0) [] := R1.kept fun k hk => by
    cases hk
    unfold put2
    rw [sset_else _ _ _ _ _ (by show B ≠ B + 1; omega), sset_else _ _ _ _ _ (by show B ≠ B + 1; omega)]
  have g2 : Below w.heap.size w (put2 W1 (B + 1) (.int .i64 1) (.int .i64 1)) := below_put2 g1 (by omega) _ _
  obtain ⟨W2, hW2⟩ : ∃ W, put2 W1 (B + 1) (.int .i64 1) (.int .i64 1) = W := ⟨_, rfl⟩
  rw [hW2] at V2 R2 g2
  have hW2' : (W1.setCell ⟨B + 1, 0, none⟩ (.int .i64 1)).setCell ⟨B + 1, 1, none⟩ (.int .i64 1) = W2 := hW2
  obtain ⟨c0, c1, q0, q1, s1⟩ := V1
  have HV := Lib.hid V2
  have HR := Lib.hid R2
  have HG := Lib.hid (show Below B w W2 by rw [← hB]; exact g2)
  rw [hB] at hb
  have HBD := Lib.hid (fun i h => @spot_bd l i h)
  clear hcell hn R0 R1 g0 g1 g2 V2 R2 hW2
  go_enter Tryz.func16, Tryz.ntmps16
  go_wp2
  clear c0 c1 q0 q1 s1 hW2' hW1 hs0 hW0
  go_loopw [3, 5] (fun v3 v5 wr => ∃ i : Nat, i ≤ n ∧ v5 = .int .i64 (i : Int) ∧ RowK 26 2 wr B v3 (spotsV l i) ∧ v3.ownBlock ≠ some (B + 1) ∧ Var2 wr (B + 1) (.int .i64 (spotAt l i).1) (.int .i64 (spotAt l i).2) ∧ Below B w wr) (fun _ v5 _ => n - (intOf v5).toNat)
  case atStart => exact ⟨0, Nat.zero_le _, rfl, HR.out, by simp [Value.ownBlock], HV.out, HG.out⟩
  case round =>
    obtain ⟨i, hi, rfl, hrow, hne, hvar, hbel⟩ := hrel
    have hbd := HBD.out i (by rw [HN.out]; omega)
    obtain ⟨X, hX⟩ : ∃ X, (spotAt l i).1 = X := ⟨_, rfl⟩
    obtain ⟨Y, hY⟩ : ∃ Y, (spotAt l i).2 = Y := ⟨_, rfl⟩
    have HXY := Lib.hid (show spotAt l i = (X, Y) by rw [← hX, ← hY])
    rw [hX, hY] at hvar hbd
    have V3 := Lib.hid hvar
    have G3 := Lib.hid hbel
    have RA := Lib.hid (hrow.below ((Below.refl wr.heap.size wr).alloc (Nat.le_refl _) (.cells #[.int .i64 X, .int .i64 Y] 26)))
    have CA : Hid (∀ j, j < 2 → (wr.alloc (.cells #[.int .i64 X, .int .i64 Y] 26)).cell? ⟨wr.heap.size, j, none⟩ = some ((spotV (X, Y)).getD j undef)) := Lib.hid (spot_cells (by simp) (by simp))
    have NE := Lib.hid hne
    have hsz : B ≤ (wr.alloc (.cells #[.int .i64 X, .int .i64 Y] 26)).heap.size := by have := hvar.s; simp; omega
    have HS := Lib.hid hsz
    have VA := Lib.hid (hvar.alloc (.cells #[.int .i64 X, .int .i64 Y] 26))
    have GA := Lib.hid (hbel.alloc (by have := hvar.s; omega) (.cells #[.int .i64 X, .int .i64 Y] 26))
    obtain ⟨c0, c1, q0, q1, s1⟩ := hvar
    have HL : Hid ((spotsV l i).length ≤ 1000000) := Lib.hid (by rw [spotsV_len]; omega)
    clear hX hY hrow hne hbel hsz
    by_cases h1 : i < n
    · go_wp2_with (at_builtin; (refine wp_rowK (T := 51) (t := 26) (sz := 2) rfl _ _ rfl Tryz.underlying51 info_spot rfl (by decide) (by decide) B _ _ rfl RA.out wr.heap.size (spotV (X, Y)) rfl rfl CA.out (spot_one _) HL.out HS.out ?_))
      intro v' w' hr' ho' hob
      have V4 := VA.out.only ho' (fun e => NE.out e.symm)
      have g4 : Below B w w' := GA.out.trans ho'.bel
      have hne' : v'.ownBlock ≠ some (B + 1) := by
        rcases hob with e | e
        · rw [e]; exact NE.out
        · rw [e]; intro h; have h2 := Option.some.inj h; have := V3.out.s; omega
      have x0 : w'.cell? ⟨b, off + i, none⟩ = some (.int .i32 (l.getD i 0)) := (g4.cell (p := ⟨b, off + i, none⟩) hb).trans (HC.out i (by rw [HN.out]; exact h1))
      have hil : i < l.length := by rw [HN.out]; exact h1
      have HSL := Lib.hid (@spot_line l i hil)
      have HSC := Lib.hid (@spot_col l i hil)
      obtain ⟨z, hz⟩ : ∃ z, l.getD i 0 = z := ⟨_, rfl⟩
      rw [hz] at x0 HSL HSC
      have hw1 : IntKind.i64.wrap (Y + 1) = Y + 1 := by rw [IntKind.wrap_i64]; omega
      have hw2 : IntKind.i64.wrap (X + 1) = X + 1 := by rw [IntKind.wrap_i64]; omega
      have hw3 : IntKind.i64.wrap ((i : Int) + 1) = ((i + 1 : Nat) : Int) := by rw [IntKind.wrap_i64]; omega
      have hbn : ¬ b = B + 1 := by omega
      have hbn' : ¬ B + 1 = b := by omega
      have R4 : Hid (RowK 26 2 w' B v' (spotsV l (i + 1))) := Lib.hid (by rw [spotsV_more, HXY.out]; exact hr')
      have HV4 := Lib.hid V4
      have G4 := Lib.hid g4
      have HNE := Lib.hid hne'
      obtain ⟨c0, c1, q0, q1, s1⟩ := V4
      clear hr' ho' hob hz hil g4 hne' RA CA VA GA
      by_cases hz10 : z = 10
      · have hsp := HSL.out hz10
        rw [HXY.out] at hsp
        have HSP := Lib.hid hsp
        subst hz10
        clear hsp
        go_wp2
        go_roundw
        case rel =>
          refine ⟨i + 1, by omega, by go_num, R4.out.kept fun k hk => ?_, HNE.out, ?_, ?_⟩
          · have hkn : k ≠ B + 1 := fun e => HNE.out (by rw [hk, e])
            rw [sset_else _ _ _ _ _ hkn, sset_else _ _ _ _ _ hkn, sset_else _ _ _ _ _ hkn]
          · rw [HSP.out]
            exact (HV4.out.put1 (.int .i64 (Y + 1))).put (.int .i64 (X + 1)) (.int .i64 1)
          · exact below_put2 (G4.out.setCell (by show B ≤ B + 1; omega) _) (by omega) _ _
        case measure => simp [intOf]; omega
      · have hsp := HSC.out hz10
        rw [HXY.out] at hsp
        have HSP := Lib.hid hsp
        have hzb : (z == 10) = false := by simpa using hz10
        clear hsp
        go_wp2
        go_roundw
        case rel =>
          refine ⟨i + 1, by omega, by go_num, R4.out.kept fun k hk => ?_, HNE.out, ?_, ?_⟩
          · have hkn : k ≠ B + 1 := fun e => HNE.out (by rw [hk, e])
            rw [sset_else _ _ _ _ _ hkn]
          · rw [HSP.out]
            exact HV4.out.put1 (.int .i64 (Y + 1))
          · exact G4.out.setCell (by show B ≤ B + 1; omega) _
        case measure => simp [intOf]; omega
    · obtain rfl : i = n := by omega
      go_wp2_with (at_builtin; (refine wp_rowK (T := 51) (t := 26) (sz := 2) rfl _ _ rfl Tryz.underlying51 info_spot rfl (by decide) (by decide) B _ _ rfl RA.out wr.heap.size (spotV (X, Y)) rfl rfl CA.out (spot_one _) HL.out HS.out ?_))
      intro v' w' hr' ho' hob
      have R4 : Hid (RowK 26 2 w' B v' (spotsV l (i + 1))) := Lib.hid (by rw [spotsV_more, HXY.out]; exact hr')
      have G4 : Hid (Below B w w') := Lib.hid (GA.out.trans ho'.bel)
      clear hr' ho' hob RA CA VA GA
      go_wp2
      go_ret
      exact ⟨v', rfl, by rw [hB]; exact R4.out, by rw [hB]; exact G4.out⟩

end Go.Proofs.YthfmllgflnideaaGreatDoor

/-
  The document's answer for the token that begins at a place.
-/
namespace Go.Proofs.YthfmllgflnideaaGreatDoor
open Go.RowKit

/-- A quoted text's letters, read; the error. -/
def unqF (l : List Int) : List Int × Int := match uf l with
  | .done xs => if 120 < xs.length then ([], 9) else (xs.flatMap encL, 0)
  | _ => ([], 5)
theorem unq_out {l t : List Int} {c : Int} (h : UnqL l t c) : t = (unqF l).1 ∧ c = (unqF l).2 := by
  unfold unqF
  rcases h with ⟨h, rfl, rfl⟩ | ⟨xs, h, h1⟩
  · split
    · rename_i xs e
      exact (h xs e).elim
    · exact ⟨rfl, rfl⟩
  · rw [h]
    rcases h1 with ⟨h1, rfl, rfl⟩ | ⟨h1, rfl, rfl⟩
    · simp only [if_pos h1, and_self]
    · simp only [if_neg (show ¬ 120 < xs.length by omega), and_self]
/-- Where the word ends that begins at a place. -/
def wordEnd (l : List Int) (i : Nat) : Nat := i + ((l.drop i).takeWhile withinB).length
theorem wordEnd_bd {l : List Int} {i : Nat} (h : i ≤ l.length) : i ≤ wordEnd l i ∧ wordEnd l i ≤ l.length := by
  unfold wordEnd
  have := (List.takeWhile_prefix (l := l.drop i) withinB).length_le
  rw [List.length_drop] at this
  omega
theorem wordEnd_in {l : List Int} {i : Nat} : ∀ k, i + k < wordEnd l i → withinB (l.getD (i + k) 0) = true := fun k hk => by
  unfold wordEnd at hk
  have hp := List.takeWhile_prefix (l := l.drop i) withinB
  have hk2 : k < ((l.drop i).takeWhile withinB).length := by omega
  have e := hp.getElem hk2
  have hm : ((l.drop i).takeWhile withinB)[k] ∈ (l.drop i).takeWhile withinB := List.getElem_mem hk2
  have hall := List.all_takeWhile (l := l.drop i) (p := withinB)
  have hw := List.all_eq_true.mp hall _ hm
  rw [e] at hw
  have hlen := hp.length_le
  have hkl : k < (l.drop i).length := by omega
  rw [List.length_drop] at hkl
  rw [List.getElem_drop] at hw
  rw [List.getD_eq_getElem?_getD, List.getElem?_eq_getElem (by omega)]
  exact hw
theorem takeWhile_stop {p : Int → Bool} : ∀ (m : List Int), (m.takeWhile p).length < m.length → p (m.getD (m.takeWhile p).length 0) = false
  | [], h => by cases h
  | z :: m, h => by
    cases hz : p z with
    | true =>
      rw [List.takeWhile_cons_of_pos hz] at h ⊢
      simp only [List.length_cons] at h ⊢
      have := takeWhile_stop (p := p) m (by omega)
      simpa using this
    | false =>
      rw [List.takeWhile_cons_of_neg (by simp [hz])]
      simpa using hz
theorem wordEnd_out {l : List Int} {i : Nat} (h : wordEnd l i < l.length) : withinB (l.getD (wordEnd l i) 0) = false := by
  unfold wordEnd at h ⊢
  have := takeWhile_stop (p := withinB) (l.drop i) (by rw [List.length_drop]; omega)
  rw [List.getD_eq_getElem?_getD, List.getElem?_drop] at this
  rw [List.getD_eq_getElem?_getD]
  exact this
theorem wordEnd_one {l : List Int} {i : Nat} (h : i < l.length) (hw : withinB (l.getD i 0) = true) : i < wordEnd l i := by
  unfold wordEnd
  rw [sdrop_cons h, List.takeWhile_cons_of_pos hw, List.length_cons]
  omega
/-- The token that begins at a place, and where it ends; the error. -/
noncomputable def oneF (l : List Int) (i : Nat) : TkV × Nat × Int :=
  if l.getD i 0 = 123 then (⟨7, [], 0⟩, i + 1, 0)
  else if l.getD i 0 = 125 then (⟨8, [], 0⟩, i + 1, 0)
  else if l.getD i 0 = 59 then (⟨9, [], 0⟩, i + 1, 0)
  else if l.getD i 0 = 34 then
    (if qF (l.drop (i + 1)) (i + 1) = 0 then (tk0, 0, 5)
     else (⟨2, (unqF ((l.take (qF (l.drop (i + 1)) (i + 1))).drop i)).1, 0⟩, qF (l.drop (i + 1)) (i + 1), (unqF ((l.take (qF (l.drop (i + 1)) (i + 1))).drop i)).2))
  else if withinB (l.getD i 0) = false then (tk0, 0, 5)
  else ((valF ((l.take (wordEnd l i)).drop i)).1, wordEnd l i, (valF ((l.take (wordEnd l i)).drop i)).2)
theorem ints_slice {w : World} {b off n cap : Nat} {l : List Int} (hb : b < w.heap.size) (hn : l.length = n) (hcap : n ≤ cap) (hcell : ∀ i, i < l.length → w.cell? ⟨b, off + i, none⟩ = some (.int .i32 (l.getD i 0))) (lo hi : Nat) (hlo : lo < hi) (hhi : hi ≤ n) :
    (∀ W, (Instr.slice 49 (.slice (some ⟨b, off, none⟩) n cap) (some (.int .i64 (lo : Int))) (some (.int .i64 (hi : Int))) none).run Tryz.prog W = .ok (.slice (some ⟨b, off + lo, none⟩) (hi - lo) (cap - lo)) W) ∧ Ints .i32 w (.slice (some ⟨b, off + lo, none⟩) (hi - lo) (cap - lo)) ((l.take hi).drop lo) := by
  have hlen : ((l.take hi).drop lo).length = hi - lo := by rw [List.length_drop, List.length_take]; omega
  refine ⟨fun W => ?_, b, off + lo, cap - lo, by rw [hlen], by omega, hb, fun i h => ?_⟩
  · have hs : ∀ W : World, (sizeOf (Tryz.prog.elem 49)).run Tryz.prog W = .ok 1 W := fun W => by kernel_rfl
    have := run_slice_lh (P := Tryz.prog) W 49 (some ⟨b, off, none⟩) n cap (by kernel_rfl) .i64 .i64 (lo : Int) (hi : Int) (by omega) (by omega) (by omega)
    rw [this, hs]
    have e3 : ∀ j : Nat, (⟨b, off, none⟩ : Addr).add j = ⟨b, off + j, none⟩ := fun j => by unfold Addr.add; split <;> simp_all
    simp only [Result.andThen, Int.toNat_natCast, sliced]
    rw [if_neg (by omega)]
    simp only [Option.map_some, Nat.mul_one, e3]
  · have h1 := hcell (lo + i) (by omega)
    have e : ((l.take hi).drop lo).getD i 0 = l.getD (lo + i) 0 := by
      rw [List.getD_eq_getElem?_getD, List.getElem?_drop, List.getElem?_take_of_lt (by omega), ← List.getD_eq_getElem?_getD]
    rw [e, Nat.add_assoc]
    exact h1
theorem sone_results {W : World} {g : Nat} {x0 x1 x2 x3 x4 u v : Value} {tmps : Array Value} (h : Var5 W g x0 x1 x2 x3 x4) (h2 : tmps.getD 4 undef = .pointer (some ⟨g, 0, none⟩)) (h3 : tmps.getD 5 undef = u) (h4 : tmps.getD 6 undef = v) : (results Tryz.f17 tmps).run Tryz.prog W = .ok (.tuple #[.agg #[x0, x1, x2, x3, x4], u, v]) W := by
  have e : (asAddr (Value.pointer (some ⟨g, 0, none⟩))).run Tryz.prog W = .ok ⟨g, 0, none⟩ W := rfl
  have hr : Tryz.f17.results = #[.cell 4 39, .tmp 5, .tmp 6] := rfl
  have q2 : tmps[4]?.getD undef = .pointer (some ⟨g, 0, none⟩) := by simpa using h2
  have q3 : tmps[5]?.getD undef = u := by simpa using h3
  have q4 : tmps[6]?.getD undef = v := by simpa using h4
  simp only [results, hr]
  simp [Sem.run_bind, Result.andThen, q2, q3, q4, e, load_tok h]

/-- What one gives. -/
def GivesOne (p : TkV × Nat × Int) (w : World) (e : Ending) (w' : World) : Prop := e = .returned (.tuple #[tkAt p.1 0 0, .int .i64 (p.2.1 : Int), .int .i64 p.2.2]) ∧ Below w.heap.size w w'
set_option maxRecDepth 100000 in
set_option maxHeartbeats 8000000 in
theorem sone_mark (v : Value) (l : List Int) (i : Nat) (w : World) (hv : Ints .i32 w v l) (_hok : RunesOk l) (hl : l.length ≤ 900000) (hi : i < l.length) (r : Int) (k : Nat) (hr : l.getD i 0 = r) (hk : (r = 123 ∧ k = 7) ∨ (r = 125 ∧ k = 8) ∨ (r = 59 ∧ k = 9)):
    Calls Tryz.prog 17 #[v, .int .i64 (i : Int)] w (GivesOne (oneF l i) w) := by
  have V0 := Var5.fresh w (.int .i64 0) (.string ⟨#[]⟩) (.int .u64 0) (.int .i64 0) (.int .i64 0) 39 w.heap.size rfl
  have g0 : Below w.heap.size w (w.alloc (.cells #[.int .i64 0, .string ⟨#[]⟩, .int .u64 0, .int .i64 0, .int .i64 0] 39)) := (Below.refl _ _).alloc (Nat.le_refl _) _
  obtain ⟨W0, hW0⟩ : ∃ W, w.alloc (.cells #[.int .i64 0, .string ⟨#[]⟩, .int .u64 0, .int .i64 0, .int .i64 0] 39) = W := ⟨_, rfl⟩
  rw [hW0] at V0 g0
  have HV0 := Lib.hid (fun W (hb : Below w.heap.size w W) => hv.below hb)
  have hvW := hv.below g0
  obtain ⟨b, off, cap, rfl, hcap, hb, hcell⟩ := hv
  have x0 : W0.cell? ⟨b, off + i, none⟩ = some (.int .i32 (l.getD i 0)) := (g0.cell (p := ⟨b, off + i, none⟩) hb).trans (hcell i hi)
  obtain ⟨n, hn⟩ : ∃ n, l.length = n := ⟨_, rfl⟩
  have hin : i < n := by omega
  have hln : n ≤ 900000 := by omega
  rw [hn] at HV0
  have hf : oneF l i = (⟨k, [], 0⟩, i + 1, 0) := by
    unfold oneF
    rw [hr]
    rcases hk with ⟨rfl, rfl⟩ | ⟨rfl, rfl⟩ | ⟨rfl, rfl⟩ <;> rfl
  have hw1 : IntKind.i64.wrap ((i : Int) + 1) = ((i + 1 : Nat) : Int) := by rw [IntKind.wrap_i64]; omega
  rw [hr] at x0
  have HV := Lib.hid V0
  have G0 := Lib.hid g0
  obtain ⟨c0, c1, c2, c3, c4, q, s⟩ := V0
  have q0 := q 0
  have q1 := q 1
  have q2 := q 2
  have q3 := q 3
  have q4 := q 4
  rw [hf, hn]
  clear hf hvW hcell _hok hl g0 hn hr HV0 hi
  rcases hk with ⟨rfl, rfl⟩ | ⟨rfl, rfl⟩ | ⟨rfl, rfl⟩
  · go_enter Tryz.func17, Tryz.ntmps17
    go_wp2
    refine bodyPost_ret (sone_results (x0 := .int .i64 7) (x1 := .string ⟨#[]⟩) (x2 := .int .u64 0) (x3 := .int .i64 0) (x4 := .int .i64 0) (u := .int .i64 ((i + 1 : Nat) : Int)) (v := .int .i64 0) (HV.out.put _ _ _ _ _) rfl rfl rfl) rfl ?_
    exact ⟨rfl, below_put5 G0.out (Nat.le_refl _) _ _ _ _ _⟩
  · go_enter Tryz.func17, Tryz.ntmps17
    go_wp2
    refine bodyPost_ret (sone_results (x0 := .int .i64 8) (x1 := .string ⟨#[]⟩) (x2 := .int .u64 0) (x3 := .int .i64 0) (x4 := .int .i64 0) (u := .int .i64 ((i + 1 : Nat) : Int)) (v := .int .i64 0) (HV.out.put _ _ _ _ _) rfl rfl rfl) rfl ?_
    exact ⟨rfl, below_put5 G0.out (Nat.le_refl _) _ _ _ _ _⟩
  · go_enter Tryz.func17, Tryz.ntmps17
    go_wp2
    refine bodyPost_ret (sone_results (x0 := .int .i64 9) (x1 := .string ⟨#[]⟩) (x2 := .int .u64 0) (x3 := .int .i64 0) (x4 := .int .i64 0) (u := .int .i64 ((i + 1 : Nat) : Int)) (v := .int .i64 0) (HV.out.put _ _ _ _ _) rfl rfl rfl) rfl ?_
    exact ⟨rfl, below_put5 G0.out (Nat.le_refl _) _ _ _ _ _⟩
theorem put5_else (W : World) (p : Nat) (y0 y1 y2 y3 y4 : Value) (j : Nat) (h : j ≠ p) : (put5 W p y0 y1 y2 y3 y4).heap[j]? = W.heap[j]? := by
  unfold put5
  rw [sset_else _ _ _ _ _ h, sset_else _ _ _ _ _ h, sset_else _ _ _ _ _ h, sset_else _ _ _ _ _ h, sset_else _ _ _ _ _ h]
theorem runes_sub {l m : List Int} (h : RunesOk l) (hs : ∀ x ∈ m, x ∈ l) : RunesOk m := fun x hx => h x (hs x hx)
set_option maxRecDepth 100000 in
set_option maxHeartbeats 8000000 in
theorem sone_text (v : Value) (l : List Int) (i : Nat) (w : World) (hv : Ints .i32 w v l) (hok : RunesOk l) (hl : l.length ≤ 900000) (hi : i < l.length) (hr : l.getD i 0 = 34):
    Calls Tryz.prog 17 #[v, .int .i64 (i : Int)] w (GivesOne (oneF l i) w) := by
  have V0 := Var5.fresh w (.int .i64 0) (.string ⟨#[]⟩) (.int .u64 0) (.int .i64 0) (.int .i64 0) 39 w.heap.size rfl
  have g0 : Below w.heap.size w (w.alloc (.cells #[.int .i64 0, .string ⟨#[]⟩, .int .u64 0, .int .i64 0, .int .i64 0] 39)) := (Below.refl _ _).alloc (Nat.le_refl _) _
  obtain ⟨W0, hW0⟩ : ∃ W, w.alloc (.cells #[.int .i64 0, .string ⟨#[]⟩, .int .u64 0, .int .i64 0, .int .i64 0] 39) = W := ⟨_, rfl⟩
  rw [hW0] at V0 g0
  have HV0 := Lib.hid (fun W (hb : Below w.heap.size w W) => hv.below hb)
  have hvW := hv.below g0
  obtain ⟨b, off, cap, rfl, hcap, hb, hcell⟩ := hv
  have x0 : W0.cell? ⟨b, off + i, none⟩ = some (.int .i32 (l.getD i 0)) := (g0.cell (p := ⟨b, off + i, none⟩) hb).trans (hcell i hi)
  obtain ⟨n, hn⟩ : ∃ n, l.length = n := ⟨_, rfl⟩
  have hin : i < n := by omega
  have hln : n ≤ 900000 := by omega
  rw [hn] at HV0
  obtain ⟨Q, hQ⟩ : ∃ Q, qF (l.drop (i + 1)) (i + 1) = Q := ⟨_, rfl⟩
  have HQU := Lib.hid (squoted_any _ l i W0 (HV0.out W0 g0) (by omega) hi)
  rw [hQ] at HQU
  rw [hr] at x0
  have hqb := qF_bd _ (l.drop (i + 1)) (i + 1) (Nat.le_refl _)
  rw [hQ, List.length_drop] at hqb
  have HV := Lib.hid V0
  have G0 := Lib.hid g0
  obtain ⟨c0, c1, c2, c3, c4, q, s⟩ := V0
  have q0 := q 0
  have q1 := q 1
  have q2 := q 2
  have q3 := q 3
  have q4 := q 4
  by_cases hq0 : Q = 0
  · have hf : oneF l i = (tk0, 0, 5) := by
      unfold oneF
      rw [hr, hQ, if_pos hq0]
      rfl
    subst hq0
    rw [hf, hn]
    clear hf hvW hcell hok hl g0 hn hr HV0 hi hQ hqb
    go_enter Tryz.func17, Tryz.ntmps17
    go_wp2_with (go_at_call 25; (with_reducible refine (HQU.out).mono ?_); rintro e w1 ⟨rfl, rfl⟩)
    refine bodyPost_ret (sone_results (x0 := .int .i64 0) (x1 := .string ⟨#[]⟩) (x2 := .int .u64 0) (x3 := .int .i64 0) (x4 := .int .i64 0) (u := .int .i64 0) (v := .int .i64 5) (HV.out.put _ _ _ _ _) rfl rfl rfl) rfl ?_
    exact ⟨rfl, below_put5 G0.out (Nat.le_refl _) _ _ _ _ _⟩
  · have hqi : i + 1 < Q ∧ Q ≤ n := by omega
    obtain ⟨hsl, hin2⟩ := ints_slice (w := W0) (b := b) (off := off) (n := n) (cap := cap) (l := l) (Nat.lt_of_lt_of_le hb g0.size) hn (by omega) (fun j hj => (g0.cell (p := ⟨b, off + j, none⟩) hb).trans (hcell j hj)) i Q (by omega) hqi.2
    obtain ⟨m, hm⟩ : ∃ m, (l.take Q).drop i = m := ⟨_, rfl⟩
    have hf : oneF l i = (⟨2, (unqF m).1, 0⟩, Q, (unqF m).2) := by
      unfold oneF
      rw [hr, hQ, if_neg hq0, hm]
      rfl
    have hmok : RunesOk m := runes_sub hok (fun x hx => List.mem_of_mem_take (List.mem_of_mem_drop (by rw [hm]; exact hx)))
    have hml : m.length ≤ 1000000 := by rw [← hm, List.length_drop, List.length_take]; omega
    rw [hm] at hin2
    have HTX := Lib.hid (stext_any _ m W0 hin2 hmok.bd hml)
    have hms : (strOfNums (textR m)).size ≤ 4000000 := by
      rw [pstr_len]
      have := textR_len m
      omega
    have HUN := Lib.hid (fun W => runq_any (strOfNums (textR m)) W (by omega))
    rw [nums_strOfNums _ (textR_byte hmok.bd), runes_text hmok] at HUN
    obtain ⟨S, hS⟩ : ∃ S, strOfNums (textR m) = S := ⟨_, rfl⟩
    rw [hS] at HTX HUN
    obtain ⟨T, C, hTC⟩ : ∃ T C, unqF m = (T, C) := ⟨_, _, rfl⟩
    have HTC := Lib.hid hTC
    have hqne : ((Q : Int) == 0) = false := by simp; omega
    rw [hf, hn, hTC]
    obtain ⟨e1, he1⟩ : ∃ e, Q - i = e := ⟨_, rfl⟩
    obtain ⟨e2, he2⟩ : ∃ e, cap - i = e := ⟨_, rfl⟩
    rw [he1, he2] at hsl HTX
    clear hf hvW hcell hok hl g0 hn hr HV0 hi hQ hqb hin2 hmok hml hms hS hTC hm q c0 c1 c2 c3 c4 q0 q1 q2 q3 q4 he1 he2
    go_enter Tryz.func17, Tryz.ntmps17
    go_wp2_with (first
      | (go_at_call 25; (with_reducible refine (HQU.out).mono ?_); rintro e w1 ⟨rfl, rfl⟩)
      | (go_at_call 27; (with_reducible refine (HTX.out).mono ?_); rintro e w1 ⟨rfl, h1⟩; have V1 := Lib.hid (HV.out.after h1); have G1 := Lib.hid (below_step G0.out h1); clear h1)
      | (go_at_call 26; (with_reducible refine (HUN.out _).mono ?_); rintro e w2 ⟨t, c, rfl, hu, h2⟩; have hu2 := unq_out hu; rw [HTC.out] at hu2; obtain ⟨et, ec⟩ := hu2; have et := et.symm; have ec := ec.symm; subst et; subst ec; clear hu; have V2 := Lib.hid (V1.out.after h2); have G2 := Lib.hid (below_step G1.out h2); clear h2; have c0 := V2.out.c0; have c1 := V2.out.c1; have c2 := V2.out.c2; have c3 := V2.out.c3; have c4 := V2.out.c4; have q0 := V2.out.q 0; have q1 := V2.out.q 1; have q2 := V2.out.q 2; have q3 := V2.out.q 3; have q4 := V2.out.q 4))
    refine bodyPost_ret (sone_results (x0 := .int .i64 2) (x1 := .string (strOfNums T)) (x2 := .int .u64 0) (x3 := .int .i64 0) (x4 := .int .i64 0) (u := .int .i64 (Q : Int)) (v := .int .i64 C) (V2.out.put _ _ _ _ _) rfl rfl rfl) rfl ?_
    exact ⟨rfl, below_put5 G2.out (Nat.le_refl _) _ _ _ _ _⟩
set_option maxRecDepth 100000 in
set_option maxHeartbeats 8000000 in
theorem sone_none (v : Value) (l : List Int) (i : Nat) (w : World) (hv : Ints .i32 w v l) (_hok : RunesOk l) (hl : l.length ≤ 900000) (hi : i < l.length) (r : Int) (hr : l.getD i 0 = r) (h1 : (r == 123) = false) (h2 : (r == 125) = false) (h3 : (r == 59) = false) (h4 : (r == 34) = false) (hw : withinB r = false):
    Calls Tryz.prog 17 #[v, .int .i64 (i : Int)] w (GivesOne (oneF l i) w) := by
  have V0 := Var5.fresh w (.int .i64 0) (.string ⟨#[]⟩) (.int .u64 0) (.int .i64 0) (.int .i64 0) 39 w.heap.size rfl
  have g0 : Below w.heap.size w (w.alloc (.cells #[.int .i64 0, .string ⟨#[]⟩, .int .u64 0, .int .i64 0, .int .i64 0] 39)) := (Below.refl _ _).alloc (Nat.le_refl _) _
  obtain ⟨W0, hW0⟩ : ∃ W, w.alloc (.cells #[.int .i64 0, .string ⟨#[]⟩, .int .u64 0, .int .i64 0, .int .i64 0] 39) = W := ⟨_, rfl⟩
  rw [hW0] at V0 g0
  have HV0 := Lib.hid (fun W (hb : Below w.heap.size w W) => hv.below hb)
  have hvW := hv.below g0
  obtain ⟨b, off, cap, rfl, hcap, hb, hcell⟩ := hv
  have x0 : W0.cell? ⟨b, off + i, none⟩ = some (.int .i32 (l.getD i 0)) := (g0.cell (p := ⟨b, off + i, none⟩) hb).trans (hcell i hi)
  obtain ⟨n, hn⟩ : ∃ n, l.length = n := ⟨_, rfl⟩
  have hin : i < n := by omega
  have hln : n ≤ 900000 := by omega
  rw [hn] at HV0
  have n1 : ¬ r = 123 := by simpa using h1
  have n2 : ¬ r = 125 := by simpa using h2
  have n3 : ¬ r = 59 := by simpa using h3
  have n4 : ¬ r = 34 := by simpa using h4
  have hf : oneF l i = (tk0, 0, 5) := by
    unfold oneF
    rw [hr, if_neg n1, if_neg n2, if_neg n3, if_neg n4, if_pos hw]
  have HWI := Lib.hid (fun W => swithin_is hw W)
  rw [hr] at x0
  have HV := Lib.hid V0
  have G0 := Lib.hid g0
  obtain ⟨c0, c1, c2, c3, c4, q, s⟩ := V0
  have q0 := q 0
  have q1 := q 1
  have q2 := q 2
  have q3 := q 3
  have q4 := q 4
  rw [hf, hn]
  clear hf hvW hcell _hok hl g0 hn hr HV0 hi hw n1 n2 n3 n4
  go_enter Tryz.func17, Tryz.ntmps17
  go_wp2_with (go_at_call 28; (with_reducible refine (HWI.out _).mono ?_); rintro e w1 ⟨rfl, rfl⟩)
  refine bodyPost_ret (sone_results (x0 := .int .i64 0) (x1 := .string ⟨#[]⟩) (x2 := .int .u64 0) (x3 := .int .i64 0) (x4 := .int .i64 0) (u := .int .i64 0) (v := .int .i64 5) (HV.out.put _ _ _ _ _) rfl rfl rfl) rfl ?_
  exact ⟨rfl, below_put5 G0.out (Nat.le_refl _) _ _ _ _ _⟩
set_option maxRecDepth 100000 in
set_option maxHeartbeats 8000000 in
theorem sone_word (v : Value) (l : List Int) (i : Nat) (w : World) (hv : Ints .i32 w v l) (hok : RunesOk l) (hl : l.length ≤ 900000) (hi : i < l.length) (r : Int) (hr : l.getD i 0 = r) (h1 : (r == 123) = false) (h2 : (r == 125) = false) (h3 : (r == 59) = false) (h4 : (r == 34) = false) (hw : withinB r = true):
    Calls Tryz.prog 17 #[v, .int .i64 (i : Int)] w (GivesOne (oneF l i) w) := by
  have V0 := Var5.fresh w (.int .i64 0) (.string ⟨#[]⟩) (.int .u64 0) (.int .i64 0) (.int .i64 0) 39 w.heap.size rfl
  have g0 : Below w.heap.size w (w.alloc (.cells #[.int .i64 0, .string ⟨#[]⟩, .int .u64 0, .int .i64 0, .int .i64 0] 39)) := (Below.refl _ _).alloc (Nat.le_refl _) _
  obtain ⟨W0, hW0⟩ : ∃ W, w.alloc (.cells #[.int .i64 0, .string ⟨#[]⟩, .int .u64 0, .int .i64 0, .int .i64 0] 39) = W := ⟨_, rfl⟩
  rw [hW0] at V0 g0
  have HV0 := Lib.hid (fun W (hb : Below w.heap.size w W) => hv.below hb)
  have hvW := hv.below g0
  obtain ⟨b, off, cap, rfl, hcap, hb, hcell⟩ := hv
  have x0 : W0.cell? ⟨b, off + i, none⟩ = some (.int .i32 (l.getD i 0)) := (g0.cell (p := ⟨b, off + i, none⟩) hb).trans (hcell i hi)
  obtain ⟨n, hn⟩ : ∃ n, l.length = n := ⟨_, rfl⟩
  have hin : i < n := by omega
  have hln : n ≤ 900000 := by omega
  rw [hn] at HV0
  have n1 : ¬ r = 123 := by simpa using h1
  have n2 : ¬ r = 125 := by simpa using h2
  have n3 : ¬ r = 59 := by simpa using h3
  have n4 : ¬ r = 34 := by simpa using h4
  obtain ⟨E, hE⟩ : ∃ E, wordEnd l i = E := ⟨_, rfl⟩
  have hE1 := wordEnd_one hi (by rw [hr]; exact hw)
  have hE2 := (wordEnd_bd (l := l) (i := i) (by omega)).2
  have HEI := Lib.hid (fun k => @wordEnd_in l i k)
  have HEO := Lib.hid (@wordEnd_out l i)
  rw [hE] at hE1 hE2 HEI HEO
  rw [hn] at hE2 HEO
  obtain ⟨hsl, hin2⟩ := ints_slice (w := W0) (b := b) (off := off) (n := n) (cap := cap) (l := l) (Nat.lt_of_lt_of_le hb g0.size) hn (by omega) (fun j hj => (g0.cell (p := ⟨b, off + j, none⟩) hb).trans (hcell j hj)) i E hE1 hE2
  obtain ⟨m, hm⟩ : ∃ m, (l.take E).drop i = m := ⟨_, rfl⟩
  have hf : oneF l i = ((valF m).1, E, (valF m).2) := by
    unfold oneF
    rw [hr, if_neg n1, if_neg n2, if_neg n3, if_neg n4, if_neg (by rw [hw]; decide), hE, hm]
  have hmok : RunesOk m := runes_sub hok (fun x hx => List.mem_of_mem_take (List.mem_of_mem_drop (by rw [hm]; exact hx)))
  have hml : m.length ≤ 1000000 := by rw [← hm, List.length_drop, List.length_take]; omega
  rw [hm] at hin2
  obtain ⟨TK, C, hTC⟩ : ∃ T C, valF m = (T, C) := ⟨_, _, rfl⟩
  have HVL : Hid (Calls Tryz.prog 29 #[.slice (some ⟨b, off + i, none⟩) (E - i) (cap - i)] W0 fun e w' => e = .returned (.tuple #[.agg #[.int .i64 (TK.kind : Int), .string (strOfNums TK.text), .int .u64 (TK.n : Int), .int .i64 0, .int .i64 0], .int .i64 C]) ∧ Below W0.heap.size W0 w') := Lib.hid (by
    have := svalue_any _ m W0 hin2 hmok hml
    rw [hTC] at this
    exact this)
  have HC := Lib.hid (show ∀ j, j < n → W0.cell? ⟨b, off + j, none⟩ = some (.int .i32 (l.getD j 0)) from fun j hj => (g0.cell (p := ⟨b, off + j, none⟩) hb).trans (hcell j (by omega)))
  have HWI := Lib.hid (fun r W => swithin_any r W)
  have HW1 := Lib.hid (fun W => swithin_is hw W)
  rw [hr] at x0
  have HV := Lib.hid V0
  have G0 := Lib.hid g0
  rw [hf, hn, hTC]
  obtain ⟨e1, he1⟩ : ∃ e, E - i = e := ⟨_, rfl⟩
  obtain ⟨e2, he2⟩ : ∃ e, cap - i = e := ⟨_, rfl⟩
  rw [he1, he2] at hsl HVL
  have hbW := Nat.lt_of_lt_of_le hb g0.size
  have HR := Lib.hid hr
  clear hf hvW hcell hok g0 hn hr HV0 hi hin2 hmok hml hTC hm he1 he2 hw n1 n2 n3 n4 V0 hE
  go_enter Tryz.func17, Tryz.ntmps17
  go_wp2_with (go_at_call 28; (with_reducible refine (HW1.out _).mono ?_); rintro e w1 ⟨rfl, rfl⟩)
  go_loop [12] (fun v12 => ∃ j : Nat, i ≤ j ∧ j ≤ E ∧ v12 = .int .i64 (j : Int)) (fun v12 => E - (intOf v12).toNat)
  case atStart => exact ⟨i, Nat.le_refl _, by omega, rfl⟩
  case round =>
    obtain ⟨j, hij, hjE, rfl⟩ := hrel
    by_cases hj : j < E
    · have xj := HC.out j (by omega)
      have hwj := HEI.out (j - i) (by omega)
      rw [show i + (j - i) = j by omega] at hwj
      obtain ⟨z, hz⟩ : ∃ z, l.getD j 0 = z := ⟨_, rfl⟩
      rw [hz] at xj hwj
      have HWJ := Lib.hid (fun W => swithin_is hwj W)
      have hw1 : IntKind.i64.wrap ((j : Int) + 1) = ((j + 1 : Nat) : Int) := by rw [IntKind.wrap_i64]; omega
      have hjn : j < n := by omega
      clear hwj hz
      go_wp2_with (go_at_call 28; (with_reducible refine (HWJ.out _).mono ?_); rintro e w1 ⟨rfl, rfl⟩)
      go_round
      case rel => exact ⟨j + 1, by omega, by omega, by go_num⟩
      case measure => simp [intOf]; omega
    · obtain rfl : j = E := by omega
      by_cases hjn : j < n
      · have xj := HC.out j hjn
        have hwj := HEO.out hjn
        obtain ⟨z, hz⟩ : ∃ z, l.getD j 0 = z := ⟨_, rfl⟩
        rw [hz] at xj hwj
        have HWJ := Lib.hid (fun W => swithin_is hwj W)
        clear hwj hz
        go_wp2_with (first
          | (go_at_call 28; (with_reducible refine (HWJ.out _).mono ?_); rintro e w1 ⟨rfl, rfl⟩)
          | (go_at_call 29; (with_reducible refine (HVL.out).mono ?_); rintro e w2 ⟨rfl, h2⟩; have V2 := Lib.hid (HV.out.after h2); have G2 := Lib.hid (below_step G0.out h2); clear h2; obtain ⟨W3, hW3⟩ : ∃ W, w2.alloc (.cells #[.int .i64 0, .string ⟨#[]⟩, .int .u64 0, .int .i64 0, .int .i64 0] 39) = W := ⟨_, rfl⟩; have hbel3 : Below w2.heap.size w2 W3 := (by rw [← hW3]; exact (Below.refl _ _).alloc (Nat.le_refl _) _); have V3 := Lib.hid (V2.out.after hbel3); have G3 := Lib.hid (below_step G2.out hbel3); have F3 : Hid (Var5 W3 w2.heap.size (.int .i64 0) (.string ⟨#[]⟩) (.int .u64 0) (.int .i64 0) (.int .i64 0)) := Lib.hid (by rw [← hW3]; exact Var5.fresh _ _ _ _ _ _ _ _ rfl); have hn1 : ¬ w.heap.size = w2.heap.size := Nat.ne_of_lt V2.out.s; have hn2 : ¬ w2.heap.size = w.heap.size := fun e => hn1 e.symm; clear hbel3; have c0 := V3.out.c0; have q0 := V3.out.q 0; have d0 := F3.out.c0; have r0 := F3.out.q 0; have c1 := V3.out.c1; have q1 := V3.out.q 1; have d1 := F3.out.c1; have r1 := F3.out.q 1; have c2 := V3.out.c2; have q2 := V3.out.q 2; have d2 := F3.out.c2; have r2 := F3.out.q 2; have c3 := V3.out.c3; have q3 := V3.out.q 3; have d3 := F3.out.c3; have r3 := F3.out.q 3; have c4 := V3.out.c4; have q4 := V3.out.q 4; have d4 := F3.out.c4; have r4 := F3.out.q 4))
        refine bodyPost_ret (sone_results (x0 := .int .i64 (TK.kind : Int)) (x1 := .string (strOfNums TK.text)) (x2 := .int .u64 (TK.n : Int)) (x3 := .int .i64 0) (x4 := .int .i64 0) (u := .int .i64 (j : Int)) (v := .int .i64 C) ((V3.out.stay (put5_else W3 w2.heap.size (.int .i64 (TK.kind : Int)) (.string (strOfNums TK.text)) (.int .u64 (TK.n : Int)) (.int .i64 0) (.int .i64 0) w.heap.size hn1) (by rw [put5_size]; exact Nat.le_refl _)).put _ _ _ _ _) rfl rfl rfl) rfl ?_
        exact ⟨rfl, below_put5 (below_put5 G3.out (Nat.le_of_lt V2.out.s) _ _ _ _ _) (Nat.le_refl _) _ _ _ _ _⟩
      · go_wp2_with (go_at_call 29; (with_reducible refine (HVL.out).mono ?_); rintro e w2 ⟨rfl, h2⟩; have V2 := Lib.hid (HV.out.after h2); have G2 := Lib.hid (below_step G0.out h2); clear h2; obtain ⟨W3, hW3⟩ : ∃ W, w2.alloc (.cells #[.int .i64 0, .string ⟨#[]⟩, .int .u64 0, .int .i64 0, .int .i64 0] 39) = W := ⟨_, rfl⟩; have hbel3 : Below w2.heap.size w2 W3 := (by rw [← hW3]; exact (Below.refl _ _).alloc (Nat.le_refl _) _); have V3 := Lib.hid (V2.out.after hbel3); have G3 := Lib.hid (below_step G2.out hbel3); have F3 : Hid (Var5 W3 w2.heap.size (.int .i64 0) (.string ⟨#[]⟩) (.int .u64 0) (.int .i64 0) (.int .i64 0)) := Lib.hid (by rw [← hW3]; exact Var5.fresh _ _ _ _ _ _ _ _ rfl); have hn1 : ¬ w.heap.size = w2.heap.size := Nat.ne_of_lt V2.out.s; have hn2 : ¬ w2.heap.size = w.heap.size := fun e => hn1 e.symm; clear hbel3; have c0 := V3.out.c0; have q0 := V3.out.q 0; have d0 := F3.out.c0; have r0 := F3.out.q 0; have c1 := V3.out.c1; have q1 := V3.out.q 1; have d1 := F3.out.c1; have r1 := F3.out.q 1; have c2 := V3.out.c2; have q2 := V3.out.q 2; have d2 := F3.out.c2; have r2 := F3.out.q 2; have c3 := V3.out.c3; have q3 := V3.out.q 3; have d3 := F3.out.c3; have r3 := F3.out.q 3; have c4 := V3.out.c4; have q4 := V3.out.q 4; have d4 := F3.out.c4; have r4 := F3.out.q 4)
        refine bodyPost_ret (sone_results (x0 := .int .i64 (TK.kind : Int)) (x1 := .string (strOfNums TK.text)) (x2 := .int .u64 (TK.n : Int)) (x3 := .int .i64 0) (x4 := .int .i64 0) (u := .int .i64 (j : Int)) (v := .int .i64 C) ((V3.out.stay (put5_else W3 w2.heap.size (.int .i64 (TK.kind : Int)) (.string (strOfNums TK.text)) (.int .u64 (TK.n : Int)) (.int .i64 0) (.int .i64 0) w.heap.size hn1) (by rw [put5_size]; exact Nat.le_refl _)).put _ _ _ _ _) rfl rfl rfl) rfl ?_
        exact ⟨rfl, below_put5 (below_put5 G3.out (Nat.le_of_lt V2.out.s) _ _ _ _ _) (Nat.le_refl _) _ _ _ _ _⟩
theorem sone_any (v : Value) (l : List Int) (i : Nat) (w : World) (hv : Ints .i32 w v l) (hok : RunesOk l) (hl : l.length ≤ 900000) (hi : i < l.length) :
    Calls Tryz.prog 17 #[v, .int .i64 (i : Int)] w (GivesOne (oneF l i) w) := by
  by_cases n1 : l.getD i 0 = 123
  · exact sone_mark v l i w hv hok hl hi 123 7 n1 (Or.inl ⟨rfl, rfl⟩)
  by_cases n2 : l.getD i 0 = 125
  · exact sone_mark v l i w hv hok hl hi 125 8 n2 (Or.inr (Or.inl ⟨rfl, rfl⟩))
  by_cases n3 : l.getD i 0 = 59
  · exact sone_mark v l i w hv hok hl hi 59 9 n3 (Or.inr (Or.inr ⟨rfl, rfl⟩))
  by_cases n4 : l.getD i 0 = 34
  · exact sone_text v l i w hv hok hl hi n4
  cases hw : withinB (l.getD i 0) with
  | true => exact sone_word v l i w hv hok hl hi _ rfl (by simpa using n1) (by simpa using n2) (by simpa using n3) (by simpa using n4) hw
  | false => exact sone_none v l i w hv hok hl hi _ rfl (by simpa using n1) (by simpa using n2) (by simpa using n3) (by simpa using n4) hw

end Go.Proofs.YthfmllgflnideaaGreatDoor

/-
  Whether a token is right, as the document's answer says it.
-/
namespace Go.Proofs.YthfmllgflnideaaGreatDoor
open Go.RowKit

/-- Which tokens are right. -/
def RightT (k : Int) (s : ByteArray) (n : Int) : Prop :=
  (k = 1 ∧ NameL (runesOf (nums s)) ∧ n = 0) ∨ (k = 2 ∧ GoodL (runesOf (nums s)) ∧ (runesOf (nums s)).length ≤ 120 ∧ n = 0) ∨ ((k = 3 ∨ k = 4) ∧ s = ⟨#[]⟩) ∨ (k = 5 ∧ s = ⟨#[]⟩ ∧ n ≤ 1000000) ∨ (k = 6 ∧ s = ⟨#[]⟩ ∧ n ≤ 253402300799) ∨ ((k = 0 ∨ k = 7 ∨ k = 8 ∨ k = 9) ∧ s = ⟨#[]⟩ ∧ n = 0)
end Go.Proofs.YthfmllgflnideaaGreatDoor
