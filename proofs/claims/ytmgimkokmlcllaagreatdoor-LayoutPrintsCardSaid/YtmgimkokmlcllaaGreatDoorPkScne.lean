/-
  The document's tokens: a token's five cells; a word's value, walked.
-/
import Derived.Test.YtmgimkokmlcllaaGreatDoorPkScnb
import Derived.Test.YtmgimkokmlcllaaGreatDoorPkScnD
import Derived.Test.YtmgimkokmlcllaaGreatDoorPkTexts
import Derived.Test.YtmgimkokmlcllaaGreatDoorPkPpmr
import Derived.Test.YtmgimkokmlcllaaGreatDoorPkSpanr
import Derived.Test.YtmgimkokmlcllaaGreatDoorPkVrs
import Derived.Test.YtmgimkokmlcllaaGreatDoorPkTxtV
namespace Go.Proofs.YtmgimkokmlcllaaGreatDoor
open Go.RowKit

def tkAt (t : TkV) (a b : Int) : Value := .agg #[.int .i64 (t.kind : Int), .string (strOfNums t.text), .int .u64 (t.n : Int), .int .i64 a, .int .i64 b]
structure Var5 (W : World) (p : Nat) (x0 x1 x2 x3 x4 : Value) : Prop where
  c0 : W.cell? ⟨p, 0, none⟩ = some x0
  c1 : W.cell? ⟨p, 1, none⟩ = some x1
  c2 : W.cell? ⟨p, 2, none⟩ = some x2
  c3 : W.cell? ⟨p, 3, none⟩ = some x3
  c4 : W.cell? ⟨p, 4, none⟩ = some x4
  q : ∀ i, W.frozen? ⟨p, i, none⟩ = false
  s : p < W.heap.size
theorem Var5.fresh (W : World) (x0 x1 x2 x3 x4 : Value) (t : TypeId) (p : Nat) (hp : p = W.heap.size) : Var5 (W.alloc (.cells #[x0, x1, x2, x3, x4] t)) p x0 x1 x2 x3 x4 := by
  subst hp
  exact ⟨by simp, by simp, by simp, by simp, by simp, fun i => by simp [go_sem], by simp⟩
theorem Var5.stay {W W' : World} {p : Nat} {x0 x1 x2 x3 x4 : Value} (h : Var5 W p x0 x1 x2 x3 x4) (e : W'.heap[p]? = W.heap[p]?) (hs : W.heap.size ≤ W'.heap.size) : Var5 W' p x0 x1 x2 x3 x4 :=
  ⟨(World.cell?_of_block e).trans h.c0, (World.cell?_of_block e).trans h.c1, (World.cell?_of_block e).trans h.c2, (World.cell?_of_block e).trans h.c3, (World.cell?_of_block e).trans h.c4, fun i => (World.frozen?_of_block e).trans (h.q i), Nat.lt_of_lt_of_le h.s hs⟩
theorem Var5.after {W W' : World} {p : Nat} {x0 x1 x2 x3 x4 : Value} (h : Var5 W p x0 x1 x2 x3 x4) (hb : Below W.heap.size W W') : Var5 W' p x0 x1 x2 x3 x4 := h.stay (hb.block p h.s) hb.size
def put5 (W : World) (p : Nat) (y0 y1 y2 y3 y4 : Value) : World := ((((W.setCell ⟨p, 0, none⟩ y0).setCell ⟨p, 1, none⟩ y1).setCell ⟨p, 2, none⟩ y2).setCell ⟨p, 3, none⟩ y3).setCell ⟨p, 4, none⟩ y4
theorem Var5.put {W : World} {p : Nat} {x0 x1 x2 x3 x4 : Value} (h : Var5 W p x0 x1 x2 x3 x4) (y0 y1 y2 y3 y4 : Value) : Var5 (put5 W p y0 y1 y2 y3 y4) p y0 y1 y2 y3 y4 := by
  obtain ⟨c0, c1, c2, c3, c4, q, s⟩ := h
  unfold put5
  refine ⟨?_, ?_, ?_, ?_, ?_, fun i => ?_, ?_⟩ <;> simp [go_sem, *]
theorem put5_size (W : World) (p : Nat) (y0 y1 y2 y3 y4 : Value) : (put5 W p y0 y1 y2 y3 y4).heap.size = W.heap.size := by
  unfold put5
  simp
theorem below_put5 {B : Nat} {w W : World} (h : Below B w W) {p : Nat} (hp : B ≤ p) (y0 y1 y2 y3 y4 : Value) : Below B w (put5 W p y0 y1 y2 y3 y4) := ((((h.setCell hp _).setCell hp _).setCell hp _).setCell hp _).setCell hp _
theorem load_tok {W : World} {g : Nat} {x0 x1 x2 x3 x4 : Value} (h : Var5 W g x0 x1 x2 x3 x4) : (loadVar 59 ⟨g, 0, none⟩).run Tryz.prog W = .ok (.agg #[x0, x1, x2, x3, x4]) W := by
  obtain ⟨c0, c1, c2, c3, c4, _, _⟩ := h
  go_simp
def GivesTk (t : TkV) (c : Int) (w : World) (e : Ending) (w' : World) : Prop := e = .returned (.tuple #[tkAt t 0 0, .int .i64 c]) ∧ Below w.heap.size w w'
def pointB (Z : List Int) (i : Nat) : Bool := decide (46 ∈ Z.take i)
end Go.Proofs.YtmgimkokmlcllaaGreatDoor

/-
  Where a quoted text ends, as the document's answer goes through it.
-/
namespace Go.Proofs.YtmgimkokmlcllaaGreatDoor
open Go.RowKit

def qF : List Int → Nat → Nat
  | [], _ => 0
  | r :: t, k => if r = 10 then 0 else if r = 34 then k + 1 else if r = 92 then (match t with | [] => 0 | s :: u => if s = 10 then 0 else qF u (k + 2)) else qF t (k + 1)
theorem qF_cons (r : Int) (t : List Int) (k : Nat) : qF (r :: t) k = if r = 10 then 0 else if r = 34 then k + 1 else if r = 92 then (match t with | [] => 0 | s :: u => if s = 10 then 0 else qF u (k + 2)) else qF t (k + 1) := by cases t <;> rfl
theorem sdrop_cons {l : List Int} {i : Nat} (h : i < l.length) : l.drop i = l.getD i 0 :: l.drop (i + 1) := by
  rw [List.drop_eq_getElem_cons h, List.getD_eq_getElem?_getD, List.getElem?_eq_getElem h]
  rfl
theorem qF_bd : ∀ (n : Nat) (l : List Int) (k : Nat), l.length ≤ n → qF l k = 0 ∨ (k < qF l k ∧ qF l k ≤ k + l.length)
  | _, [], k, _ => Or.inl (by rw [qF])
  | 0, _ :: _, _, h => absurd h (by simp)
  | n + 1, r :: t, k, h => by
    have hl : t.length ≤ n := by simpa using h
    rw [qF_cons]
    split
    · exact Or.inl rfl
    · split
      · exact Or.inr ⟨by omega, by simp⟩
      · split
        · cases t with
          | nil => exact Or.inl rfl
          | cons s u =>
            show (if s = 10 then 0 else qF u (k + 2)) = 0 ∨ _ < (if s = 10 then 0 else qF u (k + 2)) ∧ (if s = 10 then 0 else qF u (k + 2)) ≤ _
            split
            · exact Or.inl rfl
            · have := qF_bd n u (k + 2) (by simp at hl; omega)
              simp only [List.length_cons] at *
              omega
        · have := qF_bd n t (k + 1) hl
          simp only [List.length_cons]
          omega
end Go.Proofs.YtmgimkokmlcllaaGreatDoor

/-
  The places of a source's runes, as the document's answer lists them.
-/
namespace Go.Proofs.YtmgimkokmlcllaaGreatDoor
open Go.RowKit

def spotStep (p : Int × Int) (z : Int) : Int × Int := if z = 10 then (p.1 + 1, 1) else (p.1, p.2 + 1)
def spotAt (l : List Int) (i : Nat) : Int × Int := (l.take i).foldl spotStep (1, 1)
theorem spot_zero (l : List Int) : spotAt l 0 = (1, 1) := rfl
theorem spot_line {l : List Int} {i : Nat} (h : i < l.length) (e : l.getD i 0 = 10) : spotAt l (i + 1) = ((spotAt l i).1 + 1, 1) := by
  unfold spotAt
  rw [take_snoc h, List.foldl_append]
  exact if_pos e
theorem spot_col {l : List Int} {i : Nat} (h : i < l.length) (e : l.getD i 0 ≠ 10) : spotAt l (i + 1) = ((spotAt l i).1, (spotAt l i).2 + 1) := by
  unfold spotAt
  rw [take_snoc h, List.foldl_append]
  exact if_neg e
theorem spot_bd {l : List Int} : ∀ i, i ≤ l.length → 1 ≤ (spotAt l i).1 ∧ (spotAt l i).1 ≤ i + 1 ∧ 1 ≤ (spotAt l i).2 ∧ (spotAt l i).2 ≤ i + 1
  | 0, _ => by rw [spot_zero]; decide
  | i + 1, h => by
    have ih := spot_bd (l := l) i (by omega)
    by_cases e : l.getD i 0 = 10
    · rw [spot_line (by omega) e]
      simp only
      omega
    · rw [spot_col (by omega) e]
      simp only
      omega
def spotV (p : Int × Int) : List Value := [.int .i64 p.1, .int .i64 p.2]
def spotsV (l : List Int) (n : Nat) : List (List Value) := (List.range n).map fun i => spotV (spotAt l i)
theorem sset_else (W : World) (r i : Nat) (x : Value) (j : Nat) (hne : j ≠ r) : (W.setCell ⟨r, i, none⟩ x).heap[j]? = W.heap[j]? := Below.heap_setCell W ⟨r, i, none⟩ x j hne
theorem Var2.put1 {W : World} {p : Nat} {x y : Value} (k : Var2 W p x y) (y' : Value) : Var2 (W.setCell ⟨p, 1, none⟩ y') p x y' := by
  obtain ⟨c0, c1, q0, q1, s⟩ := k
  refine ⟨?_, ?_, ?_, ?_, ?_⟩ <;> simp [go_sem, *]
end Go.Proofs.YtmgimkokmlcllaaGreatDoor

/-
  The document's answer for the token that begins at a place.
-/
namespace Go.Proofs.YtmgimkokmlcllaaGreatDoor
open Go.RowKit

def unqF (l : List Int) : List Int × Int := match uf l with
  | .done xs => if 120 < xs.length then ([], 9) else (xs.flatMap encL, 0)
  | _ => ([], 5)
theorem unq_out {l t : List Int} {c : Int} (h : UnqL l t c) : t = (unqF l).1 ∧ c = (unqF l).2 := by
  unfold unqF
  rcases h with ⟨h, rfl, rfl⟩ | ⟨xs, h, h1⟩
  · split
    · rename_i xs e
      exact (h xs e).elim
    · exact ⟨rfl, rfl⟩
  · rw [h]
    rcases h1 with ⟨h1, rfl, rfl⟩ | ⟨h1, rfl, rfl⟩
    · simp only [if_pos h1, and_self]
    · simp only [if_neg (show ¬ 120 < xs.length by omega), and_self]
def wordEnd (l : List Int) (i : Nat) : Nat := i + ((l.drop i).takeWhile withinB).length
theorem wordEnd_bd {l : List Int} {i : Nat} (h : i ≤ l.length) : i ≤ wordEnd l i ∧ wordEnd l i ≤ l.length := by
  unfold wordEnd
  have := (List.takeWhile_prefix (l := l.drop i) withinB).length_le
  rw [List.length_drop] at this
  omega
theorem wordEnd_in {l : List Int} {i : Nat} : ∀ k, i + k < wordEnd l i → withinB (l.getD (i + k) 0) = true := fun k hk => by
  unfold wordEnd at hk
  have hp := List.takeWhile_prefix (l := l.drop i) withinB
  have hk2 : k < ((l.drop i).takeWhile withinB).length := by omega
  have e := hp.getElem hk2
  have hm : ((l.drop i).takeWhile withinB)[k] ∈ (l.drop i).takeWhile withinB := List.getElem_mem hk2
  have hall := List.all_takeWhile (l := l.drop i) (p := withinB)
  have hw := List.all_eq_true.mp hall _ hm
  rw [e] at hw
  have hlen := hp.length_le
  have hkl : k < (l.drop i).length := by omega
  rw [List.length_drop] at hkl
  rw [List.getElem_drop] at hw
  rw [List.getD_eq_getElem?_getD, List.getElem?_eq_getElem (by omega)]
  exact hw
theorem takeWhile_stop {p : Int → Bool} : ∀ (m : List Int), (m.takeWhile p).length < m.length → p (m.getD (m.takeWhile p).length 0) = false
  | [], h => by cases h
  | z :: m, h => by
    cases hz : p z with
    | true =>
      rw [List.takeWhile_cons_of_pos hz] at h ⊢
      simp only [List.length_cons] at h ⊢
      have := takeWhile_stop (p := p) m (by omega)
      simpa using this
    | false =>
      rw [List.takeWhile_cons_of_neg (by simp [hz])]
      simpa using hz
theorem wordEnd_out {l : List Int} {i : Nat} (h : wordEnd l i < l.length) : withinB (l.getD (wordEnd l i) 0) = false := by
  unfold wordEnd at h ⊢
  have := takeWhile_stop (p := withinB) (l.drop i) (by rw [List.length_drop]; omega)
  rw [List.getD_eq_getElem?_getD, List.getElem?_drop] at this
  rw [List.getD_eq_getElem?_getD]
  exact this
theorem wordEnd_one {l : List Int} {i : Nat} (h : i < l.length) (hw : withinB (l.getD i 0) = true) : i < wordEnd l i := by
  unfold wordEnd
  rw [sdrop_cons h, List.takeWhile_cons_of_pos hw, List.length_cons]
  omega
noncomputable def oneF (l : List Int) (i : Nat) : TkV × Nat × Int :=
  if l.getD i 0 = 123 then (⟨7, [], 0⟩, i + 1, 0)
  else if l.getD i 0 = 125 then (⟨8, [], 0⟩, i + 1, 0)
  else if l.getD i 0 = 59 then (⟨9, [], 0⟩, i + 1, 0)
  else if l.getD i 0 = 34 then
    (if qF (l.drop (i + 1)) (i + 1) = 0 then (tk0, 0, 5)
     else (⟨2, (unqF ((l.take (qF (l.drop (i + 1)) (i + 1))).drop i)).1, 0⟩, qF (l.drop (i + 1)) (i + 1), (unqF ((l.take (qF (l.drop (i + 1)) (i + 1))).drop i)).2))
  else if withinB (l.getD i 0) = false then (tk0, 0, 5)
  else ((valF ((l.take (wordEnd l i)).drop i)).1, wordEnd l i, (valF ((l.take (wordEnd l i)).drop i)).2)
def GivesOne (p : TkV × Nat × Int) (w : World) (e : Ending) (w' : World) : Prop := e = .returned (.tuple #[tkAt p.1 0 0, .int .i64 (p.2.1 : Int), .int .i64 p.2.2]) ∧ Below w.heap.size w w'
theorem put5_else (W : World) (p : Nat) (y0 y1 y2 y3 y4 : Value) (j : Nat) (h : j ≠ p) : (put5 W p y0 y1 y2 y3 y4).heap[j]? = W.heap[j]? := by
  unfold put5
  rw [sset_else _ _ _ _ _ h, sset_else _ _ _ _ _ h, sset_else _ _ _ _ _ h, sset_else _ _ _ _ _ h, sset_else _ _ _ _ _ h]
end Go.Proofs.YtmgimkokmlcllaaGreatDoor

/-
  Whether a token is right, as the document's answer says it.
-/
namespace Go.Proofs.YtmgimkokmlcllaaGreatDoor
open Go.RowKit

def RightT (k : Int) (s : ByteArray) (n : Int) : Prop :=
  (k = 1 ∧ NameL (runesOf (nums s)) ∧ n = 0) ∨ (k = 2 ∧ GoodL (runesOf (nums s)) ∧ (runesOf (nums s)).length ≤ 120 ∧ n = 0) ∨ ((k = 3 ∨ k = 4) ∧ s = ⟨#[]⟩) ∨ (k = 5 ∧ s = ⟨#[]⟩ ∧ n ≤ 1000000) ∨ (k = 6 ∧ s = ⟨#[]⟩ ∧ n ≤ 253402300799) ∨ ((k = 0 ∨ k = 7 ∨ k = 8 ∨ k = 9) ∧ s = ⟨#[]⟩ ∧ n = 0)
set_option maxRecDepth 100000 in
set_option maxHeartbeats 8000000 in
theorem sright_any (k : Int) (s : ByteArray) (n a b : Int) (w : World) (hm : s.size ≤ 4294967296) :
    Calls Tryz.prog 44 #[.agg #[.int .i64 k, .string s, .int .u64 n, .int .i64 a, .int .i64 b]] w (GivesQ (RightT k s n) w) := by
  obtain ⟨W0, hW0⟩ : ∃ W, w.alloc (.cells #[.int .i64 k, .string s, .int .u64 n, .int .i64 a, .int .i64 b] 59) = W := ⟨_, rfl⟩
  have V0 : Var5 W0 w.heap.size (.int .i64 k) (.string s) (.int .u64 n) (.int .i64 a) (.int .i64 b) := by rw [← hW0]; exact Var5.fresh _ _ _ _ _ _ _ _ rfl
  have g0 : Below w.heap.size w W0 := by rw [← hW0]; exact (Below.refl _ _).alloc (Nat.le_refl _) _
  have HG := Lib.hid g0
  have HV := Lib.hid V0
  have HNA := Lib.hid (fun W => rname_any s W hm)
  have HGO := Lib.hid (fun W => rgood_any s W hm)
  have HRU := Lib.hid (fun W => rrunes_any s W hm)
  obtain ⟨c0, c1, c2, _, _, _, _⟩ := V0
  clear g0
  by_cases h1 : k = 1
  · subst h1
    have hp : RightT 1 s n ↔ NameL (runesOf (nums s)) ∧ n = 0 := by unfold RightT; simp
    by_cases hN : NameL (runesOf (nums s))
    · have HN := Lib.hid hN
      by_cases hn : n = 0
      · have HP := Lib.hid (hp.mpr ⟨hN, hn⟩)
        subst hn
        clear hN hp
        go_enter Tryz.func44, Tryz.ntmps44
        go_wp2_with (go_at_call 43; (with_reducible refine (HNA.out _).mono ?_); rintro e w2 ⟨q, rfl, hq, h2⟩; obtain rfl : q = true := hq.mpr HN.out; have V2 := HV.out.after h2; have G2 := Lib.hid (below_step HG.out h2); have e2 := V2.c2; clear V2 hq h2)
        go_ret
        exact GivesQ.yes HP.out G2.out
      · have HP := Lib.hid (fun h => hn (hp.mp h).2)
        have hb : (n == 0) = false := by simpa using hn
        clear hN hp
        go_enter Tryz.func44, Tryz.ntmps44
        go_wp2_with (go_at_call 43; (with_reducible refine (HNA.out _).mono ?_); rintro e w2 ⟨q, rfl, hq, h2⟩; obtain rfl : q = true := hq.mpr HN.out; have V2 := HV.out.after h2; have G2 := Lib.hid (below_step HG.out h2); have e2 := V2.c2; clear V2 hq h2)
        go_ret
        exact GivesQ.no HP.out G2.out
    · have HN := Lib.hid hN
      have HP := Lib.hid (fun h => hN (hp.mp h).1)
      clear hN hp
      go_enter Tryz.func44, Tryz.ntmps44
      go_wp2_with (go_at_call 43; (with_reducible refine (HNA.out _).mono ?_); rintro e w2 ⟨q, rfl, hq, h2⟩; obtain rfl : q = false := (by cases q with | false => rfl | true => exact (HN.out (hq.mp rfl)).elim); have V2 := HV.out.after h2; have G2 := Lib.hid (below_step HG.out h2); have e2 := V2.c2; clear V2 hq h2)
      go_ret
      exact GivesQ.no HP.out G2.out
  by_cases h2 : k = 2
  · subst h2
    have hp : RightT 2 s n ↔ GoodL (runesOf (nums s)) ∧ (runesOf (nums s)).length ≤ 120 ∧ n = 0 := by unfold RightT; simp
    by_cases hN : GoodL (runesOf (nums s))
    · have HN := Lib.hid hN
      by_cases hl : (runesOf (nums s)).length ≤ 120
      · have hl' : ((runesOf (nums s)).length : Int) ≤ 120 := by omega
        by_cases hn : n = 0
        · have HP := Lib.hid (hp.mpr ⟨hN, hl, hn⟩)
          subst hn
          clear hN hp
          go_enter Tryz.func44, Tryz.ntmps44
          go_wp2_with (first | (go_at_call 73; (with_reducible refine (HGO.out _).mono ?_); rintro e w2 ⟨q, rfl, hq, h2⟩; obtain rfl : q = true := hq.mpr HN.out; have V2 := Lib.hid (HV.out.after h2); have G2 := Lib.hid (below_step HG.out h2); have e1 := V2.out.c1; have e2 := V2.out.c2; clear hq h2) | (go_at_call 71; (with_reducible refine (HRU.out _).mono ?_); rintro e w3 ⟨v, rfl, hi, h3, _⟩; obtain ⟨b, off, cap, rfl, _, _, _⟩ := hi; have V3 := V2.out.after h3; have G3 := Lib.hid (below_step G2.out h3); have f2 := V3.c2; clear V3 h3))
          go_ret
          exact GivesQ.yes HP.out G3.out
        · have HP := Lib.hid (fun h => hn (hp.mp h).2.2)
          have hb : (n == 0) = false := by simpa using hn
          clear hN hp
          go_enter Tryz.func44, Tryz.ntmps44
          go_wp2_with (first | (go_at_call 73; (with_reducible refine (HGO.out _).mono ?_); rintro e w2 ⟨q, rfl, hq, h2⟩; obtain rfl : q = true := hq.mpr HN.out; have V2 := Lib.hid (HV.out.after h2); have G2 := Lib.hid (below_step HG.out h2); have e1 := V2.out.c1; have e2 := V2.out.c2; clear hq h2) | (go_at_call 71; (with_reducible refine (HRU.out _).mono ?_); rintro e w3 ⟨v, rfl, hi, h3, _⟩; obtain ⟨b, off, cap, rfl, _, _, _⟩ := hi; have V3 := V2.out.after h3; have G3 := Lib.hid (below_step G2.out h3); have f2 := V3.c2; clear V3 h3))
          go_ret
          exact GivesQ.no HP.out G3.out
      · have HP := Lib.hid (fun h => hl (hp.mp h).2.1)
        have hl' : ¬ ((runesOf (nums s)).length : Int) ≤ 120 := by omega
        clear hN hp
        go_enter Tryz.func44, Tryz.ntmps44
        go_wp2_with (first | (go_at_call 73; (with_reducible refine (HGO.out _).mono ?_); rintro e w2 ⟨q, rfl, hq, h2⟩; obtain rfl : q = true := hq.mpr HN.out; have V2 := Lib.hid (HV.out.after h2); have G2 := Lib.hid (below_step HG.out h2); have e1 := V2.out.c1; have e2 := V2.out.c2; clear hq h2) | (go_at_call 71; (with_reducible refine (HRU.out _).mono ?_); rintro e w3 ⟨v, rfl, hi, h3, _⟩; obtain ⟨b, off, cap, rfl, _, _, _⟩ := hi; have V3 := V2.out.after h3; have G3 := Lib.hid (below_step G2.out h3); have f2 := V3.c2; clear V3 h3))
        go_ret
        exact GivesQ.no HP.out G3.out
    · have HN := Lib.hid hN
      have HP := Lib.hid (fun h => hN (hp.mp h).1)
      clear hN hp
      go_enter Tryz.func44, Tryz.ntmps44
      go_wp2_with (go_at_call 73; (with_reducible refine (HGO.out _).mono ?_); rintro e w2 ⟨q, rfl, hq, h2⟩; obtain rfl : q = false := (by cases q with | false => rfl | true => exact (HN.out (hq.mp rfl)).elim); have V2 := Lib.hid (HV.out.after h2); have G2 := Lib.hid (below_step HG.out h2); have e1 := V2.out.c1; have e2 := V2.out.c2; clear hq h2)
      go_ret
      exact GivesQ.no HP.out G2.out
  by_cases h3 : k = 3
  · subst h3
    have hp : RightT 3 s n ↔ s = ⟨#[]⟩ := by unfold RightT; simp
    by_cases hs : s = ⟨#[]⟩
    · subst hs
      have HP := Lib.hid (hp.mpr rfl)
      clear hp
      go_enter Tryz.func44, Tryz.ntmps44
      go_wp2
      go_ret
      exact GivesQ.yes HP.out HG.out
    · have HP := Lib.hid (fun h => hs (hp.mp h))
      obtain ⟨hsb, hsc⟩ := toList_empty (s := s) (Nat.pos_of_ne_zero fun e => hs (ByteArray.ext (Array.eq_empty_of_size_eq_zero e)))
      clear hp
      go_enter Tryz.func44, Tryz.ntmps44
      go_wp2
      go_ret
      exact GivesQ.no HP.out HG.out
  by_cases h4 : k = 4
  · subst h4
    have hp : RightT 4 s n ↔ s = ⟨#[]⟩ := by unfold RightT; simp
    by_cases hs : s = ⟨#[]⟩
    · subst hs
      have HP := Lib.hid (hp.mpr rfl)
      clear hp
      go_enter Tryz.func44, Tryz.ntmps44
      go_wp2
      go_ret
      exact GivesQ.yes HP.out HG.out
    · have HP := Lib.hid (fun h => hs (hp.mp h))
      obtain ⟨hsb, hsc⟩ := toList_empty (s := s) (Nat.pos_of_ne_zero fun e => hs (ByteArray.ext (Array.eq_empty_of_size_eq_zero e)))
      clear hp
      go_enter Tryz.func44, Tryz.ntmps44
      go_wp2
      go_ret
      exact GivesQ.no HP.out HG.out
  by_cases h5 : k = 5
  · subst h5
    have hp : RightT 5 s n ↔ s = ⟨#[]⟩ ∧ n ≤ 1000000 := by unfold RightT; simp
    by_cases hs : s = ⟨#[]⟩
    · subst hs
      by_cases hn : n ≤ 1000000
      · have HP := Lib.hid (hp.mpr ⟨rfl, hn⟩)
        clear hp
        go_enter Tryz.func44, Tryz.ntmps44
        go_wp2
        go_ret
        exact GivesQ.yes HP.out HG.out
      · have HP := Lib.hid (fun h => hn (hp.mp h).2)
        clear hp
        go_enter Tryz.func44, Tryz.ntmps44
        go_wp2
        go_ret
        exact GivesQ.no HP.out HG.out
    · have HP := Lib.hid (fun h => hs (hp.mp h).1)
      obtain ⟨hsb, hsc⟩ := toList_empty (s := s) (Nat.pos_of_ne_zero fun e => hs (ByteArray.ext (Array.eq_empty_of_size_eq_zero e)))
      clear hp
      go_enter Tryz.func44, Tryz.ntmps44
      go_wp2
      go_ret
      exact GivesQ.no HP.out HG.out
  by_cases h6 : k = 6
  · subst h6
    have hp : RightT 6 s n ↔ s = ⟨#[]⟩ ∧ n ≤ 253402300799 := by unfold RightT; simp
    by_cases hs : s = ⟨#[]⟩
    · subst hs
      by_cases hn : n ≤ 253402300799
      · have HP := Lib.hid (hp.mpr ⟨rfl, hn⟩)
        clear hp
        go_enter Tryz.func44, Tryz.ntmps44
        go_wp2
        go_ret
        exact GivesQ.yes HP.out HG.out
      · have HP := Lib.hid (fun h => hn (hp.mp h).2)
        clear hp
        go_enter Tryz.func44, Tryz.ntmps44
        go_wp2
        go_ret
        exact GivesQ.no HP.out HG.out
    · have HP := Lib.hid (fun h => hs (hp.mp h).1)
      obtain ⟨hsb, hsc⟩ := toList_empty (s := s) (Nat.pos_of_ne_zero fun e => hs (ByteArray.ext (Array.eq_empty_of_size_eq_zero e)))
      clear hp
      go_enter Tryz.func44, Tryz.ntmps44
      go_wp2
      go_ret
      exact GivesQ.no HP.out HG.out
  by_cases h0 : k = 0
  · subst h0
    have hp : RightT 0 s n ↔ s = ⟨#[]⟩ ∧ n = 0 := by unfold RightT; simp
    by_cases hs : s = ⟨#[]⟩
    · subst hs
      by_cases hn : n = 0
      · have HP := Lib.hid (hp.mpr ⟨rfl, hn⟩)
        subst hn
        clear hp
        go_enter Tryz.func44, Tryz.ntmps44
        go_wp2
        go_ret
        exact GivesQ.yes HP.out HG.out
      · have HP := Lib.hid (fun h => hn (hp.mp h).2)
        have hb : (n == 0) = false := by simpa using hn
        clear hp
        go_enter Tryz.func44, Tryz.ntmps44
        go_wp2
        go_ret
        exact GivesQ.no HP.out HG.out
    · have HP := Lib.hid (fun h => hs (hp.mp h).1)
      obtain ⟨hsb, hsc⟩ := toList_empty (s := s) (Nat.pos_of_ne_zero fun e => hs (ByteArray.ext (Array.eq_empty_of_size_eq_zero e)))
      clear hp
      go_enter Tryz.func44, Tryz.ntmps44
      go_wp2
      go_ret
      exact GivesQ.no HP.out HG.out
  by_cases h7 : k = 7
  · subst h7
    have hp : RightT 7 s n ↔ s = ⟨#[]⟩ ∧ n = 0 := by unfold RightT; simp
    by_cases hs : s = ⟨#[]⟩
    · subst hs
      by_cases hn : n = 0
      · have HP := Lib.hid (hp.mpr ⟨rfl, hn⟩)
        subst hn
        clear hp
        go_enter Tryz.func44, Tryz.ntmps44
        go_wp2
        go_ret
        exact GivesQ.yes HP.out HG.out
      · have HP := Lib.hid (fun h => hn (hp.mp h).2)
        have hb : (n == 0) = false := by simpa using hn
        clear hp
        go_enter Tryz.func44, Tryz.ntmps44
        go_wp2
        go_ret
        exact GivesQ.no HP.out HG.out
    · have HP := Lib.hid (fun h => hs (hp.mp h).1)
      obtain ⟨hsb, hsc⟩ := toList_empty (s := s) (Nat.pos_of_ne_zero fun e => hs (ByteArray.ext (Array.eq_empty_of_size_eq_zero e)))
      clear hp
      go_enter Tryz.func44, Tryz.ntmps44
      go_wp2
      go_ret
      exact GivesQ.no HP.out HG.out
  by_cases h8 : k = 8
  · subst h8
    have hp : RightT 8 s n ↔ s = ⟨#[]⟩ ∧ n = 0 := by unfold RightT; simp
    by_cases hs : s = ⟨#[]⟩
    · subst hs
      by_cases hn : n = 0
      · have HP := Lib.hid (hp.mpr ⟨rfl, hn⟩)
        subst hn
        clear hp
        go_enter Tryz.func44, Tryz.ntmps44
        go_wp2
        go_ret
        exact GivesQ.yes HP.out HG.out
      · have HP := Lib.hid (fun h => hn (hp.mp h).2)
        have hb : (n == 0) = false := by simpa using hn
        clear hp
        go_enter Tryz.func44, Tryz.ntmps44
        go_wp2
        go_ret
        exact GivesQ.no HP.out HG.out
    · have HP := Lib.hid (fun h => hs (hp.mp h).1)
      obtain ⟨hsb, hsc⟩ := toList_empty (s := s) (Nat.pos_of_ne_zero fun e => hs (ByteArray.ext (Array.eq_empty_of_size_eq_zero e)))
      clear hp
      go_enter Tryz.func44, Tryz.ntmps44
      go_wp2
      go_ret
      exact GivesQ.no HP.out HG.out
  by_cases h9 : k = 9
  · subst h9
    have hp : RightT 9 s n ↔ s = ⟨#[]⟩ ∧ n = 0 := by unfold RightT; simp
    by_cases hs : s = ⟨#[]⟩
    · subst hs
      by_cases hn : n = 0
      · have HP := Lib.hid (hp.mpr ⟨rfl, hn⟩)
        subst hn
        clear hp
        go_enter Tryz.func44, Tryz.ntmps44
        go_wp2
        go_ret
        exact GivesQ.yes HP.out HG.out
      · have HP := Lib.hid (fun h => hn (hp.mp h).2)
        have hb : (n == 0) = false := by simpa using hn
        clear hp
        go_enter Tryz.func44, Tryz.ntmps44
        go_wp2
        go_ret
        exact GivesQ.no HP.out HG.out
    · have HP := Lib.hid (fun h => hs (hp.mp h).1)
      obtain ⟨hsb, hsc⟩ := toList_empty (s := s) (Nat.pos_of_ne_zero fun e => hs (ByteArray.ext (Array.eq_empty_of_size_eq_zero e)))
      clear hp
      go_enter Tryz.func44, Tryz.ntmps44
      go_wp2
      go_ret
      exact GivesQ.no HP.out HG.out
  have HP : Hid (¬ RightT k s n) := Lib.hid (by unfold RightT; omega)
  have b0 : (k == 0) = false := by simpa using h0
  have b1 : (k == 1) = false := by simpa using h1
  have b2 : (k == 2) = false := by simpa using h2
  have b3 : (k == 3) = false := by simpa using h3
  have b4 : (k == 4) = false := by simpa using h4
  have b5 : (k == 5) = false := by simpa using h5
  have b6 : (k == 6) = false := by simpa using h6
  have b7 : (k == 7) = false := by simpa using h7
  have b8 : (k == 8) = false := by simpa using h8
  have b9 : (k == 9) = false := by simpa using h9
  clear h0 h1 h2 h3 h4 h5 h6 h7 h8 h9
  go_enter Tryz.func44, Tryz.ntmps44
  go_wp2
  go_ret
  exact GivesQ.no HP.out HG.out

end Go.Proofs.YtmgimkokmlcllaaGreatDoor
