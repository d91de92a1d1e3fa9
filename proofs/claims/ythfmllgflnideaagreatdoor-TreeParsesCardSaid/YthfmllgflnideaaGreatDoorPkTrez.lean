/-
  The document's Parse: its stack of open blocks, in memory.
-/
import Derived.Test.YthfmllgflnideaaGreatDoorPkTrep
import Derived.Test.YthfmllgflnideaaGreatDoorPkTrel
import Derived.Test.YthfmllgflnideaaGreatDoorPkTrev
import Derived.Test.YthfmllgflnideaaGreatDoorPkMixs
namespace Go.Proofs.YthfmllgflnideaaGreatDoor
open Go.RowKit

/-- An open block: what stands ahead of it, its items so far, the slices of its words and of its items. -/
structure En where
  h : Hd
  l : List ItV
  wv : Value
  lv : Value
  bk : Bool
def En.cells (e : En) : List Value := [.string e.h.name, e.wv, .bool e.bk, .slice none 0 0, .int .i64 e.h.a, .int .i64 e.h.b, e.lv]
def En.st (e : En) : Hd × List It := (e.h, e.l.map ItV.x)
/-- The stack's cells, the outermost first. -/
def stkV (E : List En) : List (List Value) := (E.map En.cells).reverse
theorem stkV_cons (e : En) (E : List En) : stkV (e :: E) = stkV E ++ [e.cells] := by simp [stkV]
theorem stkV_len (E : List En) : (stkV E).length = E.length := by simp [stkV]
theorem stkV_top (e : En) (E : List En) : (stkV (e :: E)).getD E.length [] = e.cells := by
  rw [stkV_cons, List.getD_eq_getElem?_getD, List.getElem?_append_right (by rw [stkV_len]; exact Nat.le_refl _), stkV_len, Nat.sub_self]; rfl
theorem stkV_set (e : En) (E : List En) (y : List Value) : (stkV (e :: E)).set E.length y = stkV E ++ [y] := by
  rw [stkV_cons, List.set_append_right _ _ (by rw [stkV_len]; exact Nat.le_refl _), stkV_len, Nat.sub_self]; rfl
theorem stkV_take (e : En) (E : List En) : (stkV (e :: E)).take E.length = stkV E := by
  rw [stkV_cons, List.take_append_of_le_length (by rw [stkV_len]; exact Nat.le_refl _), List.take_of_length_le (by rw [stkV_len]; exact Nat.le_refl _)]
/-- What the open blocks lean on. -/
def EntsOk (w : World) (S : Nat → Prop) (Z : Nat) : Nat → List En → Prop
  | _, [] => True
  | d, e :: R => WordsIs w S e.wv e.h.words ∧ ListIs d w S Z e.lv e.l ∧ (R ≠ [] → e.bk = true) ∧ EntsOk w S Z (d + 1) R
theorem EntsOk.keep {w w' : World} {S S' : Nat → Prop} {Z : Nat} (hs : ∀ b, S b → S' b) (hw : ∀ b, S b → w'.heap[b]? = w.heap[b]?) : ∀ {d : Nat} {E : List En}, EntsOk w S Z d E → (∀ e ∈ E, ∀ b, e.lv.ownBlock = some b → w'.heap[b]? = w.heap[b]? ∧ ¬ S' b) → EntsOk w' S' Z d E
  | _, [], _, _ => trivial
  | d, e :: R, h, hk => by
    obtain ⟨h1, h2, h3, h4⟩ := h
    exact ⟨h1.keep hs hw, h2.keep hs hw (fun b hb => (hk e (List.mem_cons_self ..) b hb).1) (fun b hb => (hk e (List.mem_cons_self ..) b hb).2), h3, h4.keep hs hw (fun x hx => hk x (List.mem_cons_of_mem _ hx))⟩
theorem EntsOk.lt {w : World} {S : Nat → Prop} {Z : Nat} : ∀ {d : Nat} {E : List En}, EntsOk w S Z d E → ∀ e ∈ E, ∀ b, e.lv.ownBlock = some b → Z ≤ b ∧ b < w.heap.size ∧ ¬ S b
  | _, [], _, e, he, _, _ => by cases he
  | d, x :: R, h, e, he, b, hb => by
    obtain ⟨_, h2, _, h4⟩ := h
    rcases List.mem_cons.mp he with rfl | he
    · exact ⟨(h2.row.lt hb).1, (h2.row.lt hb).2, h2.out b hb⟩
    · exact h4.lt e he b hb
/-- The stack, and all that it leans on. -/
structure DM (g0 : Nat) (S : Nat → Prop) (g cap : Nat) (E : List En) (wr : World) : Prop where
  row : RowK 46 7 wr g0 (.slice (some ⟨g, 0, none⟩) E.length cap) (stkV E)
  gx : g ≠ g0 + 1
  ents : EntsOk wr S (g0 + 2) (5 - E.length) E
  sin : ∀ b, S b → g0 + 2 ≤ b ∧ b < wr.heap.size ∧ b ≠ g
  lg : ∀ e ∈ E, e.lv.ownBlock ≠ some g
  ap : E.Pairwise fun e f => ∀ b, e.lv.ownBlock = some b → f.lv.ownBlock ≠ some b
  size : g0 + 2 ≤ wr.heap.size
theorem DM.after {g0 : Nat} {S : Nat → Prop} {g cap : Nat} {E : List En} {wr w' : World} (h : DM g0 S g cap E wr) (hb : Below wr.heap.size wr w') : DM g0 S g cap E w' :=
  ⟨h.row.below hb, h.gx, h.ents.keep (fun _ h => h) (fun b hb2 => hb.block b (h.sin b hb2).2.1) (fun e he b hb2 => ⟨hb.block b (h.ents.lt e he b hb2).2.1, (h.ents.lt e he b hb2).2.2⟩), fun b hb2 => ⟨(h.sin b hb2).1, Nat.lt_of_lt_of_le (h.sin b hb2).2.1 hb.size, (h.sin b hb2).2.2⟩, h.lg, h.ap, Nat.le_trans h.size hb.size⟩
/-- Only the item's variable has changed. -/
theorem DM.var {g0 : Nat} {S : Nat → Prop} {g cap : Nat} {E : List En} {wr w' : World} (h : DM g0 S g cap E wr) (hk : ∀ b, b < wr.heap.size → b ≠ g0 + 1 → w'.heap[b]? = wr.heap[b]?) (hs : wr.heap.size ≤ w'.heap.size) : DM g0 S g cap E w' :=
  ⟨h.row.kept (fun b hb => by
      have e : b = g := by simp only [Value.ownBlock, Option.some.injEq] at hb; exact hb.symm
      subst e
      exact hk b (h.row.lt rfl).2 h.gx), h.gx, h.ents.keep (fun _ h => h) (fun b hb => hk b (h.sin b hb).2.1 (by have := (h.sin b hb).1; omega)) (fun e he b hb => ⟨hk b (h.ents.lt e he b hb).2.1 (by have := (h.ents.lt e he b hb).1; omega), (h.ents.lt e he b hb).2.2⟩), fun b hb => ⟨(h.sin b hb).1, Nat.lt_of_lt_of_le (h.sin b hb).2.1 hs, (h.sin b hb).2.2⟩, h.lg, h.ap, Nat.le_trans h.size hs⟩
/-- More blocks that never change. -/
theorem DM.more {g0 : Nat} {S S' : Nat → Prop} {g cap : Nat} {E : List En} {wr : World} (h : DM g0 S g cap E wr) (hs : ∀ b, S b → S' b) (hi : ∀ b, S' b → g0 + 2 ≤ b ∧ b < wr.heap.size ∧ b ≠ g) (ho : ∀ e ∈ E, ∀ b, e.lv.ownBlock = some b → ¬ S' b) : DM g0 S' g cap E wr :=
  ⟨h.row, h.gx, h.ents.keep hs (fun _ _ => rfl) (fun e he b hb => ⟨rfl, ho e he b hb⟩), hi, h.lg, h.ap, h.size⟩
/-- One item more, behind the innermost block's. -/
theorem DM.push {g0 : Nat} {S : Nat → Prop} {g cap : Nat} {f : En} {R : List En} {wr w3 : World} {p : ItV} {v' : Value} (h : DM g0 S g cap (f :: R) wr)
    (hrow : RowK 41 6 w3 (g0 + 2) v' (f.l.map ItV.cells ++ [p.cells])) (hstk : RowK 46 7 w3 g0 (.slice (some ⟨g, 0, none⟩) (R.length + 1) cap) (stkV ({ f with l := f.l ++ [p], lv := v' } :: R)))
    (hk : ∀ b, b < wr.heap.size → b ≠ g → f.lv.ownBlock ≠ some b → w3.heap[b]? = wr.heap[b]?) (hs : wr.heap.size ≤ w3.heap.size) (hv : v'.ownBlock = f.lv.ownBlock ∨ ∃ b, v'.ownBlock = some b ∧ wr.heap.size ≤ b)
    (hw : WordsIs wr S p.wv p.x.words) (hkids : ItemsIs (5 - (R.length + 1)) wr S p.kv p.x.kids) : DM g0 S g cap ({ f with l := f.l ++ [p], lv := v' } :: R) w3 := by
  obtain ⟨_, gx, ents, sin, lg, ap, sz⟩ := h
  have hlt := ents.lt
  obtain ⟨e1, e2, e3, e4⟩ := ents
  have kS : ∀ b, S b → w3.heap[b]? = wr.heap[b]? := fun b hb => hk b (sin b hb).2.1 (sin b hb).2.2 (fun e => e2.out b e hb)
  have hgs : g < wr.heap.size := (‹RowK 46 7 wr g0 (.slice (some ⟨g, 0, none⟩) (f :: R).length cap) (stkV (f :: R))›.lt rfl).2
  have hvo : ∀ b, v'.ownBlock = some b → ¬ S b ∧ b ≠ g ∧ ∀ x ∈ R, x.lv.ownBlock ≠ some b := fun b hb => by
    rcases hv with e | ⟨b2, e, hb2⟩
    · rw [e] at hb
      refine ⟨e2.out b hb, fun e => lg f (List.mem_cons_self ..) (e ▸ hb), fun x hx => (List.pairwise_cons.mp ap).1 x hx b hb⟩
    · rw [e] at hb
      injection hb with hb
      subst hb
      exact ⟨fun hx => by have := (sin _ hx).2.1; omega, by omega, fun x hx e => by have := (hlt x (List.mem_cons_of_mem _ hx) _ e).2.1; omega⟩
  refine ⟨hstk, gx, ?_, fun b hb => ⟨(sin b hb).1, Nat.lt_of_lt_of_le (sin b hb).2.1 hs, (sin b hb).2.2⟩, ?_, ?_, Nat.le_trans sz hs⟩
  · refine ⟨e1.keep (fun _ h => h) kS, ?_, e3, ?_⟩
    · exact e2.push hrow (fun _ h => h) kS (hw.keep (fun _ h => h) kS) (ItemsIs.keep hkids (fun _ h => h) kS) (fun b hb => (hvo b hb).1)
    · exact e4.keep (fun _ h => h) kS (fun x hx b hb => ⟨hk b (hlt x (List.mem_cons_of_mem _ hx) b hb).2.1 (fun e => lg x (List.mem_cons_of_mem _ hx) (e ▸ hb)) (fun e => (List.pairwise_cons.mp ap).1 x hx b e hb), (hlt x (List.mem_cons_of_mem _ hx) b hb).2.2⟩)
  · intro x hx
    rcases List.mem_cons.mp hx with rfl | hx
    · exact fun e => (hvo g e).2.1 rfl
    · exact lg x (List.mem_cons_of_mem _ hx)
  · exact List.pairwise_cons.mpr ⟨fun x hx b hb => (hvo b hb).2.2 x hx, (List.pairwise_cons.mp ap).2⟩
/-- A block is opened. -/
theorem DM.open_ {g0 : Nat} {S : Nat → Prop} {g cap g' cap' : Nat} {E : List En} {wr w3 : World} {e : En} (h : DM g0 S g cap E wr) (hE : E.length ≤ 4) (hl : e.l = []) (hlv : e.lv = .slice none 0 0) (hbk : e.bk = true) (hw : WordsIs wr S e.wv e.h.words)
    (hstk : RowK 46 7 w3 g0 (.slice (some ⟨g', 0, none⟩) (E.length + 1) cap') (stkV (e :: E))) (hk : ∀ b, b < wr.heap.size → b ≠ g → w3.heap[b]? = wr.heap[b]?) (hs : wr.heap.size ≤ w3.heap.size) (hg : g' = g ∨ wr.heap.size ≤ g') : DM g0 S g' cap' (e :: E) w3 := by
  obtain ⟨_, gx, ents, sin, lg, ap, sz⟩ := h
  have hlt := ents.lt
  have kS : ∀ b, S b → w3.heap[b]? = wr.heap[b]? := fun b hb => hk b (sin b hb).2.1 (sin b hb).2.2
  refine ⟨hstk, (by rcases hg with e | e <;> omega), ?_, fun b hb => ⟨(sin b hb).1, Nat.lt_of_lt_of_le (sin b hb).2.1 hs, ?_⟩, ?_, ?_, Nat.le_trans sz hs⟩
  · have e5 : 5 - (e :: E).length + 1 = 5 - E.length := by simp only [List.length_cons]; omega
    refine ⟨hw.keep (fun _ h => h) kS, ?_, fun _ => hbk, ?_⟩
    · rw [hl, hlv]; exact ListIs.nil _ _ _ _
    · rw [e5]
      exact ents.keep (fun _ h => h) kS (fun x hx b hb => ⟨hk b (hlt x hx b hb).2.1 (fun e => lg x hx (e ▸ hb)), (hlt x hx b hb).2.2⟩)
  · have h2 := (sin b hb).2
    rcases hg with e | e
    · rw [e]; exact h2.2
    · omega
  · intro x hx
    rcases List.mem_cons.mp hx with rfl | hx
    · rw [hlv]; intro e; cases e
    · intro e
      rcases hg with e2 | e2
      · exact lg x hx (e2 ▸ e)
      · have := (hlt x hx g' e).2.1; omega
  · exact List.pairwise_cons.mpr ⟨(fun x _ b hb => by rw [hlv] at hb; cases hb), ap⟩
/-- The innermost block is ended: its list doesn't change any more. -/
theorem DM.drop {g0 : Nat} {S : Nat → Prop} {g cap : Nat} {e f : En} {R : List En} {wr : World} (h : DM g0 S g cap (e :: f :: R) wr) (hl : R.length + 2 ≤ 5) :
    DM g0 (fun b => S b ∨ e.lv.ownBlock = some b) g cap (f :: R) wr ∧ WordsIs wr (fun b => S b ∨ e.lv.ownBlock = some b) e.wv e.h.words ∧ ItemsIs (5 - (R.length + 1)) wr (fun b => S b ∨ e.lv.ownBlock = some b) e.lv (e.l.map ItV.x) ∧ e.bk = true := by
  obtain ⟨row, gx, ents, sin, lg, ap, sz⟩ := h
  have hlt := ents.lt
  obtain ⟨e1, e2, e3, e4⟩ := ents
  have e5 : 5 - (e :: f :: R).length + 1 = 5 - (f :: R).length := by simp only [List.length_cons]; omega
  rw [e5] at e4
  have e6 : 5 - (R.length + 1) = 5 - (e :: f :: R).length + 1 := by simp only [List.length_cons]; omega
  have ho : ∀ x ∈ f :: R, ∀ b, x.lv.ownBlock = some b → ¬ (S b ∨ e.lv.ownBlock = some b) := fun x hx b hb hh => by
    rcases hh with hh | hh
    · exact (hlt x (List.mem_cons_of_mem _ hx) b hb).2.2 hh
    · exact (List.pairwise_cons.mp ap).1 x hx b hh hb
  refine ⟨⟨?_, gx, e4.keep (fun b hb => Or.inl hb) (fun _ _ => rfl) (fun x hx b hb => ⟨rfl, ho x hx b hb⟩), fun b hb => ?_, fun x hx => lg x (List.mem_cons_of_mem _ hx), (List.pairwise_cons.mp ap).2, sz⟩, e1.keep (fun b hb => Or.inl hb) (fun _ _ => rfl), ?_, e3 (by simp)⟩
  · have := row.take (f :: R).length (by rw [stkV_len]; simp)
    rw [stkV_take] at this
    exact this
  · rcases hb with hb | hb
    · exact sin b hb
    · have := hlt e (List.mem_cons_self ..) b hb
      exact ⟨this.1, this.2.1, fun e7 => lg e (List.mem_cons_self ..) (e7 ▸ hb)⟩
  · rw [e6]
    exact e2.items (fun b hb => Or.inl hb) (fun b hb => Or.inr hb)
/-- The item's variable. -/
def XM (S : Nat → Prop) (xb : Nat) (o : Option Hd) (w : World) : Prop := match o with
  | none => ∃ x0 x1 x2 x3 x4 x5, Var6 w xb x0 x1 x2 x3 x4 x5
  | some hd => ∃ a n c, Var6 w xb (.string hd.name) (.slice a n c) (.bool false) (.slice none 0 0) (.int .i64 hd.a) (.int .i64 hd.b) ∧ WordsIs w S (.slice a n c) hd.words
theorem XM.keep {S S' : Nat → Prop} {xb : Nat} {o : Option Hd} {w w' : World} (h : XM S xb o w) (hs : ∀ b, S b → S' b) (hw : ∀ b, S b → w'.heap[b]? = w.heap[b]?) (hx : w'.heap[xb]? = w.heap[xb]?) (hz : w.heap.size ≤ w'.heap.size) : XM S' xb o w' := by
  cases o with
  | none => obtain ⟨x0, x1, x2, x3, x4, x5, h⟩ := h; exact ⟨x0, x1, x2, x3, x4, x5, h.stay hx hz⟩
  | some hd => obtain ⟨a, n, c, h, h2⟩ := h; exact ⟨a, n, c, h.stay hx hz, h2.keep hs hw⟩
theorem XM.lt {S : Nat → Prop} {xb : Nat} {o : Option Hd} {w : World} (h : XM S xb o w) : xb < w.heap.size := by
  cases o with
  | none => obtain ⟨x0, x1, x2, x3, x4, x5, h⟩ := h; exact h.s
  | some hd => obtain ⟨a, n, c, h, _⟩ := h; exact h.s
theorem XM.none' {S S' : Nat → Prop} {xb : Nat} {o : Option Hd} {w w' : World} (h : XM S xb o w) (hx : w'.heap[xb]? = w.heap[xb]?) (hz : w.heap.size ≤ w'.heap.size) : XM S' xb none w' := by
  cases o with
  | none => obtain ⟨x0, x1, x2, x3, x4, x5, h⟩ := h; exact ⟨x0, x1, x2, x3, x4, x5, h.stay hx hz⟩
  | some hd => obtain ⟨a, n, c, h, _⟩ := h; exact ⟨_, _, _, _, _, _, h.stay hx hz⟩
theorem info_open : (Tryz.prog.info? 46).map (fun i => (i.zero, i.size, i.bytes)) = some (some (.agg #[.string ⟨#[]⟩, .slice none 0 0, .bool false, .slice none 0 0, .int .i64 0, .int .i64 0, .slice none 0 0]), 7, 112) := by kernel_rfl

end Go.Proofs.YthfmllgflnideaaGreatDoor

/-
  An item more behind the innermost block's: what each operation has made of the memory.
-/
namespace Go.Proofs.YthfmllgflnideaaGreatDoor
open Go.RowKit

theorem last_set {vs : List (List Value)} {y : List Value} {j : Nat} {x : Value} : (vs ++ [y]).set vs.length (((vs ++ [y]).getD vs.length []).set j x) = vs ++ [y.set j x] := by
  have e : (vs ++ [y]).getD vs.length [] = y := by rw [List.getD_eq_getElem?_getD, List.getElem?_append_right (Nat.le_refl _), Nat.sub_self]; rfl
  rw [e, List.set_append_right _ _ (Nat.le_refl _), Nat.sub_self]; rfl
def zItem : List Value := [.string ⟨#[]⟩, .slice none 0 0, .bool false, .slice none 0 0, .int .i64 0, .int .i64 0]
/-- Six cells stored at a place. -/
def putAt (W : World) (g o : Nat) (y0 y1 y2 y3 y4 y5 : Value) : World := (((((W.setCell ⟨g, o, none⟩ y0).setCell ⟨g, o + 1, none⟩ y1).setCell ⟨g, o + 2, none⟩ y2).setCell ⟨g, o + 3, none⟩ y3).setCell ⟨g, o + 4, none⟩ y4).setCell ⟨g, o + 5, none⟩ y5
theorem putAt_size (W : World) (g o : Nat) (y0 y1 y2 y3 y4 y5 : Value) : (putAt W g o y0 y1 y2 y3 y4 y5).heap.size = W.heap.size := by
  unfold putAt
  simp
theorem putAt_else (W : World) (g o : Nat) (y0 y1 y2 y3 y4 y5 : Value) (j : Nat) (h : j ≠ g) : (putAt W g o y0 y1 y2 y3 y4 y5).heap[j]? = W.heap[j]? := by
  unfold putAt
  rw [sset_else _ _ _ _ _ h, sset_else _ _ _ _ _ h, sset_else _ _ _ _ _ h, sset_else _ _ _ _ _ h, sset_else _ _ _ _ _ h, sset_else _ _ _ _ _ h]
theorem RowK.fill6 {t : TypeId} {w : World} {base g n cap : Nat} {vs : List (List Value)} {y : List Value} (h : RowK t 6 w base (.slice (some ⟨g, 0, none⟩) n cap) (vs ++ [y])) (x0 x1 x2 x3 x4 x5 : Value)
    (h0 : x0.oneCell' = true) (h1 : x1.oneCell' = true) (h2 : x2.oneCell' = true) (h3 : x3.oneCell' = true) (h4 : x4.oneCell' = true) (h5 : x5.oneCell' = true) :
    RowK t 6 (putAt w g (vs.length * 6) x0 x1 x2 x3 x4 x5) base (.slice (some ⟨g, 0, none⟩) n cap) (vs ++ [[x0, x1, x2, x3, x4, x5]]) := by
  have hl : ∀ z : List Value, vs.length < (vs ++ [z]).length := fun z => by rw [List.length_append]; exact Nat.lt_succ_self _
  have hy : y.length = 6 := h.wid y (List.mem_append_right _ (List.mem_singleton.mpr rfl))
  have k0 := h.set vs.length 0 x0 (hl _) (by decide) h0
  rw [last_set] at k0
  have k1 := k0.set vs.length 1 x1 (hl _) (by decide) h1
  rw [last_set] at k1
  have k2 := k1.set vs.length 2 x2 (hl _) (by decide) h2
  rw [last_set] at k2
  have k3 := k2.set vs.length 3 x3 (hl _) (by decide) h3
  rw [last_set] at k3
  have k4 := k3.set vs.length 4 x4 (hl _) (by decide) h4
  rw [last_set] at k4
  have k5 := k4.set vs.length 5 x5 (hl _) (by decide) h5
  rw [last_set] at k5
  match y, hy with
  | [a0, a1, a2, a3, a4, a5], _ => exact k5
/-- The innermost block's slice of items is stored. -/
theorem stk_put {w : World} {lo g cap r : Nat} {f : En} {R : List En} {v : Value} (hr : R.length = r) (h : RowK 46 7 w lo (.slice (some ⟨g, 0, none⟩) (r + 1) cap) (stkV (f :: R))) (hv : v.oneCell' = true) : RowK 46 7 (w.setCell ⟨g, r * 7 + 6, none⟩ v) lo (.slice (some ⟨g, 0, none⟩) (r + 1) cap) (stkV ({ f with lv := v } :: R)) := by
  have k := h.set r 6 v (by rw [stkV_len, List.length_cons, hr]; exact Nat.lt_succ_self _) (by decide) hv
  have e : (stkV (f :: R)).set r (((stkV (f :: R)).getD r []).set 6 v) = stkV ({ f with lv := v } :: R) := by
    subst hr
    rw [stkV_top, stkV_set, stkV_cons]; rfl
  rw [e] at k
  exact k

/-- How the world stands by what has come up of 'stack[top].l = append(stack[top].l, x)'. -/
structure JP (A6 : World) (lo g cap r : Nat) (f : En) (R : List En) (x : List Value) (u : Nat → Value) (L : Nat → Bool) (W : World) : Prop where
  bel : Below lo A6 W
  early : L 8 = false → Below A6.heap.size A6 W ∧ L 9 = false ∧ L 10 = false ∧ L 13 = false ∧ (L 7 = true → ∃ gz, u 7 = .slice (some ⟨gz, 0, none⟩) 1 1 ∧ ∀ j, j < 6 → W.cell? ⟨gz, j, none⟩ = some (zItem.getD j undef))
  late : L 8 = true → (∀ i, i < 8 → L i = true) ∧ ∃ gl cl, u 8 = .slice (some ⟨gl, 0, none⟩) (f.l.length + 1) cl ∧ (f.lv.ownBlock = some gl ∨ A6.heap.size ≤ gl) ∧ gl ≠ g ∧ (L 9 = true → u 9 = .pointer (some ⟨gl, f.l.length * 6, none⟩)) ∧
    RowK 41 6 W (lo + 2) (.slice (some ⟨gl, 0, none⟩) (f.l.length + 1) cl) (f.l.map ItV.cells ++ [if L 10 = true then x else zItem]) ∧ RowK 46 7 W lo (.slice (some ⟨g, 0, none⟩) (r + 1) cap) (stkV ({ f with lv := if L 13 = true then .slice (some ⟨gl, 0, none⟩) (f.l.length + 1) cl else f.lv } :: R)) ∧
    (∀ b, b < A6.heap.size → b ≠ g → f.lv.ownBlock ≠ some b → W.heap[b]? = A6.heap[b]?) ∧ A6.heap.size ≤ W.heap.size
section
variable {A6 : World} {lo g cap r : Nat} {f : En} {R : List En} {x : List Value} {u : Nat → Value} {L : Nat → Bool} {W : World}
theorem upd_ne (u : Nat → Value) {j i : Nat} (v : Value) (h : i ≠ j) : upd u j v i = u i := by unfold upd; rw [if_neg h]
theorem upd_self (u : Nat → Value) (j : Nat) (v : Value) : upd u j v j = v := by unfold upd; rw [if_pos rfl]
theorem JP.start : JP A6 lo g cap r f R x u (fun _ => false) A6.drew := ⟨(Below.refl _ _).drew, fun _ => ⟨(Below.refl _ _).drew, rfl, rfl, rfl, fun h => by cases h⟩, fun h => by cases h⟩
theorem JP.ahead (h : JP A6 lo g cap r f R x u L W) {j : Nat} (hj : j < 8) (hL : L j = false) : L 8 = false ∧ Below A6.heap.size A6 W := by
  cases e : L 8 with
  | false => exact ⟨rfl, (h.early e).1⟩
  | true => have := (h.late e).1 j hj; rw [hL] at this; cases this
theorem JP.light (h : JP A6 lo g cap r f R x u L W) {j : Nat} (h7 : j ≠ 7) (h8 : j ≠ 8) (h9 : j ≠ 9) (h10 : j ≠ 10) (h13 : j ≠ 13) (v : Value) : JP A6 lo g cap r f R x (upd u j v) (setL L j) W := by
  have e : ∀ i, i ≠ j → setL L j i = L i := fun i hi => setL_ne L hi
  refine ⟨h.bel, fun q => ?_, fun q => ?_⟩
  · rw [e 8 h8.symm] at q
    rw [e 7 h7.symm, e 9 h9.symm, e 10 h10.symm, e 13 h13.symm, upd_ne u v h7.symm]; exact h.early q
  · rw [e 8 h8.symm] at q
    rw [e 9 h9.symm, e 10 h10.symm, e 13 h13.symm, upd_ne u v h8.symm, upd_ne u v h9.symm]
    refine ⟨fun i hi => ?_, (h.late q).2⟩
    by_cases hij : i = j
    · subst hij; exact setL_self L i
    · rw [e i hij]; exact (h.late q).1 i hi
theorem JP.made (hs : lo ≤ A6.heap.size) (h : JP A6 lo g cap r f R x u L W) (hL : L 7 = false) : JP A6 lo g cap r f R x (upd u 7 (.slice (some ⟨W.heap.size, 0, none⟩) 1 1)) (setL L 7) (W.alloc (.cells #[.string ⟨#[]⟩, .slice none 0 0, .bool false, .slice none 0 0, .int .i64 0, .int .i64 0] 41)) := by
  obtain ⟨q8, _⟩ := h.ahead (by decide : 7 < 8) hL
  obtain ⟨b, l9, l10, l13, _⟩ := h.early q8
  have hsz : lo ≤ W.heap.size := Nat.le_trans hs b.size
  have e : ∀ i, i ≠ 7 → setL L 7 i = L i := fun i hi => setL_ne L hi
  refine ⟨h.bel.trans (((Below.refl _ _).alloc (Nat.le_refl _) _).mono hsz), fun _ => ⟨b.trans (((Below.refl _ _).alloc (Nat.le_refl _) _).mono b.size), by rw [e 9 (by decide)]; exact l9, by rw [e 10 (by decide)]; exact l10, by rw [e 13 (by decide)]; exact l13, fun _ => ⟨W.heap.size, upd_self _ _ _, fun j hj => ?_⟩⟩, fun q => ?_⟩
  · have : j = 0 ∨ j = 1 ∨ j = 2 ∨ j = 3 ∨ j = 4 ∨ j = 5 := by omega
    rcases this with rfl | rfl | rfl | rfl | rfl | rfl <;> simp [zItem]
  · rw [e 8 (by decide), q8] at q; cases q
theorem JP.app {S : Nat → Prop} {W' : World} {v' : Value} (hd : DM lo S g cap (f :: R) A6) (hr : R.length = r) (h : JP A6 lo g cap r f R x u L W) (hL : L 8 = false) (hall : ∀ i, i < 8 → L i = true)
    (hrow : RowK 41 6 W' (lo + 2) v' (f.l.map ItV.cells ++ [zItem])) (ho : OnlyO (lo + 2) (fun i => some i = f.lv.ownBlock) W W') (hob : v'.ownBlock = f.lv.ownBlock ∨ v'.ownBlock = some W.heap.size) : JP A6 lo g cap r f R x (upd u 8 v') (setL L 8) W' := by
  obtain ⟨b, l9, l10, l13, _⟩ := h.early hL
  have e : ∀ i, i ≠ 8 → setL L 8 i = L i := fun i hi => setL_ne L hi
  have hlen : (f.l.map ItV.cells ++ [zItem]).length = f.l.length + 1 := by rw [List.length_append, List.length_map]; rfl
  obtain ⟨gl, cl, e8, _, _, _⟩ := hrow.form (by rw [hlen]; exact Nat.succ_pos _)
  rw [hlen] at e8
  subst e8
  change some gl = f.lv.ownBlock ∨ some gl = some W.heap.size at hob
  have hg := (hd.row.lt (b := g) rfl).2
  have hgl : gl ≠ g := by
    rcases hob with q | q
    · exact fun e => hd.lg f (List.mem_cons_self ..) (by rw [← q, e])
    · injection q with q; have := b.size; omega
  have hk : ∀ i, i < A6.heap.size → f.lv.ownBlock ≠ some i → W'.heap[i]? = A6.heap[i]? := fun i h1 h2 => (ho.keep i (Nat.lt_of_lt_of_le h1 b.size) (fun e => h2 e.symm)).trans (b.block i h1)
  refine ⟨h.bel.trans (ho.bel.mono (by omega)), fun q => ?_, fun _ => ⟨fun i hi => by rw [e i (by omega)]; exact hall i hi, gl, cl, upd_self _ _ _, ?_, hgl, fun q => ?_, ?_, ?_, fun i h1 _ h2 => hk i h1 h2, Nat.le_trans b.size ho.size⟩⟩
  · rw [setL_self] at q; cases q
  · rcases hob with q | q
    · exact Or.inl q.symm
    · injection q with q; exact Or.inr (by have := b.size; omega)
  · rw [e 9 (by decide), l9] at q; cases q
  · rw [e 10 (by decide), l10]; exact hrow
  · rw [e 13 (by decide), l13]
    have k := hd.row.kept (w' := W') (fun b2 hb2 => by simp only [Value.ownBlock, Option.some.injEq] at hb2; subst hb2; exact hk g hg (hd.lg f (List.mem_cons_self ..)))
    rw [List.length_cons, hr] at k
    exact k
theorem JP.ptr (h : JP A6 lo g cap r f R x u L W) (h8 : L 8 = true) {gl n cl : Nat} (hu : u 8 = .slice (some ⟨gl, 0, none⟩) n cl) : JP A6 lo g cap r f R x (upd u 9 (.pointer (some ⟨gl, f.l.length * 6, none⟩))) (setL L 9) W := by
  have e : ∀ i, i ≠ 9 → setL L 9 i = L i := fun i hi => setL_ne L hi
  refine ⟨h.bel, fun q => ?_, fun q => ?_⟩
  · rw [e 8 (by decide), h8] at q; cases q
  · obtain ⟨ha, g2, c2, e8, r1, r2, r3, r4, r5, r6, r7⟩ := h.late h8
    rw [hu] at e8
    simp only [Value.slice.injEq, Option.some.injEq, Addr.mk.injEq] at e8
    obtain ⟨⟨rfl, _⟩, rfl, rfl⟩ := e8
    rw [e 10 (by decide), e 13 (by decide), upd_ne u _ (by decide), hu]
    exact ⟨fun i hi => by rw [e i (by omega)]; exact ha i hi, _, _, rfl, r1, r2, fun _ => upd_self _ _ _, r4, r5, r6, r7⟩
theorem JP.item {x0 x1 x2 x3 x4 x5 : Value} (h : JP A6 lo g cap r f R [x0, x1, x2, x3, x4, x5] u L W) (h8 : L 8 = true) (h9 : L 9 = true) {gl : Nat} (hu : u 9 = .pointer (some ⟨gl, f.l.length * 6, none⟩)) (v : Value)
    (o0 : x0.oneCell' = true) (o1 : x1.oneCell' = true) (o2 : x2.oneCell' = true) (o3 : x3.oneCell' = true) (o4 : x4.oneCell' = true) (o5 : x5.oneCell' = true) : JP A6 lo g cap r f R [x0, x1, x2, x3, x4, x5] (upd u 10 v) (setL L 10) (putAt W gl (f.l.length * 6) x0 x1 x2 x3 x4 x5) := by
  have e : ∀ i, i ≠ 10 → setL L 10 i = L i := fun i hi => setL_ne L hi
  refine ⟨?_, fun q => ?_, fun q => ?_⟩
  · obtain ⟨_, g2, c2, _, _, _, r3, r4, _⟩ := h.late h8
    have e9 := r3 h9
    rw [hu] at e9
    simp only [Value.pointer.injEq, Option.some.injEq, Addr.mk.injEq] at e9
    obtain ⟨rfl, _⟩ := e9
    have hg : lo + 2 ≤ gl := (r4.lt rfl).1
    have hg2 : lo ≤ gl := by omega
    exact h.bel.trans ((((((((Below.refl _ _).setCell hg2 _).setCell hg2 _).setCell hg2 _).setCell hg2 _).setCell hg2 _).setCell hg2 _))
  · rw [e 8 (by decide), h8] at q; cases q
  · obtain ⟨ha, g2, c2, e8, r1, r2, r3, r4, r5, r6, r7⟩ := h.late h8
    have e9 := r3 h9
    rw [hu] at e9
    simp only [Value.pointer.injEq, Option.some.injEq, Addr.mk.injEq] at e9
    obtain ⟨rfl, _⟩ := e9
    rw [e 9 (by decide), e 13 (by decide), upd_ne u _ (by decide), upd_ne u _ (by decide), setL_self]
    refine ⟨fun i hi => by rw [e i (by omega)]; exact ha i hi, _, _, e8, r1, r2, r3, ?_, ?_, fun b h1 h2 h3 => ?_, by rw [putAt_size]; exact r7⟩
    · have k := RowK.fill6 r4 x0 x1 x2 x3 x4 x5 o0 o1 o2 o3 o4 o5
      rw [List.length_map] at k
      exact k
    · exact r5.kept (fun b hb => by simp only [Value.ownBlock, Option.some.injEq] at hb; subst hb; exact putAt_else _ _ _ _ _ _ _ _ _ _ (Ne.symm r2))
    · refine (putAt_else _ _ _ _ _ _ _ _ _ _ (fun q => ?_)).trans (r6 b h1 h2 h3)
      subst q
      rcases r1 with r1 | r1
      · exact h3 r1
      · omega
theorem JP.stk (hr : R.length = r) (h : JP A6 lo g cap r f R x u L W) (h8 : L 8 = true) {gl cl : Nat} (hu : u 8 = .slice (some ⟨gl, 0, none⟩) (f.l.length + 1) cl) (v : Value) : JP A6 lo g cap r f R x (upd u 13 v) (setL L 13) (W.setCell ⟨g, r * 7 + 6, none⟩ (.slice (some ⟨gl, 0, none⟩) (f.l.length + 1) cl)) := by
  have e : ∀ i, i ≠ 13 → setL L 13 i = L i := fun i hi => setL_ne L hi
  refine ⟨?_, fun q => ?_, fun q => ?_⟩
  · obtain ⟨_, _, _, _, _, _, _, _, r5, _⟩ := h.late h8
    have hg : lo ≤ g := (r5.lt rfl).1
    exact h.bel.setCell hg _
  · rw [e 8 (by decide), h8] at q; cases q
  · obtain ⟨ha, g2, c2, e8, r1, r2, r3, r4, r5, r6, r7⟩ := h.late h8
    rw [hu] at e8
    simp only [Value.slice.injEq, Option.some.injEq, Addr.mk.injEq] at e8
    obtain ⟨⟨rfl, _⟩, _, rfl⟩ := e8
    rw [e 9 (by decide), e 10 (by decide), upd_ne u _ (by decide), upd_ne u _ (by decide), setL_self, hu]
    refine ⟨fun i hi => by rw [e i (by omega)]; exact ha i hi, _, _, rfl, r1, r2, r3, ?_, ?_, fun b h1 h2 h3 => (sset_else _ _ _ _ _ h2).trans (r6 b h1 h2 h3), by simpa using r7⟩
    · exact r4.kept (fun b hb => by simp only [Value.ownBlock, Option.some.injEq] at hb; subst hb; exact sset_else _ _ _ _ _ r2)
    · have k := stk_put (v := .slice (some ⟨gl, 0, none⟩) (f.l.length + 1) cl) hr r5 rfl
      exact k
end

end Go.Proofs.YthfmllgflnideaaGreatDoor

/-
  An ended block behind the items of the block around it: what each operation has made of the memory.
-/
namespace Go.Proofs.YthfmllgflnideaaGreatDoor
open Go.RowKit

/-- How the world stands by what has come up of 'stack[top-1].l = append(stack[top-1].l, done)': kb makes the literal, ka appends. -/
structure JQ (A6 : World) (lo g : Nat) (f : En) (kb ka : Nat) (y : List Value) (u : Nat → Value) (L : Nat → Bool) (W : World) : Prop where
  bel : Below lo A6 W
  early : L ka = false → Below A6.heap.size A6 W ∧ (L kb = true → (kb = 10 → L 9 = true) ∧ ∃ gz, u kb = .slice (some ⟨gz, 0, none⟩) 1 1 ∧ ∀ j, j < 6 → W.cell? ⟨gz, j, none⟩ = some (y.getD j undef))
  late : L ka = true → (L 8 = true ∧ L 9 = true ∧ L kb = true) ∧ ∃ gl cl, u ka = .slice (some ⟨gl, 0, none⟩) (f.l.length + 1) cl ∧ (f.lv.ownBlock = some gl ∨ A6.heap.size ≤ gl) ∧ gl ≠ g ∧
    RowK 41 6 W (lo + 2) (.slice (some ⟨gl, 0, none⟩) (f.l.length + 1) cl) (f.l.map ItV.cells ++ [y]) ∧
    (∀ b, b < A6.heap.size → f.lv.ownBlock ≠ some b → W.heap[b]? = A6.heap[b]?) ∧ A6.heap.size ≤ W.heap.size
section
variable {A6 : World} {lo g : Nat} {f : En} {kb ka : Nat} {y : List Value} {u : Nat → Value} {L : Nat → Bool} {W : World}
theorem JQ.start : JQ A6 lo g f kb ka y u (fun _ => false) A6.drew := ⟨(Below.refl _ _).drew, fun _ => ⟨(Below.refl _ _).drew, fun h => by cases h⟩, fun h => by cases h⟩
theorem JQ.ahead (h : JQ A6 lo g f kb ka y u L W) {j : Nat} (hj : j = 8 ∨ j = 9 ∨ j = kb) (hL : L j = false) : L ka = false ∧ Below A6.heap.size A6 W := by
  cases e : L ka with
  | false => exact ⟨rfl, (h.early e).1⟩
  | true =>
    obtain ⟨h8, h9, hk⟩ := (h.late e).1
    rcases hj with rfl | rfl | rfl
    · rw [hL] at h8; cases h8
    · rw [hL] at h9; cases h9
    · rw [hL] at hk; cases hk
theorem setL_keep (L : Nat → Bool) (j i : Nat) (h : L i = true) : setL L j i = true := by
  by_cases e : i = j
  · subst e; exact setL_self L i
  · rw [setL_ne L e]; exact h
theorem JQ.light (h : JQ A6 lo g f kb ka y u L W) {j : Nat} (h7 : j ≠ kb) (h8 : j ≠ ka) (v : Value) : JQ A6 lo g f kb ka y (upd u j v) (setL L j) W := by
  have e : ∀ i, i ≠ j → setL L j i = L i := fun i hi => setL_ne L hi
  refine ⟨h.bel, fun q => ?_, fun q => ?_⟩
  · rw [e ka h8.symm] at q
    rw [e kb h7.symm, upd_ne u v h7.symm]
    exact ⟨(h.early q).1, fun k => ⟨fun e10 => setL_keep _ _ _ (((h.early q).2 k).1 e10), ((h.early q).2 k).2⟩⟩
  · rw [e ka h8.symm] at q
    rw [upd_ne u v h8.symm]
    exact ⟨⟨setL_keep _ _ _ (h.late q).1.1, setL_keep _ _ _ (h.late q).1.2.1, setL_keep _ _ _ (h.late q).1.2.2⟩, (h.late q).2⟩
theorem JQ.made {x0 x1 x2 x3 x4 x5 : Value} (hs : lo ≤ A6.heap.size) (hk : kb ≠ ka) (h : JQ A6 lo g f kb ka [x0, x1, x2, x3, x4, x5] u L W) (hL : L kb = false) (h9 : kb = 10 → L 9 = true) : JQ A6 lo g f kb ka [x0, x1, x2, x3, x4, x5] (upd u kb (.slice (some ⟨W.heap.size, 0, none⟩) 1 1)) (setL L kb) (W.alloc (.cells #[x0, x1, x2, x3, x4, x5] 41)) := by
  obtain ⟨q8, b⟩ := h.ahead (Or.inr (Or.inr rfl)) hL
  have hsz : lo ≤ W.heap.size := Nat.le_trans hs b.size
  have e : ∀ i, i ≠ kb → setL L kb i = L i := fun i hi => setL_ne L hi
  refine ⟨h.bel.trans (((Below.refl _ _).alloc (Nat.le_refl _) _).mono hsz), fun _ => ⟨b.trans (((Below.refl _ _).alloc (Nat.le_refl _) _).mono b.size), fun _ => ⟨fun e10 => setL_keep _ _ _ (h9 e10), W.heap.size, upd_self _ _ _, fun j hj => ?_⟩⟩, fun q => ?_⟩
  · have : j = 0 ∨ j = 1 ∨ j = 2 ∨ j = 3 ∨ j = 4 ∨ j = 5 := by omega
    rcases this with rfl | rfl | rfl | rfl | rfl | rfl <;> simp
  · rw [e ka hk.symm, q8] at q; cases q
theorem JQ.app {S : Nat → Prop} {cap : Nat} {R : List En} {W' : World} {v' : Value} (hd : DM lo S g cap (f :: R) A6) (h : JQ A6 lo g f kb ka y u L W) (hL : L ka = false) (h8 : L 8 = true) (h9 : L 9 = true) (hb : L kb = true)
    (hrow : RowK 41 6 W' (lo + 2) v' (f.l.map ItV.cells ++ [y])) (ho : OnlyO (lo + 2) (fun i => some i = f.lv.ownBlock) W W') (hob : v'.ownBlock = f.lv.ownBlock ∨ v'.ownBlock = some W.heap.size) : JQ A6 lo g f kb ka y (upd u ka v') (setL L ka) W' := by
  obtain ⟨b, _⟩ := h.early hL
  have hlen : (f.l.map ItV.cells ++ [y]).length = f.l.length + 1 := by rw [List.length_append, List.length_map]; rfl
  obtain ⟨gl, cl, e8, _, _, _⟩ := hrow.form (by rw [hlen]; exact Nat.succ_pos _)
  rw [hlen] at e8
  subst e8
  change some gl = f.lv.ownBlock ∨ some gl = some W.heap.size at hob
  have hg := (hd.row.lt (b := g) rfl).2
  have hgl : gl ≠ g := by
    rcases hob with q | q
    · exact fun e => hd.lg f (List.mem_cons_self ..) (by rw [← q, e])
    · injection q with q; have := b.size; omega
  have hk : ∀ i, i < A6.heap.size → f.lv.ownBlock ≠ some i → W'.heap[i]? = A6.heap[i]? := fun i h1 h2 => (ho.keep i (Nat.lt_of_lt_of_le h1 b.size) (fun e => h2 e.symm)).trans (b.block i h1)
  refine ⟨h.bel.trans (ho.bel.mono (by omega)), fun q => ?_, fun _ => ⟨⟨setL_keep _ _ _ h8, setL_keep _ _ _ h9, setL_keep _ _ _ hb⟩, gl, cl, upd_self _ _ _, ?_, hgl, hrow, fun i h1 h2 => hk i h1 h2, Nat.le_trans b.size ho.size⟩⟩
  · rw [setL_self] at q; cases q
  · rcases hob with q | q
    · exact Or.inl q.symm
    · injection q with q; exact Or.inr (by have := b.size; omega)
end
/-- Values by number, but for the literal and what has been appended to. -/
def TQ (kb ka : Nat) (l : List Value) : Nat → Value → World → Prop := fun k v _ => (k ≠ kb ∧ k ≠ ka) → v = l.getD k undef
/-- The end: the innermost block's slice is stored; the item, too, if it hasn't been. -/
theorem DM.push_q {lo g cap m gl kl : Nat} {S : Nat → Prop} {q : En} {R : List En} {A W : World} {p : ItV} (h : DM lo S g cap (q :: R) A) (hm : R.length = m) (hb : Below lo A W)
    (q1 : q.lv.ownBlock = some gl ∨ A.heap.size ≤ gl) (q2 : gl ≠ g) (r4 : RowK 41 6 W (lo + 2) (.slice (some ⟨gl, 0, none⟩) (q.l.length + 1) kl) (q.l.map ItV.cells ++ [p.cells]))
    (r6 : ∀ b, b < A.heap.size → q.lv.ownBlock ≠ some b → W.heap[b]? = A.heap[b]?) (r7 : A.heap.size ≤ W.heap.size) (hw : WordsIs A S p.wv p.x.words) (hk : ItemsIs (5 - (m + 1)) A S p.kv p.x.kids) :
    DM lo S g cap ({ q with l := q.l ++ [p], lv := .slice (some ⟨gl, 0, none⟩) (q.l.length + 1) kl } :: R) (W.setCell ⟨g, m * 7 + 6, none⟩ (.slice (some ⟨gl, 0, none⟩) (q.l.length + 1) kl)) ∧
    (W.setCell ⟨g, m * 7 + 6, none⟩ (.slice (some ⟨gl, 0, none⟩) (q.l.length + 1) kl)).heap[lo + 1]? = A.heap[lo + 1]? ∧ Below lo A (W.setCell ⟨g, m * 7 + 6, none⟩ (.slice (some ⟨gl, 0, none⟩) (q.l.length + 1) kl)) := by
  have hgl := h.row.lt (b := g) rfl
  have hlt := h.ents.lt q (List.mem_cons_self ..)
  have r5 : RowK 46 7 W lo (.slice (some ⟨g, 0, none⟩) (m + 1) cap) (stkV (q :: R)) := by
    have k := h.row.kept (w' := W) (fun b hb => by simp only [Value.ownBlock, Option.some.injEq] at hb; subst hb; exact r6 g hgl.2 (h.lg q (List.mem_cons_self ..)))
    rw [List.length_cons, hm] at k; exact k
  have hsz : A.heap.size ≤ (W.setCell ⟨g, m * 7 + 6, none⟩ (.slice (some ⟨gl, 0, none⟩) (q.l.length + 1) kl)).heap.size := by simpa using r7
  refine ⟨?_, (sset_else _ _ _ _ _ (Ne.symm h.gx)).trans (r6 _ (by have := h.size; omega) (fun e => by have := (hlt _ e).1; omega)), hb.setCell hgl.1 _⟩
  subst hm
  refine h.push (p := p) (r4.kept (fun b hb => by simp only [Value.ownBlock, Option.some.injEq] at hb; subst hb; exact sset_else _ _ _ _ _ q2)) ?_ (fun b h1 h2 h3 => (sset_else _ _ _ _ _ h2).trans (r6 b h1 h3)) hsz ?_ hw hk
  · have k := stk_put (v := .slice (some ⟨gl, 0, none⟩) (q.l.length + 1) kl) rfl r5 rfl
    rw [stkV_cons] at k ⊢; exact k
  · rcases q1 with e | e
    · exact Or.inl e.symm
    · exact Or.inr ⟨gl, rfl, e⟩
theorem DM.push_z {lo g cap m gl kl : Nat} {S : Nat → Prop} {q : En} {R : List En} {A W : World} {x : It} {wv kv : Value} (h : DM lo S g cap (q :: R) A) (hm : R.length = m) (hb : Below lo A W)
    (q1 : q.lv.ownBlock = some gl ∨ A.heap.size ≤ gl) (q2 : gl ≠ g) (r4 : RowK 41 6 W (lo + 2) (.slice (some ⟨gl, 0, none⟩) (q.l.length + 1) kl) (q.l.map ItV.cells ++ [zItem]))
    (r6 : ∀ b, b < A.heap.size → q.lv.ownBlock ≠ some b → W.heap[b]? = A.heap[b]?) (r7 : A.heap.size ≤ W.heap.size) (hw : WordsIs A S wv x.words) (hk : ItemsIs (5 - (m + 1)) A S kv x.kids) (o1 : wv.oneCell' = true) (o3 : kv.oneCell' = true) :
    DM lo S g cap ({ q with l := q.l ++ [⟨x, wv, kv⟩], lv := .slice (some ⟨gl, 0, none⟩) (q.l.length + 1) kl } :: R) (putAt (W.setCell ⟨g, m * 7 + 6, none⟩ (.slice (some ⟨gl, 0, none⟩) (q.l.length + 1) kl)) gl (q.l.length * 6) (.string x.name) wv (.bool x.block) kv (.int .i64 x.a) (.int .i64 x.b)) ∧
    (putAt (W.setCell ⟨g, m * 7 + 6, none⟩ (.slice (some ⟨gl, 0, none⟩) (q.l.length + 1) kl)) gl (q.l.length * 6) (.string x.name) wv (.bool x.block) kv (.int .i64 x.a) (.int .i64 x.b)).heap[lo + 1]? = A.heap[lo + 1]? ∧
    Below lo A (putAt (W.setCell ⟨g, m * 7 + 6, none⟩ (.slice (some ⟨gl, 0, none⟩) (q.l.length + 1) kl)) gl (q.l.length * 6) (.string x.name) wv (.bool x.block) kv (.int .i64 x.a) (.int .i64 x.b)) := by
  have hgl := h.row.lt (b := g) rfl
  have hlt := h.ents.lt q (List.mem_cons_self ..)
  have hg2 : lo + 2 ≤ gl := (r4.lt rfl).1
  have hg3 : lo ≤ gl := by omega
  have r5 : RowK 46 7 W lo (.slice (some ⟨g, 0, none⟩) (m + 1) cap) (stkV (q :: R)) := by
    have k := h.row.kept (w' := W) (fun b hb => by simp only [Value.ownBlock, Option.some.injEq] at hb; subst hb; exact r6 g hgl.2 (h.lg q (List.mem_cons_self ..)))
    rw [List.length_cons, hm] at k; exact k
  have hsz : A.heap.size ≤ (putAt (W.setCell ⟨g, m * 7 + 6, none⟩ (.slice (some ⟨gl, 0, none⟩) (q.l.length + 1) kl)) gl (q.l.length * 6) (.string x.name) wv (.bool x.block) kv (.int .i64 x.a) (.int .i64 x.b)).heap.size := by rw [putAt_size]; simpa using r7
  have hb2 : Below lo A (W.setCell ⟨g, m * 7 + 6, none⟩ (.slice (some ⟨gl, 0, none⟩) (q.l.length + 1) kl)) := hb.setCell hgl.1 _
  have k4 := r4.kept (w' := W.setCell ⟨g, m * 7 + 6, none⟩ (.slice (some ⟨gl, 0, none⟩) (q.l.length + 1) kl)) (fun b hb => by simp only [Value.ownBlock, Option.some.injEq] at hb; subst hb; exact sset_else _ _ _ _ _ q2)
  have k4 := RowK.fill6 k4 (.string x.name) wv (.bool x.block) kv (.int .i64 x.a) (.int .i64 x.b) rfl o1 rfl o3 rfl rfl
  rw [List.length_map] at k4
  have hgo : ∀ b, b < A.heap.size → q.lv.ownBlock ≠ some b → b ≠ gl := fun b h1 h2 e => by
    subst e
    rcases q1 with q1 | q1
    · exact h2 q1
    · omega
  refine ⟨?_, ((putAt_else _ _ _ _ _ _ _ _ _ _ (by omega)).trans (sset_else _ _ _ _ _ (Ne.symm h.gx))).trans (r6 _ (by have := h.size; omega) (fun e => by have := (hlt _ e).1; omega)), (((((hb2.setCell hg3 _).setCell hg3 _).setCell hg3 _).setCell hg3 _).setCell hg3 _).setCell hg3 _⟩
  subst hm
  refine h.push (p := ⟨x, wv, kv⟩) k4 ?_ (fun b h1 h2 h3 => ((putAt_else _ _ _ _ _ _ _ _ _ _ (hgo b h1 h3)).trans (sset_else _ _ _ _ _ h2)).trans (r6 b h1 h3)) hsz ?_ hw hk
  · have k := stk_put (v := .slice (some ⟨gl, 0, none⟩) (q.l.length + 1) kl) rfl r5 rfl
    have k := k.kept (w' := putAt (W.setCell ⟨g, R.length * 7 + 6, none⟩ (.slice (some ⟨gl, 0, none⟩) (q.l.length + 1) kl)) gl (q.l.length * 6) (.string x.name) wv (.bool x.block) kv (.int .i64 x.a) (.int .i64 x.b)) (fun b hb => by simp only [Value.ownBlock, Option.some.injEq] at hb; subst hb; exact putAt_else _ _ _ _ _ _ _ _ _ _ (Ne.symm q2))
    rw [stkV_cons] at k ⊢; exact k
  · rcases q1 with e | e
    · exact Or.inl e.symm
    · exact Or.inr ⟨gl, rfl, e⟩
/-- The stack, cut back. -/
theorem stack_to (g N cap k : Nat) (hk : k ≤ cap) : ∀ W : World, (Instr.slice 47 (.slice (some ⟨g, 0, none⟩) N cap) none (some (.int .i64 (k : Int))) none).run Tryz.prog W = .ok (.slice (some ⟨g, 0, none⟩) k cap) W := fun W => by
  have hs : ∀ W : World, (sizeOf (Tryz.prog.elem 47)).run Tryz.prog W = .ok 7 W := fun W => by kernel_rfl
  have := run_slice_h (P := Tryz.prog) W 47 (some ⟨g, 0, none⟩) N cap (by kernel_rfl) .i64 (k : Int) (by omega) (by omega)
  rw [this, hs]
  simp only [Result.andThen, Int.toNat_natCast, sliced]
  simp [Addr.add]

end Go.Proofs.YthfmllgflnideaaGreatDoor
