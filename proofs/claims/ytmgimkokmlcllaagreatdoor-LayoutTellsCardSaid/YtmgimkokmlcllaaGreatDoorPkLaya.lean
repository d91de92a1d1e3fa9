/-
  Trees written out: the print of a right tree, letter by letter; which tokens it is: plain.
-/
import Derived.Test.YtmgimkokmlcllaaGreatDoorPkScnLG
import Derived.Test.YtmgimkokmlcllaaGreatDoorPkTrea
import Derived.Test.YtmgimkokmlcllaaGreatDoorPkTxtp
import Derived.Test.YtmgimkokmlcllaaGreatDoorPkTrev
namespace Go.Proofs.YtmgimkokmlcllaaGreatDoor

/-- A word that may stand behind a name. -/
structure WordR (t : Tk3) : Prop where
  lo : 1 ≤ t.k
  hi : t.k ≤ 6
  right : RightT t.k t.s t.n
/-- Whether each item is right by itself. -/
def EachR : List It → Prop
  | [] => True
  | .mk n w k kids _ _ :: l => NameL (runesOf (nums n)) ∧ w.length ≤ 6 ∧ (k = true ∨ kids = []) ∧ (∀ t ∈ w, WordR t) ∧ EachR kids ∧ EachR l
/-- Numbers of 64 bits. -/
def NumsR : List It → Prop
  | [] => True
  | .mk _ w _ kids _ _ :: l => (∀ t ∈ w, 0 ≤ t.n ∧ t.n ≤ 18446744073709551615) ∧ NumsR kids ∧ NumsR l
/-- A right tree. -/
structure RightL (L : List It) : Prop where
  deep : depL L ≤ 4
  many : cntL L ≤ 300
  each : EachR L

/-- Blanks ahead of a line of a depth. -/
def indP (d : Nat) : List Int := List.replicate (2 * (d - 1)) 32
/-- Words, each with a blank ahead. -/
def wordsP (w : List Tk3) : List Int := w.flatMap fun t => 32 :: prT t.k t.s t.n.toNat
/-- What is printed of items of a depth. -/
def prtL : Nat → List It → List Int
  | _, [] => []
  | d, .mk n w k kids _ _ :: l => indP d ++ (nums n ++ (wordsP w ++ (if k then [32, 123, 10] ++ (prtL (d + 1) kids ++ (indP d ++ [125, 10])) else [59, 10]))) ++ prtL d l
/-- By runes. -/
def wordsU (w : List Tk3) : List Int := w.flatMap fun t => 32 :: runesOf (prT t.k t.s t.n.toNat)
def prtU : Nat → List It → List Int
  | _, [] => []
  | d, .mk n w k kids _ _ :: l => indP d ++ (runesOf (nums n) ++ (wordsU w ++ (if k then [32, 123, 10] ++ (prtU (d + 1) kids ++ (indP d ++ [125, 10])) else [59, 10]))) ++ prtU d l
/-- Letters that are these runes, whatever follows. -/
def Runs (a u : List Int) : Prop := ∀ ys : List Int, runesOf (a ++ ys) = u ++ runesOf ys
theorem nat_n {t : Tk3} (h : 0 ≤ t.n) : ((t.n.toNat : Nat) : Int) = t.n := by omega
/-- Runes that are these tokens, with so much behind. -/
def Eats (a R : List Int) (T : List Tk3) : Prop := ∀ (l : List Int) (i : Nat), l.drop i = a ++ R → ∃ M : List (TkV × Nat), M.map (fun x => tkB x.1) = T ∧ tokF l i = (tokF l (i + a.length)).map (fun N => M ++ N)
end Go.Proofs.YtmgimkokmlcllaaGreatDoor

/-
  What is printed of a right tree is parsed as it was, but for places: plain.
-/
namespace Go.Proofs.YtmgimkokmlcllaaGreatDoor

/-- Words that may stand there, kids within blocks alone. -/
def ShapeR : List It → Prop
  | [] => True
  | .mk _ w k kids _ _ :: l => w.length ≤ 6 ∧ (k = true ∨ kids = []) ∧ (∀ t ∈ w, 1 ≤ t.k ∧ t.k ≤ 6) ∧ ShapeR kids ∧ ShapeR l
theorem EachR.shape : ∀ {L : List It}, EachR L → ShapeR L
  | [], _ => by simp [ShapeR]
  | .mk n w k kids a b :: l, h => by
    rw [EachR] at h
    rw [ShapeR]
    exact ⟨h.2.1, h.2.2.1, fun t ht => ⟨(h.2.2.2.1 t ht).lo, (h.2.2.2.1 t ht).hi⟩, EachR.shape h.2.2.2.2.1, EachR.shape h.2.2.2.2.2⟩
end Go.Proofs.YtmgimkokmlcllaaGreatDoor

/-
  What is parsed is a right tree: plain.
-/
namespace Go.Proofs.YtmgimkokmlcllaaGreatDoor

/-- A token that is right. -/
structure TkRight (t : TkV) : Prop where
  right : RightT (t.kind : Int) (strOfNums t.text) (t.n : Int)
  n9 : t.n ≤ 18446744073709551615
/-- What a quoted text's reader has so far are runes. -/
def QOk : Qs → Prop
  | .norm xs => ∀ r ∈ xs, RuneOk r
  | .esc xs => ∀ r ∈ xs, RuneOk r
  | .uni xs => ∀ r ∈ xs, RuneOk r
  | .hex xs _ x => (∀ r ∈ xs, RuneOk r) ∧ 0 ≤ x
  | .done xs => ∀ r ∈ xs, RuneOk r
  | .start => True
  | .dead => True
theorem qok_snoc {xs : List Int} {r : Int} (h : ∀ r ∈ xs, RuneOk r) (hr : RuneOk r) : ∀ y ∈ xs ++ [r], RuneOk y := fun y hy => by
  rcases List.mem_append.mp hy with hy | hy
  · exact h y hy
  · rw [List.mem_singleton.mp hy]; exact hr
theorem qok_step {u : Qs} (h : QOk u) {r : Int} (hr : r = -1 ∨ RuneOk r) : QOk (ustep u r) := by
  rcases hr with rfl | hr
  · rw [ustep_low u (by decide)]; trivial
  cases u with
  | start =>
    unfold ustep; simp only
    split
    · intro y hy; cases hy
    · trivial
  | norm xs =>
    unfold ustep; simp only
    split
    · exact h
    split
    · trivial
    split
    · exact h
    · exact qok_snoc h hr
  | esc xs =>
    unfold ustep; simp only
    split
    · exact qok_snoc h hr
    split
    · exact qok_snoc h ⟨by decide, by decide, by decide⟩
    split
    · exact qok_snoc h ⟨by decide, by decide, by decide⟩
    split
    · exact h
    · trivial
  | uni xs =>
    unfold ustep; simp only
    split
    · exact ⟨h, by decide⟩
    · trivial
  | hex xs k x =>
    unfold ustep; simp only
    split
    · rename_i hx; exact ⟨h.1, by have := h.2; omega⟩
    split
    · rename_i hx; exact qok_snoc h.1 ⟨h.2, hx.2.2.1, hx.2.2.2⟩
    · trivial
  | done xs => trivial
  | dead => trivial
theorem qok_fold : ∀ (l : List Int) (u : Qs), QOk u → RunesOk l → QOk (l.foldl ustep u)
  | [], _, h, _ => h
  | r :: l, _, h, hl => qok_fold l _ (qok_step h (hl r (List.mem_cons_self ..))) (fun x hx => hl x (List.mem_cons_of_mem _ hx))
theorem quoted_right {p : List Int} (hp : RunesOk p) (h : (unqF p).2 = 0) : TkRight ⟨2, (unqF p).1, 0⟩ := by
  have hq : QOk (uf p) := qok_fold p .start trivial hp
  unfold unqF at h ⊢
  cases hu : uf p with
  | done xs =>
    rw [hu] at h hq
    simp only at h ⊢
    split
    · rename_i hx; rw [if_pos hx] at h; cases h
    · rename_i hx
      have hr := runes_encs hq
      refine ⟨?_, Nat.zero_le _⟩
      unfold RightT
      refine Or.inr (Or.inl ⟨rfl, ?_⟩)
      simp only
      rw [nums_strOfNums _ (encs_byte hq), hr]
      exact ⟨fun i hi => (hq _ (getD_mem hi)).1, by omega, rfl⟩
  | start => rw [hu] at h; cases h
  | norm xs => rw [hu] at h; cases h
  | esc xs => rw [hu] at h; cases h
  | uni xs => rw [hu] at h; cases h
  | hex xs k x => rw [hu] at h; cases h
  | dead => rw [hu] at h; cases h
theorem numT_right {k : Nat} {p : Nat × Int} (h : (numT k p).2 = 0) (hk : (k = 3 ∨ k = 4 ∨ (k = 5 ∧ p.1 ≤ 1000000) ∨ (k = 6 ∧ p.1 ≤ 253402300799))) (hb : p.1 ≤ 18446744073709551615) : TkRight (numT k p).1 := by
  unfold numT at h ⊢
  split
  · refine ⟨?_, hb⟩
    unfold RightT
    simp only
    have e : strOfNums [] = ⟨#[]⟩ := rfl
    rw [e]
    rcases hk with rfl | rfl | ⟨rfl, h2⟩ | ⟨rfl, h2⟩
    · exact Or.inr (Or.inr (Or.inl ⟨Or.inl rfl, rfl⟩))
    · exact Or.inr (Or.inr (Or.inl ⟨Or.inr rfl, rfl⟩))
    · exact Or.inr (Or.inr (Or.inr (Or.inl ⟨rfl, rfl, by omega⟩)))
    · exact Or.inr (Or.inr (Or.inr (Or.inr (Or.inl ⟨rfl, rfl, by omega⟩))))
  · rename_i hn; rw [if_neg hn] at h; exact (hn h).elim
theorem facF_bd (A B : List Int) : (facF A B).1 ≤ 18446744073709551615 := by
  by_cases h : AllD B ∧ B.length ≤ 3
  · by_cases he : (numF A).2 = 0
    · by_cases hb : (18446744073709551615 - t3 B) / 1000 < (numF A).1
      · rw [facF_big h he hb]; exact Nat.zero_le _
      · rw [facF_fine h he hb]
        have h3 : t3 B < 10 ^ 3 := by
          rw [t3_is]
          exact snum_room (fun i hi => spad_dig h.1 i hi) 3 (by rw [spad_len h.2]; exact Nat.le_refl _)
        simp only
        omega
    · rw [facF_err h he]; exact Nat.zero_le _
  · rw [facF_word h]; exact Nat.zero_le _
theorem valF_right {l : List Int} (hl : RunesOk l) (h : (valF l).2 = 0) : TkRight (valF l).1 := by
  by_cases h1 : l = [] ∨ digitB (l.getD 0 0) = false
  · by_cases hn : NameL l
    · rw [valF_name h1 hn]
      refine ⟨?_, Nat.zero_le _⟩
      unfold RightT
      refine Or.inl ⟨rfl, ?_, rfl⟩
      simp only
      rw [nums_strOfNums _ (textR_byte hl.bd), runes_text hl]
      exact hn
    · rw [valF_none h1 hn] at h; cases h
  by_cases h2 : AllD (textR l)
  · rw [valF_count h1 h2] at h ⊢; exact numT_right h (Or.inl rfl) (numF_bd _)
  by_cases h3 : (textR l).getD ((textR l).length - 1) 0 = 37
  · rw [valF_share h1 h2 h3] at h ⊢
    have := share_bd (textR l)
    exact numT_right h (Or.inr (Or.inr (Or.inl ⟨rfl, this⟩))) (by omega)
  by_cases h4 : 46 ∈ textR l
  · rw [valF_factor h1 h2 h3 h4] at h ⊢; exact numT_right h (Or.inr (Or.inl rfl)) (facF_bd _ _)
  · rw [valF_span h1 h2 h3 h4] at h ⊢
    have := span_bd (textR l)
    exact numT_right h (Or.inr (Or.inr (Or.inr ⟨rfl, this⟩))) (by omega)
theorem mark_right {k : Nat} (h : k = 7 ∨ k = 8 ∨ k = 9) : TkRight ⟨k, [], 0⟩ := by
  refine ⟨?_, Nat.zero_le _⟩
  unfold RightT
  have e : strOfNums [] = ⟨#[]⟩ := rfl
  simp only
  rw [e]
  refine Or.inr (Or.inr (Or.inr (Or.inr (Or.inr ⟨?_, rfl, rfl⟩))))
  omega
theorem tokP_right {p : List Int} (hp : RunesOk p) (h : (tokP p).2 = 0) : TkRight (tokP p).1 := by
  unfold tokP at h ⊢
  split
  · exact mark_right (by decide)
  split
  · exact mark_right (by decide)
  split
  · exact mark_right (by decide)
  split
  · rename_i a b c d
    rw [if_neg a, if_neg b, if_neg c, if_pos d] at h
    split
    · rename_i hq; exact quoted_right hp hq
    · rename_i hn; rw [if_neg hn] at h; exact (hn h).elim
  · rename_i a b c d
    rw [if_neg a, if_neg b, if_neg c, if_neg d] at h
    exact valF_right hp h
theorem tokF_right {l : List Int} (hl : RunesOk l) : ∀ (n i : Nat) (L : List (TkV × Nat)), l.length - i ≤ n → tokF l i = .ok L → ∀ x ∈ L, TkRight x.1
  | n, i, L, hn, h => by
    by_cases hi : i < l.length
    · match n, hn with
      | 0, hn => omega
      | n + 1, hn =>
        have hb := pieceN_bd (m := l.drop i) (by rw [List.length_drop]; omega)
        rcases tokF_one_step hi with ⟨_, e⟩ | ⟨_, _, e⟩
        · rw [e] at h
          exact tokF_right hl n _ L (by omega) h
        · rw [e] at h
          by_cases hc : (tokP ((l.drop i).take (pieceN (l.drop i)))).2 = 0
          · rw [if_pos hc] at h
            cases hr : tokF l (i + pieceN (l.drop i)) with
            | error x => rw [hr] at h; cases h
            | ok L2 =>
              rw [hr] at h
              have el : L = ((tokP ((l.drop i).take (pieceN (l.drop i)))).1, i) :: L2 := by injection h with h; exact h.symm
              intro x hx
              rw [el] at hx
              rcases List.mem_cons.mp hx with rfl | hx
              · exact tokP_right (fun z hz => hl z (List.mem_of_mem_drop (List.mem_of_mem_take hz))) hc
              · exact tokF_right hl n _ L2 (by omega) hr x hx
          · rw [if_neg hc] at h; cases h
    · rw [tokF_end (by omega)] at h
      injection h with h
      subst h
      intro x hx; cases hx

/-- Tokens that are right, with whatever places. -/
def T3R (t : Tk3) : Prop := RightT t.k t.s t.n ∧ 0 ≤ t.n ∧ t.n ≤ 18446744073709551615
theorem tk3_right {l : List Int} {x : TkV × Nat} (h : TkRight x.1) : T3R (tk3 l x) := ⟨h.right, by show 0 ≤ (x.1.n : Int); omega, by have := h.n9; show (x.1.n : Int) ≤ _; omega⟩
/-- A head so far. -/
def HdR (h : Hd) : Prop := NameL (runesOf (nums h.name)) ∧ h.words.length ≤ 6 ∧ (∀ t ∈ h.words, WordR t) ∧ ∀ t ∈ h.words, 0 ≤ t.n ∧ t.n ≤ 18446744073709551615
/-- Right items, of whatever depth. -/
def ItsR (L : List It) : Prop := EachR L ∧ NumsR L
theorem itsR_app : ∀ {l m : List It}, ItsR l → ItsR m → ItsR (l ++ m)
  | [], _, _, h => h
  | .mk n w k kids a b :: l, m, h1, h2 => by
    obtain ⟨e1, n1⟩ := h1
    rw [EachR] at e1
    rw [NumsR] at n1
    have := itsR_app (l := l) (m := m) ⟨e1.2.2.2.2.2, n1.2.2⟩ h2
    refine ⟨?_, ?_⟩
    · rw [List.cons_append, EachR]
      exact ⟨e1.1, e1.2.1, e1.2.2.1, e1.2.2.2.1, e1.2.2.2.2.1, this.1⟩
    · rw [List.cons_append, NumsR]
      exact ⟨n1.1, n1.2.1, this.2⟩
theorem itsR_nil : ItsR [] := ⟨by simp [EachR], by simp [NumsR]⟩
theorem itsR_one {h : Hd} {k : Bool} {l : List It} (hh : HdR h) (hl : ItsR l) (hk : k = true ∨ l = []) : ItsR [h.it k l] := by
  refine ⟨?_, ?_⟩
  · rw [Hd.it, EachR]
    exact ⟨hh.1, hh.2.1, hk, hh.2.2.1, hl.1, by simp [EachR]⟩
  · rw [Hd.it, NumsR]
    exact ⟨hh.2.2.2, hl.2, by simp [NumsR]⟩
theorem trF_right : ∀ (T : List Tk3) (st : List (Hd × List It)) (n : Nat) (o : Option Hd) (I : List It), (∀ t ∈ T, T3R t) → (∀ y ∈ st, ItsR y.2) → (∀ y ∈ st.dropLast, HdR y.1) → st ≠ [] → (∀ h, o = some h → HdR h) → trF T st n o = .ok I → ItsR I
  | [], st, n, o, I, _, _, _, _, _, h => by
    rw [trF] at h
    injection h with h
    rw [← h]; exact itsR_nil
  | t :: T, st, n, some hd, I, hT, hs, hq, hne, ho, h => by
    have hw := ho hd rfl
    have ht := hT t (List.mem_cons_self ..)
    have hT2 : ∀ t ∈ T, T3R t := fun x hx => hT x (List.mem_cons_of_mem _ hx)
    have hdl : ∀ (x : It) (st : List (Hd × List It)), (∀ y ∈ st.dropLast, HdR y.1) → ∀ y ∈ (pushS x st).dropLast, HdR y.1 := fun x st hq y hy => by
      match st with
      | [] => cases hy
      | [(h, l)] => simp [pushS] at hy
      | (h, l) :: z :: st' =>
        simp only [pushS, List.dropLast_cons_cons, List.mem_cons] at hy hq
        rcases hy with rfl | hy
        · exact hq (h, l) (Or.inl rfl)
        · exact hq y (Or.inr hy)
    rw [trF] at h
    split at h
    · exact trF_right T _ _ _ I hT2 (fun y hy => by
        cases st with
        | nil => cases hy
        | cons z st =>
          obtain ⟨h1, l⟩ := z
          rcases List.mem_cons.mp hy with rfl | hy
          · exact itsR_app (hs (h1, l) (List.mem_cons_self ..)) (itsR_one hw itsR_nil (Or.inr rfl))
          · exact hs y (List.mem_cons_of_mem _ hy)) (hdl _ st hq) (push_ne _ hne) (fun _ e => by cases e) h
    split at h
    · refine trF_right T _ _ _ I hT2 (fun y hy => ?_) (fun y hy => ?_) (by simp) (fun _ e => by cases e) h
      · rcases List.mem_cons.mp hy with rfl | hy
        · exact itsR_nil
        · exact hs y hy
      · cases st with
        | nil => exact (hne rfl).elim
        | cons z st =>
          rw [List.dropLast_cons_cons] at hy
          rcases List.mem_cons.mp hy with rfl | hy
          · exact hw
          · exact hq y hy
    split at h
    · cases h
    rename_i hk
    split at h
    · cases h
    rename_i hl
    refine trF_right T _ _ _ I hT2 hs hq hne (fun x e => ?_) h
    injection e with e
    subst e
    refine ⟨hw.1, ?_, fun y hy => ?_, fun y hy => ?_⟩
    · simp only [List.length_append, List.length_cons, List.length_nil]; omega
    · rcases List.mem_append.mp hy with hy | hy
      · exact hw.2.2.1 y hy
      · rw [List.mem_singleton.mp hy]; exact ⟨by omega, by omega, ht.1⟩
    · rcases List.mem_append.mp hy with hy | hy
      · exact hw.2.2.2 y hy
      · rw [List.mem_singleton.mp hy]; exact ht.2
  | t :: T, st, n, none, I, hT, hs, hq, hne, ho, h => by
    have ht := hT t (List.mem_cons_self ..)
    have hT2 : ∀ t ∈ T, T3R t := fun x hx => hT x (List.mem_cons_of_mem _ hx)
    rw [trF] at h
    split at h
    · rename_i h8
      match st, hs, hq, h8, h with
      | (hd, l) :: (h2, l2) :: st', hs, hq, h8, h =>
        have hh : HdR hd := hq (hd, l) (by simp)
        have hl := hs (hd, l) (List.mem_cons_self ..)
        refine trF_right T _ _ _ I hT2 (fun y hy => ?_) (fun y hy => ?_) (push_ne _ (by simp)) (fun _ e => by cases e) (show trF T (pushS (hd.it true l) ((h2, l2) :: st')) n none = .ok I from h)
        · have hy2 : y ∈ (h2, l2 ++ [hd.it true l]) :: st' := hy
          rcases List.mem_cons.mp hy2 with rfl | hy2
          · exact itsR_app (hs (h2, l2) (by simp)) (itsR_one hh hl (Or.inl rfl))
          · exact hs y (by simp [hy2])
        · have hy2 : y ∈ ((h2, l2 ++ [hd.it true l]) :: st').dropLast := hy
          cases st' with
          | nil => simp at hy2
          | cons z st'' =>
            rw [List.dropLast_cons_cons] at hy2
            rcases List.mem_cons.mp hy2 with rfl | hy2
            · exact hq (h2, l2) (by simp)
            · exact hq y (by simp only [List.dropLast_cons_cons, List.mem_cons]; exact Or.inr (Or.inr hy2))
      | [_], _, _, h8, _ => exact absurd h8.2 (by simp)
      | [], _, _, h8, _ => exact absurd h8.2 (by simp)
    split at h
    · rename_i h1
      injection h with h
      subst h
      match st, hs, h1 with
      | [(h0, M)], hs, _ => exact hs (h0, M) (by simp)
      | [], _, h1 => exact absurd h1.2 (by simp)
      | _ :: _ :: _, _, h1 => exact absurd h1.2 (by simp)
    split at h
    · cases h
    rename_i hk
    split at h
    · cases h
    split at h
    · cases h
    refine trF_right T _ _ _ I hT2 hs hq hne (fun x e => ?_) h
    injection e with e
    subst e
    have hk1 : t.k = 1 := by omega
    have hr := ht.1
    unfold RightT at hr
    refine ⟨?_, by simp, by simp, by simp⟩
    rcases hr with ⟨_, hr, _⟩ | ⟨h1, _⟩ | ⟨h1, _⟩ | ⟨h1, _⟩ | ⟨h1, _⟩ | ⟨h1, _⟩
    · exact hr
    all_goals omega
/-- A source's items are a right tree. -/
theorem tre_right {l : List Int} (hl : RunesOk l) {I : List It} (h : treF l = .ok I) : RightL I ∧ NumsR I := by
  obtain ⟨L, hL, ht⟩ := treF_toks h
  obtain ⟨h1, h2⟩ := tre_few h
  have hT : ∀ t ∈ L.map (tk3 l) ++ [tk3 l (tk0, l.length)], T3R t := fun t ht => by
    rcases List.mem_append.mp ht with ht | ht
    · obtain ⟨x, hx, rfl⟩ := List.mem_map.mp ht
      exact tk3_right (tokF_right hl _ _ L (Nat.le_refl _) hL x hx)
    · rw [List.mem_singleton.mp ht]
      refine tk3_right ⟨?_, Nat.zero_le _⟩
      unfold RightT
      exact Or.inr (Or.inr (Or.inr (Or.inr (Or.inr ⟨Or.inl rfl, rfl, rfl⟩))))
  have := trF_right _ _ _ _ I hT (fun y hy => by rw [List.mem_singleton.mp hy]; exact itsR_nil) (by simp) (by simp) (fun _ e => by cases e) ht
  exact ⟨⟨h2, h1, this.1⟩, this.2⟩

end Go.Proofs.YtmgimkokmlcllaaGreatDoor
