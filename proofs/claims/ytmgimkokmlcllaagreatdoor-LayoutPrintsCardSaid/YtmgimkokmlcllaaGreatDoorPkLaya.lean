/-
  Trees written out: the print of a right tree, letter by letter; which tokens it is: plain.
-/
import Derived.Test.YtmgimkokmlcllaaGreatDoorPkScnLG
import Derived.Test.YtmgimkokmlcllaaGreatDoorPkTrea
import Derived.Test.YtmgimkokmlcllaaGreatDoorPkTxtp
import Derived.Test.YtmgimkokmlcllaaGreatDoorPkTrev
namespace Go.Proofs.YtmgimkokmlcllaaGreatDoor

structure WordR (t : Tk3) : Prop where
  lo : 1 ≤ t.k
  hi : t.k ≤ 6
  right : RightT t.k t.s t.n
def EachR : List It → Prop
  | [] => True
  | .mk n w k kids _ _ :: l => NameL (runesOf (nums n)) ∧ w.length ≤ 6 ∧ (k = true ∨ kids = []) ∧ (∀ t ∈ w, WordR t) ∧ EachR kids ∧ EachR l
def NumsR : List It → Prop
  | [] => True
  | .mk _ w _ kids _ _ :: l => (∀ t ∈ w, 0 ≤ t.n ∧ t.n ≤ 18446744073709551615) ∧ NumsR kids ∧ NumsR l
structure RightL (L : List It) : Prop where
  deep : depL L ≤ 4
  many : cntL L ≤ 300
  each : EachR L

def indP (d : Nat) : List Int := List.replicate (2 * (d - 1)) 32
def wordsP (w : List Tk3) : List Int := w.flatMap fun t => 32 :: prT t.k t.s t.n.toNat
def prtL : Nat → List It → List Int
  | _, [] => []
  | d, .mk n w k kids _ _ :: l => indP d ++ (nums n ++ (wordsP w ++ (if k then [32, 123, 10] ++ (prtL (d + 1) kids ++ (indP d ++ [125, 10])) else [59, 10]))) ++ prtL d l
def wordsU (w : List Tk3) : List Int := w.flatMap fun t => 32 :: runesOf (prT t.k t.s t.n.toNat)
def prtU : Nat → List It → List Int
  | _, [] => []
  | d, .mk n w k kids _ _ :: l => indP d ++ (runesOf (nums n) ++ (wordsU w ++ (if k then [32, 123, 10] ++ (prtU (d + 1) kids ++ (indP d ++ [125, 10])) else [59, 10]))) ++ prtU d l
theorem prtL_app (d : Nat) (l m : List It) : prtL d (l ++ m) = prtL d l ++ prtL d m := by
  induction l with
  | nil => simp [prtL]
  | cons x l ih => obtain ⟨n, w, k, kids, a, b⟩ := x; simp only [List.cons_append, prtL, ih, List.append_assoc]

def Runs (a u : List Int) : Prop := ∀ ys : List Int, runesOf (a ++ ys) = u ++ runesOf ys
theorem Runs.app {a b u v : List Int} (h : Runs a u) (g : Runs b v) : Runs (a ++ b) (u ++ v) := fun ys => by
  rw [List.append_assoc, h, g, List.append_assoc]
theorem Runs.nil : Runs [] [] := fun _ => rfl
theorem Runs.ascii {a : List Int} (h : ∀ z ∈ a, 0 ≤ z ∧ z < 128) : Runs a a := fun ys => runes_ascii a h ys
theorem Runs.print {k : Int} {s : ByteArray} {n : Nat} (h : RightT k s (n : Int)) : Runs (prT k s n) (runesOf (prT k s n)) := fun ys => runes_good_app (print_byte h) (print_good h) ys
theorem ind_ascii (d : Nat) : ∀ z ∈ indP d, 0 ≤ z ∧ z < 128 := fun z hz => by
  have := List.eq_of_mem_replicate hz; omega
theorem name_right {n : ByteArray} (h : NameL (runesOf (nums n))) : RightT 1 n ((0 : Nat) : Int) := by unfold RightT; exact Or.inl ⟨rfl, h, rfl⟩
theorem nat_n {t : Tk3} (h : 0 ≤ t.n) : ((t.n.toNat : Nat) : Int) = t.n := by omega
theorem words_runs : ∀ {w : List Tk3}, (∀ t ∈ w, WordR t) → (∀ t ∈ w, 0 ≤ t.n ∧ t.n ≤ 18446744073709551615) → Runs (wordsP w) (wordsU w)
  | [], _, _ => Runs.nil
  | t :: w, h, hn => by
    have h1 := h t (List.mem_cons_self ..)
    have n1 := hn t (List.mem_cons_self ..)
    have hr : RightT t.k t.s (t.n.toNat : Int) := by rw [nat_n n1.1]; exact h1.right
    have e1 : wordsP (t :: w) = [32] ++ (prT t.k t.s t.n.toNat ++ wordsP w) := by simp [wordsP]
    have e2 : wordsU (t :: w) = [32] ++ (runesOf (prT t.k t.s t.n.toNat) ++ wordsU w) := by simp [wordsU]
    rw [e1, e2]
    exact (Runs.ascii (by decide)).app ((Runs.print hr).app (words_runs (fun x hx => h x (List.mem_cons_of_mem _ hx)) (fun x hx => hn x (List.mem_cons_of_mem _ hx))))
theorem prt_runs : ∀ (L : List It) (d : Nat), EachR L → NumsR L → Runs (prtL d L) (prtU d L)
  | [], _, _, _ => by rw [prtL, prtU]; exact Runs.nil
  | .mk n w k kids a b :: l, d, h, hn => by
    rw [EachR] at h
    rw [NumsR] at hn
    obtain ⟨h1, _, _, h4, h5, h6⟩ := h
    obtain ⟨n1, n2, n3⟩ := hn
    have hname : Runs (nums n) (runesOf (nums n)) := Runs.print (name_right h1)
    have ih1 := prt_runs kids (d + 1) h5 n2
    have ih2 := prt_runs l d h6 n3
    rw [prtL, prtU]
    refine Runs.app ((Runs.ascii (ind_ascii d)).app (hname.app ((words_runs h4 n1).app ?_))) ih2
    cases k with
    | true =>
      simp only [if_true]
      exact (Runs.ascii (by decide)).app (ih1.app ((Runs.ascii (ind_ascii d)).app (Runs.ascii (by decide))))
    | false =>
      simp only [Bool.false_eq_true, if_false]
      exact Runs.ascii (by decide)

def Eats (a R : List Int) (T : List Tk3) : Prop := ∀ (l : List Int) (i : Nat), l.drop i = a ++ R → ∃ M : List (TkV × Nat), M.map (fun x => tkB x.1) = T ∧ tokF l i = (tokF l (i + a.length)).map (fun N => M ++ N)
theorem Eats.nil (R : List Int) : Eats [] R [] := fun l i _ => ⟨[], rfl, by
  show tokF l i = (tokF l i).map (fun N => N)
  cases tokF l i <;> rfl⟩
theorem Eats.app {a b R : List Int} {T U : List Tk3} (h : Eats a (b ++ R) T) (g : Eats b R U) : Eats (a ++ b) R (T ++ U) := fun l i e => by
  rw [List.append_assoc] at e
  obtain ⟨M, hM, h1⟩ := h l i e
  have e2 : l.drop (i + a.length) = b ++ R := by
    have : l.drop (i + a.length) = (l.drop i).drop a.length := by rw [List.drop_drop]
    rw [this, e]; simp
  obtain ⟨N, hN, h2⟩ := g l (i + a.length) e2
  refine ⟨M ++ N, by rw [List.map_append, hM, hN], ?_⟩
  rw [h1, h2, List.length_append, Nat.add_assoc]
  cases tokF l (i + (a.length + b.length)) with
  | error x => rfl
  | ok Q => show Except.ok (M ++ (N ++ Q)) = Except.ok (M ++ N ++ Q); rw [List.append_assoc]
theorem Eats.blank {z : Int} (R : List Int) (hz : gapB z = true) : Eats [z] R [] := fun l i e => ⟨[], rfl, by
  rw [tokF_blank (z := z) (R := R) e hz]
  show tokF l (i + 1) = (tokF l (i + 1)).map (fun N => N)
  cases tokF l (i + 1) <;> rfl⟩
theorem Eats.read {pr R : List Int} {t : TkV} (h : ReadsAs pr t) (hR : EndG R) : Eats pr R [tkB t] := fun l i e => ⟨[(t, i)], rfl, by
  rw [tokF_reads e h hR]; rfl⟩
theorem Eats.blanks (R : List Int) : ∀ n : Nat, Eats (List.replicate n 32) R []
  | 0 => Eats.nil R
  | n + 1 => by
    rw [List.replicate_succ]
    exact Eats.app (a := [32]) (T := []) (U := []) (Eats.blank _ (by decide)) (Eats.blanks R n)
theorem word_reads {t : Tk3} (h : WordR t) (hn : 0 ≤ t.n ∧ t.n ≤ 18446744073709551615) : ∃ v : TkV, ReadsAs (runesOf (prT t.k t.s t.n.toNat)) v ∧ tkB v = t.bare := by
  have hr : RightT t.k t.s (t.n.toNat : Int) := by rw [nat_n hn.1]; exact h.right
  refine ⟨_, reads_right hr (by omega) (by have := h.lo; omega), ?_⟩
  have h1 := h.lo
  unfold tkB Tk3.bare
  rw [text_back hr]
  have e1 : ((t.k.toNat : Nat) : Int) = t.k := by omega
  have e2 := nat_n hn.1
  simp only [e1, e2]
theorem name_reads {n : ByteArray} (h : NameL (runesOf (nums n))) : ∃ v : TkV, ReadsAs (runesOf (nums n)) v ∧ tkB v = { k := 1, s := n } := by
  refine ⟨_, reads_right (name_right h) (by omega) (by decide), ?_⟩
  unfold tkB
  rw [text_back (name_right h)]
  rfl
theorem mark_reads {c : Int} {k : Nat} (h : (c = 123 ∧ k = 7) ∨ (c = 125 ∧ k = 8) ∨ (c = 59 ∧ k = 9)) (R : List Int) (hR : EndG R) : Eats [c] R [{ k := (k : Int) }] := Eats.read (reads_mark h) hR
theorem endG_ten (R : List Int) : EndG (10 :: R) := endG_gap (by decide)
theorem endG_blank (R : List Int) : EndG (32 :: R) := endG_gap (by decide)
theorem words_eats : ∀ {w : List Tk3} {R : List Int}, EndG R → (∀ t ∈ w, WordR t) → (∀ t ∈ w, 0 ≤ t.n ∧ t.n ≤ 18446744073709551615) → Eats (wordsU w) R (w.map Tk3.bare) ∧ EndG (wordsU w ++ R)
  | [], R, hR, _, _ => ⟨Eats.nil R, hR⟩
  | t :: w, R, hR, h, hn => by
    obtain ⟨v, hv, hb⟩ := word_reads (h t (List.mem_cons_self ..)) (hn t (List.mem_cons_self ..))
    obtain ⟨ih, hE⟩ := words_eats hR (fun x hx => h x (List.mem_cons_of_mem _ hx)) (fun x hx => hn x (List.mem_cons_of_mem _ hx))
    have e2 : wordsU (t :: w) = [32] ++ (runesOf (prT t.k t.s t.n.toNat) ++ wordsU w) := by simp [wordsU]
    have e3 : (t :: w).map Tk3.bare = [] ++ ([tkB v] ++ w.map Tk3.bare) := by rw [hb]; rfl
    refine ⟨?_, by rw [e2]; exact endG_blank _⟩
    rw [e2, e3]
    exact (Eats.blank _ (by decide)).app ((Eats.read hv hE).app ih)
theorem prt_eats : ∀ (L : List It) (d : Nat) (R : List Int), EachR L → NumsR L → Eats (prtU d L) R (toksL (bareL L))
  | [], _, R, _, _ => by rw [prtU, bareL, toksL]; exact Eats.nil R
  | .mk n w k kids a b :: l, d, R, h, hn => by
    rw [EachR] at h
    rw [NumsR] at hn
    obtain ⟨h1, _, h3, h4, h5, h6⟩ := h
    obtain ⟨n1, n2, n3⟩ := hn
    obtain ⟨v, hv, hb⟩ := name_reads h1
    have ih2 := prt_eats l d R h6 n3
    rw [prtU, bareL, toksL]
    refine Eats.app ?_ ih2
    cases k with
    | true =>
      simp only [if_true]
      have ih1 := prt_eats kids (d + 1) ((indP d ++ [125, 10]) ++ (prtU d l ++ R)) h5 n2
      have hm2 := (mark_reads (c := 125) (k := 8) (by decide) ([10] ++ (prtU d l ++ R)) (endG_ten _)).app (Eats.blank (z := 10) (prtU d l ++ R) (by decide))
      have h7 := (Eats.blanks (([125] ++ [10]) ++ (prtU d l ++ R)) (2 * (d - 1))).app hm2
      have hk := ih1.app h7
      have hm1 := (Eats.blank (z := 32) (([123] ++ [10]) ++ (prtU (d + 1) kids ++ (indP d ++ [125, 10]) ++ (prtU d l ++ R))) (by decide)).app ((mark_reads (c := 123) (k := 7) (by decide) ([10] ++ (prtU (d + 1) kids ++ (indP d ++ [125, 10]) ++ (prtU d l ++ R))) (endG_ten _)).app (Eats.blank (z := 10) (prtU (d + 1) kids ++ (indP d ++ [125, 10]) ++ (prtU d l ++ R)) (by decide)))
      have hb2 : Eats ([32, 123, 10] ++ (prtU (d + 1) kids ++ (indP d ++ [125, 10]))) (prtU d l ++ R) ([] ++ ([{ k := ((7 : Nat) : Int) }] ++ []) ++ (toksL (bareL kids) ++ ([] ++ ([{ k := ((8 : Nat) : Int) }] ++ [])))) := hm1.app hk
      obtain ⟨hw, hE⟩ := words_eats (w := w) (R := ([32, 123, 10] ++ (prtU (d + 1) kids ++ (indP d ++ [125, 10]))) ++ (prtU d l ++ R)) (endG_blank _) h4 n1
      have hx := (Eats.blanks _ (2 * (d - 1))).app ((Eats.read hv (by rw [List.append_assoc]; exact hE)).app (hw.app hb2))
      have e : [] ++ ([tkB v] ++ (w.map Tk3.bare ++ ([] ++ ([{ k := ((7 : Nat) : Int) }] ++ []) ++ (toksL (bareL kids) ++ ([] ++ ([{ k := ((8 : Nat) : Int) }] ++ [])))))) = ({ k := 1, s := n, a := 0, b := 0 } :: (w.map Tk3.bare ++ { k := 7 } :: (toksL (bareL kids) ++ [{ k := 8 }])) : List Tk3) := by
        rw [hb]; simp
      rw [e] at hx
      simpa [indP] using hx
    | false =>
      simp only [Bool.false_eq_true, if_false]
      have hm := (mark_reads (c := 59) (k := 9) (by decide) ([10] ++ (prtU d l ++ R)) (endG_ten _)).app (Eats.blank (z := 10) (prtU d l ++ R) (by decide))
      obtain ⟨hw, hE⟩ := words_eats (w := w) (R := ([59] ++ [10]) ++ (prtU d l ++ R)) (endG_gap (by decide)) h4 n1
      have hx := (Eats.blanks _ (2 * (d - 1))).app ((Eats.read hv (by rw [List.append_assoc]; exact hE)).app (hw.app hm))
      have e : [] ++ ([tkB v] ++ (w.map Tk3.bare ++ ([{ k := ((9 : Nat) : Int) }] ++ []))) = ({ k := 1, s := n, a := 0, b := 0 } :: (w.map Tk3.bare ++ [{ k := 9 }]) : List Tk3) := by
        rw [hb]; simp
      rw [e] at hx
      simpa [indP] using hx

end Go.Proofs.YtmgimkokmlcllaaGreatDoor

/-
  What is printed of a right tree is parsed as it was, but for places: plain.
-/
namespace Go.Proofs.YtmgimkokmlcllaaGreatDoor

def ShapeR : List It → Prop
  | [] => True
  | .mk _ w k kids _ _ :: l => w.length ≤ 6 ∧ (k = true ∨ kids = []) ∧ (∀ t ∈ w, 1 ≤ t.k ∧ t.k ≤ 6) ∧ ShapeR kids ∧ ShapeR l
theorem EachR.shape : ∀ {L : List It}, EachR L → ShapeR L
  | [], _ => by simp [ShapeR]
  | .mk n w k kids a b :: l, h => by
    rw [EachR] at h
    rw [ShapeR]
    exact ⟨h.2.1, h.2.2.1, fun t ht => ⟨(h.2.2.2.1 t ht).lo, (h.2.2.2.1 t ht).hi⟩, EachR.shape h.2.2.2.2.1, EachR.shape h.2.2.2.2.2⟩
theorem ShapeR.bare : ∀ {L : List It}, ShapeR L → ShapeR (bareL L)
  | [], _ => by simp [bareL, ShapeR]
  | .mk n w k kids a b :: l, h => by
    rw [ShapeR] at h
    rw [bareL, ShapeR]
    refine ⟨by rw [List.length_map]; exact h.1, h.2.1.imp id (fun e => by rw [e, bareL]), fun t ht => ?_, ShapeR.bare h.2.2.2.1, ShapeR.bare h.2.2.2.2⟩
    obtain ⟨x, hx, rfl⟩ := List.mem_map.mp ht
    exact h.2.2.1 x hx
theorem trF_words (T : List Tk3) (st : List (Hd × List It)) (n : Nat) : ∀ (w : List Tk3) (hd : Hd), hd.words.length + w.length ≤ 6 → (∀ t ∈ w, 1 ≤ t.k ∧ t.k ≤ 6) → trF (w ++ T) st n (some hd) = trF T st n (some { hd with words := hd.words ++ w })
  | [], hd, _, _ => by rw [List.nil_append, List.append_nil]
  | t :: w, hd, hl, hk => by
    have h1 := hk t (List.mem_cons_self ..)
    simp only [List.length_cons] at hl
    rw [List.cons_append, trF, if_neg (by omega), if_neg (by omega), if_neg (by omega), if_neg (by omega), trF_words T st n w { hd with words := hd.words ++ [t] } (by simp only [List.length_append, List.length_cons, List.length_nil]; omega) (fun x hx => hk x (List.mem_cons_of_mem _ hx))]
    simp
theorem trF_tree : ∀ (L : List It) (T : List Tk3) (h : Hd) (l : List It) (R : List (Hd × List It)) (n : Nat), ShapeR L → R.length + depL L ≤ 4 → n + cntL L ≤ 300 →
    trF (toksL L ++ T) ((h, l) :: R) n none = trF T ((h, l ++ L) :: R) (n + cntL L) none
  | [], T, h, l, R, n, _, _, _ => by simp [toksL, cntL]
  | .mk nm w k kids a b :: L, T, h, l, R, n, hs, hd, hn => by
    rw [ShapeR] at hs
    obtain ⟨h1, h2, h3, h4, h5⟩ := hs
    rw [depL] at hd
    rw [cntL] at hn
    have ih2 := fun l' n' (hn' : n' + cntL L ≤ 300) => trF_tree L T h l' R n' h5 (by omega) hn'
    rw [toksL, cntL, List.cons_append, List.cons_append, trF, if_neg (by simp), if_neg (by simp), if_neg (by simp), if_neg (by simp only [List.length_cons]; omega), if_neg (by omega)]
    rw [List.append_assoc, List.append_assoc, trF_words _ _ _ w _ (by simpa using h1) h3]
    cases k with
    | true =>
      have ih1 := trF_tree kids ({ k := 8 } :: (toksL L ++ T)) { name := nm, words := [] ++ w, a := a, b := b } [] ((h, l) :: R) (n + 1) h4 (by simp only [List.length_cons]; omega) (by omega)
      simp only [if_true, List.cons_append, List.append_assoc, List.nil_append]
      simp only [List.nil_append] at ih1
      rw [trF, if_neg (by decide), if_pos (by decide), ih1, trF, if_pos ⟨rfl, by simp⟩]
      show trF (toksL L ++ T) (pushS _ ((h, l) :: R)) _ none = _
      rw [pushS, ih2 _ _ (by omega)]
      simp only [Hd.it, List.append_assoc, List.singleton_append]
      have e : n + 1 + cntL kids + cntL L = n + (1 + cntL kids + cntL L) := by omega
      rw [e]
    | false =>
      have hk : kids = [] := h2.resolve_left (by simp)
      subst hk
      simp only [Bool.false_eq_true, if_false, List.cons_append, List.nil_append]
      rw [trF, if_pos rfl, pushS, ih2 _ _ (by rw [cntL] at hn; omega)]
      simp only [Hd.it, List.append_assoc, List.singleton_append, cntL]
      have e : n + 1 + cntL L = n + (1 + 0 + cntL L) := by omega
      rw [e]

theorem prt_parsed {L : List It} (hr : RightL L) (hn : NumsR L) : ∃ M, treF (prtU 1 L) = .ok M ∧ bareL M = bareL L := by
  obtain ⟨M, hM, ht⟩ := prt_eats L 1 [] hr.each hn (prtU 1 L) 0 (by simp)
  have he : tokF (prtU 1 L) (0 + (prtU 1 L).length) = .ok [] := tokF_none (by simp)
  rw [he] at ht
  have ht2 : tokF (prtU 1 L) 0 = .ok M := by
    rw [ht]; show Except.ok (M ++ []) = _; rw [List.append_nil]
  have hb := tre_bare ht2
  rw [hM] at hb
  have hs := hr.each.shape.bare
  have h1 := trF_tree (bareL L) [tkB tk0] {} [] [] 0 hs (by rw [depL_bare]; have := hr.deep; simp; omega) (by rw [cntL_bare]; have := hr.many; omega)
  rw [h1] at hb
  have h2 : ∀ (X : List It) (n : Nat), trF [tkB tk0] [(({} : Hd), X)] n none = .ok X := fun X n => rfl
  rw [h2, List.nil_append] at hb
  obtain ⟨J, hJ, hb2⟩ := bareE_ok hb.symm
  exact ⟨J, hJ, hb2.symm⟩
theorem prt_treT {L : List It} (hr : RightL L) (hn : NumsR L) {s : ByteArray} (hs : nums s = prtL 1 L) : ∃ M, treF (runesOf (nums s)) = .ok M ∧ bareL M = bareL L := by
  have h := prt_runs L 1 hr.each hn []
  rw [List.append_nil] at h
  have e : runesOf [] = ([] : List Int) := runes_nil
  rw [e, List.append_nil] at h
  rw [hs, h]
  exact prt_parsed hr hn
theorem WordR.bare {t : Tk3} (h : WordR t) : WordR t.bare := ⟨h.lo, h.hi, h.right⟩
theorem WordR.unbare {t : Tk3} (h : WordR t.bare) : WordR t := ⟨h.lo, h.hi, h.right⟩
theorem eachR_bare : ∀ (L : List It), EachR (bareL L) ↔ EachR L
  | [] => by simp [bareL]
  | .mk n w k kids a b :: l => by
    rw [bareL, EachR, EachR, eachR_bare kids, eachR_bare l, List.length_map]
    have h1 : (∀ t ∈ w.map Tk3.bare, WordR t) ↔ ∀ t ∈ w, WordR t := ⟨fun h t ht => (h t.bare (List.mem_map_of_mem (f := Tk3.bare) ht)).unbare, fun h t ht => by
      obtain ⟨x, hx, rfl⟩ := List.mem_map.mp ht
      exact (h x hx).bare⟩
    have h2 : bareL kids = [] ↔ kids = [] := by
      cases kids with
      | nil => simp [bareL]
      | cons x r => obtain ⟨n, w, k, q, a, b⟩ := x; simp [bareL]
    rw [h1, h2]
theorem rightL_bare (L : List It) : RightL (bareL L) ↔ RightL L :=
  ⟨fun h => ⟨by have := h.deep; rwa [depL_bare] at this, by have := h.many; rwa [cntL_bare] at this, (eachR_bare L).mp h.each⟩, fun h => ⟨by rw [depL_bare]; exact h.deep, by rw [cntL_bare]; exact h.many, (eachR_bare L).mpr h.each⟩⟩
theorem right_alike {L M : List It} (h : bareL M = bareL L) (hr : RightL L) : RightL M := (rightL_bare M).mp (by rw [h]; exact (rightL_bare L).mpr hr)
end Go.Proofs.YtmgimkokmlcllaaGreatDoor

/-
  What is parsed is a right tree: plain.
-/
namespace Go.Proofs.YtmgimkokmlcllaaGreatDoor

structure TkRight (t : TkV) : Prop where
  right : RightT (t.kind : Int) (strOfNums t.text) (t.n : Int)
  n9 : t.n ≤ 18446744073709551615
def QOk : Qs → Prop
  | .norm xs => ∀ r ∈ xs, RuneOk r
  | .esc xs => ∀ r ∈ xs, RuneOk r
  | .uni xs => ∀ r ∈ xs, RuneOk r
  | .hex xs _ x => (∀ r ∈ xs, RuneOk r) ∧ 0 ≤ x
  | .done xs => ∀ r ∈ xs, RuneOk r
  | .start => True
  | .dead => True
theorem qok_snoc {xs : List Int} {r : Int} (h : ∀ r ∈ xs, RuneOk r) (hr : RuneOk r) : ∀ y ∈ xs ++ [r], RuneOk y := fun y hy => by
  rcases List.mem_append.mp hy with hy | hy
  · exact h y hy
  · rw [List.mem_singleton.mp hy]; exact hr
theorem qok_step {u : Qs} (h : QOk u) {r : Int} (hr : r = -1 ∨ RuneOk r) : QOk (ustep u r) := by
  rcases hr with rfl | hr
  · rw [ustep_low u (by decide)]; trivial
  cases u with
  | start =>
    unfold ustep; simp only
    split
    · intro y hy; cases hy
    · trivial
  | norm xs =>
    unfold ustep; simp only
    split
    · exact h
    split
    · trivial
    split
    · exact h
    · exact qok_snoc h hr
  | esc xs =>
    unfold ustep; simp only
    split
    · exact qok_snoc h hr
    split
    · exact qok_snoc h ⟨by decide, by decide, by decide⟩
    split
    · exact qok_snoc h ⟨by decide, by decide, by decide⟩
    split
    · exact h
    · trivial
  | uni xs =>
    unfold ustep; simp only
    split
    · exact ⟨h, by decide⟩
    · trivial
  | hex xs k x =>
    unfold ustep; simp only
    split
    · rename_i hx; exact ⟨h.1, by have := h.2; omega⟩
    split
    · rename_i hx; exact qok_snoc h.1 ⟨h.2, hx.2.2.1, hx.2.2.2⟩
    · trivial
  | done xs => trivial
  | dead => trivial
theorem qok_fold : ∀ (l : List Int) (u : Qs), QOk u → RunesOk l → QOk (l.foldl ustep u)
  | [], _, h, _ => h
  | r :: l, _, h, hl => qok_fold l _ (qok_step h (hl r (List.mem_cons_self ..))) (fun x hx => hl x (List.mem_cons_of_mem _ hx))
theorem quoted_right {p : List Int} (hp : RunesOk p) (h : (unqF p).2 = 0) : TkRight ⟨2, (unqF p).1, 0⟩ := by
  have hq : QOk (uf p) := qok_fold p .start trivial hp
  unfold unqF at h ⊢
  cases hu : uf p with
  | done xs =>
    rw [hu] at h hq
    simp only at h ⊢
    split
    · rename_i hx; rw [if_pos hx] at h; cases h
    · rename_i hx
      have hr := runes_encs hq
      refine ⟨?_, Nat.zero_le _⟩
      unfold RightT
      refine Or.inr (Or.inl ⟨rfl, ?_⟩)
      simp only
      rw [nums_strOfNums _ (encs_byte hq), hr]
      exact ⟨fun i hi => (hq _ (getD_mem hi)).1, by omega, rfl⟩
  | start => rw [hu] at h; cases h
  | norm xs => rw [hu] at h; cases h
  | esc xs => rw [hu] at h; cases h
  | uni xs => rw [hu] at h; cases h
  | hex xs k x => rw [hu] at h; cases h
  | dead => rw [hu] at h; cases h
theorem numT_right {k : Nat} {p : Nat × Int} (h : (numT k p).2 = 0) (hk : (k = 3 ∨ k = 4 ∨ (k = 5 ∧ p.1 ≤ 1000000) ∨ (k = 6 ∧ p.1 ≤ 253402300799))) (hb : p.1 ≤ 18446744073709551615) : TkRight (numT k p).1 := by
  unfold numT at h ⊢
  split
  · refine ⟨?_, hb⟩
    unfold RightT
    simp only
    have e : strOfNums [] = ⟨#[]⟩ := rfl
    rw [e]
    rcases hk with rfl | rfl | ⟨rfl, h2⟩ | ⟨rfl, h2⟩
    · exact Or.inr (Or.inr (Or.inl ⟨Or.inl rfl, rfl⟩))
    · exact Or.inr (Or.inr (Or.inl ⟨Or.inr rfl, rfl⟩))
    · exact Or.inr (Or.inr (Or.inr (Or.inl ⟨rfl, rfl, by omega⟩)))
    · exact Or.inr (Or.inr (Or.inr (Or.inr (Or.inl ⟨rfl, rfl, by omega⟩))))
  · rename_i hn; rw [if_neg hn] at h; exact (hn h).elim
theorem facF_bd (A B : List Int) : (facF A B).1 ≤ 18446744073709551615 := by
  by_cases h : AllD B ∧ B.length ≤ 3
  · by_cases he : (numF A).2 = 0
    · by_cases hb : (18446744073709551615 - t3 B) / 1000 < (numF A).1
      · rw [facF_big h he hb]; exact Nat.zero_le _
      · rw [facF_fine h he hb]
        have h3 : t3 B < 10 ^ 3 := by
          rw [t3_is]
          exact snum_room (fun i hi => spad_dig h.1 i hi) 3 (by rw [spad_len h.2]; exact Nat.le_refl _)
        simp only
        omega
    · rw [facF_err h he]; exact Nat.zero_le _
  · rw [facF_word h]; exact Nat.zero_le _
theorem valF_right {l : List Int} (hl : RunesOk l) (h : (valF l).2 = 0) : TkRight (valF l).1 := by
  by_cases h1 : l = [] ∨ digitB (l.getD 0 0) = false
  · by_cases hn : NameL l
    · rw [valF_name h1 hn]
      refine ⟨?_, Nat.zero_le _⟩
      unfold RightT
      refine Or.inl ⟨rfl, ?_, rfl⟩
      simp only
      rw [nums_strOfNums _ (textR_byte hl.bd), runes_text hl]
      exact hn
    · rw [valF_none h1 hn] at h; cases h
  by_cases h2 : AllD (textR l)
  · rw [valF_count h1 h2] at h ⊢; exact numT_right h (Or.inl rfl) (numF_bd _)
  by_cases h3 : (textR l).getD ((textR l).length - 1) 0 = 37
  · rw [valF_share h1 h2 h3] at h ⊢
    have := share_bd (textR l)
    exact numT_right h (Or.inr (Or.inr (Or.inl ⟨rfl, this⟩))) (by omega)
  by_cases h4 : 46 ∈ textR l
  · rw [valF_factor h1 h2 h3 h4] at h ⊢; exact numT_right h (Or.inr (Or.inl rfl)) (facF_bd _ _)
  · rw [valF_span h1 h2 h3 h4] at h ⊢
    have := span_bd (textR l)
    exact numT_right h (Or.inr (Or.inr (Or.inr ⟨rfl, this⟩))) (by omega)
theorem mark_right {k : Nat} (h : k = 7 ∨ k = 8 ∨ k = 9) : TkRight ⟨k, [], 0⟩ := by
  refine ⟨?_, Nat.zero_le _⟩
  unfold RightT
  have e : strOfNums [] = ⟨#[]⟩ := rfl
  simp only
  rw [e]
  refine Or.inr (Or.inr (Or.inr (Or.inr (Or.inr ⟨?_, rfl, rfl⟩))))
  omega
theorem tokP_right {p : List Int} (hp : RunesOk p) (h : (tokP p).2 = 0) : TkRight (tokP p).1 := by
  unfold tokP at h ⊢
  split
  · exact mark_right (by decide)
  split
  · exact mark_right (by decide)
  split
  · exact mark_right (by decide)
  split
  · rename_i a b c d
    rw [if_neg a, if_neg b, if_neg c, if_pos d] at h
    split
    · rename_i hq; exact quoted_right hp hq
    · rename_i hn; rw [if_neg hn] at h; exact (hn h).elim
  · rename_i a b c d
    rw [if_neg a, if_neg b, if_neg c, if_neg d] at h
    exact valF_right hp h
theorem tokF_right {l : List Int} (hl : RunesOk l) : ∀ (n i : Nat) (L : List (TkV × Nat)), l.length - i ≤ n → tokF l i = .ok L → ∀ x ∈ L, TkRight x.1
  | n, i, L, hn, h => by
    by_cases hi : i < l.length
    · match n, hn with
      | 0, hn => omega
      | n + 1, hn =>
        have hb := pieceN_bd (m := l.drop i) (by rw [List.length_drop]; omega)
        rcases tokF_one_step hi with ⟨_, e⟩ | ⟨_, _, e⟩
        · rw [e] at h
          exact tokF_right hl n _ L (by omega) h
        · rw [e] at h
          by_cases hc : (tokP ((l.drop i).take (pieceN (l.drop i)))).2 = 0
          · rw [if_pos hc] at h
            cases hr : tokF l (i + pieceN (l.drop i)) with
            | error x => rw [hr] at h; cases h
            | ok L2 =>
              rw [hr] at h
              have el : L = ((tokP ((l.drop i).take (pieceN (l.drop i)))).1, i) :: L2 := by injection h with h; exact h.symm
              intro x hx
              rw [el] at hx
              rcases List.mem_cons.mp hx with rfl | hx
              · exact tokP_right (fun z hz => hl z (List.mem_of_mem_drop (List.mem_of_mem_take hz))) hc
              · exact tokF_right hl n _ L2 (by omega) hr x hx
          · rw [if_neg hc] at h; cases h
    · rw [tokF_end (by omega)] at h
      injection h with h
      subst h
      intro x hx; cases hx

def T3R (t : Tk3) : Prop := RightT t.k t.s t.n ∧ 0 ≤ t.n ∧ t.n ≤ 18446744073709551615
theorem tk3_right {l : List Int} {x : TkV × Nat} (h : TkRight x.1) : T3R (tk3 l x) := ⟨h.right, by show 0 ≤ (x.1.n : Int); omega, by have := h.n9; show (x.1.n : Int) ≤ _; omega⟩
def HdR (h : Hd) : Prop := NameL (runesOf (nums h.name)) ∧ h.words.length ≤ 6 ∧ (∀ t ∈ h.words, WordR t) ∧ ∀ t ∈ h.words, 0 ≤ t.n ∧ t.n ≤ 18446744073709551615
def ItsR (L : List It) : Prop := EachR L ∧ NumsR L
theorem itsR_app : ∀ {l m : List It}, ItsR l → ItsR m → ItsR (l ++ m)
  | [], _, _, h => h
  | .mk n w k kids a b :: l, m, h1, h2 => by
    obtain ⟨e1, n1⟩ := h1
    rw [EachR] at e1
    rw [NumsR] at n1
    have := itsR_app (l := l) (m := m) ⟨e1.2.2.2.2.2, n1.2.2⟩ h2
    refine ⟨?_, ?_⟩
    · rw [List.cons_append, EachR]
      exact ⟨e1.1, e1.2.1, e1.2.2.1, e1.2.2.2.1, e1.2.2.2.2.1, this.1⟩
    · rw [List.cons_append, NumsR]
      exact ⟨n1.1, n1.2.1, this.2⟩
theorem itsR_nil : ItsR [] := ⟨by simp [EachR], by simp [NumsR]⟩
theorem itsR_one {h : Hd} {k : Bool} {l : List It} (hh : HdR h) (hl : ItsR l) (hk : k = true ∨ l = []) : ItsR [h.it k l] := by
  refine ⟨?_, ?_⟩
  · rw [Hd.it, EachR]
    exact ⟨hh.1, hh.2.1, hk, hh.2.2.1, hl.1, by simp [EachR]⟩
  · rw [Hd.it, NumsR]
    exact ⟨hh.2.2.2, hl.2, by simp [NumsR]⟩
theorem trF_right : ∀ (T : List Tk3) (st : List (Hd × List It)) (n : Nat) (o : Option Hd) (I : List It), (∀ t ∈ T, T3R t) → (∀ y ∈ st, ItsR y.2) → (∀ y ∈ st.dropLast, HdR y.1) → st ≠ [] → (∀ h, o = some h → HdR h) → trF T st n o = .ok I → ItsR I
  | [], st, n, o, I, _, _, _, _, _, h => by
    rw [trF] at h
    injection h with h
    rw [← h]; exact itsR_nil
  | t :: T, st, n, some hd, I, hT, hs, hq, hne, ho, h => by
    have hw := ho hd rfl
    have ht := hT t (List.mem_cons_self ..)
    have hT2 : ∀ t ∈ T, T3R t := fun x hx => hT x (List.mem_cons_of_mem _ hx)
    have hdl : ∀ (x : It) (st : List (Hd × List It)), (∀ y ∈ st.dropLast, HdR y.1) → ∀ y ∈ (pushS x st).dropLast, HdR y.1 := fun x st hq y hy => by
      match st with
      | [] => cases hy
      | [(h, l)] => simp [pushS] at hy
      | (h, l) :: z :: st' =>
        simp only [pushS, List.dropLast_cons_cons, List.mem_cons] at hy hq
        rcases hy with rfl | hy
        · exact hq (h, l) (Or.inl rfl)
        · exact hq y (Or.inr hy)
    rw [trF] at h
    split at h
    · exact trF_right T _ _ _ I hT2 (fun y hy => by
        cases st with
        | nil => cases hy
        | cons z st =>
          obtain ⟨h1, l⟩ := z
          rcases List.mem_cons.mp hy with rfl | hy
          · exact itsR_app (hs (h1, l) (List.mem_cons_self ..)) (itsR_one hw itsR_nil (Or.inr rfl))
          · exact hs y (List.mem_cons_of_mem _ hy)) (hdl _ st hq) (push_ne _ hne) (fun _ e => by cases e) h
    split at h
    · refine trF_right T _ _ _ I hT2 (fun y hy => ?_) (fun y hy => ?_) (by simp) (fun _ e => by cases e) h
      · rcases List.mem_cons.mp hy with rfl | hy
        · exact itsR_nil
        · exact hs y hy
      · cases st with
        | nil => exact (hne rfl).elim
        | cons z st =>
          rw [List.dropLast_cons_cons] at hy
          rcases List.mem_cons.mp hy with rfl | hy
          · exact hw
          · exact hq y hy
    split at h
    · cases h
    rename_i hk
    split at h
    · cases h
    rename_i hl
    refine trF_right T _ _ _ I hT2 hs hq hne (fun x e => ?_) h
    injection e with e
    subst e
    refine ⟨hw.1, ?_, fun y hy => ?_, fun y hy => ?_⟩
    · simp only [List.length_append, List.length_cons, List.length_nil]; omega
    · rcases List.mem_append.mp hy with hy | hy
      · exact hw.2.2.1 y hy
      · rw [List.mem_singleton.mp hy]; exact ⟨by omega, by omega, ht.1⟩
    · rcases List.mem_append.mp hy with hy | hy
      · exact hw.2.2.2 y hy
      · rw [List.mem_singleton.mp hy]; exact ht.2
  | t :: T, st, n, none, I, hT, hs, hq, hne, ho, h => by
    have ht := hT t (List.mem_cons_self ..)
    have hT2 : ∀ t ∈ T, T3R t := fun x hx => hT x (List.mem_cons_of_mem _ hx)
    rw [trF] at h
    split at h
    · rename_i h8
      match st, hs, hq, h8, h with
      | (hd, l) :: (h2, l2) :: st', hs, hq, h8, h =>
        have hh : HdR hd := hq (hd, l) (by simp)
        have hl := hs (hd, l) (List.mem_cons_self ..)
        refine trF_right T _ _ _ I hT2 (fun y hy => ?_) (fun y hy => ?_) (push_ne _ (by simp)) (fun _ e => by cases e) (show trF T (pushS (hd.it true l) ((h2, l2) :: st')) n none = .ok I from h)
        · have hy2 : y ∈ (h2, l2 ++ [hd.it true l]) :: st' := hy
          rcases List.mem_cons.mp hy2 with rfl | hy2
          · exact itsR_app (hs (h2, l2) (by simp)) (itsR_one hh hl (Or.inl rfl))
          · exact hs y (by simp [hy2])
        · have hy2 : y ∈ ((h2, l2 ++ [hd.it true l]) :: st').dropLast := hy
          cases st' with
          | nil => simp at hy2
          | cons z st'' =>
            rw [List.dropLast_cons_cons] at hy2
            rcases List.mem_cons.mp hy2 with rfl | hy2
            · exact hq (h2, l2) (by simp)
            · exact hq y (by simp only [List.dropLast_cons_cons, List.mem_cons]; exact Or.inr (Or.inr hy2))
      | [_], _, _, h8, _ => exact absurd h8.2 (by simp)
      | [], _, _, h8, _ => exact absurd h8.2 (by simp)
    split at h
    · rename_i h1
      injection h with h
      subst h
      match st, hs, h1 with
      | [(h0, M)], hs, _ => exact hs (h0, M) (by simp)
      | [], _, h1 => exact absurd h1.2 (by simp)
      | _ :: _ :: _, _, h1 => exact absurd h1.2 (by simp)
    split at h
    · cases h
    rename_i hk
    split at h
    · cases h
    split at h
    · cases h
    refine trF_right T _ _ _ I hT2 hs hq hne (fun x e => ?_) h
    injection e with e
    subst e
    have hk1 : t.k = 1 := by omega
    have hr := ht.1
    unfold RightT at hr
    refine ⟨?_, by simp, by simp, by simp⟩
    rcases hr with ⟨_, hr, _⟩ | ⟨h1, _⟩ | ⟨h1, _⟩ | ⟨h1, _⟩ | ⟨h1, _⟩ | ⟨h1, _⟩
    · exact hr
    all_goals omega
theorem tre_right {l : List Int} (hl : RunesOk l) {I : List It} (h : treF l = .ok I) : RightL I ∧ NumsR I := by
  obtain ⟨L, hL, ht⟩ := treF_toks h
  obtain ⟨h1, h2⟩ := tre_few h
  have hT : ∀ t ∈ L.map (tk3 l) ++ [tk3 l (tk0, l.length)], T3R t := fun t ht => by
    rcases List.mem_append.mp ht with ht | ht
    · obtain ⟨x, hx, rfl⟩ := List.mem_map.mp ht
      exact tk3_right (tokF_right hl _ _ L (Nat.le_refl _) hL x hx)
    · rw [List.mem_singleton.mp ht]
      refine tk3_right ⟨?_, Nat.zero_le _⟩
      unfold RightT
      exact Or.inr (Or.inr (Or.inr (Or.inr (Or.inr ⟨Or.inl rfl, rfl, rfl⟩))))
  have := trF_right _ _ _ _ I hT (fun y hy => by rw [List.mem_singleton.mp hy]; exact itsR_nil) (by simp) (by simp) (fun _ e => by cases e) ht
  exact ⟨⟨h2, h1, this.1⟩, this.2⟩

end Go.Proofs.YtmgimkokmlcllaaGreatDoor
