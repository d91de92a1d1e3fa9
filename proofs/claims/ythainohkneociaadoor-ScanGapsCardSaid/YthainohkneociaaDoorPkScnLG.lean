/-
  ScanGaps: tokens printed one behind the other, with gaps between: plain.
-/
import Derived.Test.YthainohkneociaaDoorPkScnLA
import Derived.Test.YthainohkneociaaDoorPkScnN
import Derived.Test.YthainohkneociaaDoorPkScnLP
import Derived.Test.YthainohkneociaaDoorPkToksOpen
namespace Go.Proofs.YthainohkneociaaDoor
open Go.RowKit

/-- The gaps, by their letters and by their runes. -/
def gapL (k : Nat) : List Int := if k = 1 then [9, 32] else if k = 2 then [10, 10] else if k = 3 then [32, 35, 32, 34, 32, 123, 32, 255, 10] else if k = 4 then [35, 10] else [32]
def gapU (k : Nat) : List Int := if k = 1 then [9, 32] else if k = 2 then [10, 10] else if k = 3 then [32, 35, 32, 34, 32, 123, 32, -1, 10] else if k = 4 then [35, 10] else [32]
theorem gap_cases (k : Nat) : (gapL k = [9, 32] ∧ gapU k = [9, 32]) ∨ (gapL k = [10, 10] ∧ gapU k = [10, 10]) ∨ (gapL k = [32, 35, 32, 34, 32, 123, 32, 255, 10] ∧ gapU k = [32, 35, 32, 34, 32, 123, 32, -1, 10]) ∨ (gapL k = [35, 10] ∧ gapU k = [35, 10]) ∨ (gapL k = [32] ∧ gapU k = [32]) := by
  unfold gapL gapU
  by_cases h1 : k = 1
  · simp [h1]
  by_cases h2 : k = 2
  · simp [h2]
  by_cases h3 : k = 3
  · simp [h3]
  by_cases h4 : k = 4
  · simp [h4]
  · simp [h1, h2, h3, h4]
theorem gap_byte (k : Nat) : ∀ z ∈ gapL k, 0 ≤ z ∧ z ≤ 255 := by
  rcases gap_cases k with ⟨h, _⟩ | ⟨h, _⟩ | ⟨h, _⟩ | ⟨h, _⟩ | ⟨h, _⟩ <;> rw [h] <;> decide
theorem gap_short (k : Nat) : (gapL k).length ≤ 9 := by
  rcases gap_cases k with ⟨h, _⟩ | ⟨h, _⟩ | ⟨h, _⟩ | ⟨h, _⟩ | ⟨h, _⟩ <;> rw [h] <;> decide
theorem runes_gap (k : Nat) (ys : List Int) : runesOf (gapL k ++ ys) = gapU k ++ runesOf ys := by
  rcases gap_cases k with ⟨h1, h2⟩ | ⟨h1, h2⟩ | ⟨h1, h2⟩ | ⟨h1, h2⟩ | ⟨h1, h2⟩
  · rw [h1, h2]; exact runes_ascii _ (by decide) ys
  · rw [h1, h2]; exact runes_ascii _ (by decide) ys
  · rw [h1, h2]
    have e : ([32, 35, 32, 34, 32, 123, 32, 255, 10] ++ ys : List Int) = [32, 35, 32, 34, 32, 123, 32] ++ (255 :: ([10] ++ ys)) := by simp
    rw [e, runes_ascii _ (by decide), runes_bad, runes_ascii _ (by decide)]
    simp
  · rw [h1, h2]; exact runes_ascii _ (by decide) ys
  · rw [h1, h2]; exact runes_ascii _ (by decide) ys
/-- A gap, at a place. -/
theorem tokF_gapU {l : List Int} {i k : Nat} {R : List Int} (h : l.drop i = gapU k ++ R) : tokF l i = tokF l (i + (gapU k).length) := by
  have more : ∀ (j : Nat) (a X : List Int), l.drop i = a ++ X → a.length = j → l.drop (i + j) = X := fun j a X e hj => by
    have : l.drop (i + j) = (l.drop i).drop j := by rw [List.drop_drop]
    rw [this, e, ← hj]; simp
  rcases gap_cases k with ⟨_, h2⟩ | ⟨_, h2⟩ | ⟨_, h2⟩ | ⟨_, h2⟩ | ⟨_, h2⟩
  · rw [h2] at h ⊢
    rw [tokF_blank (z := 9) (R := 32 :: R) h (by decide), tokF_blank (z := 32) (R := R) (more 1 [9] _ h rfl) (by decide)]; rfl
  · rw [h2] at h ⊢
    rw [tokF_blank (z := 10) (R := 10 :: R) h (by decide), tokF_blank (z := 10) (R := R) (more 1 [10] _ h rfl) (by decide)]; rfl
  · rw [h2] at h ⊢
    have r := tokF_remark (l := l) (i := i + 1) (a := [32, 34, 32, 123, 32, -1]) (R := R) (more 1 [32] _ h rfl) (by decide)
    have e : i + 1 + (1 + ([32, 34, 32, 123, 32, -1] : List Int).length) = i + 8 := by simp
    rw [e] at r
    rw [tokF_blank (z := 32) (R := [35, 32, 34, 32, 123, 32, -1, 10] ++ R) h (by decide), r, tokF_blank (z := 10) (R := R) (more 8 [32, 35, 32, 34, 32, 123, 32, -1] _ h rfl) (by decide)]; rfl
  · rw [h2] at h ⊢
    have r := tokF_remark (l := l) (i := i) (a := []) (R := R) h (by simp)
    have e : i + (1 + ([] : List Int).length) = i + 1 := by simp
    rw [e] at r
    rw [r, tokF_blank (z := 10) (R := R) (more 1 [35] _ h rfl) (by decide)]; rfl
  · rw [h2] at h ⊢
    rw [tokF_blank (z := 32) (R := R) h (by decide)]; rfl
theorem endG_gapU (k : Nat) (R : List Int) : EndG (gapU k ++ R) := by
  rcases gap_cases k with ⟨_, h⟩ | ⟨_, h⟩ | ⟨_, h⟩ | ⟨_, h⟩ | ⟨_, h⟩ <;> rw [h] <;> exact endG_gap (by decide)
/-- A printed token, with the gap ahead of it. -/
structure Itm where
  g : Nat
  k : Int
  s : ByteArray
  n : Nat
structure Itm.Ok (x : Itm) : Prop where
  right : RightT x.k x.s (x.n : Int)
  n9 : x.n ≤ 18446744073709551615
  k0 : x.k ≠ 0
def Itm.tok (x : Itm) : TkV := ⟨x.k.toNat, txT x.k x.s, x.n⟩
def Itm.let (x : Itm) : List Int := gapL x.g ++ prT x.k x.s x.n
def Itm.run (x : Itm) : List Int := gapU x.g ++ runesOf (prT x.k x.s x.n)
theorem run_toks {l : List Int} : ∀ (L : List Itm) (i e : Nat), (∀ x ∈ L, x.Ok) → l.drop i = L.flatMap Itm.run ++ gapU e → ∃ M, tokF l i = .ok M ∧ M.map (·.1) = L.map Itm.tok
  | [], i, e, _, h => by
    have h2 : l.drop i = gapU e ++ [] := by simpa using h
    have h3 : l.drop (i + (gapU e).length) = [] := by
      have : l.drop (i + (gapU e).length) = (l.drop i).drop (gapU e).length := by rw [List.drop_drop]
      rw [this, h2]; simp
    exact ⟨[], by rw [tokF_gapU h2, tokF_none h3], rfl⟩
  | x :: L, i, e, hL, h => by
    have hx := hL x (List.mem_cons_self ..)
    have hr := reads_right hx.right hx.n9 hx.k0
    have h1 : l.drop i = gapU x.g ++ (runesOf (prT x.k x.s x.n) ++ (L.flatMap Itm.run ++ gapU e)) := by
      rw [h, List.flatMap_cons]
      unfold Itm.run
      simp
    obtain ⟨j, hj⟩ : ∃ j, i + (gapU x.g).length = j := ⟨_, rfl⟩
    have h2 : l.drop j = runesOf (prT x.k x.s x.n) ++ (L.flatMap Itm.run ++ gapU e) := by
      have : l.drop j = (l.drop i).drop (gapU x.g).length := by rw [List.drop_drop, hj]
      rw [this, h1]; simp
    have hE : EndG (L.flatMap Itm.run ++ gapU e) := by
      cases L with
      | nil =>
        have := endG_gapU e []
        rw [List.append_nil] at this
        exact this
      | cons y L =>
        have e2 : (y :: L).flatMap Itm.run ++ gapU e = gapU y.g ++ (runesOf (prT y.k y.s y.n) ++ (L.flatMap Itm.run ++ gapU e)) := by
          rw [List.flatMap_cons]
          unfold Itm.run
          simp
        rw [e2]
        exact endG_gapU y.g _
    have h3 := tokF_reads h2 hr hE
    have h4 : l.drop (j + (runesOf (prT x.k x.s x.n)).length) = L.flatMap Itm.run ++ gapU e := (drop_len h2 hr.some).2.2
    obtain ⟨M, hM, hMm⟩ := run_toks L _ e (fun y hy => hL y (List.mem_cons_of_mem _ hy)) h4
    refine ⟨(x.tok, j) :: M, ?_, by rw [List.map_cons, List.map_cons, hMm]⟩
    rw [tokF_gapU h1, hj, h3, hM]; rfl
theorem runes_good_app {zs : List Int} (hb : ∀ z ∈ zs, 0 ≤ z ∧ z ≤ 255) (hg : ∀ r ∈ runesOf zs, 0 ≤ r) (ys : List Int) : runesOf (zs ++ ys) = runesOf zs ++ runesOf ys := by
  obtain ⟨hok, hback⟩ := good_back hb hg
  have key : ∀ l : List Int, (∀ r ∈ l, RuneOk r) → runesOf (l.flatMap encL ++ ys) = l ++ runesOf ys := by
    intro l
    induction l with
    | nil => intro _; rfl
    | cons r l ih =>
      intro hl
      rw [List.flatMap_cons, List.append_assoc, runes_enc (hl r (List.mem_cons_self ..)), ih (fun x hx => hl x (List.mem_cons_of_mem _ hx))]
      rfl
  have := key _ hok
  rw [hback] at this
  exact this
theorem print_good {k : Int} {s : ByteArray} {n : Nat} (h : RightT k s (n : Int)) : ∀ r ∈ runesOf (prT k s n), 0 ≤ r := by
  have asc : ∀ zs : List Int, (∀ z ∈ zs, 0 ≤ z ∧ z < 128) → ∀ z ∈ runesOf zs, 0 ≤ z := fun zs hz z hm => by
    rw [runes_of_ascii hz] at hm
    exact (hz z hm).1
  have asl : ∀ zs : List Int, (∀ z ∈ zs, (48 ≤ z ∧ z ≤ 57) ∨ unitOf z ≠ 0 ∨ z = 46 ∨ z = 37) → ∀ z ∈ runesOf zs, 0 ≤ z := fun zs hz => asc zs (fun z hm => (within_ascii (hz z hm)).2)
  unfold RightT at h
  rcases h with ⟨rfl, h, hz⟩ | ⟨rfl, h, h2, hz⟩ | ⟨rfl | rfl, rfl⟩ | ⟨rfl, rfl, h2⟩ | ⟨rfl, rfl, h2⟩ | ⟨rfl | rfl | rfl | rfl, rfl, hz⟩
  · exact fun r hr => within_low (name_within h r hr)
  · obtain ⟨hok, _⟩ := good_back (nums_byte s) (good_mem h)
    have e : prT 2 s n = quoteL (runesOf (nums s)) := rfl
    rw [e, runes_quoteL hok]
    intro z hm
    rcases List.mem_append.mp hm with hm | hm
    · rcases List.mem_append.mp hm with hm | hm
      · have := List.mem_singleton.mp hm; omega
      · obtain ⟨r, hr1, hr⟩ := List.mem_flatMap.mp hm
        have h0 := (hok r hr1).1
        unfold quoteU at hr
        split at hr
        · simp only [List.mem_cons, List.not_mem_nil, or_false] at hr; omega
        split at hr
        · simp only [List.mem_cons, List.not_mem_nil, or_false] at hr; omega
        split at hr
        · simp only [List.mem_cons, List.not_mem_nil, or_false] at hr; omega
        split at hr
        · simp only [List.mem_cons, List.not_mem_nil, or_false] at hr; omega
        split at hr
        · simp only [List.mem_append, List.mem_cons, List.not_mem_nil, or_false] at hr
          rcases hr with (hr | hr) | hr
          · omega
          · have := hexL_in _ z hr; omega
          · omega
        · have := List.mem_singleton.mp hr; omega
    · have := List.mem_singleton.mp hm; omega
  · exact asl _ (fun z hz => Or.inl (dec_byte n z hz))
  · have e : prT 4 ⟨#[]⟩ n = facP n := rfl
    rw [e]
    refine asc _ (fun z hz => ?_)
    rw [facP_form] at hz
    have ht := tailD_bd (r := n % 100) (by omega)
    rcases List.mem_append.mp hz with hz | hz
    · have := dec_byte _ z hz; omega
    · rcases List.mem_cons.mp hz with rfl | hz
      · omega
      · rcases List.mem_append.mp hz with hz | hz
        · have := List.mem_singleton.mp hz; omega
        · have := ht.1 z hz; omega
  · exact asl _ (pct_letters n)
  · have e : prT 6 ⟨#[]⟩ n = spn n := rfl
    obtain ⟨_, l, hr⟩ := spn_tells n
    have hl0 := runs_letters _ _ _ hr
    rw [e]
    exact asl _ (fun z hz => (hl0 z hz).elim Or.inl (fun h => Or.inr (Or.inl h)))
  · exact asc [] (fun z hz => (by cases hz))
  · exact asc [123] (fun z hz => (by have := List.mem_singleton.mp hz; omega))
  · exact asc [125] (fun z hz => (by have := List.mem_singleton.mp hz; omega))
  · exact asc [59] (fun z hz => (by have := List.mem_singleton.mp hz; omega))
theorem runes_items : ∀ (L : List Itm), (∀ x ∈ L, x.Ok) → ∀ ys, runesOf (L.flatMap Itm.let ++ ys) = L.flatMap Itm.run ++ runesOf ys
  | [], _, _ => rfl
  | x :: L, h, ys => by
    have hx := h x (List.mem_cons_self ..)
    rw [List.flatMap_cons, List.flatMap_cons]
    have e : x.let ++ L.flatMap Itm.let ++ ys = gapL x.g ++ (prT x.k x.s x.n ++ (L.flatMap Itm.let ++ ys)) := by unfold Itm.let; simp
    rw [e, runes_gap, runes_good_app (print_byte hx.right) (print_good hx.right), runes_items L (fun y hy => h y (List.mem_cons_of_mem _ hy)) ys]
    unfold Itm.run
    simp
/-- Which gap stands ahead of a token. -/
def gkB (zs : List Int) (j : Nat) : Int := if 0 < zs.length then zs.getD (j % zs.length) 0 else 0
theorem gkB_byte {zs : List Int} (h : ∀ z ∈ zs, 0 ≤ z ∧ z ≤ 255) (j : Nat) : 0 ≤ gkB zs j ∧ gkB zs j ≤ 255 := by
  unfold gkB
  split
  · rename_i h0
    exact h _ (getD_mem (Nat.mod_lt _ h0))
  · omega
def itmOf (Q : List TokQ) (zs : List Int) (j : Nat) : Itm := ⟨(gkB zs j).toNat % 5, (Q.getD j {}).k, (Q.getD j {}).s, (Q.getD j {}).n.toNat⟩
def itms (Q : List TokQ) (zs : List Int) (i : Nat) : List Itm := (List.range i).map (itmOf Q zs)
/-- The text of the first ones. -/
def srcB (Q : List TokQ) (zs : List Int) (i : Nat) : List Int := (itms Q zs i).flatMap Itm.let
theorem srcB_zero (Q : List TokQ) (zs : List Int) : srcB Q zs 0 = [] := rfl
theorem srcB_more (Q : List TokQ) (zs : List Int) (i : Nat) : srcB Q zs (i + 1) = srcB Q zs i ++ gapL ((gkB zs i).toNat % 5) ++ prT (Q.getD i {}).k (Q.getD i {}).s (Q.getD i {}).n.toNat := by
  unfold srcB itms
  rw [List.range_succ, List.map_append, List.flatMap_append]
  show _ ++ ((itmOf Q zs i).let ++ []) = _
  rw [List.append_nil]
  unfold Itm.let itmOf
  simp
theorem itms_ok {Q : List TokQ} {zs : List Int} {i : Nat} (h : ∀ j, j < i → (itmOf Q zs j).Ok) : ∀ x ∈ itms Q zs i, x.Ok := fun x hx => by
  obtain ⟨j, hj, rfl⟩ := List.mem_map.mp hx
  exact h j (List.mem_range.mp hj)
theorem srcB_byte {Q : List TokQ} {zs : List Int} {i : Nat} (h : ∀ j, j < i → (itmOf Q zs j).Ok) : ∀ z ∈ srcB Q zs i, 0 ≤ z ∧ z ≤ 255 := fun z hz => by
  obtain ⟨x, hx, hm⟩ := List.mem_flatMap.mp hz
  have ho := itms_ok h x hx
  unfold Itm.let at hm
  rcases List.mem_append.mp hm with hm | hm
  · exact gap_byte _ z hm
  · exact print_byte ho.right z hm
/-- The tokens of all of it. -/
theorem src_toks {Q : List TokQ} {zs : List Int} {n e : Nat} (h : ∀ j, j < n → (itmOf Q zs j).Ok) :
    ∃ M : List (TkV × Nat), outF (runesOf (srcB Q zs n ++ gapL e)) = (M ++ [(tk0, (runesOf (srcB Q zs n ++ gapL e)).length)], 0, 0, 0) ∧ M.length = n ∧ ∀ j, j < n → (M.getD j (tk0, 0)).1 = (itmOf Q zs j).tok := by
  have hr : runesOf (srcB Q zs n ++ gapL e) = (itms Q zs n).flatMap Itm.run ++ gapU e := by
    have h1 := runes_items (itms Q zs n) (itms_ok h) (gapL e)
    have h2 := runes_gap e []
    rw [runes_nil, List.append_nil, List.append_nil] at h2
    rw [h2] at h1
    exact h1
  obtain ⟨M, hM, hm⟩ := run_toks (l := runesOf (srcB Q zs n ++ gapL e)) (itms Q zs n) 0 e (itms_ok h) (by rw [List.drop_zero]; exact hr)
  have hl : M.length = n := by
    have := congrArg List.length hm
    unfold itms at this
    simpa using this
  refine ⟨M, outF_fine hM, hl, fun j hj => ?_⟩
  have h3 : (M.map (·.1))[j]? = ((itms Q zs n).map Itm.tok)[j]? := by rw [hm]
  unfold itms at h3
  rw [List.getElem?_map, List.getElem?_map, List.getElem?_map, List.getElem?_range hj, List.getElem?_eq_getElem (by omega)] at h3
  rw [List.getD_eq_getElem?_getD, List.getElem?_eq_getElem (by omega)]
  simpa using h3

end Go.Proofs.YthainohkneociaaDoor
