/-
  A word's value, as the chapter of layer 13 says it: plain.
-/
import Derived.Test.YtmgimkokmlcllaaGreatDoorPkPlain
import Derived.Test.YtmgimkokmlcllaaGreatDoorPkPpm
import Derived.Test.YtmgimkokmlcllaaGreatDoorPkSpanr
namespace Go.Proofs.YtmgimkokmlcllaaGreatDoor

structure TkV where
  kind : Nat
  text : List Int
  n : Nat
def tk0 : TkV := ⟨0, [], 0⟩
noncomputable def shareF (zs : List Int) : Nat × Int :=
  open Classical in
  if h : ∃ p : List Int × List Int, ∃ ys d, zs = ys ++ [37] ∧ Halves ys p.1 p.2 d ∧ Written p.1 p.2 d then (if 1000000 < parts h.choose.1 h.choose.2 then (0, 8) else (parts h.choose.1 h.choose.2, 0)) else (0, 5)
theorem share_out {R : Nat → Int → Prop} {s : ByteArray} (h : Outcome R s) : R (shareF (nums s)).1 (shareF (nums s)).2 := by
  unfold shareF
  split
  · rename_i hx
    obtain ⟨ys, d, e1, e2, e3⟩ := hx.choose_spec
    rcases h with ⟨hn, _⟩ | ⟨zs, A, B, d', hE, hc⟩
    · exact (hn ⟨ys, e1⟩).elim
    · obtain ⟨_, q2, q3, q4⟩ := Ends.unique hE ⟨e1, e2⟩
      rw [← q2, ← q3, ← q4] at e3
      rw [← q2, ← q3]
      rcases hc with ⟨hw, _⟩ | ⟨_, hb, hr⟩ | ⟨_, hb, hr⟩
      · exact (hw e3).elim
      · rw [if_pos hb]; exact hr
      · rw [if_neg (by omega)]; exact hr
  · rename_i hx
    rcases h with ⟨_, hr⟩ | ⟨zs, A, B, d', hE, hc⟩
    · exact hr
    · rcases hc with ⟨_, hr⟩ | ⟨hw, _⟩ | ⟨hw, _⟩
      · exact hr
      · exact (hx ⟨(A, B), zs, d', hE.all, hE.halves, hw⟩).elim
      · exact (hx ⟨(A, B), zs, d', hE.all, hE.halves, hw⟩).elim
theorem share_bd (zs : List Int) : (shareF zs).1 ≤ 1000000 := by
  unfold shareF
  split
  · split
    · exact Nat.zero_le _
    · show parts _ _ ≤ _
      omega
  · exact Nat.zero_le _
noncomputable def spanF (zs : List Int) : Nat × Int :=
  open Classical in
  if h : ∃ N, Tells zs N then (if h.choose ≤ 253402300799 then (h.choose, 0) else (0, 8)) else (0, 5)
theorem span_out {zs : List Int} {x c : Int} (h : SpanOut zs x c) : x = ((spanF zs).1 : Int) ∧ c = (spanF zs).2 := by
  unfold spanF
  split
  · rename_i hx
    rcases h with ⟨hn, _, _⟩ | ⟨N, hN, h⟩
    · exact (hn _ hx.choose_spec).elim
    · have e : hx.choose = N := Tells.unique hx.choose_spec hN
      rw [e]
      rcases h with ⟨hb, rfl, rfl⟩ | ⟨hb, rfl, rfl⟩
      · rw [if_neg (by omega)]; exact ⟨rfl, rfl⟩
      · rw [if_pos hb]; exact ⟨rfl, rfl⟩
  · rename_i hx
    rcases h with ⟨_, rfl, rfl⟩ | ⟨N, hN, _⟩
    · exact ⟨rfl, rfl⟩
    · exact (hx ⟨N, hN⟩).elim
theorem span_bd (zs : List Int) : (spanF zs).1 ≤ 253402300799 := by
  unfold spanF
  split
  · split
    · assumption
    · exact Nat.zero_le _
  · exact Nat.zero_le _
def numT (k : Nat) (p : Nat × Int) : TkV × Int := if p.2 = 0 then (⟨k, [], p.1⟩, 0) else (tk0, p.2)
theorem numT_fine {k : Nat} {p : Nat × Int} (h : p.2 = 0) : numT k p = (⟨k, [], p.1⟩, 0) := if_pos h
theorem numT_err {k : Nat} {p : Nat × Int} (h : ¬ p.2 = 0) : numT k p = (tk0, p.2) := if_neg h
def headP (zs : List Int) : List Int := zs.takeWhile (fun z => decide (z ≠ 46))
def tailP (zs : List Int) : List Int := (zs.dropWhile (fun z => decide (z ≠ 46))).tail
theorem point_parts {zs : List Int} (h : 46 ∈ zs) : zs = headP zs ++ 46 :: tailP zs ∧ ∀ i, i < (headP zs).length → (headP zs).getD i 0 ≠ 46 := by
  unfold headP tailP
  induction zs with
  | nil => cases h
  | cons z zs ih =>
    by_cases hz : z = 46
    · subst hz
      exact ⟨by simp, fun i hi => by simp at hi⟩
    · have h2 : 46 ∈ zs := by
        rcases List.mem_cons.mp h with e | e
        · exact (hz e.symm).elim
        · exact e
      obtain ⟨e1, e2⟩ := ih h2
      have hd : decide (z ≠ 46) = true := decide_eq_true hz
      rw [List.takeWhile_cons_of_pos (by simpa using hz), List.dropWhile_cons_of_pos (by simpa using hz)]
      refine ⟨by rw [List.cons_append, ← e1], fun i hi => ?_⟩
      cases i with
      | zero => simpa using hz
      | succ i => simpa using e2 i (by simpa using hi)
noncomputable def valF (l : List Int) : TkV × Int :=
  open Classical in
  if l = [] ∨ digitB (l.getD 0 0) = false then (if NameL l then (⟨1, textR l, 0⟩, 0) else (tk0, 5))
  else if AllD (textR l) then numT 3 (numF (textR l))
  else if (textR l).getD ((textR l).length - 1) 0 = 37 then numT 5 (shareF (textR l))
  else if 46 ∈ textR l then numT 4 (facF (headP (textR l)) (tailP (textR l)))
  else numT 6 (spanF (textR l))
theorem valF_name {l : List Int} (h : l = [] ∨ digitB (l.getD 0 0) = false) (hn : NameL l) : valF l = (⟨1, textR l, 0⟩, 0) := by unfold valF; rw [if_pos h, if_pos hn]
theorem valF_none {l : List Int} (h : l = [] ∨ digitB (l.getD 0 0) = false) (hn : ¬ NameL l) : valF l = (tk0, 5) := by unfold valF; rw [if_pos h, if_neg hn]
theorem valF_count {l : List Int} (h : ¬ (l = [] ∨ digitB (l.getD 0 0) = false)) (h1 : AllD (textR l)) : valF l = numT 3 (numF (textR l)) := by unfold valF; rw [if_neg h, if_pos h1]
theorem valF_share {l : List Int} (h : ¬ (l = [] ∨ digitB (l.getD 0 0) = false)) (h1 : ¬ AllD (textR l)) (h2 : (textR l).getD ((textR l).length - 1) 0 = 37) : valF l = numT 5 (shareF (textR l)) := by unfold valF; rw [if_neg h, if_neg h1, if_pos h2]
theorem valF_factor {l : List Int} (h : ¬ (l = [] ∨ digitB (l.getD 0 0) = false)) (h1 : ¬ AllD (textR l)) (h2 : ¬ (textR l).getD ((textR l).length - 1) 0 = 37) (h3 : 46 ∈ textR l) : valF l = numT 4 (facF (headP (textR l)) (tailP (textR l))) := by unfold valF; rw [if_neg h, if_neg h1, if_neg h2, if_pos h3]
theorem valF_span {l : List Int} (h : ¬ (l = [] ∨ digitB (l.getD 0 0) = false)) (h1 : ¬ AllD (textR l)) (h2 : ¬ (textR l).getD ((textR l).length - 1) 0 = 37) (h3 : ¬ 46 ∈ textR l) : valF l = numT 6 (spanF (textR l)) := by unfold valF; rw [if_neg h, if_neg h1, if_neg h2, if_neg h3]
def RunesOk (l : List Int) : Prop := ∀ r ∈ l, r = -1 ∨ RuneOk r
theorem RunesOk.bd {l : List Int} (h : RunesOk l) : ∀ z ∈ l, -1 ≤ z ∧ z ≤ 1114111 := fun z hz => by
  rcases h z hz with rfl | ⟨h0, h1, _⟩ <;> omega
theorem runes_bad (ys : List Int) : runesOf (255 :: ys) = -1 :: runesOf ys := by
  have e := rfrom_in (zs := 255 :: ys) (i := 0) (by simp)
  have hw : wholeB (255 :: ys) 0 = false := by unfold wholeB; rfl
  have h1 : runeA (255 :: ys) 0 = -1 := by unfold runeA; rw [if_neg (by simp), hw]; rfl
  have h2 : widA (255 :: ys) 0 = 1 := by unfold widA; rw [hw]; rfl
  rw [h1, h2, Nat.zero_add] at e
  have r := runes_right [255] ys
  show rfrom (255 :: ys) 0 = _
  rw [e]
  exact congrArg _ r
theorem runes_text {l : List Int} (h : RunesOk l) : runesOf (textR l) = l := by
  induction l with
  | nil => exact runes_nil
  | cons r l ih =>
    have hl : RunesOk l := fun x hx => h x (List.mem_cons_of_mem _ hx)
    show runesOf (byteR r ++ textR l) = _
    rcases h r (List.mem_cons_self ..) with rfl | hr
    · show runesOf (255 :: textR l) = _
      rw [runes_bad, ih hl]
    · have e : byteR r = encL r := if_neg (by have := hr.1; omega)
      rw [e, runes_enc hr, ih hl]

end Go.Proofs.YtmgimkokmlcllaaGreatDoor
