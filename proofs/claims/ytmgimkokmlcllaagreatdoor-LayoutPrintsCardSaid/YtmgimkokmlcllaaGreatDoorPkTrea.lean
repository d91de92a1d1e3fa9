/-
  Trees: items, and what a source's tokens come to: plain.
-/
import Derived.Test.YtmgimkokmlcllaaGreatDoorPkScnp
import Derived.Test.YtmgimkokmlcllaaGreatDoorPkScnL
namespace Go.Proofs.YtmgimkokmlcllaaGreatDoor

structure Tk3 where
  k : Int := 0
  s : ByteArray := ⟨#[]⟩
  n : Int := 0
  a : Int := 0
  b : Int := 0
inductive It where
  | mk (name : ByteArray) (words : List Tk3) (block : Bool) (kids : List It) (a b : Int) : It
instance : Inhabited It := ⟨.mk ⟨#[]⟩ [] false [] 0 0⟩
def It.name : It → ByteArray | .mk n _ _ _ _ _ => n
def It.words : It → List Tk3 | .mk _ w _ _ _ _ => w
def It.block : It → Bool | .mk _ _ k _ _ _ => k
def It.kids : It → List It | .mk _ _ _ l _ _ => l
def It.a : It → Int | .mk _ _ _ _ a _ => a
def It.b : It → Int | .mk _ _ _ _ _ b => b
def cntL : List It → Nat
  | [] => 0
  | .mk _ _ _ kids _ _ :: l => 1 + cntL kids + cntL l
def depL : List It → Nat
  | [] => 0
  | .mk _ _ _ kids _ _ :: l => max (1 + depL kids) (depL l)
def Tk3.bare (t : Tk3) : Tk3 := { t with a := 0, b := 0 }
def bareL : List It → List It
  | [] => []
  | .mk n w k kids _ _ :: l => .mk n (w.map Tk3.bare) k (bareL kids) 0 0 :: bareL l
def toksL : List It → List Tk3
  | [] => []
  | .mk n w k kids a b :: l => { k := 1, s := n, a := a, b := b } :: (w ++ (if k then { k := 7 } :: (toksL kids ++ [{ k := 8 }]) else [{ k := 9 }])) ++ toksL l
structure Hd where
  name : ByteArray := ⟨#[]⟩
  words : List Tk3 := []
  a : Int := 0
  b : Int := 0
def Hd.it (h : Hd) (block : Bool) (kids : List It) : It := .mk h.name h.words block kids h.a h.b
def pushS (x : It) : List (Hd × List It) → List (Hd × List It)
  | [] => []
  | (h, l) :: st => (h, l ++ [x]) :: st
def popS : List (Hd × List It) → List (Hd × List It)
  | [] => []
  | (h, l) :: st => pushS (h.it true l) st
def trF : List Tk3 → List (Hd × List It) → Nat → Option Hd → Except (Int × Int × Int) (List It)
  | [], _, _, _ => .ok []
  | t :: T, st, n, some h =>
    if t.k = 9 then trF T (pushS (h.it false []) st) n none
    else if t.k = 7 then trF T ((h, []) :: st) n none
    else if t.k < 1 ∨ 6 < t.k then .error (6, t.a, t.b)
    else if 6 ≤ h.words.length then .error (9, t.a, t.b)
    else trF T st n (some { h with words := h.words ++ [t] })
  | t :: T, st, n, none =>
    if t.k = 8 ∧ 2 ≤ st.length then trF T (popS st) n none
    else if t.k = 0 ∧ st.length = 1 then .ok (st.headD ({}, [])).2
    else if t.k ≠ 1 then .error (6, t.a, t.b)
    else if 5 ≤ st.length then .error (19, t.a, t.b)
    else if 300 ≤ n then .error (9, t.a, t.b)
    else trF T st (n + 1) (some { name := t.s, a := t.a, b := t.b })

theorem cntL_app (l m : List It) : cntL (l ++ m) = cntL l + cntL m := by
  induction l with
  | nil => simp [cntL]
  | cons x l ih => obtain ⟨n, w, k, kids, a, b⟩ := x; simp only [List.cons_append, cntL, ih]; omega
theorem depL_app (l m : List It) : depL (l ++ m) = max (depL l) (depL m) := by
  induction l with
  | nil => simp [depL]
  | cons x l ih => obtain ⟨n, w, k, kids, a, b⟩ := x; simp only [List.cons_append, depL, ih]; omega
theorem bareL_app (l m : List It) : bareL (l ++ m) = bareL l ++ bareL m := by
  induction l with
  | nil => simp [bareL]
  | cons x l ih => obtain ⟨n, w, k, kids, a, b⟩ := x; simp only [List.cons_append, bareL, ih]
def cntS : List (Hd × List It) → Nat
  | [] => 0
  | (_, l) :: st => cntL l + (if st = [] then 0 else 1) + cntS st
def depS : List (Hd × List It) → Nat
  | [] => 0
  | (_, l) :: st => max (st.length + depL l) (depS st)
def oneO (o : Option Hd) : Nat := if o.isSome then 1 else 0
def depO (st : List (Hd × List It)) (o : Option Hd) : Nat := if o.isSome then max st.length (depS st) else depS st
theorem cntS_push (x : It) {st : List (Hd × List It)} (h : st ≠ []) : cntS (pushS x st) = cntS st + cntL [x] := by
  cases st with
  | nil => exact (h rfl).elim
  | cons y st => obtain ⟨hd, l⟩ := y; simp only [pushS, cntS, cntL_app]; omega
theorem push_ne (x : It) {st : List (Hd × List It)} (h : st ≠ []) : pushS x st ≠ [] := by
  cases st with
  | nil => exact (h rfl).elim
  | cons y st => obtain ⟨hd, l⟩ := y; simp [pushS]
theorem depS_push (x : It) {st : List (Hd × List It)} (h : st ≠ []) : depS (pushS x st) = max (st.length - 1 + depL [x]) (depS st) := by
  cases st with
  | nil => exact (h rfl).elim
  | cons y st => obtain ⟨hd, l⟩ := y; simp only [pushS, depS, depL_app, List.length_cons]; omega
theorem cntL_one (h : Hd) (k : Bool) (l : List It) : cntL [h.it k l] = 1 + cntL l := by simp [Hd.it, cntL]
theorem depL_one (h : Hd) (k : Bool) (l : List It) : depL [h.it k l] = 1 + depL l := by simp [Hd.it, depL]

def underS : List (Hd × List It) → List (Hd × List It) → List (Hd × List It)
  | [], K => K
  | [(_, M)], K => match K with
    | [] => []
    | (h, l) :: R => (h, l ++ M) :: R
  | x :: y :: st, K => x :: underS (y :: st) K
theorem under_len : ∀ {st K : List (Hd × List It)}, st ≠ [] → K ≠ [] → (underS st K).length = st.length + K.length - 1
  | [], _, h, _ => (h rfl).elim
  | [(_, M)], [], _, h => (h rfl).elim
  | [(_, M)], (h, l) :: R, _, _ => by simp [underS]
  | x :: y :: st, K, _, hK => by
    have := under_len (st := y :: st) (K := K) (by simp) hK
    simp only [underS, List.length_cons] at this ⊢
    omega
theorem under_push (x : It) : ∀ {st K : List (Hd × List It)}, st ≠ [] → K ≠ [] → underS (pushS x st) K = pushS x (underS st K)
  | [], _, h, _ => (h rfl).elim
  | [(_, M)], [], _, h => (h rfl).elim
  | [(_, M)], (h, l) :: R, _, _ => by simp [underS, pushS]
  | (hd, l) :: y :: st, K, _, hK => by simp [underS, pushS]
theorem under_cons (x : Hd × List It) {st K : List (Hd × List It)} (h : st ≠ []) : underS (x :: st) K = x :: underS st K := by
  cases st with
  | nil => exact (h rfl).elim
  | cons y st => rfl

theorem trF_step {t : Tk3} {T : List Tk3} {st : List (Hd × List It)} {n : Nat} {o : Option Hd} {L : List It} (h0 : t.k ≠ 0) (h : trF (t :: T) st n o = .ok L) :
    (∃ hd, o = some hd ∧ t.k = 9 ∧ trF T (pushS (hd.it false []) st) n none = .ok L) ∨ (∃ hd, o = some hd ∧ t.k = 7 ∧ trF T ((hd, []) :: st) n none = .ok L) ∨
    (∃ hd, o = some hd ∧ 1 ≤ t.k ∧ t.k ≤ 6 ∧ hd.words.length < 6 ∧ trF T st n (some { hd with words := hd.words ++ [t] }) = .ok L) ∨
    (o = none ∧ t.k = 8 ∧ ∃ hd l y st', st = (hd, l) :: y :: st' ∧ trF T (pushS (hd.it true l) (y :: st')) n none = .ok L) ∨
    (o = none ∧ t.k = 1 ∧ st.length ≤ 4 ∧ n < 300 ∧ trF T st (n + 1) (some { name := t.s, a := t.a, b := t.b }) = .ok L) := by
  cases o with
  | some hd =>
    rw [trF] at h
    by_cases h9 : t.k = 9
    · rw [if_pos h9] at h; exact Or.inl ⟨hd, rfl, h9, h⟩
    rw [if_neg h9] at h
    by_cases h7 : t.k = 7
    · rw [if_pos h7] at h; exact Or.inr (Or.inl ⟨hd, rfl, h7, h⟩)
    rw [if_neg h7] at h
    by_cases hw : t.k < 1 ∨ 6 < t.k
    · rw [if_pos hw] at h; cases h
    rw [if_neg hw] at h
    by_cases hl : 6 ≤ hd.words.length
    · rw [if_pos hl] at h; cases h
    rw [if_neg hl] at h
    exact Or.inr (Or.inr (Or.inl ⟨hd, rfl, by omega, by omega, by omega, h⟩))
  | none =>
    rw [trF] at h
    by_cases h8 : t.k = 8 ∧ 2 ≤ st.length
    · rw [if_pos h8] at h
      match st, h8, h with
      | (hd, l) :: y :: st', h8, h => exact Or.inr (Or.inr (Or.inr (Or.inl ⟨rfl, h8.1, hd, l, y, st', rfl, h⟩)))
      | [_], h8, _ => exact absurd h8.2 (by simp)
      | [], h8, _ => exact absurd h8.2 (by simp)
    rw [if_neg h8, if_neg (fun e => h0 e.1)] at h
    by_cases h1 : t.k = 1
    · rw [if_neg (by omega)] at h
      by_cases h5 : 5 ≤ st.length
      · rw [if_pos h5] at h; cases h
      rw [if_neg h5] at h
      by_cases h3 : 300 ≤ n
      · rw [if_pos h3] at h; cases h
      rw [if_neg h3] at h
      exact Or.inr (Or.inr (Or.inr (Or.inr ⟨rfl, h1, by omega, by omega, h⟩)))
    · rw [if_pos h1] at h; cases h
theorem trF_last {e : Tk3} (he : e.k = 0) {st : List (Hd × List It)} {n : Nat} {o : Option Hd} {L : List It} (h : trF [e] st n o = .ok L) : o = none ∧ ∃ h0, st = [(h0, L)] := by
  cases o with
  | some hd =>
    rw [trF, if_neg (by omega), if_neg (by omega), if_pos (by omega)] at h; cases h
  | none =>
    rw [trF, if_neg (by omega)] at h
    by_cases h1 : st.length = 1
    · rw [if_pos ⟨he, h1⟩] at h
      match st, h1, h with
      | [(h0, M)], _, h =>
        refine ⟨rfl, h0, ?_⟩
        injection h with h
        rw [← h]; rfl
    · rw [if_neg (fun x => h1 x.2), if_pos (by omega)] at h; cases h
theorem run_more {e : Tk3} (he : e.k = 0) : ∀ (T : List Tk3) (st : List (Hd × List It)) (n : Nat) (o : Option Hd) (L : List It),
    (∀ t ∈ T, t.k ≠ 0) → st ≠ [] → cntS st + oneO o = n → trF (T ++ [e]) st n o = .ok L → n ≤ cntL L ∧ depO st o ≤ depL L
  | [], st, n, o, L, _, _, hc, h => by
    obtain ⟨rfl, h0, rfl⟩ := trF_last he h
    simp [cntS, oneO] at hc
    simp [depO, depS]; omega
  | t :: T, st, n, o, L, hT, hs, hc, h => by
    have ih := run_more he T
    have hT2 : ∀ t ∈ T, t.k ≠ 0 := fun x hx => hT x (List.mem_cons_of_mem _ hx)
    have h0 := hT t (List.mem_cons_self ..)
    rcases trF_step h0 h with ⟨hd, rfl, _, h⟩ | ⟨hd, rfl, _, h⟩ | ⟨hd, rfl, _, _, _, h'⟩ | ⟨rfl, _, hd, l, y, st', rfl, h'⟩ | ⟨rfl, _, _, _, h⟩
    · have := ih _ n none L hT2 (push_ne _ hs) (by rw [cntS_push _ hs, cntL_one]; simp [oneO, cntL] at hc ⊢; omega) h
      simp only [depO, Option.isSome_none, Option.isSome_some, if_true, Bool.false_eq_true, if_false] at this ⊢
      rw [depS_push _ hs, depL_one] at this
      simp [depL] at this
      have hp : 0 < st.length := List.length_pos_iff.mpr hs
      omega
    · have := ih _ n none L hT2 (by simp) (by simp [cntS, cntL, oneO, hs] at hc ⊢; omega) h
      simp only [depO, Option.isSome_none, Option.isSome_some, if_true, Bool.false_eq_true, if_false, depS] at this ⊢
      simp [depL] at this
      omega
    · exact ih _ n (some { hd with words := hd.words ++ [t] }) L hT2 hs hc h'
    · have hy : (y :: st') ≠ [] := by simp
      have := ih _ n none L hT2 (push_ne _ hy) (by rw [cntS_push _ hy, cntL_one]; simp [oneO, cntS] at hc ⊢; omega) h'
      simp only [depO, Option.isSome_none, Bool.false_eq_true, if_false] at this ⊢
      rw [depS_push _ hy, depL_one] at this
      rw [depS]
      simp only [List.length_cons] at this ⊢
      omega
    · have := ih _ (n + 1) _ L hT2 hs (by simp [oneO] at hc ⊢; omega) h
      simp only [depO, Option.isSome_none, Option.isSome_some, if_true, Bool.false_eq_true, if_false] at this ⊢
      omega

theorem ctx_run {K : List (Hd × List It)} (hK : K ≠ []) (c : Nat) (T' : List Tk3) (e : Tk3) (he : e.k = 0) : ∀ (T : List Tk3) (st : List (Hd × List It)) (n : Nat) (o : Option Hd) (L : List It),
    (∀ t ∈ T, t.k ≠ 0) → st ≠ [] → cntS st + oneO o = n → n + c ≤ 300 → depO st o + (K.length - 1) ≤ 4 → trF (T ++ [e]) st n o = .ok L →
    (trF (T ++ T') (underS st K) (n + c) o = trF T' (underS [({}, L)] K) (cntL L + c) none ∧ cntL L + c ≤ 300 ∧ depL L + (K.length - 1) ≤ 4) ∨
    (∃ a b, trF (T ++ T') (underS st K) (n + c) o = .error (9, a, b) ∧ 300 < cntL L + c) ∨
    (∃ a b, trF (T ++ T') (underS st K) (n + c) o = .error (19, a, b) ∧ 4 < depL L + (K.length - 1))
  | [], st, n, o, L, _, hs, hc, hn, hd, h => by
    obtain ⟨rfl, h0, rfl⟩ := trF_last he h
    refine Or.inl ⟨?_, ?_, ?_⟩
    · have e1 : n = cntL L := by simp [cntS, oneO] at hc; omega
      rw [e1]
      have e2 : underS [(h0, L)] K = underS [({}, L)] K := by cases K <;> rfl
      rw [e2]; rfl
    · simp [cntS, oneO] at hc; omega
    · simp [depO, depS] at hd; omega
  | t :: T, st, n, o, L, hT, hs, hc, hn, hd, h => by
    have ih := ctx_run hK c T' e he T
    have hT2 : ∀ t ∈ T, t.k ≠ 0 := fun x hx => hT x (List.mem_cons_of_mem _ hx)
    have h0 := hT t (List.mem_cons_self ..)
    have hp : 0 < st.length := List.length_pos_iff.mpr hs
    have hkp : 0 < K.length := List.length_pos_iff.mpr hK
    rcases trF_step h0 h with ⟨hd', rfl, hk, h⟩ | ⟨hd', rfl, hk, h⟩ | ⟨hd', rfl, hk1, hk2, hl, h'⟩ | ⟨rfl, hk, hd', l, y, st', rfl, h'⟩ | ⟨rfl, hk, hl4, hn3, h⟩
    · have := ih _ n none L hT2 (push_ne _ hs) (by rw [cntS_push _ hs, cntL_one]; simp [oneO, cntL] at hc ⊢; omega) hn (by
        simp only [depO, Option.isSome_none, Option.isSome_some, if_true, Bool.false_eq_true, if_false] at hd ⊢
        rw [depS_push _ hs, depL_one]
        simp [depL]
        omega) h
      rw [under_push _ hs hK] at this
      rw [List.cons_append, trF, if_pos hk]
      exact this
    · have := ih _ n none L hT2 (by simp) (by simp [cntS, cntL, oneO, hs] at hc ⊢; omega) hn (by
        simp only [depO, Option.isSome_none, Option.isSome_some, if_true, Bool.false_eq_true, if_false, depS] at hd ⊢
        simp [depL]
        omega) h
      rw [under_cons _ hs] at this
      rw [List.cons_append, trF, if_neg (by omega), if_pos hk]
      exact this
    · have := ih _ n (some { hd' with words := hd'.words ++ [t] }) L hT2 hs hc hn hd h'
      rw [List.cons_append, trF, if_neg (by omega), if_neg (by omega), if_neg (by omega), if_neg (by omega)]
      exact this
    · have hy : (y :: st') ≠ [] := by simp
      have := ih _ n none L hT2 (push_ne _ hy) (by rw [cntS_push _ hy, cntL_one]; simp [oneO, cntS] at hc ⊢; omega) hn (by
        simp only [depO, Option.isSome_none, Bool.false_eq_true, if_false] at hd ⊢
        rw [depS_push _ hy, depL_one]
        rw [depS] at hd
        simp only [List.length_cons] at hd ⊢
        omega) h'
      rw [under_push _ hy hK] at this
      have hul := under_len (st := y :: st') (K := K) hy hK
      have e1 : underS ((hd', l) :: y :: st') K = (hd', l) :: underS (y :: st') K := rfl
      rw [e1, List.cons_append, trF, if_pos ⟨hk, by simp only [List.length_cons] at hul ⊢; omega⟩]
      exact this
    · have hm := run_more he T st (n + 1) _ L hT2 hs (by simp [oneO] at hc ⊢; omega) h
      simp only [depO, Option.isSome_some, if_true] at hm
      have hul := under_len hs hK
      rw [List.cons_append, trF, if_neg (by omega), if_neg (by omega), if_neg (by omega)]
      by_cases h5 : 5 ≤ (underS st K).length
      · rw [if_pos h5]
        exact Or.inr (Or.inr ⟨_, _, rfl, by omega⟩)
      rw [if_neg h5]
      by_cases h3 : 300 ≤ n + c
      · rw [if_pos h3]
        exact Or.inr (Or.inl ⟨_, _, rfl, by omega⟩)
      rw [if_neg h3]
      have := ih st (n + 1) _ L hT2 hs (by simp [oneO] at hc ⊢; omega) (by omega) (by
        simp only [depO, Option.isSome_none, Option.isSome_some, if_true, Bool.false_eq_true, if_false] at hd ⊢
        omega) h
      have e1 : n + c + 1 = n + 1 + c := by omega
      rw [e1]
      exact this

end Go.Proofs.YtmgimkokmlcllaaGreatDoor

/-
  Trees: places play no part; all tokens are there: plain.
-/
namespace Go.Proofs.YtmgimkokmlcllaaGreatDoor

def Hd.bare (h : Hd) : Hd := { h with words := h.words.map Tk3.bare, a := 0, b := 0 }
def bareS (st : List (Hd × List It)) : List (Hd × List It) := st.map fun x => (x.1.bare, bareL x.2)
def bareE : Except (Int × Int × Int) (List It) → Except (Int × Int × Int) (List It)
  | .ok L => .ok (bareL L)
  | .error (c, _, _) => .error (c, 0, 0)
theorem bare_it (h : Hd) (k : Bool) (l : List It) : bareL [h.it k l] = [h.bare.it k (bareL l)] := by simp [Hd.it, Hd.bare, bareL]
theorem bareL_nil : bareL [] = [] := by simp [bareL]
theorem bare_push (h : Hd) (k : Bool) (l : List It) (st : List (Hd × List It)) : bareS (pushS (h.it k l) st) = pushS (h.bare.it k (bareL l)) (bareS st) := by
  cases st with
  | nil => rfl
  | cons x st =>
    simp only [pushS, bareS, List.map_cons, bareL_app]
    rw [bare_it]
theorem bare_pop (st : List (Hd × List It)) : bareS (popS st) = popS (bareS st) := by
  cases st with
  | nil => rfl
  | cons x st => exact bare_push _ _ _ _
theorem trF_bare : ∀ (T : List Tk3) (st : List (Hd × List It)) (n : Nat) (o : Option Hd), trF (T.map Tk3.bare) (bareS st) n (o.map Hd.bare) = bareE (trF T st n o)
  | [], _, _, _ => by simp [trF, bareE, bareL]
  | t :: T, st, n, some h => by
    rw [List.map_cons, Option.map_some, trF, trF]
    have hk : t.bare.k = t.k := rfl
    rw [hk]
    by_cases h9 : t.k = 9
    · rw [if_pos h9, if_pos h9, ← trF_bare T, bare_push, bareL_nil]; rfl
    rw [if_neg h9, if_neg h9]
    by_cases h7 : t.k = 7
    · rw [if_pos h7, if_pos h7, ← trF_bare T]
      show _ = trF _ ((h.bare, bareL []) :: bareS st) n none
      rw [bareL_nil]
    rw [if_neg h7, if_neg h7]
    by_cases hw : t.k < 1 ∨ 6 < t.k
    · rw [if_pos hw, if_pos hw]; rfl
    rw [if_neg hw, if_neg hw]
    have hl : h.bare.words.length = h.words.length := by simp [Hd.bare]
    rw [hl]
    by_cases h6 : 6 ≤ h.words.length
    · rw [if_pos h6, if_pos h6]; rfl
    rw [if_neg h6, if_neg h6, ← trF_bare T]
    congr 1
    simp [Hd.bare]
  | t :: T, st, n, none => by
    rw [List.map_cons, Option.map_none, trF, trF]
    have hk : t.bare.k = t.k := rfl
    have hl : (bareS st).length = st.length := by simp [bareS]
    rw [hk, hl]
    by_cases h8 : t.k = 8 ∧ 2 ≤ st.length
    · rw [if_pos h8, if_pos h8, ← trF_bare T, bare_pop]; rfl
    rw [if_neg h8, if_neg h8]
    by_cases h0 : t.k = 0 ∧ st.length = 1
    · rw [if_pos h0, if_pos h0]
      match st, h0 with
      | [(hd, l)], _ => rfl
    rw [if_neg h0, if_neg h0]
    by_cases h1 : t.k ≠ 1
    · rw [if_pos h1, if_pos h1]; rfl
    rw [if_neg h1, if_neg h1]
    by_cases h5 : 5 ≤ st.length
    · rw [if_pos h5, if_pos h5]; rfl
    rw [if_neg h5, if_neg h5]
    by_cases h3 : 300 ≤ n
    · rw [if_pos h3, if_pos h3]; rfl
    rw [if_neg h3, if_neg h3, ← trF_bare T]
    rfl

def Hd.toks (h : Hd) : List Tk3 := { k := 1, s := h.name, a := h.a, b := h.b } :: h.words
def toksO : Option Hd → List Tk3
  | none => []
  | some h => h.toks
def toksS : List (Hd × List It) → List Tk3
  | [] => []
  | (h, l) :: st => toksS st ++ (if st = [] then [] else h.toks ++ [{ k := 7 }]) ++ toksL l
def Tk3.norm (t : Tk3) : Tk3 := if t.k ≤ 6 then t else { t with a := 0, b := 0 }
structure Tk3.Ok (t : Tk3) : Prop where
  name : t.k = 1 → t.n = 0
  mark : 6 < t.k → t.s = ⟨#[]⟩ ∧ t.n = 0
end Go.Proofs.YtmgimkokmlcllaaGreatDoor

/-
  Tokens of sources one behind the other, with a line feed between: plain.
-/
namespace Go.Proofs.YtmgimkokmlcllaaGreatDoor

theorem tokF_one_step {l : List Int} {i : Nat} (hi : i < l.length) :
    ((gapB ((l.drop i).getD 0 0) = true ∨ (l.drop i).getD 0 0 = 35) ∧ tokF l i = tokF l (i + pieceN (l.drop i))) ∨
    (gapB ((l.drop i).getD 0 0) = false ∧ (l.drop i).getD 0 0 ≠ 35 ∧ tokF l i = if (tokP ((l.drop i).take (pieceN (l.drop i)))).2 = 0 then (tokF l (i + pieceN (l.drop i))).map (fun L => ((tokP ((l.drop i).take (pieceN (l.drop i)))).1, i) :: L) else .error (i, (tokP ((l.drop i).take (pieceN (l.drop i)))).2)) := by
  have h0 : (l.drop i).getD 0 0 = l.getD i 0 := by
    rw [List.getD_eq_getElem?_getD, List.getElem?_drop, List.getD_eq_getElem?_getD]; rfl
  rw [h0]
  by_cases h35 : l.getD i 0 = 35
  · exact Or.inl ⟨Or.inr h35, tokF_skip hi (Or.inr h35)⟩
  cases hg : gapB (l.getD i 0) with
  | true => exact Or.inl ⟨Or.inl rfl, tokF_skip hi (Or.inl hg)⟩
  | false => exact Or.inr ⟨rfl, h35, tokF_piece hi hg h35⟩
def laterE (k : Nat) : Except (Nat × Int) (List (TkV × Nat)) → Except (Nat × Int) (List (TkV × Nat))
  | .ok L => .ok (L.map fun x => (x.1, x.2 + k))
  | .error (i, c) => .error (i + k, c)
end Go.Proofs.YtmgimkokmlcllaaGreatDoor

/-
  Trees of sources: one behind the other, one within the other, all tokens: plain.
-/
namespace Go.Proofs.YtmgimkokmlcllaaGreatDoor

structure TkGood (t : TkV) : Prop where
  some : t.kind ≠ 0
  name : t.kind = 1 → t.n = 0
  mark : 6 < t.kind → t.text = [] ∧ t.n = 0
theorem numT_good {k : Nat} {p : Nat × Int} (h1 : k ≠ 0) (h2 : k ≠ 1) (h3 : k ≤ 6) (h : (numT k p).2 = 0) : TkGood (numT k p).1 := by
  unfold numT at h ⊢
  split
  · exact ⟨h1, fun e => (h2 e).elim, fun e => absurd e (by simp only; omega)⟩
  · rename_i hn; rw [if_neg hn] at h; exact (hn h).elim
theorem valF_good {l : List Int} (h : (valF l).2 = 0) : TkGood (valF l).1 := by
  by_cases h1 : l = [] ∨ digitB (l.getD 0 0) = false
  · by_cases hn : NameL l
    · rw [valF_name h1 hn]; exact ⟨fun e => (by cases e), fun _ => rfl, fun e => absurd e (by simp)⟩
    · rw [valF_none h1 hn] at h; cases h
  by_cases h2 : AllD (textR l)
  · rw [valF_count h1 h2] at h ⊢; exact numT_good (by decide) (by decide) (by decide) h
  by_cases h3 : (textR l).getD ((textR l).length - 1) 0 = 37
  · rw [valF_share h1 h2 h3] at h ⊢; exact numT_good (by decide) (by decide) (by decide) h
  by_cases h4 : 46 ∈ textR l
  · rw [valF_factor h1 h2 h3 h4] at h ⊢; exact numT_good (by decide) (by decide) (by decide) h
  · rw [valF_span h1 h2 h3 h4] at h ⊢; exact numT_good (by decide) (by decide) (by decide) h
theorem tokP_good {p : List Int} (h : (tokP p).2 = 0) : TkGood (tokP p).1 := by
  unfold tokP at h ⊢
  split
  · exact ⟨fun e => (by cases e), fun e => (by cases e), fun _ => ⟨rfl, rfl⟩⟩
  split
  · exact ⟨fun e => (by cases e), fun e => (by cases e), fun _ => ⟨rfl, rfl⟩⟩
  split
  · exact ⟨fun e => (by cases e), fun e => (by cases e), fun _ => ⟨rfl, rfl⟩⟩
  split
  · rename_i a b c d
    rw [if_neg a, if_neg b, if_neg c, if_pos d] at h
    split
    · exact ⟨fun e => (by cases e), fun e => (by cases e), fun e => absurd e (by simp)⟩
    · rename_i hn; rw [if_neg hn] at h; exact (hn h).elim
  · rename_i a b c d
    rw [if_neg a, if_neg b, if_neg c, if_neg d] at h
    exact valF_good h
theorem tokF_good (l : List Int) : ∀ (n i : Nat) (L : List (TkV × Nat)), l.length - i ≤ n → tokF l i = .ok L → ∀ x ∈ L, TkGood x.1
  | n, i, L, hn, h => by
    by_cases hi : i < l.length
    · match n, hn with
      | 0, hn => omega
      | n + 1, hn =>
        have hb := pieceN_bd (m := l.drop i) (by rw [List.length_drop]; omega)
        rcases tokF_one_step hi with ⟨_, e⟩ | ⟨_, _, e⟩
        · rw [e] at h
          exact tokF_good l n _ L (by omega) h
        · rw [e] at h
          by_cases hc : (tokP ((l.drop i).take (pieceN (l.drop i)))).2 = 0
          · rw [if_pos hc] at h
            cases hr : tokF l (i + pieceN (l.drop i)) with
            | error x => rw [hr] at h; cases h
            | ok L2 =>
              rw [hr] at h
              have el : L = ((tokP ((l.drop i).take (pieceN (l.drop i)))).1, i) :: L2 := by injection h with h; exact h.symm
              intro x hx
              rw [el] at hx
              rcases List.mem_cons.mp hx with rfl | hx
              · exact tokP_good hc
              · exact tokF_good l n _ L2 (by omega) hr x hx
          · rw [if_neg hc] at h; cases h
    · rw [tokF_end (by omega)] at h
      injection h with h
      subst h
      intro x hx; cases hx

def tk3 (l : List Int) (p : TkV × Nat) : Tk3 := { k := (p.1.kind : Int), s := strOfNums p.1.text, n := (p.1.n : Int), a := (spotAt l p.2).1, b := (spotAt l p.2).2 }
theorem tk3_good {l : List Int} {x : TkV × Nat} (h : TkGood x.1) : (tk3 l x).k ≠ 0 ∧ (tk3 l x).Ok := by
  refine ⟨?_, ?_, ?_⟩
  · have := h.some; show (x.1.kind : Int) ≠ 0; omega
  · intro e
    have e2 : (x.1.kind : Int) = 1 := e
    have := h.name (by omega)
    show (x.1.n : Int) = 0; omega
  · intro e
    have e2 : 6 < (x.1.kind : Int) := e
    have := h.mark (by omega)
    exact ⟨by show strOfNums x.1.text = _; rw [this.1]; rfl, by show (x.1.n : Int) = 0; omega⟩
noncomputable def treF (l : List Int) : Except (Int × Int × Int) (List It) := match tokF l 0 with
  | .error (k, c) => .error (c, (spotAt l k).1, (spotAt l k).2)
  | .ok L => trF (L.map (tk3 l) ++ [tk3 l (tk0, l.length)]) [({}, [])] 0 none
theorem treF_bad {l : List Int} {k : Nat} {c : Int} (h : tokF l 0 = .error (k, c)) : treF l = .error (c, (spotAt l k).1, (spotAt l k).2) := by unfold treF; rw [h]
theorem treF_fine {l : List Int} {L : List (TkV × Nat)} (h : tokF l 0 = .ok L) : treF l = trF (L.map (tk3 l) ++ [tk3 l (tk0, l.length)]) [({}, [])] 0 none := by unfold treF; rw [h]
theorem treF_toks {l : List Int} {I : List It} (h : treF l = .ok I) : ∃ L, tokF l 0 = .ok L ∧ trF (L.map (tk3 l) ++ [tk3 l (tk0, l.length)]) [({}, [])] 0 none = .ok I := by
  cases ht : tokF l 0 with
  | error x => obtain ⟨k, c⟩ := x; rw [treF_bad ht] at h; cases h
  | ok L => rw [treF_fine ht] at h; exact ⟨L, rfl, h⟩
theorem cntL_bare : ∀ L : List It, cntL (bareL L) = cntL L
  | [] => by simp [bareL]
  | .mk n w k kids a b :: L => by rw [bareL, cntL, cntL, cntL_bare kids, cntL_bare L]
theorem depL_bare : ∀ L : List It, depL (bareL L) = depL L
  | [] => by simp [bareL]
  | .mk n w k kids a b :: L => by rw [bareL, depL, depL, depL_bare kids, depL_bare L]
def tkB (t : TkV) : Tk3 := { k := (t.kind : Int), s := strOfNums t.text, n := (t.n : Int) }
theorem bare_toks (l : List Int) (L : List (TkV × Nat)) : (L.map (tk3 l)).map Tk3.bare = L.map (fun x => tkB x.1) := by
  rw [List.map_map]; rfl
theorem tre_bare {l : List Int} {L : List (TkV × Nat)} (hL : tokF l 0 = .ok L) : trF (L.map (fun x => tkB x.1) ++ [tkB tk0]) [({}, [])] 0 none = bareE (treF l) := by
  rw [treF_fine hL, ← trF_bare]
  have : bareS [({}, [])] = [({}, [])] := by simp [bareS, bareL, Hd.bare]
  rw [List.map_append, bare_toks, this]; rfl
theorem run_ok {T : List Tk3} {e : Tk3} (he : e.k = 0) (hT : ∀ t ∈ T, t.k ≠ 0) {I : List It} (h : trF (T ++ [e]) [({}, [])] 0 none = .ok I) : cntL I ≤ 300 ∧ depL I ≤ 4 := by
  have hu : underS [(({} : Hd), ([] : List It))] [({}, [])] = [({}, [])] := rfl
  rcases ctx_run (K := [({}, [])]) (by simp) 0 [e] e he T [({}, [])] 0 none I hT (by simp) (by simp [cntS, cntL, oneO]) (by omega) (by simp [depO, depS, depL]) h with ⟨_, h1, h2⟩ | ⟨a, b, h1, _⟩ | ⟨a, b, h1, _⟩
  · simp at h2; omega
  · rw [hu, Nat.add_zero, h] at h1; cases h1
  · rw [hu, Nat.add_zero, h] at h1; cases h1
theorem tkB_some {l : List Int} {L : List (TkV × Nat)} (hL : tokF l 0 = .ok L) : ∀ t ∈ L.map (fun x => tkB x.1), t.k ≠ 0 := fun t ht => by
  obtain ⟨x, hx, rfl⟩ := List.mem_map.mp ht
  have := (tokF_good l _ _ L (Nat.le_refl _) hL x hx).some
  show (x.1.kind : Int) ≠ 0; omega
theorem bareE_ok {x : Except (Int × Int × Int) (List It)} {I : List It} (h : bareE x = .ok I) : ∃ J, x = .ok J ∧ I = bareL J := by
  cases x with
  | error y => obtain ⟨c, a, b⟩ := y; cases h
  | ok J => injection h with h; exact ⟨J, rfl, h.symm⟩
theorem tre_few {l : List Int} {I : List It} (h : treF l = .ok I) : cntL I ≤ 300 ∧ depL I ≤ 4 := by
  obtain ⟨L, hL, _⟩ := treF_toks h
  have hb := tre_bare hL
  rw [h] at hb
  have := run_ok (e := tkB tk0) rfl (tkB_some hL) hb
  rw [cntL_bare, depL_bare] at this
  exact this
end Go.Proofs.YtmgimkokmlcllaaGreatDoor

/-
  Trees: what a list and an item of the program make of the tokens, under whatever open blocks: plain.
-/
namespace Go.Proofs.YtmgimkokmlcllaaGreatDoor

def TEnd (T : List Tk3) : Prop := ∃ T1 e, T = T1 ++ [e] ∧ e.k = 0 ∧ ∀ t ∈ T1, t.k ≠ 0
theorem TEnd.split {T : List Tk3} (h : TEnd T) : ∃ t T', T = t :: T' ∧ (t.k = 0 ∧ T' = [] ∨ t.k ≠ 0 ∧ TEnd T') := by
  obtain ⟨T1, e, rfl, he, h1⟩ := h
  cases T1 with
  | nil => exact ⟨e, [], rfl, Or.inl ⟨he, rfl⟩⟩
  | cons t T1 => exact ⟨t, T1 ++ [e], rfl, Or.inr ⟨h1 t (List.mem_cons_self ..), T1, e, rfl, he, fun x hx => h1 x (List.mem_cons_of_mem _ hx)⟩⟩
def LRun (d : Nat) (T0 : List Tk3) (n0 : Nat) (acc : List It) (T : List Tk3) (n : Nat) : Prop := ∀ h l R, R.length + 1 = d → trF T0 ((h, l) :: R) n0 none = trF T ((h, l ++ acc) :: R) n none
def LBad (d : Nat) (T0 : List Tk3) (n0 : Nat) (c a b : Int) : Prop := ∀ h l R, R.length + 1 = d → trF T0 ((h, l) :: R) n0 none = .error (c, a, b)
def LDone (d : Nat) (T0 : List Tk3) (n0 : Nat) (L : List It) (T : List Tk3) (n : Nat) : Prop :=
  (d = 1 → ∀ h l, trF T0 [(h, l)] n0 none = .ok (l ++ L)) ∧ (∀ h l y R, R.length + 2 = d → trF T0 ((h, l) :: y :: R) n0 none = trF T (pushS (h.it true (l ++ L)) (y :: R)) n none)
def IRun (d : Nat) (hd : Hd) (T0 : List Tk3) (n0 : Nat) (x : It) (T : List Tk3) (n : Nat) : Prop := ∀ h l R, R.length + 1 = d → trF T0 ((h, l) :: R) n0 (some hd) = trF T ((h, l ++ [x]) :: R) n none
def IPart (d : Nat) (hd : Hd) (T0 : List Tk3) (hd' : Hd) (T : List Tk3) : Prop := ∀ n h l R, R.length + 1 = d → trF T0 ((h, l) :: R) n (some hd) = trF T ((h, l) :: R) n (some hd')
def IBad (d : Nat) (hd : Hd) (T0 : List Tk3) (n0 : Nat) (c a b : Int) : Prop := ∀ h l R, R.length + 1 = d → trF T0 ((h, l) :: R) n0 (some hd) = .error (c, a, b)
theorem LRun.start (d : Nat) (T : List Tk3) (n : Nat) : LRun d T n [] T n := fun h l R _ => by rw [List.append_nil]
theorem IPart.start (d : Nat) (hd : Hd) (T : List Tk3) : IPart d hd T hd T := fun _ _ _ _ _ => rfl
theorem IPart.word {d : Nat} {hd hd' : Hd} {T0 T : List Tk3} {t : Tk3} (h : IPart d hd T0 hd' (t :: T)) (h1 : 1 ≤ t.k) (h2 : t.k ≤ 6) (h3 : hd'.words.length < 6) : IPart d hd T0 { hd' with words := hd'.words ++ [t] } T := fun n x l R hR => by
  rw [h n x l R hR, trF, if_neg (by omega), if_neg (by omega), if_neg (by omega), if_neg (by omega)]
theorem IPart.long {d n : Nat} {hd hd' : Hd} {T0 T : List Tk3} {t : Tk3} (h : IPart d hd T0 hd' (t :: T)) (h1 : 1 ≤ t.k) (h2 : t.k ≤ 6) (h3 : 6 ≤ hd'.words.length) : IBad d hd T0 n 9 t.a t.b := fun x l R hR => by
  rw [h n x l R hR, trF, if_neg (by omega), if_neg (by omega), if_neg (by omega), if_pos h3]
theorem IPart.form {d n : Nat} {hd hd' : Hd} {T0 T : List Tk3} {t : Tk3} (h : IPart d hd T0 hd' (t :: T)) (h1 : t.k < 1 ∨ 6 < t.k) (h2 : t.k ≠ 9) (h3 : t.k ≠ 7) : IBad d hd T0 n 6 t.a t.b := fun x l R hR => by
  rw [h n x l R hR, trF, if_neg h2, if_neg h3, if_pos h1]
theorem IPart.stop {d n : Nat} {hd hd' : Hd} {T0 T : List Tk3} {t : Tk3} (h : IPart d hd T0 hd' (t :: T)) (h1 : t.k = 9) : IRun d hd T0 n (hd'.it false []) T n := fun x l R hR => by
  rw [h n x l R hR, trF, if_pos h1]; rfl
theorem IPart.block {d n n' : Nat} {hd hd' : Hd} {T0 T T' : List Tk3} {t : Tk3} {L : List It} (h : IPart d hd T0 hd' (t :: T)) (h1 : t.k = 7) (hL : LDone (d + 1) T n L T' n') : IRun d hd T0 n (hd'.it true L) T' n' := fun x l R hR => by
  rw [h n x l R hR, trF, if_neg (by omega), if_pos h1, hL.2 hd' [] (x, l) R (by omega)]; rfl
theorem IPart.bad {d n : Nat} {hd hd' : Hd} {T0 T : List Tk3} {t : Tk3} {c a b : Int} (h : IPart d hd T0 hd' (t :: T)) (h1 : t.k = 7) (hL : LBad (d + 1) T n c a b) : IBad d hd T0 n c a b := fun x l R hR => by
  rw [h n x l R hR, trF, if_neg (by omega), if_pos h1]
  exact hL hd' [] ((x, l) :: R) (by simp only [List.length_cons]; omega)
def endK (d : Nat) : Int := if d = 1 then 0 else 8
theorem LRun.more {d n0 n n' : Nat} {T0 T T' : List Tk3} {acc : List It} {t : Tk3} {x : It} (h : LRun d T0 n0 acc (t :: T) n) (hk : t.k = 1) (hd : d ≤ 4) (hn : n < 300) (hi : IRun d { name := t.s, a := t.a, b := t.b } T (n + 1) x T' n') : LRun d T0 n0 (acc ++ [x]) T' n' := fun y l R hR => by
  rw [h y l R hR, trF, if_neg (by omega), if_neg (by omega), if_neg (by omega), if_neg (by simp only [List.length_cons]; omega), if_neg (by omega), hi y (l ++ acc) R hR, List.append_assoc]
theorem LRun.bad {d n0 n : Nat} {T0 T : List Tk3} {acc : List It} {t : Tk3} {c a b : Int} (h : LRun d T0 n0 acc (t :: T) n) (hk : t.k = 1) (hd : d ≤ 4) (hn : n < 300) (hi : IBad d { name := t.s, a := t.a, b := t.b } T (n + 1) c a b) : LBad d T0 n0 c a b := fun y l R hR => by
  rw [h y l R hR, trF, if_neg (by omega), if_neg (by omega), if_neg (by omega), if_neg (by simp only [List.length_cons]; omega), if_neg (by omega), hi y (l ++ acc) R hR]
theorem LRun.form {d n0 n : Nat} {T0 T : List Tk3} {acc : List It} {t : Tk3} (h : LRun d T0 n0 acc (t :: T) n) (he : t.k ≠ endK d) (hk : t.k ≠ 1) : LBad d T0 n0 6 t.a t.b := fun y l R hR => by
  unfold endK at he
  rw [h y l R hR, trF, if_neg (by simp only [List.length_cons]; rintro ⟨e1, e2⟩; rw [if_neg (by omega)] at he; exact he e1), if_neg (by simp only [List.length_cons]; rintro ⟨e1, e2⟩; rw [if_pos (by omega)] at he; exact he e1), if_pos hk]
theorem LRun.deep {d n0 n : Nat} {T0 T : List Tk3} {acc : List It} {t : Tk3} (h : LRun d T0 n0 acc (t :: T) n) (hk : t.k = 1) (hd : 4 < d) : LBad d T0 n0 19 t.a t.b := fun y l R hR => by
  rw [h y l R hR, trF, if_neg (by omega), if_neg (by omega), if_neg (by omega), if_pos (by simp only [List.length_cons]; omega)]
theorem LRun.long {d n0 n : Nat} {T0 T : List Tk3} {acc : List It} {t : Tk3} (h : LRun d T0 n0 acc (t :: T) n) (hk : t.k = 1) (hd : d ≤ 4) (hn : 300 ≤ n) : LBad d T0 n0 9 t.a t.b := fun y l R hR => by
  rw [h y l R hR, trF, if_neg (by omega), if_neg (by omega), if_neg (by omega), if_neg (by simp only [List.length_cons]; omega), if_pos hn]
theorem LRun.done {d n0 n : Nat} {T0 T : List Tk3} {acc : List It} {t : Tk3} (h : LRun d T0 n0 acc (t :: T) n) (he : t.k = endK d) : LDone d T0 n0 acc T n := by
  refine ⟨fun h1 y l => ?_, fun y l z R hR => ?_⟩
  · unfold endK at he
    rw [if_pos h1] at he
    rw [h y l [] (by simpa using h1.symm), trF, if_neg (by omega), if_pos ⟨he, rfl⟩]; rfl
  · unfold endK at he
    rw [if_neg (by omega)] at he
    rw [h y l (z :: R) (by simp only [List.length_cons]; omega), trF, if_pos ⟨he, by simp⟩]; rfl
theorem LDone.all {T0 T : List Tk3} {n : Nat} {L : List It} (h : LDone 1 T0 0 L T n) : trF T0 [({}, [])] 0 none = .ok L := h.1 rfl {} []
theorem LBad.all {T0 : List Tk3} {c a b : Int} (h : LBad 1 T0 0 c a b) : trF T0 [({}, [])] 0 none = .error (c, a, b) := h {} [] [] rfl

end Go.Proofs.YtmgimkokmlcllaaGreatDoor
