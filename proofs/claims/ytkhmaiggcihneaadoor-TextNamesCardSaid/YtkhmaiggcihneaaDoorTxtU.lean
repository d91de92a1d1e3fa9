/-
  Quoted texts, rune by rune: what is known behind each, and what comes out in the end: plain arithmetic. No program in sight.
-/
import Derived.Test.YtkhmaiggcihneaaDoorTxtS
namespace Go.Proofs.YtkhmaiggcihneaaDoor

/-- What is known behind some runes: nothing yet, within, behind a backslash, behind its u, within its digits, behind the last mark, that it is no quoted text. -/
inductive Qs where
  | start | norm (xs : List Int) | esc (xs : List Int) | uni (xs : List Int) | hex (xs : List Int) (k : Nat) (x : Int) | done (xs : List Int) | dead
def hexV (r : Int) : Int := if 48 ≤ r ∧ r ≤ 57 then r - 48 else if 97 ≤ r ∧ r ≤ 102 then r - 87 else -1
def ustep : Qs → Int → Qs
  | .start, r => if r = 34 then .norm [] else .dead
  | .norm xs, r => if r = 34 then .done xs else if r < 32 ∨ r = 127 then .dead else if r = 92 then .esc xs else .norm (xs ++ [r])
  | .esc xs, r => if r = 34 ∨ r = 92 then .norm (xs ++ [r]) else if r = 110 then .norm (xs ++ [10]) else if r = 116 then .norm (xs ++ [9]) else if r = 117 then .uni xs else .dead
  | .uni xs, r => if r = 123 then .hex xs 0 0 else .dead
  | .hex xs k x, r => if 0 ≤ hexV r ∧ k < 6 then .hex xs (k + 1) (16 * x + hexV r) else if r = 125 ∧ k ≠ 0 ∧ x ≤ 1114111 ∧ ¬ (55296 ≤ x ∧ x < 57344) then .norm (xs ++ [x]) else .dead
  | .done _, _ => .dead
  | .dead, _ => .dead
/-- Behind the first ones; behind all. -/
def ut (l : List Int) (i : Nat) : Qs := (l.take i).foldl ustep .start
def uf (l : List Int) : Qs := l.foldl ustep .start
theorem ut_zero (l : List Int) : ut l 0 = .start := rfl
theorem ut_next {l : List Int} {i : Nat} {u : Qs} {z : Int} (h : ut l i = u) (hi : i < l.length) (hz : l.getD i 0 = z) : ut l (i + 1) = ustep u z := by
  unfold ut at *
  rw [take_snoc hi, List.foldl_append, h, hz]; rfl
theorem ut_all (l : List Int) : ut l l.length = uf l := by unfold ut uf; rw [List.take_length]
theorem dead_fold (l : List Int) : l.foldl ustep .dead = .dead := by
  induction l with
  | nil => rfl
  | cons z l ih => exact ih
theorem uf_drop {l : List Int} {i : Nat} : uf l = (l.drop i).foldl ustep (ut l i) := by
  unfold uf ut
  rw [← List.foldl_append, List.take_append_drop]
/-- It is no quoted text. -/
def NoQ (l : List Int) : Prop := ∀ xs, uf l ≠ .done xs
theorem NoQ.dead {l : List Int} {i : Nat} (h : ut l i = .dead) : NoQ l := fun xs e => by
  rw [uf_drop (i := i), h, dead_fold] at e; cases e
theorem NoQ.over {l : List Int} {i : Nat} {u : Qs} (h : ut l i = u) (hi : i = l.length) (hu : ∀ xs, u ≠ .done xs) : NoQ l := fun xs e => by
  subst hi
  rw [ut_all] at h
  exact hu xs (h.symm.trans e)
theorem ustep_low (u : Qs) {r : Int} (h : r < 0) : ustep u r = .dead := by
  have hv : hexV r = -1 := by unfold hexV; rw [if_neg (by omega), if_neg (by omega)]
  cases u with
  | start => exact if_neg (by omega)
  | norm xs => show (if r = 34 then Qs.done xs else if r < 32 ∨ r = 127 then .dead else if r = 92 then .esc xs else .norm (xs ++ [r])) = .dead
               rw [if_neg (by omega), if_pos (by omega)]
  | esc xs => show (if r = 34 ∨ r = 92 then Qs.norm (xs ++ [r]) else if r = 110 then .norm (xs ++ [10]) else if r = 116 then .norm (xs ++ [9]) else if r = 117 then .uni xs else .dead) = .dead
              rw [if_neg (by omega), if_neg (by omega), if_neg (by omega), if_neg (by omega)]
  | uni xs => exact if_neg (by omega)
  | hex xs k x => show (if 0 ≤ hexV r ∧ k < 6 then Qs.hex xs (k + 1) (16 * x + hexV r) else if r = 125 ∧ k ≠ 0 ∧ x ≤ 1114111 ∧ ¬ (55296 ≤ x ∧ x < 57344) then .norm (xs ++ [x]) else .dead) = .dead
                  rw [if_neg (by omega), if_neg (by omega)]
  | done xs => rfl
  | dead => rfl
theorem NoQ.bad {l : List Int} (h : ¬ GoodL l) : NoQ l := by
  refine Classical.byContradiction fun hn => h fun i hi => ?_
  refine Classical.byContradiction fun hz => hn ?_
  exact NoQ.dead ((ut_next rfl hi rfl).trans (ustep_low _ (by omega)))
theorem NoQ.short {l : List Int} (h : l.length < 2) : NoQ l := by
  match l, h with
  | [], _ => exact fun xs e => by cases e
  | [z], _ =>
    intro xs e
    have e2 : uf [z] = ustep .start z := rfl
    rw [e2] at e
    unfold ustep at e
    simp only at e
    split at e <;> cases e
theorem NoQ.mark {l : List Int} {z : Int} (hl : 0 < l.length) (hz : l.getD 0 0 = z) (h : ¬ z = 34) : NoQ l := NoQ.dead ((ut_next (ut_zero l) hl hz).trans (if_neg h))

/-- What unquoting comes to. -/
def UnqL (l : List Int) (t : List Int) (c : Int) : Prop :=
  (NoQ l ∧ t = [] ∧ c = 5) ∨ ∃ xs, uf l = .done xs ∧ ((120 < xs.length ∧ t = [] ∧ c = 9) ∨ (xs.length ≤ 120 ∧ t = xs.flatMap encL ∧ c = 0))
theorem UnqL.unique {l t t' : List Int} {c c' : Int} (h : UnqL l t c) (g : UnqL l t' c') : t = t' ∧ c = c' := by
  rcases h with ⟨h, rfl, rfl⟩ | ⟨xs, h, h1⟩ <;> rcases g with ⟨g, rfl, rfl⟩ | ⟨ys, g, g1⟩
  · exact ⟨rfl, rfl⟩
  · exact (h ys g).elim
  · exact (g xs h).elim
  · rw [h] at g
    obtain rfl : xs = ys := by injection g
    rcases h1 with ⟨h1, rfl, rfl⟩ | ⟨h1, rfl, rfl⟩ <;> rcases g1 with ⟨g1, rfl, rfl⟩ | ⟨g1, rfl, rfl⟩
    · exact ⟨rfl, rfl⟩
    · omega
    · omega
    · exact ⟨rfl, rfl⟩

end Go.Proofs.YtkhmaiggcihneaaDoor
