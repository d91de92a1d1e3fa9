/-
  Texts by their runes: letters, names, good texts, prints of quoted texts: plain arithmetic. No program in sight.
-/
import Derived.Test.YtkhmaiggcihneaaDoorRunes
namespace Go.Proofs.YtkhmaiggcihneaaDoor

def letterB (r : Int) : Bool := (decide (97 ≤ r) && decide (r ≤ 122)) || (decide (65 ≤ r) && decide (r ≤ 90)) || (decide (192 ≤ r) && decide (r ≤ 591) && decide (r ≠ 215) && decide (r ≠ 247)) || (decide (880 ≤ r) && decide (r ≤ 1279))
def digitB (r : Int) : Bool := decide (48 ≤ r) && decide (r ≤ 57)
def GoodL (l : List Int) : Prop := ∀ i, i < l.length → 0 ≤ l.getD i 0
/-- A rune that may stand in a name at this place. -/
def nameOk (l : List Int) (i : Nat) : Bool := letterB (l.getD i 0) || digitB (l.getD i 0) || (decide (i + 1 ≠ l.length) && (decide (l.getD i 0 = 95) || decide (l.getD i 0 = 45)))
def NameL (l : List Int) : Prop := 1 ≤ l.length ∧ l.length ≤ 24 ∧ letterB (l.getD 0 0) = true ∧ ∀ i, i < l.length → nameOk l i = true

/-- A rune's bytes. -/
def encL (r : Int) : List Int :=
  if r < 128 then [r] else if r < 2048 then [192 + r / 64, 128 + r % 64] else if r < 65536 then [224 + r / 4096, 128 + r / 64 % 64, 128 + r % 64] else [240 + r / 262144, 128 + r / 4096 % 64, 128 + r / 64 % 64, 128 + r % 64]
theorem encL_len (r : Int) : (encL r).length ≤ 4 := by unfold encL; repeat' split
                                                       all_goals simp
theorem encL_byte {r : Int} (h0 : 0 ≤ r) (h1 : r ≤ 1114111) : ∀ z ∈ encL r, 0 ≤ z ∧ z ≤ 255 := by
  intro z hz
  unfold encL at hz
  repeat' split at hz
  all_goals
    simp only [List.mem_cons, List.not_mem_nil, or_false] at hz
    omega
/-- A number's digits of sixteen. -/
def hexD (n : Nat) : Int := if n < 10 then 48 + (n : Int) else 87 + (n : Int)
def hexL (n : Nat) : List Int := if n < 16 then [hexD n] else hexL (n / 16) ++ [hexD (n % 16)]
termination_by n
decreasing_by omega
theorem hexL_small {n : Nat} (h : n < 16) : hexL n = [hexD n] := by rw [hexL, if_pos h]
theorem hexL_big {n : Nat} (h : ¬ n < 16) : hexL n = hexL (n / 16) ++ [hexD (n % 16)] := by rw [hexL, if_neg h]
theorem hexL_len (n : Nat) (k : Nat) (h : n < 16 ^ (k + 1)) : (hexL n).length ≤ k + 1 := by
  induction k generalizing n with
  | zero => rw [hexL_small (by omega)]; simp
  | succ k ih =>
    by_cases hs : n < 16
    · rw [hexL_small hs]; simp
    · rw [hexL_big hs, List.length_append]
      have := ih (n / 16) (by rw [Nat.pow_succ] at h; omega)
      simp; omega
/-- What stands for a rune in a quoted text. -/
def quoteR (r : Int) : List Int :=
  if r = 34 then [92, 34] else if r = 92 then [92, 92] else if r = 10 then [92, 110] else if r = 9 then [92, 116] else if r < 32 ∨ r = 127 then [92, 117, 123] ++ hexL r.toNat ++ [125] else encL r
def quoteB (l : List Int) : List Int := l.flatMap quoteR
def quoteL (l : List Int) : List Int := [34] ++ quoteB l ++ [34]
theorem quoteR_len {r : Int} (h : r ≤ 1114111) : (quoteR r).length ≤ 9 := by
  have := encL_len r
  unfold quoteR
  repeat' split
  all_goals try (simp; done)
  · rename_i hr
    have : (hexL r.toNat).length ≤ 2 := hexL_len r.toNat 1 (by omega)
    simp only [List.length_append, List.length_cons, List.length_nil]; omega
  · omega
theorem quoteB_snoc (l : List Int) (z : Int) : quoteB (l ++ [z]) = quoteB l ++ quoteR z := by simp [quoteB]
theorem take_snoc {l : List Int} {i : Nat} (h : i < l.length) : l.take (i + 1) = l.take i ++ [l.getD i 0] := by
  rw [List.take_succ_eq_append_getElem h, List.getD_eq_getElem?_getD, List.getElem?_eq_getElem h]; rfl

theorem GoodL.of_not {l : List Int} {i : Nat} (hi : i < l.length) (h : l.getD i 0 < 0) : ¬ GoodL l := fun g => by have := g i hi; omega

end Go.Proofs.YtkhmaiggcihneaaDoor
