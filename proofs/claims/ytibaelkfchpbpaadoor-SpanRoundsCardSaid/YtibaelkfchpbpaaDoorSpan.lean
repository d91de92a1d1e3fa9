/-
  Spans as texts: units, the letters of a print, and what a text of pieces comes to, letter by letter: plain arithmetic. No program in sight.
-/
import Derived.Test.YtibaelkfchpbpaaDoorRead
namespace Go.Proofs.YtibaelkfchpbpaaDoor

/-- A unit's ticks, by its letter; 0 of another one. -/
def unitOf (c : Int) : Nat := if c = 119 then 604800 else if c = 100 then 86400 else if c = 104 then 3600 else if c = 109 then 60 else if c = 115 then 1 else 0
/-- The greatest span. -/
def MaxT : Nat := 253402300799
theorem unitOf_le (c : Int) : unitOf c ≤ 604800 := by
  unfold unitOf; repeat' split
  all_goals omega
theorem unitOf_digit {c : Int} (h : 48 ≤ c ∧ c ≤ 57) : unitOf c = 0 := by
  unfold unitOf
  rw [if_neg (by omega), if_neg (by omega), if_neg (by omega), if_neg (by omega), if_neg (by omega)]
theorem unitOf_letter {c : Int} (h : unitOf c ≠ 0) : ¬ (48 ≤ c ∧ c ≤ 57) := fun hd => h (unitOf_digit hd)
theorem unitOf_high {c : Int} (h : 128 ≤ c) : unitOf c = 0 := by
  unfold unitOf
  rw [if_neg (by omega), if_neg (by omega), if_neg (by omega), if_neg (by omega), if_neg (by omega)]

/-- What is known within a text: all pieces so far, the last unit, and the digits since. -/
structure St where
  acc : Nat
  last : Nat
  num : Option Nat
def stp (s : St) (z : Int) : Option St :=
  if 48 ≤ z ∧ z ≤ 57 then some ⟨s.acc, s.last, some (10 * s.num.getD 0 + (z - 48).toNat)⟩
  else match s.num with
    | none => none
    | some n => if unitOf z = 0 ∨ s.last ≤ unitOf z then none else some ⟨s.acc + n * unitOf z, unitOf z, none⟩
def runs : St → List Int → Option St
  | s, [] => some s
  | s, z :: r => (stp s z).bind fun t => runs t r
theorem runs_nil (s : St) : runs s [] = some s := rfl
theorem runs_append (s : St) (a b : List Int) : runs s (a ++ b) = (runs s a).bind fun t => runs t b := by
  induction a generalizing s with
  | nil => rfl
  | cons z a ih =>
    simp only [List.cons_append, runs]
    cases h : stp s z with
    | none => rfl
    | some t => exact ih t
theorem runs_snoc (s : St) (a : List Int) (z : Int) : runs s (a ++ [z]) = (runs s a).bind fun t => stp t z := by
  rw [runs_append]
  congr 1; funext t
  simp only [runs]
  cases stp t z <;> rfl
/-- The beginning of a text. -/
def St0 : St := ⟨0, 1000000, none⟩
/-- A text of a span tells so many ticks. -/
def Tells (zs : List Int) (N : Nat) : Prop := zs ≠ [] ∧ ∃ last, runs St0 zs = some ⟨N, last, none⟩
theorem Tells.unique {zs : List Int} {N M : Nat} (h : Tells zs N) (g : Tells zs M) : N = M := by
  obtain ⟨_, l, h⟩ := h
  obtain ⟨_, l', g⟩ := g
  rw [h] at g
  simp only [Option.some.injEq, St.mk.injEq] at g
  exact g.1

theorem stp_digit {s : St} {z : Int} (h : 48 ≤ z ∧ z ≤ 57) : stp s z = some ⟨s.acc, s.last, some (10 * s.num.getD 0 + (z - 48).toNat)⟩ := by rw [stp, if_pos h]
theorem stp_unit {a l n : Nat} {z : Int} (h : unitOf z ≠ 0) (hl : unitOf z < l) : stp ⟨a, l, some n⟩ z = some ⟨a + n * unitOf z, unitOf z, none⟩ := by
  rw [stp, if_neg (unitOf_letter h)]
  simp only
  rw [if_neg (by omega)]
theorem stp_bare {a l : Nat} {z : Int} (h : ¬ (48 ≤ z ∧ z ≤ 57)) : stp ⟨a, l, none⟩ z = none := by rw [stp, if_neg h]
theorem stp_none {a l n : Nat} {z : Int} (h : ¬ (48 ≤ z ∧ z ≤ 57)) (hu : unitOf z = 0 ∨ l ≤ unitOf z) : stp ⟨a, l, some n⟩ z = none := by
  rw [stp, if_neg h]
  simp only
  rw [if_pos hu]
/-- A text that goes wrong somewhere tells nothing. -/
theorem runs_dead {s : St} {zs : List Int} {k : Nat} (hk : k < zs.length) {t : St} (h : runs s (zs.take k) = some t) (hd : stp t (zs.getD k 0) = none) : runs s zs = none := by
  have e : zs = zs.take k ++ (zs.getD k 0 :: zs.drop (k + 1)) := by
    rw [List.getD_eq_getElem?_getD, List.getElem?_eq_getElem hk]
    simp
  rw [e, runs_append, h]
  simp only [Option.bind_some, runs, hd]
  rfl
theorem runs_next {s : St} {zs : List Int} {k : Nat} (hk : k < zs.length) {t : St} (h : runs s (zs.take k) = some t) : runs s (zs.take (k + 1)) = stp t (zs.getD k 0) := by
  rw [List.take_succ_eq_append_getElem hk, runs_snoc, h, List.getD_eq_getElem?_getD, List.getElem?_eq_getElem hk]
  rfl
theorem Tells.of_none {zs : List Int} (h : runs St0 zs = none) : ∀ N, ¬ Tells zs N := fun N g => by
  obtain ⟨_, l, g⟩ := g
  rw [h] at g; cases g

/-- Digits alone. -/
theorem runs_digits (ds : List Int) (hd : ∀ z ∈ ds, 48 ≤ z ∧ z ≤ 57) (a l : Nat) (n : Option Nat) (hne : ds ≠ []) : runs ⟨a, l, n⟩ ds = some ⟨a, l, some (ds.foldl (fun x z => 10 * x + (z - 48).toNat) (n.getD 0))⟩ := by
  induction ds generalizing n with
  | nil => exact (hne rfl).elim
  | cons z r ih =>
    simp only [runs]
    rw [stp_digit (hd z List.mem_cons_self)]
    simp only [Option.bind_some, List.foldl_cons]
    cases r with
    | nil => rfl
    | cons y r =>
      rw [ih (fun x hx => hd x (List.mem_cons_of_mem _ hx)) (some (10 * n.getD 0 + (z - 48).toNat)) (by simp)]
      rfl
theorem runs_dec (m a l : Nat) : runs ⟨a, l, none⟩ (dec m) = some ⟨a, l, some m⟩ := by
  rw [runs_digits (dec m) (dec_byte m) a l none (fun e => by have := dec_pos m; rw [e] at this; simp at this)]
  have := numOf_dec m
  unfold numOf at this
  simp only [Option.getD_none]
  rw [this]
theorem runs_piece (m a l : Nat) (c : Int) (hu : unitOf c ≠ 0) (hl : unitOf c < l) : runs ⟨a, l, none⟩ (dec m ++ [c]) = some ⟨a + m * unitOf c, unitOf c, none⟩ := by
  rw [runs_snoc, runs_dec]
  exact stp_unit hu hl

/-- The pieces of a print, from a unit on. -/
def sp : List Int → Nat → List Int
  | [], _ => []
  | c :: r, n => if unitOf c ≤ n then dec (n / unitOf c) ++ [c] ++ sp r (n % unitOf c) else sp r n
def units : List Int := [119, 100, 104, 109, 115]
/-- The letters of a span's print. -/
def spn (n : Nat) : List Int := if n = 0 then [48, 115] else sp units n
theorem sp_last (n a l : Nat) (h : 1 < l) : ∃ l', runs ⟨a, l, none⟩ (sp [115] n) = some ⟨a + n, l', none⟩ := by
  have hu : unitOf 115 = 1 := rfl
  simp only [sp, hu, List.append_nil]
  by_cases h0 : 1 ≤ n
  · rw [if_pos h0, runs_piece _ _ _ _ (by rw [hu]; decide) (by rw [hu]; exact h), hu]
    exact ⟨1, by simp⟩
  · rw [if_neg h0]
    obtain rfl : n = 0 := by omega
    exact ⟨l, rfl⟩
theorem sp_step (c : Int) (r : List Int) (v : Nat) (hu : unitOf c ≠ 0) (ih : ∀ n a l, v < l → ∃ l', runs ⟨a, l, none⟩ (sp r n) = some ⟨a + n, l', none⟩) (hvl : v < unitOf c) (n a l : Nat) (h : unitOf c < l) :
    ∃ l', runs ⟨a, l, none⟩ (sp (c :: r) n) = some ⟨a + n, l', none⟩ := by
  simp only [sp]
  by_cases hn : unitOf c ≤ n
  · rw [if_pos hn, runs_append, runs_piece _ _ _ _ hu h]
    simp only [Option.bind_some]
    obtain ⟨l', h'⟩ := ih (n % unitOf c) (a + n / unitOf c * unitOf c) (unitOf c) hvl
    refine ⟨l', ?_⟩
    rw [h']
    have := Nat.div_add_mod n (unitOf c)
    have e : n / unitOf c * unitOf c = unitOf c * (n / unitOf c) := Nat.mul_comm _ _
    rw [show a + n / unitOf c * unitOf c + n % unitOf c = a + n by omega]
  · rw [if_neg hn]
    exact ih n a l (by omega)
theorem sp_all (n a : Nat) : ∃ l', runs ⟨a, 1000000, none⟩ (sp units n) = some ⟨a + n, l', none⟩ := by
  have h4 := sp_last
  have h3 := fun n a l h => sp_step 109 [115] 1 (by decide) (fun n a l h => h4 n a l h) (by decide) n a l h
  have h2 := fun n a l h => sp_step 104 [109, 115] 60 (by decide) (fun n a l h => h3 n a l h) (by decide) n a l h
  have h1 := fun n a l h => sp_step 100 [104, 109, 115] 3600 (by decide) (fun n a l h => h2 n a l h) (by decide) n a l h
  exact sp_step 119 [100, 104, 109, 115] 86400 (by decide) (fun n a l h => h1 n a l h) (by decide) n a 1000000 (by decide)
theorem sp_some {n : Nat} (h : n ≠ 0) : sp units n ≠ [] := by
  intro e
  obtain ⟨l, hl⟩ := sp_all n 0
  rw [e, runs_nil] at hl
  simp only [Option.some.injEq, St.mk.injEq] at hl
  omega
/-- What is printed is read. -/
theorem spn_tells (n : Nat) : Tells (spn n) n := by
  unfold spn
  by_cases h : n = 0
  · subst h
    exact ⟨by simp, 1, by rw [if_pos rfl]; rfl⟩
  · rw [if_neg h]
    obtain ⟨l, hl⟩ := sp_all n 0
    exact ⟨sp_some h, l, by rw [Nat.zero_add] at hl; exact hl⟩

end Go.Proofs.YtibaelkfchpbpaaDoor
