/-
  Texts of spans, one behind the other: what both tell together: plain arithmetic. No program in sight.
-/
import Derived.Test.YtibaelkfchpbpaaDoorSpan
namespace Go.Proofs.YtibaelkfchpbpaaDoor

/-- Pieces ahead only add. -/
theorem stp_shift (a y l : Nat) (n : Option Nat) (z : Int) : stp ⟨a + y, l, n⟩ z = (stp ⟨y, l, n⟩ z).map fun t => ⟨a + t.acc, t.last, t.num⟩ := by
  unfold stp
  by_cases h : 48 ≤ z ∧ z ≤ 57
  · rw [if_pos h, if_pos h]; rfl
  · rw [if_neg h, if_neg h]
    cases n with
    | none => rfl
    | some n =>
      simp only
      by_cases hu : unitOf z = 0 ∨ l ≤ unitOf z
      · rw [if_pos hu, if_pos hu]; rfl
      · rw [if_neg hu, if_neg hu]; simp [Nat.add_assoc]
theorem runs_shift (a : Nat) (zs : List Int) : ∀ (y l : Nat) (n : Option Nat), runs ⟨a + y, l, n⟩ zs = (runs ⟨y, l, n⟩ zs).map fun t => ⟨a + t.acc, t.last, t.num⟩ := by
  induction zs with
  | nil => intro y l n; rfl
  | cons z r ih =>
    intro y l n
    simp only [runs]
    rw [stp_shift]
    cases h : stp ⟨y, l, n⟩ z with
    | none => rfl
    | some t =>
      obtain ⟨b, m, k⟩ := t
      simp only [Option.map_some, Option.bind_some]
      exact ih b m k
/-- A greater unit ahead does no harm. -/
theorem runs_wider (zs : List Int) : ∀ (y l L : Nat) (n : Option Nat) (t : St), l ≤ L → runs ⟨y, l, n⟩ zs = some t → ∃ l', runs ⟨y, L, n⟩ zs = some ⟨t.acc, l', t.num⟩ := by
  induction zs with
  | nil =>
    intro y l L n t _ h
    simp only [runs, Option.some.injEq] at h
    subst h
    exact ⟨L, rfl⟩
  | cons z r ih =>
    intro y l L n t hl h
    simp only [runs] at h ⊢
    by_cases hz : 48 ≤ z ∧ z ≤ 57
    · rw [stp_digit hz] at h ⊢
      simp only [Option.bind_some] at h ⊢
      exact ih _ _ _ _ _ hl h
    · cases n with
      | none => rw [stp_bare hz] at h; cases h
      | some n =>
        by_cases hu : unitOf z = 0 ∨ l ≤ unitOf z
        · rw [stp_none hz hu] at h; cases h
        · rw [stp_unit (by omega) (by omega)] at h
          rw [stp_unit (by omega) (by omega)]
          simp only [Option.bind_some] at h ⊢
          exact ⟨_, h⟩
/-- Without a unit's letter the last unit stays, and nothing is added. -/
theorem runs_quiet (zs : List Int) : ∀ (y l : Nat) (n : Option Nat) (t : St), (∀ z ∈ zs, unitOf z = 0) → runs ⟨y, l, n⟩ zs = some t → t.acc = y ∧ t.last = l ∧ (∀ z ∈ zs, 48 ≤ z ∧ z ≤ 57) := by
  induction zs with
  | nil =>
    intro y l n t _ h
    simp only [runs, Option.some.injEq] at h
    subst h
    exact ⟨rfl, rfl, by simp⟩
  | cons z r ih =>
    intro y l n t hu h
    simp only [runs] at h
    by_cases hz : 48 ≤ z ∧ z ≤ 57
    · rw [stp_digit hz] at h
      simp only [Option.bind_some] at h
      obtain ⟨h1, h2, h3⟩ := ih _ _ _ _ (fun x hx => hu x (List.mem_cons_of_mem _ hx)) h
      refine ⟨h1, h2, fun x hx => ?_⟩
      rcases List.mem_cons.mp hx with rfl | hx
      · exact hz
      · exact h3 x hx
    · cases n with
      | none => rw [stp_bare hz] at h; cases h
      | some n => rw [stp_none hz (Or.inl (hu z List.mem_cons_self))] at h; cases h
theorem split_at {zs : List Int} {i : Nat} (hi : i < zs.length) : zs = zs.take i ++ (zs.getD i 0 :: zs.drop (i + 1)) := by
  rw [List.getD_eq_getElem?_getD, List.getElem?_eq_getElem hi]; simp
/-- The first unit isn't smaller: it is no text of a span. -/
theorem runs_stop {zs : List Int} {i : Nat} (hi : i < zs.length) (hq : ∀ z ∈ zs.take i, unitOf z = 0) (hu : unitOf (zs.getD i 0) ≠ 0) (y l : Nat) (n : Option Nat) (hl : l ≤ unitOf (zs.getD i 0)) : runs ⟨y, l, n⟩ zs = none := by
  rw [split_at hi, runs_append]
  cases h : runs ⟨y, l, n⟩ (zs.take i) with
  | none => rfl
  | some t =>
    obtain ⟨h1, h2, h3⟩ := runs_quiet _ _ _ _ _ hq h
    obtain ⟨a, m, k⟩ := t
    simp only at h1 h2
    subst h1 h2
    simp only [Option.bind_some, runs]
    cases k with
    | none => rw [stp_bare (unitOf_letter hu)]; rfl
    | some k => rw [stp_none (unitOf_letter hu) (Or.inr hl)]; rfl
/-- Before the first unit it plays no part how great the last one was. -/
theorem runs_free (ds : List Int) (hd : ∀ z ∈ ds, 48 ≤ z ∧ z ≤ 57) : ∀ (y l L : Nat) (n : Option Nat), ∃ m, runs ⟨y, l, n⟩ ds = some ⟨y, l, m⟩ ∧ runs ⟨y, L, n⟩ ds = some ⟨y, L, m⟩ := by
  induction ds with
  | nil => intro y l L n; exact ⟨n, rfl, rfl⟩
  | cons z r ih =>
    intro y l L n
    simp only [runs]
    rw [stp_digit (hd z List.mem_cons_self), stp_digit (hd z List.mem_cons_self)]
    simp only [Option.bind_some]
    exact ih (fun x hx => hd x (List.mem_cons_of_mem _ hx)) _ _ _ _
theorem runs_goes {zs : List Int} {i : Nat} (hi : i < zs.length) (hq : ∀ z ∈ zs.take i, unitOf z = 0) (y l L : Nat) (n : Option Nat) (hl : unitOf (zs.getD i 0) < l) (t : St) (h : runs ⟨y, L, n⟩ zs = some t) (hu : unitOf (zs.getD i 0) ≠ 0) : runs ⟨y, l, n⟩ zs = some t := by
  have e := split_at hi
  rw [e, runs_append] at h
  rw [e, runs_append]
  cases hp : runs ⟨y, L, n⟩ (zs.take i) with
  | none => rw [hp] at h; cases h
  | some s =>
    obtain ⟨_, _, h3⟩ := runs_quiet _ _ _ _ _ hq hp
    obtain ⟨m, g1, g2⟩ := runs_free _ h3 y l L n
    rw [g2] at h
    rw [g1]
    simp only [Option.bind_some, runs] at h ⊢
    cases m with
    | none => rw [stp_bare (unitOf_letter hu)] at h; cases h
    | some m =>
      by_cases hL : L ≤ unitOf (zs.getD i 0)
      · rw [stp_none (unitOf_letter hu) (Or.inr hL)] at h; cases h
      · rw [stp_unit hu (by omega)] at h
        rw [stp_unit hu hl]
        exact h

/-- The last unit of a text of a span is its last letter's. -/
theorem Tells.last {zs : List Int} {N l : Nat} (hne : zs ≠ []) (h : runs St0 zs = some ⟨N, l, none⟩) : l = unitOf (zs.getD (zs.length - 1) 0) ∧ l ≠ 0 ∧ l < 1000000 := by
  have hl : zs.length - 1 < zs.length := by cases zs with | nil => exact (hne rfl).elim | cons a r => simp
  have e := split_at hl
  rw [show zs.length - 1 + 1 = zs.length by omega, List.drop_length] at e
  rw [e, runs_snoc] at h
  cases hp : runs St0 (zs.take (zs.length - 1)) with
  | none => rw [hp] at h; cases h
  | some t =>
    rw [hp] at h
    simp only [Option.bind_some] at h
    obtain ⟨a, m, k⟩ := t
    by_cases hz : 48 ≤ zs.getD (zs.length - 1) 0 ∧ zs.getD (zs.length - 1) 0 ≤ 57
    · rw [stp_digit hz] at h; simp at h
    · cases k with
      | none => rw [stp_bare hz] at h; cases h
      | some k =>
        by_cases hu : unitOf (zs.getD (zs.length - 1) 0) = 0 ∨ m ≤ unitOf (zs.getD (zs.length - 1) 0)
        · rw [stp_none hz hu] at h; cases h
        · rw [stp_unit (by omega) (by omega)] at h
          simp only [Option.some.injEq, St.mk.injEq] at h
          have := unitOf_le (zs.getD (zs.length - 1) 0)
          omega
theorem tells_ahead {a b : List Int} {N : Nat} (ha : a ≠ []) (hb : b ≠ []) (h : Tells (a ++ b) N) (hlast : 57 < a.getD (a.length - 1) 0) : ∃ x m, Tells a x ∧ Tells b m ∧ N = x + m := by
  obtain ⟨_, l, h⟩ := h
  rw [runs_append] at h
  cases hp : runs St0 a with
  | none => rw [hp] at h; cases h
  | some t =>
    rw [hp] at h
    simp only [Option.bind_some] at h
    obtain ⟨x, l1, k⟩ := t
    have hl : a.length - 1 < a.length := by cases a with | nil => exact (ha rfl).elim | cons z r => simp
    have hk : k = none := by
      have e := split_at hl
      rw [show a.length - 1 + 1 = a.length by omega, List.drop_length] at e
      rw [e, runs_snoc] at hp
      cases hq : runs St0 (a.take (a.length - 1)) with
      | none => rw [hq] at hp; cases hp
      | some t =>
        rw [hq] at hp
        simp only [Option.bind_some] at hp
        obtain ⟨a', m, k'⟩ := t
        have hz : ¬ (48 ≤ a.getD (a.length - 1) 0 ∧ a.getD (a.length - 1) 0 ≤ 57) := by omega
        cases k' with
        | none => rw [stp_bare hz] at hp; cases hp
        | some k' =>
          by_cases hu : unitOf (a.getD (a.length - 1) 0) = 0 ∨ m ≤ unitOf (a.getD (a.length - 1) 0)
          · rw [stp_none hz hu] at hp; cases hp
          · rw [stp_unit (by omega) (by omega)] at hp
            simp only [Option.some.injEq, St.mk.injEq] at hp
            exact hp.2.2.symm
    subst hk
    have h1 := Tells.last ha hp
    rw [show x = x + 0 from rfl, runs_shift] at h
    cases hr : runs ⟨0, l1, none⟩ b with
    | none => rw [hr] at h; cases h
    | some t =>
      rw [hr] at h
      simp only [Option.map_some, Option.some.injEq, St.mk.injEq] at h
      obtain ⟨l', hw⟩ := runs_wider b 0 l1 1000000 none t (by omega) hr
      rw [h.2.2] at hw
      exact ⟨x, t.acc, ⟨ha, l1, hp⟩, ⟨hb, l', hw⟩, h.1.symm⟩
theorem tells_both {a b : List Int} {x m : Nat} (ha : Tells a x) (hb : Tells b m) {i : Nat} (hi : i < b.length) (hq : ∀ z ∈ b.take i, unitOf z = 0) (hu : unitOf (b.getD i 0) ≠ 0) :
    (unitOf (a.getD (a.length - 1) 0) ≤ unitOf (b.getD i 0) → ∀ N, ¬ Tells (a ++ b) N) ∧ (unitOf (b.getD i 0) < unitOf (a.getD (a.length - 1) 0) → Tells (a ++ b) (x + m)) := by
  obtain ⟨hne, l, h⟩ := ha
  obtain ⟨hbe, l2, g⟩ := hb
  obtain ⟨e, _, _⟩ := Tells.last hne h
  constructor
  · intro hl
    refine Tells.of_none ?_
    rw [runs_append, h]
    exact runs_stop hi hq hu x l none (by omega)
  · intro hl
    refine ⟨by simp [hne], l2, ?_⟩
    rw [runs_append, h]
    simp only [Option.bind_some]
    rw [show x = x + 0 from rfl, runs_shift, runs_goes hi hq 0 l 1000000 none (by omega) _ g hu]
    rfl
/-- The first unit's letter is found. -/
theorem tells_unit {b : List Int} {m : Nat} (hb : Tells b m) : ∃ i, i < b.length ∧ unitOf (b.getD i 0) ≠ 0 := by
  obtain ⟨hne, l, h⟩ := hb
  obtain ⟨e, h0, _⟩ := Tells.last hne h
  exact ⟨b.length - 1, by cases b with | nil => exact (hne rfl).elim | cons a r => simp, by rw [← e]; exact h0⟩

end Go.Proofs.YtibaelkfchpbpaaDoor
