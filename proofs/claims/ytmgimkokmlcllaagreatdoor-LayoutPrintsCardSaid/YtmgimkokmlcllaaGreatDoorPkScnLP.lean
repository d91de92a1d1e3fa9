/-
  What is printed: its letters, its runes, how long it is, and which tokens it is: plain.
-/
import Derived.Test.YtmgimkokmlcllaaGreatDoorPkTrel
import Derived.Test.YtmgimkokmlcllaaGreatDoorPkScnR
import Derived.Test.YtmgimkokmlcllaaGreatDoorPkScne
namespace Go.Proofs.YtmgimkokmlcllaaGreatDoor
open Go.RowKit

theorem quoteU_line (r : Int) : ∀ z ∈ quoteU r, z ≠ 10 := fun z hz => by
  unfold quoteU at hz
  split at hz
  · simp only [List.mem_cons, List.not_mem_nil, or_false] at hz; omega
  split at hz
  · simp only [List.mem_cons, List.not_mem_nil, or_false] at hz; omega
  split at hz
  · simp only [List.mem_cons, List.not_mem_nil, or_false] at hz; omega
  split at hz
  · simp only [List.mem_cons, List.not_mem_nil, or_false] at hz; omega
  split at hz
  · simp only [List.mem_append, List.mem_cons, List.not_mem_nil, or_false] at hz
    rcases hz with (hz | hz) | hz
    · omega
    · have := hexL_in _ z hz; omega
    · omega
  · have := List.mem_singleton.mp hz; omega
theorem print_line {k : Int} {s : ByteArray} {n : Nat} (h : RightT k s (n : Int)) : ∀ z ∈ runesOf (prT k s n), z ≠ 10 := by
  have asc : ∀ zs : List Int, (∀ z ∈ zs, (48 ≤ z ∧ z ≤ 57) ∨ unitOf z ≠ 0 ∨ z = 46 ∨ z = 37) → ∀ z ∈ runesOf zs, z ≠ 10 := fun zs hz z hm e => by
    rw [runes_of_ascii (fun z hm => (within_ascii (hz z hm)).2)] at hm
    have := (within_ascii (hz z hm)).1
    rw [e] at this
    revert this; decide
  unfold RightT at h
  rcases h with ⟨rfl, h, hz⟩ | ⟨rfl, h, h2, hz⟩ | ⟨rfl | rfl, rfl⟩ | ⟨rfl, rfl, h2⟩ | ⟨rfl, rfl, h2⟩ | ⟨rfl | rfl | rfl | rfl, rfl, hz⟩
  · intro z hm e
    have := name_within h z hm
    rw [e] at this
    revert this; decide
  · obtain ⟨hok, _⟩ := good_back (nums_byte s) (good_mem h)
    have e : prT 2 s n = quoteL (runesOf (nums s)) := rfl
    rw [e, runes_quoteL hok]
    intro z hm
    rcases List.mem_append.mp hm with hm | hm
    · rcases List.mem_append.mp hm with hm | hm
      · have := List.mem_singleton.mp hm; omega
      · obtain ⟨r, _, hr⟩ := List.mem_flatMap.mp hm
        exact quoteU_line r z hr
    · have := List.mem_singleton.mp hm; omega
  · exact asc _ (fun z hz => Or.inl (dec_byte n z hz))
  · have e : prT 4 ⟨#[]⟩ n = facP n := rfl
    rw [e]
    refine asc _ (fun z hz => ?_)
    rw [facP_form] at hz
    have ht := tailD_bd (r := n % 100) (by omega)
    rcases List.mem_append.mp hz with hz | hz
    · exact Or.inl (dec_byte _ z hz)
    · rcases List.mem_cons.mp hz with rfl | hz
      · exact Or.inr (Or.inr (Or.inl rfl))
      · rcases List.mem_append.mp hz with hz | hz
        · have := List.mem_singleton.mp hz; exact Or.inl (by omega)
        · exact Or.inl (ht.1 z hz)
  · exact asc _ (pct_letters n)
  · have e : prT 6 ⟨#[]⟩ n = spn n := rfl
    obtain ⟨_, l, hr⟩ := spn_tells n
    have hl0 := runs_letters _ _ _ hr
    rw [e]
    exact asc _ (fun z hz => (hl0 z hz).elim Or.inl (fun h => Or.inr (Or.inl h)))
  · intro z hm; have e : prT 0 ⟨#[]⟩ n = [] := rfl
    rw [e, runes_nil] at hm; cases hm
  · have e : prT 7 ⟨#[]⟩ n = [123] := rfl
    rw [e, runes_of_ascii (fun z hz => by have := List.mem_singleton.mp hz; omega)]
    intro z hm; have := List.mem_singleton.mp hm; omega
  · have e : prT 8 ⟨#[]⟩ n = [125] := rfl
    rw [e, runes_of_ascii (fun z hz => by have := List.mem_singleton.mp hz; omega)]
    intro z hm; have := List.mem_singleton.mp hm; omega
  · have e : prT 9 ⟨#[]⟩ n = [59] := rfl
    rw [e, runes_of_ascii (fun z hz => by have := List.mem_singleton.mp hz; omega)]
    intro z hm; have := List.mem_singleton.mp hm; omega
theorem print_byte {k : Int} {s : ByteArray} {n : Nat} (h : RightT k s (n : Int)) : ∀ z ∈ prT k s n, 0 ≤ z ∧ z ≤ 255 := by
  have asc : ∀ zs : List Int, (∀ z ∈ zs, (48 ≤ z ∧ z ≤ 57) ∨ unitOf z ≠ 0 ∨ z = 46 ∨ z = 37) → ∀ z ∈ zs, 0 ≤ z ∧ z ≤ 255 := fun zs hz z hm => by
    have := (within_ascii (hz z hm)).2; omega
  unfold RightT at h
  rcases h with ⟨rfl, h, hz⟩ | ⟨rfl, h, h2, hz⟩ | ⟨rfl | rfl, rfl⟩ | ⟨rfl, rfl, h2⟩ | ⟨rfl, rfl, h2⟩ | ⟨rfl | rfl | rfl | rfl, rfl, hz⟩
  · exact nums_byte s
  · obtain ⟨hok, _⟩ := good_back (nums_byte s) (good_mem h)
    have e : prT 2 s n = quoteL (runesOf (nums s)) := rfl
    rw [e]
    unfold quoteL quoteB
    intro z hm
    rcases List.mem_append.mp hm with hm | hm
    · rcases List.mem_append.mp hm with hm | hm
      · have := List.mem_singleton.mp hm; omega
      · obtain ⟨r, hr, hz⟩ := List.mem_flatMap.mp hm
        have ho := hok r hr
        unfold quoteR at hz
        split at hz
        · simp only [List.mem_cons, List.not_mem_nil, or_false] at hz; omega
        split at hz
        · simp only [List.mem_cons, List.not_mem_nil, or_false] at hz; omega
        split at hz
        · simp only [List.mem_cons, List.not_mem_nil, or_false] at hz; omega
        split at hz
        · simp only [List.mem_cons, List.not_mem_nil, or_false] at hz; omega
        split at hz
        · simp only [List.mem_append, List.mem_cons, List.not_mem_nil, or_false] at hz
          rcases hz with (hz | hz) | hz
          · omega
          · have := hexL_in _ z hz; omega
          · omega
        · exact encL_byte ho.1 ho.2.1 z hz
    · have := List.mem_singleton.mp hm; omega
  · exact asc _ (fun z hz => Or.inl (dec_byte n z hz))
  · have e : prT 4 ⟨#[]⟩ n = facP n := rfl
    rw [e]
    refine asc _ (fun z hz => ?_)
    rw [facP_form] at hz
    have ht := tailD_bd (r := n % 100) (by omega)
    rcases List.mem_append.mp hz with hz | hz
    · exact Or.inl (dec_byte _ z hz)
    · rcases List.mem_cons.mp hz with rfl | hz
      · exact Or.inr (Or.inr (Or.inl rfl))
      · rcases List.mem_append.mp hz with hz | hz
        · have := List.mem_singleton.mp hz; exact Or.inl (by omega)
        · exact Or.inl (ht.1 z hz)
  · exact asc _ (pct_letters n)
  · have e : prT 6 ⟨#[]⟩ n = spn n := rfl
    obtain ⟨_, l, hr⟩ := spn_tells n
    have hl0 := runs_letters _ _ _ hr
    rw [e]
    exact asc _ (fun z hz => (hl0 z hz).elim Or.inl (fun h => Or.inr (Or.inl h)))
  · intro z hm; cases hm
  · intro z hm; have := List.mem_singleton.mp hm; omega
  · intro z hm; have := List.mem_singleton.mp hm; omega
  · intro z hm; have := List.mem_singleton.mp hm; omega
theorem text_back {k : Int} {s : ByteArray} {n : Int} (h : RightT k s n) : strOfNums (txT k s) = s := by
  unfold txT
  split
  · exact strOfNums_nums s
  · rename_i hk
    unfold RightT at h
    have : s = ⟨#[]⟩ := by
      rcases h with ⟨h1, _⟩ | ⟨h1, _⟩ | ⟨_, h1⟩ | ⟨_, h1, _⟩ | ⟨_, h1, _⟩ | ⟨_, h1, _⟩
      · exact (hk (Or.inl h1)).elim
      · exact (hk (Or.inr h1)).elim
      · exact h1
      · exact h1
      · exact h1
      · exact h1
    rw [this]; rfl

theorem sp_len {us : List Int} : ∀ n : Nat, W128 n → (sp us n).length ≤ 40 * us.length := by
  induction us with
  | nil => intro n _; exact Nat.le_refl _
  | cons c r ih =>
    intro n hn
    unfold sp
    have h1 := ih (n % unitOf c) (by unfold W128 at *; have := Nat.mod_le n (unitOf c); omega)
    have h2 : (dec (n / unitOf c)).length ≤ 39 := dec_len (by unfold W128 at *; have := Nat.div_le_self n (unitOf c); omega)
    split
    · simp only [List.length_append, List.length_cons, List.length_nil] at *; omega
    · have h3 := ih n hn
      simp only [List.length_cons] at *; omega
theorem print_short {k : Int} {s : ByteArray} {n : Nat} (h : RightT k s (n : Int)) (hn : n ≤ 18446744073709551615) (hs : s.size ≤ 2000) : (prT k s n).length ≤ 2000 := by
  have hd : ∀ m : Nat, m ≤ 18446744073709551615 → (dec m).length ≤ 39 := fun m hm => dec_len (by unfold W128; omega)
  unfold RightT at h
  rcases h with ⟨rfl, h, hz⟩ | ⟨rfl, h, h2, hz⟩ | ⟨rfl | rfl, rfl⟩ | ⟨rfl, rfl, h2⟩ | ⟨rfl, rfl, h2⟩ | ⟨rfl | rfl | rfl | rfl, rfl, hz⟩
  · have e : prT 1 s n = nums s := rfl
    rw [e, nums_length]; exact hs
  · have e : prT 2 s n = quoteL (runesOf (nums s)) := rfl
    obtain ⟨hok, _⟩ := good_back (nums_byte s) (good_mem h)
    have key : ∀ l : List Int, (∀ r ∈ l, RuneOk r) → (quoteB l).length ≤ 9 * l.length := by
      intro l
      induction l with
      | nil => intro _; exact Nat.le_refl _
      | cons r l ih =>
        intro hl
        have h1 := quoteR_len (hl r (List.mem_cons_self ..)).2.1
        have h2 := ih (fun x hx => hl x (List.mem_cons_of_mem _ hx))
        have e : quoteB (r :: l) = quoteR r ++ quoteB l := by simp [quoteB]
        rw [e, List.length_append, List.length_cons]; omega
    have := key _ hok
    rw [e]
    unfold quoteL
    simp only [List.length_append, List.length_cons, List.length_nil]; omega
  · have e : prT 3 ⟨#[]⟩ n = dec n := rfl
    have := hd n hn
    rw [e]; omega
  · have e : prT 4 ⟨#[]⟩ n = facP n := rfl
    have h1 := hd (n / 1000) (by omega)
    have h2 := (tailD_bd (r := n % 100) (by omega)).2
    rw [e, facP_form]
    simp only [List.length_append, List.length_cons, List.length_nil]; omega
  · have e : prT 5 ⟨#[]⟩ n = pct n := rfl
    have h1 := hd (n / 10000) (by omega)
    have h3 := fr_len 4 (n % 10000)
    rw [e]
    unfold pct tailOf
    split <;> simp only [List.length_append, List.length_cons, List.length_nil] <;> omega
  · have e : prT 6 ⟨#[]⟩ n = spn n := rfl
    rw [e]
    unfold spn
    split
    · decide
    · have := sp_len (us := units) n (by unfold W128; omega)
      have e2 : units.length = 5 := rfl
      omega
  · have e : prT 0 ⟨#[]⟩ n = [] := rfl
    rw [e]; exact Nat.zero_le _
  · have e : prT 7 ⟨#[]⟩ n = [123] := rfl
    rw [e]; decide
  · have e : prT 8 ⟨#[]⟩ n = [125] := rfl
    rw [e]; decide
  · have e : prT 9 ⟨#[]⟩ n = [59] := rfl
    rw [e]; decide

end Go.Proofs.YtmgimkokmlcllaaGreatDoor
