/-
  Spans: what Print, Read and Exact come to, of each number and each text: plain arithmetic; no call is walked here.
-/
import Derived.Test.YthfmllgflnideaaGreatDoorPkSpanr
import Derived.Test.YthfmllgflnideaaGreatDoorPkPlain
namespace Go.Proofs.YthfmllgflnideaaGreatDoor
open Go.RowKit

/-- What Exact comes to: as Read, but for what isn't the print. -/
def ExactOut (s : ByteArray) (x c : Int) : Prop := ∃ y d, SpanOut (nums s) y d ∧ ((d = 0 ∧ strOfNums (spn y.toNat) = s ∧ x = y ∧ c = 0) ∨ (d = 0 ∧ strOfNums (spn y.toNat) ≠ s ∧ x = 0 ∧ c = 5) ∨ (d ≠ 0 ∧ x = 0 ∧ c = d))
def GivesExact (s : ByteArray) (w : World) (e : Ending) (w' : World) : Prop := ∃ x c : Int, e = .returned (.tuple #[.int .i64 x, .int .i64 c]) ∧ ExactOut s x c ∧ Below w.heap.size w w'
/-- The least multiple that isn't below, or the number itself. -/
def roundI (n u : Int) : Int := if n < 0 ∨ 253402300799 < n ∨ u < 1 then 0 else if n % u = 0 ∨ 253402300799 < u ∨ 253402300799 / u ≤ n / u then n else (n / u + 1) * u

theorem spanOut_ex (zs : List Int) : ∃ x c, SpanOut zs x c := by
  by_cases h : ∃ N, Tells zs N
  · obtain ⟨N, hN⟩ := h
    by_cases hb : 253402300799 < N
    · exact ⟨0, 8, Or.inr ⟨N, hN, Or.inl ⟨hb, rfl, rfl⟩⟩⟩
    · exact ⟨N, 0, Or.inr ⟨N, hN, Or.inr ⟨by omega, rfl, rfl⟩⟩⟩
  · exact ⟨0, 5, Or.inl ⟨fun N hN => h ⟨N, hN⟩, rfl, rfl⟩⟩
theorem str_list {a b : ByteArray} (h : a ≠ b) : (a.toList == b.toList) = false ∧ ¬ a.toList = b.toList := by
  have key : ¬ a.toList = b.toList := fun e => by
    rw [ByteArray.toList_eq, ByteArray.toList_eq] at e
    apply h
    apply ByteArray.ext
    exact Array.toList_inj.mp e
  exact ⟨by simpa using key, key⟩
theorem spn_byte (n : Nat) : ∀ z ∈ spn n, 0 ≤ z ∧ z ≤ 255 := by
  have hs : ∀ U, (∀ c ∈ U, (0 : Int) ≤ c ∧ c ≤ 255) → ∀ m, ∀ z ∈ sp U m, 0 ≤ z ∧ z ≤ 255 := by
    intro U
    induction U with
    | nil => intro _ m z hz; simp [sp] at hz
    | cons c r ih =>
      intro hU m z hz
      have hr := ih (fun x hx => hU x (List.mem_cons_of_mem _ hx))
      simp only [sp] at hz
      split at hz
      · rcases List.mem_append.mp hz with hz | hz
        · rcases List.mem_append.mp hz with hz | hz
          · have := dec_byte _ z hz; omega
          · have : z = c := by simpa using hz
            subst this
            exact hU z List.mem_cons_self
        · exact hr _ z hz
      · exact hr _ z hz
  intro z hz
  unfold spn at hz
  split at hz
  · have : z = 48 ∨ z = 115 := by simpa using hz
    omega
  · exact hs units (by decide) n z hz
theorem spn_nums (n : Nat) : nums (strOfNums (spn n)) = spn n := nums_strOfNums _ (spn_byte n)
/-- What is printed is read, and exact. -/
theorem spn_out {N : Nat} (hN : N ≤ 253402300799) : SpanOut (nums (strOfNums (spn N))) (N : Int) 0 := Or.inr ⟨N, by rw [spn_nums]; exact spn_tells N, Or.inr ⟨hN, rfl, rfl⟩⟩
theorem exact_of {s : ByteArray} {y d x c : Int} (h : SpanOut (nums s) y d) (g : ExactOut s x c) : (d = 0 ∧ strOfNums (spn y.toNat) = s ∧ x = y ∧ c = 0) ∨ (d = 0 ∧ strOfNums (spn y.toNat) ≠ s ∧ x = 0 ∧ c = 5) ∨ (d ≠ 0 ∧ x = 0 ∧ c = d) := by
  obtain ⟨y', d', h', g⟩ := g
  obtain ⟨rfl, rfl⟩ := h.unique h'
  exact g
theorem spn_exact {N : Nat} (hN : N ≤ 253402300799) {x c : Int} (h : ExactOut (strOfNums (spn N)) x c) : (N : Int) = x ∧ 0 = c := by
  rcases exact_of (spn_out hN) h with ⟨_, _, rfl, rfl⟩ | ⟨_, h, _⟩ | ⟨h, _⟩
  · exact ⟨rfl, rfl⟩
  · exact (h (by rw [Int.toNat_natCast])).elim
  · exact (h rfl).elim
theorem mark_out : SpanOut (nums ⟨#[63]⟩) 0 5 := Or.inl ⟨Tells.of_none (by rfl), rfl, rfl⟩
theorem mark_exact {x c : Int} (h : ExactOut ⟨#[63]⟩ x c) : 0 = x ∧ 5 = c := by
  rcases exact_of mark_out h with ⟨h, _⟩ | ⟨h, _⟩ | ⟨_, rfl, rfl⟩
  · omega
  · omega
  · exact ⟨rfl, rfl⟩

end Go.Proofs.YthfmllgflnideaaGreatDoor
