/-
  Package crc's calls and the document's at what they come to: opened or not, a size, the same.
-/
import Derived.Test.YtiephcjdbndjaaaDoorCrcW
namespace Go.Proofs.YtiephcjdbndjaaaDoor
open Go.RowKit

theorem copen_some {v : Value} {B x : List Int} {w : World} (env : Env w) (hv : ArgB w v B) (hb : ∀ z ∈ B, 0 ≤ z ∧ z ≤ 255) (hl : B.length ≤ 1000000) (h : openL B = some x) :
    Calls Tryd.prog 11 #[v] w fun e w' => (∃ a c, e = .returned (.tuple #[.slice a x.length c, .int .i64 ((x.length + 10 : Nat) : Int), .int .i64 0]) ∧ ArgB w' (.slice a x.length c) x) ∧ Below w.heap.size w w' := by
  refine (copen_any v B w env hv hb hl).mono ?_
  rintro e w' ⟨hB, ⟨hn, _⟩ | ⟨y, yv, hy, rfl, ha⟩⟩
  · rw [h] at hn; cases hn
  · rw [h] at hy; injection hy with hy; subst hy
    obtain ⟨a, c, rfl⟩ := ha.size
    exact ⟨⟨a, c, rfl, ha⟩, hB⟩
theorem copen_none {v : Value} {B : List Int} {w : World} (env : Env w) (hv : ArgB w v B) (hb : ∀ z ∈ B, 0 ≤ z ∧ z ≤ 255) (hl : B.length ≤ 1000000) (h : openL B = none) :
    Calls Tryd.prog 11 #[v] w fun e w' => (∃ a c, e = .returned (.tuple #[.slice a 0 c, .int .i64 0, .int .i64 10])) ∧ Below w.heap.size w w' := by
  refine (copen_any v B w env hv hb hl).mono ?_
  rintro e w' ⟨hB, ⟨hn, yv, rfl, ha⟩ | ⟨y, yv, hy, _⟩⟩
  · obtain ⟨a, c, rfl⟩ := ha.size
    exact ⟨⟨a, c, rfl⟩, hB⟩
  · rw [h] at hy; cases hy
theorem rcopen_some {v : Value} {B x : List Int} {w : World} (hv : ArgB w v B) (hb : ∀ z ∈ B, 0 ≤ z ∧ z ≤ 255) (hl : B.length ≤ 1000000) (h : openL B = some x) :
    Calls Tryd.prog 14 #[v] w fun e w' => (∃ a c, e = .returned (.tuple #[.slice a x.length c, .int .i64 ((x.length + 10 : Nat) : Int), .bool true]) ∧ ArgB w' (.slice a x.length c) x) ∧ Below w.heap.size w w' := by
  refine (rcopen_any v B w hv hb hl).mono ?_
  rintro e w' ⟨hB, ⟨hn, _⟩ | ⟨y, yv, hy, rfl, ha⟩⟩
  · rw [h] at hn; cases hn
  · rw [h] at hy; injection hy with hy; subst hy
    have hA := ha w hv
    obtain ⟨a, c, rfl⟩ := hA.size
    exact ⟨⟨a, c, rfl, hA.below hB⟩, hB⟩
theorem rcopen_none {v : Value} {B : List Int} {w : World} (hv : ArgB w v B) (hb : ∀ z ∈ B, 0 ≤ z ∧ z ≤ 255) (hl : B.length ≤ 1000000) (h : openL B = none) :
    Calls Tryd.prog 14 #[v] w fun e w' => e = .returned (.tuple #[.slice none 0 0, .int .i64 0, .bool false]) ∧ Below w.heap.size w w' := by
  refine (rcopen_any v B w hv hb hl).mono ?_
  rintro e w' ⟨hB, ⟨hn, rfl⟩ | ⟨y, yv, hy, _⟩⟩
  · exact ⟨rfl, hB⟩
  · rw [h] at hy; cases hy
theorem csize_len {l : List Int} (w : World) (env : Env w) (h : l.length ≤ 2000) : Calls Tryd.prog 13 #[.int .i64 (l.length : Int)] w fun e w' => e = .returned (.int .i64 ((l.length : Int) + 10)) ∧ Below w.heap.size w w' := by
  have := csize_any (l.length : Int) w env (by omega) (by omega)
  rw [if_pos (by omega)] at this
  exact this
theorem rcsame_self (v1 v2 : Value) (L : List (List Int)) (w : World) (h1 : ArgLL w v1 L) (h2 : ArgLL w v2 L) (hL : ∀ l ∈ L, ∀ z ∈ l, 0 ≤ z ∧ z ≤ 255) (hll : L.length ≤ 100000000) :
    Calls Tryd.prog 17 #[v1, v2] w fun e w' => e = .returned (.bool true) ∧ Below w.heap.size w w' := by
  have := rcsame_any v1 v2 L L w h1 h2 hL hL hll
  rw [decide_eq_true rfl] at this
  exact this
theorem allL_len (B : List Int) : (allL B).1.length ≤ B.length := by
  induction hn : B.length using Nat.strongRecOn generalizing B with
  | _ n ih =>
    subst hn
    cases h : openL B with
    | none => rw [allL_none h]; exact Nat.zero_le _
    | some x =>
      have hl := open_len h
      rw [allL_some h]
      have := ih (B.drop (x.length + 10)).length (by rw [List.length_drop]; omega) _ rfl
      rw [List.length_drop] at this
      show (_ :: _ : List (List Int)).length ≤ _
      rw [List.length_cons]; omega
theorem allL_byte {B : List Int} (hb : ∀ z ∈ B, 0 ≤ z ∧ z ≤ 255) : ∀ l ∈ (allL B).1, ∀ z ∈ l, 0 ≤ z ∧ z ≤ 255 := by
  induction hn : B.length using Nat.strongRecOn generalizing B with
  | _ n ih =>
    subst hn
    cases h : openL B with
    | none => rw [allL_none h]; intro l hl; cases hl
    | some x =>
      have hl := open_len h
      rw [allL_some h]
      intro l hm
      rcases List.mem_cons.mp hm with rfl | hm
      · obtain ⟨_, _, _, e, _⟩ := open_some h
        intro z hz
        rw [e] at hz
        exact hb z (List.mem_of_mem_drop (List.mem_of_mem_take hz))
      · exact ih (B.drop (x.length + 10)).length (by rw [List.length_drop]; omega) (fun z hz => hb z (List.mem_of_mem_drop hz)) rfl l hm

end Go.Proofs.YtiephcjdbndjaaaDoor
