/-
  The document's own Bytes of a rune, and digits of sixteen, walked.
-/
import Derived.Test.YthfmllgflnideaaDoorPkPlain
import Derived.Test.YthfmllgflnideaaDoorPkVrs
import Derived.WalkKit
import Derived.WalkSpells
import Derived.WalkLawsBesides
import Derived.WalkSmall
import Derived.Laws.BytesArg
import Derived.Lib.Hide
import Derived.Test.YthfmllgflnideaaDoorPkTxtR
import Derived.Deep.QuietTactic
import Derived.BigQuiet
import Derived.Deep.RegionHeld3
namespace Go.Proofs.YthfmllgflnideaaDoor
open Go.RowKit

theorem bytes_one (W : World) (x : Int) (g : Nat) (hg : g = W.heap.size) :
    (convert 76 9 (.slice (some ⟨g, 0, none⟩) 1 1)).run Tryd.prog (W.alloc (.cells #[.int .u8 x] 5)) = .ok (.string (strOfNums [x])) (W.alloc (.cells #[.int .u8 x] 5)) := by
  subst hg
  exact run_convert_bytes_arg (W.alloc (.cells #[.int .u8 x] 5)) 76 5 Tryd.underlying76 Tryd.underlying5 _ _ 1 1 [x] rfl (fun i hi => by
    have : i = 0 ∨ i = 0 := by omega
    rcases this with rfl | rfl <;> simp) 9 Tryd.underlying9
theorem bytes_two (W : World) (x y : Int) (g : Nat) (hg : g = W.heap.size) :
    (convert 76 9 (.slice (some ⟨g, 0, none⟩) 2 2)).run Tryd.prog (W.alloc (.cells #[.int .u8 x, .int .u8 y] 5)) = .ok (.string (strOfNums [x, y])) (W.alloc (.cells #[.int .u8 x, .int .u8 y] 5)) := by
  subst hg
  exact run_convert_bytes_arg (W.alloc (.cells #[.int .u8 x, .int .u8 y] 5)) 76 5 Tryd.underlying76 Tryd.underlying5 _ _ 2 2 [x, y] rfl (fun i hi => by
    have : i = 0 ∨ i = 1 := by omega
    rcases this with rfl | rfl <;> simp) 9 Tryd.underlying9
theorem bytes_three (W : World) (x y z : Int) (g : Nat) (hg : g = W.heap.size) :
    (convert 76 9 (.slice (some ⟨g, 0, none⟩) 3 3)).run Tryd.prog (W.alloc (.cells #[.int .u8 x, .int .u8 y, .int .u8 z] 5)) = .ok (.string (strOfNums [x, y, z])) (W.alloc (.cells #[.int .u8 x, .int .u8 y, .int .u8 z] 5)) := by
  subst hg
  exact run_convert_bytes_arg (W.alloc (.cells #[.int .u8 x, .int .u8 y, .int .u8 z] 5)) 76 5 Tryd.underlying76 Tryd.underlying5 _ _ 3 3 [x, y, z] rfl (fun i hi => by
    have : i = 0 ∨ i = 1 ∨ i = 2 := by omega
    rcases this with rfl | rfl | rfl <;> simp) 9 Tryd.underlying9
theorem bytes_four (W : World) (x y z u : Int) (g : Nat) (hg : g = W.heap.size) :
    (convert 76 9 (.slice (some ⟨g, 0, none⟩) 4 4)).run Tryd.prog (W.alloc (.cells #[.int .u8 x, .int .u8 y, .int .u8 z, .int .u8 u] 5)) = .ok (.string (strOfNums [x, y, z, u])) (W.alloc (.cells #[.int .u8 x, .int .u8 y, .int .u8 z, .int .u8 u] 5)) := by
  subst hg
  exact run_convert_bytes_arg (W.alloc (.cells #[.int .u8 x, .int .u8 y, .int .u8 z, .int .u8 u] 5)) 76 5 Tryd.underlying76 Tryd.underlying5 _ _ 4 4 [x, y, z, u] rfl (fun i hi => by
    have : i = 0 ∨ i = 1 ∨ i = 2 ∨ i = 3 := by omega
    rcases this with rfl | rfl | rfl | rfl <;> simp) 9 Tryd.underlying9

theorem hex_slice (k : Nat) (h : k < 16) (wx : World) : (Instr.slice 9 (.string ⟨#[48, 49, 50, 51, 52, 53, 54, 55, 56, 57, 97, 98, 99, 100, 101, 102]⟩) (some (.int .i32 (k : Int))) (some (.int .i32 ((k : Int) + 1))) none).run Tryd.prog wx = .ok (.string (strOfNums [hexD k])) wx := by
  have : k = 0 ∨ k = 1 ∨ k = 2 ∨ k = 3 ∨ k = 4 ∨ k = 5 ∨ k = 6 ∨ k = 7 ∨ k = 8 ∨ k = 9 ∨ k = 10 ∨ k = 11 ∨ k = 12 ∨ k = 13 ∨ k = 14 ∨ k = 15 := by omega
  rcases this with rfl | rfl | rfl | rfl | rfl | rfl | rfl | rfl | rfl | rfl | rfl | rfl | rfl | rfl | rfl | rfl <;> (show _ = _; kernel_rfl)

end Go.Proofs.YthfmllgflnideaaDoor

/-
  The document's own Good, Letter, Name, Bytes, hex, digit, walked.
-/
namespace Go.Proofs.YthfmllgflnideaaDoor
open Go.RowKit

theorem runes_len (zs : List Int) : (runesOf zs).length ≤ zs.length := by
  have key : ∀ n i, zs.length - i ≤ n → (rfrom zs i).length ≤ zs.length - i := by
    intro n
    induction n with
    | zero => intro i hi; rw [rfrom_out (by omega)]; simp
    | succ n ih =>
      intro i hi
      by_cases h : i < zs.length
      · rw [rfrom_in h, List.length_cons]
        have h1 := widA_pos zs i
        have h2 := ih (i + widA zs i) (by omega)
        omega
      · rw [rfrom_out h]; simp
  have := key zs.length 0 (by omega)
  unfold runesOf; omega
theorem runes_bd (zs : List Int) (hz : ∀ z ∈ zs, 0 ≤ z ∧ z ≤ 255) : ∀ z ∈ runesOf zs, -1 ≤ z ∧ z ≤ 1114111 := by
  have key : ∀ n i, zs.length - i ≤ n → ∀ z ∈ rfrom zs i, -1 ≤ z ∧ z ≤ 1114111 := by
    intro n
    induction n with
    | zero => intro i hi z hm; rw [rfrom_out (by omega)] at hm; cases hm
    | succ n ih =>
      intro i hi z hm
      by_cases h : i < zs.length
      · rw [rfrom_in h, List.mem_cons] at hm
        rcases hm with rfl | hm
        · refine runeA_le zs i ?_
          rw [List.getD_eq_getElem?_getD, List.getElem?_eq_getElem h]
          exact (hz _ (List.getElem_mem h)).1
        · have h1 := widA_pos zs i
          exact ih (i + widA zs i) (by omega) z hm
      · rw [rfrom_out h] at hm; cases hm
  exact key zs.length 0 (by omega)
theorem getD_bd {l : List Int} (h : ∀ z ∈ l, -1 ≤ z ∧ z ≤ 1114111) {i : Nat} (hi : i < l.length) : -1 ≤ l.getD i 0 ∧ l.getD i 0 ≤ 1114111 := by
  rw [List.getD_eq_getElem?_getD, List.getElem?_eq_getElem hi]
  exact h _ (List.getElem_mem hi)

/-- A bool that is a sentence's truth. -/
def GivesQ (A : Prop) (w : World) (e : Ending) (w' : World) : Prop := ∃ q : Bool, e = .returned (.bool q) ∧ (q = true ↔ A) ∧ Below w.heap.size w w'
theorem GivesQ.yes {A : Prop} {w w' : World} (h : A) (hb : Below w.heap.size w w') : GivesQ A w (.returned (.bool true)) w' := ⟨true, rfl, ⟨fun _ => h, fun _ => rfl⟩, hb⟩
theorem GivesQ.no {A : Prop} {w w' : World} (h : ¬ A) (hb : Below w.heap.size w w') : GivesQ A w (.returned (.bool false)) w' := ⟨false, rfl, ⟨fun e => Bool.noConfusion e, fun e => (h e).elim⟩, hb⟩

end Go.Proofs.YthfmllgflnideaaDoor

/-
  The document's own Name and Quote, walked.
-/
namespace Go.Proofs.YthfmllgflnideaaDoor
open Go.RowKit

theorem letter_high {r : Int} (h : letterB r = true) : 57 < r := by
  unfold letterB at h
  simp at h
  omega
theorem NameL.bad {l : List Int} {i : Nat} (hi : i < l.length) (h : nameOk l i = false) : ¬ NameL l := fun g => by have := g.2.2.2 i hi; rw [h] at this; cases this

end Go.Proofs.YthfmllgflnideaaDoor

/-
  The document's own Quote, walked.
-/
namespace Go.Proofs.YthfmllgflnideaaDoor
open Go.RowKit

theorem quoteB_len {l : List Int} (h : ∀ z ∈ l, -1 ≤ z ∧ z ≤ 1114111) : (quoteB l).length ≤ 9 * l.length := by
  induction l with
  | nil => simp [quoteB]
  | cons z l ih =>
    have h1 := quoteR_len (h z List.mem_cons_self).2
    have h2 := ih (fun x hx => h x (List.mem_cons_of_mem _ hx))
    unfold quoteB at *
    rw [List.flatMap_cons, List.length_append, List.length_cons]
    omega

end Go.Proofs.YthfmllgflnideaaDoor
