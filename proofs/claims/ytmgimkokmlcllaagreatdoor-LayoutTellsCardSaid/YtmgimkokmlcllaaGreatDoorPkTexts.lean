/-
  The document's own Bytes of a rune, and digits of sixteen, walked.
-/
import Derived.Test.YtmgimkokmlcllaaGreatDoorPkPlain
import Derived.Test.YtmgimkokmlcllaaGreatDoorPkVrs
import Derived.WalkKit
import Derived.WalkSpells
import Derived.WalkLawsBesides
import Derived.WalkSmall
import Derived.Laws.BytesArg
import Derived.Lib.Hide
import Derived.Test.YtmgimkokmlcllaaGreatDoorPkTxtR
import Derived.Deep.QuietTactic
import Derived.BigQuiet
import Derived.Deep.RegionHeld3
namespace Go.Proofs.YtmgimkokmlcllaaGreatDoor
open Go.RowKit

end Go.Proofs.YtmgimkokmlcllaaGreatDoor

/-
  The document's own Good, Letter, Name, Bytes, hex, digit, walked.
-/
namespace Go.Proofs.YtmgimkokmlcllaaGreatDoor
open Go.RowKit

theorem runes_len (zs : List Int) : (runesOf zs).length ≤ zs.length := by
  have key : ∀ n i, zs.length - i ≤ n → (rfrom zs i).length ≤ zs.length - i := by
    intro n
    induction n with
    | zero => intro i hi; rw [rfrom_out (by omega)]; simp
    | succ n ih =>
      intro i hi
      by_cases h : i < zs.length
      · rw [rfrom_in h, List.length_cons]
        have h1 := widA_pos zs i
        have h2 := ih (i + widA zs i) (by omega)
        omega
      · rw [rfrom_out h]; simp
  have := key zs.length 0 (by omega)
  unfold runesOf; omega
/-- A bool that is a sentence's truth. -/
def GivesQ (A : Prop) (w : World) (e : Ending) (w' : World) : Prop := ∃ q : Bool, e = .returned (.bool q) ∧ (q = true ↔ A) ∧ Below w.heap.size w w'
theorem GivesQ.yes {A : Prop} {w w' : World} (h : A) (hb : Below w.heap.size w w') : GivesQ A w (.returned (.bool true)) w' := ⟨true, rfl, ⟨fun _ => h, fun _ => rfl⟩, hb⟩
theorem GivesQ.no {A : Prop} {w w' : World} (h : ¬ A) (hb : Below w.heap.size w w') : GivesQ A w (.returned (.bool false)) w' := ⟨false, rfl, ⟨fun e => Bool.noConfusion e, fun e => (h e).elim⟩, hb⟩

end Go.Proofs.YtmgimkokmlcllaaGreatDoor

/-
  The document's own Name and Quote, walked.
-/
namespace Go.Proofs.YtmgimkokmlcllaaGreatDoor
open Go.RowKit

end Go.Proofs.YtmgimkokmlcllaaGreatDoor

/-
  The document's own Quote, walked.
-/
namespace Go.Proofs.YtmgimkokmlcllaaGreatDoor
open Go.RowKit

theorem quoteB_len {l : List Int} (h : ∀ z ∈ l, -1 ≤ z ∧ z ≤ 1114111) : (quoteB l).length ≤ 9 * l.length := by
  induction l with
  | nil => simp [quoteB]
  | cons z l ih =>
    have h1 := quoteR_len (h z List.mem_cons_self).2
    have h2 := ih (fun x hx => h x (List.mem_cons_of_mem _ hx))
    unfold quoteB at *
    rw [List.flatMap_cons, List.length_append, List.length_cons]
    omega

end Go.Proofs.YtmgimkokmlcllaaGreatDoor
