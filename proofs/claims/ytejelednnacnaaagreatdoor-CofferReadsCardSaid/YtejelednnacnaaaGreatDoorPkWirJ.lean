/-
  Package wire's calls that put bytes behind bytes: walked.
-/
import Derived.Test.YtejelednnacnaaaGreatDoorPkBase
import Derived.Test.YtejelednnacnaaaGreatDoorPkWirH
import Derived.Test.YtejelednnacnaaaGreatDoorPkWirE
import Derived.Laws.IdiomStrings
namespace Go.Proofs.YtejelednnacnaaaGreatDoor
open Go.RowKit

/-- What a call hands back that puts bytes behind a list of the caller's own. -/
def PutsB (base : Nat) (l : List Int) (w : World) (e : Ending) (w' : World) : Prop := ∃ v, e = .returned v ∧ OwnInts 5 .u8 w' base v l ∧ Below base w w' ∧ base ≤ w'.heap.size
/-- What New hands back. -/
def GivesR (B : List Int) (w : World) (e : Ending) (w' : World) : Prop := ∃ r hi, e = .returned (.pointer (some ⟨r, 0, none⟩)) ∧ w.heap.size ≤ r ∧ RdrIs w' hi r (some B) ∧ Below w.heap.size w w'
theorem BytesIs.argB {w : World} {v : Value} {B : List Int} (h : BytesIs w v B) : (∃ cap, v = .slice none 0 cap ∧ B = []) ∨ ArgB w v B := by
  obtain ⟨a, cap, rfl, hc, hcell⟩ := h
  cases a with
  | none =>
    have : B = [] := by
      cases B with
      | nil => rfl
      | cons z r => obtain ⟨b, off, e, _⟩ := hcell 0 (by simp); cases e
    subst this
    exact Or.inl ⟨cap, rfl, rfl⟩
  | some x =>
    refine Or.inr (Or.inr ⟨x, cap, rfl, hc, fun i hi => ?_⟩)
    obtain ⟨b, off, e, h⟩ := hcell i hi
    cases e
    have e2 : (⟨b, off, none⟩ : Addr).add i = ⟨b, off + i, none⟩ := by unfold Addr.add; split <;> simp_all
    rw [e2]; exact h
set_option maxRecDepth 100000 in
set_option maxHeartbeats 4000000 in
theorem wnew_any (v : Value) (B : List Int) (w : World) (hv : BytesIs w v B) (hb : ∀ z ∈ B, 0 ≤ z ∧ z ≤ 255) (hl : B.length ≤ 1000000) : Calls Tryz.prog 78 #[v] w (GivesR B w) := by
  have hc : (convert 22 9 v).run Tryz.prog w = .ok (.string (strOfNums B)) w := by
    rcases hv.argB with ⟨cap, rfl, rfl⟩ | h
    · exact run_convert_bytes_nil w 22 5 Tryz.underlying22 Tryz.underlying5 0 cap 9 Tryz.underlying9
    · exact conv_arg h hb
  obtain ⟨a, cap, rfl, _⟩ := hv
  have HO := Lib.hid hb
  generalize hS : strOfNums B = t at hc
  have HS := Lib.hid hS
  clear hb hS
  go_enter Tryz.func78, Tryz.ntmps78
  go_wp2
  go_ret
  refine ⟨w.heap.size, w.heap.size + 1, rfl, Nat.le_refl _, ⟨⟨Nat.lt_succ_self _, by simp⟩, ?_, HO.out, hl⟩, (Below.refl _ _).alloc (Nat.le_refl _) _⟩
  show Var2 _ w.heap.size (.string (strOfNums B)) (.bool false)
  rw [HS.out]
  exact Var2.fresh w _ _ _ _ rfl
theorem wnew_nil (w : World) : Calls Tryz.prog 78 #[.slice none 0 0] w (GivesR [] w) := wnew_any _ _ w ⟨none, 0, rfl, Nat.le_refl _, fun i hi => by cases hi⟩ (by intro z hz; cases hz) (by decide)

end Go.Proofs.YtejelednnacnaaaGreatDoor
