/-
  The document's own calendar, walked: Period.
-/
import Derived.Test.YthhaineoflpkkaaDoorCivT
namespace Go.Proofs.YthhaineoflpkkaaDoor
open Go.RowKit

/-- The first month of so many months' period, and its days. -/
def qmI (size m : Int) : Int := size * ((m - 1) / size) + 1
def dsum (y q : Int) : Nat → Int
  | 0 => 0
  | k + 1 => dsum y q k + daysI y (q + (k : Int))
theorem dsum_bd (y q : Int) (k : Nat) : 0 ≤ dsum y q k ∧ dsum y q k ≤ 31 * (k : Int) := by
  induction k with
  | zero => simp [dsum]
  | succ k ih => have := daysI_bd y (q + (k : Int)); simp only [dsum]; omega
theorem RightD.tick_bd {y m d : Int} (h : RightD y m d) : 0 ≤ tickI y m d ∧ tickI y m d ≤ 253402214400 := by
  obtain ⟨h1, h2⟩ := dayI_room h
  have h3 := dby_mono ((y - 1970).toNat + 1) (8030 - ((y - 1970).toNat + 1))
  have := h.y0; have := h.y1
  rw [show (y - 1970).toNat + 1 + (8030 - ((y - 1970).toNat + 1)) = 8030 by omega, dby_all] at h3
  have h4 := dby_bd (y - 1970).toNat
  unfold tickI
  omega
theorem RightD.first {y m d : Int} (h : RightD y m d) {q : Int} (q0 : 1 ≤ q) (q1 : q ≤ 12) : RightD y q 1 := ⟨h.y0, h.y1, q0, q1, by decide, by have := daysI_in y q0 q1; omega⟩
/-- What Period hands back. -/
def GivesPeriod (t : Int) (size : Nat) (w : World) (e : Ending) (w' : World) : Prop := ∃ y m d : Int, RightD y m d ∧ tickI y m d = t / 86400 * 86400 ∧
  e = .returned (.tuple #[.int .i64 (tickI y (qmI size m) 1), .int .i64 (tickI y (qmI size m) 1 + 86400 * dsum y (qmI size m) size)]) ∧ Below w.heap.size w w'

end Go.Proofs.YthhaineoflpkkaaDoor
