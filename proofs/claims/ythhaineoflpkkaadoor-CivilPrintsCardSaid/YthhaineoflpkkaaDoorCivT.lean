/-
  The document's own calendar, walked: Tick, At.
-/
import Derived.Test.YthhaineoflpkkaaDoorCivS
import Derived.Deep.LoopGhost
namespace Go.Proofs.YthhaineoflpkkaaDoor
open Go.RowKit

theorem Var3.put0 {W : World} {p : Nat} {x y z : Value} (k : Var3 W p x y z) (v : Value) : Var3 (W.setCell ⟨p, 0, none⟩ v) p v y z :=
  ⟨World.cell?_setCell_same _ _ _ k.c0, by rw [World.cell?_setCell_other _ _ _ _ (by simp)]; exact k.c1, by rw [World.cell?_setCell_other _ _ _ _ (by simp)]; exact k.c2, by rw [World.frozen?_setCell]; exact k.q0, by rw [World.frozen?_setCell]; exact k.q1, by rw [World.frozen?_setCell]; exact k.q2, by simpa using k.s⟩
theorem Var3.put1 {W : World} {p : Nat} {x y z : Value} (k : Var3 W p x y z) (v : Value) : Var3 (W.setCell ⟨p, 1, none⟩ v) p x v z :=
  ⟨by rw [World.cell?_setCell_other _ _ _ _ (by simp)]; exact k.c0, World.cell?_setCell_same _ _ _ k.c1, by rw [World.cell?_setCell_other _ _ _ _ (by simp)]; exact k.c2, by rw [World.frozen?_setCell]; exact k.q0, by rw [World.frozen?_setCell]; exact k.q1, by rw [World.frozen?_setCell]; exact k.q2, by simpa using k.s⟩
theorem Var3.put2 {W : World} {p : Nat} {x y z : Value} (k : Var3 W p x y z) (v : Value) : Var3 (W.setCell ⟨p, 2, none⟩ v) p x y v :=
  ⟨by rw [World.cell?_setCell_other _ _ _ _ (by simp)]; exact k.c0, by rw [World.cell?_setCell_other _ _ _ _ (by simp)]; exact k.c1, World.cell?_setCell_same _ _ _ k.c2, by rw [World.frozen?_setCell]; exact k.q0, by rw [World.frozen?_setCell]; exact k.q1, by rw [World.frozen?_setCell]; exact k.q2, by simpa using k.s⟩
theorem Var3.other {W : World} {p : Nat} {x y z : Value} (k : Var3 W p x y z) {a : Addr} (v : Value) (h : a.block ≠ p) : Var3 (W.setCell a v) p x y z :=
  have ne : ∀ i, a ≠ (⟨p, i, none⟩ : Addr) := fun i e => h (by rw [e])
  ⟨by rw [World.cell?_setCell_other _ _ _ _ (ne 0)]; exact k.c0, by rw [World.cell?_setCell_other _ _ _ _ (ne 1)]; exact k.c1, by rw [World.cell?_setCell_other _ _ _ _ (ne 2)]; exact k.c2, by rw [World.frozen?_setCell]; exact k.q0, by rw [World.frozen?_setCell]; exact k.q1, by rw [World.frozen?_setCell]; exact k.q2, by simpa using k.s⟩

/-- At the head of a round of years: so many days are left, from that year on. -/
structure YearAt (n : Int) (k : Nat) (left : Int) : Prop where
  l0 : 0 ≤ left
  is : n = dby k + left
/-- In the year: so many days are left, from that month on. -/
structure MonAt (n : Int) (K j : Nat) (left : Int) : Prop where
  l0 : 0 ≤ left
  is : n = dby K + dbm (1970 + (K : Int)) j + left
  yr : n < dby K + yearI (1970 + (K : Int))
theorem MonAt.room {n left : Int} {K j : Nat} (h : MonAt n K j left) : j < 12 := by
  by_cases hj : j < 12
  · exact hj
  · have h1 := dbm_mono (1970 + (K : Int)) 12 (j - 12)
    rw [show 12 + (j - 12) = j by omega, dbm_year] at h1
    have := h.l0; have := h.is; have := h.yr
    omega
theorem YearAt.room {n left : Int} {k : Nat} (h : YearAt n k left) (hn : n ≤ 2932896) : (k : Int) ≤ 8035 ∧ left ≤ 2932896 := by
  have h1 := dby_bd k
  have := h.l0; have := h.is
  omega
/-- The last year is 9999. -/
theorem yearI_cycle (y : Int) : yearI (y + 400) = yearI y := by
  unfold yearI leapB
  rw [show (y + 400) % 400 = y % 400 by omega, show (y + 400) % 4 = y % 4 by omega, show (y + 400) % 100 = y % 100 by omega]
theorem dby_cycle (k : Nat) : dby (k + 400) = dby k + 146097 := by
  induction k with
  | zero => decide +kernel
  | succ k ih =>
    rw [show k + 1 + 400 = (k + 400) + 1 by omega, dby, ih, dby, show 1970 + ((k + 400 : Nat) : Int) = 1970 + (k : Int) + 400 by omega, yearI_cycle]
    omega
theorem dby_cycles (k j : Nat) : dby (k + 400 * j) = dby k + 146097 * (j : Int) := by
  induction j with
  | zero => simp
  | succ j ih => rw [show k + 400 * (j + 1) = (k + 400 * j) + 400 by omega, dby_cycle, ih]; omega
theorem dby_all : dby 8030 = 2932897 := by
  have h := dby_cycles 30 20
  have e : dby 30 = 10957 := by decide +kernel
  rw [e] at h
  exact h
theorem YearAt.year {n left : Int} {k : Nat} (h : YearAt n k left) (hn : n ≤ 2932896) : k < 8030 := by
  by_cases hk : k < 8030
  · exact hk
  · have h1 := dby_mono 8030 (k - 8030)
    rw [show 8030 + (k - 8030) = k by omega, dby_all] at h1
    have := h.l0; have := h.is
    omega
/-- What At hands back. -/
def GivesAt (t : Int) (w : World) (e : Ending) (w' : World) : Prop := ∃ y m d : Int, e = .returned (.agg #[.int .i64 y, .int .i64 m, .int .i64 d]) ∧ RightD y m d ∧ tickI y m d = t / 86400 * 86400 ∧ Below w.heap.size w w'
theorem MonAt.date {n left : Int} {K j : Nat} (h : MonAt n K j left) (hK : K < 8030) (hd : left < daysI (1970 + (K : Int)) (1 + (j : Int))) : RightD (1970 + (K : Int)) (1 + (j : Int)) (left + 1) ∧ tickI (1970 + (K : Int)) (1 + (j : Int)) (left + 1) = n * 86400 := by
  have hj := h.room
  refine ⟨⟨by omega, by omega, by omega, by omega, by have := h.l0; omega, by omega⟩, ?_⟩
  unfold tickI dayI
  rw [show (1970 + (K : Int) - 1970).toNat = K by omega, show (1 + (j : Int) - 1).toNat = j by omega]
  have := h.is
  omega

end Go.Proofs.YthhaineoflpkkaaDoor
