/-
  Dates as texts: what is printed is read, and what is read is printed: plain arithmetic. No program in sight.
-/
import Derived.Test.YthhaineoflpkkaaDoorCivQ
import Derived.Test.YthhaineoflpkkaaDoorCivV
namespace Go.Proofs.YthhaineoflpkkaaDoor
open Go.RowKit

theorem ten_list {zs : List Int} (h : zs.length = 10) : zs = [zs.getD 0 0, zs.getD 1 0, zs.getD 2 0, zs.getD 3 0, zs.getD 4 0, zs.getD 5 0, zs.getD 6 0, zs.getD 7 0, zs.getD 8 0, zs.getD 9 0] := by
  match zs, h with
  | [_, _, _, _, _, _, _, _, _, _], _ => rfl
theorem nAt_list (a b c d e f g h i j : Int) (n : Int → Nat) (hn : n = fun z => (z - 48).toNat) : nAt [a, b, c, d, e, f, g, h, i, j] 0 4 = 1000 * n a + 100 * n b + 10 * n c + n d ∧ nAt [a, b, c, d, e, f, g, h, i, j] 5 2 = 10 * n f + n g ∧ nAt [a, b, c, d, e, f, g, h, i, j] 8 2 = 10 * n i + n j := by
  subst hn
  simp only [nAt, numOf, List.drop_succ_cons, List.drop_zero, List.take_succ_cons, List.take_zero, List.foldl_cons, List.foldl_nil]
  omega
/-- What is printed is read. -/
theorem dpr_text {y m d : Int} (h : RightD y m d) : DateText (dpr y m d) ∧ (nAt (dpr y m d) 0 4 : Int) = y ∧ (nAt (dpr y m d) 5 2 : Int) = m ∧ (nAt (dpr y m d) 8 2 : Int) = d := by
  have h31 := daysI_bd y m
  obtain ⟨y0, y1, m0, m1, d0, d1⟩ := h
  have e : dpr y m d = [48 + y / 100 / 10, 48 + y / 100 % 10, 48 + y % 100 / 10, 48 + y % 100 % 10, 45, 48 + m / 10, 48 + m % 10, 45, 48 + d / 10, 48 + d % 10] := rfl
  rw [e]
  obtain ⟨n1, n2, n3⟩ := nAt_list (48 + y / 100 / 10) (48 + y / 100 % 10) (48 + y % 100 / 10) (48 + y % 100 % 10) 45 (48 + m / 10) (48 + m % 10) 45 (48 + d / 10) (48 + d % 10) _ rfl
  rw [n1, n2, n3]
  refine ⟨⟨rfl, fun j hj => ?_⟩, by omega, by omega, by omega⟩
  have : j = 0 ∨ j = 1 ∨ j = 2 ∨ j = 3 ∨ j = 4 ∨ j = 5 ∨ j = 6 ∨ j = 7 ∨ j = 8 ∨ j = 9 := by omega
  rcases this with rfl | rfl | rfl | rfl | rfl | rfl | rfl | rfl | rfl | rfl <;> simp [okL] <;> omega
theorem dpr_byte {y m d : Int} (h : RightD y m d) : ∀ z ∈ dpr y m d, 0 ≤ z ∧ z ≤ 255 := by
  have h31 := daysI_bd y m
  obtain ⟨y0, y1, m0, m1, d0, d1⟩ := h
  intro z hz
  have e : dpr y m d = [48 + y / 100 / 10, 48 + y / 100 % 10, 48 + y % 100 / 10, 48 + y % 100 % 10, 45, 48 + m / 10, 48 + m % 10, 45, 48 + d / 10, 48 + d % 10] := rfl
  rw [e] at hz
  simp only [List.mem_cons, List.not_mem_nil, or_false] at hz
  omega
theorem dpr_out {y m d : Int} (h : RightD y m d) : DateOut (nums (strOfNums (dpr y m d))) y m d 0 := by
  rw [nums_strOfNums _ (dpr_byte h)]
  obtain ⟨h1, h2, h3, h4⟩ := dpr_text h
  exact Or.inr (Or.inr ⟨h1, by rw [h2, h3, h4]; exact h, h2.symm, h3.symm, h4.symm, rfl⟩)
theorem mark_date : DateOut (nums ⟨#[63]⟩) 0 0 0 5 := Or.inl ⟨fun h => by have := h.1; simp [nums] at this, rfl, rfl, rfl, rfl⟩
theorem dpr_list (p q r s t u v x : Nat) (_hp : p ≤ 9) (hq : q ≤ 9) (hr : r ≤ 9) (hs : s ≤ 9) (_ht : t ≤ 9) (hu : u ≤ 9) (_hv : v ≤ 9) (hx : x ≤ 9) :
    dpr ((1000 * p + 100 * q + 10 * r + s : Nat) : Int) ((10 * t + u : Nat) : Int) ((10 * v + x : Nat) : Int) = [48 + (p : Int), 48 + (q : Int), 48 + (r : Int), 48 + (s : Int), 45, 48 + (t : Int), 48 + (u : Int), 45, 48 + (v : Int), 48 + (x : Int)] := by
  obtain ⟨Y, hY⟩ : ∃ Y : Int, ((1000 * p + 100 * q + 10 * r + s : Nat) : Int) = Y := ⟨_, rfl⟩
  obtain ⟨M, hM⟩ : ∃ M : Int, ((10 * t + u : Nat) : Int) = M := ⟨_, rfl⟩
  obtain ⟨D, hD⟩ : ∃ D : Int, ((10 * v + x : Nat) : Int) = D := ⟨_, rfl⟩
  rw [hY, hM, hD]
  have e : dpr Y M D = [48 + Y / 100 / 10, 48 + Y / 100 % 10, 48 + Y % 100 / 10, 48 + Y % 100 % 10, 45, 48 + M / 10, 48 + M % 10, 45, 48 + D / 10, 48 + D % 10] := rfl
  have e0 : Y / 100 / 10 = p := by omega
  have e1 : Y / 100 % 10 = q := by omega
  have e2 : Y % 100 / 10 = r := by omega
  have e3 : Y % 100 % 10 = s := by omega
  have e4 : M / 10 = t := by omega
  have e5 : M % 10 = u := by omega
  have e6 : D / 10 = v := by omega
  have e7 : D % 10 = x := by omega
  rw [e, e0, e1, e2, e3, e4, e5, e6, e7]
theorem digit_back {a : Int} (h : 48 ≤ a ∧ a ≤ 57) : ∃ n : Nat, a = 48 + (n : Int) ∧ n ≤ 9 ∧ (a - 48).toNat = n := ⟨(a - 48).toNat, by omega, by omega, rfl⟩
/-- What is read is printed. -/
theorem date_back {s : ByteArray} {y m d : Int} (h : DateOut (nums s) y m d 0) : RightD y m d ∧ strOfNums (dpr y m d) = s := by
  rcases h with ⟨_, _, _, _, h⟩ | ⟨_, _, _, _, _, h⟩ | ⟨⟨hl, ht⟩, hr, rfl, rfl, rfl, _⟩
  · omega
  · omega
  · refine ⟨hr, ?_⟩
    have k0 := ht 0 (by decide)
    have k1 := ht 1 (by decide)
    have k2 := ht 2 (by decide)
    have k3 := ht 3 (by decide)
    have k4 := ht 4 (by decide)
    have k5 := ht 5 (by decide)
    have k6 := ht 6 (by decide)
    have k7 := ht 7 (by decide)
    have k8 := ht 8 (by decide)
    have k9 := ht 9 (by decide)
    clear ht hr
    conv => rhs; rw [← strOfNums_nums s]
    generalize nums s = zs at *
    have e := ten_list hl
    generalize zs.getD 0 0 = a0 at *
    generalize zs.getD 1 0 = a1 at *
    generalize zs.getD 2 0 = a2 at *
    generalize zs.getD 3 0 = a3 at *
    generalize zs.getD 4 0 = a4 at *
    generalize zs.getD 5 0 = a5 at *
    generalize zs.getD 6 0 = a6 at *
    generalize zs.getD 7 0 = a7 at *
    generalize zs.getD 8 0 = a8 at *
    generalize zs.getD 9 0 = a9 at *
    subst e
    obtain ⟨n1, n2, n3⟩ := nAt_list a0 a1 a2 a3 a4 a5 a6 a7 a8 a9 _ rfl
    replace k0 : 48 ≤ a0 ∧ a0 ≤ 57 := k0
    replace k1 : 48 ≤ a1 ∧ a1 ≤ 57 := k1
    replace k2 : 48 ≤ a2 ∧ a2 ≤ 57 := k2
    replace k3 : 48 ≤ a3 ∧ a3 ≤ 57 := k3
    replace k4 : a4 = 45 := k4
    replace k5 : 48 ≤ a5 ∧ a5 ≤ 57 := k5
    replace k6 : 48 ≤ a6 ∧ a6 ≤ 57 := k6
    replace k7 : a7 = 45 := k7
    replace k8 : 48 ≤ a8 ∧ a8 ≤ 57 := k8
    replace k9 : 48 ≤ a9 ∧ a9 ≤ 57 := k9
    congr 1
    rw [n1, n2, n3]
    clear n1 n2 n3 hl
    obtain ⟨b0, rfl, l0, e0⟩ := digit_back k0
    obtain ⟨b1, rfl, l1, e1⟩ := digit_back k1
    obtain ⟨b2, rfl, l2, e2⟩ := digit_back k2
    obtain ⟨b3, rfl, l3, e3⟩ := digit_back k3
    obtain ⟨b5, rfl, l5, e5⟩ := digit_back k5
    obtain ⟨b6, rfl, l6, e6⟩ := digit_back k6
    obtain ⟨b8, rfl, l8, e8⟩ := digit_back k8
    obtain ⟨b9, rfl, l9, e9⟩ := digit_back k9
    subst k4 k7
    show dpr ((1000 * (48 + (b0 : Int) - 48).toNat + 100 * (48 + (b1 : Int) - 48).toNat + 10 * (48 + (b2 : Int) - 48).toNat + (48 + (b3 : Int) - 48).toNat : Nat) : Int) ((10 * (48 + (b5 : Int) - 48).toNat + (48 + (b6 : Int) - 48).toNat : Nat) : Int) ((10 * (48 + (b8 : Int) - 48).toNat + (48 + (b9 : Int) - 48).toNat : Nat) : Int) = _
    rw [e0, e1, e2, e3, e5, e6, e8, e9]
    exact dpr_list b0 b1 b2 b3 b5 b6 b8 b9 l0 l1 l2 l3 l5 l6 l8 l9

end Go.Proofs.YthhaineoflpkkaaDoor
