/-
  Two lists with the same tokens are the same, as the document's answer compares them.
-/
import Derived.Test.YthfmllgflnideaaGreatDoorPkScnJ
namespace Go.Proofs.YthfmllgflnideaaGreatDoor
open Go.RowKit

theorem toksV_at (l : List Int) {L : List (TkV × Nat)} {i : Nat} (h : i < L.length) : (toksV l L).getD i [] = tkC l (L.getD i (tk0, 0)) := by
  unfold toksV
  simp [List.getD_eq_getElem?_getD, h]
/-- A row's cells, by its tokens. -/
theorem tok_row {l : List Int} {L : List (TkV × Nat)} {w : World} {base g n cap : Nat} (h : RowK 39 5 w base (.slice (some ⟨g, 0, none⟩) n cap) (toksV l L)) (i : Nat) (hi : i < L.length) :
    w.cell? ⟨g, i * 5, none⟩ = some (.int .i64 ((L.getD i (tk0, 0)).1.kind : Int)) ∧ w.cell? ⟨g, i * 5 + 1, none⟩ = some (.string (strOfNums (L.getD i (tk0, 0)).1.text)) ∧ w.cell? ⟨g, i * 5 + 2, none⟩ = some (.int .u64 ((L.getD i (tk0, 0)).1.n : Int)) ∧ w.cell? ⟨g, i * 5 + 3, none⟩ = some (.int .i64 (spotAt l (L.getD i (tk0, 0)).2).1) ∧ w.cell? ⟨g, i * 5 + 4, none⟩ = some (.int .i64 (spotAt l (L.getD i (tk0, 0)).2).2) := by
  have hl : i < (toksV l L).length := by rw [toksV_len]; exact hi
  have e0 := h.at i 0 hl (by decide)
  have e1 := h.at i 1 hl (by decide)
  have e2 := h.at i 2 hl (by decide)
  have e3 := h.at i 3 hl (by decide)
  have e4 := h.at i 4 hl (by decide)
  rw [toksV_at l hi] at e0 e1 e2 e3 e4
  exact ⟨e0, e1, e2, e3, e4⟩
set_option maxRecDepth 100000 in
set_option maxHeartbeats 8000000 in
theorem ssame_yes (v1 v2 : Value) (l : List Int) (L : List (TkV × Nat)) (w : World) (b1 b2 : Nat) (h1 : RowK 39 5 w b1 v1 (toksV l L)) (h2 : RowK 39 5 w b2 v2 (toksV l L)) (hl : L.length ≤ 1000000) :
    Calls Tryz.prog 14 #[v1, v2] w fun e w' => e = .returned (.bool true) ∧ Below w.heap.size w w' := by
  obtain ⟨n, hn⟩ : ∃ n, L.length = n := ⟨_, rfl⟩
  by_cases h0 : n = 0
  · obtain ⟨a1, c1, rfl⟩ := h1.size
    obtain ⟨a2, c2, rfl⟩ := h2.size
    rw [toksV_len, hn, h0]
    go_enter Tryz.func14, Tryz.ntmps14
    go_wp2
    go_loopw [5] (fun v5 wr => v5 = .int .i64 0 ∧ Below w.heap.size w wr) (fun _ _ => 0)
    case atStart => exact ⟨rfl, Below.refl _ _⟩
    case round =>
      obtain ⟨rfl, hb⟩ := hrel
      go_wp2
      go_ret
      exact ⟨rfl, hb⟩
  · obtain ⟨g1, c1, rfl, _, q1, k1⟩ := h1.form (by rw [toksV_len]; omega)
    obtain ⟨g2, c2, rfl, _, q2, k2⟩ := h2.form (by rw [toksV_len]; omega)
    have H1 := Lib.hid (fun i hi => tok_row h1 i hi)
    have H2 := Lib.hid (fun i hi => tok_row h2 i hi)
    rw [toksV_len, hn]
    rw [hn] at hl
    clear h1 h2 k1 k2
    have HN := Lib.hid hn
    clear hn
    go_enter Tryz.func14, Tryz.ntmps14
    go_wp2
    go_loopw [5] (fun v5 wr => ∃ i : Nat, i ≤ n ∧ v5 = .int .i64 (i : Int) ∧ Below w.heap.size w wr) (fun v5 _ => n - (intOf v5).toNat)
    case atStart => exact ⟨0, Nat.zero_le _, rfl, Below.refl _ _⟩
    case round =>
      obtain ⟨i, hi, rfl, hb⟩ := hrel
      have HB := Lib.hid hb
      clear hb
      by_cases hin : i < n
      · obtain ⟨x0, x1, x2, x3, x4⟩ := H1.out i (by rw [HN.out]; exact hin)
        obtain ⟨y0, y1, y2, y3, y4⟩ := H2.out i (by rw [HN.out]; exact hin)
        have e0 := (HB.out.cell (p := ⟨g1, i * 5, none⟩) q1).trans x0
        have e1 := (HB.out.cell (p := ⟨g1, i * 5 + 1, none⟩) q1).trans x1
        have e2 := (HB.out.cell (p := ⟨g1, i * 5 + 2, none⟩) q1).trans x2
        have e3 := (HB.out.cell (p := ⟨g1, i * 5 + 3, none⟩) q1).trans x3
        have e4 := (HB.out.cell (p := ⟨g1, i * 5 + 4, none⟩) q1).trans x4
        have f0 := (HB.out.cell (p := ⟨g2, i * 5, none⟩) q2).trans y0
        have f1 := (HB.out.cell (p := ⟨g2, i * 5 + 1, none⟩) q2).trans y1
        have f2 := (HB.out.cell (p := ⟨g2, i * 5 + 2, none⟩) q2).trans y2
        have f3 := (HB.out.cell (p := ⟨g2, i * 5 + 3, none⟩) q2).trans y3
        have f4 := (HB.out.cell (p := ⟨g2, i * 5 + 4, none⟩) q2).trans y4
        clear x0 x1 x2 x3 x4 y0 y1 y2 y3 y4
        have hi1 : IntKind.i64.wrap ((i : Int) + 1) = ((i + 1 : Nat) : Int) := by rw [IntKind.wrap_i64]; omega
        obtain ⟨p, hp⟩ : ∃ p, L.getD i (tk0, 0) = p := ⟨_, rfl⟩
        rw [hp] at e0 e1 e2 e3 e4 f0 f1 f2 f3 f4
        obtain ⟨S, hS⟩ : ∃ S, strOfNums p.1.text = S := ⟨_, rfl⟩
        rw [hS] at e1 f1
        obtain ⟨X, hX⟩ : ∃ S, (spotAt l p.2).1 = S := ⟨_, rfl⟩
        obtain ⟨Y, hY⟩ : ∃ S, (spotAt l p.2).2 = S := ⟨_, rfl⟩
        rw [hX] at e3 f3
        rw [hY] at e4 f4
        clear hp hS hX hY
        go_wp2
        go_quiet (fail)
        go_wp2
        go_roundw
        case rel => exact ⟨i + 1, by omega, by go_num, Go.below_drewN HB.out _⟩
        case measure => simp [intOf]; omega
      · go_wp2
        go_ret
        exact ⟨rfl, HB.out⟩

end Go.Proofs.YthfmllgflnideaaGreatDoor
