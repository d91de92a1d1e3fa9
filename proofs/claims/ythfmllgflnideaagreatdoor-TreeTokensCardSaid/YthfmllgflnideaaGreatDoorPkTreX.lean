/-
  The law's toks: a tree's tokens, walked.
-/
import Derived.Test.YthfmllgflnideaaGreatDoorPkTrel
import Derived.Test.YthfmllgflnideaaGreatDoorPkTrem
import Derived.Test.YthfmllgflnideaaGreatDoorPkMixs
import Derived.Deep.QuietTactic
namespace Go.Proofs.YthfmllgflnideaaGreatDoor
open Go.RowKit

theorem toksL_one (x : It) : toksL [x] = { k := 1, s := x.name, a := x.a, b := x.b } :: (x.words ++ (if x.block then { k := 7 } :: (toksL x.kids ++ [{ k := 8 }]) else [{ k := 9 }])) := by
  obtain ⟨n, w, k, kids, a, b⟩ := x
  cases k <;> simp [toksL, It.name, It.words, It.block, It.kids, It.a, It.b]
theorem tk_take {L : List It} {i : Nat} (h : i < L.length) : L.take (i + 1) = L.take i ++ [L.getD i default] := by
  rw [List.take_add_one, List.getD_eq_getElem?_getD, List.getElem?_eq_getElem h]; rfl
theorem toksL_next {L : List It} {i : Nat} (h : i < L.length) : toksL (L.take (i + 1)) = toksL (L.take i) ++ toksL [L.getD i default] := by
  rw [tk_take h, toksL_app]
theorem toksL_take_le (L : List It) (i : Nat) : (toksL (L.take i)).length ≤ (toksL L).length := by
  have := congrArg (fun l => (toksL l).length) (List.take_append_drop i L)
  simp only [toksL_app, List.length_append] at this
  omega
/-- Words, as cells. -/
theorem WordsIs.cells {w : World} {S : Nat → Prop} {a : Option Addr} {n c : Nat} {l : List Tk3} (h : WordsIs w S (.slice a n c) l) : n = l.length ∧ CellsAt 5 w a (l.map tkV) := by
  obtain ⟨a', cap, e, _, hcell⟩ := h
  simp only [Value.slice.injEq] at e
  obtain ⟨rfl, rfl, rfl⟩ := e
  refine ⟨rfl, fun u hu => ?_, fun i hi => ?_⟩
  · obtain ⟨t, _, rfl⟩ := List.mem_map.mp hu; rfl
  · rw [List.length_map] at hi
    obtain ⟨b, off, rfl, _, h0, h1, h2, h3, h4⟩ := hcell i hi
    have e : (l.map tkV).getD i [] = tkV (l.getD i {}) := by
      rw [List.getD_eq_getElem?_getD, List.getD_eq_getElem?_getD, List.getElem?_map, List.getElem?_eq_getElem hi]; rfl
    rw [e]
    refine ⟨b, off, rfl, fun j hj => ?_⟩
    have : j = 0 ∨ j = 1 ∨ j = 2 ∨ j = 3 ∨ j = 4 := by omega
    rcases this with rfl | rfl | rfl | rfl | rfl
    · exact h0
    · exact h1
    · exact h2
    · exact h3
    · exact h4
theorem rowCells {w : World} {base : Nat} {a : Option Addr} {n c : Nat} {l : List Tk3} (h : RowK 39 5 w base (.slice a n c) (l.map tkV)) : n = l.length ∧ CellsAt 5 w a (l.map tkV) :=
  (RowK.words (S := fun _ => True) h (fun _ _ => trivial)).cells
theorem tkVs_one (l : List Tk3) : ∀ u ∈ l.map tkV, ∀ x ∈ u, x.oneCell' = true := fun u hu => by
  obtain ⟨t, _, rfl⟩ := List.mem_map.mp hu
  exact tkV_one t
theorem tok_box_cells (w : World) (t : Tk3) : ∀ j, j < 5 → (w.alloc (.cells #[.int .i64 t.k, .string t.s, .int .u64 t.n, .int .i64 t.a, .int .i64 t.b] 39)).cell? ⟨w.heap.size, j, none⟩ = some ((tkV t).getD j undef) :=
  tok_cells (by simp) (by simp) (by simp) (by simp) (by simp)

/-- What each operation has made that puts a name behind the tokens. -/
def TXs (v3 : Value) (b off n cap i : Nat) (nm : ByteArray) (pa pb : Int) : Nat → Value → World → Prop
  | 0, v, _ => v = v3
  | 1, v, _ => v = .slice (some ⟨b, off, none⟩) n cap
  | 2, v, _ => v = .int .i64 (i : Int)
  | 3, v, _ => v = .pointer (some ⟨b, off + i * 6, none⟩)
  | 4, v, _ => v = .pointer (some ⟨b, off + i * 6, none⟩)
  | 5, v, _ => v = .string nm
  | 6, v, _ => v = .slice (some ⟨b, off, none⟩) n cap
  | 7, v, _ => v = .int .i64 (i : Int)
  | 8, v, _ => v = .pointer (some ⟨b, off + i * 6, none⟩)
  | 9, v, _ => v = .pointer (some ⟨b, off + i * 6 + 4, none⟩)
  | 10, v, _ => v = .agg #[.int .i64 pa, .int .i64 pb]
  | 11, v, _ => v = .agg #[.int .i64 1, .string nm, .int .u64 0, .int .i64 pa, .int .i64 pb]
  | 12, v, w => ∃ g, v = .slice (some ⟨g, 0, none⟩) 1 1 ∧ g < w.heap.size ∧ ∀ j, j < 5 → w.cell? ⟨g, j, none⟩ = some ((tkV { k := 1, s := nm, a := pa, b := pb }).getD j undef)
  | _, _, _ => True
theorem TXs.keep {v3 : Value} {b off n cap i : Nat} {nm : ByteArray} {pa pb : Int} (j : Nat) (v : Value) (w w' : World) (h : TXs v3 b off n cap i nm pa pb j v w) (hb : Below w.heap.size w w') : TXs v3 b off n cap i nm pa pb j v w' := by
  match j, h with
  | 0, h => exact h
  | 1, h => exact h
  | 2, h => exact h
  | 3, h => exact h
  | 4, h => exact h
  | 5, h => exact h
  | 6, h => exact h
  | 7, h => exact h
  | 8, h => exact h
  | 9, h => exact h
  | 10, h => exact h
  | 11, h => exact h
  | 12, h =>
    obtain ⟨g, e, hg, hc⟩ := h
    exact ⟨g, e, Nat.lt_of_lt_of_le hg hb.size, fun j hj => (hb.cell (p := ⟨g, j, none⟩) hg).trans (hc j hj)⟩
  | j + 13, _ => exact trivial

set_option maxRecDepth 100000 in
set_option maxHeartbeats 16000000 in
theorem toks_any : ∀ (d : Nat) (S : Nat → Prop) (v : Value) (L : List It) (w : World), ItemsIs d w S v L → (∀ b, S b → b < w.heap.size) → (toksL L).length ≤ 1000000 →
    Calls Tryz.prog 10 #[v] w fun e w' => ∃ v', e = .returned v' ∧ RowK 39 5 w' w.heap.size v' ((toksL L).map tkV) ∧ Below w.heap.size w w' := by
  intro d
  induction d with
  | zero =>
    intro S v L w h _ _
    obtain ⟨rfl, a, cap, rfl⟩ := h
    obtain ⟨B, hB⟩ : ∃ B, w.heap.size = B := ⟨_, rfl⟩
    obtain ⟨W0, hW0⟩ : ∃ W, w.alloc (.cells #[] 39) = W := ⟨_, rfl⟩
    have R0 : RowK 39 5 W0 B (.slice (some ⟨B, 0, none⟩) 0 0) [] := by rw [← hW0]; exact RowK.fresh _ 5 w _ _ hB.symm (Nat.le_refl _)
    have g0 : Below B w W0 := by rw [← hW0, ← hB]; exact (Below.refl _ _).alloc (Nat.le_refl _) _
    have HR0 := Lib.hid R0
    have HG0 := Lib.hid g0
    have HB := Lib.hid hB
    clear R0 g0
    go_enter Tryz.func10, Tryz.ntmps10
    go_wp2
    go_loopw [3, 4] (fun v3 v4 wr => v3 = .slice (some ⟨B, 0, none⟩) 0 0 ∧ v4 = .int .i64 0 ∧ wr = W0) (fun _ _ _ => 0)
    case atStart => exact ⟨rfl, rfl, rfl⟩
    case round =>
      obtain ⟨rfl, rfl, rfl⟩ := hrel
      go_wp2
      go_ret
      exact ⟨_, rfl, by rw [HB.out]; simpa [toksL] using HR0.out, HB.out ▸ HG0.out⟩
  | succ d ih =>
    intro S v L w h hS hm
    obtain ⟨a, cap, rfl⟩ := h.size
    have HH := Lib.hid h
    have HS := Lib.hid hS
    have HIH := Lib.hid ih
    have HM := Lib.hid hm
    obtain ⟨n, hn⟩ : ∃ n, L.length = n := ⟨_, rfl⟩
    have HN := Lib.hid hn
    have HLn : n ≤ 1000000 := by
      have h1 : ∀ M : List It, M.length ≤ (toksL M).length := fun M => by
        induction M with
        | nil => simp
        | cons x M ih => obtain ⟨n, w, k, kids, a, b⟩ := x; simp only [List.length_cons, toksL, List.cons_append, List.length_append]; omega
      have := h1 L
      omega
    obtain ⟨B, hB⟩ : ∃ B, w.heap.size = B := ⟨_, rfl⟩
    obtain ⟨W0, hW0⟩ : ∃ W, w.alloc (.cells #[] 39) = W := ⟨_, rfl⟩
    have R0 : RowK 39 5 W0 B (.slice (some ⟨B, 0, none⟩) 0 0) [] := by rw [← hW0]; exact RowK.fresh _ 5 w _ _ hB.symm (Nat.le_refl _)
    have g0 : Below B w W0 := by rw [← hW0, ← hB]; exact (Below.refl _ _).alloc (Nat.le_refl _) _
    have HR0 := Lib.hid R0
    have HG0 := Lib.hid g0
    have HB := Lib.hid hB
    have e0 : toksL (L.take 0) = [] := by simp [toksL]
    have HE0 := Lib.hid e0
    rw [hn]
    clear h hS ih hm hn R0 g0 e0
    go_enter Tryz.func10, Tryz.ntmps10
    go_wp2
    go_loopw [3, 4] (fun v3 v4 wr => ∃ i : Nat, i ≤ n ∧ v4 = .int .i64 (i : Int) ∧ RowK 39 5 wr B v3 ((toksL (L.take i)).map tkV) ∧ Below B w wr) (fun _ v4 _ => n - (intOf v4).toNat)
    case atStart => exact ⟨0, Nat.zero_le _, rfl, by rw [HE0.out]; exact HR0.out, HG0.out⟩
    case round =>
      rename_i wr
      obtain ⟨i, hi, rfl, hr, hb⟩ := hrel
      have HR := Lib.hid hr
      have HBL := Lib.hid hb
      clear hr hb
      by_cases hin : i < n
      · obtain ⟨d', hd', b, off, wv, kv, rfl, hsb, x0, x1, x2, x3, x4, x5, hw, hk⟩ := HH.out.at i (by rw [HN.out]; exact hin)
        obtain rfl : d = d' := by omega
        have hlt : b < B := HB.out ▸ HS.out b hsb
        obtain ⟨⟨nm, ws, bk, kd, pa, pb⟩, hp⟩ : ∃ p, L.getD i default = p := ⟨_, rfl⟩
        rw [hp] at x0 x2 x4 x5 hw hk
        simp only [It.name, It.words, It.block, It.kids, It.a, It.b] at x0 x2 x4 x5 hw hk
        have HX : Hid (∀ W, Below B w W → W.cell? ⟨b, off + i * 6, none⟩ = some (.string nm) ∧ W.cell? ⟨b, off + i * 6 + 1, none⟩ = some wv ∧ W.cell? ⟨b, off + i * 6 + 2, none⟩ = some (.bool bk) ∧ W.cell? ⟨b, off + i * 6 + 3, none⟩ = some kv ∧ W.cell? ⟨b, off + i * 6 + 4, none⟩ = some (.int .i64 pa) ∧ W.cell? ⟨b, off + i * 6 + 5, none⟩ = some (.int .i64 pb)) := Lib.hid (fun W h =>
          ⟨(h.cell (p := ⟨b, off + i * 6, none⟩) hlt).trans x0, (h.cell (p := ⟨b, off + i * 6 + 1, none⟩) hlt).trans x1, (h.cell (p := ⟨b, off + i * 6 + 2, none⟩) hlt).trans x2, (h.cell (p := ⟨b, off + i * 6 + 3, none⟩) hlt).trans x3, (h.cell (p := ⟨b, off + i * 6 + 4, none⟩) hlt).trans x4, (h.cell (p := ⟨b, off + i * 6 + 5, none⟩) hlt).trans x5⟩)
        have HNX : Hid (toksL (L.take (i + 1)) = toksL (L.take i) ++ { k := 1, s := nm, a := pa, b := pb } :: (ws ++ (if bk then { k := 7 } :: (toksL kd ++ [{ k := 8 }]) else [{ k := 9 }]))) := Lib.hid (by
          rw [toksL_next (by rw [HN.out]; exact hin), hp, toksL_one]; rfl)
        have hle := toksL_take_le L (i + 1)
        rw [HNX.out] at hle
        simp only [List.length_append, List.length_cons] at hle
        have HLE : Hid ((toksL (L.take i)).length + (ws.length + ((if bk then { k := 7 } :: (toksL kd ++ [{ k := 8 }]) else [{ k := 9 }] : List Tk3)).length + 1) ≤ 1000000) := Lib.hid (Nat.le_trans hle HM.out)
        have HW : Hid (∀ W, Below B w W → WordsIs W S wv ws) := Lib.hid (fun W h => hw.keep (fun _ h => h) (fun b hb => h.block b (HB.out ▸ HS.out b hb)))
        have HK : Hid (∀ W, Below B w W → ItemsIs d W S kv kd) := Lib.hid (fun W h => ItemsIs.keep hk (fun _ h => h) (fun b hb => h.block b (HB.out ▸ HS.out b hb)))
        obtain ⟨c0, c1, c2, c3, c4, c5⟩ := HX.out wr HBL.out
        clear x0 x1 x2 x3 x4 x5 hw hk hd' hle hp hsb
        go_wp2
        go_upto_region 5 with fail
        go_cut [3] from 12 to 25 (fun v3 wx => RowK 39 5 wx B v3 ((toksL (L.take i)).map tkV ++ [tkV { k := 1, s := nm, a := pa, b := pb }]) ∧ Below B w wx)
        case first =>
          have HIL : Hid ((i : Int) < (n : Int)) := Lib.hid (by omega)
          have HCP : Hid (0 ≤ (i : Int)) := Lib.hid (by omega)
          have HSZ : Hid (B ≤ wr.heap.size) := Lib.hid (by have := HBL.out.size; have := HB.out; omega)
          have HL6 : Hid (((toksL (L.take i)).map tkV).length ≤ 1000000) := Lib.hid (by rw [List.length_map]; have := HLE.out; omega)
          refine wp_region_mix 13 (TXs u3 b off n cap i nm pa pb) (fun _ => false) (by kernel_rfl) (by kernel_rfl) TXs.keep (fun _ _ _ h => by cases h) ?_ ?_
          · simp only [List.take_succ_cons, List.take_zero]
            refine (StepsAll.cons ?_ (StepsAll.cons ?_ (StepsAll.cons ?_ (StepsAll.cons ?_ (StepsAll.cons ?_ (StepsAll.cons ?_ (StepsAll.cons ?_ (StepsAll.cons ?_ (StepsAll.cons ?_ (StepsAll.cons ?_ (StepsAll.cons ?_ (StepsAll.cons ?_ (StepsAll.cons ?_ StepsAll.nil)))))))))))))
            · intro u W hb hd
              simp only [putAll, Act.put, List.setIfInBounds_toArray, List.set_cons_succ, List.set_cons_zero, Nat.zero_add, Nat.reduceAdd]
              go_wp2
              first | exact ⟨rfl, Below.refl _ _⟩ | exact ⟨_, rfl, rfl, Below.refl _ _, fun h => by simp at h⟩ | exact ⟨_, rfl, rfl, Below.refl _ _⟩ | exact ⟨rfl, Below.refl _ _, fun h => by simp at h⟩
            · intro u W hb hd
              simp only [putAll, Act.put, List.setIfInBounds_toArray, List.set_cons_succ, List.set_cons_zero, Nat.zero_add, Nat.reduceAdd]
              go_wp2
              first | exact ⟨rfl, Below.refl _ _⟩ | exact ⟨_, rfl, rfl, Below.refl _ _, fun h => by simp at h⟩ | exact ⟨_, rfl, rfl, Below.refl _ _⟩ | exact ⟨rfl, Below.refl _ _, fun h => by simp at h⟩
            · intro u W hb hd
              simp only [putAll, Act.put, List.setIfInBounds_toArray, List.set_cons_succ, List.set_cons_zero, Nat.zero_add, Nat.reduceAdd]
              go_wp2
              first | exact ⟨rfl, Below.refl _ _⟩ | exact ⟨_, rfl, rfl, Below.refl _ _, fun h => by simp at h⟩ | exact ⟨_, rfl, rfl, Below.refl _ _⟩ | exact ⟨rfl, Below.refl _ _, fun h => by simp at h⟩
            · intro u W hb hd
              have e0 : u 1 = .slice (some ⟨b, off, none⟩) n cap := hd.1 rfl (by decide)
              have e1 : u 2 = .int .i64 (i : Int) := hd.2.1 rfl (by decide)
              have hil := HIL.out
              have hcp := HCP.out
              simp only [putAll, Act.put, List.setIfInBounds_toArray, List.set_cons_succ, List.set_cons_zero, Nat.zero_add, Nat.reduceAdd]
              rw [e0, e1]
              go_wp2
              first | exact ⟨rfl, Below.refl _ _⟩ | exact ⟨_, rfl, rfl, Below.refl _ _, fun h => by simp at h⟩ | exact ⟨_, rfl, rfl, Below.refl _ _⟩ | exact ⟨rfl, Below.refl _ _, fun h => by simp at h⟩
            · intro u W hb hd
              have e0 : u 3 = .pointer (some ⟨b, off + i * 6, none⟩) := hd.1 rfl (by decide)
              simp only [putAll, Act.put, List.setIfInBounds_toArray, List.set_cons_succ, List.set_cons_zero, Nat.zero_add, Nat.reduceAdd]
              rw [e0]
              go_wp2
              first | exact ⟨rfl, Below.refl _ _⟩ | exact ⟨_, rfl, rfl, Below.refl _ _, fun h => by simp at h⟩ | exact ⟨_, rfl, rfl, Below.refl _ _⟩ | exact ⟨rfl, Below.refl _ _, fun h => by simp at h⟩
            · intro u W hb hd
              have e0 : u 4 = .pointer (some ⟨b, off + i * 6, none⟩) := hd.1 rfl (by decide)
              have cc := (HX.out W (HBL.out.trans (hb.mono HSZ.out)))
              obtain ⟨c0, c1, c2, c3, c4, c5⟩ := cc
              simp only [putAll, Act.put, List.setIfInBounds_toArray, List.set_cons_succ, List.set_cons_zero, Nat.zero_add, Nat.reduceAdd]
              rw [e0]
              go_wp2
              first | exact ⟨rfl, Below.refl _ _⟩ | exact ⟨_, rfl, rfl, Below.refl _ _, fun h => by simp at h⟩ | exact ⟨_, rfl, rfl, Below.refl _ _⟩ | exact ⟨rfl, Below.refl _ _, fun h => by simp at h⟩
            · intro u W hb hd
              simp only [putAll, Act.put, List.setIfInBounds_toArray, List.set_cons_succ, List.set_cons_zero, Nat.zero_add, Nat.reduceAdd]
              go_wp2
              first | exact ⟨rfl, Below.refl _ _⟩ | exact ⟨_, rfl, rfl, Below.refl _ _, fun h => by simp at h⟩ | exact ⟨_, rfl, rfl, Below.refl _ _⟩ | exact ⟨rfl, Below.refl _ _, fun h => by simp at h⟩
            · intro u W hb hd
              simp only [putAll, Act.put, List.setIfInBounds_toArray, List.set_cons_succ, List.set_cons_zero, Nat.zero_add, Nat.reduceAdd]
              go_wp2
              first | exact ⟨rfl, Below.refl _ _⟩ | exact ⟨_, rfl, rfl, Below.refl _ _, fun h => by simp at h⟩ | exact ⟨_, rfl, rfl, Below.refl _ _⟩ | exact ⟨rfl, Below.refl _ _, fun h => by simp at h⟩
            · intro u W hb hd
              have e0 : u 6 = .slice (some ⟨b, off, none⟩) n cap := hd.1 rfl (by decide)
              have e1 : u 7 = .int .i64 (i : Int) := hd.2.1 rfl (by decide)
              have hil := HIL.out
              have hcp := HCP.out
              simp only [putAll, Act.put, List.setIfInBounds_toArray, List.set_cons_succ, List.set_cons_zero, Nat.zero_add, Nat.reduceAdd]
              rw [e0, e1]
              go_wp2
              first | exact ⟨rfl, Below.refl _ _⟩ | exact ⟨_, rfl, rfl, Below.refl _ _, fun h => by simp at h⟩ | exact ⟨_, rfl, rfl, Below.refl _ _⟩ | exact ⟨rfl, Below.refl _ _, fun h => by simp at h⟩
            · intro u W hb hd
              have e0 : u 8 = .pointer (some ⟨b, off + i * 6, none⟩) := hd.1 rfl (by decide)
              simp only [putAll, Act.put, List.setIfInBounds_toArray, List.set_cons_succ, List.set_cons_zero, Nat.zero_add, Nat.reduceAdd]
              rw [e0]
              go_wp2
              first | exact ⟨rfl, Below.refl _ _⟩ | exact ⟨_, rfl, rfl, Below.refl _ _, fun h => by simp at h⟩ | exact ⟨_, rfl, rfl, Below.refl _ _⟩ | exact ⟨rfl, Below.refl _ _, fun h => by simp at h⟩
            · intro u W hb hd
              have e0 : u 9 = .pointer (some ⟨b, off + i * 6 + 4, none⟩) := hd.1 rfl (by decide)
              have cc := (HX.out W (HBL.out.trans (hb.mono HSZ.out)))
              obtain ⟨c0, c1, c2, c3, c4, c5⟩ := cc
              simp only [putAll, Act.put, List.setIfInBounds_toArray, List.set_cons_succ, List.set_cons_zero, Nat.zero_add, Nat.reduceAdd]
              rw [e0]
              go_wp2
              first | exact ⟨rfl, Below.refl _ _⟩ | exact ⟨_, rfl, rfl, Below.refl _ _, fun h => by simp at h⟩ | exact ⟨_, rfl, rfl, Below.refl _ _⟩ | exact ⟨rfl, Below.refl _ _, fun h => by simp at h⟩
            · intro u W hb hd
              have e0 : u 5 = .string nm := hd.1 rfl (by decide)
              have e1 : u 10 = .agg #[.int .i64 pa, .int .i64 pb] := hd.2.1 rfl (by decide)
              simp only [putAll, Act.put, List.setIfInBounds_toArray, List.set_cons_succ, List.set_cons_zero, Nat.zero_add, Nat.reduceAdd]
              rw [e0, e1]
              go_wp2
              first | exact ⟨rfl, Below.refl _ _⟩ | exact ⟨_, rfl, rfl, Below.refl _ _, fun h => by simp at h⟩ | exact ⟨_, rfl, rfl, Below.refl _ _⟩ | exact ⟨rfl, Below.refl _ _, fun h => by simp at h⟩
            · intro u W hb hd
              have e0 : u 11 = .agg #[.int .i64 1, .string nm, .int .u64 0, .int .i64 pa, .int .i64 pb] := hd.1 rfl (by decide)
              simp only [putAll, Act.put, List.setIfInBounds_toArray, List.set_cons_succ, List.set_cons_zero, Nat.zero_add, Nat.reduceAdd]
              rw [e0]
              go_wp2
              exact ⟨⟨_, rfl, by simp, tok_cells (by simp) (by simp) (by simp) (by simp) (by simp)⟩, (Below.refl _ _).alloc (Nat.le_refl _) _⟩
          · intro u W hb hT _
            have e0 : u 0 = u3 := hT 0 (by decide)
            obtain ⟨g, e12, hg, hcg⟩ := hT 12 (by decide)
            have HRW := Lib.hid (HR.out.below hb)
            have HCG := Lib.hid hcg
            have HBW := Lib.hid (HBL.out.trans (hb.mono HSZ.out))
            have HSW := Lib.hid (Nat.le_trans HSZ.out hb.size)
            simp only [List.take_succ_cons, List.take_zero, List.drop_succ_cons, List.drop_zero, putAll, Act.put, List.setIfInBounds_toArray, List.set_cons_succ, List.set_cons_zero, Nat.zero_add, Nat.reduceAdd]
            rw [e0, e12]
            clear e0 e12 hT hb hcg
            go_wp2_with (at_builtin; (refine wp_rowK (T := 33) (t := 39) (sz := 5) rfl _ _ rfl Tryz.underlying33 info_tok rfl (by decide) (by decide) B _ _ rfl HRW.out g (tkV { k := 1, s := nm, a := pa, b := pb }) rfl rfl HCG.out (tkV_one _) HL6.out HSW.out ?_))
            intro v' w' hr' ho' _
            have HRF := Lib.hid hr'
            have HBF := Lib.hid (HBW.out.trans ho'.bel)
            clear hr' ho'
            go_wp2
            go_meet
            exact ⟨HRF.out, HBF.out⟩
        case rest =>
          obtain ⟨hr1, hb1⟩ := hcut
          obtain ⟨A1, hA1⟩ : ∃ l, (toksL (L.take i)).map tkV ++ [tkV { k := 1, s := nm, a := pa, b := pb }] = l := ⟨_, rfl⟩
          rw [hA1] at hr1
          have HA1 := Lib.hid hA1
          have HNA1 : Hid (A1.length = (toksL (L.take i)).length + 1) := Lib.hid (by rw [← hA1, List.length_append, List.length_map]; rfl)
          have HR1 := Lib.hid hr1
          have HB1 := Lib.hid hb1
          clear hr1 hb1 hA1
          obtain ⟨aw, cw, hwv⟩ := (HW.out wc HB1.out).size
          subst hwv
          have HCW := Lib.hid (HW.out wc HB1.out).cells.2
          have HL1 : Hid (A1.length + (ws.map tkV).length ≤ 1000000) := Lib.hid (by have := HLE.out; have := HNA1.out; rw [List.length_map]; omega)
          have HS1 : Hid (B ≤ wc.heap.size) := Lib.hid (by have := HB1.out.size; have := HB.out; omega)
          obtain ⟨c0, c1, c2, c3, c4, c5⟩ := HX.out wc HB1.out
          go_wp2_with (at_builtin; (refine wp_rowKs (T := 33) (t := 39) (sz := 5) rfl _ _ rfl Tryz.underlying33 info_tok rfl (by decide) (by decide) B _ _ rfl HR1.out aw ws.length cw (ws.map tkV) rfl (by rw [List.length_map]) HCW.out (tkVs_one ws) HL1.out HS1.out ?_))
          intro v2 w2 hr2 ho2 _
          obtain ⟨A2, hA2⟩ : ∃ l, A1 ++ ws.map tkV = l := ⟨_, rfl⟩
          rw [hA2] at hr2
          have HA2 := Lib.hid hA2
          have HNA2 : Hid (A2.length = A1.length + ws.length) := Lib.hid (by rw [← hA2, List.length_append, List.length_map])
          have HR2 := Lib.hid hr2
          have HB2 := Lib.hid (HB1.out.trans ho2.bel)
          have d2 := (HX.out w2 HB2.out).2.2.1
          clear hr2 ho2 c0 c1 c2 c3 c4 c5 hA2
          cases bk with
          | false =>
            simp only [Bool.false_eq_true, if_false] at HNX HLE
            have HNA2 : Hid (A2.length = (toksL (L.take i)).length + 1 + ws.length) := Lib.hid (by have := HNA1.out; have := HNA2.out; omega)
            obtain ⟨g3, W3, hg3, hW3, u3, b3, zz3⟩ := tok_box w2 { k := 9 }
            have hW3' : w2.alloc (.cells #[.int .i64 9, .string ⟨#[]⟩, .int .u64 0, .int .i64 0, .int .i64 0] 39) = W3 := hW3
            have CA3 : Hid (∀ j, j < 5 → W3.cell? ⟨g3, j, none⟩ = some ((tkV { k := 9 }).getD j undef)) := Lib.hid (tok_cells u3.c0 u3.c1 u3.c2 u3.c3 u3.c4)
            have HRX3 := Lib.hid (HR2.out.below b3)
            have HBX3 := Lib.hid (HB2.out.trans (b3.mono (by have := HB2.out.size; have := HB.out; omega)))
            have HSX3 : Hid (B ≤ W3.heap.size) := Lib.hid (by have := HBX3.out.size; have := HB.out; omega)
            have HL3 : Hid (A2.length ≤ 1000000) := Lib.hid (by have := HLE.out; have := HNA2.out; simp only [List.length_cons, List.length_nil] at *; omega)
            clear u3 b3 zz3 hW3
            go_wp2_with (at_builtin; (refine wp_rowK (T := 33) (t := 39) (sz := 5) rfl _ _ rfl Tryz.underlying33 info_tok rfl (by decide) (by decide) B _ _ rfl HRX3.out g3 (tkV { k := 9 }) rfl rfl CA3.out (tkV_one _) HL3.out HSX3.out ?_))
            intro v3 w3 hr3 ho3 _
            obtain ⟨A3, hA3⟩ : ∃ l, A2 ++ [tkV { k := 9 }] = l := ⟨_, rfl⟩
            rw [hA3] at hr3
            have HA3 := Lib.hid hA3
            have HNA3 : Hid (A3.length = A2.length + 1) := Lib.hid (by rw [← hA3, List.length_append]; rfl)
            have HR3 := Lib.hid hr3
            have HB3 := Lib.hid (HBX3.out.trans ho3.bel)
            clear hr3 ho3 hA3
            go_wp2
            go_roundw
            case rel =>
              refine ⟨i + 1, by omega, by go_num, ?_, HB3.out⟩
              have := HR3.out
              rw [← HA3.out, ← HA2.out, ← HA1.out] at this
              rw [HNX.out]
              simpa using this
            case measure => simp [intOf]; omega
          | true =>
            simp only [if_true] at HNX HLE
            have HNA2 : Hid (A2.length = (toksL (L.take i)).length + 1 + ws.length) := Lib.hid (by have := HNA1.out; have := HNA2.out; omega)
            obtain ⟨g3, W3, hg3, hW3, u3, b3, zz3⟩ := tok_box w2 { k := 7 }
            have hW3' : w2.alloc (.cells #[.int .i64 7, .string ⟨#[]⟩, .int .u64 0, .int .i64 0, .int .i64 0] 39) = W3 := hW3
            have CA3 : Hid (∀ j, j < 5 → W3.cell? ⟨g3, j, none⟩ = some ((tkV { k := 7 }).getD j undef)) := Lib.hid (tok_cells u3.c0 u3.c1 u3.c2 u3.c3 u3.c4)
            have HRX3 := Lib.hid (HR2.out.below b3)
            have HBX3 := Lib.hid (HB2.out.trans (b3.mono (by have := HB2.out.size; have := HB.out; omega)))
            have HSX3 : Hid (B ≤ W3.heap.size) := Lib.hid (by have := HBX3.out.size; have := HB.out; omega)
            have HL3 : Hid (A2.length ≤ 1000000) := Lib.hid (by have := HLE.out; have := HNA2.out; simp only [List.length_append, List.length_cons, List.length_nil] at *; omega)
            clear u3 b3 zz3 hW3
            go_wp2_with (at_builtin; (refine wp_rowK (T := 33) (t := 39) (sz := 5) rfl _ _ rfl Tryz.underlying33 info_tok rfl (by decide) (by decide) B _ _ rfl HRX3.out g3 (tkV { k := 7 }) rfl rfl CA3.out (tkV_one _) HL3.out HSX3.out ?_))
            intro v3 w3 hr3 ho3 _
            obtain ⟨A3, hA3⟩ : ∃ l, A2 ++ [tkV { k := 7 }] = l := ⟨_, rfl⟩
            rw [hA3] at hr3
            have HA3 := Lib.hid hA3
            have HNA3 : Hid (A3.length = A2.length + 1) := Lib.hid (by rw [← hA3, List.length_append]; rfl)
            have HR3 := Lib.hid hr3
            have HB3 := Lib.hid (HBX3.out.trans ho3.bel)
            clear hr3 ho3 hA3
            have HNA3 : Hid (A3.length = (toksL (L.take i)).length + 1 + ws.length + 1) := Lib.hid (by have := HNA3.out; have := HNA2.out; omega)
            have d3 := (HX.out w3 HB3.out).2.2.2.1
            have HCALL := Lib.hid (HIH.out S kv kd w3 (HK.out w3 HB3.out) (fun b hb => Nat.lt_of_lt_of_le (HS.out b hb) HB3.out.size) (by have := HLE.out; simp only [List.length_append, List.length_cons] at *; omega))
            go_wp2_with (go_at_call 10; (with_reducible refine (HCALL.out).mono ?_))
            rintro e w4 ⟨v4, rfl, hr4, hb4⟩
            obtain ⟨a4, c4, rfl⟩ := hr4.size
            obtain ⟨hn4, hc4⟩ := rowCells hr4
            have HCK := Lib.hid hc4
            have HN4 := Lib.hid hn4
            have HRO := Lib.hid (HR3.out.below hb4)
            have HB4 := Lib.hid (HB3.out.trans (hb4.mono (by have := HB3.out.size; have := HB.out; omega)))
            have HL4 : Hid (A3.length + ((toksL kd).map tkV).length ≤ 1000000) := Lib.hid (by have := HLE.out; have := HNA3.out; simp only [List.length_append, List.length_cons, List.length_nil, List.length_map] at *; omega)
            have HS4 : Hid (B ≤ w4.heap.size) := Lib.hid (by have := HB4.out.size; have := HB.out; omega)
            obtain ⟨m4, hm4⟩ : ∃ m, ((toksL kd).map tkV).length = m := ⟨_, rfl⟩
            have HM4 := Lib.hid hm4
            rw [hm4] at hr4 ⊢
            clear hr4 hb4 hn4 hc4 hm4 d3 d2
            go_wp2_with (at_builtin; (refine wp_rowKs (T := 33) (t := 39) (sz := 5) rfl _ _ rfl Tryz.underlying33 info_tok rfl (by decide) (by decide) B _ _ rfl HRO.out a4 m4 c4 ((toksL kd).map tkV) rfl HM4.out.symm HCK.out (tkVs_one _) HL4.out HS4.out ?_))
            intro v5 w5 hr5 ho5 _
            obtain ⟨A4, hA4⟩ : ∃ l, A3 ++ (toksL kd).map tkV = l := ⟨_, rfl⟩
            rw [hA4] at hr5
            have HA4 := Lib.hid hA4
            have HNA4 : Hid (A4.length = (toksL (L.take i)).length + 1 + ws.length + 1 + (toksL kd).length) := Lib.hid (by have := HNA3.out; rw [← hA4, List.length_append, List.length_map]; omega)
            have HR5 := Lib.hid hr5
            have HB5 := Lib.hid (HB4.out.trans ho5.bel)
            clear hr5 ho5 hA4
            obtain ⟨g6, W6, hg6, hW6, u6, b6, zz6⟩ := tok_box w5 { k := 8 }
            have hW6' : w5.alloc (.cells #[.int .i64 8, .string ⟨#[]⟩, .int .u64 0, .int .i64 0, .int .i64 0] 39) = W6 := hW6
            have CA6 : Hid (∀ j, j < 5 → W6.cell? ⟨g6, j, none⟩ = some ((tkV { k := 8 }).getD j undef)) := Lib.hid (tok_cells u6.c0 u6.c1 u6.c2 u6.c3 u6.c4)
            have HRX6 := Lib.hid (HR5.out.below b6)
            have HBX6 := Lib.hid (HB5.out.trans (b6.mono (by have := HB5.out.size; have := HB.out; omega)))
            have HSX6 : Hid (B ≤ W6.heap.size) := Lib.hid (by have := HBX6.out.size; have := HB.out; omega)
            have HL6 : Hid (A4.length ≤ 1000000) := Lib.hid (by have := HLE.out; have := HNA4.out; simp only [List.length_append, List.length_cons, List.length_nil] at *; omega)
            clear u6 b6 zz6 hW6
            go_wp2_with (at_builtin; (refine wp_rowK (T := 33) (t := 39) (sz := 5) rfl _ _ rfl Tryz.underlying33 info_tok rfl (by decide) (by decide) B _ _ rfl HRX6.out g6 (tkV { k := 8 }) rfl rfl CA6.out (tkV_one _) HL6.out HSX6.out ?_))
            intro v6 w6 hr6 ho6 _
            obtain ⟨A6, hA6⟩ : ∃ l, A4 ++ [tkV { k := 8 }] = l := ⟨_, rfl⟩
            rw [hA6] at hr6
            have HA6 := Lib.hid hA6
            have HNA6 : Hid (A6.length = A4.length + 1) := Lib.hid (by rw [← hA6, List.length_append]; rfl)
            have HR6 := Lib.hid hr6
            have HB6 := Lib.hid (HBX6.out.trans ho6.bel)
            clear hr6 ho6 hA6
            go_wp2
            go_roundw
            case rel =>
              refine ⟨i + 1, by omega, by go_num, ?_, HB6.out⟩
              have := HR6.out
              rw [← HA6.out, ← HA4.out, ← HA3.out, ← HA2.out, ← HA1.out] at this
              rw [HNX.out]
              simpa using this
            case measure => simp [intOf]; omega
      · have en : n = i := by omega
        subst en
        go_wp2
        go_ret
        refine ⟨_, rfl, ?_, HB.out ▸ HBL.out⟩
        have := HR.out
        rw [List.take_of_length_le (by rw [HN.out]; exact Nat.le_refl _)] at this
        rw [HB.out]
        exact this

end Go.Proofs.YthfmllgflnideaaGreatDoor
