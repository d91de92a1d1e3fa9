/-
  The document's own disk of layer 9, walked: Write, where it is refused or the disk goes dark; what stands ahead of the append and behind it.
-/
import Derived.Test.YtnndpainnoebgaaBlkS
import Derived.Deep.AppendLies
namespace Go.Proofs.Ytnndpainnoebgaa
open Go.RowKit

theorem info_write : (Try.prog.info? 60).map (fun i => (i.zero, i.size, i.bytes)) = some (some (.agg #[.int .i64 0, .string ⟨#[]⟩]), 2, 24) := by kernel_rfl
theorem wcells_more (ws : List (Nat × List Int)) (p : Nat × List Int) : wcells (ws ++ [p]) = wcells ws ++ [.int .i64 (p.1 : Int), .string (strOfNums p.2)] := by
  unfold wcells
  rw [List.flatMap_append]; rfl

/-- What stands ahead of the append: the row, and what is to come behind it. -/
structure PutR (base r N vcap M : Nat) (S : Int) (va : Option Addr) (X : ByteArray) (ws : List (Nat × List Int)) (w1 w2 : World) : Prop where
  k2 : w2.cell? ⟨r, 1, none⟩ = some (.int .i64 S) ∧ w2.cell? ⟨r, 3, none⟩ = some (.slice va N vcap)
  k3 : (w2.alloc (.cells #[.int .i64 (M : Int), .string X] 60)).cell? ⟨r, 1, none⟩ = some (.int .i64 S) ∧ (w2.alloc (.cells #[.int .i64 (M : Int), .string X] 60)).cell? ⟨r, 3, none⟩ = some (.slice va N vcap)
  b2 : Below w1.heap.size w1 w2
  b3 : Below w1.heap.size w1 (w2.alloc (.cells #[.int .i64 (M : Int), .string X] 60))
  row : (w2.alloc (.cells #[.int .i64 (M : Int), .string X] 60)).ownsRow base 60 2 (.slice va N vcap) N (wcells ws)
  news : ∀ j u, ([.int .i64 (M : Int), .string X] : List Value)[j]? = some u → (w2.alloc (.cells #[.int .i64 (M : Int), .string X] 60)).cell? ((⟨w2.heap.size, 0, none⟩ : Addr).add j) = some u
  ones : ∀ u ∈ ([.int .i64 (M : Int), .string X] : List Value), u.oneCell' = true
  base : base ≤ (w2.alloc (.cells #[.int .i64 (M : Int), .string X] 60)).heap.size
  rlt : r < w2.heap.size
  q : (w2.alloc (.cells #[.int .i64 (M : Int), .string X] 60)).frozen? ⟨r, 3, none⟩ = false
  own : ∀ g, (Value.slice va N vcap).ownBlock = some g → g ≠ r
theorem put_row {base r N vcap : Nat} {n S : Int} {last : ByteArray} {fz : Int} {dk : Bool} {dd : Int} {va : Option Addr} {ws : List (Nat × List Int)} {w1 w2 : World} {O : Foot} (M : Nat) (X : ByteArray) (hD : DiskAt w1 r n S last (.slice va N vcap) fz dk dd) (hR : w1.ownsRow base 60 2 (.slice va N vcap) N (wcells ws))
    (hV : ∀ g, (Value.slice va N vcap).ownBlock = some g → O g ∧ g ≠ r) (hbr : base ≤ r) (g : Below w1.drew.heap.size w1.drew w2) : PutR base r N vcap M S va X ws w1 w2 := by
  have b2 : Below w1.heap.size w1 w2 := ((Below.refl w1.heap.size w1).drew).trans g
  have b3 := below_more b2 (.cells #[.int .i64 (M : Int), .string X] 60)
  have hs := b2.size
  have d2 := hD.after b2
  have d3 := hD.after b3
  refine ⟨⟨d2.c1, d2.c3⟩, ⟨d3.c1, d3.c3⟩, b2, b3, row_kept hR (fun g hg => b3.block g (hR.lt g hg).2), ?_, ?_, ?_, d2.s, d3.q 3, fun g hg => (hV g hg).2⟩
  · intro j u hj
    have e : (⟨w2.heap.size, 0, none⟩ : Addr).add j = ⟨w2.heap.size, j, none⟩ := by unfold Addr.add; split <;> simp_all
    rw [e, World.cell?_alloc_new]
    match j, hj with
    | 0, hj => exact hj
    | 1, hj => exact hj
    | j + 2, hj => simp at hj
  · intro u hu
    rcases List.mem_cons.mp hu with rfl | hu
    · rfl
    · rw [List.mem_singleton.mp hu]; rfl
  · have := b3.size; have := d2.s; simp; omega
/-- What stands behind it. -/
structure PutQ (base r N g cap M : Nat) (S : Int) (va : Option Addr) (vcap : Nat) (X : ByteArray) (ws : List (Nat × List Int)) (w2 w4 : World) : Prop where
  k4 : w4.cell? ⟨r, 1, none⟩ = some (.int .i64 S) ∧ w4.cell? ⟨r, 3, none⟩ = some (.slice va N vcap)
  q3 : w4.frozen? ⟨r, 3, none⟩ = false
  row : w4.ownsRow base 60 2 (.slice (some ⟨g, 0, none⟩) (N + 1) cap) (N + 1) (wcells ws ++ [.int .i64 (M : Int), .string X])
  grow : (w2.alloc (.cells #[.int .i64 (M : Int), .string X] 60)).grownBy w4 (Value.slice va N vcap).ownBlock
  at_ : (Value.slice va N vcap).ownBlock = some g ∨ g = (w2.alloc (.cells #[.int .i64 (M : Int), .string X] 60)).heap.size
  lt : g < w4.heap.size
theorem PutQ.k5 {base r N g cap M : Nat} {S : Int} {va : Option Addr} {vcap : Nat} {X : ByteArray} {ws : List (Nat × List Int)} {w2 w4 : World} (h : PutQ base r N g cap M S va vcap X ws w2 w4) : (w4.setCell ⟨r, 3, none⟩ (.slice (some ⟨g, 0, none⟩) (N + 1) cap)).cell? ⟨r, 1, none⟩ = some (.int .i64 S) := by
  rw [World.cell?_setCell_other _ _ _ _ (by intro e; injection e with _ e2; omega)]
  exact h.k4.1
theorem PutR.grow {base r N vcap M g cap : Nat} {S : Int} {va : Option Addr} {X : ByteArray} {ws : List (Nat × List Int)} {w1 w2 w4 : World} (h : PutR base r N vcap M S va X ws w1 w2) (hown : w4.ownsRow base 60 2 (.slice (some ⟨g, 0, none⟩) (N + 1) cap) (N + 1) (wcells ws ++ [.int .i64 (M : Int), .string X]))
    (hgrow : (w2.alloc (.cells #[.int .i64 (M : Int), .string X] 60)).grownBy w4 (Value.slice va N vcap).ownBlock) (hat : (Value.slice va N vcap).ownBlock = some g ∨ g = (w2.alloc (.cells #[.int .i64 (M : Int), .string X] 60)).heap.size) (hlt : g < w4.heap.size) : PutQ base r N g cap M S va vcap X ws w2 w4 := by
  have hne : some r ≠ (Value.slice va N vcap).ownBlock := fun e => h.own r e.symm rfl
  have hb := hgrow.block r (by have := h.rlt; simp; omega) hne
  exact ⟨⟨by rw [World.cell?_of_block hb]; exact h.k3.1, by rw [World.cell?_of_block hb]; exact h.k3.2⟩, by rw [World.frozen?_of_block hb]; exact h.q, hown, hgrow, hat, hlt⟩

set_option maxRecDepth 100000 in
set_option maxHeartbeats 4000000 in
theorem brwrite_refused (base : Nat) (O : Foot) (r : Nat) (D : Dsk) (i : Int) (x : Value) (b : List Int) (w : World) (h : RefIs w base O r D) (hv : ArgB w x b)
    (hc : D.dark = true ∨ D.dark = false ∧ (i < 0 ∨ (D.n : Int) ≤ i ∨ D.size < b.length)) :
    Calls Try.prog 11 #[.pointer (some ⟨r, 0, none⟩), .int .i64 i, x] w fun e w' => e = .returned (.int .i64 (D.write i b).1) ∧ RefIs w' base O r (D.write i b).2 ∧ OnlyO base O w w' := by
  have HR := Lib.hid h
  obtain ⟨a, cap, hD, _⟩ := h.waits
  obtain ⟨xa, xc, rfl⟩ := hv.size
  have c0 := hD.c0
  have c1 := hD.c1
  have c5 := hD.c5
  clear h hD hv
  rcases hc with hd | ⟨hd, hc⟩
  · have hfin : Hid (D.write i b = (12, D)) := by unfold Hid Dsk.write; rw [if_pos hd]
    rw [hd] at c5
    go_enter Try.func11, Try.ntmps11
    go_wp2
    go_ret
    rw [hfin.out]
    exact ⟨rfl, HR.out, OnlyO.refl _ _ _⟩
  · have hfin : Hid (D.write i b = (2, D)) := by unfold Hid Dsk.write; rw [if_neg (by rw [hd]; simp), if_pos hc]
    rw [hd] at c5
    by_cases h1 : i < 0
    · clear hc
      go_enter Try.func11, Try.ntmps11
      go_wp2
      go_ret
      rw [hfin.out]
      exact ⟨rfl, HR.out, OnlyO.refl _ _ _⟩
    · by_cases h2 : (D.n : Int) ≤ i
      · clear hc
        go_enter Try.func11, Try.ntmps11
        go_wp2
        go_ret
        rw [hfin.out]
        exact ⟨rfl, HR.out, OnlyO.refl _ _ _⟩
      · have h3 : (D.size : Int) < (b.length : Int) := by omega
        clear hc
        go_enter Try.func11, Try.ntmps11
        go_wp2
        go_ret
        rw [hfin.out]
        exact ⟨rfl, HR.out, OnlyO.refl _ _ _⟩

set_option maxRecDepth 100000 in
set_option maxHeartbeats 4000000 in
theorem brwrite_dim (base : Nat) (O : Foot) (r : Nat) (D : Dsk) (i : Int) (x : Value) (b : List Int) (w : World) (h : RefIs w base O r D) (hd : D.deeds ≤ 1000000) (hv : ArgB w x b)
    (hdk : D.dark = false) (i0 : 0 ≤ i) (i1 : i < (D.n : Int)) (hb : b.length ≤ D.size) (hq : D.deed.1 = false) :
    Calls Try.prog 11 #[.pointer (some ⟨r, 0, none⟩), .int .i64 i, x] w fun e w' => e = .returned (.int .i64 (D.write i b).1) ∧ RefIs w' base O r (D.write i b).2 ∧ OnlyO base O w w' := by
  have HDE := Lib.hid (bdeed_any base O r D w h hd)
  rw [hq] at HDE
  obtain ⟨a, cap, hD, _⟩ := h.waits
  obtain ⟨xa, xc, rfl⟩ := hv.size
  have c0 := hD.c0
  have c1 := hD.c1
  have c5 := hD.c5
  rw [hdk] at c5
  have hfin : Hid (D.write i b = (12, D.deed.2)) := by unfold Hid Dsk.write; rw [if_neg (by rw [hdk]; simp), if_neg (by omega), if_neg (by rw [hq]; simp)]
  have h1 : ¬ i < 0 := by omega
  have h2 : ¬ (D.n : Int) ≤ i := by omega
  have h3 : ¬ (D.size : Int) < (b.length : Int) := by omega
  clear h hD hv
  go_enter Try.func11, Try.ntmps11
  go_wp2_with (go_at_call 29; (with_reducible refine (HDE.out).mono ?_); rintro e w1 ⟨rfl, h1, g1⟩; have H1 := Lib.hid h1; have G1 := Lib.hid g1; clear h1 g1)
  go_ret
  rw [hfin.out]
  exact ⟨rfl, H1.out, G1.out⟩

end Go.Proofs.Ytnndpainnoebgaa
