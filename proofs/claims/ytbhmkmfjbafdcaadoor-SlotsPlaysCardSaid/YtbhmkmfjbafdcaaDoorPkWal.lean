/-
  Package wal as it landed: a region of a disk, walked: on, length, read.
-/
import Derived.Test.YtbhmkmfjbafdcaaDoorPkPlain
import Derived.Test.YtbhmkmfjbafdcaaDoorPkBase
import Derived.Test.YtbhmkmfjbafdcaaDoorPkBlock
import Derived.Test.YtbhmkmfjbafdcaaDoorPkCrc
import Derived.Deep.QuietTactic
import Derived.BigQuiet
import Derived.Laws.ResultCell
import Derived.Test.YtbhmkmfjbafdcaaDoorPkMixes
import Derived.Lib.MinMax
import Derived.Deep.CutBlock
import Derived.Deep.DeepCutAuto
namespace Go.Proofs.YtbhmkmfjbafdcaaDoor
open Go.RowKit

set_option maxRecDepth 100000 in
set_option maxHeartbeats 4000000 in
theorem bsize_same (base : Nat) (O : Foot) (r : Nat) (D : Dsk) (w : World) (h : DskIs w base O r D) : Calls Tryd.prog 43 #[.pointer (some ⟨r, 0, none⟩)] w fun e w' => e = .returned (.int .i64 (D.size : Int)) ∧ w' = w := by
  obtain ⟨_, _, _, gl, gs, v, B, L, hp, _⟩ := h
  have c1 := hp.dk.c1
  clear hp
  go_enter Tryd.func43, Tryd.ntmps43
  go_wp2
  go_ret
  exact ⟨rfl, rfl⟩
/-- A region that is on the disk. -/
def GivesRg (r f k : Nat) (w : World) (e : Ending) (w' : World) : Prop := e = .returned (.tuple #[.agg #[.pointer (some ⟨r, 0, none⟩), .int .i64 (f : Int), .int .i64 (k : Int)], .int .i64 0]) ∧ Below w.heap.size w w'
/-- A block, read. -/
theorem wblk_read (base : Nat) (O : Foot) (r : Nat) (D : Dsk) (i : Nat) (w : World) (h : DskIs w base O r D) (hi : i < D.n) (dk : D.dark = false) (ws : D.waits = []) (hd : D.deeds ≤ 1000000) :
    Calls Tryd.prog 31 #[.pointer (some ⟨r, 0, none⟩), .int .i64 (i : Int)] w fun e w' => ∃ a c, e = .returned (.tuple #[.slice a D.size c, .int .i64 0]) ∧ ArgB w' (.slice a D.size c) (blkL D.last D.size i) ∧ Below w.heap.size w w' := by
  have n1 := h.ok.n1
  have hr : D.read (i : Int) = (blkL D.last D.size i, 0) := by
    unfold Dsk.read
    rw [if_neg (by rw [dk]; simp), if_neg (by omega), Int.toNat_natCast, seen_none ws]
    rfl
  have hl : (blkL D.last D.size i).length = D.size := by
    have := fit (size := D.size) hi
    have := h.ok.ll
    unfold blkL
    rw [List.length_take, List.length_drop]; omega
  refine (bread_any base O r D (i : Int) w h hd (by omega) (by omega)).mono ?_
  rintro e w' ⟨v, rfl, hv, hb⟩
  rw [hr] at hv ⊢
  obtain ⟨a, c, rfl⟩ := hv.size
  rw [hl] at hv ⊢
  exact ⟨a, c, rfl, hv, hb⟩
theorem OwnN.elder {w : World} {b1 b2 : Nat} {v : Value} {l : List Int} (h : OwnN w b1 v l) (hb : b2 ≤ b1) : OwnN w b2 v l := ownsRow_base h hb
end Go.Proofs.YtbhmkmfjbafdcaaDoor

/-
  The program's crc.All, walked: what it makes, with the blocks that it leans on.
-/
namespace Go.Proofs.YtbhmkmfjbafdcaaDoor
open Go.RowKit

/-- What All comes to, with the blocks: all new. -/
def GivesAN (b0 : Nat) (B : List Int) (w : World) (e : Ending) (w' : World) : Prop :=
  ∃ u, e = .returned (.tuple #[u, .int .i64 ((allL B).2 : Int)]) ∧ LLF w' b0 (fun i => w.heap.size ≤ i ∧ i < w'.heap.size) u (allL B).1 ∧ Below w.heap.size w w'

end Go.Proofs.YtbhmkmfjbafdcaaDoor

/-
  Package wal as it landed: bytes put into a region, and a region made 0 from a place on: walked.
-/
namespace Go.Proofs.YtbhmkmfjbafdcaaDoor
open Go.RowKit

theorem wslice_to {w : World} {v : Value} {B : List Int} (h : ArgB w v B) (k : Nat) (hk : k ≤ B.length) :
    ∃ sv, (∀ W, (Instr.slice 36 v none (some (.int .i64 (k : Int))) none).run Tryd.prog W = .ok sv W) ∧ ArgB w sv (B.take k) := by
  have hs : ∀ W : World, (sizeOf (Tryd.prog.elem 36)).run Tryd.prog W = .ok 1 W := fun W => by kernel_rfl
  rcases h with ⟨rfl, rfl⟩ | ⟨x, cap, rfl, hc, hcell⟩
  · obtain rfl : k = 0 := by simpa using hk
    refine ⟨.slice none 0 0, fun W => ?_, Or.inl ⟨rfl, rfl⟩⟩
    have := run_slice_h (P := Tryd.prog) W 36 none 0 0 (by kernel_rfl) .i64 ((0 : Nat) : Int) (by decide) (by decide)
    rw [this, hs]; rfl
  · have hl : (B.take k).length = k := by rw [List.length_take]; omega
    refine ⟨.slice (if cap = 0 then some x else (some x).map (·.add (0 * 1))) k cap, fun W => ?_, ?_⟩
    · have := run_slice_h (P := Tryd.prog) W 36 (some x) B.length cap (by kernel_rfl) .i64 (k : Int) (by omega) (by omega)
      rw [this, hs]
      simp only [Result.andThen, Int.toNat_natCast, sliced, Nat.sub_zero]
    · have ex : (if cap = 0 then some x else (some x).map (·.add (0 * 1))) = some x := by
        split
        · rfl
        · simp [Addr.add]
      rw [ex]
      refine Or.inr ⟨x, cap, by rw [hl], by omega, fun i hi => ?_⟩
      rw [hl] at hi
      rw [hcell i (by omega), List.getD_eq_getElem?_getD, List.getD_eq_getElem?_getD, List.getElem?_take_of_lt hi]
/-- What put hands back. -/
def GivesPut (base : Nat) (O : Foot) (r : Nat) (D : Dsk) (f k u : Nat) (b : List Int) (w : World) (e : Ending) (w' : World) : Prop :=
  ∃ c D' T i0 m, e = .returned (.int .i64 c) ∧ Laid D f k u b T i0 m ∧ PutOut D T i0 m c D' ∧ DskTo base O r D' w w'
/-- On the way: so many blocks are written. -/
structure OnWay (base : Nat) (O : Foot) (r : Nat) (D0 : Dsk) (T : List Int) (i0 j : Nat) (w1 wr : World) (D : Dsk) : Prop where
  ex : ∃ O', DskIs wr base O' r D ∧ Grown O O' w1.heap.size
  way : Way D0 D T i0 j
  dark : D.dark = false
  only : OnlyO base O w1 wr
theorem Var3.only {W W' : World} {base : Nat} {O : Foot} {p : Nat} {x y z : Value} (k : Var3 W p x y z) (ho : OnlyO base O W W') (hn : ¬ O p) : Var3 W' p x y z := by
  have hk := ho.keep p k.s hn
  exact ⟨(World.cell?_of_block hk).trans k.c0, (World.cell?_of_block hk).trans k.c1, (World.cell?_of_block hk).trans k.c2, (World.frozen?_of_block hk).trans k.q0, (World.frozen?_of_block hk).trans k.q1, (World.frozen?_of_block hk).trans k.q2, Nat.lt_of_lt_of_le k.s ho.size⟩
/-- A call on the way. -/
theorem way_next {base : Nat} {O O' : Foot} {r : Nat} {D' : Dsk} {w1 wr W w6 : World} (hb1 : base ≤ w1.heap.size) (hG : Grown O O' w1.heap.size) (ho : OnlyO base O w1 wr) (hb : Below wr.heap.size wr W) (t : DskTo base O' r D' W w6) : ∃ O2, DskIs w6 base O2 r D' ∧ Grown O O2 w1.heap.size ∧ OnlyO base O w1 w6 := by
  obtain ⟨O2, d2, o2, g2⟩ := t
  have s1 := ho.size
  have s2 := hb.size
  have o3 : OnlyO base O' wr w6 := (OnlyO.of hb (by omega)).trans o2 (Grown.refl _ _)
  exact ⟨O2, d2, hG.trans g2 (by omega), ho.trans o3 hG⟩
theorem way_old {base : Nat} {O : Foot} {r : Nat} {D' : Dsk} {w w1 w6 : World} (hb : base ≤ w.heap.size) (h : Below w.heap.size w w1) (t : ∃ O2, DskIs w6 base O2 r D' ∧ Grown O O2 w1.heap.size ∧ OnlyO base O w1 w6) : DskTo base O r D' w w6 := by
  obtain ⟨O2, d2, g2, o2⟩ := t
  exact ⟨O2, d2, (OnlyO.of h hb).trans o2 (Grown.refl _ _), fun i hi => (g2 i hi).imp id (fun q => Nat.le_trans h.size q)⟩
theorem Way.bound {D0 D : Dsk} {T : List Int} {i0 j : Nat} (h : Way D0 D T i0 j) (h0 : D0.deeds ≤ 900000) (hj : j ≤ 1000) : D.deeds ≤ 1000000 := by have := h.deeds; omega
/-- What the region has, and new zeros. -/
def TWipe (l : List Value) (Z : Nat) : Nat → Value → World → Prop
  | 6, v, W => ∃ g, v = .slice (some ⟨g, 0, none⟩) Z Z ∧ ArgB W (.slice (some ⟨g, 0, none⟩) Z Z) (List.replicate Z 0)
  | k, v, _ => v = l.getD k undef
theorem TWipe.keep {l : List Value} {Z : Nat} (i : Nat) (v : Value) (w w' : World) (h : TWipe l Z i v w) (hb : Below w.heap.size w w') : TWipe l Z i v w' := by
  unfold TWipe at h ⊢
  split at h
  · obtain ⟨g, h1, h2⟩ := h
    exact ⟨g, h1, h2.below hb⟩
  · exact h
end Go.Proofs.YtbhmkmfjbafdcaaDoor
