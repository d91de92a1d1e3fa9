/-
  The statements of layer 9, walked over the contracts of package block's calls: awake, BlockNil.
-/
import Derived.Test.YtnndpainnoebgaaBlkC
import Derived.Test.YtnndpainnoebgaaJoin
namespace Go.Proofs.Ytnndpainnoebgaa
open Go.RowKit

/-- A disk behind a call. -/
theorem DskTo.to {base : Nat} {O : Foot} {r : Nat} {D : Dsk} {w w' : World} (h : DskTo base O r D w w') : ∃ O', DskIs w' base O' r D ∧ OnlyO base O w w' ∧ Grown O O' w.heap.size := h
theorem bnew_6 (n size : Nat) (w : World) (n0 : 1 ≤ n) (n1 : n ≤ 400) (s0 : 32 ≤ size) (s1 : size ≤ 512) :
    Calls Try.prog 8 #[.int .i64 (n : Int), .int .i64 (size : Int)] w fun e w' => ∃ r O, e = .returned (.tuple #[.pointer (some ⟨r, 0, none⟩), .int .i64 0]) ∧ DskIs w' w.heap.size O r (Dsk.new n size) ∧ Below w.heap.size w w' := by
  refine (bnew_any n size w (by omega) (by omega) (by omega) (by omega)).mono ?_
  rintro e w' ⟨hb, ⟨hn, _⟩ | ⟨_, _, _, _, r, O, rfl, hd⟩⟩
  · exact (hn ⟨by omega, by omega, by omega, by omega⟩).elim
  · exact ⟨r, O, rfl, hd, hb⟩

set_option maxRecDepth 100000 in
set_option maxHeartbeats 4000000 in
theorem blknil_walk (i k : Int) (w : World) (haw : ∀ w, Calls Try.prog 7 #[] w fun e w' => e = .returned (.bool true) ∧ Below w.heap.size w w') (hi : -9223372036854775808 ≤ i ∧ i ≤ 9223372036854775807) (hk : -9223372036854775808 ≤ k ∧ k ≤ 9223372036854775807) :
    Calls Try.prog 6 #[.int .i64 i, .int .i64 k] w fun e w' => e = .returned (.bool true) ∧ Below w.heap.size w w' := by
  obtain ⟨i0, i1⟩ := hi
  obtain ⟨k0, k1⟩ := hk
  have HAW := Lib.hid haw
  clear haw
  go_enter Try.func6, Try.ntmps6
  go_wp2_with (first
    | (go_at_call 7; (with_reducible refine (HAW.out _).mono ?_); rintro e w1 ⟨rfl, g⟩; have DD := g; clear g)
    | (go_at_call 14; (with_reducible refine (bfuse_nil i _ i0 i1).mono ?_); rintro e w1 ⟨rfl, g⟩; have DD := below_step DD g; clear g)
    | (go_at_call 15; (with_reducible refine (bcrash_nil i k _ i0 i1 k0 k1).mono ?_); rintro e w1 ⟨rfl, g⟩; have DD := below_step DD g; clear g)
    | (go_at_call 10; (with_reducible refine (bwrite_nil i _ i0 i1).mono ?_); rintro e w1 ⟨rfl, g⟩; have DD := below_step DD g; clear g)
    | (go_at_call 12; (with_reducible refine (bsync_nil _).mono ?_); rintro e w1 ⟨rfl, g⟩; have DD := below_step DD g; clear g)
    | (go_at_call 17; (with_reducible refine (bdark_nil _).mono ?_); rintro e w1 ⟨rfl, g⟩; have DD := below_step DD g; clear g)
    | (go_at_call 20; (with_reducible refine (bblocks_nil _).mono ?_); rintro e w1 ⟨rfl, g⟩; have DD := below_step DD g; clear g)
    | (go_at_call 21; (with_reducible refine (bsize_nil _).mono ?_); rintro e w1 ⟨rfl, g⟩; have DD := below_step DD g; clear g)
    | (go_at_call 18; (with_reducible refine (bdeeds_nil _).mono ?_); rintro e w1 ⟨rfl, g⟩; have DD := below_step DD g; clear g)
    | (go_at_call 19; (with_reducible refine (bwaits_nil _).mono ?_); rintro e w1 ⟨rfl, g⟩; have DD := below_step DD g; clear g)
    | (go_at_call 22; (with_reducible refine (bread_nil i _ i0 i1).mono ?_); rintro e w1 ⟨ra, rc, rfl, g⟩; have DD := below_step DD g; clear g))
  go_ret
  exact ⟨rfl, DD⟩

theorem const3 (a b c : Int) (W : World) : (convert 30 30 (.slice (some ⟨W.heap.size, 0, none⟩) 3 3)).run Try.prog (W.alloc (.cells #[.int .u8 a, .int .u8 b, .int .u8 c] 5)) = .ok (.slice (some ⟨W.heap.size, 0, none⟩) 3 3) (W.alloc (.cells #[.int .u8 a, .int .u8 b, .int .u8 c] 5 (3, 4))) :=
  Go.Joins.run_convert_bytes_const_at (P := Try.prog) W 30 5 #[.int .u8 a, .int .u8 b, .int .u8 c] 3 3 W.heap.size rfl Try.underlying30 Try.underlying5
theorem arg3 (a b c : Int) (W : World) : ArgB (W.alloc (.cells #[.int .u8 a, .int .u8 b, .int .u8 c] 5 (3, 4))) (.slice (some ⟨W.heap.size, 0, none⟩) 3 3) [a, b, c] := by
  refine Or.inr ⟨⟨W.heap.size, 0, none⟩, 3, rfl, Nat.le_refl _, fun i hi => ?_⟩
  have e : (⟨W.heap.size, 0, none⟩ : Addr).add i = ⟨W.heap.size, i, none⟩ := by unfold Addr.add; split <;> simp_all
  rw [e, World.cell?_alloc_mark]
  match i, hi with
  | 0, _ => rfl
  | 1, _ => rfl
  | 2, _ => rfl
theorem bel3 (a b c : Int) (W : World) : Below W.heap.size W (W.alloc (.cells #[.int .u8 a, .int .u8 b, .int .u8 c] 5 (3, 4))) := (Below.refl _ _).alloc (Nat.le_refl _) _
theorem arg32 {w : World} {v : Value} {l : List Int} (h : ArgB w v ([120, 121, 99] ++ l)) : ∃ b off cap, v = .slice (some ⟨b, off, none⟩) (3 + l.length) cap ∧ ∀ i, i < 3 → w.cell? ⟨b, off + i, none⟩ = some (.int .u8 ([120, 121, 99].getD i 0)) := by
  rcases h with ⟨_, h⟩ | ⟨x, cap, rfl, hc, hcell⟩
  · simp at h
  · obtain ⟨b, off, rfl, hk⟩ := arg_addr hcell (by simp)
    refine ⟨b, off, cap, by simp; omega, fun i hi => ?_⟩
    rw [hk i (by simp; omega)]
    match i, hi with
    | 0, _ => rfl
    | 1, _ => rfl
    | 2, _ => rfl
/-- The disk of the chapter's example, call by call. -/
def dA : Dsk := ((Dsk.new 2 32).write 1 [97, 98, 99]).2
def dB : Dsk := dA.sync.2
def dC : Dsk := (dB.write 1 [120, 121, 122]).2
def dE : Dsk := dC.crash 0 2
theorem dE_read : dE.read 1 = ([120, 121, 99] ++ List.replicate 29 0, 0) := by decide +kernel
theorem d_deeds : (Dsk.new 2 32).deeds ≤ 1000000 ∧ dA.deeds ≤ 1000000 ∧ dB.deeds ≤ 1000000 ∧ dC.deeds ≤ 1000000 ∧ dE.deeds ≤ 1000000 := by decide +kernel
set_option maxRecDepth 100000 in
set_option maxHeartbeats 4000000 in
theorem blk_awake (w : World) : Calls Try.prog 7 #[] w fun e w' => e = .returned (.bool true) ∧ Below w.heap.size w w' := by
  have HN : Hid (∀ w, Calls Try.prog 8 #[.int .i64 2, .int .i64 32] w fun e w' => ∃ r O, e = .returned (.tuple #[.pointer (some ⟨r, 0, none⟩), .int .i64 0]) ∧ DskIs w' w.heap.size O r (Dsk.new 2 32) ∧ Below w.heap.size w w') := fun w => bnew_6 2 32 w (by decide) (by decide) (by decide) (by decide)
  go_enter Try.func7, Try.ntmps7
  go_wp2_with (first
    | (go_at_call 8; (with_reducible refine (HN.out _).mono ?_); rintro e w1 ⟨r, O1, rfl, d1, g1⟩; have HG1 := Lib.hid g1; have HC1 := const3 97 98 99 w1; have HA1 := Lib.hid (arg3 97 98 99 w1); have HB1 := Lib.hid (bel3 97 98 99 w1); have HD1 := Lib.hid (d1.after HB1.out); have HG1 := Lib.hid (below_step HG1.out HB1.out); clear d1 g1)
    | (go_at_call 10; (with_reducible refine (bwrite_any w.heap.size O1 r (Dsk.new 2 32) 1 _ [97, 98, 99] _ HD1.out d_deeds.1 (by decide) (by decide) HA1.out (by decide) (by decide)).mono ?_); rintro e w2 ⟨rfl, O2, d2, g2, k2⟩; have HD2 := Lib.hid d2; have HG2 := Lib.hid (HG1.out.trans g2.bel); clear d2 g2 k2 HA1 HD1 HC1)
    | (go_at_call 12; (with_reducible refine (bsync_any w.heap.size O2 r dA _ HD2.out d_deeds.2.1).mono ?_); rintro e w3 ⟨rfl, O3, d3, g3, k3⟩; have HC3 := const3 120 121 122 w3; have HA3 := Lib.hid (arg3 120 121 122 w3); have HB3 := Lib.hid (bel3 120 121 122 w3); have HD3 := Lib.hid (d3.after HB3.out); have HG3 := Lib.hid (below_step (HG2.out.trans g3.bel) HB3.out); clear d3 g3 k3 HD2)
    | (go_at_call 10; (with_reducible refine (bwrite_any w.heap.size O3 r dB 1 _ [120, 121, 122] _ HD3.out d_deeds.2.2.1 (by decide) (by decide) HA3.out (by decide) (by decide)).mono ?_); rintro e w4 ⟨rfl, O4, d4, g4, k4⟩; have HD4 := Lib.hid d4; have HG4 := Lib.hid (HG3.out.trans g4.bel); clear d4 g4 k4 HA3 HD3 HC3)
    | (go_at_call 15; (with_reducible refine (bcrash_any w.heap.size O4 r dC 0 2 _ HD4.out d_deeds.2.2.2.1 (by decide) (by decide) (by decide) (by decide)).mono ?_); rintro e w5 ⟨rfl, O5, d5, g5, k5⟩; have HD5 := Lib.hid d5; have HG5 := Lib.hid (HG4.out.trans g5.bel); clear d5 g5 k5 HD4)
    | (go_at_call 22; (with_reducible refine (bread_any w.heap.size O5 r dE 1 _ HD5.out d_deeds.2.2.2.2 (by decide) (by decide)).mono ?_); rintro e w6 ⟨v, rfl, a6, g6⟩; have HG6 := Lib.hid (below_step HG5.out g6); clear g6 HD5; rw [dE_read] at a6; obtain ⟨ab, ao, ac, rfl, hcell⟩ := arg32 a6; have x0 : w6.cell? ⟨ab, ao, none⟩ = some (.int .u8 120) := hcell 0 (by decide); have x1 : w6.cell? ⟨ab, ao + 1, none⟩ = some (.int .u8 121) := hcell 1 (by decide); have x2 : w6.cell? ⟨ab, ao + 2, none⟩ = some (.int .u8 99) := hcell 2 (by decide); rw [dE_read]; clear hcell a6))
  go_ret
  exact ⟨rfl, HG6.out⟩

end Go.Proofs.Ytnndpainnoebgaa
