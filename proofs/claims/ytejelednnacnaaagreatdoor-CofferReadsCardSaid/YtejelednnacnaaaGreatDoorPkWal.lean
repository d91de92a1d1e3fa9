/-
  Package wal as it landed: a region of a disk, walked: on, length, read.
-/
import Derived.Test.YtejelednnacnaaaGreatDoorPkPlain
import Derived.Test.YtejelednnacnaaaGreatDoorPkBase
import Derived.Test.YtejelednnacnaaaGreatDoorPkBlock
import Derived.Test.YtejelednnacnaaaGreatDoorPkCrc
import Derived.Deep.QuietTactic
import Derived.BigQuiet
import Derived.Laws.ResultCell
import Derived.Test.YtejelednnacnaaaGreatDoorPkMixes
import Derived.Lib.MinMax
import Derived.Deep.CutBlock
import Derived.Deep.DeepCutAuto
import Derived.Test.YtejelednnacnaaaGreatDoorPkShelf
import Derived.OwnWalk
import Derived.Lib.QuietBelow
namespace Go.Proofs.YtejelednnacnaaaGreatDoor
open Go.RowKit

set_option maxRecDepth 100000 in
set_option maxHeartbeats 4000000 in
theorem bsize_same (base : Nat) (O : Foot) (r : Nat) (D : Dsk) (w : World) (h : DskIs w base O r D) : Calls Tryz.prog 25 #[.pointer (some ⟨r, 0, none⟩)] w fun e w' => e = .returned (.int .i64 (D.size : Int)) ∧ w' = w := by
  obtain ⟨_, _, _, gl, gs, v, B, L, hp, _⟩ := h
  have c1 := hp.dk.c1
  clear hp
  go_enter Tryz.func25, Tryz.ntmps25
  go_wp2
  go_ret
  exact ⟨rfl, rfl⟩
/-- A region's value, from its variable. -/
theorem load_reg {W : World} {g : Nat} {x y z : Value} (h : Var3 W g x y z) : (loadVar 103 ⟨g, 0, none⟩).run Tryz.prog W = .ok (.agg #[x, y, z]) W := by
  have c0 := h.c0
  have c1 := h.c1
  have c2 := h.c2
  clear h
  go_simp
set_option maxRecDepth 100000 in
/-- What on hands back. -/
theorem on_results {W : World} {g : Nat} {x y z u : Value} {tmps : Array Value} (h : Var3 W g x y z) (h6 : tmps.getD 6 undef = .pointer (some ⟨g, 0, none⟩)) (h7 : tmps.getD 7 undef = u) : (results Tryz.f65 tmps).run Tryz.prog W = .ok (.tuple #[.agg #[x, y, z], u]) W := by
  rw [results_cell_tmp rfl, h6, h7]
  have e : (asAddr (Value.pointer (some ⟨g, 0, none⟩))).run Tryz.prog W = .ok ⟨g, 0, none⟩ W := rfl
  rw [e]
  show ((loadVar 103 ⟨g, 0, none⟩).run Tryz.prog W).andThen _ = _
  rw [load_reg h]
  rfl
set_option maxRecDepth 100000 in
set_option maxHeartbeats 4000000 in
theorem won_not (base : Nat) (O : Foot) (r : Nat) (D : Dsk) (f k : Int) (w : World) (h : DskIs w base O r D) (hn : ¬ OnReg D.n f k) (f0 : -9223372036854775808 ≤ f) (f1 : f ≤ 9223372036854775807) (k0 : -9223372036854775808 ≤ k) (k1 : k ≤ 9223372036854775807) :
    Calls Tryz.prog 65 #[.pointer (some ⟨r, 0, none⟩), .int .i64 f, .int .i64 k] w fun e w' => e = .returned (.tuple #[.agg #[.pointer none, .int .i64 0, .int .i64 0], .int .i64 2]) ∧ Below w.heap.size w w' := by
  have HN := Lib.hid (bblocks_any base O r D w h)
  have HB := Lib.hid (fun W (g : Below w.heap.size w W) => bblocks_any base O r D W (h.after g))
  have n1 := h.ok.n1
  obtain ⟨n, hnn⟩ : ∃ n, D.n = n := ⟨_, rfl⟩
  rw [hnn] at HB hn n1
  have G1 := Lib.hid (below_more (Below.refl w.heap.size w) (.cells #[.pointer none, .int .i64 0, .int .i64 0] 103))
  clear h hnn HN
  unfold OnReg at hn
  by_cases c1 : f < 0
  · go_enter Tryz.func65, Tryz.ntmps65
    go_wp2
    (try simp only [Exit.inBlock, Exit.then])
    exact bodyPost_ret (on_results (x := .pointer none) (y := .int .i64 0) (z := .int .i64 0) (u := .int .i64 2) (Var3.fresh _ _ _ _ _ _ rfl) rfl rfl) rfl ⟨rfl, G1.out⟩
  · by_cases c2 : k < 1
    · go_enter Tryz.func65, Tryz.ntmps65
      go_wp2
      (try simp only [Exit.inBlock, Exit.then])
      exact bodyPost_ret (on_results (x := .pointer none) (y := .int .i64 0) (z := .int .i64 0) (u := .int .i64 2) (Var3.fresh _ _ _ _ _ _ rfl) rfl rfl) rfl ⟨rfl, G1.out⟩
    · have c3 : (n : Int) - f < k := by omega
      have hw : IntKind.i64.wrap ((n : Int) - f) = (n : Int) - f := by rw [IntKind.wrap_i64]; omega
      clear hn
      go_enter Tryz.func65, Tryz.ntmps65
      go_wp2_with (go_at_call 28; (with_reducible refine (HB.out _ G1.out).mono ?_); rintro e w1 ⟨rfl, g1⟩; have B1 := Lib.hid g1; have V1 := Lib.hid ((Var3.fresh w (.pointer none) (.int .i64 0) (.int .i64 0) 103 _ rfl).after g1); have d0 := V1.out.c0; have d1 := V1.out.c1; have d2 := V1.out.c2; have q0 := V1.out.q0; have q1 := V1.out.q1; have q2 := V1.out.q2; clear g1)
      (try simp only [Exit.inBlock, Exit.then])
      refine bodyPost_ret (on_results (x := .pointer none) (y := .int .i64 0) (z := .int .i64 0) (u := .int .i64 2) ?_ rfl rfl) rfl ⟨rfl, ?_⟩
      · exact V1.out.put _ _ _
      · exact below_put3 (below_step G1.out B1.out) (Nat.le_refl _) _ _ _

/-- A region that is on the disk. -/
def GivesRg (r f k : Nat) (w : World) (e : Ending) (w' : World) : Prop := e = .returned (.tuple #[.agg #[.pointer (some ⟨r, 0, none⟩), .int .i64 (f : Int), .int .i64 (k : Int)], .int .i64 0]) ∧ Below w.heap.size w w'
set_option maxRecDepth 100000 in
set_option maxHeartbeats 4000000 in
theorem won_any (base : Nat) (O : Foot) (r : Nat) (D : Dsk) (f k : Nat) (w : World) (h : DskIs w base O r D) (k1 : 1 ≤ k) (on : f + k ≤ D.n) :
    Calls Tryz.prog 65 #[.pointer (some ⟨r, 0, none⟩), .int .i64 (f : Int), .int .i64 (k : Int)] w (GivesRg r f k w) := by
  have HB := Lib.hid (fun W (g : Below w.heap.size w W) => bblocks_any base O r D W (h.after g))
  have n1 := h.ok.n1
  obtain ⟨n, hnn⟩ : ∃ n, D.n = n := ⟨_, rfl⟩
  rw [hnn] at HB on n1
  have G1 := Lib.hid (below_more (Below.refl w.heap.size w) (.cells #[.pointer none, .int .i64 0, .int .i64 0] 103))
  clear h hnn
  have c1 : ¬ (f : Int) < 0 := by omega
  have c2 : ¬ (k : Int) < 1 := by omega
  have c3 : ¬ (n : Int) - (f : Int) < (k : Int) := by omega
  have hw : IntKind.i64.wrap ((n : Int) - (f : Int)) = (n : Int) - (f : Int) := by rw [IntKind.wrap_i64]; omega
  go_enter Tryz.func65, Tryz.ntmps65
  go_wp2_with (go_at_call 28; (with_reducible refine (HB.out _ G1.out).mono ?_); rintro e w1 ⟨rfl, g1⟩; have B1 := Lib.hid g1; have V1 := Lib.hid ((Var3.fresh w (.pointer none) (.int .i64 0) (.int .i64 0) 103 _ rfl).after g1); have d0 := V1.out.c0; have d1 := V1.out.c1; have d2 := V1.out.c2; have q0 := V1.out.q0; have q1 := V1.out.q1; have q2 := V1.out.q2; clear g1)
  (try simp only [Exit.inBlock, Exit.then])
  refine bodyPost_ret (on_results (x := .pointer (some ⟨r, 0, none⟩)) (y := .int .i64 (f : Int)) (z := .int .i64 (k : Int)) (u := .int .i64 0) ?_ rfl rfl) rfl ⟨rfl, ?_⟩
  · exact V1.out.put _ _ _
  · exact below_put3 (below_step G1.out B1.out) (Nat.le_refl _) _ _ _

set_option maxRecDepth 100000 in
set_option maxHeartbeats 4000000 in
theorem wlength_any (base : Nat) (O : Foot) (r : Nat) (D : Dsk) (f k : Nat) (w : World) (h : DskIs w base O r D) (hk : k ≤ 400) :
    Calls Tryz.prog 55 #[.agg #[.pointer (some ⟨r, 0, none⟩), .int .i64 (f : Int), .int .i64 (k : Int)]] w fun e w' => e = .returned (.int .i64 ((k * D.size : Nat) : Int)) ∧ Below w.heap.size w w' := by
  have g1 := below_more (Below.refl w.heap.size w) (.cells #[.pointer (some ⟨r, 0, none⟩), .int .i64 (f : Int), .int .i64 (k : Int)] 103)
  have HS := Lib.hid (fun W (g : Below w.heap.size w W) => bsize_same base O r D W (h.after g))
  have V1 := Var3.fresh w (.pointer (some ⟨r, 0, none⟩)) (.int .i64 (f : Int)) (.int .i64 (k : Int)) 103 _ rfl
  have s1 := h.ok.s1
  obtain ⟨n, hnn⟩ : ∃ n, D.size = n := ⟨_, rfl⟩
  rw [hnn] at HS s1 ⊢
  have hm : k * n ≤ 400 * 512 := Nat.mul_le_mul hk s1
  have hw : IntKind.i64.wrap ((k : Int) * (n : Int)) = ((k * n : Nat) : Int) := by rw [← Int.natCast_mul, IntKind.wrap_i64]; omega
  have G1 := Lib.hid g1
  have d0 := V1.c0
  have d2 := V1.c2
  clear h hnn hm g1 V1
  go_enter Tryz.func55, Tryz.ntmps55
  go_wp2
  go_quiet (first | (go_at_call 25; exact Calls.quiet_of_same (HS.out _ (below_step G1.out (below_drewN (Below.refl _ _) _)))))
  have D3 := Lib.hid (below_step G1.out (below_drewN (Below.refl _ _) nq))
  generalize (w.alloc _).drewN nq = W3 at D3 ⊢
  go_wp2
  go_ret
  exact ⟨rfl, D3.out⟩

/-- A block, read. -/
theorem wblk_read (base : Nat) (O : Foot) (r : Nat) (D : Dsk) (i : Nat) (w : World) (h : DskIs w base O r D) (hi : i < D.n) (dk : D.dark = false) (ws : D.waits = []) (hd : D.deeds ≤ 1000000) :
    Calls Tryz.prog 29 #[.pointer (some ⟨r, 0, none⟩), .int .i64 (i : Int)] w fun e w' => ∃ a c, e = .returned (.tuple #[.slice a D.size c, .int .i64 0]) ∧ ArgB w' (.slice a D.size c) (blkL D.last D.size i) ∧ Below w.heap.size w w' := by
  have n1 := h.ok.n1
  have hr : D.read (i : Int) = (blkL D.last D.size i, 0) := by
    unfold Dsk.read
    rw [if_neg (by rw [dk]; simp), if_neg (by omega), Int.toNat_natCast, seen_none ws]
    rfl
  have hl : (blkL D.last D.size i).length = D.size := by
    have := fit (size := D.size) hi
    have := h.ok.ll
    unfold blkL
    rw [List.length_take, List.length_drop]; omega
  refine (bread_any base O r D (i : Int) w h hd (by omega) (by omega)).mono ?_
  rintro e w' ⟨v, rfl, hv, hb⟩
  rw [hr] at hv ⊢
  obtain ⟨a, c, rfl⟩ := hv.size
  rw [hl] at hv ⊢
  exact ⟨a, c, rfl, hv, hb⟩
theorem OwnN.elder {w : World} {b1 b2 : Nat} {v : Value} {l : List Int} (h : OwnN w b1 v l) (hb : b2 ≤ b1) : OwnN w b2 v l := ownsRow_base h hb
set_option maxRecDepth 100000 in
set_option maxHeartbeats 4000000 in
theorem wread_any (base : Nat) (O : Foot) (r : Nat) (D : Dsk) (f k : Nat) (w : World) (h : DskIs w base O r D) (on : f + k ≤ D.n) (dk : D.dark = false) (ws : D.waits = []) (hd : D.deeds ≤ 1000000) :
    Calls Tryz.prog 66 #[.agg #[.pointer (some ⟨r, 0, none⟩), .int .i64 (f : Int), .int .i64 (k : Int)]] w fun e w' => ∃ v, e = .returned (.tuple #[v, .int .i64 0]) ∧ OwnN w' w.heap.size v (regnL (f * D.size) (k * D.size) D.last) ∧ Below w.heap.size w w' := by
  have g1 := below_more (Below.refl w.heap.size w) (.cells #[.pointer (some ⟨r, 0, none⟩), .int .i64 (f : Int), .int .i64 (k : Int)] 103)
  have V1 := Var3.fresh w (.pointer (some ⟨r, 0, none⟩)) (.int .i64 (f : Int)) (.int .i64 (k : Int)) 103 _ rfl
  have d0 := V1.c0
  have d1 := V1.c1
  have d2 := V1.c2
  have n1 := h.ok.n1
  have s1 := h.ok.s1
  have ll := h.ok.ll
  have HRD := Lib.hid (fun j (hj : j < k) W (g : Below w.heap.size w W) => wblk_read base O r D (f + j) W (h.after g) (by omega) dk ws hd)
  obtain ⟨S, hS⟩ : ∃ S, D.size = S := ⟨_, rfl⟩
  obtain ⟨L, hL⟩ : ∃ L, D.last = L := ⟨_, rfl⟩
  rw [hS, hL] at HRD ll
  rw [hL, hS]
  rw [hS] at s1
  have hmost : Hid (∀ j, j ≤ k → ((L.drop (f * S)).take (j * S)).length ≤ 1000000) := fun j hj => by
    have : j * S ≤ 400 * 512 := Nat.mul_le_mul (by omega) s1
    rw [List.length_take]; omega
  have hstep : Hid (∀ j, (L.drop (f * S)).take (j * S) ++ blkL L S (f + j) = (L.drop (f * S)).take ((j + 1) * S)) := fun j => by
    unfold blkL
    rw [Nat.succ_mul, List.take_add, List.drop_drop, Nat.add_mul]
  have hS1 := Lib.hid s1
  obtain ⟨W1, hW1⟩ : ∃ W, w.alloc (.cells #[.pointer (some ⟨r, 0, none⟩), .int .i64 (f : Int), .int .i64 (k : Int)] 103) = W := ⟨_, rfl⟩
  have HW := Lib.hid hW1
  rw [hW1] at g1 V1
  have hbl : ∀ j, j < k → (blkL L S (f + j)).length ≤ 512 := fun j _ => by unfold blkL; rw [List.length_take]; omega
  have HBL := Lib.hid hbl
  have G1 := Lib.hid g1
  have HV := Lib.hid V1
  clear h hS hL hW1 g1 V1 ll s1 ws dk hd hbl
  go_enter Tryz.func66, Tryz.ntmps66
  go_wp2
  go_loopw [4, 10] (fun v4 v10 wr => ∃ j : Nat, v10 = .int .i64 (j : Int) ∧ j ≤ k ∧ OwnN wr W1.heap.size v4 ((L.drop (f * S)).take (j * S)) ∧ Below W1.heap.size W1 wr) (fun _ v10 _ => k - (intOf v10).toNat)
  case atStart => exact ⟨0, rfl, Nat.zero_le _, by rw [Nat.zero_mul, List.take_zero]; exact OwnN.nil _ _, HW.out ▸ Below.refl _ _⟩
  case round =>
    obtain ⟨j, rfl, hjk, hO, hB⟩ := hrel
    obtain ⟨a4, c4, rfl⟩ := hO.argB.size
    have HO := Lib.hid hO
    have HB := Lib.hid hB
    have HV2 := HV.out.after hB
    have e0 := HV2.c0
    have e1 := HV2.c1
    have hm := hmost.out j hjk
    obtain ⟨Y, hY⟩ : ∃ Y, (L.drop (f * S)).take (j * S) = Y := ⟨_, rfl⟩
    rw [hY] at HO hm
    obtain ⟨N, hN⟩ : ∃ N, Y.length = N := ⟨_, rfl⟩
    rw [hY, hN]
    rw [hN] at HO
    have HY := Lib.hid hY
    have HN := Lib.hid hN
    have HM : Hid (N ≤ 1000000) := (by unfold Hid; omega)
    by_cases hjl : j < k
    · have hw : IntKind.i64.wrap ((f : Int) + (j : Int)) = (f : Int) + (j : Int) := by rw [IntKind.wrap_i64]; omega
      have hw2 : IntKind.i64.wrap ((j : Int) + 1) = ((j + 1 : Nat) : Int) := by rw [IntKind.wrap_i64]; omega
      have hr := HRD.out j hjl wr (below_step G1.out hB)
      rw [Int.natCast_add] at hr
      have HR := Lib.hid hr
      clear hr
      have hb9 := Lib.hid (HBL.out j hjl)
      clear hO hB HV2 hm hY hN
      go_wp2_with (first
        | (go_at_call 29; (with_reducible refine (HR.out).mono ?_); rintro e w2 ⟨a, c, rfl, hv, hb⟩; have HA := Lib.hid hv; have B2 := Lib.hid hb; have HO2 := Lib.hid (show OwnN w2 W1.heap.size (.slice a4 N c4) Y from row_same HO.out (fun g hg => hb.block g (World.ownsRow.lt HO.out g hg).2)); have hs2 := Lib.hid (Nat.le_trans HB.out.size hb.size); have hlen : Hid (Y.length + (blkL L S (f + j)).length ≤ 100000000) := (by have q1 := HM.out; have q2 := HN.out; have q3 := hb9.out; unfold Hid; omega); clear hv hb)
        | (at_builtin; refine wp_joinN rfl _ _ rfl W1.heap.size _ Y rfl HO2.out _ _ rfl HA.out hlen.out hs2.out ?_))
      intro v' w3 hown hb3 _ hs3
      have B3 := Lib.hid ((HB.out.trans (B2.out.mono HB.out.size)).trans hb3)
      have HO3 := Lib.hid hown
      clear hown hb3 hs3
      go_wp2
      go_roundw
      case rel => exact ⟨j + 1, rfl, hjl, by have := HO3.out; rw [← HY.out, hstep.out] at this; exact this, B3.out⟩
      case measure => simp [intOf]; omega
    · obtain rfl : j = k := by omega
      clear hO hB HV2 hm hY hN
      go_wp2
      go_ret2
      refine ⟨_, rfl, ?_, below_step G1.out HB.out⟩
      unfold regnL
      rw [HY.out]
      exact HO.out.elder G1.out.size

end Go.Proofs.YtejelednnacnaaaGreatDoor

/-
  The program's crc.All, walked: what it makes, with the blocks that it leans on.
-/
namespace Go.Proofs.YtejelednnacnaaaGreatDoor
open Go.RowKit

/-- What All comes to, with the blocks: all new. -/
def GivesAN (b0 : Nat) (B : List Int) (w : World) (e : Ending) (w' : World) : Prop :=
  ∃ u, e = .returned (.tuple #[u, .int .i64 ((allL B).2 : Int)]) ∧ LLF w' b0 (fun i => w.heap.size ≤ i ∧ i < w'.heap.size) u (allL B).1 ∧ Below w.heap.size w w'

set_option maxRecDepth 100000 in
set_option maxHeartbeats 4000000 in
theorem call_foot (b0 : Nat) (v : Value) (B : List Int) (w : World) (env : Env w) (hv : ArgB w v B) (hb : ∀ z ∈ B, 0 ≤ z ∧ z ≤ 255) (hl : B.length ≤ 1000000) (hb0 : b0 ≤ w.heap.size) :
    Calls Tryz.prog 67 #[v] w (GivesAN b0 B w) := by
  obtain ⟨a, cap, rfl⟩ := hv.size
  have HV := Lib.hid hv
  have HBy := Lib.hid hb
  have HE := Lib.hid env
  clear hv hb env
  obtain ⟨base, hB⟩ : ∃ b, w.heap.size = b := ⟨_, rfl⟩
  have HBd := Lib.hid hB
  have HB0 := Lib.hid hb0
  go_enter Tryz.func67, Tryz.ntmps67
  go_wp2
  go_loopw [4, 5] (fun v4 v5 wr => ∃ (L : List (List Int)) (k : Nat), v5 = .int .i64 (k : Int) ∧ k ≤ B.length ∧ L.length ≤ k ∧ allL B = (L ++ (allL (B.drop k)).1, k + (allL (B.drop k)).2) ∧ LLF wr b0 (fun i => base ≤ i ∧ i < wr.heap.size) v4 L ∧ (∀ b, v4.ownBlock = some b → base ≤ b ∧ b < wr.heap.size) ∧ Below base w wr ∧ base ≤ wr.heap.size) (fun _ v5 _ => B.length - (intOf v5).toNat)
  case atStart => exact ⟨[], 0, rfl, Nat.zero_le _, Nat.zero_le _, by simp, LLF.nil _ _ _, fun b hb => (by cases hb), Below.refl _ _, by omega⟩
  case round =>
    obtain ⟨L, k, rfl, hk, hLk, hall, hO, hOb, hBel, hs⟩ := hrel
    have HOB := Lib.hid hOb
    clear hOb
    obtain ⟨g, c, rfl⟩ := hO.size
    have HO := Lib.hid hO
    have HB := Lib.hid hBel
    have HS := Lib.hid hs
    have HAll := Lib.hid hall
    clear hO hBel hs hall
    obtain ⟨sv, hsv, hA0⟩ := slice_from HV.out k hk
    have hA := hA0
    have hl2 : (B.drop k).length = B.length - k := List.length_drop ..
    have HA := Lib.hid (hA.below (HBd.out ▸ HB.out))
    have HAb : Hid (∀ z ∈ B.drop k, 0 ≤ z ∧ z ≤ 255) := fun z hz => HBy.out z (List.mem_of_mem_drop hz)
    have HAl : Hid ((B.drop k).length ≤ 1000000) := (by omega : (B.drop k).length ≤ 1000000)
    have HR := Lib.hid (copen_new sv (B.drop k) wr (HE.out.step (HBd.out ▸ HB.out)) HA.out HAb.out HAl.out)
    clear hA hl2 hA0
    go_wp2_with (first
      | (go_at_call 77; (with_reducible refine HR.out.mono ?_); rintro e w1 ⟨b1, ⟨n1, rfl⟩ | ⟨x, xv, n1, rfl, a1, f1⟩⟩ <;> (have B1 := Lib.hid b1; have N1 := Lib.hid n1; clear b1 n1; try (have HX := Lib.hid a1; have F1 := Lib.hid f1; obtain ⟨ax, cx, rfl⟩ := HX.out.size; have G1 := Lib.hid ((Below.refl w1.heap.size w1).alloc (Nat.le_refl _) (.cells #[.slice ax x.length cx] 22)); have O1 := Lib.hid ((((HO.out.after B1.out).after G1.out).weak (fun i hi => ⟨hi.1, Nat.lt_of_lt_of_le hi.2 B1.out.size⟩) : LLF _ b0 (fun i => base ≤ i ∧ i < w1.heap.size) _ L)); have S1 := Lib.hid (show b0 ≤ (w1.alloc (.cells #[.slice ax x.length cx] 22)).heap.size by have := HS.out; have := B1.out.size; have := HB0.out; have := HBd.out; simp; omega); have C1 := Lib.hid (show (w1.alloc (.cells #[.slice ax x.length cx] 22)).cell? ⟨w1.heap.size, 0, none⟩ = some (.slice ax x.length cx) by rw [World.cell?_alloc_mark]; rfl); have L1 := Lib.hid (show L.length ≤ 1000000 by omega); have K1 : Hid (x ≠ [] → ∀ b, (Value.slice ax x.length cx).ownBlock = some b → (Value.slice g L.length c).ownBlock ≠ some b ∧ ((base ≤ b ∧ b < w1.heap.size) ∨ b < b0)) := (fun hn b hb => ⟨fun e => by have h5 := F1.out b hb; have h6 := (HOB.out b e).2; omega, Or.inl (by have h5 := F1.out b hb; have h6 := HX.out.lt hn hb; have h7 := HS.out; exact ⟨by omega, h6⟩)⟩); clear a1 f1)))
      | (at_builtin; refine wp_moreF rfl _ _ rfl b0 (fun i => base ≤ i ∧ i < w1.heap.size) _ L rfl O1.out w1.heap.size _ x rfl C1.out (HX.out.below G1.out) K1.out L1.out S1.out ?_))
    · have hfin : Hid (allL B = (L, k)) := by unfold Hid; rw [HAll.out, allL_none N1.out]; simp
      have BB := Lib.hid (HB.out.trans (B1.out.mono HS.out))
      go_wp2
      go_ret2
      refine ⟨_, by rw [hfin.out]; rfl, ?_, HBd.out ▸ BB.out⟩
      rw [hfin.out, HBd.out]
      exact (HO.out.after B1.out).weak (fun i hi => ⟨hi.1, Nat.lt_of_lt_of_le hi.2 B1.out.size⟩)
    · intro v2 w2 h2 o2 k3
      have hxl := Lib.hid (open_len N1.out)
      obtain ⟨m, hm⟩ : ∃ m : Nat, x.length + 10 = m := ⟨_, rfl⟩
      have HM := Lib.hid hm
      have hstep : Hid (allL B = ((L ++ [x]) ++ (allL (B.drop (k + m))).1, (k + m) + (allL (B.drop (k + m))).2)) := by
        unfold Hid
        have e := allL_some N1.out
        rw [List.drop_drop, hm] at e
        rw [HAll.out, e, List.append_assoc]
        simp only [Prod.mk.injEq]
        exact ⟨rfl, by omega⟩
      have hkm : k + m ≤ B.length := by have := hxl.out; rw [List.length_drop] at this; omega
      have hadd : IntKind.i64.wrap ((k : Int) + ((x.length : Int) + 10)) = ((k + m : Nat) : Int) := by rw [IntKind.wrap_i64]; omega
      have BB := Lib.hid ((HB.out.trans (B1.out.mono HS.out)).alloc (Nat.le_trans HS.out B1.out.size) (.cells #[.slice ax x.length cx] 22))
      have hmp : Hid (0 < m) := (by omega : 0 < m)
      clear hm
      have q1 := HB.out.size
      have q2 := B1.out.size
      have q3 := G1.out.size
      have q4 := o2.size
      have q5 := HS.out
      have q6 : (w1.alloc (.cells #[.slice ax x.length cx] 22)).heap.size = w1.heap.size + 1 := by simp
      have H2 := Lib.hid (h2.weak (F' := fun i => base ≤ i ∧ i < w2.heap.size) (fun i hi => by
        rcases hi with hi | hi
        · exact ⟨hi.1, by omega⟩
        · exact ⟨by omega, hi.2⟩))
      have K3 : Hid (∀ b, v2.ownBlock = some b → base ≤ b ∧ b < w2.heap.size) := fun b hb => by
        obtain ⟨vs, r1, _, r3, _⟩ := h2
        have := r3 b hb
        rcases this with hh | hh
        · exact ⟨hh.1, by omega⟩
        · exact ⟨by omega, hh.2⟩
      have B2 : Hid (Below base w w2) := ⟨o2.bel.os.trans BB.out.os, o2.bel.tape.trans BB.out.tape, o2.bel.output.trans BB.out.output, Nat.le_trans BB.out.size o2.size, fun i hi => (o2.keep i (by have := BB.out.size; have := BB.out.size; omega) (fun e => by have := (HOB.out i e.symm).1; omega)).trans (BB.out.block i hi)⟩
      have S2 : Hid (base ≤ w2.heap.size) := by unfold Hid; omega
      clear h2 o2 k3 q1 q2 q3 q4 q5 q6
      go_wp2
      go_roundw
      case rel => exact ⟨L ++ [x], k + m, rfl, hkm, by have := hmp.out; rw [List.length_append]; simp only [List.length_cons, List.length_nil]; omega, hstep.out, H2.out, K3.out, B2.out, S2.out⟩
      case measure => simp [intOf]; have := hmp.out; omega

end Go.Proofs.YtejelednnacnaaaGreatDoor

/-
  Package wal as it landed: bytes put into a region, and a region made 0 from a place on: walked.
-/
namespace Go.Proofs.YtejelednnacnaaaGreatDoor
open Go.RowKit

theorem wslice_to {w : World} {v : Value} {B : List Int} (h : ArgB w v B) (k : Nat) (hk : k ≤ B.length) :
    ∃ sv, (∀ W, (Instr.slice 22 v none (some (.int .i64 (k : Int))) none).run Tryz.prog W = .ok sv W) ∧ ArgB w sv (B.take k) := by
  have hs : ∀ W : World, (sizeOf (Tryz.prog.elem 22)).run Tryz.prog W = .ok 1 W := fun W => by kernel_rfl
  rcases h with ⟨rfl, rfl⟩ | ⟨x, cap, rfl, hc, hcell⟩
  · obtain rfl : k = 0 := by simpa using hk
    refine ⟨.slice none 0 0, fun W => ?_, Or.inl ⟨rfl, rfl⟩⟩
    have := run_slice_h (P := Tryz.prog) W 22 none 0 0 (by kernel_rfl) .i64 ((0 : Nat) : Int) (by decide) (by decide)
    rw [this, hs]; rfl
  · have hl : (B.take k).length = k := by rw [List.length_take]; omega
    refine ⟨.slice (if cap = 0 then some x else (some x).map (·.add (0 * 1))) k cap, fun W => ?_, ?_⟩
    · have := run_slice_h (P := Tryz.prog) W 22 (some x) B.length cap (by kernel_rfl) .i64 (k : Int) (by omega) (by omega)
      rw [this, hs]
      simp only [Result.andThen, Int.toNat_natCast, sliced, Nat.sub_zero]
    · have ex : (if cap = 0 then some x else (some x).map (·.add (0 * 1))) = some x := by
        split
        · rfl
        · simp [Addr.add]
      rw [ex]
      refine Or.inr ⟨x, cap, by rw [hl], by omega, fun i hi => ?_⟩
      rw [hl] at hi
      rw [hcell i (by omega), List.getD_eq_getElem?_getD, List.getD_eq_getElem?_getD, List.getElem?_take_of_lt hi]
/-- What put hands back. -/
def GivesPut (base : Nat) (O : Foot) (r : Nat) (D : Dsk) (f k u : Nat) (b : List Int) (w : World) (e : Ending) (w' : World) : Prop :=
  ∃ c D' T i0 m, e = .returned (.int .i64 c) ∧ Laid D f k u b T i0 m ∧ PutOut D T i0 m c D' ∧ DskTo base O r D' w w'
/-- On the way: so many blocks are written. -/
structure OnWay (base : Nat) (O : Foot) (r : Nat) (D0 : Dsk) (T : List Int) (i0 j : Nat) (w1 wr : World) (D : Dsk) : Prop where
  ex : ∃ O', DskIs wr base O' r D ∧ Grown O O' w1.heap.size
  way : Way D0 D T i0 j
  dark : D.dark = false
  only : OnlyO base O w1 wr
theorem Var3.only {W W' : World} {base : Nat} {O : Foot} {p : Nat} {x y z : Value} (k : Var3 W p x y z) (ho : OnlyO base O W W') (hn : ¬ O p) : Var3 W' p x y z := by
  have hk := ho.keep p k.s hn
  exact ⟨(World.cell?_of_block hk).trans k.c0, (World.cell?_of_block hk).trans k.c1, (World.cell?_of_block hk).trans k.c2, (World.frozen?_of_block hk).trans k.q0, (World.frozen?_of_block hk).trans k.q1, (World.frozen?_of_block hk).trans k.q2, Nat.lt_of_lt_of_le k.s ho.size⟩
/-- A call on the way. -/
theorem way_next {base : Nat} {O O' : Foot} {r : Nat} {D' : Dsk} {w1 wr W w6 : World} (hb1 : base ≤ w1.heap.size) (hG : Grown O O' w1.heap.size) (ho : OnlyO base O w1 wr) (hb : Below wr.heap.size wr W) (t : DskTo base O' r D' W w6) : ∃ O2, DskIs w6 base O2 r D' ∧ Grown O O2 w1.heap.size ∧ OnlyO base O w1 w6 := by
  obtain ⟨O2, d2, o2, g2⟩ := t
  have s1 := ho.size
  have s2 := hb.size
  have o3 : OnlyO base O' wr w6 := (OnlyO.of hb (by omega)).trans o2 (Grown.refl _ _)
  exact ⟨O2, d2, hG.trans g2 (by omega), ho.trans o3 hG⟩
theorem way_old {base : Nat} {O : Foot} {r : Nat} {D' : Dsk} {w w1 w6 : World} (hb : base ≤ w.heap.size) (h : Below w.heap.size w w1) (t : ∃ O2, DskIs w6 base O2 r D' ∧ Grown O O2 w1.heap.size ∧ OnlyO base O w1 w6) : DskTo base O r D' w w6 := by
  obtain ⟨O2, d2, g2, o2⟩ := t
  exact ⟨O2, d2, (OnlyO.of h hb).trans o2 (Grown.refl _ _), fun i hi => (g2 i hi).imp id (fun q => Nat.le_trans h.size q)⟩
theorem Way.bound {D0 D : Dsk} {T : List Int} {i0 j : Nat} (h : Way D0 D T i0 j) (h0 : D0.deeds ≤ 900000) (hj : j ≤ 1000) : D.deeds ≤ 1000000 := by have := h.deeds; omega
set_option maxRecDepth 100000 in
set_option maxHeartbeats 8000000 in
theorem wput_any (base : Nat) (O : Foot) (r : Nat) (D : Dsk) (f k u : Nat) (v : Value) (b : List Int) (w : World) (h : DskIs w base O r D) (on : f + k ≤ D.n) (dk : D.dark = false) (ws : D.waits = []) (hd : D.deeds ≤ 900000) (hu : u + b.length ≤ k * D.size) (hb0 : 0 < b.length) (hv : ArgB w v b) (hbb : ∀ z ∈ b, 0 ≤ z ∧ z ≤ 255) :
    Calls Tryz.prog 75 #[.agg #[.pointer (some ⟨r, 0, none⟩), .int .i64 (f : Int), .int .i64 (k : Int)], .int .i64 (u : Int), v] w (GivesPut base O r D f k u b w) := by
  obtain ⟨X, T, i0, m, hp⟩ := put_is h.ok on hu hb0
  have HP := Lib.hid hp
  have g1 := below_more (Below.refl w.heap.size w) (.cells #[.pointer (some ⟨r, 0, none⟩), .int .i64 (f : Int), .int .i64 (k : Int)] 103)
  have V1 := Var3.fresh w (.pointer (some ⟨r, 0, none⟩)) (.int .i64 (f : Int)) (.int .i64 (k : Int)) 103 _ rfl
  have n1 := h.ok.n1
  have s1 := h.ok.s1
  have s0 := h.ok.s0
  have hmost := h.ok.most
  have hi0 := hp.i0n
  have hXb : Hid (∀ z ∈ X, 0 ≤ z ∧ z ≤ 255) := fun z hz => by
    rw [hp.x] at hz
    rcases List.mem_append.mp hz with hz | hz
    · exact h.ok.lb z (List.mem_of_mem_drop (List.mem_of_mem_take (List.mem_of_mem_take hz)))
    · exact hbb z hz
  have HRD := Lib.hid (fun W (g : Below w.heap.size w W) => wblk_read base O r D i0 W (h.after g) hi0 dk ws (by omega))
  have HSZ := Lib.hid (fun W (g : Below w.heap.size w W) => bsize_same base O r D W (h.after g))
  have HD := Lib.hid h
  have HV := Lib.hid hv
  obtain ⟨va, vc, rfl⟩ := hv.size
  have hbl : Hid (b.length ≤ 1000000) := by
    have : k * D.size ≤ D.n * D.size := Nat.mul_le_mul_right _ (by omega)
    unfold Hid; omega
  have hXl := hp.xl
  have hi0e := hp.i
  have hme := hp.mm
  have hum : u ≤ 1000000 := by
    have : k * D.size ≤ D.n * D.size := Nat.mul_le_mul_right _ (by omega)
    omega
  have HDK := Lib.hid (And.intro dk (And.intro ws hd))
  obtain ⟨B, hB⟩ : ∃ n, b.length = n := ⟨_, rfl⟩
  have HB := Lib.hid hB
  have hml0 : u % D.size < D.size := Nat.mod_lt _ (by omega)
  have hblk : (blkL D.last D.size i0).length = D.size := by
    have := fit (size := D.size) hi0
    have := h.ok.ll
    unfold blkL
    rw [List.length_take, List.length_drop]; omega
  have HXe := Lib.hid hp.x
  obtain ⟨HB0, hHB⟩ : ∃ l, blkL D.last D.size i0 = l := ⟨_, rfl⟩
  rw [hHB] at HRD hblk HXe
  obtain ⟨S, hS⟩ : ∃ S, D.size = S := ⟨_, rfl⟩
  have HS := Lib.hid hS
  rw [hS] at HRD HSZ s0 s1 hXl hi0e hme hml0 hblk HXe
  rw [hB] at hXl HV hb0
  rw [hB]
  obtain ⟨q0, hq0⟩ : ∃ q, u / S = q := ⟨_, rfl⟩
  obtain ⟨r0, hr0⟩ : ∃ r, u % S = r := ⟨_, rfl⟩
  rw [hr0] at hXl hml0 HXe
  rw [hq0] at hi0e
  obtain ⟨N, hN⟩ : ∃ n, X.length = n := ⟨_, rfl⟩
  have HN := Lib.hid hN
  rw [hN] at hXl hme
  have hz : ((S : Int) == 0) = false := by simpa using (by omega : ¬ S = 0)
  have hz2 : ¬ (S : Int) = 0 := by omega
  have hw1 : (u : Int) / (S : Int) = (q0 : Int) := by rw [← Int.natCast_ediv, hq0]
  have hw2 : (f : Int) + (q0 : Int) = (i0 : Int) := by omega
  have hq0b : q0 ≤ 400 := by omega
  have hr0b : r0 ≤ 512 := by omega
  have hw3 : (u : Int) % (S : Int) = (r0 : Int) := by rw [← Int.natCast_emod, hr0]
  have hBl : B ≤ 1000000 := by have := hbl.out; omega
  have hw6 : ((N : Int) + (S : Int) - 1) / (S : Int) = (m : Int) := by
    rw [show (N : Int) + (S : Int) - 1 = ((N + S - 1 : Nat) : Int) by omega, ← Int.natCast_ediv, ← hme]
  have hm0 : m ≤ 1000000 := by have := hp.mn; omega
  have G1 := Lib.hid g1
  have d0 := V1.c0
  have d1 := V1.c1
  have HV1 := Lib.hid V1
  have hNb : N ≤ 1000512 := by omega
  have HXL := Lib.hid hXl
  clear h hp hv hbb dk ws hd hS hB hHB hN V1 g1 hmost on hu hi0e hme hXl hq0 hr0
  go_enter Tryz.func75, Tryz.ntmps75
  go_wp2_with (go_at_call 25; (with_reducible refine (HSZ.out _ G1.out).mono ?_); rintro e w1 ⟨rfl, rfl⟩)
  go_quiet (fail)
  have D3 := Lib.hid (below_step G1.out (below_drewN (Below.refl _ _) nq))
  have V3 := Lib.hid (HV1.out.after (below_drewN (Below.refl _ _) nq))
  have d0 := V3.out.c0
  have d1 := V3.out.c1
  generalize (w.alloc _).drewN nq = W3 at D3 V3 d0 d1 ⊢
  have HR3 := Lib.hid (HRD.out W3 D3.out)
  have hr0l : Hid ((HB0.take r0).length = r0) := by unfold Hid; rw [List.length_take, hblk]; omega
  have hbpos : 0 < b.length := by rw [HB.out]; exact hb0
  have HBP := Lib.hid hbpos
  have hr0m : Hid ((HB0.take r0).length ≤ 1000000) := by unfold Hid; rw [hr0l.out]; omega
  clear hbpos
  go_wp2_with (first
    | (go_at_call 29; (with_reducible refine (HR3.out).mono ?_); rintro e w4 ⟨a, c, rfl, hA, hB4⟩; have D4 := Lib.hid (below_step D3.out hB4); have V4 := Lib.hid (V3.out.after hB4); have HA := Lib.hid hA; obtain ⟨sv, hrun, hsv⟩ := wslice_to hA r0 (by rw [hblk]; omega); obtain ⟨sa, sc, hse⟩ := hsv.size; rw [hr0l.out] at hse; subst hse; have HSV := Lib.hid hsv; have HVB := Lib.hid (HV.out.below D4.out); rw [← HB.out] at HVB; clear hA hB4 hsv)
    | (go_at_call 85; (with_reducible refine (concat_two (.slice sa r0 sc) (.slice va B vc) (HB0.take r0) b w4 _ _ rfl HSV.out (by rw [← HB.out]; exact HVB.out) HBP.out hr0m.out hbl.out).mono ?_); rintro e w5 ⟨xv, rfl, hO, hB5⟩; rw [← HXe.out] at hO; obtain ⟨xb, xc, hxe⟩ := hO.form; rw [HN.out] at hxe; subst hxe; have D5 := Lib.hid (below_step D4.out hB5); have V5 := Lib.hid (V4.out.after hB5); have HO5 := Lib.hid hO; have hxb5 := Lib.hid (OwnInts.base_le hO); have hx45 := Lib.hid (And.intro D4.out.size hB5.size); clear hO hB5))
  have hbase : Hid (base ≤ w.heap.size) := by have := HD.out.own r HD.out.mem; unfold Hid; omega
  have hgO : Hid (¬ O w.heap.size) := fun ho => by have := (HD.out.own _ ho).2; omega
  (try rw [hw6])
  clear hw6
  go_loopw [47] (fun v47 wr => ∃ (j : Nat) (E : Dsk), v47 = .int .i64 (j : Int) ∧ j ≤ m ∧ OnWay base O r D T i0 j w5 wr E) (fun v47 _ => m - (intOf v47).toNat)
  case atStart => exact ⟨0, D, rfl, Nat.zero_le _, ⟨O, HD.out.after D5.out, Grown.refl _ _⟩, Way.refl HDK.out.2.1 T i0, HDK.out.1, OnlyO.refl _ _ _⟩
  case round =>
    obtain ⟨j, E, rfl, hjm, hway⟩ := hrel
    obtain ⟨⟨O', hE, hG⟩, hw, hdk, ho⟩ := hway
    have HE := Lib.hid hE
    have HGr := Lib.hid hG
    have HWY := Lib.hid hw
    have HO := Lib.hid ho
    have HEd := Lib.hid hdk
    have V6 := Lib.hid (V5.out.only ho hgO.out)
    have hmn := HP.out.mn
    have hEb := Lib.hid (hw.bound HDK.out.2.2 (by omega))
    clear hE hG hw ho hdk
    by_cases hlt : j < m
    case neg =>
      obtain rfl : j = m := by omega
      have hll := HD.out.ok.ll
      have hfit : (i0 + j) * D.size ≤ D.last.length := by rw [hll]; exact Nat.mul_le_mul_right _ hmn
      have hout := HWY.out.sync HEd.out hfit HP.out.ahead (by rw [HP.out.tl, hll]) HP.out.behind
      have HSY := Lib.hid (bsync_any base O' r E wr HE.out hEb.out)
      obtain ⟨c', hc'⟩ : ∃ c, E.sync.1 = c := ⟨_, rfl⟩
      obtain ⟨E', hE'⟩ : ∃ x, E.sync.2 = x := ⟨_, rfl⟩
      rw [hc', hE'] at HSY hout
      have hj4 : j ≤ 400 := by omega
      have HPO : Hid (PutOut D T i0 j c' E') := by
        rcases hout with ⟨h1, h2, h3, h4, h5, h6, h7, h8, h9⟩ | ⟨h1, h2, h3, h4⟩
        · exact ⟨⟨h5, h6, h7, by omega, h9⟩, Or.inl ⟨h1, h2, h3, h4⟩⟩
        · exact ⟨h4.step (by omega), Or.inr ⟨h1, h2, h3, j, Nat.le_refl _, h4⟩⟩
      clear hout hc' hE' hll hfit
      have e0 := V6.out.c0
      clear hrun d0 d1
      go_wp2_with (go_at_call 7; (with_reducible refine (HSY.out).mono ?_); rintro e w6 ⟨rfl, t6⟩; have T6 := Lib.hid (way_next (Nat.le_trans hbase.out D5.out.size) HGr.out HO.out (Below.refl _ _) t6); clear t6)
      go_ret
      exact ⟨c', E', T, i0, j, rfl, HP.out.laid, HPO.out, way_old hbase.out D5.out T6.out⟩
    case pos =>
    have hblo := HP.out.lo j hlt
    have hbhi := HP.out.hi
    have hout := Lib.hid (HP.out.write HWY.out HEd.out hlt)
    rw [HS.out] at hblo hbhi hout
    obtain ⟨p, hpj⟩ : ∃ p, j * S = p := ⟨_, rfl⟩
    obtain ⟨q, hqj⟩ : ∃ q, (j + 1) * S = q := ⟨_, rfl⟩
    have hpq : q = p + S := by rw [← hqj, ← hpj, Nat.succ_mul]
    rw [hpj] at hblo hout
    rw [HN.out] at hblo hbhi
    have hxbO : ∀ b, (Value.slice (some ⟨xb, 0, none⟩) N xc).ownBlock = some b → ¬ O b := fun b hb ho => by
      have e : xb = b := Option.some.inj hb
      have q1 := (HD.out.own _ ho).2
      have q2 := hxb5.out.1
      have q3 := hx45.out.1
      omega
    have hXA := HO5.out.argB.only HO.out (fun _ => hxbO)
    obtain ⟨hi, hhi⟩ : ∃ h, min q N = h := ⟨_, rfl⟩
    obtain ⟨sv2, hrun2, hsv2⟩ := slice_in hXA p hi (p : Int) (hi : Int) rfl rfl (by omega) (by rw [HN.out]; exact hblo) (by rw [HN.out]; omega)
    have hpart : (X.drop p).take (hi - p) = (X.drop p).take S := by
      have e1 : (X.drop p).length = N - p := by rw [List.length_drop, HN.out]
      rw [List.take_eq_take_iff, e1]
      omega
    rw [hpart] at hsv2
    have hpl : ((X.drop p).take S).length ≤ 512 := by rw [List.length_take]; omega
    have hpb : ∀ z ∈ (X.drop p).take S, 0 ≤ z ∧ z ≤ 255 := fun z hz => hXb.out z (List.mem_of_mem_drop (List.mem_of_mem_take hz))
    have HWR := Lib.hid (fun W (g : Below wr.heap.size wr W) => bwrite_any base O' r E ((i0 : Int) + (j : Int)) sv2 ((X.drop p).take S) W (HE.out.after g) hEb.out (by omega) (by omega) (hsv2.below g) hpb (by omega))
    obtain ⟨c', hc'⟩ : ∃ c, (E.write ((i0 : Int) + (j : Int)) ((X.drop p).take S)).1 = c := ⟨_, rfl⟩
    obtain ⟨E', hE'⟩ : ∃ x, (E.write ((i0 : Int) + (j : Int)) ((X.drop p).take S)).2 = x := ⟨_, rfl⟩
    rw [hc', hE'] at HWR hout
    obtain ⟨j1, hj1⟩ : ∃ x, j + 1 = x := ⟨_, rfl⟩
    have HJ1 := Lib.hid hj1
    have hw4 : IntKind.i64.wrap ((i0 : Int) + (j : Int)) = (i0 : Int) + (j : Int) := by rw [IntKind.wrap_i64]; omega
    have hpN : p ≤ 1000512 := by omega
    have hqN : q ≤ 1002000 := by omega
    have hw8 : (j : Int) * (S : Int) = (p : Int) := by rw [← hpj]; simp
    have hw10 : (j : Int) + 1 = (j1 : Int) := by omega
    have hw12 : (j1 : Int) * (S : Int) = (q : Int) := by rw [← hqj, ← hj1]; simp
    have hw15 : min (q : Int) (N : Int) = (hi : Int) := by omega
    have hj1b : j1 ≤ 1000 := by omega
    have HC0 := Lib.hid (fun W (g : Below wr.heap.size wr W) => ((V6.out.after g).c0 : W.cell? ⟨w.heap.size, 0, none⟩ = _))
    clear hc' hE' hpj hqj hpq hhi hj1 hXA hsv2 hpart hpl hpb hrun d0 d1 hmn hblo hbhi hxbO
    go_wp2
    refine wp_region_mix 17 (TLst [.pointer (some ⟨w.heap.size, 0, none⟩), .pointer (some ⟨r, 0, none⟩), .int .i64 (i0 : Int), .int .i64 (j : Int), .int .i64 ((i0 : Int) + (j : Int)), .slice (some ⟨xb, 0, none⟩) N xc, .int .i64 (j : Int), .int .i64 (S : Int), .int .i64 (p : Int), .int .i64 (j : Int), .int .i64 (j1 : Int), .int .i64 (S : Int), .int .i64 (q : Int), .slice (some ⟨xb, 0, none⟩) N xc, .int .i64 (N : Int), .int .i64 (hi : Int), sv2]) (fun _ => false) (by kernel_rfl) (by kernel_rfl) (fun _ _ _ _ h _ => h) (fun _ _ _ h => by cases h) ?_ ?_
    · simp only [List.take_succ_cons, List.take_zero]
      refine (StepsAll.cons ?_ (StepsAll.cons ?_ (StepsAll.cons ?_ (StepsAll.cons ?_ (StepsAll.cons ?_ (StepsAll.cons ?_ (StepsAll.cons ?_ (StepsAll.cons ?_ (StepsAll.cons ?_ (StepsAll.cons ?_ (StepsAll.cons ?_ (StepsAll.cons ?_ (StepsAll.cons ?_ (StepsAll.cons ?_ (StepsAll.cons ?_ (StepsAll.cons ?_ (StepsAll.cons ?_ StepsAll.nil)))))))))))))))))
      · intro u W hb hd
        simp only [putAll, Act.put, List.setIfInBounds_toArray, List.set_cons_succ, List.set_cons_zero, Nat.zero_add, Nat.reduceAdd]
        go_wp2
        first | exact ⟨rfl, Below.refl _ _⟩ | exact ⟨_, rfl, rfl, Below.refl _ _, fun h => by simp at h⟩ | exact ⟨_, rfl, rfl, Below.refl _ _⟩ | exact ⟨rfl, Below.refl _ _, fun h => by simp at h⟩
      · intro u W hb hd
        have e0 : u 0 = .pointer (some ⟨w.heap.size, 0, none⟩) := hd.1 rfl (by decide)
        have c0 := HC0.out W hb
        simp only [putAll, Act.put, List.setIfInBounds_toArray, List.set_cons_succ, List.set_cons_zero, Nat.zero_add, Nat.reduceAdd]
        rw [e0]
        go_wp2
        first | exact ⟨rfl, Below.refl _ _⟩ | exact ⟨_, rfl, rfl, Below.refl _ _, fun h => by simp at h⟩ | exact ⟨_, rfl, rfl, Below.refl _ _⟩ | exact ⟨rfl, Below.refl _ _, fun h => by simp at h⟩
      · intro u W hb hd
        simp only [putAll, Act.put, List.setIfInBounds_toArray, List.set_cons_succ, List.set_cons_zero, Nat.zero_add, Nat.reduceAdd]
        go_wp2
        first | exact ⟨rfl, Below.refl _ _⟩ | exact ⟨_, rfl, rfl, Below.refl _ _, fun h => by simp at h⟩ | exact ⟨_, rfl, rfl, Below.refl _ _⟩ | exact ⟨rfl, Below.refl _ _, fun h => by simp at h⟩
      · intro u W hb hd
        simp only [putAll, Act.put, List.setIfInBounds_toArray, List.set_cons_succ, List.set_cons_zero, Nat.zero_add, Nat.reduceAdd]
        go_wp2
        first | exact ⟨rfl, Below.refl _ _⟩ | exact ⟨_, rfl, rfl, Below.refl _ _, fun h => by simp at h⟩ | exact ⟨_, rfl, rfl, Below.refl _ _⟩ | exact ⟨rfl, Below.refl _ _, fun h => by simp at h⟩
      · intro u W hb hd
        have e0 : u 2 = .int .i64 (i0 : Int) := hd.1 rfl (by decide)
        have e1 : u 3 = .int .i64 (j : Int) := hd.2.1 rfl (by decide)
        simp only [putAll, Act.put, List.setIfInBounds_toArray, List.set_cons_succ, List.set_cons_zero, Nat.zero_add, Nat.reduceAdd]
        rw [e0, e1]
        go_wp2
        first | exact ⟨rfl, Below.refl _ _⟩ | exact ⟨_, rfl, rfl, Below.refl _ _, fun h => by simp at h⟩ | exact ⟨_, rfl, rfl, Below.refl _ _⟩ | exact ⟨rfl, Below.refl _ _, fun h => by simp at h⟩
      · intro u W hb hd
        simp only [putAll, Act.put, List.setIfInBounds_toArray, List.set_cons_succ, List.set_cons_zero, Nat.zero_add, Nat.reduceAdd]
        go_wp2
        first | exact ⟨rfl, Below.refl _ _⟩ | exact ⟨_, rfl, rfl, Below.refl _ _, fun h => by simp at h⟩ | exact ⟨_, rfl, rfl, Below.refl _ _⟩ | exact ⟨rfl, Below.refl _ _, fun h => by simp at h⟩
      · intro u W hb hd
        simp only [putAll, Act.put, List.setIfInBounds_toArray, List.set_cons_succ, List.set_cons_zero, Nat.zero_add, Nat.reduceAdd]
        go_wp2
        first | exact ⟨rfl, Below.refl _ _⟩ | exact ⟨_, rfl, rfl, Below.refl _ _, fun h => by simp at h⟩ | exact ⟨_, rfl, rfl, Below.refl _ _⟩ | exact ⟨rfl, Below.refl _ _, fun h => by simp at h⟩
      · intro u W hb hd
        simp only [putAll, Act.put, List.setIfInBounds_toArray, List.set_cons_succ, List.set_cons_zero, Nat.zero_add, Nat.reduceAdd]
        go_wp2
        first | exact ⟨rfl, Below.refl _ _⟩ | exact ⟨_, rfl, rfl, Below.refl _ _, fun h => by simp at h⟩ | exact ⟨_, rfl, rfl, Below.refl _ _⟩ | exact ⟨rfl, Below.refl _ _, fun h => by simp at h⟩
      · intro u W hb hd
        have e0 : u 6 = .int .i64 (j : Int) := hd.1 rfl (by decide)
        have e1 : u 7 = .int .i64 (S : Int) := hd.2.1 rfl (by decide)
        simp only [putAll, Act.put, List.setIfInBounds_toArray, List.set_cons_succ, List.set_cons_zero, Nat.zero_add, Nat.reduceAdd]
        rw [e0, e1]
        go_wp2
        first | exact ⟨rfl, Below.refl _ _⟩ | exact ⟨_, rfl, rfl, Below.refl _ _, fun h => by simp at h⟩ | exact ⟨_, rfl, rfl, Below.refl _ _⟩ | exact ⟨rfl, Below.refl _ _, fun h => by simp at h⟩
      · intro u W hb hd
        simp only [putAll, Act.put, List.setIfInBounds_toArray, List.set_cons_succ, List.set_cons_zero, Nat.zero_add, Nat.reduceAdd]
        go_wp2
        first | exact ⟨rfl, Below.refl _ _⟩ | exact ⟨_, rfl, rfl, Below.refl _ _, fun h => by simp at h⟩ | exact ⟨_, rfl, rfl, Below.refl _ _⟩ | exact ⟨rfl, Below.refl _ _, fun h => by simp at h⟩
      · intro u W hb hd
        have e0 : u 9 = .int .i64 (j : Int) := hd.1 rfl (by decide)
        simp only [putAll, Act.put, List.setIfInBounds_toArray, List.set_cons_succ, List.set_cons_zero, Nat.zero_add, Nat.reduceAdd]
        rw [e0]
        go_wp2
        first | exact ⟨rfl, Below.refl _ _⟩ | exact ⟨_, rfl, rfl, Below.refl _ _, fun h => by simp at h⟩ | exact ⟨_, rfl, rfl, Below.refl _ _⟩ | exact ⟨rfl, Below.refl _ _, fun h => by simp at h⟩
      · intro u W hb hd
        simp only [putAll, Act.put, List.setIfInBounds_toArray, List.set_cons_succ, List.set_cons_zero, Nat.zero_add, Nat.reduceAdd]
        go_wp2
        first | exact ⟨rfl, Below.refl _ _⟩ | exact ⟨_, rfl, rfl, Below.refl _ _, fun h => by simp at h⟩ | exact ⟨_, rfl, rfl, Below.refl _ _⟩ | exact ⟨rfl, Below.refl _ _, fun h => by simp at h⟩
      · intro u W hb hd
        have e0 : u 10 = .int .i64 (j1 : Int) := hd.1 rfl (by decide)
        have e1 : u 11 = .int .i64 (S : Int) := hd.2.1 rfl (by decide)
        simp only [putAll, Act.put, List.setIfInBounds_toArray, List.set_cons_succ, List.set_cons_zero, Nat.zero_add, Nat.reduceAdd]
        rw [e0, e1]
        go_wp2
        first | exact ⟨rfl, Below.refl _ _⟩ | exact ⟨_, rfl, rfl, Below.refl _ _, fun h => by simp at h⟩ | exact ⟨_, rfl, rfl, Below.refl _ _⟩ | exact ⟨rfl, Below.refl _ _, fun h => by simp at h⟩
      · intro u W hb hd
        simp only [putAll, Act.put, List.setIfInBounds_toArray, List.set_cons_succ, List.set_cons_zero, Nat.zero_add, Nat.reduceAdd]
        go_wp2
        first | exact ⟨rfl, Below.refl _ _⟩ | exact ⟨_, rfl, rfl, Below.refl _ _, fun h => by simp at h⟩ | exact ⟨_, rfl, rfl, Below.refl _ _⟩ | exact ⟨rfl, Below.refl _ _, fun h => by simp at h⟩
      · intro u W hb hd
        have e0 : u 13 = .slice (some ⟨xb, 0, none⟩) N xc := hd.1 rfl (by decide)
        simp only [putAll, Act.put, List.setIfInBounds_toArray, List.set_cons_succ, List.set_cons_zero, Nat.zero_add, Nat.reduceAdd]
        rw [e0]
        go_wp2
        first | exact ⟨rfl, Below.refl _ _⟩ | exact ⟨_, rfl, rfl, Below.refl _ _, fun h => by simp at h⟩ | exact ⟨_, rfl, rfl, Below.refl _ _⟩ | exact ⟨rfl, Below.refl _ _, fun h => by simp at h⟩
      · intro u W hb hd
        have e0 : u 12 = .int .i64 (q : Int) := hd.1 rfl (by decide)
        have e1 : u 14 = .int .i64 (N : Int) := hd.2.1 rfl (by decide)
        simp only [putAll, Act.put, List.setIfInBounds_toArray, List.set_cons_succ, List.set_cons_zero, Nat.zero_add, Nat.reduceAdd]
        rw [e0, e1]
        go_wp2
        first | exact ⟨rfl, Below.refl _ _⟩ | exact ⟨_, rfl, rfl, Below.refl _ _, fun h => by simp at h⟩ | exact ⟨_, rfl, rfl, Below.refl _ _⟩ | exact ⟨rfl, Below.refl _ _, fun h => by simp at h⟩
      · intro u W hb hd
        have e0 : u 5 = .slice (some ⟨xb, 0, none⟩) N xc := hd.1 rfl (by decide)
        have e1 : u 8 = .int .i64 (p : Int) := hd.2.1 rfl (by decide)
        have e2 : u 15 = .int .i64 (hi : Int) := hd.2.2.1 rfl (by decide)
        simp only [putAll, Act.put, List.setIfInBounds_toArray, List.set_cons_succ, List.set_cons_zero, Nat.zero_add, Nat.reduceAdd]
        rw [e0, e1, e2]
        go_wp2
        first | exact ⟨rfl, Below.refl _ _⟩ | exact ⟨_, rfl, rfl, Below.refl _ _, fun h => by simp at h⟩ | exact ⟨_, rfl, rfl, Below.refl _ _⟩ | exact ⟨rfl, Below.refl _ _, fun h => by simp at h⟩
    · intro u W hb hT _
      have e0 : u 0 = .pointer (some ⟨w.heap.size, 0, none⟩) := hT 0 (by decide)
      have e1 : u 1 = .pointer (some ⟨r, 0, none⟩) := hT 1 (by decide)
      have e2 : u 2 = .int .i64 (i0 : Int) := hT 2 (by decide)
      have e3 : u 3 = .int .i64 (j : Int) := hT 3 (by decide)
      have e4 : u 4 = .int .i64 ((i0 : Int) + (j : Int)) := hT 4 (by decide)
      have e5 : u 5 = .slice (some ⟨xb, 0, none⟩) N xc := hT 5 (by decide)
      have e6 : u 6 = .int .i64 (j : Int) := hT 6 (by decide)
      have e7 : u 7 = .int .i64 (S : Int) := hT 7 (by decide)
      have e8 : u 8 = .int .i64 (p : Int) := hT 8 (by decide)
      have e9 : u 9 = .int .i64 (j : Int) := hT 9 (by decide)
      have e10 : u 10 = .int .i64 (j1 : Int) := hT 10 (by decide)
      have e11 : u 11 = .int .i64 (S : Int) := hT 11 (by decide)
      have e12 : u 12 = .int .i64 (q : Int) := hT 12 (by decide)
      have e13 : u 13 = .slice (some ⟨xb, 0, none⟩) N xc := hT 13 (by decide)
      have e14 : u 14 = .int .i64 (N : Int) := hT 14 (by decide)
      have e15 : u 15 = .int .i64 (hi : Int) := hT 15 (by decide)
      have e16 : u 16 = sv2 := hT 16 (by decide)
      have HBW := Lib.hid hb
      clear hb hT hrun2
      simp only [List.take_succ_cons, List.take_zero, List.drop_succ_cons, List.drop_zero, putAll, Act.put, List.setIfInBounds_toArray, List.set_cons_succ, List.set_cons_zero, Nat.zero_add, Nat.reduceAdd]
      rw [e0, e1, e2, e3, e4, e5, e6, e7, e8, e9, e10, e11, e12, e13, e14, e15, e16]
      clear e0 e1 e2 e3 e4 e5 e6 e7 e8 e9 e10 e11 e12 e13 e14 e15 e16
      rcases hout.out with ⟨hc, h2, h3⟩ | ⟨hc, h2, h3, h4⟩
      · subst hc
        have H2 := Lib.hid h2
        have H3 := Lib.hid h3
        clear h2 h3
        go_wp2_with (go_at_call 24; (with_reducible refine (HWR.out _ HBW.out).mono ?_); rintro e w6 ⟨rfl, t6⟩; have T6 := Lib.hid (way_next (Nat.le_trans hbase.out D5.out.size) HGr.out HO.out HBW.out t6); clear t6)
        go_roundw
        case rel =>
          obtain ⟨O2, d2, g2, o2⟩ := T6.out
          exact ⟨j1, E', rfl, by have := HJ1.out; omega, ⟨O2, d2, g2⟩, by rw [← HJ1.out]; exact H3.out, H2.out, o2⟩
        case measure => have := HJ1.out; simp [intOf]; omega
      · subst hc
        have HPO : Hid (PutOut D T i0 m 12 E') := ⟨h4.step (by omega), Or.inr ⟨rfl, h2, h3, j, hjm, h4⟩⟩
        clear h2 h3 h4
        go_wp2_with (go_at_call 24; (with_reducible refine (HWR.out _ HBW.out).mono ?_); rintro e w6 ⟨rfl, t6⟩; have T6 := Lib.hid (way_next (Nat.le_trans hbase.out D5.out.size) HGr.out HO.out HBW.out t6); clear t6)
        go_ret
        exact ⟨12, E', T, i0, m, rfl, HP.out.laid, HPO.out, way_old hbase.out D5.out T6.out⟩

/-- What the region has, and new zeros. -/
def TWipe (l : List Value) (Z : Nat) : Nat → Value → World → Prop
  | 6, v, W => ∃ g, v = .slice (some ⟨g, 0, none⟩) Z Z ∧ ArgB W (.slice (some ⟨g, 0, none⟩) Z Z) (List.replicate Z 0)
  | k, v, _ => v = l.getD k undef
theorem TWipe.keep {l : List Value} {Z : Nat} (i : Nat) (v : Value) (w w' : World) (h : TWipe l Z i v w) (hb : Below w.heap.size w w') : TWipe l Z i v w' := by
  unfold TWipe at h ⊢
  split at h
  · obtain ⟨g, h1, h2⟩ := h
    exact ⟨g, h1, h2.below hb⟩
  · exact h
set_option maxRecDepth 100000 in
set_option maxHeartbeats 8000000 in
theorem wwipe_any (base : Nat) (O : Foot) (r : Nat) (D : Dsk) (f k at0 : Nat) (w : World) (h : DskIs w base O r D) (on : f + k ≤ D.n) (dk : D.dark = false) (ws : D.waits = []) (hd : D.deeds ≤ 900000) (hu : at0 < k * D.size) :
    Calls Tryz.prog 69 #[.agg #[.pointer (some ⟨r, 0, none⟩), .int .i64 (f : Int), .int .i64 (k : Int)], .int .i64 (at0 : Int)] w (GivesPut base O r D f k at0 (List.replicate (k * D.size - at0) 0) w) := by
  have g1 := below_more (Below.refl w.heap.size w) (.cells #[.pointer (some ⟨r, 0, none⟩), .int .i64 (f : Int), .int .i64 (k : Int)] 103)
  have V1 := Var3.fresh w (.pointer (some ⟨r, 0, none⟩)) (.int .i64 (f : Int)) (.int .i64 (k : Int)) 103 _ rfl
  have n1 := h.ok.n1
  have hmost := h.ok.most
  have hMn : k * D.size ≤ D.n * D.size := Nat.mul_le_mul_right _ (by omega)
  have hbase : Hid (base ≤ w.heap.size) := by have := h.own r h.mem; unfold Hid; omega
  obtain ⟨M, hM⟩ : ∃ M, k * D.size = M := ⟨_, rfl⟩
  obtain ⟨Z, hZ⟩ : ∃ Z, M - at0 = Z := ⟨_, rfl⟩
  have hZl : Z ≤ 1000000 := by omega
  have hZ0 : 0 < Z := by omega
  have hMl : M ≤ 204800 := by omega
  have hw5 : (M : Int) - (at0 : Int) = (Z : Int) := by omega
  have HLN := Lib.hid (fun W (g : Below (w.alloc (.cells #[.pointer (some ⟨r, 0, none⟩), .int .i64 (f : Int), .int .i64 (k : Int)] 103)).heap.size (w.alloc (.cells #[.pointer (some ⟨r, 0, none⟩), .int .i64 (f : Int), .int .i64 (k : Int)] 103)) W) => wlength_any base O r D f k W (h.after (below_step g1 g)) (by omega))
  have HPT := Lib.hid (fun W (g : Below (w.alloc (.cells #[.pointer (some ⟨r, 0, none⟩), .int .i64 (f : Int), .int .i64 (k : Int)] 103)).heap.size (w.alloc (.cells #[.pointer (some ⟨r, 0, none⟩), .int .i64 (f : Int), .int .i64 (k : Int)] 103)) W) v (hv : ArgB W v (List.replicate Z 0)) => wput_any base O r D f k at0 v (List.replicate Z 0) W (h.after (below_step g1 g)) on dk ws hd (by rw [List.length_replicate]; omega) (by rw [List.length_replicate]; omega) hv (fun z hz => by obtain ⟨_, rfl⟩ := List.mem_replicate.mp hz; omega))
  have HC := Lib.hid (fun W (g : Below (w.alloc (.cells #[.pointer (some ⟨r, 0, none⟩), .int .i64 (f : Int), .int .i64 (k : Int)] 103)).heap.size (w.alloc (.cells #[.pointer (some ⟨r, 0, none⟩), .int .i64 (f : Int), .int .i64 (k : Int)] 103)) W) => And.intro (V1.after g).c0 (And.intro (V1.after g).c1 (V1.after g).c2))
  rw [hM] at HLN hu ⊢
  rw [hZ]
  have G1 := Lib.hid g1
  clear h on dk ws hd hmost hMn hM hZ g1 V1 hu
  go_enter Tryz.func69, Tryz.ntmps69
  go_wp2
  refine wp_region_mix 7 (TWipe [.agg #[.pointer (some ⟨r, 0, none⟩), .int .i64 (f : Int), .int .i64 (k : Int)], .int .i64 (at0 : Int), .agg #[.pointer (some ⟨r, 0, none⟩), .int .i64 (f : Int), .int .i64 (k : Int)], .int .i64 (M : Int), .int .i64 (at0 : Int), .int .i64 (Z : Int)] Z) (fun _ => false) (by kernel_rfl) (by kernel_rfl) TWipe.keep (fun _ _ _ h => by cases h) ?_ ?_
  · simp only [List.take_succ_cons, List.take_zero]
    refine (StepsAll.cons ?_ (StepsAll.cons ?_ (StepsAll.cons ?_ (StepsAll.cons ?_ (StepsAll.cons ?_ (StepsAll.cons ?_ (StepsAll.cons ?_ StepsAll.nil)))))))
    · intro u W hb hd
      obtain ⟨c0, c1, c2⟩ := HC.out W hb
      simp only [putAll, Act.put, List.setIfInBounds_toArray, List.set_cons_succ, List.set_cons_zero, Nat.zero_add, Nat.reduceAdd]
      go_wp2
      first | exact ⟨rfl, Below.refl _ _⟩ | exact ⟨_, rfl, rfl, Below.refl _ _, fun h => by simp at h⟩ | exact ⟨_, rfl, rfl, Below.refl _ _⟩ | exact ⟨rfl, Below.refl _ _, fun h => by simp at h⟩
    · intro u W hb hd
      simp only [putAll, Act.put, List.setIfInBounds_toArray, List.set_cons_succ, List.set_cons_zero, Nat.zero_add, Nat.reduceAdd]
      go_wp2
      first | exact ⟨rfl, Below.refl _ _⟩ | exact ⟨_, rfl, rfl, Below.refl _ _, fun h => by simp at h⟩ | exact ⟨_, rfl, rfl, Below.refl _ _⟩ | exact ⟨rfl, Below.refl _ _, fun h => by simp at h⟩
    · intro u W hb hd
      obtain ⟨c0, c1, c2⟩ := HC.out W hb
      simp only [putAll, Act.put, List.setIfInBounds_toArray, List.set_cons_succ, List.set_cons_zero, Nat.zero_add, Nat.reduceAdd]
      go_wp2
      first | exact ⟨rfl, Below.refl _ _⟩ | exact ⟨_, rfl, rfl, Below.refl _ _, fun h => by simp at h⟩ | exact ⟨_, rfl, rfl, Below.refl _ _⟩ | exact ⟨rfl, Below.refl _ _, fun h => by simp at h⟩
    · intro u W hb hd
      have e0 : u 2 = .agg #[.pointer (some ⟨r, 0, none⟩), .int .i64 (f : Int), .int .i64 (k : Int)] := hd.1 rfl (by decide)
      simp only [putAll, Act.put, List.setIfInBounds_toArray, List.set_cons_succ, List.set_cons_zero, Nat.zero_add, Nat.reduceAdd]
      rw [e0]
      go_wp2_with (go_at_call 55; (with_reducible refine (HLN.out W hb).mono ?_); rintro e W1 ⟨rfl, gl⟩)
      first | exact ⟨_, rfl, rfl, gl, fun h => by simp at h⟩ | exact ⟨_, rfl, rfl, gl⟩
    · intro u W hb hd
      simp only [putAll, Act.put, List.setIfInBounds_toArray, List.set_cons_succ, List.set_cons_zero, Nat.zero_add, Nat.reduceAdd]
      go_wp2
      first | exact ⟨rfl, Below.refl _ _⟩ | exact ⟨_, rfl, rfl, Below.refl _ _, fun h => by simp at h⟩ | exact ⟨_, rfl, rfl, Below.refl _ _⟩ | exact ⟨rfl, Below.refl _ _, fun h => by simp at h⟩
    · intro u W hb hd
      have e0 : u 3 = .int .i64 (M : Int) := hd.1 rfl (by decide)
      have e1 : u 4 = .int .i64 (at0 : Int) := hd.2.1 rfl (by decide)
      simp only [putAll, Act.put, List.setIfInBounds_toArray, List.set_cons_succ, List.set_cons_zero, Nat.zero_add, Nat.reduceAdd]
      rw [e0, e1]
      go_wp2
      first | exact ⟨rfl, Below.refl _ _⟩ | exact ⟨_, rfl, rfl, Below.refl _ _, fun h => by simp at h⟩ | exact ⟨_, rfl, rfl, Below.refl _ _⟩ | exact ⟨rfl, Below.refl _ _, fun h => by simp at h⟩
    · intro u W hb hd
      have e0 : u 5 = .int .i64 (Z : Int) := hd.1 rfl (by decide)
      obtain ⟨w2, hmk, hr, hb2⟩ := made_row W Z hZl
      have HR2 := Lib.hid hr
      clear hr
      simp only [putAll, Act.put, List.setIfInBounds_toArray, List.set_cons_succ, List.set_cons_zero, Nat.zero_add, Nat.reduceAdd]
      rw [e0]
      go_wp2
      first | exact ⟨_, rfl, HR2.out.whole Z Z (by simp) (Nat.le_refl _)⟩ | exact ⟨_, rfl, ⟨_, rfl, HR2.out.whole Z Z (by simp) (Nat.le_refl _)⟩, hb2, fun h => by simp at h⟩ | exact ⟨_, rfl, ⟨_, rfl, HR2.out.whole Z Z (by simp) (Nat.le_refl _)⟩, hb2⟩
  · intro u' W hb hT _
    have e0 : u' 0 = .agg #[.pointer (some ⟨r, 0, none⟩), .int .i64 (f : Int), .int .i64 (k : Int)] := hT 0 (by decide)
    have e1 : u' 1 = .int .i64 (at0 : Int) := hT 1 (by decide)
    have e2 : u' 2 = .agg #[.pointer (some ⟨r, 0, none⟩), .int .i64 (f : Int), .int .i64 (k : Int)] := hT 2 (by decide)
    have e3 : u' 3 = .int .i64 (M : Int) := hT 3 (by decide)
    have e4 : u' 4 = .int .i64 (at0 : Int) := hT 4 (by decide)
    have e5 : u' 5 = .int .i64 (Z : Int) := hT 5 (by decide)
    obtain ⟨g, e6, hA⟩ := hT 6 (by decide)
    have HBW := Lib.hid hb
    have HA := Lib.hid hA
    clear hb hT hA
    simp only [List.take_succ_cons, List.take_zero, List.drop_succ_cons, List.drop_zero, putAll, Act.put, List.setIfInBounds_toArray, List.set_cons_succ, List.set_cons_zero, Nat.zero_add, Nat.reduceAdd]
    rw [e0, e1, e2, e3, e4, e5, e6]
    clear e0 e1 e2 e3 e4 e5 e6
    go_wp2_with (go_at_call 75; (with_reducible refine (HPT.out W HBW.out _ HA.out).mono ?_); rintro e w6 ⟨c', D', T, i0, m, rfl, l6, p6, t6⟩; have L6 := Lib.hid l6; have P6 := Lib.hid p6; have T6 := Lib.hid (way_old hbase.out (below_step G1.out HBW.out) ⟨_, t6.choose_spec.1, t6.choose_spec.2.2, t6.choose_spec.2.1⟩); clear l6 p6 t6)
    go_ret
    exact ⟨c', D', T, i0, m, rfl, L6.out, P6.out, T6.out⟩

end Go.Proofs.YtejelednnacnaaaGreatDoor

/-
  Package wal as it landed: what a log is; whether bytes are clean; Format, Open: walked.
-/
namespace Go.Proofs.YtejelednnacnaaaGreatDoor
open Go.RowKit

/-- A log in block gb, on the disk in block r, that leans on the blocks OG alone. -/
structure LogIs (W : World) (base : Nat) (OG : Foot) (gb r : Nat) (G : Lg) : Prop where
  own : ∀ i, OG i → base ≤ i ∧ i < W.heap.size
  mem : OG gb
  c0 : W.cell? ⟨gb, 0, none⟩ = some (.pointer (some ⟨r, 0, none⟩))
  c1 : W.cell? ⟨gb, 1, none⟩ = some (.int .i64 (G.from_ : Int))
  c2 : W.cell? ⟨gb, 2, none⟩ = some (.int .i64 (G.n : Int))
  c3 : W.cell? ⟨gb, 3, none⟩ = some (.int .i64 (G.used : Int))
  c4 : W.cell? ⟨gb, 4, none⟩ = some (.bool G.down)
  q : ∀ i, W.frozen? ⟨gb, i, none⟩ = false
theorem LogIs.kept {W W' : World} {base : Nat} {OG : Foot} {gb r : Nat} {G : Lg} (h : LogIs W base OG gb r G) (hk : ∀ i, OG i → W'.heap[i]? = W.heap[i]?) (hs : W.heap.size ≤ W'.heap.size) : LogIs W' base OG gb r G := by
  have e := hk gb h.mem
  exact ⟨fun i hi => ⟨(h.own i hi).1, Nat.lt_of_lt_of_le (h.own i hi).2 hs⟩, h.mem, (World.cell?_of_block e).trans h.c0, (World.cell?_of_block e).trans h.c1, (World.cell?_of_block e).trans h.c2, (World.cell?_of_block e).trans h.c3, (World.cell?_of_block e).trans h.c4, fun i => (World.frozen?_of_block e).trans (h.q i)⟩
theorem LogIs.after {W W' : World} {base : Nat} {OG : Foot} {gb r : Nat} {G : Lg} (h : LogIs W base OG gb r G) (hb : Below W.heap.size W W') : LogIs W' base OG gb r G := h.kept (fun i hi => hb.block i (h.own i hi).2) hb.size
theorem LogIs.base {W : World} {base base' : Nat} {OG : Foot} {gb r : Nat} {G : Lg} (h : LogIs W base OG gb r G) (hb : base' ≤ base) : LogIs W base' OG gb r G := ⟨fun i hi => ⟨Nat.le_trans hb (h.own i hi).1, (h.own i hi).2⟩, h.mem, h.c0, h.c1, h.c2, h.c3, h.c4, h.q⟩

/-- How often 0 stands among bytes: all of them are 0, or some aren't. -/
theorem count_zeros (l : List Int) (hb : ∀ z ∈ l, 0 ≤ z ∧ z ≤ 255) : Lib.countByte (Lib.bytesOf l) ((0 : Int).toNat.toUInt8) = l.length ↔ l = List.replicate l.length 0 := by
  have hl : (Lib.bytesOf l).length = l.length := by unfold Lib.bytesOf; simp
  unfold Lib.countByte
  rw [← hl, List.count_eq_length, hl, List.eq_replicate_iff]
  refine ⟨fun h => ⟨rfl, fun z hz => ?_⟩, fun h b hb2 => ?_⟩
  · have h2 := h (UInt8.ofNat z.toNat) (List.mem_map.mpr ⟨z, hz, rfl⟩)
    have h3 := congrArg UInt8.toNat h2
    have hz2 := hb z hz
    simp at h3
    omega
  · obtain ⟨z, hz, rfl⟩ := List.mem_map.mp hb2
    rw [h.2 z hz]
theorem count_le (l : List Int) (c : UInt8) : Lib.countByte (Lib.bytesOf l) c ≤ l.length := by
  have hl : (Lib.bytesOf l).length = l.length := by unfold Lib.bytesOf; simp
  unfold Lib.countByte
  rw [← hl]
  exact List.count_le_length
set_option maxRecDepth 100000 in
set_option maxHeartbeats 4000000 in
theorem wclean_any (v : Value) (l : List Int) (w : World) (hv : ArgB w v l) (hb : ∀ z ∈ l, 0 ≤ z ∧ z ≤ 255) :
    Calls Tryz.prog 68 #[v] w fun e w' => e = .returned (.bool (decide (l = List.replicate l.length 0))) ∧ Below w.heap.size w w' := by
  have G1 := Lib.hid (below_more (Below.refl w.heap.size w) (.cells #[.int .u8 0] 5))
  have hc : Hid ((w.alloc (.cells #[.int .u8 0] 5)).cell? ⟨w.heap.size, 0, none⟩ = some (.int .u8 0)) := by unfold Hid; simp
  rcases hv with ⟨rfl, rfl⟩ | ⟨x, cap, rfl, hcap, hcell⟩
  · have HCN := Lib.hid (Tryz.bytes_Count_one_nil w.heap.size 0 1 0 _ hc.out)
    go_enter Tryz.func68, Tryz.ntmps68
    go_wp2_with (go_at_call 82; (with_reducible refine (HCN.out).mono ?_); rintro e w1 ⟨rfl, rfl⟩)
    go_ret
    exact ⟨rfl, G1.out⟩
  · have hcell2 : ∀ i, i < l.length → (w.alloc (.cells #[.int .u8 0] 5)).cell? (x.add i) = some (.int .u8 (l.getD i 0)) := fun i hi => (G1.out.cell (World.block_lt_of_cell? _ _ (hcell i hi))).trans (hcell i hi)
    have HCN := Lib.hid (Tryz.bytes_Count_one_at x l.length cap w.heap.size 0 1 l 0 _ rfl hcell2 hc.out)
    obtain ⟨C, hC⟩ : ∃ C, Lib.countByte (Lib.bytesOf l) ((0 : Int).toNat.toUInt8) = C := ⟨_, rfl⟩
    have hfin : Hid ((C = l.length) ↔ l = List.replicate l.length 0) := by rw [← hC]; exact count_zeros l hb
    rw [hC] at HCN
    obtain ⟨N, hN⟩ : ∃ N, l.length = N := ⟨_, rfl⟩
    rw [hN] at HCN hfin hcap ⊢
    clear hC hcell hcell2 hb
    go_enter Tryz.func68, Tryz.ntmps68
    go_wp2_with (go_at_call 82; (with_reducible refine (HCN.out).mono ?_); rintro e w1 ⟨rfl, rfl⟩)
    go_ret
    refine ⟨?_, G1.out⟩
    have e : ((C : Int) == (N : Int)) = decide (l = List.replicate N 0) := by
      rw [Bool.eq_iff_iff, beq_iff_eq, decide_eq_true_iff, ← hfin.out]
      omega
    rw [e]
    rfl

set_option maxRecDepth 100000 in
set_option maxHeartbeats 4000000 in
theorem wformat_not (base : Nat) (O : Foot) (r : Nat) (D : Dsk) (f k : Int) (w : World) (h : DskIs w base O r D) (hn : ¬ OnReg D.n f k) (f0 : -9223372036854775808 ≤ f) (f1 : f ≤ 9223372036854775807) (k0 : -9223372036854775808 ≤ k) (k1 : k ≤ 9223372036854775807) :
    Calls Tryz.prog 52 #[.pointer (some ⟨r, 0, none⟩), .int .i64 f, .int .i64 k] w fun e w' => e = .returned (.int .i64 2) ∧ Below w.heap.size w w' := by
  have HON := Lib.hid (won_not base O r D f k w h hn f0 f1 k0 k1)
  clear h hn
  go_enter Tryz.func52, Tryz.ntmps52
  go_wp2_with (go_at_call 65; (with_reducible refine (HON.out).mono ?_); rintro e w1 ⟨rfl, g1⟩; have G1 := Lib.hid (below_more g1 (.cells #[.pointer none, .int .i64 0, .int .i64 0] 103)); clear g1)
  go_ret
  exact ⟨rfl, G1.out⟩
set_option maxRecDepth 100000 in
set_option maxHeartbeats 4000000 in
theorem wformat_any (base : Nat) (O : Foot) (r : Nat) (D : Dsk) (f k : Nat) (w : World) (_env : Env w) (h : DskIs w base O r D) (k1 : 1 ≤ k) (on : f + k ≤ D.n) (dk : D.dark = false) (hw : D.waits = []) (hd : D.deeds ≤ 900000) :
    Calls Tryz.prog 52 #[.pointer (some ⟨r, 0, none⟩), .int .i64 (f : Int), .int .i64 (k : Int)] w fun e w' => ∃ c D', e = .returned (.int .i64 c) ∧ FmtOut D (f * D.size) (k * D.size) c D' ∧ DskTo base O r D' w w' := by
  have hs : 0 < D.size := by have := h.ok.s0; omega
  have hM : 0 < k * D.size := Nat.mul_pos (by omega) hs
  have HON := Lib.hid (won_any base O r D f k w h k1 on)
  have HWP := Lib.hid (fun W (g : Below w.heap.size w W) => (show Calls Tryz.prog 69 #[.agg #[.pointer (some ⟨r, 0, none⟩), .int .i64 (f : Int), .int .i64 (k : Int)], .int .i64 0] W (GivesPut base O r D f k 0 (List.replicate (k * D.size) 0) W) from wwipe_any base O r D f k 0 W (h.after g) on dk hw hd hM))
  have hbase : Hid (base ≤ w.heap.size) := by have := h.own r h.mem; unfold Hid; omega
  have HOK := Lib.hid (And.intro h.ok on)
  clear h k1 on dk hw hd hs hM
  unfold GivesRg at HON
  go_enter Tryz.func52, Tryz.ntmps52
  go_wp2_with (first
    | (go_at_call 65; (with_reducible refine (HON.out).mono ?_); rintro e w1 ⟨rfl, g1⟩; have G1 := Lib.hid (below_more g1 (.cells #[.pointer (some ⟨r, 0, none⟩), .int .i64 (f : Int), .int .i64 (k : Int)] 103)); clear g1)
    | (go_at_call 69; (with_reducible refine (HWP.out _ G1.out).mono ?_); rintro e w6 ⟨c', D', T, i0, m, rfl, l6, p6, t6⟩; have L6 := Lib.hid l6; have P6 := Lib.hid p6; have T6 := Lib.hid (way_old hbase.out G1.out ⟨_, t6.choose_spec.1, t6.choose_spec.2.2, t6.choose_spec.2.1⟩); clear l6 p6 t6))
  go_ret
  exact ⟨c', D', rfl, fmt_put HOK.out.1 L6.out HOK.out.2 P6.out, T6.out⟩

set_option maxRecDepth 100000 in
set_option maxHeartbeats 4000000 in
theorem wopen_not (base : Nat) (O : Foot) (r : Nat) (D : Dsk) (f k : Int) (w : World) (h : DskIs w base O r D) (hn : ¬ OnReg D.n f k) (f0 : -9223372036854775808 ≤ f) (f1 : f ≤ 9223372036854775807) (k0 : -9223372036854775808 ≤ k) (k1 : k ≤ 9223372036854775807) :
    Calls Tryz.prog 49 #[.pointer (some ⟨r, 0, none⟩), .int .i64 f, .int .i64 k] w fun e w' => ∃ a c, e = .returned (.tuple #[.pointer none, .slice a 0 c, .int .i64 2]) ∧ Below w.heap.size w w' := by
  have HON := Lib.hid (won_not base O r D f k w h hn f0 f1 k0 k1)
  clear h hn
  go_enter Tryz.func49, Tryz.ntmps49
  go_wp2_with (go_at_call 65; (with_reducible refine (HON.out).mono ?_); rintro e w1 ⟨rfl, g1⟩; have G1 := Lib.hid (below_more g1 (.cells #[.pointer none, .int .i64 0, .int .i64 0] 103)); clear g1)
  go_ret3
  exact ⟨_, _, rfl, G1.out⟩

/-- Clean is what is a region's text. -/
theorem clean_iff (B : List Int) : B.drop (allL B).2 = List.replicate (B.drop (allL B).2).length 0 ↔ B = textL (allL B).1 B.length := by
  obtain ⟨p1, p2, p3, p4, _⟩ := all_parts B
  have hd : (B.drop (allL B).2).length = B.length - (allL B).2 := List.length_drop ..
  refine ⟨fun h => ?_, fun h => ?_⟩
  · unfold textL
    rw [p2, ← hd, ← h]
    exact p1
  · have hA := frames_len (allL B).1
    rw [p2] at hA
    rw [hd]
    have q := congrArg (List.drop (allL B).2) h
    unfold textL at q
    rw [List.drop_left' hA, p2] at q
    exact q
/-- What Open comes to: Down, or the log and its records. -/
def GivesOp (base : Nat) (O : Foot) (r : Nat) (D : Dsk) (f k : Nat) (rs : List (List Int)) (w : World) (e : Ending) (w' : World) : Prop :=
  ∃ c D' O', OpnOut D (f * D.size) (k * D.size) rs c D' ∧ DskIs w' base O' r D' ∧ OnlyO base O w w' ∧ Grown O O' w.heap.size ∧
    ((c = 12 ∧ ∃ a n, e = .returned (.tuple #[.pointer none, .slice a 0 n, .int .i64 12])) ∨
     (c = 0 ∧ ∃ gb OG OR rv, e = .returned (.tuple #[.pointer (some ⟨gb, 0, none⟩), rv, .int .i64 0]) ∧ LogIs w' w.heap.size OG gb r ⟨f, k, D.size, usedL rs, false⟩ ∧ LLF w' base OR rv rs ∧ (∀ i, OR i → w.heap.size ≤ i ∧ i < w'.heap.size ∧ ¬ O' i ∧ ¬ OG i) ∧ ∀ i, OG i → ¬ O' i))
theorem put_c01 {D D' : Dsk} {T : List Int} {i0 m : Nat} {c : Int} (h : PutOut D T i0 m c D') : c = 0 ∨ c = 12 := by
  rcases h.out with ⟨h, _⟩ | ⟨h, _⟩
  · exact Or.inl h
  · exact Or.inr h
theorem opn_fin {base : Nat} {O O' OR : Foot} {r : Nat} {D D' : Dsk} {f k U : Nat} {rs : List (List Int)} {w W : World} {u4 : Value} (hout : OpnOut D (f * D.size) (k * D.size) rs 0 D') (hd : DskIs W base O' r D') (ho : OnlyO base O w W) (hg : Grown O O' w.heap.size) (hs : usedL rs = U) (hl : LLF W base OR u4 rs) (hOR : ∀ i, OR i → w.heap.size ≤ i ∧ i < W.heap.size ∧ ¬ O' i) :
    GivesOp base O r D f k rs w (.returned (.tuple #[.pointer (some ⟨W.heap.size, 0, none⟩), u4, .int .i64 0])) (W.alloc (.cells #[.pointer (some ⟨r, 0, none⟩), .int .i64 (f : Int), .int .i64 (k : Int), .int .i64 (U : Int), .bool false] 105)) := by
  have hb := below_more (Below.refl W.heap.size W) (.cells #[.pointer (some ⟨r, 0, none⟩), .int .i64 (f : Int), .int .i64 (k : Int), .int .i64 (U : Int), .bool false] 105)
  have hrl := (hd.own r hd.mem)
  have hs2 := ho.size
  refine ⟨0, D', O', hout, hd.after hb, ho.trans (OnlyO.of hb (by omega)) (Grown.refl _ _), hg, Or.inr ⟨rfl, W.heap.size, fun i => i = W.heap.size, OR, u4, rfl, ?_, hl.after hb, fun i hi => ?_, fun i hi h => ?_⟩⟩
  · refine ⟨fun i hi => ?_, rfl, by simp, by simp, by simp, by rw [hs]; simp, by simp, fun i => by simp [go_sem]⟩
    subst hi
    exact ⟨hs2, by simp⟩
  · obtain ⟨h1, h2, h3⟩ := hOR i hi
    exact ⟨h1, Nat.lt_of_lt_of_le h2 hb.size, h3, fun e => by omega⟩
  · have := (hd.own i h).2
    omega
set_option maxRecDepth 100000 in
set_option maxHeartbeats 4000000 in
theorem wopen_any (base : Nat) (O : Foot) (r : Nat) (D : Dsk) (f k : Nat) (w : World) (env : Env w) (h : DskIs w base O r D) (k1 : 1 ≤ k) (on : f + k ≤ D.n) (dk : D.dark = false) (hw : D.waits = []) (hd : D.deeds ≤ 900000) :
    Calls Tryz.prog 49 #[.pointer (some ⟨r, 0, none⟩), .int .i64 (f : Int), .int .i64 (k : Int)] w (GivesOp base O r D f k (allL (regnL (f * D.size) (k * D.size) D.last)).1 w) := by
  have hfk : (f + k) * D.size ≤ D.n * D.size := Nat.mul_le_mul_right _ on
  rw [Nat.add_mul f k, ← h.ok.ll] at hfk
  have hmost := h.ok.most
  have hll := h.ok.ll
  have hBl := regn_len (lo := f * D.size) (M := k * D.size) hfk
  have hBy : ∀ z ∈ regnL (f * D.size) (k * D.size) D.last, 0 ≤ z ∧ z ≤ 255 := fun z hz => h.ok.lb z (List.mem_of_mem_drop (List.mem_of_mem_take hz))
  have hbase : Hid (base ≤ w.heap.size) := by have := h.own r h.mem; unfold Hid; omega
  have hparts := all_parts (regnL (f * D.size) (k * D.size) D.last)
  have HON := Lib.hid (won_any base O r D f k w h k1 on)
  have HRD := Lib.hid (fun W (g : Below w.heap.size w W) => wread_any base O r D f k W (h.after g) on dk hw (by omega))
  have HCI := Lib.hid (clean_iff (regnL (f * D.size) (k * D.size) D.last))
  obtain ⟨B, hB⟩ : ∃ B, regnL (f * D.size) (k * D.size) D.last = B := ⟨_, rfl⟩
  have HB := Lib.hid hB
  rw [hB] at HRD HCI hBl hBy hparts ⊢
  have HAL := Lib.hid (fun W (g : Below w.heap.size w W) v (hv : ArgB W v B) => call_foot base v B W (env.step g) hv hBy (by omega) (Nat.le_trans hbase.out g.size))
  obtain ⟨U, hU⟩ : ∃ U, (allL B).2 = U := ⟨_, rfl⟩
  obtain ⟨rs, hrs⟩ : ∃ rs, (allL B).1 = rs := ⟨_, rfl⟩
  have HU := Lib.hid (And.intro hU hrs)
  obtain ⟨M, hM⟩ : ∃ M, k * D.size = M := ⟨_, rfl⟩
  have HM := Lib.hid hM
  rw [hU, hrs] at hparts
  rw [hM] at hBl
  have hBM := Lib.hid hBl
  have hUl : Hid (U ≤ B.length) := hparts.2.2.2.1
  have hUs : Hid (usedL rs = U) := hparts.2.1
  have HCL := Lib.hid (fun W v (hv : ArgB W v (B.drop U)) => wclean_any v (B.drop U) W hv (fun z hz => hBy z (List.mem_of_mem_drop hz)))
  have HD := Lib.hid h
  have HDK := Lib.hid (And.intro dk (And.intro hw (And.intro hd on)))
  rw [hrs]
  unfold GivesAN at HAL
  rw [hU, hrs] at HAL HCI
  rw [hBl] at HCI
  unfold GivesRg at HON
  by_cases hcl : B.drop U = List.replicate (B.drop U).length 0
  · rw [decide_eq_true hcl] at HCL
    have hBt : Hid (B = textL rs M) := HCI.out.mp hcl
    clear hcl hparts hBl hBy hM hrs hU hB hmost hll hfk k1 on dk hw hd env h
    go_enter Tryz.func49, Tryz.ntmps49
    go_wp2_with (first
      | (go_at_call 65; (with_reducible refine (HON.out).mono ?_); rintro e w1 ⟨rfl, g1⟩; have G1 := Lib.hid (below_more g1 (.cells #[.pointer (some ⟨r, 0, none⟩), .int .i64 (f : Int), .int .i64 (k : Int)] 103)); have V1 := Lib.hid (Var3.fresh w1 (.pointer (some ⟨r, 0, none⟩)) (.int .i64 (f : Int)) (.int .i64 (k : Int)) 103 _ rfl); have S1 := Lib.hid g1.size; clear g1)
      | (go_at_call 66; (with_reducible refine (HRD.out _ G1.out).mono ?_); rintro e w3 ⟨v3, rfl, ho3, g3⟩; obtain ⟨a3, c3, hv3⟩ := ho3.argB.size; rw [hBM.out] at hv3; subst hv3; have A3 := Lib.hid ho3.argB; have G3 := Lib.hid (below_step G1.out g3); have V3 := Lib.hid (V1.out.after g3); have HAL3 := Lib.hid (HAL.out _ (below_step G1.out g3) _ ho3.argB); clear ho3 g3)
      | (go_at_call 67; (with_reducible refine (HAL3.out).mono ?_); rintro e w4 ⟨u4, rfl, l4, g4⟩; have L4 := Lib.hid l4; have G4 := Lib.hid (below_step G3.out g4); have S34 := Lib.hid (And.intro G3.out.size g4.size); have V4 := Lib.hid (V3.out.after g4); obtain ⟨sv, hrun, hsv⟩ := slice_from (A3.out.below g4) U hUl.out; have HCL4 := Lib.hid (HCL.out _ _ hsv); clear hsv l4 g4)
      | (go_at_call 68; (with_reducible refine (HCL4.out).mono ?_); rintro e w5 ⟨rfl, g5⟩; have G5 := Lib.hid (below_step G4.out g5); have L5 := Lib.hid (L4.out.after g5); have S45 := Lib.hid g5.size; have V5 := Lib.hid (V4.out.after g5); have c50 := V5.out.c0; have c51 := V5.out.c1; have c52 := V5.out.c2; clear g5))
    go_ret3
    refine opn_fin ?_ (HD.out.after G5.out) (OnlyO.of G5.out hbase.out) (Grown.refl _ _) hUs.out L5.out (fun i hi => ?_)
    · have hx : (textL rs M).length = M := by rw [← hBt.out]; exact hBM.out
      refine ⟨StepD.refl _, Or.inl ⟨rfl, ⟨HDK.out.1, HDK.out.2.1, ?_⟩, fun _ => rfl⟩⟩
      have hr := HB.out
      rw [hBt.out, HM.out] at hr
      rw [HM.out]
      exact beside_lay (by rw [hx]; exact Beside.refl _ _ _) (by rw [hx]; exact hr)
    · exact ⟨by have := S34.out.1; omega, Nat.lt_of_lt_of_le hi.2 S45.out, fun ho => by have := (HD.out.own i ho).2; have := S34.out.1; omega⟩
  · rw [decide_eq_false hcl] at HCL
    have hUm : U < k * D.size := by
      rcases Nat.lt_or_ge U M with hlt | hge
      · omega
      · refine (hcl ?_).elim
        rw [List.drop_eq_nil_of_le (by omega)]
        rfl
    have hBt : Hid (¬ B = textL rs M) := fun e => hcl (HCI.out.mpr e)
    have HWP := Lib.hid (fun W (g : Below w.heap.size w W) => wwipe_any base O r D f k U W (h.after g) on dk hw hd hUm)
    clear hcl hparts hBl hBy hM hrs hU hB hmost hll hfk k1 on dk hw hd env h hUm
    go_enter Tryz.func49, Tryz.ntmps49
    go_wp2_with (first
      | (go_at_call 65; (with_reducible refine (HON.out).mono ?_); rintro e w1 ⟨rfl, g1⟩; have G1 := Lib.hid (below_more g1 (.cells #[.pointer (some ⟨r, 0, none⟩), .int .i64 (f : Int), .int .i64 (k : Int)] 103)); have V1 := Lib.hid (Var3.fresh w1 (.pointer (some ⟨r, 0, none⟩)) (.int .i64 (f : Int)) (.int .i64 (k : Int)) 103 _ rfl); have S1 := Lib.hid g1.size; clear g1)
      | (go_at_call 66; (with_reducible refine (HRD.out _ G1.out).mono ?_); rintro e w3 ⟨v3, rfl, ho3, g3⟩; obtain ⟨a3, c3, hv3⟩ := ho3.argB.size; rw [hBM.out] at hv3; subst hv3; have A3 := Lib.hid ho3.argB; have G3 := Lib.hid (below_step G1.out g3); have V3 := Lib.hid (V1.out.after g3); have HAL3 := Lib.hid (HAL.out _ (below_step G1.out g3) _ ho3.argB); clear ho3 g3)
      | (go_at_call 67; (with_reducible refine (HAL3.out).mono ?_); rintro e w4 ⟨u4, rfl, l4, g4⟩; have L4 := Lib.hid l4; have G4 := Lib.hid (below_step G3.out g4); have S34 := Lib.hid (And.intro G3.out.size g4.size); have V4 := Lib.hid (V3.out.after g4); obtain ⟨sv, hrun, hsv⟩ := slice_from (A3.out.below g4) U hUl.out; have HCL4 := Lib.hid (HCL.out _ _ hsv); clear hsv l4 g4)
      | (go_at_call 68; (with_reducible refine (HCL4.out).mono ?_); rintro e w5 ⟨rfl, g5⟩; have G5 := Lib.hid (below_step G4.out g5); have L5 := Lib.hid (L4.out.after g5); have S45 := Lib.hid g5.size; have V5 := Lib.hid (V4.out.after g5); have c50 := V5.out.c0; have c51 := V5.out.c1; have c52 := V5.out.c2; clear g5)
      | (go_at_call 69; (with_reducible refine (HWP.out _ G5.out).mono ?_); rintro e w6 ⟨c', D', T, i0, m, rfl, l6, p6, t6⟩; have L6 := Lib.hid l6; have P6 := Lib.hid p6; have T6 := Lib.hid t6; have V6 := Lib.hid (V5.out.only t6.choose_spec.2.1 (fun ho => by have q1 := (HD.out.own _ ho).2; have q2 := S1.out; omega)); have c60 := V6.out.c0; have c61 := V6.out.c1; have c62 := V6.out.c2; have hc := put_c01 p6; clear l6 p6 t6; rcases hc with rfl | rfl))
    · go_ret3
      obtain ⟨O', d6, o6, g6⟩ := T6.out
      have hU2 := HU.out
      have hout := opn_put (D' := D') HD.out.ok (f := f) (k := k) (i0 := i0) (m := m) (T := T) (c := 0) (by rw [HB.out, hU2.1]; exact L6.out) HDK.out.2.2.2 (by rw [HB.out, hU2.2, HM.out]; exact hBt.out) P6.out
      rw [HB.out, hU2.2] at hout
      refine opn_fin hout d6 ((OnlyO.of G5.out hbase.out).trans o6 (Grown.refl _ _)) (fun i hi => (g6 i hi).imp id (fun q => Nat.le_trans G5.out.size q)) hUs.out (L5.out.only o6 (fun i hi ho => by have := (HD.out.own i ho).2; have := S34.out.1; omega) (fun i ho => (HD.out.own i ho).1)) (fun i hi => ?_)
      refine ⟨by have := S34.out.1; omega, Nat.lt_of_lt_of_le hi.2 (Nat.le_trans S45.out o6.size), fun ho => ?_⟩
      rcases g6 i ho with q | q
      · have := (HD.out.own i q).2
        have := S34.out.1
        omega
      · have := S45.out
        omega
    · go_ret3
      obtain ⟨O', d6, o6, g6⟩ := T6.out
      have hU2 := HU.out
      have hout := opn_put (D' := D') HD.out.ok (f := f) (k := k) (i0 := i0) (m := m) (T := T) (c := 12) (by rw [HB.out, hU2.1]; exact L6.out) HDK.out.2.2.2 (by rw [HB.out, hU2.2, HM.out]; exact hBt.out) P6.out
      rw [HB.out, hU2.2] at hout
      exact ⟨12, D', O', hout, d6, (OnlyO.of G5.out hbase.out).trans o6 (Grown.refl _ _), fun i hi => (g6 i hi).imp id (fun q => Nat.le_trans G5.out.size q), Or.inl ⟨rfl, _, _, rfl⟩⟩

end Go.Proofs.YtejelednnacnaaaGreatDoor

/-
  Package wal as it landed: Used, Room, Append: walked.
-/
namespace Go.Proofs.YtejelednnacnaaaGreatDoor
open Go.RowKit

set_option maxRecDepth 100000 in
set_option maxHeartbeats 8000000 in
theorem wroom_any (base : Nat) (O OG : Foot) (gb r : Nat) (D : Dsk) (G : Lg) (w : World) (h : DskIs w base O r D) (hg : LogIs w base OG gb r G) (sz : G.size = D.size) (u : G.used ≤ G.n * G.size) (on : G.from_ + G.n ≤ D.n) : Calls Tryz.prog 41 #[.pointer (some ⟨gb, 0, none⟩)] w fun e w' => e = .returned (.int .i64 ((G.n * G.size : Nat) - (G.used : Nat) : Int)) ∧ Below w.heap.size w w' := by
  have n1 := h.ok.n1
  have hmost := h.ok.most
  have hMn : G.n * D.size ≤ D.n * D.size := Nat.mul_le_mul_right _ (by omega)
  have HLN := Lib.hid (fun W (g : Below w.heap.size w W) => wlength_any base O r D G.from_ G.n W (h.after g) (by omega))
  have f0 := cell_regrown hg.c0
  have f1 := cell_regrown hg.c1
  have f2 := cell_regrown hg.c2
  have f3 := cell_regrown hg.c3
  obtain ⟨gf, e1⟩ : ∃ x, G.from_ = x := ⟨_, rfl⟩
  obtain ⟨gn, e2⟩ : ∃ x, G.n = x := ⟨_, rfl⟩
  obtain ⟨gu, e3⟩ : ∃ x, G.used = x := ⟨_, rfl⟩
  rw [sz] at u ⊢
  rw [e1, e2] at HLN
  rw [e1] at f1
  rw [e2] at f2 hMn u ⊢
  rw [e3] at f3 u ⊢
  obtain ⟨M, hM⟩ : ∃ M, gn * D.size = M := ⟨_, rfl⟩
  rw [hM] at HLN hMn u ⊢
  have hMb : M ≤ 204800 := by omega
  have hwr : IntKind.i64.wrap ((M : Int) - (gu : Int)) = (M : Int) - (gu : Int) := by rw [IntKind.wrap_i64]; omega
  have HWR := Lib.hid hwr
  clear h hg n1 hmost hMn e1 e2 e3 hM sz on hwr
  go_enter Tryz.func41, Tryz.ntmps41
  go_wp2
  refine wp_region_quiet_below (by kernel_rfl) (by kernel_rfl) ?_
  repeat (quiet_step (first
    | (go_at_call 55; exact Calls.regrown_of (HLN.out _ (below_regrown _ _ _)))))
  refine wpQuiet_nil ?_
  intro _ hw'
  obtain ⟨⟨dq, osq⟩, hw''⟩ := hw'
  subst hw''
  have hfin := Lib.hid (below_regrown w dq osq)
  clear f0 f1 f2 f3
  generalize Go.Sort.grow (redrawn w dq) osq = W3 at hfin ⊢
  go_wp2
  go_ret
  exact ⟨by show Ending.returned (Value.int .i64 (IntKind.i64.wrap ((M : Int) - (gu : Int)))) = _; rw [HWR.out], hfin.out⟩
set_option maxRecDepth 100000 in
set_option maxHeartbeats 8000000 in
theorem wfits_any (base : Nat) (O OG : Foot) (gb r : Nat) (D : Dsk) (G : Lg) (n : Nat) (w : World) (env : Env w) (h : DskIs w base O r D) (hg : LogIs w base OG gb r G) (sz : G.size = D.size) (u : G.used ≤ G.n * G.size) (on : G.from_ + G.n ≤ D.n) (hn : (n : Int) ≤ 9223372036854775807) :
    Calls Tryz.prog 73 #[.pointer (some ⟨gb, 0, none⟩), .int .i64 (n : Int)] w fun e w' => e = .returned (.bool (decide (G.used + n + 10 ≤ G.n * G.size))) ∧ Below w.heap.size w w' := by
  have n1 := h.ok.n1
  have hmost := h.ok.most
  have hMn : G.n * D.size ≤ D.n * D.size := Nat.mul_le_mul_right _ (by omega)
  have HRM := Lib.hid (fun W (g : Below w.heap.size w W) => wroom_any base O OG gb r D G W (h.after g) (hg.after g) sz u on)
  have HSZ := Lib.hid (fun W (g : Below w.heap.size w W) => csize_any (n : Int) W (env.step g) (by omega) hn)
  rw [sz] at u HRM ⊢
  obtain ⟨M, hM⟩ : ∃ M, G.n * D.size = M := ⟨_, rfl⟩
  obtain ⟨gu, e3⟩ : ∃ x, G.used = x := ⟨_, rfl⟩
  rw [hM] at HRM hMn u ⊢
  rw [e3] at HRM u ⊢
  obtain ⟨rm, hrm⟩ : ∃ z : Int, (M : Int) - (gu : Int) = z := ⟨_, rfl⟩
  rw [hrm] at HRM
  have hMb : M ≤ 204800 := by omega
  by_cases hle : (n : Int) ≤ rm
  · have hns : (if 0 ≤ (n : Int) ∧ (n : Int) ≤ 1073741824 then (n : Int) + 10 else 0) = (n : Int) + 10 := if_pos (by omega)
    rw [hns] at HSZ
    obtain ⟨n2, hn2⟩ : ∃ z : Int, (n : Int) + 10 = z := ⟨_, rfl⟩
    rw [hn2] at HSZ
    have hfin : Hid ((decide (gu + n + 10 ≤ M)) = decide (n2 ≤ rm)) := by
      unfold Hid
      rw [decide_eq_decide]; omega
    clear h hg n1 hmost hMn e3 hM sz on hns hn2 hrm u hMb hn env
    go_enter Tryz.func73, Tryz.ntmps73
    go_wp2_with (first
      | (go_at_call 41; (with_reducible refine (HRM.out _ (Below.refl _ _)).mono ?_); rintro e w1 ⟨rfl, g1⟩; have G1 := Lib.hid g1; clear g1)
      | (go_at_call 84; (with_reducible refine (HSZ.out _ G1.out).mono ?_); rintro e w2 ⟨rfl, g2⟩; have G2 := Lib.hid (below_step G1.out g2); clear g2)
      | (go_at_call 41; (with_reducible refine (HRM.out _ G2.out).mono ?_); rintro e w3 ⟨rfl, g3⟩; have G3 := Lib.hid (below_step G2.out g3); clear g3))
    go_ret
    exact ⟨by rw [hfin.out]; rfl, G3.out⟩
  · have hfin : Hid (decide (gu + n + 10 ≤ M) = false) := decide_eq_false (by omega)
    clear h hg n1 hmost hMn e3 hM sz on hrm u hMb hn env
    go_enter Tryz.func73, Tryz.ntmps73
    go_wp2_with (go_at_call 41; (with_reducible refine (HRM.out _ (Below.refl _ _)).mono ?_); rintro e w1 ⟨rfl, g1⟩; have G1 := Lib.hid g1; clear g1)
    go_ret
    exact ⟨by rw [hfin.out]; rfl, G1.out⟩
/-- What a log's disk is. -/
structure LogOn (D : Dsk) (G : Lg) (rs : List (List Int)) : Prop where
  n1 : 1 ≤ G.n
  on : G.from_ + G.n ≤ D.n
  sz : G.size = D.size
  us : G.used = usedL rs
  up : G.down = false
  ok : RecOk rs (G.n * G.size)
  reg : regnL (G.from_ * G.size) (G.n * G.size) D.last = textL rs (G.n * G.size)
  dk : D.dark = false
  ws : D.waits = []
set_option maxRecDepth 100000 in
set_option maxHeartbeats 8000000 in
theorem wappend_full (base : Nat) (O OG : Foot) (r gb : Nat) (D : Dsk) (G : Lg) (rs : List (List Int)) (v : Value) (b : List Int) (w : World) (env : Env w) (h : DskIs w base O r D) (hg : LogIs w base OG gb r G) (on : LogOn D G rs) (hv : ArgB w v b) (hl : (b.length : Int) ≤ 9223372036854775807) (hf : G.n * G.size < G.used + b.length + 10) :
    Calls Tryz.prog 57 #[.pointer (some ⟨gb, 0, none⟩), v] w fun e w' => e = .returned (.int .i64 11) ∧ Below w.heap.size w w' := by
  have HDK := Lib.hid (bdark_any base O r D w h)
  rw [on.dk] at HDK
  have hu : G.used ≤ G.n * G.size := by rw [on.us]; exact on.ok.used
  have HFT := Lib.hid (fun W (g : Below w.heap.size w W) => wfits_any base O OG gb r D G b.length W (env.step g) (h.after g) (hg.after g) on.sz hu on.on hl)
  rw [decide_eq_false (by omega)] at HFT
  have c0 := hg.c0
  have c4 := hg.c4
  rw [on.up] at c4
  obtain ⟨a, c, rfl⟩ := hv.size
  obtain ⟨n, hn⟩ : ∃ n, b.length = n := ⟨_, rfl⟩
  rw [hn] at HFT ⊢
  clear h hg on hv hf hn hu env
  go_enter Tryz.func57, Tryz.ntmps57
  go_wp2_with (first
    | (go_at_call 72; (with_reducible refine (HDK.out).mono ?_); rintro e w1 ⟨rfl, g1⟩; have G1 := Lib.hid g1; clear g1)
    | (go_at_call 73; (with_reducible refine (HFT.out _ G1.out).mono ?_); rintro e w2 ⟨rfl, g2⟩; have G2 := Lib.hid (below_step G1.out g2); clear g2))
  go_ret
  exact ⟨rfl, G2.out⟩
/-- What Append comes to. -/
def GivesAp (base : Nat) (O OG : Foot) (r gb : Nat) (D : Dsk) (G : Lg) (rs : List (List Int)) (b : List Int) (w : World) (e : Ending) (w' : World) : Prop :=
  ∃ c D' O' OG', e = .returned (.int .i64 c) ∧ AppOut D (G.from_ * G.size) (G.n * G.size) rs b c D' ∧ DskIs w' base O' r D' ∧ LogIs w' base OG' gb r { G with used := if c = 0 then G.used + b.length + 10 else G.used, down := decide (c = 12) } ∧ (∀ i, O' i → ¬ OG' i) ∧
    OnlyO base (fun i => O i ∨ OG i) w w' ∧ Grown (fun i => O i ∨ OG i) (fun i => O' i ∨ OG' i) w.heap.size
theorem LogIs.use {w : World} {base : Nat} {OG : Foot} {gb r : Nat} {G : Lg} (h : LogIs w base OG gb r G) (n : Nat) : LogIs (w.setCell ⟨gb, 3, none⟩ (.int .i64 (n : Int))) base OG gb r { G with used := n } := by
  obtain ⟨h1, h2, c0, c1, c2, c3, c4, q⟩ := h
  refine ⟨fun i hi => by have := h1 i hi; simpa using this, h2, ?_, ?_, ?_, ?_, ?_, fun i => by rw [World.frozen?_setCell]; exact q i⟩ <;> simp [go_sem, *]
theorem LogIs.fall {w : World} {base : Nat} {OG : Foot} {gb r : Nat} {G : Lg} (h : LogIs w base OG gb r G) : LogIs (w.setCell ⟨gb, 4, none⟩ (.bool true)) base OG gb r { G with down := true } := by
  obtain ⟨h1, h2, c0, c1, c2, c3, c4, q⟩ := h
  refine ⟨fun i hi => by have := h1 i hi; simpa using this, h2, ?_, ?_, ?_, ?_, ?_, fun i => by rw [World.frozen?_setCell]; exact q i⟩ <;> simp [go_sem, *]
/-- The log's cell, written behind a call that put its frame. -/
theorem app_fin {base : Nat} {O OG O' : Foot} {r gb : Nat} {D D' : Dsk} {G G' : Lg} {rs : List (List Int)} {b : List Int} {w w5 w6 W : World} {c : Int} (h : DskIs w base O r D) (hg : LogIs w base OG gb r G) (hd : ∀ i, O i → ¬ OG i) (hb5 : Below w.heap.size w w5) (d6 : DskIs w6 base O' r D') (o6 : OnlyO base O w5 w6) (g6 : Grown O O' w5.heap.size)
    (hW : ∃ k x, W = w6.setCell ⟨gb, k, none⟩ x) (hl : LogIs w6 base OG gb r G → LogIs W base OG gb r G') (hG' : G' = { G with used := if c = 0 then G.used + b.length + 10 else G.used, down := decide (c = 12) }) (ha : AppOut D (G.from_ * G.size) (G.n * G.size) rs b c D') : GivesAp base O OG r gb D G rs b w (.returned (.int .i64 c)) W := by
  obtain ⟨k, x, rfl⟩ := hW
  have hrl := h.own r h.mem
  have hgl := hg.own gb hg.mem
  have hs5 := hb5.size
  have hgO : ∀ i, OG i → ¬ O' i := fun i hi ho => by
    rcases g6 i ho with q | q
    · exact hd i q hi
    · have := (hg.own i hi).2
      omega
  have hl6 : LogIs w6 base OG gb r G := (hg.after hb5).kept (fun i hi => o6.keep i (Nat.lt_of_lt_of_le (hg.own i hi).2 hs5) (fun ho => hd i ho hi)) o6.size
  have hset : ∀ i, i ≠ gb → (w6.setCell ⟨gb, k, none⟩ x).heap[i]? = w6.heap[i]? := fun i hi => set_else _ gb k x i hi
  have ho : OnlyO base (fun i => O i ∨ OG i) w w6 := by
    have o1 := (OnlyO.of hb5 (by omega) : OnlyO base O w w5).trans o6 (Grown.refl _ _)
    exact ⟨o1.bel, fun i hi hn => o1.keep i hi (fun q => hn (Or.inl q))⟩
  refine ⟨c, D', O', OG, rfl, ha, d6.kept (fun i hi => hset i (fun e => hgO gb hg.mem (e ▸ hi))) (by simp), by rw [← hG']; exact hl hl6, fun i hi q => hgO i q hi, ho.set (Or.inr hg.mem) (by omega) k x, fun i hi => ?_⟩
  rcases hi with hi | hi
  · exact (g6 i hi).imp Or.inl (fun q => Nat.le_trans hs5 q)
  · exact Or.inl (Or.inr hi)
set_option maxRecDepth 100000 in
set_option maxHeartbeats 8000000 in
theorem wappend_any (base : Nat) (O OG : Foot) (r gb : Nat) (D : Dsk) (G : Lg) (rs : List (List Int)) (v : Value) (b : List Int) (w : World) (env : Env w) (h : DskIs w base O r D) (hg : LogIs w base OG gb r G) (hd : ∀ i, O i → ¬ OG i) (on : LogOn D G rs) (dd : D.deeds ≤ 900000)
    (hv : ArgB w v b) (hb : ∀ z ∈ b, 0 ≤ z ∧ z ≤ 255) (_hy : b ≠ [] → ∀ k, v.ownBlock = some k → ¬ O k ∧ ¬ OG k) (hf : G.used + b.length + 10 ≤ G.n * G.size) :
    Calls Tryz.prog 57 #[.pointer (some ⟨gb, 0, none⟩), v] w (GivesAp base O OG r gb D G rs b w) := by
  have n1 := h.ok.n1
  have hmost := h.ok.most
  have hMn : G.n * D.size ≤ D.n * D.size := Nat.mul_le_mul_right _ (by have := on.on; omega)
  have hMs : G.n * G.size = G.n * D.size := by rw [on.sz]
  have HDK := Lib.hid (bdark_any base O r D w h)
  rw [on.dk] at HDK
  have hu : G.used ≤ G.n * G.size := by rw [on.us]; exact on.ok.used
  have HFT := Lib.hid (fun W (g : Below w.heap.size w W) => wfits_any base O OG gb r D G b.length W (env.step g) (h.after g) (hg.after g) on.sz hu on.on (by omega))
  rw [decide_eq_true hf] at HFT
  have HFR := Lib.hid (fun W (g : Below w.heap.size w W) => cframe_any v b W (env.step g) (hv.below g) hb (by omega))
  unfold GivesF at HFR
  have hFl := frameL_len b
  have hFb := frameL_byte hb
  have HLG0 := Lib.hid (fun W (g : Below w.heap.size w W) => hg.after g)
  have HDJ := Lib.hid hd
  have c0 := hg.c0
  have c4 := hg.c4
  have hup := on.up
  rw [hup] at c4
  obtain ⟨gf, hgf⟩ : ∃ x, G.from_ = x := ⟨_, rfl⟩
  obtain ⟨gn, hgn⟩ : ∃ x, G.n = x := ⟨_, rfl⟩
  obtain ⟨gu, hgu⟩ : ∃ x, G.used = x := ⟨_, rfl⟩
  have HPU := Lib.hid (fun W (g : Below w.heap.size w W) v (hv : ArgB W v (frameL b)) => wput_any base O r D gf gn gu v (frameL b) W (h.after g) (by rw [← hgf, ← hgn]; exact on.on) on.dk on.ws dd (by rw [hFl, ← hgn, ← hMs, ← hgu]; omega) (by rw [hFl]; omega) hv hFb)
  have HC0 := Lib.hid (fun W (g : Below w.heap.size w W) => (by have q := hg.after g; exact ⟨q.c0, by rw [← hgf]; exact q.c1, by rw [← hgn]; exact q.c2, by rw [← hgu]; exact q.c3⟩ : W.cell? ⟨gb, 0, none⟩ = some (.pointer (some ⟨r, 0, none⟩)) ∧ W.cell? ⟨gb, 1, none⟩ = some (.int .i64 (gf : Int)) ∧ W.cell? ⟨gb, 2, none⟩ = some (.int .i64 (gn : Int)) ∧ W.cell? ⟨gb, 3, none⟩ = some (.int .i64 (gu : Int))))
  have HH := Lib.hid (And.intro h (And.intro hg (And.intro on hf)))
  have HGE := Lib.hid (And.intro hgf (And.intro hgn (And.intro hgu hup)))
  obtain ⟨a, c, rfl⟩ := hv.size
  obtain ⟨n, hn⟩ : ∃ n, b.length = n := ⟨_, rfl⟩
  have HN := Lib.hid hn
  rw [hn] at HFT HFR hFl
  rw [hn]
  obtain ⟨FL, hFL⟩ : ∃ x, (frameL b).length = x := ⟨_, rfl⟩
  have HFL := Lib.hid hFL
  rw [hFL] at hFl
  have hadd : (gu : Int) + (FL : Int) = ((gu + n + 10 : Nat) : Int) := by omega
  have hgub : G.used + FL ≤ 1000000 := by omega
  have HFl := Lib.hid hFl
  have HADD := Lib.hid hadd
  clear h hg on hv hf hn hu env hgf hgn hgu hup hd hb hFb hFL hFl n1 hmost hMn hMs dd hadd
  go_enter Tryz.func57, Tryz.ntmps57
  go_wp2_with (first
    | (go_at_call 72; (with_reducible refine (HDK.out).mono ?_); rintro e w1 ⟨rfl, g1⟩; have G1 := Lib.hid g1; clear g1)
    | (go_at_call 73; (with_reducible refine (HFT.out _ G1.out).mono ?_); rintro e w2 ⟨rfl, g2⟩; have G2 := Lib.hid (below_step G1.out g2); clear g2)
    | (go_at_call 74; (with_reducible refine (HFR.out _ G2.out).mono ?_); rintro e w5 ⟨fv, rfl, hfa, g5⟩; obtain ⟨fa, fc, hfe⟩ := hfa.size; rw [HFL.out] at hfe; subst hfe; have G5 := Lib.hid (below_step G2.out g5); have HPT := Lib.hid (fun W (g : Below w5.heap.size w5 W) => HPU.out W (below_step (below_step G2.out g5) g) _ (hfa.below g)); have HC := Lib.hid (fun W (g : Below w5.heap.size w5 W) => HC0.out W (below_step (below_step G2.out g5) g)); have HLG := Lib.hid (fun W (g : Below w5.heap.size w5 W) => HLG0.out W (below_step (below_step G2.out g5) g)); clear hfa g5))
  refine wp_region_mix 9 (TLst [.pointer (some ⟨gb, 0, none⟩), .pointer (some ⟨gb, 0, none⟩), .pointer (some ⟨gb, 0, none⟩), .agg #[.pointer (some ⟨r, 0, none⟩), .int .i64 (gf : Int), .int .i64 (gn : Int)], .pointer (some ⟨gb, 0, none⟩), .pointer (some ⟨gb, 0, none⟩), .pointer (some ⟨gb, 3, none⟩), .int .i64 (gu : Int), .slice fa FL fc]) (fun _ => false) (by kernel_rfl) (by kernel_rfl) (fun _ _ _ _ h _ => h) (fun _ _ _ h => by cases h) ?_ ?_
  · simp only [List.take_succ_cons, List.take_zero]
    refine (StepsAll.cons ?_ (StepsAll.cons ?_ (StepsAll.cons ?_ (StepsAll.cons ?_ (StepsAll.cons ?_ (StepsAll.cons ?_ (StepsAll.cons ?_ (StepsAll.cons ?_ (StepsAll.cons ?_ StepsAll.nil)))))))))
    · intro u W hb hd
      simp only [putAll, Act.put, List.setIfInBounds_toArray, List.set_cons_succ, List.set_cons_zero, Nat.zero_add, Nat.reduceAdd]
      go_wp2
      first | exact ⟨rfl, Below.refl _ _⟩ | exact ⟨_, rfl, rfl, Below.refl _ _, fun h => by simp at h⟩ | exact ⟨_, rfl, rfl, Below.refl _ _⟩ | exact ⟨rfl, Below.refl _ _, fun h => by simp at h⟩
    · intro u W hb hd
      have e0 : u 0 = .pointer (some ⟨gb, 0, none⟩) := hd.1 rfl (by decide)
      simp only [putAll, Act.put, List.setIfInBounds_toArray, List.set_cons_succ, List.set_cons_zero, Nat.zero_add, Nat.reduceAdd]
      rw [e0]
      go_wp2
      first | exact ⟨rfl, Below.refl _ _⟩ | exact ⟨_, rfl, rfl, Below.refl _ _, fun h => by simp at h⟩ | exact ⟨_, rfl, rfl, Below.refl _ _⟩ | exact ⟨rfl, Below.refl _ _, fun h => by simp at h⟩
    · intro u W hb hd
      have e0 : u 1 = .pointer (some ⟨gb, 0, none⟩) := hd.1 rfl (by decide)
      simp only [putAll, Act.put, List.setIfInBounds_toArray, List.set_cons_succ, List.set_cons_zero, Nat.zero_add, Nat.reduceAdd]
      rw [e0]
      go_wp2
      first | exact ⟨rfl, Below.refl _ _⟩ | exact ⟨_, rfl, rfl, Below.refl _ _, fun h => by simp at h⟩ | exact ⟨_, rfl, rfl, Below.refl _ _⟩ | exact ⟨rfl, Below.refl _ _, fun h => by simp at h⟩
    · intro u W hb hd
      have e0 : u 2 = .pointer (some ⟨gb, 0, none⟩) := hd.1 rfl (by decide)
      obtain ⟨c0, c1, c2, c3⟩ := HC.out W hb
      simp only [putAll, Act.put, List.setIfInBounds_toArray, List.set_cons_succ, List.set_cons_zero, Nat.zero_add, Nat.reduceAdd]
      rw [e0]
      go_wp2
      first | exact ⟨rfl, Below.refl _ _⟩ | exact ⟨_, rfl, rfl, Below.refl _ _, fun h => by simp at h⟩ | exact ⟨_, rfl, rfl, Below.refl _ _⟩ | exact ⟨rfl, Below.refl _ _, fun h => by simp at h⟩
    · intro u W hb hd
      simp only [putAll, Act.put, List.setIfInBounds_toArray, List.set_cons_succ, List.set_cons_zero, Nat.zero_add, Nat.reduceAdd]
      go_wp2
      first | exact ⟨rfl, Below.refl _ _⟩ | exact ⟨_, rfl, rfl, Below.refl _ _, fun h => by simp at h⟩ | exact ⟨_, rfl, rfl, Below.refl _ _⟩ | exact ⟨rfl, Below.refl _ _, fun h => by simp at h⟩
    · intro u W hb hd
      have e0 : u 4 = .pointer (some ⟨gb, 0, none⟩) := hd.1 rfl (by decide)
      simp only [putAll, Act.put, List.setIfInBounds_toArray, List.set_cons_succ, List.set_cons_zero, Nat.zero_add, Nat.reduceAdd]
      rw [e0]
      go_wp2
      first | exact ⟨rfl, Below.refl _ _⟩ | exact ⟨_, rfl, rfl, Below.refl _ _, fun h => by simp at h⟩ | exact ⟨_, rfl, rfl, Below.refl _ _⟩ | exact ⟨rfl, Below.refl _ _, fun h => by simp at h⟩
    · intro u W hb hd
      have e0 : u 5 = .pointer (some ⟨gb, 0, none⟩) := hd.1 rfl (by decide)
      simp only [putAll, Act.put, List.setIfInBounds_toArray, List.set_cons_succ, List.set_cons_zero, Nat.zero_add, Nat.reduceAdd]
      rw [e0]
      go_wp2
      first | exact ⟨rfl, Below.refl _ _⟩ | exact ⟨_, rfl, rfl, Below.refl _ _, fun h => by simp at h⟩ | exact ⟨_, rfl, rfl, Below.refl _ _⟩ | exact ⟨rfl, Below.refl _ _, fun h => by simp at h⟩
    · intro u W hb hd
      have e0 : u 6 = .pointer (some ⟨gb, 3, none⟩) := hd.1 rfl (by decide)
      obtain ⟨c0, c1, c2, c3⟩ := HC.out W hb
      simp only [putAll, Act.put, List.setIfInBounds_toArray, List.set_cons_succ, List.set_cons_zero, Nat.zero_add, Nat.reduceAdd]
      rw [e0]
      go_wp2
      first | exact ⟨rfl, Below.refl _ _⟩ | exact ⟨_, rfl, rfl, Below.refl _ _, fun h => by simp at h⟩ | exact ⟨_, rfl, rfl, Below.refl _ _⟩ | exact ⟨rfl, Below.refl _ _, fun h => by simp at h⟩
    · intro u W hb hd
      simp only [putAll, Act.put, List.setIfInBounds_toArray, List.set_cons_succ, List.set_cons_zero, Nat.zero_add, Nat.reduceAdd]
      go_wp2
      first | exact ⟨rfl, Below.refl _ _⟩ | exact ⟨_, rfl, rfl, Below.refl _ _, fun h => by simp at h⟩ | exact ⟨_, rfl, rfl, Below.refl _ _⟩ | exact ⟨rfl, Below.refl _ _, fun h => by simp at h⟩
  · intro u W hb hT _
    have e0 : u 0 = .pointer (some ⟨gb, 0, none⟩) := hT 0 (by decide)
    have e1 : u 1 = .pointer (some ⟨gb, 0, none⟩) := hT 1 (by decide)
    have e2 : u 2 = .pointer (some ⟨gb, 0, none⟩) := hT 2 (by decide)
    have e3 : u 3 = .agg #[.pointer (some ⟨r, 0, none⟩), .int .i64 (gf : Int), .int .i64 (gn : Int)] := hT 3 (by decide)
    have e4 : u 4 = .pointer (some ⟨gb, 0, none⟩) := hT 4 (by decide)
    have e5 : u 5 = .pointer (some ⟨gb, 0, none⟩) := hT 5 (by decide)
    have e6 : u 6 = .pointer (some ⟨gb, 3, none⟩) := hT 6 (by decide)
    have e7 : u 7 = .int .i64 (gu : Int) := hT 7 (by decide)
    have e8 : u 8 = .slice fa FL fc := hT 8 (by decide)
    have HBW := Lib.hid hb
    clear hb hT
    simp only [List.take_succ_cons, List.take_zero, List.drop_succ_cons, List.drop_zero, putAll, Act.put, List.setIfInBounds_toArray, List.set_cons_succ, List.set_cons_zero, Nat.zero_add, Nat.reduceAdd]
    rw [e0, e1, e2, e3, e4, e5, e6, e7, e8]
    clear e0 e1 e2 e3 e4 e5 e6 e7 e8
    go_wp2_with (go_at_call 75; (with_reducible refine (HPT.out _ HBW.out).mono ?_); rintro e w6 ⟨c', D', T, i0, m, rfl, l6, p6, O', d6, o6, g6⟩; have L6 := Lib.hid l6; have P6 := Lib.hid p6; have D6 := Lib.hid d6; have O6 := Lib.hid o6; have G6 := Lib.hid g6; have lg6 := (HLG.out W HBW.out).kept (fun i hi => o6.keep i ((HLG.out W HBW.out).own i hi).2 (fun ho => HDJ.out i ho hi)) o6.size; have x0 := lg6.c0; have x3 := lg6.c3; have x4 := lg6.c4; have y3 := lg6.q 3; have y4 := lg6.q 4; have LG6 := Lib.hid lg6; have hc := put_c01 p6; clear l6 p6 d6 o6 g6 lg6; rcases hc with rfl | rfl)
    · go_ret
      have hon := HH.out.2.2.1
      have ha := app_put (D' := D') HH.out.1.ok (f := G.from_) (k := G.n) (i0 := i0) (m := m) (rs := rs) (b := b) (T := T) (c := 0) (by rw [HGE.out.1, HGE.out.2.1, ← hon.us, HGE.out.2.2.1]; exact L6.out) hon.on (by rw [← hon.us, ← hon.sz]; exact HH.out.2.2.2) (by rw [← hon.sz]; exact hon.ok) (by rw [← hon.sz]; exact hon.reg) P6.out
      rw [← hon.sz] at ha
      have e : (G.used : Int) + (FL : Int) = ((G.used + b.length + 10 : Nat) : Int) := by have q1 := HFl.out; have q2 := HN.out; omega
      refine app_fin HH.out.1 HH.out.2.1 HDJ.out (below_step G5.out HBW.out) D6.out O6.out G6.out ⟨3, _, rfl⟩ (fun q => ?_) rfl ha
      have q2 := q.use (G.used + b.length + 10)
      rw [← e] at q2
      have hdn : decide ((0 : Int) = 12) = G.down := by rw [hon.up]; rfl
      rw [if_pos rfl, hdn]
      exact q2
    · go_ret
      have hon := HH.out.2.2.1
      have ha := app_put (D' := D') HH.out.1.ok (f := G.from_) (k := G.n) (i0 := i0) (m := m) (rs := rs) (b := b) (T := T) (c := 12) (by rw [HGE.out.1, HGE.out.2.1, ← hon.us, HGE.out.2.2.1]; exact L6.out) hon.on (by rw [← hon.us, ← hon.sz]; exact HH.out.2.2.2) (by rw [← hon.sz]; exact hon.ok) (by rw [← hon.sz]; exact hon.reg) P6.out
      rw [← hon.sz] at ha
      exact app_fin HH.out.1 HH.out.2.1 HDJ.out (below_step G5.out HBW.out) D6.out O6.out G6.out ⟨4, _, rfl⟩ (fun q => q.fall) rfl ha

end Go.Proofs.YtejelednnacnaaaGreatDoor

/-
  All contracts of package wal's calls, as it landed: what a later stage calls.
-/
namespace Go.Proofs.YtejelednnacnaaaGreatDoor

theorem wal_contracts : True := trivial

end Go.Proofs.YtejelednnacnaaaGreatDoor
