/-
  ExactAdds is proved: of any two numbers of 128 bits, and any of 64 bits, exact's Add, Less, Compare, More and Times answer what bit by bit it is, or that it is beyond; no condition.
-/
import Derived.Test.YtnonecjjlmlbaaaRows
import Derived.Test.YtnonecjjlmlbaaaAwake
import Derived.Test.YtnonecjjlmlbaaaExactD
import Derived.Test.YtnonecjjlmlbaaaRefD
import Derived.Test.YtnonecjjlmlbaaaRefE
import Derived.Test.YtnonecjjlmlbaaaOf
import Derived.Deep.RegionHeld3
import Derived.Deep.Cut
import Derived.ProofKit
import Derived.OpenShut
import Derived.Below
import Derived.Lib.SmallJoins
namespace Go.Proofs.Ytnonecjjlmlbaaa
open Go.ChangeShapes Go.WideShapes Go.ChangeAt Go.RowKit Go.Joins

theorem below_step {w a b : World} (h : Below w.heap.size w a) (g : Below a.heap.size a b) : Below w.heap.size w b := h.trans (g.mono h.size)
theorem below_more {w a : World} (h : Below w.heap.size w a) (o : Obj) : Below w.heap.size w (a.alloc o) := h.alloc h.size o
/-- A number in a variable. -/
def Box (W : World) (p : Nat) (h l : Int) : Prop := W.cell? ⟨p, 0, none⟩ = some (.int .u64 h) ∧ W.cell? ⟨p, 1, none⟩ = some (.int .u64 l) ∧ p < W.heap.size
theorem Box.after {W W1 : World} {p : Nat} {h l : Int} (k : Box W p h l) (hb : Below W.heap.size W W1) : Box W1 p h l := by
  obtain ⟨c0, c1, s⟩ := k
  exact ⟨(hb.cell (p := ⟨p, 0, none⟩) s).trans c0, (hb.cell (p := ⟨p, 1, none⟩) s).trans c1, Nat.lt_of_lt_of_le s hb.size⟩
theorem Box.fresh (W : World) (h l : Int) (p : Nat) (hp : p = W.heap.size) : Box (W.alloc (.cells #[.int .u64 h, .int .u64 l] 24)) p h l := by
  subst hp; exact ⟨by simp, by simp, by simp⟩
theorem Box.alloc {W : World} {p : Nat} {h l : Int} (k : Box W p h l) (o : Obj) : Box (W.alloc o) p h l := k.after ((Below.refl _ _).alloc (Nat.le_refl _) o)
/-- Two numbers in variables. -/
def Two (W : World) (p q : Nat) (ah al bh bl : Int) : Prop := Box W p ah al ∧ Box W q bh bl
theorem Two.after {W W1 : World} {p q : Nat} {ah al bh bl : Int} (k : Two W p q ah al bh bl) (hb : Below W.heap.size W W1) : Two W1 p q ah al bh bl := ⟨k.1.after hb, k.2.after hb⟩
theorem Two.alloc {W : World} {p q : Nat} {ah al bh bl : Int} (k : Two W p q ah al bh bl) (o : Obj) : Two (W.alloc o) p q ah al bh bl := ⟨k.1.alloc o, k.2.alloc o⟩
theorem Two.drew {W : World} {p q : Nat} {ah al bh bl : Int} (k : Two W p q ah al bh bl) : Two W.drew p q ah al bh bl := k.after (Below.refl _ _).drew
/-- Three lists of bits. -/
structure Three (W : World) (vx vy vz : Value) (lx ly lz : List Bool) : Prop where
  x : Bools W vx lx
  y : Bools W vy ly
  z : Bools W vz lz
theorem Three.after {W W1 : World} {vx vy vz : Value} {lx ly lz : List Bool} (k : Three W vx vy vz lx ly lz) (hb : Below W.heap.size W W1) : Three W1 vx vy vz lx ly lz := ⟨k.x.below hb, k.y.below hb, k.z.below hb⟩
theorem Three.alloc {W : World} {vx vy vz : Value} {lx ly lz : List Bool} (k : Three W vx vy vz lx ly lz) (o : Obj) : Three (W.alloc o) vx vy vz lx ly lz := k.after ((Below.refl _ _).alloc (Nat.le_refl _) o)
theorem Three.drew {W : World} {vx vy vz : Value} {lx ly lz : List Bool} (k : Three W vx vy vz lx ly lz) : Three W.drew vx vy vz lx ly lz := k.after (Below.refl _ _).drew

/-- All that is read at the end: the numbers in variables, and the lists of bits. -/
structure Held (W : World) (p0 p1 ps pd pm pt : Nat) (ah al bh bl sh sl dh dl mh ml th tl : Int) (vx vy vz : Value) (lx ly lz : List Bool) : Prop where
  ab : Two W p0 p1 ah al bh bl
  s : Box W ps sh sl
  d : Box W pd dh dl
  m : Box W pm mh ml
  t : Box W pt th tl
  x : Three W vx vy vz lx ly lz
theorem Held.after {W W1 : World} {p0 p1 ps pd pm pt : Nat} {ah al bh bl sh sl dh dl mh ml th tl : Int} {vx vy vz : Value} {lx ly lz : List Bool}
    (k : Held W p0 p1 ps pd pm pt ah al bh bl sh sl dh dl mh ml th tl vx vy vz lx ly lz) (hb : Below W.heap.size W W1) : Held W1 p0 p1 ps pd pm pt ah al bh bl sh sl dh dl mh ml th tl vx vy vz lx ly lz :=
  ⟨k.ab.after hb, k.s.after hb, k.d.after hb, k.m.after hb, k.t.after hb, k.x.after hb⟩
theorem Box.drew {W : World} {p : Nat} {h l : Int} (k : Box W p h l) : Box W.drew p h l := k.after (Below.refl _ _).drew
theorem ecompare_is (c ah al bh bl : Int) (A B : Nat) (w : World) (ha : IsW ah al A) (hb : IsW bh bl B) (hc : Hid (cmpI A B = c)) :
    Calls Try.prog 15 #[.agg #[.int .u64 ah, .int .u64 al], .agg #[.int .u64 bh, .int .u64 bl]] w fun e w' => e = .returned (.int .i64 c) ∧ Below w.heap.size w w' := by
  rw [← hc.out]; exact ecompare_any ah al bh bl A B w ha hb
theorem elem_bools (W : World) : (sizeOf (Try.prog.elem 26)).run Try.prog W = .ok 1 W := by kernel_rfl
theorem under_bools : Try.prog.underlying 26 = some (.slice (Try.prog.elem 26)) := by kernel_rfl
/-- The lowest 64 bits of a list. -/
theorem slice_low (b off n cap : Nat) (hK : 64 ≤ cap) (W : World) :
    (Instr.slice 26 (.slice (some ⟨b, off, none⟩) n cap) none (some (.int .i64 64)) none).run Try.prog W = .ok (.slice (some ⟨b, off, none⟩) 64 cap) W := by
  rw [run_slice_h W 26 _ n cap under_bools .i64 64 (by omega) (by omega), elem_bools]
  simp [Result.andThen, sliced, Addr.add]
theorem Bools.low {W : World} {b off n cap : Nat} {l : List Bool} (h : Bools W (.slice (some ⟨b, off, none⟩) n cap) l) (hn : 64 ≤ l.length) : Bools W (.slice (some ⟨b, off, none⟩) 64 cap) (l.take 64) := by
  obtain ⟨b', off', cap', he, hc, hs, hcell⟩ := h
  simp only [Value.slice.injEq, Option.some.injEq, Addr.mk.injEq, and_true] at he
  obtain ⟨⟨rfl, rfl⟩, _, rfl⟩ := he
  have hl : (l.take 64).length = 64 := by rw [List.length_take]; omega
  refine ⟨b, off, cap, by rw [hl], by omega, hs, fun i hi => ?_⟩
  rw [hl] at hi
  rw [hcell i (by omega), List.getD_eq_getElem?_getD, List.getD_eq_getElem?_getD, List.getElem?_take_of_lt hi]
theorem val_low {h l : Int} {N : Nat} {x : List Bool} (w : IsW h l N) (hx : val x = N) : val (x.take 64) = l.toNat := by
  obtain ⟨a, b, c, d, e⟩ := w
  have h1 := val_split x 64
  have h2 := lo_lt x 64
  unfold lo at h1 h2
  omega
theorem mul_fits {x y : Int} (hx : x ≤ 18446744073709551615) (hy : y ≤ 18446744073709551615) : W128 (x.toNat * y.toNat) := by
  have : x.toNat * y.toNat ≤ 18446744073709551615 * 18446744073709551615 := Nat.mul_le_mul (by omega) (by omega)
  unfold W128; omega

set_option maxRecDepth 100000 in
set_option maxHeartbeats 2000000 in
theorem adds_walk (ah al bh bl n : Int) (A B : Nat) (w : World) (hA : IsW ah al A) (hB : IsW bh bl B) (hn : 0 ≤ n) (hn' : n ≤ 18446744073709551615) :
    Calls Try.prog 3 #[.agg #[.int .u64 ah, .int .u64 al], .agg #[.int .u64 bh, .int .u64 bl], .int .u64 n] w fun e w' => e = .returned (.bool true) ∧ Below w.heap.size w w' := by
  have HA := Lib.hid hA
  have HB := Lib.hid hB
  obtain ⟨a0, a1, a2, a3, _⟩ := hA
  obtain ⟨b0, b1, b2, b3, _⟩ := hB
  have K0 := Lib.hid (show Two _ w.heap.size (w.heap.size + 1) ah al bh bl from ⟨(Box.fresh w ah al _ rfl).alloc (.cells #[.int .u64 bh, .int .u64 bl] 24), Box.fresh (w.alloc (.cells #[.int .u64 ah, .int .u64 al] 24)) bh bl (w.heap.size + 1) (by simp)⟩)
  go_enter Try.func3, Try.ntmps3
  go_wp2_with (go_at_call 8; refine (awake_any _).mono ?_; rintro e w1 ⟨rfl, g1⟩)
  have K1 := Lib.hid (K0.out.after g1)
  have D1 : Below w.heap.size w w1 := (((Below.refl _ _).alloc (Nat.le_refl _) _).alloc (by simp) _).trans (g1.mono (by simp; omega))
  have K2 := Lib.hid K1.out.drew
  obtain ⟨⟨c1, c2, c3⟩, ⟨c4, c5, c6⟩⟩ := K1.out
  go_region_held3 (fun W => W.cell? ⟨w.heap.size, 0, none⟩ = some (.int .u64 ah) ∧ W.cell? ⟨w.heap.size, 1, none⟩ = some (.int .u64 al) ∧ W.cell? ⟨w.heap.size + 1, 0, none⟩ = some (.int .u64 bh) ∧ W.cell? ⟨w.heap.size + 1, 1, none⟩ = some (.int .u64 bl))
    (first | (refine ⟨?_, ?_, ?_, ?_⟩ <;> assumption) | go_keep)
    (first
      | (go_at_call 9; (with_reducible refine (bits_any ah al _ a0 a1 a2 a3).mono ?_); rintro e w2 ⟨vx, lx, rfl, kx, ⟨nx, ex⟩, g2⟩; have K3 := Lib.hid (K2.out.after g2); obtain ⟨⟨_, _, _⟩, ⟨_, _, _⟩⟩ := K3.out)
      | (go_at_call 9; (with_reducible refine (bits_any bh bl _ b0 b1 b2 b3).mono ?_); rintro e w3 ⟨vy, ly, rfl, ky, ⟨ny, ey⟩, g3⟩; have K4 := Lib.hid (K3.out.after g3); obtain ⟨⟨_, _, _⟩, ⟨_, _, _⟩⟩ := K4.out)
      | (go_at_call 9; (with_reducible refine (bits_small n _ hn hn').mono ?_); rintro e w4 ⟨vz, lz, rfl, kz, ⟨nz, ez⟩, g4⟩; have K5 := Lib.hid (K4.out.after g4); obtain ⟨⟨_, _, _⟩, ⟨_, _, _⟩⟩ := K5.out))
  replace ex := Lib.hid (ex.trans HA.out.num)
  replace ey := Lib.hid (ey.trans HB.out.num)
  replace ez := Lib.hid ez
  replace nx := Lib.hid nx
  replace ny := Lib.hid ny
  replace nz := Lib.hid nz
  have T5 := Lib.hid (show Three w4 vx vy vz lx ly lz from ⟨(kx.below g3).below g4, ky.below g4, kz⟩)
  have D5 := (D1.drew.trans (g2.mono D1.size)).trans ((g3.mono (Nat.le_trans D1.size g2.size)).trans (g4.mono (Nat.le_trans D1.size (Nat.le_trans g2.size g3.size))))
  clear kx ky kz g2 g3 g4 g1 K0 K1 K2 K3 K4
  obtain ⟨c, hcc⟩ : ∃ c, cmpI A B = c := ⟨_, rfl⟩
  have hc0 : -1 ≤ c ∧ c ≤ 1 := by rw [← hcc]; unfold cmpI; split <;> (try split) <;> omega
  obtain ⟨hc0, hc1⟩ := hc0
  replace hcc := Lib.hid hcc
  go_wp2_with (first
    | (go_at_call 10; go_loud (refine (compare_is c vx vy lx ly _ T5.out.x.orNil T5.out.y.orNil (by have := nx.out; omega) (by have := ny.out; omega) (by unfold Hid; rw [ex.out, ey.out, hcc.out])).mono ?_); rintro e w' ⟨rfl, rfl⟩)
    | (go_at_call 11; refine (eadd_any ah al bh bl A B _ HA.out HB.out).mono ?_; rintro e w5 ⟨sh, sl, rfl, hW5, g5⟩; have K6 := Lib.hid (K5.out.after g5); obtain ⟨⟨_, _, _⟩, ⟨_, _, _⟩⟩ := K6.out; have D6 := below_step D5 g5)
    | (go_at_call 12; refine (eless_any ah al bh bl A B _ HA.out HB.out).mono ?_; rintro e w6 ⟨dh, dl, rfl, hW6, g6⟩; have K7 := Lib.hid ((K6.out.alloc _).after g6); obtain ⟨⟨_, _, _⟩, ⟨_, _, _⟩⟩ := K7.out; have D7 := below_step (below_more D6 _) g6)
    | (go_at_call 13; refine (more_any ah al n A _ HA.out hn hn').mono ?_; rintro e w7 ⟨mh, ml, rfl, hW7, g7⟩; have K8 := Lib.hid ((K7.out.alloc _).after g7); obtain ⟨⟨_, _, _⟩, ⟨_, _, _⟩⟩ := K8.out; have D8 := below_step (below_more D7 _) g7)
    | (go_at_call 14; refine (etimes_any al n _ a2 a3 hn hn').mono ?_; rintro e w8 ⟨th, tl, rfl, hW8, g8⟩; have K9 := Lib.hid ((K8.out.alloc _).after g8); obtain ⟨⟨_, _, _⟩, ⟨_, _, _⟩⟩ := K9.out; have D9 := below_step (below_more D8 _) g8))
  obtain ⟨⟨bx, ox, cx, rfl, hcx, hbx, _⟩, _, _⟩ := T5.out
  have hlow := fun W => slice_low bx ox lx.length cx (by have := nx.out; omega) W
  have L0 : Hid (Held (w8.alloc (.cells #[.int .u64 th, .int .u64 tl] 24)).drew w.heap.size (w.heap.size + 1) w5.heap.size w6.heap.size w7.heap.size w8.heap.size ah al bh bl sh sl dh dl mh ml th tl (.slice (some ⟨bx, ox, none⟩) lx.length cx) vy vz lx ly lz) :=
    ⟨(K9.out.alloc _).drew, ((((((Box.fresh w5 sh sl _ rfl).after g6).alloc _).after g7).alloc _).after g8 |>.alloc _).drew, ((((Box.fresh w6 dh dl _ rfl).after g7).alloc _).after g8 |>.alloc _).drew, (((Box.fresh w7 mh ml _ rfl).after g8).alloc _).drew, (Box.fresh w8 th tl _ rfl).drew,
      (((((((T5.out.after g5).alloc _).after g6).alloc _).after g7).alloc _).after g8 |>.alloc _).drew⟩
  obtain ⟨⟨⟨_, _, _⟩, ⟨_, _, _⟩⟩, ⟨_, _, _⟩, ⟨_, _, _⟩, ⟨_, _, _⟩, ⟨_, _, _⟩, _⟩ := L0.out
  clear K5 K6 K7 K8 K9
  go_region_held3 (fun W => W.cell? ⟨w.heap.size, 0, none⟩ = some (.int .u64 ah) ∧ W.cell? ⟨w.heap.size, 1, none⟩ = some (.int .u64 al) ∧ W.cell? ⟨w.heap.size + 1, 0, none⟩ = some (.int .u64 bh) ∧ W.cell? ⟨w.heap.size + 1, 1, none⟩ = some (.int .u64 bl)
      ∧ W.cell? ⟨w5.heap.size, 0, none⟩ = some (.int .u64 sh) ∧ W.cell? ⟨w5.heap.size, 1, none⟩ = some (.int .u64 sl) ∧ W.cell? ⟨w7.heap.size, 0, none⟩ = some (.int .u64 mh) ∧ W.cell? ⟨w7.heap.size, 1, none⟩ = some (.int .u64 ml)
      ∧ W.cell? ⟨w8.heap.size, 0, none⟩ = some (.int .u64 th) ∧ W.cell? ⟨w8.heap.size, 1, none⟩ = some (.int .u64 tl))
    (first | (refine ⟨?_, ?_, ?_, ?_, ?_, ?_, ?_, ?_, ?_, ?_⟩ <;> assumption) | go_keep)
    (first
      | (go_at_call 15; refine (ecompare_is c ah al bh bl A B _ HA.out HB.out hcc).mono ?_; rintro e w9 ⟨rfl, g9⟩; have L1 := Lib.hid (L0.out.after g9); obtain ⟨⟨⟨_, _, _⟩, ⟨_, _, _⟩⟩, ⟨_, _, _⟩, ⟨_, _, _⟩, ⟨_, _, _⟩, ⟨_, _, _⟩, _⟩ := L1.out; have DL1 := below_step (below_more D9 _).drew g9)
      | (go_at_call 17; refine (plus_any (.slice (some ⟨bx, ox, none⟩) lx.length cx) vy lx ly _ L1.out.x.x.orNil L1.out.x.y.orNil (by have := nx.out; omega) (by have := ny.out; omega)).mono ?_; rintro e w10 ⟨v1, l1, rfl, k1, ⟨n1, e1⟩, g10⟩; replace e1 := Lib.hid e1; replace n1 := Lib.hid n1; have L2 := Lib.hid (L1.out.after g10); obtain ⟨⟨⟨_, _, _⟩, ⟨_, _, _⟩⟩, ⟨_, _, _⟩, ⟨_, _, _⟩, ⟨_, _, _⟩, ⟨_, _, _⟩, _⟩ := L2.out; have DL2 := below_step DL1 g10)
      | (go_at_call 16; (with_reducible refine (is_true sh sl (capC (A + B)) _ v1 l1 _ hW5 k1 (by have := n1.out; have := nx.out; have := ny.out; omega) (by rw [e1.out, ex.out, ey.out]) (by rw [e1.out, ex.out, ey.out])).mono ?_); rintro e w11 ⟨rfl, g11⟩; have L3 := Lib.hid (L2.out.after g11); obtain ⟨⟨⟨_, _, _⟩, ⟨_, _, _⟩⟩, ⟨_, _, _⟩, ⟨_, _, _⟩, ⟨_, _, _⟩, ⟨_, _, _⟩, _⟩ := L3.out; have DL3 := below_step DL2 g11)
      | (go_at_call 18; (with_reducible refine (times_any (.slice (some ⟨bx, ox, none⟩) lx.length cx) vz lx lz _ L3.out.x.x L3.out.x.z (by have := nx.out; omega) (by have := nz.out; omega)).mono ?_); rintro e w12 ⟨v2, l2, rfl, k2, ⟨n2, e2⟩, g12⟩; replace e2 := Lib.hid e2; replace n2 := Lib.hid n2; have L4 := Lib.hid (L3.out.after g12); obtain ⟨⟨⟨_, _, _⟩, ⟨_, _, _⟩⟩, ⟨_, _, _⟩, ⟨_, _, _⟩, ⟨_, _, _⟩, ⟨_, _, _⟩, _⟩ := L4.out; have DL4 := below_step DL3 g12)
      | (go_at_call 16; (with_reducible refine (is_true mh ml (capC (A * n.toNat)) _ v2 l2 _ hW7 k2 (by have := n2.out; have := nx.out; have := nz.out; omega) (by rw [e2.out, ex.out, ez.out]) (by rw [e2.out, ex.out, ez.out])).mono ?_); rintro e w13 ⟨rfl, g13⟩; have L5 := Lib.hid (L4.out.after g13); obtain ⟨⟨⟨_, _, _⟩, ⟨_, _, _⟩⟩, ⟨_, _, _⟩, ⟨_, _, _⟩, ⟨_, _, _⟩, ⟨_, _, _⟩, _⟩ := L5.out; have DL5 := below_step DL4 g13)
      | (go_at_call 18; (with_reducible refine (times_any (.slice (some ⟨bx, ox, none⟩) 64 cx) vz (lx.take 64) lz _ (L5.out.x.x.low (by have := nx.out; omega)) L5.out.x.z (by rw [List.length_take]; omega) (by have := nz.out; omega)).mono ?_); rintro e w14 ⟨v3, l3, rfl, k3, ⟨n3, e3⟩, g14⟩; replace e3 := Lib.hid (e3.trans (by rw [val_low HA.out ex.out, ez.out])); replace n3 := Lib.hid n3; have L6 := Lib.hid (L5.out.after g14); obtain ⟨⟨⟨_, _, _⟩, ⟨_, _, _⟩⟩, ⟨_, _, _⟩, ⟨_, _, _⟩, ⟨_, _, _⟩, ⟨_, _, _⟩, _⟩ := L6.out; have DL6 := below_step DL5 g14)
      | (go_at_call 16; refine (is_true th tl 0 _ v3 l3 _ hW8 k3 (by have t := n3.out; rw [List.length_take] at t; have := nz.out; omega) (by rw [e3.out, capN_in (mul_fits a3 hn')]) (by rw [e3.out, capC_in (mul_fits a3 hn')])).mono ?_; rintro e w15 ⟨rfl, g15⟩; have L7 := Lib.hid (L6.out.after g15); obtain ⟨⟨⟨_, _, _⟩, ⟨_, _, _⟩⟩, ⟨_, _, _⟩, ⟨_, _, _⟩, ⟨_, _, _⟩, ⟨_, _, _⟩, _⟩ := L7.out; have DL7 := below_step DL6 g15))
  clear L0 L1 L2 L3 L4 L5 L6 DL1 DL2 DL3 DL4 DL5 DL6 D5 D6 D7 D8 D9 g5 g6 g7 g8 g9 g10 g11 g12 g13 g14 g15 k1 k2 k3
  by_cases hlt : A < B
  · obtain rfl : c = -1 := by rw [← hcc.out]; exact cmpI_lt hlt
    have hle : ¬ B ≤ A := by omega
    rw [lessN, if_neg hle] at hW6
    obtain ⟨rfl, rfl⟩ := hW6.unique IsW.zero
    have hlc : lessC A B = 3 := by rw [lessC, if_neg hle]
    clear hlt hle hW6
    go_wp2
    go_ret
    exact ⟨rfl, DL7⟩
  · have hle : B ≤ A := by omega
    have hcn : 0 ≤ c := by rw [← hcc.out]; unfold cmpI; rw [if_neg hlt]; split <;> omega
    go_wp2
    have L8 := Lib.hid (show Held w15.drew _ _ _ _ _ _ _ _ _ _ _ _ _ _ _ _ _ _ _ _ _ _ _ _ from L7.out.after (Below.refl _ _).drew)
    obtain ⟨q1, q2, q3⟩ := L7.out.d
    have hB2 := Lib.hid (show val ly ≤ val lx by rw [ex.out, ey.out]; exact hle)
    have hle := Lib.hid hle
    have hfit : Hid (W128 (A - B)) := by have := HA.out.lt; unfold Hid; unfold W128 at *; omega
    go_region_held3 (fun W => W.cell? ⟨w6.heap.size, 0, none⟩ = some (.int .u64 dh) ∧ W.cell? ⟨w6.heap.size, 1, none⟩ = some (.int .u64 dl)) (first | (refine ⟨?_, ?_⟩ <;> assumption) | go_keep)
      (first
        | (go_at_call 19; refine (minus_any (.slice (some ⟨bx, ox, none⟩) lx.length cx) vy lx ly _ L8.out.x.x.orNil L8.out.x.y.orNil (by have := nx.out; omega) (by have := ny.out; omega) hB2.out).mono ?_; rintro e w16 ⟨v4, l4, rfl, k4, ⟨n4, e4⟩, g16⟩; replace e4 := Lib.hid e4; replace n4 := Lib.hid n4; have L9 := Lib.hid (L8.out.after g16); obtain ⟨_, _, _⟩ := L9.out.d; have DL8 := below_step DL7.drew g16)
        | (go_at_call 16; refine (is_true dh dl (lessC A B) _ v4 l4 _ hW6 k4 (by have := n4.out; have := nx.out; omega) (by rw [e4.out, ex.out, ey.out, capN_in hfit.out, lessN, if_pos hle.out]) (by rw [e4.out, ex.out, ey.out, capC_in hfit.out, lessC, if_pos hle.out])).mono ?_; rintro e w17 ⟨rfl, g17⟩; have L10 := Lib.hid (L9.out.after g17); obtain ⟨_, _, _⟩ := L10.out.d; have DL9 := below_step DL8 g17))
    go_wp2
    go_ret
    exact ⟨rfl, DL9⟩

theorem adds_own : ownKnob Try.prog.godebug = none := by kernel_rfl
theorem adds_cells : Try.prog.cellsOf 24 = 2 := by kernel_rfl
theorem adds_word (x : Int) (h : (Lit.int .u64 x).wf = true) : 0 ≤ x ∧ x ≤ 18446744073709551615 := by
  have := bounds_u64 h; omega

set_option maxRecDepth 100000 in
theorem adds_lifted (os : Os) (started : os.Started) (H : Type) (enc : TypeId × Value → H) :
    ReturnsInHanded {} Try.checked os 3 .any (Rows.exactAddsSpec.pre6 enc Try.prog Try.f3 Rows.exactAddsRow.domain false) (Rows.exactAddsSpec.post enc Try.prog Try.f3 false true false false) := by
  refine returnsInHanded_of_change (C := Try.checked) adds_own started (by kernel_rfl) Try.func3
    (ChangeSpec.witness6 (enc := enc) (C := Try.checked) false ⟨#[], #[.agg #[.int .u64 0, .int .u64 0], .agg #[.int .u64 0, .int .u64 0], .int .u64 0], []⟩ 8 (by kernel_rfl) (by kernel_rfl) (by kernel_rfl) (by kernel_rfl)) ?_
  intro W base args ds gs before hval0 hW hcnd _
  have hval : ∀ (j : Nat) t v, Try.f3.params[j]? = some t → args[j]? = some v → Value.okWide Try.prog W .any base t v := hval0
  have hW' := hW
  obtain ⟨p, q, hA0, hV, rfl, hfz, hnd⟩ := hW
  have hA : DataW.TrodAll enc Try.prog W 0 (fun _ => true) true Try.f3.params.toList args.toList ds p := hA0
  rw [Try.params3] at hA hval
  obtain ⟨v0, v1, v2, d0, d1, d2, p0, p1, p2, rfl, rfl, rfl, h0, h1, h2⟩ := trodAll_three hA
  obtain ⟨rfl, rfl⟩ := trodVars_none hV
  obtain ⟨c0, c1, y0, y1, m0, rfl, rfl, rfl, hy0, hy1⟩ := open_agg2 Try.underlying24 (by kernel_rfl) adds_cells (hval 0 24 v0 rfl rfl) h0
  obtain ⟨ah, e0, rfl, wah⟩ := DataW.trod_int Try.underlying22 hy0
  obtain ⟨al, e1, rfl, wal⟩ := DataW.trod_int Try.underlying22 hy1
  obtain ⟨c2, c3, y2, y3, m1, rfl, rfl, rfl, hy2, hy3⟩ := open_agg2 Try.underlying24 (by kernel_rfl) adds_cells (hval 1 24 v1 rfl rfl) h1
  obtain ⟨bh, e2, rfl, wbh⟩ := DataW.trod_int Try.underlying22 hy2
  obtain ⟨bl, e3, rfl, wbl⟩ := DataW.trod_int Try.underlying22 hy3
  obtain ⟨n, rfl, rfl, rfl, wn⟩ := open_int Try.underlying22 (hval 2 22 v2 rfl rfl) h2
  simp at e0 e1 e2 e3
  subst e0 e1 e2 e3
  clear hA0 hval0
  simp only [List.append_nil] at hW'
  have structReads : ∀ (W' : World) (sp : Nat → Bool) (x y : Int), (Lit.int .u64 x).wf = true → (Lit.int .u64 y).wf = true → DataW.Trod enc Try.prog W' 0 sp true 24 (.agg #[.int .u64 x, .int .u64 y]) (.agg [.lit (.int .u64 x), .lit (.int .u64 y)]) [] := fun W' sp x y wx wy =>
    shut_agg2 (y0 := (.lit (.int .u64 x), [])) (y1 := (.lit (.int .u64 y), [])) Try.underlying24 (by kernel_rfl) adds_cells ⟨1, by simp [DataW.trod, Try.underlying22, wx]⟩ ⟨1, by simp [DataW.trod, Try.underlying22, wy]⟩
  refine (adds_walk ah al bh bl n _ _ W (IsW.of (adds_word ah wah).1 (adds_word ah wah).2 (adds_word al wal).1 (adds_word al wal).2) (IsW.of (adds_word bh wbh).1 (adds_word bh wbh).2 (adds_word bl wbl).1 (adds_word bl wbl).2) (adds_word n wn).1 (adds_word n wn).2).mono fun e W' ⟨he, bel⟩ => ?_
  subst he
  exact ⟨_, rfl, _, _, _, [], [], [], hW', trodAll_mk1 (shut_bool Try.underlying4 _), trodAll_mk3 (structReads _ _ ah al wah wal) (structReads _ _ bh bl wbh wbl) (shut_int Try.underlying22 wn), rfl, bel.frame _, fun h => by cases h⟩

theorem adds_over : Rows.exactAddsRow.holds Try.pinned (OpenSpec.ofChange Rows.exactAddsSpec) :=
  OpenClaim.holds_of_wide 3 Try.f3 rfl rfl rfl rfl rfl rfl rfl ⟨rfl, rfl, rfl, rfl, rfl⟩ rfl rfl rfl rfl rfl (by kernel_rfl) Try.func3 (by kernel_rfl)
    (of_decide_eq_true (by kernel_rfl)) (by unfold Func.isWrapper; first | (rw [if_pos (by decide +kernel)]; kernel_rfl) | (rw [if_neg (by decide +kernel)]; exact ⟨rfl, rfl⟩))
    (fun os started H enc _ => adds_lifted os started H enc)

/-- The statement. -/
theorem exact_adds_proved : Rows.ExactAddsSaid := adds_over
end Go.Proofs.Ytnonecjjlmlbaaa
