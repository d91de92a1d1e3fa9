/-
  Package civil's calls, walked: Read.
-/
import Derived.Test.YthhaineoflpkkaaDoorCivF
import Derived.Test.YthhaineoflpkkaaDoorCivH
import Derived.Lib.OthersKept
import Derived.ChangeKeysEq
namespace Go.Proofs.YthhaineoflpkkaaDoor
open Go.RowKit

/-- What the next letter of a text is told to be, held against its byte. -/
theorem civ_rune (w : World) (k : Nat) (s : ByteArray) (pos : Nat) (hk : w.heap[k]? = some (.stringIter s pos)) (h : pos < s.size) :
    ∃ (z : Int) (p : Nat), (∀ ty, (Instr.next (.pointer (some ⟨k, 0, none⟩)) true ty).run Tryd.prog w = .ok (.tuple #[.bool true, .int .i64 pos, .int .i32 z]) (w.iterAt k s p)) ∧ 0 ≤ z ∧ z ≤ 2147483647 ∧
      (z < 128 → p = pos + 1 ∧ (nums s).getD pos 0 = z) ∧ (128 ≤ z → 128 ≤ (nums s).getD pos 0) := by
  rw [nums_at s pos h]
  by_cases ha : s[pos].toNat < 128
  · exact ⟨(s[pos].toNat : Int), pos + 1, fun ty => Lib.run_next_ascii_at w k s pos ty hk h ha, by omega, by omega, fun _ => ⟨rfl, rfl⟩, fun hn => hn⟩
  · have hd := decode_high s pos h (by omega)
    have hl := decode_le s pos
    exact ⟨_, _, fun ty => Lib.run_next_any_at w k s pos ty hk h, by omega, by omega, fun hc => by omega, fun _ => by omega⟩

/-- Three numbers of an array, held against the widths. -/
theorem run_widths (x y z : Int) (w : World) : ∃ r : Bool, (Op.equalIn 10000 34 (.agg #[.int .i64 x, .int .i64 y, .int .i64 z]) (.agg #[.int .i64 4, .int .i64 2, .int .i64 2])).run Tryd.prog w = .ok r w ∧ (r = true ↔ x = 4 ∧ y = 2 ∧ z = 2) := by
  obtain ⟨i, hi⟩ : ∃ i, Tryd.prog.info? 3 = some i := Option.isSome_iff_exists.mp (by kernel_rfl)
  have hp : ∀ (xs : Array Value) (off : Nat) (v : Value), xs[off]? = some v → (part 3 xs off).run Tryd.prog w = .ok v w := fun _ _ _ h => run_part_plain w (by kernel_rfl) h
  have hq : ∀ a b : Int, (Op.equalIn 9999 3 (.int .i64 a) (.int .i64 b)).run Tryd.prog w = .ok (a == b) w := fun a b => run_equalIn_int w 9998 3 .i64 .i64 a b Tryd.underlying3
  have hc : Tryd.prog.cellsOf 3 = 1 := by kernel_rfl
  rw [run_equalIn_array (d := 9999) w _ _ Tryd.underlying34 hi, hc, show List.range 3 = [0, 1, 2] from rfl]
  refine ⟨(x == 4) && ((y == 2) && (z == 2)), ?_, by simp⟩
  have x0 := hp #[.int .i64 x, .int .i64 y, .int .i64 z] 0 (.int .i64 x) rfl
  have x1 := hp #[.int .i64 x, .int .i64 y, .int .i64 z] 1 (.int .i64 y) rfl
  have x2 := hp #[.int .i64 x, .int .i64 y, .int .i64 z] 2 (.int .i64 z) rfl
  have y0 := hp #[.int .i64 4, .int .i64 2, .int .i64 2] 0 (.int .i64 4) rfl
  have y1 := hp #[.int .i64 4, .int .i64 2, .int .i64 2] 1 (.int .i64 2) rfl
  have y2 := hp #[.int .i64 4, .int .i64 2, .int .i64 2] 2 (.int .i64 2) rfl
  simp only [Op.eqItems, Sem.run_bind, Nat.mul_one, x0, y0, Result.andThen_ok, hq]
  by_cases hx : x = 4
  · by_cases hy : y = 2
    · by_cases hz : z = 2
      · subst hx hy hz
        simp [x1, x2, hq]
      · subst hx hy
        simp [x1, x2, y1, y2, hq, hz]
    · subst hx
      simp [x1, y1, hq, hy]
  · simp [hx]
theorem run_widths_yes (w : World) : (Op.equalIn 10000 34 (.agg #[.int .i64 4, .int .i64 2, .int .i64 2]) (.agg #[.int .i64 4, .int .i64 2, .int .i64 2])).run Tryd.prog w = .ok true w := by
  obtain ⟨r, h1, h2⟩ := run_widths 4 2 2 w
  rw [h1, h2.mpr ⟨rfl, rfl, rfl⟩]
theorem run_widths_no (x y z : Int) (h : ¬ (x = 4 ∧ y = 2 ∧ z = 2)) (w : World) : (Op.equalIn 10000 34 (.agg #[.int .i64 x, .int .i64 y, .int .i64 z]) (.agg #[.int .i64 4, .int .i64 2, .int .i64 2])).run Tryd.prog w = .ok false w := by
  obtain ⟨r, h1, h2⟩ := run_widths x y z w
  cases r with
  | true => exact (h (h2.mp rfl)).elim
  | false => exact h1

/-- What stands in the call's own memory: the result, the parts' numbers, how many digits each has, and the reader of the letters. -/
structure RdM (w wr : World) (s : ByteArray) (pos P Q I : Nat) (p0 p1 p2 l0 l1 l2 : Int) : Prop where
  r : Var3 wr w.heap.size (.int .i64 0) (.int .i64 0) (.int .i64 0)
  p : Var3 wr P (.int .i64 p0) (.int .i64 p1) (.int .i64 p2)
  l : Var3 wr Q (.int .i64 l0) (.int .i64 l1) (.int .i64 l2)
  it : wr.heap[I]? = some (.stringIter s pos)
  bel : Below w.heap.size w wr
  lt0 : w.heap.size < P
  lt1 : P < Q
  lt2 : Q < I
  lt3 : I < wr.heap.size
theorem RdM.after {w wr w2 : World} {s : ByteArray} {pos P Q I : Nat} {p0 p1 p2 l0 l1 l2 : Int} (h : RdM w wr s pos P Q I p0 p1 p2 l0 l1 l2) (hb : Below wr.heap.size wr w2) : RdM w w2 s pos P Q I p0 p1 p2 l0 l1 l2 := by
  obtain ⟨r, p, l, it, bel, lt0, lt1, lt2, lt3⟩ := h
  have := hb.size
  exact ⟨r.after hb, p.after hb, l.after hb, (hb.block _ lt3).trans it, bel.trans (hb.mono bel.size), lt0, lt1, lt2, by omega⟩
theorem var3_iter {wr : World} {b : Nat} {x y z : Value} (k : Var3 wr b x y z) {I : Nat} (h : b ≠ I) (s : ByteArray) (p : Nat) : Var3 (wr.iterAt I s p) b x y z := by
  have hk : (wr.iterAt I s p).heap[b]? = wr.heap[b]? := Lib.iterAt_other wr _ b s p h
  obtain ⟨c0, c1, c2, q0, q1, q2, s0⟩ := k
  have e : ∀ o, (wr.iterAt I s p).cell? ⟨b, o, none⟩ = wr.cell? ⟨b, o, none⟩ := fun o => World.cell?_of_block hk
  have f : ∀ o, (wr.iterAt I s p).frozen? ⟨b, o, none⟩ = wr.frozen? ⟨b, o, none⟩ := fun o => World.frozen?_of_block hk
  exact ⟨by rw [e, c0], by rw [e, c1], by rw [e, c2], by rw [f, q0], by rw [f, q1], by rw [f, q2], by rw [Lib.iterAt_size]; exact s0⟩
theorem RdM.next {w wr : World} {s : ByteArray} {pos P Q I : Nat} {p0 p1 p2 l0 l1 l2 : Int} (h : RdM w wr s pos P Q I p0 p1 p2 l0 l1 l2) (q : Nat) : RdM w (wr.iterAt I s q) s q P Q I p0 p1 p2 l0 l1 l2 := by
  obtain ⟨r, p, l, it, bel, lt0, lt1, lt2, lt3⟩ := h
  exact ⟨var3_iter r (by omega) s q, var3_iter p (by omega) s q, var3_iter l (by omega) s q, Lib.iterAt_heap wr _ s pos q it, Lib.below_iterAt bel (by omega) s q, lt0, lt1, lt2, by rw [Lib.iterAt_size]; exact lt3⟩
theorem RdM.putP {w wr : World} {s : ByteArray} {pos P Q I : Nat} {p0 p1 p2 l0 l1 l2 : Int} (h : RdM w wr s pos P Q I p0 p1 p2 l0 l1 l2) {o : Nat} {x y z : Int} (v : Value) (k : Var3 (wr.setCell ⟨P, o, none⟩ v) P (.int .i64 x) (.int .i64 y) (.int .i64 z)) : RdM w (wr.setCell ⟨P, o, none⟩ v) s pos P Q I x y z l0 l1 l2 := by
  obtain ⟨r, p, l, it, bel, lt0, lt1, lt2, lt3⟩ := h
  exact ⟨r.other v (by show P ≠ w.heap.size; omega), k, l.other v (by show P ≠ Q; omega), by rw [Below.heap_setCell _ _ _ _ (by show I ≠ P; omega)]; exact it, bel.setCell (by show w.heap.size ≤ P; omega) _, lt0, lt1, lt2, by simpa using lt3⟩
theorem RdM.putL {w wr : World} {s : ByteArray} {pos P Q I : Nat} {p0 p1 p2 l0 l1 l2 : Int} (h : RdM w wr s pos P Q I p0 p1 p2 l0 l1 l2) {o : Nat} {x y z : Int} (v : Value) (k : Var3 (wr.setCell ⟨Q, o, none⟩ v) Q (.int .i64 x) (.int .i64 y) (.int .i64 z)) : RdM w (wr.setCell ⟨Q, o, none⟩ v) s pos P Q I p0 p1 p2 x y z := by
  obtain ⟨r, p, l, it, bel, lt0, lt1, lt2, lt3⟩ := h
  exact ⟨r.other v (by show Q ≠ w.heap.size; omega), p.other v (by show Q ≠ P; omega), k, by rw [Below.heap_setCell _ _ _ _ (by show I ≠ Q; omega)]; exact it, bel.setCell (by show w.heap.size ≤ Q; omega) _, lt0, lt1, lt2, by simpa using lt3⟩
theorem RdM.dig0 {w wr : World} {s : ByteArray} {pos P Q I : Nat} {p0 p1 p2 l0 l1 l2 : Int} (h : RdM w wr s pos P Q I p0 p1 p2 l0 l1 l2) (_hne : P ≠ Q) (x y : Int) : RdM w ((wr.setCell ⟨P, 0, none⟩ (.int .i64 x)).setCell ⟨Q, 0, none⟩ (.int .i64 y)) s pos P Q I x p1 p2 y l1 l2 :=
  have k := h.putP (.int .i64 x) (h.p.put0 _)
  k.putL (.int .i64 y) (k.l.put0 _)
theorem RdM.dig1 {w wr : World} {s : ByteArray} {pos P Q I : Nat} {p0 p1 p2 l0 l1 l2 : Int} (h : RdM w wr s pos P Q I p0 p1 p2 l0 l1 l2) (_hne : P ≠ Q) (x y : Int) : RdM w ((wr.setCell ⟨P, 1, none⟩ (.int .i64 x)).setCell ⟨Q, 1, none⟩ (.int .i64 y)) s pos P Q I p0 x p2 l0 y l2 :=
  have k := h.putP (.int .i64 x) (h.p.put1 _)
  k.putL (.int .i64 y) (k.l.put1 _)
theorem RdM.dig2 {w wr : World} {s : ByteArray} {pos P Q I : Nat} {p0 p1 p2 l0 l1 l2 : Int} (h : RdM w wr s pos P Q I p0 p1 p2 l0 l1 l2) (_hne : P ≠ Q) (x y : Int) : RdM w ((wr.setCell ⟨P, 2, none⟩ (.int .i64 x)).setCell ⟨Q, 2, none⟩ (.int .i64 y)) s pos P Q I p0 p1 x l0 l1 y :=
  have k := h.putP (.int .i64 x) (h.p.put2 _)
  k.putL (.int .i64 y) (k.l.put2 _)
theorem RdM.start (w : World) (s : ByteArray) : RdM w ((((w.alloc (.cells #[.int .i64 0, .int .i64 0, .int .i64 0] 23)).alloc (.cells #[.int .i64 0, .int .i64 0, .int .i64 0] 34)).alloc (.cells #[.int .i64 0, .int .i64 0, .int .i64 0] 34)).iter s 0) s 0 (w.heap.size + 1) (w.heap.size + 1 + 1) (w.heap.size + 1 + 1 + 1) 0 0 0 0 0 0 := by
  have e1 : (w.alloc (.cells #[.int .i64 0, .int .i64 0, .int .i64 0] 23)).heap.size = w.heap.size + 1 := by simp
  have k0 := Var3.fresh w (.int .i64 0) (.int .i64 0) (.int .i64 0) 23 _ rfl
  have b0 : Below w.heap.size w (w.alloc (.cells #[.int .i64 0, .int .i64 0, .int .i64 0] 23)) := (Below.refl _ _).alloc (Nat.le_refl _) _
  generalize w.alloc (.cells #[.int .i64 0, .int .i64 0, .int .i64 0] 23) = A at e1 k0 b0 ⊢
  have k1 := Var3.fresh A (.int .i64 0) (.int .i64 0) (.int .i64 0) 34 _ rfl
  have e2 : (A.alloc (.cells #[.int .i64 0, .int .i64 0, .int .i64 0] 34)).heap.size = A.heap.size + 1 := by simp
  have k0 := k0.alloc (.cells #[.int .i64 0, .int .i64 0, .int .i64 0] 34)
  have b0 := below_more b0 (.cells #[.int .i64 0, .int .i64 0, .int .i64 0] 34)
  generalize A.alloc (.cells #[.int .i64 0, .int .i64 0, .int .i64 0] 34) = B at e2 k0 k1 b0 ⊢
  have k2 := Var3.fresh B (.int .i64 0) (.int .i64 0) (.int .i64 0) 34 _ rfl
  have e3 : (B.alloc (.cells #[.int .i64 0, .int .i64 0, .int .i64 0] 34)).heap.size = B.heap.size + 1 := by simp
  have k0 := k0.alloc (.cells #[.int .i64 0, .int .i64 0, .int .i64 0] 34)
  have k1 := k1.alloc (.cells #[.int .i64 0, .int .i64 0, .int .i64 0] 34)
  have b0 := below_more b0 (.cells #[.int .i64 0, .int .i64 0, .int .i64 0] 34)
  generalize B.alloc (.cells #[.int .i64 0, .int .i64 0, .int .i64 0] 34) = C at e3 k0 k1 k2 b0 ⊢
  have hb : Below C.heap.size C (C.iter s 0) := (Below.refl _ _).alloc (Nat.le_refl _) _
  have hi := World.iter_heap C s 0
  have e4 : (C.iter s 0).heap.size = C.heap.size + 1 := by simp [World.iter]
  have ep : A.heap.size = w.heap.size + 1 := e1
  have eq : B.heap.size = w.heap.size + 1 + 1 := by omega
  have ei : C.heap.size = w.heap.size + 1 + 1 + 1 := by omega
  rw [← ei, ← eq, ← ep]
  exact ⟨k0.after hb, k1.after hb, k2.after hb, hi, b0.trans (hb.mono b0.size), by omega, by omega, by omega, by omega⟩

set_option maxRecDepth 100000 in
set_option maxHeartbeats 8000000 in
theorem cread_any (s : ByteArray) (w : World) (env : Env w) (_hm : s.size ≤ 9223372036854775807) : Calls Tryd.prog 6 #[.string s] w (GivesDate (nums s) w) := by
  have hlen : Hid ((nums s).length = s.size) := nums_length s
  go_enter Tryd.func6, Tryd.ntmps6
  go_wp2
  -- READ
  obtain ⟨P, hP⟩ : ∃ P, w.heap.size + 1 = P := ⟨_, rfl⟩
  have M := RdM.start w s
  rw [hP] at M ⊢
  obtain ⟨Q, hQ⟩ : ∃ Q, P + 1 = Q := ⟨_, rfl⟩
  rw [hQ] at M ⊢
  obtain ⟨I, hI⟩ : ∃ I, Q + 1 = I := ⟨_, rfl⟩
  rw [hI] at M ⊢
  have hne : P ≠ Q := by omega
  have hRP : w.heap.size ≤ P := by omega
  have hRQ : w.heap.size ≤ Q := by omega
  have hRR : w.heap.size ≤ w.heap.size := Nat.le_refl _
  clear hP hQ hI
  replace M := Lib.hid M
  have env := Lib.hid env
  go_loopw [6] (fun v6 wr => ∃ (pos i : Nat) (d0 d1 d2 : List Int), pos ≤ s.size ∧ v6 = .int .i64 (i : Int) ∧ RdC ((nums s).take pos) i d0 d1 d2 ∧ RdM w wr s pos P Q I (numOf d0) (numOf d1) (numOf d2) d0.length d1.length d2.length) (fun _ wr => s.size - wr.iterPos I)
  case atStart => exact ⟨0, 0, [], [], [], Nat.zero_le _, rfl, RdC.start, M.out⟩
  case round =>
    obtain ⟨pos, i, d0, d1, d2, hp, rfl, hC, hM⟩ := hrel
    have HC := Lib.hid hC
    have hM0 := Lib.hid hM.it
    have hi3 : i = 0 ∨ i = 1 ∨ i = 2 := by
      have := hC.sh
      match i, this with
      | 0, _ => exact Or.inl rfl
      | 1, _ => exact Or.inr (Or.inl rfl)
      | 2, _ => exact Or.inr (Or.inr rfl)
    have a0 := hC.k0.pos
    have a1 := hC.k0.top
    have b0 := hC.k1.pos
    have b1 := hC.k1.top
    have e0 := hC.k2.pos
    have e1 := hC.k2.top
    have la := hC.k0.le
    have lb := hC.k1.le
    have le := hC.k2.le
    clear hC
    obtain ⟨p0, hp0⟩ : ∃ x : Int, (numOf d0 : Int) = x := ⟨_, rfl⟩
    obtain ⟨p1, hp1⟩ : ∃ x : Int, (numOf d1 : Int) = x := ⟨_, rfl⟩
    obtain ⟨p2, hp2⟩ : ∃ x : Int, (numOf d2 : Int) = x := ⟨_, rfl⟩
    obtain ⟨l0, hl0⟩ : ∃ x : Nat, d0.length = x := ⟨_, rfl⟩
    obtain ⟨l1, hl1⟩ : ∃ x : Nat, d1.length = x := ⟨_, rfl⟩
    obtain ⟨l2, hl2⟩ : ∃ x : Nat, d2.length = x := ⟨_, rfl⟩
    rw [hp0, hp1, hp2, hl0, hl1, hl2] at hM
    rw [hp0] at a0 a1
    rw [hp1] at b0 b1
    rw [hp2] at e0 e1
    rw [hl0] at la
    rw [hl1] at lb
    rw [hl2] at le
    replace hp0 := Lib.hid hp0
    replace hp1 := Lib.hid hp1
    replace hp2 := Lib.hid hp2
    replace hl0 := Lib.hid hl0
    replace hl1 := Lib.hid hl1
    replace hl2 := Lib.hid hl2
    by_cases h1 : pos < s.size
    · obtain ⟨z, p, hnx, z0, z1, hlow, hhigh⟩ := civ_rune wr I s pos hM.it h1
      have hl : Hid (pos < (nums s).length) := by unfold Hid; rw [hlen.out]; exact h1
      have M1 := Lib.hid (hM.next p)
      clear hM
      obtain ⟨b, hb0⟩ : ∃ b, (nums s).getD pos 0 = b := ⟨_, rfl⟩
      rw [hb0] at hlow hhigh
      have hb := Lib.hid hb0
      clear hb0
      have hdig : Hid (48 ≤ b → b ≤ 57 → 48 ≤ z ∧ z ≤ 57 ∧ b = z ∧ p = pos + 1) := fun x y => by
        by_cases hz : z < 128
        · obtain ⟨rfl, rfl⟩ := hlow hz; exact ⟨x, y, rfl, rfl⟩
        · have := hhigh (by omega); omega
      have hdsh : Hid (b = 45 → z = 45) := fun x => by
        by_cases hz : z < 128
        · obtain ⟨rfl, rfl⟩ := hlow hz; exact x
        · have := hhigh (by omega); omega
      replace hlow := Lib.hid hlow
      clear hhigh
      generalize wr.iterAt I s p = W1 at M1 hnx
      obtain ⟨g0, g1, g2⟩ := (env.out.step M1.out.bel).wid.cells
      rcases hi3 with rfl | rfl | rfl
      · rw [show ((0 : Nat) : Int) = 0 from rfl]
        by_cases z45 : z = 45
        · subst z45
          obtain ⟨rfl, hbz⟩ := hlow.out (by decide)
          have hnext := Lib.hid (HC.out.dash0)
          go_wp2
          go_roundw
          case rel => exact ⟨pos + 1, 1, d0, d1, d2, by omega, rfl, by rw [take_snoc hl.out (hb.out.trans hbz)]; exact hnext.out, by rw [hp0.out, hp1.out, hp2.out, hl0.out, hl1.out, hl2.out]; exact M1.out⟩
          case measure => rw [iterPos_of M1.out.it, iterPos_of hM0.out]; omega
        · have hz45 : (z == 45) = false := by simpa using z45
          by_cases z48 : z < 48
          · have hbad := Lib.hid (HC.out.dead hl.out hb.out (fun e => (z45 (hdsh.out e)).elim) (fun x y => by have := hdig.out x y; omega))
            have hgt : decide (z ≥ 48) = false := by simp; omega
            obtain ⟨l0c, l1c, l2c, _, _, _, _⟩ := M1.out.l
            go_wp2
            go_quiet (fail)
            have M2 := Lib.hid (M1.out.after (below_drewN (Below.refl W1.heap.size W1) nq))
            generalize W1.drewN nq = W2 at M2 ⊢
            clear l0c l1c l2c g0 g1 g2
            obtain ⟨r0, r1, r2, s0, s1, s2, s3⟩ := M2.out.r
            obtain ⟨p0c, p1c, p2c, t0, t1, t2, t3⟩ := M2.out.p
            obtain ⟨l0c, l1c, l2c, u0, u1, u2, u3⟩ := M2.out.l
            go_wp2
            refine bodyPost_ret (v := .tuple #[.agg #[.int .i64 0, .int .i64 0, .int .i64 0], .int .i64 5]) (by simp [results, Tryd.results6, go_sem, r0, r1, r2]) rfl (GivesDate.word hbad.out ?_)
            exact ((M2.out.bel.setCell hRR _).setCell hRR _).setCell hRR _
          · by_cases z57 : 57 < z
            · have hbad := Lib.hid (HC.out.dead hl.out hb.out (fun e => (z45 (hdsh.out e)).elim) (fun x y => by have := hdig.out x y; omega))
              have hgt : decide (z ≤ 57) = false := by simp; omega
              obtain ⟨l0c, l1c, l2c, _, _, _, _⟩ := M1.out.l
              go_wp2
              go_quiet (fail)
              have M2 := Lib.hid (M1.out.after (below_drewN (Below.refl W1.heap.size W1) nq))
              generalize W1.drewN nq = W2 at M2 ⊢
              clear l0c l1c l2c g0 g1 g2
              obtain ⟨r0, r1, r2, s0, s1, s2, s3⟩ := M2.out.r
              obtain ⟨p0c, p1c, p2c, t0, t1, t2, t3⟩ := M2.out.p
              obtain ⟨l0c, l1c, l2c, u0, u1, u2, u3⟩ := M2.out.l
              go_wp2
              refine bodyPost_ret (v := .tuple #[.agg #[.int .i64 0, .int .i64 0, .int .i64 0], .int .i64 5]) (by simp [results, Tryd.results6, go_sem, r0, r1, r2]) rfl (GivesDate.word hbad.out ?_)
              exact ((M2.out.bel.setCell hRR _).setCell hRR _).setCell hRR _
            · by_cases hful : l0 < 4
              · obtain ⟨rfl, hbz⟩ := hlow.out (by omega)
                have hnext := Lib.hid (HC.out.dig0 (z := z) (by omega) (by omega) (by rw [hl0.out]; exact hful))
                have hfi : (l0 : Int) < 4 := by omega
                have z48i : 48 ≤ z := by omega
                have z57i : z ≤ 57 := by omega
                have hnum : Hid (p0 * 10 + (z - 48) = (numOf (d0 ++ [z]) : Int)) := by unfold Hid; rw [numOf_snoc]; have := hp0.out; omega
                have hlen2 : Hid (((l0 : Int) + 1) = ((d0 ++ [z]).length : Int)) := by unfold Hid; rw [List.length_append, List.length_singleton, hl0.out]; omega
                obtain ⟨l0c, l1c, l2c, _, _, _, _⟩ := M1.out.l
                go_wp2
                go_quiet (fail)
                have M2 := Lib.hid (M1.out.after (below_drewN (Below.refl W1.heap.size W1) nq))
                generalize W1.drewN nq = W2 at M2 ⊢
                clear l0c l1c l2c g0 g1 g2
                obtain ⟨r0, r1, r2, s0, s1, s2, s3⟩ := M2.out.r
                obtain ⟨p0c, p1c, p2c, t0, t1, t2, t3⟩ := M2.out.p
                obtain ⟨l0c, l1c, l2c, u0, u1, u2, u3⟩ := M2.out.l
                have l0d := fun v => ((M2.out.l.other (a := ⟨P, 0, none⟩) v hne).c0)
                go_wp2
                go_roundw
                case rel => exact ⟨pos + 1, 0, (d0 ++ [z]), d1, d2, by omega, rfl, by rw [take_snoc hl.out (hb.out.trans hbz)]; exact hnext.out, by rw [hp1.out, hp2.out, hl1.out, hl2.out, ← hnum.out, ← hlen2.out]; exact M2.out.dig0 hne _ _⟩
                case measure => rw [iterPos_of (M2.out.dig0 hne _ _).it, iterPos_of hM0.out]; omega
              · have hbad := Lib.hid (HC.out.dead hl.out hb.out (fun e => (z45 (hdsh.out e)).elim) (fun x y => by have := hl0.out; have := hl1.out; have := hl2.out; omega))
                have hfi : decide ((l0 : Int) < 4) = false := by simp; omega
                have z48i : 48 ≤ z := by omega
                have z57i : z ≤ 57 := by omega
                obtain ⟨l0c, l1c, l2c, _, _, _, _⟩ := M1.out.l
                go_wp2
                go_quiet (fail)
                have M2 := Lib.hid (M1.out.after (below_drewN (Below.refl W1.heap.size W1) nq))
                generalize W1.drewN nq = W2 at M2 ⊢
                clear l0c l1c l2c g0 g1 g2
                obtain ⟨r0, r1, r2, s0, s1, s2, s3⟩ := M2.out.r
                obtain ⟨p0c, p1c, p2c, t0, t1, t2, t3⟩ := M2.out.p
                obtain ⟨l0c, l1c, l2c, u0, u1, u2, u3⟩ := M2.out.l
                go_wp2
                refine bodyPost_ret (v := .tuple #[.agg #[.int .i64 0, .int .i64 0, .int .i64 0], .int .i64 5]) (by simp [results, Tryd.results6, go_sem, r0, r1, r2]) rfl (GivesDate.word hbad.out ?_)
                exact ((M2.out.bel.setCell hRR _).setCell hRR _).setCell hRR _
      · rw [show ((1 : Nat) : Int) = 1 from rfl]
        by_cases z45 : z = 45
        · subst z45
          obtain ⟨rfl, hbz⟩ := hlow.out (by decide)
          have hnext := Lib.hid (HC.out.dash1)
          go_wp2
          go_roundw
          case rel => exact ⟨pos + 1, 2, d0, d1, d2, by omega, rfl, by rw [take_snoc hl.out (hb.out.trans hbz)]; exact hnext.out, by rw [hp0.out, hp1.out, hp2.out, hl0.out, hl1.out, hl2.out]; exact M1.out⟩
          case measure => rw [iterPos_of M1.out.it, iterPos_of hM0.out]; omega
        · have hz45 : (z == 45) = false := by simpa using z45
          by_cases z48 : z < 48
          · have hbad := Lib.hid (HC.out.dead hl.out hb.out (fun e => (z45 (hdsh.out e)).elim) (fun x y => by have := hdig.out x y; omega))
            have hgt : decide (z ≥ 48) = false := by simp; omega
            obtain ⟨l0c, l1c, l2c, _, _, _, _⟩ := M1.out.l
            go_wp2
            go_quiet (fail)
            have M2 := Lib.hid (M1.out.after (below_drewN (Below.refl W1.heap.size W1) nq))
            generalize W1.drewN nq = W2 at M2 ⊢
            clear l0c l1c l2c g0 g1 g2
            obtain ⟨r0, r1, r2, s0, s1, s2, s3⟩ := M2.out.r
            obtain ⟨p0c, p1c, p2c, t0, t1, t2, t3⟩ := M2.out.p
            obtain ⟨l0c, l1c, l2c, u0, u1, u2, u3⟩ := M2.out.l
            go_wp2
            refine bodyPost_ret (v := .tuple #[.agg #[.int .i64 0, .int .i64 0, .int .i64 0], .int .i64 5]) (by simp [results, Tryd.results6, go_sem, r0, r1, r2]) rfl (GivesDate.word hbad.out ?_)
            exact ((M2.out.bel.setCell hRR _).setCell hRR _).setCell hRR _
          · by_cases z57 : 57 < z
            · have hbad := Lib.hid (HC.out.dead hl.out hb.out (fun e => (z45 (hdsh.out e)).elim) (fun x y => by have := hdig.out x y; omega))
              have hgt : decide (z ≤ 57) = false := by simp; omega
              obtain ⟨l0c, l1c, l2c, _, _, _, _⟩ := M1.out.l
              go_wp2
              go_quiet (fail)
              have M2 := Lib.hid (M1.out.after (below_drewN (Below.refl W1.heap.size W1) nq))
              generalize W1.drewN nq = W2 at M2 ⊢
              clear l0c l1c l2c g0 g1 g2
              obtain ⟨r0, r1, r2, s0, s1, s2, s3⟩ := M2.out.r
              obtain ⟨p0c, p1c, p2c, t0, t1, t2, t3⟩ := M2.out.p
              obtain ⟨l0c, l1c, l2c, u0, u1, u2, u3⟩ := M2.out.l
              go_wp2
              refine bodyPost_ret (v := .tuple #[.agg #[.int .i64 0, .int .i64 0, .int .i64 0], .int .i64 5]) (by simp [results, Tryd.results6, go_sem, r0, r1, r2]) rfl (GivesDate.word hbad.out ?_)
              exact ((M2.out.bel.setCell hRR _).setCell hRR _).setCell hRR _
            · by_cases hful : l1 < 2
              · obtain ⟨rfl, hbz⟩ := hlow.out (by omega)
                have hnext := Lib.hid (HC.out.dig1 (z := z) (by omega) (by omega) (by rw [hl1.out]; exact hful))
                have hfi : (l1 : Int) < 2 := by omega
                have z48i : 48 ≤ z := by omega
                have z57i : z ≤ 57 := by omega
                have hnum : Hid (p1 * 10 + (z - 48) = (numOf (d1 ++ [z]) : Int)) := by unfold Hid; rw [numOf_snoc]; have := hp1.out; omega
                have hlen2 : Hid (((l1 : Int) + 1) = ((d1 ++ [z]).length : Int)) := by unfold Hid; rw [List.length_append, List.length_singleton, hl1.out]; omega
                obtain ⟨l0c, l1c, l2c, _, _, _, _⟩ := M1.out.l
                go_wp2
                go_quiet (fail)
                have M2 := Lib.hid (M1.out.after (below_drewN (Below.refl W1.heap.size W1) nq))
                generalize W1.drewN nq = W2 at M2 ⊢
                clear l0c l1c l2c g0 g1 g2
                obtain ⟨r0, r1, r2, s0, s1, s2, s3⟩ := M2.out.r
                obtain ⟨p0c, p1c, p2c, t0, t1, t2, t3⟩ := M2.out.p
                obtain ⟨l0c, l1c, l2c, u0, u1, u2, u3⟩ := M2.out.l
                have l1d := fun v => ((M2.out.l.other (a := ⟨P, 1, none⟩) v hne).c1)
                go_wp2
                go_roundw
                case rel => exact ⟨pos + 1, 1, d0, (d1 ++ [z]), d2, by omega, rfl, by rw [take_snoc hl.out (hb.out.trans hbz)]; exact hnext.out, by rw [hp0.out, hp2.out, hl0.out, hl2.out, ← hnum.out, ← hlen2.out]; exact M2.out.dig1 hne _ _⟩
                case measure => rw [iterPos_of (M2.out.dig1 hne _ _).it, iterPos_of hM0.out]; omega
              · have hbad := Lib.hid (HC.out.dead hl.out hb.out (fun e => (z45 (hdsh.out e)).elim) (fun x y => by have := hl0.out; have := hl1.out; have := hl2.out; omega))
                have hfi : decide ((l1 : Int) < 2) = false := by simp; omega
                have z48i : 48 ≤ z := by omega
                have z57i : z ≤ 57 := by omega
                obtain ⟨l0c, l1c, l2c, _, _, _, _⟩ := M1.out.l
                go_wp2
                go_quiet (fail)
                have M2 := Lib.hid (M1.out.after (below_drewN (Below.refl W1.heap.size W1) nq))
                generalize W1.drewN nq = W2 at M2 ⊢
                clear l0c l1c l2c g0 g1 g2
                obtain ⟨r0, r1, r2, s0, s1, s2, s3⟩ := M2.out.r
                obtain ⟨p0c, p1c, p2c, t0, t1, t2, t3⟩ := M2.out.p
                obtain ⟨l0c, l1c, l2c, u0, u1, u2, u3⟩ := M2.out.l
                go_wp2
                refine bodyPost_ret (v := .tuple #[.agg #[.int .i64 0, .int .i64 0, .int .i64 0], .int .i64 5]) (by simp [results, Tryd.results6, go_sem, r0, r1, r2]) rfl (GivesDate.word hbad.out ?_)
                exact ((M2.out.bel.setCell hRR _).setCell hRR _).setCell hRR _
      · rw [show ((2 : Nat) : Int) = 2 from rfl]
        by_cases z45 : z = 45
        · subst z45
          have hbad := Lib.hid (HC.out.dead hl.out hb.out (fun _ => rfl) (fun x y => by have := hdig.out x y; omega))
          have hgt : decide ((45 : Int) ≥ 48) = false := by decide
          obtain ⟨l0c, l1c, l2c, _, _, _, _⟩ := M1.out.l
          go_wp2
          go_quiet (fail)
          have M2 := Lib.hid (M1.out.after (below_drewN (Below.refl W1.heap.size W1) nq))
          generalize W1.drewN nq = W2 at M2 ⊢
          clear l0c l1c l2c g0 g1 g2
          obtain ⟨r0, r1, r2, s0, s1, s2, s3⟩ := M2.out.r
          obtain ⟨p0c, p1c, p2c, t0, t1, t2, t3⟩ := M2.out.p
          obtain ⟨l0c, l1c, l2c, u0, u1, u2, u3⟩ := M2.out.l
          go_wp2
          refine bodyPost_ret (v := .tuple #[.agg #[.int .i64 0, .int .i64 0, .int .i64 0], .int .i64 5]) (by simp [results, Tryd.results6, go_sem, r0, r1, r2]) rfl (GivesDate.word hbad.out ?_)
          exact ((M2.out.bel.setCell hRR _).setCell hRR _).setCell hRR _
        · have hz45 : (z == 45) = false := by simpa using z45
          by_cases z48 : z < 48
          · have hbad := Lib.hid (HC.out.dead hl.out hb.out (fun e => (z45 (hdsh.out e)).elim) (fun x y => by have := hdig.out x y; omega))
            have hgt : decide (z ≥ 48) = false := by simp; omega
            obtain ⟨l0c, l1c, l2c, _, _, _, _⟩ := M1.out.l
            go_wp2
            go_quiet (fail)
            have M2 := Lib.hid (M1.out.after (below_drewN (Below.refl W1.heap.size W1) nq))
            generalize W1.drewN nq = W2 at M2 ⊢
            clear l0c l1c l2c g0 g1 g2
            obtain ⟨r0, r1, r2, s0, s1, s2, s3⟩ := M2.out.r
            obtain ⟨p0c, p1c, p2c, t0, t1, t2, t3⟩ := M2.out.p
            obtain ⟨l0c, l1c, l2c, u0, u1, u2, u3⟩ := M2.out.l
            go_wp2
            refine bodyPost_ret (v := .tuple #[.agg #[.int .i64 0, .int .i64 0, .int .i64 0], .int .i64 5]) (by simp [results, Tryd.results6, go_sem, r0, r1, r2]) rfl (GivesDate.word hbad.out ?_)
            exact ((M2.out.bel.setCell hRR _).setCell hRR _).setCell hRR _
          · by_cases z57 : 57 < z
            · have hbad := Lib.hid (HC.out.dead hl.out hb.out (fun e => (z45 (hdsh.out e)).elim) (fun x y => by have := hdig.out x y; omega))
              have hgt : decide (z ≤ 57) = false := by simp; omega
              obtain ⟨l0c, l1c, l2c, _, _, _, _⟩ := M1.out.l
              go_wp2
              go_quiet (fail)
              have M2 := Lib.hid (M1.out.after (below_drewN (Below.refl W1.heap.size W1) nq))
              generalize W1.drewN nq = W2 at M2 ⊢
              clear l0c l1c l2c g0 g1 g2
              obtain ⟨r0, r1, r2, s0, s1, s2, s3⟩ := M2.out.r
              obtain ⟨p0c, p1c, p2c, t0, t1, t2, t3⟩ := M2.out.p
              obtain ⟨l0c, l1c, l2c, u0, u1, u2, u3⟩ := M2.out.l
              go_wp2
              refine bodyPost_ret (v := .tuple #[.agg #[.int .i64 0, .int .i64 0, .int .i64 0], .int .i64 5]) (by simp [results, Tryd.results6, go_sem, r0, r1, r2]) rfl (GivesDate.word hbad.out ?_)
              exact ((M2.out.bel.setCell hRR _).setCell hRR _).setCell hRR _
            · by_cases hful : l2 < 2
              · obtain ⟨rfl, hbz⟩ := hlow.out (by omega)
                have hnext := Lib.hid (HC.out.dig2 (z := z) (by omega) (by omega) (by rw [hl2.out]; exact hful))
                have hfi : (l2 : Int) < 2 := by omega
                have z48i : 48 ≤ z := by omega
                have z57i : z ≤ 57 := by omega
                have hnum : Hid (p2 * 10 + (z - 48) = (numOf (d2 ++ [z]) : Int)) := by unfold Hid; rw [numOf_snoc]; have := hp2.out; omega
                have hlen2 : Hid (((l2 : Int) + 1) = ((d2 ++ [z]).length : Int)) := by unfold Hid; rw [List.length_append, List.length_singleton, hl2.out]; omega
                obtain ⟨l0c, l1c, l2c, _, _, _, _⟩ := M1.out.l
                go_wp2
                go_quiet (fail)
                have M2 := Lib.hid (M1.out.after (below_drewN (Below.refl W1.heap.size W1) nq))
                generalize W1.drewN nq = W2 at M2 ⊢
                clear l0c l1c l2c g0 g1 g2
                obtain ⟨r0, r1, r2, s0, s1, s2, s3⟩ := M2.out.r
                obtain ⟨p0c, p1c, p2c, t0, t1, t2, t3⟩ := M2.out.p
                obtain ⟨l0c, l1c, l2c, u0, u1, u2, u3⟩ := M2.out.l
                have l2d := fun v => ((M2.out.l.other (a := ⟨P, 2, none⟩) v hne).c2)
                go_wp2
                go_roundw
                case rel => exact ⟨pos + 1, 2, d0, d1, (d2 ++ [z]), by omega, rfl, by rw [take_snoc hl.out (hb.out.trans hbz)]; exact hnext.out, by rw [hp0.out, hp1.out, hl0.out, hl1.out, ← hnum.out, ← hlen2.out]; exact M2.out.dig2 hne _ _⟩
                case measure => rw [iterPos_of (M2.out.dig2 hne _ _).it, iterPos_of hM0.out]; omega
              · have hbad := Lib.hid (HC.out.dead hl.out hb.out (fun e => (z45 (hdsh.out e)).elim) (fun x y => by have := hl0.out; have := hl1.out; have := hl2.out; omega))
                have hfi : decide ((l2 : Int) < 2) = false := by simp; omega
                have z48i : 48 ≤ z := by omega
                have z57i : z ≤ 57 := by omega
                obtain ⟨l0c, l1c, l2c, _, _, _, _⟩ := M1.out.l
                go_wp2
                go_quiet (fail)
                have M2 := Lib.hid (M1.out.after (below_drewN (Below.refl W1.heap.size W1) nq))
                generalize W1.drewN nq = W2 at M2 ⊢
                clear l0c l1c l2c g0 g1 g2
                obtain ⟨r0, r1, r2, s0, s1, s2, s3⟩ := M2.out.r
                obtain ⟨p0c, p1c, p2c, t0, t1, t2, t3⟩ := M2.out.p
                obtain ⟨l0c, l1c, l2c, u0, u1, u2, u3⟩ := M2.out.l
                go_wp2
                refine bodyPost_ret (v := .tuple #[.agg #[.int .i64 0, .int .i64 0, .int .i64 0], .int .i64 5]) (by simp [results, Tryd.results6, go_sem, r0, r1, r2]) rfl (GivesDate.word hbad.out ?_)
                exact ((M2.out.bel.setCell hRR _).setCell hRR _).setCell hRR _
    · have hnx : ∀ ty, (Instr.next (.pointer (some ⟨I, 0, none⟩)) true ty).run Tryd.prog wr = _ := fun ty => Lib.run_next_end_at wr I s pos ty hM.it h1
      have hps : pos = (nums s).length := by rw [hlen.out]; omega
      have HC2 : Hid (RdC (nums s) i d0 d1 d2) := by
        have := HC.out
        rw [hps, List.take_length] at this
        exact this
      clear HC hps hi3
      have M2 := Lib.hid hM
      obtain ⟨r0, r1, r2, s0, s1, s2, s3⟩ := hM.r
      obtain ⟨p0c, p1c, p2c, t0, t1, t2, t3⟩ := hM.p
      obtain ⟨l0c, l1c, l2c, u0, u1, u2, u3⟩ := hM.l
      obtain ⟨g0, g1, g2⟩ := (env.out.step hM.bel).wid.cells
      clear hM
      by_cases hful : l0 = 4 ∧ l1 = 2 ∧ l2 = 2
      · obtain ⟨rfl, rfl, rfl⟩ := hful
        have hweq := run_widths_yes
        obtain ⟨hT0, hA0, hB0, hC0⟩ := HC2.out.full hl0.out hl1.out hl2.out
        have hT := Lib.hid hT0
        have hA : Hid (p0 = (nAt (nums s) 0 4 : Int)) := by unfold Hid; rw [hA0, hp0.out]
        have hB : Hid (p1 = (nAt (nums s) 5 2 : Int)) := by unfold Hid; rw [hB0, hp1.out]
        have hCC : Hid (p2 = (nAt (nums s) 8 2 : Int)) := by unfold Hid; rw [hC0, hp2.out]
        clear hT0 hA0 hB0 hC0
        have KD := Lib.hid (Var3.fresh wr (.int .i64 p0) (.int .i64 p1) (.int .i64 p2) 23 _ rfl)
        have KZ := Lib.hid (M2.out.r.alloc (.cells #[.int .i64 p0, .int .i64 p1, .int .i64 p2] 23))
        have hb3 := below_more M2.out.bel (.cells #[.int .i64 p0, .int .i64 p1, .int .i64 p2] 23)
        clear p0c
        by_cases hr : RightD p0 p1 p2
        · have HY := Lib.hid (fun W e => cright_yes p0 p1 p2 W e hr)
          have hrr := Lib.hid hr
          clear hr
          obtain ⟨p0c, _, _, _, _, _, _⟩ := M2.out.p
          go_wp2_with (go_at_call 12; (with_reducible refine (HY.out _ (env.out.step hb3)).mono ?_); rintro e w1 ⟨rfl, g⟩; have KD2 := KD.out.after g; have KZ4 := KZ.out.after g; have hb4 := below_step hb3 g; clear g r0 r1 r2 s0 s1 s2 s3; obtain ⟨c0, c1, c2, q0, q1, q2, s1⟩ := KD2; obtain ⟨r0, r1, r2, s0, s2, s3, s4⟩ := KZ4)
          refine bodyPost_ret (v := .tuple #[.agg #[.int .i64 p0, .int .i64 p1, .int .i64 p2], .int .i64 0]) (by simp [results, Tryd.results6, go_sem, r0, r1, r2]) rfl ⟨p0, p1, p2, 0, rfl, Or.inr (Or.inr ⟨hT.out, by rw [← hA.out, ← hB.out, ← hCC.out]; exact hrr.out, hA.out, hB.out, hCC.out, rfl⟩), ?_⟩
          exact ((hb4.setCell hRR _).setCell hRR _).setCell hRR _
        · have HY := Lib.hid (fun W e => cright_no p0 p1 p2 W e ⟨by omega, by omega, by omega, by omega, by omega, by omega⟩ hr)
          have hrr := Lib.hid hr
          clear hr
          obtain ⟨p0c, _, _, _, _, _, _⟩ := M2.out.p
          go_wp2_with (go_at_call 12; (with_reducible refine (HY.out _ (env.out.step hb3)).mono ?_); rintro e w1 ⟨rfl, g⟩; have KD2 := KD.out.after g; have KZ4 := KZ.out.after g; have hb4 := below_step hb3 g; clear g r0 r1 r2 s0 s1 s2 s3; obtain ⟨c0, c1, c2, q0, q1, q2, s1⟩ := KD2; obtain ⟨r0, r1, r2, s0, s2, s3, s4⟩ := KZ4)
          refine bodyPost_ret (v := .tuple #[.agg #[.int .i64 0, .int .i64 0, .int .i64 0], .int .i64 8]) (by simp [results, Tryd.results6, go_sem, r0, r1, r2]) rfl ⟨0, 0, 0, 8, rfl, Or.inr (Or.inl ⟨hT.out, by rw [← hA.out, ← hB.out, ← hCC.out]; exact hrr.out, rfl, rfl, rfl, rfl⟩), ?_⟩
          exact ((hb4.setCell hRR _).setCell hRR _).setCell hRR _
      · have hbad := Lib.hid (HC2.out.short (by rw [hl0.out, hl1.out, hl2.out]; exact hful))
        have hweq := run_widths_no (l0 : Int) (l1 : Int) (l2 : Int) (by omega)
        go_wp2
        refine bodyPost_ret (v := .tuple #[.agg #[.int .i64 0, .int .i64 0, .int .i64 0], .int .i64 5]) (by simp [results, Tryd.results6, go_sem, r0, r1, r2]) rfl (GivesDate.word hbad.out ?_)
        exact ((M2.out.bel.setCell hRR _).setCell hRR _).setCell hRR _

end Go.Proofs.YthhaineoflpkkaaDoor
