/-
  The document's own calendar, walked: Read.
-/
import Derived.Test.YthhaineoflpkkaaDoorCivQ
import Derived.StillTailTactics
namespace Go.Proofs.YthhaineoflpkkaaDoor
open Go.RowKit

/-- A letter that is in its place: a dash, or a digit. -/
def okL (zs : List Int) (j : Nat) : Prop := if j = 4 ∨ j = 7 then zs.getD j 0 = 45 else 48 ≤ zs.getD j 0 ∧ zs.getD j 0 ≤ 57
/-- Ten letters, each in its place. -/
def DateText (zs : List Int) : Prop := zs.length = 10 ∧ ∀ j, j < 10 → okL zs j
/-- The number of so many letters from a place on. -/
def nAt (zs : List Int) (s n : Nat) : Nat := numOf ((zs.drop s).take n)
theorem nAt_step {zs : List Int} {s n : Nat} (h : s + n < zs.length) : nAt zs s (n + 1) = 10 * nAt zs s n + (zs.getD (s + n) 0 - 48).toNat := by
  unfold nAt
  rw [numOf_step _ n (by rw [List.length_drop]; omega), List.getD_eq_getElem?_getD, List.getElem?_drop, ← List.getD_eq_getElem?_getD]
def bdN : Nat → Int
  | 0 => 0
  | 1 => 9
  | 2 => 99
  | 3 => 999
  | _ => 9999
/-- What is read so far. -/
structure RdD (zs : List Int) (i : Nat) (a b c : Int) : Prop where
  ok : ∀ j, j < i → okL zs j
  ae : a = (nAt zs 0 (min i 4) : Int)
  be : b = (nAt zs 5 (min (i - 5) 2) : Int)
  ce : c = (nAt zs 8 (min (i - 8) 2) : Int)
  a1 : a ≤ bdN (min i 4)
  b1 : b ≤ bdN (min (i - 5) 2)
  c1 : c ≤ bdN (min (i - 8) 2)
theorem RdD.pos {zs : List Int} {i : Nat} {a b c : Int} (h : RdD zs i a b c) : 0 ≤ a ∧ 0 ≤ b ∧ 0 ≤ c := by
  obtain ⟨_, h1, h2, h3, _⟩ := h
  omega
theorem RdD.start (zs : List Int) : RdD zs 0 0 0 0 := ⟨fun j h => by omega, rfl, rfl, rfl, by decide, by decide, by decide⟩
theorem ok_next {zs : List Int} {i : Nat} (h : ∀ j, j < i → okL zs j) (g : okL zs i) : ∀ j, j < i + 1 → okL zs j := fun j hj => by
  by_cases e : j = i
  · subst e; exact g
  · exact h j (by omega)
theorem RdD.step0 {zs : List Int} {a b c z : Int} (h : RdD zs 0 a b c) (hl : zs.length = 10) (hz : zs.getD 0 0 = z) (z0 : 48 ≤ z) (z1 : z ≤ 57) : RdD zs 1 (10 * a + z - 48) b c := ⟨ok_next h.ok (by unfold okL; rw [if_neg (by decide), hz]; exact ⟨z0, z1⟩), by have e : nAt zs 0 (0 + 1) = 10 * nAt zs 0 0 + (zs.getD (0 + 0) 0 - 48).toNat := nAt_step (by omega); have e2 : a = (nAt zs 0 0 : Int) := h.ae; rw [show 0 + 0 = 0 from rfl, hz] at e; show _ = ((nAt zs 0 (0 + 1) : Nat) : Int); omega, h.be, h.ce, by have e : a ≤ 0 := h.a1; show _ ≤ (9 : Int); omega, h.b1, h.c1⟩
theorem RdD.step1 {zs : List Int} {a b c z : Int} (h : RdD zs 1 a b c) (hl : zs.length = 10) (hz : zs.getD 1 0 = z) (z0 : 48 ≤ z) (z1 : z ≤ 57) : RdD zs 2 (10 * a + z - 48) b c := ⟨ok_next h.ok (by unfold okL; rw [if_neg (by decide), hz]; exact ⟨z0, z1⟩), by have e : nAt zs 0 (1 + 1) = 10 * nAt zs 0 1 + (zs.getD (0 + 1) 0 - 48).toNat := nAt_step (by omega); have e2 : a = (nAt zs 0 1 : Int) := h.ae; rw [show 0 + 1 = 1 from rfl, hz] at e; show _ = ((nAt zs 0 (1 + 1) : Nat) : Int); omega, h.be, h.ce, by have e : a ≤ 9 := h.a1; show _ ≤ (99 : Int); omega, h.b1, h.c1⟩
theorem RdD.step2 {zs : List Int} {a b c z : Int} (h : RdD zs 2 a b c) (hl : zs.length = 10) (hz : zs.getD 2 0 = z) (z0 : 48 ≤ z) (z1 : z ≤ 57) : RdD zs 3 (10 * a + z - 48) b c := ⟨ok_next h.ok (by unfold okL; rw [if_neg (by decide), hz]; exact ⟨z0, z1⟩), by have e : nAt zs 0 (2 + 1) = 10 * nAt zs 0 2 + (zs.getD (0 + 2) 0 - 48).toNat := nAt_step (by omega); have e2 : a = (nAt zs 0 2 : Int) := h.ae; rw [show 0 + 2 = 2 from rfl, hz] at e; show _ = ((nAt zs 0 (2 + 1) : Nat) : Int); omega, h.be, h.ce, by have e : a ≤ 99 := h.a1; show _ ≤ (999 : Int); omega, h.b1, h.c1⟩
theorem RdD.step3 {zs : List Int} {a b c z : Int} (h : RdD zs 3 a b c) (hl : zs.length = 10) (hz : zs.getD 3 0 = z) (z0 : 48 ≤ z) (z1 : z ≤ 57) : RdD zs 4 (10 * a + z - 48) b c := ⟨ok_next h.ok (by unfold okL; rw [if_neg (by decide), hz]; exact ⟨z0, z1⟩), by have e : nAt zs 0 (3 + 1) = 10 * nAt zs 0 3 + (zs.getD (0 + 3) 0 - 48).toNat := nAt_step (by omega); have e2 : a = (nAt zs 0 3 : Int) := h.ae; rw [show 0 + 3 = 3 from rfl, hz] at e; show _ = ((nAt zs 0 (3 + 1) : Nat) : Int); omega, h.be, h.ce, by have e : a ≤ 999 := h.a1; show _ ≤ (9999 : Int); omega, h.b1, h.c1⟩
theorem RdD.step4 {zs : List Int} {a b c : Int} (h : RdD zs 4 a b c) (hz : zs.getD 4 0 = 45) : RdD zs 5 a b c := ⟨ok_next h.ok (by unfold okL; rw [if_pos (by decide)]; exact hz), h.ae, h.be, h.ce, h.a1, h.b1, h.c1⟩
theorem RdD.step5 {zs : List Int} {a b c z : Int} (h : RdD zs 5 a b c) (hl : zs.length = 10) (hz : zs.getD 5 0 = z) (z0 : 48 ≤ z) (z1 : z ≤ 57) : RdD zs 6 a (10 * b + z - 48) c := ⟨ok_next h.ok (by unfold okL; rw [if_neg (by decide), hz]; exact ⟨z0, z1⟩), h.ae, by have e : nAt zs 5 (0 + 1) = 10 * nAt zs 5 0 + (zs.getD (5 + 0) 0 - 48).toNat := nAt_step (by omega); have e2 : b = (nAt zs 5 0 : Int) := h.be; rw [show 5 + 0 = 5 from rfl, hz] at e; show _ = ((nAt zs 5 (0 + 1) : Nat) : Int); omega, h.ce, h.a1, by have e : b ≤ 0 := h.b1; show _ ≤ (9 : Int); omega, h.c1⟩
theorem RdD.step6 {zs : List Int} {a b c z : Int} (h : RdD zs 6 a b c) (hl : zs.length = 10) (hz : zs.getD 6 0 = z) (z0 : 48 ≤ z) (z1 : z ≤ 57) : RdD zs 7 a (10 * b + z - 48) c := ⟨ok_next h.ok (by unfold okL; rw [if_neg (by decide), hz]; exact ⟨z0, z1⟩), h.ae, by have e : nAt zs 5 (1 + 1) = 10 * nAt zs 5 1 + (zs.getD (5 + 1) 0 - 48).toNat := nAt_step (by omega); have e2 : b = (nAt zs 5 1 : Int) := h.be; rw [show 5 + 1 = 6 from rfl, hz] at e; show _ = ((nAt zs 5 (1 + 1) : Nat) : Int); omega, h.ce, h.a1, by have e : b ≤ 9 := h.b1; show _ ≤ (99 : Int); omega, h.c1⟩
theorem RdD.step7 {zs : List Int} {a b c : Int} (h : RdD zs 7 a b c) (hz : zs.getD 7 0 = 45) : RdD zs 8 a b c := ⟨ok_next h.ok (by unfold okL; rw [if_pos (by decide)]; exact hz), h.ae, h.be, h.ce, h.a1, h.b1, h.c1⟩
theorem RdD.step8 {zs : List Int} {a b c z : Int} (h : RdD zs 8 a b c) (hl : zs.length = 10) (hz : zs.getD 8 0 = z) (z0 : 48 ≤ z) (z1 : z ≤ 57) : RdD zs 9 a b (10 * c + z - 48) := ⟨ok_next h.ok (by unfold okL; rw [if_neg (by decide), hz]; exact ⟨z0, z1⟩), h.ae, h.be, by have e : nAt zs 8 (0 + 1) = 10 * nAt zs 8 0 + (zs.getD (8 + 0) 0 - 48).toNat := nAt_step (by omega); have e2 : c = (nAt zs 8 0 : Int) := h.ce; rw [show 8 + 0 = 8 from rfl, hz] at e; show _ = ((nAt zs 8 (0 + 1) : Nat) : Int); omega, h.a1, h.b1, by have e : c ≤ 0 := h.c1; show _ ≤ (9 : Int); omega⟩
theorem RdD.step9 {zs : List Int} {a b c z : Int} (h : RdD zs 9 a b c) (hl : zs.length = 10) (hz : zs.getD 9 0 = z) (z0 : 48 ≤ z) (z1 : z ≤ 57) : RdD zs 10 a b (10 * c + z - 48) := ⟨ok_next h.ok (by unfold okL; rw [if_neg (by decide), hz]; exact ⟨z0, z1⟩), h.ae, h.be, by have e : nAt zs 8 (1 + 1) = 10 * nAt zs 8 1 + (zs.getD (8 + 1) 0 - 48).toNat := nAt_step (by omega); have e2 : c = (nAt zs 8 1 : Int) := h.ce; rw [show 8 + 1 = 9 from rfl, hz] at e; show _ = ((nAt zs 8 (1 + 1) : Nat) : Int); omega, h.a1, h.b1, by have e : c ≤ 9 := h.c1; show _ ≤ (99 : Int); omega⟩
/-- What Read comes to. -/
def DateOut (zs : List Int) (y m d c : Int) : Prop := (¬ DateText zs ∧ y = 0 ∧ m = 0 ∧ d = 0 ∧ c = 5) ∨ (DateText zs ∧ ¬ RightD (nAt zs 0 4) (nAt zs 5 2) (nAt zs 8 2) ∧ y = 0 ∧ m = 0 ∧ d = 0 ∧ c = 8) ∨ (DateText zs ∧ RightD (nAt zs 0 4) (nAt zs 5 2) (nAt zs 8 2) ∧ y = (nAt zs 0 4 : Int) ∧ m = (nAt zs 5 2 : Int) ∧ d = (nAt zs 8 2 : Int) ∧ c = 0)
def GivesDate (zs : List Int) (w : World) (e : Ending) (w' : World) : Prop := ∃ y m d c : Int, e = .returned (.tuple #[.agg #[.int .i64 y, .int .i64 m, .int .i64 d], .int .i64 c]) ∧ DateOut zs y m d c ∧ Below w.heap.size w w'
theorem GivesDate.word {zs : List Int} {w w' : World} (h : ¬ DateText zs) (hb : Below w.heap.size w w') : GivesDate zs w (.returned (.tuple #[.agg #[.int .i64 0, .int .i64 0, .int .i64 0], .int .i64 5])) w' := ⟨0, 0, 0, 5, rfl, Or.inl ⟨h, rfl, rfl, rfl, rfl⟩, hb⟩
theorem DateOut.unique {zs : List Int} {y m d c y' m' d' c' : Int} (h : DateOut zs y m d c) (g : DateOut zs y' m' d' c') : y = y' ∧ m = m' ∧ d = d' ∧ c = c' := by
  rcases h with ⟨h, rfl, rfl, rfl, rfl⟩ | ⟨h, k, rfl, rfl, rfl, rfl⟩ | ⟨h, k, rfl, rfl, rfl, rfl⟩ <;> rcases g with ⟨g, rfl, rfl, rfl, rfl⟩ | ⟨g, l, rfl, rfl, rfl, rfl⟩ | ⟨g, l, rfl, rfl, rfl, rfl⟩
  · exact ⟨rfl, rfl, rfl, rfl⟩
  · exact (h g).elim
  · exact (h g).elim
  · exact (g h).elim
  · exact ⟨rfl, rfl, rfl, rfl⟩
  · exact (k l).elim
  · exact (g h).elim
  · exact (l k).elim
  · exact ⟨rfl, rfl, rfl, rfl⟩

set_option maxRecDepth 100000 in
set_option maxHeartbeats 8000000 in
theorem rdread_all (s : ByteArray) (w : World) (hm : s.size ≤ 9223372036854775807) : Calls Tryd.prog 7 #[.string s] w (GivesDate (nums s) w) := by
  have hlen : Hid ((nums s).length = s.size) := nums_length s
  have MR := Lib.hid (Var3.fresh w (.int .i64 0) (.int .i64 0) (.int .i64 0) 23 _ rfl)
  by_cases hs : s.size = 10
  · have hl10 : Hid ((nums s).length = 10) := hlen.out.trans hs
    have hsb : ((s.size : Int) != 10) = false := by simp; omega
    have hsi : (10 : Int) ≤ s.size := by omega
    have HSZ := Lib.hid hs
    clear hs
    go_enter Tryd.func7, Tryd.ntmps7
    go_wp2
    have DD : Below w.heap.size w ((w.alloc (.cells #[.int .i64 0, .int .i64 0, .int .i64 0] 23)).alloc (.cells #[.int .i64 0, .int .i64 0, .int .i64 0] 3)) := ((Below.refl _ _).alloc (Nat.le_refl _) _).alloc (by simp) _
    have MV := Lib.hid (Var3.fresh (w.alloc (.cells #[.int .i64 0, .int .i64 0, .int .i64 0] 23)) (.int .i64 0) (.int .i64 0) (.int .i64 0) 3 (w.heap.size + 1) (by simp))
    have MR2 := Lib.hid (MR.out.alloc (.cells #[.int .i64 0, .int .i64 0, .int .i64 0] 3))
    go_loopw [5, 6] (fun v5 v6 wr => ∃ (i : Nat) (a b c : Int), i ≤ 10 ∧ v6 = .int .i64 i ∧ v5 = .int .i64 (if i ≤ 4 then 0 else if i ≤ 7 then 1 else 2) ∧ RdD (nums s) i a b c ∧ Var3 wr (w.heap.size + 1) (.int .i64 a) (.int .i64 b) (.int .i64 c) ∧ Var3 wr w.heap.size (.int .i64 0) (.int .i64 0) (.int .i64 0) ∧ Below w.heap.size w wr) (fun _ v6 _ => 100 - (intOf v6).toNat)
    case atStart => exact ⟨0, 0, 0, 0, by omega, rfl, rfl, RdD.start _, MV.out, MR2.out, DD⟩
    case round =>
      obtain ⟨i, a, b, c, hi, rfl, rfl, hR, hV, hZ, hbel⟩ := hrel
      have HR := Lib.hid hR
      have KV := Lib.hid hV
      have KZ := Lib.hid hZ
      obtain ⟨a0, b0, c0⟩ := hR.pos
      obtain ⟨v0, v1, v2, q0, q1, q2, s1⟩ := hV
      obtain ⟨r0, r1, r2, p0, p1, p2, s0⟩ := hZ
      have hi11 : i = 0 ∨ i = 1 ∨ i = 2 ∨ i = 3 ∨ i = 4 ∨ i = 5 ∨ i = 6 ∨ i = 7 ∨ i = 8 ∨ i = 9 ∨ i = 10 := by omega
      rcases hi11 with rfl | rfl | rfl | rfl | rfl | rfl | rfl | rfl | rfl | rfl | rfl
      · have ei : ((0 : Nat) : Int) = 0 := rfl
        have ek : (if 0 ≤ 4 then (0 : Int) else if 0 ≤ 7 then 1 else 2) = 0 := rfl
        rw [ek]
        have a1 : a ≤ 0 := HR.out.a1
        have b1 : b ≤ 0 := HR.out.b1
        have c1 : c ≤ 0 := HR.out.c1
        obtain ⟨z, hz, hzz⟩ : ∃ z, ((s[0]'(by have := HSZ.out; omega)).toNat : Int) = z ∧ Hid ((nums s).getD 0 0 = z) := ⟨_, rfl, nums_at s 0 (by have := HSZ.out; omega)⟩
        have hix : (0 : Int) < s.size := by omega
        clear ek
        by_cases z0 : z < 48
        · have hbad : Hid (¬ DateText (nums s)) := fun g => by have h5 := g.2 0 (by omega); unfold okL at h5; rw [if_neg (by decide), hzz.out] at h5; omega
          go_wp2
          refine bodyPost_ret (v := .tuple #[.agg #[.int .i64 0, .int .i64 0, .int .i64 0], .int .i64 5]) (by simp [results, Tryd.results7, go_sem, r0, r1, r2]) rfl (GivesDate.word hbad.out ?_)
          exact ((hbel.setCell (by simp) _).setCell (by simp) _).setCell (by simp) _
        · by_cases z1 : 57 < z
          · have hbad : Hid (¬ DateText (nums s)) := fun g => by have h5 := g.2 0 (by omega); unfold okL at h5; rw [if_neg (by decide), hzz.out] at h5; omega
            go_wp2
            refine bodyPost_ret (v := .tuple #[.agg #[.int .i64 0, .int .i64 0, .int .i64 0], .int .i64 5]) (by simp [results, Tryd.results7, go_sem, r0, r1, r2]) rfl (GivesDate.word hbad.out ?_)
            exact ((hbel.setCell (by simp) _).setCell (by simp) _).setCell (by simp) _
          · have hnext := Lib.hid (HR.out.step0 hl10.out hzz.out (by omega) (by omega))
            have w1 : IntKind.i64.wrap (10 * a) = 10 * a := by rw [IntKind.wrap_i64]; omega
            have w2 : IntKind.i64.wrap (10 * a + z) = 10 * a + z := by rw [IntKind.wrap_i64]; omega
            have w3 : IntKind.i64.wrap (10 * a + z - 48) = 10 * a + z - 48 := by rw [IntKind.wrap_i64]; omega
            have w4 : IntKind.i64.wrap z = z := by rw [IntKind.wrap_i64]; omega
            have hrun : ∀ wx : World, (Instr.index 9 (.string s) (.int .i64 0)).run Tryd.prog wx = .ok (.int .u8 z) wx := fun wx => by
              rw [run_index_string wx _ s .i64 0 Tryd.underlying9, dif_pos ⟨by omega, hix⟩, ← hz]; rfl
            go_wp2
            go_still_tail 14, (by kernel_rfl)
            change wpList _ _ _ _ _ wr.drew
            have KV2 := Lib.hid KV.out.drew
            have KZ2 := Lib.hid KZ.out.drew
            have hbel2 := hbel.drew
            clear w1 w2 w3 w4 hrun v0 v1 v2 q0 q1 q2 r0 r1 r2 p0 p1 p2 s0 s1
            generalize wr.drew = wd at KV2 KZ2 hbel2 ⊢
            obtain ⟨v0, v1, v2, q0, q1, q2, s1⟩ := KV2.out
            go_wp2
            go_roundw
            case rel => exact ⟨1, 10 * a + z - 48, b, c, by omega, by go_num, rfl, hnext.out, KV2.out.put0 _, KZ2.out.other _ (by simp), hbel2.setCell (by simp) _⟩
            case measure => simp [intOf]
      · have ei : ((1 : Nat) : Int) = 1 := rfl
        have ek : (if 1 ≤ 4 then (0 : Int) else if 1 ≤ 7 then 1 else 2) = 0 := rfl
        rw [ek]
        have a1 : a ≤ 9 := HR.out.a1
        have b1 : b ≤ 0 := HR.out.b1
        have c1 : c ≤ 0 := HR.out.c1
        obtain ⟨z, hz, hzz⟩ : ∃ z, ((s[1]'(by have := HSZ.out; omega)).toNat : Int) = z ∧ Hid ((nums s).getD 1 0 = z) := ⟨_, rfl, nums_at s 1 (by have := HSZ.out; omega)⟩
        have hix : (1 : Int) < s.size := by omega
        clear ek
        by_cases z0 : z < 48
        · have hbad : Hid (¬ DateText (nums s)) := fun g => by have h5 := g.2 1 (by omega); unfold okL at h5; rw [if_neg (by decide), hzz.out] at h5; omega
          go_wp2
          refine bodyPost_ret (v := .tuple #[.agg #[.int .i64 0, .int .i64 0, .int .i64 0], .int .i64 5]) (by simp [results, Tryd.results7, go_sem, r0, r1, r2]) rfl (GivesDate.word hbad.out ?_)
          exact ((hbel.setCell (by simp) _).setCell (by simp) _).setCell (by simp) _
        · by_cases z1 : 57 < z
          · have hbad : Hid (¬ DateText (nums s)) := fun g => by have h5 := g.2 1 (by omega); unfold okL at h5; rw [if_neg (by decide), hzz.out] at h5; omega
            go_wp2
            refine bodyPost_ret (v := .tuple #[.agg #[.int .i64 0, .int .i64 0, .int .i64 0], .int .i64 5]) (by simp [results, Tryd.results7, go_sem, r0, r1, r2]) rfl (GivesDate.word hbad.out ?_)
            exact ((hbel.setCell (by simp) _).setCell (by simp) _).setCell (by simp) _
          · have hnext := Lib.hid (HR.out.step1 hl10.out hzz.out (by omega) (by omega))
            have w1 : IntKind.i64.wrap (10 * a) = 10 * a := by rw [IntKind.wrap_i64]; omega
            have w2 : IntKind.i64.wrap (10 * a + z) = 10 * a + z := by rw [IntKind.wrap_i64]; omega
            have w3 : IntKind.i64.wrap (10 * a + z - 48) = 10 * a + z - 48 := by rw [IntKind.wrap_i64]; omega
            have w4 : IntKind.i64.wrap z = z := by rw [IntKind.wrap_i64]; omega
            have hrun : ∀ wx : World, (Instr.index 9 (.string s) (.int .i64 1)).run Tryd.prog wx = .ok (.int .u8 z) wx := fun wx => by
              rw [run_index_string wx _ s .i64 1 Tryd.underlying9, dif_pos ⟨by omega, hix⟩, ← hz]; rfl
            go_wp2
            go_still_tail 14, (by kernel_rfl)
            change wpList _ _ _ _ _ wr.drew
            have KV2 := Lib.hid KV.out.drew
            have KZ2 := Lib.hid KZ.out.drew
            have hbel2 := hbel.drew
            clear w1 w2 w3 w4 hrun v0 v1 v2 q0 q1 q2 r0 r1 r2 p0 p1 p2 s0 s1
            generalize wr.drew = wd at KV2 KZ2 hbel2 ⊢
            obtain ⟨v0, v1, v2, q0, q1, q2, s1⟩ := KV2.out
            go_wp2
            go_roundw
            case rel => exact ⟨2, 10 * a + z - 48, b, c, by omega, by go_num, rfl, hnext.out, KV2.out.put0 _, KZ2.out.other _ (by simp), hbel2.setCell (by simp) _⟩
            case measure => simp [intOf]
      · have ei : ((2 : Nat) : Int) = 2 := rfl
        have ek : (if 2 ≤ 4 then (0 : Int) else if 2 ≤ 7 then 1 else 2) = 0 := rfl
        rw [ek]
        have a1 : a ≤ 99 := HR.out.a1
        have b1 : b ≤ 0 := HR.out.b1
        have c1 : c ≤ 0 := HR.out.c1
        obtain ⟨z, hz, hzz⟩ : ∃ z, ((s[2]'(by have := HSZ.out; omega)).toNat : Int) = z ∧ Hid ((nums s).getD 2 0 = z) := ⟨_, rfl, nums_at s 2 (by have := HSZ.out; omega)⟩
        have hix : (2 : Int) < s.size := by omega
        clear ek
        by_cases z0 : z < 48
        · have hbad : Hid (¬ DateText (nums s)) := fun g => by have h5 := g.2 2 (by omega); unfold okL at h5; rw [if_neg (by decide), hzz.out] at h5; omega
          go_wp2
          refine bodyPost_ret (v := .tuple #[.agg #[.int .i64 0, .int .i64 0, .int .i64 0], .int .i64 5]) (by simp [results, Tryd.results7, go_sem, r0, r1, r2]) rfl (GivesDate.word hbad.out ?_)
          exact ((hbel.setCell (by simp) _).setCell (by simp) _).setCell (by simp) _
        · by_cases z1 : 57 < z
          · have hbad : Hid (¬ DateText (nums s)) := fun g => by have h5 := g.2 2 (by omega); unfold okL at h5; rw [if_neg (by decide), hzz.out] at h5; omega
            go_wp2
            refine bodyPost_ret (v := .tuple #[.agg #[.int .i64 0, .int .i64 0, .int .i64 0], .int .i64 5]) (by simp [results, Tryd.results7, go_sem, r0, r1, r2]) rfl (GivesDate.word hbad.out ?_)
            exact ((hbel.setCell (by simp) _).setCell (by simp) _).setCell (by simp) _
          · have hnext := Lib.hid (HR.out.step2 hl10.out hzz.out (by omega) (by omega))
            have w1 : IntKind.i64.wrap (10 * a) = 10 * a := by rw [IntKind.wrap_i64]; omega
            have w2 : IntKind.i64.wrap (10 * a + z) = 10 * a + z := by rw [IntKind.wrap_i64]; omega
            have w3 : IntKind.i64.wrap (10 * a + z - 48) = 10 * a + z - 48 := by rw [IntKind.wrap_i64]; omega
            have w4 : IntKind.i64.wrap z = z := by rw [IntKind.wrap_i64]; omega
            have hrun : ∀ wx : World, (Instr.index 9 (.string s) (.int .i64 2)).run Tryd.prog wx = .ok (.int .u8 z) wx := fun wx => by
              rw [run_index_string wx _ s .i64 2 Tryd.underlying9, dif_pos ⟨by omega, hix⟩, ← hz]; rfl
            go_wp2
            go_still_tail 14, (by kernel_rfl)
            change wpList _ _ _ _ _ wr.drew
            have KV2 := Lib.hid KV.out.drew
            have KZ2 := Lib.hid KZ.out.drew
            have hbel2 := hbel.drew
            clear w1 w2 w3 w4 hrun v0 v1 v2 q0 q1 q2 r0 r1 r2 p0 p1 p2 s0 s1
            generalize wr.drew = wd at KV2 KZ2 hbel2 ⊢
            obtain ⟨v0, v1, v2, q0, q1, q2, s1⟩ := KV2.out
            go_wp2
            go_roundw
            case rel => exact ⟨3, 10 * a + z - 48, b, c, by omega, by go_num, rfl, hnext.out, KV2.out.put0 _, KZ2.out.other _ (by simp), hbel2.setCell (by simp) _⟩
            case measure => simp [intOf]
      · have ei : ((3 : Nat) : Int) = 3 := rfl
        have ek : (if 3 ≤ 4 then (0 : Int) else if 3 ≤ 7 then 1 else 2) = 0 := rfl
        rw [ek]
        have a1 : a ≤ 999 := HR.out.a1
        have b1 : b ≤ 0 := HR.out.b1
        have c1 : c ≤ 0 := HR.out.c1
        obtain ⟨z, hz, hzz⟩ : ∃ z, ((s[3]'(by have := HSZ.out; omega)).toNat : Int) = z ∧ Hid ((nums s).getD 3 0 = z) := ⟨_, rfl, nums_at s 3 (by have := HSZ.out; omega)⟩
        have hix : (3 : Int) < s.size := by omega
        clear ek
        by_cases z0 : z < 48
        · have hbad : Hid (¬ DateText (nums s)) := fun g => by have h5 := g.2 3 (by omega); unfold okL at h5; rw [if_neg (by decide), hzz.out] at h5; omega
          go_wp2
          refine bodyPost_ret (v := .tuple #[.agg #[.int .i64 0, .int .i64 0, .int .i64 0], .int .i64 5]) (by simp [results, Tryd.results7, go_sem, r0, r1, r2]) rfl (GivesDate.word hbad.out ?_)
          exact ((hbel.setCell (by simp) _).setCell (by simp) _).setCell (by simp) _
        · by_cases z1 : 57 < z
          · have hbad : Hid (¬ DateText (nums s)) := fun g => by have h5 := g.2 3 (by omega); unfold okL at h5; rw [if_neg (by decide), hzz.out] at h5; omega
            go_wp2
            refine bodyPost_ret (v := .tuple #[.agg #[.int .i64 0, .int .i64 0, .int .i64 0], .int .i64 5]) (by simp [results, Tryd.results7, go_sem, r0, r1, r2]) rfl (GivesDate.word hbad.out ?_)
            exact ((hbel.setCell (by simp) _).setCell (by simp) _).setCell (by simp) _
          · have hnext := Lib.hid (HR.out.step3 hl10.out hzz.out (by omega) (by omega))
            have w1 : IntKind.i64.wrap (10 * a) = 10 * a := by rw [IntKind.wrap_i64]; omega
            have w2 : IntKind.i64.wrap (10 * a + z) = 10 * a + z := by rw [IntKind.wrap_i64]; omega
            have w3 : IntKind.i64.wrap (10 * a + z - 48) = 10 * a + z - 48 := by rw [IntKind.wrap_i64]; omega
            have w4 : IntKind.i64.wrap z = z := by rw [IntKind.wrap_i64]; omega
            have hrun : ∀ wx : World, (Instr.index 9 (.string s) (.int .i64 3)).run Tryd.prog wx = .ok (.int .u8 z) wx := fun wx => by
              rw [run_index_string wx _ s .i64 3 Tryd.underlying9, dif_pos ⟨by omega, hix⟩, ← hz]; rfl
            go_wp2
            go_still_tail 14, (by kernel_rfl)
            change wpList _ _ _ _ _ wr.drew
            have KV2 := Lib.hid KV.out.drew
            have KZ2 := Lib.hid KZ.out.drew
            have hbel2 := hbel.drew
            clear w1 w2 w3 w4 hrun v0 v1 v2 q0 q1 q2 r0 r1 r2 p0 p1 p2 s0 s1
            generalize wr.drew = wd at KV2 KZ2 hbel2 ⊢
            obtain ⟨v0, v1, v2, q0, q1, q2, s1⟩ := KV2.out
            go_wp2
            go_roundw
            case rel => exact ⟨4, 10 * a + z - 48, b, c, by omega, by go_num, rfl, hnext.out, KV2.out.put0 _, KZ2.out.other _ (by simp), hbel2.setCell (by simp) _⟩
            case measure => simp [intOf]
      · have ei : ((4 : Nat) : Int) = 4 := rfl
        have ek : (if 4 ≤ 4 then (0 : Int) else if 4 ≤ 7 then 1 else 2) = 0 := rfl
        rw [ek]
        have a1 : a ≤ 9999 := HR.out.a1
        have b1 : b ≤ 0 := HR.out.b1
        have c1 : c ≤ 0 := HR.out.c1
        obtain ⟨z, hz, hzz⟩ : ∃ z, ((s[4]'(by have := HSZ.out; omega)).toNat : Int) = z ∧ Hid ((nums s).getD 4 0 = z) := ⟨_, rfl, nums_at s 4 (by have := HSZ.out; omega)⟩
        have hix : (4 : Int) < s.size := by omega
        clear ek
        by_cases hd : z = 45
        · have hdb : (z != 45) = false := by simpa using hd
          have hnext := Lib.hid (HR.out.step4 (hzz.out.trans hd))
          clear hd
          go_wp2
          go_roundw
          case rel => exact ⟨5, a, b, c, by omega, by go_num, rfl, hnext.out, KV.out, KZ.out, hbel⟩
          case measure => simp [intOf]
        · have hdb : (z != 45) = true := by simpa using hd
          have hbad : Hid (¬ DateText (nums s)) := fun g => by have h5 := g.2 4 (by omega); unfold okL at h5; rw [if_pos (by decide), hzz.out] at h5; exact hd h5
          clear hd
          go_wp2
          refine bodyPost_ret (v := .tuple #[.agg #[.int .i64 0, .int .i64 0, .int .i64 0], .int .i64 5]) (by simp [results, Tryd.results7, go_sem, r0, r1, r2]) rfl (GivesDate.word hbad.out ?_)
          exact ((hbel.setCell (by simp) _).setCell (by simp) _).setCell (by simp) _
      · have ei : ((5 : Nat) : Int) = 5 := rfl
        have ek : (if 5 ≤ 4 then (0 : Int) else if 5 ≤ 7 then 1 else 2) = 1 := rfl
        rw [ek]
        have a1 : a ≤ 9999 := HR.out.a1
        have b1 : b ≤ 0 := HR.out.b1
        have c1 : c ≤ 0 := HR.out.c1
        obtain ⟨z, hz, hzz⟩ : ∃ z, ((s[5]'(by have := HSZ.out; omega)).toNat : Int) = z ∧ Hid ((nums s).getD 5 0 = z) := ⟨_, rfl, nums_at s 5 (by have := HSZ.out; omega)⟩
        have hix : (5 : Int) < s.size := by omega
        clear ek
        by_cases z0 : z < 48
        · have hbad : Hid (¬ DateText (nums s)) := fun g => by have h5 := g.2 5 (by omega); unfold okL at h5; rw [if_neg (by decide), hzz.out] at h5; omega
          go_wp2
          refine bodyPost_ret (v := .tuple #[.agg #[.int .i64 0, .int .i64 0, .int .i64 0], .int .i64 5]) (by simp [results, Tryd.results7, go_sem, r0, r1, r2]) rfl (GivesDate.word hbad.out ?_)
          exact ((hbel.setCell (by simp) _).setCell (by simp) _).setCell (by simp) _
        · by_cases z1 : 57 < z
          · have hbad : Hid (¬ DateText (nums s)) := fun g => by have h5 := g.2 5 (by omega); unfold okL at h5; rw [if_neg (by decide), hzz.out] at h5; omega
            go_wp2
            refine bodyPost_ret (v := .tuple #[.agg #[.int .i64 0, .int .i64 0, .int .i64 0], .int .i64 5]) (by simp [results, Tryd.results7, go_sem, r0, r1, r2]) rfl (GivesDate.word hbad.out ?_)
            exact ((hbel.setCell (by simp) _).setCell (by simp) _).setCell (by simp) _
          · have hnext := Lib.hid (HR.out.step5 hl10.out hzz.out (by omega) (by omega))
            have w1 : IntKind.i64.wrap (10 * b) = 10 * b := by rw [IntKind.wrap_i64]; omega
            have w2 : IntKind.i64.wrap (10 * b + z) = 10 * b + z := by rw [IntKind.wrap_i64]; omega
            have w3 : IntKind.i64.wrap (10 * b + z - 48) = 10 * b + z - 48 := by rw [IntKind.wrap_i64]; omega
            have w4 : IntKind.i64.wrap z = z := by rw [IntKind.wrap_i64]; omega
            have hrun : ∀ wx : World, (Instr.index 9 (.string s) (.int .i64 5)).run Tryd.prog wx = .ok (.int .u8 z) wx := fun wx => by
              rw [run_index_string wx _ s .i64 5 Tryd.underlying9, dif_pos ⟨by omega, hix⟩, ← hz]; rfl
            go_wp2
            go_still_tail 14, (by kernel_rfl)
            change wpList _ _ _ _ _ wr.drew
            have KV2 := Lib.hid KV.out.drew
            have KZ2 := Lib.hid KZ.out.drew
            have hbel2 := hbel.drew
            clear w1 w2 w3 w4 hrun v0 v1 v2 q0 q1 q2 r0 r1 r2 p0 p1 p2 s0 s1
            generalize wr.drew = wd at KV2 KZ2 hbel2 ⊢
            obtain ⟨v0, v1, v2, q0, q1, q2, s1⟩ := KV2.out
            go_wp2
            go_roundw
            case rel => exact ⟨6, a, 10 * b + z - 48, c, by omega, by go_num, rfl, hnext.out, KV2.out.put1 _, KZ2.out.other _ (by simp), hbel2.setCell (by simp) _⟩
            case measure => simp [intOf]
      · have ei : ((6 : Nat) : Int) = 6 := rfl
        have ek : (if 6 ≤ 4 then (0 : Int) else if 6 ≤ 7 then 1 else 2) = 1 := rfl
        rw [ek]
        have a1 : a ≤ 9999 := HR.out.a1
        have b1 : b ≤ 9 := HR.out.b1
        have c1 : c ≤ 0 := HR.out.c1
        obtain ⟨z, hz, hzz⟩ : ∃ z, ((s[6]'(by have := HSZ.out; omega)).toNat : Int) = z ∧ Hid ((nums s).getD 6 0 = z) := ⟨_, rfl, nums_at s 6 (by have := HSZ.out; omega)⟩
        have hix : (6 : Int) < s.size := by omega
        clear ek
        by_cases z0 : z < 48
        · have hbad : Hid (¬ DateText (nums s)) := fun g => by have h5 := g.2 6 (by omega); unfold okL at h5; rw [if_neg (by decide), hzz.out] at h5; omega
          go_wp2
          refine bodyPost_ret (v := .tuple #[.agg #[.int .i64 0, .int .i64 0, .int .i64 0], .int .i64 5]) (by simp [results, Tryd.results7, go_sem, r0, r1, r2]) rfl (GivesDate.word hbad.out ?_)
          exact ((hbel.setCell (by simp) _).setCell (by simp) _).setCell (by simp) _
        · by_cases z1 : 57 < z
          · have hbad : Hid (¬ DateText (nums s)) := fun g => by have h5 := g.2 6 (by omega); unfold okL at h5; rw [if_neg (by decide), hzz.out] at h5; omega
            go_wp2
            refine bodyPost_ret (v := .tuple #[.agg #[.int .i64 0, .int .i64 0, .int .i64 0], .int .i64 5]) (by simp [results, Tryd.results7, go_sem, r0, r1, r2]) rfl (GivesDate.word hbad.out ?_)
            exact ((hbel.setCell (by simp) _).setCell (by simp) _).setCell (by simp) _
          · have hnext := Lib.hid (HR.out.step6 hl10.out hzz.out (by omega) (by omega))
            have w1 : IntKind.i64.wrap (10 * b) = 10 * b := by rw [IntKind.wrap_i64]; omega
            have w2 : IntKind.i64.wrap (10 * b + z) = 10 * b + z := by rw [IntKind.wrap_i64]; omega
            have w3 : IntKind.i64.wrap (10 * b + z - 48) = 10 * b + z - 48 := by rw [IntKind.wrap_i64]; omega
            have w4 : IntKind.i64.wrap z = z := by rw [IntKind.wrap_i64]; omega
            have hrun : ∀ wx : World, (Instr.index 9 (.string s) (.int .i64 6)).run Tryd.prog wx = .ok (.int .u8 z) wx := fun wx => by
              rw [run_index_string wx _ s .i64 6 Tryd.underlying9, dif_pos ⟨by omega, hix⟩, ← hz]; rfl
            go_wp2
            go_still_tail 14, (by kernel_rfl)
            change wpList _ _ _ _ _ wr.drew
            have KV2 := Lib.hid KV.out.drew
            have KZ2 := Lib.hid KZ.out.drew
            have hbel2 := hbel.drew
            clear w1 w2 w3 w4 hrun v0 v1 v2 q0 q1 q2 r0 r1 r2 p0 p1 p2 s0 s1
            generalize wr.drew = wd at KV2 KZ2 hbel2 ⊢
            obtain ⟨v0, v1, v2, q0, q1, q2, s1⟩ := KV2.out
            go_wp2
            go_roundw
            case rel => exact ⟨7, a, 10 * b + z - 48, c, by omega, by go_num, rfl, hnext.out, KV2.out.put1 _, KZ2.out.other _ (by simp), hbel2.setCell (by simp) _⟩
            case measure => simp [intOf]
      · have ei : ((7 : Nat) : Int) = 7 := rfl
        have ek : (if 7 ≤ 4 then (0 : Int) else if 7 ≤ 7 then 1 else 2) = 1 := rfl
        rw [ek]
        have a1 : a ≤ 9999 := HR.out.a1
        have b1 : b ≤ 99 := HR.out.b1
        have c1 : c ≤ 0 := HR.out.c1
        obtain ⟨z, hz, hzz⟩ : ∃ z, ((s[7]'(by have := HSZ.out; omega)).toNat : Int) = z ∧ Hid ((nums s).getD 7 0 = z) := ⟨_, rfl, nums_at s 7 (by have := HSZ.out; omega)⟩
        have hix : (7 : Int) < s.size := by omega
        clear ek
        by_cases hd : z = 45
        · have hdb : (z != 45) = false := by simpa using hd
          have hnext := Lib.hid (HR.out.step7 (hzz.out.trans hd))
          clear hd
          go_wp2
          go_roundw
          case rel => exact ⟨8, a, b, c, by omega, by go_num, rfl, hnext.out, KV.out, KZ.out, hbel⟩
          case measure => simp [intOf]
        · have hdb : (z != 45) = true := by simpa using hd
          have hbad : Hid (¬ DateText (nums s)) := fun g => by have h5 := g.2 7 (by omega); unfold okL at h5; rw [if_pos (by decide), hzz.out] at h5; exact hd h5
          clear hd
          go_wp2
          refine bodyPost_ret (v := .tuple #[.agg #[.int .i64 0, .int .i64 0, .int .i64 0], .int .i64 5]) (by simp [results, Tryd.results7, go_sem, r0, r1, r2]) rfl (GivesDate.word hbad.out ?_)
          exact ((hbel.setCell (by simp) _).setCell (by simp) _).setCell (by simp) _
      · have ei : ((8 : Nat) : Int) = 8 := rfl
        have ek : (if 8 ≤ 4 then (0 : Int) else if 8 ≤ 7 then 1 else 2) = 2 := rfl
        rw [ek]
        have a1 : a ≤ 9999 := HR.out.a1
        have b1 : b ≤ 99 := HR.out.b1
        have c1 : c ≤ 0 := HR.out.c1
        obtain ⟨z, hz, hzz⟩ : ∃ z, ((s[8]'(by have := HSZ.out; omega)).toNat : Int) = z ∧ Hid ((nums s).getD 8 0 = z) := ⟨_, rfl, nums_at s 8 (by have := HSZ.out; omega)⟩
        have hix : (8 : Int) < s.size := by omega
        clear ek
        by_cases z0 : z < 48
        · have hbad : Hid (¬ DateText (nums s)) := fun g => by have h5 := g.2 8 (by omega); unfold okL at h5; rw [if_neg (by decide), hzz.out] at h5; omega
          go_wp2
          refine bodyPost_ret (v := .tuple #[.agg #[.int .i64 0, .int .i64 0, .int .i64 0], .int .i64 5]) (by simp [results, Tryd.results7, go_sem, r0, r1, r2]) rfl (GivesDate.word hbad.out ?_)
          exact ((hbel.setCell (by simp) _).setCell (by simp) _).setCell (by simp) _
        · by_cases z1 : 57 < z
          · have hbad : Hid (¬ DateText (nums s)) := fun g => by have h5 := g.2 8 (by omega); unfold okL at h5; rw [if_neg (by decide), hzz.out] at h5; omega
            go_wp2
            refine bodyPost_ret (v := .tuple #[.agg #[.int .i64 0, .int .i64 0, .int .i64 0], .int .i64 5]) (by simp [results, Tryd.results7, go_sem, r0, r1, r2]) rfl (GivesDate.word hbad.out ?_)
            exact ((hbel.setCell (by simp) _).setCell (by simp) _).setCell (by simp) _
          · have hnext := Lib.hid (HR.out.step8 hl10.out hzz.out (by omega) (by omega))
            have w1 : IntKind.i64.wrap (10 * c) = 10 * c := by rw [IntKind.wrap_i64]; omega
            have w2 : IntKind.i64.wrap (10 * c + z) = 10 * c + z := by rw [IntKind.wrap_i64]; omega
            have w3 : IntKind.i64.wrap (10 * c + z - 48) = 10 * c + z - 48 := by rw [IntKind.wrap_i64]; omega
            have w4 : IntKind.i64.wrap z = z := by rw [IntKind.wrap_i64]; omega
            have hrun : ∀ wx : World, (Instr.index 9 (.string s) (.int .i64 8)).run Tryd.prog wx = .ok (.int .u8 z) wx := fun wx => by
              rw [run_index_string wx _ s .i64 8 Tryd.underlying9, dif_pos ⟨by omega, hix⟩, ← hz]; rfl
            go_wp2
            go_still_tail 14, (by kernel_rfl)
            change wpList _ _ _ _ _ wr.drew
            have KV2 := Lib.hid KV.out.drew
            have KZ2 := Lib.hid KZ.out.drew
            have hbel2 := hbel.drew
            clear w1 w2 w3 w4 hrun v0 v1 v2 q0 q1 q2 r0 r1 r2 p0 p1 p2 s0 s1
            generalize wr.drew = wd at KV2 KZ2 hbel2 ⊢
            obtain ⟨v0, v1, v2, q0, q1, q2, s1⟩ := KV2.out
            go_wp2
            go_roundw
            case rel => exact ⟨9, a, b, 10 * c + z - 48, by omega, by go_num, rfl, hnext.out, KV2.out.put2 _, KZ2.out.other _ (by simp), hbel2.setCell (by simp) _⟩
            case measure => simp [intOf]
      · have ei : ((9 : Nat) : Int) = 9 := rfl
        have ek : (if 9 ≤ 4 then (0 : Int) else if 9 ≤ 7 then 1 else 2) = 2 := rfl
        rw [ek]
        have a1 : a ≤ 9999 := HR.out.a1
        have b1 : b ≤ 99 := HR.out.b1
        have c1 : c ≤ 9 := HR.out.c1
        obtain ⟨z, hz, hzz⟩ : ∃ z, ((s[9]'(by have := HSZ.out; omega)).toNat : Int) = z ∧ Hid ((nums s).getD 9 0 = z) := ⟨_, rfl, nums_at s 9 (by have := HSZ.out; omega)⟩
        have hix : (9 : Int) < s.size := by omega
        clear ek
        by_cases z0 : z < 48
        · have hbad : Hid (¬ DateText (nums s)) := fun g => by have h5 := g.2 9 (by omega); unfold okL at h5; rw [if_neg (by decide), hzz.out] at h5; omega
          go_wp2
          refine bodyPost_ret (v := .tuple #[.agg #[.int .i64 0, .int .i64 0, .int .i64 0], .int .i64 5]) (by simp [results, Tryd.results7, go_sem, r0, r1, r2]) rfl (GivesDate.word hbad.out ?_)
          exact ((hbel.setCell (by simp) _).setCell (by simp) _).setCell (by simp) _
        · by_cases z1 : 57 < z
          · have hbad : Hid (¬ DateText (nums s)) := fun g => by have h5 := g.2 9 (by omega); unfold okL at h5; rw [if_neg (by decide), hzz.out] at h5; omega
            go_wp2
            refine bodyPost_ret (v := .tuple #[.agg #[.int .i64 0, .int .i64 0, .int .i64 0], .int .i64 5]) (by simp [results, Tryd.results7, go_sem, r0, r1, r2]) rfl (GivesDate.word hbad.out ?_)
            exact ((hbel.setCell (by simp) _).setCell (by simp) _).setCell (by simp) _
          · have hnext := Lib.hid (HR.out.step9 hl10.out hzz.out (by omega) (by omega))
            have w1 : IntKind.i64.wrap (10 * c) = 10 * c := by rw [IntKind.wrap_i64]; omega
            have w2 : IntKind.i64.wrap (10 * c + z) = 10 * c + z := by rw [IntKind.wrap_i64]; omega
            have w3 : IntKind.i64.wrap (10 * c + z - 48) = 10 * c + z - 48 := by rw [IntKind.wrap_i64]; omega
            have w4 : IntKind.i64.wrap z = z := by rw [IntKind.wrap_i64]; omega
            have hrun : ∀ wx : World, (Instr.index 9 (.string s) (.int .i64 9)).run Tryd.prog wx = .ok (.int .u8 z) wx := fun wx => by
              rw [run_index_string wx _ s .i64 9 Tryd.underlying9, dif_pos ⟨by omega, hix⟩, ← hz]; rfl
            go_wp2
            go_still_tail 14, (by kernel_rfl)
            change wpList _ _ _ _ _ wr.drew
            have KV2 := Lib.hid KV.out.drew
            have KZ2 := Lib.hid KZ.out.drew
            have hbel2 := hbel.drew
            clear w1 w2 w3 w4 hrun v0 v1 v2 q0 q1 q2 r0 r1 r2 p0 p1 p2 s0 s1
            generalize wr.drew = wd at KV2 KZ2 hbel2 ⊢
            obtain ⟨v0, v1, v2, q0, q1, q2, s1⟩ := KV2.out
            go_wp2
            go_roundw
            case rel => exact ⟨10, a, b, 10 * c + z - 48, by omega, by go_num, rfl, hnext.out, KV2.out.put2 _, KZ2.out.other _ (by simp), hbel2.setCell (by simp) _⟩
            case measure => simp [intOf]
      · have ei : ((10 : Nat) : Int) = 10 := rfl
        have ek : (if 10 ≤ 4 then (0 : Int) else if 10 ≤ 7 then 1 else 2) = 2 := rfl
        rw [ek]
        have hT : Hid (DateText (nums s)) := ⟨hl10.out, HR.out.ok⟩
        have hA : Hid (a = (nAt (nums s) 0 4 : Int)) := HR.out.ae
        have hB : Hid (b = (nAt (nums s) 5 2 : Int)) := HR.out.be
        have hC : Hid (c = (nAt (nums s) 8 2 : Int)) := HR.out.ce
        clear ek
        go_wp2
        have KV2 := Lib.hid KV.out.drew
        have KZ2 := Lib.hid KZ.out.drew
        have hbel2 := hbel.drew
        go_region_held3 (fun W => W.cell? ⟨w.heap.size + 1, 0, none⟩ = some (.int .i64 a) ∧ W.cell? ⟨w.heap.size + 1, 1, none⟩ = some (.int .i64 b) ∧ W.cell? ⟨w.heap.size + 1, 2, none⟩ = some (.int .i64 c)) (first | exact ⟨KV2.out.c0, KV2.out.c1, KV2.out.c2⟩ | go_keep)
          (first
            | fail)
        all_goals
          have KD := Lib.hid ((Var3.fresh wr (.int .i64 a) (.int .i64 b) (.int .i64 c) 23 _ rfl).drew)
          have KZ3 := Lib.hid ((KZ.out.alloc (.cells #[.int .i64 a, .int .i64 b, .int .i64 c] 23)).drew)
          have hb3 : Below w.heap.size w (wr.alloc (.cells #[.int .i64 a, .int .i64 b, .int .i64 c] 23)).drew := (below_more hbel (.cells #[.int .i64 a, .int .i64 b, .int .i64 c] 23)).drew
          clear KV2 KZ2 hbel2 v0 v1 v2 q0 q1 q2 r0 r1 r2 p0 p1 p2 s0
          have hne : w.heap.size ≠ wr.heap.size := by omega
          obtain ⟨P, hP⟩ : ∃ P, wr.heap.size = P := ⟨_, rfl⟩
          rw [hP] at KD hne ⊢
          clear hP s1
          generalize (wr.alloc (.cells #[.int .i64 a, .int .i64 b, .int .i64 c] 23)).drew = wd at KD KZ3 hb3 ⊢
          obtain ⟨c0, c1, c2, q0, q1, q2, s1⟩ := KD.out
          obtain ⟨r0, r1, r2, p0, p1, p2, s0⟩ := KZ3.out
          by_cases hr : RightD a b c
          · have HY := Lib.hid (fun W => rright_yes a b c W hr)
            have hrr := Lib.hid hr
            clear hr
            go_wp2_with (go_at_call 9; (with_reducible refine (HY.out _).mono ?_); rintro e w1 ⟨rfl, g⟩; have KD2 := KD.out.after g; have KZ4 := KZ3.out.after g; have hb4 := below_step hb3 g; clear g c0 c1 c2 q0 q1 q2 r0 r1 r2 p0 p1 p2 s0 s1; obtain ⟨c0, c1, c2, q0, q1, q2, s1⟩ := KD2; obtain ⟨r0, r1, r2, p0, p1, p2, s0⟩ := KZ4)
            refine bodyPost_ret (v := .tuple #[.agg #[.int .i64 a, .int .i64 b, .int .i64 c], .int .i64 0]) (by simp [results, Tryd.results7, go_sem, r0, r1, r2]) rfl ⟨a, b, c, 0, rfl, Or.inr (Or.inr ⟨hT.out, by rw [← hA.out, ← hB.out, ← hC.out]; exact hrr.out, hA.out, hB.out, hC.out, rfl⟩), ?_⟩
            exact ((hb4.setCell (by simp) _).setCell (by simp) _).setCell (by simp) _
          · have HY := Lib.hid (fun W => rright_no a b c W hr)
            have hrr := Lib.hid hr
            clear hr
            go_wp2_with (go_at_call 9; (with_reducible refine (HY.out _).mono ?_); rintro e w1 ⟨rfl, g⟩; have KD2 := KD.out.after g; have KZ4 := KZ3.out.after g; have hb4 := below_step hb3 g; clear g c0 c1 c2 q0 q1 q2 r0 r1 r2 p0 p1 p2 s0 s1; obtain ⟨c0, c1, c2, q0, q1, q2, s1⟩ := KD2; obtain ⟨r0, r1, r2, p0, p1, p2, s0⟩ := KZ4)
            refine bodyPost_ret (v := .tuple #[.agg #[.int .i64 0, .int .i64 0, .int .i64 0], .int .i64 8]) (by simp [results, Tryd.results7, go_sem, r0, r1, r2]) rfl ⟨0, 0, 0, 8, rfl, Or.inr (Or.inl ⟨hT.out, by rw [← hA.out, ← hB.out, ← hC.out]; exact hrr.out, rfl, rfl, rfl, rfl⟩), ?_⟩
            exact ((hb4.setCell (by simp) _).setCell (by simp) _).setCell (by simp) _
  · have hbad : Hid (¬ DateText (nums s)) := fun g => hs (by rw [← hlen.out]; exact g.1)
    have hsb : ((s.size : Int) != 10) = true := by simp; omega
    obtain ⟨r0, r1, r2, p0, p1, p2, s0⟩ := MR.out
    have hbel : Below w.heap.size w (w.alloc (.cells #[.int .i64 0, .int .i64 0, .int .i64 0] 23)) := (Below.refl _ _).alloc (Nat.le_refl _) _
    clear hs
    go_enter Tryd.func7, Tryd.ntmps7
    go_wp2
    refine bodyPost_ret (v := .tuple #[.agg #[.int .i64 0, .int .i64 0, .int .i64 0], .int .i64 5]) (by simp [results, Tryd.results7, go_sem, r0, r1, r2]) rfl (GivesDate.word hbad.out ?_)
    first | exact hbel | exact ((hbel.setCell (Nat.le_refl _) _).setCell (Nat.le_refl _) _).setCell (Nat.le_refl _) _

end Go.Proofs.YthhaineoflpkkaaDoor
