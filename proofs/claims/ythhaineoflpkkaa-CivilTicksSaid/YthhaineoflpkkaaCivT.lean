/-
  The document's own calendar, walked: Tick, At.
-/
import Derived.Test.YthhaineoflpkkaaCivS
import Derived.Deep.LoopGhost
namespace Go.Proofs.Ythhaineoflpkkaa
open Go.RowKit

theorem Var3.put0 {W : World} {p : Nat} {x y z : Value} (k : Var3 W p x y z) (v : Value) : Var3 (W.setCell ⟨p, 0, none⟩ v) p v y z :=
  ⟨World.cell?_setCell_same _ _ _ k.c0, by rw [World.cell?_setCell_other _ _ _ _ (by simp)]; exact k.c1, by rw [World.cell?_setCell_other _ _ _ _ (by simp)]; exact k.c2, by rw [World.frozen?_setCell]; exact k.q0, by rw [World.frozen?_setCell]; exact k.q1, by rw [World.frozen?_setCell]; exact k.q2, by simpa using k.s⟩
theorem Var3.put1 {W : World} {p : Nat} {x y z : Value} (k : Var3 W p x y z) (v : Value) : Var3 (W.setCell ⟨p, 1, none⟩ v) p x v z :=
  ⟨by rw [World.cell?_setCell_other _ _ _ _ (by simp)]; exact k.c0, World.cell?_setCell_same _ _ _ k.c1, by rw [World.cell?_setCell_other _ _ _ _ (by simp)]; exact k.c2, by rw [World.frozen?_setCell]; exact k.q0, by rw [World.frozen?_setCell]; exact k.q1, by rw [World.frozen?_setCell]; exact k.q2, by simpa using k.s⟩
theorem Var3.put2 {W : World} {p : Nat} {x y z : Value} (k : Var3 W p x y z) (v : Value) : Var3 (W.setCell ⟨p, 2, none⟩ v) p x y v :=
  ⟨by rw [World.cell?_setCell_other _ _ _ _ (by simp)]; exact k.c0, by rw [World.cell?_setCell_other _ _ _ _ (by simp)]; exact k.c1, World.cell?_setCell_same _ _ _ k.c2, by rw [World.frozen?_setCell]; exact k.q0, by rw [World.frozen?_setCell]; exact k.q1, by rw [World.frozen?_setCell]; exact k.q2, by simpa using k.s⟩
theorem Var3.other {W : World} {p : Nat} {x y z : Value} (k : Var3 W p x y z) {a : Addr} (v : Value) (h : a.block ≠ p) : Var3 (W.setCell a v) p x y z :=
  have ne : ∀ i, a ≠ (⟨p, i, none⟩ : Addr) := fun i e => h (by rw [e])
  ⟨by rw [World.cell?_setCell_other _ _ _ _ (ne 0)]; exact k.c0, by rw [World.cell?_setCell_other _ _ _ _ (ne 1)]; exact k.c1, by rw [World.cell?_setCell_other _ _ _ _ (ne 2)]; exact k.c2, by rw [World.frozen?_setCell]; exact k.q0, by rw [World.frozen?_setCell]; exact k.q1, by rw [World.frozen?_setCell]; exact k.q2, by simpa using k.s⟩

set_option maxRecDepth 100000 in
set_option maxHeartbeats 2000000 in
theorem rtick_any (y m d : Int) (w : World) (h : RightD y m d) :
    Calls Try.prog 16 #[.agg #[.int .i64 y, .int .i64 m, .int .i64 d]] w fun e w' => e = .returned (.int .i64 (tickI y m d)) ∧ Below w.heap.size w w' := by
  obtain ⟨K, hK⟩ : ∃ K : Nat, y = 1970 + (K : Int) := ⟨(y - 1970).toNat, by have := h.y0; omega⟩
  obtain ⟨J, hJ⟩ : ∃ J : Nat, m = 1 + (J : Int) := ⟨(m - 1).toNat, by have := h.m0; omega⟩
  have HT : Hid (tickI y m d = 86400 * (dby K + dbm y J + (d - 1))) := by
    unfold Hid tickI dayI
    rw [show (y - 1970).toNat = K by omega, show (m - 1).toNat = J by omega]
  have K9 : (K : Int) ≤ 8029 := by have := h.y1; omega
  have J9 : (J : Int) ≤ 11 := by have := h.m1; omega
  have d0 := h.d0
  have d9 : d ≤ 31 := by have := h.d1; have := daysI_bd y m; omega
  have M := Var3.fresh w (.int .i64 y) (.int .i64 m) (.int .i64 d) 24 _ rfl
  have DD : Below w.heap.size w (w.alloc (.cells #[.int .i64 y, .int .i64 m, .int .i64 d] 24)) := (Below.refl _ _).alloc (Nat.le_refl _) _
  have HK := Lib.hid hK
  have HJ := Lib.hid hJ
  clear h hK hJ
  go_enter Try.func16, Try.ntmps16
  go_wp2
  generalize w.alloc (.cells #[.int .i64 y, .int .i64 m, .int .i64 d] 24) = W0 at M DD ⊢
  obtain ⟨c0, c1, c2, _, _, _, _⟩ := M
  have M : Hid (W0.cell? ⟨w.heap.size, 0, none⟩ = some (.int .i64 y) ∧ W0.cell? ⟨w.heap.size, 1, none⟩ = some (.int .i64 m) ∧ W0.cell? ⟨w.heap.size, 2, none⟩ = some (.int .i64 d) ∧ w.heap.size < W0.heap.size) := ⟨c0, c1, c2, by assumption⟩
  go_loop [3, 4] (fun v3 v4 => ∃ k : Nat, k ≤ K ∧ v4 = .int .i64 (1970 + (k : Int)) ∧ v3 = .int .i64 (dby k)) (fun _ v4 => 10000 - (intOf v4).toNat)
  case atStart => exact ⟨0, Nat.zero_le _, rfl, rfl⟩
  case round =>
    obtain ⟨k, hk, rfl, rfl⟩ := hrel
    have hbd := dby_bd k
    obtain ⟨N, hN⟩ : ∃ N, dby k = N := ⟨_, rfl⟩
    rw [hN] at hbd
    have n0 : 0 ≤ N := by omega
    have n1 : N ≤ 3000000 := by omega
    clear hbd
    by_cases hlt : k < K
    · have hyi : 1970 + (k : Int) < y := by have := HK.out; omega
      have hyb := yearI_bd (1970 + (k : Int))
      obtain ⟨x, hx⟩ : ∃ x, yearI (1970 + (k : Int)) = x := ⟨_, rfl⟩
      rw [hx] at hyb
      obtain ⟨x0, x1⟩ := hyb
      have hst : Hid (dby (k + 1) = N + x) := by unfold Hid; rw [dby, hN, hx]
      have HY := Lib.hid (fun w => ryear_any (1970 + (k : Int)) w)
      rw [hx] at HY
      replace hN := Lib.hid hN
      clear hx
      rw [hN.out]
      go_wp2_with (go_at_call 23; (with_reducible refine (HY.out _).mono ?_); rintro e w1 ⟨rfl, rfl⟩)
      go_round
      case rel => exact ⟨k + 1, by omega, congrArg (Value.int IntKind.i64) (by omega), by rw [hst.out]⟩
      case measure => simp [intOf]; omega
    · obtain rfl : k = K := by omega
      have hyi : ¬ 1970 + (k : Int) < y := by have := HK.out; omega
      have HN := Lib.hid hN
      rw [hN]
      clear hN
      go_wp2
      go_loopw [3, 5] (fun v3 v5 wr => ∃ j : Nat, j ≤ J ∧ v5 = .int .i64 (1 + (j : Int)) ∧ v3 = .int .i64 (N + dbm y j) ∧ Below W0.heap.size W0 wr) (fun _ v5 _ => 100 - (intOf v5).toNat)
      case atStart => exact ⟨0, Nat.zero_le _, rfl, by rw [show dbm y 0 = 0 from rfl]; simp, Below.refl _ _⟩
      case round =>
        obtain ⟨j, hj, rfl, rfl, hbel⟩ := hrel
        have hmb := dbm_bd y j (by omega)
        obtain ⟨B, hB⟩ : ∃ B, dbm y j = B := ⟨_, rfl⟩
        rw [hB] at hmb
        obtain ⟨b0, b1⟩ := hmb
        have k0 := (hbel.cell (p := ⟨w.heap.size, 0, none⟩) M.out.2.2.2).trans M.out.1
        have k1 := (hbel.cell (p := ⟨w.heap.size, 1, none⟩) M.out.2.2.2).trans M.out.2.1
        have k2 := (hbel.cell (p := ⟨w.heap.size, 2, none⟩) M.out.2.2.2).trans M.out.2.2.1
        clear c0 c1 c2
        by_cases hlt2 : j < J
        · have hmi : 1 + (j : Int) < m := by have := HJ.out; omega
          have hdb := daysI_bd y (1 + (j : Int))
          obtain ⟨x, hx⟩ : ∃ x, daysI y (1 + (j : Int)) = x := ⟨_, rfl⟩
          rw [hx] at hdb
          obtain ⟨x0, x1⟩ := hdb
          have hst : Hid (dbm y (j + 1) = B + x) := by unfold Hid; rw [dbm, hB, hx]
          have HY := Lib.hid (fun w => rdays_any y (1 + (j : Int)) w)
          rw [hx] at HY
          replace hB := Lib.hid hB
          clear hx
          rw [hB.out]
          go_wp2_with (go_at_call 14; (with_reducible refine (HY.out _).mono ?_); rintro e w1 ⟨rfl, g⟩; have hbel := below_step hbel g; clear g)
          go_roundw
          case rel => exact ⟨j + 1, by omega, congrArg (Value.int IntKind.i64) (by omega), by rw [hst.out]; exact congrArg (Value.int IntKind.i64) (by omega), hbel⟩
          case measure => simp [intOf]; omega
        · obtain rfl : j = J := by omega
          have hmi : ¬ 1 + (j : Int) < m := by have := HJ.out; omega
          have HB := Lib.hid hB
          rw [hB]
          clear hB
          go_wp2
          go_ret
          exact ⟨by rw [HT.out, HN.out, HB.out]; rfl, below_step DD hbel⟩

/-- At the head of a round of years: so many days are left, from that year on. -/
structure YearAt (n : Int) (k : Nat) (left : Int) : Prop where
  l0 : 0 ≤ left
  is : n = dby k + left
/-- In the year: so many days are left, from that month on. -/
structure MonAt (n : Int) (K j : Nat) (left : Int) : Prop where
  l0 : 0 ≤ left
  is : n = dby K + dbm (1970 + (K : Int)) j + left
  yr : n < dby K + yearI (1970 + (K : Int))
theorem MonAt.room {n left : Int} {K j : Nat} (h : MonAt n K j left) : j < 12 := by
  by_cases hj : j < 12
  · exact hj
  · have h1 := dbm_mono (1970 + (K : Int)) 12 (j - 12)
    rw [show 12 + (j - 12) = j by omega, dbm_year] at h1
    have := h.l0; have := h.is; have := h.yr
    omega
theorem YearAt.room {n left : Int} {k : Nat} (h : YearAt n k left) (hn : n ≤ 2932896) : (k : Int) ≤ 8035 ∧ left ≤ 2932896 := by
  have h1 := dby_bd k
  have := h.l0; have := h.is
  omega
/-- The last year is 9999. -/
theorem yearI_cycle (y : Int) : yearI (y + 400) = yearI y := by
  unfold yearI leapB
  rw [show (y + 400) % 400 = y % 400 by omega, show (y + 400) % 4 = y % 4 by omega, show (y + 400) % 100 = y % 100 by omega]
theorem dby_cycle (k : Nat) : dby (k + 400) = dby k + 146097 := by
  induction k with
  | zero => decide +kernel
  | succ k ih =>
    rw [show k + 1 + 400 = (k + 400) + 1 by omega, dby, ih, dby, show 1970 + ((k + 400 : Nat) : Int) = 1970 + (k : Int) + 400 by omega, yearI_cycle]
    omega
theorem dby_cycles (k j : Nat) : dby (k + 400 * j) = dby k + 146097 * (j : Int) := by
  induction j with
  | zero => simp
  | succ j ih => rw [show k + 400 * (j + 1) = (k + 400 * j) + 400 by omega, dby_cycle, ih]; omega
theorem dby_all : dby 8030 = 2932897 := by
  have h := dby_cycles 30 20
  have e : dby 30 = 10957 := by decide +kernel
  rw [e] at h
  exact h
theorem YearAt.year {n left : Int} {k : Nat} (h : YearAt n k left) (hn : n ≤ 2932896) : k < 8030 := by
  by_cases hk : k < 8030
  · exact hk
  · have h1 := dby_mono 8030 (k - 8030)
    rw [show 8030 + (k - 8030) = k by omega, dby_all] at h1
    have := h.l0; have := h.is
    omega
/-- What At hands back. -/
def GivesAt (t : Int) (w : World) (e : Ending) (w' : World) : Prop := ∃ y m d : Int, e = .returned (.agg #[.int .i64 y, .int .i64 m, .int .i64 d]) ∧ RightD y m d ∧ tickI y m d = t / 86400 * 86400 ∧ Below w.heap.size w w'
theorem MonAt.date {n left : Int} {K j : Nat} (h : MonAt n K j left) (hK : K < 8030) (hd : left < daysI (1970 + (K : Int)) (1 + (j : Int))) : RightD (1970 + (K : Int)) (1 + (j : Int)) (left + 1) ∧ tickI (1970 + (K : Int)) (1 + (j : Int)) (left + 1) = n * 86400 := by
  have hj := h.room
  refine ⟨⟨by omega, by omega, by omega, by omega, by have := h.l0; omega, by omega⟩, ?_⟩
  unfold tickI dayI
  rw [show (1970 + (K : Int) - 1970).toNat = K by omega, show (1 + (j : Int) - 1).toNat = j by omega]
  have := h.is
  omega

set_option maxRecDepth 100000 in
set_option maxHeartbeats 4000000 in
theorem rat_any (t : Int) (w : World) (t0 : 0 ≤ t) (t1 : t ≤ 253402300799) :
    Calls Try.prog 9 #[.int .i64 t] w (GivesAt t w) := by
  obtain ⟨n, hn⟩ : ∃ n, t / 86400 = n := ⟨_, rfl⟩
  have n0 : 0 ≤ n := by omega
  have n1 : n ≤ 2932896 := by omega
  have HN := Lib.hid hn
  clear hn
  have MR := Lib.hid ((Var3.fresh w (.int .i64 0) (.int .i64 0) (.int .i64 0) 24 _ rfl).alloc (.cells #[.int .i64 1970, .int .i64 1, .int .i64 0] 24))
  have MD := Lib.hid (Var3.fresh (w.alloc (.cells #[.int .i64 0, .int .i64 0, .int .i64 0] 24)) (.int .i64 1970) (.int .i64 1) (.int .i64 0) 24 _ rfl)
  have DD := Lib.hid (show Below w.heap.size w ((w.alloc (.cells #[.int .i64 0, .int .i64 0, .int .i64 0] 24)).alloc (.cells #[.int .i64 1970, .int .i64 1, .int .i64 0] 24)) from ((Below.refl _ _).alloc (Nat.le_refl _) _).alloc (by simp) _)
  have hps : (w.alloc (.cells #[.int .i64 0, .int .i64 0, .int .i64 0] 24)).heap.size = w.heap.size + 1 := by simp
  rw [hps] at MD
  clear hps
  go_enter Try.func9, Try.ntmps9
  go_wp2
  go_loopw [3] (fun v3 wr => ∃ (k : Nat) (left : Int), v3 = .int .i64 left ∧ YearAt n k left ∧ Var3 wr w.heap.size (.int .i64 0) (.int .i64 0) (.int .i64 0) ∧ Var3 wr (w.heap.size + 1) (.int .i64 (1970 + (k : Int))) (.int .i64 1) (.int .i64 0) ∧ Below w.heap.size w wr) (fun v3 _ => (intOf v3).toNat)
  case atStart => exact ⟨0, n, by rw [HN.out], ⟨n0, by rw [show dby 0 = 0 from rfl]; omega⟩, MR.out, MD.out, DD.out⟩
  case round =>
    obtain ⟨k, left, rfl, hY, hR, hD, hbel⟩ := hrel
    have HY := Lib.hid hY
    have HR := Lib.hid hR
    have HD := Lib.hid hD
    obtain ⟨k9, l9⟩ := hY.room n1
    have k8 := hY.year n1
    have l0 := hY.l0
    obtain ⟨c0, c1, c2, q0, q1, q2, s1⟩ := hD
    obtain ⟨r0, r1, r2, p0, p1, p2, s0⟩ := hR
    clear hY
    have hyb := yearI_bd (1970 + (k : Int))
    obtain ⟨x, hx⟩ : ∃ x, yearI (1970 + (k : Int)) = x := ⟨_, rfl⟩
    rw [hx] at hyb
    obtain ⟨x0, x1⟩ := hyb
    have HX := Lib.hid (fun w => ryear_any (1970 + (k : Int)) w)
    rw [hx] at HX
    by_cases hge : x ≤ left
    · have hnext : Hid (YearAt n (k + 1) (left - x)) := ⟨by omega, by have := HY.out.is; rw [dby, hx]; omega⟩
      clear hx
      go_wp2_with (go_at_call 23; (with_reducible refine (HX.out _).mono ?_); rintro e w1 ⟨rfl, rfl⟩)
      go_roundw
      case rel => exact ⟨k + 1, left - x, rfl, hnext.out, HR.out.other _ (by simp), by rw [show 1970 + (((k + 1 : Nat)) : Int) = 1970 + (k : Int) + 1 by omega]; exact HD.out.put0 _, hbel.setCell (by simp) _⟩
      case measure => simp [intOf]; omega
    · have hM : Hid (MonAt n k 0 left) := ⟨l0, by have := HY.out.is; rw [show dbm (1970 + (k : Int)) 0 = 0 from rfl]; omega, by have := HY.out.is; rw [hx]; omega⟩
      have hgi : ¬ x ≤ left := hge
      clear hx
      go_wp2_with (go_at_call 23; (with_reducible refine (HX.out _).mono ?_); rintro e w1 ⟨rfl, rfl⟩)
      clear c0 c1 c2 q0 q1 q2 r0 r1 r2 p0 p1 p2 s0 s1
      go_loopw [3] (fun v3 wr => ∃ (j : Nat) (lf : Int), v3 = .int .i64 lf ∧ MonAt n k j lf ∧ lf ≤ left ∧ Var3 wr w.heap.size (.int .i64 0) (.int .i64 0) (.int .i64 0) ∧ Var3 wr (w.heap.size + 1) (.int .i64 (1970 + (k : Int))) (.int .i64 (1 + (j : Int))) (.int .i64 0) ∧ Below w.heap.size w wr) (fun v3 _ => (intOf v3).toNat)
      case atStart => exact ⟨0, left, rfl, hM.out, Int.le_refl _, HR.out, HD.out, hbel⟩
      case round =>
        obtain ⟨j, lf, rfl, hJ, hle, hR2, hD2, hbel2⟩ := hrel
        have HJ := Lib.hid hJ
        have j9 := hJ.room
        have l02 := hJ.l0
        clear hJ
        have hdb := daysI_in (1970 + (k : Int)) (m := 1 + (j : Int)) (by omega) (by omega)
        have hdc := daysI_bd (1970 + (k : Int)) (1 + (j : Int))
        obtain ⟨z, hz⟩ : ∃ z, daysI (1970 + (k : Int)) (1 + (j : Int)) = z := ⟨_, rfl⟩
        have HZ := Lib.hid (fun w => rdays_any (1970 + (k : Int)) (1 + (j : Int)) w)
        rw [hz] at HZ hdb hdc
        obtain ⟨_, z1⟩ := hdc
        have KR := Lib.hid hR2
        have KD := Lib.hid hD2
        obtain ⟨c0, c1, c2, q0, q1, q2, s1⟩ := hD2
        obtain ⟨r0, r1, r2, p0, p1, p2, s0⟩ := hR2
        by_cases hge2 : z ≤ lf
        · have hnext : Hid (MonAt n k (j + 1) (lf - z)) := ⟨by omega, by have := HJ.out.is; rw [dbm, hz]; omega, HJ.out.yr⟩
          clear hz
          go_wp2_with (go_at_call 14; (with_reducible refine (HZ.out _).mono ?_); rintro e w1 ⟨rfl, g⟩; have KR := Lib.hid (KR.out.after g); have KD := Lib.hid (KD.out.after g); obtain ⟨c0, c1, c2, q0, q1, q2, s1⟩ := KD.out; obtain ⟨r0, r1, r2, p0, p1, p2, s0⟩ := KR.out; have hbel2 := below_step hbel2 g; clear g)
          go_roundw
          case rel => exact ⟨j + 1, lf - z, rfl, hnext.out, by omega, KR.out.other _ (by simp), by rw [show 1 + (((j + 1 : Nat)) : Int) = 1 + (j : Int) + 1 by omega]; exact KD.out.put1 _, hbel2.setCell (by simp) _⟩
          case measure => simp [intOf]; omega
        · have hdate := Lib.hid (HJ.out.date k8 (by rw [hz]; omega))
          have hgi2 : ¬ z ≤ lf := hge2
          clear hz
          go_wp2_with (go_at_call 14; (with_reducible refine (HZ.out _).mono ?_); rintro e w1 ⟨rfl, g⟩; have KR := Lib.hid (KR.out.after g); have KD := Lib.hid (KD.out.after g); obtain ⟨c0, c1, c2, q0, q1, q2, s1⟩ := KD.out; obtain ⟨r0, r1, r2, p0, p1, p2, s0⟩ := KR.out; have hbel2 := below_step hbel2 g; clear g)
          refine bodyPost_ret (v := .agg #[.int .i64 (1970 + (k : Int)), .int .i64 (1 + (j : Int)), .int .i64 (lf + 1)]) (by simp [results, Try.results9, go_sem, r0, r1, r2]) rfl ⟨_, _, _, rfl, hdate.out.1, by rw [hdate.out.2, HN.out], ?_⟩
          exact (((hbel2.setCell (by simp) _).setCell (by simp) _).setCell (by simp) _).setCell (by simp) _

end Go.Proofs.Ythhaineoflpkkaa
