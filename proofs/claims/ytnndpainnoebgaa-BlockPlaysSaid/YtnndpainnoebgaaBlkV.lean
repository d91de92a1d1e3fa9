/-
  The document's own disk of layer 9, walked: Crash.
-/
import Derived.Test.YtnndpainnoebgaaBlkU
import Derived.Test.YtnndpainnoebgaaVars
namespace Go.Proofs.Ytnndpainnoebgaa
open Go.RowKit

/-- What lasts behind so many rounds of a crash. -/
def crashAt (D : Dsk) (keep torn : Int) (i : Nat) : List Int := if i ≤ keep.toNat then seenAt D.last D.waits i else D.left keep torn
theorem crash_zero (D : Dsk) (keep torn : Int) : crashAt D keep torn 0 = D.last := by unfold crashAt; rw [if_pos (Nat.zero_le _)]; rfl
/-- What is laid in a round. -/
def tornP (keep torn : Int) (i : Nat) (p : Nat × List Int) : Nat × List Int := if i = keep.toNat then (p.1, p.2.take torn.toNat) else p
theorem crash_step {D : Dsk} {keep torn : Int} {i : Nat} (hi : i < D.waits.length) (hk : i ≤ keep.toNat) : crashAt D keep torn (i + 1) = layL (crashAt D keep torn i) (tornP keep torn i (D.waits.getD i (0, []))) := by
  have h0 : crashAt D keep torn i = seenAt D.last D.waits i := if_pos hk
  rw [h0]
  unfold crashAt tornP
  by_cases h : i = keep.toNat
  · rw [if_neg (by omega), if_pos h]
    unfold Dsk.left
    rw [← h, List.getElem?_eq_getElem hi, List.getD_eq_getElem?_getD, List.getElem?_eq_getElem hi]
    rfl
  · rw [if_pos (by omega), if_neg h]
    exact seenAt_next _ _ _ hi
theorem crash_end {D : Dsk} {keep torn : Int} {i : Nat} (h : i = D.waits.length ∧ i ≤ keep.toNat ∨ i = keep.toNat + 1) : crashAt D keep torn i = D.left keep torn := by
  unfold crashAt
  rcases h with ⟨h, hk⟩ | h
  · rw [if_pos hk, h, seenAt_all]
    unfold Dsk.left
    rw [List.getElem?_eq_none (by omega)]
  · rw [if_neg (by omega)]
theorem crash_fit {D : Dsk} (h : D.Ok) {keep torn : Int} {i : Nat} (hi : i < D.waits.length) : (tornP keep torn i (D.waits.getD i (0, []))).1 + (tornP keep torn i (D.waits.getD i (0, []))).2.length ≤ D.n * D.size ∧ (D.waits.getD i (0, [])).2.length = D.size ∧ ∀ z ∈ (tornP keep torn i (D.waits.getD i (0, []))).2, 0 ≤ z ∧ z ≤ 255 := by
  have hm : D.waits.getD i (0, []) ∈ D.waits := by rw [List.getD_eq_getElem?_getD, List.getElem?_eq_getElem hi]; exact List.getElem_mem hi
  obtain ⟨⟨j, hj, e⟩, h2, h3⟩ := h.w _ hm
  have hf := fit (size := D.size) hj
  unfold tornP
  split
  · refine ⟨?_, h2, fun z hz => h3 z (List.mem_of_mem_take hz)⟩
    show _ + (List.take _ _).length ≤ _
    rw [List.length_take, e]; omega
  · exact ⟨by rw [e, h2]; exact hf, h2, h3⟩
theorem crash_ok {D : Dsk} (h : D.Ok) (keep torn : Int) (i : Nat) : (crashAt D keep torn i).length = D.n * D.size ∧ ∀ z ∈ crashAt D keep torn i, 0 ≤ z ∧ z ≤ 255 := by
  unfold crashAt
  split
  · exact fold_ok (fun q hq => h.w q (List.mem_of_mem_take hq)) D.last h.ll h.lb
  · exact h.left keep torn
/-- The disk in the midst of a crash. -/
def midD (D : Dsk) (keep torn : Int) (i : Nat) : Dsk := { D with last := crashAt D keep torn i }
theorem mid_ok {D : Dsk} (h : D.Ok) (keep torn : Int) (i : Nat) : (midD D keep torn i).Ok := by
  obtain ⟨k1, k2⟩ := crash_ok h keep torn i
  obtain ⟨n0, n1, s0, s1, ll, lb, w, wd, f0, f1⟩ := h
  exact ⟨n0, n1, s0, s1, k1, k2, w, wd, f0, f1⟩

/-- What each operation of 'd.Last = lay(d.Last, w)' has made. -/
def TL (r M : Nat) (L X L2 : ByteArray) : Nat → Value → World → Prop
  | 0, v, _ => v = .pointer (some ⟨r, 0, none⟩)
  | 1, v, _ => v = .pointer (some ⟨r, 0, none⟩)
  | 2, v, _ => v = .pointer (some ⟨r, 0, none⟩)
  | 3, v, _ => v = .pointer (some ⟨r, 2, none⟩)
  | 4, v, _ => v = .string L
  | 5, v, _ => v = .agg #[.int .i64 (M : Int), .string X]
  | 6, v, _ => v = .string L2
  | _, _, _ => True
theorem TL.keep {r M : Nat} {L X L2 : ByteArray} (i : Nat) (v : Value) (w w' : World) (h : TL r M L X L2 i v w) (_hb : Below w.heap.size w w') : TL r M L X L2 i v w' := by
  match i, h with
  | 0, h => exact h
  | 1, h => exact h
  | 2, h => exact h
  | 3, h => exact h
  | 4, h => exact h
  | 5, h => exact h
  | 6, h => exact h
  | n + 7, _ => exact trivial
theorem Var2.put1 {W : World} {p : Nat} {x y : Value} (k : Var2 W p x y) (z : Value) : Var2 (W.setCell ⟨p, 1, none⟩ z) p x z := by
  obtain ⟨c0, c1, q0, q1, s⟩ := k
  refine ⟨?_, ?_, ?_, ?_, by simpa using s⟩
  all_goals first | (rw [World.frozen?_setCell]; assumption) | simp [go_sem, *]

set_option maxRecDepth 100000 in
set_option maxHeartbeats 8000000 in
theorem brcrash_pos (base : Nat) (O : Foot) (r : Nat) (D : Dsk) (keep torn : Int) (w : World) (h : RefIs w base O r D) (hd : D.deeds ≤ 1000000) (k0 : 0 ≤ keep) (k1 : keep ≤ 9223372036854775807) :
    Calls Try.prog 16 #[.pointer (some ⟨r, 0, none⟩), .int .i64 keep, .int .i64 torn] w fun e w' => e = .returned (.tuple #[]) ∧ RefTo base O r (D.crash keep torn) w w' := by
  have HOK := Lib.hid h.ok
  have HCO := Lib.hid (h.ok.crash keep torn)
  obtain ⟨K, rfl⟩ : ∃ K : Nat, keep = (K : Int) := ⟨keep.toNat, by omega⟩
  obtain ⟨N, hN⟩ : ∃ N, D.waits.length = N := ⟨_, rfl⟩
  have HN := Lib.hid hN
  have hNw : N ≤ 1000000 := by have := h.ok.wd; omega
  have HR0 : Hid (RefIs w base O r (midD D (K : Int) torn 0)) := by unfold Hid midD; rw [crash_zero]; exact h
  have HO := Lib.hid (And.intro h.mem (h.own r h.mem).1)
  have hkn : ¬ (K : Int) < 0 := by omega
  clear h hN
  go_enter Try.func16, Try.ntmps16
  go_wp2
  go_loopw [6] (fun v6 wr => ∃ i : Nat, v6 = .int .i64 (i : Int) ∧ i ≤ N ∧ i ≤ K + 1 ∧ RefIs wr base O r (midD D (K : Int) torn i) ∧ OnlyO base O w wr) (fun v6 _ => N - (intOf v6).toNat)
  case atStart => exact ⟨0, rfl, Nat.zero_le _, Nat.zero_le _, HR0.out, OnlyO.refl _ _ _⟩
  case round =>
    obtain ⟨i, rfl, hi, hiK, hR, hG⟩ := hrel
    obtain ⟨E, hE⟩ : ∃ E, midD D (K : Int) torn i = E := ⟨_, rfl⟩
    have HE := Lib.hid hE
    rw [hE] at hR
    have HRr := Lib.hid hR
    have HG := Lib.hid hG
    have hEw : E.waits = D.waits := by rw [← hE]; rfl
    obtain ⟨av, vcap, hDr, hcells⟩ := hR.waits
    have d3 := hDr.c3
    rw [hEw] at d3 hcells
    rw [HN.out] at d3 hcells
    have HDr := Lib.hid hDr
    clear hG hDr hR hE hEw
    by_cases hlt : i < N ∧ i ≤ K
    case neg =>
      have hdone : Hid (crashAt D (K : Int) torn i = D.left (K : Int) torn) := crash_end (by rw [HN.out, Int.toNat_natCast]; omega)
      have hw : (i : Int) < (N : Int) ∧ ¬ (i : Int) ≤ (K : Int) ∨ ¬ (i : Int) < (N : Int) := by omega
      have hDA := HDr.out
      have c4 := hDA.c4
      have c5 := hDA.c5
      have q3 := hDA.q 3
      have q4 := hDA.q 4
      have q5 := hDA.q 5
      clear hcells hDA hlt
      rcases hw with ⟨hw1, hw2⟩ | hw1
      all_goals
        go_wp2
        go_end0
        have hset := ((HDr.out.set.2.1 (.slice none 0 0)).set.2.2.2.1 false).set.2.2.1 (-1)
        refine ⟨rfl, O, HRr.out.upd (D' := D.crash (K : Int) torn) (v := .slice none 0 0) ?_ (World.ownsRow_nil _ _ _ _) (fun g hg => by cases hg) HCO.out (fun j hj hne => ?_) (by simp), ((HG.out.set HO.out.1 HO.out.2 _ _).set HO.out.1 HO.out.2 _ _).set HO.out.1 HO.out.2 _ _, Grown.refl _ _⟩
        · rw [← HE.out] at hset
          show DiskAt _ r D.n D.size (strOfNums (D.left (K : Int) torn)) _ (-1) false D.deeds
          rw [← hdone.out]
          exact hset
        · exact ((set_other _ r 4 _ j (by simpa using hj) hne).trans (set_other _ r 5 _ j (by simpa using hj) hne)).trans (set_other _ r 3 _ j hj hne)
    case pos =>
    obtain ⟨hlt, hle⟩ := hlt
    obtain ⟨g, rfl, hg, q0, q1⟩ := hcells i hlt
    obtain ⟨p, hp⟩ : ∃ p, D.waits.getD i (0, []) = p := ⟨_, rfl⟩
    rw [hp] at q0 q1
    have hst := crash_step (D := D) (keep := (K : Int)) (torn := torn) (i := i) (by rw [HN.out]; exact hlt) (by rw [Int.toNat_natCast]; exact hle)
    obtain ⟨hf1, hf2, hf3⟩ := crash_fit (keep := (K : Int)) (torn := torn) HOK.out (i := i) (by rw [HN.out]; exact hlt)
    rw [hp] at hst hf1 hf2 hf3
    obtain ⟨L, hL⟩ : ∃ L, crashAt D (K : Int) torn i = L := ⟨_, rfl⟩
    have hlk := crash_ok HOK.out (K : Int) torn i
    rw [hL] at hst hlk
    have hmost := HOK.out.most
    have HL0 : Hid (strOfNums E.last = strOfNums L) := by unfold Hid; rw [← HE.out, ← hL]; rfl
    have HLAY0 := Lib.hid (fun w' => blay_any L (tornP (K : Int) torn i p) w' hlk.2 (by rw [hlk.1]; omega) (by rw [hlk.1]; exact hf1))
    rw [← hst] at HLAY0
    obtain ⟨L0, hL0⟩ : ∃ x, strOfNums L = x := ⟨_, rfl⟩
    obtain ⟨L2, hL2⟩ : ∃ x, strOfNums (crashAt D (K : Int) torn (i + 1)) = x := ⟨_, rfl⟩
    obtain ⟨X0, hX0⟩ : ∃ x, strOfNums p.2 = x := ⟨_, rfl⟩
    rw [hL0] at HL0 HLAY0
    rw [hL2] at HLAY0
    rw [hX0] at q1
    have HL2 := Lib.hid hL2
    obtain ⟨pv, hpv⟩ : ∃ x, wr.heap.size = x := ⟨_, rfl⟩
    have hX0s : X0.size = D.size := by rw [← hX0, size_of, hf2]
    have HX0 := Lib.hid hX0
    have HPB : Hid (∀ z ∈ p.2, 0 ≤ z ∧ z ≤ 255) := by rw [← hp]; exact (HOK.out.w _ (by rw [List.getD_eq_getElem?_getD, List.getElem?_eq_getElem (by rw [HN.out]; exact hlt)]; exact List.getElem_mem _)).2.2
    have HEND : Hid (∀ W, RefIs W base O r E → OnlyO base O w W → (∃ i' : Nat, Value.int .i64 ((i : Int) + 1) = .int .i64 (i' : Int) ∧ i' ≤ N ∧ i' ≤ K + 1 ∧ RefIs (W.setCell ⟨r, 2, none⟩ (.string L2)) base O r (midD D (K : Int) torn i') ∧ OnlyO base O w (W.setCell ⟨r, 2, none⟩ (.string L2)))) := fun W hR hG => by
      refine ⟨i + 1, by go_num, by omega, by omega, ?_, hG.set HO.out.1 HO.out.2 _ _⟩
      have hR0 := hR
      obtain ⟨_, _, _, v, hDA, hrow, hv⟩ := hR0
      have hs := hDA.set.1 L2
      refine hR.upd (D' := midD D (K : Int) torn (i + 1)) (v := v) ?_ ?_ hv (mid_ok HOK.out _ _ _) (fun j hj hne => set_other _ r 2 _ j hj hne) (by simp)
      · rw [← HE.out] at hs
        show DiskAt _ r D.n D.size (strOfNums (crashAt D (K : Int) torn (i + 1))) v D.fuse D.dark D.deeds
        rw [HL2.out]
        exact hs
      · rw [← HE.out] at hrow; exact hrow
    have hin : (i : Int) < (N : Int) := by omega
    have hiK2 : (i : Int) ≤ (K : Int) := by omega
    clear hst hf1 hf3 hlk hL hL0 hL2 hX0 hcells hmost hp
    by_cases hik : i = K
    case neg =>
      have hne : ((i : Int) == (K : Int)) = false := by simp; omega
      have HLAY : Hid (∀ w', Calls Try.prog 31 #[.string L0, .agg #[.int .i64 (p.1 : Int), .string X0]] w' fun e w2 => e = .returned (.string L2) ∧ Below w'.heap.size w' w2) := fun w' => by
        have := HLAY0.out w'
        rw [show tornP (K : Int) torn i p = p from if_neg (by rw [Int.toNat_natCast]; exact hik), HX0.out] at this
        exact this
      clear hik
      have HBX : Hid (∀ W, Below (wr.alloc (.cells #[.int .i64 (p.1 : Int), .string X0] 60)).heap.size (wr.alloc (.cells #[.int .i64 (p.1 : Int), .string X0] 60)) W → Below wr.heap.size wr W) := fun W hb => below_step ((Below.refl wr.heap.size wr).alloc (Nat.le_refl _) _) hb
      have HX : Hid (∀ W, Below (wr.alloc (.cells #[.int .i64 (p.1 : Int), .string X0] 60)).heap.size (wr.alloc (.cells #[.int .i64 (p.1 : Int), .string X0] 60)) W → W.cell? ⟨pv, 0, none⟩ = some (.int .i64 (p.1 : Int)) ∧ W.cell? ⟨pv, 1, none⟩ = some (.string X0) ∧ W.cell? ⟨r, 2, none⟩ = some (.string L0) ∧ W.frozen? ⟨r, 2, none⟩ = false ∧ RefIs W base O r E) := fun W hb => by
        have hv := (Var2.fresh wr (.int .i64 (p.1 : Int)) (.string X0) 60 pv hpv.symm).after hb
        have hr2 := HRr.out.after (HBX.out W hb)
        have hr3 := hr2
        obtain ⟨_, _, _, vv, hda, _, _⟩ := hr3
        exact ⟨hv.c0, hv.c1, by rw [← HL0.out]; exact hda.c2, hda.q 2, hr2⟩
      go_wp2
      refine wp_region_mix 7 (TL r p.1 L0 X0 L2) (fun _ => false) (by kernel_rfl) (by kernel_rfl) TL.keep (fun _ _ _ h => by cases h) ?_ ?_
      · refine ⟨?_, ?_, ?_, ?_, ?_, ?_, ?_, trivial⟩
        · intro u W hb hd
          simp only [List.take_succ_cons, List.take_zero, putAll, Act.put, List.setIfInBounds_toArray, List.set_cons_succ, List.set_cons_zero, Nat.zero_add, Nat.reduceAdd]
          go_wp2
          first | exact ⟨rfl, Below.refl _ _⟩ | exact ⟨_, rfl, rfl, Below.refl _ _⟩ | exact ⟨_, rfl, rfl, Below.refl _ _, fun h => by simp at h⟩
        · intro u W hb hd
          simp only [List.take_succ_cons, List.take_zero, putAll, Act.put, List.setIfInBounds_toArray, List.set_cons_succ, List.set_cons_zero, Nat.zero_add, Nat.reduceAdd]
          go_wp2
          first | exact ⟨rfl, Below.refl _ _⟩ | exact ⟨_, rfl, rfl, Below.refl _ _⟩ | exact ⟨_, rfl, rfl, Below.refl _ _, fun h => by simp at h⟩
        · intro u W hb hd
          obtain ⟨hd0, _⟩ := hd
          have e0 : u 1 = _ := hd0 rfl (by decide)
          simp only [List.take_succ_cons, List.take_zero, putAll, Act.put, List.setIfInBounds_toArray, List.set_cons_succ, List.set_cons_zero, Nat.zero_add, Nat.reduceAdd]
          rw [e0]
          go_wp2
          first | exact ⟨rfl, Below.refl _ _⟩ | exact ⟨_, rfl, rfl, Below.refl _ _⟩ | exact ⟨_, rfl, rfl, Below.refl _ _, fun h => by simp at h⟩
        · intro u W hb hd
          obtain ⟨hd0, _⟩ := hd
          have e0 : u 2 = _ := hd0 rfl (by decide)
          simp only [List.take_succ_cons, List.take_zero, putAll, Act.put, List.setIfInBounds_toArray, List.set_cons_succ, List.set_cons_zero, Nat.zero_add, Nat.reduceAdd]
          rw [e0]
          go_wp2
          first | exact ⟨rfl, Below.refl _ _⟩ | exact ⟨_, rfl, rfl, Below.refl _ _⟩ | exact ⟨_, rfl, rfl, Below.refl _ _, fun h => by simp at h⟩
        · intro u W hb hd
          obtain ⟨hd0, _⟩ := hd
          have e0 : u 3 = _ := hd0 rfl (by decide)
          obtain ⟨x0, x1, x2, _⟩ := HX.out W hb
          simp only [List.take_succ_cons, List.take_zero, putAll, Act.put, List.setIfInBounds_toArray, List.set_cons_succ, List.set_cons_zero, Nat.zero_add, Nat.reduceAdd]
          rw [e0]
          go_wp2
          first | exact ⟨rfl, Below.refl _ _⟩ | exact ⟨_, rfl, rfl, Below.refl _ _⟩ | exact ⟨_, rfl, rfl, Below.refl _ _, fun h => by simp at h⟩
        · intro u W hb hd
          obtain ⟨x0, x1, x2, _⟩ := HX.out W hb
          simp only [List.take_succ_cons, List.take_zero, putAll, Act.put, List.setIfInBounds_toArray, List.set_cons_succ, List.set_cons_zero, Nat.zero_add, Nat.reduceAdd]
          go_wp2
          first | exact ⟨rfl, Below.refl _ _⟩ | exact ⟨_, rfl, rfl, Below.refl _ _⟩ | exact ⟨_, rfl, rfl, Below.refl _ _, fun h => by simp at h⟩
        · intro u W hb hd
          obtain ⟨hd0, hd1, _⟩ := hd
          have e0 : u 4 = _ := hd0 rfl (by decide)
          have e1 : u 5 = _ := hd1 rfl (by decide)
          simp only [List.take_succ_cons, List.take_zero, putAll, Act.put, List.setIfInBounds_toArray, List.set_cons_succ, List.set_cons_zero, Nat.zero_add, Nat.reduceAdd]
          rw [e0, e1]
          go_wp2_with (go_at_call 31; (with_reducible refine (HLAY.out _).mono ?_); rintro e W1 ⟨rfl, g⟩)
          first | exact ⟨_, rfl, rfl, g, fun h => by simp at h⟩ | exact ⟨_, rfl, rfl, g⟩
      · intro u W hb hT _
        have e0 : u 0 = .pointer (some ⟨r, 0, none⟩) := hT 0 (by decide)
        have e6 : u 6 = .string L2 := hT 6 (by decide)
        obtain ⟨_, _, x2, q2, hR3⟩ := HX.out W hb
        have HW := Lib.hid hR3
        have HB2 := Lib.hid (HBX.out W hb)
        clear hb hT hR3
        simp only [List.take_succ_cons, List.take_zero, List.drop_succ_cons, List.drop_zero, putAll, Act.put, List.setIfInBounds_toArray, List.set_cons_succ, List.set_cons_zero, Nat.zero_add, Nat.reduceAdd]
        rw [e0, e6]
        go_wp2
        go_roundw
        case rel => exact HEND.out W HW.out (HG.out.trans (OnlyO.of HB2.out (by have := HRr.out.own r HRr.out.mem; omega)) (Grown.refl _ _))
        case measure => simp [intOf]; omega
    case pos =>
    subst hik
    have heq : ((i : Int) == (i : Int)) = true := by simp
    by_cases htn : torn < (X0.size : Int)
    case neg =>
      have htn2 : ¬ torn < (X0.size : Int) := htn
      have HLAY : Hid (∀ w', Calls Try.prog 31 #[.string L0, .agg #[.int .i64 (p.1 : Int), .string X0]] w' fun e w2 => e = .returned (.string L2) ∧ Below w'.heap.size w' w2) := fun w' => by
        have := HLAY0.out w'
        rw [show tornP (i : Int) torn i p = p from by unfold tornP; rw [if_pos (by rw [Int.toNat_natCast]), List.take_of_length_le (by omega)], HX0.out] at this
        exact this
      clear htn
      have HBX : Hid (∀ W, Below (wr.alloc (.cells #[.int .i64 (p.1 : Int), .string X0] 60)).heap.size (wr.alloc (.cells #[.int .i64 (p.1 : Int), .string X0] 60)) W → Below wr.heap.size wr W) := fun W hb => below_step ((Below.refl wr.heap.size wr).alloc (Nat.le_refl _) _) hb
      have HX : Hid (∀ W, Below (wr.alloc (.cells #[.int .i64 (p.1 : Int), .string X0] 60)).heap.size (wr.alloc (.cells #[.int .i64 (p.1 : Int), .string X0] 60)) W → W.cell? ⟨pv, 0, none⟩ = some (.int .i64 (p.1 : Int)) ∧ W.cell? ⟨pv, 1, none⟩ = some (.string X0) ∧ W.cell? ⟨r, 2, none⟩ = some (.string L0) ∧ W.frozen? ⟨r, 2, none⟩ = false ∧ RefIs W base O r E) := fun W hb => by
        have hv := (Var2.fresh wr (.int .i64 (p.1 : Int)) (.string X0) 60 pv hpv.symm).after hb
        have hr2 := HRr.out.after (HBX.out W hb)
        have hr3 := hr2
        obtain ⟨_, _, _, vv, hda, _, _⟩ := hr3
        exact ⟨hv.c0, hv.c1, by rw [← HL0.out]; exact hda.c2, hda.q 2, hr2⟩
      go_wp2
      refine wp_region_mix 7 (TL r p.1 L0 X0 L2) (fun _ => false) (by kernel_rfl) (by kernel_rfl) TL.keep (fun _ _ _ h => by cases h) ?_ ?_
      · refine ⟨?_, ?_, ?_, ?_, ?_, ?_, ?_, trivial⟩
        · intro u W hb hd
          simp only [List.take_succ_cons, List.take_zero, putAll, Act.put, List.setIfInBounds_toArray, List.set_cons_succ, List.set_cons_zero, Nat.zero_add, Nat.reduceAdd]
          go_wp2
          first | exact ⟨rfl, Below.refl _ _⟩ | exact ⟨_, rfl, rfl, Below.refl _ _⟩ | exact ⟨_, rfl, rfl, Below.refl _ _, fun h => by simp at h⟩
        · intro u W hb hd
          simp only [List.take_succ_cons, List.take_zero, putAll, Act.put, List.setIfInBounds_toArray, List.set_cons_succ, List.set_cons_zero, Nat.zero_add, Nat.reduceAdd]
          go_wp2
          first | exact ⟨rfl, Below.refl _ _⟩ | exact ⟨_, rfl, rfl, Below.refl _ _⟩ | exact ⟨_, rfl, rfl, Below.refl _ _, fun h => by simp at h⟩
        · intro u W hb hd
          obtain ⟨hd0, _⟩ := hd
          have e0 : u 1 = _ := hd0 rfl (by decide)
          simp only [List.take_succ_cons, List.take_zero, putAll, Act.put, List.setIfInBounds_toArray, List.set_cons_succ, List.set_cons_zero, Nat.zero_add, Nat.reduceAdd]
          rw [e0]
          go_wp2
          first | exact ⟨rfl, Below.refl _ _⟩ | exact ⟨_, rfl, rfl, Below.refl _ _⟩ | exact ⟨_, rfl, rfl, Below.refl _ _, fun h => by simp at h⟩
        · intro u W hb hd
          obtain ⟨hd0, _⟩ := hd
          have e0 : u 2 = _ := hd0 rfl (by decide)
          simp only [List.take_succ_cons, List.take_zero, putAll, Act.put, List.setIfInBounds_toArray, List.set_cons_succ, List.set_cons_zero, Nat.zero_add, Nat.reduceAdd]
          rw [e0]
          go_wp2
          first | exact ⟨rfl, Below.refl _ _⟩ | exact ⟨_, rfl, rfl, Below.refl _ _⟩ | exact ⟨_, rfl, rfl, Below.refl _ _, fun h => by simp at h⟩
        · intro u W hb hd
          obtain ⟨hd0, _⟩ := hd
          have e0 : u 3 = _ := hd0 rfl (by decide)
          obtain ⟨x0, x1, x2, _⟩ := HX.out W hb
          simp only [List.take_succ_cons, List.take_zero, putAll, Act.put, List.setIfInBounds_toArray, List.set_cons_succ, List.set_cons_zero, Nat.zero_add, Nat.reduceAdd]
          rw [e0]
          go_wp2
          first | exact ⟨rfl, Below.refl _ _⟩ | exact ⟨_, rfl, rfl, Below.refl _ _⟩ | exact ⟨_, rfl, rfl, Below.refl _ _, fun h => by simp at h⟩
        · intro u W hb hd
          obtain ⟨x0, x1, x2, _⟩ := HX.out W hb
          simp only [List.take_succ_cons, List.take_zero, putAll, Act.put, List.setIfInBounds_toArray, List.set_cons_succ, List.set_cons_zero, Nat.zero_add, Nat.reduceAdd]
          go_wp2
          first | exact ⟨rfl, Below.refl _ _⟩ | exact ⟨_, rfl, rfl, Below.refl _ _⟩ | exact ⟨_, rfl, rfl, Below.refl _ _, fun h => by simp at h⟩
        · intro u W hb hd
          obtain ⟨hd0, hd1, _⟩ := hd
          have e0 : u 4 = _ := hd0 rfl (by decide)
          have e1 : u 5 = _ := hd1 rfl (by decide)
          simp only [List.take_succ_cons, List.take_zero, putAll, Act.put, List.setIfInBounds_toArray, List.set_cons_succ, List.set_cons_zero, Nat.zero_add, Nat.reduceAdd]
          rw [e0, e1]
          go_wp2_with (go_at_call 31; (with_reducible refine (HLAY.out _).mono ?_); rintro e W1 ⟨rfl, g⟩)
          first | exact ⟨_, rfl, rfl, g, fun h => by simp at h⟩ | exact ⟨_, rfl, rfl, g⟩
      · intro u W hb hT _
        have e0 : u 0 = .pointer (some ⟨r, 0, none⟩) := hT 0 (by decide)
        have e6 : u 6 = .string L2 := hT 6 (by decide)
        obtain ⟨_, _, x2, q2, hR3⟩ := HX.out W hb
        have HW := Lib.hid hR3
        have HB2 := Lib.hid (HBX.out W hb)
        clear hb hT hR3
        simp only [List.take_succ_cons, List.take_zero, List.drop_succ_cons, List.drop_zero, putAll, Act.put, List.setIfInBounds_toArray, List.set_cons_succ, List.set_cons_zero, Nat.zero_add, Nat.reduceAdd]
        rw [e0, e6]
        go_wp2
        go_roundw
        case rel => exact HEND.out W HW.out (HG.out.trans (OnlyO.of HB2.out (by have := HRr.out.own r HRr.out.mem; omega)) (Grown.refl _ _))
        case measure => simp [intOf]; omega
    case pos =>
    obtain ⟨X1, hX1⟩ : ∃ x, strOfNums (p.2.take torn.toNat) = x := ⟨_, rfl⟩
    have HLAY : Hid (∀ w', Calls Try.prog 31 #[.string L0, .agg #[.int .i64 (p.1 : Int), .string X1]] w' fun e w2 => e = .returned (.string L2) ∧ Below w'.heap.size w' w2) := fun w' => by
      have := HLAY0.out w'
      rw [show tornP (i : Int) torn i p = (p.1, p.2.take torn.toNat) from by unfold tornP; rw [if_pos (by rw [Int.toNat_natCast])]] at this
      rw [← hX1]; exact this
    have s1 : ∀ (z : Int), 0 ≤ z → z.toNat = torn.toNat → z ≤ (X0.size : Int) → ∀ W : World, (Instr.slice 9 (.string X0) none (some (.int .i64 z)) none).run Try.prog W = .ok (.string X1) W := fun z hz0 hz1 hz2 W => by
      rw [← HX0.out] at hz2 ⊢
      rw [run_slice_string_to_if W 9 _ .i64 z Try.underlying9, if_pos ⟨hz0, hz2⟩, ext_to p.2 HPB.out, hz1, Nat.sub_zero, List.drop_zero, hX1]
    by_cases ht0 : torn < 0
    · have s0 := s1 0 (by decide) (by simp; omega) (by omega)
      clear s1 hX1 HLAY0 hX0s
      have HBX : Hid (∀ W, Below (wr.alloc (.cells #[.int .i64 (p.1 : Int), .string X1] 60)).heap.size (wr.alloc (.cells #[.int .i64 (p.1 : Int), .string X1] 60)) W → Below wr.heap.size wr W) := fun W hb => below_step ((Below.refl wr.heap.size wr).alloc (Nat.le_refl _) _) hb
      have HX : Hid (∀ W, Below (wr.alloc (.cells #[.int .i64 (p.1 : Int), .string X1] 60)).heap.size (wr.alloc (.cells #[.int .i64 (p.1 : Int), .string X1] 60)) W → W.cell? ⟨pv, 0, none⟩ = some (.int .i64 (p.1 : Int)) ∧ W.cell? ⟨pv, 1, none⟩ = some (.string X1) ∧ W.cell? ⟨r, 2, none⟩ = some (.string L0) ∧ W.frozen? ⟨r, 2, none⟩ = false ∧ RefIs W base O r E) := fun W hb => by
        have hv := (Var2.fresh wr (.int .i64 (p.1 : Int)) (.string X1) 60 pv hpv.symm).after hb
        have hr2 := HRr.out.after (HBX.out W hb)
        have hr3 := hr2
        obtain ⟨_, _, _, vv, hda, _, _⟩ := hr3
        exact ⟨hv.c0, hv.c1, by rw [← HL0.out]; exact hda.c2, hda.q 2, hr2⟩
      go_wp2
      refine wp_region_mix 7 (TL r p.1 L0 X1 L2) (fun _ => false) (by kernel_rfl) (by kernel_rfl) TL.keep (fun _ _ _ h => by cases h) ?_ ?_
      · refine ⟨?_, ?_, ?_, ?_, ?_, ?_, ?_, trivial⟩
        · intro u W hb hd
          simp only [List.take_succ_cons, List.take_zero, putAll, Act.put, List.setIfInBounds_toArray, List.set_cons_succ, List.set_cons_zero, Nat.zero_add, Nat.reduceAdd]
          go_wp2
          first | exact ⟨rfl, Below.refl _ _⟩ | exact ⟨_, rfl, rfl, Below.refl _ _⟩ | exact ⟨_, rfl, rfl, Below.refl _ _, fun h => by simp at h⟩
        · intro u W hb hd
          simp only [List.take_succ_cons, List.take_zero, putAll, Act.put, List.setIfInBounds_toArray, List.set_cons_succ, List.set_cons_zero, Nat.zero_add, Nat.reduceAdd]
          go_wp2
          first | exact ⟨rfl, Below.refl _ _⟩ | exact ⟨_, rfl, rfl, Below.refl _ _⟩ | exact ⟨_, rfl, rfl, Below.refl _ _, fun h => by simp at h⟩
        · intro u W hb hd
          obtain ⟨hd0, _⟩ := hd
          have e0 : u 1 = _ := hd0 rfl (by decide)
          simp only [List.take_succ_cons, List.take_zero, putAll, Act.put, List.setIfInBounds_toArray, List.set_cons_succ, List.set_cons_zero, Nat.zero_add, Nat.reduceAdd]
          rw [e0]
          go_wp2
          first | exact ⟨rfl, Below.refl _ _⟩ | exact ⟨_, rfl, rfl, Below.refl _ _⟩ | exact ⟨_, rfl, rfl, Below.refl _ _, fun h => by simp at h⟩
        · intro u W hb hd
          obtain ⟨hd0, _⟩ := hd
          have e0 : u 2 = _ := hd0 rfl (by decide)
          simp only [List.take_succ_cons, List.take_zero, putAll, Act.put, List.setIfInBounds_toArray, List.set_cons_succ, List.set_cons_zero, Nat.zero_add, Nat.reduceAdd]
          rw [e0]
          go_wp2
          first | exact ⟨rfl, Below.refl _ _⟩ | exact ⟨_, rfl, rfl, Below.refl _ _⟩ | exact ⟨_, rfl, rfl, Below.refl _ _, fun h => by simp at h⟩
        · intro u W hb hd
          obtain ⟨hd0, _⟩ := hd
          have e0 : u 3 = _ := hd0 rfl (by decide)
          obtain ⟨x0, x1, x2, _⟩ := HX.out W hb
          simp only [List.take_succ_cons, List.take_zero, putAll, Act.put, List.setIfInBounds_toArray, List.set_cons_succ, List.set_cons_zero, Nat.zero_add, Nat.reduceAdd]
          rw [e0]
          go_wp2
          first | exact ⟨rfl, Below.refl _ _⟩ | exact ⟨_, rfl, rfl, Below.refl _ _⟩ | exact ⟨_, rfl, rfl, Below.refl _ _, fun h => by simp at h⟩
        · intro u W hb hd
          obtain ⟨x0, x1, x2, _⟩ := HX.out W hb
          simp only [List.take_succ_cons, List.take_zero, putAll, Act.put, List.setIfInBounds_toArray, List.set_cons_succ, List.set_cons_zero, Nat.zero_add, Nat.reduceAdd]
          go_wp2
          first | exact ⟨rfl, Below.refl _ _⟩ | exact ⟨_, rfl, rfl, Below.refl _ _⟩ | exact ⟨_, rfl, rfl, Below.refl _ _, fun h => by simp at h⟩
        · intro u W hb hd
          obtain ⟨hd0, hd1, _⟩ := hd
          have e0 : u 4 = _ := hd0 rfl (by decide)
          have e1 : u 5 = _ := hd1 rfl (by decide)
          simp only [List.take_succ_cons, List.take_zero, putAll, Act.put, List.setIfInBounds_toArray, List.set_cons_succ, List.set_cons_zero, Nat.zero_add, Nat.reduceAdd]
          rw [e0, e1]
          go_wp2_with (go_at_call 31; (with_reducible refine (HLAY.out _).mono ?_); rintro e W1 ⟨rfl, g⟩)
          first | exact ⟨_, rfl, rfl, g, fun h => by simp at h⟩ | exact ⟨_, rfl, rfl, g⟩
      · intro u W hb hT _
        have e0 : u 0 = .pointer (some ⟨r, 0, none⟩) := hT 0 (by decide)
        have e6 : u 6 = .string L2 := hT 6 (by decide)
        obtain ⟨_, _, x2, q2, hR3⟩ := HX.out W hb
        have HW := Lib.hid hR3
        have HB2 := Lib.hid (HBX.out W hb)
        clear hb hT hR3
        simp only [List.take_succ_cons, List.take_zero, List.drop_succ_cons, List.drop_zero, putAll, Act.put, List.setIfInBounds_toArray, List.set_cons_succ, List.set_cons_zero, Nat.zero_add, Nat.reduceAdd]
        rw [e0, e6]
        go_wp2
        go_roundw
        case rel => exact HEND.out W HW.out (HG.out.trans (OnlyO.of HB2.out (by have := HRr.out.own r HRr.out.mem; omega)) (Grown.refl _ _))
        case measure => simp [intOf]; omega
    · have s0 := s1 torn (by omega) rfl (by omega)
      clear s1 hX1 HLAY0 hX0s
      have HBX : Hid (∀ W, Below (wr.alloc (.cells #[.int .i64 (p.1 : Int), .string X1] 60)).heap.size (wr.alloc (.cells #[.int .i64 (p.1 : Int), .string X1] 60)) W → Below wr.heap.size wr W) := fun W hb => below_step ((Below.refl wr.heap.size wr).alloc (Nat.le_refl _) _) hb
      have HX : Hid (∀ W, Below (wr.alloc (.cells #[.int .i64 (p.1 : Int), .string X1] 60)).heap.size (wr.alloc (.cells #[.int .i64 (p.1 : Int), .string X1] 60)) W → W.cell? ⟨pv, 0, none⟩ = some (.int .i64 (p.1 : Int)) ∧ W.cell? ⟨pv, 1, none⟩ = some (.string X1) ∧ W.cell? ⟨r, 2, none⟩ = some (.string L0) ∧ W.frozen? ⟨r, 2, none⟩ = false ∧ RefIs W base O r E) := fun W hb => by
        have hv := (Var2.fresh wr (.int .i64 (p.1 : Int)) (.string X1) 60 pv hpv.symm).after hb
        have hr2 := HRr.out.after (HBX.out W hb)
        have hr3 := hr2
        obtain ⟨_, _, _, vv, hda, _, _⟩ := hr3
        exact ⟨hv.c0, hv.c1, by rw [← HL0.out]; exact hda.c2, hda.q 2, hr2⟩
      go_wp2
      refine wp_region_mix 7 (TL r p.1 L0 X1 L2) (fun _ => false) (by kernel_rfl) (by kernel_rfl) TL.keep (fun _ _ _ h => by cases h) ?_ ?_
      · refine ⟨?_, ?_, ?_, ?_, ?_, ?_, ?_, trivial⟩
        · intro u W hb hd
          simp only [List.take_succ_cons, List.take_zero, putAll, Act.put, List.setIfInBounds_toArray, List.set_cons_succ, List.set_cons_zero, Nat.zero_add, Nat.reduceAdd]
          go_wp2
          first | exact ⟨rfl, Below.refl _ _⟩ | exact ⟨_, rfl, rfl, Below.refl _ _⟩ | exact ⟨_, rfl, rfl, Below.refl _ _, fun h => by simp at h⟩
        · intro u W hb hd
          simp only [List.take_succ_cons, List.take_zero, putAll, Act.put, List.setIfInBounds_toArray, List.set_cons_succ, List.set_cons_zero, Nat.zero_add, Nat.reduceAdd]
          go_wp2
          first | exact ⟨rfl, Below.refl _ _⟩ | exact ⟨_, rfl, rfl, Below.refl _ _⟩ | exact ⟨_, rfl, rfl, Below.refl _ _, fun h => by simp at h⟩
        · intro u W hb hd
          obtain ⟨hd0, _⟩ := hd
          have e0 : u 1 = _ := hd0 rfl (by decide)
          simp only [List.take_succ_cons, List.take_zero, putAll, Act.put, List.setIfInBounds_toArray, List.set_cons_succ, List.set_cons_zero, Nat.zero_add, Nat.reduceAdd]
          rw [e0]
          go_wp2
          first | exact ⟨rfl, Below.refl _ _⟩ | exact ⟨_, rfl, rfl, Below.refl _ _⟩ | exact ⟨_, rfl, rfl, Below.refl _ _, fun h => by simp at h⟩
        · intro u W hb hd
          obtain ⟨hd0, _⟩ := hd
          have e0 : u 2 = _ := hd0 rfl (by decide)
          simp only [List.take_succ_cons, List.take_zero, putAll, Act.put, List.setIfInBounds_toArray, List.set_cons_succ, List.set_cons_zero, Nat.zero_add, Nat.reduceAdd]
          rw [e0]
          go_wp2
          first | exact ⟨rfl, Below.refl _ _⟩ | exact ⟨_, rfl, rfl, Below.refl _ _⟩ | exact ⟨_, rfl, rfl, Below.refl _ _, fun h => by simp at h⟩
        · intro u W hb hd
          obtain ⟨hd0, _⟩ := hd
          have e0 : u 3 = _ := hd0 rfl (by decide)
          obtain ⟨x0, x1, x2, _⟩ := HX.out W hb
          simp only [List.take_succ_cons, List.take_zero, putAll, Act.put, List.setIfInBounds_toArray, List.set_cons_succ, List.set_cons_zero, Nat.zero_add, Nat.reduceAdd]
          rw [e0]
          go_wp2
          first | exact ⟨rfl, Below.refl _ _⟩ | exact ⟨_, rfl, rfl, Below.refl _ _⟩ | exact ⟨_, rfl, rfl, Below.refl _ _, fun h => by simp at h⟩
        · intro u W hb hd
          obtain ⟨x0, x1, x2, _⟩ := HX.out W hb
          simp only [List.take_succ_cons, List.take_zero, putAll, Act.put, List.setIfInBounds_toArray, List.set_cons_succ, List.set_cons_zero, Nat.zero_add, Nat.reduceAdd]
          go_wp2
          first | exact ⟨rfl, Below.refl _ _⟩ | exact ⟨_, rfl, rfl, Below.refl _ _⟩ | exact ⟨_, rfl, rfl, Below.refl _ _, fun h => by simp at h⟩
        · intro u W hb hd
          obtain ⟨hd0, hd1, _⟩ := hd
          have e0 : u 4 = _ := hd0 rfl (by decide)
          have e1 : u 5 = _ := hd1 rfl (by decide)
          simp only [List.take_succ_cons, List.take_zero, putAll, Act.put, List.setIfInBounds_toArray, List.set_cons_succ, List.set_cons_zero, Nat.zero_add, Nat.reduceAdd]
          rw [e0, e1]
          go_wp2_with (go_at_call 31; (with_reducible refine (HLAY.out _).mono ?_); rintro e W1 ⟨rfl, g⟩)
          first | exact ⟨_, rfl, rfl, g, fun h => by simp at h⟩ | exact ⟨_, rfl, rfl, g⟩
      · intro u W hb hT _
        have e0 : u 0 = .pointer (some ⟨r, 0, none⟩) := hT 0 (by decide)
        have e6 : u 6 = .string L2 := hT 6 (by decide)
        obtain ⟨_, _, x2, q2, hR3⟩ := HX.out W hb
        have HW := Lib.hid hR3
        have HB2 := Lib.hid (HBX.out W hb)
        clear hb hT hR3
        simp only [List.take_succ_cons, List.take_zero, List.drop_succ_cons, List.drop_zero, putAll, Act.put, List.setIfInBounds_toArray, List.set_cons_succ, List.set_cons_zero, Nat.zero_add, Nat.reduceAdd]
        rw [e0, e6]
        go_wp2
        go_roundw
        case rel => exact HEND.out W HW.out (HG.out.trans (OnlyO.of HB2.out (by have := HRr.out.own r HRr.out.mem; omega)) (Grown.refl _ _))
        case measure => simp [intOf]; omega

set_option maxRecDepth 100000 in
set_option maxHeartbeats 8000000 in
theorem brcrash_neg (base : Nat) (O : Foot) (r : Nat) (D : Dsk) (keep torn : Int) (w : World) (h : RefIs w base O r D) (k0 : keep < 0) :
    Calls Try.prog 16 #[.pointer (some ⟨r, 0, none⟩), .int .i64 keep, .int .i64 torn] w fun e w' => e = .returned (.tuple #[]) ∧ RefTo base O r (D.crash keep torn) w w' := by
  have HOK := Lib.hid h.ok
  have HCO := Lib.hid (h.ok.crash keep torn)
  have HO := Lib.hid (And.intro h.mem (h.own r h.mem).1)
  have hkt : keep.toNat = 0 := by omega
  have hk2 : ¬ (0 : Int) ≤ keep := by omega
  have HFIN : Hid (∀ W, OnlyO base O w W → (∃ (L0 : ByteArray) (v : Value), L0 = strOfNums (D.left keep torn) ∧ DiskAt W r D.n D.size L0 v D.fuse D.dark D.deeds) → RefTo base O r (D.crash keep torn) w (((W.setCell ⟨r, 3, none⟩ (.slice none 0 0)).setCell ⟨r, 5, none⟩ (.bool false)).setCell ⟨r, 4, none⟩ (.int .i64 (-1)))) := fun W hG ⟨L0, v, hL, hDA⟩ => by
    have hset := ((hDA.set.2.1 (.slice none 0 0)).set.2.2.2.1 false).set.2.2.1 (-1)
    refine ⟨O, ⟨HCO.out, fun i hi => ⟨(h.own i hi).1, ?_⟩, h.mem, .slice none 0 0, ?_, World.ownsRow_nil _ _ _ _, fun g hg => by cases hg⟩, ((hG.set HO.out.1 HO.out.2 _ _).set HO.out.1 HO.out.2 _ _).set HO.out.1 HO.out.2 _ _, Grown.refl _ _⟩
    · have := (h.own i hi).2
      have := hG.size
      simp; omega
    · show DiskAt _ r D.n D.size (strOfNums (D.left keep torn)) _ (-1) false D.deeds
      rw [← hL]
      exact hset
  have hleft : Hid (D.left keep torn = match D.waits[0]? with | none => D.last | some p => layL D.last (p.1, p.2.take torn.toNat)) := by
    unfold Hid Dsk.left
    rw [hkt]
    cases hw : D.waits[0]? with
    | none =>
      have : D.waits = [] := List.eq_nil_of_length_eq_zero (by have := List.getElem?_eq_none_iff.mp hw; omega)
      rw [this]; rfl
    | some p => rfl
  obtain ⟨av, vcap, hDr, hcells⟩ := h.waits
  have HDr := Lib.hid hDr
  have d3 := hDr.c3
  have d4 := hDr.c4
  have d5 := hDr.c5
  have f3 := hDr.q 3
  have f4 := hDr.q 4
  have f5 := hDr.q 5
  have HRr := Lib.hid h
  by_cases hlt : 0 < D.waits.length
  case neg =>
    have hz : D.waits.length = 0 := by omega
    rw [hz] at d3
    have hll : Hid (D.left keep torn = D.last) := by
      have := hleft.out
      rw [List.getElem?_eq_none (by omega)] at this
      exact this
    clear hcells h hleft hDr hz hkt
    go_enter Try.func16, Try.ntmps16
    go_wp2
    go_loop [6] (fun v6 => v6 = .int .i64 0) (fun _ => 0)
    case atStart => rfl
    case round =>
      subst hrel
      go_wp2
      go_end0
      exact ⟨rfl, HFIN.out w (OnlyO.refl _ _ _) ⟨_, _, by rw [hll.out], HDr.out⟩⟩
  case pos =>
  obtain ⟨N, hN⟩ : ∃ N, D.waits.length = N := ⟨_, rfl⟩
  obtain ⟨g, rfl, hg, q0, q1⟩ := hcells 0 hlt
  obtain ⟨p, hp⟩ : ∃ p, D.waits.getD 0 (0, []) = p := ⟨_, rfl⟩
  rw [hp] at q0 q1
  rw [hN] at d3
  have hlt2 : (0 : Int) < (N : Int) := by omega
  have hp0 : D.waits[0]? = some p := by rw [← hp, List.getD_eq_getElem?_getD, List.getElem?_eq_getElem hlt]; rfl
  have hll : D.left keep torn = layL D.last (p.1, p.2.take torn.toNat) := by have := hleft.out; rw [hp0] at this; exact this
  obtain ⟨hf1, hf2, hf3⟩ := crash_fit (keep := keep) (torn := torn) HOK.out (i := 0) hlt
  rw [hp, show tornP keep torn 0 p = (p.1, p.2.take torn.toNat) from if_pos hkt.symm] at hf1 hf3
  rw [hp] at hf2
  have HPB : Hid (∀ z ∈ p.2, 0 ≤ z ∧ z ≤ 255) := (HOK.out.w p (List.mem_of_getElem? hp0)).2.2
  have hmost := HOK.out.most
  have hlll := HOK.out.ll
  have HLAY0 := Lib.hid (fun w' => blay_any D.last (p.1, p.2.take torn.toNat) w' HOK.out.lb (by rw [hlll]; omega) (by rw [hlll]; exact hf1))
  rw [← hll] at HLAY0
  obtain ⟨L0, hL0⟩ : ∃ x, strOfNums D.last = x := ⟨_, rfl⟩
  obtain ⟨L2, hL2⟩ : ∃ x, strOfNums (D.left keep torn) = x := ⟨_, rfl⟩
  obtain ⟨X0, hX0⟩ : ∃ x, strOfNums p.2 = x := ⟨_, rfl⟩
  have HL0 := Lib.hid hL0
  have HL2 := Lib.hid hL2
  rw [hL0, hL2] at HLAY0
  rw [hX0] at q1
  obtain ⟨pv, hpv⟩ : ∃ x, w.heap.size = x := ⟨_, rfl⟩
  have hX0s : X0.size = D.size := by rw [← hX0, size_of, hf2]
  have HX0 := Lib.hid hX0
  obtain ⟨X1, hX1⟩ : ∃ x, strOfNums (p.2.take torn.toNat) = x := ⟨_, rfl⟩
  have HLAY : Hid (∀ w', Calls Try.prog 31 #[.string L0, .agg #[.int .i64 (p.1 : Int), .string X1]] w' fun e w2 => e = .returned (.string L2) ∧ Below w'.heap.size w' w2) := fun w' => by
    have := HLAY0.out w'
    rw [← hX1]; exact this
  have s1 : ∀ (z : Int), 0 ≤ z → z.toNat = torn.toNat → z ≤ (X0.size : Int) → ∀ W : World, (Instr.slice 9 (.string X0) none (some (.int .i64 z)) none).run Try.prog W = .ok (.string X1) W := fun z hz0 hz1 hz2 W => by
    rw [← HX0.out] at hz2 ⊢
    rw [run_slice_string_to_if W 9 _ .i64 z Try.underlying9, if_pos ⟨hz0, hz2⟩, ext_to p.2 HPB.out, hz1, Nat.sub_zero, List.drop_zero, hX1]
  have HFULL : Hid (¬ torn < (X0.size : Int) → X0 = X1) := fun hh => by rw [← HX0.out, ← hX1, List.take_of_length_le (by omega)]
  have hout : Hid (∀ W, RefIs W base O r D → DiskAt W r D.n D.size L0 (.slice (some ⟨g, 0, none⟩) N vcap) D.fuse D.dark D.deeds → DiskAt (W.setCell ⟨r, 2, none⟩ (.string L2)) r D.n D.size L2 (.slice (some ⟨g, 0, none⟩) N vcap) D.fuse D.dark D.deeds) := fun W _ hda => hda.set.1 L2
  clear h hcells hDr hf1 hf2 hf3 hll hleft hp hp0 hlt hlll hmost hkt hL0 hL2 hX0 HLAY0
  rw [hN, HL0.out] at HDr
  by_cases htn : torn < (X0.size : Int)
  case neg =>
    have hxx := HFULL.out htn
    subst hxx
    have htn2 : ¬ torn < (X0.size : Int) := htn
    by_cases ht0 : torn < 0
    · omega
    · clear s1 hX1 htn hX0s HFULL
      have HBX : Hid (∀ W, Below (w.alloc (.cells #[.int .i64 (p.1 : Int), .string X0] 60)).heap.size (w.alloc (.cells #[.int .i64 (p.1 : Int), .string X0] 60)) W → Below w.heap.size w W) := fun W hb => below_step ((Below.refl w.heap.size w).alloc (Nat.le_refl _) _) hb
      have HX : Hid (∀ W, Below (w.alloc (.cells #[.int .i64 (p.1 : Int), .string X0] 60)).heap.size (w.alloc (.cells #[.int .i64 (p.1 : Int), .string X0] 60)) W → W.cell? ⟨pv, 0, none⟩ = some (.int .i64 (p.1 : Int)) ∧ W.cell? ⟨pv, 1, none⟩ = some (.string X0) ∧ W.cell? ⟨r, 2, none⟩ = some (.string L0) ∧ W.frozen? ⟨r, 2, none⟩ = false ∧ DiskAt W r D.n D.size L0 (.slice (some ⟨g, 0, none⟩) N vcap) D.fuse D.dark D.deeds) := fun W hb => by
        have hv := (Var2.fresh w (.int .i64 (p.1 : Int)) (.string X0) 60 pv hpv.symm).after hb
        have hda := HDr.out.after (HBX.out W hb)
        exact ⟨hv.c0, hv.c1, hda.c2, hda.q 2, hda⟩
      go_enter Try.func16, Try.ntmps16
      go_wp2
      go_loop [6] (fun v6 => v6 = .int .i64 0) (fun _ => 0)
      case atStart => rfl
      case round =>
        subst hrel
        go_wp2
        refine wp_region_mix 7 (TL r p.1 L0 X0 L2) (fun _ => false) (by kernel_rfl) (by kernel_rfl) TL.keep (fun _ _ _ h => by cases h) ?_ ?_
        · refine ⟨?_, ?_, ?_, ?_, ?_, ?_, ?_, trivial⟩
          · intro u W hb hd
            simp only [List.take_succ_cons, List.take_zero, putAll, Act.put, List.setIfInBounds_toArray, List.set_cons_succ, List.set_cons_zero, Nat.zero_add, Nat.reduceAdd]
            go_wp2
            first | exact ⟨rfl, Below.refl _ _⟩ | exact ⟨_, rfl, rfl, Below.refl _ _⟩ | exact ⟨_, rfl, rfl, Below.refl _ _, fun h => by simp at h⟩
          · intro u W hb hd
            simp only [List.take_succ_cons, List.take_zero, putAll, Act.put, List.setIfInBounds_toArray, List.set_cons_succ, List.set_cons_zero, Nat.zero_add, Nat.reduceAdd]
            go_wp2
            first | exact ⟨rfl, Below.refl _ _⟩ | exact ⟨_, rfl, rfl, Below.refl _ _⟩ | exact ⟨_, rfl, rfl, Below.refl _ _, fun h => by simp at h⟩
          · intro u W hb hd
            obtain ⟨hd0, _⟩ := hd
            have e0 : u 1 = _ := hd0 rfl (by decide)
            simp only [List.take_succ_cons, List.take_zero, putAll, Act.put, List.setIfInBounds_toArray, List.set_cons_succ, List.set_cons_zero, Nat.zero_add, Nat.reduceAdd]
            rw [e0]
            go_wp2
            first | exact ⟨rfl, Below.refl _ _⟩ | exact ⟨_, rfl, rfl, Below.refl _ _⟩ | exact ⟨_, rfl, rfl, Below.refl _ _, fun h => by simp at h⟩
          · intro u W hb hd
            obtain ⟨hd0, _⟩ := hd
            have e0 : u 2 = _ := hd0 rfl (by decide)
            simp only [List.take_succ_cons, List.take_zero, putAll, Act.put, List.setIfInBounds_toArray, List.set_cons_succ, List.set_cons_zero, Nat.zero_add, Nat.reduceAdd]
            rw [e0]
            go_wp2
            first | exact ⟨rfl, Below.refl _ _⟩ | exact ⟨_, rfl, rfl, Below.refl _ _⟩ | exact ⟨_, rfl, rfl, Below.refl _ _, fun h => by simp at h⟩
          · intro u W hb hd
            obtain ⟨hd0, _⟩ := hd
            have e0 : u 3 = _ := hd0 rfl (by decide)
            obtain ⟨x0, x1, x2, _⟩ := HX.out W hb
            simp only [List.take_succ_cons, List.take_zero, putAll, Act.put, List.setIfInBounds_toArray, List.set_cons_succ, List.set_cons_zero, Nat.zero_add, Nat.reduceAdd]
            rw [e0]
            go_wp2
            first | exact ⟨rfl, Below.refl _ _⟩ | exact ⟨_, rfl, rfl, Below.refl _ _⟩ | exact ⟨_, rfl, rfl, Below.refl _ _, fun h => by simp at h⟩
          · intro u W hb hd
            obtain ⟨x0, x1, x2, _⟩ := HX.out W hb
            simp only [List.take_succ_cons, List.take_zero, putAll, Act.put, List.setIfInBounds_toArray, List.set_cons_succ, List.set_cons_zero, Nat.zero_add, Nat.reduceAdd]
            go_wp2
            first | exact ⟨rfl, Below.refl _ _⟩ | exact ⟨_, rfl, rfl, Below.refl _ _⟩ | exact ⟨_, rfl, rfl, Below.refl _ _, fun h => by simp at h⟩
          · intro u W hb hd
            obtain ⟨hd0, hd1, _⟩ := hd
            have e0 : u 4 = _ := hd0 rfl (by decide)
            have e1 : u 5 = _ := hd1 rfl (by decide)
            simp only [List.take_succ_cons, List.take_zero, putAll, Act.put, List.setIfInBounds_toArray, List.set_cons_succ, List.set_cons_zero, Nat.zero_add, Nat.reduceAdd]
            rw [e0, e1]
            go_wp2_with (go_at_call 31; (with_reducible refine (HLAY.out _).mono ?_); rintro e W1 ⟨rfl, g⟩)
            first | exact ⟨_, rfl, rfl, g, fun h => by simp at h⟩ | exact ⟨_, rfl, rfl, g⟩
        · intro u W hb hT _
          have e0 : u 0 = .pointer (some ⟨r, 0, none⟩) := hT 0 (by decide)
          have e6 : u 6 = .string L2 := hT 6 (by decide)
          obtain ⟨_, _, x2, q2, hR3⟩ := HX.out W hb
          have HW := Lib.hid hR3
          have HB2 := Lib.hid (HBX.out W hb)
          clear hb hT hR3
          simp only [List.take_succ_cons, List.take_zero, List.drop_succ_cons, List.drop_zero, putAll, Act.put, List.setIfInBounds_toArray, List.set_cons_succ, List.set_cons_zero, Nat.zero_add, Nat.reduceAdd]
          rw [e0, e6]
          have hd9 := HW.out.set.1 L2
          have e3 := hd9.c3
          have e4 := hd9.c4
          have e5 := hd9.c5
          have e6 := hd9.q 3
          have e7 := hd9.q 4
          have e8 := hd9.q 5
          have HD9 := Lib.hid hd9
          have HB3 := Lib.hid ((OnlyO.of (base := base) (O := O) HB2.out (by have := HRr.out.own r HRr.out.mem; omega)).set HO.out.1 HO.out.2 2 (.string L2))
          clear hd9
          go_wp2
          go_end0
          exact ⟨rfl, HFIN.out _ HB3.out ⟨_, _, HL2.out.symm, HD9.out⟩⟩
  case pos =>
    by_cases ht0 : torn < 0
    · have s0 := s1 0 (by decide) (by simp; omega) (by omega)
      have hx0 : (0 : Int) < (X0.size : Int) := by have := HOK.out.s0; omega
      clear s1 hX1 hX0s HFULL
      have HBX : Hid (∀ W, Below (w.alloc (.cells #[.int .i64 (p.1 : Int), .string X1] 60)).heap.size (w.alloc (.cells #[.int .i64 (p.1 : Int), .string X1] 60)) W → Below w.heap.size w W) := fun W hb => below_step ((Below.refl w.heap.size w).alloc (Nat.le_refl _) _) hb
      have HX : Hid (∀ W, Below (w.alloc (.cells #[.int .i64 (p.1 : Int), .string X1] 60)).heap.size (w.alloc (.cells #[.int .i64 (p.1 : Int), .string X1] 60)) W → W.cell? ⟨pv, 0, none⟩ = some (.int .i64 (p.1 : Int)) ∧ W.cell? ⟨pv, 1, none⟩ = some (.string X1) ∧ W.cell? ⟨r, 2, none⟩ = some (.string L0) ∧ W.frozen? ⟨r, 2, none⟩ = false ∧ DiskAt W r D.n D.size L0 (.slice (some ⟨g, 0, none⟩) N vcap) D.fuse D.dark D.deeds) := fun W hb => by
        have hv := (Var2.fresh w (.int .i64 (p.1 : Int)) (.string X1) 60 pv hpv.symm).after hb
        have hda := HDr.out.after (HBX.out W hb)
        exact ⟨hv.c0, hv.c1, hda.c2, hda.q 2, hda⟩
      go_enter Try.func16, Try.ntmps16
      go_wp2
      go_loop [6] (fun v6 => v6 = .int .i64 0) (fun _ => 0)
      case atStart => rfl
      case round =>
        subst hrel
        go_wp2
        refine wp_region_mix 7 (TL r p.1 L0 X1 L2) (fun _ => false) (by kernel_rfl) (by kernel_rfl) TL.keep (fun _ _ _ h => by cases h) ?_ ?_
        · refine ⟨?_, ?_, ?_, ?_, ?_, ?_, ?_, trivial⟩
          · intro u W hb hd
            simp only [List.take_succ_cons, List.take_zero, putAll, Act.put, List.setIfInBounds_toArray, List.set_cons_succ, List.set_cons_zero, Nat.zero_add, Nat.reduceAdd]
            go_wp2
            first | exact ⟨rfl, Below.refl _ _⟩ | exact ⟨_, rfl, rfl, Below.refl _ _⟩ | exact ⟨_, rfl, rfl, Below.refl _ _, fun h => by simp at h⟩
          · intro u W hb hd
            simp only [List.take_succ_cons, List.take_zero, putAll, Act.put, List.setIfInBounds_toArray, List.set_cons_succ, List.set_cons_zero, Nat.zero_add, Nat.reduceAdd]
            go_wp2
            first | exact ⟨rfl, Below.refl _ _⟩ | exact ⟨_, rfl, rfl, Below.refl _ _⟩ | exact ⟨_, rfl, rfl, Below.refl _ _, fun h => by simp at h⟩
          · intro u W hb hd
            obtain ⟨hd0, _⟩ := hd
            have e0 : u 1 = _ := hd0 rfl (by decide)
            simp only [List.take_succ_cons, List.take_zero, putAll, Act.put, List.setIfInBounds_toArray, List.set_cons_succ, List.set_cons_zero, Nat.zero_add, Nat.reduceAdd]
            rw [e0]
            go_wp2
            first | exact ⟨rfl, Below.refl _ _⟩ | exact ⟨_, rfl, rfl, Below.refl _ _⟩ | exact ⟨_, rfl, rfl, Below.refl _ _, fun h => by simp at h⟩
          · intro u W hb hd
            obtain ⟨hd0, _⟩ := hd
            have e0 : u 2 = _ := hd0 rfl (by decide)
            simp only [List.take_succ_cons, List.take_zero, putAll, Act.put, List.setIfInBounds_toArray, List.set_cons_succ, List.set_cons_zero, Nat.zero_add, Nat.reduceAdd]
            rw [e0]
            go_wp2
            first | exact ⟨rfl, Below.refl _ _⟩ | exact ⟨_, rfl, rfl, Below.refl _ _⟩ | exact ⟨_, rfl, rfl, Below.refl _ _, fun h => by simp at h⟩
          · intro u W hb hd
            obtain ⟨hd0, _⟩ := hd
            have e0 : u 3 = _ := hd0 rfl (by decide)
            obtain ⟨x0, x1, x2, _⟩ := HX.out W hb
            simp only [List.take_succ_cons, List.take_zero, putAll, Act.put, List.setIfInBounds_toArray, List.set_cons_succ, List.set_cons_zero, Nat.zero_add, Nat.reduceAdd]
            rw [e0]
            go_wp2
            first | exact ⟨rfl, Below.refl _ _⟩ | exact ⟨_, rfl, rfl, Below.refl _ _⟩ | exact ⟨_, rfl, rfl, Below.refl _ _, fun h => by simp at h⟩
          · intro u W hb hd
            obtain ⟨x0, x1, x2, _⟩ := HX.out W hb
            simp only [List.take_succ_cons, List.take_zero, putAll, Act.put, List.setIfInBounds_toArray, List.set_cons_succ, List.set_cons_zero, Nat.zero_add, Nat.reduceAdd]
            go_wp2
            first | exact ⟨rfl, Below.refl _ _⟩ | exact ⟨_, rfl, rfl, Below.refl _ _⟩ | exact ⟨_, rfl, rfl, Below.refl _ _, fun h => by simp at h⟩
          · intro u W hb hd
            obtain ⟨hd0, hd1, _⟩ := hd
            have e0 : u 4 = _ := hd0 rfl (by decide)
            have e1 : u 5 = _ := hd1 rfl (by decide)
            simp only [List.take_succ_cons, List.take_zero, putAll, Act.put, List.setIfInBounds_toArray, List.set_cons_succ, List.set_cons_zero, Nat.zero_add, Nat.reduceAdd]
            rw [e0, e1]
            go_wp2_with (go_at_call 31; (with_reducible refine (HLAY.out _).mono ?_); rintro e W1 ⟨rfl, g⟩)
            first | exact ⟨_, rfl, rfl, g, fun h => by simp at h⟩ | exact ⟨_, rfl, rfl, g⟩
        · intro u W hb hT _
          have e0 : u 0 = .pointer (some ⟨r, 0, none⟩) := hT 0 (by decide)
          have e6 : u 6 = .string L2 := hT 6 (by decide)
          obtain ⟨_, _, x2, q2, hR3⟩ := HX.out W hb
          have HW := Lib.hid hR3
          have HB2 := Lib.hid (HBX.out W hb)
          clear hb hT hR3
          simp only [List.take_succ_cons, List.take_zero, List.drop_succ_cons, List.drop_zero, putAll, Act.put, List.setIfInBounds_toArray, List.set_cons_succ, List.set_cons_zero, Nat.zero_add, Nat.reduceAdd]
          rw [e0, e6]
          have hd9 := HW.out.set.1 L2
          have e3 := hd9.c3
          have e4 := hd9.c4
          have e5 := hd9.c5
          have e6 := hd9.q 3
          have e7 := hd9.q 4
          have e8 := hd9.q 5
          have HD9 := Lib.hid hd9
          have HB3 := Lib.hid ((OnlyO.of (base := base) (O := O) HB2.out (by have := HRr.out.own r HRr.out.mem; omega)).set HO.out.1 HO.out.2 2 (.string L2))
          clear hd9
          go_wp2
          go_end0
          exact ⟨rfl, HFIN.out _ HB3.out ⟨_, _, HL2.out.symm, HD9.out⟩⟩
    · have s0 := s1 torn (by omega) rfl (by omega)
      clear s1 hX1 hX0s HFULL
      have HBX : Hid (∀ W, Below (w.alloc (.cells #[.int .i64 (p.1 : Int), .string X1] 60)).heap.size (w.alloc (.cells #[.int .i64 (p.1 : Int), .string X1] 60)) W → Below w.heap.size w W) := fun W hb => below_step ((Below.refl w.heap.size w).alloc (Nat.le_refl _) _) hb
      have HX : Hid (∀ W, Below (w.alloc (.cells #[.int .i64 (p.1 : Int), .string X1] 60)).heap.size (w.alloc (.cells #[.int .i64 (p.1 : Int), .string X1] 60)) W → W.cell? ⟨pv, 0, none⟩ = some (.int .i64 (p.1 : Int)) ∧ W.cell? ⟨pv, 1, none⟩ = some (.string X1) ∧ W.cell? ⟨r, 2, none⟩ = some (.string L0) ∧ W.frozen? ⟨r, 2, none⟩ = false ∧ DiskAt W r D.n D.size L0 (.slice (some ⟨g, 0, none⟩) N vcap) D.fuse D.dark D.deeds) := fun W hb => by
        have hv := (Var2.fresh w (.int .i64 (p.1 : Int)) (.string X1) 60 pv hpv.symm).after hb
        have hda := HDr.out.after (HBX.out W hb)
        exact ⟨hv.c0, hv.c1, hda.c2, hda.q 2, hda⟩
      go_enter Try.func16, Try.ntmps16
      go_wp2
      go_loop [6] (fun v6 => v6 = .int .i64 0) (fun _ => 0)
      case atStart => rfl
      case round =>
        subst hrel
        go_wp2
        refine wp_region_mix 7 (TL r p.1 L0 X1 L2) (fun _ => false) (by kernel_rfl) (by kernel_rfl) TL.keep (fun _ _ _ h => by cases h) ?_ ?_
        · refine ⟨?_, ?_, ?_, ?_, ?_, ?_, ?_, trivial⟩
          · intro u W hb hd
            simp only [List.take_succ_cons, List.take_zero, putAll, Act.put, List.setIfInBounds_toArray, List.set_cons_succ, List.set_cons_zero, Nat.zero_add, Nat.reduceAdd]
            go_wp2
            first | exact ⟨rfl, Below.refl _ _⟩ | exact ⟨_, rfl, rfl, Below.refl _ _⟩ | exact ⟨_, rfl, rfl, Below.refl _ _, fun h => by simp at h⟩
          · intro u W hb hd
            simp only [List.take_succ_cons, List.take_zero, putAll, Act.put, List.setIfInBounds_toArray, List.set_cons_succ, List.set_cons_zero, Nat.zero_add, Nat.reduceAdd]
            go_wp2
            first | exact ⟨rfl, Below.refl _ _⟩ | exact ⟨_, rfl, rfl, Below.refl _ _⟩ | exact ⟨_, rfl, rfl, Below.refl _ _, fun h => by simp at h⟩
          · intro u W hb hd
            obtain ⟨hd0, _⟩ := hd
            have e0 : u 1 = _ := hd0 rfl (by decide)
            simp only [List.take_succ_cons, List.take_zero, putAll, Act.put, List.setIfInBounds_toArray, List.set_cons_succ, List.set_cons_zero, Nat.zero_add, Nat.reduceAdd]
            rw [e0]
            go_wp2
            first | exact ⟨rfl, Below.refl _ _⟩ | exact ⟨_, rfl, rfl, Below.refl _ _⟩ | exact ⟨_, rfl, rfl, Below.refl _ _, fun h => by simp at h⟩
          · intro u W hb hd
            obtain ⟨hd0, _⟩ := hd
            have e0 : u 2 = _ := hd0 rfl (by decide)
            simp only [List.take_succ_cons, List.take_zero, putAll, Act.put, List.setIfInBounds_toArray, List.set_cons_succ, List.set_cons_zero, Nat.zero_add, Nat.reduceAdd]
            rw [e0]
            go_wp2
            first | exact ⟨rfl, Below.refl _ _⟩ | exact ⟨_, rfl, rfl, Below.refl _ _⟩ | exact ⟨_, rfl, rfl, Below.refl _ _, fun h => by simp at h⟩
          · intro u W hb hd
            obtain ⟨hd0, _⟩ := hd
            have e0 : u 3 = _ := hd0 rfl (by decide)
            obtain ⟨x0, x1, x2, _⟩ := HX.out W hb
            simp only [List.take_succ_cons, List.take_zero, putAll, Act.put, List.setIfInBounds_toArray, List.set_cons_succ, List.set_cons_zero, Nat.zero_add, Nat.reduceAdd]
            rw [e0]
            go_wp2
            first | exact ⟨rfl, Below.refl _ _⟩ | exact ⟨_, rfl, rfl, Below.refl _ _⟩ | exact ⟨_, rfl, rfl, Below.refl _ _, fun h => by simp at h⟩
          · intro u W hb hd
            obtain ⟨x0, x1, x2, _⟩ := HX.out W hb
            simp only [List.take_succ_cons, List.take_zero, putAll, Act.put, List.setIfInBounds_toArray, List.set_cons_succ, List.set_cons_zero, Nat.zero_add, Nat.reduceAdd]
            go_wp2
            first | exact ⟨rfl, Below.refl _ _⟩ | exact ⟨_, rfl, rfl, Below.refl _ _⟩ | exact ⟨_, rfl, rfl, Below.refl _ _, fun h => by simp at h⟩
          · intro u W hb hd
            obtain ⟨hd0, hd1, _⟩ := hd
            have e0 : u 4 = _ := hd0 rfl (by decide)
            have e1 : u 5 = _ := hd1 rfl (by decide)
            simp only [List.take_succ_cons, List.take_zero, putAll, Act.put, List.setIfInBounds_toArray, List.set_cons_succ, List.set_cons_zero, Nat.zero_add, Nat.reduceAdd]
            rw [e0, e1]
            go_wp2_with (go_at_call 31; (with_reducible refine (HLAY.out _).mono ?_); rintro e W1 ⟨rfl, g⟩)
            first | exact ⟨_, rfl, rfl, g, fun h => by simp at h⟩ | exact ⟨_, rfl, rfl, g⟩
        · intro u W hb hT _
          have e0 : u 0 = .pointer (some ⟨r, 0, none⟩) := hT 0 (by decide)
          have e6 : u 6 = .string L2 := hT 6 (by decide)
          obtain ⟨_, _, x2, q2, hR3⟩ := HX.out W hb
          have HW := Lib.hid hR3
          have HB2 := Lib.hid (HBX.out W hb)
          clear hb hT hR3
          simp only [List.take_succ_cons, List.take_zero, List.drop_succ_cons, List.drop_zero, putAll, Act.put, List.setIfInBounds_toArray, List.set_cons_succ, List.set_cons_zero, Nat.zero_add, Nat.reduceAdd]
          rw [e0, e6]
          have hd9 := HW.out.set.1 L2
          have e3 := hd9.c3
          have e4 := hd9.c4
          have e5 := hd9.c5
          have e6 := hd9.q 3
          have e7 := hd9.q 4
          have e8 := hd9.q 5
          have HD9 := Lib.hid hd9
          have HB3 := Lib.hid ((OnlyO.of (base := base) (O := O) HB2.out (by have := HRr.out.own r HRr.out.mem; omega)).set HO.out.1 HO.out.2 2 (.string L2))
          clear hd9
          go_wp2
          go_end0
          exact ⟨rfl, HFIN.out _ HB3.out ⟨_, _, HL2.out.symm, HD9.out⟩⟩
theorem brcrash_any (base : Nat) (O : Foot) (r : Nat) (D : Dsk) (keep torn : Int) (w : World) (h : RefIs w base O r D) (hd : D.deeds ≤ 1000000) (k1 : keep ≤ 9223372036854775807) :
    Calls Try.prog 16 #[.pointer (some ⟨r, 0, none⟩), .int .i64 keep, .int .i64 torn] w fun e w' => e = .returned (.tuple #[]) ∧ RefTo base O r (D.crash keep torn) w w' := by
  by_cases k0 : 0 ≤ keep
  · exact brcrash_pos base O r D keep torn w h hd k0 k1
  · exact brcrash_neg base O r D keep torn w h (by omega)

end Go.Proofs.Ytnndpainnoebgaa
