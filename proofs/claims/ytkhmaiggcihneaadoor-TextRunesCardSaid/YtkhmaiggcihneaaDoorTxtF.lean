/-
  Package text's reader of quoted texts: what it holds (its builder lies in a field of its own), and its calls, walked.
-/
import Derived.Test.YtkhmaiggcihneaaDoorTxtE
import Derived.Test.YtkhmaiggcihneaaDoorBld
import Derived.RegionTactic
import Derived.ChangeAlike
namespace Go.Proofs.YtkhmaiggcihneaaDoor
open Go.RowKit

/-- A reader in a block of the call's own: where it stands, the runes' bytes so far, the number and how many digits. -/
structure RdF (B b : Nat) (a n d : Int) (zs : List Int) (w : World) : Prop where
  hB : B ≤ b
  ex : ∃ p v, (p = .pointer none ∨ p = .pointer (some ⟨b, 1, none⟩)) ∧ w.heap[b]? = some (.cells #[.int .i64 a, p, v, .int .i32 n, .int .i64 d] 48 (0, 0)) ∧
    w.ownsRowF B 5 1 v zs.length (u8s zs) ∧ v.ownBlock ≠ some b ∧ (zs = [] → v = .slice none 0 0)
/-- What stands behind a call of the reader's. -/
def KF (B b : Nat) (w w' : World) : Prop := Below B w w' ∧ Lib.OthersKept 5 (some b) w w'
theorem KF.refl (B b : Nat) (w : World) : KF B b w w := ⟨Below.refl _ _, Lib.OthersKept.refl _ _ _⟩
theorem KF.trans {B b : Nat} {w w1 w2 : World} (h : KF B b w w1) (g : KF B b w1 w2) : KF B b w w2 := ⟨h.1.trans g.1, h.2.trans g.2⟩
theorem KF.put {B b : Nat} {w w1 : World} (h : KF B b w w1) (hB : B ≤ b) (o : Nat) (v : Value) : KF B b w (w1.setCell ⟨b, o, none⟩ v) := ⟨h.1.setCell hB _, h.2.setCell ⟨b, o, none⟩ rfl _⟩
theorem RdF.lt {B b : Nat} {a n d : Int} {zs : List Int} {w : World} (h : RdF B b a n d zs w) : b < w.heap.size := by
  obtain ⟨_, p, v, _, hb, _⟩ := h
  exact (Array.getElem?_eq_some_iff.1 hb).1
theorem RdF.cells {B b : Nat} {a n d : Int} {zs : List Int} {w : World} (h : RdF B b a n d zs w) :
    w.cell? ⟨b, 0, none⟩ = some (.int .i64 a) ∧ w.cell? ⟨b, 3, none⟩ = some (.int .i32 n) ∧ w.cell? ⟨b, 4, none⟩ = some (.int .i64 d) ∧ (∀ o, w.frozen? ⟨b, o, none⟩ = false) := by
  obtain ⟨_, p, v, _, hb, _⟩ := h
  exact ⟨by rw [Lib.cell_of_heap hb]; rfl, by rw [Lib.cell_of_heap hb]; rfl, by rw [Lib.cell_of_heap hb]; rfl, fun o => Lib.frozen_of_heap hb o⟩
theorem own_put {w : World} {B b : Nat} {v : Value} {n : Nat} {xs : List Value} (h : w.ownsRowF B 5 1 v n xs) (hne : v.ownBlock ≠ some b) (o : Nat) (x : Value) : (w.setCell ⟨b, o, none⟩ x).ownsRowF B 5 1 v n xs :=
  h.kept (row := some b) ⟨rfl, rfl, rfl, by simp [World.setCell], fun k _ hk => Below.heap_setCell _ _ _ _ (fun e => hk (by simp [e]))⟩ (Or.inr hne)
theorem RdF.put0 {B b : Nat} {a n d : Int} {zs : List Int} {w : World} (h : RdF B b a n d zs w) (a' : Int) : RdF B b a' n d zs (w.setCell ⟨b, 0, none⟩ (.int .i64 a')) := by
  obtain ⟨hB, p, v, hp, hb, ho, hn, h0⟩ := h
  exact ⟨hB, p, v, hp, by simp [World.setCell, Array.getElem?_modify, hb], own_put ho hn _ _, hn, h0⟩
theorem RdF.put3 {B b : Nat} {a n d : Int} {zs : List Int} {w : World} (h : RdF B b a n d zs w) (n' : Int) : RdF B b a n' d zs (w.setCell ⟨b, 3, none⟩ (.int .i32 n')) := by
  obtain ⟨hB, p, v, hp, hb, ho, hn, h0⟩ := h
  exact ⟨hB, p, v, hp, by simp [World.setCell, Array.getElem?_modify, hb], own_put ho hn _ _, hn, h0⟩
theorem RdF.put4 {B b : Nat} {a n d : Int} {zs : List Int} {w : World} (h : RdF B b a n d zs w) (d' : Int) : RdF B b a n d' zs (w.setCell ⟨b, 4, none⟩ (.int .i64 d')) := by
  obtain ⟨hB, p, v, hp, hb, ho, hn, h0⟩ := h
  exact ⟨hB, p, v, hp, by simp [World.setCell, Array.getElem?_modify, hb], own_put ho hn _ _, hn, h0⟩
theorem RdF.iterAt {B b : Nat} {a n d : Int} {zs : List Int} {w : World} (h : RdF B b a n d zs w) {k : Nat} {s : ByteArray} {pos : Nat} (hk : w.heap[k]? = some (.stringIter s pos)) (pos' : Nat) : RdF B b a n d zs (w.iterAt k s pos') := by
  obtain ⟨hB, p, v, hp, hb, ho, hn, h0⟩ := h
  have hkb : b ≠ k := fun e => by rw [e, hk] at hb; cases hb
  refine ⟨hB, p, v, hp, (Lib.iterAt_other w k b s pos' hkb).trans hb, ⟨ho.1, ?_⟩, hn, h0⟩
  rcases ho.2 with hx | ⟨g, cap, cur, fz, hv, hbg, hg, rest⟩
  · exact Or.inl hx
  · have hkg : g ≠ k := fun e => by rw [e, hk] at hg; cases hg
    exact Or.inr ⟨g, cap, cur, fz, hv, hbg, (Lib.iterAt_other w k g s pos' hkg).trans hg, rest⟩
theorem RdF.new (w : World) (B b : Nat) (hb : b = w.heap.size) (hB : B ≤ b) : RdF B b 0 0 0 [] (w.alloc (.cells #[.int .i64 0, .pointer none, .slice none 0 0, .int .i32 0, .int .i64 0] 48)) := by
  subst hb
  exact ⟨hB, .pointer none, .slice none 0 0, Or.inl rfl, heap_alloc_new w _, World.ownsRowF_nil _ _ _ _, (by intro h; cases h), fun _ => rfl⟩
theorem RdF.alloc {B b : Nat} {a n d : Int} {zs : List Int} {w : World} (h : RdF B b a n d zs w) (o : Obj) : RdF B b a n d zs (w.alloc o) := by
  have hlt := h.lt
  obtain ⟨hB, p, v, hp, hb, ho, hn, h0⟩ := h
  exact ⟨hB, p, v, hp, (Lib.alloc_old w o b hlt).trans hb, ho.kept (World.grownBy_alloc w o none) (by cases hv : v.ownBlock <;> simp), hn, h0⟩

set_option maxRecDepth 100000 in
theorem ccr_new (b : Nat) (w : World) (h0 : w.cell? ⟨b, 1, none⟩ = some (.pointer none)) (hsh : w.shape? b = some (48, 5)) (hfz : w.frozen? ⟨b, 1, none⟩ = false) :
    Calls Tryd.prog 34 #[.pointer (some ⟨b, 1, none⟩)] w fun e w' => e = .returned (.tuple #[]) ∧ w' = w.setCell ⟨b, 1, none⟩ (.pointer (some ⟨b, 1, none⟩)) := by
  obtain ⟨j, hj, hjs⟩ := Option.map_eq_some_iff.1 (show (Tryd.prog.info? 38).map (·.size) = some 2 by kernel_rfl)
  go_enter Tryd.func34, Tryd.ntmps34
  go_wp2
  rw [Lib.run_to_unsafe w ⟨b, 1, none⟩ Tryd.underlying36 Tryd.underlying60 hj (by rw [hjs]; decide) hsh (Nat.succ_lt_succ (Nat.zero_lt_succ 3))]
  simp only [Result.andThen]
  rw [Oper.upon_value]
  go_wp2
  rw [run_callFunc_extern Tryd.func40 (by kernel_rfl) (by kernel_rfl) (by kernel_rfl) (e := Extern.AbiNoEscape.same) (by kernel_rfl)]
  rw [Lib.run_noEscape]
  simp only [Result.andThen]
  rw [Oper.upon_value]
  go_wp2
  rw [Lib.run_from_unsafe w ⟨b, 1, none⟩ Tryd.underlying60 Tryd.underlying36 hj hsh (by kernel_rfl)]
  simp only [Result.andThen]
  rw [Oper.upon_value]
  go_wp2
  go_end0
  exact ⟨rfl, rfl⟩
set_option maxRecDepth 100000 in
theorem ccr_used (b : Nat) (w : World) (h0 : w.cell? ⟨b, 1, none⟩ = some (.pointer (some ⟨b, 1, none⟩))) :
    Calls Tryd.prog 34 #[.pointer (some ⟨b, 1, none⟩)] w fun e w' => e = .returned (.tuple #[]) ∧ w' = w := by
  obtain ⟨j, hj⟩ : ∃ j, Tryd.prog.info? 38 = some j := Option.isSome_iff_exists.mp (by kernel_rfl)
  have hne := Lib.run_neq_ptr_same (P := Tryd.prog) w (tp := 36) (te := 38) ⟨b, 1, none⟩ Tryd.underlying36 hj
  go_enter Tryd.func34, Tryd.ntmps34
  go_wp2
  go_end0
  exact ⟨rfl, rfl⟩
theorem ccr_any (B b : Nat) (a n d : Int) (zs : List Int) (w : World) (h : RdF B b a n d zs w) :
    Calls Tryd.prog 34 #[.pointer (some ⟨b, 1, none⟩)] w fun e w' => e = .returned (.tuple #[]) ∧ KF B b w w' ∧ B ≤ b ∧
      ∃ v, w'.heap[b]? = some (.cells #[.int .i64 a, .pointer (some ⟨b, 1, none⟩), v, .int .i32 n, .int .i64 d] 48 (0, 0)) ∧ w'.ownsRowF B 5 1 v zs.length (u8s zs) ∧ v.ownBlock ≠ some b := by
  obtain ⟨hB, p, v, hp, hb, ho, hn, _⟩ := h
  rcases hp with rfl | rfl
  · refine (ccr_new b w (by rw [Lib.cell_of_heap hb]; rfl) (by simp [World.shape?, hb]) (Lib.frozen_of_heap hb 1)).mono ?_
    rintro e w' ⟨rfl, rfl⟩
    exact ⟨rfl, (KF.refl B b w).put hB _ _, hB, v, by simp [World.setCell, Array.getElem?_modify, hb], own_put ho hn _ _, hn⟩
  · refine (ccr_used b w (by rw [Lib.cell_of_heap hb]; rfl)).mono ?_
    rintro e w' ⟨rfl, rfl⟩
    exact ⟨rfl, KF.refl _ _ _, hB, v, hb, ho, hn⟩

theorem enc_cells {r : Int} (h : RuneOk r) : Lib.runeCells r = u8s (encL r) := by unfold Lib.runeCells u8s; rw [encode_enc h]
theorem enc_pos (r : Int) : 1 ≤ (encL r).length := by unfold encL; repeat' split
                                                      all_goals simp
set_option maxHeartbeats 2000000 in
set_option maxRecDepth 100000 in
theorem wruner_any (B b : Nat) (a n d : Int) (zs : List Int) (r : Int) (hr : RuneOk r) (w : World) (h : RdF B b a n d zs w) (hlen : zs.length + 4 ≤ 140737488355328) (hBw : B ≤ w.heap.size) :
    Calls Tryd.prog 42 #[.pointer (some ⟨b, 1, none⟩), .int .i32 r] w fun e w' => (∃ k, e = .returned (.tuple #[.int .i64 k, .nilIface])) ∧ RdF B b a n d (zs ++ encL r) w' ∧ KF B b w w' := by
  have hcs := enc_cells hr
  have r0 : -2147483648 ≤ r := by have := hr.1; omega
  have r1 : r ≤ 2147483647 := by have := hr.2.1; omega
  have hp := enc_pos r
  go_enter Tryd.func42, Tryd.ntmps42
  go_wp2_with (go_at_call 34; refine (ccr_any B b a n d zs _ h).mono ?_)
  rintro e w1 ⟨rfl, hk1, hB, v, hbk, hown, hne⟩
  obtain ⟨ao, cap, rfl⟩ : ∃ ao cap, v = .slice ao zs.length cap := by
    rcases hown.2 with ⟨hv, h0⟩ | ⟨g, cap, cur, fz, hv, _⟩
    · exact ⟨none, 0, by rw [hv, h0]⟩
    · exact ⟨_, _, hv⟩
  have c1 : w1.cell? ⟨b, 1, none⟩ = some (.pointer (some ⟨b, 1, none⟩)) := by rw [Lib.cell_of_heap hbk]; rfl
  have c2 : w1.cell? ⟨b, 2, none⟩ = some (.slice ao zs.length cap) := by rw [Lib.cell_of_heap hbk]; rfl
  have hs1 := hk1.1.size
  go_wp2_with (go_at_call 50; refine (Tryd.utf8_AppendRune_row B _ zs.length (u8s zs) r r0 r1 _ hown hlen (by omega)).mono ?_)
  rintro e w2 ⟨v', rfl, hown', o, hgrow⟩
  have hlt : b < w1.heap.size := (Array.getElem?_eq_some_iff.1 hbk).1
  have hb2 : w2.heap[b]? = some (.cells #[.int .i64 a, .pointer (some ⟨b, 1, none⟩), .slice ao zs.length cap, .int .i32 n, .int .i64 d] 48 (0, 0)) := by
    rw [hgrow.block b (by simp; omega) (fun e => hne e.symm), Lib.alloc_old w1 _ b hlt]
    exact hbk
  rw [hcs, u8s_len, ← u8s_append] at hown'
  have d1 : w2.cell? ⟨b, 1, none⟩ = some (.pointer (some ⟨b, 1, none⟩)) := by rw [Lib.cell_of_heap hb2]; rfl
  have d2 : w2.cell? ⟨b, 2, none⟩ = some (.slice ao zs.length cap) := by rw [Lib.cell_of_heap hb2]; rfl
  have f2 : w2.frozen? ⟨b, 2, none⟩ = false := Lib.frozen_of_heap hb2 2
  have HO := Lib.hid hown'
  obtain ⟨g, cap', rfl⟩ : ∃ g cap', v' = .slice (some ⟨g, 0, none⟩) (zs.length + (encL r).length) cap' := by
    rcases hown'.2 with ⟨_, h0⟩ | ⟨g, cap', cur, fz, hv, _⟩
    · omega
    · exact ⟨g, cap', hv⟩
  have hne2 := Lib.ownBlock_neF hown' hb2 (by decide)
  clear hown'
  go_wp2
  go_ret2
  refine ⟨⟨_, rfl⟩, ⟨hB, _, _, Or.inr rfl, ?_, ?_, hne2, ?_⟩, ?_, ?_⟩
  · simp [World.setCell, Array.getElem?_modify, hb2]
  · rw [List.length_append]
    exact own_put HO.out hne2 _ _
  · intro e
    have := congrArg List.length e
    rw [List.length_append, List.length_nil] at this
    omega
  · exact ((hk1.1.alloc (by omega) _).grown hgrow (by simp; omega) (fun k hk => (hown.lt k hk).1)).setCell (p := ⟨b, 2, none⟩) hB _
  · exact ((hk1.2.alloc _).grown hgrow (Lib.ownsRowF_kind (hown.alloc _))).setCell ⟨b, 2, none⟩ rfl _

set_option maxHeartbeats 2000000 in
set_option maxRecDepth 100000 in
/-- What is read from a reader's builder. -/
theorem bstrr_any (B b : Nat) (a n d : Int) (zs : List Int) (hz : ∀ z ∈ zs, 0 ≤ z ∧ z ≤ 255) (w : World) (h : RdF B b a n d zs w) (_hBw : B ≤ w.heap.size) :
    Calls Tryd.prog 28 #[.pointer (some ⟨b, 1, none⟩)] w fun e w' => e = .returned (.string (strOfNums zs)) ∧ RdF B b a n d zs w' ∧ KF B b w w' := by
  obtain ⟨hB, p, v, hp, hb, ho, hn, h0⟩ := h
  by_cases he : zs = []
  · subst he
    obtain rfl := h0 rfl
    have c2 : w.drew.cell? ⟨b, 2, none⟩ = some (.slice none 0 0) := by
      have : w.drew.heap[b]? = some (.cells #[.int .i64 a, p, .slice none 0 0, .int .i32 n, .int .i64 d] 48 (0, 0)) := hb
      rw [Lib.cell_of_heap this]; rfl
    have hSD : (Builtin.unsafeSliceData_ #[35] 57 #[.slice none 0 0]).run Tryd.prog w.drew = .ok (.pointer none) w.drew := rfl
    have hUS := Lib.run_unsafeString_none (P := Tryd.prog) w.drew 57 3 9 none
    have hfin : RdF B b a n d [] w.drew := ⟨hB, p, _, hp, hb, ho, hn, h0⟩
    go_enter Tryd.func28, Tryd.ntmps28
    go_wp2
    go_region
    all_goals (go_wp2; go_ret; exact ⟨rfl, hfin, Below.drew (Below.refl B w), (Lib.OthersKept.refl _ _ w).drew⟩)
  · have hl0 : zs.length ≠ 0 := fun e => he (List.length_eq_zero_iff.mp e)
    obtain ⟨g, cap, cur, fz, rfl, hbg, hg, hfz, hnc, hcm, hcs, htake⟩ : ∃ g cap cur fz, v = .slice (some ⟨g, 0, none⟩) zs.length cap ∧ B ≤ g ∧ w.heap[g]? = some (.cells cur 5 fz) ∧ fz.2 ≤ zs.length * 1 ∧ zs.length ≤ cap ∧ cap ≤ maxLen ∧ cur.size = cap * 1 ∧ cur.toList.take (zs.length * 1) = u8s zs := by
      rcases ho.2 with ⟨_, hx⟩ | ⟨g, cap, cur, fz, hv, r⟩
      · exact absurd hx hl0
      · exact ⟨g, cap, cur, fz, hv, r⟩
    have c2 : w.drew.cell? ⟨b, 2, none⟩ = some (.slice (some ⟨g, 0, none⟩) zs.length cap) := by
      have : w.drew.heap[b]? = some (.cells #[.int .i64 a, p, .slice (some ⟨g, 0, none⟩) zs.length cap, .int .i32 n, .int .i64 d] 48 (0, 0)) := hb
      rw [Lib.cell_of_heap this]; rfl
    have hSD : (Builtin.unsafeSliceData_ #[35] 57 #[.slice (some ⟨g, 0, none⟩) zs.length cap]).run Tryd.prog w.drew = .ok (.pointer (some ⟨g, 0, none⟩)) w.drew :=
      Lib.run_unsafeSliceData_row _ _ _ _ _ _ (by omega)
    have hUS : (Builtin.unsafeString_ #[57, 3] 9 #[.pointer (some ⟨g, 0, none⟩), .int .i64 zs.length]).run Tryd.prog w.drew = .ok (.string (strOfNums zs)) (w.drew.freeze ⟨g, 0, none⟩ zs.length) := by
      have hl : ((zs.map fun z => UInt8.ofNat z.toNat).length : Nat) = zs.length := by simp
      have := Lib.run_unsafeString_row w.drew 57 3 9 5 Tryd.underlying57 (by kernel_rfl) g cur.size (by have hg' : w.drew.heap[g]? = some (.cells cur 5 fz) := hg; simp [World.shape?, hg']) (zs.map fun z => UInt8.ofNat z.toNat) (by simpa using he) (by rw [hl]; omega) (by rw [hl]; unfold maxLen at hcm; omega) (by
        intro j x hx
        rw [List.getElem?_map] at hx
        cases hj : zs[j]? with
        | none => rw [hj] at hx; cases hx
        | some z =>
          rw [hj] at hx
          obtain rfl : UInt8.ofNat z.toNat = x := by simpa using hx
          have hzz := hz z (List.mem_of_getElem? hj)
          have h5 := ho.cells (g := g) rfl j (.int .u8 z) (by simp [u8s, hj])
          have e : ((UInt8.ofNat z.toNat).toNat : Int) = z := by simp only [UInt8.toNat_ofNat']; omega
          rw [e]
          exact h5)
      rw [hl] at this
      exact this
    have hfin : RdF B b a n d zs (w.drew.freeze ⟨g, 0, none⟩ zs.length) := by
      have hgb : g ≠ b := fun e => hn (by simp [Value.ownBlock, e])
      refine ⟨hB, p, .slice (some ⟨g, 0, none⟩) zs.length cap, hp, ?_, ?_, hn, fun e => (he e).elim⟩
      · unfold World.freeze
        rw [if_neg hl0]
        simp only [Array.getElem?_modify]
        rw [if_neg hgb]
        exact hb
      · refine ⟨ho.1, Or.inr ⟨g, cap, cur, if fz.1 == fz.2 then (0, 0 + zs.length) else (min fz.1 0, max fz.2 (0 + zs.length)), rfl, hbg, ?_, ?_, hnc, hcm, hcs, htake⟩⟩
        · unfold World.freeze
          rw [if_neg hl0]
          obtain ⟨lo, hi⟩ := fz
          have hg' : w.drew.heap[g]? = some (.cells cur 5 (lo, hi)) := hg
          simp only [Array.getElem?_modify, hg']
          simp
        · split <;> simp <;> omega
    go_enter Tryd.func28, Tryd.ntmps28
    go_wp2
    go_region
    all_goals (go_wp2; go_ret; exact ⟨rfl, hfin, Lib.below_freeze (Below.drew (Below.refl B w)) (p := ⟨g, 0, none⟩) hbg _, ((Lib.OthersKept.refl _ _ w).drew).freeze ⟨g, 0, none⟩ _ ⟨cur, fz, hg⟩⟩)

end Go.Proofs.YtkhmaiggcihneaaDoor
