/-
  The document's own Append of layer 10, walked: the drawn statement with its two appends, operation by operation.
-/
import Derived.Test.YtokngnpopnfkhaaDoorPkWalR
import Derived.Test.YtokngnpopnfkhaaDoorPkMixes
import Derived.Deep.QuietTactic
import Derived.BigQuiet
namespace Go.Proofs.YtokngnpopnfkhaaDoor
open Go.RowKit

/-- append([]byte{}, b...): the bytes in new memory. -/
theorem run_copy_of (w : World) (g : Nat) (hg : w.heap[g]? = some (.cells #[] 5 (0, 0))) (yv : Value) (b : List Int) (hA : ArgB w yv b) (hl : b.length ≤ 1000000) (ty : TypeId) :
    ∃ ua uc w', (Builtin.append_ #[38, 38] ty #[.slice (some ⟨g, 0, none⟩) 0 0, yv]).run Tryd.prog w = .ok (.slice ua b.length uc) w' ∧ ArgB w' (.slice ua b.length uc) b ∧ Below w.heap.size w w' ∧ (b ≠ [] → ∀ k, (Value.slice ua b.length uc).ownBlock = some k → w.heap.size ≤ k ∧ k < w'.heap.size) := by
  obtain ⟨i0, hi, hz0, hz1, hz2⟩ := info_parts info_byte
  have hown : w.ownsRow 0 5 1 (.slice (some ⟨g, 0, none⟩) 0 0) 0 [] := ⟨rfl, Or.inr ⟨g, 0, #[], rfl, Nat.zero_le _, hg, Nat.le_refl _, Nat.zero_le _, rfl, rfl⟩⟩
  rcases hA with ⟨rfl, rfl⟩ | ⟨x, cap, rfl, hc, hcell⟩
  · exact ⟨_, _, w, run_append_owned_none (P := Tryd.prog) (w := w) 0 38 ty 5 i0 1 Tryd.underlying38 hi _ 0 [] hown, Or.inr ⟨⟨g, 0, none⟩, 0, rfl, Nat.le_refl _, fun i hi => by cases hi⟩, Below.refl _ _, fun h => (h rfl).elim⟩
  · have hnews : ∀ j u, (b.map (Value.int .u8))[j]? = some u → w.cell? (x.add j) = some u := fun j u hu => by
      rw [List.getElem?_map] at hu
      obtain ⟨z, hz, rfl⟩ := Option.map_eq_some_iff.mp hu
      have hj : j < b.length := (List.getElem?_eq_some_iff.mp hz).1
      rw [hcell j hj, List.getD_eq_getElem?_getD, hz]; rfl
    by_cases h0 : b.length = 0
    · obtain rfl : b = [] := List.eq_nil_of_length_eq_zero h0
      have hr := run_append_room (P := Tryd.prog) w 38 ty 5 i0 Tryd.underlying38 hi g 0 0 #[] hg x 0 cap [] (by simp) (fun j u hu => by simp at hu) (fun u hu => by cases hu) (Nat.le_refl _) (by simp)
      have e : w.setRow g (#[].toList.take (0 * i0.size) ++ ([] : List Value) ++ #[].toList.drop (0 * i0.size + ([] : List Value).length)).toArray = w := by
        have := setRow_self w g #[] _ _ hg
        simpa using this
      rw [e] at hr
      exact ⟨_, _, w, hr, Or.inr ⟨⟨g, 0, none⟩, 0, rfl, Nat.le_refl _, fun i hi => by cases hi⟩, Below.refl _ _, fun h => (h rfl).elim⟩
    · have hfit : Builtin.nextslicecap (0 + b.length) 0 * i0.bytes ≤ 281474976710656 := by
        rw [hz2]
        exact growslice_fits (by omega) (by omega)
      have hr := run_append_grow (P := Tryd.prog) w 38 ty 5 i0 (.int .u8 0) Tryd.underlying38 hi hz0 ⟨g, 0, none⟩ 0 0 [] (by simp) (fun j u hu => by simp at hu) x b.length cap (b.map (Value.int .u8)) (by rw [hz1]; simp) hnews (by omega) (by omega) hfit
      rw [Nat.zero_add] at hr
      refine ⟨_, _, _, hr, ?_, ((Below.refl _ _).drew).alloc (Nat.le_refl _) _, fun _ k hk => ?_⟩
      · refine Or.inr ⟨⟨w.heap.size, 0, none⟩, _, rfl, grownCap_ge w b.length 0 5, fun i hi => ?_⟩
        have e : (⟨w.heap.size, 0, none⟩ : Addr).add i = ⟨w.drew.heap.size, i, none⟩ := by unfold Addr.add; split <;> simp_all
        rw [e, World.cell?_alloc_new]
        rw [Array.getElem?_append_left (by simpa using hi)]
        simp [hi]
      · cases hk
        exact ⟨Nat.le_refl _, by simp⟩

/-- What each operation of the statement has made. -/
def TA (m N bl b1 : Nat) (va ya : Option Addr) (vcap yc : Nat) (Ls : List (List Int)) (b : List Int) (base : Nat) (F : Foot) : Nat → Value → World → Prop
  | 0, v, _ => v = .pointer (some ⟨m, 0, none⟩)
  | 1, v, _ => v = .pointer (some ⟨m, 0, none⟩)
  | 2, v, _ => v = .pointer (some ⟨m, 0, none⟩)
  | 3, v, _ => v = .pointer (some ⟨m, 0, none⟩)
  | 4, v, _ => v = .slice va N vcap
  | 6, v, _ => v = .slice ya bl yc
  | 5, v, w => ∃ g, v = .slice (some ⟨g, 0, none⟩) 0 0 ∧ b1 ≤ g ∧ w.heap[g]? = some (.cells #[] 5 (0, 0))
  | 7, v, w => ∃ ua uc, v = .slice ua b.length uc ∧ ArgB w (.slice ua b.length uc) b ∧ (b ≠ [] → ∀ k, (Value.slice ua b.length uc).ownBlock = some k → b1 ≤ k ∧ k < w.heap.size)
  | 8, v, w => ∃ g ua uc, v = .slice (some ⟨g, 0, none⟩) 1 1 ∧ b1 ≤ g ∧ g < w.heap.size ∧ w.cell? ⟨g, 0, none⟩ = some (.slice ua b.length uc) ∧ ArgB w (.slice ua b.length uc) b ∧ (b ≠ [] → ∀ k, (Value.slice ua b.length uc).ownBlock = some k → b1 ≤ k ∧ k < w.heap.size)
  | 9, v, w => LLF w base (fun i => F i ∨ (b1 ≤ i ∧ i < w.heap.size)) v (Ls ++ [b])
  | _, _, _ => True
theorem TA.keep {m N bl b1 : Nat} {va ya : Option Addr} {vcap yc : Nat} {Ls : List (List Int)} {b : List Int} {base : Nat} {F : Foot} (i : Nat) (v : Value) (w w' : World) (h : TA m N bl b1 va ya vcap yc Ls b base F i v w) (hb : Below w.heap.size w w') : TA m N bl b1 va ya vcap yc Ls b base F i v w' := by
  match i, h with
  | 0, h => exact h
  | 1, h => exact h
  | 2, h => exact h
  | 3, h => exact h
  | 4, h => exact h
  | 6, h => exact h
  | 5, h =>
    obtain ⟨g, e, h1, h2⟩ := h
    exact ⟨g, e, h1, (hb.block g (Array.getElem?_eq_some_iff.1 h2).1).trans h2⟩
  | 7, h =>
    obtain ⟨ua, uc, e, h1, h2⟩ := h
    exact ⟨ua, uc, e, h1.below hb, fun hn k hk => ⟨(h2 hn k hk).1, Nat.lt_of_lt_of_le (h2 hn k hk).2 hb.size⟩⟩
  | 8, h =>
    obtain ⟨g, ua, uc, e, h1, h2, h3, h4, h5⟩ := h
    exact ⟨g, ua, uc, e, h1, Nat.lt_of_lt_of_le h2 hb.size, (hb.cell (p := ⟨g, 0, none⟩) h2).trans h3, h4.below hb, fun hn k hk => ⟨(h5 hn k hk).1, Nat.lt_of_lt_of_le (h5 hn k hk).2 hb.size⟩⟩
  | 9, h => exact (LLF.after h hb).weak (fun i hi => hi.imp id (fun hh => ⟨hh.1, Nat.lt_of_lt_of_le hh.2 hb.size⟩))
  | n + 10, _ => exact trivial
/-- What the append does to what is old. -/
def GA (b1 : Nat) (va : Option Addr) (N vcap : Nat) (base : Nat) (w w' : World) : Prop := (∀ g, (Value.slice va N vcap).ownBlock = some g → g < b1) ∧ OnlyO base (fun i => some i = (Value.slice va N vcap).ownBlock) w w'
theorem TA.grow {m N bl b1 : Nat} {va ya : Option Addr} {vcap yc : Nat} {Ls : List (List Int)} {b : List Int} {base : Nat} {F : Foot} (i : Nat) (v : Value) (w w' : World) (hne : i ≠ 9) (h : TA m N bl b1 va ya vcap yc Ls b base F i v w) (hg : GA b1 va N vcap base w w') : TA m N bl b1 va ya vcap yc Ls b base F i v w' := by
  have hk : ∀ j, b1 ≤ j → j < w.heap.size → w'.heap[j]? = w.heap[j]? := fun j h1 h2 => hg.2.keep j h2 (fun e => by have := hg.1 j e.symm; omega)
  have hA : ∀ (u : Value), ArgB w u b → (b ≠ [] → ∀ k, u.ownBlock = some k → b1 ≤ k ∧ k < w.heap.size) → ArgB w' u b := fun u ha hb => ha.only hg.2 (fun hn k hk e => by have := hg.1 k e.symm; have := (hb hn k hk).1; omega)
  match i, h with
  | 0, h => exact h
  | 1, h => exact h
  | 2, h => exact h
  | 3, h => exact h
  | 4, h => exact h
  | 6, h => exact h
  | 5, h =>
    obtain ⟨g, e, h1, h2⟩ := h
    exact ⟨g, e, h1, (hk g h1 (Array.getElem?_eq_some_iff.1 h2).1).trans h2⟩
  | 7, h =>
    obtain ⟨ua, uc, e, h1, h2⟩ := h
    exact ⟨ua, uc, e, hA _ h1 h2, fun hn k hk => ⟨(h2 hn k hk).1, Nat.lt_of_lt_of_le (h2 hn k hk).2 hg.2.size⟩⟩
  | 8, h =>
    obtain ⟨g, ua, uc, e, h1, h2, h3, h4, h5⟩ := h
    exact ⟨g, ua, uc, e, h1, Nat.lt_of_lt_of_le h2 hg.2.size, (World.cell?_of_block (hk g h1 h2)).trans h3, hA _ h4 h5, fun hn k hk => ⟨(h5 hn k hk).1, Nat.lt_of_lt_of_le (h5 hn k hk).2 hg.2.size⟩⟩
  | 9, _ => exact (hne rfl).elim
  | n + 10, _ => exact trivial
/-- Where the statement stands: ahead of the append nothing old has changed, behind it only the row. -/
def JA (base : Nat) (va : Option Addr) (N vcap : Nat) (w1 : World) (b : Bool) (w : World) : Prop := OnlyO base (fun i => b = true ∧ some i = (Value.slice va N vcap).ownBlock) w1 w
theorem JA.keep {base : Nat} {va : Option Addr} {N vcap : Nat} {w1 : World} (hb1 : base ≤ w1.heap.size) (b : Bool) (w w' : World) (h : JA base va N vcap w1 b w) (hb : Below w.heap.size w w') : JA base va N vcap w1 b w' :=
  ⟨(OnlyO.bel h).trans (hb.mono (Nat.le_trans hb1 (OnlyO.size h))), fun i hi hne => (hb.block i (Nat.lt_of_lt_of_le hi (OnlyO.size h))).trans (OnlyO.keep h i hi hne)⟩
theorem JA.below {base : Nat} {va : Option Addr} {N vcap : Nat} {w1 w : World} (h : JA base va N vcap w1 false w) : Below w1.heap.size w1 w :=
  ⟨(OnlyO.bel h).os, (OnlyO.bel h).tape, (OnlyO.bel h).output, OnlyO.size h, fun i hi => OnlyO.keep h i hi (fun e => by cases e.1)⟩
theorem JA.block {base : Nat} {va : Option Addr} {N vcap : Nat} {w1 w : World} {b : Bool} (h : JA base va N vcap w1 b w) {i : Nat} (hi : i < w1.heap.size) (hne : ∀ g, (Value.slice va N vcap).ownBlock = some g → g ≠ i) : w.heap[i]? = w1.heap[i]? := OnlyO.keep h i hi (fun ⟨_, e⟩ => hne i e.symm rfl)

set_option maxRecDepth 100000 in
set_option maxHeartbeats 8000000 in
theorem rapp_done (base : Nat) (F : Foot) (m : Nat) (Ls : List (List Int)) (all : Nat) (yv : Value) (b : List Int) (w : World) (h : RLog w base F m Ls all) (hy : ArgB w yv b) (hyf : b ≠ [] → ∀ k, yv.ownBlock = some k → ¬ F k) (hbase : base ≤ w.heap.size) (hU : usedL Ls + b.length + 10 ≤ all) (hall : all ≤ 400000) :
    Calls Tryd.prog 14 #[.pointer (some ⟨m, 0, none⟩), yv] w fun e w' => e = .returned (.int .i64 0) ∧ RLog w' base (fun i => F i ∨ (w.heap.size ≤ i ∧ i < w'.heap.size)) m (Ls ++ [b]) all ∧ OnlyO base (fun i => F i ∨ i = m) w w' := by
  have HH := Lib.hid h
  have HUS := Lib.hid (fun W (hW : Below w.heap.size w W) => rused_any base F m Ls all W (h.after hW) (by omega))
  have HY := Lib.hid hy
  obtain ⟨⟨v, c0, hl⟩, c1, q, s, hbm, own⟩ := h
  obtain ⟨va, vcap, rfl⟩ := hl.size
  have hmany := used_many Ls
  obtain ⟨N, hN⟩ : ∃ N, Ls.length = N := ⟨_, rfl⟩
  have HN := Lib.hid hN
  rw [hN] at c0 hl hmany
  have HL := Lib.hid hl
  have HC0 := Lib.hid c0
  have HC1 := Lib.hid c1
  have HQ := Lib.hid q
  have HOWN := Lib.hid own
  have HVB : Hid (∀ g, (Value.slice va N vcap).ownBlock = some g → F g ∧ base ≤ g ∧ g < w.heap.size ∧ g ≠ m) := fun g hg => by
    obtain ⟨vs, h1, h2, h3, h4⟩ := HL.out
    exact ⟨h3 g hg, own g (h3 g hg)⟩
  obtain ⟨ya, yc, rfl⟩ := hy.size
  have HYF := Lib.hid hyf
  obtain ⟨U, hUs⟩ : ∃ U, usedL Ls = U := ⟨_, rfl⟩
  rw [hUs] at hU hmany HUS
  have HBL : Hid (b.length ≤ 1000000) := by unfold Hid; omega
  have HNL : Hid (Ls.length ≤ 1000000) := by rw [hN]; unfold Hid; omega
  have h1 : ¬ (all : Int) < (b.length : Int) := by omega
  have h1n : ¬ all < b.length := by omega
  have h2n : ¬ all < U + b.length + 10 := by omega
  have hw1 : IntKind.i64.wrap ((U : Int) + (b.length : Int)) = (U : Int) + (b.length : Int) := by rw [IntKind.wrap_i64]; omega
  have hw2 : IntKind.i64.wrap ((U : Int) + (b.length : Int) + 10) = (U : Int) + (b.length : Int) + 10 := by rw [IntKind.wrap_i64]; omega
  have h2 : ¬ (all : Int) < (U : Int) + (b.length : Int) + 10 := by omega
  clear hl hN q own hy hyf hmany hUs hU hall
  go_enter Tryd.func14, Tryd.ntmps14
  go_wp2
  go_quiet (first | (go_at_call 18; exact Calls.quiet_of_same (HUS.out _ (below_drewN (Below.refl _ _) _))))
  have D1 := Lib.hid (below_drewN (Below.refl w.heap.size w) nq)
  generalize w.drewN nq = w1 at D1 ⊢
  go_wp2
  have s1 := D1.out.size
  have hb1 : base ≤ w1.heap.size := Nat.le_trans hbase s1
  have hm1 : m < w1.heap.size := Nat.lt_of_lt_of_le s s1
  have C0 : Hid (∀ q W, JA base va N vcap w1 q W → W.cell? ⟨m, 0, none⟩ = some (.slice va N vcap)) := fun q W hj => by
    have e := (JA.block hj hm1 (fun g hg => (HVB.out g hg).2.2.2)).trans (D1.out.block m s)
    exact (World.cell?_of_block e).trans HC0.out
  have HY7 : Hid (∀ q W, JA base va N vcap w1 q W → ArgB W (.slice ya b.length yc) b) := fun q W hj => (HY.out.below D1.out).only hj (fun hn k hk e => HYF.out hn k hk (HVB.out k e.2.symm).1)
  clear c0 c1 h1 h2 h1n h2n hw1 hw2
  refine wp_region_mixp 10 9 (TA m N b.length w1.heap.size va ya vcap yc Ls b base F) (JA base va N vcap w1) (GA w1.heap.size va N vcap base) (by kernel_rfl) (by kernel_rfl) (by decide) TA.keep TA.grow (JA.keep hb1) ⟨(Below.refl _ _).drew, fun _ _ _ => rfl⟩ ?_ ?_
  · refine ⟨?_, ?_, ?_, ?_, ?_, ?_, ?_, ?_, ?_, ?_, ?_, ?_, ?_, ?_, ?_, ?_, ?_, ?_, ?_, ?_, trivial⟩
    · intro _ u W q hj hd
      simp only [List.take_succ_cons, List.take_zero, putAll, Act.put, List.setIfInBounds_toArray, List.set_cons_succ, List.set_cons_zero, Nat.zero_add, Nat.reduceAdd]
      go_wp2
      first | exact ⟨rfl, Below.refl _ _⟩ | exact ⟨_, rfl, rfl, Below.refl _ _⟩
    · exact fun hk => absurd hk (by decide)
    · intro _ u W q hj hd
      simp only [List.take_succ_cons, List.take_zero, putAll, Act.put, List.setIfInBounds_toArray, List.set_cons_succ, List.set_cons_zero, Nat.zero_add, Nat.reduceAdd]
      go_wp2
      first | exact ⟨rfl, Below.refl _ _⟩ | exact ⟨_, rfl, rfl, Below.refl _ _⟩
    · exact fun hk => absurd hk (by decide)
    · intro _ u W q hj hd
      obtain ⟨hd0, _⟩ := hd
      have e0 : u 1 = _ := hd0 rfl (by decide)
      simp only [List.take_succ_cons, List.take_zero, putAll, Act.put, List.setIfInBounds_toArray, List.set_cons_succ, List.set_cons_zero, Nat.zero_add, Nat.reduceAdd]
      rw [e0]
      go_wp2
      first | exact ⟨rfl, Below.refl _ _⟩ | exact ⟨_, rfl, rfl, Below.refl _ _⟩
    · exact fun hk => absurd hk (by decide)
    · intro _ u W q hj hd
      obtain ⟨hd0, _⟩ := hd
      have e0 : u 2 = _ := hd0 rfl (by decide)
      simp only [List.take_succ_cons, List.take_zero, putAll, Act.put, List.setIfInBounds_toArray, List.set_cons_succ, List.set_cons_zero, Nat.zero_add, Nat.reduceAdd]
      rw [e0]
      go_wp2
      first | exact ⟨rfl, Below.refl _ _⟩ | exact ⟨_, rfl, rfl, Below.refl _ _⟩
    · exact fun hk => absurd hk (by decide)
    · intro _ u W q hj hd
      obtain ⟨hd0, _⟩ := hd
      have e0 : u 3 = _ := hd0 rfl (by decide)
      have k1 := C0.out q W hj
      simp only [List.take_succ_cons, List.take_zero, putAll, Act.put, List.setIfInBounds_toArray, List.set_cons_succ, List.set_cons_zero, Nat.zero_add, Nat.reduceAdd]
      rw [e0]
      go_wp2
      first | exact ⟨rfl, Below.refl _ _⟩ | exact ⟨_, rfl, rfl, Below.refl _ _⟩
    · exact fun hk => absurd hk (by decide)
    · intro _ u W q hj hd
      simp only [List.take_succ_cons, List.take_zero, putAll, Act.put, List.setIfInBounds_toArray, List.set_cons_succ, List.set_cons_zero, Nat.zero_add, Nat.reduceAdd]
      go_wp2
      exact ⟨⟨W.heap.size, rfl, OnlyO.size hj, heap_alloc_new W _⟩, (Below.refl _ _).alloc (Nat.le_refl _) _⟩
    · exact fun hk => absurd hk (by decide)
    · intro _ u W q hj hd
      simp only [List.take_succ_cons, List.take_zero, putAll, Act.put, List.setIfInBounds_toArray, List.set_cons_succ, List.set_cons_zero, Nat.zero_add, Nat.reduceAdd]
      go_wp2
      first | exact ⟨rfl, Below.refl _ _⟩ | exact ⟨_, rfl, rfl, Below.refl _ _⟩
    · exact fun hk => absurd hk (by decide)
    · intro _ u W q hj hd
      obtain ⟨hd0, hd1, _⟩ := hd
      obtain ⟨g5, e0, hg1, hg2⟩ := hd0 rfl (by decide)
      have e1 : u 6 = _ := hd1 rfl (by decide)
      simp only [List.take_succ_cons, List.take_zero, putAll, Act.put, List.setIfInBounds_toArray, List.set_cons_succ, List.set_cons_zero, Nat.zero_add, Nat.reduceAdd]
      rw [e0, e1]
      have hyW : ArgB W (.slice ya b.length yc) b := HY7.out q W hj
      obtain ⟨ua, uc, w', hr, ka, kb, kc⟩ := run_copy_of W g5 hg2 _ b hyW HBL.out 38
      refine Lib.wpList_append_run W rfl _ _ _ _ rfl _ _ rfl rfl _ w' hr ?_
      go_wp2
      exact ⟨ua, uc, rfl, ka, fun hn k hk => ⟨Nat.le_trans (OnlyO.size hj) (kc hn k hk).1, (kc hn k hk).2⟩⟩
    · exact fun hk => absurd hk (by decide)
    · intro _ u W q hj hd
      obtain ⟨hd0, _⟩ := hd
      obtain ⟨ua, uc, e0, ha, hb7⟩ := hd0 rfl (by decide)
      simp only [List.take_succ_cons, List.take_zero, putAll, Act.put, List.setIfInBounds_toArray, List.set_cons_succ, List.set_cons_zero, Nat.zero_add, Nat.reduceAdd]
      rw [e0]
      go_wp2
      have hbx : Below W.heap.size W (W.alloc (.cells #[.slice ua b.length uc] 38)) := (Below.refl _ _).alloc (Nat.le_refl _) _
      exact ⟨⟨W.heap.size, ua, uc, rfl, OnlyO.size hj, by simp, by rw [World.cell?_alloc_new]; rfl, ha.below hbx, fun hn k hk => ⟨(hb7 hn k hk).1, Nat.lt_of_lt_of_le (hb7 hn k hk).2 hbx.size⟩⟩, hbx⟩
    · exact fun hk => absurd hk (by decide)
    · exact fun hk => absurd hk (by decide)
    · intro _ u W hj hd
      obtain ⟨hd0, hd1, _, _⟩ := hd
      have e0 : u 4 = _ := hd0 rfl (by decide)
      obtain ⟨g8, ua, uc, e1, hg1, hg2, hg3, ha, hb8⟩ := hd1 rfl (by decide)
      simp only [List.take_succ_cons, List.take_zero, putAll, Act.put, List.setIfInBounds_toArray, List.set_cons_succ, List.set_cons_zero, Nat.zero_add, Nat.reduceAdd]
      rw [e0, e1]
      have hLW : LLF W base F (.slice va N vcap) Ls := (HL.out.after D1.out).after (JA.below hj)
      have hsz := OnlyO.size hj
      refine wp_moreF rfl _ _ rfl base (fun i => F i ∨ (w1.heap.size ≤ i ∧ i < W.heap.size)) _ Ls rfl (hLW.weak (fun i hi => Or.inl hi)) g8 _ b rfl hg3 ha (fun hn k hk => ⟨fun e => ?_, Or.inl (Or.inr (hb8 hn k hk))⟩) HNL.out (Nat.le_trans hb1 hsz) ?_
      · have q1 := (HVB.out k e).2.2.1
        have q2 := (hb8 hn k hk).1
        omega
      · intro v' w' k1 k2 k3
        have s2 := k2.size
        go_wp2
        refine ⟨k1.weak (fun i hi => ?_), ⟨fun g hg => Nat.lt_of_lt_of_le (HVB.out g hg).2.2.1 s1, k2⟩, ⟨(OnlyO.bel hj).trans k2.bel, fun i hi hne => (k2.keep i (Nat.lt_of_lt_of_le hi hsz) (fun e => hne ⟨rfl, e⟩)).trans (OnlyO.keep hj i hi (fun ⟨e, _⟩ => by cases e))⟩⟩
        rcases hi with (hi | hi) | hi
        · exact Or.inl hi
        · exact Or.inr ⟨hi.1, by omega⟩
        · exact Or.inr ⟨by omega, hi.2⟩
  · intro u W hj hT
    have e0 : u 0 = .pointer (some ⟨m, 0, none⟩) := hT 0 (by decide)
    have h9 : LLF W base (fun i => F i ∨ (w1.heap.size ≤ i ∧ i < W.heap.size)) (u 9) (Ls ++ [b]) := hT 9 (by decide)
    have er : W.heap[m]? = w.heap[m]? := (JA.block hj hm1 (fun g hg => (HVB.out g hg).2.2.2)).trans (D1.out.block m s)
    have c0 := (World.cell?_of_block (a := ⟨m, 0, none⟩) er).trans HC0.out
    have f0 := (World.frozen?_of_block (a := ⟨m, 0, none⟩) er).trans (HQ.out 0)
    obtain ⟨fa, fc, e9⟩ := h9.size
    rw [e9] at h9
    have H9 := Lib.hid h9
    have HJ := Lib.hid hj
    have HER := Lib.hid er
    have HSZ := Lib.hid (OnlyO.size hj)
    clear hj hT h9 er
    obtain ⟨K, hK⟩ : ∃ K, (Ls ++ [b]).length = K := ⟨_, rfl⟩
    rw [hK] at e9
    rw [hK] at H9
    clear hK
    simp only [List.take_succ_cons, List.take_zero, List.drop_succ_cons, List.drop_zero, putAll, Act.put, List.setIfInBounds_toArray, List.set_cons_succ, List.set_cons_zero, Nat.zero_add, Nat.reduceAdd]
    rw [e0, e9]
    go_wp2
    go_ret
    have hs0 := HSZ.out
    have ho : OnlyO base (fun i => F i ∨ i = m) w (W.setCell ⟨m, 0, none⟩ (.slice fa K fc)) := by
      have o1 : OnlyO base (fun i => F i ∨ i = m) w W := ⟨(D1.out.mono hbase).trans (OnlyO.bel HJ.out), fun i hi hne => (OnlyO.keep HJ.out i (Nat.lt_of_lt_of_le hi s1) (fun ⟨_, e⟩ => hne (Or.inl (HVB.out i e.symm).1))).trans (D1.out.block i hi)⟩
      exact o1.set (Or.inr rfl) hbm 0 _
    have hm2 : m < W.heap.size := Nat.lt_of_lt_of_le hm1 hs0
    have e2 : ∀ i, i ≠ m → (W.setCell ⟨m, 0, none⟩ (.slice fa K fc)).heap[i]? = W.heap[i]? := fun i hi => Below.heap_setCell W ⟨m, 0, none⟩ _ i hi
    have esz : (W.setCell ⟨m, 0, none⟩ (.slice fa K fc)).heap.size = W.heap.size := by simp
    have oset : OnlyO base (fun i => i = m) W (W.setCell ⟨m, 0, none⟩ (.slice fa K fc)) := (OnlyO.refl base (fun i => i = m) W).set rfl hbm 0 _
    have hF9 : ∀ i, (F i ∨ (w1.heap.size ≤ i ∧ i < W.heap.size)) → base ≤ i ∧ i < W.heap.size ∧ i ≠ m := fun i hi => by
      rcases hi with hi | hi
      · have := HOWN.out i hi; exact ⟨this.1, by omega, this.2.2⟩
      · exact ⟨by omega, hi.2, by omega⟩
    refine ⟨rfl, ⟨⟨.slice fa K fc, ?_, ?_⟩, ?_, fun i => ?_, by rw [esz]; exact hm2, hbm, fun i hi => ?_⟩, ho⟩
    · simp [go_sem, c0]
    · have h9' := (H9.out.only oset (fun i hi e => (hF9 i hi).2.2 e) (fun i e => by rw [e]; exact hbm))
      exact h9'.weak (fun i hi => hi.imp id (fun hh => ⟨by omega, by rw [esz]; exact hh.2⟩))
    · have c1' := (World.cell?_of_block (a := ⟨m, 1, none⟩) HER.out).trans HC1.out
      simp [go_sem, c1']
    · rw [World.frozen?_setCell]
      exact (World.frozen?_of_block (a := ⟨m, i, none⟩) HER.out).trans (HQ.out i)
    · rcases hi with hi | hi
      · have := HOWN.out i hi; exact ⟨this.1, by omega, this.2.2⟩
      · exact ⟨by omega, hi.2, by omega⟩

set_option maxRecDepth 100000 in
set_option maxHeartbeats 8000000 in
theorem rapp_full (base : Nat) (F : Foot) (m : Nat) (Ls : List (List Int)) (all : Nat) (yv : Value) (b : List Int) (w : World) (h : RLog w base F m Ls all) (hy : ArgB w yv b) (hU : all < usedL Ls + b.length + 10) (hle : usedL Ls ≤ all) (hall : all ≤ 400000) (hbl : b.length ≤ 1000000) :
    Calls Tryd.prog 14 #[.pointer (some ⟨m, 0, none⟩), yv] w fun e w' => e = .returned (.int .i64 11) ∧ Below w.heap.size w w' := by
  have HUS := Lib.hid (fun W (hW : Below w.heap.size w W) => rused_any base F m Ls all W (h.after hW) (by omega))
  have c1 := h.c1
  obtain ⟨ya, yc, rfl⟩ := hy.size
  obtain ⟨U, hUs⟩ : ∃ U, usedL Ls = U := ⟨_, rfl⟩
  rw [hUs] at hU hle HUS
  clear h hy hUs
  by_cases h1 : all < b.length
  · have h1' : (all : Int) < (b.length : Int) := by omega
    clear hU hle hall hbl
    go_enter Tryd.func14, Tryd.ntmps14
    go_wp2
    go_quiet (first | (go_at_call 18; exact Calls.quiet_of_same (HUS.out _ (below_drewN (Below.refl _ _) _))))
    have D1 := Lib.hid (below_drewN (Below.refl w.heap.size w) nq)
    generalize w.drewN nq = w1 at D1 ⊢
    go_wp2
    go_ret
    exact ⟨rfl, D1.out⟩
  · have h1' : ¬ (all : Int) < (b.length : Int) := by omega
    have hw1 : IntKind.i64.wrap ((U : Int) + (b.length : Int)) = (U : Int) + (b.length : Int) := by rw [IntKind.wrap_i64]; omega
    have hw2 : IntKind.i64.wrap ((U : Int) + (b.length : Int) + 10) = (U : Int) + (b.length : Int) + 10 := by rw [IntKind.wrap_i64]; omega
    have h2 : (all : Int) < (U : Int) + (b.length : Int) + 10 := by omega
    have h2n : all < U + b.length + 10 := by omega
    clear hU hle hall hbl
    go_enter Tryd.func14, Tryd.ntmps14
    go_wp2
    go_quiet (first | (go_at_call 18; exact Calls.quiet_of_same (HUS.out _ (below_drewN (Below.refl _ _) _))))
    have D1 := Lib.hid (below_drewN (Below.refl w.heap.size w) nq)
    generalize w.drewN nq = w1 at D1 ⊢
    go_wp2
    go_ret
    exact ⟨rfl, D1.out⟩

end Go.Proofs.YtokngnpopnfkhaaDoor
