/-
  The document's own Append of layer 10, walked: the drawn statement with its two appends, operation by operation.
-/
import Derived.Test.YtejelednnacnaaaGreatDoorPkBase
import Derived.Test.YtejelednnacnaaaGreatDoorPkCrc
import Derived.Test.YtejelednnacnaaaGreatDoorPkMarkB
import Derived.RegionTactic
import Derived.StillTailTactics
import Derived.Laws.OwnMore
import Derived.Test.YtejelednnacnaaaGreatDoorPkMixes
import Derived.Deep.QuietTactic
import Derived.BigQuiet
namespace Go.Proofs.YtejelednnacnaaaGreatDoor
open Go.RowKit

/-- append([]byte{}, b...): the bytes in new memory. -/
theorem run_copy_of (w : World) (g : Nat) (hg : w.heap[g]? = some (.cells #[] 5 (0, 0))) (yv : Value) (b : List Int) (hA : ArgB w yv b) (hl : b.length ≤ 1000000) (ty : TypeId) :
    ∃ ua uc w', (Builtin.append_ #[22, 22] ty #[.slice (some ⟨g, 0, none⟩) 0 0, yv]).run Tryz.prog w = .ok (.slice ua b.length uc) w' ∧ ArgB w' (.slice ua b.length uc) b ∧ Below w.heap.size w w' ∧ (b ≠ [] → ∀ k, (Value.slice ua b.length uc).ownBlock = some k → w.heap.size ≤ k ∧ k < w'.heap.size) := by
  obtain ⟨i0, hi, hz0, hz1, hz2⟩ := info_parts info_byte
  have hown : w.ownsRow 0 5 1 (.slice (some ⟨g, 0, none⟩) 0 0) 0 [] := ⟨rfl, Or.inr ⟨g, 0, #[], rfl, Nat.zero_le _, hg, Nat.le_refl _, Nat.zero_le _, rfl, rfl⟩⟩
  rcases hA with ⟨rfl, rfl⟩ | ⟨x, cap, rfl, hc, hcell⟩
  · exact ⟨_, _, w, run_append_owned_none (P := Tryz.prog) (w := w) 0 22 ty 5 i0 1 Tryz.underlying22 hi _ 0 [] hown, Or.inr ⟨⟨g, 0, none⟩, 0, rfl, Nat.le_refl _, fun i hi => by cases hi⟩, Below.refl _ _, fun h => (h rfl).elim⟩
  · have hnews : ∀ j u, (b.map (Value.int .u8))[j]? = some u → w.cell? (x.add j) = some u := fun j u hu => by
      rw [List.getElem?_map] at hu
      obtain ⟨z, hz, rfl⟩ := Option.map_eq_some_iff.mp hu
      have hj : j < b.length := (List.getElem?_eq_some_iff.mp hz).1
      rw [hcell j hj, List.getD_eq_getElem?_getD, hz]; rfl
    by_cases h0 : b.length = 0
    · obtain rfl : b = [] := List.eq_nil_of_length_eq_zero h0
      have hr := run_append_room (P := Tryz.prog) w 22 ty 5 i0 Tryz.underlying22 hi g 0 0 #[] hg x 0 cap [] (by simp) (fun j u hu => by simp at hu) (fun u hu => by cases hu) (Nat.le_refl _) (by simp)
      have e : w.setRow g (#[].toList.take (0 * i0.size) ++ ([] : List Value) ++ #[].toList.drop (0 * i0.size + ([] : List Value).length)).toArray = w := by
        have := setRow_self w g #[] _ _ hg
        simpa using this
      rw [e] at hr
      exact ⟨_, _, w, hr, Or.inr ⟨⟨g, 0, none⟩, 0, rfl, Nat.le_refl _, fun i hi => by cases hi⟩, Below.refl _ _, fun h => (h rfl).elim⟩
    · have hfit : Builtin.nextslicecap (0 + b.length) 0 * i0.bytes ≤ 281474976710656 := by
        rw [hz2]
        exact growslice_fits (by omega) (by omega)
      have hr := run_append_grow (P := Tryz.prog) w 22 ty 5 i0 (.int .u8 0) Tryz.underlying22 hi hz0 ⟨g, 0, none⟩ 0 0 [] (by simp) (fun j u hu => by simp at hu) x b.length cap (b.map (Value.int .u8)) (by rw [hz1]; simp) hnews (by omega) (by omega) hfit
      rw [Nat.zero_add] at hr
      refine ⟨_, _, _, hr, ?_, ((Below.refl _ _).drew).alloc (Nat.le_refl _) _, fun _ k hk => ?_⟩
      · refine Or.inr ⟨⟨w.heap.size, 0, none⟩, _, rfl, grownCap_ge w b.length 0 5, fun i hi => ?_⟩
        have e : (⟨w.heap.size, 0, none⟩ : Addr).add i = ⟨w.drew.heap.size, i, none⟩ := by unfold Addr.add; split <;> simp_all
        rw [e, World.cell?_alloc_new]
        rw [Array.getElem?_append_left (by simpa using hi)]
        simp [hi]
      · cases hk
        exact ⟨Nat.le_refl _, by simp⟩

/-- What each operation of the statement has made. -/
def TA (m N bl b1 : Nat) (va ya : Option Addr) (vcap yc : Nat) (Ls : List (List Int)) (b : List Int) (base : Nat) (F : Foot) : Nat → Value → World → Prop
  | 0, v, _ => v = .pointer (some ⟨m, 0, none⟩)
  | 1, v, _ => v = .pointer (some ⟨m, 0, none⟩)
  | 2, v, _ => v = .pointer (some ⟨m, 0, none⟩)
  | 3, v, _ => v = .pointer (some ⟨m, 0, none⟩)
  | 4, v, _ => v = .slice va N vcap
  | 6, v, _ => v = .slice ya bl yc
  | 5, v, w => ∃ g, v = .slice (some ⟨g, 0, none⟩) 0 0 ∧ b1 ≤ g ∧ w.heap[g]? = some (.cells #[] 5 (0, 0))
  | 7, v, w => ∃ ua uc, v = .slice ua b.length uc ∧ ArgB w (.slice ua b.length uc) b ∧ (b ≠ [] → ∀ k, (Value.slice ua b.length uc).ownBlock = some k → b1 ≤ k ∧ k < w.heap.size)
  | 8, v, w => ∃ g ua uc, v = .slice (some ⟨g, 0, none⟩) 1 1 ∧ b1 ≤ g ∧ g < w.heap.size ∧ w.cell? ⟨g, 0, none⟩ = some (.slice ua b.length uc) ∧ ArgB w (.slice ua b.length uc) b ∧ (b ≠ [] → ∀ k, (Value.slice ua b.length uc).ownBlock = some k → b1 ≤ k ∧ k < w.heap.size)
  | 9, v, w => LLF w base (fun i => F i ∨ (b1 ≤ i ∧ i < w.heap.size)) v (Ls ++ [b])
  | _, _, _ => True
theorem TA.keep {m N bl b1 : Nat} {va ya : Option Addr} {vcap yc : Nat} {Ls : List (List Int)} {b : List Int} {base : Nat} {F : Foot} (i : Nat) (v : Value) (w w' : World) (h : TA m N bl b1 va ya vcap yc Ls b base F i v w) (hb : Below w.heap.size w w') : TA m N bl b1 va ya vcap yc Ls b base F i v w' := by
  match i, h with
  | 0, h => exact h
  | 1, h => exact h
  | 2, h => exact h
  | 3, h => exact h
  | 4, h => exact h
  | 6, h => exact h
  | 5, h =>
    obtain ⟨g, e, h1, h2⟩ := h
    exact ⟨g, e, h1, (hb.block g (Array.getElem?_eq_some_iff.1 h2).1).trans h2⟩
  | 7, h =>
    obtain ⟨ua, uc, e, h1, h2⟩ := h
    exact ⟨ua, uc, e, h1.below hb, fun hn k hk => ⟨(h2 hn k hk).1, Nat.lt_of_lt_of_le (h2 hn k hk).2 hb.size⟩⟩
  | 8, h =>
    obtain ⟨g, ua, uc, e, h1, h2, h3, h4, h5⟩ := h
    exact ⟨g, ua, uc, e, h1, Nat.lt_of_lt_of_le h2 hb.size, (hb.cell (p := ⟨g, 0, none⟩) h2).trans h3, h4.below hb, fun hn k hk => ⟨(h5 hn k hk).1, Nat.lt_of_lt_of_le (h5 hn k hk).2 hb.size⟩⟩
  | 9, h => exact (LLF.after h hb).weak (fun i hi => hi.imp id (fun hh => ⟨hh.1, Nat.lt_of_lt_of_le hh.2 hb.size⟩))
  | n + 10, _ => exact trivial
/-- What the append does to what is old. -/
def GA (b1 : Nat) (va : Option Addr) (N vcap : Nat) (base : Nat) (w w' : World) : Prop := (∀ g, (Value.slice va N vcap).ownBlock = some g → g < b1) ∧ OnlyO base (fun i => some i = (Value.slice va N vcap).ownBlock) w w'
theorem TA.grow {m N bl b1 : Nat} {va ya : Option Addr} {vcap yc : Nat} {Ls : List (List Int)} {b : List Int} {base : Nat} {F : Foot} (i : Nat) (v : Value) (w w' : World) (hne : i ≠ 9) (h : TA m N bl b1 va ya vcap yc Ls b base F i v w) (hg : GA b1 va N vcap base w w') : TA m N bl b1 va ya vcap yc Ls b base F i v w' := by
  have hk : ∀ j, b1 ≤ j → j < w.heap.size → w'.heap[j]? = w.heap[j]? := fun j h1 h2 => hg.2.keep j h2 (fun e => by have := hg.1 j e.symm; omega)
  have hA : ∀ (u : Value), ArgB w u b → (b ≠ [] → ∀ k, u.ownBlock = some k → b1 ≤ k ∧ k < w.heap.size) → ArgB w' u b := fun u ha hb => ha.only hg.2 (fun hn k hk e => by have := hg.1 k e.symm; have := (hb hn k hk).1; omega)
  match i, h with
  | 0, h => exact h
  | 1, h => exact h
  | 2, h => exact h
  | 3, h => exact h
  | 4, h => exact h
  | 6, h => exact h
  | 5, h =>
    obtain ⟨g, e, h1, h2⟩ := h
    exact ⟨g, e, h1, (hk g h1 (Array.getElem?_eq_some_iff.1 h2).1).trans h2⟩
  | 7, h =>
    obtain ⟨ua, uc, e, h1, h2⟩ := h
    exact ⟨ua, uc, e, hA _ h1 h2, fun hn k hk => ⟨(h2 hn k hk).1, Nat.lt_of_lt_of_le (h2 hn k hk).2 hg.2.size⟩⟩
  | 8, h =>
    obtain ⟨g, ua, uc, e, h1, h2, h3, h4, h5⟩ := h
    exact ⟨g, ua, uc, e, h1, Nat.lt_of_lt_of_le h2 hg.2.size, (World.cell?_of_block (hk g h1 h2)).trans h3, hA _ h4 h5, fun hn k hk => ⟨(h5 hn k hk).1, Nat.lt_of_lt_of_le (h5 hn k hk).2 hg.2.size⟩⟩
  | 9, _ => exact (hne rfl).elim
  | n + 10, _ => exact trivial
/-- Where the statement stands: ahead of the append nothing old has changed, behind it only the row. -/
def JA (base : Nat) (va : Option Addr) (N vcap : Nat) (w1 : World) (b : Bool) (w : World) : Prop := OnlyO base (fun i => b = true ∧ some i = (Value.slice va N vcap).ownBlock) w1 w
theorem JA.keep {base : Nat} {va : Option Addr} {N vcap : Nat} {w1 : World} (hb1 : base ≤ w1.heap.size) (b : Bool) (w w' : World) (h : JA base va N vcap w1 b w) (hb : Below w.heap.size w w') : JA base va N vcap w1 b w' :=
  ⟨(OnlyO.bel h).trans (hb.mono (Nat.le_trans hb1 (OnlyO.size h))), fun i hi hne => (hb.block i (Nat.lt_of_lt_of_le hi (OnlyO.size h))).trans (OnlyO.keep h i hi hne)⟩
theorem JA.below {base : Nat} {va : Option Addr} {N vcap : Nat} {w1 w : World} (h : JA base va N vcap w1 false w) : Below w1.heap.size w1 w :=
  ⟨(OnlyO.bel h).os, (OnlyO.bel h).tape, (OnlyO.bel h).output, OnlyO.size h, fun i hi => OnlyO.keep h i hi (fun e => by cases e.1)⟩
theorem JA.block {base : Nat} {va : Option Addr} {N vcap : Nat} {w1 w : World} {b : Bool} (h : JA base va N vcap w1 b w) {i : Nat} (hi : i < w1.heap.size) (hne : ∀ g, (Value.slice va N vcap).ownBlock = some g → g ≠ i) : w.heap[i]? = w1.heap[i]? := OnlyO.keep h i hi (fun ⟨_, e⟩ => hne i e.symm rfl)

end Go.Proofs.YtejelednnacnaaaGreatDoor
