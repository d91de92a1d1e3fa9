/-
  The document's own number with a sign: Of, and what is kept while a pair is stored; which is greater, by the numbers.
-/
import Derived.Test.YtcdafppnfflmcaaSgG
import Derived.Test.YtcdafppnfflmcaaSgH
import Derived.Test.YtcdafppnfflmcaaStores
namespace Go.Proofs.Ytcdafppnfflmcaa
open Go.RowKit

/-- A pair whose lists are written out; none of them is short but empty. -/
structure PairV (v : Value) (W : World) (U D : Nat) : Prop where
  is : ∃ a1 c1 a2 c2 lu ld, v = .agg #[.slice a1 lu.length c1, .slice a2 ld.length c2] ∧ PairIs W (.slice a1 lu.length c1) (.slice a2 ld.length c2) lu ld U D 128 ∧ (lu = [] ∨ 2 < lu.length) ∧ (ld = [] ∨ 2 < ld.length)
theorem PairV.after {v : Value} {W W1 : World} {U D : Nat} (h : PairV v W U D) (hb : Below W.heap.size W W1) : PairV v W1 U D := by
  obtain ⟨a1, c1, a2, c2, lu, ld, e, k, h1, h2⟩ := h.is
  exact ⟨a1, c1, a2, c2, lu, ld, e, k.after hb, h1, h2⟩
/-- A variable of two cells, no more. -/
def Two2 (W : World) (p : Nat) : Prop := ∀ k, 2 ≤ k → W.cell? ⟨p, k, none⟩ = none
theorem Two2.after {W W1 : World} {p : Nat} (h : Two2 W p) (hp : p < W.heap.size) (hb : Below W.heap.size W W1) : Two2 W1 p := fun k hk => (hb.cell (p := ⟨p, k, none⟩) hp).trans (h k hk)
theorem Two2.fresh (W : World) (x y : Value) (t : TypeId) : Two2 (W.alloc (.cells #[x, y] t)) W.heap.size := fun k hk => by
  simp [go_sem]
  omega
theorem Bools.apart {W : World} {v : Value} {l : List Bool} {p : Nat} (h : Bools W v l) (hl : 2 < l.length) (k : Two2 W p) : ∀ b, v.ownBlock = some b → b ≠ p := by
  obtain ⟨b, off, cap, rfl, hc, hlt, hcell⟩ := h
  intro b' hb' e
  simp only [Value.ownBlock, Option.some.injEq] at hb'
  subst hb' e
  have h1 := hcell 2 hl
  rw [k (off + 2) (by omega)] at h1
  cases h1
theorem Bools.putNe {W : World} {v : Value} {l : List Bool} (h : Bools W v l) {p i : Nat} (u : Value) (hn : ∀ b, v.ownBlock = some b → b ≠ p) : Bools (W.setCell ⟨p, i, none⟩ u) v l := by
  obtain ⟨b, off, cap, rfl, hc, hlt, hcell⟩ := h
  have hne : b ≠ p := hn b rfl
  refine ⟨b, off, cap, rfl, hc, by simp [go_sem]; exact hlt, fun k hk => ?_⟩
  rw [← hcell k hk]
  have : ¬ p = b := fun e => hne e.symm
  have : ¬ b = p := hne
  simp [go_sem, *]
theorem BoolsN.store2 {W : World} {v : Value} {l : List Bool} (h : BoolsN W v l) (hl : l = [] ∨ 2 < l.length) {p : Nat} (k : Two2 W p) (x y : Value) : BoolsN (put2 W p x y) v l := by
  rcases h with h | h
  · exact Or.inl h
  · rcases hl with rfl | hl
    · obtain ⟨b, off, cap, rfl, hc, hlt, hcell⟩ := h
      exact Or.inr ⟨b, off, cap, rfl, hc, by unfold put2; simp [go_sem]; exact hlt, fun i hi => by simp at hi⟩
    · have hn := h.apart hl k
      exact Or.inr ((h.putNe x hn).putNe y hn)
theorem PairV.store2 {v : Value} {W : World} {U D p : Nat} (h : PairV v W U D) (k : Two2 W p) (x y : Value) : PairV v (put2 W p x y) U D := by
  obtain ⟨a1, c1, a2, c2, lu, ld, e, h0, h1, h2⟩ := h.is
  exact ⟨a1, c1, a2, c2, lu, ld, e, ⟨h0.u.store2 h1 k x y, h0.d.store2 h2 k x y, h0.nu, h0.nd, h0.U, h0.D⟩, h1, h2⟩
theorem Two2.else2 {W : World} {p r : Nat} (h : Two2 W p) (hne : r ≠ p) (x y : Value) : Two2 (put2 W r x y) p := fun k hk => by
  have h2 : ¬ r = p := hne
  have h3 : ¬ p = r := fun e => hne e.symm
  have := h k hk
  unfold put2
  simp [go_sem, *]

set_option maxRecDepth 100000 in
set_option maxHeartbeats 1000000 in
theorem rof_long (b : Bool) (h l : Int) (A : Nat) (w : World) (hA : IsW h l A) :
    Calls Try.prog 35 #[.agg #[.bool b, .int .u64 h, .int .u64 l]] w fun e w' => ∃ a1 n1 c1 a2 n2 c2, e = .returned (.agg #[.slice a1 n1 c1, .slice a2 n2 c2]) ∧ PairV (.agg #[.slice a1 n1 c1, .slice a2 n2 c2]) w' (if b then 0 else A) (if b then A else 0) ∧ Below w.heap.size w w' := by
  have HA := Lib.hid hA
  obtain ⟨a0, a1, a2, a3, _⟩ := hA
  have K0 := Lib.hid ((Var3.fresh w (.bool b) (.int .u64 h) (.int .u64 l) 58 w.heap.size rfl).alloc (.cells #[.slice none 0 0, .slice none 0 0] 60))
  have R0 := Lib.hid (Var2.fresh (w.alloc (.cells #[.bool b, .int .u64 h, .int .u64 l] 58)) (.slice none 0 0) (.slice none 0 0) 60 (w.heap.size + 1) (by simp))
  cases b
  · go_enter Try.func35, Try.ntmps35
    go_wp2_with (go_at_call 13; (with_reducible refine (bits_new h l _ a0 a1 a2 a3).mono ?_); rintro e w1 ⟨va, la, rfl, ka, ⟨na, ea⟩, g1, hnew⟩; obtain ⟨_, _, _, _, _, _, _⟩ := K0.out.after g1; obtain ⟨_, _, _, _, _⟩ := R0.out.after g1; have D1 := below_step (below_more (below_more (Below.refl w.heap.size w) _) _) g1; replace ea := Lib.hid (ea.trans HA.out.num); replace na := Lib.hid na; have KA := Lib.hid ka; obtain ⟨bo, oo, co, rfl, _, _, hcx⟩ := ka; clear hcx; replace hnew := Lib.hid hnew)
    refine bodyPost_ret (v := .agg #[.slice (some ⟨bo, oo, none⟩) la.length co, .slice none 0 0]) (by simp [results, Try.results35, go_sem, *]) rfl ⟨_, _, _, _, _, _, rfl, ?_, ?_⟩
    · have hp : ∀ b, (Value.slice (some ⟨bo, oo, none⟩) la.length co).ownBlock = some b → w.heap.size + 1 < b := fun b hb => by have := hnew.out b hb; simp at this; omega
      exact ⟨_, _, _, _, la, [], rfl, ⟨((KA.out.put _ hp).put _ hp).orNil, BoolsN.nil _, by rw [na.out]; decide, by decide, ea.out, rfl⟩, Or.inr (by rw [na.out]; decide), Or.inl rfl⟩
    · exact (D1.setCell (by simp <;> omega) _).setCell (by simp <;> omega) _
  · go_enter Try.func35, Try.ntmps35
    go_wp2_with (go_at_call 13; (with_reducible refine (bits_new h l _ a0 a1 a2 a3).mono ?_); rintro e w1 ⟨va, la, rfl, ka, ⟨na, ea⟩, g1, hnew⟩; obtain ⟨_, _, _, _, _, _, _⟩ := K0.out.after g1; obtain ⟨_, _, _, _, _⟩ := R0.out.after g1; have D1 := below_step (below_more (below_more (Below.refl w.heap.size w) _) _) g1; replace ea := Lib.hid (ea.trans HA.out.num); replace na := Lib.hid na; have KA := Lib.hid ka; obtain ⟨bo, oo, co, rfl, _, _, hcx⟩ := ka; clear hcx; replace hnew := Lib.hid hnew)
    refine bodyPost_ret (v := .agg #[.slice none 0 0, .slice (some ⟨bo, oo, none⟩) la.length co]) (by simp [results, Try.results35, go_sem, *]) rfl ⟨_, _, _, _, _, _, rfl, ?_, ?_⟩
    · have hp : ∀ b, (Value.slice (some ⟨bo, oo, none⟩) la.length co).ownBlock = some b → w.heap.size + 1 < b := fun b hb => by have := hnew.out b hb; simp at this; omega
      exact ⟨_, _, _, _, [], la, rfl, ⟨BoolsN.nil _, ((KA.out.put _ hp).put _ hp).orNil, by decide, by rw [na.out]; decide, rfl, ea.out⟩, Or.inl rfl, Or.inr (by rw [na.out]; decide)⟩
    · exact (D1.setCell (by simp <;> omega) _).setCell (by simp <;> omega) _

/-- What stands in a pair, and the number. -/
def upN (b : Bool) (A : Nat) : Nat := if b then 0 else A
def dnN (b : Bool) (A : Nat) : Nat := if b then A else 0
theorem pair_num (b : Bool) (A : Nat) : ((upN b A : Nat) : Int) - dnN b A = valZ b A := by cases b <;> simp [upN, dnN, valZ]
theorem pair_sum (b c : Bool) (A B : Nat) : ((upN b A + upN c B : Nat) : Int) - (dnN b A + dnN c B : Nat) = valZ b A + valZ c B := by
  have := pair_num b A
  have := pair_num c B
  omega
theorem pair_cmp (b c : Bool) (A B : Nat) : cmpI (upN b A + dnN c B) (dnN b A + upN c B) = cmpZ (valZ b A) (valZ c B) := by
  have := pair_num b A
  have := pair_num c B
  unfold cmpI cmpZ; split <;> split <;> (try split) <;> (try split) <;> omega
theorem gap_abs {U D : Nat} {z : Int} (h : (U : Int) - D = z) : gapN U D = z.natAbs := by unfold gapN; omega

end Go.Proofs.Ytcdafppnfflmcaa
