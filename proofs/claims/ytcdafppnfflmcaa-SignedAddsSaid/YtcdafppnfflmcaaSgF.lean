/-
  The document's own numbers with a sign: two lists of bits: pad, Of, Add, To, Compare, walked.
-/
import Derived.Test.YtcdafppnfflmcaaRefE
import Derived.Test.YtcdafppnfflmcaaOf
import Derived.Laws.AppendOwnNone
import Derived.Test.YtcdafppnfflmcaaSgB
namespace Go.Proofs.Ytcdafppnfflmcaa
open Go.RowKit

theorem val_more (x : List Bool) : val (x ++ [false]) = val x := by rw [val_append]; simp [b2n]

set_option maxRecDepth 100000 in
set_option maxHeartbeats 1000000 in
/-- At least so many bits. -/
theorem pad_own (v : Value) (l : List Bool) (n : Nat) (w : World) (hv : Bools w v l) (hl : l.length ≤ 100000) (hn : n ≤ 100000) :
    Calls Try.prog 58 #[v, .int .i64 n] w (GivesBits (fun x => x.length = max l.length n ∧ val x = val l) w) := by
  obtain ⟨i0, hi, hz0, hz1, hz2⟩ := info_parts info_bool
  have HV := Lib.hid hv
  obtain ⟨ba, oa, ca, rfl, _, _, hca⟩ := hv
  clear hca
  go_enter Try.func58, Try.ntmps58
  go_wp2_with (at_builtin; refine wpList_append_own _ rfl _ _ 26 rfl w.heap.size 4 i0 (.bool false) 1 1 Try.underlying26 hi hz0 hz1 hz2 rfl (by decide) _ 0 [] rfl (OwnBits.fresh _ _ _ (by simp) (Nat.le_refl _)).1 ⟨ba, oa, none⟩ l.length ca (l.map Value.bool) rfl (by simp) ?c1 ?c2 ?c3 ?c4 ?c5 ?_)
  case c1 => exact (HV.out.alloc _).news
  case c2 => exact bools_one l
  case c3 => unfold maxLen; omega
  case c4 => omega
  case c5 => simp
  intro v1 w1 hown1 hgrow1 hiff1
  have hb1 : OwnBits w1 w.heap.size v1 l := ⟨by simpa using hown1, by simpa using hiff1⟩
  have hbel1 : Below w.heap.size w w1 := ((Below.refl _ _).alloc (Nat.le_refl _) _).grown hgrow1 (by simp) (fun k hk => by simp only [Value.ownBlock, Option.some.injEq] at hk; omega)
  clear hown1 hgrow1 hiff1
  go_wp2
  go_loopw [5] (fun vo wr => ∃ (x : List Bool), x.length ≤ max l.length n ∧ l.length ≤ x.length ∧ Hid (val x = val l) ∧ OwnBits wr w.heap.size vo x ∧ Below w.heap.size w wr) (fun vo _ => n - (match vo with | .slice _ k _ => k | _ => 0))
  case atStart => exact ⟨l, by omega, Nat.le_refl _, Lib.hid rfl, hb1, hbel1⟩
  case round =>
    obtain ⟨x, hx, hlx, hval, hown, hbel⟩ := hrel
    have hown0 := hown
    obtain ⟨bx, ox, cx, rfl, _, _, hcx⟩ := hown.bools
    clear hcx
    by_cases h1 : x.length < n
    · go_wp2_with (at_builtin; refine wpList_append_own _ rfl _ _ 26 rfl w.heap.size 4 i0 (.bool false) 1 1 Try.underlying26 hi hz0 hz1 hz2 rfl (by decide) _ _ _ rfl (hown.1.alloc _) ⟨wr.heap.size, 0, none⟩ 1 1 [.bool false] rfl rfl ?c1 ?c2 ?c3 ?c4 ?c5 ?_)
      case c1 => exact cell_one_new _ _ _
      case c2 => intro u hu; simp at hu; subst hu; rfl
      case c3 => unfold maxLen; omega
      case c4 => omega
      case c5 => have := hbel.size; simp; omega
      intro v' w2 hown' hgrow hiff
      have hn2 := own_next hown hown' hgrow hiff hbel
      have hv3 := Lib.hid ((val_more x).trans hval.out)
      clear hown hown0 hown' hgrow hiff hbel
      obtain ⟨hn1, hn2⟩ := hn2
      obtain ⟨b', o', c', rfl, _⟩ := hn1.bools
      go_wp2
      go_roundw
      case rel => exact ⟨x ++ [false], by simp; omega, by simp; omega, hv3, hn1, hn2⟩
      case measure => simp; omega
    · go_wp2
      go_ret
      exact ⟨_, x, rfl, hown0.bools, ⟨by omega, hval.out⟩, hbel⟩

set_option maxRecDepth 100000 in
set_option maxHeartbeats 1000000 in
theorem pad_nil (n : Nat) (w : World) (hn : n ≤ 100000) :
    Calls Try.prog 58 #[.slice none 0 0, .int .i64 n] w (GivesBits (fun x => x.length = max ([] : List Bool).length n ∧ val x = val []) w) := by
  obtain ⟨i0, hi, hz0, hz1, hz2⟩ := info_parts info_bool
  go_enter Try.func58, Try.ntmps58
  go_wp2_with (at_builtin; refine wpList_append_own_none rfl _ _ 26 rfl w.heap.size 4 i0 1 Try.underlying26 hi _ 0 [] rfl (OwnBits.fresh _ _ _ (by simp) (Nat.le_refl _)).1 rfl ?_)
  go_wp2
  go_loopw [5] (fun vo wr => ∃ (x : List Bool), x.length ≤ n ∧ Hid (val x = 0) ∧ OwnBits wr w.heap.size vo x ∧ Below w.heap.size w wr) (fun vo _ => n - (match vo with | .slice _ k _ => k | _ => 0))
  case atStart => exact ⟨[], by simp, Lib.hid rfl, OwnBits.fresh _ _ _ rfl (Nat.le_refl _), (Below.refl _ _).alloc (Nat.le_refl _) _⟩
  case round =>
    obtain ⟨x, hx, hval, hown, hbel⟩ := hrel
    have hown0 := hown
    obtain ⟨bx, ox, cx, rfl, _, _, hcx⟩ := hown.bools
    clear hcx
    by_cases h1 : x.length < n
    · go_wp2_with (at_builtin; refine wpList_append_own _ rfl _ _ 26 rfl w.heap.size 4 i0 (.bool false) 1 1 Try.underlying26 hi hz0 hz1 hz2 rfl (by decide) _ _ _ rfl (hown.1.alloc _) ⟨wr.heap.size, 0, none⟩ 1 1 [.bool false] rfl rfl ?c1 ?c2 ?c3 ?c4 ?c5 ?_)
      case c1 => exact cell_one_new _ _ _
      case c2 => intro u hu; simp at hu; subst hu; rfl
      case c3 => unfold maxLen; omega
      case c4 => omega
      case c5 => have := hbel.size; simp; omega
      intro v' w2 hown' hgrow hiff
      have hn2 := own_next hown hown' hgrow hiff hbel
      have hv3 := Lib.hid ((val_more x).trans hval.out)
      clear hown hown0 hown' hgrow hiff hbel
      obtain ⟨hn1, hn2⟩ := hn2
      obtain ⟨b', o', c', rfl, _⟩ := hn1.bools
      go_wp2
      go_roundw
      case rel => exact ⟨x ++ [false], by simp; omega, hv3, hn1, hn2⟩
      case measure => simp; omega
    · go_wp2
      go_ret
      exact ⟨_, x, rfl, hown0.bools, ⟨by simp; omega, hval.out⟩, hbel⟩
theorem pad_any (v : Value) (l : List Bool) (n : Nat) (w : World) (hv : BoolsN w v l) (hl : l.length ≤ 100000) (hn : n ≤ 100000) :
    Calls Try.prog 58 #[v, .int .i64 n] w (GivesBits (fun x => x.length = max l.length n ∧ val x = val l) w) := by
  rcases hv with ⟨rfl, rfl⟩ | hv
  · exact pad_nil n w hn
  · exact pad_own v l n w hv hl hn

/-- Two lists of bits: what is above 0, what is below. -/
structure PairIs (W : World) (vu vd : Value) (lu ld : List Bool) (U D n : Nat) : Prop where
  u : BoolsN W vu lu
  d : BoolsN W vd ld
  nu : lu.length ≤ n
  nd : ld.length ≤ n
  U : val lu = U
  D : val ld = D
theorem BoolsN.below {W W1 : World} {v : Value} {l : List Bool} (h : BoolsN W v l) (hb : Below W.heap.size W W1) : BoolsN W1 v l := h.belowOf (Nat.le_refl _) hb
theorem PairIs.after {W W1 : World} {vu vd : Value} {lu ld : List Bool} {U D n : Nat} (k : PairIs W vu vd lu ld U D n) (hb : Below W.heap.size W W1) : PairIs W1 vu vd lu ld U D n :=
  ⟨k.u.below hb, k.d.below hb, k.nu, k.nd, k.U, k.D⟩
theorem PairIs.alloc {W : World} {vu vd : Value} {lu ld : List Bool} {U D n : Nat} (k : PairIs W vu vd lu ld U D n) (o : Obj) : PairIs (W.alloc o) vu vd lu ld U D n := k.after ((Below.refl _ _).alloc (Nat.le_refl _) o)
theorem PairIs.drew {W : World} {vu vd : Value} {lu ld : List Bool} {U D n : Nat} (k : PairIs W vu vd lu ld U D n) : PairIs W.drew vu vd lu ld U D n := k.after (Below.refl _ _).drew
theorem PairIs.turn {W : World} {vu vd : Value} {lu ld : List Bool} {U D n : Nat} (k : PairIs W vu vd lu ld U D n) : PairIs W vd vu ld lu D U n := ⟨k.d, k.u, k.nd, k.nu, k.D, k.U⟩
def GivesP (U D n : Nat) (w : World) (e : Ending) (w' : World) : Prop := ∃ vu vd lu ld, e = .returned (.agg #[vu, vd]) ∧ PairIs w' vu vd lu ld U D n ∧ Below w.heap.size w w'
theorem Bools.put {W : World} {v : Value} {l : List Bool} (h : Bools W v l) {p i : Nat} (u : Value) (hn : ∀ b, v.ownBlock = some b → p < b) : Bools (W.setCell ⟨p, i, none⟩ u) v l := by
  obtain ⟨b, off, cap, rfl, hc, hlt, hcell⟩ := h
  have hne : p < b := hn b rfl
  refine ⟨b, off, cap, rfl, hc, by simp [go_sem]; exact hlt, fun k hk => ?_⟩
  rw [← hcell k hk]
  have : ¬ p = b := by omega
  have : ¬ b = p := by omega
  simp [go_sem, *]
theorem BoolsN.put {W : World} {v : Value} {l : List Bool} (h : BoolsN W v l) {p i : Nat} (u : Value) (hn : ∀ b, v.ownBlock = some b → p < b) : BoolsN (W.setCell ⟨p, i, none⟩ u) v l := by
  rcases h with h | h
  · exact Or.inl h
  · exact Or.inr (h.put u hn)

set_option maxRecDepth 100000 in
set_option maxHeartbeats 1000000 in
theorem rof_any (b : Bool) (h l : Int) (A : Nat) (w : World) (hA : IsW h l A) :
    Calls Try.prog 35 #[.agg #[.bool b, .int .u64 h, .int .u64 l]] w (GivesP (if b then 0 else A) (if b then A else 0) 128 w) := by
  have HA := Lib.hid hA
  obtain ⟨a0, a1, a2, a3, _⟩ := hA
  have K0 := Lib.hid ((Var3.fresh w (.bool b) (.int .u64 h) (.int .u64 l) 58 w.heap.size rfl).alloc (.cells #[.slice none 0 0, .slice none 0 0] 60))
  have R0 := Lib.hid (Var2.fresh (w.alloc (.cells #[.bool b, .int .u64 h, .int .u64 l] 58)) (.slice none 0 0) (.slice none 0 0) 60 (w.heap.size + 1) (by simp))
  cases b
  · go_enter Try.func35, Try.ntmps35
    go_wp2_with (go_at_call 13; (with_reducible refine (bits_new h l _ a0 a1 a2 a3).mono ?_); rintro e w1 ⟨va, la, rfl, ka, ⟨na, ea⟩, g1, hnew⟩; obtain ⟨_, _, _, _, _, _, _⟩ := K0.out.after g1; obtain ⟨_, _, _, _, _⟩ := R0.out.after g1; have D1 := below_step (below_more (below_more (Below.refl w.heap.size w) _) _) g1; replace ea := Lib.hid (ea.trans HA.out.num); replace na := Lib.hid na; have KA := Lib.hid ka; obtain ⟨bo, oo, co, rfl, _, _, hcx⟩ := ka; clear hcx; replace hnew := Lib.hid hnew)
    refine bodyPost_ret (v := .agg #[.slice (some ⟨bo, oo, none⟩) la.length co, .slice none 0 0]) (by simp [results, Try.results35, go_sem, *]) rfl ⟨_, _, la, [], rfl, ?_, ?_⟩
    · have hp : ∀ b, (Value.slice (some ⟨bo, oo, none⟩) la.length co).ownBlock = some b → w.heap.size + 1 < b := fun b hb => by have := hnew.out b hb; simp at this; omega
      exact ⟨((KA.out.put _ hp).put _ hp).orNil, BoolsN.nil _, by rw [na.out]; decide, by decide, ea.out, rfl⟩
    · exact (D1.setCell (by simp <;> omega) _).setCell (by simp <;> omega) _
  · go_enter Try.func35, Try.ntmps35
    go_wp2_with (go_at_call 13; (with_reducible refine (bits_new h l _ a0 a1 a2 a3).mono ?_); rintro e w1 ⟨va, la, rfl, ka, ⟨na, ea⟩, g1, hnew⟩; obtain ⟨_, _, _, _, _, _, _⟩ := K0.out.after g1; obtain ⟨_, _, _, _, _⟩ := R0.out.after g1; have D1 := below_step (below_more (below_more (Below.refl w.heap.size w) _) _) g1; replace ea := Lib.hid (ea.trans HA.out.num); replace na := Lib.hid na; have KA := Lib.hid ka; obtain ⟨bo, oo, co, rfl, _, _, hcx⟩ := ka; clear hcx; replace hnew := Lib.hid hnew)
    refine bodyPost_ret (v := .agg #[.slice none 0 0, .slice (some ⟨bo, oo, none⟩) la.length co]) (by simp [results, Try.results35, go_sem, *]) rfl ⟨_, _, [], la, rfl, ?_, ?_⟩
    · have hp : ∀ b, (Value.slice (some ⟨bo, oo, none⟩) la.length co).ownBlock = some b → w.heap.size + 1 < b := fun b hb => by have := hnew.out b hb; simp at this; omega
      exact ⟨BoolsN.nil _, ((KA.out.put _ hp).put _ hp).orNil, by decide, by rw [na.out]; decide, rfl, ea.out⟩
    · exact (D1.setCell (by simp <;> omega) _).setCell (by simp <;> omega) _

end Go.Proofs.Ytcdafppnfflmcaa
