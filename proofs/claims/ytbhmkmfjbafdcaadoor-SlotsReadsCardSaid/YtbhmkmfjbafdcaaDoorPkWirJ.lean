/-
  Package wire's calls that put bytes behind bytes: walked.
-/
import Derived.Test.YtbhmkmfjbafdcaaDoorPkBase
import Derived.Test.YtbhmkmfjbafdcaaDoorPkWirH
import Derived.Test.YtbhmkmfjbafdcaaDoorPkWirE
import Derived.Laws.IdiomStrings
namespace Go.Proofs.YtbhmkmfjbafdcaaDoor
open Go.RowKit

/-- What a call hands back that puts bytes behind a list of the caller's own. -/
def PutsB (base : Nat) (l : List Int) (w : World) (e : Ending) (w' : World) : Prop := ∃ v, e = .returned v ∧ OwnInts 5 .u8 w' base v l ∧ Below base w w' ∧ base ≤ w'.heap.size
theorem number_up (n : Nat) (w : World) (hn : n ≤ 18446744073709551615) : Calls Tryd.prog 72 #[.int .u8 0, .int .u64 n] w fun e w' => ∃ v, e = .returned v ∧ OwnInts 5 .u8 w' w.heap.size v (numB n) ∧ Below w.heap.size w w' := by
  have h := number_any 0 n w (by decide) hn
  rw [Nat.zero_add] at h
  exact h
theorem number_low (n : Nat) (w : World) (hn : n ≤ 18446744073709551615) : Calls Tryd.prog 72 #[.int .u8 16, .int .u64 n] w fun e w' => ∃ v, e = .returned v ∧ OwnInts 5 .u8 w' w.heap.size v ((((digs n).length : Int) + 16) :: digs n) ∧ Below w.heap.size w w' := by
  have h := number_any 16 n w (by decide) hn
  rw [show (((16 + (digs n).length : Nat)) : Int) = ((digs n).length : Int) + 16 by omega] at h
  exact h

set_option maxRecDepth 100000 in
set_option maxHeartbeats 4000000 in
theorem wnum_any (base : Nat) (v : Value) (l : List Int) (n : Nat) (w : World) (hO : OwnN w base v l) (hb : base ≤ w.heap.size) (hl : l.length ≤ 1000000) (hn : n ≤ 18446744073709551615) :
    Calls Tryd.prog 66 #[v, .int .u64 n] w (PutsB base (l ++ numB n) w) := by
  have hA := hO.argB
  obtain ⟨a, cap, rfl⟩ := hA.size
  have HA := Lib.hid hA
  have HN := Lib.hid (fun w => number_up n w hn)
  have hlen : Hid (0 < (numB n).length ∧ (numB n).length ≤ 1000000) := by have := numB_len hn; exact ⟨by omega, by omega⟩
  clear hO hA
  go_enter Tryd.func66, Tryd.ntmps66
  go_wp2_with (first
    | (go_at_call 72; (with_reducible refine (HN.out _).mono ?_); rintro e w1 ⟨u, rfl, h1, g1⟩; have H1 := Lib.hid h1; have G1 := Lib.hid g1; obtain ⟨ug, uc, rfl⟩ := h1.form; have A1 := Lib.hid (HA.out.below g1); clear h1 g1)
    | (go_at_call 65; (with_reducible refine (concat_two _ _ l _ _ _ _ rfl A1.out H1.out.argB hlen.out.1 hl hlen.out.2).mono ?_); rintro e w2 ⟨x, rfl, h2, g2⟩; have H2 := Lib.hid h2; have G2 := Lib.hid (below_step G1.out g2); clear h2 g2))
  go_ret
  refine ⟨_, rfl, ?_, G2.out.mono hb, Nat.le_trans hb G2.out.size⟩
  exact H2.out.older (Nat.le_trans hb G1.out.size)

/-- What New hands back. -/
def GivesR (B : List Int) (w : World) (e : Ending) (w' : World) : Prop := ∃ r hi, e = .returned (.pointer (some ⟨r, 0, none⟩)) ∧ w.heap.size ≤ r ∧ RdrIs w' hi r (some B) ∧ Below w.heap.size w w'
theorem BytesIs.argB {w : World} {v : Value} {B : List Int} (h : BytesIs w v B) : (∃ cap, v = .slice none 0 cap ∧ B = []) ∨ ArgB w v B := by
  obtain ⟨a, cap, rfl, hc, hcell⟩ := h
  cases a with
  | none =>
    have : B = [] := by
      cases B with
      | nil => rfl
      | cons z r => obtain ⟨b, off, e, _⟩ := hcell 0 (by simp); cases e
    subst this
    exact Or.inl ⟨cap, rfl, rfl⟩
  | some x =>
    refine Or.inr (Or.inr ⟨x, cap, rfl, hc, fun i hi => ?_⟩)
    obtain ⟨b, off, e, h⟩ := hcell i hi
    cases e
    have e2 : (⟨b, off, none⟩ : Addr).add i = ⟨b, off + i, none⟩ := by unfold Addr.add; split <;> simp_all
    rw [e2]; exact h
set_option maxRecDepth 100000 in
set_option maxHeartbeats 4000000 in
theorem wnew_any (v : Value) (B : List Int) (w : World) (hv : BytesIs w v B) (hb : ∀ z ∈ B, 0 ≤ z ∧ z ≤ 255) (hl : B.length ≤ 1000000) : Calls Tryd.prog 51 #[v] w (GivesR B w) := by
  have hc : (convert 36 9 v).run Tryd.prog w = .ok (.string (strOfNums B)) w := by
    rcases hv.argB with ⟨cap, rfl, rfl⟩ | h
    · exact run_convert_bytes_nil w 36 5 Tryd.underlying36 Tryd.underlying5 0 cap 9 Tryd.underlying9
    · exact conv_arg h hb
  obtain ⟨a, cap, rfl, _⟩ := hv
  have HO := Lib.hid hb
  generalize hS : strOfNums B = t at hc
  have HS := Lib.hid hS
  clear hb hS
  go_enter Tryd.func51, Tryd.ntmps51
  go_wp2
  go_ret
  refine ⟨w.heap.size, w.heap.size + 1, rfl, Nat.le_refl _, ⟨⟨Nat.lt_succ_self _, by simp⟩, ?_, HO.out, hl⟩, (Below.refl _ _).alloc (Nat.le_refl _) _⟩
  show Var2 _ w.heap.size (.string (strOfNums B)) (.bool false)
  rw [HS.out]
  exact Var2.fresh w _ _ _ _ rfl
theorem wnew_nil (w : World) : Calls Tryd.prog 51 #[.slice none 0 0] w (GivesR [] w) := wnew_any _ _ w ⟨none, 0, rfl, Nat.le_refl _, fun i hi => by cases hi⟩ (by intro z hz; cases hz) (by decide)

end Go.Proofs.YtbhmkmfjbafdcaaDoor
