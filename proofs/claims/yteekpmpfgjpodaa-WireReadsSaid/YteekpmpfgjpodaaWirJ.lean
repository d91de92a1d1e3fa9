/-
  Package wire's calls that put bytes behind bytes: walked.
-/
import Derived.Test.YteekpmpfgjpodaaCat
import Derived.Test.YteekpmpfgjpodaaWirH
import Derived.Test.YteekpmpfgjpodaaWirE
import Derived.Laws.IdiomStrings
namespace Go.Proofs.Yteekpmpfgjpodaa
open Go.RowKit

/-- What a call hands back that puts bytes behind a list of the caller's own. -/
def PutsB (base : Nat) (l : List Int) (w : World) (e : Ending) (w' : World) : Prop := ∃ v, e = .returned v ∧ OwnInts 5 .u8 w' base v l ∧ Below base w w' ∧ base ≤ w'.heap.size
/-- A list of the caller's own, or nil. -/
def OwnN (w : World) (base : Nat) (v : Value) (l : List Int) : Prop := w.ownsRow base 5 1 v l.length (l.map (Value.int .u8))
theorem OwnInts.ownN {w : World} {base : Nat} {v : Value} {l : List Int} (h : OwnInts 5 .u8 w base v l) : OwnN w base v l := h.1
theorem OwnN.nil (w : World) (base : Nat) : OwnN w base (.slice none 0 0) [] := World.ownsRow_nil w base _ _
theorem OwnN.argB {w : World} {base : Nat} {v : Value} {l : List Int} (h : OwnN w base v l) : ArgB w v l := by
  by_cases hn : v = .slice none 0 0
  · subst hn
    rcases h.2 with ⟨_, h0⟩ | ⟨g, cap, cur, e, _⟩
    · have : l = [] := List.eq_nil_of_length_eq_zero (by simpa using h0)
      subst this
      exact ArgB.nil w
    · simp at e
  · exact OwnInts.argB ⟨h, hn⟩
theorem OwnInts.older {t : TypeId} {k : IntKind} {w : World} {b1 b2 : Nat} {v : Value} {l : List Int} (h : OwnInts t k w b1 v l) (hb : b2 ≤ b1) : OwnInts t k w b2 v l := by
  obtain ⟨⟨h1, h2⟩, hn⟩ := h
  refine ⟨⟨h1, ?_⟩, hn⟩
  rcases h2 with hx | ⟨g, cap, cur, rfl, hbg, rest⟩
  · exact Or.inl hx
  · exact Or.inr ⟨g, cap, cur, rfl, Nat.le_trans hb hbg, rest⟩
/-- Two slices, and three, in a row of their own. -/
theorem ArgLL.pair {w : World} {v u : Value} {l m : List Int} (hv : ArgB w v l) (hu : ArgB w u m) (t : TypeId) (g : Nat) (hg : g = w.heap.size) : ArgLL (w.alloc (.cells #[v, u] t)) (.slice (some ⟨g, 0, none⟩) 2 2) [l, m] := by
  subst hg
  have hb : Below w.heap.size w (w.alloc (.cells #[v, u] t)) := (Below.refl _ _).alloc (Nat.le_refl _) _
  refine Or.inr ⟨⟨w.heap.size, 0, none⟩, 2, fun i => (#[v, u] : Array Value).getD i undef, rfl, Nat.le_refl _, fun i hi => ?_⟩
  match i, hi with
  | 0, _ => exact ⟨by simp [Addr.add], hv.below hb⟩
  | 1, _ => exact ⟨by simp [Addr.add], hu.below hb⟩
theorem ArgLL.three {w : World} {v u x : Value} {l m n : List Int} (hv : ArgB w v l) (hu : ArgB w u m) (hx : ArgB w x n) (t : TypeId) (g : Nat) (hg : g = w.heap.size) : ArgLL (w.alloc (.cells #[v, u, x] t)) (.slice (some ⟨g, 0, none⟩) 3 3) [l, m, n] := by
  subst hg
  have hb : Below w.heap.size w (w.alloc (.cells #[v, u, x] t)) := (Below.refl _ _).alloc (Nat.le_refl _) _
  refine Or.inr ⟨⟨w.heap.size, 0, none⟩, 3, fun i => (#[v, u, x] : Array Value).getD i undef, rfl, Nat.le_refl _, fun i hi => ?_⟩
  match i, hi with
  | 0, _ => exact ⟨by simp [Addr.add], hv.below hb⟩
  | 1, _ => exact ⟨by simp [Addr.add], hu.below hb⟩
  | 2, _ => exact ⟨by simp [Addr.add], hx.below hb⟩
theorem concat_two (v u : Value) (l m : List Int) (w : World) (g : Nat) (t : TypeId) (hg : g = w.heap.size) (hv : ArgB w v l) (hu : ArgB w u m) (h0 : 0 < m.length) (hl : l.length ≤ 1000000) (hm : m.length ≤ 1000000) :
    Calls Try.prog 25 #[.slice (some ⟨g, 0, none⟩) 2 2] (w.alloc (.cells #[v, u] t)) fun e w' => ∃ x, e = .returned x ∧ OwnInts 5 .u8 w' w.heap.size x (l ++ m) ∧ Below w.heap.size w w' := by
  have hf : [l, m].flatten = l ++ m := by simp
  refine (concat_any _ [l, m] _ (ArgLL.pair hv hu t g hg) (by rw [hf, List.length_append]; omega) (by rw [hf, List.length_append]; omega) (by simp)).mono ?_
  rintro e w' ⟨x, rfl, hO, hB⟩
  rw [hf] at hO
  exact ⟨x, rfl, hO.older (by simp), below_step ((Below.refl _ _).alloc (Nat.le_refl _) _) hB⟩
theorem concat_three (v u x : Value) (l m n : List Int) (w : World) (g : Nat) (t : TypeId) (hg : g = w.heap.size) (hv : ArgB w v l) (hu : ArgB w u m) (hx : ArgB w x n) (h0 : 0 < m.length) (hl : l.length ≤ 1000000) (hm : m.length ≤ 1000000) (hn : n.length ≤ 1000000) :
    Calls Try.prog 25 #[.slice (some ⟨g, 0, none⟩) 3 3] (w.alloc (.cells #[v, u, x] t)) fun e w' => ∃ x, e = .returned x ∧ OwnInts 5 .u8 w' w.heap.size x (l ++ (m ++ n)) ∧ Below w.heap.size w w' := by
  have hf : [l, m, n].flatten = l ++ (m ++ n) := by simp
  refine (concat_any _ [l, m, n] _ (ArgLL.three hv hu hx t g hg) (by rw [hf, List.length_append, List.length_append]; omega) (by rw [hf, List.length_append, List.length_append]; omega) (by simp)).mono ?_
  rintro e w' ⟨x, rfl, hO, hB⟩
  rw [hf] at hO
  exact ⟨x, rfl, hO.older (by simp), below_step ((Below.refl _ _).alloc (Nat.le_refl _) _) hB⟩

theorem number_up (n : Nat) (w : World) (hn : n ≤ 18446744073709551615) : Calls Try.prog 26 #[.int .u8 0, .int .u64 n] w fun e w' => ∃ v, e = .returned v ∧ OwnInts 5 .u8 w' w.heap.size v (numB n) ∧ Below w.heap.size w w' := by
  have h := number_any 0 n w (by decide) hn
  rw [Nat.zero_add] at h
  exact h
theorem number_low (n : Nat) (w : World) (hn : n ≤ 18446744073709551615) : Calls Try.prog 26 #[.int .u8 16, .int .u64 n] w fun e w' => ∃ v, e = .returned v ∧ OwnInts 5 .u8 w' w.heap.size v ((((digs n).length : Int) + 16) :: digs n) ∧ Below w.heap.size w w' := by
  have h := number_any 16 n w (by decide) hn
  rw [show (((16 + (digs n).length : Nat)) : Int) = ((digs n).length : Int) + 16 by omega] at h
  exact h
set_option maxRecDepth 100000 in
set_option maxHeartbeats 4000000 in
theorem wnum_any (base : Nat) (v : Value) (l : List Int) (n : Nat) (w : World) (hO : OwnN w base v l) (hb : base ≤ w.heap.size) (hl : l.length ≤ 1000000) (hn : n ≤ 18446744073709551615) :
    Calls Try.prog 10 #[v, .int .u64 n] w (PutsB base (l ++ numB n) w) := by
  have hA := hO.argB
  obtain ⟨a, cap, rfl⟩ := hA.size
  have HA := Lib.hid hA
  have HN := Lib.hid (fun w => number_up n w hn)
  have hlen : Hid (0 < (numB n).length ∧ (numB n).length ≤ 1000000) := by have := numB_len hn; exact ⟨by omega, by omega⟩
  clear hO hA
  go_enter Try.func10, Try.ntmps10
  go_wp2_with (first
    | (go_at_call 26; (with_reducible refine (HN.out _).mono ?_); rintro e w1 ⟨u, rfl, h1, g1⟩; have H1 := Lib.hid h1; have G1 := Lib.hid g1; obtain ⟨ug, uc, rfl⟩ := h1.form; have A1 := Lib.hid (HA.out.below g1); clear h1 g1)
    | (go_at_call 25; (with_reducible refine (concat_two _ _ l _ _ _ _ rfl A1.out H1.out.argB hlen.out.1 hl hlen.out.2).mono ?_); rintro e w2 ⟨x, rfl, h2, g2⟩; have H2 := Lib.hid h2; have G2 := Lib.hid (below_step G1.out g2); clear h2 g2))
  go_ret
  refine ⟨_, rfl, ?_, G2.out.mono hb, Nat.le_trans hb G2.out.size⟩
  exact H2.out.older (Nat.le_trans hb G1.out.size)

set_option maxRecDepth 100000 in
set_option maxHeartbeats 4000000 in
theorem wint_any (base : Nat) (v : Value) (l : List Int) (n : Int) (w : World) (hO : OwnN w base v l) (hb : base ≤ w.heap.size) (hl : l.length ≤ 1000000) (n0 : -9223372036854775808 ≤ n) (n1 : n ≤ 9223372036854775807) :
    Calls Try.prog 9 #[v, .int .i64 n] w (PutsB base (l ++ intB n) w) := by
  by_cases h : 0 ≤ n
  · have he : Hid (intB n = numB n.toNat) := by unfold Hid intB; rw [if_pos h]
    obtain ⟨N, rfl⟩ : ∃ N : Nat, n = N := ⟨n.toNat, by omega⟩
    have HW := Lib.hid (wnum_any base v l N w hO hb hl (by omega))
    have hw : IntKind.u64.wrap (N : Int) = (N : Int) := by rw [IntKind.wrap_u64]; omega
    have hn : ¬ (N : Int) < 0 := by omega
    clear hO
    go_enter Try.func9, Try.ntmps9
    go_wp2_with (go_at_call 10; (with_reducible refine HW.out.mono ?_); rintro e w1 ⟨u, rfl, h1, g1, s1⟩; have H1 := Lib.hid h1; have G1 := Lib.hid g1; have S1 := Lib.hid s1; clear h1 g1 s1)
    go_ret
    rw [he.out, Int.toNat_natCast]
    exact ⟨_, rfl, H1.out, G1.out, S1.out⟩
  · obtain ⟨K, rfl⟩ : ∃ K : Nat, n = -(K : Int) - 1 := ⟨(-n - 1).toNat, by omega⟩
    have he : Hid (intB (-(K : Int) - 1) = (((digs (K + 1)).length : Int) + 16) :: digs (K + 1)) := by
      unfold Hid intB
      rw [if_neg h, show (-(-(K : Int) - 1)).toNat = K + 1 by omega]
    have hA := hO.argB
    obtain ⟨a, cap, rfl⟩ := hA.size
    have HA := Lib.hid hA
    have ek : (((K + 1 : Nat)) : Int) = (K : Int) + 1 := by omega
    have HN : Hid (∀ w, Calls Try.prog 26 #[.int .u8 16, .int .u64 ((K : Int) + 1)] w fun e w' => ∃ v, e = .returned v ∧ OwnInts 5 .u8 w' w.heap.size v (intB (-(K : Int) - 1)) ∧ Below w.heap.size w w') := fun w => by
      have := number_low (K + 1) w (by omega)
      rw [ek] at this
      rw [he.out]; exact this
    have hlen : Hid (0 < (intB (-(K : Int) - 1)).length ∧ (intB (-(K : Int) - 1)).length ≤ 1000000) := by
      have := digs_len8 (n := K + 1) (by omega)
      unfold Hid
      rw [he.out, List.length_cons]; exact ⟨by omega, by omega⟩
    generalize intB (-(K : Int) - 1) = z at HN hlen ⊢
    have hw1 : IntKind.i64.wrap (-(K : Int) - 1 + 1) = -(K : Int) := by rw [IntKind.wrap_i64]; omega
    have hw1b : IntKind.i64.wrap (-(K : Int)) = -(K : Int) := by rw [IntKind.wrap_i64]; omega
    have hw2 : IntKind.i64.wrap (K : Int) = (K : Int) := by rw [IntKind.wrap_i64]; omega
    have hw3 : IntKind.u64.wrap (K : Int) = (K : Int) := by rw [IntKind.wrap_u64]; omega
    have hw4 : IntKind.u64.wrap ((K : Int) + 1) = (K : Int) + 1 := by rw [IntKind.wrap_u64]; omega
    have hneg : -(K : Int) - 1 < 0 := by omega
    clear hO hA h he ek
    go_enter Try.func9, Try.ntmps9
    go_wp2_with (first
      | (go_at_call 26; (with_reducible refine (HN.out _).mono ?_); rintro e w1 ⟨u, rfl, h1, g1⟩; have H1 := Lib.hid h1; have G1 := Lib.hid g1; obtain ⟨ug, uc, rfl⟩ := h1.form; have A1 := Lib.hid (HA.out.below g1); clear h1 g1)
      | (go_at_call 25; (with_reducible refine (concat_two _ _ l _ _ _ _ rfl A1.out H1.out.argB hlen.out.1 hl hlen.out.2).mono ?_); rintro e w2 ⟨x, rfl, h2, g2⟩; have H2 := Lib.hid h2; have G2 := Lib.hid (below_step G1.out g2); clear h2 g2))
    go_ret
    exact ⟨_, rfl, H2.out.older (Nat.le_trans hb G1.out.size), G2.out.mono hb, Nat.le_trans hb G2.out.size⟩

set_option maxRecDepth 100000 in
set_option maxHeartbeats 4000000 in
theorem wflag_any (base : Nat) (v : Value) (l : List Int) (b : Bool) (w : World) (hO : OwnN w base v l) (hb : base ≤ w.heap.size) (hl : l.length ≤ 1000000) :
    Calls Try.prog 7 #[v, .bool b] w (PutsB base (l ++ [if b then 1 else 0]) w) := by
  have hA := hO.argB
  obtain ⟨a, cap, rfl⟩ := hA.size
  have HA := Lib.hid (fun z : Int => hA.below ((Below.refl _ _).alloc (Nat.le_refl _) (.cells #[.int .u8 z] 5)))
  have HU := Lib.hid (fun z : Int => OwnInts.one 5 .u8 w w.heap.size z w.heap.size rfl (Nat.le_refl _))
  have HB := Lib.hid (fun z : Int => (Below.refl w.heap.size w).alloc (Nat.le_refl _) (.cells #[.int .u8 z] 5))
  clear hO hA
  cases b with
  | true =>
    go_enter Try.func7, Try.ntmps7
    go_wp2_with (go_at_call 25; (with_reducible refine (concat_two _ _ l [1] _ _ _ (by simp) (HA.out 1) (HU.out 1).argB (by decide) hl (by decide)).mono ?_); rintro e w2 ⟨x, rfl, h2, g2⟩; have H2 := Lib.hid h2; have G2 := Lib.hid (below_step (HB.out 1) g2); clear h2 g2)
    go_ret
    exact ⟨_, rfl, H2.out.older (by simp; omega), G2.out.mono hb, Nat.le_trans hb G2.out.size⟩
  | false =>
    go_enter Try.func7, Try.ntmps7
    go_wp2_with (go_at_call 25; (with_reducible refine (concat_two _ _ l [0] _ _ _ (by simp) (HA.out 0) (HU.out 0).argB (by decide) hl (by decide)).mono ?_); rintro e w2 ⟨x, rfl, h2, g2⟩; have H2 := Lib.hid h2; have G2 := Lib.hid (below_step (HB.out 0) g2); clear h2 g2)
    go_ret
    exact ⟨_, rfl, H2.out.older (by simp; omega), G2.out.mono hb, Nat.le_trans hb G2.out.size⟩

/-- What New hands back. -/
def GivesR (B : List Int) (w : World) (e : Ending) (w' : World) : Prop := ∃ r hi, e = .returned (.pointer (some ⟨r, 0, none⟩)) ∧ w.heap.size ≤ r ∧ RdrIs w' hi r (some B) ∧ Below w.heap.size w w'
theorem BytesIs.argB {w : World} {v : Value} {B : List Int} (h : BytesIs w v B) : (∃ cap, v = .slice none 0 cap ∧ B = []) ∨ ArgB w v B := by
  obtain ⟨a, cap, rfl, hc, hcell⟩ := h
  cases a with
  | none =>
    have : B = [] := by
      cases B with
      | nil => rfl
      | cons z r => obtain ⟨b, off, e, _⟩ := hcell 0 (by simp); cases e
    subst this
    exact Or.inl ⟨cap, rfl, rfl⟩
  | some x =>
    refine Or.inr (Or.inr ⟨x, cap, rfl, hc, fun i hi => ?_⟩)
    obtain ⟨b, off, e, h⟩ := hcell i hi
    cases e
    have e2 : (⟨b, off, none⟩ : Addr).add i = ⟨b, off + i, none⟩ := by unfold Addr.add; split <;> simp_all
    rw [e2]; exact h
set_option maxRecDepth 100000 in
set_option maxHeartbeats 4000000 in
theorem wnew_any (v : Value) (B : List Int) (w : World) (hv : BytesIs w v B) (hb : ∀ z ∈ B, 0 ≤ z ∧ z ≤ 255) (hl : B.length ≤ 1000000) : Calls Try.prog 15 #[v] w (GivesR B w) := by
  have hc : (convert 22 9 v).run Try.prog w = .ok (.string (strOfNums B)) w := by
    rcases hv.argB with ⟨cap, rfl, rfl⟩ | h
    · exact run_convert_bytes_nil w 22 5 Try.underlying22 Try.underlying5 0 cap 9 Try.underlying9
    · exact conv_arg h hb
  obtain ⟨a, cap, rfl, _⟩ := hv
  have HO := Lib.hid hb
  generalize hS : strOfNums B = t at hc
  have HS := Lib.hid hS
  clear hb hS
  go_enter Try.func15, Try.ntmps15
  go_wp2
  go_ret
  refine ⟨w.heap.size, w.heap.size + 1, rfl, Nat.le_refl _, ⟨⟨Nat.lt_succ_self _, by simp⟩, ?_, HO.out, hl⟩, (Below.refl _ _).alloc (Nat.le_refl _) _⟩
  show Var2 _ w.heap.size (.string (strOfNums B)) (.bool false)
  rw [HS.out]
  exact Var2.fresh w _ _ _ _ rfl
theorem wnew_nil (w : World) : Calls Try.prog 15 #[.slice none 0 0] w (GivesR [] w) := wnew_any _ _ w ⟨none, 0, rfl, Nat.le_refl _, fun i hi => by cases hi⟩ (by intro z hz; cases hz) (by decide)

end Go.Proofs.Yteekpmpfgjpodaa
