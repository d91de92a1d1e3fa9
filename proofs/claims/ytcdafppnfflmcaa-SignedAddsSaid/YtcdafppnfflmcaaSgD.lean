/-
  Package signed, walked: Print and Read, by the digits; and the document's own.
-/
import Derived.Test.YtcdafppnfflmcaaSgB
import Derived.Test.YtcdafppnfflmcaaPrint
import Derived.Test.YtcdafppnfflmcaaReadB
import Derived.Test.YtcdafppnfflmcaaRefG
import Derived.Test.YtcdafppnfflmcaaRefH
namespace Go.Proofs.Ytcdafppnfflmcaa
open Go.RowKit

/-- The digits of a number with its sign. -/
def decS (b : Bool) (A : Nat) : List Int := if downB b A then 45 :: dec A else dec A
theorem decS_down {b : Bool} {A : Nat} (h : downB b A = true) : decS b A = 45 :: dec A := by rw [decS, h]; rfl
theorem decS_up {b : Bool} {A : Nat} (h : downB b A = false) : decS b A = dec A := by rw [decS, h]; rfl
theorem minus_ahead (xs : List Int) : (⟨#[45]⟩ : ByteArray) ++ strOfNums xs = strOfNums (45 :: xs) := by
  have := strOfNums_append [45] xs
  rw [← show strOfNums [45] = (⟨#[45]⟩ : ByteArray) from rfl, this]; rfl

theorem field_below (b : Bool) (h l : Int) (w : World) : (Instr.field 58 (.agg #[.bool b, .int .u64 h, .int .u64 l]) 0).run Try.prog w = .ok (.bool b) w := by kernel_rfl
set_option maxRecDepth 100000 in
set_option maxHeartbeats 1000000 in
theorem sprint_any (b : Bool) (h l : Int) (A : Nat) (w : World) (hA : IsW h l A) :
    Calls Try.prog 46 #[.agg #[.bool b, .int .u64 h, .int .u64 l]] w fun e w' => e = .returned (.string (strOfNums (decS b A))) ∧ Below w.heap.size w w' := by
  have HA := Lib.hid hA
  have hsz : (strOfNums (dec A)).size ≤ 39 := by rw [strOfNums_size]; exact dec_len hA.lt
  obtain ⟨p, hp⟩ : ∃ p, Hid (downB b A = p) := ⟨_, Lib.hid rfl⟩
  have K0 := Lib.hid (Var3.fresh w (.bool b) (.int .u64 h) (.int .u64 l) 58 w.heap.size rfl)
  have hf := fun p => field_below p h l
  cases p
  · go_enter Try.func46, Try.ntmps46
    go_wp2_with (first
      | (go_at_call 30; (with_reducible refine (print_any h l A _ HA.out).mono ?_); rintro e w1 ⟨rfl, g1⟩; have K1 := Lib.hid (K0.out.after g1); obtain ⟨_, _, _, _, _, _, _⟩ := K1.out; have D1 := below_step (below_more (Below.refl w.heap.size w) _) g1)
      | (go_at_call 57; (with_reducible refine (mended_any b h l A _ HA.out).mono ?_); rintro e w2 ⟨rfl, g2⟩; rw [hp.out]; have D2 := below_step D1 g2))
    go_ret
    exact ⟨by rw [decS_up hp.out]; rfl, D2⟩
  · go_enter Try.func46, Try.ntmps46
    go_wp2_with (first
      | (go_at_call 30; (with_reducible refine (print_any h l A _ HA.out).mono ?_); rintro e w1 ⟨rfl, g1⟩; have K1 := Lib.hid (K0.out.after g1); obtain ⟨_, _, _, _, _, _, _⟩ := K1.out; have D1 := below_step (below_more (Below.refl w.heap.size w) _) g1)
      | (go_at_call 57; (with_reducible refine (mended_any b h l A _ HA.out).mono ?_); rintro e w2 ⟨rfl, g2⟩; rw [hp.out]; have D2 := below_step D1 g2))
    go_ret
    exact ⟨by rw [decS_down hp.out, ← minus_ahead]; rfl, D2⟩

/-- A text that has a minus ahead, and what stands behind it. -/
def Minus (s d : ByteArray) : Prop := s.data.toList = 45 :: d.data.toList
theorem cut_yes {s d : ByteArray} (h : Minus s d) (w : World) : Calls Try.prog 59 #[.string s, .string ⟨#[45]⟩] w fun e w' => e = .returned (.tuple #[.string d, .bool true]) ∧ w = w' := by
  refine (Try.strings_CutPrefix s ⟨#[45]⟩ w).mono ?_
  rintro e w' ⟨rfl, rfl⟩
  have h1 : Lib.hasPrefix s.data.toList [45] = true := by rw [h]; simp [Lib.hasPrefix]
  have h2 : (⟨(Lib.trimPrefix s.data.toList [45]).toArray⟩ : ByteArray) = d := by
    rw [Lib.trimPrefix, h1, h]; simp
  have e1 : (⟨#[45]⟩ : ByteArray).data.toList = [45] := rfl
  rw [e1, h1, h2]; exact ⟨rfl, rfl⟩
theorem cut_no {s : ByteArray} (h : ∀ d, ¬ Minus s d) (w : World) : Calls Try.prog 59 #[.string s, .string ⟨#[45]⟩] w fun e w' => e = .returned (.tuple #[.string s, .bool false]) ∧ w = w' := by
  refine (Try.strings_CutPrefix s ⟨#[45]⟩ w).mono ?_
  rintro e w' ⟨rfl, rfl⟩
  have h1 : Lib.hasPrefix s.data.toList [45] = false := by
    cases hs : s.data.toList with
    | nil => simp [Lib.hasPrefix]
    | cons x t =>
      cases hx : Lib.hasPrefix (x :: t) [45]
      · rfl
      · have : x = 45 := by simp [Lib.hasPrefix] at hx; exact hx.symm
        subst this
        exact (h ⟨t.toArray⟩ (by rw [Minus, hs])).elim
  have h2 : (⟨(Lib.trimPrefix s.data.toList [45]).toArray⟩ : ByteArray) = s := by
    rw [Lib.trimPrefix, h1]; simp
  have e1 : (⟨#[45]⟩ : ByteArray).data.toList = [45] := rfl
  rw [e1, h1, h2]; exact ⟨rfl, rfl⟩
theorem minus_or (s : ByteArray) : (∃ d, Minus s d) ∨ ∀ d, ¬ Minus s d := by
  by_cases h : ∃ d, Minus s d
  · exact Or.inl h
  · exact Or.inr fun d hd => h ⟨d, hd⟩
theorem Minus.nums {s d : ByteArray} (h : Minus s d) : nums s = 45 :: nums d := by
  unfold Go.Proofs.Ytcdafppnfflmcaa.nums; rw [h]; rfl
theorem Minus.size {s d : ByteArray} (h : Minus s d) : s.size = d.size + 1 := by
  have := congrArg List.length h.nums
  rw [nums_length, List.length_cons, nums_length] at this; exact this
theorem Minus.head {s d : ByteArray} (h : Minus s d) (h0 : 0 < s.size) : s[0] = 45 := by
  have := nums_at s 0 h0
  rw [h.nums] at this
  have h2 : s[0].toNat = 45 := by simp at this; omega
  exact UInt8.toNat_inj.mp h2
theorem Minus.of_head {s : ByteArray} (h0 : 0 < s.size) (h : s[0] = 45) : ∃ d, Minus s d := by
  have hn := nums_at s 0 h0
  rw [h] at hn
  cases hs : s.data.toList with
  | nil => have := nums_length s; unfold Go.Proofs.Ytcdafppnfflmcaa.nums at this; rw [hs] at this; simp at this; omega
  | cons x t =>
    unfold Go.Proofs.Ytcdafppnfflmcaa.nums at hn
    rw [hs] at hn
    have : x.toNat = 45 := by simp at hn; omega
    have : x = 45 := UInt8.toNat_inj.mp this
    subst this
    exact ⟨⟨t.toArray⟩, by rw [Minus, hs]⟩

set_option maxRecDepth 100000 in
set_option maxHeartbeats 1000000 in
/-- A text with no minus ahead. -/
theorem sread_up (s : ByteArray) (N : Nat) (c : Int) (w : World) (hm : ∀ d, ¬ Minus s d) (hr : ∀ w, Calls Try.prog 31 #[.string s] w (GivesWC N c w)) (hc : c = 0 ∨ (¬ c = 0 ∧ N = 0)) :
    Calls Try.prog 47 #[.string s] w (GivesZC N c w) := by
  have HR := Lib.hid hr
  have HM := Lib.hid hm
  have R0 := Lib.hid (Var3.fresh w (.bool false) (.int .u64 0) (.int .u64 0) 58 w.heap.size rfl)
  clear hr hm
  rcases hc with rfl | ⟨hc, rfl⟩
  · go_enter Try.func47, Try.ntmps47
    go_wp2_with (first
      | (go_at_call 59; (with_reducible refine (cut_no HM.out _).mono ?_); rintro e w1 ⟨rfl, rfl⟩)
      | (go_at_call 31; (with_reducible refine (HR.out _).mono ?_); rintro e w1 ⟨h, l, rfl, hW, g1⟩; have R1 := Lib.hid (R0.out.after g1); obtain ⟨_, _, _, _, _, _, _⟩ := R1.out; have D1 := below_step (below_more (Below.refl w.heap.size w) _) g1)
      | (go_at_call 42; (with_reducible refine (right_any false h l N _ hW).mono ?_); rintro e w2 ⟨rfl, g2⟩; rw [show rightB false N = true from rfl]; obtain ⟨_, _, _, _, _, _, _⟩ := ((R1.out.alloc _).alloc _).after g2; obtain ⟨_, _, _, _, _⟩ := ((Var2.fresh w1 (.int .u64 h) (.int .u64 l) 24 _ rfl).alloc (.cells #[.bool false, .int .u64 h, .int .u64 l] 58)).after g2; obtain ⟨_, _, _, _, _, _, _⟩ := (Var3.fresh (w1.alloc (.cells #[.int .u64 h, .int .u64 l] 24)) (.bool false) (.int .u64 h) (.int .u64 l) 58 (w1.heap.size + 1) (by simp)).after g2; have D2 := below_step (below_more (below_more D1 _) _) g2))
    refine bodyPost_ret (v := .tuple #[.agg #[.bool false, .int .u64 h, .int .u64 l], .int .i64 0]) (by simp [results, Try.results47, go_sem, *]) rfl ⟨false, h, l, rfl, ⟨by simp, hW⟩, ?_⟩
    exact ((D2.setCell (by simp <;> omega) _).setCell (by simp <;> omega) _).setCell (by simp <;> omega) _
  · have hc2 : (c == 0) = false := by simpa using hc
    go_enter Try.func47, Try.ntmps47
    go_wp2_with (first
      | (go_at_call 59; (with_reducible refine (cut_no HM.out _).mono ?_); rintro e w1 ⟨rfl, rfl⟩)
      | (go_at_call 31; (with_reducible refine (HR.out _).mono ?_); rintro e w1 ⟨h, l, rfl, hW, g1⟩; have R1 := Lib.hid (R0.out.after g1); obtain ⟨_, _, _, _, _, _, _⟩ := R1.out; have D1 := below_step (below_more (Below.refl w.heap.size w) _) g1))
    refine bodyPost_ret (v := .tuple #[.agg #[.bool false, .int .u64 0, .int .u64 0], .int .i64 c]) (by simp [results, Try.results47, go_sem, *]) rfl ⟨false, 0, 0, rfl, IsZ.zero, ?_⟩
    exact below_more (((D1.setCell (by simp <;> omega) _).setCell (by simp <;> omega) _).setCell (by simp <;> omega) _) _

set_option maxRecDepth 100000 in
set_option maxHeartbeats 1000000 in
/-- A text with a minus ahead. -/
theorem sread_below (s d : ByteArray) (N : Nat) (w : World) (hm : Minus s d) (hr : ∀ w, Calls Try.prog 31 #[.string d] w (GivesWC N 0 w)) (hN : ¬ N = 0) :
    Calls Try.prog 47 #[.string s] w (GivesZC (-(N : Int)) 0 w) := by
  have HR := Lib.hid hr
  have HM := Lib.hid hm
  have hy : rightB true N = true := by simp [rightB, hN]
  have R0 := Lib.hid (Var3.fresh w (.bool false) (.int .u64 0) (.int .u64 0) 58 w.heap.size rfl)
  clear hr hm
  go_enter Try.func47, Try.ntmps47
  go_wp2_with (first
    | (go_at_call 59; (with_reducible refine (cut_yes HM.out _).mono ?_); rintro e w1 ⟨rfl, rfl⟩)
    | (go_at_call 31; (with_reducible refine (HR.out _).mono ?_); rintro e w1 ⟨h, l, rfl, hW, g1⟩; have R1 := Lib.hid (R0.out.after g1); obtain ⟨_, _, _, _, _, _, _⟩ := R1.out; have D1 := below_step (below_more (Below.refl w.heap.size w) _) g1)
    | (go_at_call 42; (with_reducible refine (right_any true h l N _ hW).mono ?_); rintro e w2 ⟨rfl, g2⟩; rw [hy]; obtain ⟨_, _, _, _, _, _, _⟩ := ((R1.out.alloc _).alloc _).after g2; obtain ⟨_, _, _, _, _⟩ := ((Var2.fresh w1 (.int .u64 h) (.int .u64 l) 24 _ rfl).alloc (.cells #[.bool true, .int .u64 h, .int .u64 l] 58)).after g2; obtain ⟨_, _, _, _, _, _, _⟩ := (Var3.fresh (w1.alloc (.cells #[.int .u64 h, .int .u64 l] 24)) (.bool true) (.int .u64 h) (.int .u64 l) 58 (w1.heap.size + 1) (by simp)).after g2; have D2 := below_step (below_more (below_more D1 _) _) g2))
  refine bodyPost_ret (v := .tuple #[.agg #[.bool true, .int .u64 h, .int .u64 l], .int .i64 0]) (by simp [results, Try.results47, go_sem, *]) rfl ⟨true, h, l, rfl, ⟨by simp; omega, by rw [Int.natAbs_neg]; exact hW⟩, ?_⟩
  exact ((D2.setCell (by simp <;> omega) _).setCell (by simp <;> omega) _).setCell (by simp <;> omega) _
set_option maxRecDepth 100000 in
set_option maxHeartbeats 1000000 in
theorem sread_nought (s d : ByteArray) (w : World) (hm : Minus s d) (hr : ∀ w, Calls Try.prog 31 #[.string d] w (GivesWC 0 0 w)) :
    Calls Try.prog 47 #[.string s] w (GivesZC 0 5 w) := by
  have HR := Lib.hid hr
  have HM := Lib.hid hm
  have hy : rightB true 0 = false := rfl
  have R0 := Lib.hid (Var3.fresh w (.bool false) (.int .u64 0) (.int .u64 0) 58 w.heap.size rfl)
  clear hr hm
  go_enter Try.func47, Try.ntmps47
  go_wp2_with (first
    | (go_at_call 59; (with_reducible refine (cut_yes HM.out _).mono ?_); rintro e w1 ⟨rfl, rfl⟩)
    | (go_at_call 31; (with_reducible refine (HR.out _).mono ?_); rintro e w1 ⟨h, l, rfl, hW, g1⟩; have R1 := Lib.hid (R0.out.after g1); obtain ⟨_, _, _, _, _, _, _⟩ := R1.out; have D1 := below_step (below_more (Below.refl w.heap.size w) _) g1)
    | (go_at_call 42; (with_reducible refine (right_any true h l 0 _ hW).mono ?_); rintro e w2 ⟨rfl, g2⟩; rw [hy]; obtain ⟨_, _, _, _, _, _, _⟩ := ((R1.out.alloc _).alloc _).after g2; obtain ⟨_, _, _, _, _⟩ := ((Var2.fresh w1 (.int .u64 h) (.int .u64 l) 24 _ rfl).alloc (.cells #[.bool true, .int .u64 h, .int .u64 l] 58)).after g2; obtain ⟨_, _, _, _, _, _, _⟩ := (Var3.fresh (w1.alloc (.cells #[.int .u64 h, .int .u64 l] 24)) (.bool true) (.int .u64 h) (.int .u64 l) 58 (w1.heap.size + 1) (by simp)).after g2; have D2 := below_step (below_more (below_more D1 _) _) g2))
  refine bodyPost_ret (v := .tuple #[.agg #[.bool false, .int .u64 0, .int .u64 0], .int .i64 5]) (by simp [results, Try.results47, go_sem, *]) rfl ⟨false, 0, 0, rfl, IsZ.zero, ?_⟩
  exact ((D2.setCell (by simp <;> omega) _).setCell (by simp <;> omega) _).setCell (by simp <;> omega) _
set_option maxRecDepth 100000 in
set_option maxHeartbeats 1000000 in
theorem sread_bad (s d : ByteArray) (c : Int) (w : World) (hm : Minus s d) (hr : ∀ w, Calls Try.prog 31 #[.string d] w (GivesWC 0 c w)) (hc : ¬ c = 0) :
    Calls Try.prog 47 #[.string s] w (GivesZC 0 c w) := by
  have HR := Lib.hid hr
  have HM := Lib.hid hm
  have R0 := Lib.hid (Var3.fresh w (.bool false) (.int .u64 0) (.int .u64 0) 58 w.heap.size rfl)
  have hc2 : (c == 0) = false := by simpa using hc
  clear hr hm
  go_enter Try.func47, Try.ntmps47
  go_wp2_with (first
    | (go_at_call 59; (with_reducible refine (cut_yes HM.out _).mono ?_); rintro e w1 ⟨rfl, rfl⟩)
    | (go_at_call 31; (with_reducible refine (HR.out _).mono ?_); rintro e w1 ⟨h, l, rfl, hW, g1⟩; have R1 := Lib.hid (R0.out.after g1); obtain ⟨_, _, _, _, _, _, _⟩ := R1.out; have D1 := below_step (below_more (Below.refl w.heap.size w) _) g1))
  refine bodyPost_ret (v := .tuple #[.agg #[.bool false, .int .u64 0, .int .u64 0], .int .i64 c]) (by simp [results, Try.results47, go_sem, *]) rfl ⟨false, 0, 0, rfl, IsZ.zero, ?_⟩
  exact below_more (((D1.setCell (by simp <;> omega) _).setCell (by simp <;> omega) _).setCell (by simp <;> omega) _) _

end Go.Proofs.Ytcdafppnfflmcaa
