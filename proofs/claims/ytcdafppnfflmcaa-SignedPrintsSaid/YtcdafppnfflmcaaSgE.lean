/-
  The document's own print and read of a number with its sign, walked.
-/
import Derived.Test.YtcdafppnfflmcaaSgD
namespace Go.Proofs.Ytcdafppnfflmcaa
open Go.RowKit

theorem rdigits_is (A : Nat) (v : Value) (l : List Bool) (w : World) (hv : Bools w v l) (hl : l.length ≤ 100000) (hA : W128 A) (he : val l = A) :
    Calls Try.prog 33 #[v] w fun e w' => e = .returned (.string (strOfNums (dec A))) ∧ Below w.heap.size w w' := by
  subst he; exact digits_any v l w hv hl hA

set_option maxRecDepth 100000 in
set_option maxHeartbeats 2000000 in
theorem rprint_any (b : Bool) (h l : Int) (A : Nat) (w : World) (hA : IsW h l A) :
    Calls Try.prog 49 #[.agg #[.bool b, .int .u64 h, .int .u64 l]] w fun e w' => e = .returned (.string (strOfNums (decS b A))) ∧ Below w.heap.size w w' := by
  have HA := Lib.hid hA
  have hsz : (strOfNums (dec A)).size ≤ 39 := by rw [strOfNums_size]; exact dec_len hA.lt
  have K0 := Lib.hid (Var3.fresh w (.bool b) (.int .u64 h) (.int .u64 l) 58 w.heap.size rfl)
  have hk : b = false ∨ (b = true ∧ A = 0) ∨ (b = true ∧ ¬ A = 0 ∧ ¬ h = 0) ∨ (b = true ∧ ¬ A = 0 ∧ h = 0 ∧ ¬ l = 0) := by
    cases b
    · exact Or.inl rfl
    · by_cases h0 : A = 0
      · exact Or.inr (Or.inl ⟨rfl, h0⟩)
      · by_cases hh : h = 0
        · exact Or.inr (Or.inr (Or.inr ⟨rfl, h0, hh, hA.some h0 hh⟩))
        · exact Or.inr (Or.inr (Or.inl ⟨rfl, h0, hh⟩))
  obtain ⟨a0, a1, a2, a3, _⟩ := hA
  rcases hk with rfl | ⟨rfl, rfl⟩ | ⟨rfl, h0, hh⟩ | ⟨rfl, h0, rfl, hl⟩
  · go_enter Try.func49, Try.ntmps49
    go_wp2_with (first
      | (go_at_call 13; (with_reducible refine (bits_any h l _ a0 a1 a2 a3).mono ?_); rintro e w1 ⟨va, la, rfl, ka, ⟨na, ea⟩, g1⟩; obtain ⟨_, _, _, _, _, _, _⟩ := K0.out.after g1; have D1 := below_step (below_more (Below.refl w.heap.size w) _) g1; replace ea := Lib.hid (ea.trans HA.out.num); replace na := Lib.hid na; replace ka := Lib.hid ka)
      | (go_at_call 33; (with_reducible refine (rdigits_is A va la _ ka.out (by have := na.out; omega) HA.out.lt ea.out).mono ?_); rintro e w2 ⟨rfl, g2⟩; have D2 := below_step D1 g2))
    go_ret
    exact ⟨rfl, D2⟩
  · obtain ⟨rfl, rfl⟩ := HA.out.nought
    go_enter Try.func49, Try.ntmps49
    go_wp2_with (first
      | (go_at_call 13; (with_reducible refine (bits_any 0 0 _ a0 a1 a2 a3).mono ?_); rintro e w1 ⟨va, la, rfl, ka, ⟨na, ea⟩, g1⟩; obtain ⟨_, _, _, _, _, _, _⟩ := K0.out.after g1; have D1 := below_step (below_more (Below.refl w.heap.size w) _) g1; replace ea := Lib.hid (ea.trans HA.out.num); replace na := Lib.hid na; replace ka := Lib.hid ka)
      | (go_at_call 33; (with_reducible refine (rdigits_is 0 va la _ ka.out (by have := na.out; omega) HA.out.lt ea.out).mono ?_); rintro e w2 ⟨rfl, g2⟩; have D2 := below_step D1 g2))
    go_ret
    exact ⟨rfl, D2⟩
  · replace h0 := Lib.hid (show downB true A = true by simp [downB, h0])
    go_enter Try.func49, Try.ntmps49
    go_wp2_with (first
      | (go_at_call 13; (with_reducible refine (bits_any h l _ a0 a1 a2 a3).mono ?_); rintro e w1 ⟨va, la, rfl, ka, ⟨na, ea⟩, g1⟩; obtain ⟨_, _, _, _, _, _, _⟩ := K0.out.after g1; have D1 := below_step (below_more (Below.refl w.heap.size w) _) g1; replace ea := Lib.hid (ea.trans HA.out.num); replace na := Lib.hid na; replace ka := Lib.hid ka)
      | (go_at_call 33; (with_reducible refine (rdigits_is A va la _ ka.out (by have := na.out; omega) HA.out.lt ea.out).mono ?_); rintro e w2 ⟨rfl, g2⟩; have D2 := below_step D1 g2))
    go_ret
    exact ⟨by rw [decS_down h0.out, ← minus_ahead]; rfl, D2⟩
  · replace h0 := Lib.hid (show downB true A = true by simp [downB, h0])
    go_enter Try.func49, Try.ntmps49
    go_wp2_with (first
      | (go_at_call 13; (with_reducible refine (bits_any 0 l _ a0 a1 a2 a3).mono ?_); rintro e w1 ⟨va, la, rfl, ka, ⟨na, ea⟩, g1⟩; obtain ⟨_, _, _, _, _, _, _⟩ := K0.out.after g1; have D1 := below_step (below_more (Below.refl w.heap.size w) _) g1; replace ea := Lib.hid (ea.trans HA.out.num); replace na := Lib.hid na; replace ka := Lib.hid ka)
      | (go_at_call 33; (with_reducible refine (rdigits_is A va la _ ka.out (by have := na.out; omega) HA.out.lt ea.out).mono ?_); rintro e w2 ⟨rfl, g2⟩; have D2 := below_step D1 g2))
    go_ret
    exact ⟨by rw [decS_down h0.out, ← minus_ahead]; rfl, D2⟩

theorem text_tail {s d : ByteArray} (h : Minus s d) (w : World) : (Instr.slice 9 (.string s) (some (.int .i64 1)) none none).run Try.prog w = .ok (.string d) w := by
  have hs := h.size
  rw [run_slice_string_l w 9 s Try.underlying9 .i64 1 (by decide) (by omega)]
  have : s.extract (1 : Int).toNat s.size = d := by
    apply ByteArray.ext
    apply Array.toList_inj.mp
    rw [ByteArray.data_extract, Array.toList_extract]
    have hl : s.data.toList = 45 :: d.data.toList := h
    rw [show (1 : Int).toNat = 1 from rfl, List.extract_eq_take_drop, hl, hs]
    have : d.data.toList.length = d.size := by simp
    rw [List.drop_succ_cons, List.drop_zero, List.take_of_length_le (by omega)]
  rw [this]

set_option maxRecDepth 100000 in
set_option maxHeartbeats 1000000 in
theorem rread_up (s : ByteArray) (N : Nat) (c : Int) (w : World) (hm : ∀ d, ¬ Minus s d) (hz : s.size ≤ 200) (hr : ∀ w, Calls Try.prog 32 #[.string s] w (GivesWC N c w)) (hc : c = 0 ∨ (¬ c = 0 ∧ N = 0)) :
    Calls Try.prog 48 #[.string s] w (GivesZC N c w) := by
  have HR := Lib.hid hr
  have R0 := Lib.hid (Var3.fresh w (.bool false) (.int .u64 0) (.int .u64 0) 58 w.heap.size rfl)
  by_cases h0 : s.size = 0
  · have hs0 : s = ⟨#[]⟩ := by
      have hn : nums s = [] := List.eq_nil_of_length_eq_zero (by rw [nums_length, h0])
      rw [← strOfNums_nums s, hn]; rfl
    subst hs0
    clear hr hm h0 hz
    rcases hc with rfl | ⟨hc, rfl⟩
    · go_enter Try.func48, Try.ntmps48
      go_wp2_with (first
        | (go_at_call 32; (with_reducible refine (HR.out _).mono ?_); rintro e w1 ⟨h, l, rfl, hW, g1⟩; have R1 := Lib.hid (R0.out.after g1); obtain ⟨_, _, _, _, _, _, _⟩ := R1.out; have D1 := below_step (below_more (Below.refl w.heap.size w) _) g1))
      refine bodyPost_ret (v := .tuple #[.agg #[.bool false, .int .u64 h, .int .u64 l], .int .i64 0]) (by simp [results, Try.results48, go_sem, *]) rfl ⟨false, h, l, rfl, ⟨by simp, hW⟩, ?_⟩
      exact below_more (((D1.setCell (by simp <;> omega) _).setCell (by simp <;> omega) _).setCell (by simp <;> omega) _) _
    · have hc2 : (c == 0) = false := by simpa using hc
      go_enter Try.func48, Try.ntmps48
      go_wp2_with (first
        | (go_at_call 32; (with_reducible refine (HR.out _).mono ?_); rintro e w1 ⟨h, l, rfl, hW, g1⟩; have R1 := Lib.hid (R0.out.after g1); obtain ⟨_, _, _, _, _, _, _⟩ := R1.out; have D1 := below_step (below_more (Below.refl w.heap.size w) _) g1))
      refine bodyPost_ret (v := .tuple #[.agg #[.bool false, .int .u64 0, .int .u64 0], .int .i64 c]) (by simp [results, Try.results48, go_sem, *]) rfl ⟨false, 0, 0, rfl, IsZ.zero, ?_⟩
      exact below_more (((D1.setCell (by simp <;> omega) _).setCell (by simp <;> omega) _).setCell (by simp <;> omega) _) _
  · obtain ⟨e1, e2⟩ := toList_empty (s := s) (by omega)
    have h1 : 0 < s.size := by omega
    have hz0 : ((s[0].toNat : Int) == 45) = false := by
      cases hx : ((s[0].toNat : Int) == 45)
      · rfl
      · obtain ⟨d, hd⟩ := Minus.of_head h1 (UInt8.toNat_inj.mp (by have : (45 : UInt8).toNat = 45 := rfl; simp at hx; omega))
        exact (hm d hd).elim
    clear hr hm h0
    rcases hc with rfl | ⟨hc, rfl⟩
    · go_enter Try.func48, Try.ntmps48
      go_wp2_with (first
        | (go_at_call 32; (with_reducible refine (HR.out _).mono ?_); rintro e w1 ⟨h, l, rfl, hW, g1⟩; have R1 := Lib.hid (R0.out.after g1); obtain ⟨_, _, _, _, _, _, _⟩ := R1.out; have D1 := below_step (below_more (Below.refl w.heap.size w) _) g1))
      refine bodyPost_ret (v := .tuple #[.agg #[.bool false, .int .u64 h, .int .u64 l], .int .i64 0]) (by simp [results, Try.results48, go_sem, *]) rfl ⟨false, h, l, rfl, ⟨by simp, hW⟩, ?_⟩
      exact below_more (((D1.setCell (by simp <;> omega) _).setCell (by simp <;> omega) _).setCell (by simp <;> omega) _) _
    · have hc2 : (c == 0) = false := by simpa using hc
      go_enter Try.func48, Try.ntmps48
      go_wp2_with (first
        | (go_at_call 32; (with_reducible refine (HR.out _).mono ?_); rintro e w1 ⟨h, l, rfl, hW, g1⟩; have R1 := Lib.hid (R0.out.after g1); obtain ⟨_, _, _, _, _, _, _⟩ := R1.out; have D1 := below_step (below_more (Below.refl w.heap.size w) _) g1))
      refine bodyPost_ret (v := .tuple #[.agg #[.bool false, .int .u64 0, .int .u64 0], .int .i64 c]) (by simp [results, Try.results48, go_sem, *]) rfl ⟨false, 0, 0, rfl, IsZ.zero, ?_⟩
      exact below_more (((D1.setCell (by simp <;> omega) _).setCell (by simp <;> omega) _).setCell (by simp <;> omega) _) _

set_option maxRecDepth 100000 in
set_option maxHeartbeats 1000000 in
/-- A minus ahead, and digits behind it. -/
theorem rread_below (s d : ByteArray) (N : Nat) (w : World) (hm : Minus s d) (hz : s.size ≤ 200) (hr : ∀ w, Calls Try.prog 32 #[.string d] w (GivesWC N 0 w)) (hd : (d.toList == [48]) = false) (hN : ¬ N = 0) :
    Calls Try.prog 48 #[.string s] w (GivesZC (-(N : Int)) 0 w) := by
  have HR := Lib.hid hr
  have R0 := Lib.hid (Var3.fresh w (.bool false) (.int .u64 0) (.int .u64 0) 58 w.heap.size rfl)
  have hs := hm.size
  obtain ⟨e1, e2⟩ := toList_empty (s := s) (by omega)
  have h1 : 0 < s.size := by omega
  have hz0 : ((s[0].toNat : Int) == 45) = true := by rw [hm.head h1]; rfl
  have ht := text_tail hm
  clear hr hm hs
  go_enter Try.func48, Try.ntmps48
  go_wp2_with (first
    | (go_at_call 32; (with_reducible refine (HR.out _).mono ?_); rintro e w1 ⟨h, l, rfl, hW, g1⟩; have R1 := Lib.hid (R0.out.after g1); obtain ⟨_, _, _, _, _, _, _⟩ := R1.out; have D1 := below_step (below_more (Below.refl w.heap.size w) _) g1))
  refine bodyPost_ret (v := .tuple #[.agg #[.bool true, .int .u64 h, .int .u64 l], .int .i64 0]) (by simp [results, Try.results48, go_sem, *]) rfl ⟨true, h, l, rfl, ⟨by simp; omega, by rw [Int.natAbs_neg]; exact hW⟩, ?_⟩
  exact below_more (((D1.setCell (by simp <;> omega) _).setCell (by simp <;> omega) _).setCell (by simp <;> omega) _) _
set_option maxRecDepth 100000 in
set_option maxHeartbeats 1000000 in
theorem rread_nought (s : ByteArray) (w : World) (hm : Minus s ⟨#[48]⟩) (hz : s.size ≤ 200) (hr : ∀ w, Calls Try.prog 32 #[.string ⟨#[48]⟩] w (GivesWC 0 0 w)) :
    Calls Try.prog 48 #[.string s] w (GivesZC 0 5 w) := by
  have HR := Lib.hid hr
  have R0 := Lib.hid (Var3.fresh w (.bool false) (.int .u64 0) (.int .u64 0) 58 w.heap.size rfl)
  have hs := hm.size
  obtain ⟨e1, e2⟩ := toList_empty (s := s) (by omega)
  have h1 : 0 < s.size := by omega
  have hz0 : ((s[0].toNat : Int) == 45) = true := by rw [hm.head h1]; rfl
  have ht := text_tail hm
  clear hr hm hs
  go_enter Try.func48, Try.ntmps48
  go_wp2_with (first
    | (go_at_call 32; (with_reducible refine (HR.out _).mono ?_); rintro e w1 ⟨h, l, rfl, hW, g1⟩; have R1 := Lib.hid (R0.out.after g1); obtain ⟨_, _, _, _, _, _, _⟩ := R1.out; have D1 := below_step (below_more (Below.refl w.heap.size w) _) g1))
  refine bodyPost_ret (v := .tuple #[.agg #[.bool false, .int .u64 0, .int .u64 0], .int .i64 5]) (by simp [results, Try.results48, go_sem, *]) rfl ⟨false, 0, 0, rfl, IsZ.zero, ?_⟩
  exact below_more (((D1.setCell (by simp <;> omega) _).setCell (by simp <;> omega) _).setCell (by simp <;> omega) _) _
set_option maxRecDepth 100000 in
set_option maxHeartbeats 1000000 in
theorem rread_bad (s d : ByteArray) (c : Int) (w : World) (hm : Minus s d) (hz : s.size ≤ 200) (hr : ∀ w, Calls Try.prog 32 #[.string d] w (GivesWC 0 c w)) (hc : ¬ c = 0) :
    Calls Try.prog 48 #[.string s] w (GivesZC 0 c w) := by
  have HR := Lib.hid hr
  have R0 := Lib.hid (Var3.fresh w (.bool false) (.int .u64 0) (.int .u64 0) 58 w.heap.size rfl)
  have hs := hm.size
  obtain ⟨e1, e2⟩ := toList_empty (s := s) (by omega)
  have h1 : 0 < s.size := by omega
  have hz0 : ((s[0].toNat : Int) == 45) = true := by rw [hm.head h1]; rfl
  have ht := text_tail hm
  have hc2 : (c == 0) = false := by simpa using hc
  clear hr hm hs
  go_enter Try.func48, Try.ntmps48
  go_wp2_with (first
    | (go_at_call 32; (with_reducible refine (HR.out _).mono ?_); rintro e w1 ⟨h, l, rfl, hW, g1⟩; have R1 := Lib.hid (R0.out.after g1); obtain ⟨_, _, _, _, _, _, _⟩ := R1.out; have D1 := below_step (below_more (Below.refl w.heap.size w) _) g1))
  refine bodyPost_ret (v := .tuple #[.agg #[.bool false, .int .u64 0, .int .u64 0], .int .i64 c]) (by simp [results, Try.results48, go_sem, *]) rfl ⟨false, 0, 0, rfl, IsZ.zero, ?_⟩
  exact below_more (((D1.setCell (by simp <;> omega) _).setCell (by simp <;> omega) _).setCell (by simp <;> omega) _) _

end Go.Proofs.Ytcdafppnfflmcaa
