/-
  The statement SpanJoins, walked: over the contracts of package span's calls.
-/
import Derived.Test.YtibaelkfchpbpaaDoorSpanW
namespace Go.Proofs.YtibaelkfchpbpaaDoor
open Go.RowKit

theorem nums_append (a b : ByteArray) : nums (a ++ b) = nums a ++ nums b := by
  unfold nums
  rw [← List.map_append]
  congr 1
theorem nums_ne {s : ByteArray} (h : 0 < s.size) : nums s ≠ [] := fun e => by have := nums_length s; rw [e] at this; simp at this; omega
theorem span_last (s : ByteArray) (h : 0 < s.size) : ((s[s.size - 1]'(by omega)).toNat : Int) = (nums s).getD ((nums s).length - 1) 0 := by
  rw [nums_length]; exact (nums_at s (s.size - 1) (by omega)).symm

set_option maxRecDepth 100000 in
theorem sjoins_none (a b : ByteArray) (w : World) (tab : Tab w) (ha9 : a.size ≤ 9223372036854775807) (hb9 : b.size ≤ 9223372036854775807) (h : 200 < a.size ∨ 200 < b.size ∨ a.size = 0 ∨ b.size = 0) :
    Calls Tryd.prog 5 #[.string a, .string b] w fun e w' => e = .returned (.bool true) ∧ Below w.heap.size w w' := by
  by_cases h1 : 200 < a.size
  · clear h
    go_enter Tryd.func5, Tryd.ntmps5
    go_wp2_with (first | (go_at_call 7; (with_reducible refine (span_awake _ tab).mono ?_); rintro e w1 ⟨rfl, g⟩; have DD := g; clear g))
    go_ret
    exact ⟨rfl, DD⟩
  · by_cases h2 : 200 < b.size
    · clear h
      go_enter Tryd.func5, Tryd.ntmps5
      go_wp2_with (first | (go_at_call 7; (with_reducible refine (span_awake _ tab).mono ?_); rintro e w1 ⟨rfl, g⟩; have DD := g; clear g))
      go_ret
      exact ⟨rfl, DD⟩
    · by_cases h3 : a.size = 0
      · have e : ((a.size : Int) == 0) = true := by rw [beq_iff_eq]; omega
        clear h h3
        go_enter Tryd.func5, Tryd.ntmps5
        go_wp2_with (first | (go_at_call 7; (with_reducible refine (span_awake _ tab).mono ?_); rintro e w1 ⟨rfl, g⟩; have DD := g; clear g))
        go_ret
        exact ⟨rfl, DD⟩
      · have e : ((a.size : Int) == 0) = false := by rw [beq_eq_false_iff_ne, ne_eq]; omega
        have e2 : ((b.size : Int) == 0) = true := by rw [beq_iff_eq]; omega
        clear h h3
        go_enter Tryd.func5, Tryd.ntmps5
        go_wp2_with (first | (go_at_call 7; (with_reducible refine (span_awake _ tab).mono ?_); rintro e w1 ⟨rfl, g⟩; have DD := g; clear g))
        go_ret
        exact ⟨rfl, DD⟩

/-- Not both tell a span. -/
theorem joins_sum (a b : ByteArray) (a1 : 0 < a.size) (b1 : 0 < b.size) {x c : Int} {xa ca xb cb : Int} (ha : SpanOut (nums a) xa ca) (hb : SpanOut (nums b) xb cb) (hc : SpanOut (nums (a ++ b)) x c) (h5 : ca = 5 ∨ cb = 5) (hn : c ≠ 5) : (nums a).getD ((nums a).length - 1) 0 ≤ 57 := by
  rcases hc with ⟨_, _, h⟩ | ⟨N, hN, _⟩
  · exact (hn h).elim
  · rw [nums_append] at hN
    by_cases hl : 57 < (nums a).getD ((nums a).length - 1) 0
    · obtain ⟨x, m, h1, h2, _⟩ := tells_ahead (nums_ne a1) (nums_ne b1) hN hl
      rcases ha with ⟨h, _⟩ | ⟨_, _, ⟨_, _, h⟩ | ⟨_, _, h⟩⟩
      · exact (h x h1).elim
      · rcases hb with ⟨g, _⟩ | ⟨_, _, ⟨_, _, g⟩ | ⟨_, _, g⟩⟩
        · exact (g m h2).elim
        · omega
        · omega
      · rcases hb with ⟨g, _⟩ | ⟨_, _, ⟨_, _, g⟩ | ⟨_, _, g⟩⟩
        · exact (g m h2).elim
        · omega
        · omega
    · omega
theorem out_codes {zs : List Int} {x c : Int} (h : SpanOut zs x c) : c = 5 ∨ c = 8 ∨ c = 0 := by
  rcases h with ⟨_, _, h⟩ | ⟨_, _, ⟨_, _, h⟩ | ⟨_, _, h⟩⟩
  · exact Or.inl h
  · exact Or.inr (Or.inl h)
  · exact Or.inr (Or.inr h)

set_option maxRecDepth 100000 in
set_option maxHeartbeats 4000000 in
theorem sjoins_wrong (a b : ByteArray) (w : World) (tab : Tab w) (a1 : 0 < a.size) (b1 : 0 < b.size) (a2 : a.size ≤ 200) (b2 : b.size ≤ 200) {xa ca xb cb xc cc : Int} (ha : SpanOut (nums a) xa ca) (hb : SpanOut (nums b) xb cb) (hc : SpanOut (nums (a ++ b)) xc cc) (h : ca ≠ 0 ∨ cb ≠ 0) :
    Calls Tryd.prog 5 #[.string a, .string b] w fun e w' => e = .returned (.bool true) ∧ Below w.heap.size w w' := by
  have ha9 : a.size ≤ 9223372036854775807 := by omega
  have hb9 : b.size ≤ 9223372036854775807 := by omega
  have hc9 : (a ++ b).size ≤ 9223372036854775807 := by rw [ByteArray.size_append]; omega
  have hs9 : a.size + b.size ≤ 9223372036854775807 := by omega
  have ae : ((a.size : Int) == 0) = false := by rw [beq_eq_false_iff_ne, ne_eq]; omega
  have be : ((b.size : Int) == 0) = false := by rw [beq_eq_false_iff_ne, ne_eq]; omega
  have c1 : 0 ≤ (a.size : Int) - 1 := by omega
  have c2 : (a.size : Int) - 1 < a.size := by omega
  have c3 : 0 < (a.size : Int) := by omega
  have Ua := Lib.hid (fun x c (h : SpanOut (nums a) x c) => ha.unique h)
  have Ub := Lib.hid (fun x c (h : SpanOut (nums b) x c) => hb.unique h)
  have Uc := Lib.hid (fun x c (h : SpanOut (nums (a ++ b)) x c) => hc.unique h)
  obtain ⟨z, hz, hzz⟩ : ∃ z, ((a[a.size - 1]'(by omega)).toNat : Int) = z ∧ Hid ((nums a).getD ((nums a).length - 1) 0 = z) := ⟨_, rfl, (span_last a a1).symm⟩
  have HL := Lib.hid (fun (h5 : ca = 5 ∨ cb = 5) (hn : cc ≠ 5) => joins_sum a b a1 b1 ha hb hc h5 hn)
  have ka := out_codes ha
  have kb := out_codes hb
  have kc := out_codes hc
  clear ha hb hc
  rcases ka with rfl | rfl | rfl
  · rcases kb with rfl | rfl | rfl
    · rcases kc with rfl | rfl | rfl
      · clear h HL
        go_enter Tryd.func5, Tryd.ntmps5
        go_wp2_with (first | (go_at_call 7; (with_reducible refine (span_awake _ tab).mono ?_); rintro e w1 ⟨rfl, g⟩; have DD := g; clear g) | (go_at_call 9; (with_reducible refine (spread_any a _ ha9).mono ?_); rintro e w2 ⟨x, c, rfl, h, g⟩; obtain ⟨rfl, rfl⟩ := Ua.out _ _ h; clear h; have DD := below_step DD g; clear g) | (go_at_call 9; (with_reducible refine (spread_any b _ hb9).mono ?_); rintro e w2 ⟨x, c, rfl, h, g⟩; obtain ⟨rfl, rfl⟩ := Ub.out _ _ h; clear h; have DD := below_step DD g; clear g) | (go_at_call 9; (with_reducible refine (spread_any (a ++ b) _ hc9).mono ?_); rintro e w2 ⟨x, c, rfl, h, g⟩; obtain ⟨rfl, rfl⟩ := Uc.out _ _ h; clear h; have DD := below_step DD g; clear g))
        go_ret
        exact ⟨rfl, DD⟩
      · have hl : z ≤ 57 := by rw [← hzz.out]; exact HL.out (by omega) (by omega)
        clear h HL
        go_enter Tryd.func5, Tryd.ntmps5
        go_wp2_with (first | (go_at_call 7; (with_reducible refine (span_awake _ tab).mono ?_); rintro e w1 ⟨rfl, g⟩; have DD := g; clear g) | (go_at_call 9; (with_reducible refine (spread_any a _ ha9).mono ?_); rintro e w2 ⟨x, c, rfl, h, g⟩; obtain ⟨rfl, rfl⟩ := Ua.out _ _ h; clear h; have DD := below_step DD g; clear g) | (go_at_call 9; (with_reducible refine (spread_any b _ hb9).mono ?_); rintro e w2 ⟨x, c, rfl, h, g⟩; obtain ⟨rfl, rfl⟩ := Ub.out _ _ h; clear h; have DD := below_step DD g; clear g) | (go_at_call 9; (with_reducible refine (spread_any (a ++ b) _ hc9).mono ?_); rintro e w2 ⟨x, c, rfl, h, g⟩; obtain ⟨rfl, rfl⟩ := Uc.out _ _ h; clear h; have DD := below_step DD g; clear g))
        go_ret
        exact ⟨rfl, DD⟩
      · have hl : z ≤ 57 := by rw [← hzz.out]; exact HL.out (by omega) (by omega)
        clear h HL
        go_enter Tryd.func5, Tryd.ntmps5
        go_wp2_with (first | (go_at_call 7; (with_reducible refine (span_awake _ tab).mono ?_); rintro e w1 ⟨rfl, g⟩; have DD := g; clear g) | (go_at_call 9; (with_reducible refine (spread_any a _ ha9).mono ?_); rintro e w2 ⟨x, c, rfl, h, g⟩; obtain ⟨rfl, rfl⟩ := Ua.out _ _ h; clear h; have DD := below_step DD g; clear g) | (go_at_call 9; (with_reducible refine (spread_any b _ hb9).mono ?_); rintro e w2 ⟨x, c, rfl, h, g⟩; obtain ⟨rfl, rfl⟩ := Ub.out _ _ h; clear h; have DD := below_step DD g; clear g) | (go_at_call 9; (with_reducible refine (spread_any (a ++ b) _ hc9).mono ?_); rintro e w2 ⟨x, c, rfl, h, g⟩; obtain ⟨rfl, rfl⟩ := Uc.out _ _ h; clear h; have DD := below_step DD g; clear g))
        go_ret
        exact ⟨rfl, DD⟩
    · clear h HL kc
      go_enter Tryd.func5, Tryd.ntmps5
      go_wp2_with (first | (go_at_call 7; (with_reducible refine (span_awake _ tab).mono ?_); rintro e w1 ⟨rfl, g⟩; have DD := g; clear g) | (go_at_call 9; (with_reducible refine (spread_any a _ ha9).mono ?_); rintro e w2 ⟨x, c, rfl, h, g⟩; obtain ⟨rfl, rfl⟩ := Ua.out _ _ h; clear h; have DD := below_step DD g; clear g) | (go_at_call 9; (with_reducible refine (spread_any b _ hb9).mono ?_); rintro e w2 ⟨x, c, rfl, h, g⟩; obtain ⟨rfl, rfl⟩ := Ub.out _ _ h; clear h; have DD := below_step DD g; clear g) | (go_at_call 9; (with_reducible refine (spread_any (a ++ b) _ hc9).mono ?_); rintro e w2 ⟨x, c, rfl, h, g⟩; obtain ⟨rfl, rfl⟩ := Uc.out _ _ h; clear h; have DD := below_step DD g; clear g))
      go_ret
      exact ⟨rfl, DD⟩
    · rcases kc with rfl | rfl | rfl
      · clear h HL
        go_enter Tryd.func5, Tryd.ntmps5
        go_wp2_with (first | (go_at_call 7; (with_reducible refine (span_awake _ tab).mono ?_); rintro e w1 ⟨rfl, g⟩; have DD := g; clear g) | (go_at_call 9; (with_reducible refine (spread_any a _ ha9).mono ?_); rintro e w2 ⟨x, c, rfl, h, g⟩; obtain ⟨rfl, rfl⟩ := Ua.out _ _ h; clear h; have DD := below_step DD g; clear g) | (go_at_call 9; (with_reducible refine (spread_any b _ hb9).mono ?_); rintro e w2 ⟨x, c, rfl, h, g⟩; obtain ⟨rfl, rfl⟩ := Ub.out _ _ h; clear h; have DD := below_step DD g; clear g) | (go_at_call 9; (with_reducible refine (spread_any (a ++ b) _ hc9).mono ?_); rintro e w2 ⟨x, c, rfl, h, g⟩; obtain ⟨rfl, rfl⟩ := Uc.out _ _ h; clear h; have DD := below_step DD g; clear g))
        go_ret
        exact ⟨rfl, DD⟩
      · have hl : z ≤ 57 := by rw [← hzz.out]; exact HL.out (by omega) (by omega)
        clear h HL
        go_enter Tryd.func5, Tryd.ntmps5
        go_wp2_with (first | (go_at_call 7; (with_reducible refine (span_awake _ tab).mono ?_); rintro e w1 ⟨rfl, g⟩; have DD := g; clear g) | (go_at_call 9; (with_reducible refine (spread_any a _ ha9).mono ?_); rintro e w2 ⟨x, c, rfl, h, g⟩; obtain ⟨rfl, rfl⟩ := Ua.out _ _ h; clear h; have DD := below_step DD g; clear g) | (go_at_call 9; (with_reducible refine (spread_any b _ hb9).mono ?_); rintro e w2 ⟨x, c, rfl, h, g⟩; obtain ⟨rfl, rfl⟩ := Ub.out _ _ h; clear h; have DD := below_step DD g; clear g) | (go_at_call 9; (with_reducible refine (spread_any (a ++ b) _ hc9).mono ?_); rintro e w2 ⟨x, c, rfl, h, g⟩; obtain ⟨rfl, rfl⟩ := Uc.out _ _ h; clear h; have DD := below_step DD g; clear g))
        go_ret
        exact ⟨rfl, DD⟩
      · have hl : z ≤ 57 := by rw [← hzz.out]; exact HL.out (by omega) (by omega)
        clear h HL
        go_enter Tryd.func5, Tryd.ntmps5
        go_wp2_with (first | (go_at_call 7; (with_reducible refine (span_awake _ tab).mono ?_); rintro e w1 ⟨rfl, g⟩; have DD := g; clear g) | (go_at_call 9; (with_reducible refine (spread_any a _ ha9).mono ?_); rintro e w2 ⟨x, c, rfl, h, g⟩; obtain ⟨rfl, rfl⟩ := Ua.out _ _ h; clear h; have DD := below_step DD g; clear g) | (go_at_call 9; (with_reducible refine (spread_any b _ hb9).mono ?_); rintro e w2 ⟨x, c, rfl, h, g⟩; obtain ⟨rfl, rfl⟩ := Ub.out _ _ h; clear h; have DD := below_step DD g; clear g) | (go_at_call 9; (with_reducible refine (spread_any (a ++ b) _ hc9).mono ?_); rintro e w2 ⟨x, c, rfl, h, g⟩; obtain ⟨rfl, rfl⟩ := Uc.out _ _ h; clear h; have DD := below_step DD g; clear g))
        go_ret
        exact ⟨rfl, DD⟩
  · clear kb
    clear h HL kc
    go_enter Tryd.func5, Tryd.ntmps5
    go_wp2_with (first | (go_at_call 7; (with_reducible refine (span_awake _ tab).mono ?_); rintro e w1 ⟨rfl, g⟩; have DD := g; clear g) | (go_at_call 9; (with_reducible refine (spread_any a _ ha9).mono ?_); rintro e w2 ⟨x, c, rfl, h, g⟩; obtain ⟨rfl, rfl⟩ := Ua.out _ _ h; clear h; have DD := below_step DD g; clear g) | (go_at_call 9; (with_reducible refine (spread_any b _ hb9).mono ?_); rintro e w2 ⟨x, c, rfl, h, g⟩; obtain ⟨rfl, rfl⟩ := Ub.out _ _ h; clear h; have DD := below_step DD g; clear g) | (go_at_call 9; (with_reducible refine (spread_any (a ++ b) _ hc9).mono ?_); rintro e w2 ⟨x, c, rfl, h, g⟩; obtain ⟨rfl, rfl⟩ := Uc.out _ _ h; clear h; have DD := below_step DD g; clear g))
    go_ret
    exact ⟨rfl, DD⟩
  · rcases kb with rfl | rfl | rfl
    · rcases kc with rfl | rfl | rfl
      · clear h HL
        go_enter Tryd.func5, Tryd.ntmps5
        go_wp2_with (first | (go_at_call 7; (with_reducible refine (span_awake _ tab).mono ?_); rintro e w1 ⟨rfl, g⟩; have DD := g; clear g) | (go_at_call 9; (with_reducible refine (spread_any a _ ha9).mono ?_); rintro e w2 ⟨x, c, rfl, h, g⟩; obtain ⟨rfl, rfl⟩ := Ua.out _ _ h; clear h; have DD := below_step DD g; clear g) | (go_at_call 9; (with_reducible refine (spread_any b _ hb9).mono ?_); rintro e w2 ⟨x, c, rfl, h, g⟩; obtain ⟨rfl, rfl⟩ := Ub.out _ _ h; clear h; have DD := below_step DD g; clear g) | (go_at_call 9; (with_reducible refine (spread_any (a ++ b) _ hc9).mono ?_); rintro e w2 ⟨x, c, rfl, h, g⟩; obtain ⟨rfl, rfl⟩ := Uc.out _ _ h; clear h; have DD := below_step DD g; clear g))
        go_ret
        exact ⟨rfl, DD⟩
      · have hl : z ≤ 57 := by rw [← hzz.out]; exact HL.out (by omega) (by omega)
        clear h HL
        go_enter Tryd.func5, Tryd.ntmps5
        go_wp2_with (first | (go_at_call 7; (with_reducible refine (span_awake _ tab).mono ?_); rintro e w1 ⟨rfl, g⟩; have DD := g; clear g) | (go_at_call 9; (with_reducible refine (spread_any a _ ha9).mono ?_); rintro e w2 ⟨x, c, rfl, h, g⟩; obtain ⟨rfl, rfl⟩ := Ua.out _ _ h; clear h; have DD := below_step DD g; clear g) | (go_at_call 9; (with_reducible refine (spread_any b _ hb9).mono ?_); rintro e w2 ⟨x, c, rfl, h, g⟩; obtain ⟨rfl, rfl⟩ := Ub.out _ _ h; clear h; have DD := below_step DD g; clear g) | (go_at_call 9; (with_reducible refine (spread_any (a ++ b) _ hc9).mono ?_); rintro e w2 ⟨x, c, rfl, h, g⟩; obtain ⟨rfl, rfl⟩ := Uc.out _ _ h; clear h; have DD := below_step DD g; clear g))
        go_ret
        exact ⟨rfl, DD⟩
      · have hl : z ≤ 57 := by rw [← hzz.out]; exact HL.out (by omega) (by omega)
        clear h HL
        go_enter Tryd.func5, Tryd.ntmps5
        go_wp2_with (first | (go_at_call 7; (with_reducible refine (span_awake _ tab).mono ?_); rintro e w1 ⟨rfl, g⟩; have DD := g; clear g) | (go_at_call 9; (with_reducible refine (spread_any a _ ha9).mono ?_); rintro e w2 ⟨x, c, rfl, h, g⟩; obtain ⟨rfl, rfl⟩ := Ua.out _ _ h; clear h; have DD := below_step DD g; clear g) | (go_at_call 9; (with_reducible refine (spread_any b _ hb9).mono ?_); rintro e w2 ⟨x, c, rfl, h, g⟩; obtain ⟨rfl, rfl⟩ := Ub.out _ _ h; clear h; have DD := below_step DD g; clear g) | (go_at_call 9; (with_reducible refine (spread_any (a ++ b) _ hc9).mono ?_); rintro e w2 ⟨x, c, rfl, h, g⟩; obtain ⟨rfl, rfl⟩ := Uc.out _ _ h; clear h; have DD := below_step DD g; clear g))
        go_ret
        exact ⟨rfl, DD⟩
    · clear h HL kc
      go_enter Tryd.func5, Tryd.ntmps5
      go_wp2_with (first | (go_at_call 7; (with_reducible refine (span_awake _ tab).mono ?_); rintro e w1 ⟨rfl, g⟩; have DD := g; clear g) | (go_at_call 9; (with_reducible refine (spread_any a _ ha9).mono ?_); rintro e w2 ⟨x, c, rfl, h, g⟩; obtain ⟨rfl, rfl⟩ := Ua.out _ _ h; clear h; have DD := below_step DD g; clear g) | (go_at_call 9; (with_reducible refine (spread_any b _ hb9).mono ?_); rintro e w2 ⟨x, c, rfl, h, g⟩; obtain ⟨rfl, rfl⟩ := Ub.out _ _ h; clear h; have DD := below_step DD g; clear g) | (go_at_call 9; (with_reducible refine (spread_any (a ++ b) _ hc9).mono ?_); rintro e w2 ⟨x, c, rfl, h, g⟩; obtain ⟨rfl, rfl⟩ := Uc.out _ _ h; clear h; have DD := below_step DD g; clear g))
      go_ret
      exact ⟨rfl, DD⟩
    · exact (h.elim (fun h => h rfl) (fun h => h rfl)).elim

set_option maxRecDepth 100000 in
set_option maxHeartbeats 4000000 in
theorem sjoins_fine (a b : ByteArray) (w : World) (tab : Tab w) (a1 : 0 < a.size) (b1 : 0 < b.size) (a2 : a.size ≤ 200) (b2 : b.size ≤ 200) (M1 M2 : Nat) (ha : Tells (nums a) M1) (hb : Tells (nums b) M2) (h1 : M1 ≤ 253402300799) (h2 : M2 ≤ 253402300799) :
    Calls Tryd.prog 5 #[.string a, .string b] w fun e w' => e = .returned (.bool true) ∧ Below w.heap.size w w' := by
  have ha9 : a.size ≤ 9223372036854775807 := by omega
  have hb9 : b.size ≤ 9223372036854775807 := by omega
  have hc9 : (a ++ b).size ≤ 9223372036854775807 := by rw [ByteArray.size_append]; omega
  have hs9 : a.size + b.size ≤ 9223372036854775807 := by omega
  have ae : ((a.size : Int) == 0) = false := by rw [beq_eq_false_iff_ne, ne_eq]; omega
  have be : ((b.size : Int) == 0) = false := by rw [beq_eq_false_iff_ne, ne_eq]; omega
  have c1 : 0 ≤ (a.size : Int) - 1 := by omega
  have c2 : (a.size : Int) - 1 < a.size := by omega
  have c3 : 0 < (a.size : Int) := by omega
  have ha0 : SpanOut (nums a) (M1 : Int) 0 := Or.inr ⟨M1, ha, Or.inr ⟨h1, rfl, rfl⟩⟩
  have hb0 : SpanOut (nums b) (M2 : Int) 0 := Or.inr ⟨M2, hb, Or.inr ⟨h2, rfl, rfl⟩⟩
  have Ua := Lib.hid (fun x c (h : SpanOut (nums a) x c) => ha0.unique h)
  have Ub := Lib.hid (fun x c (h : SpanOut (nums b) x c) => hb0.unique h)
  have HA := Lib.hid ha
  have HB := Lib.hid hb
  have i1 : (M1 : Int) ≤ 253402300799 := by omega
  have i2 : (M2 : Int) ≤ 253402300799 := by omega
  obtain ⟨z, hz, hzz⟩ : ∃ z, ((a[a.size - 1]'(by omega)).toNat : Int) = z ∧ Hid ((nums a).getD ((nums a).length - 1) 0 = z) := ⟨_, rfl, (span_last a a1).symm⟩
  have zb : 0 ≤ z ∧ z ≤ 255 := by rw [← hz]; have := (a[a.size - 1]'(by omega)).toNat_lt; omega
  obtain ⟨zb0, zb1⟩ := zb
  obtain ⟨U, hU0⟩ : ∃ U, unitOf z = U := ⟨_, rfl⟩
  have hU := Lib.hid hU0
  clear ha hb ha0 hb0 hU0 h1 h2
  go_enter Tryd.func5, Tryd.ntmps5
  go_wp2_with (first | (go_at_call 7; (with_reducible refine (span_awake _ tab).mono ?_); rintro e w1 ⟨rfl, g⟩; have DD := g; clear g) | (go_at_call 9; (with_reducible refine (spread_any a _ ha9).mono ?_); rintro e w2 ⟨x, c, rfl, h, g⟩; obtain ⟨rfl, rfl⟩ := Ua.out _ _ h; clear h; have DD := below_step DD g; clear g) | (go_at_call 9; (with_reducible refine (spread_any b _ hb9).mono ?_); rintro e w2 ⟨x, c, rfl, h, g⟩; obtain ⟨rfl, rfl⟩ := Ub.out _ _ h; clear h; have DD := below_step DD g; clear g) | (go_at_call 9; (with_reducible refine (spread_any (a ++ b) _ hc9).mono ?_); rintro e w4 ⟨xc, cc, rfl, hc, g⟩; have HC := Lib.hid hc; clear hc; have DD := below_step DD g; clear g) | (go_at_call 13; (with_reducible refine (runit_any z _ zb0 zb1).mono ?_); rintro e w5 ⟨rfl, g⟩; rw [hU.out]; have DD := below_step DD g; clear g))
  go_loopw [12] (fun v12 wr => ∃ k : Nat, k ≤ b.size ∧ v12 = .int .i64 k ∧ Hid (∀ j, j < k → unitOf ((nums b).getD j 0) = 0) ∧ Below w.heap.size w wr) (fun v12 _ => b.size - (intOf v12).toNat)
  case atStart => exact ⟨0, Nat.zero_le _, rfl, Lib.hid (fun j h => by omega), DD⟩
  case round =>
    obtain ⟨k, hk, rfl, hq, hbel⟩ := hrel
    clear DD
    by_cases hlt : k < b.size
    · obtain ⟨y, hy, hyy⟩ : ∃ y, ((b[k]'hlt).toNat : Int) = y ∧ Hid ((nums b).getD k 0 = y) := ⟨_, rfl, nums_at b k hlt⟩
      have yb : 0 ≤ y ∧ y ≤ 255 := by rw [← hy]; have := (b[k]'hlt).toNat_lt; omega
      obtain ⟨yb0, yb1⟩ := yb
      obtain ⟨V, hV0⟩ : ∃ V, unitOf y = V := ⟨_, rfl⟩
      have hV := Lib.hid hV0
      clear hV0
      by_cases v0 : V = 0
      · have hqn : Hid (∀ j, j < k + 1 → unitOf ((nums b).getD j 0) = 0) := fun j hj => by
          by_cases e : j = k
          · rw [e, hyy.out, hV.out, v0]
          · exact hq.out j (by omega)
        have hvb : ((V : Int) == 0) = true := by simp; omega
        clear v0
        go_wp2_with (go_at_call 13; (with_reducible refine (runit_any y _ yb0 yb1).mono ?_); rintro e w6 ⟨rfl, g⟩; rw [hV.out]; have hbel := below_step hbel g; clear g)
        go_roundw
        case rel => exact ⟨k + 1, by omega, by go_num, hqn, hbel⟩
        case measure => simp [intOf]; omega
      · have hvb : ((V : Int) == 0) = false := by simp; omega
        have hboth := Lib.hid (tells_both HA.out HB.out (i := k) (by rw [nums_length]; exact hlt) (fun x hx => by
          obtain ⟨j, hj, e⟩ := List.mem_iff_getElem.mp hx
          rw [List.length_take] at hj
          have h7 := hq.out j (by omega)
          rw [List.getD_eq_getElem?_getD, List.getElem?_eq_getElem (by omega)] at h7
          rw [← e, List.getElem_take]
          exact h7) (by rw [hyy.out, hV.out]; exact v0))
        clear v0
        by_cases hge : U ≤ V
        · have hcc : SpanOut (nums (a ++ b)) 0 5 := Or.inl ⟨by rw [nums_append]; exact hboth.out.1 (by rw [hzz.out, hyy.out, hU.out, hV.out]; exact hge), rfl, rfl⟩
          obtain ⟨rfl, rfl⟩ := hcc.unique HC.out
          have hgi : decide ((V : Int) ≥ (U : Int)) = true := by simp; omega
          have hgi2 : (U : Int) ≤ V := by omega
          clear hge hcc
          go_wp2_with (go_at_call 13; (with_reducible refine (runit_any y _ yb0 yb1).mono ?_); rintro e w6 ⟨rfl, g⟩; rw [hV.out]; have hbel := below_step hbel g; clear g)
          go_ret
          exact ⟨rfl, hbel⟩
        · have hT := Lib.hid (hboth.out.2 (by rw [hzz.out, hyy.out, hU.out, hV.out]; omega))
          have hgi : decide ((V : Int) ≥ (U : Int)) = false := by simp; omega
          have hgi2 : ¬ (U : Int) ≤ V := by omega
          clear hge
          by_cases hr : 253402300799 - (M2 : Int) < M1
          · have hcc : SpanOut (nums (a ++ b)) 0 8 := Or.inr ⟨M1 + M2, by rw [nums_append]; exact hT.out, Or.inl ⟨by omega, rfl, rfl⟩⟩
            obtain ⟨rfl, rfl⟩ := hcc.unique HC.out
            clear hcc
            go_wp2_with (go_at_call 13; (with_reducible refine (runit_any y _ yb0 yb1).mono ?_); rintro e w6 ⟨rfl, g⟩; rw [hV.out]; have hbel := below_step hbel g; clear g)
            go_ret
            exact ⟨rfl, hbel⟩
          · have hcc : SpanOut (nums (a ++ b)) ((M1 : Int) + M2) 0 := Or.inr ⟨M1 + M2, by rw [nums_append]; exact hT.out, Or.inr ⟨by omega, by omega, rfl⟩⟩
            obtain ⟨rfl, rfl⟩ := hcc.unique HC.out
            have hri : (M1 : Int) ≤ 253402300799 - (M2 : Int) := by omega
            have hs : (M1 : Int) + M2 ≤ 253402300799 := by omega
            clear hcc hr
            go_wp2_with (go_at_call 13; (with_reducible refine (runit_any y _ yb0 yb1).mono ?_); rintro e w6 ⟨rfl, g⟩; rw [hV.out]; have hbel := below_step hbel g; clear g)
            go_ret
            exact ⟨rfl, hbel⟩
    · exfalso
      obtain ⟨i, hi, hu⟩ := tells_unit HB.out
      rw [nums_length] at hi
      exact hu (hq.out i (by omega))

theorem sjoins_walk (a b : ByteArray) (w : World) (tab : Tab w) (ha9 : a.size ≤ 9223372036854775807) (hb9 : b.size ≤ 9223372036854775807) :
    Calls Tryd.prog 5 #[.string a, .string b] w fun e w' => e = .returned (.bool true) ∧ Below w.heap.size w w' := by
  by_cases h : 200 < a.size ∨ 200 < b.size ∨ a.size = 0 ∨ b.size = 0
  · exact sjoins_none a b w tab ha9 hb9 h
  · obtain ⟨xa, ca, ha⟩ := spanOut_ex (nums a)
    obtain ⟨xb, cb, hb⟩ := spanOut_ex (nums b)
    obtain ⟨xc, cc, hc⟩ := spanOut_ex (nums (a ++ b))
    by_cases hw : ca ≠ 0 ∨ cb ≠ 0
    · exact sjoins_wrong a b w tab (by omega) (by omega) (by omega) (by omega) ha hb hc hw
    · rcases ha with ⟨_, _, h5⟩ | ⟨M1, h1, ⟨_, _, h8⟩ | ⟨k1, _, _⟩⟩
      · omega
      · omega
      · rcases hb with ⟨_, _, h5⟩ | ⟨M2, h2, ⟨_, _, h8⟩ | ⟨k2, _, _⟩⟩
        · omega
        · omega
        · exact sjoins_fine a b w tab (by omega) (by omega) (by omega) (by omega) M1 M2 h1 h2 k1 k2

end Go.Proofs.YtibaelkfchpbpaaDoor
