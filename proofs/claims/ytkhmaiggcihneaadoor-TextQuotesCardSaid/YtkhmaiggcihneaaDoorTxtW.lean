/-
  The statements of layer 6, walked: over the contracts of package text's calls: awake, names, quotes.
-/
import Derived.Test.YtkhmaiggcihneaaDoorTxtC
namespace Go.Proofs.YtkhmaiggcihneaaDoor
open Go.RowKit

theorem aqb_good : GoodL (runesOf (nums ⟨#[97, 34, 98]⟩)) ∧ (runesOf (nums ⟨#[97, 34, 98]⟩)).length ≤ 120 ∧ strOfNums (quoteL (runesOf (nums ⟨#[97, 34, 98]⟩))) = ⟨#[34, 97, 92, 34, 98, 34]⟩ := by
  have e : nums ⟨#[97, 34, 98]⟩ = [97, 34, 98] := rfl
  have h : runesOf [97, 34, 98] = [97, 34, 98] := by
    rw [runes_low (by decide) (by decide), runes_low (by decide) (by decide), runes_low (by decide) (by decide), runes_nil]
  rw [e, h]
  refine ⟨fun i hi => ?_, by decide, rfl⟩
  have : i = 0 ∨ i = 1 ∨ i = 2 := by simp at hi; omega
  rcases this with rfl | rfl | rfl <;> decide
theorem tquote_one (w : World) (env : Env w) : Calls Tryd.prog 18 #[.string ⟨#[97, 34, 98]⟩] w fun e w' => e = .returned (.tuple #[.string ⟨#[34, 97, 92, 34, 98, 34]⟩, .int .i64 0]) ∧ Below w.heap.size w w' := by
  obtain ⟨h1, h2, h3⟩ := aqb_good
  rw [← h3]
  exact tquote_fine _ w env (by decide) h1 h2
theorem tletter_is {r : Int} {q : Bool} (h : letterB r = q) (w : World) (env : Env w) (r0 : -2147483648 ≤ r) (r1 : r ≤ 2147483647) : Calls Tryd.prog 14 #[.int .i32 r] w fun e w' => e = .returned (.bool q) ∧ Below w.heap.size w w' := by
  subst h; exact tletter_any r w env r0 r1
theorem e233 : letterB 233 = true := by decide

set_option maxRecDepth 100000 in
theorem txt_awake (w : World) (env : Env w) : Calls Tryd.prog 7 #[] w fun e w' => e = .returned (.bool true) ∧ Below w.heap.size w w' := by
  go_enter Tryd.func7, Tryd.ntmps7
  go_wp2_with (first
    | (go_at_call 18; (with_reducible refine (tquote_one _ env).mono ?_); rintro e w1 ⟨rfl, g⟩; have DD := g; clear g)
    | (go_at_call 14; (with_reducible refine (tletter_is e233 _ (env.step DD) (by decide) (by decide)).mono ?_); rintro e w2 ⟨rfl, g⟩; have DD := below_step DD g; clear g))
  go_ret
  exact ⟨rfl, DD⟩

theorem tname_is {s : ByteArray} (hm : s.size ≤ 4294967296) {q : Bool} (h : q = true ↔ NameL (runesOf (nums s))) (w : World) (env : Env w) : Calls Tryd.prog 16 #[.string s] w fun e w' => e = .returned (.bool q) ∧ Below w.heap.size w w' := by
  refine (tname_any s w env hm).mono ?_
  rintro e w' ⟨q', rfl, h', g⟩
  obtain rfl : q' = q := by cases q <;> cases q' <;> simp_all
  exact ⟨rfl, g⟩
theorem rname_is {s : ByteArray} (hm : s.size ≤ 4294967296) {q : Bool} (h : q = true ↔ NameL (runesOf (nums s))) (w : World) : Calls Tryd.prog 17 #[.string s] w fun e w' => e = .returned (.bool q) ∧ Below w.heap.size w w' := by
  refine (rname_any s w hm).mono ?_
  rintro e w' ⟨q', rfl, h', g⟩
  obtain rfl : q' = q := by cases q <;> cases q' <;> simp_all
  exact ⟨rfl, g⟩
theorem prop_bool (A : Prop) : ∃ q : Bool, q = true ↔ A := by
  by_cases h : A
  · exact ⟨true, fun _ => h, fun _ => rfl⟩
  · exact ⟨false, fun e => Bool.noConfusion e, fun e => (h e).elim⟩

set_option maxRecDepth 100000 in
theorem txtnames_walk (s : ByteArray) (r : Int) (w : World) (env : Env w) (_hm : s.size ≤ 9223372036854775807) (r0 : -2147483648 ≤ r) (r1 : r ≤ 2147483647) : Calls Tryd.prog 4 #[.string s, .int .i32 r] w fun e w' => e = .returned (.bool true) ∧ Below w.heap.size w w' := by
  by_cases hs : 200 < s.size
  · go_enter Tryd.func4, Tryd.ntmps4
    go_wp2_with (go_at_call 7; (with_reducible refine (txt_awake _ env).mono ?_); rintro e w1 ⟨rfl, g⟩; have DD := g; clear g)
    go_ret
    exact ⟨rfl, DD⟩
  · have hs2 : s.size ≤ 200 := by omega
    have hs3 : s.size ≤ 4294967296 := by omega
    obtain ⟨q, hq⟩ := prop_bool (NameL (runesOf (nums s)))
    obtain ⟨p, hp⟩ : ∃ p, letterB r = p := ⟨_, rfl⟩
    have TN := Lib.hid (fun w env => tname_is hs3 hq w env)
    have RN := Lib.hid (fun w => rname_is hs3 hq w)
    have TL := Lib.hid (fun w env => tletter_is hp w env r0 r1)
    have RL := Lib.hid (fun w => rletter_is hp w)
    clear hq hp hs
    go_enter Tryd.func4, Tryd.ntmps4
    go_wp2_with (first
      | (go_at_call 7; (with_reducible refine (txt_awake _ env).mono ?_); rintro e w1 ⟨rfl, g⟩; have DD := g; clear g)
      | (go_at_call 14; (with_reducible refine (TL.out _ (env.step DD)).mono ?_); rintro e w2 ⟨rfl, g⟩; have DD := below_step DD g; clear g)
      | (go_at_call 15; (with_reducible refine (RL.out _).mono ?_); rintro e w3 ⟨rfl, rfl⟩)
      | (go_at_call 16; (with_reducible refine (TN.out _ (env.step DD)).mono ?_); rintro e w4 ⟨rfl, g⟩; have DD := below_step DD g; clear g)
      | (go_at_call 17; (with_reducible refine (RN.out _).mono ?_); rintro e w5 ⟨rfl, g⟩; have DD := below_step DD g; clear g))
    go_ret
    exact ⟨rfl, DD⟩

theorem tunq_is {s : ByteArray} (hm : s.size ≤ 4294967296) {t : List Int} {c : Int} (h : UnqL (runesOf (nums s)) t c) {T : ByteArray} (hT : strOfNums t = T) (w : World) (env : Env w) :
    Calls Tryd.prog 19 #[.string s] w fun e w' => e = .returned (.tuple #[.string T, .int .i64 c]) ∧ Below w.heap.size w w' := by
  refine (tunq_any s w env hm).mono ?_
  rintro e w' ⟨t', c', rfl, h', g⟩
  obtain ⟨rfl, rfl⟩ := h.unique h'
  rw [hT]
  exact ⟨rfl, g⟩
theorem runq_is {s : ByteArray} (hm : s.size ≤ 4294967296) {t : List Int} {c : Int} (h : UnqL (runesOf (nums s)) t c) {T : ByteArray} (hT : strOfNums t = T) (w : World) :
    Calls Tryd.prog 21 #[.string s] w fun e w' => e = .returned (.tuple #[.string T, .int .i64 c]) ∧ Below w.heap.size w w' := by
  refine (runq_any s w hm).mono ?_
  rintro e w' ⟨t', c', rfl, h', g⟩
  obtain ⟨rfl, rfl⟩ := h.unique h'
  rw [hT]
  exact ⟨rfl, g⟩
theorem unq_ex (l : List Int) : ∃ t c, UnqL l t c := by
  by_cases h : ∃ xs, uf l = .done xs
  · obtain ⟨xs, h⟩ := h
    by_cases hx : 120 < xs.length
    · exact ⟨[], 9, Or.inr ⟨xs, h, Or.inl ⟨hx, rfl, rfl⟩⟩⟩
    · exact ⟨_, 0, Or.inr ⟨xs, h, Or.inr ⟨by omega, rfl, rfl⟩⟩⟩
  · exact ⟨[], 5, Or.inl ⟨fun xs e => h ⟨xs, e⟩, rfl, rfl⟩⟩

set_option maxRecDepth 100000 in
theorem txtunq_walk (s : ByteArray) (w : World) (env : Env w) (_hm : s.size ≤ 9223372036854775807) : Calls Tryd.prog 6 #[.string s] w fun e w' => e = .returned (.bool true) ∧ Below w.heap.size w w' := by
  by_cases hs : 1500 < s.size
  · go_enter Tryd.func6, Tryd.ntmps6
    go_wp2_with (go_at_call 7; (with_reducible refine (txt_awake _ env).mono ?_); rintro e w1 ⟨rfl, g⟩; have DD := g; clear g)
    go_ret
    exact ⟨rfl, DD⟩
  · have hs2 : s.size ≤ 1500 := by omega
    have hs3 : s.size ≤ 4294967296 := by omega
    obtain ⟨t, c, h⟩ := unq_ex (runesOf (nums s))
    obtain ⟨T, hT⟩ : ∃ T, strOfNums t = T := ⟨_, rfl⟩
    have TU := Lib.hid (fun w env => tunq_is hs3 h hT w env)
    have RU := Lib.hid (fun w => runq_is hs3 h hT w)
    clear h hT hs
    go_enter Tryd.func6, Tryd.ntmps6
    go_wp2_with (first
      | (go_at_call 7; (with_reducible refine (txt_awake _ env).mono ?_); rintro e w1 ⟨rfl, g⟩; have DD := g; clear g)
      | (go_at_call 19; (with_reducible refine (TU.out _ (env.step DD)).mono ?_); rintro e w2 ⟨rfl, g⟩; have DD := below_step DD g; clear g)
      | (go_at_call 21; (with_reducible refine (RU.out _).mono ?_); rintro e w3 ⟨rfl, g⟩; have DD := below_step DD g; clear g))
    go_ret
    exact ⟨rfl, DD⟩

theorem quoteL_size {l : List Int} (h : ∀ r ∈ l, RuneOk r) (hl : l.length ≤ 1000) : (strOfNums (quoteL l)).size ≤ 4294967296 := by
  have h1 : (quoteB l).length ≤ 9 * l.length := quoteB_len (fun r hr => ⟨by have := (h r hr).1; omega, (h r hr).2.1⟩)
  rw [strOfNums_size]
  unfold quoteL
  simp only [List.length_append, List.length_cons, List.length_nil]
  omega
theorem quoteL_byte {l : List Int} (h : ∀ r ∈ l, RuneOk r) : ∀ z ∈ quoteL l, 0 ≤ z ∧ z ≤ 255 := by
  intro z hz
  unfold quoteL at hz
  simp only [List.mem_append, List.mem_singleton] at hz
  rcases hz with (hz | hz) | hz
  · omega
  · obtain ⟨r, hr, hz⟩ := List.mem_flatMap.mp hz
    have hok := h r hr
    unfold quoteR at hz
    split at hz
    · simp at hz; omega
    split at hz
    · simp at hz; omega
    split at hz
    · simp at hz; omega
    split at hz
    · simp at hz; omega
    split at hz
    · simp only [List.mem_append, List.mem_cons, List.not_mem_nil, or_false] at hz
      rcases hz with (hz | hz) | hz
      · omega
      · have := hexL_bd _ z hz; omega
      · omega
    · exact encL_byte hok.1 hok.2.1 z hz
  · omega

set_option maxRecDepth 100000 in
set_option maxHeartbeats 1000000 in
theorem txtquotes_walk (s : ByteArray) (w : World) (env : Env w) (_hm : s.size ≤ 9223372036854775807) : Calls Tryd.prog 5 #[.string s] w fun e w' => e = .returned (.bool true) ∧ Below w.heap.size w w' := by
  by_cases hs : 1000 < s.size
  · go_enter Tryd.func5, Tryd.ntmps5
    go_wp2_with (go_at_call 7; (with_reducible refine (txt_awake _ env).mono ?_); rintro e w1 ⟨rfl, g⟩; have DD := g; clear g)
    go_ret
    exact ⟨rfl, DD⟩
  have hs2 : s.size ≤ 1000 := by omega
  have hs3 : s.size ≤ 4294967296 := by omega
  clear hs
  by_cases hg : GoodL (runesOf (nums s))
  case neg =>
    have TQ := Lib.hid (fun w env => tquote_bad s w env hs3 hg)
    have RG := Lib.hid (fun w => rgood_is (q := false) hs3 ⟨fun e => Bool.noConfusion e, fun e => (hg e).elim⟩ w)
    clear hg
    go_enter Tryd.func5, Tryd.ntmps5
    go_wp2_with (first
      | (go_at_call 7; (with_reducible refine (txt_awake _ env).mono ?_); rintro e w1 ⟨rfl, g⟩; have DD := g; clear g)
      | (go_at_call 18; (with_reducible refine (TQ.out _ (env.step DD)).mono ?_); rintro e w2 ⟨rfl, g⟩; have DD := below_step DD g; clear g)
      | (go_at_call 11; (with_reducible refine (RG.out _).mono ?_); rintro e w3 ⟨rfl, g⟩; have DD := below_step DD g; clear g))
    go_ret
    exact ⟨rfl, DD⟩
  have RG := Lib.hid (fun w => rgood_is (q := true) hs3 ⟨fun _ => hg, fun _ => rfl⟩ w)
  have RR := Lib.hid (fun w => rrunes_any s w hs3)
  obtain ⟨hok, hbk⟩ := good_back (nums_byte s) (good_mem hg)
  have hll := runes_len (nums s)
  rw [nums_length] at hll
  by_cases hl : 120 < (runesOf (nums s)).length
  · have TQ := Lib.hid (fun w env => tquote_long s w env hs3 hg hl)
    obtain ⟨l, hl2⟩ : ∃ l, runesOf (nums s) = l := ⟨_, rfl⟩
    rw [hl2] at RR hl hll
    clear hg hok hbk hl2
    go_enter Tryd.func5, Tryd.ntmps5
    go_wp2_with (first
      | (go_at_call 7; (with_reducible refine (txt_awake _ env).mono ?_); rintro e w1 ⟨rfl, g⟩; have DD := g; clear g)
      | (go_at_call 18; (with_reducible refine (TQ.out _ (env.step DD)).mono ?_); rintro e w2 ⟨rfl, g⟩; have DD := below_step DD g; clear g)
      | (go_at_call 11; (with_reducible refine (RG.out _).mono ?_); rintro e w3 ⟨rfl, g⟩; have DD := below_step DD g; clear g)
      | (go_at_call 8; (with_reducible refine (RR.out _).mono ?_); rintro e w4 ⟨v, rfl, ⟨b, off, cap, rfl, hcap, hb, hcell⟩, g, _⟩; have DD := below_step DD g; clear g hcell))
    go_ret
    exact ⟨rfl, DD⟩
  · have hl120 : (runesOf (nums s)).length ≤ 120 := by omega
    have TQ := Lib.hid (fun w env => tquote_fine s w env hs3 hg hl120)
    have RQ := Lib.hid (fun w => rquote_any s w hs3 hg)
    obtain ⟨l, hl2⟩ : ∃ l, runesOf (nums s) = l := ⟨_, rfl⟩
    rw [hl2] at RR hl hll TQ RQ hok hbk hl120
    have hqs := quoteL_size hok (by omega)
    have hrs : runesOf (nums (strOfNums (quoteL l))) = runesOf (quoteL l) := by rw [nums_strOfNums _ (quoteL_byte hok)]
    have TU := Lib.hid (fun w env => tunq_is hqs (t := l.flatMap encL) (c := 0) (by rw [hrs]; exact Or.inr ⟨l, quote_back hok, Or.inr ⟨hl120, rfl, rfl⟩⟩) (T := s) (by rw [hbk, strOfNums_nums]) w env)
    obtain ⟨Q, hQ⟩ : ∃ Q, strOfNums (quoteL l) = Q := ⟨_, rfl⟩
    rw [hQ] at TQ RQ TU
    clear hg hok hbk hl2 hl hrs hqs hQ
    go_enter Tryd.func5, Tryd.ntmps5
    go_wp2_with (first
      | (go_at_call 7; (with_reducible refine (txt_awake _ env).mono ?_); rintro e w1 ⟨rfl, g⟩; have DD := g; clear g)
      | (go_at_call 18; (with_reducible refine (TQ.out _ (env.step DD)).mono ?_); rintro e w2 ⟨rfl, g⟩; have DD := below_step DD g; clear g)
      | (go_at_call 11; (with_reducible refine (RG.out _).mono ?_); rintro e w3 ⟨rfl, g⟩; have DD := below_step DD g; clear g)
      | (go_at_call 8; (with_reducible refine (RR.out _).mono ?_); rintro e w4 ⟨v, rfl, ⟨b, off, cap, rfl, hcap, hb, hcell⟩, g, _⟩; have DD := below_step DD g; clear g hcell)
      | (go_at_call 19; (with_reducible refine (TU.out _ (env.step DD)).mono ?_); rintro e w5 ⟨rfl, g⟩; have DD := below_step DD g; clear g)
      | (go_at_call 20; (with_reducible refine (RQ.out _).mono ?_); rintro e w6 ⟨rfl, g⟩; have DD := below_step DD g; clear g))
    go_ret
    exact ⟨rfl, DD⟩

end Go.Proofs.YtkhmaiggcihneaaDoor
