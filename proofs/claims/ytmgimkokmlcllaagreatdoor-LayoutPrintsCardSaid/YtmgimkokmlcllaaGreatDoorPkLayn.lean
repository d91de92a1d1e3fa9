/-
  Package layout's Same: walked.
-/
import Derived.Test.YtmgimkokmlcllaaGreatDoorPkLayf
import Derived.Test.YtmgimkokmlcllaaGreatDoorPkMixs
import Derived.Test.YtmgimkokmlcllaaGreatDoorPkTrev
import Derived.Test.YtmgimkokmlcllaaGreatDoorPkLayg
namespace Go.Proofs.YtmgimkokmlcllaaGreatDoor
open Go.RowKit

set_option maxRecDepth 100000 in
set_option maxHeartbeats 4000000 in
theorem lbareword_any (t : Tk3) (w : World) : Calls Tryz.prog 58 #[tkAgg t] w fun e w' => e = .returned (tkAgg t.bare) ∧ Below w.heap.size w w' := by
  obtain ⟨k, s, n, a, b⟩ := t
  simp only [tkAgg, Tk3.bare]
  go_enter Tryz.func58, Tryz.ntmps58
  go_wp2
  refine bodyPost_ret (results_cell_row rfl _ _ (w.heap.size + 1) 59 #[.int .i64 k, .string s, .int .u64 n, .int .i64 0, .int .i64 0] (0, 0) _ rfl ?_ Tryz.underlying59 rfl (by kernel_rfl)) rfl ?_
  · have := heap_alloc_new (w.alloc (.cells #[.int .i64 k, .string s, .int .u64 n, .int .i64 0, .int .i64 0] 59)) (.cells #[.int .i64 k, .string s, .int .u64 n, .int .i64 0, .int .i64 0] 59)
    rw [World.size_alloc] at this
    exact this
  · exact ⟨rfl, ((Below.refl _ _).alloc (Nat.le_refl _) _).alloc (by simp) _⟩
theorem toList_inj {a b : ByteArray} (h : a.toList = b.toList) : a = b := by
  rw [ByteArray.toList_eq, ByteArray.toList_eq] at h
  exact ByteArray.ext (Array.toList_inj.mp h)
def TSW (a b : Tk3) (k : Nat) (v : Value) (_w : World) : Prop := (k = 0 → v = tkAgg a) ∧ (k = 1 → v = tkAgg a.bare) ∧ (k = 2 → v = tkAgg b) ∧ (k = 3 → v = tkAgg b.bare) ∧ (k = 4 → ∃ q : Bool, v = .bool q ∧ (q = true ↔ a.bare = b.bare))
set_option maxRecDepth 100000 in
set_option maxHeartbeats 4000000 in
theorem lsameword_any (a b : Tk3) (w : World) : Calls Tryz.prog 57 #[tkAgg a, tkAgg b] w (GivesQ (a.bare = b.bare) w) := by
  have HBA := Lib.hid (fun W => lbareword_any a W)
  have HBB := Lib.hid (fun W => lbareword_any b W)
  obtain ⟨W0, hW0⟩ : ∃ W, w.alloc (.cells #[.int .i64 a.k, .string a.s, .int .u64 a.n, .int .i64 a.a, .int .i64 a.b] 59) = W := ⟨_, rfl⟩
  obtain ⟨W1, hW1⟩ : ∃ W, W0.alloc (.cells #[.int .i64 b.k, .string b.s, .int .u64 b.n, .int .i64 b.a, .int .i64 b.b] 59) = W := ⟨_, rfl⟩
  have hs0 : W0.heap.size = w.heap.size + 1 := by rw [← hW0]; simp
  have V1 : Var5 W1 (w.heap.size + 1) (.int .i64 b.k) (.string b.s) (.int .u64 b.n) (.int .i64 b.a) (.int .i64 b.b) := by rw [← hW1]; exact Var5.fresh _ _ _ _ _ _ _ _ hs0.symm
  have V0 : Var5 W1 w.heap.size (.int .i64 a.k) (.string a.s) (.int .u64 a.n) (.int .i64 a.a) (.int .i64 a.b) := by
    have h : Var5 W0 w.heap.size (.int .i64 a.k) (.string a.s) (.int .u64 a.n) (.int .i64 a.a) (.int .i64 a.b) := by rw [← hW0]; exact Var5.fresh _ _ _ _ _ _ _ _ rfl
    rw [← hW1]; exact h.after ((Below.refl _ _).alloc (Nat.le_refl _) _)
  have HG : Hid (Below w.heap.size w W1) := by rw [← hW1, ← hW0]; exact below_more (below_more (Below.refl _ _) _) _
  have HV0 := Lib.hid V0
  have HV1 := Lib.hid V1
  clear V0 V1
  go_enter Tryz.func57, Tryz.ntmps57
  simp only [tkAgg]
  go_wp2
  refine wp_region_mix 5 (TSW a b) (fun _ => false) (by kernel_rfl) (by kernel_rfl) (fun _ _ _ _ h _ => h) (fun _ _ _ h => by cases h) ?_ ?_
  · simp only [List.take_succ_cons, List.take_zero]
    refine (StepsAll.cons ?_ (StepsAll.cons ?_ (StepsAll.cons ?_ (StepsAll.cons ?_ (StepsAll.cons ?_ StepsAll.nil)))))
    · intro u W hb hd
      obtain ⟨c0, c1, c2, c3, c4, _, _⟩ := HV0.out.after (hb.mono (Nat.le_refl _))
      simp only [putAll, Act.put, List.setIfInBounds_toArray, List.set_cons_succ, List.set_cons_zero, Nat.zero_add, Nat.reduceAdd]
      go_wp2
      exact ⟨⟨fun _ => rfl, fun h => (by cases h), fun h => (by cases h), fun h => (by cases h), fun h => (by cases h)⟩, Below.refl _ _⟩
    · intro u W hb hd
      have e0 : u 0 = tkAgg a := (hd.1 rfl (by decide)).1 rfl
      simp only [putAll, Act.put, List.setIfInBounds_toArray, List.set_cons_succ, List.set_cons_zero, Nat.zero_add, Nat.reduceAdd]
      rw [e0]
      go_wp2_with (go_at_call 58; (with_reducible refine (HBA.out _).mono ?_); rintro e w5 ⟨rfl, g5⟩)
      exact ⟨_, rfl, ⟨fun h => (by cases h), fun _ => rfl, fun h => (by cases h), fun h => (by cases h), fun h => (by cases h)⟩, g5, fun h => (by cases h)⟩
    · intro u W hb hd
      obtain ⟨c0, c1, c2, c3, c4, _, _⟩ := HV1.out.after (hb.mono (Nat.le_refl _))
      simp only [putAll, Act.put, List.setIfInBounds_toArray, List.set_cons_succ, List.set_cons_zero, Nat.zero_add, Nat.reduceAdd]
      go_wp2
      exact ⟨⟨fun h => (by cases h), fun h => (by cases h), fun _ => rfl, fun h => (by cases h), fun h => (by cases h)⟩, Below.refl _ _⟩
    · intro u W hb hd
      have e0 : u 2 = tkAgg b := (hd.1 rfl (by decide)).2.2.1 rfl
      simp only [putAll, Act.put, List.setIfInBounds_toArray, List.set_cons_succ, List.set_cons_zero, Nat.zero_add, Nat.reduceAdd]
      rw [e0]
      go_wp2_with (go_at_call 58; (with_reducible refine (HBB.out _).mono ?_); rintro e w5 ⟨rfl, g5⟩)
      exact ⟨_, rfl, ⟨fun h => (by cases h), fun h => (by cases h), fun h => (by cases h), fun _ => rfl, fun h => (by cases h)⟩, g5, fun h => (by cases h)⟩
    · intro u W hb hd
      have e0 : u 1 = tkAgg a.bare := (hd.1 rfl (by decide)).2.1 rfl
      have e1 : u 3 = tkAgg b.bare := (hd.2.1 rfl (by decide)).2.2.2.1 rfl
      simp only [putAll, Act.put, List.setIfInBounds_toArray, List.set_cons_succ, List.set_cons_zero, Nat.zero_add, Nat.reduceAdd]
      rw [e0, e1]
      clear e0 e1
      by_cases heq : a.bare = b.bare
      · rw [heq]
        obtain ⟨k, s, n, x, y⟩ := b
        simp only [tkAgg, Tk3.bare]
        go_wp2
        exact ⟨⟨fun h => (by cases h), fun h => (by cases h), fun h => (by cases h), fun h => (by cases h), fun _ => ⟨true, rfl, ⟨fun _ => heq, fun _ => rfl⟩⟩⟩, Below.refl _ _⟩
      · obtain ⟨k, s, n, x, y⟩ := b
        obtain ⟨k', s', n', x', y'⟩ := a
        have hne : ¬ (k' = k ∧ s' = s ∧ n' = n) := fun ⟨h1, h2, h3⟩ => heq (by subst h1 h2 h3; rfl)
        simp only [tkAgg, Tk3.bare]
        clear heq
        go_wp2
        all_goals first
          | exact (hne ⟨by assumption, toList_inj (by assumption), by assumption⟩).elim
          | exact ⟨⟨fun h => (by cases h), fun h => (by cases h), fun h => (by cases h), fun h => (by cases h), fun _ => ⟨false, rfl, ⟨fun e => (by cases e), fun e => (by have h1 := congrArg Tk3.k e; have h2 := congrArg Tk3.s e; have h3 := congrArg Tk3.n e; simp_all [Tk3.bare])⟩⟩⟩, Below.refl _ _⟩
  · intro u W hb hT _
    obtain ⟨_, e1, _, e3, e4⟩ : (u 0 = tkAgg a) ∧ (u 1 = tkAgg a.bare) ∧ (u 2 = tkAgg b) ∧ (u 3 = tkAgg b.bare) ∧ ∃ q : Bool, u 4 = .bool q ∧ (q = true ↔ a.bare = b.bare) :=
      ⟨(hT 0 (by decide)).1 rfl, (hT 1 (by decide)).2.1 rfl, (hT 2 (by decide)).2.2.1 rfl, (hT 3 (by decide)).2.2.2.1 rfl, (hT 4 (by decide)).2.2.2.2 rfl⟩
    obtain ⟨q, e4, hq⟩ := e4
    have HBW := Lib.hid (below_step HG.out hb)
    clear hb hT e1 e3
    simp only [List.take_succ_cons, List.take_zero, List.drop_succ_cons, List.drop_zero, putAll, Act.put, List.setIfInBounds_toArray, List.set_cons_succ, List.set_cons_zero, Nat.zero_add, Nat.reduceAdd]
    rw [e4]
    have HQ := Lib.hid hq
    clear e4 hq
    go_wp2
    go_ret
    exact ⟨q, rfl, HQ.out, HBW.out⟩

theorem bare_words {l m : List Tk3} : l.map Tk3.bare = m.map Tk3.bare ↔ l.length = m.length ∧ ∀ i, i < l.length → (l.getD i {}).bare = (m.getD i {}).bare := by
  constructor
  · intro h
    have hl : l.length = m.length := by have := congrArg List.length h; simpa using this
    refine ⟨hl, fun i hi => ?_⟩
    have := congrArg (fun x => x[i]?) h
    simp only [List.getElem?_map] at this
    rw [List.getD_eq_getElem?_getD, List.getD_eq_getElem?_getD]
    rw [List.getElem?_eq_getElem hi, List.getElem?_eq_getElem (by omega)] at this ⊢
    simpa using this
  · rintro ⟨hl, h⟩
    apply List.ext_getElem?
    intro i
    simp only [List.getElem?_map]
    by_cases hi : i < l.length
    · have := h i hi
      rw [List.getD_eq_getElem?_getD, List.getD_eq_getElem?_getD] at this
      rw [List.getElem?_eq_getElem hi, List.getElem?_eq_getElem (by omega)] at this ⊢
      simpa using this
    · rw [List.getElem?_eq_none (by omega), List.getElem?_eq_none (by omega)]
theorem bareL_get : ∀ (L : List It) (i : Nat), i < L.length → (bareL L).getD i default = .mk (L.getD i default).name ((L.getD i default).words.map Tk3.bare) (L.getD i default).block (bareL (L.getD i default).kids) 0 0
  | [], i, h => by cases h
  | .mk n w k kids a b :: l, 0, _ => by simp [bareL, It.name, It.words, It.block, It.kids]
  | .mk n w k kids a b :: l, i + 1, h => by
    rw [bareL, List.getD_cons_succ, List.getD_cons_succ]
    exact bareL_get l i (by simpa using h)
def ItemE (x y : It) : Prop := x.name = y.name ∧ x.block = y.block ∧ x.words.map Tk3.bare = y.words.map Tk3.bare ∧ bareL x.kids = bareL y.kids
theorem bareL_len2 : ∀ L : List It, (bareL L).length = L.length
  | [] => by simp [bareL]
  | .mk n w k kids a b :: L => by rw [bareL, List.length_cons, List.length_cons, bareL_len2 L]
theorem bare_items {L M : List It} : bareL L = bareL M ↔ L.length = M.length ∧ ∀ i, i < L.length → ItemE (L.getD i default) (M.getD i default) := by
  constructor
  · intro h
    have hl : L.length = M.length := by have := congrArg List.length h; rwa [bareL_len2, bareL_len2] at this
    refine ⟨hl, fun i hi => ?_⟩
    have h1 := bareL_get L i hi
    rw [h, bareL_get M i (by omega)] at h1
    injection h1 with q1 q2 q3 q4
    exact ⟨q1.symm, q3.symm, q2.symm, q4.symm⟩
  · rintro ⟨hl, h⟩
    apply List.ext_getElem?
    intro i
    by_cases hi : i < L.length
    · have h1 := bareL_get L i hi
      have h2 := bareL_get M i (by omega)
      obtain ⟨q1, q2, q3, q4⟩ := h i hi
      rw [q1, q2, q3, q4, ← h2, List.getD_eq_getElem?_getD, List.getD_eq_getElem?_getD] at h1
      rw [List.getElem?_eq_getElem (by rw [bareL_len2]; exact hi), List.getElem?_eq_getElem (by rw [bareL_len2]; omega)] at h1 ⊢
      simpa using h1
    · rw [List.getElem?_eq_none (by rw [bareL_len2]; omega), List.getElem?_eq_none (by rw [bareL_len2]; omega)]

set_option maxRecDepth 100000 in
set_option maxHeartbeats 8000000 in
/-- Words, alike but for places? -/
theorem leqwords_any (S T : Nat → Prop) (v1 v2 : Value) (l m : List Tk3) (w : World) (h1 : WordsIs w S v1 l) (h2 : WordsIs w T v2 m) (hl : l.length ≤ 1000000000) (hm : m.length ≤ 1000000000) :
    Calls Tryz.prog 56 #[v1, v2, .func (.func 57) #[] #[]] w (GivesQ (l.map Tk3.bare = m.map Tk3.bare) w) := by
  obtain ⟨n1, hn1⟩ : ∃ n, l.length = n := ⟨_, rfl⟩
  obtain ⟨n2, hn2⟩ : ∃ n, m.length = n := ⟨_, rfl⟩
  have HEQ := Lib.hid (bare_words (l := l) (m := m))
  obtain ⟨a1, c1, rfl, k1, hc1⟩ := h1
  obtain ⟨a2, c2, rfl, k2, hc2⟩ := h2
  have H1 := Lib.hid hc1
  have H2 := Lib.hid hc2
  have HN1 := Lib.hid hn1
  have HN2 := Lib.hid hn2
  rw [hn1, hn2] at HEQ
  rw [hn1] at hl k1 ⊢
  rw [hn2] at hm k2 ⊢
  clear hc1 hc2 hn1 hn2
  by_cases hne : n1 = n2
  · subst hne
    go_enter Tryz.func56, Tryz.ntmps56
    go_wp2
    go_loopw [17] (fun v17 wr => ∃ i : Nat, i ≤ n1 ∧ v17 = .int .i64 (i : Int) ∧ Below w.heap.size w wr ∧ ∀ j, j < i → (l.getD j {}).bare = (m.getD j {}).bare) (fun v17 _ => n1 - (intOf v17).toNat)
    case atStart => exact ⟨0, Nat.zero_le _, rfl, Below.refl _ _, fun j hj => by omega⟩
    case round =>
      obtain ⟨i, hi, rfl, hb, hW⟩ := hrel
      have HB := Lib.hid hb
      have HW := Lib.hid hW
      clear hW
      by_cases hin : i < n1
      · obtain ⟨b1, o1, rfl, s1, e0, e1, e2, e3, e4⟩ := H1.out i (by rw [HN1.out]; exact hin)
        obtain ⟨b2, o2, rfl, s2, f0, f1, f2, f3, f4⟩ := H2.out i (by rw [HN2.out]; exact hin)
        have hlt1 := World.block_lt_of_cell? _ _ e0
        have hlt2 := World.block_lt_of_cell? _ _ f0
        have p0 := (hb.cell (p := ⟨b1, o1 + i * 5, none⟩) hlt1).trans e0
        have p1 := (hb.cell (p := ⟨b1, o1 + i * 5 + 1, none⟩) hlt1).trans e1
        have p2 := (hb.cell (p := ⟨b1, o1 + i * 5 + 2, none⟩) hlt1).trans e2
        have p3 := (hb.cell (p := ⟨b1, o1 + i * 5 + 3, none⟩) hlt1).trans e3
        have p4 := (hb.cell (p := ⟨b1, o1 + i * 5 + 4, none⟩) hlt1).trans e4
        have hlw := hb.size
        have hi1 : IntKind.i64.wrap ((i : Int) + 1) = ((i + 1 : Nat) : Int) := by rw [IntKind.wrap_i64]; omega
        obtain ⟨t1, ht1⟩ : ∃ t, l.getD i {} = t := ⟨_, rfl⟩
        obtain ⟨t2, ht2⟩ : ∃ t, m.getD i {} = t := ⟨_, rfl⟩
        have HT1 := Lib.hid ht1
        have HT2 := Lib.hid ht2
        rw [ht1] at p0 p1 p2 p3 p4
        rw [ht2] at f0 f1 f2 f3 f4
        obtain ⟨W2, W3, hW2, hW3, v2, v3, g3⟩ := fresh5 wr (.int .i64 t1.k) (.string t1.s) (.int .u64 t1.n) (.int .i64 t1.a) (.int .i64 t1.b)
        have hs3 := g3.size
        have r0 := (((hb.trans (g3.mono hlw)).cell (p := ⟨b2, o2 + i * 5, none⟩) hlt2)).trans f0
        have r1 := (((hb.trans (g3.mono hlw)).cell (p := ⟨b2, o2 + i * 5 + 1, none⟩) hlt2)).trans f1
        have r2 := (((hb.trans (g3.mono hlw)).cell (p := ⟨b2, o2 + i * 5 + 2, none⟩) hlt2)).trans f2
        have r3 := (((hb.trans (g3.mono hlw)).cell (p := ⟨b2, o2 + i * 5 + 3, none⟩) hlt2)).trans f3
        have r4 := (((hb.trans (g3.mono hlw)).cell (p := ⟨b2, o2 + i * 5 + 4, none⟩) hlt2)).trans f4
        obtain ⟨W4, W5, hW4, hW5, v4, v5, g5⟩ := fresh5 W3 (.int .i64 t2.k) (.string t2.s) (.int .u64 t2.n) (.int .i64 t2.a) (.int .i64 t2.b)
        have G5 := Lib.hid ((hb.trans (g3.mono hlw)).trans (g5.mono (by omega)))
        have v35 := v3.after g5
        have HSW := Lib.hid (lsameword_any t1 t2 W5)
        obtain ⟨q1, hq1⟩ : ∃ q, wr.heap.size = q := ⟨_, rfl⟩
        obtain ⟨q3, hq3⟩ : ∃ q, W3.heap.size = q := ⟨_, rfl⟩
        rw [hq1] at v2 hW3 v35
        rw [hq3] at v4 v5 hW5
        obtain ⟨y0, y1, y2, y3, y4, yq, ys⟩ := v2
        obtain ⟨t10, t11, t12, t13, t14, _, _⟩ := v35
        obtain ⟨x0, x1, x2, x3, x4, xq, xs⟩ := v4
        obtain ⟨t20, t21, t22, t23, t24, _, _⟩ := v5
        have z0 := yq 0
        have z1 := yq 1
        have z2 := yq 2
        have z3 := yq 3
        have z4 := yq 4
        have u0 := xq 0
        have u1 := xq 1
        have u2 := xq 2
        have u3 := xq 3
        have u4 := xq 4
        unfold put5 at hW3 hW5
        simp only [tkAgg] at HSW
        clear hb e0 e1 e2 e3 e4 f0 f1 f2 f3 f4 ht1 ht2 s1 s2 hlt1 hlt2 g3 g5 v3 yq ys xq xs hs3 hlw
        by_cases heq : t1.bare = t2.bare
        · have HE := Lib.hid heq
          clear heq
          go_wp2_with (go_at_call 57; (with_reducible refine (HSW.out).mono ?_); rintro e w6 ⟨q, rfl, hq, h6⟩; obtain rfl : q = true := hq.mpr HE.out; have G6 := Lib.hid (below_step G5.out h6); clear hq h6)
          go_roundw
          case rel => exact ⟨i + 1, by omega, by go_num, G6.out, fun j hj => by
            rcases Nat.lt_or_ge j i with hx | hx
            · exact HW.out j hx
            · obtain rfl : j = i := by omega
              rw [HT1.out, HT2.out]; exact HE.out⟩
          case measure => simp [intOf]; omega
        · have HE := Lib.hid heq
          have HIN := Lib.hid hin
          clear heq
          go_wp2_with (go_at_call 57; (with_reducible refine (HSW.out).mono ?_); rintro e w6 ⟨q, rfl, hq, h6⟩; obtain rfl : q = false := (by cases q with | false => rfl | true => exact (HE.out (hq.mp rfl)).elim); have G6 := Lib.hid (below_step G5.out h6); clear hq h6)
          go_ret
          exact GivesQ.no (fun h => HE.out (by have := (HEQ.out.mp h).2 i HIN.out; rwa [HT1.out, HT2.out] at this)) G6.out
      · have en : n1 = i := by omega
        subst en
        clear hb
        go_wp2
        go_ret
        exact GivesQ.yes (HEQ.out.mpr ⟨(by trivial), HW.out⟩) HB.out
  · have HNE := Lib.hid hne
    have hne2 : ((n1 : Int) == (n2 : Int)) = false := by simp; omega
    clear hne
    go_enter Tryz.func56, Tryz.ntmps56
    go_wp2
    go_ret
    exact GivesQ.no (fun h => HNE.out (HEQ.out.mp h).1) (Below.refl _ _)

end Go.Proofs.YtmgimkokmlcllaaGreatDoor

/-
  Package layout's Same, of trees: walked.
-/
namespace Go.Proofs.YtmgimkokmlcllaaGreatDoor
open Go.RowKit

set_option maxRecDepth 100000 in
set_option maxHeartbeats 8000000 in
theorem lsameitem_any (S T : Nat → Prop) (n1 n2 : ByteArray) (w1 w2 : List Tk3) (bk1 bk2 : Bool) (kd1 kd2 : List It) (a1 b1 a2 b2 : Int) (wv1 wv2 kv1 kv2 : Value) (w : World) (hw1 : WordsIs w S wv1 w1) (hw2 : WordsIs w T wv2 w2)
    (hl1 : w1.length ≤ 1000000000) (hl2 : w2.length ≤ 1000000000) (hS : ∀ W, Below w.heap.size w W → Calls Tryz.prog 13 #[kv1, kv2] W (GivesQ (bareL kd1 = bareL kd2) W)) :
    Calls Tryz.prog 33 #[.agg #[.string n1, wv1, .bool bk1, kv1, .int .i64 a1, .int .i64 b1], .agg #[.string n2, wv2, .bool bk2, kv2, .int .i64 a2, .int .i64 b2]] w (GivesQ (ItemE (.mk n1 w1 bk1 kd1 a1 b1) (.mk n2 w2 bk2 kd2 a2 b2)) w) := by
  obtain ⟨W0, hW0⟩ : ∃ W, w.alloc (.cells #[.string n1, wv1, .bool bk1, kv1, .int .i64 a1, .int .i64 b1] 51) = W := ⟨_, rfl⟩
  obtain ⟨W1, hW1⟩ : ∃ W, W0.alloc (.cells #[.string n2, wv2, .bool bk2, kv2, .int .i64 a2, .int .i64 b2] 51) = W := ⟨_, rfl⟩
  have hs0 : W0.heap.size = w.heap.size + 1 := by rw [← hW0]; simp
  have V1 : Var6 W1 (w.heap.size + 1) (.string n2) wv2 (.bool bk2) kv2 (.int .i64 a2) (.int .i64 b2) := by rw [← hW1]; exact Var6.fresh _ _ _ _ _ _ _ _ _ hs0.symm
  have V0 : Var6 W1 w.heap.size (.string n1) wv1 (.bool bk1) kv1 (.int .i64 a1) (.int .i64 b1) := by
    have h : Var6 W0 w.heap.size (.string n1) wv1 (.bool bk1) kv1 (.int .i64 a1) (.int .i64 b1) := by rw [← hW0]; exact Var6.fresh _ _ _ _ _ _ _ _ _ rfl
    rw [← hW1]; exact h.after ((Below.refl _ _).alloc (Nat.le_refl _) _)
  have hG : Below w.heap.size w W1 := by rw [← hW1, ← hW0]; exact below_more (below_more (Below.refl _ _) _) _
  have HG := Lib.hid hG
  have HV0 := Lib.hid V0
  have HV1 := Lib.hid V1
  have HEW : Hid (Calls Tryz.prog 56 #[wv1, wv2, .func (.func 57) #[] #[]] W1 (GivesQ (w1.map Tk3.bare = w2.map Tk3.bare) W1)) := Lib.hid (leqwords_any S T wv1 wv2 w1 w2 W1 (hw1.below hG) (hw2.below hG) hl1 hl2)
  have HSM := Lib.hid hS
  have hIE : ItemE (.mk n1 w1 bk1 kd1 a1 b1) (.mk n2 w2 bk2 kd2 a2 b2) ↔ n1 = n2 ∧ bk1 = bk2 ∧ w1.map Tk3.bare = w2.map Tk3.bare ∧ bareL kd1 = bareL kd2 := Iff.rfl
  have HIE := Lib.hid hIE
  obtain ⟨wa1, wc1, rfl⟩ := hw1.size
  obtain ⟨wa2, wc2, rfl⟩ := hw2.size
  obtain ⟨c0, c1, c2, c3, _, _, _, _⟩ := V0
  obtain ⟨d0, d1, d2, d3, _, _, _, _⟩ := V1
  obtain ⟨l1, hll1⟩ : ∃ n, w1.length = n := ⟨_, rfl⟩
  obtain ⟨l2, hll2⟩ : ∃ n, w2.length = n := ⟨_, rfl⟩
  rw [hll1] at c1 hl1 hW0 HEW HV0
  rw [hll2] at d1 hl2 hW1 HEW HV1
  rw [hll1, hll2]
  clear hIE hG hw1 hw2 hS hll1 hll2
  by_cases hn : n1 = n2
  · subst hn
    by_cases hb : bk1 = bk2
    · subst hb
      by_cases hw : w1.map Tk3.bare = w2.map Tk3.bare
      · have HW := Lib.hid hw
        clear hw
        go_enter Tryz.func33, Tryz.ntmps33
        go_wp2_with (first
          | (go_at_call 56; (with_reducible refine (HEW.out).mono ?_); rintro e w5 ⟨q, rfl, hq, h5⟩; obtain rfl : q = true := hq.mpr HW.out; have G5 := Lib.hid (below_step HG.out h5); have X0 := HV0.out.after h5; have X1 := HV1.out.after h5; have x3 := X0.c3; have y3 := X1.c3; clear hq h5 X0 X1)
          | (go_at_call 13; (with_reducible refine (HSM.out _ G5.out).mono ?_); rintro e w6 ⟨q, rfl, hq, h6⟩; have G6 := Lib.hid (below_step G5.out h6); have HQ := Lib.hid hq; clear hq h6))
        go_ret
        exact ⟨q, rfl, ⟨fun e => HIE.out.mpr ⟨(by trivial), (by trivial), HW.out, HQ.out.mp e⟩, fun e => HQ.out.mpr (HIE.out.mp e).2.2.2⟩, G6.out⟩
      · have HW := Lib.hid hw
        clear hw
        go_enter Tryz.func33, Tryz.ntmps33
        go_wp2_with (go_at_call 56; (with_reducible refine (HEW.out).mono ?_); rintro e w5 ⟨q, rfl, hq, h5⟩; obtain rfl : q = false := (by cases q with | false => rfl | true => exact (HW.out (hq.mp rfl)).elim); have G5 := Lib.hid (below_step HG.out h5); clear hq h5)
        go_ret
        exact GivesQ.no (fun e => HW.out (HIE.out.mp e).2.2.1) G5.out
    · have HN : Hid (¬ ItemE (.mk n1 w1 bk1 kd1 a1 b1) (.mk n1 w2 bk2 kd2 a2 b2)) := Lib.hid (fun e => hb (HIE.out.mp e).2.1)
      rcases bk1 with _ | _ <;> rcases bk2 with _ | _
      · exact (hb rfl).elim
      · go_enter Tryz.func33, Tryz.ntmps33
        go_wp2
        go_ret
        exact GivesQ.no HN.out HG.out
      · go_enter Tryz.func33, Tryz.ntmps33
        go_wp2
        go_ret
        exact GivesQ.no HN.out HG.out
      · exact (hb rfl).elim
  · have HN : Hid (¬ ItemE (.mk n1 w1 bk1 kd1 a1 b1) (.mk n2 w2 bk2 kd2 a2 b2)) := Lib.hid (fun e => hn (HIE.out.mp e).1)
    have hn1 : ¬ n1.toList = n2.toList := fun e => hn (toList_inj e)
    have hn2 : (n1.toList == n2.toList) = false := by simpa using hn1
    clear hn
    go_enter Tryz.func33, Tryz.ntmps33
    go_wp2
    go_ret
    exact GivesQ.no HN.out HG.out

theorem ItemsIs.belowS {d : Nat} {w w' : World} {S : Nat → Prop} {v : Value} {L : List It} (h : ItemsIs d w S v L) (hS : ∀ b, S b → b < w.heap.size) (hb : Below w.heap.size w w') : ItemsIs d w' S v L := h.keep (fun _ h => h) (fun b hx => hb.block b (hS b hx))
def SameAt (D : Nat) : Prop := ∀ (S T : Nat → Prop) (D2 : Nat) (v1 v2 : Value) (L M : List It) (W : World), ItemsIs D W S v1 L → ItemsIs D2 W T v2 M → (∀ b, S b → b < W.heap.size) → (∀ b, T b → b < W.heap.size) → cntL L ≤ 1000000 → cntL M ≤ 1000000 → AllW L → AllW M →
  Calls Tryz.prog 13 #[v1, v2] W (GivesQ (bareL L = bareL M) W)
set_option maxRecDepth 100000 in
set_option maxHeartbeats 8000000 in
theorem leqitems_any (D : Nat) (hIH : ∀ d, D = d + 1 → SameAt d) (S T : Nat → Prop) (D2 : Nat) (v1 v2 : Value) (L M : List It) (w : World) (h1 : ItemsIs D w S v1 L) (h2 : ItemsIs D2 w T v2 M) (hS : ∀ b, S b → b < w.heap.size) (hT : ∀ b, T b → b < w.heap.size) (hcl : cntL L ≤ 1000000) (hcm : cntL M ≤ 1000000) (hwl : AllW L) (hwm : AllW M) :
    Calls Tryz.prog 32 #[v1, v2, .func (.func 33) #[] #[]] w (GivesQ (bareL L = bareL M) w) := by
  obtain ⟨n1, hn1⟩ : ∃ n, L.length = n := ⟨_, rfl⟩
  obtain ⟨n2, hn2⟩ : ∃ n, M.length = n := ⟨_, rfl⟩
  have HEQ := Lib.hid (bare_items (L := L) (M := M))
  obtain ⟨a1, c1, rfl⟩ := h1.size
  obtain ⟨a2, c2, rfl⟩ := h2.size
  have H1 := Lib.hid h1
  have H2 := Lib.hid h2
  have HN1 := Lib.hid hn1
  have HN2 := Lib.hid hn2
  have HIH := Lib.hid hIH
  have HS := Lib.hid hS
  have HT := Lib.hid hT
  have HCL := Lib.hid hcl
  have HCM := Lib.hid hcm
  have HWL := Lib.hid hwl
  have HWM := Lib.hid hwm
  have hl1 : n1 ≤ 1000000 := by have := len_cnt L; omega
  have hl2 : n2 ≤ 1000000 := by have := len_cnt M; omega
  rw [hn1, hn2] at HEQ
  rw [hn1, hn2]
  clear h1 h2 hn1 hn2 hIH hS hT hcl hcm hwl hwm
  by_cases hne : n1 = n2
  · subst hne
    go_enter Tryz.func32, Tryz.ntmps32
    go_wp2
    go_loopw [17] (fun v17 wr => ∃ i : Nat, i ≤ n1 ∧ v17 = .int .i64 (i : Int) ∧ Below w.heap.size w wr ∧ ∀ j, j < i → ItemE (L.getD j default) (M.getD j default)) (fun v17 _ => n1 - (intOf v17).toNat)
    case atStart => exact ⟨0, Nat.zero_le _, rfl, Below.refl _ _, fun j hj => by omega⟩
    case round =>
      obtain ⟨i, hi, rfl, hb, hW⟩ := hrel
      have HB := Lib.hid hb
      have HW := Lib.hid hW
      clear hW
      by_cases hin : i < n1
      · obtain ⟨d, hd, b1, o1, wv1, kv1, rfl, s1, e0, e1, e2, e3, e4, e5, w1, k1⟩ := H1.out.at i (by rw [HN1.out]; exact hin)
        obtain ⟨d2, hd2, b2, o2, wv2, kv2, rfl, s2, f0, f1, f2, f3, f4, f5, w2, k2⟩ := H2.out.at i (by rw [HN2.out]; exact hin)
        have hlt1 := HS.out b1 s1
        have hlt2 := HT.out b2 s2
        have p0 := (hb.cell (p := ⟨b1, o1 + i * 6, none⟩) hlt1).trans e0
        have p1 := (hb.cell (p := ⟨b1, o1 + i * 6 + 1, none⟩) hlt1).trans e1
        have p2 := (hb.cell (p := ⟨b1, o1 + i * 6 + 2, none⟩) hlt1).trans e2
        have p3 := (hb.cell (p := ⟨b1, o1 + i * 6 + 3, none⟩) hlt1).trans e3
        have p4 := (hb.cell (p := ⟨b1, o1 + i * 6 + 4, none⟩) hlt1).trans e4
        have p5 := (hb.cell (p := ⟨b1, o1 + i * 6 + 5, none⟩) hlt1).trans e5
        have hlw := hb.size
        have hck1 := cntK_mono L (i := i + 1) (j := n1) (by omega)
        rw [← HN1.out, cntK_all, cntK] at hck1
        have hck2 := cntK_mono M (i := i + 1) (j := n1) (by omega)
        rw [← HN2.out, cntK_all, cntK] at hck2
        have hcl := HCL.out
        have hcm := HCM.out
        have hwi1 := HWL.out.at i (by rw [HN1.out]; exact hin)
        have hwi2 := HWM.out.at i (by rw [HN2.out]; exact hin)
        have hi1 : IntKind.i64.wrap ((i : Int) + 1) = ((i + 1 : Nat) : Int) := by rw [IntKind.wrap_i64]; omega
        have hSA := HIH.out d hd
        have HKS : Hid (∀ W, Below w.heap.size w W → Calls Tryz.prog 13 #[kv1, kv2] W (GivesQ (bareL (L.getD i default).kids = bareL (M.getD i default).kids) W)) := Lib.hid (fun W hbW =>
          hSA S T d2 kv1 kv2 _ _ W (k1.belowS HS.out hbW) (k2.belowS HT.out hbW) (fun b h => Nat.lt_of_lt_of_le (HS.out b h) hbW.size) (fun b h => Nat.lt_of_lt_of_le (HT.out b h) hbW.size) (by omega) (by omega) hwi1.2 hwi2.2)
        obtain ⟨X1, ht1⟩ : ∃ t, L.getD i default = t := ⟨_, rfl⟩
        obtain ⟨X2, ht2⟩ : ∃ t, M.getD i default = t := ⟨_, rfl⟩
        have HT1 := Lib.hid ht1
        have HT2 := Lib.hid ht2
        rw [ht1] at p0 p2 p4 p5 w1 hwi1 HKS
        rw [ht2] at f0 f2 f4 f5 w2 hwi2 HKS
        obtain ⟨nm1, wd1, bk1, kd1, pa1, pb1⟩ := X1
        obtain ⟨nm2, wd2, bk2, kd2, pa2, pb2⟩ := X2
        simp only [It.name, It.block, It.a, It.b, It.kids, It.words] at p0 p2 p4 p5 w1 hwi1 f0 f2 f4 f5 w2 hwi2 HKS
        obtain ⟨wa1, l1, wc1, hwv1⟩ : ∃ a l c, wv1 = Value.slice a l c := by obtain ⟨a, c, h⟩ := w1.size; exact ⟨_, _, _, h⟩
        obtain ⟨wa2, l2, wc2, hwv2⟩ : ∃ a l c, wv2 = Value.slice a l c := by obtain ⟨a, c, h⟩ := w2.size; exact ⟨_, _, _, h⟩
        obtain ⟨ka1, l3, kc1, hkv1⟩ : ∃ a l c, kv1 = Value.slice a l c := by obtain ⟨a, c, h⟩ := k1.size; exact ⟨_, _, _, h⟩
        obtain ⟨ka2, l4, kc2, hkv2⟩ : ∃ a l c, kv2 = Value.slice a l c := by obtain ⟨a, c, h⟩ := k2.size; exact ⟨_, _, _, h⟩
        obtain ⟨W2, W3, hW2, hW3, v2, v3, g3⟩ := fresh6 wr (.string nm1) wv1 (.bool bk1) kv1 (.int .i64 pa1) (.int .i64 pb1)
        have hs3 := g3.size
        have b3 := hb.trans (g3.mono hlw)
        have r0 := (b3.cell (p := ⟨b2, o2 + i * 6, none⟩) hlt2).trans f0
        have r1 := (b3.cell (p := ⟨b2, o2 + i * 6 + 1, none⟩) hlt2).trans f1
        have r2 := (b3.cell (p := ⟨b2, o2 + i * 6 + 2, none⟩) hlt2).trans f2
        have r3 := (b3.cell (p := ⟨b2, o2 + i * 6 + 3, none⟩) hlt2).trans f3
        have r4 := (b3.cell (p := ⟨b2, o2 + i * 6 + 4, none⟩) hlt2).trans f4
        have r5 := (b3.cell (p := ⟨b2, o2 + i * 6 + 5, none⟩) hlt2).trans f5
        obtain ⟨W4, W5, hW4, hW5, v4, v5, g5⟩ := fresh6 W3 (.string nm2) wv2 (.bool bk2) kv2 (.int .i64 pa2) (.int .i64 pb2)
        have b5 := b3.trans (g5.mono (by omega))
        have G5 := Lib.hid b5
        have v35 := v3.after g5
        have HSW := Lib.hid (lsameitem_any S T nm1 nm2 wd1 wd2 bk1 bk2 kd1 kd2 pa1 pb1 pa2 pb2 wv1 wv2 kv1 kv2 W5 (w1.below b5) (w2.below b5) hwi1.1 hwi2.1 (fun W hbW => HKS.out W (below_step b5 hbW)))
        subst hwv1 hwv2 hkv1 hkv2
        obtain ⟨q1, hq1⟩ : ∃ q, wr.heap.size = q := ⟨_, rfl⟩
        obtain ⟨q3, hq3⟩ : ∃ q, W3.heap.size = q := ⟨_, rfl⟩
        rw [hq1] at v2 hW3 v35
        rw [hq3] at v4 v5 hW5
        obtain ⟨y0, y1, y2, y3, y4, y5, yq, ys⟩ := v2
        obtain ⟨t10, t11, t12, t13, t14, t15, _, _⟩ := v35
        obtain ⟨x0, x1, x2, x3, x4, x5, xq, xs⟩ := v4
        obtain ⟨t20, t21, t22, t23, t24, t25, _, _⟩ := v5
        have z0 := yq 0
        have z1 := yq 1
        have z2 := yq 2
        have z3 := yq 3
        have z4 := yq 4
        have z5 := yq 5
        have u0 := xq 0
        have u1 := xq 1
        have u2 := xq 2
        have u3 := xq 3
        have u4 := xq 4
        have u5 := xq 5
        unfold put6 at hW3 hW5
        clear hb e0 e1 e2 e3 e4 e5 f0 f1 f2 f3 f4 f5 ht1 ht2 s1 s2 hlt1 hlt2 g3 g5 v3 yq ys xq xs hs3 hlw hck1 hck2 hcl hcm hwi1 hwi2 hSA w1 w2 k1 k2 b3 b5 hd hd2
        by_cases heq : ItemE (.mk nm1 wd1 bk1 kd1 pa1 pb1) (.mk nm2 wd2 bk2 kd2 pa2 pb2)
        · have HE := Lib.hid heq
          clear heq
          go_wp2_with (go_at_call 33; (with_reducible refine (HSW.out).mono ?_); rintro e w6 ⟨q, rfl, hq, h6⟩; obtain rfl : q = true := hq.mpr HE.out; have G6 := Lib.hid (below_step G5.out h6); clear hq h6)
          go_roundw
          case rel => exact ⟨i + 1, by omega, by go_num, G6.out, fun j hj => by
            rcases Nat.lt_or_ge j i with hx | hx
            · exact HW.out j hx
            · obtain rfl : j = i := by omega
              rw [HT1.out, HT2.out]; exact HE.out⟩
          case measure => simp [intOf]; omega
        · have HE := Lib.hid heq
          have HIN := Lib.hid hin
          clear heq
          go_wp2_with (go_at_call 33; (with_reducible refine (HSW.out).mono ?_); rintro e w6 ⟨q, rfl, hq, h6⟩; obtain rfl : q = false := (by cases q with | false => rfl | true => exact (HE.out (hq.mp rfl)).elim); have G6 := Lib.hid (below_step G5.out h6); clear hq h6)
          go_ret
          exact GivesQ.no (fun h => HE.out (by have := (HEQ.out.mp h).2 i HIN.out; rwa [HT1.out, HT2.out] at this)) G6.out
      · have en : n1 = i := by omega
        subst en
        clear hb
        go_wp2
        go_ret
        exact GivesQ.yes (HEQ.out.mpr ⟨(by trivial), HW.out⟩) HB.out
  · have HNE := Lib.hid hne
    have hne2 : ((n1 : Int) == (n2 : Int)) = false := by simp; omega
    clear hne
    go_enter Tryz.func32, Tryz.ntmps32
    go_wp2
    go_ret
    exact GivesQ.no (fun h => HNE.out (HEQ.out.mp h).1) (Below.refl _ _)

set_option maxRecDepth 100000 in
set_option maxHeartbeats 4000000 in
theorem lsame_any : ∀ D, SameAt D := by
  intro D
  induction D with
  | zero =>
    intro S T D2 v1 v2 L M W h1 h2 hS hT hcl hcm hwl hwm
    have HE := Lib.hid (leqitems_any 0 (fun d e => by omega) S T D2 v1 v2 L M W h1 h2 hS hT hcl hcm hwl hwm)
    obtain ⟨a1, c1, rfl⟩ := h1.size
    obtain ⟨a2, c2, rfl⟩ := h2.size
    obtain ⟨n1, hn1⟩ : ∃ n, L.length = n := ⟨_, rfl⟩
    obtain ⟨n2, hn2⟩ : ∃ n, M.length = n := ⟨_, rfl⟩
    rw [hn1, hn2] at HE ⊢
    clear h1 h2 hS hT hwl hwm hn1 hn2
    go_enter Tryz.func13, Tryz.ntmps13
    go_wp2_with (go_at_call 32; (with_reducible refine (HE.out).mono ?_); rintro e w6 ⟨q, rfl, hq, h6⟩; have HQ := Lib.hid hq; have G6 := Lib.hid h6; clear hq h6)
    go_ret
    exact ⟨q, rfl, HQ.out, G6.out⟩
  | succ D ih =>
    intro S T D2 v1 v2 L M W h1 h2 hS hT hcl hcm hwl hwm
    have HE := Lib.hid (leqitems_any (D + 1) (fun d e => Nat.succ.inj e ▸ ih) S T D2 v1 v2 L M W h1 h2 hS hT hcl hcm hwl hwm)
    obtain ⟨a1, c1, rfl⟩ := h1.size
    obtain ⟨a2, c2, rfl⟩ := h2.size
    obtain ⟨n1, hn1⟩ : ∃ n, L.length = n := ⟨_, rfl⟩
    obtain ⟨n2, hn2⟩ : ∃ n, M.length = n := ⟨_, rfl⟩
    rw [hn1, hn2] at HE ⊢
    clear h1 h2 hS hT hwl hwm hn1 hn2 ih
    go_enter Tryz.func13, Tryz.ntmps13
    go_wp2_with (go_at_call 32; (with_reducible refine (HE.out).mono ?_); rintro e w6 ⟨q, rfl, hq, h6⟩; have HQ := Lib.hid hq; have G6 := Lib.hid h6; clear hq h6)
    go_ret
    exact ⟨q, rfl, HQ.out, G6.out⟩

end Go.Proofs.YtmgimkokmlcllaaGreatDoor
