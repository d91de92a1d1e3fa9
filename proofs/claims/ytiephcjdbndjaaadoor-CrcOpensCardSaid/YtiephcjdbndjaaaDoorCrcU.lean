/-
  Lists of bytes in slices: what they are; the document's own All and Same of layer 8, walked.
-/
import Derived.Test.YtiephcjdbndjaaaDoorCrcT
import Derived.Test.YtiephcjdbndjaaaDoorLists
namespace Go.Proofs.YtiephcjdbndjaaaDoor
open Go.RowKit

/-- What is left of bytes behind some. -/
theorem slice_from {w : World} {v : Value} {B : List Int} (h : ArgB w v B) (k : Nat) (hk : k ≤ B.length) :
    ∃ sv, (∀ W, (Instr.slice 22 v (some (.int .i64 (k : Int))) none none).run Tryd.prog W = .ok sv W) ∧ ArgB w sv (B.drop k) := by
  have hs : ∀ W : World, (sizeOf (Tryd.prog.elem 22)).run Tryd.prog W = .ok 1 W := fun W => by kernel_rfl
  have run : ∀ (a : Option Addr) (cap : Nat), (∀ W, (Instr.slice 22 (.slice a B.length cap) (some (.int .i64 (k : Int))) none none).run Tryd.prog W = .ok (sliced a k B.length cap 1) W) := fun a cap W => by
    have := run_slice_l (P := Tryd.prog) W 22 a B.length cap (by kernel_rfl) .i64 (k : Int) (by omega) (by omega)
    rw [this, hs]
    simp only [Result.andThen, Int.toNat_natCast]
  rcases h with ⟨rfl, rfl⟩ | ⟨x, cap, rfl, hc, hcell⟩
  · obtain rfl : k = 0 := by simpa using hk
    exact ⟨_, run none 0, Or.inl ⟨rfl, by simp⟩⟩
  · refine ⟨_, run (some x) cap, ?_⟩
    have hl : (B.drop k).length = B.length - k := List.length_drop ..
    unfold sliced
    by_cases hkc : cap = k
    · rw [if_pos hkc]
      refine Or.inr ⟨x, cap - k, by rw [hl], by omega, fun i hi => ?_⟩
      rw [hl] at hi
      omega
    · rw [if_neg hkc]
      refine Or.inr ⟨x.add (k * 1), cap - k, by rw [hl]; rfl, by omega, fun i hi => ?_⟩
      rw [hl] at hi
      obtain ⟨b, off, rfl, hcell2⟩ := arg_addr hcell (by omega)
      have e : (B.drop k).getD i 0 = B.getD (k + i) 0 := by rw [List.getD_eq_getElem?_getD, List.getElem?_drop, List.getD_eq_getElem?_getD]
      have e2 : ((⟨b, off, none⟩ : Addr).add (k * 1)).add i = ⟨b, off + (k + i), none⟩ := by
        have e3 : ∀ o j : Nat, (⟨b, o, none⟩ : Addr).add j = ⟨b, o + j, none⟩ := fun o j => by unfold Addr.add; split <;> simp_all
        rw [e3, e3, Nat.mul_one, Nat.add_assoc]
      rw [e, e2]
      exact hcell2 (k + i) (by omega)

/-- One of the call's own, the bytes in it of an elder world. -/
def OwnLL (w0 w : World) (base : Nat) (v : Value) (L : List (List Int)) : Prop :=
  v ≠ .slice none 0 0 ∧ ∃ vs : List Value, w.ownsRow base 22 1 v L.length vs ∧ vs.length = L.length ∧ (∀ u ∈ vs, u.oneCell' = true) ∧ ∀ i, i < L.length → ArgB w0 (vs.getD i undef) (L.getD i [])
theorem OwnLL.form {w0 w : World} {base : Nat} {v : Value} {L : List (List Int)} (h : OwnLL w0 w base v L) : ∃ g cap, v = .slice (some ⟨g, 0, none⟩) L.length cap := by
  obtain ⟨hn, vs, ho, _⟩ := h
  rcases ho.2 with ⟨e, _⟩ | ⟨g, cap, _, e, _⟩
  · exact (hn e).elim
  · exact ⟨g, cap, e⟩
theorem OwnLL.argLL {w0 w : World} {base : Nat} {v : Value} {L : List (List Int)} (h : OwnLL w0 w base v L) (hb : Below w0.heap.size w0 w) : ArgLL w v L := by
  obtain ⟨hn, vs, ho, hl, _, ha⟩ := h
  have hcs := @World.ownsRow.cells _ _ _ _ _ _ _ ho
  rcases ho.2 with ⟨e, _⟩ | ⟨g, cap, cur, rfl, h1, h2, h3, _⟩
  · exact (hn e).elim
  · refine Or.inr ⟨⟨g, 0, none⟩, cap, fun i => vs.getD i undef, rfl, h3, fun i hi => ⟨?_, (ha i hi).below hb⟩⟩
    refine hcs (g := g) rfl i _ ?_
    show vs[i]? = some (vs.getD i undef)
    rw [List.getD_eq_getElem?_getD, List.getElem?_eq_getElem (by omega)]; rfl
theorem OwnLL.fresh (w0 w : World) (base g : Nat) (hg : g = w.heap.size) (h : base ≤ g) : OwnLL w0 (w.alloc (.cells #[] 22)) base (.slice (some ⟨g, 0, none⟩) 0 0) [] := by
  subst hg
  exact ⟨by simp, [], World.ownsRow_made w #[] 0 h (Nat.zero_le _) rfl, rfl, (by intro u hu; cases hu), (by intro i hi; cases hi)⟩
theorem OwnLL.below {w0 w w' : World} {base : Nat} {v : Value} {L : List (List Int)} (h : OwnLL w0 w base v L) (hb : Below w.heap.size w w') : OwnLL w0 w' base v L := by
  obtain ⟨hn, vs, ⟨h1, h2⟩, hl, hu, ha⟩ := h
  refine ⟨hn, vs, ⟨h1, ?_⟩, hl, hu, ha⟩
  rcases h2 with hx | ⟨g, cap, cur, rfl, hbg, hg, rest⟩
  · exact Or.inl hx
  · exact Or.inr ⟨g, cap, cur, rfl, hbg, (hb.block _ (Array.getElem?_eq_some_iff.1 hg).1).trans hg, rest⟩
theorem ArgB.oneCell {w : World} {v : Value} {l : List Int} (h : ArgB w v l) : v.oneCell' = true := by
  rcases h with ⟨rfl, _⟩ | ⟨x, cap, rfl, _⟩ <;> rfl
/-- The operation, for a walk: one more slice of bytes, which stands in a new row of one. -/
theorem wp_more {w0 w : World} {ops : Array Oper} {rest : List Oper} {o : Oper} {a : Act} {Q : Exit → Act → World → Prop} (hgd : o.guard = none) (s x : Operand)
    (ho : o.op = .call { callee := .builtin .append, args := #[s, x], argTypes := #[36, 36] })
    (base : Nat) (v : Value) (L : List (List Int)) (hs : a.eval s = v) (hown : OwnLL w0 w base v L) (g : Nat) (yv : Value) (y : List Int) (hx : a.eval x = .slice (some ⟨g, 0, none⟩) 1 1) (hcell : w.cell? ⟨g, 0, none⟩ = some yv) (hy : ArgB w0 yv y)
    (hlen : L.length ≤ 100000000) (hbase : base ≤ w.heap.size)
    (h : ∀ v' w', OwnLL w0 w' base v' (L ++ [y]) → Below base w w' → base ≤ w'.heap.size → wpList Tryd.prog ops Q rest (a.put o.dst v') w') : wpList Tryd.prog ops Q (o :: rest) a w := by
  obtain ⟨i0, hi, hz0, hz1, hz2⟩ := info_parts info_slice
  obtain ⟨hn, vs, hO, hl, hu, ha⟩ := hown
  refine wpList_append_own w hgd s x 36 ho base 22 i0 (.slice none 0 0) 1 24 Tryd.underlying36 hi hz0 hz1 hz2 rfl (by decide) v L.length vs hs hO ⟨g, 0, none⟩ 1 1 [yv] hx rfl ?_ ?_ ?_ ?_ hbase ?_
  · intro j u hj
    match j, hj with
    | 0, hj => simp at hj; subst hj; simpa [Addr.add] using hcell
    | j + 1, hj => simp at hj
  · intro u hm
    obtain rfl : u = yv := by simpa using hm
    exact hy.oneCell
  · unfold maxLen; omega
  · omega
  · intro v' w' hown' hgrow hiff
    have hlt := hO.lt
    refine h v' w' ⟨fun e => hn (hiff.mp e).1, vs ++ [yv], ?_, by simp [hl], ?_, ?_⟩ ((Below.refl base w).grown hgrow hbase (fun b hk => (hlt _ hk).1)) ?_
    · rw [List.length_append]; exact hown'
    · intro u hm
      rcases List.mem_append.mp hm with hm | hm
      · exact hu u hm
      · obtain rfl : u = yv := by simpa using hm
        exact hy.oneCell
    · intro i hi
      rw [List.length_append] at hi
      by_cases hlast : i < L.length
      · rw [List.getD_eq_getElem?_getD, List.getElem?_append_left (by omega), List.getD_eq_getElem?_getD, List.getElem?_append_left hlast, ← List.getD_eq_getElem?_getD, ← List.getD_eq_getElem?_getD]
        exact ha i hlast
      · have e : i = L.length := by simp at hi; omega
        subst e
        rw [List.getD_eq_getElem?_getD, List.getElem?_append_right (by omega), List.getD_eq_getElem?_getD, List.getElem?_append_right (by omega), hl, Nat.sub_self]
        exact hy
    · have := hgrow.size; omega

/-- What All comes to. -/
def GivesA (B : List Int) (w : World) (e : Ending) (w' : World) : Prop :=
  ∃ v, e = .returned (.tuple #[v, .int .i64 ((allL B).2 : Int)]) ∧ ArgLL w' v (allL B).1 ∧ Below w.heap.size w w'

set_option maxRecDepth 100000 in
set_option maxHeartbeats 4000000 in
theorem rcall_any (v : Value) (B : List Int) (w : World) (hv : ArgB w v B) (hb : ∀ z ∈ B, 0 ≤ z ∧ z ≤ 255) (hl : B.length ≤ 1000000) :
    Calls Tryd.prog 16 #[v] w (GivesA B w) := by
  obtain ⟨a, cap, rfl⟩ := hv.size
  have HV := Lib.hid hv
  have HBy := Lib.hid hb
  clear hv hb
  obtain ⟨base, hB⟩ : ∃ b, w.heap.size = b := ⟨_, rfl⟩
  have HBd := Lib.hid hB
  go_enter Tryd.func16, Tryd.ntmps16
  go_wp2
  go_loopw [4, 5] (fun v4 v5 wr => ∃ (L : List (List Int)) (k : Nat), v5 = .int .i64 (k : Int) ∧ k ≤ B.length ∧ L.length ≤ k ∧ allL B = (L ++ (allL (B.drop k)).1, k + (allL (B.drop k)).2) ∧ OwnLL w wr base v4 L ∧ Below base w wr ∧ base ≤ wr.heap.size) (fun _ v5 _ => B.length - (intOf v5).toNat)
  case atStart => exact ⟨[], 0, rfl, Nat.zero_le _, Nat.zero_le _, by simp, OwnLL.fresh w w base _ hB.symm (by omega), (Below.refl _ _).alloc (by omega) _, by simp; omega⟩
  case round =>
    obtain ⟨L, k, rfl, hk, hLk, hall, hO, hBel, hs⟩ := hrel
    obtain ⟨g, c, rfl⟩ := hO.form
    have HO := Lib.hid hO
    have HB := Lib.hid hBel
    have HS := Lib.hid hs
    have HAll := Lib.hid hall
    clear hO hBel hs hall
    obtain ⟨sv, hsv, hA0⟩ := slice_from HV.out k hk
    have hA := hA0
    have hl2 : (B.drop k).length = B.length - k := List.length_drop ..
    have HA := Lib.hid (hA.below (HBd.out ▸ HB.out))
    have HAb : Hid (∀ z ∈ B.drop k, 0 ≤ z ∧ z ≤ 255) := fun z hz => HBy.out z (List.mem_of_mem_drop hz)
    have HAl : Hid ((B.drop k).length ≤ 1000000) := (by omega : (B.drop k).length ≤ 1000000)
    have HR := Lib.hid (rcopen_any sv (B.drop k) wr HA.out HAb.out HAl.out)
    clear hA hl2
    have HAw := Lib.hid hA0
    clear hA0
    go_wp2_with (first
      | (go_at_call 14; (with_reducible refine HR.out.mono ?_); rintro e w1 ⟨b1, ⟨n1, rfl⟩ | ⟨x, xv, n1, rfl, a1⟩⟩ <;> (have B1 := Lib.hid b1; have N1 := Lib.hid n1; clear b1 n1; try (have HX := Lib.hid (a1 w HAw.out); obtain ⟨ax, cx, rfl⟩ := HX.out.size; have O1 := Lib.hid ((HO.out.below B1.out).below ((Below.refl w1.heap.size w1).alloc (Nat.le_refl _) (.cells #[.slice ax x.length cx] 22))); have S1 := Lib.hid (show base ≤ (w1.alloc (.cells #[.slice ax x.length cx] 22)).heap.size by have := HS.out; have := B1.out.size; simp; omega); have C1 := Lib.hid (show (w1.alloc (.cells #[.slice ax x.length cx] 22)).cell? ⟨w1.heap.size, 0, none⟩ = some (.slice ax x.length cx) by rw [World.cell?_alloc_mark]; rfl); have L1 := Lib.hid (show L.length ≤ 100000000 by omega); clear a1)))
      | (at_builtin; refine wp_more (w0 := w) rfl _ _ rfl base _ L rfl O1.out w1.heap.size _ x rfl C1.out HX.out L1.out S1.out ?_))
    · have hfin : Hid (allL B = (L, k)) := by unfold Hid; rw [HAll.out, allL_none N1.out]; simp
      have BB := Lib.hid (HB.out.trans (B1.out.mono HS.out))
      go_wp2
      go_ret2
      refine ⟨_, by rw [hfin.out]; rfl, ?_, HBd.out ▸ BB.out⟩
      rw [hfin.out]
      exact (HO.out.below B1.out).argLL (HBd.out ▸ BB.out)
    · intro v2 w2 h2 b2 s2
      have hxl := Lib.hid (open_len N1.out)
      obtain ⟨m, hm⟩ : ∃ m : Nat, x.length + 10 = m := ⟨_, rfl⟩
      have HM := Lib.hid hm
      have hstep : Hid (allL B = ((L ++ [x]) ++ (allL (B.drop (k + m))).1, (k + m) + (allL (B.drop (k + m))).2)) := by
        unfold Hid
        have e := allL_some N1.out
        rw [List.drop_drop, hm] at e
        rw [HAll.out, e, List.append_assoc]
        simp only [Prod.mk.injEq]
        exact ⟨rfl, by omega⟩
      have hkm : k + m ≤ B.length := by have := hxl.out; rw [List.length_drop] at this; omega
      have hadd : IntKind.i64.wrap ((k : Int) + ((x.length : Int) + 10)) = ((k + m : Nat) : Int) := by rw [IntKind.wrap_i64]; omega
      have BB := Lib.hid ((HB.out.trans (B1.out.mono HS.out)).alloc (Nat.le_trans HS.out B1.out.size) (.cells #[.slice ax x.length cx] 22))
      have hmp : Hid (0 < m) := (by omega : 0 < m)
      clear hm
      have H2 := Lib.hid h2
      have B2 := Lib.hid (BB.out.trans b2)
      have S2 := Lib.hid s2
      clear h2 b2 s2
      go_wp2
      go_roundw
      case rel => exact ⟨L ++ [x], k + m, rfl, hkm, by have := hmp.out; rw [List.length_append]; simp only [List.length_cons, List.length_nil]; omega, hstep.out, H2.out, B2.out, S2.out⟩
      case measure => simp [intOf]; have := hmp.out; omega

theorem LL_ext {L M : List (List Int)} (hl : L.length = M.length) (h : ∀ i, i < L.length → L.getD i [] = M.getD i []) : L = M := by
  apply List.ext_getElem hl
  intro i h1 h2
  have := h i h1
  rw [List.getD_eq_getElem?_getD, List.getD_eq_getElem?_getD, List.getElem?_eq_getElem h1, List.getElem?_eq_getElem h2] at this
  exact this
set_option maxRecDepth 100000 in
set_option maxHeartbeats 4000000 in
theorem rcsame_any (v1 v2 : Value) (L M : List (List Int)) (w : World) (h1 : ArgLL w v1 L) (h2 : ArgLL w v2 M) (hL : ∀ l ∈ L, ∀ z ∈ l, 0 ≤ z ∧ z ≤ 255) (hM : ∀ l ∈ M, ∀ z ∈ l, 0 ≤ z ∧ z ≤ 255) (hll : L.length ≤ 100000000) :
    Calls Tryd.prog 17 #[v1, v2] w fun e w' => e = .returned (.bool (decide (L = M))) ∧ Below w.heap.size w w' := by
  by_cases hlen : L.length = M.length
  case neg =>
    obtain ⟨a1, c1, rfl⟩ := h1.size
    obtain ⟨a2, c2, rfl⟩ := h2.size
    have hne : ((L.length : Int) != (M.length : Int)) = true := by simp; omega
    have hno : Hid (decide (L = M) = false) := decide_eq_false (fun e => hlen (by rw [e]))
    clear h1 h2 hL hM hlen
    go_enter Tryd.func17, Tryd.ntmps17
    go_wp2
    go_ret
    exact ⟨by rw [hno.out]; rfl, Below.refl _ _⟩
  case pos =>
    by_cases h0 : 0 < L.length
    case neg =>
      obtain ⟨a1, c1, rfl⟩ := h1.size
      obtain ⟨a2, c2, rfl⟩ := h2.size
      obtain rfl : L = [] := List.eq_nil_of_length_eq_zero (by omega)
      obtain rfl : M = [] := List.eq_nil_of_length_eq_zero (by simpa using hlen.symm)
      clear h1 h2 hL hM hlen h0
      go_enter Tryd.func17, Tryd.ntmps17
      go_wp2
      go_loop [5] (fun v5 => v5 = .int .i64 0) (fun _ => 0)
      case atStart => rfl
      case round =>
        subst hrel
        go_wp2
        go_ret
        exact ⟨rfl, Below.refl _ _⟩
    case pos =>
      obtain ⟨b1, o1, c1, f1, rfl, k1⟩ := h1.at h0
      obtain ⟨b2, o2, c2, f2, rfl, k2⟩ := h2.at (by omega)
      have K1 := Lib.hid k1
      have K2 := Lib.hid k2
      have HL := Lib.hid hL
      have HM := Lib.hid hM
      have hlz : (M.length : Int) = (L.length : Int) := by omega
      have HLen := Lib.hid hlen
      clear h1 h2 k1 k2 hL hM
      go_enter Tryd.func17, Tryd.ntmps17
      go_wp2
      go_loopw [5] (fun v5 wr => ∃ i : Nat, v5 = .int .i64 (i : Int) ∧ i ≤ L.length ∧ (∀ j, j < i → L.getD j [] = M.getD j []) ∧ Below w.heap.size w wr) (fun v5 _ => L.length - (intOf v5).toNat)
      case atStart => exact ⟨0, rfl, Nat.zero_le _, fun j hj => by omega, Below.refl _ _⟩
      case round =>
        obtain ⟨i, rfl, hi, hall, hB⟩ := hrel
        have HB := Lib.hid hB
        have HA := Lib.hid hall
        clear hB hall
        by_cases hlt : i < L.length
        · obtain ⟨q1, p1⟩ := K1.out i hlt
          obtain ⟨q2, p2⟩ := K2.out i (by omega)
          have d1 := (HB.out.cell (p := ⟨b1, o1 + i, none⟩) (World.block_lt_of_cell? _ _ q1)).trans q1
          have d2 := (HB.out.cell (p := ⟨b2, o2 + i, none⟩) (World.block_lt_of_cell? _ _ q2)).trans q2
          have m1 : Hid (∀ z ∈ L.getD i [], 0 ≤ z ∧ z ≤ 255) := HL.out _ (by rw [List.getD_eq_getElem?_getD, List.getElem?_eq_getElem hlt]; exact List.getElem_mem hlt)
          have m2 : Hid (∀ z ∈ M.getD i [], 0 ≤ z ∧ z ≤ 255) := HM.out _ (by rw [List.getD_eq_getElem?_getD, List.getElem?_eq_getElem (show i < M.length by omega)]; exact List.getElem_mem _)
          have hv1 := fun q => conv_arg (w := wr.drewN q) ((p1.below HB.out).below (below_drewN (Below.refl _ _) q)) m1.out
          have hv2 := fun q => conv_arg (w := wr.drewN q) ((p2.below HB.out).below (below_drewN (Below.refl _ _) q)) m2.out
          have hv10 : (convert 22 9 (f1 i)).run Tryd.prog wr = .ok (.string (strOfNums (L.getD i []))) wr := hv1 0
          have hv20 : (convert 22 9 (f2 i)).run Tryd.prog wr = .ok (.string (strOfNums (M.getD i []))) wr := hv2 0
          obtain ⟨s1, hs1⟩ : ∃ s, f1 i = s := ⟨_, rfl⟩
          obtain ⟨s2, hs2⟩ : ∃ s, f2 i = s := ⟨_, rfl⟩
          rw [hs1] at d1 hv10
          rw [hs2] at d2 hv20
          simp only [hs1] at hv1
          simp only [hs2] at hv2
          obtain ⟨x, hx⟩ : ∃ x, L.getD i [] = x := ⟨_, rfl⟩
          obtain ⟨y, hy⟩ : ∃ y, M.getD i [] = y := ⟨_, rfl⟩
          rw [hx] at hv10 m1
          rw [hy] at hv20 m2
          simp only [hx] at hv1
          simp only [hy] at hv2
          have HX := Lib.hid hx
          have HY := Lib.hid hy
          obtain ⟨a1, e1, rfl⟩ : ∃ a e, s1 = .slice a x.length e := by have := p1.size; rw [hs1, hx] at this; exact this
          obtain ⟨a2, e2, rfl⟩ : ∃ a e, s2 = .slice a y.length e := by have := p2.size; rw [hs2, hy] at this; exact this
          have g1 : (i : Int) < (L.length : Int) := by omega
          clear hx hy hs1 hs2 p1 p2 q1 q2
          by_cases he : x = y
          · subst he
            go_wp2
            go_quiet (fail)
            have HB2 := Lib.hid (below_drewN HB.out nq)
            generalize wr.drewN nq = w2 at HB2 ⊢
            go_wp2
            go_roundw
            case rel => exact ⟨i + 1, by go_num, by omega, fun j hj => (by
              by_cases e : j = i
              · subst e; rw [HX.out, HY.out]
              · exact HA.out j (by omega)), HB2.out⟩
            case measure => simp [intOf]; omega
          · have hne : ((strOfNums x).toList == (strOfNums y).toList) = false := beq_eq_false_iff_ne.mpr fun h => he (strOfNums_inj m1.out m2.out (ByteArray.ext (Array.toList_inj.mp (by rw [← ByteArray.toList_eq, ← ByteArray.toList_eq]; exact h))))
            have hno : Hid (decide (L = M) = false) := decide_eq_false (fun e => he (by rw [← HX.out, ← HY.out, e]))
            clear he
            go_wp2
            go_quiet (fail)
            have HB2 := Lib.hid (below_drewN HB.out nq)
            generalize wr.drewN nq = w2 at HB2 ⊢
            go_wp2
            go_ret
            exact ⟨by rw [hno.out]; rfl, HB2.out⟩
        · have hyes : Hid (decide (L = M) = true) := decide_eq_true (LL_ext HLen.out (fun j hj => HA.out j (by omega)))
          have g1 : ¬ (i : Int) < (L.length : Int) := by omega
          go_wp2
          go_ret
          exact ⟨by rw [hyes.out]; rfl, HB.out⟩

end Go.Proofs.YtiephcjdbndjaaaDoor
