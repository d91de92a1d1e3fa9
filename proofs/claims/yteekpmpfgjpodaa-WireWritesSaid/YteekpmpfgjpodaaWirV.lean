/-
  The statement WireWrites, walked: over the contracts of package wire's calls.
-/
import Derived.Test.YteekpmpfgjpodaaWirR
import Derived.Test.YteekpmpfgjpodaaWirP
import Derived.Test.YteekpmpfgjpodaaArgs
import Derived.Laws.AppendOwnNone
namespace Go.Proofs.Yteekpmpfgjpodaa
open Go.RowKit

/-- A list of one's own stays while nothing old changes. -/
theorem OwnInts.after {t : TypeId} {k : IntKind} {w w' : World} {base : Nat} {v : Value} {l : List Int} (h : OwnInts t k w base v l) (hb : Below w.heap.size w w') : OwnInts t k w' base v l := by
  refine ⟨?_, h.2⟩
  have hlt := h.1.lt
  rcases h.1 with ⟨h1, h2 | ⟨g, cap, cur, rfl, h3, h4, h5⟩⟩
  · exact ⟨h1, Or.inl h2⟩
  · exact ⟨h1, Or.inr ⟨g, cap, cur, rfl, h3, (hb.block g (hlt g rfl).2).trans h4, h5⟩⟩
/-- What is handed in, behind a new list of one's own. -/
theorem wp_append_arg {w : World} {ops : Array Oper} {rest : List Oper} {o : Oper} {a : Act} {Q : Exit → Act → World → Prop} (hgd : o.guard = none) (s x : Operand)
    (ho : o.op = .call { callee := .builtin .append, args := #[s, x], argTypes := #[22, 22] }) (base : Nat) (v : Value) (hs : a.eval s = v) (hown : OwnInts 5 .u8 w base v []) (y : Value) (l : List Int) (hx : a.eval x = y) (hy : ArgB w y l) (hl : l.length ≤ 1000) (hbase : base ≤ w.heap.size)
    (h : ∀ v' w', OwnInts 5 .u8 w' base v' l → Below base w w' → base ≤ w'.heap.size → wpList Try.prog ops Q rest (a.put o.dst v') w') : wpList Try.prog ops Q (o :: rest) a w := by
  obtain ⟨i0, hi, hz0, hz1, hz2⟩ := info_parts info_byte
  rcases hy with ⟨rfl, rfl⟩ | ⟨ad, cap, rfl, hc, hcell⟩
  · exact wpList_append_own_none hgd s x _ ho base 5 i0 1 Try.underlying22 hi v 0 [] hs hown.1 hx (h _ _ hown (Below.refl _ _) hbase)
  · refine wpList_append_own w hgd s x _ ho base 5 i0 (.int .u8 0) 1 1 Try.underlying22 hi hz0 hz1 hz2 rfl (by decide) v 0 [] hs hown.1 ad l.length cap (l.map (Value.int .u8)) hx (by simp) ?_ (ints_one _ _) (by unfold maxLen; omega) (by omega) hbase ?_
    · intro j u hu
      rw [List.getElem?_map] at hu
      obtain ⟨z, hz, rfl⟩ := Option.map_eq_some_iff.mp hu
      have hj : j < l.length := (List.getElem?_eq_some_iff.mp hz).1
      have := hcell j hj
      rw [List.getD_eq_getElem?_getD, hz] at this
      exact this
    · intro v' w' hown' hgrow hiff
      have hn : ¬ v' = .slice none 0 0 := fun e => hown.2 ((hiff.mp e).1)
      rw [Nat.zero_add, List.nil_append] at hown'
      exact h v' w' ⟨hown', hn⟩ ((Below.refl base w).grown hgrow hbase (fun k hk => (hown.1.lt k hk).1)) (Nat.le_trans hbase hgrow.size)
/-- A list that is there, behind a list of one's own. -/
theorem wp_append_ints {w : World} {ops : Array Oper} {rest : List Oper} {o : Oper} {a : Act} {Q : Exit → Act → World → Prop} (hgd : o.guard = none) (s x : Operand)
    (ho : o.op = .call { callee := .builtin .append, args := #[s, x], argTypes := #[22, 22] }) (base : Nat) (v : Value) (l : List Int) (hs : a.eval s = v) (hown : OwnInts 5 .u8 w base v l) (y : Value) (l2 : List Int) (hx : a.eval x = y) (hy : Ints .u8 w y l2) (hl : l.length + l2.length ≤ 1000000) (hbase : base ≤ w.heap.size)
    (h : ∀ v' w', OwnInts 5 .u8 w' base v' (l ++ l2) → Below base w w' → base ≤ w'.heap.size → wpList Try.prog ops Q rest (a.put o.dst v') w') : wpList Try.prog ops Q (o :: rest) a w := by
  obtain ⟨i0, hi, hz0, hz1, hz2⟩ := info_parts info_byte
  have hc := hy
  obtain ⟨b, off, cap, rfl, _, _, _⟩ := hc
  refine wpList_append_own w hgd s x _ ho base 5 i0 (.int .u8 0) 1 1 Try.underlying22 hi hz0 hz1 hz2 rfl (by decide) v l.length (l.map (Value.int .u8)) hs hown.1 ⟨b, off, none⟩ l2.length cap (l2.map (Value.int .u8)) hx (by simp) (ints_cells hy) (ints_one _ _) (by unfold maxLen; omega) (by omega) hbase ?_
  intro v' w' hown' hgrow hiff
  have hn : ¬ v' = .slice none 0 0 := fun e => hown.2 ((hiff.mp e).1)
  exact h v' w' (OwnInts.append (news := l2) hown' rfl hn) ((Below.refl base w).grown hgrow hbase (fun k hk => (hown.1.lt k hk).1)) (Nat.le_trans hbase hgrow.size)
theorem wflag_one (base : Nat) (v : Value) (l : List Int) (w : World) (hO : OwnN w base v l) (hb : base ≤ w.heap.size) (hl : l.length ≤ 1000000) : Calls Try.prog 7 #[v, .bool true] w (PutsB base (l ++ [1]) w) := wflag_any base v l true w hO hb hl
theorem wflag_zero (base : Nat) (v : Value) (l : List Int) (w : World) (hO : OwnN w base v l) (hb : base ≤ w.heap.size) (hl : l.length ≤ 1000000) : Calls Try.prog 7 #[v, .bool false] w (PutsB base (l ++ [0]) w) := wflag_any base v l false w hO hb hl

set_option maxRecDepth 100000 in
set_option maxHeartbeats 4000000 in
theorem wirwrites_long (v : Value) (head : List Int) (n i : Int) (s : ByteArray) (f : Bool) (w : World) (hv : ArgB w v head) (h : 1000 < head.length ∨ 1000 < s.size) :
    Calls Try.prog 3 #[v, .int .u64 n, .int .i64 i, .string s, .bool f] w fun e w' => e = .returned (.bool true) ∧ Below w.heap.size w w' := by
  obtain ⟨a, cap, rfl, _, _⟩ := hv.bytesIs
  by_cases h1 : 1000 < head.length
  · have h1i : (1000 : Int) < (head.length : Int) := by omega
    clear h
    go_enter Try.func3, Try.ntmps3
    go_wp2_with (go_at_call 6; (with_reducible refine (wir_awake _).mono ?_); rintro e w1 ⟨rfl, g⟩)
    go_ret
    exact ⟨rfl, g⟩
  · have h1i : ¬ (1000 : Int) < (head.length : Int) := by omega
    have h2i : (1000 : Int) < (s.size : Int) := by omega
    clear h
    go_enter Try.func3, Try.ntmps3
    go_wp2_with (go_at_call 6; (with_reducible refine (wir_awake _).mono ?_); rintro e w1 ⟨rfl, g⟩)
    go_ret
    exact ⟨rfl, g⟩

theorem intB_len {i : Int} (i0 : -9223372036854775808 ≤ i) (i1 : i ≤ 9223372036854775807) : (intB i).length ≤ 9 := by
  unfold intB
  split
  · exact (numB_len (by omega)).2
  · rw [List.length_cons]; have := digs_len8 (n := (-i).toNat) (by omega); omega
theorem intB_byte {i : Int} (i0 : -9223372036854775808 ≤ i) (i1 : i ≤ 9223372036854775807) : ∀ z ∈ intB i, 0 ≤ z ∧ z ≤ 255 := by
  intro z hz
  unfold intB at hz
  split at hz
  · exact numB_byte (by omega) z hz
  · have := digs_len8 (n := (-i).toNat) (by omega)
    rcases List.mem_cons.mp hz with rfl | hz
    · omega
    · exact digs_byte _ z hz
theorem puts_byte {head : List Int} (n : Nat) (i : Int) (s : ByteArray) {z0 : Int} (hb : ∀ z ∈ head, 0 ≤ z ∧ z ≤ 255) (hn : n ≤ 18446744073709551615) (i0 : -9223372036854775808 ≤ i) (i1 : i ≤ 9223372036854775807) (hs : s.size ≤ 1000000) (hz : 0 ≤ z0 ∧ z0 ≤ 255) : ∀ z ∈ head ++ numB n ++ intB i ++ (numB s.size ++ nums s) ++ [z0], 0 ≤ z ∧ z ≤ 255 := by
  intro z h
  simp only [List.mem_append, List.mem_singleton] at h
  rcases h with (((h | h) | h) | (h | h)) | h
  · exact hb z h
  · exact numB_byte hn z h
  · exact intB_byte i0 i1 z h
  · exact numB_byte (by omega) z h
  · exact nums_byte s z h
  · rw [h]; exact hz
/-- What is read, one behind the other. -/
theorem puts_read (n : Nat) (i : Int) (s : ByteArray) (f : Bool) (hn : n ≤ 18446744073709551615) (i0 : -9223372036854775808 ≤ i) (i1 : i ≤ 9223372036854775807) (hs : s.size ≤ 1000000) :
    ∀ R, readT 0 0 (some (numB n ++ R)) = ({ n := n }, some R) ∧ readT 1 0 (some (intB i ++ R)) = ({ i := i }, some R) ∧ readT 2 s.size (some (numB s.size ++ nums s ++ R)) = ({ s := s }, some R) ∧ readT 3 0 (some ((if f then 1 else 0) :: R)) = ({ f := f }, some R) :=
  fun R => ⟨read_num n hn 0 R, read_int i i0 i1 0 R, read_text s hs R, read_flag f R 0⟩
theorem rwsame_yes (v1 v2 : Value) (l : List Int) (w : World) (h1 : Ints .u8 w v1 l) (h2 : Ints .u8 w v2 l) (hb : ∀ z ∈ l, 0 ≤ z ∧ z ≤ 255) : Calls Try.prog 14 #[v1, v2] w fun e w' => e = .returned (.bool true) ∧ Below w.heap.size w w' := by
  refine (rwsame_any v1 v2 l l w h1 h2 hb hb).mono ?_
  rintro e w' ⟨rfl, rfl⟩
  exact ⟨by rw [decide_eq_true rfl], Below.refl _ _⟩
theorem slice_rest (g n cap a d : Nat) (hn : n = a + d) (hd : 1 ≤ d) (hc : n ≤ cap) : ∀ W, (Instr.slice 22 (.slice (some ⟨g, 0, none⟩) n cap) (some (.int .i64 a)) none none).run Try.prog W = .ok (.slice (some ⟨g, a, none⟩) d (cap - a)) W := fun W => by
  rw [run_slice_l W 22 _ n cap under_bytes .i64 a (by omega) (by omega), elem_bytes]
  simp only [Result.andThen, sliced, Int.toNat_natCast]
  rw [if_neg (by omega), show n - a = d by omega]
  rcases a with _ | a <;> simp [Addr.add]
theorem bytes_rest {W : World} {g cap : Nat} {L D head : List Int} (h : Ints .u8 W (.slice (some ⟨g, 0, none⟩) L.length cap) L) (hL : L = head ++ D) (hc : D.length ≤ cap - head.length) : BytesIs W (.slice (some ⟨g, head.length, none⟩) D.length (cap - head.length)) D := by
  refine ⟨_, _, rfl, hc, fun i hi => ⟨g, head.length, rfl, ?_⟩⟩
  have k := h.at (i := head.length + i) (by rw [hL, List.length_append]; omega)
  rw [hL, List.getD_eq_getElem?_getD, List.getElem?_append_right (by omega), Nat.zero_add, show head.length + i - head.length = i by omega, ← List.getD_eq_getElem?_getD] at k
  exact k
theorem rdleft_is {W : World} (hi r : Nat) {st : Option (List Int)} (h : RdrIs W hi r st) (hl : leftN st = 1) : Calls Try.prog 19 #[.pointer (some ⟨r, 0, none⟩)] W (GivesT hi r (.int .i64 1) st W) := by
  have k := rdleft_any hi r st W h
  rw [hl] at k
  exact k
theorem rdleft_none {W : World} (hi r : Nat) (h : RdrIs W hi r (some [])) : Calls Try.prog 19 #[.pointer (some ⟨r, 0, none⟩)] W (GivesT hi r (.int .i64 0) (some []) W) := rdleft_any hi r _ W h
theorem rdbad_none {W : World} (hi r : Nat) (h : RdrIs W hi r (some [])) : Calls Try.prog 21 #[.pointer (some ⟨r, 0, none⟩)] W (GivesT hi r (.bool false) (some []) W) := rdbad_any hi r _ W h
theorem rdend_none {W : World} (hi r : Nat) (h : RdrIs W hi r (some [])) : Calls Try.prog 22 #[.pointer (some ⟨r, 0, none⟩)] W (GivesT hi r (.int .i64 0) (some []) W) := rdend_any hi r _ W h
-- MAIN
set_option maxRecDepth 100000 in
set_option maxHeartbeats 8000000 in
theorem wirwrites_one (v : Value) (head : List Int) (n : Nat) (i : Int) (s : ByteArray) (w : World) (hv : ArgB w v head) (hb : ∀ z ∈ head, 0 ≤ z ∧ z ≤ 255) (h1 : head.length ≤ 1000) (h2 : s.size ≤ 1000) (hn : n ≤ 18446744073709551615) (i0 : -9223372036854775808 ≤ i) (i1 : i ≤ 9223372036854775807) :
    Calls Try.prog 3 #[v, .int .u64 n, .int .i64 i, .string s, .bool true] w fun e w' => e = .returned (.bool true) ∧ Below w.heap.size w w' := by
  have HV := Lib.hid hv
  obtain ⟨a, cap, hvf, hcap, _⟩ := hv.bytesIs
  have h1i : ¬ (1000 : Int) < (head.length : Int) := by omega
  have h2i : ¬ (1000 : Int) < (s.size : Int) := by omega
  have hall := Lib.hid (puts_byte n i s hb hn i0 i1 (show s.size ≤ 1000000 by omega) (show (0 : Int) ≤ 1 ∧ (1 : Int) ≤ 255 by decide))
  have hrd := Lib.hid (puts_read n i s true hn i0 i1 (show s.size ≤ 1000000 by omega))
  have CN := Lib.hid (fun base v l w hO hs hl => wnum_any base v l n w hO hs hl hn)
  have CI := Lib.hid (fun base v l w hO hs hl => wint_any base v l i w hO hs hl i0 i1)
  have CT := Lib.hid (fun base v l w hO hs hl => wtext_any base v l s w hO hs hl (show s.size ≤ 1000000 by omega))
  have RN := Lib.hid (fun w => rwnum_any n w hn)
  have RI := Lib.hid (fun w => rwint_any i w i0 i1)
  have RT := Lib.hid (fun w => rwtext_any s w (show s.size ≤ 1000000 by omega))
  have ln := (numB_len hn).2
  have li := (intB_len i0 i1)
  have ls : (numB s.size ++ nums s).length ≤ 1009 := by rw [List.length_append, nums_length]; have := (numB_len (n := s.size) (by omega)).2; omega
  obtain ⟨N, hN⟩ : ∃ N, numB n = N := ⟨_, rfl⟩
  obtain ⟨I, hI⟩ : ∃ I, intB i = I := ⟨_, rfl⟩
  obtain ⟨T, hT⟩ : ∃ T, numB s.size ++ nums s = T := ⟨_, rfl⟩
  rw [hN] at ln CN RN hall hrd
  rw [hI] at li CI RI hall hrd
  rw [hT] at ls CT RT hall hrd
  clear hN hI hT
  subst hvf
  go_enter Try.func3, Try.ntmps3
  go_wp2_with (first
    | (go_at_call 6; (with_reducible refine (wir_awake _).mono ?_); rintro e w1 ⟨rfl, g⟩; have DD := Lib.hid g; clear g)
    | (at_builtin; refine wp_append_arg rfl _ _ rfl w.heap.size _ rfl (OwnInts.fresh _ _ _ _ _ rfl DD.out.size) _ head rfl (HV.out.below (DD.out.alloc DD.out.size _)) h1 (by simp; have := DD.out.size; omega) ?_))
  intro v1 W1 hO1 hB1 hs1
  replace hO1 := Lib.hid hO1
  have B1 := Lib.hid ((DD.out.alloc DD.out.size _).trans hB1)
  clear hB1
  go_wp2_with (first
    | (go_at_call 10; (with_reducible refine (CN.out w.heap.size v1 head _ hO1.out.ownN hs1 (by omega)).mono ?_); rintro e W2 ⟨v2, rfl, hO2, hB2, hs2⟩; have B2 := Lib.hid (B1.out.trans hB2); clear hB2; replace hO2 := Lib.hid hO2)
    | (go_at_call 9; (with_reducible refine (CI.out w.heap.size v2 (head ++ N) _ hO2.out.ownN hs2 (by simp only [List.length_append]; omega)).mono ?_); rintro e W3 ⟨v3, rfl, hO3, hB3, hs3⟩; have B3 := Lib.hid (B2.out.trans hB3); clear hB3; replace hO3 := Lib.hid hO3)
    | (go_at_call 8; (with_reducible refine (CT.out w.heap.size v3 (head ++ N ++ I) _ hO3.out.ownN hs3 (by simp only [List.length_append]; omega)).mono ?_); rintro e W4 ⟨v4, rfl, hO4, hB4, hs4⟩; have B4 := Lib.hid (B3.out.trans hB4); clear hB4; replace hO4 := Lib.hid hO4)
    | (go_at_call 7; (with_reducible refine (wflag_one w.heap.size v4 (head ++ N ++ I ++ T) _ hO4.out.ownN hs4 (by simp only [List.length_append]; omega)).mono ?_); rintro e W5 ⟨v5, rfl, hO5, hB5, hs5⟩; have B5 := Lib.hid (B4.out.trans hB5); clear hB5; obtain ⟨L, hL⟩ : ∃ L, head ++ N ++ I ++ T ++ [1] = L := ⟨_, rfl⟩; rw [hL] at hO5; have HL := Lib.hid hL; clear hL; obtain ⟨g5, cap5, rfl⟩ := hO5.form; have HO5 := Lib.hid hO5; clear hO5)
    | (at_builtin; refine wp_append_arg rfl _ _ rfl W5.heap.size _ rfl (OwnInts.fresh _ _ W5 _ _ rfl (Nat.le_refl _)) _ head rfl (HV.out.below (B5.out.alloc hs5 _)) h1 (by simp) ?_))
  intro v6 W6 hO6 hB6 hs6
  replace hO6 := Lib.hid hO6
  have B6 := Lib.hid (((Below.refl W5.heap.size W5).alloc (Nat.le_refl _) _).trans hB6)
  clear hB6 hO1 hO2 hO3 hO4 hs1 hs2 hs3 hs4
  go_wp2_with (first
    | (go_at_call 11; (with_reducible refine (RN.out _).mono ?_); rintro e W7 ⟨g7, cap7, rfl, hO7, hB7⟩; have hO6b := Lib.hid (hO6.out.after hB7); have B7 := Lib.hid (B6.out.trans (hB7.mono hs6)); have hs7 := Nat.le_trans hs6 hB7.size; clear hB7)
    | (at_builtin; refine wp_append_ints rfl _ _ rfl W5.heap.size _ head rfl hO6b.out _ N rfl hO7.ints (by omega) hs7 ?_))
  intro v8 W8 hO8 hB8 hs8
  obtain ⟨L8, hL8⟩ : ∃ x, head ++ N = x := ⟨_, rfl⟩
  rw [hL8] at hO8
  have l8 : L8.length ≤ 1009 := by rw [← hL8, List.length_append]; first | omega | (simp; omega)
  replace hL8 := Lib.hid hL8
  replace hO8 := Lib.hid hO8
  have B8 := Lib.hid (B7.out.trans hB8)
  clear hB8 hO6 hO6b hO7
  go_wp2_with (first
    | (go_at_call 12; (with_reducible refine (RI.out _).mono ?_); rintro e W9 ⟨g9, cap9, rfl, hO9, hB9⟩; have hO8b := Lib.hid (hO8.out.after hB9); have B9 := Lib.hid (B8.out.trans (hB9.mono hs8)); have hs9 := Nat.le_trans hs8 hB9.size; clear hB9)
    | (at_builtin; refine wp_append_ints rfl _ _ rfl W5.heap.size _ L8 rfl hO8b.out _ I rfl hO9.ints (by omega) hs9 ?_))
  intro v10 W10 hO10 hB10 hs10
  obtain ⟨L10, hL10⟩ : ∃ x, L8 ++ I = x := ⟨_, rfl⟩
  rw [hL10] at hO10
  have l10 : L10.length ≤ 1018 := by rw [← hL10, List.length_append]; first | omega | (simp; omega)
  replace hL10 := Lib.hid hL10
  replace hO10 := Lib.hid hO10
  have B10 := Lib.hid (B9.out.trans hB10)
  clear hB10 hO8 hO8b hO9
  go_wp2_with (first
    | (go_at_call 13; (with_reducible refine (RT.out _).mono ?_); rintro e W11 ⟨g11, cap11, rfl, hO11, hB11⟩; have hO10b := Lib.hid (hO10.out.after hB11); have B11 := Lib.hid (B10.out.trans (hB11.mono hs10)); have hs11 := Nat.le_trans hs10 hB11.size; clear hB11)
    | (at_builtin; refine wp_append_ints rfl _ _ rfl W5.heap.size _ L10 rfl hO10b.out _ T rfl hO11.ints (by omega) hs11 ?_))
  intro v12 W12 hO12 hB12 hs12
  obtain ⟨L12, hL12⟩ : ∃ x, L10 ++ T = x := ⟨_, rfl⟩
  rw [hL12] at hO12
  have l12 : L12.length ≤ 2027 := by rw [← hL12, List.length_append]; first | omega | (simp; omega)
  replace hL12 := Lib.hid hL12
  replace hO12 := Lib.hid hO12
  have B12 := Lib.hid (B11.out.trans hB12)
  clear hB12 hO10 hO10b hO11
  go_wp2_with (first
    | (at_builtin; refine wp_append_ints rfl _ _ rfl W5.heap.size _ L12 rfl (hO12.out.alloc _) _ [1] rfl (OwnInts.one 5 .u8 W12 W12.heap.size 1 _ rfl (Nat.le_refl _)).ints (by simp only [List.length_singleton]; omega) (by simp; omega) ?_))
  intro v13 W13 hO13 hB13 hs13
  obtain ⟨L13, hL13⟩ : ∃ x, L12 ++ [1] = x := ⟨_, rfl⟩
  rw [hL13] at hO13
  have l13 : L13.length ≤ 2028 := by rw [← hL13, List.length_append]; first | omega | (simp; omega)
  replace hL13 := Lib.hid hL13
  replace hO13 := Lib.hid hO13
  have B13 := Lib.hid (B12.out.trans (((Below.refl W5.heap.size W12).alloc hs12 _).trans hB13))
  clear hB13 hO12
  have hEq : L13 = L := by rw [← HL.out, ← hL13.out, ← hL12.out, ← hL10.out, ← hL8.out]
  rw [hEq] at hO13
  have hbL : ∀ z ∈ L, 0 ≤ z ∧ z ≤ 255 := by rw [← HL.out]; exact hall.out
  have hI5 := HO5.out.ints.below B13.out
  obtain ⟨g13, cap13, rfl⟩ := hO13.form
  have CS := Lib.hid (fun W' (h5 : Ints .u8 W' (.slice (some ⟨g5, 0, none⟩) L.length cap5) L) (h13 : Ints .u8 W' (.slice (some ⟨g13, 0, none⟩) L.length cap13) L) => rwsame_yes _ _ L W' h5 h13 hbL)
  have hH5 := Lib.hid hI5
  have hH13 := Lib.hid hO13.ints
  obtain ⟨R3, hR3⟩ : ∃ R3 : List Int, [1] = R3 := ⟨_, rfl⟩
  obtain ⟨R2, hR2⟩ : ∃ R2, T ++ R3 = R2 := ⟨_, rfl⟩
  obtain ⟨R1, hR1⟩ : ∃ R1, I ++ R2 = R1 := ⟨_, rfl⟩
  obtain ⟨D, hD⟩ : ∃ D, N ++ R1 = D := ⟨_, rfl⟩
  have hLD : L = head ++ D := by rw [← HL.out, ← hD, ← hR1, ← hR2, ← hR3]; simp
  have hDl : 1 ≤ D.length := by rw [← hD, ← hR1, ← hR2, ← hR3]; simp; omega
  have hDm : D.length ≤ 1000000 := by rw [← hD, ← hR1, ← hR2, ← hR3]; simp only [List.length_append, List.length_singleton]; omega
  have hLl : L.length = head.length + D.length := by rw [hLD, List.length_append]
  have hbD : ∀ z ∈ D, 0 ≤ z ∧ z ≤ 255 := fun z hz => hbL z (by rw [hLD]; exact List.mem_append_right _ hz)
  have hc5 : L.length ≤ cap5 := by obtain ⟨_, _, _, he, hc, _⟩ := hI5; simp only [Value.slice.injEq] at he; omega
  have hsl := slice_rest g5 L.length cap5 head.length D.length hLl hDl hc5
  have hBD : Hid (∀ W', Below W13.heap.size W13 W' → BytesIs W' (.slice (some ⟨g5, head.length, none⟩) D.length (cap5 - head.length)) D) := fun W' hb' => bytes_rest (hH5.out.below hb') hLD (by omega)
  have q1 := Lib.hid (show readT 0 0 (some D) = ({ n := n }, some R1) by rw [← hD]; exact (hrd.out R1).1)
  have q2 := Lib.hid (show readT 1 0 (some R1) = ({ i := i }, some R2) by rw [← hR1]; exact (hrd.out R2).2.1)
  have q3 := Lib.hid (show readT 2 s.size (some R2) = ({ s := s }, some R3) by rw [← hR2]; exact (hrd.out R3).2.2.1)
  have q4 := Lib.hid (show readT 3 0 (some R3) = ({ f := true }, some []) by rw [← hR3]; exact (hrd.out []).2.2.2)
  have hsz := Lib.hid (show -9223372036854775808 ≤ (s.size : Int) ∧ (s.size : Int) ≤ 9223372036854775807 by omega)
  have hleft := Lib.hid (show leftN (some R3) = 1 by rw [← hR3]; rfl)
  have hwB := Lib.hid (B5.out.trans (B13.out.mono hs5))
  have hs13b : w.heap.size ≤ W13.heap.size := hwB.out.size
  have hlen2 : Hid ((head.length : Int) ≤ (L.length : Int)) := by unfold Hid; omega
  replace hLl := Lib.hid hLl
  have hle0 : (head.length : Int) ≤ (L.length : Int) := hlen2.out
  clear hR3 hR2 hR1 hD hLD hI5 hEq hbL hO13 h1i h2i
  go_wp2_with (first
    | (go_at_call 14; (with_reducible refine (CS.out _ hH5.out hH13.out).mono ?_); rintro e W14 ⟨rfl, g14⟩; have D14 := Lib.hid g14; clear g14)
    | (go_at_call 15; (with_reducible refine (wnew_any _ D _ (hBD.out _ D14.out) hbD hDm).mono ?_); rintro e W15 ⟨r, hi, rfl, hr, hR, g15⟩; have HR := Lib.hid hR; have hle := Nat.le_trans (Nat.le_trans hs13b D14.out.size) hr; have DE := Lib.hid (hwB.out.trans ((D14.out.mono hs13b).trans (g15.mono (Nat.le_trans hs13b D14.out.size)))); clear hR g15)
    | (go_at_call 16; (with_reducible refine (rdnum_is hi r HR.out q1.out).mono ?_); rintro e W16 ⟨rfl, hR, g⟩; have HR := Lib.hid hR; have DE := Lib.hid (DE.out.trans (g.below hle)); clear hR g)
    | (go_at_call 17; (with_reducible refine (rdint_is hi r HR.out q2.out).mono ?_); rintro e W16 ⟨rfl, hR, g⟩; have HR := Lib.hid hR; have DE := Lib.hid (DE.out.trans (g.below hle)); clear hR g)
    | (go_at_call 18; (with_reducible refine (rdtext_is hi r HR.out q3.out hsz.out).mono ?_); rintro e W16 ⟨rfl, hR, g⟩; have HR := Lib.hid hR; have DE := Lib.hid (DE.out.trans (g.below hle)); clear hR g)
    | (go_at_call 20; (with_reducible refine (rdflag_is hi r HR.out q4.out).mono ?_); rintro e W16 ⟨rfl, hR, g⟩; have HR := Lib.hid hR; have DE := Lib.hid (DE.out.trans (g.below hle)); clear hR g)
    | (go_at_call 19; (with_reducible refine (rdleft_is hi r HR.out hleft.out).mono ?_); rintro e W16 ⟨rfl, hR, g⟩; have HR := Lib.hid hR; have DE := Lib.hid (DE.out.trans (g.below hle)); clear hR g)
    | (go_at_call 19; (with_reducible refine (rdleft_none hi r HR.out).mono ?_); rintro e W16 ⟨rfl, hR, g⟩; have HR := Lib.hid hR; have DE := Lib.hid (DE.out.trans (g.below hle)); clear hR g)
    | (go_at_call 21; (with_reducible refine (rdbad_none hi r HR.out).mono ?_); rintro e W16 ⟨rfl, hR, g⟩; have HR := Lib.hid hR; have DE := Lib.hid (DE.out.trans (g.below hle)); clear hR g)
    | (go_at_call 22; (with_reducible refine (rdend_none hi r HR.out).mono ?_); rintro e W16 ⟨rfl, hR, g⟩; have HR := Lib.hid hR; have DE := Lib.hid (DE.out.trans (g.below hle)); clear hR g))
  go_ret
  exact ⟨rfl, DE.out⟩

set_option maxRecDepth 100000 in
set_option maxHeartbeats 8000000 in
theorem wirwrites_zero (v : Value) (head : List Int) (n : Nat) (i : Int) (s : ByteArray) (w : World) (hv : ArgB w v head) (hb : ∀ z ∈ head, 0 ≤ z ∧ z ≤ 255) (h1 : head.length ≤ 1000) (h2 : s.size ≤ 1000) (hn : n ≤ 18446744073709551615) (i0 : -9223372036854775808 ≤ i) (i1 : i ≤ 9223372036854775807) :
    Calls Try.prog 3 #[v, .int .u64 n, .int .i64 i, .string s, .bool false] w fun e w' => e = .returned (.bool true) ∧ Below w.heap.size w w' := by
  have HV := Lib.hid hv
  obtain ⟨a, cap, hvf, hcap, _⟩ := hv.bytesIs
  have h1i : ¬ (1000 : Int) < (head.length : Int) := by omega
  have h2i : ¬ (1000 : Int) < (s.size : Int) := by omega
  have hall := Lib.hid (puts_byte n i s hb hn i0 i1 (show s.size ≤ 1000000 by omega) (show (0 : Int) ≤ 0 ∧ (0 : Int) ≤ 255 by decide))
  have hrd := Lib.hid (puts_read n i s false hn i0 i1 (show s.size ≤ 1000000 by omega))
  have CN := Lib.hid (fun base v l w hO hs hl => wnum_any base v l n w hO hs hl hn)
  have CI := Lib.hid (fun base v l w hO hs hl => wint_any base v l i w hO hs hl i0 i1)
  have CT := Lib.hid (fun base v l w hO hs hl => wtext_any base v l s w hO hs hl (show s.size ≤ 1000000 by omega))
  have RN := Lib.hid (fun w => rwnum_any n w hn)
  have RI := Lib.hid (fun w => rwint_any i w i0 i1)
  have RT := Lib.hid (fun w => rwtext_any s w (show s.size ≤ 1000000 by omega))
  have ln := (numB_len hn).2
  have li := (intB_len i0 i1)
  have ls : (numB s.size ++ nums s).length ≤ 1009 := by rw [List.length_append, nums_length]; have := (numB_len (n := s.size) (by omega)).2; omega
  obtain ⟨N, hN⟩ : ∃ N, numB n = N := ⟨_, rfl⟩
  obtain ⟨I, hI⟩ : ∃ I, intB i = I := ⟨_, rfl⟩
  obtain ⟨T, hT⟩ : ∃ T, numB s.size ++ nums s = T := ⟨_, rfl⟩
  rw [hN] at ln CN RN hall hrd
  rw [hI] at li CI RI hall hrd
  rw [hT] at ls CT RT hall hrd
  clear hN hI hT
  subst hvf
  go_enter Try.func3, Try.ntmps3
  go_wp2_with (first
    | (go_at_call 6; (with_reducible refine (wir_awake _).mono ?_); rintro e w1 ⟨rfl, g⟩; have DD := Lib.hid g; clear g)
    | (at_builtin; refine wp_append_arg rfl _ _ rfl w.heap.size _ rfl (OwnInts.fresh _ _ _ _ _ rfl DD.out.size) _ head rfl (HV.out.below (DD.out.alloc DD.out.size _)) h1 (by simp; have := DD.out.size; omega) ?_))
  intro v1 W1 hO1 hB1 hs1
  replace hO1 := Lib.hid hO1
  have B1 := Lib.hid ((DD.out.alloc DD.out.size _).trans hB1)
  clear hB1
  go_wp2_with (first
    | (go_at_call 10; (with_reducible refine (CN.out w.heap.size v1 head _ hO1.out.ownN hs1 (by omega)).mono ?_); rintro e W2 ⟨v2, rfl, hO2, hB2, hs2⟩; have B2 := Lib.hid (B1.out.trans hB2); clear hB2; replace hO2 := Lib.hid hO2)
    | (go_at_call 9; (with_reducible refine (CI.out w.heap.size v2 (head ++ N) _ hO2.out.ownN hs2 (by simp only [List.length_append]; omega)).mono ?_); rintro e W3 ⟨v3, rfl, hO3, hB3, hs3⟩; have B3 := Lib.hid (B2.out.trans hB3); clear hB3; replace hO3 := Lib.hid hO3)
    | (go_at_call 8; (with_reducible refine (CT.out w.heap.size v3 (head ++ N ++ I) _ hO3.out.ownN hs3 (by simp only [List.length_append]; omega)).mono ?_); rintro e W4 ⟨v4, rfl, hO4, hB4, hs4⟩; have B4 := Lib.hid (B3.out.trans hB4); clear hB4; replace hO4 := Lib.hid hO4)
    | (go_at_call 7; (with_reducible refine (wflag_zero w.heap.size v4 (head ++ N ++ I ++ T) _ hO4.out.ownN hs4 (by simp only [List.length_append]; omega)).mono ?_); rintro e W5 ⟨v5, rfl, hO5, hB5, hs5⟩; have B5 := Lib.hid (B4.out.trans hB5); clear hB5; obtain ⟨L, hL⟩ : ∃ L, head ++ N ++ I ++ T ++ [0] = L := ⟨_, rfl⟩; rw [hL] at hO5; have HL := Lib.hid hL; clear hL; obtain ⟨g5, cap5, rfl⟩ := hO5.form; have HO5 := Lib.hid hO5; clear hO5)
    | (at_builtin; refine wp_append_arg rfl _ _ rfl W5.heap.size _ rfl (OwnInts.fresh _ _ W5 _ _ rfl (Nat.le_refl _)) _ head rfl (HV.out.below (B5.out.alloc hs5 _)) h1 (by simp) ?_))
  intro v6 W6 hO6 hB6 hs6
  replace hO6 := Lib.hid hO6
  have B6 := Lib.hid (((Below.refl W5.heap.size W5).alloc (Nat.le_refl _) _).trans hB6)
  clear hB6 hO1 hO2 hO3 hO4 hs1 hs2 hs3 hs4
  go_wp2_with (first
    | (go_at_call 11; (with_reducible refine (RN.out _).mono ?_); rintro e W7 ⟨g7, cap7, rfl, hO7, hB7⟩; have hO6b := Lib.hid (hO6.out.after hB7); have B7 := Lib.hid (B6.out.trans (hB7.mono hs6)); have hs7 := Nat.le_trans hs6 hB7.size; clear hB7)
    | (at_builtin; refine wp_append_ints rfl _ _ rfl W5.heap.size _ head rfl hO6b.out _ N rfl hO7.ints (by omega) hs7 ?_))
  intro v8 W8 hO8 hB8 hs8
  obtain ⟨L8, hL8⟩ : ∃ x, head ++ N = x := ⟨_, rfl⟩
  rw [hL8] at hO8
  have l8 : L8.length ≤ 1009 := by rw [← hL8, List.length_append]; first | omega | (simp; omega)
  replace hL8 := Lib.hid hL8
  replace hO8 := Lib.hid hO8
  have B8 := Lib.hid (B7.out.trans hB8)
  clear hB8 hO6 hO6b hO7
  go_wp2_with (first
    | (go_at_call 12; (with_reducible refine (RI.out _).mono ?_); rintro e W9 ⟨g9, cap9, rfl, hO9, hB9⟩; have hO8b := Lib.hid (hO8.out.after hB9); have B9 := Lib.hid (B8.out.trans (hB9.mono hs8)); have hs9 := Nat.le_trans hs8 hB9.size; clear hB9)
    | (at_builtin; refine wp_append_ints rfl _ _ rfl W5.heap.size _ L8 rfl hO8b.out _ I rfl hO9.ints (by omega) hs9 ?_))
  intro v10 W10 hO10 hB10 hs10
  obtain ⟨L10, hL10⟩ : ∃ x, L8 ++ I = x := ⟨_, rfl⟩
  rw [hL10] at hO10
  have l10 : L10.length ≤ 1018 := by rw [← hL10, List.length_append]; first | omega | (simp; omega)
  replace hL10 := Lib.hid hL10
  replace hO10 := Lib.hid hO10
  have B10 := Lib.hid (B9.out.trans hB10)
  clear hB10 hO8 hO8b hO9
  go_wp2_with (first
    | (go_at_call 13; (with_reducible refine (RT.out _).mono ?_); rintro e W11 ⟨g11, cap11, rfl, hO11, hB11⟩; have hO10b := Lib.hid (hO10.out.after hB11); have B11 := Lib.hid (B10.out.trans (hB11.mono hs10)); have hs11 := Nat.le_trans hs10 hB11.size; clear hB11)
    | (at_builtin; refine wp_append_ints rfl _ _ rfl W5.heap.size _ L10 rfl hO10b.out _ T rfl hO11.ints (by omega) hs11 ?_))
  intro v12 W12 hO12 hB12 hs12
  obtain ⟨L12, hL12⟩ : ∃ x, L10 ++ T = x := ⟨_, rfl⟩
  rw [hL12] at hO12
  have l12 : L12.length ≤ 2027 := by rw [← hL12, List.length_append]; first | omega | (simp; omega)
  replace hL12 := Lib.hid hL12
  replace hO12 := Lib.hid hO12
  have B12 := Lib.hid (B11.out.trans hB12)
  clear hB12 hO10 hO10b hO11
  go_wp2_with (first
    | (at_builtin; refine wp_append_ints rfl _ _ rfl W5.heap.size _ L12 rfl (hO12.out.alloc _) _ [0] rfl (OwnInts.one 5 .u8 W12 W12.heap.size 0 _ rfl (Nat.le_refl _)).ints (by simp only [List.length_singleton]; omega) (by simp; omega) ?_))
  intro v13 W13 hO13 hB13 hs13
  obtain ⟨L13, hL13⟩ : ∃ x, L12 ++ [0] = x := ⟨_, rfl⟩
  rw [hL13] at hO13
  have l13 : L13.length ≤ 2028 := by rw [← hL13, List.length_append]; first | omega | (simp; omega)
  replace hL13 := Lib.hid hL13
  replace hO13 := Lib.hid hO13
  have B13 := Lib.hid (B12.out.trans (((Below.refl W5.heap.size W12).alloc hs12 _).trans hB13))
  clear hB13 hO12
  have hEq : L13 = L := by rw [← HL.out, ← hL13.out, ← hL12.out, ← hL10.out, ← hL8.out]
  rw [hEq] at hO13
  have hbL : ∀ z ∈ L, 0 ≤ z ∧ z ≤ 255 := by rw [← HL.out]; exact hall.out
  have hI5 := HO5.out.ints.below B13.out
  obtain ⟨g13, cap13, rfl⟩ := hO13.form
  have CS := Lib.hid (fun W' (h5 : Ints .u8 W' (.slice (some ⟨g5, 0, none⟩) L.length cap5) L) (h13 : Ints .u8 W' (.slice (some ⟨g13, 0, none⟩) L.length cap13) L) => rwsame_yes _ _ L W' h5 h13 hbL)
  have hH5 := Lib.hid hI5
  have hH13 := Lib.hid hO13.ints
  obtain ⟨R3, hR3⟩ : ∃ R3 : List Int, [0] = R3 := ⟨_, rfl⟩
  obtain ⟨R2, hR2⟩ : ∃ R2, T ++ R3 = R2 := ⟨_, rfl⟩
  obtain ⟨R1, hR1⟩ : ∃ R1, I ++ R2 = R1 := ⟨_, rfl⟩
  obtain ⟨D, hD⟩ : ∃ D, N ++ R1 = D := ⟨_, rfl⟩
  have hLD : L = head ++ D := by rw [← HL.out, ← hD, ← hR1, ← hR2, ← hR3]; simp
  have hDl : 1 ≤ D.length := by rw [← hD, ← hR1, ← hR2, ← hR3]; simp; omega
  have hDm : D.length ≤ 1000000 := by rw [← hD, ← hR1, ← hR2, ← hR3]; simp only [List.length_append, List.length_singleton]; omega
  have hLl : L.length = head.length + D.length := by rw [hLD, List.length_append]
  have hbD : ∀ z ∈ D, 0 ≤ z ∧ z ≤ 255 := fun z hz => hbL z (by rw [hLD]; exact List.mem_append_right _ hz)
  have hc5 : L.length ≤ cap5 := by obtain ⟨_, _, _, he, hc, _⟩ := hI5; simp only [Value.slice.injEq] at he; omega
  have hsl := slice_rest g5 L.length cap5 head.length D.length hLl hDl hc5
  have hBD : Hid (∀ W', Below W13.heap.size W13 W' → BytesIs W' (.slice (some ⟨g5, head.length, none⟩) D.length (cap5 - head.length)) D) := fun W' hb' => bytes_rest (hH5.out.below hb') hLD (by omega)
  have q1 := Lib.hid (show readT 0 0 (some D) = ({ n := n }, some R1) by rw [← hD]; exact (hrd.out R1).1)
  have q2 := Lib.hid (show readT 1 0 (some R1) = ({ i := i }, some R2) by rw [← hR1]; exact (hrd.out R2).2.1)
  have q3 := Lib.hid (show readT 2 s.size (some R2) = ({ s := s }, some R3) by rw [← hR2]; exact (hrd.out R3).2.2.1)
  have q4 := Lib.hid (show readT 3 0 (some R3) = ({ f := false }, some []) by rw [← hR3]; exact (hrd.out []).2.2.2)
  have hsz := Lib.hid (show -9223372036854775808 ≤ (s.size : Int) ∧ (s.size : Int) ≤ 9223372036854775807 by omega)
  have hleft := Lib.hid (show leftN (some R3) = 1 by rw [← hR3]; rfl)
  have hwB := Lib.hid (B5.out.trans (B13.out.mono hs5))
  have hs13b : w.heap.size ≤ W13.heap.size := hwB.out.size
  have hlen2 : Hid ((head.length : Int) ≤ (L.length : Int)) := by unfold Hid; omega
  replace hLl := Lib.hid hLl
  have hle0 : (head.length : Int) ≤ (L.length : Int) := hlen2.out
  clear hR3 hR2 hR1 hD hLD hI5 hEq hbL hO13 h1i h2i
  go_wp2_with (first
    | (go_at_call 14; (with_reducible refine (CS.out _ hH5.out hH13.out).mono ?_); rintro e W14 ⟨rfl, g14⟩; have D14 := Lib.hid g14; clear g14)
    | (go_at_call 15; (with_reducible refine (wnew_any _ D _ (hBD.out _ D14.out) hbD hDm).mono ?_); rintro e W15 ⟨r, hi, rfl, hr, hR, g15⟩; have HR := Lib.hid hR; have hle := Nat.le_trans (Nat.le_trans hs13b D14.out.size) hr; have DE := Lib.hid (hwB.out.trans ((D14.out.mono hs13b).trans (g15.mono (Nat.le_trans hs13b D14.out.size)))); clear hR g15)
    | (go_at_call 16; (with_reducible refine (rdnum_is hi r HR.out q1.out).mono ?_); rintro e W16 ⟨rfl, hR, g⟩; have HR := Lib.hid hR; have DE := Lib.hid (DE.out.trans (g.below hle)); clear hR g)
    | (go_at_call 17; (with_reducible refine (rdint_is hi r HR.out q2.out).mono ?_); rintro e W16 ⟨rfl, hR, g⟩; have HR := Lib.hid hR; have DE := Lib.hid (DE.out.trans (g.below hle)); clear hR g)
    | (go_at_call 18; (with_reducible refine (rdtext_is hi r HR.out q3.out hsz.out).mono ?_); rintro e W16 ⟨rfl, hR, g⟩; have HR := Lib.hid hR; have DE := Lib.hid (DE.out.trans (g.below hle)); clear hR g)
    | (go_at_call 20; (with_reducible refine (rdflag_is hi r HR.out q4.out).mono ?_); rintro e W16 ⟨rfl, hR, g⟩; have HR := Lib.hid hR; have DE := Lib.hid (DE.out.trans (g.below hle)); clear hR g)
    | (go_at_call 19; (with_reducible refine (rdleft_is hi r HR.out hleft.out).mono ?_); rintro e W16 ⟨rfl, hR, g⟩; have HR := Lib.hid hR; have DE := Lib.hid (DE.out.trans (g.below hle)); clear hR g)
    | (go_at_call 19; (with_reducible refine (rdleft_none hi r HR.out).mono ?_); rintro e W16 ⟨rfl, hR, g⟩; have HR := Lib.hid hR; have DE := Lib.hid (DE.out.trans (g.below hle)); clear hR g)
    | (go_at_call 21; (with_reducible refine (rdbad_none hi r HR.out).mono ?_); rintro e W16 ⟨rfl, hR, g⟩; have HR := Lib.hid hR; have DE := Lib.hid (DE.out.trans (g.below hle)); clear hR g)
    | (go_at_call 22; (with_reducible refine (rdend_none hi r HR.out).mono ?_); rintro e W16 ⟨rfl, hR, g⟩; have HR := Lib.hid hR; have DE := Lib.hid (DE.out.trans (g.below hle)); clear hR g))
  go_ret
  exact ⟨rfl, DE.out⟩

theorem wirwrites_walk (v : Value) (head : List Int) (n i : Int) (s : ByteArray) (f : Bool) (w : World) (hv : ArgB w v head) (hb : ∀ z ∈ head, 0 ≤ z ∧ z ≤ 255) (hn : 0 ≤ n ∧ n ≤ 18446744073709551615) (hi : -9223372036854775808 ≤ i ∧ i ≤ 9223372036854775807) :
    Calls Try.prog 3 #[v, .int .u64 n, .int .i64 i, .string s, .bool f] w fun e w' => e = .returned (.bool true) ∧ Below w.heap.size w w' := by
  by_cases h : 1000 < head.length ∨ 1000 < s.size
  · exact wirwrites_long v head n i s f w hv h
  · obtain ⟨N, rfl⟩ : ∃ N : Nat, n = N := ⟨n.toNat, by omega⟩
    cases f with
    | true => exact wirwrites_one v head N i s w hv hb (by omega) (by omega) (by omega) hi.1 hi.2
    | false => exact wirwrites_zero v head N i s w hv hb (by omega) (by omega) (by omega) hi.1 hi.2

end Go.Proofs.Yteekpmpfgjpodaa
