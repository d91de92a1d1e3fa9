/-
  The document's own answers of layer 7, walked: Num, Int, Text.
-/
import Derived.Test.YteekpmpfgjpodaaWirA
import Derived.Test.YteekpmpfgjpodaaInts
import Derived.Test.YteekpmpfgjpodaaRead
import Derived.Laws.AppendOwn
import Derived.Laws.OwnMore
import Derived.Lib.AppendStr
import Derived.Laws.BytesArg
import Derived.Lib.Hide
import Derived.WalkSmall
namespace Go.Proofs.Yteekpmpfgjpodaa
open Go.RowKit

/-- What a call hands back that makes bytes: a slice of its own that reads as the list; nothing old has changed. -/
def GivesB (l : List Int) (w : World) (e : Ending) (w' : World) : Prop := ∃ g cap, e = .returned (.slice (some ⟨g, 0, none⟩) l.length cap) ∧ OwnInts 5 .u8 w' w.heap.size (.slice (some ⟨g, 0, none⟩) l.length cap) l ∧ Below w.heap.size w w'
theorem OwnInts.form {t : TypeId} {k : IntKind} {w : World} {base : Nat} {v : Value} {l : List Int} (h : OwnInts t k w base v l) : ∃ g cap, v = .slice (some ⟨g, 0, none⟩) l.length cap := by
  rcases h.1.2 with ⟨e, _⟩ | ⟨g, cap, _, e, _⟩
  · exact (h.2 e).elim
  · exact ⟨g, cap, e⟩
theorem info_byte : (Try.prog.info? 5).map (fun i => (i.zero, i.size, i.bytes)) = some (some (.int .u8 0), 1, 1) := by kernel_rfl
/-- A list of one's own, made with what it holds. -/
theorem OwnInts.one (t : TypeId) (k : IntKind) (w : World) (base : Nat) (z : Int) (g : Nat) (hg : g = w.heap.size) (h : base ≤ g) : OwnInts t k (w.alloc (.cells #[.int k z] t)) base (.slice (some ⟨g, 0, none⟩) 1 1) [z] := by
  subst hg
  exact ⟨⟨rfl, .inr ⟨w.heap.size, 1, #[.int k z], rfl, h, heap_alloc_new w _, Nat.le_refl _, by decide, rfl, rfl⟩⟩, by simp⟩
/-- A list of one's own behind another one: what is known of the slice, and of what lies below. -/
theorem ints_join {t : TypeId} {k : IntKind} {w wr w1 : World} {base : Nat} {v v' : Value} {x y : List Int} (hown : OwnInts t k wr base v x)
    (hown' : w1.ownsRow base t 1 v' (x.length + y.length) (x.map (Value.int k) ++ y.map (Value.int k))) (hgrow : wr.grownBy w1 v.ownBlock) (hiff : ¬ v' = .slice none 0 0)
    (hbel : Below w.heap.size w wr) (hsz : w.heap.size ≤ base) (hbs : base ≤ wr.heap.size) :
    OwnInts t k w1 base v' (x ++ y) ∧ Below w.heap.size w w1 ∧ base ≤ w1.heap.size := by
  have hlt := hown.1.lt
  refine ⟨OwnInts.append (news := y) hown' rfl hiff, hbel.grown hgrow (by omega) (fun b hk => by have := (hlt _ hk).1; omega), ?_⟩
  have := hgrow.size; omega
theorem ints_cells {k : IntKind} {w : World} {g off n cap : Nat} {l : List Int} (h : Ints k w (.slice (some ⟨g, off, none⟩) n cap) l) : ∀ j u, (l.map (Value.int k))[j]? = some u → w.cell? ((⟨g, off, none⟩ : Addr).add j) = some u := by
  intro j u hu
  rw [List.getElem?_map] at hu
  obtain ⟨z, hz, rfl⟩ := Option.map_eq_some_iff.mp hu
  have hj : j < l.length := (List.getElem?_eq_some_iff.mp hz).1
  have := h.at hj
  rw [List.getD_eq_getElem?_getD, hz] at this
  rcases j with _ | j <;> simpa [Addr.add] using this

set_option maxRecDepth 100000 in
set_option maxHeartbeats 2000000 in
theorem rwnum_any (n : Nat) (w : World) (hn : n ≤ 18446744073709551615) : Calls Try.prog 11 #[.int .u64 n] w (GivesB (numB n) w) := by
  obtain ⟨i0, hi, hz0, hz1, hz2⟩ := info_parts info_byte
  have h8 := Lib.hid (digs_len8 hn)
  go_enter Try.func11, Try.ntmps11
  go_wp2
  go_loopw [0, 3] (fun v0 v3 wr => ∃ (m : Nat) (x : List Int) (g cap : Nat), v0 = .int .u64 m ∧ v3 = .slice (some ⟨g, 0, none⟩) x.length cap ∧ m ≤ n ∧ digs m ++ x = digs n ∧ OwnInts 5 .u8 wr w.heap.size (.slice (some ⟨g, 0, none⟩) x.length cap) x ∧ Below w.heap.size w wr ∧ w.heap.size ≤ wr.heap.size) (fun v0 _ _ => (intOf v0).toNat)
  case atStart => exact ⟨n, [], w.heap.size, 0, rfl, rfl, Nat.le_refl _, by simp, OwnInts.fresh _ _ _ _ _ rfl (Nat.le_refl _), (Below.refl _ _).alloc (Nat.le_refl _) _, by simp⟩
  case round =>
    obtain ⟨m, x, g, cap, rfl, rfl, hm, hx, hO, hB, hs⟩ := hrel
    have hX := Lib.hid hx
    have hxl : x.length ≤ 8 := by have := congrArg List.length hx; rw [List.length_append] at this; have := h8.out; omega
    clear hx
    have HO := Lib.hid hO
    have HB := Lib.hid hB
    by_cases h0 : m = 0
    · subst h0
      have hfin : Hid (x = digs n) := by have := hX.out; rw [digs_zero] at this; exact this
      have hlw : IntKind.u8.wrap (x.length : Int) = (x.length : Int) := by rw [IntKind.wrap_u8]; omega
      go_wp2_with (at_builtin; refine wpList_append_own _ rfl _ _ 22 rfl w.heap.size 5 i0 (.int .u8 0) 1 1 Try.underlying22 hi hz0 hz1 hz2 rfl (by decide) _ _ _ rfl (OwnInts.one _ .u8 wr w.heap.size x.length _ rfl hs).1 ⟨g, 0, none⟩ x.length cap (x.map (Value.int .u8)) rfl (by simp) (ints_cells (HO.out.alloc _).ints) (ints_one _ _) ?c1 ?c2 ?c3 ?_)
      case c1 => unfold maxLen; simp; omega
      case c2 => simp; omega
      case c3 => simp; omega
      intro v' w1 hown' hgrow hiff
      have hj := ints_join (x := [(x.length : Int)]) (y := x) (OwnInts.one 5 .u8 wr w.heap.size x.length _ rfl hs) hown' hgrow hiff (HB.out.alloc hs _) (Nat.le_refl _) (by simp; omega)
      obtain ⟨hj1, hj2, hj3⟩ := hj
      obtain ⟨g2, cap2, rfl⟩ := hj1.form
      clear hown' hgrow hiff
      go_wp2
      go_ret
      have e : [(x.length : Int)] ++ x = numB n := by rw [hfin.out]; rfl
      rw [e] at hj1 ⊢
      exact ⟨g2, cap2, rfl, hj1, hj2⟩
    · have hmp : 0 < (m : Int) := by omega
      obtain ⟨q, hq⟩ : ∃ q : Nat, (m : Int) / 256 = (q : Int) := ⟨m / 256, by omega⟩
      obtain ⟨z, hz⟩ : ∃ z : Int, (m : Int) % 256 = z := ⟨_, rfl⟩
      have zb0 : 0 ≤ z := by omega
      have zb1 : z ≤ 255 := by omega
      have hq1 : (m : Int).tdiv 256 = (q : Int) := by rw [Int.tdiv_eq_ediv_of_nonneg (by omega)]; exact hq
      have hz1b : (m : Int).tmod 256 = z := by rw [Int.tmod_eq_emod_of_nonneg (by omega)]; exact hz
      have hnx : Hid (digs q ++ ([z] ++ x) = digs n) := by
        have e1 : digs m = digs (m / 256) ++ [((m % 256 : Nat) : Int)] := digs_pos h0
        have := hX.out
        unfold Hid
        rw [e1, show m / 256 = q by omega, show ((m % 256 : Nat) : Int) = z by omega, List.append_assoc] at this
        exact this
      have hql : q < m := by omega
      clear hq hz
      go_wp2_with (at_builtin; refine wpList_append_own _ rfl _ _ 22 rfl w.heap.size 5 i0 (.int .u8 0) 1 1 Try.underlying22 hi hz0 hz1 hz2 rfl (by decide) _ _ _ rfl (OwnInts.one _ .u8 wr w.heap.size z _ rfl hs).1 ⟨g, 0, none⟩ x.length cap (x.map (Value.int .u8)) rfl (by simp) (ints_cells (HO.out.alloc _).ints) (ints_one _ _) ?c1 ?c2 ?c3 ?_)
      case c1 => unfold maxLen; simp; omega
      case c2 => simp; omega
      case c3 => simp; omega
      intro v' w1 hown' hgrow hiff
      have hj := ints_join (x := [z]) (y := x) (OwnInts.one 5 .u8 wr w.heap.size z _ rfl hs) hown' hgrow hiff (HB.out.alloc hs _) (Nat.le_refl _) (by simp; omega)
      obtain ⟨hj1, hj2, hj3⟩ := hj
      obtain ⟨g2, cap2, rfl⟩ := hj1.form
      clear hown' hgrow hiff
      go_wp2
      go_roundw
      case rel => exact ⟨q, [z] ++ x, g2, cap2, rfl, rfl, by omega, hnx.out, hj1, hj2, hj3⟩
      case measure => simp [intOf]; omega

theorem OwnInts.put {t : TypeId} {k : IntKind} {w : World} {base g cap : Nat} {l : List Int} (h : OwnInts t k w base (.slice (some ⟨g, 0, none⟩) l.length cap) l) (j : Nat) (z : Int) :
    OwnInts t k (w.setCell ⟨g, j, none⟩ (.int k z)) base (.slice (some ⟨g, 0, none⟩) l.length cap) (l.set j z) := by
  refine ⟨?_, by simp⟩
  have := (h.1.stored j (.int k z)).1
  rw [List.length_set, List.map_set]
  exact this
theorem OwnInts.base_le {t : TypeId} {k : IntKind} {w : World} {base g n cap : Nat} {l : List Int} (h : OwnInts t k w base (.slice (some ⟨g, 0, none⟩) n cap) l) : base ≤ g ∧ g < w.heap.size := h.1.lt g rfl
theorem strCells_nums (s : ByteArray) : Lib.strCells s = (nums s).map (Value.int .u8) := by
  unfold Lib.strCells nums
  rw [List.map_map]
  rfl

set_option maxRecDepth 100000 in
set_option maxHeartbeats 2000000 in
theorem rwint_any (n : Int) (w : World) (n0 : -9223372036854775808 ≤ n) (n1 : n ≤ 9223372036854775807) : Calls Try.prog 12 #[.int .i64 n] w (GivesB (intB n) w) := by
  by_cases h : 0 ≤ n
  · have he : Hid (intB n = numB n.toNat) := by unfold Hid intB; rw [if_pos h]
    obtain ⟨N, rfl⟩ : ∃ N : Nat, n = N := ⟨n.toNat, by omega⟩
    have hw : IntKind.u64.wrap (N : Int) = (N : Int) := by rw [IntKind.wrap_u64]; omega
    go_enter Try.func12, Try.ntmps12
    go_wp2_with (go_at_call 11; (with_reducible refine (rwnum_any N _ (by omega)).mono ?_); rintro e w1 ⟨g, cap, rfl, hO, hB⟩; replace hO := Lib.hid hO)
    go_ret
    rw [he.out, Int.toNat_natCast]
    exact ⟨g, cap, rfl, hO.out, hB⟩
  · obtain ⟨N, rfl⟩ : ∃ N : Nat, n = -(N : Int) := ⟨(-n).toNat, by omega⟩
    have he : Hid (intB (-(N : Int)) = (numB N).set 0 (((digs N).length : Int) + 16)) := by
      unfold Hid intB
      rw [if_neg h, show (- -(N : Int)).toNat = N by omega]; rfl
    have hw : IntKind.u64.wrap (-(N : Int)) = 18446744073709551616 - (N : Int) := by rw [IntKind.wrap_u64]; omega
    have hw2 : IntKind.u64.wrap (-(18446744073709551616 - (N : Int))) = (N : Int) := by rw [IntKind.wrap_u64]; omega
    have hlen := digs_len8 (n := N) (by omega)
    have hw3 : IntKind.u8.wrap (((digs N).length : Int) + 16) = ((digs N).length : Int) + 16 := by rw [IntKind.wrap_u8]; omega
    have hN : N ≤ 18446744073709551615 := by omega
    go_enter Try.func12, Try.ntmps12
    go_wp2_with (go_at_call 11; (with_reducible refine (rwnum_any N _ hN).mono ?_); rintro e w1 ⟨g, cap, rfl, hO, hB⟩; have hc : w1.cell? ⟨g, 0, none⟩ = some (.int .u8 ((digs N).length : Int)) := (hO.ints.at (i := 0) (by unfold numB; simp)); have hf := hO.1.frozenAt 0; have hl1 : 0 < (numB N).length := (numB_len hN).1; replace hO := Lib.hid hO)
    go_ret
    have hp := hO.out.put 0 (((digs N).length : Int) + 16)
    rw [he.out]
    refine ⟨g, cap, by rw [List.length_set]; rfl, by rw [List.length_set]; exact hp, hB.setCell hO.out.base_le.1 _⟩

set_option maxRecDepth 100000 in
set_option maxHeartbeats 2000000 in
theorem rwtext_any (s : ByteArray) (w : World) (hs : s.size ≤ 1000000) : Calls Try.prog 13 #[.string s] w (GivesB (numB s.size ++ nums s) w) := by
  obtain ⟨i0, hi, hz0, hz1, hz2⟩ := info_parts info_byte
  have hw : IntKind.u64.wrap (s.size : Int) = (s.size : Int) := by rw [IntKind.wrap_u64]; omega
  have hl := (numB_len (n := s.size) (by omega)).2
  go_enter Try.func13, Try.ntmps13
  go_wp2_with (first
    | (go_at_call 11; (with_reducible refine (rwnum_any s.size _ (by omega)).mono ?_); rintro e w1 ⟨g, cap, rfl, hO, hB⟩; have HB := hB.size; replace hO := Lib.hid hO)
    | (at_builtin; refine Lib.wpList_append_own_string _ rfl _ _ 22 9 rfl w.heap.size 5 i0 Try.underlying22 Try.underlying9 hi hz0 hz1 hz2 _ _ _ rfl hO.out.1 s rfl ?c1 ?c2 ?c3 ?_))
  case c1 => unfold maxLen; omega
  case c2 => omega
  case c3 => exact HB
  intro v' w2 hown' hgrow hiff
  rw [strCells_nums] at hown'
  have hj := ints_join (x := numB s.size) (y := nums s) hO.out (by rw [nums_length]; exact hown') hgrow hiff hB (Nat.le_refl _) HB
  obtain ⟨hj1, hj2, hj3⟩ := hj
  obtain ⟨g2, cap2, rfl⟩ := hj1.form
  clear hown' hgrow hiff
  go_wp2
  go_ret
  exact ⟨g2, cap2, rfl, hj1, hj2⟩

theorem strOfNums_inj {a b : List Int} (ha : ∀ z ∈ a, 0 ≤ z ∧ z ≤ 255) (hb : ∀ z ∈ b, 0 ≤ z ∧ z ≤ 255) (h : strOfNums a = strOfNums b) : a = b := by
  rw [← nums_strOfNums a ha, ← nums_strOfNums b hb, h]
theorem rwsame_any (v1 v2 : Value) (a b : List Int) (w : World) (h1 : Ints .u8 w v1 a) (h2 : Ints .u8 w v2 b) (ha : ∀ z ∈ a, 0 ≤ z ∧ z ≤ 255) (hb : ∀ z ∈ b, 0 ≤ z ∧ z ≤ 255) :
    Calls Try.prog 14 #[v1, v2] w fun e w' => e = .returned (.bool (decide (a = b))) ∧ w = w' := by
  obtain ⟨g1, o1, c1, rfl, _, _, k1⟩ := h1
  obtain ⟨g2, o2, c2, rfl, _, _, k2⟩ := h2
  have hv1 := run_convert_bytes_arg (P := Try.prog) w 22 5 Try.underlying22 Try.underlying5 g1 o1 a.length c1 a rfl k1 9 Try.underlying9
  have hv2 := run_convert_bytes_arg (P := Try.prog) w 22 5 Try.underlying22 Try.underlying5 g2 o2 b.length c2 b rfl k2 9 Try.underlying9
  clear k1 k2
  by_cases he : a = b
  · subst he
    go_enter Try.func14, Try.ntmps14
    go_wp2
    go_ret
    exact ⟨by simp, rfl⟩
  · have hne : ((strOfNums a).toList == (strOfNums b).toList) = false := beq_eq_false_iff_ne.mpr fun h => he (strOfNums_inj ha hb (ByteArray.ext (Array.toList_inj.mp (by rw [← ByteArray.toList_eq, ← ByteArray.toList_eq]; exact h))))
    go_enter Try.func14, Try.ntmps14
    go_wp2
    go_ret
    exact ⟨by rw [decide_eq_false he]; rfl, rfl⟩

end Go.Proofs.Yteekpmpfgjpodaa
