/-
  Package text's calls, walked: Unquote.
-/
import Derived.Test.YtkhmaiggcihneaaDoorTxtH
import Derived.Test.YtkhmaiggcihneaaDoorTxtV
namespace Go.Proofs.YtkhmaiggcihneaaDoor
open Go.RowKit

theorem RS.iterAt {B b m : Nat} {u : Qs} {w : World} (h : RS B b m u w) {k : Nat} {s : ByteArray} {pos : Nat} (hk : w.heap[k]? = some (.stringIter s pos)) (pos' : Nat) : RS B b m u (w.iterAt k s pos') := by
  obtain ⟨ho, hl, n, d, hr, hn⟩ := h
  exact ⟨ho, hl, n, d, hr.iterAt hk pos', hn⟩
theorem RdF.below {B b : Nat} {a n d : Int} {zs : List Int} {w w' : World} (h : RdF B b a n d zs w) (g : Below w.heap.size w w') : RdF B b a n d zs w' := by
  have hlt := h.lt
  obtain ⟨hB, p, v, hp, hb, ho, hn, h0⟩ := h
  refine ⟨hB, p, v, hp, (g.block _ hlt).trans hb, ⟨ho.1, ?_⟩, hn, h0⟩
  rcases ho.2 with hx | ⟨x, cap, cur, fz, hv, hbg, hg, rest⟩
  · exact Or.inl hx
  · exact Or.inr ⟨x, cap, cur, fz, hv, hbg, (g.block _ (Array.getElem?_eq_some_iff.1 hg).1).trans hg, rest⟩
theorem RS.at {B b m : Nat} {u : Qs} {w : World} (h : RS B b m u w) : w.cell? ⟨b, 0, none⟩ = some (.int .i64 (qat u)) := by
  obtain ⟨_, _, n, d, hr, _⟩ := h
  exact hr.cells.1

set_option maxRecDepth 100000 in
set_option maxHeartbeats 2000000 in
theorem ttake_any (B b m : Nat) (u : Qs) (hu : u ≠ .dead) (r : Int) (hr : RuneOk r) (w : World) (h : RS B b m u w) (hm : m ≤ 4294967296) (hBw : B ≤ w.heap.size) :
    Calls Tryd.prog 29 #[.pointer (some ⟨b, 0, none⟩), .int .i32 r] w (TK B b m u r w) := by
  have c0 := h.at
  cases u with
  | dead => exact (hu rfl).elim
  | start =>
    clear hu
    obtain ⟨_, _, n, d, hrd, _⟩ := h
    have HR := Lib.hid hrd
    have hB := Lib.hid hrd.hB
    have f0 := hrd.cells.2.2.2 0
    clear hrd
    change w.cell? ⟨b, 0, none⟩ = some (.int .i64 0) at c0
    by_cases h34 : r = 34
    · subst h34
      go_enter Tryd.func29, Tryd.ntmps29
      go_wp2
      go_ret
      exact TK.yes (v := .norm []) rfl (by intro e; cases e) ⟨fun r hr => (by cases hr), Nat.zero_le _, n, d, HR.out.put0 1, trivial⟩ ((KF.refl _ _ _).put hB.out _ _)
    · have e34 : (r == 34) = false := by simpa using h34
      have hd : Hid (ustep .start r = .dead) := if_neg h34
      clear h34
      go_enter Tryd.func29, Tryd.ntmps29
      go_wp2
      go_ret
      exact TK.no hd.out ((KF.refl _ _ _).put hB.out _ _)
  | norm xs =>
    have HT := Lib.hid (tbetween_any B b m xs r hr w h hm hBw)
    clear hu h hr
    change w.cell? ⟨b, 0, none⟩ = some (.int .i64 1) at c0
    go_enter Tryd.func29, Tryd.ntmps29
    go_wp2_with (go_at_call 37; (with_reducible refine HT.out.mono ?_); rintro e w1 ⟨k1, ⟨rfl, h1, g1⟩ | ⟨rfl, h1⟩⟩ <;> (have K1 := Lib.hid k1; have H1 := Lib.hid h1; clear k1 h1))
    · have G1 := Lib.hid g1
      clear g1
      go_wp2
      go_ret
      exact ⟨K1.out, Or.inl ⟨rfl, H1.out, G1.out⟩⟩
    · go_wp2
      go_ret
      exact ⟨K1.out, Or.inr ⟨rfl, H1.out⟩⟩
  | esc xs =>
    have HT := Lib.hid (tescaped_any B b m xs r hr w h hm hBw)
    clear hu h hr
    change w.cell? ⟨b, 0, none⟩ = some (.int .i64 2) at c0
    go_enter Tryd.func29, Tryd.ntmps29
    go_wp2_with (go_at_call 38; (with_reducible refine HT.out.mono ?_); rintro e w1 ⟨k1, ⟨rfl, h1, g1⟩ | ⟨rfl, h1⟩⟩ <;> (have K1 := Lib.hid k1; have H1 := Lib.hid h1; clear k1 h1))
    · have G1 := Lib.hid g1
      clear g1
      go_wp2
      go_ret
      exact ⟨K1.out, Or.inl ⟨rfl, H1.out, G1.out⟩⟩
    · go_wp2
      go_ret
      exact ⟨K1.out, Or.inr ⟨rfl, H1.out⟩⟩
  | uni xs =>
    obtain ⟨ho, hl, n, d, hrd, hn, hd⟩ := h
    subst hn
    subst hd
    have HO := Lib.hid ho
    have HL := Lib.hid hl
    have HR := Lib.hid hrd
    have hB := Lib.hid hrd.hB
    have f0 := hrd.cells.2.2.2 0
    clear hrd ho hl hu
    change w.cell? ⟨b, 0, none⟩ = some (.int .i64 3) at c0
    by_cases h123 : r = 123
    · subst h123
      go_enter Tryd.func29, Tryd.ntmps29
      go_wp2
      go_ret
      exact TK.yes (v := .hex xs 0 0) rfl (by intro e; cases e) ⟨HO.out, Nat.le_succ_of_le HL.out, 0, 0, HR.out.put0 4, rfl, rfl, by omega, by omega, by decide⟩ ((KF.refl _ _ _).put hB.out _ _)
    · have e123 : (r == 123) = false := by simpa using h123
      have hd : Hid (ustep (.uni xs) r = .dead) := if_neg h123
      clear h123
      go_enter Tryd.func29, Tryd.ntmps29
      go_wp2
      go_ret
      exact TK.no hd.out ((KF.refl _ _ _).put hB.out _ _)
  | hex xs k x =>
    have HT := Lib.hid (tnumber_any B b m xs k x r w h hm hBw)
    clear hu h hr
    change w.cell? ⟨b, 0, none⟩ = some (.int .i64 4) at c0
    go_enter Tryd.func29, Tryd.ntmps29
    go_wp2_with (go_at_call 39; (with_reducible refine HT.out.mono ?_); rintro e w1 ⟨k1, ⟨rfl, h1, g1⟩ | ⟨rfl, h1⟩⟩ <;> (have K1 := Lib.hid k1; have H1 := Lib.hid h1; clear k1 h1))
    · have G1 := Lib.hid g1
      clear g1
      go_wp2
      go_ret
      exact ⟨K1.out, Or.inl ⟨rfl, H1.out, G1.out⟩⟩
    · go_wp2
      go_ret
      exact ⟨K1.out, Or.inr ⟨rfl, H1.out⟩⟩
  | done xs =>
    clear hu h
    change w.cell? ⟨b, 0, none⟩ = some (.int .i64 5) at c0
    go_enter Tryd.func29, Tryd.ntmps29
    go_wp2
    go_ret
    exact TK.no rfl (KF.refl _ _ _)

theorem runes_encs {xs : List Int} (h : ∀ r ∈ xs, RuneOk r) : runesOf (xs.flatMap encL) = xs := by
  induction xs with
  | nil => exact runes_nil
  | cons x xs ih =>
    rw [List.flatMap_cons, runes_enc (h x (by simp)), ih (fun r hr => h r (by simp [hr]))]
theorem qat_five {u : Qs} (h : ∀ xs, u ≠ .done xs) : (qat u != 5) = true := by
  cases u with
  | done xs => exact (h xs rfl).elim
  | _ => rfl

set_option maxRecDepth 100000 in
set_option maxHeartbeats 8000000 in
theorem tunq_any (s : ByteArray) (w : World) (env : Env w) (hm : s.size ≤ 4294967296) : Calls Tryd.prog 19 #[.string s] w (GivesUnq (runesOf (nums s)) w) := by
  have hlen : Hid ((nums s).length = s.size) := nums_length s
  by_cases hg : GoodL (runesOf (nums s))
  case neg =>
    have RG := Lib.hid (tgood_no env hm hg)
    have hbad := Lib.hid (NoQ.bad hg)
    clear hg
    go_enter Tryd.func19, Tryd.ntmps19
    go_wp2_with (go_at_call 10; (with_reducible refine RG.out.mono ?_); rintro e w1 ⟨rfl, g⟩; have G := Lib.hid g; clear g)
    go_ret2
    exact GivesUnq.word hbad.out G.out
  case pos =>
    have RG := Lib.hid (tgood_yes env hm hg)
    have HOK := Lib.hid (good_ok hg)
    have hll := runes_len (nums s)
    rw [hlen.out] at hll
    clear hg
    obtain ⟨l, hl⟩ : ∃ l, runesOf (nums s) = l := ⟨_, rfl⟩
    rw [hl] at HOK hll ⊢
    have HL := Lib.hid hl
    have HLL := Lib.hid hll
    have HE := Lib.hid env
    clear hl hll env
    go_enter Tryd.func19, Tryd.ntmps19
    go_wp2_with (go_at_call 10; (with_reducible refine RG.out.mono ?_); rintro e w1 ⟨rfl, g⟩; have G := Lib.hid g; clear g)
    obtain ⟨B, hBd⟩ : ∃ B, w.heap.size = B := ⟨_, rfl⟩
    obtain ⟨b, hbd⟩ : ∃ b, w1.heap.size = b := ⟨_, rfl⟩
    have hBb : B ≤ b := by have := G.out.size; omega
    have N1 := RdF.new w1 B b hbd.symm hBb
    have B1 : Below B w (w1.alloc (.cells #[.int .i64 0, .pointer none, .slice none 0 0, .int .i32 0, .int .i64 0] 48)) := by rw [← hBd]; exact below_more G.out _
    have S1 : (w1.alloc (.cells #[.int .i64 0, .pointer none, .slice none 0 0, .int .i32 0, .int .i64 0] 48)).heap.size = b + 1 := by rw [← hbd]; simp
    rw [hbd]
    generalize w1.alloc (.cells #[.int .i64 0, .pointer none, .slice none 0 0, .int .i32 0, .int .i64 0] 48) = w2 at N1 B1 S1 ⊢
    have N2 := Lib.hid (N1.alloc (.stringIter s 0))
    have B2 : Hid (Below B w (w2.iter s 0)) := B1.alloc (by omega) _
    have I2 : Hid ((w2.iter s 0).heap[b + 1]? = some (.stringIter s 0)) := by have := World.iter_heap w2 s 0; rw [S1] at this; exact this
    change Hid (RdF B b 0 0 0 [] (w2.iter s 0)) at N2
    generalize w2.iter s 0 = w3 at N2 B2 I2 ⊢
    have HBb := Lib.hid hBb
    have HBd := Lib.hid hBd
    clear N1 B1 S1 hBb hBd hbd G
    obtain ⟨I, hI⟩ : ∃ I, b + 1 = I := ⟨_, rfl⟩
    rw [hI] at I2 ⊢
    have hIb : Hid (I ≠ b) := (by omega : I ≠ b)
    have hBI : Hid (B ≤ I) := by have := HBb.out; unfold Hid; omega
    clear hI
    go_loopw [] (fun wr => ∃ (pos i : Nat) (u : Qs), u ≠ .dead ∧ pos ≤ s.size ∧ rfrom (nums s) pos = l.drop i ∧ i ≤ l.length ∧ ut l i = u ∧ RS B b i u wr ∧ wr.heap[I]? = some (.stringIter s pos) ∧ Below B w wr) (fun wr => s.size - wr.iterPos I)
    case atStart => exact ⟨0, 0, .start, (by intro e; cases e), Nat.zero_le _, HL.out, Nat.zero_le _, rfl, ⟨fun r hr => (by cases hr), Nat.zero_le _, 0, 0, N2.out, trivial⟩, I2.out, B2.out⟩
    case round =>
      obtain ⟨pos, i, u, hu, hp, hr, hil, hut, hS, hk, hb⟩ := hrel
      have HU := Lib.hid hu
      have HUT := Lib.hid hut
      have HR := Lib.hid hr
      have HB0 := Lib.hid hb
      clear hu hut hr hb
      by_cases h1 : pos < s.size
      · obtain ⟨y, hnx, y0, y1, ht⟩ := txt_rune wr I s pos hk h1
        have hR : rfrom (nums s) pos = runeA (nums s) pos :: rfrom (nums s) (pos + widA (nums s) pos) := rfrom_in (by rw [hlen.out]; exact h1)
        obtain ⟨hi0, hz, hr2⟩ := drop_cons (HR.out.symm.trans hR)
        have hmem : l.getD i 0 ∈ l := by rw [List.getD_eq_getElem?_getD, List.getElem?_eq_getElem hi0]; exact List.getElem_mem hi0
        have hok : RuneOk y := by
          rcases ht with ⟨e1, _⟩ | ⟨_, e2⟩
          · have := (HOK.out _ hmem).1; rw [hz, e1] at this; omega
          · rw [e2, ← hz]; exact HOK.out _ hmem
        have hzy : l.getD i 0 = y := by
          rcases ht with ⟨e1, _⟩ | ⟨_, e2⟩
          · have := (HOK.out _ hmem).1; rw [hz, e1] at this; omega
          · rw [e2, ← hz]
        have HZ := Lib.hid hzy
        have HRO := Lib.hid hok
        have HR2 := Lib.hid hr2.symm
        have hwid := Lib.hid (widA_pos (nums s) pos)
        have hwin := Lib.hid (widA_in (zs := nums s) (i := pos) (by rw [hlen.out]; exact h1))
        have HB := Lib.hid (Lib.below_iterAt HB0.out hBI.out s (pos + widA (nums s) pos))
        have hk2 := Lib.hid (Lib.iterAt_heap wr I s pos (pos + widA (nums s) pos) hk)
        have hk0 := Lib.hid hk
        have HS := Lib.hid (hS.iterAt hk (pos + widA (nums s) pos))
        have hi : Hid (i < l.length) := hi0
        clear ht hz hr2 hR hi0 hk hS hzy hok hmem
        obtain ⟨p2, hp2⟩ : ∃ p, pos + widA (nums s) pos = p := ⟨_, rfl⟩
        rw [hp2] at hnx HB hk2 HR2 hwin HS
        have hlt : Hid (pos < p2) := by have := hwid.out; unfold Hid; omega
        have hle : Hid (p2 ≤ s.size) := by have := hwin.out; rw [hlen.out] at this; exact this
        clear hp2 hwid hwin
        generalize wr.iterAt I s p2 = W1 at hnx HB hk2 HS
        have HT := Lib.hid (ttake_any B b i u HU.out y HRO.out W1 HS.out (by have := HLL.out; omega) (by have := HB.out.size; have := HBd.out; omega))
        have hnext := Lib.hid (ut_next HUT.out hi.out HZ.out)
        go_wp2_with (go_at_call 29; (with_reducible refine HT.out.mono ?_); rintro e w4 ⟨k1, ⟨rfl, h1', g1⟩ | ⟨rfl, h1'⟩⟩ <;> (have K1 := Lib.hid k1; have H1 := Lib.hid h1'; clear k1 h1'))
        · have G1 := Lib.hid g1
          clear g1
          have hk4 := Lib.hid (Lib.OthersKept.iter K1.out.2 hk2.out hIb.out)
          go_wp2
          go_roundw
          case rel => exact ⟨p2, i + 1, ustep u y, H1.out, hle.out, HR2.out, hi.out, hnext.out, G1.out, hk4.out, HB.out.trans K1.out.1⟩
          case measure => rw [iterPos_of hk4.out, iterPos_of hk0.out]; have := hlt.out; have := hle.out; omega
        · go_wp2
          go_ret2
          exact GivesUnq.word (NoQ.dead (hnext.out.trans H1.out)) (HBd.out ▸ HB.out.trans K1.out.1)
      · have hend : i = l.length := by
          have h5 := HR.out
          rw [rfrom_out (by rw [hlen.out]; exact h1)] at h5
          have h6 := congrArg List.length h5
          rw [List.length_drop] at h6
          simp at h6; omega
        have hnx := fun ty => Lib.run_next_end_at (P := Tryd.prog) wr I s pos ty hk h1
        have c0 := hS.at
        by_cases hdone : ∃ xs, u = .done xs
        · obtain ⟨xs, rfl⟩ := hdone
          have hfin : Hid (uf l = .done xs) := by rw [← ut_all, ← hend]; exact HUT.out
          obtain ⟨ho, hlx, n, d, hrd, _⟩ := hS
          change (∀ r ∈ xs, RuneOk r) at ho
          change xs.length ≤ i at hlx
          change RdF B b 5 n d (xs.flatMap encL) wr at hrd
          change wr.cell? ⟨b, 0, none⟩ = some (.int .i64 5) at c0
          have hbyte := encs_byte ho
          have HST := Lib.hid (fun w' (h : RdF B b 5 n d (xs.flatMap encL) w') (g : Below B w w') => bstrr_any B b 5 n d (xs.flatMap encL) hbyte w' h (by have := g.size; have := HBd.out; omega))
          have hsz : (strOfNums (xs.flatMap encL)).size ≤ 1099511627776 := by rw [str_size]; have := encs_len xs; have := HLL.out; omega
          have HC := Lib.hid (fun w' => tcount_big (strOfNums (xs.flatMap encL)) w' hsz)
          rw [nums_strOfNums _ hbyte, runes_encs ho] at HC
          have HRD := Lib.hid hrd
          clear hsz hbyte hrd hk hend ho hlx
          by_cases h120 : 120 < xs.length
          · have h120z : Hid (120 < xs.length) := h120
            have h120i : (120 : Int) < (xs.length : Int) := by omega
            clear h120
            go_wp2_with (first
              | (go_at_call 28; (with_reducible refine (HST.out _ HRD.out HB0.out).mono ?_); rintro e w4 ⟨rfl, h4, k4⟩; have H4 := Lib.hid h4; have K4 := Lib.hid k4; clear h4 k4)
              | (go_at_call 9; (with_reducible refine (HC.out _).mono ?_); rintro e w5 ⟨rfl, g5⟩; have G5 := Lib.hid g5; clear g5))
            go_ret2
            exact GivesUnq.long hfin.out h120z.out (HBd.out ▸ (HB0.out.trans K4.out.1).trans (G5.out.mono (by have := (HB0.out.trans K4.out.1).size; have := HBd.out; omega)))
          · have h120z : Hid (xs.length ≤ 120) := (by omega : xs.length ≤ 120)
            have h120i : ¬ (120 : Int) < (xs.length : Int) := by omega
            clear h120
            go_wp2_with (first
              | (go_at_call 28; (with_reducible refine (HST.out _ HRD.out HB0.out).mono ?_); rintro e w4 ⟨rfl, h4, k4⟩; have H4 := Lib.hid h4; have K4 := Lib.hid k4; have B4 := Lib.hid (HB0.out.trans K4.out.1); clear h4 k4 HRD)
              | (go_at_call 9; (with_reducible refine (HC.out _).mono ?_); rintro e w5 ⟨rfl, g5⟩; have H5 := Lib.hid (H4.out.below g5); have B5 := Lib.hid (B4.out.trans (g5.mono (by have := B4.out.size; have := HBd.out; omega))); clear g5 H4 B4 K4)
              | (go_at_call 28; (with_reducible refine (HST.out _ H5.out B5.out).mono ?_); rintro e w6 ⟨rfl, h6, k6⟩; have B6 := Lib.hid (B5.out.trans k6.1); clear h6 k6))
            go_ret2
            exact GivesUnq.fine hfin.out h120z.out (HBd.out ▸ B6.out)
        · have hno : Hid (NoQ l) := NoQ.over HUT.out hend (fun xs e => hdone ⟨xs, e⟩)
          have hne := qat_five (u := u) (fun xs e => hdone ⟨xs, e⟩)
          generalize qat u = q at c0 hne
          clear hdone hend hk hS
          go_wp2
          go_ret2
          exact GivesUnq.word hno.out (HBd.out ▸ HB0.out)

end Go.Proofs.YtkhmaiggcihneaaDoor
