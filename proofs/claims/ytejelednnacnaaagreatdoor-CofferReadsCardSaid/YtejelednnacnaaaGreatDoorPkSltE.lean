/-
  The statements of layer 11, walked over the contracts of package slots' calls: on, Snap, Lay; what calls come to where no fuse burns.
-/
import Derived.Test.YtejelednnacnaaaGreatDoorPkSltC
import Derived.Test.YtejelednnacnaaaGreatDoorPkSltR
import Derived.Test.YtejelednnacnaaaGreatDoorPkMarkB
import Derived.Lib.QuietBelow
namespace Go.Proofs.YtejelednnacnaaaGreatDoor
open Go.RowKit

/-- A write, where no fuse burns, and the blocks that it leans on then. -/
theorem bwrite_ng (base : Nat) (O : Foot) (r n size : Nat) (D : Dsk) (i : Nat) (v : Value) (b : List Int) (w : World) (h : DskIs w base O r D) (hn : NFd n size D) (hd : D.deeds ≤ 1000000) (hi : i < n) (hv : ArgB w v b) (hb : ∀ z ∈ b, 0 ≤ z ∧ z ≤ 255) (hl : b.length ≤ size) :
    Calls Tryz.prog 24 #[.pointer (some ⟨r, 0, none⟩), .int .i64 (i : Int), v] w fun e w' => ∃ D' O', e = .returned (.int .i64 0) ∧ NFd n size D' ∧ D'.deeds = D.deeds + 1 ∧ DskIs w' base O' r D' ∧ OnlyO base O w w' ∧ Grown O O' w.heap.size := by
  have q := h.ok.s1
  have qn := h.ok.n1
  rw [hn.size] at q
  rw [hn.n] at qn
  obtain ⟨q1, q2, q3⟩ := hn.write (i : Int) b (by omega) (by omega) hl
  refine (bwrite_any base O r D (i : Int) v b w h hd (by omega) (by omega) hv hb (by omega)).mono ?_
  rintro e w' ⟨rfl, O', d', o', g'⟩
  exact ⟨_, O', by rw [q1], q2, q3, d', o', g'⟩
set_option maxRecDepth 100000 in
set_option maxHeartbeats 4000000 in
theorem lslay_any (base : Nat) (O : Foot) (r n size : Nat) (D : Dsk) (at_ k : Nat) (v : Value) (b : List Int) (w : World) (h : DskIs w base O r D) (hn : NFd n size D) (hd : D.deeds + k ≤ 900000) (hat : at_ + k ≤ n) (hv : ArgB w v b) (hb : ∀ z ∈ b, 0 ≤ z ∧ z ≤ 255) (hy : b ≠ [] → ∀ i, v.ownBlock = some i → i < base) :
    Calls Tryz.prog 6 #[.pointer (some ⟨r, 0, none⟩), .int .i64 (at_ : Int), .int .i64 (k : Int), v] w fun e w' => ∃ D' O', e = .returned (.tuple #[]) ∧ NFd n size D' ∧ D'.waits.length ≤ D'.deeds ∧ D'.deeds ≤ D.deeds + k ∧ DskIs w' base O' r D' ∧ OnlyO base O w w' ∧ Grown O O' w.heap.size := by
  have HSZ := Lib.hid (bsize_any base O r D w h)
  have hsz := hn.size
  rw [hsz] at HSZ
  have n1 := h.ok.n1
  have s1 := h.ok.s1
  rw [hn.n] at n1
  rw [hsz] at s1
  have hbs : base ≤ w.heap.size := by have := h.own r h.mem; omega
  have HBS0 := Lib.hid hbs
  have HV := Lib.hid hv
  have HY := Lib.hid hy
  have HB := Lib.hid hb
  obtain ⟨va, vc, hve⟩ := hv.size
  obtain ⟨N, hN⟩ : ∃ m, b.length = m := ⟨_, rfl⟩
  rw [hN] at hve
  have HN := Lib.hid hN
  subst hve
  have HD := Lib.hid (And.intro h (And.intro hn hd))
  clear h hn hd hv hb hy hN hsz hbs
  go_enter Tryz.func6, Tryz.ntmps6
  go_wp2_with (go_at_call 25; (with_reducible refine (HSZ.out).mono ?_); rintro e w1 ⟨rfl, g1⟩; have G1 := Lib.hid g1; clear g1)
  go_loopw [9] (fun v9 wr => ∃ (i : Nat) (E : Dsk) (O1 : Foot), v9 = .int .i64 (i : Int) ∧ i ≤ k ∧ DskIs wr base O1 r E ∧ NFd n size E ∧ E.deeds ≤ D.deeds + i ∧ OnlyO base O w wr ∧ Grown O O1 w.heap.size) (fun v9 _ => k - (intOf v9).toNat)
  case atStart => exact ⟨0, D, O, rfl, Nat.zero_le _, HD.out.1.after G1.out, HD.out.2.1, Nat.le_refl _, OnlyO.of G1.out HBS0.out, Grown.refl _ _⟩
  case round =>
    obtain ⟨i, E, O1, rfl, hik, hE, hnf, hde, ho, hg⟩ := hrel
    have HNF := Lib.hid hnf
    have HDE : Hid (E.deeds ≤ D.deeds + i ∧ D.deeds + k ≤ 900000) := ⟨hde, HD.out.2.2⟩
    have HO := Lib.hid ho
    have HG := Lib.hid hg
    have HBS : Hid (base ≤ wr.heap.size) := Nat.le_trans HBS0.out ho.size
    have HE := Lib.hid hE
    have hArr : ArgB wr (.slice va N vc) b := HV.out.only ho (fun hn0 j hj hx => by have q1 := HY.out hn0 j hj; have q2 := (HD.out.1.own j hx).1; omega)
    clear hde hnf ho hg
    by_cases hlt : i < k
    case neg =>
      obtain rfl : i = k := by omega
      clear hArr hE
      go_wp2
      go_end0
      exact ⟨E, O1, rfl, HNF.out, HE.out.ok.wd, HDE.out.1, HE.out, HO.out, HG.out⟩
    case pos =>
    obtain ⟨wA, hwA⟩ : ∃ y, wr.alloc (.cells #[] 5) = y := ⟨_, rfl⟩
    obtain ⟨wn, hwn⟩ : ∃ x, wr.heap.size = x := ⟨_, rfl⟩
    have hbA : Below wr.heap.size wr wA := by rw [← hwA]; exact (Below.refl _ _).alloc (Nat.le_refl _) _
    have HbA := Lib.hid hbA
    have HEA := Lib.hid (hE.after hbA)
    have hAA := hArr.below hbA
    have hA0 : ArgB wA (.slice (some ⟨wn, 0, none⟩) 0 0) [] := Or.inr ⟨⟨wn, 0, none⟩, 0, rfl, Nat.le_refl _, fun j hj => by cases hj⟩
    obtain ⟨p, hp⟩ : ∃ p, i * size = p := ⟨_, rfl⟩
    have hpi : (i : Int) * (size : Int) = (p : Int) := by rw [← hp]; simp
    have hpb : p ≤ 400 * 512 := by rw [← hp]; exact Nat.mul_le_mul (by omega) s1
    have hatI : IntKind.i64.wrap ((at_ : Int) + (i : Int)) = (at_ : Int) + (i : Int) := by rw [IntKind.wrap_i64]; omega
    have HWN := Lib.hid hwn
    clear hp hbA hE hArr
    by_cases hin : p < N
    · obtain ⟨s1v, hrun1, hs1⟩ := slice_from hAA p (by rw [HN.out]; omega)
      obtain ⟨a1, c1, he1⟩ := hs1.size
      have hl1 : (b.drop p).length = N - p := by rw [List.length_drop, HN.out]
      rw [hl1] at he1
      obtain ⟨N1, hN1⟩ : ∃ m, N - p = m := ⟨_, rfl⟩
      rw [hN1] at he1 hl1
      subst he1
      by_cases hbig : size < N1
      · obtain ⟨s2v, hrun2, hs2⟩ := slice_upto hs1 size (by rw [hl1]; omega)
        obtain ⟨a2, c2, he2⟩ := hs2.size
        have hl2 : ((b.drop p).take size).length = size := by rw [List.length_take, hl1]; omega
        rw [hl2] at he2
        subst he2
        have HXA := Lib.hid hs2
        have HXB : Hid (∀ z ∈ (b.drop p).take size, 0 ≤ z ∧ z ≤ 255) := fun z hz => HB.out z (List.mem_of_mem_drop (List.mem_of_mem_take hz))
        have HXL : Hid (((b.drop p).take size).length ≤ size) := by unfold Hid; rw [hl2]; exact Nat.le_refl _
        clear hs1 hs2 hl1 hl2 hN1 hA0 hAA
        have HWR := Lib.hid (bwrite_ng base O1 r n size E (at_ + i) (.slice a2 size c2) ((b.drop p).take size) wA HEA.out HNF.out (by have := HDE.out; omega) (by omega) HXA.out HXB.out HXL.out)
        rw [Int.natCast_add] at HWR
        go_wp2_with (go_at_call 24; (with_reducible refine (HWR.out).mono ?_); rintro e w2 ⟨E2, O2, rfl, n2, de2, d2, o2, g2⟩; have N2 := Lib.hid n2; have DE2 := Lib.hid de2; have H2 := Lib.hid d2; have HO2 := Lib.hid ((HO.out.trans ((OnlyO.of HbA.out HBS.out : OnlyO base O1 wr wA).trans o2 (Grown.refl _ _)) HG.out)); have HG2 := Lib.hid (HG.out.trans g2 (Nat.le_trans HO.out.size HbA.out.size)); clear n2 de2 d2 o2 g2)
        go_roundw
        case rel => exact ⟨i + 1, E2, O2, by go_num, hlt, H2.out, N2.out, by have := DE2.out; have := HDE.out; omega, HO2.out, HG2.out⟩
        case measure => simp [intOf]; omega
      · have HXA := Lib.hid hs1
        have HXB : Hid (∀ z ∈ b.drop p, 0 ≤ z ∧ z ≤ 255) := fun z hz => HB.out z (List.mem_of_mem_drop hz)
        have HXL : Hid ((b.drop p).length ≤ size) := by unfold Hid; rw [hl1]; omega
        clear hs1 hl1 hN1 hA0 hAA
        have HWR := Lib.hid (bwrite_ng base O1 r n size E (at_ + i) (.slice a1 N1 c1) (b.drop p) wA HEA.out HNF.out (by have := HDE.out; omega) (by omega) HXA.out HXB.out HXL.out)
        rw [Int.natCast_add] at HWR
        go_wp2_with (go_at_call 24; (with_reducible refine (HWR.out).mono ?_); rintro e w2 ⟨E2, O2, rfl, n2, de2, d2, o2, g2⟩; have N2 := Lib.hid n2; have DE2 := Lib.hid de2; have H2 := Lib.hid d2; have HO2 := Lib.hid ((HO.out.trans ((OnlyO.of HbA.out HBS.out : OnlyO base O1 wr wA).trans o2 (Grown.refl _ _)) HG.out)); have HG2 := Lib.hid (HG.out.trans g2 (Nat.le_trans HO.out.size HbA.out.size)); clear n2 de2 d2 o2 g2)
        go_roundw
        case rel => exact ⟨i + 1, E2, O2, by go_num, hlt, H2.out, N2.out, by have := DE2.out; have := HDE.out; omega, HO2.out, HG2.out⟩
        case measure => simp [intOf]; omega
    · have HXA := Lib.hid hA0
      have HXB : Hid (∀ z ∈ ([] : List Int), 0 ≤ z ∧ z ≤ 255) := fun z hz => by cases hz
      have HXL : Hid (([] : List Int).length ≤ size) := Nat.zero_le _
      clear hA0 hAA
      have HWR := Lib.hid (bwrite_ng base O1 r n size E (at_ + i) (.slice (some ⟨wn, 0, none⟩) 0 0) ([]) wA HEA.out HNF.out (by have := HDE.out; omega) (by omega) HXA.out HXB.out HXL.out)
      rw [Int.natCast_add] at HWR
      go_wp2_with (go_at_call 24; (with_reducible refine (HWR.out).mono ?_); rintro e w2 ⟨E2, O2, rfl, n2, de2, d2, o2, g2⟩; have N2 := Lib.hid n2; have DE2 := Lib.hid de2; have H2 := Lib.hid d2; have HO2 := Lib.hid ((HO.out.trans ((OnlyO.of HbA.out HBS.out : OnlyO base O1 wr wA).trans o2 (Grown.refl _ _)) HG.out)); have HG2 := Lib.hid (HG.out.trans g2 (Nat.le_trans HO.out.size HbA.out.size)); clear n2 de2 d2 o2 g2)
      go_roundw
      case rel => exact ⟨i + 1, E2, O2, by go_num, hlt, H2.out, N2.out, by have := DE2.out; have := HDE.out; omega, HO2.out, HG2.out⟩
      case measure => simp [intOf]; omega

/-- Format, where no fuse burns. -/
theorem sformat_nf (base : Nat) (O : Foot) (r n size : Nat) (D : Dsk) (f k : Nat) (zf zk : Int) (ef : zf = (f : Int)) (ek : zk = (k : Int)) (w : World) (env : Env w) (h : DskIs w base O r D) (hn : NFd n size D) (k1 : 1 ≤ k) (on : f + 2 * k ≤ n) (hw : D.waits = []) (hd : D.deeds ≤ 900000) :
    Calls Tryz.prog 54 #[.pointer (some ⟨r, 0, none⟩), .int .i64 zf, .int .i64 zk] w fun e w' => ∃ D', e = .returned (.int .i64 0) ∧ NFd n size D' ∧ D'.waits = [] ∧ D'.deeds ≤ D.deeds + 1000 ∧ slotsL (f * size) (k * size) D'.last = (0, []) ∧ Beside (f * size) (k * size + k * size) D.last D'.last ∧ DskTo base O r D' w w' := by
  subst ef ek
  have hfit : f * size + (k * size + k * size) ≤ D.last.length := by
    have q : (f + 2 * k) * size ≤ n * size := Nat.mul_le_mul_right _ on
    rw [h.ok.ll, hn.n, hn.size]
    rw [Nat.add_mul, Nat.mul_assoc, Nat.two_mul] at q
    exact q
  refine (sformat_any base O r D f k w env h k1 (by rw [hn.n]; exact on) hn.dark hw hd).mono ?_
  rintro e w' ⟨c, D', rfl, ⟨hs, ⟨rfl, hdn⟩ | ⟨_, hdk⟩⟩, ht⟩
  · have hl := hdn.last
    rw [hn.size] at hl
    obtain ⟨q1, q2⟩ := laid_reg (lo := f * size) (M := k * size + k * size) (by simp) hfit hl
    exact ⟨D', rfl, hn.step hs hdn.dark, hdn.waits, hs.hi, slots_fresh q1, q2, ht⟩
  · exact (hdk.fuse hn.fuse).elim
/-- Put, where no fuse burns. -/
def GivesSn (base : Nat) (O OS : Foot) (r gs n size : Nat) (D : Dsk) (G : Sl) (b : List Int) (w : World) (e : Ending) (w' : World) : Prop :=
  ∃ D' O' OS', e = .returned (.int .i64 0) ∧ NFd n size D' ∧ D'.deeds ≤ D.deeds + 1000 ∧ DskIs w' base O' r D' ∧ SlIs w' base OS' gs r { G with ep := G.ep + 1, b := b } ∧ SlotsOn D' { G with ep := G.ep + 1, b := b } ∧ Beside (G.from_ * G.size) (G.n * G.size + G.n * G.size) D.last D'.last ∧ (∀ i, O' i → ¬ OS' i) ∧
    OnlyO base (fun i => O i ∨ OS i) w w' ∧ Grown (fun i => O i ∨ OS i) (fun i => O' i ∨ OS' i) w.heap.size
/-- Open, where no fuse burns. -/
theorem sopen_nf (base : Nat) (O : Foot) (r n size : Nat) (D : Dsk) (f k : Nat) (zf zk : Int) (ef : zf = (f : Int)) (ek : zk = (k : Int)) (ep : Nat) (b : List Int) (w : World) (env : Env w) (h : DskIs w base O r D) (hn : NFd n size D) (k1 : 1 ≤ k) (on : f + 2 * k ≤ n) (hw : D.waits = []) (hd : D.deeds ≤ 900000) (hs : slotsL (f * size) (k * size) D.last = (ep, b)) :
    Calls Tryz.prog 48 #[.pointer (some ⟨r, 0, none⟩), .int .i64 zf, .int .i64 zk] w fun e w' => ∃ gs OS, e = .returned (.tuple #[.pointer (some ⟨gs, 0, none⟩), .int .i64 0]) ∧ Below w.heap.size w w' ∧ SlIs w' w.heap.size OS gs r ⟨f, k, size, ep, b, false⟩ := by
  subst ef ek
  refine (sopen_any base O r D f k w env h k1 (by rw [hn.n]; exact on) hn.dark hw hd).mono ?_
  rintro e w' ⟨gs, OS, rfl, hb, hl⟩
  rw [hn.size, hs] at hl
  exact ⟨gs, OS, rfl, hb, hl⟩
theorem slots_on {D : Dsk} {n size f k ep : Nat} {b : List Int} (hn : NFd n size D) (hw : D.waits = []) (hs : slotsL (f * size) (k * size) D.last = (ep, b)) (k1 : 1 ≤ k) (on : f + 2 * k ≤ n) (he : ep ≤ 18446744073709551615) : SlotsOn D ⟨f, k, size, ep, b, false⟩ :=
  ⟨k1, by show f + 2 * k ≤ D.n; rw [hn.n]; exact on, hn.size.symm, rfl, hs, he, hn.dark, hw⟩
theorem arg_made (w : World) (g : Nat) (l : List Int) (fr : Nat × Nat) (hg : g = w.heap.size) : ArgB (w.alloc (.cells (l.map (Value.int .u8)).toArray 5 fr)) (.slice (some ⟨g, 0, none⟩) l.length l.length) l := by
  subst hg
  refine Or.inr ⟨⟨w.heap.size, 0, none⟩, l.length, rfl, Nat.le_refl _, fun i hi => ?_⟩
  have e : (⟨w.heap.size, 0, none⟩ : Addr).add i = ⟨w.heap.size, i, none⟩ := by unfold Addr.add; split <;> simp_all
  rw [e, World.cell?_alloc_mark, List.getD_eq_getElem?_getD, List.getElem?_eq_getElem hi]
  simp [hi]
theorem const13 (W : World) : (convert 22 22 (.slice (some ⟨W.heap.size, 0, none⟩) 13 13)).run Tryz.prog (W.alloc (.cells #[.int .u8 116, .int .u8 104, .int .u8 105, .int .u8 114, .int .u8 116, .int .u8 101, .int .u8 101, .int .u8 110, .int .u8 98, .int .u8 121, .int .u8 116, .int .u8 101, .int .u8 115] 5)) = .ok (.slice (some ⟨W.heap.size, 0, none⟩) 13 13) (W.alloc (.cells #[.int .u8 116, .int .u8 104, .int .u8 105, .int .u8 114, .int .u8 116, .int .u8 101, .int .u8 101, .int .u8 110, .int .u8 98, .int .u8 121, .int .u8 116, .int .u8 101, .int .u8 115] 5 (13, 14))) :=
  Go.Joins.run_convert_bytes_const_at (P := Tryz.prog) W 22 5 #[.int .u8 116, .int .u8 104, .int .u8 105, .int .u8 114, .int .u8 116, .int .u8 101, .int .u8 101, .int .u8 110, .int .u8 98, .int .u8 121, .int .u8 116, .int .u8 101, .int .u8 115] 13 13 W.heap.size rfl Tryz.underlying22 Tryz.underlying5
theorem arg13 (W : World) : ArgB (W.alloc (.cells #[.int .u8 116, .int .u8 104, .int .u8 105, .int .u8 114, .int .u8 116, .int .u8 101, .int .u8 101, .int .u8 110, .int .u8 98, .int .u8 121, .int .u8 116, .int .u8 101, .int .u8 115] 5 (13, 14))) (.slice (some ⟨W.heap.size, 0, none⟩) 13 13) [116, 104, 105, 114, 116, 101, 101, 110, 98, 121, 116, 101, 115] := arg_made W W.heap.size [116, 104, 105, 114, 116, 101, 101, 110, 98, 121, 116, 101, 115] (13, 14) rfl
theorem bel13 (W : World) : Below W.heap.size W (W.alloc (.cells #[.int .u8 116, .int .u8 104, .int .u8 105, .int .u8 114, .int .u8 116, .int .u8 101, .int .u8 101, .int .u8 110, .int .u8 98, .int .u8 121, .int .u8 116, .int .u8 101, .int .u8 115] 5 (13, 14))) := (Below.refl _ _).alloc (Nat.le_refl _) _
theorem str13 : strOfNums [116, 104, 105, 114, 116, 101, 101, 110, 98, 121, 116, 101, 115] = ⟨#[116, 104, 105, 114, 116, 101, 101, 110, 98, 121, 116, 101, 115]⟩ := rfl
end Go.Proofs.YtejelednnacnaaaGreatDoor
