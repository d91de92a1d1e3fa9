/-
  The laws of layer 8, walked over the contracts: CrcTorn.
-/
import Derived.Test.YtiephcjdbndjaaaDoorCrcK
import Derived.Test.YtiephcjdbndjaaaDoorZeros
namespace Go.Proofs.YtiephcjdbndjaaaDoor
open Go.RowKit

/-- The first ones of a list made 0. -/
def zeroed (F : List Int) (i : Nat) : List Int := List.replicate i 0 ++ F.drop i
theorem zeroed_len {F : List Int} {i : Nat} (h : i ≤ F.length) : (zeroed F i).length = F.length := by unfold zeroed; rw [List.length_append, List.length_replicate, List.length_drop]; omega
theorem zeroed_next {F : List Int} {i : Nat} (h : i < F.length) : (zeroed F i).set i 0 = zeroed F (i + 1) := by
  unfold zeroed
  rw [List.set_append_right _ _ (by simp), List.length_replicate, Nat.sub_self, List.drop_eq_getElem_cons h, List.set_cons_zero, List.replicate_succ', List.append_assoc]
  rfl
theorem zeroed_byte {F : List Int} (h : ∀ z ∈ F, 0 ≤ z ∧ z ≤ 255) (i : Nat) : ∀ z ∈ zeroed F i, 0 ≤ z ∧ z ≤ 255 := by
  intro z hz
  rcases List.mem_append.mp hz with hz | hz
  · obtain ⟨_, rfl⟩ := List.mem_replicate.mp hz
    omega
  · exact h z (List.mem_of_mem_drop hz)
theorem call_none {v : Value} {B : List Int} {w : World} (env : Env w) (hv : ArgB w v B) (hb : ∀ z ∈ B, 0 ≤ z ∧ z ≤ 255) (hl : B.length ≤ 1000000) (h : openL B = none) :
    Calls Tryd.prog 15 #[v] w fun e w' => (∃ a c, e = .returned (.tuple #[.slice a 0 c, .int .i64 0])) ∧ Below w.heap.size w w' := by
  refine (call_any v B w env hv hb hl).mono ?_
  rintro e w' ⟨vv, rfl, hL, hB⟩
  rw [allL_none h] at hL
  obtain ⟨a, c, rfl⟩ := hL.size
  exact ⟨⟨a, c, by rw [allL_none h]; rfl⟩, hB⟩

set_option maxRecDepth 100000 in
set_option maxHeartbeats 8000000 in
theorem crctorn_walk (v : Value) (at_ : Int) (l : List Int) (w : World) (env : Env w) (hv : ArgB w v l) (hb : ∀ z ∈ l, 0 ≤ z ∧ z ≤ 255) (_a0 : -9223372036854775808 ≤ at_) (_a1 : at_ ≤ 9223372036854775807) :
    Calls Tryd.prog 5 #[v, .int .i64 at_] w fun e w' => e = .returned (.bool true) ∧ Below w.heap.size w w' := by
  have HW := Lib.hid (crc_awake w env)
  obtain ⟨a, cap, rfl⟩ := hv.size
  by_cases h2 : 2000 < l.length
  · have hgt : (2000 : Int) < (l.length : Int) := by omega
    clear hv hb env h2
    go_enter Tryd.func5, Tryd.ntmps5
    go_wp2_with (go_at_call 6; (with_reducible refine HW.out.mono ?_); rintro e w1 ⟨rfl, g⟩; have G := Lib.hid g; clear g)
    go_ret
    exact ⟨rfl, G.out⟩
  have hgt : ¬ (2000 : Int) < (l.length : Int) := by omega
  have HV := Lib.hid hv
  have HE := Lib.hid env
  have HBy := Lib.hid hb
  have Ll : Hid (l.length ≤ 2000) := (by omega : l.length ≤ 2000)
  clear hv hb env
  obtain ⟨F, hF⟩ : ∃ F, frameL l = F := ⟨_, rfl⟩
  have lF : F.length = l.length + 10 := by rw [← hF, frameL_len]
  have hF2 : F.length ≤ 2010 := by omega
  have hF1 : 10 ≤ F.length := by omega
  have FB : Hid (∀ z ∈ F, 0 ≤ z ∧ z ≤ 255) := by rw [← hF]; exact frameL_byte HBy.out
  have CFr := Lib.hid (fun W (g : Below w.heap.size w W) => cframe_any (.slice a l.length cap) l W (HE.out.step g) (HV.out.below g) HBy.out (by have := Ll.out; omega))
  rw [hF] at CFr
  obtain ⟨u, hu⟩ : ∃ u : Nat, IntKind.u64.wrap at_ = (u : Int) := ⟨(IntKind.u64.wrap at_).toNat, by rw [IntKind.wrap_u64]; omega⟩
  obtain ⟨k, hk⟩ : ∃ k : Nat, u % F.length = k := ⟨_, rfl⟩
  have hkl : k < F.length := by rw [← hk]; exact Nat.mod_lt u (by omega)
  have e2 : (u : Int) % (F.length : Int) = (k : Int) := by rw [← hk]; simp
  have e1 : (u : Int).tmod (F.length : Int) = (k : Int) := by rw [Int.tmod_eq_emod_of_nonneg (by omega)]; exact e2
  have w1 : IntKind.u64.wrap (F.length : Int) = (F.length : Int) := by rw [IntKind.wrap_u64]; omega
  have z1 : ((F.length : Int) == 0) = false := beq_eq_false_iff_ne.mpr (by omega)
  have hk64 : wrap64 (k : Int) = (k : Int) := by have h1 := hkl; have h2 := hF2; clear e1 e2 w1 z1; unfold wrap64; omega
  have e0 : wrap64 ((IntKind.u64.wrap at_).tmod (F.length : Int)) = (k : Int) := by rw [hu, e1, hk64]
  obtain ⟨m, hm⟩ : ∃ m : Nat, F.length - k + 20 = m := ⟨_, rfl⟩
  have hmz : (F.length : Int) - (k : Int) + 20 = (m : Int) := by omega
  have hmp : Hid (0 < m) := (by omega : 0 < m)
  have hml : Hid (k + m ≤ 3000) := (by omega : k + m ≤ 3000)
  obtain ⟨X, hX⟩ : ∃ X, F.take k ++ List.replicate m 0 = X := ⟨_, rfl⟩
  have LX : Hid (X.length ≤ 1000000) := by unfold Hid; rw [← hX, List.length_append, List.length_take, List.length_replicate]; omega
  have XB : Hid (∀ z ∈ X, 0 ≤ z ∧ z ≤ 255) := fun z hz => by
    rw [← hX] at hz
    rcases List.mem_append.mp hz with hz | hz
    · exact FB.out z (List.mem_of_mem_take hz)
    · obtain ⟨_, rfl⟩ := List.mem_replicate.mp hz
      omega
  have XO : Hid (openL X = none) := by rw [← hX, ← hF]; exact open_torn (by have := Ll.out; omega) (by omega)
  have HX := Lib.hid hX
  have HF := Lib.hid hF
  have KL := Lib.hid hkl
  obtain ⟨T, hT⟩ : ∃ T, F.take k = T := ⟨_, rfl⟩
  have HTk : Hid (T.length = k) := by unfold Hid; rw [← hT, List.length_take]; omega
  have HT := Lib.hid hT
  rw [hT] at HX
  clear hT
  clear hX hF hu hk e1 e2 hm h2 lF hk64
  go_enter Tryd.func5, Tryd.ntmps5
  go_wp2_with (first
    | (go_at_call 6; (with_reducible refine HW.out.mono ?_); rintro e w1 ⟨rfl, g⟩; have G := Lib.hid g; clear g)
    | (go_at_call 10; (with_reducible refine (CFr.out _ G.out).mono ?_); rintro e w2 ⟨vf, rfl, hA2, g2⟩; have A2 := Lib.hid hA2; obtain ⟨af, cf, rfl⟩ := hA2.size; have G2 := Lib.hid (below_step G.out g2); have O2 := Lib.hid (OwnInts.fresh 5 .u8 w2 w2.heap.size w2.heap.size rfl (Nat.le_refl _)); have D3 := Lib.hid ((Below.refl w2.heap.size w2).alloc (Nat.le_refl _) (.cells #[] 5)); have S3 := Lib.hid D3.out.size; obtain ⟨s1, hs1, hA1⟩ := slice_to hA2 k (Nat.le_of_lt KL.out); rw [HT.out] at hA1; have A1 := Lib.hid (hA1.below D3.out); clear hA2 g2 hA1)
    | (at_builtin; refine wp_join rfl _ _ rfl w2.heap.size _ [] rfl O2.out _ T rfl A1.out (by have := HTk.out; have := hml.out; simp only [List.length_nil]; omega) S3.out ?_; intro v4 w4 h4 b4 _ s4; have D4 := Lib.hid (D3.out.trans b4); have H4 := Lib.hid (show OwnInts 5 .u8 w4 w2.heap.size v4 T from h4); obtain ⟨g4, c4, rfl⟩ := H4.out.form; have S4 := Lib.hid s4; clear h4 b4 s4)
    | (at_builtin; refine wp_zeros rfl _ _ rfl w2.heap.size _ T rfl H4.out m hmp.out rfl (by have := HTk.out; have := hml.out; omega) S4.out ?_; intro v5 w5 h5 b5 s5; have D5 := Lib.hid (D4.out.trans b5); rw [HX.out] at h5; have H5 := Lib.hid h5; obtain ⟨g5, c5, rfl⟩ := h5.form; have A5 := Lib.hid H5.out.argB; have E5 := Lib.hid (HE.out.step (below_step G2.out D5.out)); clear h5 b5 s5)
    | (go_at_call 11; (with_reducible refine (copen_none E5.out A5.out XB.out LX.out XO.out).mono ?_); rintro e w6 ⟨⟨ax, cx, rfl⟩, g6⟩; have D6 := Lib.hid (below_step D5.out g6); have X6 := Lib.hid (A5.out.below g6); have O6 := Lib.hid (OwnInts.fresh 5 .u8 w6 w6.heap.size w6.heap.size rfl (Nat.le_refl _)); have D7 := Lib.hid ((Below.refl w6.heap.size w6).alloc (Nat.le_refl _) (.cells #[] 5)); have A7 := Lib.hid (A2.out.below (below_step D6.out D7.out)); have S7 := Lib.hid D7.out.size; clear g6)
    | (at_builtin; refine wp_join rfl _ _ rfl w6.heap.size _ [] rfl O6.out _ F rfl A7.out (by simp only [List.length_nil]; omega) S7.out ?_; intro v8 w8 h8 b8 _ s8; have D8 := Lib.hid (D7.out.trans b8); have H8 := Lib.hid (show OwnInts 5 .u8 w8 w6.heap.size v8 F from h8); obtain ⟨g8, c8, rfl⟩ := H8.out.form; clear h8 b8 s8))
  have B6 : Hid (w6.heap.size ≤ w8.heap.size) := D8.out.size
  have G8 := Lib.hid (below_step (below_step G2.out D6.out) D8.out)
  have H8z : Hid (OwnInts 5 .u8 w8 w6.heap.size (.slice (some ⟨g8, 0, none⟩) (zeroed F 0).length c8) (zeroed F 0)) := H8.out
  obtain ⟨b6, hb6⟩ : ∃ b, w6.heap.size = b := ⟨_, rfl⟩
  have W6 : Hid (w.heap.size ≤ b6) := by have := (below_step G2.out D6.out).size; unfold Hid; omega
  rw [hb6] at H8z B6
  have D8b : Hid (Below b6 w6 w8) := by have := D8.out; rw [hb6] at this; exact this
  have X6c : Hid (∀ W, Below b6 w6 W → ArgB W (.slice (some ⟨g5, 0, none⟩) X.length c5) X) := fun W g => X6.out.below (by rw [hb6]; exact g)
  have hkF : k + 1 ≤ F.length := by have := KL.out; omega
  clear A2 O2 D3 S3 A1 D4 H4 S4 D5 H5 A5 E5 D6 X6 O6 D7 A7 S7 H8 G hs1
  go_loopw [12] (fun v12 wr => ∃ i : Nat, v12 = .int .i64 (i : Int) ∧ i ≤ k + 1 ∧ OwnInts 5 .u8 wr b6 (.slice (some ⟨g8, 0, none⟩) F.length c8) (zeroed F i) ∧ Below b6 w8 wr) (fun v12 _ => k + 1 - (intOf v12).toNat)
  case atStart => exact ⟨0, rfl, Nat.zero_le _, H8z.out, Below.refl _ _⟩
  case round =>
    obtain ⟨i, rfl, hi, hO, hB⟩ := hrel
    have HO := Lib.hid hO
    have HB := Lib.hid hB
    clear hO hB
    by_cases hik : i ≤ k
    · have hz := zeroed_len (F := F) (i := i) (by omega)
      have hc : wr.cell? ⟨g8, i, none⟩ = some (.int .u8 ((zeroed F i).getD i 0)) := by
        have := HO.out.ints.at (i := i) (by rw [hz]; omega)
        simpa using this
      have hf : wr.frozen? ⟨g8, i, none⟩ = false := by have h5 := HO.out; rw [← hz] at h5; exact h5.1.frozenAt i
      have hO2 : Hid (OwnInts 5 .u8 (wr.setCell ⟨g8, i, none⟩ (.int .u8 0)) b6 (.slice (some ⟨g8, 0, none⟩) F.length c8) (zeroed F (i + 1))) := by
        have h5 := HO.out
        rw [← hz] at h5
        have h6 := h5.put i 0
        rw [zeroed_next (by omega), hz] at h6
        exact h6
      have hg8 := HO.out.base_le.1
      have hB2 := Lib.hid (HB.out.setCell (p := ⟨g8, i, none⟩) hg8 (.int .u8 0))
      have ik1 : (i : Int) ≤ (k : Int) := by omega
      have ilen : (i : Int) < (F.length : Int) := by omega
      clear hz
      go_wp2
      go_roundw
      case rel => exact ⟨i + 1, by go_num, by omega, hO2.out, hB2.out⟩
      case measure => simp [intOf]; omega
    · obtain rfl : i = k + 1 := by omega
      have hY : Hid (openL (zeroed F (k + 1)) = none) := open_first (by unfold zeroed; rw [List.replicate_succ]; simp)
      have hYb : Hid (∀ z ∈ zeroed F (k + 1), 0 ≤ z ∧ z ≤ 255) := zeroed_byte FB.out _
      have hYl : Hid ((zeroed F (k + 1)).length ≤ 1000000) := by unfold Hid; rw [zeroed_len hkF]; omega
      have GB := Lib.hid (show Below w.heap.size w wr from G8.out.trans (HB.out.mono W6.out))
      have AX := Lib.hid (X6c.out wr (D8b.out.trans HB.out))
      have hOz : Hid (ArgB wr (.slice (some ⟨g8, 0, none⟩) F.length c8) (zeroed F (k + 1))) := HO.out.argB
      have EY := Lib.hid (HE.out.step GB.out)
      have hkk : ¬ ((k : Int) + 1 ≤ (k : Int)) := by omega
      go_wp2_with (first
        | (go_at_call 11; (with_reducible refine (copen_none EY.out hOz.out hYb.out hYl.out hY.out).mono ?_); rintro e w9 ⟨⟨ay, cy, rfl⟩, g⟩; have D9 := Lib.hid (below_step GB.out g); have X9 := Lib.hid (AX.out.below g); clear g)
        | (go_at_call 15; (with_reducible refine (call_none (HE.out.step D9.out) X9.out XB.out LX.out XO.out).mono ?_); rintro e w10 ⟨⟨az, cz, rfl⟩, g⟩; have D10 := Lib.hid (below_step D9.out g); clear g))
      go_ret
      exact ⟨rfl, D10.out⟩

end Go.Proofs.YtiephcjdbndjaaaDoor
