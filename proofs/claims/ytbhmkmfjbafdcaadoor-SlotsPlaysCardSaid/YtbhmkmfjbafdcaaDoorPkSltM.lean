/-
  Package slots as it landed: a snapshot's frame, put into its slot; Put: walked.
-/
import Derived.Test.YtbhmkmfjbafdcaaDoorPkSltL
namespace Go.Proofs.YtbhmkmfjbafdcaaDoor
open Go.RowKit

theorem concat_pair (v u : Value) (l m : List Int) (w : World) (g : Nat) (t : TypeId) (hg : g = w.heap.size) (hv : ArgB w v l) (hu : ArgB w u m) (h0 : 0 < l.length) (hl : l.length ≤ 1000000) (hm : m.length ≤ 1000000) :
    Calls Tryd.prog 65 #[.slice (some ⟨g, 0, none⟩) 2 2] (w.alloc (.cells #[v, u] t)) fun e w' => ∃ x, e = .returned x ∧ OwnInts 5 .u8 w' w.heap.size x (l ++ m) ∧ Below w.heap.size w w' := by
  have hf : [l, m].flatten = l ++ m := by simp
  refine (concat_any _ [l, m] _ (ArgLL.pair hv hu t g hg) (by rw [hf, List.length_append]; omega) (by rw [hf, List.length_append]; omega) (by simp)).mono ?_
  rintro e w' ⟨x, rfl, hO, hB⟩
  rw [hf] at hO
  exact ⟨x, rfl, hO.older (by simp), below_step ((Below.refl _ _).alloc (Nat.le_refl _) _) hB⟩
/-- Values that come up, and a list of bytes, of number 2. -/
def TB2 (l : List Value) (b : List Int) : Nat → Value → World → Prop
  | 2, v, w => ArgB w v b
  | k, v, _ => v = l.getD k undef
theorem TB2.keep {l : List Value} {b : List Int} (i : Nat) (v : Value) (w w' : World) (h : TB2 l b i v w) (hb : Below w.heap.size w w') : TB2 l b i v w' := by
  unfold TB2 at h ⊢
  split at h
  · exact h.below hb
  · exact h
/-- Values that come up, and a list of bytes in new memory, of number 3. -/
def TF3 (l : List Value) (B : Nat) (b : List Int) : Nat → Value → World → Prop
  | 3, v, w => ArgB w v b ∧ ∀ j, v.ownBlock = some j → B ≤ j
  | k, v, _ => v = l.getD k undef
theorem TF3.keep {l : List Value} {B : Nat} {b : List Int} (i : Nat) (v : Value) (w w' : World) (h : TF3 l B b i v w) (hb : Below w.heap.size w w') : TF3 l B b i v w' := by
  unfold TF3 at h ⊢
  split at h
  · exact ⟨h.1.below hb, h.2⟩
  · exact h
/-- Values that come up, and bytes of 0 in new memory, of number 4. -/
def TZ4 (l : List Value) (B N : Nat) : Nat → Value → World → Prop
  | 4, v, w => ∃ g, v = .slice (some ⟨g, 0, none⟩) N N ∧ RowB w g (List.replicate N 0) ∧ B ≤ g
  | k, v, _ => v = l.getD k undef
theorem TZ4.keep {l : List Value} {B N : Nat} (i : Nat) (v : Value) (w w' : World) (h : TZ4 l B N i v w) (hb : Below w.heap.size w w') : TZ4 l B N i v w' := by
  unfold TZ4 at h ⊢
  split at h
  · obtain ⟨g, h1, h2, h3⟩ := h
    exact ⟨g, h1, h2.kept (hb.block g h2.lt), h3⟩
  · exact h
set_option maxRecDepth 100000 in
set_option maxHeartbeats 8000000 in
theorem sframe_any (bv : Value) (b : List Int) (e : Nat) (w : World) (env : Env w) (hv : ArgB w bv b) (hb : ∀ z ∈ b, 0 ≤ z ∧ z ≤ 255) (hl : b.length ≤ 900000) (he : e ≤ 18446744073709551615) :
    Calls Tryd.prog 55 #[.agg #[.int .u64 (e : Int), bv]] w (GivesFN (frameL (numB e ++ b)) w) := by
  have hnl := numB_len he
  have HNB := Lib.hid (show ∀ z ∈ numB e ++ b, 0 ≤ z ∧ z ≤ 255 from fun z hz => by
    rcases List.mem_append.mp hz with hz | hz
    · exact numB_byte he z hz
    · exact hb z hz)
  have HNM := Lib.hid (fun W => wnum_any W.heap.size (.slice none 0 0) [] e W (OwnN.nil W _) (Nat.le_refl _) (by decide) he)
  rw [List.nil_append] at HNM
  have HFR := Lib.hid (fun W v (g : Below w.heap.size w W) (hv : ArgB W v (numB e ++ b)) => cframe_new v (numB e ++ b) W (env.step g) hv HNB.out (by rw [List.length_append]; omega))
  have HNL := Lib.hid hnl
  have HBLN := Lib.hid hl
  obtain ⟨ba, bc, rfl⟩ := hv.size
  obtain ⟨L, hL⟩ : ∃ L, b.length = L := ⟨_, rfl⟩
  have HLL := Lib.hid hL
  have HV := Lib.hid hv
  rw [hL] at HV ⊢
  have G1 := Lib.hid (below_more (Below.refl w.heap.size w) (.cells #[.int .u64 (e : Int), .slice ba L bc] 69))
  have V1 := Lib.hid (Var2.fresh w (.int .u64 (e : Int)) (.slice ba L bc) 69 _ rfl)
  clear hv hb hl he hnl env hL
  unfold PutsB at HNM
  unfold GivesFN at HFR
  go_enter Tryd.func55, Tryd.ntmps55
  go_wp2
  refine wp_region_mix 5 (TB2 [.pointer (some ⟨w.heap.size, 0, none⟩), .int .u64 (e : Int), undef, .pointer (some ⟨w.heap.size, 1, none⟩), .slice ba L bc] (numB e)) (fun _ => false) (by kernel_rfl) (by kernel_rfl) TB2.keep (fun _ _ _ h => by cases h) ?_ ?_
  · simp only [List.take_succ_cons, List.take_zero]
    refine (StepsAll.cons ?_ (StepsAll.cons ?_ (StepsAll.cons ?_ (StepsAll.cons ?_ (StepsAll.cons ?_ StepsAll.nil)))))
    · intro u W hb hd
      simp only [putAll, Act.put, List.setIfInBounds_toArray, List.set_cons_succ, List.set_cons_zero, Nat.zero_add, Nat.reduceAdd]
      go_wp2
      first | exact ⟨rfl, Below.refl _ _⟩ | exact ⟨_, rfl, rfl, Below.refl _ _, fun h => by simp at h⟩ | exact ⟨_, rfl, rfl, Below.refl _ _⟩ | exact ⟨rfl, Below.refl _ _, fun h => by simp at h⟩
    · intro u W hb hd
      have e0 : u 0 = .pointer (some ⟨w.heap.size, 0, none⟩) := hd.1 rfl (by decide)
      have V3 := V1.out.after hb
      have c0 := V3.c0
      have c1 := V3.c1
      simp only [putAll, Act.put, List.setIfInBounds_toArray, List.set_cons_succ, List.set_cons_zero, Nat.zero_add, Nat.reduceAdd]
      rw [e0]
      go_wp2
      first | exact ⟨rfl, Below.refl _ _⟩ | exact ⟨_, rfl, rfl, Below.refl _ _, fun h => by simp at h⟩ | exact ⟨_, rfl, rfl, Below.refl _ _⟩ | exact ⟨rfl, Below.refl _ _, fun h => by simp at h⟩
    · intro u W hb hd
      have e0 : u 1 = .int .u64 (e : Int) := hd.1 rfl (by decide)
      simp only [putAll, Act.put, List.setIfInBounds_toArray, List.set_cons_succ, List.set_cons_zero, Nat.zero_add, Nat.reduceAdd]
      rw [e0]
      go_wp2_with (go_at_call 66; (with_reducible refine (HNM.out _).mono ?_); rintro x w4 ⟨nv, rfl, h4', g4, _⟩; have h4 := h4'.argB; clear h4')
      first | exact ⟨_, rfl, h4, g4, fun h => by simp at h⟩ | exact ⟨h4, g4, fun h => by simp at h⟩ | exact ⟨_, rfl, h4, g4⟩ | exact ⟨h4, g4⟩
    · intro u W hb hd
      simp only [putAll, Act.put, List.setIfInBounds_toArray, List.set_cons_succ, List.set_cons_zero, Nat.zero_add, Nat.reduceAdd]
      go_wp2
      first | exact ⟨rfl, Below.refl _ _⟩ | exact ⟨_, rfl, rfl, Below.refl _ _, fun h => by simp at h⟩ | exact ⟨_, rfl, rfl, Below.refl _ _⟩ | exact ⟨rfl, Below.refl _ _, fun h => by simp at h⟩
    · intro u W hb hd
      have e0 : u 3 = .pointer (some ⟨w.heap.size, 1, none⟩) := hd.1 rfl (by decide)
      have V3 := V1.out.after hb
      have c0 := V3.c0
      have c1 := V3.c1
      simp only [putAll, Act.put, List.setIfInBounds_toArray, List.set_cons_succ, List.set_cons_zero, Nat.zero_add, Nat.reduceAdd]
      rw [e0]
      go_wp2
      first | exact ⟨rfl, Below.refl _ _⟩ | exact ⟨_, rfl, rfl, Below.refl _ _, fun h => by simp at h⟩ | exact ⟨_, rfl, rfl, Below.refl _ _⟩ | exact ⟨rfl, Below.refl _ _, fun h => by simp at h⟩
  · intro u W hb hT _
    have e0 : u 0 = .pointer (some ⟨w.heap.size, 0, none⟩) := hT 0 (by decide)
    have e1 : u 1 = .int .u64 (e : Int) := hT 1 (by decide)
    have e3 : u 3 = .pointer (some ⟨w.heap.size, 1, none⟩) := hT 3 (by decide)
    have e4 : u 4 = .slice ba L bc := hT 4 (by decide)
    have hn : ArgB W (u 2) (numB e) := hT 2 (by decide)
    obtain ⟨na, nc, hne⟩ := hn.size
    rw [hne] at hn
    have GW := Lib.hid (below_step G1.out hb)
    have HN := Lib.hid hn
    have HV3 := Lib.hid (HV.out.below GW.out)
    have HCC := Lib.hid (concat_pair (.slice na (numB e).length nc) (.slice ba L bc) (numB e) b W W.heap.size 36 rfl hn HV3.out (by have := HNL.out; omega) (by have := HNL.out; omega) (by have := HBLN.out; omega))
    clear hb hT hn
    obtain ⟨NL, hNL⟩ : ∃ x, (numB e).length = x := ⟨_, rfl⟩
    rw [hNL] at hne HCC
    simp only [List.take_succ_cons, List.take_zero, List.drop_succ_cons, List.drop_zero, putAll, Act.put, List.setIfInBounds_toArray, List.set_cons_succ, List.set_cons_zero, Nat.zero_add, Nat.reduceAdd]
    rw [e0, e1, hne, e3, e4]
    clear e0 e1 hne e3 e4 hNL
    go_wp2_with (first
      | (go_at_call 65; (with_reducible refine (HCC.out).mono ?_); rintro x w5 ⟨cv, rfl, h5, g5⟩; have G5 := Lib.hid (below_step GW.out g5); have A5 := Lib.hid h5.argB; clear h5 g5)
      | (go_at_call 64; (with_reducible refine (HFR.out _ _ G5.out A5.out).mono ?_); rintro x w6 ⟨fv, rfl, h6, o6, g6⟩; have H6 := Lib.hid h6; have O6 := Lib.hid o6; have G6 := Lib.hid (below_step G5.out g6); have S6 := Lib.hid G5.out.size; clear h6 o6 g6))
    go_ret
    exact ⟨_, rfl, H6.out, fun j hj => Nat.le_trans S6.out (O6.out j hj), G6.out⟩
/-- A snapshot is put: Fine, or the disk went dark. -/
def GivesPp (base : Nat) (O : Foot) (r : Nat) (D : Dsk) (f k : Nat) (m : Nat × List Int) (b : List Int) (w : World) (e : Ending) (w' : World) : Prop :=
  ∃ c D', e = .returned (.int .i64 c) ∧ PutsOut D (f * D.size) (k * D.size) m b c D' ∧ DskTo base O r D' w w'
theorem spp_fin {base r : Nat} {O O1 : Foot} {D2 : Dsk} {w W w6 W7 w8 : World} (hb : base ≤ w.heap.size) (g1 : Below w.heap.size w W) (o6 : OnlyO base O W w6) (gr6 : Grown O O1 W.heap.size) (g7 : Below w6.heap.size w6 W7) (t8 : DskTo base O1 r D2 W7 w8) : DskTo base O r D2 w w8 :=
  way_old hb g1 (way_next (Nat.le_trans hb g1.size) gr6 o6 g7 t8)
set_option maxRecDepth 100000 in
set_option maxHeartbeats 8000000 in
theorem sputp_any (base : Nat) (O : Foot) (r : Nat) (D : Dsk) (f k : Nat) (m : Nat × List Int) (bv : Value) (b : List Int) (e : Nat) (w : World) (env : ∀ W, Below base w W → Env W) (h : DskIs w base O r D) (k1 : 1 ≤ k) (on : f + 2 * k ≤ D.n) (dk : D.dark = false) (ws : D.waits = []) (hd : D.deeds ≤ 900000)
    (hm : slotsL (f * D.size) (k * D.size) D.last = m) (he : e = m.1 + 1) (he1 : e ≤ 18446744073709551615) (hv : ArgB w bv b) (hbO : b ≠ [] → ∀ j, bv.ownBlock = some j → ¬ O j) (hb : ∀ z ∈ b, 0 ≤ z ∧ z ≤ 255) (hf : b.length + 19 ≤ k * D.size) :
    Calls Tryd.prog 40 #[.agg #[.pointer (some ⟨r, 0, none⟩), .int .i64 (f : Int), .int .i64 (k : Int)], .agg #[.int .u64 (e : Int), bv]] w (GivesPp base O r D f k m b w) := by
  have n1 := h.ok.n1
  have hmost := h.ok.most
  have s0 := h.ok.s0
  have hkD : k * D.size ≤ D.n * D.size := Nat.mul_le_mul_right _ (by omega)
  have hkpos : 0 < k * D.size := by omega
  have hnl := numB_len he1
  have hFl := frameL_len (numB e ++ b)
  rw [List.length_append] at hFl
  have hm2 : e % 2 ≤ 1 := by omega
  obtain ⟨m2, hm2e⟩ : ∃ x, e % 2 = x := ⟨_, rfl⟩
  rw [hm2e] at hm2
  obtain ⟨at_, hat⟩ : ∃ x, f + m2 * k = x := ⟨_, rfl⟩
  have hmk : m2 * k ≤ k := by have := Nat.mul_le_mul_right k hm2; omega
  have hon : at_ + k ≤ D.n := by omega
  have hlo : at_ * D.size = slotAt (f * D.size) (k * D.size) e := by
    unfold slotAt
    rw [← hat, hm2e, Nat.add_mul, Nat.mul_assoc]
  have HSL := Lib.hid (fun u W => (show Calls Tryd.prog 53 #[.agg #[.int .u64 (e : Int), u]] W fun x w' => x = .returned (.int .i64 (m2 : Int)) ∧ Below W.heap.size W w' by rw [← hm2e]; exact sslot_any e u W))
  have HFT := Lib.hid (fun W => (show Calls Tryd.prog 49 #[.agg #[.pointer (some ⟨r, 0, none⟩), .int .i64 (f : Int), .int .i64 (k : Int)], .int .i64 (m2 : Int)] W fun x w' => x = .returned (.int .i64 (at_ : Int)) ∧ Below W.heap.size W w' by rw [← hat]; exact sfront_any (.pointer (some ⟨r, 0, none⟩)) f k m2 W (by omega) (by omega) (by omega)))
  have HLN := Lib.hid (fun W (g : Below w.heap.size w W) => slength_any base O r D f k W (h.after g) (by omega))
  have HW1 := Lib.hid (fun W (g : Below w.heap.size w W) v (hv : ArgB W v (List.replicate (k * D.size) 0)) (hO : ∀ j, v.ownBlock = some j → ¬ O j) => swrite_any base O r D at_ k (f : Int) (k : Int) v (List.replicate (k * D.size) 0) W (h.after g) hon dk ws (by omega) (by rw [List.length_replicate]; exact Nat.le_refl _) (by rw [List.length_replicate]; exact hkpos) hv hO (fun z hz => by rw [(List.mem_replicate.mp hz).2]; omega))
  have HFR := Lib.hid (fun W v (g : Below base w W) (hv : ArgB W v b) => sframe_any v b e W (env W g) hv hb (by omega) he1)
  have HW2 := Lib.hid (fun O1 D1 W (h1 : DskIs W base O1 r D1) (hn : D1.n = D.n) (hs : D1.size = D.size) (hk1 : D1.dark = false) (hw1 : D1.waits = []) (hd1 : D1.deeds ≤ 950000) v (hv : ArgB W v (frameL (numB e ++ b))) (hO : ∀ j, v.ownBlock = some j → ¬ O1 j) => swrite_any base O1 r D1 at_ k (f : Int) (k : Int) v (frameL (numB e ++ b)) W h1 (by omega) hk1 hw1 hd1 (by rw [hs]; omega) (by omega) hv hO (frameL_byte (fun z hz => by
    rcases List.mem_append.mp hz with hz | hz
    · exact numB_byte he1 z hz
    · exact hb z hz)))
  have HCL := Lib.hid (fun T i0 m c D' (hl : Laid D at_ k 0 (List.replicate (k * D.size) 0) T i0 m) (p : PutOut D T i0 m c D') => puts_clear (b := b) h.ok hlo rfl hl hon p (by rw [hm]; exact he))
  have HPF := Lib.hid (fun D1 D2 T i0 m' c (hok1 : D1.Ok) (hst : StepD D D1) (hl : D1.last = layL D.last (slotAt (f * D.size) (k * D.size) e, List.replicate (k * D.size) 0)) (hl2 : Laid D1 at_ k 0 (frameL (numB e ++ b)) T i0 m') (p : PutOut D1 T i0 m' c D2) (hdd : D2.deeds ≤ D.deeds + 1000) => puts_frame (b := b) h.ok hok1 (by rw [hst.size]; exact hlo) (by rw [hst.size]) hst hl hl2 (by rw [hst.n]; exact hon) (by rw [List.length_append]; omega) (by rw [hm]; exact he) he1 p hdd)
  rw [hm] at HCL HPF
  have hOw : Hid (∀ i, O i → i < w.heap.size) := fun i hi => (h.own i hi).2
  have hbase : Hid (base ≤ w.heap.size) := by have := h.own r h.mem; unfold Hid; omega
  have HBO := Lib.hid hbO
  have HD0 := Lib.hid hd
  obtain ⟨ba, bc, rfl⟩ := hv.size
  obtain ⟨L, hL⟩ : ∃ L, b.length = L := ⟨_, rfl⟩
  have HV := Lib.hid hv
  rw [hL] at HV HBO ⊢
  obtain ⟨M, hM⟩ : ∃ M, k * D.size = M := ⟨_, rfl⟩
  have HM := Lib.hid hM
  rw [hM] at HLN HW1 HCL HPF
  have hMb : M ≤ 1000000 := by omega
  have hm2c : m2 ≤ 1 := hm2
  have hatb : at_ ≤ 400 := by omega
  clear h k1 on dk ws hd hm he he1 hv hbO hb hf n1 hmost s0 hkD hkpos hnl hFl hm2 hm2e hat hmk hon hlo hL hM env
  obtain ⟨W0, hW0⟩ : ∃ W, (w.alloc (.cells #[.pointer (some ⟨r, 0, none⟩), .int .i64 (f : Int), .int .i64 (k : Int)] 65)).alloc (.cells #[.int .u64 (e : Int), .slice ba L bc] 69) = W := ⟨_, rfl⟩
  have G0 : Hid (Below w.heap.size w W0) := by rw [← hW0]; exact below_more (below_more (Below.refl w.heap.size w) _) _
  have HP0 : Hid (∀ W, Below W0.heap.size W0 W → Var3 W w.heap.size (.pointer (some ⟨r, 0, none⟩)) (.int .i64 (f : Int)) (.int .i64 (k : Int))) := fun W hb => by
    have q := (Var3.fresh w (.pointer (some ⟨r, 0, none⟩)) (.int .i64 (f : Int)) (.int .i64 (k : Int)) 65 _ rfl).after (below_more (Below.refl _ _) (.cells #[.int .u64 (e : Int), .slice ba L bc] 69))
    rw [hW0] at q
    exact q.after hb
  have HS0 : Hid (∀ W, Below W0.heap.size W0 W → Var2 W (w.heap.size + 1) (.int .u64 (e : Int)) (.slice ba L bc)) := fun W hb => by
    have q := Var2.fresh (w.alloc (.cells #[.pointer (some ⟨r, 0, none⟩), .int .i64 (f : Int), .int .i64 (k : Int)] 65)) (.int .u64 (e : Int)) (.slice ba L bc) 69 _ rfl
    rw [hW0] at q
    have q2 := q.after hb
    simpa using q2
  have Z0 : w.heap.size + 2 ≤ W0.heap.size := by rw [← hW0]; simp
  go_enter Tryd.func40, Tryd.ntmps40
  go_wp2
  (try rw [hW0])
  clear hW0
  refine wp_region_mix 4 (TLst [.agg #[.pointer (some ⟨r, 0, none⟩), .int .i64 (f : Int), .int .i64 (k : Int)], .agg #[.int .u64 (e : Int), .slice ba L bc], .int .i64 (m2 : Int), .int .i64 (at_ : Int)]) (fun _ => false) (by kernel_rfl) (by kernel_rfl) (fun _ _ _ _ h _ => h) (fun _ _ _ h => by cases h) ?_ ?_
  · simp only [List.take_succ_cons, List.take_zero]
    refine (StepsAll.cons ?_ (StepsAll.cons ?_ (StepsAll.cons ?_ (StepsAll.cons ?_ StepsAll.nil))))
    · intro u W hb hd
      have V3 := HP0.out _ hb
      have c0 := V3.c0
      have c1 := V3.c1
      have c2 := V3.c2
      simp only [putAll, Act.put, List.setIfInBounds_toArray, List.set_cons_succ, List.set_cons_zero, Nat.zero_add, Nat.reduceAdd]
      go_wp2
      first | exact ⟨rfl, Below.refl _ _⟩ | exact ⟨_, rfl, rfl, Below.refl _ _, fun h => by simp at h⟩ | exact ⟨_, rfl, rfl, Below.refl _ _⟩ | exact ⟨rfl, Below.refl _ _, fun h => by simp at h⟩
    · intro u W hb hd
      have V3 := HS0.out _ hb
      have c0 := V3.c0
      have c1 := V3.c1
      simp only [putAll, Act.put, List.setIfInBounds_toArray, List.set_cons_succ, List.set_cons_zero, Nat.zero_add, Nat.reduceAdd]
      go_wp2
      first | exact ⟨rfl, Below.refl _ _⟩ | exact ⟨_, rfl, rfl, Below.refl _ _, fun h => by simp at h⟩ | exact ⟨_, rfl, rfl, Below.refl _ _⟩ | exact ⟨rfl, Below.refl _ _, fun h => by simp at h⟩
    · intro u W hb hd
      have e0 : u 1 = .agg #[.int .u64 (e : Int), .slice ba L bc] := hd.1 rfl (by decide)
      simp only [putAll, Act.put, List.setIfInBounds_toArray, List.set_cons_succ, List.set_cons_zero, Nat.zero_add, Nat.reduceAdd]
      rw [e0]
      go_wp2_with (go_at_call 53; (with_reducible refine (HSL.out _ _).mono ?_); rintro x w4 ⟨rfl, g4⟩)
      first | exact ⟨_, rfl, rfl, g4, fun h => by simp at h⟩ | exact ⟨rfl, g4, fun h => by simp at h⟩ | exact ⟨_, rfl, rfl, g4⟩ | exact ⟨rfl, g4⟩
    · intro u W hb hd
      have e0 : u 0 = .agg #[.pointer (some ⟨r, 0, none⟩), .int .i64 (f : Int), .int .i64 (k : Int)] := hd.1 rfl (by decide)
      have e1 : u 2 = .int .i64 (m2 : Int) := hd.2.1 rfl (by decide)
      simp only [putAll, Act.put, List.setIfInBounds_toArray, List.set_cons_succ, List.set_cons_zero, Nat.zero_add, Nat.reduceAdd]
      rw [e0, e1]
      go_wp2_with (go_at_call 49; (with_reducible refine (HFT.out _).mono ?_); rintro x w4 ⟨rfl, g4⟩)
      first | exact ⟨_, rfl, rfl, g4, fun h => by simp at h⟩ | exact ⟨rfl, g4, fun h => by simp at h⟩ | exact ⟨_, rfl, rfl, g4⟩ | exact ⟨rfl, g4⟩
  · intro u W hb hT _
    have e0 : u 0 = .agg #[.pointer (some ⟨r, 0, none⟩), .int .i64 (f : Int), .int .i64 (k : Int)] := hT 0 (by decide)
    have e1 : u 1 = .agg #[.int .u64 (e : Int), .slice ba L bc] := hT 1 (by decide)
    have e2 : u 2 = .int .i64 (m2 : Int) := hT 2 (by decide)
    have e3 : u 3 = .int .i64 (at_ : Int) := hT 3 (by decide)
    have HB1 := Lib.hid hb
    have G1 := Lib.hid (below_step G0.out hb)
    clear hb hT
    simp only [List.take_succ_cons, List.take_zero, List.drop_succ_cons, List.drop_zero, putAll, Act.put, List.setIfInBounds_toArray, List.set_cons_succ, List.set_cons_zero, Nat.zero_add, Nat.reduceAdd]
    rw [e0, e1, e2, e3]
    clear e0 e1 e2 e3
    go_wp2
    refine wp_region_mix 5 (TZ4 [.agg #[.pointer (some ⟨r, 0, none⟩), .int .i64 (f : Int), .int .i64 (k : Int)], .int .i64 (at_ : Int), .agg #[.pointer (some ⟨r, 0, none⟩), .int .i64 (f : Int), .int .i64 (k : Int)], .int .i64 (M : Int), undef] w.heap.size M) (fun _ => false) (by kernel_rfl) (by kernel_rfl) TZ4.keep (fun _ _ _ h => by cases h) ?_ ?_
    · simp only [List.take_succ_cons, List.take_zero]
      refine (StepsAll.cons ?_ (StepsAll.cons ?_ (StepsAll.cons ?_ (StepsAll.cons ?_ (StepsAll.cons ?_ StepsAll.nil)))))
      · intro u W hb hd
        have V3 := HP0.out _ (below_step HB1.out hb)
        have c0 := V3.c0
        have c1 := V3.c1
        have c2 := V3.c2
        simp only [putAll, Act.put, List.setIfInBounds_toArray, List.set_cons_succ, List.set_cons_zero, Nat.zero_add, Nat.reduceAdd]
        go_wp2
        first | exact ⟨rfl, Below.refl _ _⟩ | exact ⟨_, rfl, rfl, Below.refl _ _, fun h => by simp at h⟩ | exact ⟨_, rfl, rfl, Below.refl _ _⟩ | exact ⟨rfl, Below.refl _ _, fun h => by simp at h⟩
      · intro u W hb hd
        simp only [putAll, Act.put, List.setIfInBounds_toArray, List.set_cons_succ, List.set_cons_zero, Nat.zero_add, Nat.reduceAdd]
        go_wp2
        first | exact ⟨rfl, Below.refl _ _⟩ | exact ⟨_, rfl, rfl, Below.refl _ _, fun h => by simp at h⟩ | exact ⟨_, rfl, rfl, Below.refl _ _⟩ | exact ⟨rfl, Below.refl _ _, fun h => by simp at h⟩
      · intro u W hb hd
        have V3 := HP0.out _ (below_step HB1.out hb)
        have c0 := V3.c0
        have c1 := V3.c1
        have c2 := V3.c2
        simp only [putAll, Act.put, List.setIfInBounds_toArray, List.set_cons_succ, List.set_cons_zero, Nat.zero_add, Nat.reduceAdd]
        go_wp2
        first | exact ⟨rfl, Below.refl _ _⟩ | exact ⟨_, rfl, rfl, Below.refl _ _, fun h => by simp at h⟩ | exact ⟨_, rfl, rfl, Below.refl _ _⟩ | exact ⟨rfl, Below.refl _ _, fun h => by simp at h⟩
      · intro u W hb hd
        have e0 : u 2 = .agg #[.pointer (some ⟨r, 0, none⟩), .int .i64 (f : Int), .int .i64 (k : Int)] := hd.1 rfl (by decide)
        simp only [putAll, Act.put, List.setIfInBounds_toArray, List.set_cons_succ, List.set_cons_zero, Nat.zero_add, Nat.reduceAdd]
        rw [e0]
        go_wp2_with (go_at_call 34; (with_reducible refine (HLN.out _ (below_step G1.out hb)).mono ?_); rintro x w4 ⟨rfl, g4⟩)
        first | exact ⟨_, rfl, rfl, g4, fun h => by simp at h⟩ | exact ⟨rfl, g4, fun h => by simp at h⟩ | exact ⟨_, rfl, rfl, g4⟩ | exact ⟨rfl, g4⟩
      · intro u W hb hd
        have e0 : u 3 = .int .i64 (M : Int) := hd.1 rfl (by decide)
        obtain ⟨wz, hmz, hRz, hBz⟩ := made_row W M hMb
        have hle := Nat.le_trans G1.out.size hb.size
        simp only [putAll, Act.put, List.setIfInBounds_toArray, List.set_cons_succ, List.set_cons_zero, Nat.zero_add, Nat.reduceAdd]
        rw [e0]
        go_wp2
        first | exact ⟨_, rfl, hRz, hle⟩ | exact ⟨_, rfl, ⟨_, rfl, hRz, hle⟩, hBz, fun h => by simp at h⟩ | exact ⟨⟨_, rfl, hRz, hle⟩, hBz, fun h => by simp at h⟩ | exact ⟨_, rfl, ⟨_, rfl, hRz, hle⟩, hBz⟩
    · intro u W2 hb hT _
      have e0 : u 0 = .agg #[.pointer (some ⟨r, 0, none⟩), .int .i64 (f : Int), .int .i64 (k : Int)] := hT 0 (by decide)
      have e1 : u 1 = .int .i64 (at_ : Int) := hT 1 (by decide)
      have e2 : u 2 = .agg #[.pointer (some ⟨r, 0, none⟩), .int .i64 (f : Int), .int .i64 (k : Int)] := hT 2 (by decide)
      have e3 : u 3 = .int .i64 (M : Int) := hT 3 (by decide)
      obtain ⟨g, e4, hR, hB⟩ : ∃ g, u 4 = .slice (some ⟨g, 0, none⟩) M M ∧ RowB W2 g (List.replicate M 0) ∧ w.heap.size ≤ g := hT 4 (by decide)
      have HB2 := Lib.hid (below_step HB1.out hb)
      have G2 := Lib.hid (below_step G1.out hb)
      have HW := Lib.hid (HW1.out W2 G2.out (.slice (some ⟨g, 0, none⟩) M M) (hR.whole M M (by rw [List.length_replicate]) (Nat.le_refl _)) (fun j hj hO => by obtain rfl : g = j := Option.some.inj hj; have := hOw.out _ hO; omega))
      unfold GivesWr at HW
      clear hb hT hR hB
      simp only [List.take_succ_cons, List.take_zero, List.drop_succ_cons, List.drop_zero, putAll, Act.put, List.setIfInBounds_toArray, List.set_cons_succ, List.set_cons_zero, Nat.zero_add, Nat.reduceAdd]
      rw [e0, e1, e2, e3, e4]
      clear e0 e1 e2 e3 e4
      go_wp2_with (go_at_call 33; (with_reducible refine (HW.out).mono ?_); rintro x w6 ⟨c', D1, T, i0, m', rfl, l6, p6, t6, dd6⟩; have T6 := Lib.hid t6; have DD6 := Lib.hid dd6; rcases HCL.out T i0 m' c' D1 l6 p6 with ⟨rfl, hp⟩ | ⟨rfl, h1, h2, h3, h4⟩ <;> clear l6 p6 t6 dd6)
      · go_ret
        exact ⟨12, D1, rfl, by rw [HM.out]; exact hp, way_old hbase.out G2.out ⟨_, T6.out.choose_spec.1, T6.out.choose_spec.2.2, T6.out.choose_spec.2.1⟩⟩
      · have ST1 := Lib.hid h1
        have DK1 := Lib.hid h2
        have WS1 := Lib.hid h3
        have LS1 := Lib.hid h4
        obtain ⟨O1, d6, o6, g6⟩ := T6.out
        have D6 := Lib.hid d6
        have O6 := Lib.hid o6
        have GR6 := Lib.hid g6
        have HP6 := Lib.hid (fun W (g : Below w6.heap.size w6 W) => ((HP0.out _ HB2.out).only o6 (fun q => Nat.lt_irrefl _ (hOw.out _ q))).after g)
        have HS6 := Lib.hid (fun W (g : Below w6.heap.size w6 W) => ((HS0.out _ HB2.out).stay (o6.keep _ (HS0.out _ HB2.out).s (fun q => by have := hOw.out _ q; omega)) o6.size).after g)
        have HV6 := Lib.hid ((HV.out.below G2.out).only o6 HBO.out)
        have B6 := Lib.hid (show Below base w w6 from (G2.out.mono hbase.out).trans o6.bel)
        have hO1 := Lib.hid (fun i (hi : O1 i) => (d6.own i hi).2)
        clear h1 h2 h3 h4 d6 o6 g6
        unfold GivesFN at HFR
        go_wp2
        refine wp_region_mix 4 (TF3 [.agg #[.pointer (some ⟨r, 0, none⟩), .int .i64 (f : Int), .int .i64 (k : Int)], .int .i64 (at_ : Int), .agg #[.int .u64 (e : Int), .slice ba L bc], undef] w6.heap.size (frameL (numB e ++ b))) (fun _ => false) (by kernel_rfl) (by kernel_rfl) TF3.keep (fun _ _ _ h => by cases h) ?_ ?_
        · simp only [List.take_succ_cons, List.take_zero]
          refine (StepsAll.cons ?_ (StepsAll.cons ?_ (StepsAll.cons ?_ (StepsAll.cons ?_ StepsAll.nil))))
          · intro u W hb hd
            have V3 := HP6.out _ hb
            have c0 := V3.c0
            have c1 := V3.c1
            have c2 := V3.c2
            simp only [putAll, Act.put, List.setIfInBounds_toArray, List.set_cons_succ, List.set_cons_zero, Nat.zero_add, Nat.reduceAdd]
            go_wp2
            first | exact ⟨rfl, Below.refl _ _⟩ | exact ⟨_, rfl, rfl, Below.refl _ _, fun h => by simp at h⟩ | exact ⟨_, rfl, rfl, Below.refl _ _⟩ | exact ⟨rfl, Below.refl _ _, fun h => by simp at h⟩
          · intro u W hb hd
            simp only [putAll, Act.put, List.setIfInBounds_toArray, List.set_cons_succ, List.set_cons_zero, Nat.zero_add, Nat.reduceAdd]
            go_wp2
            first | exact ⟨rfl, Below.refl _ _⟩ | exact ⟨_, rfl, rfl, Below.refl _ _, fun h => by simp at h⟩ | exact ⟨_, rfl, rfl, Below.refl _ _⟩ | exact ⟨rfl, Below.refl _ _, fun h => by simp at h⟩
          · intro u W hb hd
            have V3 := HS6.out _ hb
            have c0 := V3.c0
            have c1 := V3.c1
            simp only [putAll, Act.put, List.setIfInBounds_toArray, List.set_cons_succ, List.set_cons_zero, Nat.zero_add, Nat.reduceAdd]
            go_wp2
            first | exact ⟨rfl, Below.refl _ _⟩ | exact ⟨_, rfl, rfl, Below.refl _ _, fun h => by simp at h⟩ | exact ⟨_, rfl, rfl, Below.refl _ _⟩ | exact ⟨rfl, Below.refl _ _, fun h => by simp at h⟩
          · intro u W hb hd
            have e0 : u 2 = .agg #[.int .u64 (e : Int), .slice ba L bc] := hd.1 rfl (by decide)
            have hA := HV6.out.below hb
            have hB7 := B6.out.trans (hb.mono (Nat.le_trans hbase.out (Nat.le_trans G2.out.size O6.out.size)))
            have hle := hb.size
            simp only [putAll, Act.put, List.setIfInBounds_toArray, List.set_cons_succ, List.set_cons_zero, Nat.zero_add, Nat.reduceAdd]
            rw [e0]
            go_wp2_with (go_at_call 55; (with_reducible refine (HFR.out W _ hB7 hA).mono ?_); rintro x w4 ⟨fv, rfl, h4, o4, g4⟩)
            first | exact ⟨_, rfl, ⟨h4, fun j hj => Nat.le_trans hle (o4 j hj)⟩, g4, fun h => by simp at h⟩ | exact ⟨⟨h4, fun j hj => Nat.le_trans hle (o4 j hj)⟩, g4, fun h => by simp at h⟩ | exact ⟨_, rfl, ⟨h4, fun j hj => Nat.le_trans hle (o4 j hj)⟩, g4⟩ | exact ⟨⟨h4, fun j hj => Nat.le_trans hle (o4 j hj)⟩, g4⟩
        · intro u W7 hb hT _
          have e0 : u 0 = .agg #[.pointer (some ⟨r, 0, none⟩), .int .i64 (f : Int), .int .i64 (k : Int)] := hT 0 (by decide)
          have e1 : u 1 = .int .i64 (at_ : Int) := hT 1 (by decide)
          have e2 : u 2 = .agg #[.int .u64 (e : Int), .slice ba L bc] := hT 2 (by decide)
          obtain ⟨hfa, hfo⟩ : ArgB W7 (u 3) (frameL (numB e ++ b)) ∧ ∀ j, (u 3).ownBlock = some j → w6.heap.size ≤ j := hT 3 (by decide)
          obtain ⟨fa, fc, hfe⟩ := hfa.size
          rw [hfe] at hfa hfo
          have HW := Lib.hid (HW2.out O1 D1 W7 (D6.out.after hb) ST1.out.n ST1.out.size DK1.out WS1.out (by have q1 := DD6.out; have q2 := HD0.out; omega) _ hfa (fun j hj hO => by have q1 := hfo j hj; have q2 := hO1.out j hO; omega))
          have HB7 := Lib.hid hb
          unfold GivesWr at HW
          obtain ⟨NF, hNF⟩ : ∃ x, (frameL (numB e ++ b)).length = x := ⟨_, rfl⟩
          rw [hNF] at hfe HW
          clear hb hT hfa hfo hNF
          simp only [List.take_succ_cons, List.take_zero, List.drop_succ_cons, List.drop_zero, putAll, Act.put, List.setIfInBounds_toArray, List.set_cons_succ, List.set_cons_zero, Nat.zero_add, Nat.reduceAdd]
          rw [e0, e1, e2, hfe]
          clear e0 e1 e2 hfe
          go_wp2_with (go_at_call 33; (with_reducible refine (HW.out).mono ?_); rintro x w8 ⟨c2, D2, T2, i2, m8, rfl, l8, p8, t8, dd8⟩; have T8 := Lib.hid t8; have P8 := Lib.hid (HPF.out D1 D2 T2 i2 m8 c2 D6.out.ok ST1.out LS1.out l8 p8 (by have q1 := DD6.out; omega)); clear l8 p8 t8 dd8)
          go_ret
          exact ⟨c2, D2, rfl, by rw [HM.out]; exact P8.out, spp_fin hbase.out G2.out O6.out GR6.out HB7.out T8.out⟩
set_option maxRecDepth 100000 in
set_option maxHeartbeats 8000000 in
theorem sput_full (base : Nat) (O OS : Foot) (r gs : Nat) (D : Dsk) (G : Sl) (v : Value) (b : List Int) (w : World) (_env : Env w) (h : DskIs w base O r D) (hg : SlIs w base OS gs r G) (on : SlotsOn D G) (hv : ArgB w v b) (_hl : (b.length : Int) ≤ 9223372036854775807) (hf : G.n * G.size < b.length + 19) :
    Calls Tryd.prog 15 #[.pointer (some ⟨gs, 0, none⟩), v] w fun e w' => e = .returned (.int .i64 11) ∧ Below w.heap.size w w' := by
  have HNW := Lib.hid (snowhere_same base OS gs r G w hg)
  have HDK := Lib.hid (bdark_any base O r D w h)
  rw [on.dk] at HDK
  have HMS := Lib.hid (fun W (g : Below w.heap.size w W) => smost_any base O OS gs r D G W (h.after g) (hg.after g) on.sz on.n1 on.on)
  have c0 := hg.c0
  have c5 := hg.c5
  rw [on.up] at c5
  obtain ⟨a, c, rfl⟩ := hv.size
  obtain ⟨n, hn⟩ : ∃ n, b.length = n := ⟨_, rfl⟩
  obtain ⟨ms, hms⟩ : ∃ z : Int, ((G.n * G.size : Nat) : Int) - 19 = z := ⟨_, rfl⟩
  rw [hms] at HMS
  rw [hn] at hf ⊢
  have hgt : ms < (n : Int) := by omega
  clear h hg on hv hf hn hms
  go_enter Tryd.func15, Tryd.ntmps15
  go_wp2_with (first
    | (go_at_call 37; (with_reducible refine (HNW.out).mono ?_); rintro e w1 ⟨rfl, rfl⟩)
    | (go_at_call 38; (with_reducible refine (HDK.out).mono ?_); rintro e w1 ⟨rfl, g1⟩; have G1 := Lib.hid g1; clear g1)
    | (go_at_call 13; (with_reducible refine (HMS.out _ G1.out).mono ?_); rintro e w2 ⟨rfl, g2⟩; have G2 := Lib.hid (below_step G1.out g2); clear g2))
  go_ret
  exact ⟨rfl, G2.out⟩
set_option maxRecDepth 100000 in
set_option maxHeartbeats 8000000 in
theorem sput_over (base : Nat) (O OS : Foot) (r gs : Nat) (D : Dsk) (G : Sl) (v : Value) (b : List Int) (w : World) (_env : Env w) (h : DskIs w base O r D) (hg : SlIs w base OS gs r G) (on : SlotsOn D G) (hv : ArgB w v b) (hf : b.length + 19 ≤ G.n * G.size) (he : G.ep = 18446744073709551615) :
    Calls Tryd.prog 15 #[.pointer (some ⟨gs, 0, none⟩), v] w fun e w' => e = .returned (.int .i64 3) ∧ Below w.heap.size w w' := by
  have HNW := Lib.hid (snowhere_same base OS gs r G w hg)
  have HDK := Lib.hid (bdark_any base O r D w h)
  rw [on.dk] at HDK
  have HMS := Lib.hid (fun W (g : Below w.heap.size w W) => smost_any base O OS gs r D G W (h.after g) (hg.after g) on.sz on.n1 on.on)
  have HC3 := Lib.hid (fun W (g : Below w.heap.size w W) => (hg.after g).c3)
  rw [he] at HC3
  have c0 := hg.c0
  have c5 := hg.c5
  rw [on.up] at c5
  obtain ⟨a, c, rfl⟩ := hv.size
  obtain ⟨n, hn⟩ : ∃ n, b.length = n := ⟨_, rfl⟩
  obtain ⟨ms, hms⟩ : ∃ z : Int, ((G.n * G.size : Nat) : Int) - 19 = z := ⟨_, rfl⟩
  rw [hms] at HMS
  rw [hn] at hf ⊢
  have hgt : ¬ ms < (n : Int) := by omega
  clear h hg on hv hf hn hms he
  go_enter Tryd.func15, Tryd.ntmps15
  go_wp2_with (first
    | (go_at_call 37; (with_reducible refine (HNW.out).mono ?_); rintro e w1 ⟨rfl, rfl⟩)
    | (go_at_call 38; (with_reducible refine (HDK.out).mono ?_); rintro e w1 ⟨rfl, g1⟩; have G1 := Lib.hid g1; clear g1)
    | (go_at_call 13; (with_reducible refine (HMS.out _ G1.out).mono ?_); rintro e w2 ⟨rfl, g2⟩; have G2 := Lib.hid (below_step G1.out g2); have c3 := HC3.out _ G2.out; clear g2))
  go_ret
  exact ⟨rfl, G2.out⟩
/-- What comes up in Put: values; the bytes, cloned; the next snapshot; its variable. -/
def TP9 (l : List Value) (B L e1 : Nat) (b : List Int) : Nat → Value → World → Prop
  | 7, v, w => ArgB w v b ∧ ∀ j, v.ownBlock = some j → B ≤ j
  | 8, v, w => ∃ a c, v = .agg #[.int .u64 (e1 : Int), .slice a L c] ∧ ArgB w (.slice a L c) b ∧ ∀ j, (Value.slice a L c).ownBlock = some j → B ≤ j
  | 9, v, w => ∃ g, v = .pointer (some ⟨g, 0, none⟩) ∧ Var2 w g (.int .u64 0) (.slice none 0 0) ∧ (∀ i, 2 ≤ i → w.cell? ⟨g, i, none⟩ = none) ∧ B ≤ g
  | k, v, _ => v = l.getD k undef
theorem TP9.keep {l : List Value} {B L e1 : Nat} {b : List Int} (i : Nat) (v : Value) (w w' : World) (h : TP9 l B L e1 b i v w) (hb : Below w.heap.size w w') : TP9 l B L e1 b i v w' := by
  unfold TP9 at h ⊢
  split at h
  · exact ⟨h.1.below hb, h.2⟩
  · obtain ⟨a, c, h1, h2, h3⟩ := h
    exact ⟨a, c, h1, h2.below hb, h3⟩
  · obtain ⟨g, h1, h2, h3, h4⟩ := h
    exact ⟨g, h1, h2.after hb, fun i hi => (World.cell?_of_block (hb.block g h2.s)).trans (h3 i hi), h4⟩
  · exact h
/-- Bytes don't lie in a snapshot's variable. -/
theorem bytes_else {W : World} {v : Value} {b : List Int} {g : Nat} {x : Int} {a : Option Addr} {n c : Nat} (h : ArgB W v b) (hne : b ≠ []) {j : Nat} (hj : v.ownBlock = some j) (hg : Var2 W g (.int .u64 x) (.slice a n c)) (hz : ∀ i, 2 ≤ i → W.cell? ⟨g, i, none⟩ = none) : j ≠ g := by
  rintro rfl
  rcases h with ⟨_, h⟩ | ⟨y, cap, rfl, hc, hcell⟩
  · exact hne h
  · have hl : 0 < b.length := List.length_pos_iff.mpr hne
    obtain ⟨bb, off, rfl, h2⟩ := arg_addr hcell hl
    have hbb : bb = j := Option.some.inj hj
    subst hbb
    have q := h2 0 hl
    rw [Nat.add_zero] at q
    rcases Nat.lt_or_ge off 2 with ho | ho
    · rcases Nat.lt_or_ge off 1 with ho1 | ho1
      · obtain rfl : off = 0 := by omega
        rw [hg.c0] at q; cases q
      · obtain rfl : off = 1 := by omega
        rw [hg.c1] at q; cases q
    · rw [hz off ho] at q; cases q
theorem Var2.onlyO {W W1 : World} {base : Nat} {O : Foot} {p : Nat} {x y : Value} (k : Var2 W p x y) (ho : OnlyO base O W W1) (hn : ¬ O p) : Var2 W1 p x y := k.stay (ho.keep p k.s hn) ho.size
theorem cells_end (W : World) (x y : Value) (t : TypeId) : ∀ i, 2 ≤ i → (W.alloc (.cells #[x, y] t)).cell? ⟨W.heap.size, i, none⟩ = none := fun i hi => by
  obtain ⟨k, rfl⟩ : ∃ k, i = k + 2 := ⟨i - 2, by omega⟩
  simp [go_sem]
theorem SlIs.fall {w : World} {base : Nat} {OS : Foot} {gs r : Nat} {G : Sl} (h : SlIs w base OS gs r G) : SlIs (w.setCell ⟨gs, 5, none⟩ (.bool true)) base OS gs r { G with down := true } := by
  obtain ⟨h1, h2, c0, c1, c2, c3, ⟨v, c4, ha, ho⟩, c5, q, hl⟩ := h
  refine ⟨fun i hi => by have := h1 i hi; simpa using this, h2, ?_, ?_, ?_, ?_, ⟨v, ?_, ha.stay (fun hne j hj => set_else _ _ _ _ j (ho hne j hj).2), ho⟩, ?_, fun i => by rw [World.frozen?_setCell]; exact q i, hl⟩ <;> simp [go_sem, *]
/-- What Put comes to. -/
def GivesSp (base : Nat) (O OS : Foot) (r gs : Nat) (D : Dsk) (G : Sl) (b : List Int) (w : World) (e : Ending) (w' : World) : Prop :=
  ∃ c D' O' OS', e = .returned (.int .i64 c) ∧ PutsOut D (G.from_ * G.size) (G.n * G.size) (G.ep, G.b) b c D' ∧ DskIs w' base O' r D' ∧ SlIs w' base OS' gs r { G with ep := if c = 0 then G.ep + 1 else G.ep, b := if c = 0 then b else G.b, down := decide (c = 12) } ∧ (∀ i, O' i → ¬ OS' i) ∧
    OnlyO base (fun i => O i ∨ OS i) w w' ∧ Grown (fun i => O i ∨ OS i) (fun i => O' i ∨ OS' i) w.heap.size
theorem pp_c01 {D D' : Dsk} {lo M : Nat} {m : Nat × List Int} {b : List Int} {c : Int} (h : PutsOut D lo M m b c D') : c = 0 ∨ c = 12 := by
  rcases h.2 with ⟨h, _⟩ | ⟨h, _⟩
  · exact Or.inl h
  · exact Or.inr h
/-- Behind a put: the slots, as they were. -/
theorem sp_behind {base r gs : Nat} {O OS O' : Foot} {D D' : Dsk} {G : Sl} {w W7 w8 : World} (h : DskIs w base O r D) (hg : SlIs w base OS gs r G) (hd : ∀ i, O i → ¬ OS i) (g7 : Below w.heap.size w W7) (_d8 : DskIs w8 base O' r D') (o8 : OnlyO base O W7 w8) (gr8 : Grown O O' W7.heap.size) :
    SlIs w8 base OS gs r G ∧ (∀ i, O' i → ¬ OS i) ∧ OnlyO base (fun i => O i ∨ OS i) w w8 ∧ base ≤ gs ∧ Grown O O' w.heap.size := by
  have hrl := h.own r h.mem
  have hgl := hg.own gs hg.mem
  have hs7 := g7.size
  have hgO : ∀ i, OS i → ¬ O' i := fun i hi ho => by
    rcases gr8 i ho with q | q
    · exact hd i q hi
    · have := (hg.own i hi).2
      omega
  have o1 := (OnlyO.of g7 (by omega) : OnlyO base O w W7).trans o8 (Grown.refl _ _)
  exact ⟨(hg.after g7).kept (fun i hi => o8.keep i (Nat.lt_of_lt_of_le (hg.own i hi).2 hs7) (fun ho => hd i ho hi)) o8.size, fun i hi q => hgO i q hi, ⟨o1.bel, fun i hi hn => o1.keep i hi (fun q => hn (Or.inl q))⟩, hgl.1, fun i hi => (gr8 i hi).imp id (fun q => by omega)⟩
/-- It told Down. -/
theorem sp_fell {base r gs : Nat} {O OS O' : Foot} {D D' : Dsk} {G : Sl} {b : List Int} {w W7 w8 : World} (h : DskIs w base O r D) (hg : SlIs w base OS gs r G) (hd : ∀ i, O i → ¬ OS i) (g7 : Below w.heap.size w W7) (d8 : DskIs w8 base O' r D') (o8 : OnlyO base O W7 w8) (gr8 : Grown O O' W7.heap.size)
    (hp : PutsOut D (G.from_ * G.size) (G.n * G.size) (G.ep, G.b) b 12 D') : GivesSp base O OS r gs D G b w (.returned (.int .i64 12)) (w8.setCell ⟨gs, 5, none⟩ (.bool true)) := by
  obtain ⟨hs, hdj, ho, hb, hgr⟩ := sp_behind h hg hd g7 d8 o8 gr8
  refine ⟨12, D', O', OS, rfl, hp, d8.kept (fun i hi => set_else _ _ _ _ i (fun e => hdj i hi (e ▸ hg.mem))) (by simp), hs.fall, hdj, ho.set (Or.inr hg.mem) hb 5 _, fun i hi => ?_⟩
  rcases hi with hi | hi
  · exact (hgr i hi).imp Or.inl id
  · exact Or.inl (Or.inr hi)
/-- It is put. -/
theorem sp_done {base r gs : Nat} {O OS O' : Foot} {D D' : Dsk} {G : Sl} {b : List Int} {v : Value} {w W7 w8 : World} (h : DskIs w base O r D) (hg : SlIs w base OS gs r G) (hd : ∀ i, O i → ¬ OS i) (hup : G.down = false) (g7 : Below w.heap.size w W7) (d8 : DskIs w8 base O' r D') (o8 : OnlyO base O W7 w8) (gr8 : Grown O O' W7.heap.size)
    (hp : PutsOut D (G.from_ * G.size) (G.n * G.size) (G.ep, G.b) b 0 D') (hv : ArgB W7 v b) (hvn : b ≠ [] → ∀ j, v.ownBlock = some j → w.heap.size ≤ j) (hl : b.length ≤ 1000000) :
    GivesSp base O OS r gs D G b w (.returned (.int .i64 0)) ((w8.setCell ⟨gs, 3, none⟩ (.int .u64 ((G.ep + 1 : Nat) : Int))).setCell ⟨gs, 4, none⟩ v) := by
  obtain ⟨hs, hdj, ho, hb, hgr⟩ := sp_behind h hg hd g7 d8 o8 gr8
  have hset : ∀ i, i ≠ gs → ((w8.setCell ⟨gs, 3, none⟩ (.int .u64 ((G.ep + 1 : Nat) : Int))).setCell ⟨gs, 4, none⟩ v).heap[i]? = w8.heap[i]? := fun i hi => (set_else _ _ _ _ i hi).trans (set_else _ _ _ _ i hi)
  have hbase := (h.own r h.mem)
  have hgl := hg.own gs hg.mem
  have hvb : b ≠ [] → ∀ j, v.ownBlock = some j → w.heap.size ≤ j ∧ j < W7.heap.size := fun hne j hj => ⟨hvn hne j hj, hv.lt hne hj⟩
  have hv8 : ArgB w8 v b := hv.only o8 (fun hne j hj ho => by have := (h.own j ho).2; have := (hvb hne j hj).1; omega)
  have hs8 := o8.size
  have hw := hs.weak (OS' := fun i => OS i ∨ (b ≠ [] ∧ v.ownBlock = some i)) (fun i hi => Or.inl hi) (fun i hi => by
    rcases hi with hi | ⟨hne, hi⟩
    · exact hs.own i hi
    · have := hvb hne i hi
      omega)
  have hlay := hw.lay (G.ep + 1) v b hv8 (fun hne j hj => ⟨Or.inr ⟨hne, hj⟩, by have := (hvb hne j hj).1; omega⟩) hl
  have hO' : ∀ i, O' i → ¬ (OS i ∨ (b ≠ [] ∧ v.ownBlock = some i)) := fun i hi q => by
    rcases q with q | ⟨hne, q⟩
    · exact hdj i hi q
    · have h1 := hvb hne i q
      rcases gr8 i hi with q2 | q2
      · have := (h.own i q2).2; omega
      · omega
  refine ⟨0, D', O', _, rfl, hp, d8.kept (fun i hi => hset i (fun e => hdj i hi (e ▸ hg.mem))) (by simp), ?_, hO', (ho.set (Or.inr hg.mem) hb 3 _).set (Or.inr hg.mem) hb 4 _, fun i hi => ?_⟩
  · rw [if_pos rfl, if_pos rfl, show decide ((0 : Int) = 12) = G.down by rw [hup]; rfl]
    exact hlay
  · rcases hi with hi | hi | ⟨hne, hi⟩
    · exact (hgr i hi).imp Or.inl id
    · exact Or.inl (Or.inr hi)
    · exact Or.inr (hvb hne i hi).1
set_option maxRecDepth 100000 in
set_option maxHeartbeats 8000000 in
theorem sput_any (base : Nat) (O OS : Foot) (r gs : Nat) (D : Dsk) (G : Sl) (v : Value) (b : List Int) (w : World) (env : ∀ W, Below base w W → Env W) (h : DskIs w base O r D) (hg : SlIs w base OS gs r G) (hd : ∀ i, O i → ¬ OS i) (on : SlotsOn D G) (dd : D.deeds ≤ 900000)
    (hv : ArgB w v b) (hb : ∀ z ∈ b, 0 ≤ z ∧ z ≤ 255) (_hy : b ≠ [] → ∀ k, v.ownBlock = some k → ¬ O k ∧ ¬ OS k) (hf : b.length + 19 ≤ G.n * G.size) (he : G.ep < 18446744073709551615) :
    Calls Tryd.prog 15 #[.pointer (some ⟨gs, 0, none⟩), v] w (GivesSp base O OS r gs D G b w) := by
  have n1 := h.ok.n1
  have hmost := h.ok.most
  have hkD : G.n * D.size ≤ D.n * D.size := Nat.mul_le_mul_right _ (by have := on.on; omega)
  have hMs : G.n * G.size = G.n * D.size := by rw [on.sz]
  have hbl : b.length ≤ 900000 := by omega
  have HNW := Lib.hid (snowhere_same base OS gs r G w hg)
  have HDK := Lib.hid (bdark_any base O r D w h)
  rw [on.dk] at HDK
  have HMS := Lib.hid (fun W (g : Below w.heap.size w W) => smost_any base O OS gs r D G W (h.after g) (hg.after g) on.sz on.n1 on.on)
  have HG := Lib.hid (fun W (g : Below w.heap.size w W) => hg.after g)
  have HCL := Lib.hid (fun W (g : Below w.heap.size w W) => clone_any v b W (hv.below g) (by omega))
  have hbase : Hid (base ≤ w.heap.size) := by have := h.own r h.mem; unfold Hid; omega
  have hsn := on.sn
  rw [on.sz] at hsn
  have HPT := Lib.hid (fun W (g : Below w.heap.size w W) cv (hcv : ArgB W cv b) (hO : b ≠ [] → ∀ j, cv.ownBlock = some j → ¬ O j) => sputp_any base O r D G.from_ G.n (G.ep, G.b) cv b (G.ep + 1) W (fun W' g' => env W' ((g.mono hbase.out).trans g')) (h.after g) on.n1 on.on on.dk on.ws dd hsn rfl (by omega) hcv hO hb (by rw [← hMs]; exact hf))
  have HH := Lib.hid (And.intro h (And.intro hg (And.intro hd (And.intro on.up (And.intro on.sz hbl)))))
  have hOw : Hid (∀ i, O i → i < w.heap.size) := fun i hi => (h.own i hi).2
  have hgsl : Hid (gs < w.heap.size) := (hg.own gs hg.mem).2
  have c0 := hg.c0
  have c5 := hg.c5
  have hup := on.up
  rw [hup] at c5
  obtain ⟨ba, bc, rfl⟩ := hv.size
  obtain ⟨gf, hgf⟩ : ∃ x, G.from_ = x := ⟨_, rfl⟩
  obtain ⟨gn, hgn⟩ : ∃ x, G.n = x := ⟨_, rfl⟩
  obtain ⟨ep, hep⟩ : ∃ x, G.ep = x := ⟨_, rfl⟩
  obtain ⟨e1, he1⟩ : ∃ x, ep + 1 = x := ⟨_, rfl⟩
  obtain ⟨L, hL⟩ : ∃ n, b.length = n := ⟨_, rfl⟩
  obtain ⟨ms, hms⟩ : ∃ z : Int, ((G.n * G.size : Nat) : Int) - 19 = z := ⟨_, rfl⟩
  have HE := Lib.hid (And.intro hgf (And.intro hgn (And.intro hep (And.intro he1 hL))))
  have HGC : Hid (∀ W, Below w.heap.size w W → W.cell? ⟨gs, 0, none⟩ = some (.pointer (some ⟨r, 0, none⟩)) ∧ W.cell? ⟨gs, 1, none⟩ = some (.int .i64 (gf : Int)) ∧ W.cell? ⟨gs, 2, none⟩ = some (.int .i64 (gn : Int)) ∧ W.cell? ⟨gs, 3, none⟩ = some (.int .u64 (ep : Int))) := fun W g => by
    have q := hg.after g
    exact ⟨q.c0, by rw [← hgf]; exact q.c1, by rw [← hgn]; exact q.c2, by rw [← hep]; exact q.c3⟩
  rw [hms] at HMS
  rw [hL] at HCL hf ⊢
  have hgt : ¬ ms < (L : Int) := by omega
  rw [hep] at he
  have hnm : ((ep : Int) == 18446744073709551615) = false := by rw [beq_eq_false_iff_ne]; omega
  have hw9 : IntKind.u64.wrap ((ep : Int) + 1) = (e1 : Int) := by rw [IntKind.wrap_u64]; omega
  have hw10 : (ep : Int) + 1 = (e1 : Int) := by omega
  have hepb : ep < 18446744073709551615 := he
  rw [hgf, hgn, hep, he1] at HPT
  clear h hg hd on dd hv hb hf he n1 hmost hkD hMs hbl hsn env hgf hgn hep he1 hL hms hup _hy
  go_enter Tryd.func15, Tryd.ntmps15
  go_wp2_with (first
    | (go_at_call 37; (with_reducible refine (HNW.out).mono ?_); rintro e w1 ⟨rfl, hww⟩; have hww2 := hww.symm; subst hww2; clear hww)
    | (go_at_call 38; (with_reducible refine (HDK.out).mono ?_); rintro e w1 ⟨rfl, g1⟩; have G1 := Lib.hid g1; clear g1)
    | (go_at_call 13; (with_reducible refine (HMS.out _ G1.out).mono ?_); rintro e w2 ⟨rfl, g2⟩; have G2 := Lib.hid (below_step G1.out g2); obtain ⟨z0, z1, z2, z3⟩ := HGC.out _ (below_step G1.out g2); clear g2))
  refine wp_region_mix 10 (TP9 [.pointer (some ⟨gs, 0, none⟩), .pointer (some ⟨gs, 0, none⟩), .pointer (some ⟨gs, 3, none⟩), .pointer (some ⟨gs, 3, none⟩), .int .u64 (ep : Int), .int .u64 (e1 : Int), .slice ba L bc, undef, undef, undef] w2.heap.size L e1 b) (fun _ => false) (by kernel_rfl) (by kernel_rfl) TP9.keep (fun _ _ _ h => by cases h) ?_ ?_
  · simp only [List.take_succ_cons, List.take_zero]
    refine (StepsAll.cons ?_ (StepsAll.cons ?_ (StepsAll.cons ?_ (StepsAll.cons ?_ (StepsAll.cons ?_ (StepsAll.cons ?_ (StepsAll.cons ?_ (StepsAll.cons ?_ (StepsAll.cons ?_ (StepsAll.cons ?_ StepsAll.nil))))))))))
    · intro u W hb hd
      simp only [putAll, Act.put, List.setIfInBounds_toArray, List.set_cons_succ, List.set_cons_zero, Nat.zero_add, Nat.reduceAdd]
      go_wp2
      first | exact ⟨rfl, Below.refl _ _⟩ | exact ⟨_, rfl, rfl, Below.refl _ _, fun h => by simp at h⟩ | exact ⟨_, rfl, rfl, Below.refl _ _⟩ | exact ⟨rfl, Below.refl _ _, fun h => by simp at h⟩
    · intro u W hb hd
      have e0 : u 0 = .pointer (some ⟨gs, 0, none⟩) := hd.1 rfl (by decide)
      obtain ⟨y0, y1, y2, y3⟩ := HGC.out W (below_step G2.out hb)
      simp only [putAll, Act.put, List.setIfInBounds_toArray, List.set_cons_succ, List.set_cons_zero, Nat.zero_add, Nat.reduceAdd]
      rw [e0]
      go_wp2
      first | exact ⟨rfl, Below.refl _ _⟩ | exact ⟨_, rfl, rfl, Below.refl _ _, fun h => by simp at h⟩ | exact ⟨_, rfl, rfl, Below.refl _ _⟩ | exact ⟨rfl, Below.refl _ _, fun h => by simp at h⟩
    · intro u W hb hd
      have e0 : u 1 = .pointer (some ⟨gs, 0, none⟩) := hd.1 rfl (by decide)
      simp only [putAll, Act.put, List.setIfInBounds_toArray, List.set_cons_succ, List.set_cons_zero, Nat.zero_add, Nat.reduceAdd]
      rw [e0]
      go_wp2
      first | exact ⟨rfl, Below.refl _ _⟩ | exact ⟨_, rfl, rfl, Below.refl _ _, fun h => by simp at h⟩ | exact ⟨_, rfl, rfl, Below.refl _ _⟩ | exact ⟨rfl, Below.refl _ _, fun h => by simp at h⟩
    · intro u W hb hd
      have e0 : u 2 = .pointer (some ⟨gs, 3, none⟩) := hd.1 rfl (by decide)
      simp only [putAll, Act.put, List.setIfInBounds_toArray, List.set_cons_succ, List.set_cons_zero, Nat.zero_add, Nat.reduceAdd]
      rw [e0]
      go_wp2
      first | exact ⟨rfl, Below.refl _ _⟩ | exact ⟨_, rfl, rfl, Below.refl _ _, fun h => by simp at h⟩ | exact ⟨_, rfl, rfl, Below.refl _ _⟩ | exact ⟨rfl, Below.refl _ _, fun h => by simp at h⟩
    · intro u W hb hd
      have e0 : u 3 = .pointer (some ⟨gs, 3, none⟩) := hd.1 rfl (by decide)
      obtain ⟨y0, y1, y2, y3⟩ := HGC.out W (below_step G2.out hb)
      simp only [putAll, Act.put, List.setIfInBounds_toArray, List.set_cons_succ, List.set_cons_zero, Nat.zero_add, Nat.reduceAdd]
      rw [e0]
      go_wp2
      first | exact ⟨rfl, Below.refl _ _⟩ | exact ⟨_, rfl, rfl, Below.refl _ _, fun h => by simp at h⟩ | exact ⟨_, rfl, rfl, Below.refl _ _⟩ | exact ⟨rfl, Below.refl _ _, fun h => by simp at h⟩
    · intro u W hb hd
      have e0 : u 4 = .int .u64 (ep : Int) := hd.1 rfl (by decide)
      simp only [putAll, Act.put, List.setIfInBounds_toArray, List.set_cons_succ, List.set_cons_zero, Nat.zero_add, Nat.reduceAdd]
      rw [e0]
      go_wp2
      first | exact ⟨rfl, Below.refl _ _⟩ | exact ⟨_, rfl, rfl, Below.refl _ _, fun h => by simp at h⟩ | exact ⟨_, rfl, rfl, Below.refl _ _⟩ | exact ⟨rfl, Below.refl _ _, fun h => by simp at h⟩
    · intro u W hb hd
      simp only [putAll, Act.put, List.setIfInBounds_toArray, List.set_cons_succ, List.set_cons_zero, Nat.zero_add, Nat.reduceAdd]
      go_wp2
      first | exact ⟨rfl, Below.refl _ _⟩ | exact ⟨_, rfl, rfl, Below.refl _ _, fun h => by simp at h⟩ | exact ⟨_, rfl, rfl, Below.refl _ _⟩ | exact ⟨rfl, Below.refl _ _, fun h => by simp at h⟩
    · intro u W hb hd
      have e0 : u 6 = .slice ba L bc := hd.1 rfl (by decide)
      have hle := hb.size
      simp only [putAll, Act.put, List.setIfInBounds_toArray, List.set_cons_succ, List.set_cons_zero, Nat.zero_add, Nat.reduceAdd]
      rw [e0]
      go_wp2_with (go_at_call 39; (with_reducible refine (HCL.out W (below_step G2.out hb)).mono ?_); rintro x w4 ⟨cv, rfl, h4, o4, g4⟩)
      first | exact ⟨_, rfl, ⟨h4, fun j hj => Nat.le_trans hle (o4 j hj)⟩, g4, fun h => by simp at h⟩ | exact ⟨⟨h4, fun j hj => Nat.le_trans hle (o4 j hj)⟩, g4, fun h => by simp at h⟩ | exact ⟨_, rfl, ⟨h4, fun j hj => Nat.le_trans hle (o4 j hj)⟩, g4⟩ | exact ⟨⟨h4, fun j hj => Nat.le_trans hle (o4 j hj)⟩, g4⟩
    · intro u W hb hd
      have e0 : u 5 = .int .u64 (e1 : Int) := hd.1 rfl (by decide)
      have e1' : TP9 _ _ _ _ _ 7 (u 7) W := hd.2.1 rfl (by decide)
      have hq : ArgB W (u 7) b ∧ ∀ j, (u 7).ownBlock = some j → w2.heap.size ≤ j := e1'
      obtain ⟨ca, cc, hce⟩ := hq.1.size
      rw [show b.length = L from HE.out.2.2.2.2] at hce
      rw [hce] at hq
      simp only [putAll, Act.put, List.setIfInBounds_toArray, List.set_cons_succ, List.set_cons_zero, Nat.zero_add, Nat.reduceAdd]
      rw [e0]
      rw [hce]
      go_wp2
      exact ⟨⟨ca, cc, rfl, hq.1, hq.2⟩, Below.refl _ _⟩
    · intro u W hb hd
      have hle := hb.size
      have hV := Var2.fresh W (.int .u64 0) (.slice none 0 0) 69 _ rfl
      have hz : ∀ i, 2 ≤ i → (W.alloc (.cells #[.int .u64 0, .slice none 0 0] 69)).cell? ⟨W.heap.size, i, none⟩ = none := cells_end W _ _ _
      have hbz := below_more (Below.refl W.heap.size W) (.cells #[.int .u64 0, .slice none 0 0] 69)
      simp only [putAll, Act.put, List.setIfInBounds_toArray, List.set_cons_succ, List.set_cons_zero, Nat.zero_add, Nat.reduceAdd]
      go_wp2
      first | exact ⟨⟨_, rfl, hV, hz, hle⟩, hbz, fun h => by simp at h⟩ | exact ⟨_, rfl, ⟨_, rfl, hV, hz, hle⟩, hbz, fun h => by simp at h⟩ | exact ⟨⟨_, rfl, hV, hz, hle⟩, hbz⟩ | exact ⟨_, rfl, hV, hz, hle⟩
  · intro u W hb hT _
    have e0 : u 0 = .pointer (some ⟨gs, 0, none⟩) := hT 0 (by decide)
    have e1x : u 1 = .pointer (some ⟨gs, 0, none⟩) := hT 1 (by decide)
    have e2 : u 2 = .pointer (some ⟨gs, 3, none⟩) := hT 2 (by decide)
    have e3 : u 3 = .pointer (some ⟨gs, 3, none⟩) := hT 3 (by decide)
    have e4 : u 4 = .int .u64 (ep : Int) := hT 4 (by decide)
    have e5 : u 5 = .int .u64 (e1 : Int) := hT 5 (by decide)
    have e6 : u 6 = .slice ba L bc := hT 6 (by decide)
    obtain ⟨ca, cc, e8, hca, hco⟩ : ∃ a c, u 8 = .agg #[.int .u64 (e1 : Int), .slice a L c] ∧ ArgB W (.slice a L c) b ∧ ∀ j, (Value.slice a L c).ownBlock = some j → w2.heap.size ≤ j := hT 8 (by decide)
    obtain ⟨g9, e9, hV9, hz9, hg9⟩ : ∃ g, u 9 = .pointer (some ⟨g, 0, none⟩) ∧ Var2 W g (.int .u64 0) (.slice none 0 0) ∧ (∀ i, 2 ≤ i → W.cell? ⟨g, i, none⟩ = none) ∧ w2.heap.size ≤ g := hT 9 (by decide)
    have GW := Lib.hid (below_step G2.out hb)
    have hS2 := G2.out.size
    have hgs9 : gs ≠ g9 := by have := hgsl.out; omega
    have hel : b ≠ [] → ∀ j, (Value.slice ca L cc).ownBlock = some j → j ≠ g9 := fun hne j hj => bytes_else hca hne hj hV9 hz9
    have q0 := hV9.q0
    have q1 := hV9.q1
    have q2 := hV9.c0
    have q3 := hV9.c1
    obtain ⟨W1, hW1⟩ : ∃ W1, (W.setCell ⟨g9, 0, none⟩ (.int .u64 (e1 : Int))).setCell ⟨g9, 1, none⟩ (.slice ca L cc) = W1 := ⟨_, rfl⟩
    have hk1 : ∀ j, j ≠ g9 → W1.heap[j]? = W.heap[j]? := fun j hj => by rw [← hW1]; exact (set_else _ _ _ _ j hj).trans (set_else _ _ _ _ j hj)
    have hs1 : W1.heap.size = W.heap.size := by rw [← hW1]; simp
    have GW1 := Lib.hid (show Below w.heap.size w W1 from by rw [← hW1]; exact below_put2 GW.out (Nat.le_trans hS2 hg9) _ _)
    have V1 := Lib.hid (show Var2 W1 g9 (.int .u64 (e1 : Int)) (.slice ca L cc) from by rw [← hW1]; exact hV9.put _ _)
    have A1 := Lib.hid (hca.stay (W' := W1) (fun hne j hj => hk1 j (hel hne j hj)))
    have CO := Lib.hid (fun j hj => Nat.le_trans hS2 (hco j hj))
    have GN9 := Lib.hid (Nat.le_trans hS2 hg9)
    clear hb hT hca hco hV9 hz9 hg9 hel hk1 hs1
    simp only [List.take_succ_cons, List.take_zero, List.drop_succ_cons, List.drop_zero, putAll, Act.put, List.setIfInBounds_toArray, List.set_cons_succ, List.set_cons_zero, Nat.zero_add, Nat.reduceAdd]
    rw [e0, e1x, e2, e3, e4, e5, e6, e8, e9]
    clear e0 e1x e2 e3 e4 e5 e6 e8 e9
    go_wp2
    (try rw [hW1])
    clear hW1 q0 q1 q2 q3
    refine wp_region_mix 5 (TLst [.pointer (some ⟨gs, 0, none⟩), .pointer (some ⟨gs, 0, none⟩), .pointer (some ⟨gs, 0, none⟩), .agg #[.pointer (some ⟨r, 0, none⟩), .int .i64 (gf : Int), .int .i64 (gn : Int)], .agg #[.int .u64 (e1 : Int), .slice ca L cc]]) (fun _ => false) (by kernel_rfl) (by kernel_rfl) (fun _ _ _ _ h _ => h) (fun _ _ _ h => by cases h) ?_ ?_
    · simp only [List.take_succ_cons, List.take_zero]
      refine (StepsAll.cons ?_ (StepsAll.cons ?_ (StepsAll.cons ?_ (StepsAll.cons ?_ (StepsAll.cons ?_ StepsAll.nil)))))
      · intro u W hb hd
        simp only [putAll, Act.put, List.setIfInBounds_toArray, List.set_cons_succ, List.set_cons_zero, Nat.zero_add, Nat.reduceAdd]
        go_wp2
        first | exact ⟨rfl, Below.refl _ _⟩ | exact ⟨_, rfl, rfl, Below.refl _ _, fun h => by simp at h⟩ | exact ⟨_, rfl, rfl, Below.refl _ _⟩ | exact ⟨rfl, Below.refl _ _, fun h => by simp at h⟩
      · intro u W hb hd
        have e0 : u 0 = .pointer (some ⟨gs, 0, none⟩) := hd.1 rfl (by decide)
        obtain ⟨y0, y1, y2, y3⟩ := HGC.out W (below_step GW1.out hb)
        simp only [putAll, Act.put, List.setIfInBounds_toArray, List.set_cons_succ, List.set_cons_zero, Nat.zero_add, Nat.reduceAdd]
        rw [e0]
        go_wp2
        first | exact ⟨rfl, Below.refl _ _⟩ | exact ⟨_, rfl, rfl, Below.refl _ _, fun h => by simp at h⟩ | exact ⟨_, rfl, rfl, Below.refl _ _⟩ | exact ⟨rfl, Below.refl _ _, fun h => by simp at h⟩
      · intro u W hb hd
        have e0 : u 1 = .pointer (some ⟨gs, 0, none⟩) := hd.1 rfl (by decide)
        simp only [putAll, Act.put, List.setIfInBounds_toArray, List.set_cons_succ, List.set_cons_zero, Nat.zero_add, Nat.reduceAdd]
        rw [e0]
        go_wp2
        first | exact ⟨rfl, Below.refl _ _⟩ | exact ⟨_, rfl, rfl, Below.refl _ _, fun h => by simp at h⟩ | exact ⟨_, rfl, rfl, Below.refl _ _⟩ | exact ⟨rfl, Below.refl _ _, fun h => by simp at h⟩
      · intro u W hb hd
        have e0 : u 2 = .pointer (some ⟨gs, 0, none⟩) := hd.1 rfl (by decide)
        obtain ⟨y0, y1, y2, y3⟩ := HGC.out W (below_step GW1.out hb)
        simp only [putAll, Act.put, List.setIfInBounds_toArray, List.set_cons_succ, List.set_cons_zero, Nat.zero_add, Nat.reduceAdd]
        rw [e0]
        go_wp2
        first | exact ⟨rfl, Below.refl _ _⟩ | exact ⟨_, rfl, rfl, Below.refl _ _, fun h => by simp at h⟩ | exact ⟨_, rfl, rfl, Below.refl _ _⟩ | exact ⟨rfl, Below.refl _ _, fun h => by simp at h⟩
      · intro u W hb hd
        have V3 := V1.out.after hb
        have c0 := V3.c0
        have c1 := V3.c1
        simp only [putAll, Act.put, List.setIfInBounds_toArray, List.set_cons_succ, List.set_cons_zero, Nat.zero_add, Nat.reduceAdd]
        go_wp2
        first | exact ⟨rfl, Below.refl _ _⟩ | exact ⟨_, rfl, rfl, Below.refl _ _, fun h => by simp at h⟩ | exact ⟨_, rfl, rfl, Below.refl _ _⟩ | exact ⟨rfl, Below.refl _ _, fun h => by simp at h⟩
    · intro u7 W7 hb hT _
      have e0 : u7 0 = .pointer (some ⟨gs, 0, none⟩) := hT 0 (by decide)
      have e1x : u7 1 = .pointer (some ⟨gs, 0, none⟩) := hT 1 (by decide)
      have e2 : u7 2 = .pointer (some ⟨gs, 0, none⟩) := hT 2 (by decide)
      have e3 : u7 3 = .agg #[.pointer (some ⟨r, 0, none⟩), .int .i64 (gf : Int), .int .i64 (gn : Int)] := hT 3 (by decide)
      have e4 : u7 4 = .agg #[.int .u64 (e1 : Int), .slice ca L cc] := hT 4 (by decide)
      have G7 := Lib.hid (below_step GW1.out hb)
      have A7 := Lib.hid (A1.out.below hb)
      have V7 := Lib.hid (V1.out.after hb)
      have HW := Lib.hid (HPT.out W7 G7.out _ A7.out (fun hne j hj hO => by have q1 := CO.out j hj; have q2 := hOw.out j hO; omega))
      unfold GivesPp at HW
      have HS7 := Lib.hid (HG.out W7 G7.out)
      have HGO := Lib.hid (fun w8 (o8 : OnlyO base O W7 w8) => HS7.out.kept (fun i hi => o8.keep i (HS7.out.own i hi).2 (fun ho => HH.out.2.2.1 i ho hi)) o8.size)
      have hV9 := Lib.hid (fun w8 (o8 : OnlyO base O W7 w8) => V7.out.onlyO o8 (fun q => by have q1 := hOw.out _ q; have q2 := GN9.out; omega))
      clear hb hT
      simp only [List.take_succ_cons, List.take_zero, List.drop_succ_cons, List.drop_zero, putAll, Act.put, List.setIfInBounds_toArray, List.set_cons_succ, List.set_cons_zero, Nat.zero_add, Nat.reduceAdd]
      rw [e0, e1x, e2, e3, e4]
      clear e0 e1x e2 e3 e4
      go_wp2_with (go_at_call 40; (with_reducible refine (HW.out).mono ?_); rintro x w8 ⟨c', D', rfl, p8, O', d8, o8, gr8⟩; have S8 := Lib.hid (HGO.out w8 o8); have hv8 := hV9.out w8 o8; have k0 := hv8.c0; have k1 := hv8.c1; have z0 := S8.out.c0; have z3 := S8.out.c3; obtain ⟨bv8, z4, _, _⟩ := S8.out.c4; have z5 := S8.out.c5; have q3 := S8.out.q 3; have q4 := S8.out.q 4; have q5 := S8.out.q 5; have P8 := Lib.hid p8; have D8 := Lib.hid d8; have O8 := Lib.hid o8; have GR8 := Lib.hid gr8; have hc := pp_c01 p8; clear p8 d8 o8 gr8 hv8; rcases hc with rfl | rfl)
      · go_ret
        obtain ⟨f1, f2, f3, f4, f5⟩ := HE.out
        obtain ⟨h, hg, hd, hup, hsz, hbl⟩ := HH.out
        have hp := P8.out
        rw [← f1, ← f2, ← hsz, ← f3] at hp
        have hq := sp_done h hg hd hup G7.out D8.out O8.out GR8.out hp A7.out (fun _ j hj => CO.out j hj) (by omega)
        rw [f3, f4] at hq
        exact hq
      · go_ret
        obtain ⟨f1, f2, f3, f4, f5⟩ := HE.out
        obtain ⟨h, hg, hd, hup, hsz, hbl⟩ := HH.out
        have hp := P8.out
        rw [← f1, ← f2, ← hsz, ← f3] at hp
        have hq := sp_fell h hg hd G7.out D8.out O8.out GR8.out hp
        exact hq

end Go.Proofs.YtbhmkmfjbafdcaaDoor
