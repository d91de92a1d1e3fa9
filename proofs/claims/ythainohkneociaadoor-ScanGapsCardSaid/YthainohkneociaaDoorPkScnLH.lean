/-
  ScanGaps, walked.
-/
import Derived.Test.YthainohkneociaaDoorPkScnLG
import Derived.Test.YthainohkneociaaDoorPkMixs
namespace Go.Proofs.YthainohkneociaaDoor
open Go.RowKit

set_option maxRecDepth 100000 in
set_option maxHeartbeats 4000000 in
theorem pgap_any (k : Int) (w : World) (h : 0 ≤ k ∧ k ≤ 255) : Calls Tryd.prog 12 #[.int .u8 k] w fun e w' => e = .returned (.string (strOfNums (gapL (k.toNat % 5)))) ∧ w = w' := by
  obtain ⟨m, hm⟩ : ∃ m : Nat, k.toNat % 5 = m := ⟨_, rfl⟩
  have h1 : k % 5 = (m : Int) := by omega
  have h2 : k.tmod 5 = (m : Int) := by rw [Int.tmod_eq_emod_of_nonneg (by omega)]; omega
  have hw : IntKind.u8.wrap (m : Int) = (m : Int) := by rw [IntKind.wrap_u8]; omega
  rw [hm]
  obtain ⟨S, hS⟩ : ∃ S, strOfNums (gapL m) = S := ⟨_, rfl⟩
  rw [hS]
  have hc : m = 0 ∨ m = 1 ∨ m = 2 ∨ m = 3 ∨ m = 4 := by omega
  have HS := Lib.hid hS
  clear hm hS h
  rcases hc with rfl | rfl | rfl | rfl | rfl
  · have h1' : k % 5 = 0 := by omega
    have h2' : k.tmod 5 = 0 := h2
    clear h1 h2 hw
    go_enter Tryd.func12, Tryd.ntmps12
    go_wp2
    go_ret
    exact ⟨by rw [← HS.out]; rfl, rfl⟩
  · have h1' : k % 5 = 1 := by omega
    have h2' : k.tmod 5 = 1 := h2
    clear h1 h2 hw
    go_enter Tryd.func12, Tryd.ntmps12
    go_wp2
    go_ret
    exact ⟨by rw [← HS.out]; rfl, rfl⟩
  · have h1' : k % 5 = 2 := by omega
    have h2' : k.tmod 5 = 2 := h2
    clear h1 h2 hw
    go_enter Tryd.func12, Tryd.ntmps12
    go_wp2
    go_ret
    exact ⟨by rw [← HS.out]; rfl, rfl⟩
  · have h1' : k % 5 = 3 := by omega
    have h2' : k.tmod 5 = 3 := h2
    clear h1 h2 hw
    go_enter Tryd.func12, Tryd.ntmps12
    go_wp2
    go_ret
    exact ⟨by rw [← HS.out]; rfl, rfl⟩
  · have h1' : k % 5 = 4 := by omega
    have h2' : k.tmod 5 = 4 := h2
    clear h1 h2 hw
    go_enter Tryd.func12, Tryd.ntmps12
    go_wp2
    go_ret
    exact ⟨by rw [← HS.out]; rfl, rfl⟩

/-- What each operation has made that puts one token more behind the text. -/
def GPs (s : ByteArray) (kk : Int) (G s1 : ByteArray) (b off len cap i : Nat) (k : Int) (t : ByteArray) (n : Nat) (a c : Int) (P s2 : ByteArray) : Nat → Value → World → Prop
  | 0, v, _ => v = .string s
  | 1, v, _ => v = .int .u8 kk
  | 2, v, _ => v = .string G
  | 3, v, _ => v = .string s1
  | 4, v, _ => v = .slice (some ⟨b, off, none⟩) len cap
  | 5, v, _ => v = .int .i64 (i : Int)
  | 6, v, _ => v = .pointer (some ⟨b, off + i * 5, none⟩)
  | 7, v, _ => v = .agg #[.int .i64 k, .string t, .int .u64 (n : Int), .int .i64 a, .int .i64 c]
  | 8, v, _ => v = .string P
  | 9, v, _ => v = .string s2
  | _, _, _ => True
theorem GPs.keep {s : ByteArray} {kk : Int} {G s1 : ByteArray} {b off len cap i : Nat} {k : Int} {t : ByteArray} {n : Nat} {a c : Int} {P s2 : ByteArray} (j : Nat) (v : Value) (w w' : World) (h : GPs s kk G s1 b off len cap i k t n a c P s2 j v w) (_hb : Below w.heap.size w w') : GPs s kk G s1 b off len cap i k t n a c P s2 j v w' := by
  match j, h with
  | 0, h => exact h
  | 1, h => exact h
  | 2, h => exact h
  | 3, h => exact h
  | 4, h => exact h
  | 5, h => exact h
  | 6, h => exact h
  | 7, h => exact h
  | 8, h => exact h
  | 9, h => exact h
  | j + 10, _ => exact trivial

set_option maxRecDepth 100000 in
set_option maxHeartbeats 4000000 in
theorem scng_long (v0 v1 : Value) (Q : List TokQ) (w : World) (env : Env w) (h0 : ToksIs w v0 Q) (hl : 40 < Q.length) : Calls Tryd.prog 4 #[v0, v1] w fun e w' => e = .returned (.bool true) ∧ Below w.heap.size w w' := by
  have HA := Lib.hid (scn_awake w env)
  obtain ⟨a0, cap0, rfl⟩ := h0.size
  have hsz : (40 : Int) < (Q.length : Int) := by omega
  clear h0 hl env
  go_enter Tryd.func4, Tryd.ntmps4
  go_wp2_with (go_at_call 5; (with_reducible refine (HA.out).mono ?_); rintro e w1 ⟨rfl, g1⟩; have G1 := Lib.hid g1; clear g1)
  go_ret
  exact ⟨rfl, G1.out⟩
/-- What is known of the source when so many tokens are behind it. -/
structure SrcAt (Q : List TokQ) (zs : List Int) (i : Nat) : Prop where
  ok : ∀ j, j < i → (itmOf Q zs j).Ok
  few : (srcB Q zs i).length ≤ 2009 * i
theorem SrcAt.zero (Q : List TokQ) (zs : List Int) : SrcAt Q zs 0 := ⟨fun j hj => by omega, Nat.le_refl _⟩
theorem SrcAt.more {Q : List TokQ} {zs : List Int} {i : Nat} (h : SrcAt Q zs i) (ho : (itmOf Q zs i).Ok) (ht : (Q.getD i {}).s.size ≤ 2000) : SrcAt Q zs (i + 1) := by
  refine ⟨fun j hj => ?_, ?_⟩
  · by_cases e : j = i
    · rw [e]; exact ho
    · exact h.ok j (by omega)
  · have h1 := gap_short ((gkB zs i).toNat % 5)
    have h2 := print_short ho.right ho.n9 ht
    have h3 := h.few
    rw [srcB_more, List.length_append, List.length_append]
    have : (prT (Q.getD i {}).k (Q.getD i {}).s (Q.getD i {}).n.toNat).length ≤ 2000 := h2
    omega

set_option maxRecDepth 100000 in
set_option maxHeartbeats 32000000 in
theorem scng_main (v0 v1 : Value) (Q : List TokQ) (zs : List Int) (w : World) (env : Env w) (h0 : ToksIs w v0 Q) (hQ : ∀ x ∈ Q, x.Ok) (h1 : GapsIs w v1 zs) (hz : ∀ z ∈ zs, 0 ≤ z ∧ z ≤ 255) (hl : Q.length ≤ 40) :
    Calls Tryd.prog 4 #[v0, v1] w fun e w' => e = .returned (.bool true) ∧ Below w.heap.size w w' := by
  have HA := Lib.hid (scn_awake w env)
  have HENV := Lib.hid env
  have HQ := Lib.hid hQ
  have HZ := Lib.hid hz
  obtain ⟨a0, cap, rfl, hcap, hcell⟩ := h0
  obtain ⟨a1, cap1, rfl, hcap1, hcell1⟩ := h1
  have HC1 := Lib.hid hcell1
  obtain ⟨n, hn⟩ : ∃ n, Q.length = n := ⟨_, rfl⟩
  obtain ⟨m, hm⟩ : ∃ n, zs.length = n := ⟨_, rfl⟩
  have HN := Lib.hid hn
  have HM := Lib.hid hm
  have HC : Hid (∀ i, i < n → ∃ b off, a0 = some ⟨b, off, none⟩ ∧ w.cell? ⟨b, off + i * 5, none⟩ = some (.int .i64 (Q.getD i {}).k) ∧ w.cell? ⟨b, off + i * 5 + 1, none⟩ = some (.string (Q.getD i {}).s) ∧ w.cell? ⟨b, off + i * 5 + 2, none⟩ = some (.int .u64 (Q.getD i {}).n) ∧ w.cell? ⟨b, off + i * 5 + 3, none⟩ = some (.int .i64 (Q.getD i {}).a) ∧ w.cell? ⟨b, off + i * 5 + 4, none⟩ = some (.int .i64 (Q.getD i {}).b)) := Lib.hid (by rw [← hn]; exact hcell)
  rw [hn] at hl hcap ⊢
  rw [hm] at hcap1 ⊢
  have hsz : ¬ (40 : Int) < (n : Int) := by omega
  have HCP := Lib.hid hcap
  clear hcell hcell1 hQ hz env hn hm
  go_enter Tryd.func4, Tryd.ntmps4
  go_wp2_with (go_at_call 5; (with_reducible refine (HA.out).mono ?_); rintro e w1 ⟨rfl, g1⟩; have G1 := Lib.hid g1; clear g1)
  have HE0 : Hid (strOfNums (srcB Q zs 0) = ⟨#[]⟩) := Lib.hid rfl
  go_loopw [5, 6] (fun v5 v6 wr => ∃ i : Nat, i ≤ n ∧ v6 = .int .i64 (i : Int) ∧ v5 = .string (strOfNums (srcB Q zs i)) ∧ SrcAt Q zs i ∧ Below w.heap.size w wr) (fun _ v6 _ => n - (intOf v6).toNat)
  case atStart => exact ⟨0, Nat.zero_le _, rfl, by rw [HE0.out], SrcAt.zero Q zs, G1.out⟩
  case round =>
    obtain ⟨i, hi, rfl, rfl, hS, hB⟩ := hrel
    have HS := Lib.hid hS
    have HB := Lib.hid hB
    clear hS hB
    by_cases hin : i < n
    · have hii : (i : Int) < (n : Int) := by omega
      have hci := HC.out i hin
      obtain ⟨b, off, ha, x0, x1, x2, x3, x4⟩ := hci
      subst ha
      have hlt := World.block_lt_of_cell? _ _ x0
      have y0 := (HB.out.cell (p := ⟨b, off + i * 5, none⟩) hlt).trans x0
      have y1 := (HB.out.cell (p := ⟨b, off + i * 5 + 1, none⟩) hlt).trans x1
      have y2 := (HB.out.cell (p := ⟨b, off + i * 5 + 2, none⟩) hlt).trans x2
      have y3 := (HB.out.cell (p := ⟨b, off + i * 5 + 3, none⟩) hlt).trans x3
      have y4 := (HB.out.cell (p := ⟨b, off + i * 5 + 4, none⟩) hlt).trans x4
      obtain ⟨⟨k, t, nn, a, c⟩, hq⟩ : ∃ q, Q.getD i {} = q := ⟨_, rfl⟩
      have hok : TokQ.Ok ⟨k, t, nn, a, c⟩ := by
        rw [← hq, List.getD_eq_getElem?_getD, List.getElem?_eq_getElem (by rw [HN.out]; exact hin)]
        exact HQ.out _ (List.getElem_mem _)
      rw [hq] at y0 y1 y2 y3 y4
      obtain ⟨N, hN⟩ : ∃ N : Nat, nn = (N : Int) := ⟨nn.toNat, by have := hok.n0; simp only at this; omega⟩
      subst hN
      have hN9 : N ≤ 18446744073709551615 := by have := hok.n0; simp only at this; omega
      simp only at y0 y1 y2 y3 y4
      have HQI := Lib.hid hq
      have hlw : b < wr.heap.size := Nat.lt_of_lt_of_le hlt HB.out.size
      clear x0 x1 x2 x3 x4 hq
      by_cases h5 : 500 < t.size
      · have h5' : (500 : Int) < (t.size : Int) := by omega
        clear h5
        go_wp2
        go_ret
        exact ⟨rfl, HB.out⟩
      have h5' : ¬ (500 : Int) < (t.size : Int) := by omega
      by_cases hr : RightT k t (N : Int)
      · have HRT : Hid (∀ W, Calls Tryd.prog 11 #[.agg #[.int .i64 k, .string t, .int .u64 (N : Int), .int .i64 a, .int .i64 c]] W fun e w' => e = .returned (.bool true) ∧ Below W.heap.size W w') := Lib.hid (fun W => (sright_any k t N a c W (by omega)).mono (by
          rintro e w' ⟨q, rfl, hq, h⟩
          rw [hq.mpr hr]
          exact ⟨rfl, h⟩))
        by_cases hk : k = 0
        · subst hk
          clear hr
          go_wp2_with (go_at_call 11; (with_reducible refine (HRT.out _).mono ?_); rintro e w4 ⟨rfl, g4⟩; have G4 := Lib.hid (below_step HB.out g4); have z0 := (g4.cell (p := ⟨b, off + i * 5, none⟩) hlw).trans y0; have z1 := (g4.cell (p := ⟨b, off + i * 5 + 1, none⟩) hlw).trans y1; have z2 := (g4.cell (p := ⟨b, off + i * 5 + 2, none⟩) hlw).trans y2; have z3 := (g4.cell (p := ⟨b, off + i * 5 + 3, none⟩) hlw).trans y3; have z4 := (g4.cell (p := ⟨b, off + i * 5 + 4, none⟩) hlw).trans y4; clear g4)
          go_ret
          exact ⟨rfl, G4.out⟩
        · have hkb : (k == 0) = false := by simpa using hk
          have hito : (itmOf Q zs i).Ok := by
            unfold itmOf
            rw [HQI.out]
            exact ⟨by show RightT k t (((N : Int).toNat : Nat) : Int); rw [Int.toNat_natCast]; exact hr, by show (N : Int).toNat ≤ _; rw [Int.toNat_natCast]; exact hN9, hk⟩
          have HSN : Hid (SrcAt Q zs (i + 1)) := Lib.hid (HS.out.more hito (by rw [HQI.out]; show t.size ≤ 2000; omega))
          obtain ⟨kk, hkk⟩ : ∃ z, gkB zs i = z := ⟨_, rfl⟩
          have hkb2 := gkB_byte HZ.out i
          rw [hkk] at hkb2
          have HGP := Lib.hid (fun W => pgap_any kk W hkb2)
          obtain ⟨G, hG⟩ : ∃ G, strOfNums (gapL (kk.toNat % 5)) = G := ⟨_, rfl⟩
          rw [hG] at HGP
          have HPP : Hid (∀ W, Calls Tryd.prog 13 #[.agg #[.int .i64 k, .string t, .int .u64 (N : Int), .int .i64 a, .int .i64 c]] W fun e w' => e = .returned (.string (strOfNums (prT k t N))) ∧ Below W.heap.size W w') := Lib.hid (fun W => by
            by_cases h4 : k = 4
            · have hr2 := hr
              subst h4
              have hse : t = ⟨#[]⟩ := by unfold RightT at hr2; simp at hr2; exact hr2
              subst hse
              exact sprint_fac N a c W hN9 hr
            · exact sprint_most k t N a c W (by omega) hN9 h4 hr)
          obtain ⟨P, hP⟩ : ∃ P, strOfNums (prT k t N) = P := ⟨_, rfl⟩
          rw [hP] at HPP
          have ha1 := strOfNums_append (srcB Q zs i) (gapL (kk.toNat % 5))
          have ha2 := strOfNums_append (srcB Q zs i ++ gapL (kk.toNat % 5)) (prT k t N)
          obtain ⟨S1, hS1⟩ : ∃ S, strOfNums (srcB Q zs i ++ gapL (kk.toNat % 5)) = S := ⟨_, rfl⟩
          obtain ⟨S2, hS2⟩ : ∃ S, strOfNums (srcB Q zs i ++ gapL (kk.toNat % 5) ++ prT k t N) = S := ⟨_, rfl⟩
          rw [hG, hS1] at ha1
          rw [hP, hS1, hS2] at ha2
          have HS1 := Lib.hid ha1
          have HS2 := Lib.hid ha2
          have HSF : Hid (strOfNums (srcB Q zs (i + 1)) = S2) := Lib.hid (by
            rw [srcB_more, HQI.out, hkk]
            show strOfNums (srcB Q zs i ++ gapL (kk.toNat % 5) ++ prT k t (N : Int).toNat) = S2
            rw [Int.toNat_natCast]; exact hS2)
          have HZ1 : Hid ((strOfNums (srcB Q zs i)).size + G.size ≤ 9223372036854775807) := Lib.hid (by
            have := HS.out.few
            have h2 := gap_short (kk.toNat % 5)
            rw [← hG, strOfNums_size, strOfNums_size]; omega)
          have HZ2 : Hid (S1.size + P.size ≤ 9223372036854775807) := Lib.hid (by
            have := HS.out.few
            have h2 := gap_short (kk.toNat % 5)
            have h3 := print_short hr hN9 (by omega : t.size ≤ 2000)
            rw [← hS1, ← hP, strOfNums_size, strOfNums_size, List.length_append]; omega)
          have HIL : Hid ((i : Int) < (n : Int)) := Lib.hid hii
          have hi1 : IntKind.i64.wrap ((i : Int) + 1) = ((i + 1 : Nat) : Int) := by rw [IntKind.wrap_i64]; omega
          clear hito hr hk ha1 ha2 hS1 hS2 hG hP
          by_cases hm0 : m = 0
          · have hk0 : kk = 0 := by rw [← hkk]; unfold gkB; rw [if_neg (by rw [HM.out]; omega)]
            subst hk0
            subst hm0
            clear hkk hkb2
            go_wp2_with (go_at_call 11; (with_reducible refine (HRT.out _).mono ?_); rintro e w4 ⟨rfl, g4⟩; have G4 := Lib.hid (below_step HB.out g4); have z0 := (g4.cell (p := ⟨b, off + i * 5, none⟩) hlw).trans y0; have z1 := (g4.cell (p := ⟨b, off + i * 5 + 1, none⟩) hlw).trans y1; have z2 := (g4.cell (p := ⟨b, off + i * 5 + 2, none⟩) hlw).trans y2; have z3 := (g4.cell (p := ⟨b, off + i * 5 + 3, none⟩) hlw).trans y3; have z4 := (g4.cell (p := ⟨b, off + i * 5 + 4, none⟩) hlw).trans y4; clear g4)
            have HW4 := Lib.hid (show Below w.heap.size w w4 from G4.out)
            have HX : Hid (∀ W, Below w4.heap.size w4 W → W.cell? ⟨b, off + i * 5, none⟩ = some (.int .i64 k) ∧ W.cell? ⟨b, off + i * 5 + 1, none⟩ = some (.string t) ∧ W.cell? ⟨b, off + i * 5 + 2, none⟩ = some (.int .u64 (N : Int)) ∧ W.cell? ⟨b, off + i * 5 + 3, none⟩ = some (.int .i64 a) ∧ W.cell? ⟨b, off + i * 5 + 4, none⟩ = some (.int .i64 c)) := Lib.hid (fun W h => by
              have hl4 : b < w4.heap.size := Nat.lt_of_lt_of_le hlt G4.out.size
              exact ⟨(h.cell (p := ⟨b, off + i * 5, none⟩) hl4).trans z0, (h.cell (p := ⟨b, off + i * 5 + 1, none⟩) hl4).trans z1, (h.cell (p := ⟨b, off + i * 5 + 2, none⟩) hl4).trans z2, (h.cell (p := ⟨b, off + i * 5 + 3, none⟩) hl4).trans z3, (h.cell (p := ⟨b, off + i * 5 + 4, none⟩) hl4).trans z4⟩)
            clear y0 y1 y2 y3 y4 z0 z1 z2 z3 z4 h5' hkb
            refine wp_region_mix 10 (GPs (strOfNums (srcB Q zs i)) 0 G S1 b off n cap i k t N a c P S2) (fun _ => false) (by kernel_rfl) (by kernel_rfl) GPs.keep (fun _ _ _ h => by cases h) ?_ ?_
            · simp only [List.take_succ_cons, List.take_zero]
              refine (StepsAll.cons ?_ (StepsAll.cons ?_ (StepsAll.cons ?_ (StepsAll.cons ?_ (StepsAll.cons ?_ (StepsAll.cons ?_ (StepsAll.cons ?_ (StepsAll.cons ?_ (StepsAll.cons ?_ (StepsAll.cons ?_ StepsAll.nil))))))))))
              · intro u W hb hd
                simp only [putAll, Act.put, List.setIfInBounds_toArray, List.set_cons_succ, List.set_cons_zero, Nat.zero_add, Nat.reduceAdd]
                go_wp2
                first | exact ⟨rfl, Below.refl _ _⟩ | exact ⟨_, rfl, rfl, Below.refl _ _, fun h => by simp at h⟩ | exact ⟨_, rfl, rfl, Below.refl _ _⟩ | exact ⟨rfl, Below.refl _ _, fun h => by simp at h⟩
              · intro u W hb hd
                simp only [putAll, Act.put, List.setIfInBounds_toArray, List.set_cons_succ, List.set_cons_zero, Nat.zero_add, Nat.reduceAdd]
                go_wp2
                first | exact ⟨rfl, Below.refl _ _⟩ | exact ⟨_, rfl, rfl, Below.refl _ _, fun h => by simp at h⟩ | exact ⟨_, rfl, rfl, Below.refl _ _⟩ | exact ⟨rfl, Below.refl _ _, fun h => by simp at h⟩
              · intro u W hb hd
                have e0 : u 1 = .int .u8 0 := hd.1 rfl (by decide)
                simp only [putAll, Act.put, List.setIfInBounds_toArray, List.set_cons_succ, List.set_cons_zero, Nat.zero_add, Nat.reduceAdd]
                rw [e0]
                go_wp2_with (go_at_call 12; (with_reducible refine (HGP.out _).mono ?_); rintro e W1 ⟨rfl, rfl⟩)
                first | exact ⟨rfl, Below.refl _ _⟩ | exact ⟨_, rfl, rfl, Below.refl _ _, fun h => by simp at h⟩ | exact ⟨_, rfl, rfl, Below.refl _ _⟩ | exact ⟨rfl, Below.refl _ _, fun h => by simp at h⟩
              · intro u W hb hd
                have e0 : u 0 = .string (strOfNums (srcB Q zs i)) := hd.1 rfl (by decide)
                have e1 : u 2 = .string G := hd.2.1 rfl (by decide)
                have hs1 := HS1.out
                have hz1 := HZ1.out
                simp only [putAll, Act.put, List.setIfInBounds_toArray, List.set_cons_succ, List.set_cons_zero, Nat.zero_add, Nat.reduceAdd]
                rw [e0, e1]
                go_wp2
                first | exact ⟨congrArg Value.string hs1, Below.refl _ _⟩ | exact ⟨rfl, Below.refl _ _⟩ | exact ⟨by rw [hs1], Below.refl _ _⟩ | exact ⟨congrArg Value.string hs1.symm, Below.refl _ _⟩ | exact ⟨_, rfl, by rw [← hs1]; rfl, Below.refl _ _⟩
              · intro u W hb hd
                simp only [putAll, Act.put, List.setIfInBounds_toArray, List.set_cons_succ, List.set_cons_zero, Nat.zero_add, Nat.reduceAdd]
                go_wp2
                first | exact ⟨rfl, Below.refl _ _⟩ | exact ⟨_, rfl, rfl, Below.refl _ _, fun h => by simp at h⟩ | exact ⟨_, rfl, rfl, Below.refl _ _⟩ | exact ⟨rfl, Below.refl _ _, fun h => by simp at h⟩
              · intro u W hb hd
                simp only [putAll, Act.put, List.setIfInBounds_toArray, List.set_cons_succ, List.set_cons_zero, Nat.zero_add, Nat.reduceAdd]
                go_wp2
                first | exact ⟨rfl, Below.refl _ _⟩ | exact ⟨_, rfl, rfl, Below.refl _ _, fun h => by simp at h⟩ | exact ⟨_, rfl, rfl, Below.refl _ _⟩ | exact ⟨rfl, Below.refl _ _, fun h => by simp at h⟩
              · intro u W hb hd
                have e0 : u 4 = .slice (some ⟨b, off, none⟩) n cap := hd.1 rfl (by decide)
                have e1 : u 5 = .int .i64 (i : Int) := hd.2.1 rfl (by decide)
                have hil := HIL.out
                have hcp := HCP.out
                simp only [putAll, Act.put, List.setIfInBounds_toArray, List.set_cons_succ, List.set_cons_zero, Nat.zero_add, Nat.reduceAdd]
                rw [e0, e1]
                go_wp2
                first | exact ⟨rfl, Below.refl _ _⟩ | exact ⟨_, rfl, rfl, Below.refl _ _, fun h => by simp at h⟩ | exact ⟨_, rfl, rfl, Below.refl _ _⟩ | exact ⟨rfl, Below.refl _ _, fun h => by simp at h⟩
              · intro u W hb hd
                have e0 : u 6 = .pointer (some ⟨b, off + i * 5, none⟩) := hd.1 rfl (by decide)
                have c0 := (HX.out W hb).1
                have c1 := (HX.out W hb).2.1
                have c2 := (HX.out W hb).2.2.1
                have c3 := (HX.out W hb).2.2.2.1
                have c4 := (HX.out W hb).2.2.2.2
                simp only [putAll, Act.put, List.setIfInBounds_toArray, List.set_cons_succ, List.set_cons_zero, Nat.zero_add, Nat.reduceAdd]
                rw [e0]
                go_wp2
                first | exact ⟨rfl, Below.refl _ _⟩ | exact ⟨_, rfl, rfl, Below.refl _ _, fun h => by simp at h⟩ | exact ⟨_, rfl, rfl, Below.refl _ _⟩ | exact ⟨rfl, Below.refl _ _, fun h => by simp at h⟩
              · intro u W hb hd
                have e0 : u 7 = .agg #[.int .i64 k, .string t, .int .u64 (N : Int), .int .i64 a, .int .i64 c] := hd.1 rfl (by decide)
                simp only [putAll, Act.put, List.setIfInBounds_toArray, List.set_cons_succ, List.set_cons_zero, Nat.zero_add, Nat.reduceAdd]
                rw [e0]
                go_wp2_with (go_at_call 13; (with_reducible refine (HPP.out _).mono ?_); rintro e W1 ⟨rfl, g⟩)
                first | exact ⟨rfl, g⟩ | exact ⟨_, rfl, rfl, g, fun h => by simp at h⟩ | exact ⟨_, rfl, rfl, g⟩
              · intro u W hb hd
                have e0 : u 3 = .string S1 := hd.1 rfl (by decide)
                have e1 : u 8 = .string P := hd.2.1 rfl (by decide)
                have hs2 := HS2.out
                have hz2 := HZ2.out
                simp only [putAll, Act.put, List.setIfInBounds_toArray, List.set_cons_succ, List.set_cons_zero, Nat.zero_add, Nat.reduceAdd]
                rw [e0, e1]
                go_wp2
                first | exact ⟨congrArg Value.string hs2, Below.refl _ _⟩ | exact ⟨rfl, Below.refl _ _⟩ | exact ⟨by rw [hs2], Below.refl _ _⟩ | exact ⟨congrArg Value.string hs2.symm, Below.refl _ _⟩ | exact ⟨_, rfl, by rw [← hs2]; rfl, Below.refl _ _⟩
            · intro u W hb hT _
              have e9 : u 9 = .string S2 := hT 9 (by decide)
              have G5 := Lib.hid (below_step HW4.out hb)
              simp only [List.take_succ_cons, List.take_zero, List.drop_succ_cons, List.drop_zero, putAll, Act.put, List.setIfInBounds_toArray, List.set_cons_succ, List.set_cons_zero, Nat.zero_add, Nat.reduceAdd]
              rw [e9]
              clear hb hT e9
              go_wp2
              go_roundw
              case rel => exact ⟨i + 1, by omega, by go_num, by rw [HSF.out], HSN.out, G5.out⟩
              case measure => simp [intOf]; omega
          · have hmp : 0 < m := by omega
            have hmi : (0 : Int) < (m : Int) := by omega
            have hm1 : (i : Int) % (m : Int) = ((i % m : Nat) : Int) := by omega
            have hm2 : (i : Int).tmod (m : Int) = ((i % m : Nat) : Int) := by rw [Int.tmod_eq_emod_of_nonneg (by omega)]; omega
            have hmw : IntKind.i64.wrap ((i % m : Nat) : Int) = ((i % m : Nat) : Int) := by rw [IntKind.wrap_i64]; have := Nat.mod_le i m; omega
            have hml : i % m < m := Nat.mod_lt i hmp
            obtain ⟨b1, off1, ha1, x1⟩ := HC1.out (i % m) (by rw [HM.out]; exact hml)
            subst ha1
            have hkz : zs.getD (i % m) 0 = kk := by rw [← hkk]; unfold gkB; rw [if_pos (by rw [HM.out]; exact hmp), HM.out]
            rw [hkz] at x1
            have hl1 := World.block_lt_of_cell? _ _ x1
            obtain ⟨e, he⟩ : ∃ e, i % m = e := ⟨_, rfl⟩
            rw [he] at hm1 hm2 hmw hml x1
            have hei : (e : Int) < (m : Int) := by omega
            have HCP1 := Lib.hid hcap1
            clear hkk hkb2 hkz he hm0
            go_wp2_with (go_at_call 11; (with_reducible refine (HRT.out _).mono ?_); rintro e w4 ⟨rfl, g4⟩; have G4 := Lib.hid (below_step HB.out g4); have z0 := (g4.cell (p := ⟨b, off + i * 5, none⟩) hlw).trans y0; have z1 := (g4.cell (p := ⟨b, off + i * 5 + 1, none⟩) hlw).trans y1; have z2 := (g4.cell (p := ⟨b, off + i * 5 + 2, none⟩) hlw).trans y2; have z3 := (g4.cell (p := ⟨b, off + i * 5 + 3, none⟩) hlw).trans y3; have z4 := (g4.cell (p := ⟨b, off + i * 5 + 4, none⟩) hlw).trans y4; have q1 := (below_step HB.out g4).cell (p := ⟨b1, off1 + e, none⟩) hl1 |>.trans x1; clear g4)
            have HW4 := Lib.hid (show Below w.heap.size w w4 from G4.out)
            have HX : Hid (∀ W, Below w4.heap.size w4 W → W.cell? ⟨b, off + i * 5, none⟩ = some (.int .i64 k) ∧ W.cell? ⟨b, off + i * 5 + 1, none⟩ = some (.string t) ∧ W.cell? ⟨b, off + i * 5 + 2, none⟩ = some (.int .u64 (N : Int)) ∧ W.cell? ⟨b, off + i * 5 + 3, none⟩ = some (.int .i64 a) ∧ W.cell? ⟨b, off + i * 5 + 4, none⟩ = some (.int .i64 c)) := Lib.hid (fun W h => by
              have hl4 : b < w4.heap.size := Nat.lt_of_lt_of_le hlt G4.out.size
              exact ⟨(h.cell (p := ⟨b, off + i * 5, none⟩) hl4).trans z0, (h.cell (p := ⟨b, off + i * 5 + 1, none⟩) hl4).trans z1, (h.cell (p := ⟨b, off + i * 5 + 2, none⟩) hl4).trans z2, (h.cell (p := ⟨b, off + i * 5 + 3, none⟩) hl4).trans z3, (h.cell (p := ⟨b, off + i * 5 + 4, none⟩) hl4).trans z4⟩)
            clear y0 y1 y2 y3 y4 z0 z1 z2 z3 z4 h5' hkb q1
            refine wp_region_mix 10 (GPs (strOfNums (srcB Q zs i)) kk G S1 b off n cap i k t N a c P S2) (fun _ => false) (by kernel_rfl) (by kernel_rfl) GPs.keep (fun _ _ _ h => by cases h) ?_ ?_
            · simp only [List.take_succ_cons, List.take_zero]
              refine (StepsAll.cons ?_ (StepsAll.cons ?_ (StepsAll.cons ?_ (StepsAll.cons ?_ (StepsAll.cons ?_ (StepsAll.cons ?_ (StepsAll.cons ?_ (StepsAll.cons ?_ (StepsAll.cons ?_ (StepsAll.cons ?_ StepsAll.nil))))))))))
              · intro u W hb hd
                simp only [putAll, Act.put, List.setIfInBounds_toArray, List.set_cons_succ, List.set_cons_zero, Nat.zero_add, Nat.reduceAdd]
                go_wp2
                first | exact ⟨rfl, Below.refl _ _⟩ | exact ⟨_, rfl, rfl, Below.refl _ _, fun h => by simp at h⟩ | exact ⟨_, rfl, rfl, Below.refl _ _⟩ | exact ⟨rfl, Below.refl _ _, fun h => by simp at h⟩
              · intro u W hb hd
                simp only [putAll, Act.put, List.setIfInBounds_toArray, List.set_cons_succ, List.set_cons_zero, Nat.zero_add, Nat.reduceAdd]
                go_wp2
                first | exact ⟨rfl, Below.refl _ _⟩ | exact ⟨_, rfl, rfl, Below.refl _ _, fun h => by simp at h⟩ | exact ⟨_, rfl, rfl, Below.refl _ _⟩ | exact ⟨rfl, Below.refl _ _, fun h => by simp at h⟩
              · intro u W hb hd
                have e0 : u 1 = .int .u8 kk := hd.1 rfl (by decide)
                simp only [putAll, Act.put, List.setIfInBounds_toArray, List.set_cons_succ, List.set_cons_zero, Nat.zero_add, Nat.reduceAdd]
                rw [e0]
                go_wp2_with (go_at_call 12; (with_reducible refine (HGP.out _).mono ?_); rintro e W1 ⟨rfl, rfl⟩)
                first | exact ⟨rfl, Below.refl _ _⟩ | exact ⟨_, rfl, rfl, Below.refl _ _, fun h => by simp at h⟩ | exact ⟨_, rfl, rfl, Below.refl _ _⟩ | exact ⟨rfl, Below.refl _ _, fun h => by simp at h⟩
              · intro u W hb hd
                have e0 : u 0 = .string (strOfNums (srcB Q zs i)) := hd.1 rfl (by decide)
                have e1 : u 2 = .string G := hd.2.1 rfl (by decide)
                have hs1 := HS1.out
                have hz1 := HZ1.out
                simp only [putAll, Act.put, List.setIfInBounds_toArray, List.set_cons_succ, List.set_cons_zero, Nat.zero_add, Nat.reduceAdd]
                rw [e0, e1]
                go_wp2
                first | exact ⟨congrArg Value.string hs1, Below.refl _ _⟩ | exact ⟨rfl, Below.refl _ _⟩ | exact ⟨by rw [hs1], Below.refl _ _⟩ | exact ⟨congrArg Value.string hs1.symm, Below.refl _ _⟩ | exact ⟨_, rfl, by rw [← hs1]; rfl, Below.refl _ _⟩
              · intro u W hb hd
                simp only [putAll, Act.put, List.setIfInBounds_toArray, List.set_cons_succ, List.set_cons_zero, Nat.zero_add, Nat.reduceAdd]
                go_wp2
                first | exact ⟨rfl, Below.refl _ _⟩ | exact ⟨_, rfl, rfl, Below.refl _ _, fun h => by simp at h⟩ | exact ⟨_, rfl, rfl, Below.refl _ _⟩ | exact ⟨rfl, Below.refl _ _, fun h => by simp at h⟩
              · intro u W hb hd
                simp only [putAll, Act.put, List.setIfInBounds_toArray, List.set_cons_succ, List.set_cons_zero, Nat.zero_add, Nat.reduceAdd]
                go_wp2
                first | exact ⟨rfl, Below.refl _ _⟩ | exact ⟨_, rfl, rfl, Below.refl _ _, fun h => by simp at h⟩ | exact ⟨_, rfl, rfl, Below.refl _ _⟩ | exact ⟨rfl, Below.refl _ _, fun h => by simp at h⟩
              · intro u W hb hd
                have e0 : u 4 = .slice (some ⟨b, off, none⟩) n cap := hd.1 rfl (by decide)
                have e1 : u 5 = .int .i64 (i : Int) := hd.2.1 rfl (by decide)
                have hil := HIL.out
                have hcp := HCP.out
                simp only [putAll, Act.put, List.setIfInBounds_toArray, List.set_cons_succ, List.set_cons_zero, Nat.zero_add, Nat.reduceAdd]
                rw [e0, e1]
                go_wp2
                first | exact ⟨rfl, Below.refl _ _⟩ | exact ⟨_, rfl, rfl, Below.refl _ _, fun h => by simp at h⟩ | exact ⟨_, rfl, rfl, Below.refl _ _⟩ | exact ⟨rfl, Below.refl _ _, fun h => by simp at h⟩
              · intro u W hb hd
                have e0 : u 6 = .pointer (some ⟨b, off + i * 5, none⟩) := hd.1 rfl (by decide)
                have c0 := (HX.out W hb).1
                have c1 := (HX.out W hb).2.1
                have c2 := (HX.out W hb).2.2.1
                have c3 := (HX.out W hb).2.2.2.1
                have c4 := (HX.out W hb).2.2.2.2
                simp only [putAll, Act.put, List.setIfInBounds_toArray, List.set_cons_succ, List.set_cons_zero, Nat.zero_add, Nat.reduceAdd]
                rw [e0]
                go_wp2
                first | exact ⟨rfl, Below.refl _ _⟩ | exact ⟨_, rfl, rfl, Below.refl _ _, fun h => by simp at h⟩ | exact ⟨_, rfl, rfl, Below.refl _ _⟩ | exact ⟨rfl, Below.refl _ _, fun h => by simp at h⟩
              · intro u W hb hd
                have e0 : u 7 = .agg #[.int .i64 k, .string t, .int .u64 (N : Int), .int .i64 a, .int .i64 c] := hd.1 rfl (by decide)
                simp only [putAll, Act.put, List.setIfInBounds_toArray, List.set_cons_succ, List.set_cons_zero, Nat.zero_add, Nat.reduceAdd]
                rw [e0]
                go_wp2_with (go_at_call 13; (with_reducible refine (HPP.out _).mono ?_); rintro e W1 ⟨rfl, g⟩)
                first | exact ⟨rfl, g⟩ | exact ⟨_, rfl, rfl, g, fun h => by simp at h⟩ | exact ⟨_, rfl, rfl, g⟩
              · intro u W hb hd
                have e0 : u 3 = .string S1 := hd.1 rfl (by decide)
                have e1 : u 8 = .string P := hd.2.1 rfl (by decide)
                have hs2 := HS2.out
                have hz2 := HZ2.out
                simp only [putAll, Act.put, List.setIfInBounds_toArray, List.set_cons_succ, List.set_cons_zero, Nat.zero_add, Nat.reduceAdd]
                rw [e0, e1]
                go_wp2
                first | exact ⟨congrArg Value.string hs2, Below.refl _ _⟩ | exact ⟨rfl, Below.refl _ _⟩ | exact ⟨by rw [hs2], Below.refl _ _⟩ | exact ⟨congrArg Value.string hs2.symm, Below.refl _ _⟩ | exact ⟨_, rfl, by rw [← hs2]; rfl, Below.refl _ _⟩
            · intro u W hb hT _
              have e9 : u 9 = .string S2 := hT 9 (by decide)
              have G5 := Lib.hid (below_step HW4.out hb)
              simp only [List.take_succ_cons, List.take_zero, List.drop_succ_cons, List.drop_zero, putAll, Act.put, List.setIfInBounds_toArray, List.set_cons_succ, List.set_cons_zero, Nat.zero_add, Nat.reduceAdd]
              rw [e9]
              clear hb hT e9
              go_wp2
              go_roundw
              case rel => exact ⟨i + 1, by omega, by go_num, by rw [HSF.out], HSN.out, G5.out⟩
              case measure => simp [intOf]; omega
      · have HRT : Hid (∀ W, Calls Tryd.prog 11 #[.agg #[.int .i64 k, .string t, .int .u64 (N : Int), .int .i64 a, .int .i64 c]] W fun e w' => e = .returned (.bool false) ∧ Below W.heap.size W w') := Lib.hid (fun W => (sright_any k t N a c W (by omega)).mono (by
          rintro e w' ⟨q, rfl, hq, h⟩
          cases q with
          | false => exact ⟨rfl, h⟩
          | true => exact (hr (hq.mp rfl)).elim))
        clear hr
        go_wp2_with (go_at_call 11; (with_reducible refine (HRT.out _).mono ?_); rintro e w4 ⟨rfl, g4⟩; have G4 := Lib.hid (below_step HB.out g4); have z0 := (g4.cell (p := ⟨b, off + i * 5, none⟩) hlw).trans y0; have z1 := (g4.cell (p := ⟨b, off + i * 5 + 1, none⟩) hlw).trans y1; have z2 := (g4.cell (p := ⟨b, off + i * 5 + 2, none⟩) hlw).trans y2; have z3 := (g4.cell (p := ⟨b, off + i * 5 + 3, none⟩) hlw).trans y3; have z4 := (g4.cell (p := ⟨b, off + i * 5 + 4, none⟩) hlw).trans y4; clear g4)
        go_ret
        exact ⟨rfl, G4.out⟩
    · have en : n = i := by omega
      subst en
      clear hi hin
      obtain ⟨e5, he5⟩ : ∃ e, ((n : Int)).toNat % 5 = e := ⟨_, rfl⟩
      have hcv : IntKind.u8.wrap (n : Int) = (n : Int) := by rw [IntKind.wrap_u8]; omega
      have HGP := Lib.hid (fun W => pgap_any (n : Int) W (by omega))
      rw [he5] at HGP
      obtain ⟨S0, hS0⟩ : ∃ S, strOfNums (srcB Q zs n) = S := ⟨_, rfl⟩
      obtain ⟨G, hG⟩ : ∃ S, strOfNums (gapL e5) = S := ⟨_, rfl⟩
      obtain ⟨S3, hS3⟩ : ∃ S, strOfNums (srcB Q zs n ++ gapL e5) = S := ⟨_, rfl⟩
      have ha := strOfNums_append (srcB Q zs n) (gapL e5)
      rw [hS0, hG, hS3] at ha
      rw [hS0]
      rw [hG] at HGP
      have hs0 : S0.size = (srcB Q zs n).length := by rw [← hS0, strOfNums_size]
      have hs3 : S3.size = S0.size + (gapL e5).length := by rw [hs0, ← hS3, strOfNums_size, List.length_append]
      have hg9 := gap_short e5
      have hfew := HS.out.few
      have hzz : S0.size + G.size ≤ 9223372036854775807 := by
        rw [← hG, strOfNums_size]; omega
      have hn3 : nums S3 = srcB Q zs n ++ gapL e5 := by
        rw [← hS3]
        refine nums_strOfNums _ (fun z hz => ?_)
        rcases List.mem_append.mp hz with hz | hz
        · exact srcB_byte HS.out.ok z hz
        · exact gap_byte e5 z hz
      obtain ⟨p, hpl, hP, hp1, hp2⟩ := both_toks S3 (by omega)
      by_cases h39 : 39000 < S0.size
      · have h39' : (39000 : Int) < (S0.size : Int) := by omega
        obtain ⟨L, c, x, y⟩ := p
        have HTK : Hid (∀ W, Env W → Calls Tryd.prog 10 #[.string S3] W (fun e w' => ∃ v, e = .returned (.tuple #[v, .agg #[.int .i64 c, .int .i64 x, .int .i64 y]]) ∧ RowK 27 5 w' W.heap.size v (toksV (runesOf (nums S3)) L) ∧ Below W.heap.size W w')) := Lib.hid hP
        clear hpl hP hp1 hp2 hn3 hfew hg9 hs3 hs0 hS3 hG hS0 h39 he5
        go_wp2_with (first | (go_at_call 12; (with_reducible refine (HGP.out _).mono ?_); rintro e W1 ⟨rfl, rfl⟩) | (go_at_call 10; (with_reducible refine (HTK.out _ (HENV.out.step HB.out)).mono ?_); rintro e w2 ⟨v2, rfl, r2, g2⟩; have G2 := Lib.hid (below_step HB.out g2); obtain ⟨fg, F2, F3, fm⟩ := fault_made w2 c x y; have hfg := fm.g0; have hfa := fm.a2; have hfs := fm.s3; have p0 := fm.v2.c0; have p1 := fm.v2.c1; have p2 := fm.v2.c2; have p3 := fm.v2.q0; have p4 := fm.v2.q1; have p5 := fm.v2.q2; have j0 := fm.v3.c0; have j1 := fm.v3.c1; have j2 := fm.v3.c2; have G3 := Lib.hid (below_step G2.out fm.bel); clear r2 g2 fm))
        go_ret
        exact ⟨rfl, G3.out⟩
      · have h39' : ¬ (39000 : Int) < (S0.size : Int) := by omega
        obtain ⟨M, hM, hMl, hMt⟩ := src_toks (Q := Q) (zs := zs) (n := n) (e := e5) HS.out.ok
        rw [hp1 (by omega), hn3, hM] at hP
        obtain ⟨l, hl⟩ : ∃ l, runesOf (srcB Q zs n ++ gapL e5) = l := ⟨_, rfl⟩
        rw [hl] at hP
        obtain ⟨L, hL⟩ : ∃ L : List (TkV × Nat), M ++ [(tk0, l.length)] = L := ⟨_, rfl⟩
        have hLl : L.length = n + 1 := by rw [← hL, List.length_append, hMl]; rfl
        have hP' : ∀ W, Env W → Calls Tryd.prog 10 #[.string S3] W (fun e w' => ∃ v, e = .returned (.tuple #[v, .agg #[.int .i64 0, .int .i64 0, .int .i64 0]]) ∧ RowK 27 5 w' W.heap.size v (toksV l L) ∧ Below W.heap.size W w') := by rw [← hL]; exact hP
        have HTK := Lib.hid hP'
        have HCL : Hid (∀ i, i < n → (toksV l L).getD i [] = tkC l (L.getD i (tk0, 0)) ∧ (L.getD i (tk0, 0)).1 = (itmOf Q zs i).tok) := Lib.hid (fun i hi => ⟨toksV_at l (by omega), by
          rw [← hMt i hi, ← hL]
          rw [List.getD_eq_getElem?_getD, List.getD_eq_getElem?_getD, List.getElem?_append_left (by omega)]⟩)
        obtain ⟨n1, hn1⟩ : ∃ m, n + 1 = m := ⟨_, rfl⟩
        have HLL : Hid ((toksV l L).length = n1) := Lib.hid (by rw [toksV_len, hLl, hn1])
        have HN1 := Lib.hid hn1
        have hw1 : IntKind.i64.wrap ((n : Int) + 1) = (n1 : Int) := by rw [IntKind.wrap_i64]; omega
        clear hpl hP hP' hp1 hp2 hn3 hfew hg9 hs3 hs0 hS3 hG hS0 h39 he5 hM hMl hMt hl hL hLl hn1
        go_wp2_with (first | (go_at_call 12; (with_reducible refine (HGP.out _).mono ?_); rintro e W1 ⟨rfl, rfl⟩) | (go_at_call 10; (with_reducible refine (HTK.out _ (HENV.out.step HB.out)).mono ?_); rintro e w2 ⟨v2, rfl, r2, g2⟩; have G2 := Lib.hid (below_step HB.out g2); obtain ⟨rg, rc, rfl, hrg0, hrg1, _⟩ := r2.form (by rw [HLL.out, ← HN1.out]; omega); rw [HLL.out]; have HR2 := Lib.hid r2; have HRG := Lib.hid hrg1; clear hrg0 hrg1; obtain ⟨fg, F2, F3, fm⟩ := fault_made w2 0 0 0; have hfg := fm.g0; have hfa := fm.a2; have hfs := fm.s3; have p0 := fm.v2.c0; have p1 := fm.v2.c1; have p2 := fm.v2.c2; have p3 := fm.v2.q0; have p4 := fm.v2.q1; have p5 := fm.v2.q2; have j0 := fm.v3.c0; have j1 := fm.v3.c1; have j2 := fm.v3.c2; have G3 := Lib.hid (below_step G2.out fm.bel); have HR3 := Lib.hid (HR2.out.below fm.bel); clear HR2; clear r2 g2 fm))
        clear p0 p1 p2 p3 p4 p5 j0 j1 j2 hfg hfa hfs hzz ha hcv hw1
        have HRG3 : Hid (rg < F3.heap.size) := Lib.hid (HR3.out.lt (b := rg) rfl).2
        go_loopw [10] (fun v10 wr' => ∃ i : Nat, i ≤ n ∧ v10 = .int .i64 (i : Int) ∧ Below F3.heap.size F3 wr') (fun v10 _ => n - (intOf v10).toNat)
        case atStart => exact ⟨0, Nat.zero_le _, rfl, Below.refl _ _⟩
        case round =>
          rename_i wr3
          obtain ⟨i, hi, rfl, hB3⟩ := hrel
          have HB3 := Lib.hid hB3
          clear hB3
          by_cases hin : i < n
          · have hii : (i : Int) < (n : Int) := by omega
            have hin1 : i < n1 := by have := HN1.out; omega
            have hi1 : IntKind.i64.wrap ((i : Int) + 1) = ((i + 1 : Nat) : Int) := by rw [IntKind.wrap_i64]; omega
            obtain ⟨b, off, ha0, x0, x1, x2, _, _⟩ := HC.out i hin
            subst ha0
            have hlt := World.block_lt_of_cell? _ _ x0
            have hltF : b < F3.heap.size := Nat.lt_of_lt_of_le hlt G3.out.size
            have y0 := (HB3.out.cell (p := ⟨b, off + i * 5, none⟩) hltF).trans ((G3.out.cell (p := ⟨b, off + i * 5, none⟩) hlt).trans x0)
            have y1 := (HB3.out.cell (p := ⟨b, off + i * 5 + 1, none⟩) hltF).trans ((G3.out.cell (p := ⟨b, off + i * 5 + 1, none⟩) hlt).trans x1)
            have y2 := (HB3.out.cell (p := ⟨b, off + i * 5 + 2, none⟩) hltF).trans ((G3.out.cell (p := ⟨b, off + i * 5 + 2, none⟩) hlt).trans x2)
            obtain ⟨e1, e2⟩ := HCL.out i hin
            have hok := HS.out.ok i hin
            have hQi := HQ.out (Q.getD i {}) (by
              rw [List.getD_eq_getElem?_getD, List.getElem?_eq_getElem (by rw [HN.out]; exact hin)]
              exact List.getElem_mem _)
            have r0 := (HB3.out.cell (p := ⟨rg, i * 5, none⟩) HRG3.out).trans (HR3.out.at i 0 (by rw [HLL.out, ← HN1.out]; omega) (by decide))
            have r1 := (HB3.out.cell (p := ⟨rg, i * 5 + 1, none⟩) HRG3.out).trans (HR3.out.at i 1 (by rw [HLL.out, ← HN1.out]; omega) (by decide))
            have r2 := (HB3.out.cell (p := ⟨rg, i * 5 + 2, none⟩) HRG3.out).trans (HR3.out.at i 2 (by rw [HLL.out, ← HN1.out]; omega) (by decide))
            rw [e1] at r0 r1 r2
            have c0 : (tkC l (L.getD i (tk0, 0))).getD 0 undef = .int .i64 (Q.getD i {}).k := by
              show Value.int .i64 ((L.getD i (tk0, 0)).1.kind : Int) = _
              rw [e2]
              show Value.int .i64 (((Q.getD i {}).k.toNat : Nat) : Int) = _
              exact congrArg (Value.int .i64) (Int.toNat_of_nonneg (kind_in hok.right).1)
            have c1 : (tkC l (L.getD i (tk0, 0))).getD 1 undef = .string (Q.getD i {}).s := by
              show Value.string (strOfNums (L.getD i (tk0, 0)).1.text) = _
              rw [e2]
              show Value.string (strOfNums (txT (Q.getD i {}).k (Q.getD i {}).s)) = _
              exact congrArg Value.string (text_back hok.right)
            have c2 : (tkC l (L.getD i (tk0, 0))).getD 2 undef = .int .u64 (Q.getD i {}).n := by
              show Value.int .u64 ((L.getD i (tk0, 0)).1.n : Int) = _
              rw [e2]
              show Value.int .u64 (((Q.getD i {}).n.toNat : Nat) : Int) = _
              rw [Int.toNat_of_nonneg hQi.n0.1]
            rw [c0] at r0
            rw [c1] at r1
            rw [c2] at r2
            obtain ⟨k, hk⟩ : ∃ k, (Q.getD i {}).k = k := ⟨_, rfl⟩
            obtain ⟨t, ht⟩ : ∃ k, (Q.getD i {}).s = k := ⟨_, rfl⟩
            obtain ⟨N, hN⟩ : ∃ k, (Q.getD i {}).n = k := ⟨_, rfl⟩
            rw [hk] at y0 r0
            rw [ht] at y1 r1
            rw [hN] at y2 r2
            clear hok hQi e1 e2 c0 c1 c2 hk ht hN x0 x1 x2 hltF hlt
            go_wp2
            go_quiet (fail)
            go_wp2
            go_roundw
            case rel => exact ⟨i + 1, by omega, by go_num, Go.below_drewN HB3.out _⟩
            case measure => simp [intOf]; omega
          · have en : n = i := by omega
            subst en
            clear hi hin
            go_wp2
            go_ret
            exact ⟨rfl, below_step G3.out HB3.out⟩
set_option maxRecDepth 100000 in
theorem scngaps_walk (v0 v1 : Value) (Q : List TokQ) (zs : List Int) (w : World) (env : Env w) (h0 : ToksIs w v0 Q) (hQ : ∀ x ∈ Q, x.Ok) (h1 : GapsIs w v1 zs) (hz : ∀ z ∈ zs, 0 ≤ z ∧ z ≤ 255) :
    Calls Tryd.prog 4 #[v0, v1] w fun e w' => e = .returned (.bool true) ∧ Below w.heap.size w w' := by
  by_cases hl : 40 < Q.length
  · exact scng_long v0 v1 Q w env h0 hl
  · exact scng_main v0 v1 Q zs w env h0 hQ h1 hz (by omega)

end Go.Proofs.YthainohkneociaaDoor
