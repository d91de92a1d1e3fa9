/-
  Package scan's Right and Print, walked.
-/
import Derived.Test.YtmgimkokmlcllaaGreatDoorPkScnv
import Derived.Test.YtmgimkokmlcllaaGreatDoorPkScne
import Derived.Test.YtmgimkokmlcllaaGreatDoorPkScnM
import Derived.Test.YtmgimkokmlcllaaGreatDoorPkTxtp
import Derived.Test.YtmgimkokmlcllaaGreatDoorPkMixs
import Derived.Test.YtmgimkokmlcllaaGreatDoorPkScnb
import Derived.Test.YtmgimkokmlcllaaGreatDoorPkExact
namespace Go.Proofs.YtmgimkokmlcllaaGreatDoor
open Go.RowKit

set_option maxRecDepth 100000 in
set_option maxHeartbeats 4000000 in
theorem pdec_any (n : Int) (w : World) (h0 : 0 ≤ n) (h1 : n ≤ 18446744073709551615) : Calls Tryz.prog 64 #[.int .u64 n] w fun e w' => e = .returned (.string (strOfNums (dec n.toNat))) ∧ Below w.heap.size w w' := by
  have RP := Lib.hid (fun W => print_any 0 n n.toNat W ⟨by decide, by decide, h0, h1, by omega⟩)
  go_enter Tryz.func64, Tryz.ntmps64
  go_wp2_with (go_at_call 98; (with_reducible refine (RP.out _).mono ?_); rintro e w1 ⟨rfl, g1⟩; have G1 := Lib.hid g1; clear g1)
  go_ret
  exact ⟨rfl, G1.out⟩
theorem dec_four (l : Nat) (h : l < 1000) : dec (1000 + l) = [49, 48 + ((l / 100 : Nat) : Int), 48 + ((l / 10 % 10 : Nat) : Int), 48 + ((l % 10 : Nat) : Int)] := by
  rw [dec_big (by omega), dec_big (by omega), dec_big (by omega), dec_small (by omega)]
  simp only [List.cons_append, List.nil_append]
  congr 1
  · omega
  · congr 1
    · omega
    · congr 1
      · omega
      · congr 1; omega
theorem four_tail (l : Nat) (h : l < 1000) : (strOfNums (dec (1000 + l))).extract 1 (strOfNums (dec (1000 + l))).size = strOfNums [48 + ((l / 100 : Nat) : Int), 48 + ((l / 10 % 10 : Nat) : Int), 48 + ((l % 10 : Nat) : Int)] := by
  rw [dec_four l h, Lib.extract_from]
  rfl
theorem trim_two (l : Nat) : Lib.trimRightB (strOfNums [48 + ((l / 10 % 10 : Nat) : Int), 48 + ((l % 10 : Nat) : Int)]).data.toList 48 = (strOfNums (tailD (l % 100))).data.toList := by
  have b3 := byte_digit (l / 10 % 10) (by omega)
  have b4 := byte_digit (l % 10) (by omega)
  unfold Lib.trimRightB strOfNums tailD
  simp only [List.map_cons, List.map_nil, List.reverse_cons, List.reverse_nil, List.nil_append, List.cons_append, List.dropWhile_cons, beq_iff_eq, b3, b4]
  by_cases h1 : l % 10 = 0
  · by_cases h2 : l % 100 = 0
    · rw [if_pos h1, if_pos (show l / 10 % 10 = 0 by omega), if_pos h2]; rfl
    · rw [if_pos h1, if_neg (show ¬ l / 10 % 10 = 0 by omega), if_neg h2, if_pos (show l % 100 % 10 = 0 by omega), show l % 100 / 10 = l / 10 % 10 by omega]; rfl
  · rw [if_neg h1, if_neg (show ¬ l % 100 = 0 by omega), if_neg (show ¬ l % 100 % 10 = 0 by omega), show l % 100 / 10 = l / 10 % 10 by omega, show l % 100 % 10 = l % 10 by omega]; rfl

def FPs (n q : Nat) (x y z : Int) (tl pa pb pc : List Int) : Nat → Value → World → Prop
  | 0, v, _ => v = .int .u64 (n : Int)
  | 1, v, _ => v = .int .u64 (q : Int)
  | 2, v, _ => v = .string (strOfNums (dec q))
  | 3, v, _ => v = .string (strOfNums pa)
  | 4, v, _ => v = .string (strOfNums [x, y, z])
  | 5, v, _ => v = .string (strOfNums [x])
  | 6, v, _ => v = .string (strOfNums pb)
  | 7, v, _ => v = .string (strOfNums [x, y, z])
  | 8, v, _ => v = .string (strOfNums [y, z])
  | 9, v, _ => v = .string (strOfNums tl)
  | 10, v, _ => v = .string (strOfNums pc)
  | _, _, _ => True
theorem FPs.keep {n q : Nat} {x y z : Int} {tl pa pb pc : List Int} (k : Nat) (v : Value) (w w' : World) (h : FPs n q x y z tl pa pb pc k v w) (_hb : Below w.heap.size w w') : FPs n q x y z tl pa pb pc k v w' := by
  match k, h with
  | 0, h => exact h
  | 1, h => exact h
  | 2, h => exact h
  | 3, h => exact h
  | 4, h => exact h
  | 5, h => exact h
  | 6, h => exact h
  | 7, h => exact h
  | 8, h => exact h
  | 9, h => exact h
  | 10, h => exact h
  | k + 11, _ => exact trivial
set_option maxRecDepth 100000 in
set_option maxHeartbeats 8000000 in
theorem pfac_any (n : Nat) (w : World) (hn : n ≤ 18446744073709551615) : Calls Tryz.prog 65 #[.int .u64 (n : Int)] w fun e w' => e = .returned (.string (strOfNums (facP n))) ∧ Below w.heap.size w w' := by
  obtain ⟨q, hq⟩ : ∃ q : Nat, n / 1000 = q := ⟨_, rfl⟩
  obtain ⟨L, hL⟩ : ∃ L : Nat, n % 1000 = L := ⟨_, rfl⟩
  have hqi : (n : Int) / 1000 = (q : Int) := by omega
  have hqt : (n : Int).tdiv 1000 = (q : Int) := by rw [Int.tdiv_eq_ediv_of_nonneg (by omega)]; omega
  have hli : (n : Int) % 1000 = (L : Int) := by omega
  have hlt : (n : Int).tmod 1000 = (L : Int) := by rw [Int.tmod_eq_emod_of_nonneg (by omega)]; omega
  have hL9 : L < 1000 := by omega
  have hw1 : IntKind.u64.wrap (1000 + (L : Int)) = 1000 + (L : Int) := by rw [IntKind.wrap_u64]; omega
  have RA := Lib.hid (fun W => pdec_any (1000 + (L : Int)) W (by omega) (by omega))
  have RQ := Lib.hid (fun W => pdec_any (q : Int) W (by omega) (by omega))
  rw [show (1000 + (L : Int)).toNat = 1000 + L by omega] at RA
  rw [Int.toNat_natCast] at RQ
  have hx := four_tail L hL9
  have hs4 : (strOfNums (dec (1000 + L))).size = 4 := by rw [dec_four L hL9]; rfl
  have HFP : facP n = dec q ++ [46] ++ [48 + ((L / 100 : Nat) : Int)] ++ tailD (L % 100) := by unfold facP; rw [hq, hL, show n % 100 = L % 100 by omega]
  have ht := trim_two L
  obtain ⟨x, hxx⟩ : ∃ x : Int, 48 + ((L / 100 : Nat) : Int) = x := ⟨_, rfl⟩
  obtain ⟨y, hyy⟩ : ∃ x : Int, 48 + ((L / 10 % 10 : Nat) : Int) = x := ⟨_, rfl⟩
  obtain ⟨z, hzz⟩ : ∃ x : Int, 48 + ((L % 10 : Nat) : Int) = x := ⟨_, rfl⟩
  obtain ⟨tl, htl⟩ : ∃ t, tailD (L % 100) = t := ⟨_, rfl⟩
  have htll : tl.length ≤ 2 := by rw [← htl]; exact (tailD_bd (by omega)).2
  rw [hxx, hyy, hzz] at hx
  rw [hyy, hzz, htl] at ht
  rw [hxx, htl] at HFP
  have HT : Hid (∀ w, Calls Tryz.prog 99 #[.string (strOfNums [y, z]), .string ⟨#[48]⟩] w fun e w' => e = .returned (.string (strOfNums tl)) ∧ w = w') := Lib.hid (fun w => by
    refine (Tryz.strings_TrimRight_one (strOfNums [y, z]) 48 (by decide) w (by rw [strOfNums_size]; simp)).mono ?_
    rintro e w' ⟨rfl, hw⟩
    exact ⟨by rw [ht], hw.symm⟩)
  obtain ⟨F, hF⟩ : ∃ F, strOfNums (dec (1000 + L)) = F := ⟨_, rfl⟩
  rw [hF] at RA hx hs4
  rw [hs4] at hx
  have hsq : (strOfNums (dec q)).size ≤ 39 := by rw [strOfNums_size]; exact dec_len (by unfold W128; omega)
  have HSQ := Lib.hid hsq
  have e14 : (1 : Int) ≤ (F.size : Int) := by omega
  have h3x : (strOfNums [x, y, z]).extract 0 1 = strOfNums [x] := by rw [Lib.extract_upto]; rfl
  have h3y : (strOfNums [x, y, z]).extract 1 3 = strOfNums [y, z] := by
    have := Lib.extract_from (strOfNums [x, y, z]) 1
    exact this
  have h3s : (strOfNums [x, y, z]).size = 3 := rfl
  obtain ⟨pa, hpa⟩ : ∃ p, dec q ++ [46] = p := ⟨_, rfl⟩
  obtain ⟨pb, hpb⟩ : ∃ p, pa ++ [x] = p := ⟨_, rfl⟩
  obtain ⟨pc, hpc⟩ : ∃ p, pb ++ tl = p := ⟨_, rfl⟩
  rw [hpa, hpb, hpc] at HFP
  have HA3 := Lib.hid (str_point (dec q))
  have HA6 := Lib.hid (strOfNums_append pa [x])
  have HA10 := Lib.hid (strOfNums_append pb tl)
  rw [hpa] at HA3
  rw [hpb] at HA6
  rw [hpc] at HA10
  have HSA : Hid ((strOfNums pa).size ≤ 40) := Lib.hid (by rw [strOfNums_size, ← hpa, List.length_append]; rw [strOfNums_size] at hsq; simp; omega)
  have HSB : Hid ((strOfNums pb).size ≤ 41) := Lib.hid (by rw [strOfNums_size, ← hpb, List.length_append]; have := HSA.out; rw [strOfNums_size] at this; simp; omega)
  have HST : Hid ((strOfNums tl).size ≤ 2) := Lib.hid (by rw [strOfNums_size]; exact htll)
  clear hpa hpb hpc
  have HFQ := Lib.hid HFP
  clear ht HFP hq hL hL9 hxx hyy hzz htl hF
  go_enter Tryz.func65, Tryz.ntmps65
  go_wp2_with (go_at_call 64; (with_reducible refine (RA.out _).mono ?_); rintro e w1 ⟨rfl, g1⟩; have G1 := Lib.hid g1; clear g1)
  clear hli hlt hw1 hx e14 hs4
  refine wp_region_mix 11 (FPs n q x y z tl pa pb pc) (fun _ => false) (by kernel_rfl) (by kernel_rfl) FPs.keep (fun _ _ _ h => by cases h) ?_ ?_
  · simp only [List.take_succ_cons, List.take_zero]
    refine (StepsAll.cons ?_ (StepsAll.cons ?_ (StepsAll.cons ?_ (StepsAll.cons ?_ (StepsAll.cons ?_ (StepsAll.cons ?_ (StepsAll.cons ?_ (StepsAll.cons ?_ (StepsAll.cons ?_ (StepsAll.cons ?_ (StepsAll.cons ?_ StepsAll.nil)))))))))))
    · intro u W hb hd
      simp only [putAll, Act.put, List.setIfInBounds_toArray, List.set_cons_succ, List.set_cons_zero, Nat.zero_add, Nat.reduceAdd]
      go_wp2
      first | exact ⟨rfl, Below.refl _ _⟩ | exact ⟨_, rfl, rfl, Below.refl _ _, fun h => by simp at h⟩ | exact ⟨_, rfl, rfl, Below.refl _ _⟩ | exact ⟨rfl, Below.refl _ _, fun h => by simp at h⟩
    · intro u W hb hd
      have e0 : u 0 = .int .u64 (n : Int) := hd.1 rfl (by decide)
      simp only [putAll, Act.put, List.setIfInBounds_toArray, List.set_cons_succ, List.set_cons_zero, Nat.zero_add, Nat.reduceAdd]
      rw [e0]
      go_wp2
      first | exact ⟨rfl, Below.refl _ _⟩ | exact ⟨_, rfl, rfl, Below.refl _ _, fun h => by simp at h⟩ | exact ⟨_, rfl, rfl, Below.refl _ _⟩ | exact ⟨rfl, Below.refl _ _, fun h => by simp at h⟩
    · intro u W hb hd
      have e0 : u 1 = .int .u64 (q : Int) := hd.1 rfl (by decide)
      simp only [putAll, Act.put, List.setIfInBounds_toArray, List.set_cons_succ, List.set_cons_zero, Nat.zero_add, Nat.reduceAdd]
      rw [e0]
      go_wp2_with (go_at_call 64; (with_reducible refine (RQ.out _).mono ?_); rintro e W1 ⟨rfl, g⟩)
      first | exact ⟨rfl, g⟩ | exact ⟨_, rfl, rfl, g, fun h => by simp at h⟩ | exact ⟨_, rfl, rfl, g⟩
    · intro u W hb hd
      have e0 : u 2 = .string (strOfNums (dec q)) := hd.1 rfl (by decide)
      have hap := HA3.out
      have hs2 : (strOfNums (dec q)).size + (⟨#[46]⟩ : ByteArray).size ≤ 9223372036854775807 := by have := HSQ.out; have e : (⟨#[46]⟩ : ByteArray).size = 1 := rfl; omega
      simp only [putAll, Act.put, List.setIfInBounds_toArray, List.set_cons_succ, List.set_cons_zero, Nat.zero_add, Nat.reduceAdd]
      rw [e0]
      go_wp2
      first | exact ⟨by rw [hap], Below.refl _ _⟩ | exact ⟨rfl, Below.refl _ _⟩ | exact ⟨_, rfl, by rw [← hap]; rfl, Below.refl _ _⟩ | exact ⟨_, rfl, by rw [← hap]; rfl, Below.refl _ _, fun h => by simp at h⟩ | exact ⟨congrArg Value.string hap, Below.refl _ _⟩ | exact ⟨congrArg Value.string hap.symm, Below.refl _ _⟩
    · intro u W hb hd
      simp only [putAll, Act.put, List.setIfInBounds_toArray, List.set_cons_succ, List.set_cons_zero, Nat.zero_add, Nat.reduceAdd]
      go_wp2
      first | exact ⟨rfl, Below.refl _ _⟩ | exact ⟨_, rfl, rfl, Below.refl _ _, fun h => by simp at h⟩ | exact ⟨_, rfl, rfl, Below.refl _ _⟩ | exact ⟨rfl, Below.refl _ _, fun h => by simp at h⟩
    · intro u W hb hd
      have e0 : u 4 = .string (strOfNums [x, y, z]) := hd.1 rfl (by decide)
      simp only [putAll, Act.put, List.setIfInBounds_toArray, List.set_cons_succ, List.set_cons_zero, Nat.zero_add, Nat.reduceAdd]
      rw [e0]
      go_wp2
      first | exact ⟨by rw [h3x], Below.refl _ _⟩ | exact ⟨rfl, Below.refl _ _⟩ | exact ⟨congrArg Value.string h3x, Below.refl _ _⟩ | exact ⟨congrArg Value.string h3x.symm, Below.refl _ _⟩ | exact ⟨_, rfl, by rw [← h3x]; rfl, Below.refl _ _⟩
    · intro u W hb hd
      have e0 : u 3 = .string (strOfNums pa) := hd.1 rfl (by decide)
      have e1 : u 5 = .string (strOfNums [x]) := hd.2.1 rfl (by decide)
      have hap := HA6.out
      have hs2 : (strOfNums pa).size + (strOfNums [x]).size ≤ 9223372036854775807 := by have := HSA.out; have e : (strOfNums [x]).size = 1 := rfl; omega
      simp only [putAll, Act.put, List.setIfInBounds_toArray, List.set_cons_succ, List.set_cons_zero, Nat.zero_add, Nat.reduceAdd]
      rw [e0, e1]
      go_wp2
      first | exact ⟨by rw [hap], Below.refl _ _⟩ | exact ⟨rfl, Below.refl _ _⟩ | exact ⟨_, rfl, by rw [← hap]; rfl, Below.refl _ _⟩ | exact ⟨_, rfl, by rw [← hap]; rfl, Below.refl _ _, fun h => by simp at h⟩ | exact ⟨congrArg Value.string hap, Below.refl _ _⟩ | exact ⟨congrArg Value.string hap.symm, Below.refl _ _⟩
    · intro u W hb hd
      simp only [putAll, Act.put, List.setIfInBounds_toArray, List.set_cons_succ, List.set_cons_zero, Nat.zero_add, Nat.reduceAdd]
      go_wp2
      first | exact ⟨rfl, Below.refl _ _⟩ | exact ⟨_, rfl, rfl, Below.refl _ _, fun h => by simp at h⟩ | exact ⟨_, rfl, rfl, Below.refl _ _⟩ | exact ⟨rfl, Below.refl _ _, fun h => by simp at h⟩
    · intro u W hb hd
      have e0 : u 7 = .string (strOfNums [x, y, z]) := hd.1 rfl (by decide)
      simp only [putAll, Act.put, List.setIfInBounds_toArray, List.set_cons_succ, List.set_cons_zero, Nat.zero_add, Nat.reduceAdd]
      rw [e0]
      go_wp2
      first | exact ⟨by rw [h3y], Below.refl _ _⟩ | exact ⟨rfl, Below.refl _ _⟩ | exact ⟨congrArg Value.string h3y, Below.refl _ _⟩ | exact ⟨congrArg Value.string h3y.symm, Below.refl _ _⟩ | exact ⟨_, rfl, by rw [← h3y]; rfl, Below.refl _ _⟩
    · intro u W hb hd
      have e0 : u 8 = .string (strOfNums [y, z]) := hd.1 rfl (by decide)
      simp only [putAll, Act.put, List.setIfInBounds_toArray, List.set_cons_succ, List.set_cons_zero, Nat.zero_add, Nat.reduceAdd]
      rw [e0]
      go_wp2_with (go_at_call 99; (with_reducible refine (HT.out _).mono ?_); rintro e W1 ⟨rfl, rfl⟩)
      first | exact ⟨rfl, Below.refl _ _⟩ | exact ⟨_, rfl, rfl, Below.refl _ _, fun h => by simp at h⟩ | exact ⟨_, rfl, rfl, Below.refl _ _⟩ | exact ⟨rfl, Below.refl _ _, fun h => by simp at h⟩
    · intro u W hb hd
      have e0 : u 6 = .string (strOfNums pb) := hd.1 rfl (by decide)
      have e1 : u 9 = .string (strOfNums tl) := hd.2.1 rfl (by decide)
      have hap := HA10.out
      have hs2 : (strOfNums pb).size + (strOfNums tl).size ≤ 9223372036854775807 := by have := HSB.out; have := HST.out; omega
      simp only [putAll, Act.put, List.setIfInBounds_toArray, List.set_cons_succ, List.set_cons_zero, Nat.zero_add, Nat.reduceAdd]
      rw [e0, e1]
      go_wp2
      first | exact ⟨by rw [hap], Below.refl _ _⟩ | exact ⟨rfl, Below.refl _ _⟩ | exact ⟨_, rfl, by rw [← hap]; rfl, Below.refl _ _⟩ | exact ⟨_, rfl, by rw [← hap]; rfl, Below.refl _ _, fun h => by simp at h⟩ | exact ⟨congrArg Value.string hap, Below.refl _ _⟩ | exact ⟨congrArg Value.string hap.symm, Below.refl _ _⟩
  · intro u W hb hT _
    have e10 : u 10 = .string (strOfNums pc) := hT 10 (by decide)
    have G3 := Lib.hid (below_step G1.out hb)
    simp only [List.take_succ_cons, List.take_zero, List.drop_succ_cons, List.drop_zero, putAll, Act.put, List.setIfInBounds_toArray, List.set_cons_succ, List.set_cons_zero, Nat.zero_add, Nat.reduceAdd]
    rw [e10]
    clear hb hT e10
    rw [← HFQ.out]
    go_wp2
    go_ret
    exact ⟨rfl, G3.out⟩

set_option maxRecDepth 100000 in
set_option maxHeartbeats 8000000 in
theorem pright_any (k : Int) (s : ByteArray) (n a b : Int) (w : World) (env : Env w) (hm : s.size ≤ 4294967296) :
    Calls Tryz.prog 62 #[.agg #[.int .i64 k, .string s, .int .u64 n, .int .i64 a, .int .i64 b]] w (GivesQ (RightT k s n) w) := by
  obtain ⟨W0, hW0⟩ : ∃ W, w.alloc (.cells #[.int .i64 k, .string s, .int .u64 n, .int .i64 a, .int .i64 b] 59) = W := ⟨_, rfl⟩
  have V0 : Var5 W0 w.heap.size (.int .i64 k) (.string s) (.int .u64 n) (.int .i64 a) (.int .i64 b) := by rw [← hW0]; exact Var5.fresh _ _ _ _ _ _ _ _ rfl
  have g0 : Below w.heap.size w W0 := by rw [← hW0]; exact (Below.refl _ _).alloc (Nat.le_refl _) _
  have HG := Lib.hid g0
  have HV := Lib.hid V0
  have HNA := Lib.hid (tname_plain s W0 hm)
  have HGO := Lib.hid (tgood_any s W0 (env.step g0) hm)
  have HCO := Lib.hid (fun W => tcount_big s W (by omega))
  obtain ⟨c0, c1, c2, _, _, _, _⟩ := V0
  clear g0 env
  by_cases h1 : k = 1
  · subst h1
    have hp : RightT 1 s n ↔ NameL (runesOf (nums s)) ∧ n = 0 := by unfold RightT; simp
    by_cases hn : n = 0
    · by_cases hN : NameL (runesOf (nums s))
      · have HN := Lib.hid hN
        have HP := Lib.hid (hp.mpr ⟨hN, hn⟩)
        subst hn
        clear hN
        clear hp
        go_enter Tryz.func62, Tryz.ntmps62
        go_wp2_with (go_at_call 40; (with_reducible refine (HNA.out).mono ?_); rintro e w2 ⟨q, rfl, hq, h2⟩; obtain rfl : q = true := hq.mpr HN.out; have G2 := Lib.hid (below_step HG.out h2); clear hq h2)
        go_ret
        exact GivesQ.yes HP.out G2.out
      · have HN := Lib.hid hN
        have HP := Lib.hid (fun h => hN (hp.mp h).1)
        subst hn
        clear hN
        clear hp
        go_enter Tryz.func62, Tryz.ntmps62
        go_wp2_with (go_at_call 40; (with_reducible refine (HNA.out).mono ?_); rintro e w2 ⟨q, rfl, hq, h2⟩; obtain rfl : q = false := (by cases q with | false => rfl | true => exact (HN.out (hq.mp rfl)).elim); have G2 := Lib.hid (below_step HG.out h2); clear hq h2)
        go_ret
        exact GivesQ.no HP.out G2.out
    · have HP := Lib.hid (fun h => hn (hp.mp h).2)
      have hb : (n == 0) = false := by simpa using hn
      clear hp
      go_enter Tryz.func62, Tryz.ntmps62
      go_wp2
      go_ret
      exact GivesQ.no HP.out HG.out
  by_cases h2 : k = 2
  · subst h2
    have hp : RightT 2 s n ↔ GoodL (runesOf (nums s)) ∧ (runesOf (nums s)).length ≤ 120 ∧ n = 0 := by unfold RightT; simp
    by_cases hn : n = 0
    · by_cases hN : GoodL (runesOf (nums s))
      · have HN := Lib.hid hN
        by_cases hl : (runesOf (nums s)).length ≤ 120
        · have hl' : ((runesOf (nums s)).length : Int) ≤ 120 := by omega
          have HP := Lib.hid (hp.mpr ⟨hN, hl, hn⟩)
          subst hn
          clear hN
          clear hp
          go_enter Tryz.func62, Tryz.ntmps62
          go_wp2_with (first | (go_at_call 95; (with_reducible refine (HGO.out).mono ?_); rintro e w2 ⟨q, rfl, hq, h2⟩; obtain rfl : q = true := hq.mpr HN.out; have V2 := Lib.hid (HV.out.after h2); have G2 := Lib.hid (below_step HG.out h2); have e1 := V2.out.c1; clear hq h2) | (go_at_call 96; (with_reducible refine (HCO.out _).mono ?_); rintro e w3 ⟨rfl, h3⟩; have G3 := Lib.hid (below_step G2.out h3); clear h3))
          go_ret
          exact GivesQ.yes HP.out G3.out
        · have hl' : decide (((runesOf (nums s)).length : Int) ≤ 120) = false := by simp; omega
          have HP := Lib.hid (fun h => hl (hp.mp h).2.1)
          subst hn
          clear hN
          clear hp
          go_enter Tryz.func62, Tryz.ntmps62
          go_wp2_with (first | (go_at_call 95; (with_reducible refine (HGO.out).mono ?_); rintro e w2 ⟨q, rfl, hq, h2⟩; obtain rfl : q = true := hq.mpr HN.out; have V2 := Lib.hid (HV.out.after h2); have G2 := Lib.hid (below_step HG.out h2); have e1 := V2.out.c1; clear hq h2) | (go_at_call 96; (with_reducible refine (HCO.out _).mono ?_); rintro e w3 ⟨rfl, h3⟩; have G3 := Lib.hid (below_step G2.out h3); clear h3))
          go_ret
          exact GivesQ.no HP.out G3.out
      · have HN := Lib.hid hN
        have HP := Lib.hid (fun h => hN (hp.mp h).1)
        subst hn
        clear hN
        clear hp
        go_enter Tryz.func62, Tryz.ntmps62
        go_wp2_with (go_at_call 95; (with_reducible refine (HGO.out).mono ?_); rintro e w2 ⟨q, rfl, hq, h2⟩; obtain rfl : q = false := (by cases q with | false => rfl | true => exact (HN.out (hq.mp rfl)).elim); have V2 := Lib.hid (HV.out.after h2); have G2 := Lib.hid (below_step HG.out h2); have e1 := V2.out.c1; clear hq h2)
        go_ret
        exact GivesQ.no HP.out G2.out
    · have HP := Lib.hid (fun h => hn (hp.mp h).2.2)
      have hb : (n == 0) = false := by simpa using hn
      clear hp
      go_enter Tryz.func62, Tryz.ntmps62
      go_wp2
      go_ret
      exact GivesQ.no HP.out HG.out
  by_cases h3 : k = 3
  · subst h3
    have hp : RightT 3 s n ↔ s = ⟨#[]⟩ := by unfold RightT; simp
    by_cases hs : s = ⟨#[]⟩
    · subst hs
      have HP := Lib.hid (hp.mpr rfl)
      clear hp
      go_enter Tryz.func62, Tryz.ntmps62
      go_wp2
      go_ret
      exact GivesQ.yes HP.out HG.out
    · have HP := Lib.hid (fun h => hs (hp.mp h))
      obtain ⟨hsb, hsc⟩ := toList_empty (s := s) (Nat.pos_of_ne_zero fun e => hs (ByteArray.ext (Array.eq_empty_of_size_eq_zero e)))
      clear hp
      go_enter Tryz.func62, Tryz.ntmps62
      go_wp2
      go_ret
      exact GivesQ.no HP.out HG.out
  by_cases h4 : k = 4
  · subst h4
    have hp : RightT 4 s n ↔ s = ⟨#[]⟩ := by unfold RightT; simp
    by_cases hs : s = ⟨#[]⟩
    · subst hs
      have HP := Lib.hid (hp.mpr rfl)
      clear hp
      go_enter Tryz.func62, Tryz.ntmps62
      go_wp2
      go_ret
      exact GivesQ.yes HP.out HG.out
    · have HP := Lib.hid (fun h => hs (hp.mp h))
      obtain ⟨hsb, hsc⟩ := toList_empty (s := s) (Nat.pos_of_ne_zero fun e => hs (ByteArray.ext (Array.eq_empty_of_size_eq_zero e)))
      clear hp
      go_enter Tryz.func62, Tryz.ntmps62
      go_wp2
      go_ret
      exact GivesQ.no HP.out HG.out
  by_cases h5 : k = 5
  · subst h5
    have hp : RightT 5 s n ↔ s = ⟨#[]⟩ ∧ n ≤ 1000000 := by unfold RightT; simp
    by_cases hs : s = ⟨#[]⟩
    · subst hs
      by_cases hn : n ≤ 1000000
      · have HP := Lib.hid (hp.mpr ⟨rfl, hn⟩)
        clear hp
        go_enter Tryz.func62, Tryz.ntmps62
        go_wp2
        go_ret
        exact GivesQ.yes HP.out HG.out
      · have HP := Lib.hid (fun h => hn (hp.mp h).2)
        clear hp
        go_enter Tryz.func62, Tryz.ntmps62
        go_wp2
        go_ret
        exact GivesQ.no HP.out HG.out
    · have HP := Lib.hid (fun h => hs (hp.mp h).1)
      obtain ⟨hsb, hsc⟩ := toList_empty (s := s) (Nat.pos_of_ne_zero fun e => hs (ByteArray.ext (Array.eq_empty_of_size_eq_zero e)))
      clear hp
      go_enter Tryz.func62, Tryz.ntmps62
      go_wp2
      go_ret
      exact GivesQ.no HP.out HG.out
  by_cases h6 : k = 6
  · subst h6
    have hp : RightT 6 s n ↔ s = ⟨#[]⟩ ∧ n ≤ 253402300799 := by unfold RightT; simp
    by_cases hs : s = ⟨#[]⟩
    · subst hs
      by_cases hn : n ≤ 253402300799
      · have HP := Lib.hid (hp.mpr ⟨rfl, hn⟩)
        clear hp
        go_enter Tryz.func62, Tryz.ntmps62
        go_wp2
        go_ret
        exact GivesQ.yes HP.out HG.out
      · have HP := Lib.hid (fun h => hn (hp.mp h).2)
        clear hp
        go_enter Tryz.func62, Tryz.ntmps62
        go_wp2
        go_ret
        exact GivesQ.no HP.out HG.out
    · have HP := Lib.hid (fun h => hs (hp.mp h).1)
      obtain ⟨hsb, hsc⟩ := toList_empty (s := s) (Nat.pos_of_ne_zero fun e => hs (ByteArray.ext (Array.eq_empty_of_size_eq_zero e)))
      clear hp
      go_enter Tryz.func62, Tryz.ntmps62
      go_wp2
      go_ret
      exact GivesQ.no HP.out HG.out
  by_cases h0 : k = 0
  · subst h0
    have hp : RightT 0 s n ↔ s = ⟨#[]⟩ ∧ n = 0 := by unfold RightT; simp
    by_cases hs : s = ⟨#[]⟩
    · subst hs
      by_cases hn : n = 0
      · have HP := Lib.hid (hp.mpr ⟨rfl, hn⟩)
        subst hn
        clear hp
        go_enter Tryz.func62, Tryz.ntmps62
        go_wp2
        go_ret
        exact GivesQ.yes HP.out HG.out
      · have HP := Lib.hid (fun h => hn (hp.mp h).2)
        have hb : (n == 0) = false := by simpa using hn
        clear hp
        go_enter Tryz.func62, Tryz.ntmps62
        go_wp2
        go_ret
        exact GivesQ.no HP.out HG.out
    · have HP := Lib.hid (fun h => hs (hp.mp h).1)
      obtain ⟨hsb, hsc⟩ := toList_empty (s := s) (Nat.pos_of_ne_zero fun e => hs (ByteArray.ext (Array.eq_empty_of_size_eq_zero e)))
      clear hp
      go_enter Tryz.func62, Tryz.ntmps62
      go_wp2
      go_ret
      exact GivesQ.no HP.out HG.out
  by_cases h7 : k = 7
  · subst h7
    have hp : RightT 7 s n ↔ s = ⟨#[]⟩ ∧ n = 0 := by unfold RightT; simp
    by_cases hs : s = ⟨#[]⟩
    · subst hs
      by_cases hn : n = 0
      · have HP := Lib.hid (hp.mpr ⟨rfl, hn⟩)
        subst hn
        clear hp
        go_enter Tryz.func62, Tryz.ntmps62
        go_wp2
        go_ret
        exact GivesQ.yes HP.out HG.out
      · have HP := Lib.hid (fun h => hn (hp.mp h).2)
        have hb : (n == 0) = false := by simpa using hn
        clear hp
        go_enter Tryz.func62, Tryz.ntmps62
        go_wp2
        go_ret
        exact GivesQ.no HP.out HG.out
    · have HP := Lib.hid (fun h => hs (hp.mp h).1)
      obtain ⟨hsb, hsc⟩ := toList_empty (s := s) (Nat.pos_of_ne_zero fun e => hs (ByteArray.ext (Array.eq_empty_of_size_eq_zero e)))
      clear hp
      go_enter Tryz.func62, Tryz.ntmps62
      go_wp2
      go_ret
      exact GivesQ.no HP.out HG.out
  by_cases h8 : k = 8
  · subst h8
    have hp : RightT 8 s n ↔ s = ⟨#[]⟩ ∧ n = 0 := by unfold RightT; simp
    by_cases hs : s = ⟨#[]⟩
    · subst hs
      by_cases hn : n = 0
      · have HP := Lib.hid (hp.mpr ⟨rfl, hn⟩)
        subst hn
        clear hp
        go_enter Tryz.func62, Tryz.ntmps62
        go_wp2
        go_ret
        exact GivesQ.yes HP.out HG.out
      · have HP := Lib.hid (fun h => hn (hp.mp h).2)
        have hb : (n == 0) = false := by simpa using hn
        clear hp
        go_enter Tryz.func62, Tryz.ntmps62
        go_wp2
        go_ret
        exact GivesQ.no HP.out HG.out
    · have HP := Lib.hid (fun h => hs (hp.mp h).1)
      obtain ⟨hsb, hsc⟩ := toList_empty (s := s) (Nat.pos_of_ne_zero fun e => hs (ByteArray.ext (Array.eq_empty_of_size_eq_zero e)))
      clear hp
      go_enter Tryz.func62, Tryz.ntmps62
      go_wp2
      go_ret
      exact GivesQ.no HP.out HG.out
  by_cases h9 : k = 9
  · subst h9
    have hp : RightT 9 s n ↔ s = ⟨#[]⟩ ∧ n = 0 := by unfold RightT; simp
    by_cases hs : s = ⟨#[]⟩
    · subst hs
      by_cases hn : n = 0
      · have HP := Lib.hid (hp.mpr ⟨rfl, hn⟩)
        subst hn
        clear hp
        go_enter Tryz.func62, Tryz.ntmps62
        go_wp2
        go_ret
        exact GivesQ.yes HP.out HG.out
      · have HP := Lib.hid (fun h => hn (hp.mp h).2)
        have hb : (n == 0) = false := by simpa using hn
        clear hp
        go_enter Tryz.func62, Tryz.ntmps62
        go_wp2
        go_ret
        exact GivesQ.no HP.out HG.out
    · have HP := Lib.hid (fun h => hs (hp.mp h).1)
      obtain ⟨hsb, hsc⟩ := toList_empty (s := s) (Nat.pos_of_ne_zero fun e => hs (ByteArray.ext (Array.eq_empty_of_size_eq_zero e)))
      clear hp
      go_enter Tryz.func62, Tryz.ntmps62
      go_wp2
      go_ret
      exact GivesQ.no HP.out HG.out
  have HP : Hid (¬ RightT k s n) := Lib.hid (by unfold RightT; omega)
  have b0 : (k == 0) = false := by simpa using h0
  have b1 : (k == 1) = false := by simpa using h1
  have b2 : (k == 2) = false := by simpa using h2
  have b3 : (k == 3) = false := by simpa using h3
  have b4 : (k == 4) = false := by simpa using h4
  have b5 : (k == 5) = false := by simpa using h5
  have b6 : (k == 6) = false := by simpa using h6
  have b7 : (k == 7) = false := by simpa using h7
  have b8 : (k == 8) = false := by simpa using h8
  have b9 : (k == 9) = false := by simpa using h9
  clear h0 h1 h2 h3 h4 h5 h6 h7 h8 h9
  go_enter Tryz.func62, Tryz.ntmps62
  go_wp2
  go_ret
  exact GivesQ.no HP.out HG.out
set_option maxRecDepth 100000 in
set_option maxHeartbeats 8000000 in
theorem ptok_any (k : Int) (s : ByteArray) (n : Nat) (a b : Int) (w : World) (env : EnvQ w) (hm : s.size ≤ 4294967296) (hn : n ≤ 18446744073709551615) (hr : RightT k s (n : Int)) :
    Calls Tryz.prog 39 #[.agg #[.int .i64 k, .string s, .int .u64 (n : Int), .int .i64 a, .int .i64 b]] w fun e w' => e = .returned (.string (strOfNums (prT k s n))) ∧ Below w.heap.size w w' := by
  obtain ⟨W0, hW0⟩ : ∃ W, w.alloc (.cells #[.int .i64 k, .string s, .int .u64 (n : Int), .int .i64 a, .int .i64 b] 59) = W := ⟨_, rfl⟩
  have V0 : Var5 W0 w.heap.size (.int .i64 k) (.string s) (.int .u64 (n : Int)) (.int .i64 a) (.int .i64 b) := by rw [← hW0]; exact Var5.fresh _ _ _ _ _ _ _ _ rfl
  have g0 : Below w.heap.size w W0 := by rw [← hW0]; exact (Below.refl _ _).alloc (Nat.le_refl _) _
  have HENV := Lib.hid env
  have HG := Lib.hid g0
  have HV := Lib.hid V0
  have HRT := Lib.hid (pright_any k s (n : Int) a b W0 (env.lo.step g0) hm)
  obtain ⟨c0, c1, c2, c3, c4, _, _⟩ := V0
  clear g0 env
  have HR := Lib.hid hr
  have HRR := HR.out
  clear hr
  rcases HRR with ⟨rfl, hN, h0⟩ | ⟨rfl, hN, hl, h0⟩ | ⟨rfl | rfl, rfl⟩ | ⟨rfl, rfl, h0⟩ | ⟨rfl, rfl, h0⟩ | ⟨rfl | rfl | rfl | rfl, rfl, h0⟩
  · have hpr : prT 1 s n = nums s := rfl
    have HST := Lib.hid (strOfNums_nums s)
    clear h0
    have HPR := Lib.hid hpr
    clear hpr
    go_enter Tryz.func39, Tryz.ntmps39
    go_wp2_with (first | (go_at_call 62; (with_reducible refine (HRT.out).mono ?_); rintro e w2 ⟨q, rfl, hq, h2⟩; obtain rfl : q = true := hq.mpr HR.out; have V2 := Lib.hid (HV.out.after h2); have G2 := Lib.hid (below_step HG.out h2); have d0 := V2.out.c0; have d1 := V2.out.c1; have d2 := V2.out.c2; clear hq h2))
    go_ret
    exact ⟨by rw [HPR.out, HST.out]; rfl, G2.out⟩
  · have hpr : prT 2 s n = quoteL (runesOf (nums s)) := rfl
    have HQU := Lib.hid (fun W (e : EnvQ W) => tquote_fine s W e hm hN hl)
    clear h0
    have HPR := Lib.hid hpr
    clear hpr
    go_enter Tryz.func39, Tryz.ntmps39
    go_wp2_with (first | (go_at_call 62; (with_reducible refine (HRT.out).mono ?_); rintro e w2 ⟨q, rfl, hq, h2⟩; obtain rfl : q = true := hq.mpr HR.out; have V2 := Lib.hid (HV.out.after h2); have G2 := Lib.hid (below_step HG.out h2); have d0 := V2.out.c0; have d1 := V2.out.c1; have d2 := V2.out.c2; clear hq h2) | (go_at_call 63; (with_reducible refine (HQU.out _ (HENV.out.step G2.out)).mono ?_); rintro e w3 ⟨rfl, h3⟩; have G3 := Lib.hid (below_step G2.out h3); clear h3))
    go_ret
    exact ⟨by rw [HPR.out]; rfl, G3.out⟩
  · have hpr : prT 3 ⟨#[]⟩ n = dec n := rfl
    have HDC := Lib.hid (fun W => pdec_any (n : Int) W (by omega) (by omega))
    rw [Int.toNat_natCast] at HDC
    have HPR := Lib.hid hpr
    clear hpr
    go_enter Tryz.func39, Tryz.ntmps39
    go_wp2_with (first | (go_at_call 62; (with_reducible refine (HRT.out).mono ?_); rintro e w2 ⟨q, rfl, hq, h2⟩; obtain rfl : q = true := hq.mpr HR.out; have V2 := Lib.hid (HV.out.after h2); have G2 := Lib.hid (below_step HG.out h2); have d0 := V2.out.c0; have d1 := V2.out.c1; have d2 := V2.out.c2; clear hq h2) | (go_at_call 64; (with_reducible refine (HDC.out _).mono ?_); rintro e w3 ⟨rfl, h3⟩; have G3 := Lib.hid (below_step G2.out h3); clear h3))
    go_ret
    exact ⟨by rw [HPR.out]; rfl, G3.out⟩
  · have hpr : prT 4 ⟨#[]⟩ n = facP n := rfl
    have HDC := Lib.hid (fun W => pfac_any n W hn)
    have HPR := Lib.hid hpr
    clear hpr
    go_enter Tryz.func39, Tryz.ntmps39
    go_wp2_with (first | (go_at_call 62; (with_reducible refine (HRT.out).mono ?_); rintro e w2 ⟨q, rfl, hq, h2⟩; obtain rfl : q = true := hq.mpr HR.out; have V2 := Lib.hid (HV.out.after h2); have G2 := Lib.hid (below_step HG.out h2); have d0 := V2.out.c0; have d1 := V2.out.c1; have d2 := V2.out.c2; clear hq h2) | (go_at_call 65; (with_reducible refine (HDC.out _).mono ?_); rintro e w3 ⟨rfl, h3⟩; have G3 := Lib.hid (below_step G2.out h3); clear h3))
    go_ret
    exact ⟨by rw [HPR.out]; rfl, G3.out⟩
  · have hpr : prT 5 ⟨#[]⟩ n = pct n := rfl
    have hwn : IntKind.u32.wrap (n : Int) = (n : Int) := by rw [IntKind.wrap_u32]; omega
    have HPP := Lib.hid (fun W => pprint_any (n : Int) W (by omega) h0)
    rw [Int.toNat_natCast] at HPP
    have HPR := Lib.hid hpr
    clear hpr
    go_enter Tryz.func39, Tryz.ntmps39
    go_wp2_with (first | (go_at_call 62; (with_reducible refine (HRT.out).mono ?_); rintro e w2 ⟨q, rfl, hq, h2⟩; obtain rfl : q = true := hq.mpr HR.out; have V2 := Lib.hid (HV.out.after h2); have G2 := Lib.hid (below_step HG.out h2); have d0 := V2.out.c0; have d1 := V2.out.c1; have d2 := V2.out.c2; clear hq h2) | (go_at_call 66; (with_reducible refine (HPP.out _).mono ?_); rintro e w3 ⟨rfl, h3⟩; have G3 := Lib.hid (below_step G2.out h3); clear h3))
    go_ret
    exact ⟨by rw [HPR.out]; rfl, G3.out⟩
  · have hpr : prT 6 ⟨#[]⟩ n = spn n := rfl
    have hwn : IntKind.i64.wrap (n : Int) = (n : Int) := by rw [IntKind.wrap_i64]; omega
    have HPP := Lib.hid (fun W (e : EnvQ W) => spprint_any (n : Int) W (by omega) h0 e.tab)
    rw [Int.toNat_natCast] at HPP
    have HPR := Lib.hid hpr
    clear hpr
    go_enter Tryz.func39, Tryz.ntmps39
    go_wp2_with (first | (go_at_call 62; (with_reducible refine (HRT.out).mono ?_); rintro e w2 ⟨q, rfl, hq, h2⟩; obtain rfl : q = true := hq.mpr HR.out; have V2 := Lib.hid (HV.out.after h2); have G2 := Lib.hid (below_step HG.out h2); have d0 := V2.out.c0; have d1 := V2.out.c1; have d2 := V2.out.c2; clear hq h2) | (go_at_call 67; (with_reducible refine (HPP.out _ (HENV.out.step G2.out)).mono ?_); rintro e w3 ⟨rfl, h3⟩; have G3 := Lib.hid (below_step G2.out h3); clear h3))
    go_ret
    exact ⟨by rw [HPR.out]; rfl, G3.out⟩
  · have hpr : prT 0 ⟨#[]⟩ n = [] := rfl
    clear h0
    have HPR := Lib.hid hpr
    clear hpr
    go_enter Tryz.func39, Tryz.ntmps39
    go_wp2_with (first | (go_at_call 62; (with_reducible refine (HRT.out).mono ?_); rintro e w2 ⟨q, rfl, hq, h2⟩; obtain rfl : q = true := hq.mpr HR.out; have V2 := Lib.hid (HV.out.after h2); have G2 := Lib.hid (below_step HG.out h2); have d0 := V2.out.c0; have d1 := V2.out.c1; have d2 := V2.out.c2; clear hq h2))
    go_ret
    exact ⟨by rw [HPR.out]; rfl, G2.out⟩
  · have hpr : prT 7 ⟨#[]⟩ n = [123] := rfl
    clear h0
    have HPR := Lib.hid hpr
    clear hpr
    go_enter Tryz.func39, Tryz.ntmps39
    go_wp2_with (first | (go_at_call 62; (with_reducible refine (HRT.out).mono ?_); rintro e w2 ⟨q, rfl, hq, h2⟩; obtain rfl : q = true := hq.mpr HR.out; have V2 := Lib.hid (HV.out.after h2); have G2 := Lib.hid (below_step HG.out h2); have d0 := V2.out.c0; have d1 := V2.out.c1; have d2 := V2.out.c2; clear hq h2))
    go_ret
    exact ⟨by rw [HPR.out]; rfl, G2.out⟩
  · have hpr : prT 8 ⟨#[]⟩ n = [125] := rfl
    clear h0
    have HPR := Lib.hid hpr
    clear hpr
    go_enter Tryz.func39, Tryz.ntmps39
    go_wp2_with (first | (go_at_call 62; (with_reducible refine (HRT.out).mono ?_); rintro e w2 ⟨q, rfl, hq, h2⟩; obtain rfl : q = true := hq.mpr HR.out; have V2 := Lib.hid (HV.out.after h2); have G2 := Lib.hid (below_step HG.out h2); have d0 := V2.out.c0; have d1 := V2.out.c1; have d2 := V2.out.c2; clear hq h2))
    go_ret
    exact ⟨by rw [HPR.out]; rfl, G2.out⟩
  · have hpr : prT 9 ⟨#[]⟩ n = [59] := rfl
    clear h0
    have HPR := Lib.hid hpr
    clear hpr
    go_enter Tryz.func39, Tryz.ntmps39
    go_wp2_with (first | (go_at_call 62; (with_reducible refine (HRT.out).mono ?_); rintro e w2 ⟨q, rfl, hq, h2⟩; obtain rfl : q = true := hq.mpr HR.out; have V2 := Lib.hid (HV.out.after h2); have G2 := Lib.hid (below_step HG.out h2); have d0 := V2.out.c0; have d1 := V2.out.c1; have d2 := V2.out.c2; clear hq h2))
    go_ret
    exact ⟨by rw [HPR.out]; rfl, G2.out⟩

end Go.Proofs.YtmgimkokmlcllaaGreatDoor
