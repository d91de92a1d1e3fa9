/-
  How a token is written, as the document's answer says it.
-/
import Derived.Test.YtmgimkokmlcllaaGreatDoorPkScne
import Derived.Test.YtmgimkokmlcllaaGreatDoorPkTexts
import Derived.Test.YtmgimkokmlcllaaGreatDoorPkPpmr
import Derived.Test.YtmgimkokmlcllaaGreatDoorPkSpanr
import Derived.Deep.QuietTactic
import Derived.BigQuiet
import Derived.Lib.QuietBelow
namespace Go.Proofs.YtmgimkokmlcllaaGreatDoor
open Go.RowKit

set_option maxRecDepth 100000 in
set_option maxHeartbeats 8000000 in
theorem sdec_any (n : Nat) (w : World) (hn : n ≤ 18446744073709551615) : Calls Tryz.prog 46 #[.int .u64 (n : Int)] w fun e w' => e = .returned (.string (strOfNums (dec n))) ∧ Below w.heap.size w w' := by
  go_enter Tryz.func46, Tryz.ntmps46
  go_wp2_with (first
    | (go_at_call 77; (with_reducible refine (bits_small (n : Int) _ (by omega) (by omega)).mono ?_); rintro e w1 ⟨v, l, rfl, hv, ⟨hl, he⟩, g1⟩)
    | (go_at_call 76; (with_reducible refine (digits_num n v l _ hv (by omega) (by unfold W128; omega) (by rw [he]; exact Int.toNat_natCast n)).mono ?_); rintro e w2 ⟨rfl, g2⟩; have DD := below_step g1 g2))
  go_ret
  exact ⟨rfl, DD⟩
def tailD (r : Nat) : List Int := if r = 0 then [] else (48 + ((r / 10 : Nat) : Int)) :: (if r % 10 = 0 then [] else [48 + ((r % 10 : Nat) : Int)])
theorem tailD_step {r : Nat} (h : r < 100) (h0 : 0 < r) : tailD r = (48 + ((r / 10 : Nat) : Int)) :: tailD (r % 10 * 10) := by
  unfold tailD
  rw [if_neg (by omega)]
  congr 1
  by_cases hr : r % 10 = 0
  · rw [if_pos hr, if_pos (by omega)]
  · rw [if_neg hr, if_neg (by omega)]
    have e1 : r % 10 * 10 / 10 = r % 10 := by omega
    have e2 : r % 10 * 10 % 10 = 0 := by omega
    rw [e1, if_pos e2]
def facP (n : Nat) : List Int := dec (n / 1000) ++ [46] ++ [48 + ((n % 1000 / 100 : Nat) : Int)] ++ tailD (n % 100)
def prT (k : Int) (s : ByteArray) (n : Nat) : List Int :=
  if k = 1 then nums s else if k = 2 then quoteL (runesOf (nums s)) else if k = 3 then dec n else if k = 4 then facP n else if k = 5 then pct n else if k = 6 then spn n
  else if k = 7 then [123] else if k = 8 then [125] else if k = 9 then [59] else []

set_option maxRecDepth 100000 in
set_option maxHeartbeats 8000000 in
theorem sprint_most (k : Int) (s : ByteArray) (n : Nat) (a b : Int) (w : World) (hm : s.size ≤ 4294967296) (hn : n ≤ 18446744073709551615) (h4 : k ≠ 4) (hr : RightT k s (n : Int)) :
    Calls Tryz.prog 28 #[.agg #[.int .i64 k, .string s, .int .u64 (n : Int), .int .i64 a, .int .i64 b]] w fun e w' => e = .returned (.string (strOfNums (prT k s n))) ∧ Below w.heap.size w w' := by
  obtain ⟨W0, hW0⟩ : ∃ W, w.alloc (.cells #[.int .i64 k, .string s, .int .u64 (n : Int), .int .i64 a, .int .i64 b] 59) = W := ⟨_, rfl⟩
  have V0 : Var5 W0 w.heap.size (.int .i64 k) (.string s) (.int .u64 (n : Int)) (.int .i64 a) (.int .i64 b) := by rw [← hW0]; exact Var5.fresh _ _ _ _ _ _ _ _ rfl
  have g0 : Below w.heap.size w W0 := by rw [← hW0]; exact (Below.refl _ _).alloc (Nat.le_refl _) _
  have HG := Lib.hid g0
  have HV := Lib.hid V0
  have HRT := Lib.hid (fun W => sright_any k s (n : Int) a b W hm)
  obtain ⟨c0, c1, c2, c3, c4, _, _⟩ := V0
  clear g0
  have HR := Lib.hid hr
  have HRR := HR.out
  clear hr
  rcases HRR with ⟨rfl, hN, h0⟩ | ⟨rfl, hN, _, h0⟩ | ⟨rfl | rfl, rfl⟩ | ⟨rfl, rfl, h0⟩ | ⟨rfl, rfl, h0⟩ | ⟨rfl | rfl | rfl | rfl, rfl, h0⟩
  · have hpr : prT 1 s n = nums s := rfl
    have HST := Lib.hid (strOfNums_nums s)
    clear h0
    have HPR := Lib.hid hpr
    clear hpr
    go_enter Tryz.func28, Tryz.ntmps28
    go_wp2_with (first | (go_at_call 44; (with_reducible refine (HRT.out _).mono ?_); rintro e w2 ⟨q, rfl, hq, h2⟩; obtain rfl : q = true := hq.mpr HR.out; have V2 := Lib.hid (HV.out.after h2); have G2 := Lib.hid (below_step HG.out h2); have d0 := V2.out.c0; have d1 := V2.out.c1; have d2 := V2.out.c2; clear hq h2))
    go_ret
    exact ⟨by rw [HPR.out, HST.out]; rfl, G2.out⟩
  · have hpr : prT 2 s n = quoteL (runesOf (nums s)) := rfl
    have HQU := Lib.hid (fun W => rquote_any s W hm hN)
    clear h0
    have HPR := Lib.hid hpr
    clear hpr
    go_enter Tryz.func28, Tryz.ntmps28
    go_wp2_with (first | (go_at_call 44; (with_reducible refine (HRT.out _).mono ?_); rintro e w2 ⟨q, rfl, hq, h2⟩; obtain rfl : q = true := hq.mpr HR.out; have V2 := Lib.hid (HV.out.after h2); have G2 := Lib.hid (below_step HG.out h2); have d0 := V2.out.c0; have d1 := V2.out.c1; have d2 := V2.out.c2; clear hq h2) | (go_at_call 45; (with_reducible refine (HQU.out _).mono ?_); rintro e w3 ⟨rfl, h3⟩; have G3 := Lib.hid (below_step G2.out h3); clear h3))
    go_ret
    exact ⟨by rw [HPR.out]; rfl, G3.out⟩
  · have hpr : prT 3 ⟨#[]⟩ n = dec n := rfl
    have HDC := Lib.hid (fun W => sdec_any n W hn)
    have HPR := Lib.hid hpr
    clear hpr
    go_enter Tryz.func28, Tryz.ntmps28
    go_wp2_with (first | (go_at_call 44; (with_reducible refine (HRT.out _).mono ?_); rintro e w2 ⟨q, rfl, hq, h2⟩; obtain rfl : q = true := hq.mpr HR.out; have V2 := Lib.hid (HV.out.after h2); have G2 := Lib.hid (below_step HG.out h2); have d0 := V2.out.c0; have d1 := V2.out.c1; have d2 := V2.out.c2; clear hq h2) | (go_at_call 46; (with_reducible refine (HDC.out _).mono ?_); rintro e w3 ⟨rfl, h3⟩; have G3 := Lib.hid (below_step G2.out h3); clear h3))
    go_ret
    exact ⟨by rw [HPR.out]; rfl, G3.out⟩
  · exact (h4 rfl).elim
  · have hpr : prT 5 ⟨#[]⟩ n = pct n := rfl
    have hwn : IntKind.u32.wrap (n : Int) = (n : Int) := by rw [IntKind.wrap_u32]; omega
    have HPP := Lib.hid (fun W => rpprint_any (n : Int) W (by omega) h0)
    rw [Int.toNat_natCast] at HPP
    have HPR := Lib.hid hpr
    clear hpr
    go_enter Tryz.func28, Tryz.ntmps28
    go_wp2_with (first | (go_at_call 44; (with_reducible refine (HRT.out _).mono ?_); rintro e w2 ⟨q, rfl, hq, h2⟩; obtain rfl : q = true := hq.mpr HR.out; have V2 := Lib.hid (HV.out.after h2); have G2 := Lib.hid (below_step HG.out h2); have d0 := V2.out.c0; have d1 := V2.out.c1; have d2 := V2.out.c2; clear hq h2) | (go_at_call 47; (with_reducible refine (HPP.out _).mono ?_); rintro e w3 ⟨rfl, h3⟩; have G3 := Lib.hid (below_step G2.out h3); clear h3))
    go_ret
    exact ⟨by rw [HPR.out]; rfl, G3.out⟩
  · have hpr : prT 6 ⟨#[]⟩ n = spn n := rfl
    have hwn : IntKind.i64.wrap (n : Int) = (n : Int) := by rw [IntKind.wrap_i64]; omega
    have HPP := Lib.hid (fun W => rsprint_any (n : Int) W (by omega) h0)
    rw [Int.toNat_natCast] at HPP
    have HPR := Lib.hid hpr
    clear hpr
    go_enter Tryz.func28, Tryz.ntmps28
    go_wp2_with (first | (go_at_call 44; (with_reducible refine (HRT.out _).mono ?_); rintro e w2 ⟨q, rfl, hq, h2⟩; obtain rfl : q = true := hq.mpr HR.out; have V2 := Lib.hid (HV.out.after h2); have G2 := Lib.hid (below_step HG.out h2); have d0 := V2.out.c0; have d1 := V2.out.c1; have d2 := V2.out.c2; clear hq h2) | (go_at_call 48; (with_reducible refine (HPP.out _).mono ?_); rintro e w3 ⟨rfl, h3⟩; have G3 := Lib.hid (below_step G2.out h3); clear h3))
    go_ret
    exact ⟨by rw [HPR.out]; rfl, G3.out⟩
  · have hpr : prT 0 ⟨#[]⟩ n = [] := rfl
    clear h0
    have HPR := Lib.hid hpr
    clear hpr
    go_enter Tryz.func28, Tryz.ntmps28
    go_wp2_with (first | (go_at_call 44; (with_reducible refine (HRT.out _).mono ?_); rintro e w2 ⟨q, rfl, hq, h2⟩; obtain rfl : q = true := hq.mpr HR.out; have V2 := Lib.hid (HV.out.after h2); have G2 := Lib.hid (below_step HG.out h2); have d0 := V2.out.c0; have d1 := V2.out.c1; have d2 := V2.out.c2; clear hq h2))
    go_ret
    exact ⟨by rw [HPR.out]; rfl, G2.out⟩
  · have hpr : prT 7 ⟨#[]⟩ n = [123] := rfl
    clear h0
    have HPR := Lib.hid hpr
    clear hpr
    go_enter Tryz.func28, Tryz.ntmps28
    go_wp2_with (first | (go_at_call 44; (with_reducible refine (HRT.out _).mono ?_); rintro e w2 ⟨q, rfl, hq, h2⟩; obtain rfl : q = true := hq.mpr HR.out; have V2 := Lib.hid (HV.out.after h2); have G2 := Lib.hid (below_step HG.out h2); have d0 := V2.out.c0; have d1 := V2.out.c1; have d2 := V2.out.c2; clear hq h2))
    go_ret
    exact ⟨by rw [HPR.out]; rfl, G2.out⟩
  · have hpr : prT 8 ⟨#[]⟩ n = [125] := rfl
    clear h0
    have HPR := Lib.hid hpr
    clear hpr
    go_enter Tryz.func28, Tryz.ntmps28
    go_wp2_with (first | (go_at_call 44; (with_reducible refine (HRT.out _).mono ?_); rintro e w2 ⟨q, rfl, hq, h2⟩; obtain rfl : q = true := hq.mpr HR.out; have V2 := Lib.hid (HV.out.after h2); have G2 := Lib.hid (below_step HG.out h2); have d0 := V2.out.c0; have d1 := V2.out.c1; have d2 := V2.out.c2; clear hq h2))
    go_ret
    exact ⟨by rw [HPR.out]; rfl, G2.out⟩
  · have hpr : prT 9 ⟨#[]⟩ n = [59] := rfl
    clear h0
    have HPR := Lib.hid hpr
    clear hpr
    go_enter Tryz.func28, Tryz.ntmps28
    go_wp2_with (first | (go_at_call 44; (with_reducible refine (HRT.out _).mono ?_); rintro e w2 ⟨q, rfl, hq, h2⟩; obtain rfl : q = true := hq.mpr HR.out; have V2 := Lib.hid (HV.out.after h2); have G2 := Lib.hid (below_step HG.out h2); have d0 := V2.out.c0; have d1 := V2.out.c1; have d2 := V2.out.c2; clear hq h2))
    go_ret
    exact ⟨by rw [HPR.out]; rfl, G2.out⟩

end Go.Proofs.YtmgimkokmlcllaaGreatDoor
