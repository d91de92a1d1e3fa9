/-
  The document's own answers for spans, walked: Unit, digits, Print.
-/
import Derived.Test.YtmgimkokmlcllaaGreatDoorPkPlain
import Derived.WalkKit
import Derived.WalkSpells
import Derived.WalkLawsBesides
import Derived.WalkSmall
import Derived.Lib.Hide
import Derived.Lib.OthersKept
import Derived.Deep.LoopGhost
import Derived.Deep.RegionHeld3
import Derived.Laws.BytesArg
import Derived.Test.YtmgimkokmlcllaaGreatDoorPkVrs
namespace Go.Proofs.YtmgimkokmlcllaaGreatDoor
open Go.RowKit

theorem span_letter (W : World) (z : Int) (g : Nat) (hg : g = W.heap.size) :
    (convert 41 9 (.slice (some ⟨g, 0, none⟩) 1 1)).run Tryz.prog (W.alloc (.cells #[.int .u8 z] 5)) = .ok (.string (strOfNums [z])) (W.alloc (.cells #[.int .u8 z] 5)) := by
  subst hg
  exact run_convert_bytes_arg (W.alloc (.cells #[.int .u8 z] 5)) 41 5 Tryz.underlying41 Tryz.underlying5 _ _ 1 1 [z] rfl (fun i hi => by
    obtain rfl : i = 0 := by omega
    simp) 9 Tryz.underlying9

set_option maxRecDepth 100000 in
theorem runit_any (c : Int) (w : World) (_h0 : 0 ≤ c) (_h1 : c ≤ 255) :
    Calls Tryz.prog 78 #[.int .u8 c] w fun e w' => e = .returned (.int .i64 (unitOf c)) ∧ Below w.heap.size w w' := by
  have hU : Hid (unitOf c = if c = 119 then 604800 else if c = 100 then 86400 else if c = 104 then 3600 else if c = 109 then 60 else if c = 115 then 1 else 0) := rfl
  have DD : Below w.heap.size w (w.alloc (.cells #[.int .i64 604800, .int .i64 86400, .int .i64 3600, .int .i64 60, .int .i64 1] 2)) := (Below.refl _ _).alloc (Nat.le_refl _) _
  go_enter Tryz.func78, Tryz.ntmps78
  go_wp2
  go_loop [5] (fun i => ∃ k : Nat, k ≤ 5 ∧ i = .int .i64 k ∧ (1 ≤ k → c ≠ 119) ∧ (2 ≤ k → c ≠ 100) ∧ (3 ≤ k → c ≠ 104) ∧ (4 ≤ k → c ≠ 109) ∧ (5 ≤ k → c ≠ 115)) (fun i => 5 - (intOf i).toNat)
  case atStart => exact ⟨0, by omega, rfl, by omega, by omega, by omega, by omega, by omega⟩
  case round =>
    obtain ⟨k, hk, rfl, g1, g2, g3, g4, g5⟩ := hrel
    have hk6 : k = 0 ∨ k = 1 ∨ k = 2 ∨ k = 3 ∨ k = 4 ∨ k = 5 := by omega
    rcases hk6 with rfl | rfl | rfl | rfl | rfl | rfl
    · have ek : ((0 : Nat) : Int) = 0 := rfl
      have hlet : (((⟨#[119, 100, 104, 109, 115]⟩ : ByteArray)[0]'(by decide)).toNat : Int) = 119 := rfl
      by_cases hc : c = 119
      · have hfin : Hid ((unitOf c : Int) = 604800) := by unfold Hid; rw [hU.out, if_pos hc]; rfl
        subst hc
        clear g1 g2 g3 g4 g5
        go_wp2
        go_ret
        exact ⟨by rw [hfin.out]; rfl, DD⟩
      · have hcb : (((119 : Int) == c)) = false := by simp; omega
        have hnx := Lib.hid (And.intro g1 (And.intro g2 (And.intro g3 (And.intro g4 g5))))
        replace hc := Lib.hid hc
        clear g1 g2 g3 g4 g5
        go_wp2
        go_round
        case rel => exact ⟨1, by omega, by go_num, fun _ => hc.out, by omega, by omega, by omega, by omega⟩
        case measure => simp [intOf]
    · have ek : ((1 : Nat) : Int) = 1 := rfl
      have hlet : (((⟨#[119, 100, 104, 109, 115]⟩ : ByteArray)[1]'(by decide)).toNat : Int) = 100 := rfl
      by_cases hc : c = 100
      · have hfin : Hid ((unitOf c : Int) = 86400) := by unfold Hid; rw [hU.out, if_neg (g1 (by omega)), if_pos hc]; rfl
        subst hc
        clear g1 g2 g3 g4 g5
        go_wp2
        go_ret
        exact ⟨by rw [hfin.out]; rfl, DD⟩
      · have hcb : (((100 : Int) == c)) = false := by simp; omega
        have hnx := Lib.hid (And.intro g1 (And.intro g2 (And.intro g3 (And.intro g4 g5))))
        replace hc := Lib.hid hc
        clear g1 g2 g3 g4 g5
        go_wp2
        go_round
        case rel => exact ⟨2, by omega, by go_num, fun _ => hnx.out.1 (by omega), fun _ => hc.out, by omega, by omega, by omega⟩
        case measure => simp [intOf]
    · have ek : ((2 : Nat) : Int) = 2 := rfl
      have hlet : (((⟨#[119, 100, 104, 109, 115]⟩ : ByteArray)[2]'(by decide)).toNat : Int) = 104 := rfl
      by_cases hc : c = 104
      · have hfin : Hid ((unitOf c : Int) = 3600) := by unfold Hid; rw [hU.out, if_neg (g1 (by omega)), if_neg (g2 (by omega)), if_pos hc]; rfl
        subst hc
        clear g1 g2 g3 g4 g5
        go_wp2
        go_ret
        exact ⟨by rw [hfin.out]; rfl, DD⟩
      · have hcb : (((104 : Int) == c)) = false := by simp; omega
        have hnx := Lib.hid (And.intro g1 (And.intro g2 (And.intro g3 (And.intro g4 g5))))
        replace hc := Lib.hid hc
        clear g1 g2 g3 g4 g5
        go_wp2
        go_round
        case rel => exact ⟨3, by omega, by go_num, fun _ => hnx.out.1 (by omega), fun _ => hnx.out.2.1 (by omega), fun _ => hc.out, by omega, by omega⟩
        case measure => simp [intOf]
    · have ek : ((3 : Nat) : Int) = 3 := rfl
      have hlet : (((⟨#[119, 100, 104, 109, 115]⟩ : ByteArray)[3]'(by decide)).toNat : Int) = 109 := rfl
      by_cases hc : c = 109
      · have hfin : Hid ((unitOf c : Int) = 60) := by unfold Hid; rw [hU.out, if_neg (g1 (by omega)), if_neg (g2 (by omega)), if_neg (g3 (by omega)), if_pos hc]; rfl
        subst hc
        clear g1 g2 g3 g4 g5
        go_wp2
        go_ret
        exact ⟨by rw [hfin.out]; rfl, DD⟩
      · have hcb : (((109 : Int) == c)) = false := by simp; omega
        have hnx := Lib.hid (And.intro g1 (And.intro g2 (And.intro g3 (And.intro g4 g5))))
        replace hc := Lib.hid hc
        clear g1 g2 g3 g4 g5
        go_wp2
        go_round
        case rel => exact ⟨4, by omega, by go_num, fun _ => hnx.out.1 (by omega), fun _ => hnx.out.2.1 (by omega), fun _ => hnx.out.2.2.1 (by omega), fun _ => hc.out, by omega⟩
        case measure => simp [intOf]
    · have ek : ((4 : Nat) : Int) = 4 := rfl
      have hlet : (((⟨#[119, 100, 104, 109, 115]⟩ : ByteArray)[4]'(by decide)).toNat : Int) = 115 := rfl
      by_cases hc : c = 115
      · have hfin : Hid ((unitOf c : Int) = 1) := by unfold Hid; rw [hU.out, if_neg (g1 (by omega)), if_neg (g2 (by omega)), if_neg (g3 (by omega)), if_neg (g4 (by omega)), if_pos hc]; rfl
        subst hc
        clear g1 g2 g3 g4 g5
        go_wp2
        go_ret
        exact ⟨by rw [hfin.out]; rfl, DD⟩
      · have hcb : (((115 : Int) == c)) = false := by simp; omega
        have hnx := Lib.hid (And.intro g1 (And.intro g2 (And.intro g3 (And.intro g4 g5))))
        replace hc := Lib.hid hc
        clear g1 g2 g3 g4 g5
        go_wp2
        go_round
        case rel => exact ⟨5, by omega, by go_num, fun _ => hnx.out.1 (by omega), fun _ => hnx.out.2.1 (by omega), fun _ => hnx.out.2.2.1 (by omega), fun _ => hnx.out.2.2.2.1 (by omega), fun _ => hc.out⟩
        case measure => simp [intOf]
    · have ek : ((5 : Nat) : Int) = 5 := rfl
      have hfin : Hid (unitOf c = 0) := by unfold Hid; rw [hU.out, if_neg (g1 (by omega)), if_neg (g2 (by omega)), if_neg (g3 (by omega)), if_neg (g4 (by omega)), if_neg (g5 (by omega))]
      clear g1 g2 g3 g4 g5
      go_wp2
      go_ret
      exact ⟨by rw [hfin.out]; rfl, DD⟩

theorem dec_pre {A : Nat} {xs : List Int} {a : Nat} (h : dec A = dec a ++ xs) (hA : W128 A) : xs.length ≤ 39 := by
  have h1 := dec_len hA
  rw [h, List.length_append] at h1
  omega
theorem dec_next {A a : Nat} {xs : List Int} (h : dec A = dec a ++ xs) (ha : ¬ a < 10) : dec A = dec (a / 10) ++ ((48 + ((a % 10 : Nat) : Int)) :: xs) := by
  rw [h, dec_big ha]; simp
theorem dec_done {A a : Nat} {xs : List Int} (h : dec A = dec a ++ xs) (ha : a < 10) : dec A = (48 + ((a % 10 : Nat) : Int)) :: xs := by
  rw [h, dec_small ha, Nat.mod_eq_of_lt ha]; rfl
def DecAt (A a : Nat) (xs : List Int) : Prop := (a = 0 ∧ dec A = xs) ∨ (1 ≤ a ∧ dec A = dec a ++ xs)
theorem DecAt.step {A a : Nat} {xs : List Int} (h : dec A = dec a ++ xs) : DecAt A (a / 10) ((48 + ((a % 10 : Nat) : Int)) :: xs) := by
  by_cases ha : a < 10
  · exact Or.inl ⟨by omega, dec_done h ha⟩
  · exact Or.inr ⟨by omega, dec_next h ha⟩
theorem DecAt.start (A : Nat) : DecAt A (A / 10) [48 + ((A % 10 : Nat) : Int)] := DecAt.step (xs := []) (by simp)
theorem DecAt.len {A a : Nat} {xs : List Int} (h : DecAt A a xs) (hA : W128 A) : xs.length ≤ 39 := by
  rcases h with ⟨_, h⟩ | ⟨_, h⟩
  · rw [← h]; exact dec_len hA
  · exact dec_pre h hA

set_option maxRecDepth 100000 in
set_option maxHeartbeats 1000000 in
theorem rsdigits_any (n : Int) (w : World) (h0 : 0 ≤ n) (h1 : n ≤ 253402300799) :
    Calls Tryz.prog 79 #[.int .i64 n] w fun e w' => e = .returned (.string (strOfNums (dec n.toNat))) ∧ Below w.heap.size w w' := by
  obtain ⟨A, rfl⟩ : ∃ A : Nat, n = A := ⟨n.toNat, by omega⟩
  rw [Int.toNat_natCast]
  have hA : Hid (W128 A) := by unfold Hid W128; omega
  obtain ⟨r, hr⟩ : ∃ r, (A : Int) % 10 = r := ⟨_, rfl⟩
  have r0 : 0 ≤ r := by omega
  have r1 : r ≤ 9 := by omega
  have hrn : Hid (r = ((A % 10 : Nat) : Int)) := by unfold Hid; omega
  obtain ⟨q, hq⟩ : ∃ q : Nat, (A : Int) / 10 = (q : Int) := ⟨A / 10, by omega⟩
  have hqn : Hid (q = A / 10) := by unfold Hid; omega
  have hcv := span_letter w (48 + r) w.heap.size rfl
  have DD : Below w.heap.size w (w.alloc (.cells #[.int .u8 (48 + r)] 5)) := (Below.refl _ _).alloc (Nat.le_refl _) _
  go_enter Tryz.func79, Tryz.ntmps79
  go_wp2
  go_loopg [0, 3] q (fun g v0 v3 wr => ∃ (a : Nat) (xs : List Int), Hid (a ≤ g) ∧ (a : Int) ≤ 253402300799 ∧ v0 = .int .i64 a ∧ v3 = .string (strOfNums xs) ∧ DecAt A a xs ∧ Below w.heap.size w wr)
  case atStart => exact ⟨q, [48 + r], Lib.hid (Nat.le_refl _), by omega, by first | rfl | rw [hq], rfl, by rw [hqn.out, hrn.out]; exact DecAt.start A, DD⟩
  case round =>
    obtain ⟨a, xs, hg, ha, rfl, rfl, hd, hbel⟩ := hrel
    have HD := Lib.hid hd
    have hlx : (strOfNums xs).size ≤ 39 := by rw [strOfNums_size]; exact hd.len hA.out
    clear hd hr hq hcv
    by_cases hz : a = 0
    · subst hz
      have ez : ((0 : Nat) : Int) = 0 := rfl
      have hfin : Hid (dec A = xs) := by
        rcases HD.out with ⟨_, h⟩ | ⟨h, _⟩
        · exact h
        · omega
      go_wp2
      go_ret
      exact ⟨by rw [hfin.out]; rfl, hbel⟩
    · have hap : 0 < (a : Int) := by omega
      have hda : Hid (dec A = dec a ++ xs) := by
        rcases HD.out with ⟨h, _⟩ | ⟨_, h⟩
        · exact (hz h).elim
        · exact h
      obtain ⟨x, hx⟩ : ∃ x, (a : Int) % 10 = x := ⟨_, rfl⟩
      have x0 : 0 ≤ x := by omega
      have x1 : x ≤ 9 := by omega
      have hxn : Hid (x = ((a % 10 : Nat) : Int)) := by unfold Hid; omega
      obtain ⟨y, hy⟩ : ∃ y : Nat, (a : Int) / 10 = (y : Int) := ⟨a / 10, by omega⟩
      have hyn : Hid (y = a / 10) := by unfold Hid; omega
      have hcv := span_letter wr (48 + x) wr.heap.size rfl
      have hap2 := strOfNums_append [48 + x] xs
      have hs1 : (strOfNums [48 + x]).size + (strOfNums xs).size ≤ 9223372036854775807 := by have e : (strOfNums [48 + x]).size = 1 := rfl; omega
      have hnext : Hid (DecAt A y ((48 + x) :: xs)) := by unfold Hid; rw [hyn.out, hxn.out]; exact DecAt.step hda.out
      have D2 := below_more hbel (.cells #[.int .u8 (48 + x)] 5)
      clear hz
      go_wp2
      go_roundg y
      case measure => have h1 := hg.out; have h2 := hyn.out; omega
      case rel => exact ⟨y, (48 + x) :: xs, Lib.hid (Nat.le_refl _), by have h2 := hyn.out; omega, by first | rfl | rw [hy], rfl, hnext.out, D2⟩

structure SpAt (N k m : Nat) (xs : List Int) : Prop where
  all : sp units N = xs ++ sp (units.drop k) m
  le : m ≤ 253402300799
  len : xs.length ≤ 40 * k
theorem SpAt.start (N : Nat) (h : N ≤ 253402300799) : SpAt N 0 N [] := ⟨rfl, h, by simp⟩
theorem SpAt.yes {N k m : Nat} {xs : List Int} (h : SpAt N k m xs) {c : Int} {r : List Int} (hd : units.drop k = c :: r) (hr : units.drop (k + 1) = r) (hm : unitOf c ≤ m) : SpAt N (k + 1) (m % unitOf c) (xs ++ (dec (m / unitOf c) ++ [c])) := by
  obtain ⟨h1, h2, h3⟩ := h
  have h4 : (dec (m / unitOf c)).length ≤ 39 := dec_len (by have := Nat.div_le_self m (unitOf c); unfold W128; omega)
  refine ⟨?_, by have := Nat.mod_le m (unitOf c); omega, by simp only [List.length_append, List.length_singleton]; omega⟩
  rw [h1, hd, hr, sp, if_pos hm]; simp
theorem SpAt.no {N k m : Nat} {xs : List Int} (h : SpAt N k m xs) {c : Int} {r : List Int} (hd : units.drop k = c :: r) (hr : units.drop (k + 1) = r) (hm : ¬ unitOf c ≤ m) : SpAt N (k + 1) m xs := by
  obtain ⟨h1, h2, h3⟩ := h
  refine ⟨?_, h2, by omega⟩
  rw [h1, hd, hr, sp, if_neg hm]
theorem SpAt.fin {N m : Nat} {xs : List Int} (h : SpAt N 5 m xs) : sp units N = xs := by
  rw [h.all]; simp [units, sp]
theorem span_empty {xs : List Int} (h : xs = []) : (strOfNums xs).toList = [] ∧ (strOfNums xs).toList.isEmpty = true := by
  subst h
  have e : (strOfNums []).toList = [] := by rw [ByteArray.toList_eq]; rfl
  exact ⟨e, by rw [e]; rfl⟩
theorem span_some {xs : List Int} (h : xs ≠ []) : ¬ (strOfNums xs).toList = [] ∧ (strOfNums xs).toList.isEmpty = false := by
  have hs : 0 < (strOfNums xs).size := by rw [strOfNums_size]; cases xs with | nil => exact (h rfl).elim | cons a l => simp
  have e : (strOfNums xs).toList = (strOfNums xs).data.toList := ByteArray.toList_eq _
  have hl : (strOfNums xs).data.toList.length = (strOfNums xs).size := by simp
  rw [e]
  cases hd : (strOfNums xs).data.toList with
  | nil => rw [hd] at hl; simp at hl; omega
  | cons a l => simp

set_option maxRecDepth 100000 in
set_option maxHeartbeats 4000000 in
theorem rsprint_any (n : Int) (w : World) (h0 : 0 ≤ n) (h1 : n ≤ 253402300799) :
    Calls Tryz.prog 48 #[.int .i64 n] w fun e w' => e = .returned (.string (strOfNums (spn n.toNat))) ∧ Below w.heap.size w w' := by
  obtain ⟨N, rfl⟩ : ∃ N : Nat, n = N := ⟨n.toNat, by omega⟩
  rw [Int.toNat_natCast]
  go_enter Tryz.func48, Tryz.ntmps48
  go_wp2
  go_loopw [0, 3, 5] (fun v0 v3 v5 wr => ∃ (k m : Nat) (xs : List Int), k ≤ 5 ∧ v5 = .int .i64 k ∧ v0 = .int .i64 m ∧ v3 = .string (strOfNums xs) ∧ SpAt N k m xs ∧ Below w.heap.size w wr) (fun _ _ v5 _ => 5 - (intOf v5).toNat)
  case atStart => exact ⟨0, N, [], by omega, rfl, rfl, rfl, SpAt.start N (by omega), Below.refl _ _⟩
  case round =>
    obtain ⟨k, m, xs, hk, rfl, rfl, rfl, hS, hbel⟩ := hrel
    have HS := Lib.hid hS
    have hm9 : (m : Int) ≤ 253402300799 := by have := hS.le; omega
    have hlx : (strOfNums xs).size ≤ 200 := by rw [strOfNums_size]; have := hS.len; omega
    clear hS
    have hk6 : k = 0 ∨ k = 1 ∨ k = 2 ∨ k = 3 ∨ k = 4 ∨ k = 5 := by omega
    rcases hk6 with rfl | rfl | rfl | rfl | rfl | rfl
    · have ek : ((0 : Nat) : Int) = 0 := rfl
      have hlet : (((⟨#[119, 100, 104, 109, 115]⟩ : ByteArray)[0]'(by decide)).toNat : Int) = 119 := rfl
      have hext : (⟨#[119, 100, 104, 109, 115]⟩ : ByteArray).extract 0 1 = ⟨#[119]⟩ := rfl
      have hu : unitOf 119 = 604800 := rfl
      have HU := Lib.hid hu
      clear hu
      by_cases hc : 604800 ≤ m
      · have hnext := Lib.hid (HS.out.yes (c := 119) (r := [100, 104, 109, 115]) rfl rfl (by rw [HU.out]; exact hc))
        obtain ⟨q, hq⟩ : ∃ q : Nat, (m : Int) / 604800 = (q : Int) := ⟨m / 604800, by omega⟩
        obtain ⟨y, hy⟩ : ∃ y : Nat, (m : Int) % 604800 = (y : Int) := ⟨m % 604800, by omega⟩
        have hqn : Hid (q = m / unitOf 119) := by unfold Hid; rw [HU.out]; omega
        have hyn : Hid (y = m % unitOf 119) := by unfold Hid; rw [HU.out]; omega
        have hq9 : (q : Int) ≤ 253402300799 := by omega
        have hlq : (strOfNums (dec q)).size ≤ 39 := by rw [strOfNums_size]; exact dec_len (by unfold W128; omega)
        have hqt : (m : Int).tdiv 604800 = (q : Int) := by rw [Int.tdiv_eq_ediv_of_nonneg (by omega)]; exact hq
        have hqw : IntKind.i64.wrap (q : Int) = (q : Int) := by rw [IntKind.wrap_i64]; omega
        have hs1 : (strOfNums xs).size + (strOfNums (dec q)).size ≤ 9223372036854775807 := by omega
        have hs2 : (strOfNums xs).size + (strOfNums (dec q)).size + 1 ≤ 9223372036854775807 := by omega
        have hci : (604800 : Int) ≤ m := by omega
        have hs1n : ¬ 9223372036854775807 < (strOfNums xs).size + (strOfNums (dec q)).size := by omega
        have hs2n : ¬ 9223372036854775807 < (strOfNums xs).size + (strOfNums (dec q)).size + 1 := by omega
        have hsl : ∀ wx : World, (Instr.slice 9 (.string ⟨#[119, 100, 104, 109, 115]⟩) (some (.int .i64 0)) (some (.int .i64 1)) none).run Tryz.prog wx = .ok (.string ⟨#[119]⟩) wx := fun wx => by kernel_rfl
        have hwk : IntKind.i64.wrap (0 + 1) = 1 := by rw [IntKind.wrap_i64]; rfl
        have hwk2 : IntKind.i64.wrap 1 = 1 := by rw [IntKind.wrap_i64]; rfl
        have hstr : Hid (strOfNums xs ++ strOfNums (dec q) ++ ⟨#[119]⟩ = strOfNums (xs ++ (dec (m / unitOf 119) ++ [119]))) := by unfold Hid; rw [show (⟨#[119]⟩ : ByteArray) = strOfNums [119] from rfl, strOfNums_append, strOfNums_append, hqn.out, List.append_assoc]
        clear hc
        go_wp2_with (go_at_call 78; (with_reducible refine (runit_any 119 _ (by decide) (by decide)).mono ?_); rintro e w1 ⟨rfl, g1⟩; rw [HU.out]; have DD := below_step hbel g1)
        go_region_held3 (fun W => Below w.heap.size w W) (first | exact D2 | exact DD.drew | go_keep)
          (first
            | (go_at_call 79; (with_reducible refine (rsdigits_any (q : Int) _ (by omega) hq9).mono ?_); rintro e w2 ⟨rfl, g2⟩; rw [Int.toNat_natCast]; have D2 := below_step DD.drew g2))
        all_goals
          clear hqt hqw hs1 hs2 hs1n hs2n hsl hwk hwk2
          go_wp2
          go_roundw
          case rel => exact ⟨1, y, _, by omega, by go_num, by first | rfl | rw [hy] | exact congrArg (Value.int IntKind.i64) (by omega), by rw [hstr.out], by rw [hyn.out]; exact hnext.out, D2⟩
          case measure => simp [intOf]
      · have hnext := Lib.hid (HS.out.no (c := 119) (r := [100, 104, 109, 115]) rfl rfl (by rw [HU.out]; exact hc))
        have hcd : decide ((m : Int) ≥ 604800) = false := by simp; omega
        clear hc
        go_wp2_with (go_at_call 78; (with_reducible refine (runit_any 119 _ (by decide) (by decide)).mono ?_); rintro e w1 ⟨rfl, g1⟩; rw [HU.out]; have DD := below_step hbel g1)
        go_roundw
        case rel => exact ⟨1, m, xs, by omega, by go_num, rfl, rfl, hnext.out, DD⟩
        case measure => simp [intOf]
    · have ek : ((1 : Nat) : Int) = 1 := rfl
      have hlet : (((⟨#[119, 100, 104, 109, 115]⟩ : ByteArray)[1]'(by decide)).toNat : Int) = 100 := rfl
      have hext : (⟨#[119, 100, 104, 109, 115]⟩ : ByteArray).extract 1 2 = ⟨#[100]⟩ := rfl
      have hu : unitOf 100 = 86400 := rfl
      have HU := Lib.hid hu
      clear hu
      by_cases hc : 86400 ≤ m
      · have hnext := Lib.hid (HS.out.yes (c := 100) (r := [104, 109, 115]) rfl rfl (by rw [HU.out]; exact hc))
        obtain ⟨q, hq⟩ : ∃ q : Nat, (m : Int) / 86400 = (q : Int) := ⟨m / 86400, by omega⟩
        obtain ⟨y, hy⟩ : ∃ y : Nat, (m : Int) % 86400 = (y : Int) := ⟨m % 86400, by omega⟩
        have hqn : Hid (q = m / unitOf 100) := by unfold Hid; rw [HU.out]; omega
        have hyn : Hid (y = m % unitOf 100) := by unfold Hid; rw [HU.out]; omega
        have hq9 : (q : Int) ≤ 253402300799 := by omega
        have hlq : (strOfNums (dec q)).size ≤ 39 := by rw [strOfNums_size]; exact dec_len (by unfold W128; omega)
        have hqt : (m : Int).tdiv 86400 = (q : Int) := by rw [Int.tdiv_eq_ediv_of_nonneg (by omega)]; exact hq
        have hqw : IntKind.i64.wrap (q : Int) = (q : Int) := by rw [IntKind.wrap_i64]; omega
        have hs1 : (strOfNums xs).size + (strOfNums (dec q)).size ≤ 9223372036854775807 := by omega
        have hs2 : (strOfNums xs).size + (strOfNums (dec q)).size + 1 ≤ 9223372036854775807 := by omega
        have hci : (86400 : Int) ≤ m := by omega
        have hs1n : ¬ 9223372036854775807 < (strOfNums xs).size + (strOfNums (dec q)).size := by omega
        have hs2n : ¬ 9223372036854775807 < (strOfNums xs).size + (strOfNums (dec q)).size + 1 := by omega
        have hsl : ∀ wx : World, (Instr.slice 9 (.string ⟨#[119, 100, 104, 109, 115]⟩) (some (.int .i64 1)) (some (.int .i64 2)) none).run Tryz.prog wx = .ok (.string ⟨#[100]⟩) wx := fun wx => by kernel_rfl
        have hwk : IntKind.i64.wrap (1 + 1) = 2 := by rw [IntKind.wrap_i64]; rfl
        have hwk2 : IntKind.i64.wrap 2 = 2 := by rw [IntKind.wrap_i64]; rfl
        have hstr : Hid (strOfNums xs ++ strOfNums (dec q) ++ ⟨#[100]⟩ = strOfNums (xs ++ (dec (m / unitOf 100) ++ [100]))) := by unfold Hid; rw [show (⟨#[100]⟩ : ByteArray) = strOfNums [100] from rfl, strOfNums_append, strOfNums_append, hqn.out, List.append_assoc]
        clear hc
        go_wp2_with (go_at_call 78; (with_reducible refine (runit_any 100 _ (by decide) (by decide)).mono ?_); rintro e w1 ⟨rfl, g1⟩; rw [HU.out]; have DD := below_step hbel g1)
        go_region_held3 (fun W => Below w.heap.size w W) (first | exact D2 | exact DD.drew | go_keep)
          (first
            | (go_at_call 79; (with_reducible refine (rsdigits_any (q : Int) _ (by omega) hq9).mono ?_); rintro e w2 ⟨rfl, g2⟩; rw [Int.toNat_natCast]; have D2 := below_step DD.drew g2))
        all_goals
          clear hqt hqw hs1 hs2 hs1n hs2n hsl hwk hwk2
          go_wp2
          go_roundw
          case rel => exact ⟨2, y, _, by omega, by go_num, by first | rfl | rw [hy] | exact congrArg (Value.int IntKind.i64) (by omega), by rw [hstr.out], by rw [hyn.out]; exact hnext.out, D2⟩
          case measure => simp [intOf]
      · have hnext := Lib.hid (HS.out.no (c := 100) (r := [104, 109, 115]) rfl rfl (by rw [HU.out]; exact hc))
        have hcd : decide ((m : Int) ≥ 86400) = false := by simp; omega
        clear hc
        go_wp2_with (go_at_call 78; (with_reducible refine (runit_any 100 _ (by decide) (by decide)).mono ?_); rintro e w1 ⟨rfl, g1⟩; rw [HU.out]; have DD := below_step hbel g1)
        go_roundw
        case rel => exact ⟨2, m, xs, by omega, by go_num, rfl, rfl, hnext.out, DD⟩
        case measure => simp [intOf]
    · have ek : ((2 : Nat) : Int) = 2 := rfl
      have hlet : (((⟨#[119, 100, 104, 109, 115]⟩ : ByteArray)[2]'(by decide)).toNat : Int) = 104 := rfl
      have hext : (⟨#[119, 100, 104, 109, 115]⟩ : ByteArray).extract 2 3 = ⟨#[104]⟩ := rfl
      have hu : unitOf 104 = 3600 := rfl
      have HU := Lib.hid hu
      clear hu
      by_cases hc : 3600 ≤ m
      · have hnext := Lib.hid (HS.out.yes (c := 104) (r := [109, 115]) rfl rfl (by rw [HU.out]; exact hc))
        obtain ⟨q, hq⟩ : ∃ q : Nat, (m : Int) / 3600 = (q : Int) := ⟨m / 3600, by omega⟩
        obtain ⟨y, hy⟩ : ∃ y : Nat, (m : Int) % 3600 = (y : Int) := ⟨m % 3600, by omega⟩
        have hqn : Hid (q = m / unitOf 104) := by unfold Hid; rw [HU.out]; omega
        have hyn : Hid (y = m % unitOf 104) := by unfold Hid; rw [HU.out]; omega
        have hq9 : (q : Int) ≤ 253402300799 := by omega
        have hlq : (strOfNums (dec q)).size ≤ 39 := by rw [strOfNums_size]; exact dec_len (by unfold W128; omega)
        have hqt : (m : Int).tdiv 3600 = (q : Int) := by rw [Int.tdiv_eq_ediv_of_nonneg (by omega)]; exact hq
        have hqw : IntKind.i64.wrap (q : Int) = (q : Int) := by rw [IntKind.wrap_i64]; omega
        have hs1 : (strOfNums xs).size + (strOfNums (dec q)).size ≤ 9223372036854775807 := by omega
        have hs2 : (strOfNums xs).size + (strOfNums (dec q)).size + 1 ≤ 9223372036854775807 := by omega
        have hci : (3600 : Int) ≤ m := by omega
        have hs1n : ¬ 9223372036854775807 < (strOfNums xs).size + (strOfNums (dec q)).size := by omega
        have hs2n : ¬ 9223372036854775807 < (strOfNums xs).size + (strOfNums (dec q)).size + 1 := by omega
        have hsl : ∀ wx : World, (Instr.slice 9 (.string ⟨#[119, 100, 104, 109, 115]⟩) (some (.int .i64 2)) (some (.int .i64 3)) none).run Tryz.prog wx = .ok (.string ⟨#[104]⟩) wx := fun wx => by kernel_rfl
        have hwk : IntKind.i64.wrap (2 + 1) = 3 := by rw [IntKind.wrap_i64]; rfl
        have hwk2 : IntKind.i64.wrap 3 = 3 := by rw [IntKind.wrap_i64]; rfl
        have hstr : Hid (strOfNums xs ++ strOfNums (dec q) ++ ⟨#[104]⟩ = strOfNums (xs ++ (dec (m / unitOf 104) ++ [104]))) := by unfold Hid; rw [show (⟨#[104]⟩ : ByteArray) = strOfNums [104] from rfl, strOfNums_append, strOfNums_append, hqn.out, List.append_assoc]
        clear hc
        go_wp2_with (go_at_call 78; (with_reducible refine (runit_any 104 _ (by decide) (by decide)).mono ?_); rintro e w1 ⟨rfl, g1⟩; rw [HU.out]; have DD := below_step hbel g1)
        go_region_held3 (fun W => Below w.heap.size w W) (first | exact D2 | exact DD.drew | go_keep)
          (first
            | (go_at_call 79; (with_reducible refine (rsdigits_any (q : Int) _ (by omega) hq9).mono ?_); rintro e w2 ⟨rfl, g2⟩; rw [Int.toNat_natCast]; have D2 := below_step DD.drew g2))
        all_goals
          clear hqt hqw hs1 hs2 hs1n hs2n hsl hwk hwk2
          go_wp2
          go_roundw
          case rel => exact ⟨3, y, _, by omega, by go_num, by first | rfl | rw [hy] | exact congrArg (Value.int IntKind.i64) (by omega), by rw [hstr.out], by rw [hyn.out]; exact hnext.out, D2⟩
          case measure => simp [intOf]
      · have hnext := Lib.hid (HS.out.no (c := 104) (r := [109, 115]) rfl rfl (by rw [HU.out]; exact hc))
        have hcd : decide ((m : Int) ≥ 3600) = false := by simp; omega
        clear hc
        go_wp2_with (go_at_call 78; (with_reducible refine (runit_any 104 _ (by decide) (by decide)).mono ?_); rintro e w1 ⟨rfl, g1⟩; rw [HU.out]; have DD := below_step hbel g1)
        go_roundw
        case rel => exact ⟨3, m, xs, by omega, by go_num, rfl, rfl, hnext.out, DD⟩
        case measure => simp [intOf]
    · have ek : ((3 : Nat) : Int) = 3 := rfl
      have hlet : (((⟨#[119, 100, 104, 109, 115]⟩ : ByteArray)[3]'(by decide)).toNat : Int) = 109 := rfl
      have hext : (⟨#[119, 100, 104, 109, 115]⟩ : ByteArray).extract 3 4 = ⟨#[109]⟩ := rfl
      have hu : unitOf 109 = 60 := rfl
      have HU := Lib.hid hu
      clear hu
      by_cases hc : 60 ≤ m
      · have hnext := Lib.hid (HS.out.yes (c := 109) (r := [115]) rfl rfl (by rw [HU.out]; exact hc))
        obtain ⟨q, hq⟩ : ∃ q : Nat, (m : Int) / 60 = (q : Int) := ⟨m / 60, by omega⟩
        obtain ⟨y, hy⟩ : ∃ y : Nat, (m : Int) % 60 = (y : Int) := ⟨m % 60, by omega⟩
        have hqn : Hid (q = m / unitOf 109) := by unfold Hid; rw [HU.out]; omega
        have hyn : Hid (y = m % unitOf 109) := by unfold Hid; rw [HU.out]; omega
        have hq9 : (q : Int) ≤ 253402300799 := by omega
        have hlq : (strOfNums (dec q)).size ≤ 39 := by rw [strOfNums_size]; exact dec_len (by unfold W128; omega)
        have hqt : (m : Int).tdiv 60 = (q : Int) := by rw [Int.tdiv_eq_ediv_of_nonneg (by omega)]; exact hq
        have hqw : IntKind.i64.wrap (q : Int) = (q : Int) := by rw [IntKind.wrap_i64]; omega
        have hs1 : (strOfNums xs).size + (strOfNums (dec q)).size ≤ 9223372036854775807 := by omega
        have hs2 : (strOfNums xs).size + (strOfNums (dec q)).size + 1 ≤ 9223372036854775807 := by omega
        have hci : (60 : Int) ≤ m := by omega
        have hs1n : ¬ 9223372036854775807 < (strOfNums xs).size + (strOfNums (dec q)).size := by omega
        have hs2n : ¬ 9223372036854775807 < (strOfNums xs).size + (strOfNums (dec q)).size + 1 := by omega
        have hsl : ∀ wx : World, (Instr.slice 9 (.string ⟨#[119, 100, 104, 109, 115]⟩) (some (.int .i64 3)) (some (.int .i64 4)) none).run Tryz.prog wx = .ok (.string ⟨#[109]⟩) wx := fun wx => by kernel_rfl
        have hwk : IntKind.i64.wrap (3 + 1) = 4 := by rw [IntKind.wrap_i64]; rfl
        have hwk2 : IntKind.i64.wrap 4 = 4 := by rw [IntKind.wrap_i64]; rfl
        have hstr : Hid (strOfNums xs ++ strOfNums (dec q) ++ ⟨#[109]⟩ = strOfNums (xs ++ (dec (m / unitOf 109) ++ [109]))) := by unfold Hid; rw [show (⟨#[109]⟩ : ByteArray) = strOfNums [109] from rfl, strOfNums_append, strOfNums_append, hqn.out, List.append_assoc]
        clear hc
        go_wp2_with (go_at_call 78; (with_reducible refine (runit_any 109 _ (by decide) (by decide)).mono ?_); rintro e w1 ⟨rfl, g1⟩; rw [HU.out]; have DD := below_step hbel g1)
        go_region_held3 (fun W => Below w.heap.size w W) (first | exact D2 | exact DD.drew | go_keep)
          (first
            | (go_at_call 79; (with_reducible refine (rsdigits_any (q : Int) _ (by omega) hq9).mono ?_); rintro e w2 ⟨rfl, g2⟩; rw [Int.toNat_natCast]; have D2 := below_step DD.drew g2))
        all_goals
          clear hqt hqw hs1 hs2 hs1n hs2n hsl hwk hwk2
          go_wp2
          go_roundw
          case rel => exact ⟨4, y, _, by omega, by go_num, by first | rfl | rw [hy] | exact congrArg (Value.int IntKind.i64) (by omega), by rw [hstr.out], by rw [hyn.out]; exact hnext.out, D2⟩
          case measure => simp [intOf]
      · have hnext := Lib.hid (HS.out.no (c := 109) (r := [115]) rfl rfl (by rw [HU.out]; exact hc))
        have hcd : decide ((m : Int) ≥ 60) = false := by simp; omega
        clear hc
        go_wp2_with (go_at_call 78; (with_reducible refine (runit_any 109 _ (by decide) (by decide)).mono ?_); rintro e w1 ⟨rfl, g1⟩; rw [HU.out]; have DD := below_step hbel g1)
        go_roundw
        case rel => exact ⟨4, m, xs, by omega, by go_num, rfl, rfl, hnext.out, DD⟩
        case measure => simp [intOf]
    · have ek : ((4 : Nat) : Int) = 4 := rfl
      have hlet : (((⟨#[119, 100, 104, 109, 115]⟩ : ByteArray)[4]'(by decide)).toNat : Int) = 115 := rfl
      have hext : (⟨#[119, 100, 104, 109, 115]⟩ : ByteArray).extract 4 5 = ⟨#[115]⟩ := rfl
      have hu : unitOf 115 = 1 := rfl
      have HU := Lib.hid hu
      clear hu
      by_cases hc : 1 ≤ m
      · have hnext := Lib.hid (HS.out.yes (c := 115) (r := []) rfl rfl (by rw [HU.out]; exact hc))
        obtain ⟨q, hq⟩ : ∃ q : Nat, (m : Int) / 1 = (q : Int) := ⟨m / 1, by omega⟩
        obtain ⟨y, hy⟩ : ∃ y : Nat, (m : Int) % 1 = (y : Int) := ⟨m % 1, by omega⟩
        have hqn : Hid (q = m / unitOf 115) := by unfold Hid; rw [HU.out]; omega
        have hyn : Hid (y = m % unitOf 115) := by unfold Hid; rw [HU.out]; omega
        have hq9 : (q : Int) ≤ 253402300799 := by omega
        have hlq : (strOfNums (dec q)).size ≤ 39 := by rw [strOfNums_size]; exact dec_len (by unfold W128; omega)
        have hqt : (m : Int).tdiv 1 = (q : Int) := by rw [Int.tdiv_eq_ediv_of_nonneg (by omega)]; exact hq
        have hqw : IntKind.i64.wrap (q : Int) = (q : Int) := by rw [IntKind.wrap_i64]; omega
        have hs1 : (strOfNums xs).size + (strOfNums (dec q)).size ≤ 9223372036854775807 := by omega
        have hs2 : (strOfNums xs).size + (strOfNums (dec q)).size + 1 ≤ 9223372036854775807 := by omega
        have hci : (1 : Int) ≤ m := by omega
        have hs1n : ¬ 9223372036854775807 < (strOfNums xs).size + (strOfNums (dec q)).size := by omega
        have hs2n : ¬ 9223372036854775807 < (strOfNums xs).size + (strOfNums (dec q)).size + 1 := by omega
        have hsl : ∀ wx : World, (Instr.slice 9 (.string ⟨#[119, 100, 104, 109, 115]⟩) (some (.int .i64 4)) (some (.int .i64 5)) none).run Tryz.prog wx = .ok (.string ⟨#[115]⟩) wx := fun wx => by kernel_rfl
        have hwk : IntKind.i64.wrap (4 + 1) = 5 := by rw [IntKind.wrap_i64]; rfl
        have hwk2 : IntKind.i64.wrap 5 = 5 := by rw [IntKind.wrap_i64]; rfl
        have hstr : Hid (strOfNums xs ++ strOfNums (dec q) ++ ⟨#[115]⟩ = strOfNums (xs ++ (dec (m / unitOf 115) ++ [115]))) := by unfold Hid; rw [show (⟨#[115]⟩ : ByteArray) = strOfNums [115] from rfl, strOfNums_append, strOfNums_append, hqn.out, List.append_assoc]
        clear hc
        go_wp2_with (go_at_call 78; (with_reducible refine (runit_any 115 _ (by decide) (by decide)).mono ?_); rintro e w1 ⟨rfl, g1⟩; rw [HU.out]; have DD := below_step hbel g1)
        go_region_held3 (fun W => Below w.heap.size w W) (first | exact D2 | exact DD.drew | go_keep)
          (first
            | (go_at_call 79; (with_reducible refine (rsdigits_any (q : Int) _ (by omega) hq9).mono ?_); rintro e w2 ⟨rfl, g2⟩; rw [Int.toNat_natCast]; have D2 := below_step DD.drew g2))
        all_goals
          clear hqt hqw hs1 hs2 hs1n hs2n hsl hwk hwk2
          go_wp2
          go_roundw
          case rel => exact ⟨5, y, _, by omega, by go_num, by first | rfl | rw [hy] | exact congrArg (Value.int IntKind.i64) (by omega), by rw [hstr.out], by rw [hyn.out]; exact hnext.out, D2⟩
          case measure => simp [intOf]
      · have hnext := Lib.hid (HS.out.no (c := 115) (r := []) rfl rfl (by rw [HU.out]; exact hc))
        have hcd : decide ((m : Int) ≥ 1) = false := by simp; omega
        clear hc
        go_wp2_with (go_at_call 78; (with_reducible refine (runit_any 115 _ (by decide) (by decide)).mono ?_); rintro e w1 ⟨rfl, g1⟩; rw [HU.out]; have DD := below_step hbel g1)
        go_roundw
        case rel => exact ⟨5, m, xs, by omega, by go_num, rfl, rfl, hnext.out, DD⟩
        case measure => simp [intOf]
    · have ek : ((5 : Nat) : Int) = 5 := rfl
      have hfin := Lib.hid HS.out.fin
      by_cases hx : xs = []
      · obtain ⟨e1, e2⟩ := span_empty hx
        have hN : Hid (spn N = [48, 115]) := by
          unfold Hid spn
          by_cases h : N = 0
          · rw [if_pos h]
          · exact (sp_some h (hfin.out.trans hx)).elim
        clear hx
        go_wp2
        go_ret
        exact ⟨by rw [hN.out]; rfl, hbel⟩
      · obtain ⟨e1, e2⟩ := span_some hx
        have hN : Hid (spn N = xs) := by
          unfold Hid spn
          by_cases h : N = 0
          · exfalso; apply hx; rw [← hfin.out, h]; rfl
          · rw [if_neg h]; exact hfin.out
        clear hx
        go_wp2
        go_ret
        exact ⟨by rw [hN.out]; rfl, hbel⟩

end Go.Proofs.YtmgimkokmlcllaaGreatDoor

/-
  The document's own Read of spans, walked: piece by piece.
-/
namespace Go.Proofs.YtmgimkokmlcllaaGreatDoor
open Go.RowKit

def SpanOut (zs : List Int) (x c : Int) : Prop := ((∀ N, ¬ Tells zs N) ∧ x = 0 ∧ c = 5) ∨ ∃ N, Tells zs N ∧ ((253402300799 < N ∧ x = 0 ∧ c = 8) ∨ (N ≤ 253402300799 ∧ x = (N : Int) ∧ c = 0))
def GivesSpan (zs : List Int) (w : World) (e : Ending) (w' : World) : Prop := ∃ x c : Int, e = .returned (.tuple #[.int .i64 x, .int .i64 c]) ∧ SpanOut zs x c ∧ Below w.heap.size w w'
theorem GivesSpan.word {zs : List Int} {w w' : World} (h : ∀ N, ¬ Tells zs N) (hb : Below w.heap.size w w') : GivesSpan zs w (.returned (.tuple #[.int .i64 0, .int .i64 5])) w' := ⟨0, 5, rfl, Or.inl ⟨h, rfl, rfl⟩, hb⟩
theorem GivesSpan.far {zs : List Int} {w w' : World} {N : Nat} (h : Tells zs N) (hN : 253402300799 < N) (hb : Below w.heap.size w w') : GivesSpan zs w (.returned (.tuple #[.int .i64 0, .int .i64 8])) w' := ⟨0, 8, rfl, Or.inr ⟨N, h, Or.inl ⟨hN, rfl, rfl⟩⟩, hb⟩
theorem GivesSpan.fine {zs : List Int} {w w' : World} {N : Nat} {x : Int} (h : Tells zs N) (hN : N ≤ 253402300799) (hx : x = (N : Int)) (hb : Below w.heap.size w w') : GivesSpan zs w (.returned (.tuple #[.int .i64 x, .int .i64 0])) w' := ⟨x, 0, rfl, Or.inr ⟨N, h, Or.inr ⟨hN, hx, rfl⟩⟩, hb⟩

structure RdS (zs : List Int) (i acc : Nat) (last sum : Int) (far : Bool) : Prop where
  run : runs St0 (zs.take i) = some ⟨acc, last.toNat, none⟩
  l0 : 1 ≤ last
  l1 : last ≤ 1000000
  s0 : 0 ≤ sum
  s1 : sum ≤ 253402300799
  near : far = false → sum = (acc : Int)
  over : far = true → 253402300799 < acc
structure InS (zs : List Int) (i k acc : Nat) (last n : Int) (N : Nat) : Prop where
  run : runs St0 (zs.take k) = some ⟨acc, last.toNat, if k = i then none else some N⟩
  zero : k = i → N = 0
  n0 : 0 ≤ n
  n1 : n ≤ 2534023007999
  near : n ≤ 253402300799 → n = (N : Int)
  over : 253402300799 < n → 253402300799 < N
end Go.Proofs.YtmgimkokmlcllaaGreatDoor
