/-
  The document's own answers for spans, walked: Unit, digits, Print.
-/
import Derived.Test.YthfmllgflnideaaGreatDoorPkPlain
import Derived.WalkKit
import Derived.WalkSpells
import Derived.WalkLawsBesides
import Derived.WalkSmall
import Derived.Lib.Hide
import Derived.Lib.OthersKept
import Derived.Deep.LoopGhost
import Derived.Deep.RegionHeld3
import Derived.Laws.BytesArg
import Derived.Test.YthfmllgflnideaaGreatDoorPkVrs
namespace Go.Proofs.YthfmllgflnideaaGreatDoor
open Go.RowKit

/-- One letter, as a text. -/
theorem span_letter (W : World) (z : Int) (g : Nat) (hg : g = W.heap.size) :
    (convert 87 9 (.slice (some ⟨g, 0, none⟩) 1 1)).run Tryz.prog (W.alloc (.cells #[.int .u8 z] 5)) = .ok (.string (strOfNums [z])) (W.alloc (.cells #[.int .u8 z] 5)) := by
  subst hg
  exact run_convert_bytes_arg (W.alloc (.cells #[.int .u8 z] 5)) 87 5 Tryz.underlying87 Tryz.underlying5 _ _ 1 1 [z] rfl (fun i hi => by
    obtain rfl : i = 0 := by omega
    simp) 9 Tryz.underlying9

theorem unitOf_w : unitOf 119 = 604800 := rfl
set_option maxRecDepth 100000 in
theorem runit_any (c : Int) (w : World) (_h0 : 0 ≤ c) (_h1 : c ≤ 255) :
    Calls Tryz.prog 59 #[.int .u8 c] w fun e w' => e = .returned (.int .i64 (unitOf c)) ∧ Below w.heap.size w w' := by
  have hU : Hid (unitOf c = if c = 119 then 604800 else if c = 100 then 86400 else if c = 104 then 3600 else if c = 109 then 60 else if c = 115 then 1 else 0) := rfl
  have DD : Below w.heap.size w (w.alloc (.cells #[.int .i64 604800, .int .i64 86400, .int .i64 3600, .int .i64 60, .int .i64 1] 2)) := (Below.refl _ _).alloc (Nat.le_refl _) _
  go_enter Tryz.func59, Tryz.ntmps59
  go_wp2
  go_loop [5] (fun i => ∃ k : Nat, k ≤ 5 ∧ i = .int .i64 k ∧ (1 ≤ k → c ≠ 119) ∧ (2 ≤ k → c ≠ 100) ∧ (3 ≤ k → c ≠ 104) ∧ (4 ≤ k → c ≠ 109) ∧ (5 ≤ k → c ≠ 115)) (fun i => 5 - (intOf i).toNat)
  case atStart => exact ⟨0, by omega, rfl, by omega, by omega, by omega, by omega, by omega⟩
  case round =>
    obtain ⟨k, hk, rfl, g1, g2, g3, g4, g5⟩ := hrel
    have hk6 : k = 0 ∨ k = 1 ∨ k = 2 ∨ k = 3 ∨ k = 4 ∨ k = 5 := by omega
    rcases hk6 with rfl | rfl | rfl | rfl | rfl | rfl
    · have ek : ((0 : Nat) : Int) = 0 := rfl
      have hlet : (((⟨#[119, 100, 104, 109, 115]⟩ : ByteArray)[0]'(by decide)).toNat : Int) = 119 := rfl
      by_cases hc : c = 119
      · have hfin : Hid ((unitOf c : Int) = 604800) := by unfold Hid; rw [hU.out, if_pos hc]; rfl
        subst hc
        clear g1 g2 g3 g4 g5
        go_wp2
        go_ret
        exact ⟨by rw [hfin.out]; rfl, DD⟩
      · have hcb : (((119 : Int) == c)) = false := by simp; omega
        have hnx := Lib.hid (And.intro g1 (And.intro g2 (And.intro g3 (And.intro g4 g5))))
        replace hc := Lib.hid hc
        clear g1 g2 g3 g4 g5
        go_wp2
        go_round
        case rel => exact ⟨1, by omega, by go_num, fun _ => hc.out, by omega, by omega, by omega, by omega⟩
        case measure => simp [intOf]
    · have ek : ((1 : Nat) : Int) = 1 := rfl
      have hlet : (((⟨#[119, 100, 104, 109, 115]⟩ : ByteArray)[1]'(by decide)).toNat : Int) = 100 := rfl
      by_cases hc : c = 100
      · have hfin : Hid ((unitOf c : Int) = 86400) := by unfold Hid; rw [hU.out, if_neg (g1 (by omega)), if_pos hc]; rfl
        subst hc
        clear g1 g2 g3 g4 g5
        go_wp2
        go_ret
        exact ⟨by rw [hfin.out]; rfl, DD⟩
      · have hcb : (((100 : Int) == c)) = false := by simp; omega
        have hnx := Lib.hid (And.intro g1 (And.intro g2 (And.intro g3 (And.intro g4 g5))))
        replace hc := Lib.hid hc
        clear g1 g2 g3 g4 g5
        go_wp2
        go_round
        case rel => exact ⟨2, by omega, by go_num, fun _ => hnx.out.1 (by omega), fun _ => hc.out, by omega, by omega, by omega⟩
        case measure => simp [intOf]
    · have ek : ((2 : Nat) : Int) = 2 := rfl
      have hlet : (((⟨#[119, 100, 104, 109, 115]⟩ : ByteArray)[2]'(by decide)).toNat : Int) = 104 := rfl
      by_cases hc : c = 104
      · have hfin : Hid ((unitOf c : Int) = 3600) := by unfold Hid; rw [hU.out, if_neg (g1 (by omega)), if_neg (g2 (by omega)), if_pos hc]; rfl
        subst hc
        clear g1 g2 g3 g4 g5
        go_wp2
        go_ret
        exact ⟨by rw [hfin.out]; rfl, DD⟩
      · have hcb : (((104 : Int) == c)) = false := by simp; omega
        have hnx := Lib.hid (And.intro g1 (And.intro g2 (And.intro g3 (And.intro g4 g5))))
        replace hc := Lib.hid hc
        clear g1 g2 g3 g4 g5
        go_wp2
        go_round
        case rel => exact ⟨3, by omega, by go_num, fun _ => hnx.out.1 (by omega), fun _ => hnx.out.2.1 (by omega), fun _ => hc.out, by omega, by omega⟩
        case measure => simp [intOf]
    · have ek : ((3 : Nat) : Int) = 3 := rfl
      have hlet : (((⟨#[119, 100, 104, 109, 115]⟩ : ByteArray)[3]'(by decide)).toNat : Int) = 109 := rfl
      by_cases hc : c = 109
      · have hfin : Hid ((unitOf c : Int) = 60) := by unfold Hid; rw [hU.out, if_neg (g1 (by omega)), if_neg (g2 (by omega)), if_neg (g3 (by omega)), if_pos hc]; rfl
        subst hc
        clear g1 g2 g3 g4 g5
        go_wp2
        go_ret
        exact ⟨by rw [hfin.out]; rfl, DD⟩
      · have hcb : (((109 : Int) == c)) = false := by simp; omega
        have hnx := Lib.hid (And.intro g1 (And.intro g2 (And.intro g3 (And.intro g4 g5))))
        replace hc := Lib.hid hc
        clear g1 g2 g3 g4 g5
        go_wp2
        go_round
        case rel => exact ⟨4, by omega, by go_num, fun _ => hnx.out.1 (by omega), fun _ => hnx.out.2.1 (by omega), fun _ => hnx.out.2.2.1 (by omega), fun _ => hc.out, by omega⟩
        case measure => simp [intOf]
    · have ek : ((4 : Nat) : Int) = 4 := rfl
      have hlet : (((⟨#[119, 100, 104, 109, 115]⟩ : ByteArray)[4]'(by decide)).toNat : Int) = 115 := rfl
      by_cases hc : c = 115
      · have hfin : Hid ((unitOf c : Int) = 1) := by unfold Hid; rw [hU.out, if_neg (g1 (by omega)), if_neg (g2 (by omega)), if_neg (g3 (by omega)), if_neg (g4 (by omega)), if_pos hc]; rfl
        subst hc
        clear g1 g2 g3 g4 g5
        go_wp2
        go_ret
        exact ⟨by rw [hfin.out]; rfl, DD⟩
      · have hcb : (((115 : Int) == c)) = false := by simp; omega
        have hnx := Lib.hid (And.intro g1 (And.intro g2 (And.intro g3 (And.intro g4 g5))))
        replace hc := Lib.hid hc
        clear g1 g2 g3 g4 g5
        go_wp2
        go_round
        case rel => exact ⟨5, by omega, by go_num, fun _ => hnx.out.1 (by omega), fun _ => hnx.out.2.1 (by omega), fun _ => hnx.out.2.2.1 (by omega), fun _ => hnx.out.2.2.2.1 (by omega), fun _ => hc.out⟩
        case measure => simp [intOf]
    · have ek : ((5 : Nat) : Int) = 5 := rfl
      have hfin : Hid (unitOf c = 0) := by unfold Hid; rw [hU.out, if_neg (g1 (by omega)), if_neg (g2 (by omega)), if_neg (g3 (by omega)), if_neg (g4 (by omega)), if_neg (g5 (by omega))]
      clear g1 g2 g3 g4 g5
      go_wp2
      go_ret
      exact ⟨by rw [hfin.out]; rfl, DD⟩

/-- What is printed so far, and what is left. -/
theorem dec_pre {A : Nat} {xs : List Int} {a : Nat} (h : dec A = dec a ++ xs) (hA : W128 A) : xs.length ≤ 39 := by
  have h1 := dec_len hA
  rw [h, List.length_append] at h1
  omega
theorem dec_next {A a : Nat} {xs : List Int} (h : dec A = dec a ++ xs) (ha : ¬ a < 10) : dec A = dec (a / 10) ++ ((48 + ((a % 10 : Nat) : Int)) :: xs) := by
  rw [h, dec_big ha]; simp
theorem dec_done {A a : Nat} {xs : List Int} (h : dec A = dec a ++ xs) (ha : a < 10) : dec A = (48 + ((a % 10 : Nat) : Int)) :: xs := by
  rw [h, dec_small ha, Nat.mod_eq_of_lt ha]; rfl
/-- At the head of a round: a digits' number is left, or none. -/
def DecAt (A a : Nat) (xs : List Int) : Prop := (a = 0 ∧ dec A = xs) ∨ (1 ≤ a ∧ dec A = dec a ++ xs)
theorem DecAt.step {A a : Nat} {xs : List Int} (h : dec A = dec a ++ xs) : DecAt A (a / 10) ((48 + ((a % 10 : Nat) : Int)) :: xs) := by
  by_cases ha : a < 10
  · exact Or.inl ⟨by omega, dec_done h ha⟩
  · exact Or.inr ⟨by omega, dec_next h ha⟩
theorem DecAt.start (A : Nat) : DecAt A (A / 10) [48 + ((A % 10 : Nat) : Int)] := DecAt.step (xs := []) (by simp)
theorem DecAt.len {A a : Nat} {xs : List Int} (h : DecAt A a xs) (hA : W128 A) : xs.length ≤ 39 := by
  rcases h with ⟨_, h⟩ | ⟨_, h⟩
  · rw [← h]; exact dec_len hA
  · exact dec_pre h hA

/-- What is printed so far, and what is left. -/
structure SpAt (N k m : Nat) (xs : List Int) : Prop where
  all : sp units N = xs ++ sp (units.drop k) m
  le : m ≤ 253402300799
  len : xs.length ≤ 40 * k
theorem SpAt.start (N : Nat) (h : N ≤ 253402300799) : SpAt N 0 N [] := ⟨rfl, h, by simp⟩
theorem SpAt.yes {N k m : Nat} {xs : List Int} (h : SpAt N k m xs) {c : Int} {r : List Int} (hd : units.drop k = c :: r) (hr : units.drop (k + 1) = r) (hm : unitOf c ≤ m) : SpAt N (k + 1) (m % unitOf c) (xs ++ (dec (m / unitOf c) ++ [c])) := by
  obtain ⟨h1, h2, h3⟩ := h
  have h4 : (dec (m / unitOf c)).length ≤ 39 := dec_len (by have := Nat.div_le_self m (unitOf c); unfold W128; omega)
  refine ⟨?_, by have := Nat.mod_le m (unitOf c); omega, by simp only [List.length_append, List.length_singleton]; omega⟩
  rw [h1, hd, hr, sp, if_pos hm]; simp
theorem SpAt.no {N k m : Nat} {xs : List Int} (h : SpAt N k m xs) {c : Int} {r : List Int} (hd : units.drop k = c :: r) (hr : units.drop (k + 1) = r) (hm : ¬ unitOf c ≤ m) : SpAt N (k + 1) m xs := by
  obtain ⟨h1, h2, h3⟩ := h
  refine ⟨?_, h2, by omega⟩
  rw [h1, hd, hr, sp, if_neg hm]
theorem SpAt.fin {N m : Nat} {xs : List Int} (h : SpAt N 5 m xs) : sp units N = xs := by
  rw [h.all]; simp [units, sp]
theorem span_empty {xs : List Int} (h : xs = []) : (strOfNums xs).toList = [] ∧ (strOfNums xs).toList.isEmpty = true := by
  subst h
  have e : (strOfNums []).toList = [] := by rw [ByteArray.toList_eq]; rfl
  exact ⟨e, by rw [e]; rfl⟩
theorem span_some {xs : List Int} (h : xs ≠ []) : ¬ (strOfNums xs).toList = [] ∧ (strOfNums xs).toList.isEmpty = false := by
  have hs : 0 < (strOfNums xs).size := by rw [strOfNums_size]; cases xs with | nil => exact (h rfl).elim | cons a l => simp
  have e : (strOfNums xs).toList = (strOfNums xs).data.toList := ByteArray.toList_eq _
  have hl : (strOfNums xs).data.toList.length = (strOfNums xs).size := by simp
  rw [e]
  cases hd : (strOfNums xs).data.toList with
  | nil => rw [hd] at hl; simp at hl; omega
  | cons a l => simp

end Go.Proofs.YthfmllgflnideaaGreatDoor

/-
  The document's own Read of spans, walked: piece by piece.
-/
namespace Go.Proofs.YthfmllgflnideaaGreatDoor
open Go.RowKit

/-- What reading a text comes to: a span, or why it is none. -/
def SpanOut (zs : List Int) (x c : Int) : Prop := ((∀ N, ¬ Tells zs N) ∧ x = 0 ∧ c = 5) ∨ ∃ N, Tells zs N ∧ ((253402300799 < N ∧ x = 0 ∧ c = 8) ∨ (N ≤ 253402300799 ∧ x = (N : Int) ∧ c = 0))
def GivesSpan (zs : List Int) (w : World) (e : Ending) (w' : World) : Prop := ∃ x c : Int, e = .returned (.tuple #[.int .i64 x, .int .i64 c]) ∧ SpanOut zs x c ∧ Below w.heap.size w w'
theorem SpanOut.unique {zs : List Int} {x c y d : Int} (h : SpanOut zs x c) (g : SpanOut zs y d) : x = y ∧ c = d := by
  rcases h with ⟨h, rfl, rfl⟩ | ⟨N, hN, h⟩ <;> rcases g with ⟨g, rfl, rfl⟩ | ⟨M, gM, g⟩
  · exact ⟨rfl, rfl⟩
  · exact (h M gM).elim
  · exact (g N hN).elim
  · obtain rfl := hN.unique gM
    rcases h with ⟨h, rfl, rfl⟩ | ⟨h, rfl, rfl⟩ <;> rcases g with ⟨g, rfl, rfl⟩ | ⟨g, rfl, rfl⟩
    · exact ⟨rfl, rfl⟩
    · omega
    · omega
    · exact ⟨rfl, rfl⟩
theorem GivesSpan.word {zs : List Int} {w w' : World} (h : ∀ N, ¬ Tells zs N) (hb : Below w.heap.size w w') : GivesSpan zs w (.returned (.tuple #[.int .i64 0, .int .i64 5])) w' := ⟨0, 5, rfl, Or.inl ⟨h, rfl, rfl⟩, hb⟩
theorem GivesSpan.far {zs : List Int} {w w' : World} {N : Nat} (h : Tells zs N) (hN : 253402300799 < N) (hb : Below w.heap.size w w') : GivesSpan zs w (.returned (.tuple #[.int .i64 0, .int .i64 8])) w' := ⟨0, 8, rfl, Or.inr ⟨N, h, Or.inl ⟨hN, rfl, rfl⟩⟩, hb⟩
theorem GivesSpan.fine {zs : List Int} {w w' : World} {N : Nat} {x : Int} (h : Tells zs N) (hN : N ≤ 253402300799) (hx : x = (N : Int)) (hb : Below w.heap.size w w') : GivesSpan zs w (.returned (.tuple #[.int .i64 x, .int .i64 0])) w' := ⟨x, 0, rfl, Or.inr ⟨N, h, Or.inr ⟨hN, hx, rfl⟩⟩, hb⟩

/-- What is known at the beginning of a piece. -/
structure RdS (zs : List Int) (i acc : Nat) (last sum : Int) (far : Bool) : Prop where
  run : runs St0 (zs.take i) = some ⟨acc, last.toNat, none⟩
  l0 : 1 ≤ last
  l1 : last ≤ 1000000
  s0 : 0 ≤ sum
  s1 : sum ≤ 253402300799
  near : far = false → sum = (acc : Int)
  over : far = true → 253402300799 < acc
theorem RdS.start (zs : List Int) : RdS zs 0 0 1000000 0 false := ⟨rfl, by decide, by decide, by decide, by decide, fun _ => rfl, fun e => by cases e⟩
/-- What is known within a piece's digits. -/
structure InS (zs : List Int) (i k acc : Nat) (last n : Int) (N : Nat) : Prop where
  run : runs St0 (zs.take k) = some ⟨acc, last.toNat, if k = i then none else some N⟩
  zero : k = i → N = 0
  n0 : 0 ≤ n
  n1 : n ≤ 2534023007999
  near : n ≤ 253402300799 → n = (N : Int)
  over : 253402300799 < n → 253402300799 < N
theorem InS.start {zs : List Int} {i acc : Nat} {last sum : Int} {far : Bool} (h : RdS zs i acc last sum far) : InS zs i i acc last 0 0 := ⟨by rw [if_pos rfl]; exact h.run, fun _ => rfl, by decide, by decide, fun _ => rfl, fun e => by omega⟩
theorem InS.state {zs : List Int} {i k acc : Nat} {last n : Int} {N : Nat} (h : InS zs i k acc last n N) (hk : k < zs.length) (hz : 48 ≤ zs.getD k 0 ∧ zs.getD k 0 ≤ 57) (hik : i ≤ k) :
    runs St0 (zs.take (k + 1)) = some ⟨acc, last.toNat, if k + 1 = i then none else some (10 * N + (zs.getD k 0 - 48).toNat)⟩ := by
  rw [runs_next hk h.run, stp_digit hz, if_neg (show ¬ k + 1 = i by omega)]
  by_cases e : k = i
  · rw [if_pos e, h.zero e]; rfl
  · rw [if_neg e]; rfl
theorem InS.small {zs : List Int} {i k acc : Nat} {last n z : Int} {N : Nat} (h : InS zs i k acc last n N) (hk : k < zs.length) (hik : i ≤ k) (hz : zs.getD k 0 = z) (z0 : 48 ≤ z) (z1 : z ≤ 57) (hn : n ≤ 253402300799) :
    InS zs i (k + 1) acc last (10 * n + z - 48) (10 * N + (z - 48).toNat) := by
  have hr := h.state hk (by rw [hz]; exact ⟨z0, z1⟩) hik
  rw [hz] at hr
  have e := h.near hn
  have := h.n0
  exact ⟨hr, fun e => by omega, by omega, by omega, fun _ => by omega, fun _ => by omega⟩
theorem InS.great {zs : List Int} {i k acc : Nat} {last n z : Int} {N : Nat} (h : InS zs i k acc last n N) (hk : k < zs.length) (hik : i ≤ k) (hz : zs.getD k 0 = z) (z0 : 48 ≤ z) (z1 : z ≤ 57) (hn : 253402300799 < n) :
    InS zs i (k + 1) acc last n (10 * N + (z - 48).toNat) := by
  have hr := h.state hk (by rw [hz]; exact ⟨z0, z1⟩) hik
  rw [hz] at hr
  have e := h.over hn
  exact ⟨hr, fun e => by omega, h.n0, h.n1, fun _ => by omega, fun _ => by omega⟩
/-- No digits: it is no text of a span. -/
theorem InS.bare {zs : List Int} {i acc : Nat} {last n z : Int} {N : Nat} (h : InS zs i i acc last n N) (hk : i < zs.length) (hz : zs.getD i 0 = z) (hd : ¬ (48 ≤ z ∧ z ≤ 57)) : ∀ M, ¬ Tells zs M := by
  have hr := h.run
  rw [if_pos rfl] at hr
  exact Tells.of_none (runs_dead hk hr (by rw [hz]; exact stp_bare hd))
theorem InS.open {zs : List Int} {i k acc : Nat} {last n : Int} {N : Nat} (h : InS zs i k acc last n N) (hik : ¬ k = i) (hk : k = zs.length) : ∀ M, ¬ Tells zs M := by
  intro M g
  have hr := h.run
  rw [if_neg hik, hk, List.take_length] at hr
  obtain ⟨_, l, g⟩ := g
  rw [hr] at g
  simp at g
theorem InS.wrong {zs : List Int} {i k acc : Nat} {last n z : Int} {N : Nat} (h : InS zs i k acc last n N) (hik : ¬ k = i) (hk : k < zs.length) (hz : zs.getD k 0 = z) (hd : ¬ (48 ≤ z ∧ z ≤ 57)) (hu : unitOf z = 0 ∨ last.toNat ≤ unitOf z) : ∀ M, ¬ Tells zs M := by
  have hr := h.run
  rw [if_neg hik] at hr
  exact Tells.of_none (runs_dead hk hr (by rw [hz]; exact stp_none hd hu))
theorem InS.unit {zs : List Int} {i k acc : Nat} {last n z : Int} {N : Nat} (h : InS zs i k acc last n N) (hik : ¬ k = i) (hk : k < zs.length) (hz : zs.getD k 0 = z) (hu : unitOf z ≠ 0) (hl : unitOf z < last.toNat) : runs St0 (zs.take (k + 1)) = some ⟨acc + N * unitOf z, unitOf z, none⟩ := by
  have hr := h.run
  rw [if_neg hik] at hr
  rw [runs_next hk hr, hz]
  exact stp_unit hu hl
theorem far_of {n q : Int} {N U : Nat} (hU : 1 ≤ U) (hq : (253402300799 : Int) / (U : Int) = q) (hn : q < n) (near : n ≤ 253402300799 → n = (N : Int)) (over : 253402300799 < n → 253402300799 < N) : 253402300799 < N * U := by
  have hN : q < (N : Int) := by
    by_cases h : n ≤ 253402300799
    · rw [← near h]; exact hn
    · have h1 := over (by omega)
      have h2 : q ≤ 253402300799 := by
        rw [← hq]
        exact Int.ediv_le_self _ (by decide)
      omega
  have h1 : (253402300799 : Int) < (U : Int) * (q + 1) := by
    rw [← hq]
    have h3 := Int.emod_lt_of_pos (253402300799 : Int) (show (0 : Int) < U by omega)
    have h4 := Int.mul_ediv_add_emod (253402300799 : Int) (U : Int)
    rw [Int.mul_add]; omega
  have h2 : (U : Int) * (q + 1) ≤ (U : Int) * N := Int.mul_le_mul_of_nonneg_left (by omega) (by omega)
  have h5 : ((N * U : Nat) : Int) = (U : Int) * N := by rw [Int.natCast_mul, Int.mul_comm]
  omega
theorem near_of {n q : Int} {U : Nat} (hU : 1 ≤ U) (hq : (253402300799 : Int) / (U : Int) = q) (hn : n ≤ q) (h0 : 0 ≤ n) : n ≤ 253402300799 ∧ 0 ≤ n * (U : Int) ∧ n * (U : Int) ≤ 253402300799 := by
  have h1 : q ≤ 253402300799 := by rw [← hq]; exact Int.ediv_le_self _ (by decide)
  have h2 : n * (U : Int) ≤ q * (U : Int) := Int.mul_le_mul_of_nonneg_right hn (by omega)
  have h3 : q * (U : Int) ≤ 253402300799 := by rw [← hq]; exact Int.ediv_mul_le _ (by omega)
  exact ⟨by omega, Int.mul_nonneg h0 (by omega), by omega⟩
/-- Behind a piece. -/
theorem RdS.beyond {zs : List Int} {i k acc : Nat} {last sum n q : Int} {far : Bool} {N U : Nat} (h : RdS zs i acc last sum far) (g : InS zs i k acc last n N) (hr : runs St0 (zs.take (k + 1)) = some ⟨acc + N * U, U, none⟩) (hU : 1 ≤ U) (hU1 : U ≤ 604800)
    (hq : (253402300799 : Int) / (U : Int) = q) (hn : q < n) : RdS zs (k + 1) (acc + N * U) (U : Int) sum true := by
  have := far_of hU hq hn g.near g.over
  exact ⟨hr, by omega, by omega, h.s0, h.s1, (fun e => by cases e), fun _ => by omega⟩
theorem RdS.spills {zs : List Int} {i k acc : Nat} {last sum n q : Int} {far : Bool} {N U : Nat} (h : RdS zs i acc last sum far) (g : InS zs i k acc last n N) (hr : runs St0 (zs.take (k + 1)) = some ⟨acc + N * U, U, none⟩) (hU : 1 ≤ U) (hU1 : U ≤ 604800)
    (hq : (253402300799 : Int) / (U : Int) = q) (hn : n ≤ q) (hs : 253402300799 < sum + n * (U : Int)) : RdS zs (k + 1) (acc + N * U) (U : Int) 0 true := by
  obtain ⟨h1, h2, h3⟩ := near_of hU hq hn g.n0
  have e := g.near h1
  refine ⟨hr, by omega, by omega, by decide, by decide, (fun e => by cases e), fun _ => ?_⟩
  have h5 : ((N * U : Nat) : Int) = n * (U : Int) := by rw [Int.natCast_mul, e]
  cases far with
  | false => have := h.near rfl; omega
  | true => have := h.over rfl; omega
theorem RdS.adds {zs : List Int} {i k acc : Nat} {last sum n q : Int} {far : Bool} {N U : Nat} (h : RdS zs i acc last sum far) (g : InS zs i k acc last n N) (hr : runs St0 (zs.take (k + 1)) = some ⟨acc + N * U, U, none⟩) (hU : 1 ≤ U) (hU1 : U ≤ 604800)
    (hq : (253402300799 : Int) / (U : Int) = q) (hn : n ≤ q) (hs : sum + n * (U : Int) ≤ 253402300799) : RdS zs (k + 1) (acc + N * U) (U : Int) (sum + n * (U : Int)) far := by
  obtain ⟨h1, h2, h3⟩ := near_of hU hq hn g.n0
  have e := g.near h1
  have h5 : ((N * U : Nat) : Int) = n * (U : Int) := by rw [Int.natCast_mul, e]
  refine ⟨hr, by omega, by omega, by have := h.s0; omega, hs, fun e => ?_, fun e => ?_⟩
  · have := h.near e; omega
  · have := h.over e; omega
theorem RdS.tells {zs : List Int} {acc : Nat} {last sum : Int} {far : Bool} (h : RdS zs zs.length acc last sum far) (hne : zs ≠ []) : Tells zs acc := by
  have hr := h.run
  rw [List.take_length] at hr
  exact ⟨hne, _, hr⟩

set_option maxRecDepth 100000 in
set_option maxHeartbeats 4000000 in
theorem rsread_all (s : ByteArray) (w : World) (hm : s.size ≤ 9223372036854775807) :
    Calls Tryz.prog 50 #[.string s] w (GivesSpan (nums s) w) := by
  have hlen : Hid ((nums s).length = s.size) := nums_length s
  go_enter Tryz.func50, Tryz.ntmps50
  go_wp2
  go_loopw [4, 5, 6, 7] (fun v4 v5 v6 v7 wr => ∃ (i acc : Nat) (last sum : Int) (far : Bool), i ≤ s.size ∧ v7 = .int .i64 i ∧ v6 = .int .i64 last ∧ v4 = .int .i64 sum ∧ v5 = .bool far ∧ RdS (nums s) i acc last sum far ∧ Below w.heap.size w wr) (fun _ _ _ v7 _ => s.size - (intOf v7).toNat)
  case atStart => exact ⟨0, 0, 1000000, 0, false, Nat.zero_le _, rfl, rfl, rfl, rfl, RdS.start _, Below.refl _ _⟩
  case round =>
    obtain ⟨i, acc, last, sum, far, hi, rfl, rfl, rfl, rfl, hR, hbel⟩ := hrel
    have HR := Lib.hid hR
    have l0 := hR.l0
    have l1 := hR.l1
    have s0 := hR.s0
    have s1 := hR.s1
    clear hR
    by_cases h1 : i < s.size
    · go_wp2
      go_loop [8, 9] (fun v8 v9 => ∃ (k N : Nat) (n : Int), i ≤ k ∧ k ≤ s.size ∧ v8 = .int .i64 k ∧ v9 = .int .i64 n ∧ InS (nums s) i k acc last n N) (fun v8 _ => s.size - (intOf v8).toNat)
      case atStart => exact ⟨i, 0, 0, Nat.le_refl _, hi, rfl, rfl, InS.start HR.out⟩
      case round =>
        obtain ⟨k, N, n, hik, hk, rfl, rfl, hI⟩ := hrel
        have HI := Lib.hid hI
        have n0 := hI.n0
        have n1 := hI.n1
        clear hI
        by_cases h2 : k < s.size
        · obtain ⟨z, hz, hzz⟩ : ∃ z, ((s[k]'h2).toNat : Int) = z ∧ Hid ((nums s).getD k 0 = z) := ⟨_, rfl, nums_at s k h2⟩
          have zb : 0 ≤ z ∧ z ≤ 255 := by rw [← hz]; have := (s[k]'h2).toNat_lt; omega
          obtain ⟨zb0, zb1⟩ := zb
          have hk2 : Hid (k < (nums s).length) := by unfold Hid; rw [hlen.out]; exact h2
          by_cases z0 : z < 48
          · have hd : ¬ (48 ≤ z ∧ z ≤ 57) := by omega
            by_cases hki : k = i
            · subst hki
              have hbad := Lib.hid (HI.out.bare hk2.out hzz.out hd)
              clear hd
              go_wp2_with (go_at_call 59; (with_reducible refine (runit_any z _ (by omega) (by omega)).mono ?_); rintro e w1 ⟨rfl, g⟩; rw [hU.out]; have hbel := below_step hbel g; clear g)
              go_ret2
              exact GivesSpan.word hbad.out hbel
            · have hkb : ((k : Int) == (i : Int)) = false := by simp; omega
              have hks : ((k : Int) == (s.size : Int)) = false := by simp; omega
              obtain ⟨U, hU0⟩ : ∃ U, unitOf z = U := ⟨_, rfl⟩
              have hU := Lib.hid hU0
              have hU9 : (U : Int) ≤ 604800 := by have := unitOf_le z; omega
              clear hU0
              by_cases u0 : U = 0
              · have hbad := Lib.hid (HI.out.wrong hki hk2.out hzz.out hd (Or.inl (by rw [hU.out]; exact u0)))
                have hub : ((U : Int) == 0) = true := by simp; omega
                clear hd hki u0
                go_wp2_with (go_at_call 59; (with_reducible refine (runit_any z _ (by omega) (by omega)).mono ?_); rintro e w1 ⟨rfl, g⟩; rw [hU.out]; have hbel := below_step hbel g; clear g)
                go_ret2
                exact GivesSpan.word hbad.out hbel
              · have hub : ((U : Int) == 0) = false := by simp; omega
                have u1 : 1 ≤ (U : Int) := by omega
                by_cases hl : last ≤ (U : Int)
                · have hbad := Lib.hid (HI.out.wrong hki hk2.out hzz.out hd (Or.inr (by rw [hU.out]; omega)))
                  clear hd hki u0
                  go_wp2_with (go_at_call 59; (with_reducible refine (runit_any z _ (by omega) (by omega)).mono ?_); rintro e w1 ⟨rfl, g⟩; rw [hU.out]; have hbel := below_step hbel g; clear g)
                  go_ret2
                  exact GivesSpan.word hbad.out hbel
                · have hlb : decide ((U : Int) ≥ last) = false := by simp; omega
                  have hrun := Lib.hid (show runs St0 ((nums s).take (k + 1)) = some ⟨acc + N * U, U, none⟩ by have h5 := HI.out.unit hki hk2.out hzz.out (by rw [hU.out]; exact u0) (by rw [hU.out]; omega); rw [hU.out] at h5; exact h5)
                  obtain ⟨q, hq⟩ : ∃ q, (253402300799 : Int) / (U : Int) = q := ⟨_, rfl⟩
                  have HQ := Lib.hid hq
                  have q0 : 0 ≤ q := by rw [← hq]; exact Int.ediv_nonneg (by decide) (by omega)
                  have q1 : q ≤ 253402300799 := by rw [← hq]; exact Int.ediv_le_self _ (by decide)
                  have hun : Hid (1 ≤ U ∧ U ≤ 604800) := ⟨by omega, by omega⟩
                  clear hd hki u0 hl
                  by_cases hn : q < n
                  · have hnext := Lib.hid (HR.out.beyond HI.out hrun.out hun.out.1 hun.out.2 HQ.out hn)
                    go_wp2_with (go_at_call 59; (with_reducible refine (runit_any z _ (by omega) (by omega)).mono ?_); rintro e w1 ⟨rfl, g⟩; rw [hU.out]; have hbel := below_step hbel g; clear g)
                    go_roundw
                    case rel => exact ⟨k + 1, _, (U : Int), sum, true, by omega, by go_num, rfl, rfl, rfl, hnext.out, hbel⟩
                    case measure => simp [intOf]; omega
                  · have hnq : n ≤ q := by omega
                    obtain ⟨p, hp⟩ : ∃ p, n * (U : Int) = p := ⟨_, rfl⟩
                    obtain ⟨_, p0, p1⟩ := near_of hun.out.1 HQ.out hnq n0
                    rw [hp] at p0 p1
                    clear hn
                    by_cases hs : 253402300799 < sum + p
                    · have hnext := Lib.hid (HR.out.spills HI.out hrun.out hun.out.1 hun.out.2 HQ.out hnq (by rw [hp]; exact hs))
                      go_wp2_with (go_at_call 59; (with_reducible refine (runit_any z _ (by omega) (by omega)).mono ?_); rintro e w1 ⟨rfl, g⟩; rw [hU.out]; have hbel := below_step hbel g; clear g)
                      go_roundw
                      case rel => exact ⟨k + 1, _, (U : Int), 0, true, by omega, by go_num, rfl, rfl, rfl, hnext.out, hbel⟩
                      case measure => simp [intOf]; omega
                    · have hnext := Lib.hid (HR.out.adds HI.out hrun.out hun.out.1 hun.out.2 HQ.out hnq (by rw [hp]; omega))
                      have hs2 : sum + p ≤ 253402300799 := by omega
                      clear hs
                      go_wp2_with (go_at_call 59; (with_reducible refine (runit_any z _ (by omega) (by omega)).mono ?_); rintro e w1 ⟨rfl, g⟩; rw [hU.out]; have hbel := below_step hbel g; clear g)
                      go_roundw
                      case rel => exact ⟨k + 1, _, (U : Int), sum + n * (U : Int), far, by omega, by go_num, rfl, by first | rfl | rw [hp], rfl, hnext.out, hbel⟩
                      case measure => simp [intOf]; omega
          · by_cases z1 : 57 < z
            · have hd : ¬ (48 ≤ z ∧ z ≤ 57) := by omega
              by_cases hki : k = i
              · subst hki
                have hbad := Lib.hid (HI.out.bare hk2.out hzz.out hd)
                clear hd
                go_wp2_with (go_at_call 59; (with_reducible refine (runit_any z _ (by omega) (by omega)).mono ?_); rintro e w1 ⟨rfl, g⟩; rw [hU.out]; have hbel := below_step hbel g; clear g)
                go_ret2
                exact GivesSpan.word hbad.out hbel
              · have hkb : ((k : Int) == (i : Int)) = false := by simp; omega
                have hks : ((k : Int) == (s.size : Int)) = false := by simp; omega
                obtain ⟨U, hU0⟩ : ∃ U, unitOf z = U := ⟨_, rfl⟩
                have hU := Lib.hid hU0
                have hU9 : (U : Int) ≤ 604800 := by have := unitOf_le z; omega
                clear hU0
                by_cases u0 : U = 0
                · have hbad := Lib.hid (HI.out.wrong hki hk2.out hzz.out hd (Or.inl (by rw [hU.out]; exact u0)))
                  have hub : ((U : Int) == 0) = true := by simp; omega
                  clear hd hki u0
                  go_wp2_with (go_at_call 59; (with_reducible refine (runit_any z _ (by omega) (by omega)).mono ?_); rintro e w1 ⟨rfl, g⟩; rw [hU.out]; have hbel := below_step hbel g; clear g)
                  go_ret2
                  exact GivesSpan.word hbad.out hbel
                · have hub : ((U : Int) == 0) = false := by simp; omega
                  have u1 : 1 ≤ (U : Int) := by omega
                  by_cases hl : last ≤ (U : Int)
                  · have hbad := Lib.hid (HI.out.wrong hki hk2.out hzz.out hd (Or.inr (by rw [hU.out]; omega)))
                    clear hd hki u0
                    go_wp2_with (go_at_call 59; (with_reducible refine (runit_any z _ (by omega) (by omega)).mono ?_); rintro e w1 ⟨rfl, g⟩; rw [hU.out]; have hbel := below_step hbel g; clear g)
                    go_ret2
                    exact GivesSpan.word hbad.out hbel
                  · have hlb : decide ((U : Int) ≥ last) = false := by simp; omega
                    have hrun := Lib.hid (show runs St0 ((nums s).take (k + 1)) = some ⟨acc + N * U, U, none⟩ by have h5 := HI.out.unit hki hk2.out hzz.out (by rw [hU.out]; exact u0) (by rw [hU.out]; omega); rw [hU.out] at h5; exact h5)
                    obtain ⟨q, hq⟩ : ∃ q, (253402300799 : Int) / (U : Int) = q := ⟨_, rfl⟩
                    have HQ := Lib.hid hq
                    have q0 : 0 ≤ q := by rw [← hq]; exact Int.ediv_nonneg (by decide) (by omega)
                    have q1 : q ≤ 253402300799 := by rw [← hq]; exact Int.ediv_le_self _ (by decide)
                    have hun : Hid (1 ≤ U ∧ U ≤ 604800) := ⟨by omega, by omega⟩
                    clear hd hki u0 hl
                    by_cases hn : q < n
                    · have hnext := Lib.hid (HR.out.beyond HI.out hrun.out hun.out.1 hun.out.2 HQ.out hn)
                      go_wp2_with (go_at_call 59; (with_reducible refine (runit_any z _ (by omega) (by omega)).mono ?_); rintro e w1 ⟨rfl, g⟩; rw [hU.out]; have hbel := below_step hbel g; clear g)
                      go_roundw
                      case rel => exact ⟨k + 1, _, (U : Int), sum, true, by omega, by go_num, rfl, rfl, rfl, hnext.out, hbel⟩
                      case measure => simp [intOf]; omega
                    · have hnq : n ≤ q := by omega
                      obtain ⟨p, hp⟩ : ∃ p, n * (U : Int) = p := ⟨_, rfl⟩
                      obtain ⟨_, p0, p1⟩ := near_of hun.out.1 HQ.out hnq n0
                      rw [hp] at p0 p1
                      clear hn
                      by_cases hs : 253402300799 < sum + p
                      · have hnext := Lib.hid (HR.out.spills HI.out hrun.out hun.out.1 hun.out.2 HQ.out hnq (by rw [hp]; exact hs))
                        go_wp2_with (go_at_call 59; (with_reducible refine (runit_any z _ (by omega) (by omega)).mono ?_); rintro e w1 ⟨rfl, g⟩; rw [hU.out]; have hbel := below_step hbel g; clear g)
                        go_roundw
                        case rel => exact ⟨k + 1, _, (U : Int), 0, true, by omega, by go_num, rfl, rfl, rfl, hnext.out, hbel⟩
                        case measure => simp [intOf]; omega
                      · have hnext := Lib.hid (HR.out.adds HI.out hrun.out hun.out.1 hun.out.2 HQ.out hnq (by rw [hp]; omega))
                        have hs2 : sum + p ≤ 253402300799 := by omega
                        clear hs
                        go_wp2_with (go_at_call 59; (with_reducible refine (runit_any z _ (by omega) (by omega)).mono ?_); rintro e w1 ⟨rfl, g⟩; rw [hU.out]; have hbel := below_step hbel g; clear g)
                        go_roundw
                        case rel => exact ⟨k + 1, _, (U : Int), sum + n * (U : Int), far, by omega, by go_num, rfl, by first | rfl | rw [hp], rfl, hnext.out, hbel⟩
                        case measure => simp [intOf]; omega
            · by_cases hn : n ≤ 253402300799
              · have hnx := Lib.hid (HI.out.small hk2.out hik hzz.out (by omega) (by omega) hn)
                go_wp2
                go_round
                case rel => exact ⟨k + 1, _, 10 * n + z - 48, by omega, by omega, by go_num, rfl, hnx.out⟩
                case measure => simp [intOf]; omega
              · have hn2 : 253402300799 < n := by omega
                have hnx := Lib.hid (HI.out.great hk2.out hik hzz.out (by omega) (by omega) hn2)
                clear hn
                go_wp2
                go_round
                case rel => exact ⟨k + 1, _, n, by omega, by omega, by go_num, rfl, hnx.out⟩
                case measure => simp [intOf]; omega
        · have hke : k = s.size := by omega
          have hki : ¬ k = i := by omega
          have hbad := Lib.hid (HI.out.open hki (by rw [hlen.out]; exact hke))
          have hkb : ((k : Int) == (i : Int)) = false := by simp; omega
          have hks : ((k : Int) == (s.size : Int)) = true := by simp; omega
          have hki2 : ¬ (k : Int) < (s.size : Int) := by omega
          clear hke hki
          go_wp2
          go_ret2
          exact GivesSpan.word hbad.out hbel
    · have hie : Hid (i = (nums s).length) := by unfold Hid; rw [hlen.out]; omega
      have hi2 : ¬ (i : Int) < (s.size : Int) := by omega
      by_cases hs0 : s.size = 0
      · have he : s.toList = [] ∧ s.toList.isEmpty = true := by
          have e : s.toList = [] := by
            rw [ByteArray.toList_eq]
            apply List.eq_nil_of_length_eq_zero
            simpa using hs0
          exact ⟨e, by rw [e]; rfl⟩
        obtain ⟨e1, e2⟩ := he
        have hbad : Hid (∀ N, ¬ Tells (nums s) N) := fun N g => g.1 (List.eq_nil_of_length_eq_zero (by rw [hlen.out]; exact hs0))
        clear hs0
        go_wp2
        go_ret2
        exact GivesSpan.word hbad.out hbel
      · have he : ¬ s.toList = [] ∧ s.toList.isEmpty = false := by
          rw [ByteArray.toList_eq]
          have hl : s.data.toList.length = s.size := by simp
          cases hd : s.data.toList with
          | nil => rw [hd] at hl; simp at hl; omega
          | cons a l => simp
        obtain ⟨e1, e2⟩ := he
        have hT : Hid (Tells (nums s) acc) := by
          have h5 := HR.out
          rw [hie.out] at h5
          exact h5.tells (fun e => by have h6 := hlen.out; rw [e] at h6; simp at h6; omega)
        have hnear := Lib.hid HR.out.near
        have hover := Lib.hid HR.out.over
        clear hs0
        cases far with
        | true =>
          have hN := Lib.hid (hover.out rfl)
          clear hnear hover
          go_wp2
          go_ret2
          exact GivesSpan.far hT.out hN.out hbel
        | false =>
          have hN := Lib.hid (hnear.out rfl)
          clear hnear hover
          go_wp2
          go_ret2
          exact GivesSpan.fine hT.out (by have h5 := hN.out; omega) hN.out hbel

end Go.Proofs.YthfmllgflnideaaGreatDoor
