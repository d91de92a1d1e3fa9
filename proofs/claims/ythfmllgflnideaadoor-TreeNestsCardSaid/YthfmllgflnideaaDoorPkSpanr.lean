/-
  The document's own answers for spans, walked: Unit, digits, Print.
-/
import Derived.Test.YthfmllgflnideaaDoorPkPlain
import Derived.WalkKit
import Derived.WalkSpells
import Derived.WalkLawsBesides
import Derived.WalkSmall
import Derived.Lib.Hide
import Derived.Lib.OthersKept
import Derived.Deep.LoopGhost
import Derived.Deep.RegionHeld3
import Derived.Laws.BytesArg
import Derived.Test.YthfmllgflnideaaDoorPkVrs
namespace Go.Proofs.YthfmllgflnideaaDoor
open Go.RowKit

/-- One letter, as a text. -/
theorem span_letter (W : World) (z : Int) (g : Nat) (hg : g = W.heap.size) :
    (convert 76 9 (.slice (some ⟨g, 0, none⟩) 1 1)).run Tryd.prog (W.alloc (.cells #[.int .u8 z] 5)) = .ok (.string (strOfNums [z])) (W.alloc (.cells #[.int .u8 z] 5)) := by
  subst hg
  exact run_convert_bytes_arg (W.alloc (.cells #[.int .u8 z] 5)) 76 5 Tryd.underlying76 Tryd.underlying5 _ _ 1 1 [z] rfl (fun i hi => by
    obtain rfl : i = 0 := by omega
    simp) 9 Tryd.underlying9

theorem unitOf_w : unitOf 119 = 604800 := rfl
/-- What is printed so far, and what is left. -/
theorem dec_pre {A : Nat} {xs : List Int} {a : Nat} (h : dec A = dec a ++ xs) (hA : W128 A) : xs.length ≤ 39 := by
  have h1 := dec_len hA
  rw [h, List.length_append] at h1
  omega
theorem dec_next {A a : Nat} {xs : List Int} (h : dec A = dec a ++ xs) (ha : ¬ a < 10) : dec A = dec (a / 10) ++ ((48 + ((a % 10 : Nat) : Int)) :: xs) := by
  rw [h, dec_big ha]; simp
theorem dec_done {A a : Nat} {xs : List Int} (h : dec A = dec a ++ xs) (ha : a < 10) : dec A = (48 + ((a % 10 : Nat) : Int)) :: xs := by
  rw [h, dec_small ha, Nat.mod_eq_of_lt ha]; rfl
/-- At the head of a round: a digits' number is left, or none. -/
def DecAt (A a : Nat) (xs : List Int) : Prop := (a = 0 ∧ dec A = xs) ∨ (1 ≤ a ∧ dec A = dec a ++ xs)
theorem DecAt.step {A a : Nat} {xs : List Int} (h : dec A = dec a ++ xs) : DecAt A (a / 10) ((48 + ((a % 10 : Nat) : Int)) :: xs) := by
  by_cases ha : a < 10
  · exact Or.inl ⟨by omega, dec_done h ha⟩
  · exact Or.inr ⟨by omega, dec_next h ha⟩
theorem DecAt.start (A : Nat) : DecAt A (A / 10) [48 + ((A % 10 : Nat) : Int)] := DecAt.step (xs := []) (by simp)
theorem DecAt.len {A a : Nat} {xs : List Int} (h : DecAt A a xs) (hA : W128 A) : xs.length ≤ 39 := by
  rcases h with ⟨_, h⟩ | ⟨_, h⟩
  · rw [← h]; exact dec_len hA
  · exact dec_pre h hA

/-- What is printed so far, and what is left. -/
structure SpAt (N k m : Nat) (xs : List Int) : Prop where
  all : sp units N = xs ++ sp (units.drop k) m
  le : m ≤ 253402300799
  len : xs.length ≤ 40 * k
theorem SpAt.start (N : Nat) (h : N ≤ 253402300799) : SpAt N 0 N [] := ⟨rfl, h, by simp⟩
theorem SpAt.yes {N k m : Nat} {xs : List Int} (h : SpAt N k m xs) {c : Int} {r : List Int} (hd : units.drop k = c :: r) (hr : units.drop (k + 1) = r) (hm : unitOf c ≤ m) : SpAt N (k + 1) (m % unitOf c) (xs ++ (dec (m / unitOf c) ++ [c])) := by
  obtain ⟨h1, h2, h3⟩ := h
  have h4 : (dec (m / unitOf c)).length ≤ 39 := dec_len (by have := Nat.div_le_self m (unitOf c); unfold W128; omega)
  refine ⟨?_, by have := Nat.mod_le m (unitOf c); omega, by simp only [List.length_append, List.length_singleton]; omega⟩
  rw [h1, hd, hr, sp, if_pos hm]; simp
theorem SpAt.no {N k m : Nat} {xs : List Int} (h : SpAt N k m xs) {c : Int} {r : List Int} (hd : units.drop k = c :: r) (hr : units.drop (k + 1) = r) (hm : ¬ unitOf c ≤ m) : SpAt N (k + 1) m xs := by
  obtain ⟨h1, h2, h3⟩ := h
  refine ⟨?_, h2, by omega⟩
  rw [h1, hd, hr, sp, if_neg hm]
theorem SpAt.fin {N m : Nat} {xs : List Int} (h : SpAt N 5 m xs) : sp units N = xs := by
  rw [h.all]; simp [units, sp]
theorem span_empty {xs : List Int} (h : xs = []) : (strOfNums xs).toList = [] ∧ (strOfNums xs).toList.isEmpty = true := by
  subst h
  have e : (strOfNums []).toList = [] := by rw [ByteArray.toList_eq]; rfl
  exact ⟨e, by rw [e]; rfl⟩
theorem span_some {xs : List Int} (h : xs ≠ []) : ¬ (strOfNums xs).toList = [] ∧ (strOfNums xs).toList.isEmpty = false := by
  have hs : 0 < (strOfNums xs).size := by rw [strOfNums_size]; cases xs with | nil => exact (h rfl).elim | cons a l => simp
  have e : (strOfNums xs).toList = (strOfNums xs).data.toList := ByteArray.toList_eq _
  have hl : (strOfNums xs).data.toList.length = (strOfNums xs).size := by simp
  rw [e]
  cases hd : (strOfNums xs).data.toList with
  | nil => rw [hd] at hl; simp at hl; omega
  | cons a l => simp

end Go.Proofs.YthfmllgflnideaaDoor

/-
  The document's own Read of spans, walked: piece by piece.
-/
namespace Go.Proofs.YthfmllgflnideaaDoor
open Go.RowKit

/-- What reading a text comes to: a span, or why it is none. -/
def SpanOut (zs : List Int) (x c : Int) : Prop := ((∀ N, ¬ Tells zs N) ∧ x = 0 ∧ c = 5) ∨ ∃ N, Tells zs N ∧ ((253402300799 < N ∧ x = 0 ∧ c = 8) ∨ (N ≤ 253402300799 ∧ x = (N : Int) ∧ c = 0))
def GivesSpan (zs : List Int) (w : World) (e : Ending) (w' : World) : Prop := ∃ x c : Int, e = .returned (.tuple #[.int .i64 x, .int .i64 c]) ∧ SpanOut zs x c ∧ Below w.heap.size w w'
theorem SpanOut.unique {zs : List Int} {x c y d : Int} (h : SpanOut zs x c) (g : SpanOut zs y d) : x = y ∧ c = d := by
  rcases h with ⟨h, rfl, rfl⟩ | ⟨N, hN, h⟩ <;> rcases g with ⟨g, rfl, rfl⟩ | ⟨M, gM, g⟩
  · exact ⟨rfl, rfl⟩
  · exact (h M gM).elim
  · exact (g N hN).elim
  · obtain rfl := hN.unique gM
    rcases h with ⟨h, rfl, rfl⟩ | ⟨h, rfl, rfl⟩ <;> rcases g with ⟨g, rfl, rfl⟩ | ⟨g, rfl, rfl⟩
    · exact ⟨rfl, rfl⟩
    · omega
    · omega
    · exact ⟨rfl, rfl⟩
theorem GivesSpan.word {zs : List Int} {w w' : World} (h : ∀ N, ¬ Tells zs N) (hb : Below w.heap.size w w') : GivesSpan zs w (.returned (.tuple #[.int .i64 0, .int .i64 5])) w' := ⟨0, 5, rfl, Or.inl ⟨h, rfl, rfl⟩, hb⟩
theorem GivesSpan.far {zs : List Int} {w w' : World} {N : Nat} (h : Tells zs N) (hN : 253402300799 < N) (hb : Below w.heap.size w w') : GivesSpan zs w (.returned (.tuple #[.int .i64 0, .int .i64 8])) w' := ⟨0, 8, rfl, Or.inr ⟨N, h, Or.inl ⟨hN, rfl, rfl⟩⟩, hb⟩
theorem GivesSpan.fine {zs : List Int} {w w' : World} {N : Nat} {x : Int} (h : Tells zs N) (hN : N ≤ 253402300799) (hx : x = (N : Int)) (hb : Below w.heap.size w w') : GivesSpan zs w (.returned (.tuple #[.int .i64 x, .int .i64 0])) w' := ⟨x, 0, rfl, Or.inr ⟨N, h, Or.inr ⟨hN, hx, rfl⟩⟩, hb⟩

/-- What is known at the beginning of a piece. -/
structure RdS (zs : List Int) (i acc : Nat) (last sum : Int) (far : Bool) : Prop where
  run : runs St0 (zs.take i) = some ⟨acc, last.toNat, none⟩
  l0 : 1 ≤ last
  l1 : last ≤ 1000000
  s0 : 0 ≤ sum
  s1 : sum ≤ 253402300799
  near : far = false → sum = (acc : Int)
  over : far = true → 253402300799 < acc
theorem RdS.start (zs : List Int) : RdS zs 0 0 1000000 0 false := ⟨rfl, by decide, by decide, by decide, by decide, fun _ => rfl, fun e => by cases e⟩
/-- What is known within a piece's digits. -/
structure InS (zs : List Int) (i k acc : Nat) (last n : Int) (N : Nat) : Prop where
  run : runs St0 (zs.take k) = some ⟨acc, last.toNat, if k = i then none else some N⟩
  zero : k = i → N = 0
  n0 : 0 ≤ n
  n1 : n ≤ 2534023007999
  near : n ≤ 253402300799 → n = (N : Int)
  over : 253402300799 < n → 253402300799 < N
theorem InS.start {zs : List Int} {i acc : Nat} {last sum : Int} {far : Bool} (h : RdS zs i acc last sum far) : InS zs i i acc last 0 0 := ⟨by rw [if_pos rfl]; exact h.run, fun _ => rfl, by decide, by decide, fun _ => rfl, fun e => by omega⟩
theorem InS.state {zs : List Int} {i k acc : Nat} {last n : Int} {N : Nat} (h : InS zs i k acc last n N) (hk : k < zs.length) (hz : 48 ≤ zs.getD k 0 ∧ zs.getD k 0 ≤ 57) (hik : i ≤ k) :
    runs St0 (zs.take (k + 1)) = some ⟨acc, last.toNat, if k + 1 = i then none else some (10 * N + (zs.getD k 0 - 48).toNat)⟩ := by
  rw [runs_next hk h.run, stp_digit hz, if_neg (show ¬ k + 1 = i by omega)]
  by_cases e : k = i
  · rw [if_pos e, h.zero e]; rfl
  · rw [if_neg e]; rfl
theorem InS.small {zs : List Int} {i k acc : Nat} {last n z : Int} {N : Nat} (h : InS zs i k acc last n N) (hk : k < zs.length) (hik : i ≤ k) (hz : zs.getD k 0 = z) (z0 : 48 ≤ z) (z1 : z ≤ 57) (hn : n ≤ 253402300799) :
    InS zs i (k + 1) acc last (10 * n + z - 48) (10 * N + (z - 48).toNat) := by
  have hr := h.state hk (by rw [hz]; exact ⟨z0, z1⟩) hik
  rw [hz] at hr
  have e := h.near hn
  have := h.n0
  exact ⟨hr, fun e => by omega, by omega, by omega, fun _ => by omega, fun _ => by omega⟩
theorem InS.great {zs : List Int} {i k acc : Nat} {last n z : Int} {N : Nat} (h : InS zs i k acc last n N) (hk : k < zs.length) (hik : i ≤ k) (hz : zs.getD k 0 = z) (z0 : 48 ≤ z) (z1 : z ≤ 57) (hn : 253402300799 < n) :
    InS zs i (k + 1) acc last n (10 * N + (z - 48).toNat) := by
  have hr := h.state hk (by rw [hz]; exact ⟨z0, z1⟩) hik
  rw [hz] at hr
  have e := h.over hn
  exact ⟨hr, fun e => by omega, h.n0, h.n1, fun _ => by omega, fun _ => by omega⟩
/-- No digits: it is no text of a span. -/
theorem InS.bare {zs : List Int} {i acc : Nat} {last n z : Int} {N : Nat} (h : InS zs i i acc last n N) (hk : i < zs.length) (hz : zs.getD i 0 = z) (hd : ¬ (48 ≤ z ∧ z ≤ 57)) : ∀ M, ¬ Tells zs M := by
  have hr := h.run
  rw [if_pos rfl] at hr
  exact Tells.of_none (runs_dead hk hr (by rw [hz]; exact stp_bare hd))
theorem InS.open {zs : List Int} {i k acc : Nat} {last n : Int} {N : Nat} (h : InS zs i k acc last n N) (hik : ¬ k = i) (hk : k = zs.length) : ∀ M, ¬ Tells zs M := by
  intro M g
  have hr := h.run
  rw [if_neg hik, hk, List.take_length] at hr
  obtain ⟨_, l, g⟩ := g
  rw [hr] at g
  simp at g
theorem InS.wrong {zs : List Int} {i k acc : Nat} {last n z : Int} {N : Nat} (h : InS zs i k acc last n N) (hik : ¬ k = i) (hk : k < zs.length) (hz : zs.getD k 0 = z) (hd : ¬ (48 ≤ z ∧ z ≤ 57)) (hu : unitOf z = 0 ∨ last.toNat ≤ unitOf z) : ∀ M, ¬ Tells zs M := by
  have hr := h.run
  rw [if_neg hik] at hr
  exact Tells.of_none (runs_dead hk hr (by rw [hz]; exact stp_none hd hu))
theorem InS.unit {zs : List Int} {i k acc : Nat} {last n z : Int} {N : Nat} (h : InS zs i k acc last n N) (hik : ¬ k = i) (hk : k < zs.length) (hz : zs.getD k 0 = z) (hu : unitOf z ≠ 0) (hl : unitOf z < last.toNat) : runs St0 (zs.take (k + 1)) = some ⟨acc + N * unitOf z, unitOf z, none⟩ := by
  have hr := h.run
  rw [if_neg hik] at hr
  rw [runs_next hk hr, hz]
  exact stp_unit hu hl
theorem far_of {n q : Int} {N U : Nat} (hU : 1 ≤ U) (hq : (253402300799 : Int) / (U : Int) = q) (hn : q < n) (near : n ≤ 253402300799 → n = (N : Int)) (over : 253402300799 < n → 253402300799 < N) : 253402300799 < N * U := by
  have hN : q < (N : Int) := by
    by_cases h : n ≤ 253402300799
    · rw [← near h]; exact hn
    · have h1 := over (by omega)
      have h2 : q ≤ 253402300799 := by
        rw [← hq]
        exact Int.ediv_le_self _ (by decide)
      omega
  have h1 : (253402300799 : Int) < (U : Int) * (q + 1) := by
    rw [← hq]
    have h3 := Int.emod_lt_of_pos (253402300799 : Int) (show (0 : Int) < U by omega)
    have h4 := Int.mul_ediv_add_emod (253402300799 : Int) (U : Int)
    rw [Int.mul_add]; omega
  have h2 : (U : Int) * (q + 1) ≤ (U : Int) * N := Int.mul_le_mul_of_nonneg_left (by omega) (by omega)
  have h5 : ((N * U : Nat) : Int) = (U : Int) * N := by rw [Int.natCast_mul, Int.mul_comm]
  omega
theorem near_of {n q : Int} {U : Nat} (hU : 1 ≤ U) (hq : (253402300799 : Int) / (U : Int) = q) (hn : n ≤ q) (h0 : 0 ≤ n) : n ≤ 253402300799 ∧ 0 ≤ n * (U : Int) ∧ n * (U : Int) ≤ 253402300799 := by
  have h1 : q ≤ 253402300799 := by rw [← hq]; exact Int.ediv_le_self _ (by decide)
  have h2 : n * (U : Int) ≤ q * (U : Int) := Int.mul_le_mul_of_nonneg_right hn (by omega)
  have h3 : q * (U : Int) ≤ 253402300799 := by rw [← hq]; exact Int.ediv_mul_le _ (by omega)
  exact ⟨by omega, Int.mul_nonneg h0 (by omega), by omega⟩
/-- Behind a piece. -/
theorem RdS.beyond {zs : List Int} {i k acc : Nat} {last sum n q : Int} {far : Bool} {N U : Nat} (h : RdS zs i acc last sum far) (g : InS zs i k acc last n N) (hr : runs St0 (zs.take (k + 1)) = some ⟨acc + N * U, U, none⟩) (hU : 1 ≤ U) (hU1 : U ≤ 604800)
    (hq : (253402300799 : Int) / (U : Int) = q) (hn : q < n) : RdS zs (k + 1) (acc + N * U) (U : Int) sum true := by
  have := far_of hU hq hn g.near g.over
  exact ⟨hr, by omega, by omega, h.s0, h.s1, (fun e => by cases e), fun _ => by omega⟩
theorem RdS.spills {zs : List Int} {i k acc : Nat} {last sum n q : Int} {far : Bool} {N U : Nat} (h : RdS zs i acc last sum far) (g : InS zs i k acc last n N) (hr : runs St0 (zs.take (k + 1)) = some ⟨acc + N * U, U, none⟩) (hU : 1 ≤ U) (hU1 : U ≤ 604800)
    (hq : (253402300799 : Int) / (U : Int) = q) (hn : n ≤ q) (hs : 253402300799 < sum + n * (U : Int)) : RdS zs (k + 1) (acc + N * U) (U : Int) 0 true := by
  obtain ⟨h1, h2, h3⟩ := near_of hU hq hn g.n0
  have e := g.near h1
  refine ⟨hr, by omega, by omega, by decide, by decide, (fun e => by cases e), fun _ => ?_⟩
  have h5 : ((N * U : Nat) : Int) = n * (U : Int) := by rw [Int.natCast_mul, e]
  cases far with
  | false => have := h.near rfl; omega
  | true => have := h.over rfl; omega
theorem RdS.adds {zs : List Int} {i k acc : Nat} {last sum n q : Int} {far : Bool} {N U : Nat} (h : RdS zs i acc last sum far) (g : InS zs i k acc last n N) (hr : runs St0 (zs.take (k + 1)) = some ⟨acc + N * U, U, none⟩) (hU : 1 ≤ U) (hU1 : U ≤ 604800)
    (hq : (253402300799 : Int) / (U : Int) = q) (hn : n ≤ q) (hs : sum + n * (U : Int) ≤ 253402300799) : RdS zs (k + 1) (acc + N * U) (U : Int) (sum + n * (U : Int)) far := by
  obtain ⟨h1, h2, h3⟩ := near_of hU hq hn g.n0
  have e := g.near h1
  have h5 : ((N * U : Nat) : Int) = n * (U : Int) := by rw [Int.natCast_mul, e]
  refine ⟨hr, by omega, by omega, by have := h.s0; omega, hs, fun e => ?_, fun e => ?_⟩
  · have := h.near e; omega
  · have := h.over e; omega
theorem RdS.tells {zs : List Int} {acc : Nat} {last sum : Int} {far : Bool} (h : RdS zs zs.length acc last sum far) (hne : zs ≠ []) : Tells zs acc := by
  have hr := h.run
  rw [List.take_length] at hr
  exact ⟨hne, _, hr⟩

end Go.Proofs.YthfmllgflnideaaDoor
