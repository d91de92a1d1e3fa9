/-
  Package exact, walked: whether a text is digits as Print writes them.
-/
import Derived.Test.YtfdpiiahclglcaaDoorRead
import Derived.Test.YtfdpiiahclglcaaDoorExactD
import Derived.Lib.OthersKept
namespace Go.Proofs.YtfdpiiahclglcaaDoor
open Go.RowKit

/-- What the next letter of a text is told to be. -/
theorem next_rune (w : World) (k : Nat) (s : ByteArray) (pos : Nat) (hk : w.heap[k]? = some (.stringIter s pos)) (h : pos < s.size) :
    ∃ (z : Int) (p : Nat), (∀ ty, (Instr.next (.pointer (some ⟨k, 0, none⟩)) true ty).run Tryd.prog w = .ok (.tuple #[.bool true, .int .i64 pos, .int .i32 z]) (w.iterAt k s p)) ∧ 0 ≤ z ∧ z ≤ 2147483647 ∧
      (48 ≤ z ∧ z ≤ 57 → p = pos + 1 ∧ (nums s).getD pos 0 = z) ∧ (¬ (48 ≤ z ∧ z ≤ 57) → ¬ (48 ≤ (nums s).getD pos 0 ∧ (nums s).getD pos 0 ≤ 57)) := by
  rw [nums_at s pos h]
  by_cases ha : s[pos].toNat < 128
  · refine ⟨(s[pos].toNat : Int), pos + 1, fun ty => Lib.run_next_ascii_at w k s pos ty hk h ha, by omega, by omega, fun _ => ⟨rfl, rfl⟩, fun hn => hn⟩
  · have hd := decode_high s pos h (by omega)
    have hl := decode_le s pos
    exact ⟨_, _, fun ty => Lib.run_next_any_at w k s pos ty hk h, by omega, by omega, fun hc => by omega, fun _ hc => by omega⟩

theorem toList_empty {s : ByteArray} (h : 0 < s.size) : s.toList.isEmpty = false ∧ ¬ s.toList = [] := by
  have e : s.toList = s.data.toList := ByteArray.toList_eq s
  have hl : s.data.toList.length = s.size := by simp
  rw [e]
  cases hd : s.data.toList with
  | nil => rw [hd] at hl; simp at hl; omega
  | cons a l => simp
theorem toList_other {s : ByteArray} (h : ¬ s.size = 1) : (s.toList == [48]) = false := by
  have e : s.toList = s.data.toList := ByteArray.toList_eq s
  have hl : s.data.toList.length = s.size := by simp
  rw [e]
  cases hq : (s.data.toList == [48]) with
  | false => rfl
  | true => have : s.data.toList = [48] := by simpa using hq
            rw [this] at hl; simp at hl; omega
theorem toList_nought {s : ByteArray} (h : s.size = 1) (h0 : (nums s).getD 0 0 = 48) : s = ⟨#[48]⟩ := by
  have hn : (nums s).length = 1 := by rw [nums_length, h]
  have : nums s = [48] := by
    cases hx : nums s with
    | nil => rw [hx] at hn; simp at hn
    | cons a l =>
      rw [hx] at hn h0
      have : l = [] := by cases l with | nil => rfl | cons b m => simp at hn
      subst this
      simp at h0; rw [h0]
  have hs := strOfNums_nums s
  rw [this] at hs
  rw [← hs]; rfl

/-- What printed hands back. -/
def GivesB (P : Prop) (w : World) (e : Ending) (w' : World) : Prop := ∃ b : Bool, e = .returned (.bool b) ∧ (b = true ↔ P) ∧ Below w.heap.size w w'

theorem iter_at (w : World) (s : ByteArray) (p q : Nat) : (w.iter s p).iterAt w.heap.size s q = w.iter s q := World.iter_set w s p q
theorem iter_below (w : World) (s : ByteArray) (p : Nat) : Below w.heap.size w (w.iter s p) := (Below.refl _ _).alloc (Nat.le_refl _) _

set_option maxRecDepth 100000 in
set_option maxHeartbeats 1000000 in
/-- A text that isn't empty, and has no nought ahead of other letters. -/
theorem printed_loop (s : ByteArray) (w : World) (hm : s.size ≤ 9223372036854775807) (h0 : 0 < s.size) (hh : (s[0].toNat : Int) = 48 → False) :
    Calls Tryd.prog 41 #[.string s] w (GivesB (Dg (nums s)) w) := by
  obtain ⟨e1, e2⟩ := toList_empty h0
  have hne : nums s ≠ [] := fun e => by have := nums_length s; rw [e] at this; simp at this; omega
  have hhead : (nums s).getD 0 0 = 48 → (nums s).length = 1 := fun e => (hh (by rw [← nums_at s 0 h0]; exact e)).elim
  have hz : ((s[0].toNat : Int) == 48) = false := by
    cases hq : ((s[0].toNat : Int) == 48) with
    | false => rfl
    | true => exact (hh (by simpa using hq)).elim
  replace hne := Lib.hid hne
  replace hhead := Lib.hid hhead
  clear hh
  go_enter Tryd.func41, Tryd.ntmps41
  go_wp2
  go_loopw [4] (fun _ w' => ∃ pos : Nat, pos ≤ s.size ∧ w' = w.iter s pos ∧ Hid (∀ i, i < pos → 48 ≤ (nums s).getD i 0 ∧ (nums s).getD i 0 ≤ 57)) (fun _ w' => s.size - w'.iterPos w.heap.size)
  case atStart => exact ⟨0, Nat.zero_le _, rfl, Lib.hid (fun i hi => by omega)⟩
  case round =>
    obtain ⟨pos, hp, rfl, hall⟩ := hrel
    by_cases h1 : pos < s.size
    · obtain ⟨z, p, hnx, z0, z1, hyes, hno⟩ := next_rune (w.iter s pos) w.heap.size s pos (World.iter_heap w s pos) h1
      simp only [iter_at] at hnx
      replace hyes := Lib.hid hyes
      replace hno := Lib.hid hno
      by_cases h2 : z < 48
      · have hbad := Lib.hid (fun hd : Dg (nums s) => hno.out (by omega) (hd.all pos (by rw [nums_length]; exact h1)))
        go_wp2
        go_ret
        exact ⟨false, rfl, ⟨fun e => (Bool.noConfusion e), fun hd => (hbad.out hd).elim⟩, iter_below _ _ _⟩
      · by_cases h3 : 57 < z
        · have hbad := Lib.hid (fun hd : Dg (nums s) => hno.out (by omega) (hd.all pos (by rw [nums_length]; exact h1)))
          go_wp2
          go_ret
          exact ⟨false, rfl, ⟨fun e => (Bool.noConfusion e), fun hd => (hbad.out hd).elim⟩, iter_below _ _ _⟩
        · obtain ⟨rfl, hz2⟩ := hyes.out ⟨by omega, by omega⟩
          have hall' : Hid (∀ i, i < pos + 1 → 48 ≤ (nums s).getD i 0 ∧ (nums s).getD i 0 ≤ 57) := by
            intro i hi
            by_cases e : i = pos
            · rw [e, hz2]; exact ⟨by omega, by omega⟩
            · exact hall.out i (by omega)
          replace hz2 := Lib.hid hz2
          go_wp2
          go_roundw
          case rel => exact ⟨pos + 1, by omega, rfl, hall'.out⟩
          case measure => simp; omega
    · have hnx : ∀ ty, (Instr.next (.pointer (some ⟨w.heap.size, 0, none⟩)) true ty).run Tryd.prog (w.iter s pos) = _ := fun ty => run_next_end w s pos ty h1
      go_wp2
      go_ret
      exact ⟨true, rfl, ⟨fun _ => ⟨hne.out, hhead.out, fun i hi => hall.out i (by rw [nums_length] at hi; omega)⟩, fun _ => rfl⟩, iter_below _ _ _⟩

set_option maxRecDepth 100000 in
theorem printed_empty (w : World) : Calls Tryd.prog 41 #[.string ⟨#[]⟩] w fun e w' => e = .returned (.bool false) ∧ w = w' := by
  go_enter Tryd.func41, Tryd.ntmps41
  go_wp2
  go_ret
  exact ⟨rfl, rfl⟩
set_option maxRecDepth 100000 in
theorem printed_nought (w : World) : Calls Tryd.prog 41 #[.string ⟨#[48]⟩] w fun e w' => e = .returned (.bool true) ∧ Below w.heap.size w w' := by
  have h1 : ∀ ty, (Instr.next (.pointer (some ⟨w.heap.size, 0, none⟩)) true ty).run Tryd.prog (w.iter ⟨#[48]⟩ 0) = .ok (.tuple #[.bool true, .int .i64 0, .int .i32 48]) (w.iter ⟨#[48]⟩ 1) := fun ty => run_next_ascii w ⟨#[48]⟩ 0 ty (by decide) (by decide)
  have h2 : ∀ ty, (Instr.next (.pointer (some ⟨w.heap.size, 0, none⟩)) true ty).run Tryd.prog (w.iter ⟨#[48]⟩ 1) = .ok (.tuple #[.bool false]) (w.iter ⟨#[48]⟩ 1) := fun ty => run_next_end w ⟨#[48]⟩ 1 ty (by decide)
  go_enter Tryd.func41, Tryd.ntmps41
  go_wp2
  go_loopw [4] (fun _ w' => ∃ pos : Nat, pos ≤ 1 ∧ w' = w.iter ⟨#[48]⟩ pos) (fun _ w' => 1 - w'.iterPos w.heap.size)
  case atStart => exact ⟨0, by omega, rfl⟩
  case round =>
    obtain ⟨pos, hp, rfl⟩ := hrel
    by_cases hz : pos = 0
    · subst hz
      go_wp2
      go_roundw
      case rel => exact ⟨1, by omega, rfl⟩
      case measure => simp
    · obtain rfl : pos = 1 := by omega
      go_wp2
      go_ret
      exact ⟨rfl, iter_below _ _ _⟩
set_option maxRecDepth 100000 in
theorem printed_ahead (s : ByteArray) (w : World) (h0 : 1 < s.size) (hh : (s[0].toNat : Int) = 48) :
    Calls Tryd.prog 41 #[.string s] w fun e w' => e = .returned (.bool false) ∧ w = w' := by
  obtain ⟨e1, e2⟩ := toList_empty (s := s) (by omega)
  have e3 := toList_other (s := s) (by omega)
  have h1 : 0 < s.size := by omega
  go_enter Tryd.func41, Tryd.ntmps41
  go_wp2
  go_ret
  exact ⟨rfl, rfl⟩

theorem printed_any (s : ByteArray) (w : World) (hm : s.size ≤ 9223372036854775807) : Calls Tryd.prog 41 #[.string s] w (GivesB (Dg (nums s)) w) := by
  by_cases h0 : s.size = 0
  · have hs : s = ⟨#[]⟩ := by
      have hn : nums s = [] := List.eq_nil_of_length_eq_zero (by rw [nums_length, h0])
      rw [← strOfNums_nums s, hn]; rfl
    subst hs
    exact (printed_empty w).mono fun _ _ ⟨he, hw⟩ => ⟨false, he, ⟨fun e => Bool.noConfusion e, fun hd => (hd.some rfl).elim⟩, hw ▸ Below.refl _ _⟩
  · have hp : 0 < s.size := by omega
    by_cases hh : (s[0].toNat : Int) = 48
    · by_cases h1 : s.size = 1
      · obtain rfl := toList_nought h1 (by rw [nums_at s 0 hp]; exact hh)
        refine (printed_nought w).mono fun _ _ ⟨he, hb⟩ => ⟨true, he, ⟨fun _ => ?_, fun _ => rfl⟩, hb⟩
        refine ⟨by decide, fun _ => rfl, fun i hi => ?_⟩
        obtain rfl : i = 0 := by simp [nums] at hi; omega
        decide
      · refine (printed_ahead s w (by omega) hh).mono fun _ _ ⟨he, hw⟩ => ⟨false, he, ⟨fun e => Bool.noConfusion e, fun hd => ?_⟩, hw ▸ Below.refl _ _⟩
        have := hd.head (by rw [nums_at s 0 hp]; exact hh)
        rw [nums_length] at this; omega
    · exact printed_loop s w hm hp hh
end Go.Proofs.YtfdpiiahclglcaaDoor
