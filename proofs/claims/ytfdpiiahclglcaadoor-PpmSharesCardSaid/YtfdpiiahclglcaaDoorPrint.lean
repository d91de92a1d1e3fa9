/-
  Package exact, walked: Print: its decimal digits.
-/
import Derived.Test.YtfdpiiahclglcaaDoorExactC
import Derived.Test.YtfdpiiahclglcaaDoorDec
import Derived.Laws.BytesArg
namespace Go.Proofs.YtfdpiiahclglcaaDoor
open Go.RowKit

/-- What stands in the call's own memory: the number that is left, and the digits so far. -/
structure PMem (w wr : World) (f : Nat) (ah al : Int) (xs : List Int) : Prop where
  c0 : wr.cell? ⟨w.heap.size, 0, none⟩ = some (.int .u64 ah)
  c1 : wr.cell? ⟨w.heap.size, 1, none⟩ = some (.int .u64 al)
  f0 : wr.frozen? ⟨w.heap.size, 0, none⟩ = false
  f1 : wr.frozen? ⟨w.heap.size, 1, none⟩ = false
  row : ∀ i, i < 39 → ∃ v, wr.cell? ⟨w.heap.size + 1, i, none⟩ = some v
  free : ∀ i, i < 39 → wr.frozen? ⟨w.heap.size + 1, i, none⟩ = false
  got : ∀ i, i < xs.length → wr.cell? ⟨w.heap.size + 1, f + i, none⟩ = some (.int .u8 (xs.getD i 0))
  bel : Below w.heap.size w wr
  size : w.heap.size + 1 < wr.heap.size

theorem cell_new_at (W : World) (C : Array Value) (t : TypeId) (g j : Nat) (hg : g = W.heap.size) (hj : j < C.size) : ∃ v, (W.alloc (.cells C t)).cell? ⟨g, j, none⟩ = some v := by
  subst hg
  exact ⟨C[j], by rw [World.cell?_alloc_mark]; exact Array.getElem?_eq_getElem hj⟩
theorem PMem.after {w wr w1 : World} {f : Nat} {ah al : Int} {xs : List Int} (h : PMem w wr f ah al xs) (hb : Below wr.heap.size wr w1) : PMem w w1 f ah al xs := by
  obtain ⟨c0, c1, f0, f1, row, free, got, bel, size⟩ := h
  have hc : ∀ b o, b < wr.heap.size → w1.cell? ⟨b, o, none⟩ = wr.cell? ⟨b, o, none⟩ := fun b o h => hb.cell (p := ⟨b, o, none⟩) h
  have hf : ∀ b o, b < wr.heap.size → w1.frozen? ⟨b, o, none⟩ = wr.frozen? ⟨b, o, none⟩ := fun b o h => hb.frozen (p := ⟨b, o, none⟩) h
  have := hb.size
  exact ⟨by rw [hc _ _ (by omega), c0], by rw [hc _ _ (by omega), c1], by rw [hf _ _ (by omega), f0], by rw [hf _ _ (by omega), f1],
    fun i hi => by rw [hc _ _ (by omega)]; exact row i hi, fun i hi => by rw [hf _ _ (by omega)]; exact free i hi, fun i hi => by rw [hc _ _ (by omega)]; exact got i hi,
    bel.trans (hb.mono bel.size), by omega⟩

theorem PMem.put {w W : World} {f : Nat} {ah al d : Int} {xs : List Int} (h : PMem w W f ah al xs) (hf : 0 < f) (hf' : f ≤ 39) : PMem w (W.setCell ⟨w.heap.size + 1, f - 1, none⟩ (.int .u8 d)) (f - 1) ah al (d :: xs) := by
  obtain ⟨c0, c1, f0, f1, row, free, got, bel, size⟩ := h
  obtain ⟨v, hv⟩ := row (f - 1) (by omega)
  refine ⟨?_, ?_, by rw [World.frozen?_setCell]; exact f0, by rw [World.frozen?_setCell]; exact f1, ?_, fun i hi => by rw [World.frozen?_setCell]; exact free i hi, ?_, bel.setCell (by simp) _, by simpa using size⟩
  · rw [World.cell?_setCell_other _ _ _ _ (by simp)]; exact c0
  · rw [World.cell?_setCell_other _ _ _ _ (by simp)]; exact c1
  · intro i hi
    by_cases he : i = f - 1
    · subst he; exact ⟨_, World.cell?_setCell_same _ _ _ hv⟩
    · rw [World.cell?_setCell_other _ _ _ _ (by first | (simp; done) | (simp; omega))]; exact row i hi
  · intro i hi
    rcases i with _ | i
    · exact World.cell?_setCell_same _ _ _ hv
    · rw [World.cell?_setCell_other _ _ _ _ (by first | (simp; done) | (simp; omega)), show f - 1 + (i + 1) = f + i by omega]
      simpa using got i (by simpa using hi)
theorem PMem.move {w W : World} {f : Nat} {ah al h l : Int} {xs : List Int} (k : PMem w W f ah al xs) : PMem w ((W.setCell ⟨w.heap.size, 0, none⟩ (.int .u64 h)).setCell ⟨w.heap.size, 1, none⟩ (.int .u64 l)) f h l xs := by
  obtain ⟨c0, c1, f0, f1, row, free, got, bel, size⟩ := k
  have hc : ∀ i, ((W.setCell ⟨w.heap.size, 0, none⟩ (.int .u64 h)).setCell ⟨w.heap.size, 1, none⟩ (.int .u64 l)).cell? ⟨w.heap.size + 1, i, none⟩ = W.cell? ⟨w.heap.size + 1, i, none⟩ := fun i => by
    rw [World.cell?_setCell_other _ _ _ _ (by simp), World.cell?_setCell_other _ _ _ _ (by simp)]
  refine ⟨?_, ?_, by rw [World.frozen?_setCell, World.frozen?_setCell]; exact f0, by rw [World.frozen?_setCell, World.frozen?_setCell]; exact f1, ?_, fun i hi => by rw [World.frozen?_setCell, World.frozen?_setCell]; exact free i hi, ?_, (bel.setCell (by simp) _).setCell (by simp) _, by simpa using size⟩
  · rw [World.cell?_setCell_other _ _ _ _ (by simp)]; exact World.cell?_setCell_same _ _ _ c0
  · exact World.cell?_setCell_same _ _ _ (by rw [World.cell?_setCell_other _ _ _ _ (by simp)]; exact c1)
  · intro i hi; rw [hc]; exact row i hi
  · intro i hi; rw [hc]; exact got i hi
/-- The digits so far, as a string. -/
theorem conv_row {w W : World} {f : Nat} {ah al : Int} {xs : List Int} (h : PMem w W f ah al xs) (n : Nat) (hn : n = xs.length) :
    (convert 59 9 (.slice (some ⟨w.heap.size + 1, f, none⟩) n n)).run Tryd.prog W = .ok (.string (strOfNums xs)) W :=
  run_convert_bytes_arg W 59 5 Tryd.underlying59 Tryd.underlying5 _ _ _ _ xs hn.symm (fun i hi => h.got i (by omega)) 9 Tryd.underlying9
theorem arrayLen_digits : Tryd.prog.arrayLen 80 = 39 := by kernel_rfl
theorem slice_tail (W : World) (B f n : Nat) (z : Int) (hz : z = f) (hf : n + f = 39) (h0 : f < 39) :
    (Instr.sliceAt 80 (.pointer (some ⟨B, 0, none⟩)) (some (.int .i64 z)) none none).run Tryd.prog W = .ok (.slice (some ⟨B, f, none⟩) n n) W := by
  subst hz
  have := run_sliceAt_array_l (P := Tryd.prog) W 80 ⟨B, 0, none⟩ (by kernel_rfl) .i64 (f : Int) (by omega) (by rw [arrayLen_digits]; omega)
  rw [this, arrayLen_digits]
  have hs : (sizeOf (Tryd.prog.elem 80)).run Tryd.prog W = .ok 1 W := by kernel_rfl
  rw [hs]
  simp only [Result.andThen, slicedAt, Int.toNat_natCast, Nat.mul_one]
  rw [if_neg (by omega), show 39 - f = n by omega]
  rcases f with _ | f <;> simp [Addr.add]
theorem print_last {A a : Nat} {xs : List Int} {x : Int} (h : PrintAt A a xs) (ha : a < 10) (_h0 : 0 ≤ x) (hx : x.toNat = a % 10) : strOfNums ((48 + x) :: xs) = strOfNums (dec A) := by
  rw [h.last ha]
  have e : x = ((a % 10 : Nat) : Int) := by omega
  rw [e]
theorem print_next {A a : Nat} {xs : List Int} {x : Int} (h : PrintAt A a xs) (ha : ¬ a < 10) (h0 : 0 ≤ x) (hx : x.toNat = a % 10) : PrintAt A (a / 10) ((48 + x) :: xs) := by
  have e : x = ((a % 10 : Nat) : Int) := by omega
  rw [e]; exact h.next ha
theorem not_zero_of {a : Nat} (h1 : IsW 0 0 (a / 10)) (ha : ¬ a < 10) : False := by
  have h2 : IsW 0 0 (a / 10) := h1
  obtain ⟨_, _, _, _, e⟩ := h2
  omega
theorem ten {h l : Int} {a : Nat} (h1 : IsW h l (a / 10)) : IsW h l (a / 10) := h1
theorem floor_dig {x : Int} {a : Nat} (_h0 : 0 ≤ x) (h : x.toNat = a % 10) : x ≤ 9 := by
  omega
theorem zero_of {h l : Int} {a : Nat} (h1 : IsW h l (a / 10)) (ha : a < 10) : h = 0 ∧ l = 0 := by
  have e : a / 10 = 0 := by have : 10 = 10 := rfl; omega
  rw [e] at h1
  exact h1.unique IsW.zero

set_option maxRecDepth 100000 in
set_option maxHeartbeats 1000000 in
theorem print_any (h l : Int) (A : Nat) (w : World) (hA : IsW h l A) :
    Calls Tryd.prog 34 #[.agg #[.int .u64 h, .int .u64 l]] w fun e w' => e = .returned (.string (strOfNums (dec A))) ∧ Below w.heap.size w w' := by
  have HA := Lib.hid hA
  have HL := Lib.hid hA.lt
  go_enter Tryd.func34, Tryd.ntmps34
  go_wp2
  go_loopw [4, 5, 6, 7] (fun i _ _ _ wr => ∃ (f a : Nat) (ah al : Int) (xs : List Int), f ≤ 39 ∧ i = .int .i64 f ∧ Hid (xs.length + f = 39) ∧ IsW ah al a ∧ PrintAt A a xs ∧ PMem w wr f ah al xs) (fun i _ _ _ _ => (intOf i).toNat)
  case atStart =>
    refine ⟨39, A, h, l, [], by omega, rfl, Lib.hid rfl, hA, PrintAt.start A, ⟨by simp [go_sem], by simp [go_sem], by simp [go_sem], by simp [go_sem], ?_, ?_, ?_, ((Below.refl _ _).alloc (Nat.le_refl _) _).alloc (by simp) _, by simp⟩⟩
    · intro i hi; exact cell_new_at _ _ _ _ _ (by simp) (by simpa using hi)
    · intro i hi; simp [go_sem]
    · intro i hi; simp at hi
  case round =>
    obtain ⟨f, a, ah, al, xs, hf, rfl, hlen, hW, hP, hM⟩ := hrel
    have hroom := hP.room HL.out
    have hf0 : 0 < f := by have := hlen.out; omega
    obtain ⟨c0, c1, _, _, _, _, _, _, hsz⟩ := hM.after (Below.refl _ _)
    by_cases ha : a < 10
    · go_wp2_with (go_at_call 31; refine (floor_any ah al 10 a _ hW (by decide) (by decide)).mono ?_; rintro e w1 ⟨h', l', x, rfl, hW1, hx0, hx, hb⟩; have hM1 := hM.after hb; obtain ⟨d0, d1, e0, e1, row, free, _, _, hsz1⟩ := hM1; obtain ⟨v, hv⟩ := row (f - 1) (by omega); have hv' := free (f - 1) (by omega); clear row free; replace hx : x.toNat = a % 10 := hx; replace hW1 : IsW h' l' (a / 10) := hW1; have hx9 : x ≤ 9 := floor_dig hx0 hx; obtain ⟨rfl, rfl⟩ := zero_of hW1 ha; have hsl := fun W => slice_tail W (w.heap.size + 1) (f - 1) (xs.length + 1) (f - 1) (by omega) (by have := hlen.out; omega) (by omega); have hcv := conv_row (((hM.after hb).put (d := 48 + x) hf0 hf).after ((Below.refl _ _).alloc (Nat.le_refl _) (.cells #[.int .u64 0, .int .u64 0] 33))) (xs.length + 1) rfl; have hlast := Lib.hid (print_last hP ha hx0 hx); have hbel := (hM.after hb).bel)
      go_ret
      exact ⟨by rw [hlast.out]; rfl, (hbel.setCell (by simp) _).alloc (by simp; omega) _⟩
    · go_wp2_with (go_at_call 31; refine (floor_any ah al 10 a _ hW (by decide) (by decide)).mono ?_; rintro e w1 ⟨h', l', x, rfl, hW1, hx0, hx, hb⟩; have hM1 := hM.after hb; obtain ⟨d0, d1, e0, e1, row, free, _, _, hsz1⟩ := hM1; obtain ⟨v, hv⟩ := row (f - 1) (by omega); have hv' := free (f - 1) (by omega); clear row free; replace hx : x.toNat = a % 10 := hx; replace hW1 : IsW h' l' (a / 10) := hW1; have hx9 : x ≤ 9 := floor_dig hx0 hx; have HW1 := Lib.hid hW1; have HX := Lib.hid (print_next hP ha hx0 hx); have hsz2 : w.heap.size < w1.heap.size := (by omega))
      · have z1 : h' = 0 := by assumption
        have z2 : l' = 0 := by assumption
        have hw := HW1.out
        rw [z1, z2] at hw
        exact (not_zero_of hw ha).elim
      · have z1 : h' = 0 := by assumption
        have hw := HW1.out
        rw [z1] at hw
        have hm := (((hM.after hb).put (d := 48 + x) hf0 hf).move (h := 0) (l := l')).after ((Below.refl _ _).alloc (Nat.le_refl _) (.cells #[.int .u64 0, .int .u64 l'] 33))
        go_roundw
        case rel => exact ⟨f - 1, a / 10, 0, l', _, by omega, by rw [show ((f - 1 : Nat) : Int) = (f : Int) - 1 by omega], Lib.hid (by have := hlen.out; simp only [List.length_cons]; omega), hw, HX.out, hm⟩
        case measure => simp [intOf]; omega
      · have hm := (((hM.after hb).put (d := 48 + x) hf0 hf).move (h := h') (l := l')).after ((Below.refl _ _).alloc (Nat.le_refl _) (.cells #[.int .u64 h', .int .u64 l'] 33))
        go_roundw
        case rel => exact ⟨f - 1, a / 10, h', l', _, by omega, by rw [show ((f - 1 : Nat) : Int) = (f : Int) - 1 by omega], Lib.hid (by have := hlen.out; simp only [List.length_cons]; omega), HW1.out, HX.out, hm⟩
        case measure => simp [intOf]; omega
end Go.Proofs.YtfdpiiahclglcaaDoor
