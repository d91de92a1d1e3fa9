/-
  strconv.FormatInt at base 16, of numbers below 256, by their digits of sixteen.
-/
import Derived.Test.YtkhmaiggcihneaaDoorTxtS
import Derived.Test.YtkhmaiggcihneaaDoorEnv
import Derived.Deep.LoopGhost
namespace Go.Proofs.YtkhmaiggcihneaaDoor
open Go.RowKit

theorem tz64_sixteen (w : World) (env : Env w) : Calls Tryd.prog 58 #[.int .u64 16] w fun e w' => e = .returned (.int .i64 4) ∧ w = w' := by
  have h4 := env.deb.four
  have hx : IntKind.u64.wrap (bits .and .u64 16 (IntKind.u64.wrap (-16)) * 285870213051353865) / 288230376151711744 = 15 := by decide +kernel
  clear env
  go_enter Tryd.func58, Tryd.ntmps58
  go_wp2
  go_ret
  exact ⟨rfl, rfl⟩
theorem tz_sixteen (w : World) (env : Env w) : Calls Tryd.prog 55 #[.int .u64 16] w fun e w' => e = .returned (.int .i64 4) ∧ w = w' := by
  have H := Lib.hid (tz64_sixteen w env)
  clear env
  go_enter Tryd.func55, Tryd.ntmps55
  go_wp2_with (go_at_call 58; (with_reducible refine H.out.mono ?_); rintro e w1 ⟨rfl, rfl⟩)
  go_ret
  exact ⟨rfl, rfl⟩
theorem pow2_sixteen (w : World) : Calls Tryd.prog 54 #[.int .i64 16] w fun e w' => e = .returned (.bool true) ∧ w = w' := by
  go_enter Tryd.func54, Tryd.ntmps54
  go_wp2
  go_ret
  exact ⟨rfl, rfl⟩

/-- The digits so far, at the row's end. -/
structure HxM (w wr : World) (b f : Nat) (xs : List Int) : Prop where
  row : ∀ i, i < 65 → ∃ v, wr.cell? ⟨b, i, none⟩ = some v
  free : ∀ i, i < 65 → wr.frozen? ⟨b, i, none⟩ = false
  got : ∀ i, i < xs.length → wr.cell? ⟨b, f + i, none⟩ = some (.int .u8 (xs.getD i 0))
  bel : Below w.heap.size w wr
  new : w.heap.size ≤ b
theorem HxM.put {w W : World} {b f : Nat} {d : Int} {xs : List Int} (h : HxM w W b f xs) (hf : 0 < f) (hf' : f ≤ 65) (g : Nat) (hg : g = f - 1) : HxM w (W.setCell ⟨b, g, none⟩ (.int .u8 d)) b g (d :: xs) := by
  subst hg
  obtain ⟨row, free, got, bel, new⟩ := h
  obtain ⟨v, hv⟩ := row (f - 1) (by omega)
  refine ⟨?_, fun i hi => by rw [World.frozen?_setCell]; exact free i hi, ?_, bel.setCell new _, new⟩
  · intro i hi
    by_cases he : i = f - 1
    · subst he; exact ⟨_, World.cell?_setCell_same _ _ _ hv⟩
    · rw [World.cell?_setCell_other _ _ _ _ (by intro e; injection e with _ e2; omega)]; exact row i hi
  · intro i hi
    rcases i with _ | i
    · exact World.cell?_setCell_same _ _ _ hv
    · rw [World.cell?_setCell_other _ _ _ _ (by intro e; injection e with _ e2; omega), show f - 1 + (i + 1) = f + i by omega]
      simpa using got i (by simpa using hi)
theorem hx_slice (W : World) (b f n : Nat) (hf : n + f = 65) (h0 : f < 65) :
    (Instr.sliceAt 75 (.pointer (some ⟨b, 0, none⟩)) (some (.int .i64 (f : Int))) none none).run Tryd.prog W = .ok (.slice (some ⟨b, f, none⟩) n n) W := by
  have hl : Tryd.prog.arrayLen 75 = 65 := by kernel_rfl
  have := run_sliceAt_array_l (P := Tryd.prog) W 75 ⟨b, 0, none⟩ (by kernel_rfl) .i64 (f : Int) (by omega) (by rw [hl]; omega)
  rw [this, hl]
  have hs : (sizeOf (Tryd.prog.elem 75)).run Tryd.prog W = .ok 1 W := by kernel_rfl
  rw [hs]
  simp only [Result.andThen, slicedAt, Int.toNat_natCast, Nat.mul_one]
  rw [if_neg (by omega), show 65 - f = n by omega]
  rcases f with _ | f <;> simp [Addr.add]
theorem and15 : ∀ X : Fin 256, bits .and .u64 ((X.val : Nat) : Int) 15 = ((X.val % 16 : Nat) : Int) := by decide +kernel
theorem hx_digit (k : Nat) (h : k < 16) (W : World) : (Instr.index 9 (.string ⟨#[48, 49, 50, 51, 52, 53, 54, 55, 56, 57, 97, 98, 99, 100, 101, 102, 103, 104, 105, 106, 107, 108, 109, 110, 111, 112, 113, 114, 115, 116, 117, 118, 119, 120, 121, 122]⟩) (.int .u64 (k : Int))).run Tryd.prog W = .ok (.int .u8 (hexD k)) W := by
  have : k = 0 ∨ k = 1 ∨ k = 2 ∨ k = 3 ∨ k = 4 ∨ k = 5 ∨ k = 6 ∨ k = 7 ∨ k = 8 ∨ k = 9 ∨ k = 10 ∨ k = 11 ∨ k = 12 ∨ k = 13 ∨ k = 14 ∨ k = 15 := by omega
  rcases this with rfl | rfl | rfl | rfl | rfl | rfl | rfl | rfl | rfl | rfl | rfl | rfl | rfl | rfl | rfl | rfl <;> (show _ = _; kernel_rfl)

theorem cell_new_at' (W : World) (C : Array Value) (t : TypeId) (g j : Nat) (hg : g = W.heap.size) (hj : j < C.size) : ∃ v, (W.alloc (.cells C t)).cell? ⟨g, j, none⟩ = some v := by
  subst hg
  exact ⟨C[j], by rw [World.cell?_alloc_mark]; exact Array.getElem?_eq_getElem hj⟩
set_option maxRecDepth 100000 in
set_option maxHeartbeats 4000000 in
theorem fbits_any (N : Nat) (hN : N < 256) (w : World) (env : Env w) :
    Calls Tryd.prog 49 #[.slice none 0 0, .int .u64 (N : Int), .int .i64 16, .bool false, .bool false] w fun e w' => e = .returned (.tuple #[.slice none 0 0, .string (strOfNums (hexL N))]) ∧ Below w.heap.size w w' := by
  have HE := Lib.hid env
  have HP := Lib.hid (fun w => pow2_sixteen w)
  clear env
  go_enter Tryd.func49, Tryd.ntmps49
  go_wp2_with (first
    | (go_at_call 54; (with_reducible refine (HP.out _).mono ?_); rintro e w1 ⟨rfl, rfl⟩)
    | (go_at_call 55; (with_reducible refine (tz_sixteen _ (HE.out.step (below_more (Below.refl _ _) _))).mono ?_); rintro e w1 ⟨rfl, rfl⟩))
  obtain ⟨b, hb⟩ : ∃ b, w.heap.size = b := ⟨_, rfl⟩
  go_loopw [1, 13] (fun v1 v13 wr => ∃ (f m : Nat) (xs : List Int), v1 = .int .u64 (m : Int) ∧ v13 = .int .i64 (f : Int) ∧ hexL N = hexL m ++ xs ∧ xs.length + f = 65 ∧ ((f = 65 ∧ m < 256) ∨ (f = 64 ∧ m < 16)) ∧ HxM w wr b f xs) (fun v1 _ _ => (intOf v1).toNat)
  case atStart =>
    refine ⟨65, N, [], rfl, rfl, by simp, rfl, Or.inl ⟨rfl, hN⟩, ?_, ?_, ?_, ?_, by omega⟩
    · intro i hi; exact cell_new_at' _ _ _ _ _ hb.symm (by simpa using hi)
    · intro i hi; subst hb; simp [go_sem]
    · intro i hi; simp at hi
    · exact (Below.refl _ _).alloc (Nat.le_refl _) _
  case round =>
    obtain ⟨f, m, xs, rfl, rfl, hx, hl, hc, hM⟩ := hrel
    have HX := Lib.hid hx
    have HL := Lib.hid hl
    have HM := Lib.hid hM
    have hf0 : Hid (0 < f ∧ f ≤ 65) := by unfold Hid; omega
    obtain ⟨v, hv⟩ := hM.row (f - 1) (by omega)
    have hv' := hM.free (f - 1) (by omega)
    have hf1 : (f : Int) - 1 = ((f - 1 : Nat) : Int) := by omega
    obtain ⟨g, hg⟩ : ∃ g, f - 1 = g := ⟨_, rfl⟩
    rw [hg] at hv hv' hf1
    have HG := Lib.hid hg
    have hg65 : g < 65 := by omega
    have hm256 : m < 256 := by omega
    clear hx hl hM hg
    by_cases h16 : m < 16
    · clear hc
      have hd := hx_digit m h16
      have hlt : ¬ (m : Int) ≥ 16 := by omega
      have hn : (xs.length + 1) + g = 65 := by have := HL.out; have := HG.out; have := hf0.out; omega
      have hsl := fun W => hx_slice W b g (xs.length + 1) hn hg65
      have M1 := Lib.hid (HM.out.put (d := hexD m) hf0.out.1 hf0.out.2 g HG.out.symm)
      have hcv : (convert 35 9 (.slice (some ⟨b, g, none⟩) (xs.length + 1) (xs.length + 1))).run Tryd.prog (wr.setCell ⟨b, g, none⟩ (.int .u8 (hexD m))) = .ok (.string (strOfNums (hexD m :: xs))) (wr.setCell ⟨b, g, none⟩ (.int .u8 (hexD m))) :=
        run_convert_bytes_arg _ 35 5 Tryd.underlying35 Tryd.underlying5 _ _ _ _ (hexD m :: xs) rfl (fun i hi => M1.out.got i (by simpa using hi)) 9 Tryd.underlying9
      have hfin : Hid (strOfNums (hexD m :: xs) = strOfNums (hexL N)) := by unfold Hid; rw [HX.out, hexL_small h16]; rfl
      generalize strOfNums (hexD m :: xs) = R at hcv hfin
      clear hn
      go_wp2
      go_ret2
      exact ⟨by rw [← hfin.out]; rfl, by have := M1.out.bel; rw [hb] at this; exact this⟩
    · have hf65 : f = 65 := by omega
      obtain ⟨k, hk⟩ : ∃ k, m % 16 = k := ⟨_, rfl⟩
      obtain ⟨q, hq⟩ : ∃ q, m / 16 = q := ⟨_, rfl⟩
      have hd := hx_digit k (by omega)
      have ha : bits .and .u64 (m : Int) 15 = (k : Int) := by rw [← hk]; exact and15 ⟨m, hm256⟩
      have hge : (m : Int) ≥ 16 := by omega
      have hsh : Hid ((m : Int) / 16 = (q : Int)) := (by omega : (m : Int) / 16 = (q : Int))
      have M1 := Lib.hid (HM.out.put (d := hexD k) hf0.out.1 hf0.out.2 g HG.out.symm)
      have h16m : Hid (16 ≤ m) := (by omega : 16 ≤ m)
      have hq16 : Hid (q < 16) := (by omega : q < 16)
      have hqm : Hid (q < m) := (by omega : q < m)
      have h65 := Lib.hid hf65
      have HK := Lib.hid hk
      have HQ := Lib.hid hq
      clear h16 hf65 hc hk hq
      go_wp2
      go_roundw
      case rel =>
        refine ⟨g, q, hexD k :: xs, by rw [hsh.out], rfl, ?_, ?_, Or.inr ⟨?_, hq16.out⟩, M1.out⟩
        · rw [HX.out, hexL_big (by have := h16m.out; omega), List.append_assoc, HQ.out, HK.out]; rfl
        · have := HL.out; have := HG.out; have := hf0.out; rw [List.length_cons]; omega
        · have := h65.out; have := HG.out; omega
      case measure => simp [intOf]; have := h16m.out; omega

theorem fint16_any (N : Nat) (hN : N < 256) (w : World) (env : Env w) :
    Calls Tryd.prog 36 #[.int .i64 (N : Int), .int .i64 16] w fun e w' => e = .returned (.string (strOfNums (hexL N))) ∧ Below w.heap.size w w' := by
  have HI : Calls Tryd.prog 41 #[.int .i64 (N : Int), .int .i64 16] w fun e w' => e = .returned (.string (strOfNums (hexL N))) ∧ Below w.heap.size w w' := by
    have HF := Lib.hid (fbits_any N hN w env)
    have hw : IntKind.u64.wrap (N : Int) = (N : Int) := by rw [IntKind.wrap_u64]; omega
    have hlt : ¬ (N : Int) < 0 := by omega
    clear env
    generalize strOfNums (hexL N) = R at HF ⊢
    go_enter Tryd.func41, Tryd.ntmps41
    go_wp2_with (go_at_call 49; (with_reducible refine HF.out.mono ?_); rintro e w1 ⟨rfl, g⟩; have G := Lib.hid g; clear g)
    go_ret
    exact ⟨rfl, G.out⟩
  have HI := Lib.hid HI
  clear env
  generalize strOfNums (hexL N) = R at HI ⊢
  go_enter Tryd.func36, Tryd.ntmps36
  go_wp2_with (go_at_call 41; (with_reducible refine HI.out.mono ?_); rintro e w1 ⟨rfl, g⟩; have G := Lib.hid g; clear g)
  go_ret
  exact ⟨rfl, G.out⟩

end Go.Proofs.YtkhmaiggcihneaaDoor
