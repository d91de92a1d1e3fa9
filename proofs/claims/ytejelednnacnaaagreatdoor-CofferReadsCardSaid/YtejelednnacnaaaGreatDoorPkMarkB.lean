/-
  Writes and syncs where no fuse burns; all bytes of a disk; pieces of texts.
-/
import Derived.Test.YtejelednnacnaaaGreatDoorPkMarkA
namespace Go.Proofs.YtejelednnacnaaaGreatDoor
open Go.RowKit

theorem rw_str_ext (l : List Int) (hb : ∀ z ∈ l, 0 ≤ z ∧ z ≤ 255) (i j : Nat) : (strOfNums l).extract i j = strOfNums ((l.drop i).take (j - i)) := by
  have h1 : nums ((strOfNums l).extract i j) = ((nums (strOfNums l)).drop i).take (j - i) := by
    simp only [nums, ByteArray.data_extract, Array.toList_extract, List.extract_eq_take_drop, List.map_take, List.map_drop]
  rw [nums_strOfNums l hb] at h1
  rw [← h1, strOfNums_nums]
theorem rw_str_len (l : List Int) : (strOfNums l).size = l.length := by rw [← nums_length]; simp [nums, strOfNums]
/-- A region of a disk. -/
theorem reg_fit {D : Dsk} (h : D.Ok) {n size : Nat} (hn : NFd n size D) {f k : Nat} (on : f + k ≤ n) : f * size + k * size ≤ D.last.length := by
  rw [h.ll, hn.n, hn.size, ← Nat.add_mul]
  exact Nat.mul_le_mul_right _ on
theorem reg_most {D : Dsk} (h : D.Ok) {n size : Nat} (hn : NFd n size D) {f k : Nat} (on : f + k ≤ n) : k * size ≤ 204800 := by
  have q1 := h.n1
  have q2 := h.s1
  rw [hn.n] at q1
  rw [hn.size] at q2
  exact Nat.le_trans (Nat.mul_le_mul (by omega : k ≤ 400) q2) (Nat.le_refl _)
theorem laid_reg {D : Dsk} {lo M : Nat} {x : List Int} (hx : x.length = M) (hf : lo + M ≤ D.last.length) {D' : Dsk} (h : D'.last = layL D.last (lo, x)) : regnL lo M D'.last = x ∧ Beside lo M D.last D'.last := by
  subst hx
  rw [h]
  exact ⟨regn_laid hf, beside_laid hf⟩
/-- A write, where no fuse burns. -/
theorem bwrite_nf (base : Nat) (O : Foot) (r n size : Nat) (D : Dsk) (i : Nat) (v : Value) (b : List Int) (w : World) (h : DskIs w base O r D) (hn : NFd n size D) (hd : D.deeds ≤ 1000000) (hi : i < n) (hv : ArgB w v b) (hb : ∀ z ∈ b, 0 ≤ z ∧ z ≤ 255) (hl : b.length ≤ size) :
    Calls Tryz.prog 24 #[.pointer (some ⟨r, 0, none⟩), .int .i64 (i : Int), v] w fun e w' => ∃ D' O', e = .returned (.int .i64 0) ∧ NFd n size D' ∧ D'.deeds = D.deeds + 1 ∧ DskIs w' base O' r D' ∧ OnlyO base O w w' := by
  have q := h.ok.s1
  have qn := h.ok.n1
  rw [hn.size] at q
  rw [hn.n] at qn
  obtain ⟨q1, q2, q3⟩ := hn.write (i : Int) b (by omega) (by omega) hl
  refine (bwrite_any base O r D (i : Int) v b w h hd (by omega) (by omega) hv hb (by omega)).mono ?_
  rintro e w' ⟨rfl, O', d', o', _⟩
  exact ⟨_, O', by rw [q1], q2, q3, d', o'⟩
/-- A sync, where no fuse burns. -/
theorem bsync_nf (base : Nat) (O : Foot) (r n size : Nat) (D : Dsk) (w : World) (h : DskIs w base O r D) (hn : NFd n size D) (hd : D.deeds ≤ 1000000) :
    Calls Tryz.prog 7 #[.pointer (some ⟨r, 0, none⟩)] w fun e w' => ∃ D' O', e = .returned (.int .i64 0) ∧ NFd n size D' ∧ D'.waits = [] ∧ D'.deeds = D.deeds + 1 ∧ DskIs w' base O' r D' ∧ OnlyO base O w w' := by
  obtain ⟨q1, q2, q3, q4, _⟩ := hn.sync
  refine (bsync_any base O r D w h hd).mono ?_
  rintro e w' ⟨rfl, O', d', o', _⟩
  exact ⟨_, O', by rw [q1], q2, q3, q4, d', o'⟩
/-- All bytes of a disk on which nothing waits. -/
theorem all_nf (base : Nat) (O : Foot) (r : Nat) (D : Dsk) (w : World) (h : DskIs w base O r D) (hd : D.dark = false) (hw : D.waits = []) (hde : D.deeds ≤ 1000000) :
    Calls Tryz.prog 8 #[.pointer (some ⟨r, 0, none⟩)] w fun e w' => e = .returned (.string (strOfNums D.last)) ∧ Below w.heap.size w w' := by
  have := blkall_any base O r D w h hd hde
  rw [seen_none hw] at this
  exact this
/-- A piece of a text. -/
theorem slice_text (Z : List Int) (hb : ∀ z ∈ Z, 0 ≤ z ∧ z ≤ 255) (lo M : Nat) (zl zh : Int) (el : zl = (lo : Int)) (eh : zh = ((lo + M : Nat) : Int)) (hf : lo + M ≤ Z.length) (W : World) :
    (Instr.slice 9 (.string (strOfNums Z)) (some (.int .i64 zl)) (some (.int .i64 zh)) none).run Tryz.prog W = .ok (.string (strOfNums (regnL lo M Z))) W := by
  subst el eh
  rw [run_slice_string_if W 9 _ .i64 .i64 (lo : Int) ((lo + M : Nat) : Int) Tryz.underlying9, if_pos ⟨by omega, by rw [rw_str_len]; omega⟩, if_pos ⟨by omega, by omega⟩, rw_str_ext Z hb, Int.toNat_natCast, Int.toNat_natCast, Nat.add_sub_cancel_left]
  rfl
theorem slice_text_to (Z : List Int) (hb : ∀ z ∈ Z, 0 ≤ z ∧ z ≤ 255) (k : Nat) (zk : Int) (ek : zk = (k : Int)) (hf : k ≤ Z.length) (W : World) :
    (Instr.slice 9 (.string (strOfNums Z)) none (some (.int .i64 zk)) none).run Tryz.prog W = .ok (.string (strOfNums (Z.take k))) W := by
  subst ek
  rw [run_slice_string_to_if W 9 _ .i64 (k : Int) Tryz.underlying9, if_pos ⟨by omega, by rw [rw_str_len]; omega⟩, rw_str_ext Z hb, Int.toNat_natCast, Nat.sub_zero, List.drop_zero]
theorem slice_text_from (Z : List Int) (hb : ∀ z ∈ Z, 0 ≤ z ∧ z ≤ 255) (k : Nat) (zk : Int) (ek : zk = (k : Int)) (hf : k ≤ Z.length) (W : World) :
    (Instr.slice 9 (.string (strOfNums Z)) (some (.int .i64 zk)) none none).run Tryz.prog W = .ok (.string (strOfNums (Z.drop k))) W := by
  subst ek
  rw [run_slice_string_from_if W 9 _ .i64 (k : Int) Tryz.underlying9, if_pos ⟨by omega, by rw [rw_str_len]; omega⟩, rw_str_ext Z hb, Int.toNat_natCast, List.take_of_length_le (by rw [List.length_drop, rw_str_len]; exact Nat.le_refl _)]
/-- The front of a slice of bytes. -/
theorem slice_upto {w : World} {v : Value} {X : List Int} (h : ArgB w v X) (k : Nat) (hk : k ≤ X.length) :
    ∃ sv, (∀ W, (Instr.slice 22 v none (some (.int .i64 (k : Int))) none).run Tryz.prog W = .ok sv W) ∧ ArgB w sv (X.take k) := by
  have hs : ∀ W : World, (sizeOf (Tryz.prog.elem 22)).run Tryz.prog W = .ok 1 W := fun W => by kernel_rfl
  have run : ∀ (a : Option Addr) (cap : Nat), k ≤ cap → (∀ W, (Instr.slice 22 (.slice a X.length cap) none (some (.int .i64 (k : Int))) none).run Tryz.prog W = .ok (sliced a 0 k cap 1) W) := fun a cap hc W => by
    have := run_slice_h (P := Tryz.prog) W 22 a X.length cap (by kernel_rfl) .i64 (k : Int) (by omega) (by omega)
    rw [this, hs]
    simp only [Result.andThen, Int.toNat_natCast]
  rcases h with ⟨rfl, rfl⟩ | ⟨x, cap, rfl, hc, hcell⟩
  · obtain rfl : k = 0 := by simpa using hk
    exact ⟨_, run none 0 (Nat.le_refl _), Or.inl ⟨rfl, by simp⟩⟩
  · refine ⟨_, run (some x) cap (by omega), ?_⟩
    have hl : (X.take k).length = k := by rw [List.length_take]; omega
    have hx : (x.add (0 * 1)) = x := by rw [Nat.zero_mul]; cases x; simp [Addr.add]
    unfold sliced
    refine Or.inr ⟨x, cap - 0, ?_, by omega, fun i hi => ?_⟩
    · rw [hl]
      by_cases h0 : cap = 0
      · rw [if_pos h0]; rfl
      · rw [if_neg h0]; show Value.slice (some (x.add (0 * 1))) _ _ = _; rw [hx]; rfl
    · rw [hl] at hi
      rw [hcell i (by omega), List.getD_eq_getElem?_getD, List.getD_eq_getElem?_getD, List.getElem?_take_of_lt hi]

/-- What lies where other bytes lie, lies in their block. -/
theorem same_block {v xv : Value} {B x : List Int} (h : ∀ w0, ArgB w0 v B → ArgB w0 xv x) {w : World} (hv : ArgB w v B) (hx : x ≠ []) : xv.ownBlock = v.ownBlock := by
  rcases h w hv with ⟨_, e⟩ | ⟨a, cap, rfl, hc, hcell⟩
  · exact (hx e).elim
  · have h0 := hcell 0 (List.length_pos_iff.mpr hx)
    have hab : (a.add 0).block = a.block := by unfold Addr.add; split <;> rfl
    show some a.block = v.ownBlock
    by_cases hb : v.ownBlock = some a.block
    · exact hb.symm
    · exfalso
      have hv' : ArgB (w.setRow a.block #[]) v B := by
        rcases hv with hv | ⟨y, c, rfl, hyc, hycell⟩
        · exact Or.inl hv
        · refine Or.inr ⟨y, c, rfl, hyc, fun i hi => ?_⟩
          have hyb : (y.add i).block = y.block := by unfold Addr.add; split <;> rfl
          rw [World.cell?_of_block (setRow_other w a.block (y.add i).block #[] (by rw [hyb]; exact fun e => hb (by show some y.block = some a.block; rw [e])))]
          exact hycell i hi
      rcases h _ hv' with ⟨e, _⟩ | ⟨a', cap', e, _, hcell'⟩
      · cases e
      · simp only [Value.slice.injEq, Option.some.injEq] at e
        obtain ⟨rfl, _, _⟩ := e
        have h1 := hcell' 0 (List.length_pos_iff.mpr hx)
        have hsp := World.cell?_spot h0
        obtain ⟨cs, t, fr, hg⟩ : ∃ cs t fr, w.heap[a.block]? = some (.cells cs t fr) := by
          have h2 := h0
          rw [← hab] 
          unfold World.cell? at h2
          cases hh : w.heap[(a.add 0).block]? with
          | none => rw [hh] at h2; simp at h2
          | some ob =>
            cases ob with
            | cells cs t fr => exact ⟨cs, t, fr, rfl⟩
            | _ => rw [hh] at h2; simp at h2
        have hg2 := setRow_heap w a.block cs #[] t fr hg
        unfold World.cell? at h1
        rw [hab, hg2] at h1
        simp at h1
theorem slice_from_block {w : World} {v sv : Value} {B : List Int} (h : ArgB w v B) (k : Nat) (hk : k ≤ B.length) (hsv : ∀ W, (Instr.slice 22 v (some (.int .i64 (k : Int))) none none).run Tryz.prog W = .ok sv W) : sv.ownBlock = v.ownBlock := by
  have hs : ∀ W : World, (sizeOf (Tryz.prog.elem 22)).run Tryz.prog W = .ok 1 W := fun W => by kernel_rfl
  obtain ⟨a, cap, rfl⟩ := h.size
  have h1 := run_slice_l (P := Tryz.prog) w 22 a B.length cap (by kernel_rfl) .i64 (k : Int) (by omega) (by omega)
  rw [hsv w, hs] at h1
  simp only [Result.andThen, Int.toNat_natCast] at h1
  injection h1 with h1 _
  subst h1
  unfold sliced
  cases a with
  | none => split <;> rfl
  | some a =>
    split
    · rfl
    · show some (a.add (k * 1)).block = some a.block
      congr 1
      unfold Addr.add; split <;> rfl
/-- A text's bytes, in new memory. -/
theorem text_bytes (s : ByteArray) (w : World) : ∃ cap w1, (convert 9 22 (.string s)).run Tryz.prog w = .ok (.slice (some ⟨w.heap.size, 0, none⟩) s.size cap) w1 ∧ ArgB w1 (.slice (some ⟨w.heap.size, 0, none⟩) s.size cap) (nums s) ∧ Below w.heap.size w w1 ∧ w.heap.size < w1.heap.size := by
  refine ⟨grownCap w s.size 0 5, _, run_bytes_of_string (P := Tryz.prog) w 9 22 5 s Tryz.underlying9 Tryz.underlying22 Tryz.underlying5, ?_, ((Below.refl _ _).drew).alloc (Nat.le_refl _) _, by simp⟩
  refine Or.inr ⟨⟨w.heap.size, 0, none⟩, grownCap w s.size 0 5, by rw [nums_length], by rw [nums_length]; exact grownCap_ge w s.size 0 5, fun i hi => ?_⟩
  rw [nums_length] at hi
  have e2 : (⟨w.heap.size, 0, none⟩ : Addr).add i = ⟨w.drew.heap.size, i, none⟩ := by unfold Addr.add; split <;> simp_all
  rw [e2]
  have : (w.drew.alloc (.cells (bytesRow s (grownCap w s.size 0 5)) 5 ((bytesRow s (grownCap w s.size 0 5)).size, (bytesRow s (grownCap w s.size 0 5)).size + 1))).cell? ⟨w.drew.heap.size, i, none⟩ = _ := World.cell?_alloc_mark _ _ _ _ _
  refine Eq.trans this ?_
  rw [nums_at s i hi]
  unfold bytesRow
  rw [Array.getElem?_append_left (by simpa using hi)]
  simp [hi]
  rfl

end Go.Proofs.YtejelednnacnaaaGreatDoor
